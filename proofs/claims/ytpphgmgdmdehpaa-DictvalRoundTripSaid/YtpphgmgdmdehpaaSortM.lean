/- slices.Sort of words: what pdqsort's loop keeps, without a program. -/
import Derived.Test.YtpphgmgdmdehpaaSortJ
import Derived.Test.YtpphgmgdmdehpaaSortK
set_option linter.unusedVariables false
namespace Go.Proofs.Ytpphgmgdmdehpaa
open Go Go.RowKit

theorem swo_ltU : Sort.SWO ltU := ⟨fun x => by simp [ltU], fun x y z h1 h2 => by simp [ltU] at *; omega, fun x y z h1 h2 => by simp [ltU] at *; omega⟩
/-- [a', b') is what is left of [a, b): once it is sorted, all is. -/
structure PQ (a b : Nat) (d : Array Nat) (a' b' : Nat) (x : Array Nat) : Prop where
  h1 : a ≤ a'
  h2 : a' ≤ b'
  h3 : b' ≤ b
  sz : b ≤ x.size
  below : Sort.Below ltU a' b' x
  glue : ∀ R, Sort.PermIn a' b' x R → Sort.SortedIn ltU a' b' R → Sort.PermIn a b d R ∧ Sort.SortedIn ltU a b R
section
variable {w wr : World} {g n c a b a' b' m q : Nat} {d x y z : Array Nat}
theorem PQ.start (hab : a ≤ b) (hb : b ≤ d.size) (h : Sort.Below ltU a b d) : PQ a b d a b d := ⟨Nat.le_refl _, hab, Nat.le_refl _, hb, h, fun R h1 h2 => ⟨h1, h2⟩⟩
theorem PQ.perm (h : PQ a b d a' b' x) (hp : Sort.PermIn a' b' x y) : PQ a b d a' b' y :=
  ⟨h.h1, h.h2, h.h3, by rw [hp.1]; exact h.sz, h.below.perm (by have := h.sz; have := h.h3; omega) hp, fun R h1 h2 => h.glue R (Sort.permIn_trans _ _ _ _ _ hp h1) h2⟩
theorem PQ.equal (h : PQ a b d a' b' x) (hq : a' ≤ q) (hqb : q < b') (h0 : 0 < a') (hl : ltU x[a' - 1]! x[q]! = false) (hp : PartedE w wr g n c a' b' x y m x[q]!) : PQ a b d m b' y := by
  have hs := h.sz; have h3 := h.h3; have hm1 := hp.b1; have hm2 := hp.b2
  have hsy : y.size = x.size := hp.perm.1
  generalize hv : x[q]! = v at *
  have hall : ∀ i, a' ≤ i → i < b' → ltU y[i]! v = false := by
    refine Sort.permIn_all x y a' b' (fun t => ltU t v = false) (by omega) hp.perm (fun i i1 i2 => ?_)
    rcases h.below with e | e
    · omega
    · have := e i i1 i2
      simp [ltU] at *
      omega
  refine ⟨by have := h.h1; omega, hm2, h3, by omega, Or.inr (fun i i1 i2 => ?_), fun R h1 h2 => ?_⟩
  · have e1 := hp.lo (m - 1) (by omega) (by omega)
    have e2 := hp.hi i i1 i2
    simp [ltU] at *
    omega
  · have hlow : ∀ i, i < m → R[i]! = y[i]! := fun i hi => h1.2.1 i (Or.inl hi)
    refine h.glue R (Sort.permIn_trans _ _ _ _ _ hp.perm (Sort.permIn_mono y R m b' a' b' (by omega) (Nat.le_refl _) (by omega) h1)) ?_
    refine Sort.sorted_glue_eq swo_ltU v h2 (fun i i1 i2 => ?_) (fun i i1 i2 => ?_) (fun i i1 i2 => ?_)
    · rw [hlow i i2]; exact hp.lo i i1 i2
    · rw [hlow i i2]; exact hall i i1 (by omega)
    · exact Sort.permIn_all y R m b' (fun t => ltU v t = true) (by omega) h1 (fun i i1 i2 => hp.hi i i1 i2) i i1 i2
/-- The two parts of a partition. -/
theorem PQ.partL (h : PQ a b d a' b' x) (hp : Parted w wr g n c a' b' x y m) : Sort.Below ltU a' m y :=
  (h.below.perm (by have := h.sz; have := h.h3; omega) hp.perm).mono (by have := hp.b2; omega)
theorem PQ.partR (h : PQ a b d a' b' x) (hp : Parted w wr g n c a' b' x y m) : Sort.Below ltU (m + 1) b' y :=
  Or.inr (fun i i1 i2 => hp.hi i (by omega) i2)
theorem PQ.left (h : PQ a b d a' b' x) (hp : Parted w wr g n c a' b' x y m) (hz : Sort.PermIn a' m y z) (hs : Sort.SortedIn ltU a' m z) : PQ a b d (m + 1) b' z := by
  have h1 := h.h1; have h3 := h.h3; have hb1 := hp.b1; have hb2 := hp.b2; have hsx := h.sz
  have hsy : y.size = x.size := hp.perm.1
  have hsz : z.size = y.size := hz.1
  have hhigh : ∀ i, m ≤ i → z[i]! = y[i]! := fun i hi => hz.2.1 i (Or.inr hi)
  have hlo : ∀ i, a' ≤ i → i < m → ltU z[i]! z[m]! = true := fun i i1 i2 => by
    rw [hhigh m (Nat.le_refl _)]
    exact Sort.permIn_all y z a' m (fun t => ltU t y[m]! = true) (by omega) hz (fun i i1 i2 => hp.lo i i1 i2) i i1 i2
  have hhi : ∀ i, m < i → i < b' → ltU z[i]! z[m]! = false := fun i i1 i2 => by
    rw [hhigh m (Nat.le_refl _), hhigh i (by omega)]
    exact hp.hi i i1 i2
  refine ⟨by omega, by omega, h3, by omega, Or.inr (fun i i1 i2 => hhi i (by omega) i2), fun R r1 r2 => ?_⟩
  have hR : ∀ i, i < m + 1 → R[i]! = z[i]! := fun i hi => r1.2.1 i (Or.inl hi)
  refine h.glue R (Sort.permIn_trans _ _ _ _ _ hp.perm (Sort.permIn_trans _ _ _ _ _ (Sort.permIn_mono y z a' m a' b' (Nat.le_refl _) (by omega) (by omega) hz) (Sort.permIn_mono z R (m + 1) b' a' b' (by omega) (Nat.le_refl _) (by omega) r1))) ?_
  refine Sort.sorted_glue swo_ltU (mid := m) ?_ r2 (fun i i1 i2 => ?_) (fun i i1 i2 => ?_)
  · exact hs.congr (fun i i1 i2 => hR i (by omega))
  · rw [hR i (by omega), hR m (by omega)]; exact hlo i i1 i2
  · rw [hR m (by omega)]
    exact Sort.permIn_all z R (m + 1) b' (fun t => ltU t z[m]! = false) (by omega) r1 (fun i i1 i2 => hhi i (by omega) i2) i (by omega) i2
theorem PQ.right (h : PQ a b d a' b' x) (hp : Parted w wr g n c a' b' x y m) (hz : Sort.PermIn (m + 1) b' y z) (hs : Sort.SortedIn ltU (m + 1) b' z) : PQ a b d a' m z := by
  have h1 := h.h1; have h3 := h.h3; have hb1 := hp.b1; have hb2 := hp.b2; have hsx := h.sz
  have hsy : y.size = x.size := hp.perm.1
  have hsz : z.size = y.size := hz.1
  have hlow : ∀ i, i < m + 1 → z[i]! = y[i]! := fun i hi => hz.2.1 i (Or.inl hi)
  have hlo : ∀ i, a' ≤ i → i < m → ltU z[i]! z[m]! = true := fun i i1 i2 => by
    rw [hlow i (by omega), hlow m (by omega)]; exact hp.lo i i1 i2
  have hhi : ∀ i, m < i → i < b' → ltU z[i]! z[m]! = false := fun i i1 i2 => by
    rw [hlow m (by omega)]
    exact Sort.permIn_all y z (m + 1) b' (fun t => ltU t y[m]! = false) (by omega) hz (fun i i1 i2 => hp.hi i (by omega) i2) i (by omega) i2
  have hpz : Sort.PermIn a' b' x z := Sort.permIn_trans _ _ _ _ _ hp.perm (Sort.permIn_mono y z (m + 1) b' a' b' (by omega) (Nat.le_refl _) (by omega) hz)
  refine ⟨h1, hb1, by omega, by omega, (h.below.perm (by omega) hpz).mono (by omega), fun R r1 r2 => ?_⟩
  have hR : ∀ i, m ≤ i → R[i]! = z[i]! := fun i hi => r1.2.1 i (Or.inr hi)
  refine h.glue R (Sort.permIn_trans _ _ _ _ _ hpz (Sort.permIn_mono z R a' m a' b' (Nat.le_refl _) (by omega) (by omega) r1)) ?_
  refine Sort.sorted_glue swo_ltU (mid := m) r2 ?_ (fun i i1 i2 => ?_) (fun i i1 i2 => ?_)
  · exact hs.congr (fun i i1 i2 => hR i (by omega))
  · rw [hR m (Nat.le_refl _)]
    exact Sort.permIn_all z R a' m (fun t => ltU t z[m]! = true) (by omega) r1 (fun i i1 i2 => hlo i i1 i2) i i1 i2
  · rw [hR m (Nat.le_refl _), hR i (by omega)]; exact hhi i i1 i2
end
end Go.Proofs.Ytpphgmgdmdehpaa
