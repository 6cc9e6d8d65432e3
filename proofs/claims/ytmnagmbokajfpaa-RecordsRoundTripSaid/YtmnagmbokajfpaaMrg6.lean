/- Ref04V, Count, Ref13A, Ref13B, Ref13D, in one text. -/
import Derived.Test.YtmnagmbokajfpaaMrg5
import Derived.Test.YtmnagmbokajfpaaMrg4
import Derived.Test.YtmnagmbokajfpaaMrg1
import Derived.Test.YtmnagmbokajfpaaMrg2

section
/- Layer 4: the reference's reader: Uint after an error. -/
set_option linter.unusedVariables false
namespace Go.Proofs.Ytmnagmbokajfpaa
open Go Go.RowKit


theorem rr_uint_err (q : Nat) (v : Value) (B : List Nat) (a : Nat) (e : Int) (x : Value) (w : World) (h : RRd w q v B a e) (he : e ≠ 0) :
    Calls Try.prog 37 #[.pointer (some ⟨q, 0, none⟩), x] w fun en w' => en = .returned (.int .u64 0) ∧ w = w' := by
  obtain ⟨c0, c1, c2, f1, f2⟩ := h.cells
  clear h
  have heb : (e == 0) = false := by rw [beq_eq_false_iff_ne]; exact he
  go_enter Try.func37, Try.ntmps37
  go_wp2_with fail
  go_ret
  exact ⟨rfl, rfl⟩
end Go.Proofs.Ytmnagmbokajfpaa

end

section
/- Layer 13: a number of elements, as it is read; a counted list by its number. No program in sight. -/
set_option linter.unusedVariables false
namespace Go.Proofs.Ytmnagmbokajfpaa

def outCount (B : List Nat) (a : Nat) : Out Nat := match readAt B (a : Int) with
  | (n, to, 0) => if B.length - to.toNat < n then .bad 3 else .ok n to.toNat
  | (_, _, e + 1) => .bad (e + 1)
theorem pList_count {α : Type} (z : Nat) (p : List Nat → Nat → Out α) (B : List Nat) (a : Nat) : pList z p B a = match outCount B a with
  | .bad e => .bad e
  | .ok n b => if z ≠ 0 ∧ n = 0 then .bad z else pMany p B n b [] := by
  unfold pList outCount
  rcases readAt B (a : Int) with ⟨n, to, e⟩
  cases e with
  | zero =>
    simp only
    by_cases h : B.length - to.toNat < n
    · rw [if_pos h, if_pos h]
    · rw [if_neg h, if_neg h]
  | succ e => rfl
/-- What Count finds: an error of the number; more than there is; a number. -/
theorem outCount_cases {B : List Nat} (hB : ∀ c ∈ B, c < 256) {a : Nat} (ha : a ≤ B.length) :
    (∃ e, e ≠ 0 ∧ outUint B a 18446744073709551615 = .bad e ∧ outCount B a = .bad e) ∨
    (∃ n b, outUint B a 18446744073709551615 = .ok n b ∧ n < 18446744073709551616 ∧ a < b ∧ b ≤ B.length ∧ outCount B a = if B.length - b < n then .bad 3 else .ok n b) := by
  rcases readAt_cases hB ha with ⟨e, he, hr⟩ | ⟨y, n, hr, hn, hin, hg, hy⟩
  · obtain ⟨k, rfl⟩ : ∃ k, e = k + 1 := ⟨e - 1, by omega⟩
    exact Or.inl ⟨k + 1, he, by rw [outUint, hr], by rw [outCount, hr]⟩
  · exact Or.inr ⟨y, a + n, by rw [outUint, hr]; simp only [Int.toNat_natCast]; rw [if_neg (by omega)], hy, by omega, hin, by rw [outCount, hr]; simp only [Int.toNat_natCast]⟩
theorem pNum_cases {α : Type} (g : Nat → Option α) (z : Nat) {B : List Nat} (hB : ∀ c ∈ B, c < 256) {a : Nat} (ha : a ≤ B.length) :
    (∃ e, e ≠ 0 ∧ outUint B a 18446744073709551615 = .bad e ∧ pNum g z B a = .bad e) ∨
    (∃ n b, outUint B a 18446744073709551615 = .ok n b ∧ n < 18446744073709551616 ∧ a < b ∧ b ≤ B.length ∧ pNum g z B a = match g n with
      | some x => .ok x b
      | none => .bad z) := by
  rcases readAt_cases hB ha with ⟨e, he, hr⟩ | ⟨y, n, hr, hn, hin, hg, hy⟩
  · obtain ⟨k, rfl⟩ : ∃ k, e = k + 1 := ⟨e - 1, by omega⟩
    exact Or.inl ⟨k + 1, he, by rw [outUint, hr], by rw [pNum, hr]⟩
  · exact Or.inr ⟨y, a + n, by rw [outUint, hr]; simp only [Int.toNat_natCast]; rw [if_neg (by omega)], hy, by omega, hin, by rw [pNum, hr]; simp only [Int.toNat_natCast]; cases g y <;> rfl⟩
end Go.Proofs.Ytmnagmbokajfpaa

end

section
/- Layer 13: the reference's Count and Symbol. -/
set_option linter.unusedVariables false
set_option maxRecDepth 20000
namespace Go.Proofs.Ytmnagmbokajfpaa
open Go Go.RowKit

theorem strs_ne {t : List ByteArray} (h : strs t ≠ []) : t ≠ [] := fun e => h (by subst e; rfl)
/-- What a read leaves: its value and the new offset, or zero and an error at some offset. -/
def GotE {α : Type} (o : Out α) (val : α → Value) (z : Value) (inv : Nat → Int → Prop) (en : Ending) : Prop := match o with
  | .ok x b => en = .returned (val x) ∧ inv b 0
  | .bad e => en = .returned z ∧ ∃ a, inv a (e : Int)

set_option maxHeartbeats 4000000 in
theorem rr_count (q : Nat) (v : Value) (B : List Nat) (a : Nat) (w : World) (h : RRd w q v B a 0) (hB : ∀ c ∈ B, c < 256) (ha : a ≤ B.length) (hz : B.length ≤ 140737488355000) :
    Calls Try.prog 34 #[.pointer (some ⟨q, 0, none⟩)] w fun en w' => Mods (fun k => k = q) w w' ∧ GotE (outCount B a) (fun n => .int .i64 (n : Int)) (.int .i64 0) (fun b e => RRd w' q v B b e) en := by
  have HU := Lib.hid (rr_uint q v B a 18446744073709551615 w h hB ha (by decide))
  obtain ⟨c0, c1, c2, f1, f2⟩ := h.cells
  obtain ⟨p, c, hv⟩ := h.rd.shape
  subst hv
  have hcs := outCount_cases hB ha
  have hz' : (B.length : Int) ≤ 140737488355000 := by omega
  have ha' : (a : Int) ≤ (B.length : Int) := by omega
  clear h
  go_enter Try.func34, Try.ntmps34
  go_wp2_with fail
  refine HU.out.mono ?_
  rintro en w1 ⟨hm, hg⟩
  have HM1 := Lib.hid hm
  clear HU hm c0 c1 c2 f1 f2
  rcases hcs with ⟨e, he, ho, hc⟩ | ⟨n, b, ho, hn, hab, hb, hc⟩
  · rw [ho] at hg
    obtain ⟨rfl, hR⟩ := hg
    have HR := Lib.hid hR
    have HC := Lib.hid hc
    obtain ⟨c0, c1, c2, f1, f2⟩ := hR.cells
    have heb : ((e : Int) == 0) = false := by rw [beq_eq_false_iff_ne]; omega
    have hen : ¬ (e : Int) = 0 := by omega
    clear hR hc ho
    go_wp2_with fail
    go_quiet (fail)
    have HM2 : Hid (Mods (fun k => k = q) w (w1.drewN nq)) := HM1.out.trans (Mods.drewN _ _ _) (fun _ _ e => e)
    have HR2 := Lib.hid (HR.out.drewN nq)
    obtain ⟨c0, c1, c2, f1, f2⟩ := HR2.out.cells
    clear HM1 HR
    generalize w1.drewN nq = w2 at *
    go_wp2_with fail
    go_ret
    exact ⟨HM2.out, by rw [HC.out]; exact ⟨rfl, _, HR2.out⟩⟩
  · rw [ho] at hg
    obtain ⟨rfl, hR⟩ := hg
    have HR := Lib.hid hR
    obtain ⟨c0, c1, c2, f1, f2⟩ := hR.cells
    have hb' : (b : Int) ≤ (B.length : Int) := by omega
    have hwr : IntKind.u64.wrap ((B.length : Int) - (b : Int)) = ((B.length - b : Nat) : Int) := by rw [IntKind.wrap_u64]; omega
    have hwi : IntKind.i64.wrap ((B.length : Int) - (b : Int)) = ((B.length - b : Nat) : Int) := by rw [IntKind.wrap_i64]; omega
    have hwi2 : wrap64 ((B.length : Int) - (b : Int)) = ((B.length - b : Nat) : Int) := by simp only [wrap64]; omega
    have hwu : IntKind.u64.wrap ((B.length - b : Nat) : Int) = ((B.length - b : Nat) : Int) := by rw [IntKind.wrap_u64]; omega
    obtain ⟨D, hD⟩ : ∃ D, B.length - b = D := ⟨_, rfl⟩
    rw [hD] at hwr hwi hwi2 hwu hc
    have HD : Hid (B.length - b = D) := hD
    clear hR ho hD
    by_cases hlt : D < n
    · have hlt' : (D : Int) < (n : Int) := by omega
      have hdd : decide ((D : Int) < (n : Int)) = true := by simpa using hlt'
      rw [if_pos hlt] at hc
      have HC := Lib.hid hc
      clear hc hlt
      go_wp2_with fail
      go_quiet (fail)
      have HM2 : Hid (Mods (fun k => k = q) w (w1.drewN nq)) := HM1.out.trans (Mods.drewN _ _ _) (fun _ _ e => e)
      have HR2 := Lib.hid (HR.out.drewN nq)
      clear HM1 HR c0 c1 c2 f1 f2
      obtain ⟨c0, c1, c2, f1, f2⟩ := HR2.out.cells
      generalize w1.drewN nq = w2 at *
      have HR3 := Lib.hid (HR2.out.setAt a)
      have HM3 : Hid (Mods (fun k => k = q) w (w2.setCell ⟨q, 1, none⟩ (.int .i64 (a : Int)))) := HM2.out.trans (mods_set _ _ _ _) (fun _ _ e => e)
      go_wp2_with fail
      refine (rr_fail q _ B a 0 3 _ HR3.out).mono ?_
      rintro en w4 ⟨rfl, hR, hm⟩
      rw [if_pos rfl] at hR
      have HM4 := Lib.hid (HM3.out.trans hm (fun _ _ e => e))
      have HR4 := Lib.hid hR
      obtain ⟨d0, d1, d2, g1, g2⟩ := hR.cells
      clear hR hm c0 c1 c2 f1 f2
      go_wp2_with fail
      go_ret
      exact ⟨HM4.out, by rw [HC.out]; exact ⟨rfl, _, HR4.out⟩⟩
    · have hlt' : ¬ (D : Int) < (n : Int) := by omega
      have hdd : decide ((D : Int) < (n : Int)) = false := by simpa using hlt'
      have hnz : (n : Int) ≤ 140737488355000 := by have := HD.out; omega
      have hwn : IntKind.i64.wrap (n : Int) = (n : Int) := by rw [IntKind.wrap_i64]; omega
      rw [if_neg hlt] at hc
      have HC := Lib.hid hc
      clear hc hlt
      go_wp2_with fail
      go_quiet (fail)
      have HM2 : Hid (Mods (fun k => k = q) w (w1.drewN nq)) := HM1.out.trans (Mods.drewN _ _ _) (fun _ _ e => e)
      have HR2 := Lib.hid (HR.out.drewN nq)
      clear HM1 HR c0 c1 c2 f1 f2
      obtain ⟨c0, c1, c2, f1, f2⟩ := HR2.out.cells
      generalize w1.drewN nq = w2 at *
      go_wp2_with fail
      go_ret
      exact ⟨HM2.out, by rw [HC.out]; exact ⟨rfl, HR2.out⟩⟩

/-- After an error nothing is read. -/
theorem rr_symbol_err (q : Nat) (v : Value) (B : List Nat) (a : Nat) (e : Int) (tv : Value) (t : List ByteArray) (w : World) (h : RRd w q v B a e) (he : e ≠ 0) (ht : Rd w 1 tv t.length (strs t)) :
    Calls Try.prog 55 #[.pointer (some ⟨q, 0, none⟩), tv] w fun en w' => en = .returned (.string ⟨#[]⟩) ∧ ∃ n, w' = w.drewN n := by
  have HU := Lib.hid (rr_uint_err q v B a e (.int .u64 18446744073709551615) w h he)
  obtain ⟨c0, c1, c2, f1, f2⟩ := h.cells
  obtain ⟨p, c, hv⟩ := h.rd.shape
  subst hv
  obtain ⟨pt, ct, hv⟩ := ht.shape
  subst hv
  have heb : (e == 0) = false := by rw [beq_eq_false_iff_ne]; exact he
  clear h ht
  go_enter Try.func55, Try.ntmps55
  go_wp2_with fail
  refine HU.out.mono ?_
  rintro en w1 ⟨rfl, rfl⟩
  clear HU
  go_wp2_with fail
  go_ret
  exact ⟨rfl, 0, rfl⟩

set_option maxHeartbeats 4000000 in
theorem rr_symbol (q : Nat) (v : Value) (B : List Nat) (a : Nat) (tv : Value) (t : List ByteArray) (w : World) (h : RRd w q v B a 0) (hB : ∀ c ∈ B, c < 256) (ha : a ≤ B.length) (ht : Rd w 1 tv t.length (strs t)) (hn : t.length ≤ 100000000) (htq : t ≠ [] → ∀ k, tv.ownBlock = some k → k ≠ q) :
    Calls Try.prog 55 #[.pointer (some ⟨q, 0, none⟩), tv] w fun en w' => Mods (fun k => k = q) w w' ∧ GotE (pSym t B a) (fun s => .string s) (.string ⟨#[]⟩) (fun b e => RRd w' q v B b e) en := by
  have HU := Lib.hid (rr_uint q v B a 18446744073709551615 w h hB ha (by decide))
  obtain ⟨c0, c1, c2, f1, f2⟩ := h.cells
  obtain ⟨p, c, hv⟩ := h.rd.shape
  subst hv
  have HT := Lib.hid ht; have HTq := Lib.hid htq
  obtain ⟨pt, ct, hv⟩ := ht.shape
  subst hv
  have hcs := pNum_cases (fun n => t[n]?) 14 hB ha
  have htm : (t.length : Int) ≤ 100000000 := by omega
  have hwt : IntKind.u64.wrap (t.length : Int) = (t.length : Int) := by rw [IntKind.wrap_u64]; omega
  clear h ht htq hn
  go_enter Try.func55, Try.ntmps55
  go_wp2_with fail
  refine HU.out.mono ?_
  rintro en w1 ⟨hm, hg⟩
  have HM1 := Lib.hid hm
  have HT1 := Lib.hid (HT.out.mods' hm (fun e => HTq.out (strs_ne e)))
  clear HU hm c0 c1 c2 f1 f2
  rcases hcs with ⟨e, he, ho, hc⟩ | ⟨n, b, ho, hnu, hab, hb, hc⟩
  · rw [ho] at hg
    obtain ⟨rfl, hR⟩ := hg
    have HR := Lib.hid hR
    have HC : Hid (pSym t B a = .bad e) := hc
    obtain ⟨c0, c1, c2, f1, f2⟩ := hR.cells
    have heb : ((e : Int) == 0) = false := by rw [beq_eq_false_iff_ne]; omega
    clear hR hc ho
    go_wp2_with fail
    go_ret
    exact ⟨HM1.out, by rw [HC.out]; exact ⟨rfl, _, HR.out⟩⟩
  · rw [ho] at hg
    obtain ⟨rfl, hR⟩ := hg
    have HR := Lib.hid hR
    obtain ⟨c0, c1, c2, f1, f2⟩ := hR.cells
    clear hR ho
    by_cases hlt : n < t.length
    · have hlt' : (n : Int) < (t.length : Int) := by omega
      obtain ⟨s, hs⟩ : ∃ s, t[n]? = some s := ⟨_, List.getElem?_eq_getElem hlt⟩
      have HC : Hid (pSym t B a = .ok s b) := by show pNum _ _ _ _ = _; rw [hc]; simp only [hs]
      obtain ⟨g, off, ct', e, _, _, hcell⟩ := HT1.out.at (fun e => by have := congrArg List.length e; rw [strs_length] at this; rw [this] at hlt; simp at hlt)
      simp only [Value.slice.injEq] at e
      obtain ⟨rfl, _, rfl⟩ := e
      have d0 : w1.cell? ⟨g, off + n, none⟩ = some (.string s) := hcell n _ (by rw [strs, List.getElem?_map, hs]; rfl)
      clear hc hs hcell hlt
      go_wp2_with fail
      go_ret
      exact ⟨HM1.out, by rw [HC.out]; exact ⟨rfl, HR.out⟩⟩
    · have hlt' : ¬ (n : Int) < (t.length : Int) := by omega
      have hle' : (t.length : Int) ≤ (n : Int) := by omega
      have HC : Hid (pSym t B a = .bad 14) := by show pNum _ _ _ _ = _; rw [hc, List.getElem?_eq_none (by omega)]
      clear hc hlt
      go_wp2_with fail
      refine (rr_fail q _ B b 0 14 _ HR.out).mono ?_
      rintro en w4 ⟨rfl, hR, hm⟩
      rw [if_pos rfl] at hR
      have HM4 := Lib.hid (HM1.out.trans hm (fun _ _ e => e))
      have HR4 := Lib.hid hR
      obtain ⟨d0, d1, d2, g1, g2⟩ := hR.cells
      clear hR hm c0 c1 c2 f1 f2
      go_wp2_with fail
      go_ret
      exact ⟨HM4.out, by rw [HC.out]; exact ⟨rfl, _, HR4.out⟩⟩
end Go.Proofs.Ytmnagmbokajfpaa

end

section
/- Layer 13: the reference's Labels. -/
set_option linter.unusedVariables false
set_option maxRecDepth 20000
namespace Go.Proofs.Ytmnagmbokajfpaa
open Go Go.RowKit

/-- A read of a list: what is still to come. -/
theorem many_ok {α : Type} {p : List Nat → Nat → Out α} {B : List Nat} {n i a : Nat} {acc : List α} {x : α} {b : Nat} {T : Out (List α)} (hi : i < n) (h : T = pMany p B (n - i) a acc) (hx : p B a = .ok x b) : T = pMany p B (n - (i + 1)) b (acc ++ [x]) := by
  rw [h, show n - i = (n - (i + 1)) + 1 by omega, pMany, hx]
theorem many_no {α : Type} {p : List Nat → Nat → Out α} {B : List Nat} {n i a e : Nat} {acc : List α} {T : Out (List α)} (hi : i < n) (h : T = pMany p B (n - i) a acc) (hx : p B a = .bad e) : T = .bad e := by
  rw [h, show n - i = (n - (i + 1)) + 1 by omega, pMany, hx]
theorem many_end {α : Type} {p : List Nat → Nat → Out α} {B : List Nat} {n i a : Nat} {acc : List α} {T : Out (List α)} (hi : n ≤ i) (h : T = pMany p B (n - i) a acc) : T = .ok acc a := by
  rw [h, show n - i = 0 by omega, pMany]
theorem pair_ok {α β : Type} {p : List Nat → Nat → Out α} {q : List Nat → Nat → Out β} {B : List Nat} {a b c : Nat} {x : α} {y : β} (h1 : p B a = .ok x b) (h2 : q B b = .ok y c) : pPair p q B a = .ok (x, y) c := by rw [pPair, h1]; simp only [h2]
theorem pair_no1 {α β : Type} {p : List Nat → Nat → Out α} {q : List Nat → Nat → Out β} {B : List Nat} {a e : Nat} (h1 : p B a = .bad e) : pPair p q B a = .bad e := by rw [pPair, h1]
theorem pair_no2 {α β : Type} {p : List Nat → Nat → Out α} {q : List Nat → Nat → Out β} {B : List Nat} {a b e : Nat} {x : α} (h1 : p B a = .ok x b) (h2 : q B b = .bad e) : pPair p q B a = .bad e := by rw [pPair, h1]; simp only [h2]

/-- Where a reading of a list stands: it goes on at a, or it has failed. -/
def Stands {α : Type} (p : List Nat → Nat → Out α) (B : List Nat) (T : Out (List α)) (n i a : Nat) (acc : List α) (e : Int) : Prop :=
  (e = 0 ∧ a ≤ B.length ∧ T = pMany p B (n - i) a acc) ∨ (∃ k : Nat, k ≠ 0 ∧ e = (k : Int) ∧ T = .bad k)

/-- What Labels leaves. -/
def GotLs (w : World) (q : Nat) (v : Value) (B : List Nat) (o : Out (List Lab)) (en : Ending) (w' : World) : Prop := match o with
  | .ok l b => ∃ r, en = .returned r ∧ w'.ownsRow w.heap.size 54 2 r l.length (labCells l) ∧ RRd w' q v B b 0
  | .bad e => (∃ p n c, en = .returned (.slice p n c)) ∧ ∃ a, RRd w' q v B a (e : Int)

theorem sym_bad {t : List ByteArray} {B : List Nat} {a e : Nat} (hB : ∀ c ∈ B, c < 256) (ha : a ≤ B.length) (h : pSym t B a = .bad e) : e ≠ 0 := by
  rcases pNum_cases (fun n => t[n]?) 14 hB ha with ⟨k, hk, _, hc⟩ | ⟨n, b, _, _, _, _, hc⟩
  · rw [show pSym t B a = .bad k from hc] at h; cases h; exact hk
  · have : pSym t B a = _ := hc
    rw [this] at h
    split at h <;> cases h
    decide
theorem sym_at {t : List ByteArray} {B : List Nat} {a b : Nat} {s : ByteArray} (hB : ∀ c ∈ B, c < 256) (ha : a ≤ B.length) (h : pSym t B a = .ok s b) : b ≤ B.length := by
  rcases pNum_cases (fun n => t[n]?) 14 hB ha with ⟨k, hk, _, hc⟩ | ⟨n, c, _, _, _, hb, hc⟩
  · rw [show pSym t B a = .bad k from hc] at h; cases h
  · have : pSym t B a = _ := hc
    rw [this] at h
    split at h <;> cases h
    exact hb

set_option maxHeartbeats 8000000 in
theorem rr_labels (q : Nat) (v : Value) (B : List Nat) (a : Nat) (tv : Value) (t : List ByteArray) (w : World) (h : RRd w q v B a 0) (hB : ∀ c ∈ B, c < 256) (ha : a ≤ B.length) (hz : B.length ≤ 100000000) (ht : Rd w 1 tv t.length (strs t)) (hn : t.length ≤ 100000000) (htq : t ≠ [] → ∀ k, tv.ownBlock = some k → k ≠ q) (hvl : B ≠ [] → ∀ k, v.ownBlock = some k → k < w.heap.size) :
    Calls Try.prog 35 #[.pointer (some ⟨q, 0, none⟩), tv] w fun en w' => Mods (fun k => k = q) w w' ∧ GotLs w q v B (pLabs t B a) en w' := by
  have HBl := Lib.hid hB; have HT := Lib.hid ht; have HTq := Lib.hid htq; have HTn := Lib.hid hn; have HQ : Hid (q < w.heap.size) := h.blk.lt
  have HZ := Lib.hid hz
  have HCt := Lib.hid (rr_count q v B a w h hB ha (by omega))
  have hpl : pLabs t B a = _ := pList_count 0 (pLab t) B a
  obtain ⟨T, hT⟩ : ∃ T, pLabs t B a = T := ⟨_, rfl⟩
  rw [hT] at hpl ⊢
  have HV := Lib.hid hvl
  clear hT hvl
  obtain ⟨p, c, hv⟩ := h.rd.shape
  subst hv
  obtain ⟨pt, ct, hv⟩ := ht.shape
  subst hv
  have hcs := outCount_cases hB ha
  clear h ht htq hn hB hz
  go_enter Try.func35, Try.ntmps35
  go_wp2_with fail
  refine HCt.out.mono ?_
  rintro en w1 ⟨hm, hg⟩
  have HM1 := Lib.hid hm
  have HO1 : Hid (w1.ownsRow w.heap.size 54 2 (.slice none 0 0) ([] : List Lab).length (labCells [])) := World.ownsRow_nil _ _ _ _
  clear HCt hm
  have key : ∃ (n b : Nat) (e : Int), en = .returned (.int .i64 (n : Int)) ∧ n ≤ 100000000 ∧ (n ≠ 0 → e = 0) ∧ RRd w1 q (.slice p B.length c) B b e ∧ Stands (pLab t) B T n 0 b [] e := by
    have hpl' := hpl
    rcases hcs with ⟨e, he, _, hc⟩ | ⟨n, b, _, hnu, hab, hb, hc⟩
    · rw [hc] at hg hpl'
      obtain ⟨rfl, a', hR⟩ := hg
      exact ⟨0, a', e, rfl, by omega, fun h => absurd rfl h, hR, Or.inr ⟨e, he, rfl, hpl'⟩⟩
    · by_cases hlt : B.length - b < n
      · rw [if_pos hlt] at hc
        rw [hc] at hg hpl'
        obtain ⟨rfl, a', hR⟩ := hg
        exact ⟨0, a', (3 : Nat), rfl, by omega, fun h => absurd rfl h, hR, Or.inr ⟨3, by decide, rfl, hpl'⟩⟩
      · rw [if_neg hlt] at hc
        rw [hc] at hg hpl'
        obtain ⟨rfl, hR⟩ := hg
        simp only [ne_eq, not_true_eq_false, false_and, if_false] at hpl'
        exact ⟨n, b, 0, rfl, by have := HZ.out; omega, fun _ => rfl, hR, Or.inl ⟨rfl, hb, hpl'⟩⟩
  obtain ⟨n, b0, e0, rfl, hn6, _, hR, hSt⟩ := key
  have HR1 := Lib.hid hR; have HS1 := Lib.hid hSt
  clear hg hcs hpl hR hSt ha
  have hni : (n : Int) ≤ 100000000 := by omega
  go_wp2_with fail
  go_loopw [5, 7] (fun vv iv wr => ∃ (i x : Nat) (e : Int) (acc : List Lab), i ≤ n ∧ iv = .int .i64 (i : Int) ∧ Hid (acc.length = i) ∧ Hid (wr.ownsRow w.heap.size 54 2 vv acc.length (labCells acc)) ∧ Hid (Mods (fun k => k = q) w wr) ∧ Hid (RRd wr q (.slice p B.length c) B x e) ∧ Hid (Stands (pLab t) B T n i x acc e)) (fun _ iv _ => n - (intOf iv).toNat)
  case atStart => exact ⟨0, b0, e0, [], Nat.zero_le _, rfl, rfl, HO1.out, HM1.out, HR1.out, HS1.out⟩
  case round =>
    obtain ⟨i, x, e, acc, hi, rfl, HL, HO, HM, HR, HS⟩ := hrel
    have him : (i : Int) ≤ 100000000 := by omega
    obtain ⟨pv, cv, hvv⟩ := (Rd.of_owns HO.out).shape
    subst hvv
    obtain ⟨c0, c1, c2, f1, f2⟩ := HR.out.cells
    by_cases hlt : i < n
    · have hlt' : (i : Int) < (n : Int) := by omega
      by_cases he : e = 0
      · subst he
        have HSa : Hid (x ≤ B.length ∧ T = pMany (pLab t) B (n - i) x acc) := by
          rcases HS.out with ⟨_, h1, h2⟩ | ⟨k, hk, h1, _⟩
          · exact ⟨h1, h2⟩
          · omega
        have HSy := Lib.hid (rr_symbol q (.slice p B.length c) B x (.slice pt t.length ct) t wr HR.out HBl.out HSa.out.1 (HT.out.mods' HM.out (fun e => HTq.out (strs_ne e))) HTn.out HTq.out)
        go_wp2_with fail
        refine HSy.out.mono ?_
        rintro en w2 ⟨hm, hg⟩
        have HM2 := Lib.hid (HM.out.trans hm (fun _ _ e => e))
        have HO2 : Hid (w2.ownsRow w.heap.size 54 2 (.slice pv acc.length cv) acc.length (labCells acc)) := hm.owns HO.out (fun k hk e => by have := (HO.out.lt k hk).1; have := HQ.out; omega)
        have hpost : ∃ (s1 : ByteArray) (x2 : Nat) (e2 : Int), en = .returned (.string s1) ∧ RRd w2 q (.slice p B.length c) B x2 e2 ∧ ((e2 = 0 ∧ x2 ≤ B.length ∧ pSym t B x = .ok s1 x2) ∨ (∃ k : Nat, k ≠ 0 ∧ e2 = (k : Int) ∧ pSym t B x = .bad k)) := by
          obtain ⟨o, ho⟩ : ∃ o, pSym t B x = o := ⟨_, rfl⟩
          rw [ho] at hg ⊢
          cases o with
          | ok s b => exact ⟨s, b, 0, hg.1, hg.2, Or.inl ⟨rfl, sym_at HBl.out HSa.out.1 ho, rfl⟩⟩
          | bad k =>
            obtain ⟨h1, a', h2⟩ := hg
            exact ⟨_, a', k, h1, h2, Or.inr ⟨k, sym_bad HBl.out HSa.out.1 ho, rfl, rfl⟩⟩
        obtain ⟨s1, x2, e2, rfl, hR2, hS2⟩ := hpost
        have HR2 := Lib.hid hR2; have HS2 := Lib.hid hS2
        clear hm hg hR2 hS2 HSy HO HM HR c0 c1 c2 f1 f2
        have HC2 : Hid (Calls Try.prog 55 #[.pointer (some ⟨q, 0, none⟩), .slice pt t.length ct] w2 fun en w' => ∃ (s2 : ByteArray) (x3 : Nat) (e3 : Int), en = .returned (.string s2) ∧ Mods (fun k => k = q) w2 w' ∧ RRd w' q (.slice p B.length c) B x3 e3 ∧ Stands (pLab t) B T n (i + 1) x3 (acc ++ [(s1, s2)]) e3) := by
          show Calls _ _ _ _ _
          rcases HS2.out with ⟨rfl, hx2, ho⟩ | ⟨k, hk, rfl, ho⟩
          · refine (rr_symbol q (.slice p B.length c) B x2 (.slice pt t.length ct) t w2 HR2.out HBl.out hx2 (HT.out.mods' HM2.out (fun e => HTq.out (strs_ne e))) HTn.out HTq.out).mono ?_
            rintro en w' ⟨hm, hg⟩
            obtain ⟨o, ho2⟩ : ∃ o, pSym t B x2 = o := ⟨_, rfl⟩
            rw [ho2] at hg
            cases o with
            | ok s b =>
              refine ⟨s, b, 0, hg.1, hm, hg.2, Or.inl ⟨rfl, sym_at HBl.out hx2 ho2, ?_⟩⟩
              exact many_ok hlt HSa.out.2 (pair_ok ho ho2)
            | bad k =>
              obtain ⟨h1, a', h2⟩ := hg
              refine ⟨_, a', k, h1, hm, h2, Or.inr ⟨k, sym_bad HBl.out hx2 ho2, rfl, ?_⟩⟩
              exact many_no hlt HSa.out.2 (pair_no2 ho ho2)
          · refine (rr_symbol_err q (.slice p B.length c) B x2 (k : Int) (.slice pt t.length ct) t w2 HR2.out (by omega) (HT.out.mods' HM2.out (fun e => HTq.out (strs_ne e)))).mono ?_
            rintro en w' ⟨rfl, m, rfl⟩
            exact ⟨_, x2, k, rfl, Mods.drewN _ _ _, HR2.out.drewN m, Or.inr ⟨k, hk, rfl, many_no hlt HSa.out.2 (pair_no1 ho)⟩⟩
        clear HS2 HR2 HSa HS
        go_wp2_with fail
        refine HC2.out.mono ?_
        rintro en w3 ⟨s2, x3, e3, rfl, hm, hR3, hS3⟩
        have HM3 := Lib.hid (HM2.out.trans hm (fun _ _ e => e))
        have HO3 : Hid (w3.ownsRow w.heap.size 54 2 (.slice pv acc.length cv) acc.length (labCells acc)) := hm.owns HO2.out (fun k hk e => by have := (HO2.out.lt k hk).1; have := HQ.out; omega)
        have HOz : Hid (w3.ownsRow 0 54 2 (.slice pv acc.length cv) acc.length (labCells acc)) := owns_rebase HO3.out (fun _ _ => Nat.zero_le _)
        have HR3 := Lib.hid hR3; have HS3 := Lib.hid hS3
        have HLb : Hid ((acc.length + 1) * 32 ≤ 140737488355328 ∧ acc.length + 1 ≤ maxLen) := by show _ ∧ _; have := HL.out; unfold maxLen; omega
        clear hm hR3 hS3 HC2 HO2 HM2
        go_wp2_with (at_builtin; refine wpList_push elemLab _ #[.string s1, .string s2] _ _ _ HOz.out rfl (by simp [Value.oneCell']) HLb.out rfl _ _ rfl rfl rfl ?_)
        intro v4 w4 k1 m1 f1
        have HO4 : Hid (w4.ownsRow w.heap.size 54 2 v4 (acc ++ [(s1, s2)]).length (labCells (acc ++ [(s1, s2)]))) := by
          show World.ownsRow _ _ _ _ _ _ _
          rw [List.length_append, labCells_append]
          refine owns_rebase k1 (fun k hk => ?_)
          rcases f1 k hk with e | e
          · exact (HO3.out.lt k e).1
          · have := HM3.out.size; omega
        have hof : ∀ k, (Value.slice pv acc.length cv).ownBlock = some k → k ≠ q ∧ w.heap.size ≤ k := fun k hk => by have := (HO3.out.lt k hk).1; have := HQ.out; omega
        have HM4 : Hid (Mods (fun k => k = q) w w4) := HM3.out.trans m1 (fun j hj e => by have := (hof j e).2; omega)
        have HR4 : Hid (RRd w4 q (.slice p B.length c) B x3 e3) := by
          refine HR3.out.mods' m1 (fun e => (hof q e).1 rfl) (fun hne k hk e => by have := (hof k e).2; have := HV.out hne k hk; omega)
        have HL4 : Hid ((acc ++ [(s1, s2)]).length = i + 1) := by show _ = _; rw [List.length_append, HL.out]; rfl
        obtain ⟨p4, c4, hv4⟩ := (Rd.of_owns HO4.out).shape
        subst hv4
        clear k1 m1 f1 hof HOz HO3 HM3 HR3
        generalize acc ++ [(s1, s2)] = acc2 at *
        go_wp2_with fail
        go_round
        case rel => exact ⟨i + 1, x3, e3, acc2, by omega, by go_num, HL4.out, HO4.out, HM4.out, HR4.out, HS3.out⟩
        case measure => simp [intOf]; omega
      · have heb : (e == 0) = false := by rw [beq_eq_false_iff_ne]; exact he
        have HE : Hid (∃ k : Nat, e = (k : Int) ∧ T = .bad k) := by
          rcases HS.out with ⟨h0, _⟩ | ⟨k, _, h1, h2⟩
          · exact absurd h0 he
          · exact ⟨k, h1, h2⟩
        clear HS
        go_wp2_with fail
        go_ret
        refine ⟨HM.out, ?_⟩
        obtain ⟨k, h1, h2⟩ := HE.out
        rw [h2]
        exact ⟨⟨_, _, _, rfl⟩, x, by rw [← h1]; exact HR.out⟩
    · have hlt' : ¬ (i : Int) < (n : Int) := by omega
      clear c0 c1 c2 f1 f2
      go_wp2_with fail
      go_ret
      refine ⟨HM.out, ?_⟩
      rcases HS.out with ⟨h0, _, h2⟩ | ⟨k, _, h1, h2⟩
      · subst h0
        rw [many_end (by omega) h2]
        exact ⟨_, rfl, HO.out, HR.out⟩
      · rw [h2]
        exact ⟨⟨_, _, _, rfl⟩, x, by rw [← h1]; exact HR.out⟩
end Go.Proofs.Ytmnagmbokajfpaa

end

section
/- Layer 13: the reference's Decode. -/
set_option linter.unusedVariables false
set_option maxRecDepth 20000
namespace Go.Proofs.Ytmnagmbokajfpaa
open Go Go.RowKit

theorem elemRec13 : Elem Try.prog 36 63 2 48 := Elem.mk' (z := .agg #[.slice none 0 0, .slice none 0 0]) Try.underlying36 (by kernel_rfl) rfl (by decide)
theorem elemInt13 : Elem Try.prog 47 3 1 8 := Elem.mk' (z := .int .i64 0) Try.underlying47 (by kernel_rfl) rfl (by decide)
/-- A result that is records and an error. -/
structure GotRc (w : World) (o : Nat × List Rec) (e : Ending) (w' : World) : Prop where
  res : ∃ r, e = .returned (.tuple #[r, .int .i64 (o.1 : Int)]) ∧ RdR w' r o.2 ∧ (∀ k, r.ownBlock = some k → w.heap.size ≤ k)
  bel : Below w.heap.size w w'
theorem RdR.nil (w : World) : RdR w (.slice none 0 0) [] := ⟨⟨[], Rd.nil _ _, rfl, fun i h s hi _ => by simp at hi⟩⟩

/-- After an error nothing is counted. -/
theorem rr_count_err (q : Nat) (v : Value) (B : List Nat) (a : Nat) (e : Int) (w : World) (h : RRd w q v B a e) (he : e ≠ 0) :
    Calls Try.prog 34 #[.pointer (some ⟨q, 0, none⟩)] w fun en w' => en = .returned (.int .i64 0) ∧ ∃ n, w' = w.drewN n := by
  have HU := Lib.hid (rr_uint_err q v B a e (.int .u64 18446744073709551615) w h he)
  obtain ⟨c0, c1, c2, f1, f2⟩ := h.cells
  obtain ⟨p, c, hv⟩ := h.rd.shape
  subst hv
  have heb : (e == 0) = false := by rw [beq_eq_false_iff_ne]; exact he
  clear h
  go_enter Try.func34, Try.ntmps34
  go_wp2_with fail
  refine HU.out.mono ?_
  rintro en w1 ⟨rfl, rfl⟩
  clear HU
  go_wp2_with fail
  go_quiet (fail)
  have c2' : (w.drewN nq).cell? ⟨q, 2, none⟩ = some (.int .i64 e) := c2
  have HW : Hid (∃ n, w.drewN nq = w.drewN n) := ⟨_, rfl⟩
  clear c0 c1 c2 f1 f2
  generalize w.drewN nq = w2 at *
  go_wp2_with fail
  go_ret
  exact ⟨rfl, HW.out⟩

/-- Count, whatever stands there: it goes on with a number, or fails with none. -/
theorem rr_count_any (q : Nat) (v : Value) (B : List Nat) (a : Nat) (e : Int) (w : World) (h : RRd w q v B a e) (hB : ∀ c ∈ B, c < 256) (ha : e = 0 → a ≤ B.length) (hz : B.length ≤ 100000000) :
    Calls Try.prog 34 #[.pointer (some ⟨q, 0, none⟩)] w fun en w' => Mods (fun k => k = q) w w' ∧ ∃ (n b : Nat) (e' : Int), en = .returned (.int .i64 (n : Int)) ∧ n ≤ 100000000 ∧ RRd w' q v B b e' ∧
      ((e = 0 ∧ e' = 0 ∧ b ≤ B.length ∧ outCount B a = .ok n b) ∨ (e = 0 ∧ n = 0 ∧ ∃ k : Nat, k ≠ 0 ∧ e' = (k : Int) ∧ outCount B a = .bad k) ∨ (e ≠ 0 ∧ n = 0 ∧ e' = e)) := by
  by_cases he : e = 0
  · subst he
    have ha := ha rfl
    refine (rr_count q v B a w h hB ha (by omega)).mono ?_
    rintro en w' ⟨hm, hg⟩
    refine ⟨hm, ?_⟩
    rcases outCount_cases hB ha with ⟨k, hk, _, hc⟩ | ⟨n, b, _, hnu, hab, hb, hc⟩
    · rw [hc] at hg
      obtain ⟨rfl, a', hR⟩ := hg
      exact ⟨0, a', k, rfl, by omega, hR, Or.inr (Or.inl ⟨rfl, rfl, k, hk, rfl, hc⟩)⟩
    · by_cases hlt : B.length - b < n
      · rw [if_pos hlt] at hc
        rw [hc] at hg
        obtain ⟨rfl, a', hR⟩ := hg
        exact ⟨0, a', (3 : Nat), rfl, by omega, hR, Or.inr (Or.inl ⟨rfl, rfl, 3, by decide, rfl, hc⟩)⟩
      · rw [if_neg hlt] at hc
        rw [hc] at hg
        obtain ⟨rfl, hR⟩ := hg
        exact ⟨n, b, 0, rfl, by omega, hR, Or.inl ⟨rfl, rfl, hb, hc⟩⟩
  · refine (rr_count_err q v B a e w h he).mono ?_
    rintro en w' ⟨rfl, n, rfl⟩
    exact ⟨Mods.drewN _ _ _, 0, a, e, rfl, by omega, h.drewN n, Or.inr (Or.inr ⟨he, rfl, rfl⟩)⟩
/-- Uint, whatever stands there. -/
theorem rr_uint_any (q : Nat) (v : Value) (B : List Nat) (a : Nat) (w : World) (h : RRd w q v B a 0) (hB : ∀ c ∈ B, c < 256) (ha : a ≤ B.length) :
    Calls Try.prog 37 #[.pointer (some ⟨q, 0, none⟩), .int .u64 18446744073709551615] w fun en w' => Mods (fun k => k = q) w w' ∧ ∃ (n b : Nat) (e' : Int), en = .returned (.int .u64 (n : Int)) ∧ n < 18446744073709551616 ∧ RRd w' q v B b e' ∧
      ((e' = 0 ∧ b ≤ B.length ∧ pLen B a = if 1 ≤ n ∧ n ≤ 2147483647 then .ok (n : Int) b else .bad 23) ∨ (n = 0 ∧ ∃ k : Nat, k ≠ 0 ∧ e' = (k : Int) ∧ pLen B a = .bad k)) := by
  refine (rr_uint q v B a 18446744073709551615 w h hB ha (by decide)).mono ?_
  rintro en w' ⟨hm, hg⟩
  refine ⟨hm, ?_⟩
  rcases pNum_cases (fun n => if 1 ≤ n ∧ n ≤ 2147483647 then some (n : Int) else none) 23 hB ha with ⟨k, hk, ho, hc⟩ | ⟨n, b, ho, hnu, hab, hb, hc⟩
  · rw [ho] at hg
    obtain ⟨rfl, hR⟩ := hg
    exact ⟨0, a, k, rfl, by omega, hR, Or.inr ⟨rfl, k, hk, rfl, hc⟩⟩
  · rw [ho] at hg
    obtain ⟨rfl, hR⟩ := hg
    refine ⟨n, b, 0, rfl, hnu, hR, Or.inl ⟨rfl, hb, ?_⟩⟩
    have : pLen B a = _ := hc
    rw [this]
    by_cases h1 : 1 ≤ n ∧ n ≤ 2147483647
    · rw [if_pos h1, if_pos h1]
    · rw [if_neg h1, if_neg h1]
end Go.Proofs.Ytmnagmbokajfpaa

end
