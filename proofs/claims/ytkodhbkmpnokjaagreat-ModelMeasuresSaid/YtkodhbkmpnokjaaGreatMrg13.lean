/- MdI, CpL, MdJ, Iface12, ClAt, EqualStr, RevHd, Ord12, in one text. -/
import Derived.Test.YtkodhbkmpnokjaaGreatMrg4
import Derived.Test.YtkodhbkmpnokjaaGreatMrg7
import Derived.Test.YtkodhbkmpnokjaaGreatMrg2
import Derived.Test.YtkodhbkmpnokjaaGreatMrg10
import Derived.OwnWalk
import Derived.Test.YtkodhbkmpnokjaaGreatMrg11
import Derived.Test.YtkodhbkmpnokjaaGreatMrg3
import Derived.Test.YtkodhbkmpnokjaaGreatMrg9
import Derived.Test.YtkodhbkmpnokjaaGreatMrg12
import Derived.Test.YtkodhbkmpnokjaaGreatMrg5

section
/- Layer 12, the program's own: a clone under way. -/
set_option linter.unusedVariables false
set_option maxRecDepth 20000
namespace Go.Proofs.YtkodhbkmpnokjaaGreat
open Go Go.RowKit

/-- The first i series of the clone have rows of their own. -/
structure ClIn (w wr : World) (hs : List Hd) (b : List Ser) (g i : Nat) : Prop where
  row : OwnH w wr hs (.slice (some ⟨g, 0, none⟩) b.length b.length)
  len : hs.length = b.length
  ser : ∀ (j : Nat) (h : Hd) (s : Ser), j < i → hs[j]? = some h → b[j]? = some s → wr.ownsRow w.heap.size 39 2 h.1 s.1.length (labCells s.1) ∧ wr.ownsRow w.heap.size 42 2 h.2 s.2.length (samCells s.2)
  off : ∀ (j : Nat) (h : Hd) (k : Nat), j < i → hs[j]? = some h → h.1.ownBlock = some k ∨ h.2.ownBlock = some k → k ≠ g
  par : ∀ (j : Nat) (h : Hd) (k : Nat), j < i → hs[j]? = some h → h.1.ownBlock = some k → h.2.ownBlock ≠ some k
  dis : ∀ (j l : Nat) (h h' : Hd) (k : Nat), j < i → l < i → j ≠ l → hs[j]? = some h → hs[l]? = some h' → h.1.ownBlock = some k ∨ h.2.ownBlock = some k → h'.1.ownBlock ≠ some k ∧ h'.2.ownBlock ≠ some k
theorem ClIn.below {w wr w1 : World} {hs : List Hd} {b : List Ser} {g i : Nat} (h : ClIn w wr hs b g i) (hb : Below wr.heap.size wr w1) : ClIn w w1 hs b g i :=
  ⟨h.row.below hb, h.len, fun j x s hj hx hs => ⟨(Mods.of_below hb (fun _ => False)).owns (h.ser j x s hj hx hs).1 (fun _ _ e => e), (Mods.of_below hb (fun _ => False)).owns (h.ser j x s hj hx hs).2 (fun _ _ e => e)⟩, h.off, h.par, h.dis⟩
theorem ClIn.lt {w wr : World} {hs : List Hd} {b : List Ser} {g i : Nat} (h : ClIn w wr hs b g i) {j : Nat} {x : Hd} {k : Nat} (hj : j < i) (hx : hs[j]? = some x) (hk : x.1.ownBlock = some k ∨ x.2.ownBlock = some k) : k < wr.heap.size := by
  obtain ⟨s, hs⟩ : ∃ s, b[j]? = some s := ⟨_, List.getElem?_eq_getElem (by have := (List.getElem?_eq_some_iff.1 hx).1; have := h.len; omega)⟩
  obtain ⟨h1, h2⟩ := h.ser j x s hj hx hs
  rcases hk with e | e
  · exact (h1.lt k e).2
  · exact (h2.lt k e).2
/-- Series i gets rows of its own, which lie behind the world wr. -/
theorem ClIn.stored {w wr w3 : World} {hs : List Hd} {b : List Ser} {g i : Nat} (h : ClIn w wr hs b g i) (hb : Below wr.heap.size wr w3) {y : Hd} {s : Ser} (hs1 : b[i]? = some s)
    (h1 : w3.ownsRow wr.heap.size 39 2 y.1 s.1.length (labCells s.1)) (h2 : w3.ownsRow wr.heap.size 42 2 y.2 s.2.length (samCells s.2)) (hd : ∀ k, y.1.ownBlock = some k → y.2.ownBlock ≠ some k) :
    ClIn w ((w3.setCell ⟨g, i * 2, none⟩ y.1).setCell ⟨g, i * 2 + 1, none⟩ y.2) (hs.set i y) b g (i + 1) := by
  have hlt : i < hs.length := by have := (List.getElem?_eq_some_iff.1 hs1).1; have := h.len; omega
  have hg : g < wr.heap.size := (h.row.row.lt g rfl).2
  have hwr : w.heap.size ≤ wr.heap.size := h.row.bel.size
  have h3 := h.below hb
  have hm1 : Mods (fun k => k = g) w3 (w3.setCell ⟨g, i * 2, none⟩ y.1) := Mods.set _ _ _ _ (fun _ => rfl)
  have hm : Mods (fun k => k = g) w3 ((w3.setCell ⟨g, i * 2, none⟩ y.1).setCell ⟨g, i * 2 + 1, none⟩ y.2) := hm1.trans (Mods.set (fun k => k = g) _ _ _ (fun _ => rfl)) (fun _ _ e => e)
  have hnew : ∀ k, y.1.ownBlock = some k ∨ y.2.ownBlock = some k → wr.heap.size ≤ k := fun k e => by
    rcases e with e | e
    · exact (h1.lt k e).1
    · exact (h2.lt k e).1
  have hcase : ∀ (j : Nat) (x : Hd), j < i + 1 → (hs.set i y)[j]? = some x → (j = i ∧ x = y) ∨ (j < i ∧ hs[j]? = some x) := fun j x hj hx => by
    rw [List.getElem?_set] at hx
    by_cases e : i = j
    · subst e
      rw [if_pos rfl, if_pos hlt] at hx
      cases hx
      exact Or.inl ⟨rfl, rfl⟩
    · rw [if_neg e] at hx
      exact Or.inr ⟨by omega, hx⟩
  refine ⟨h3.row.stored (y := y) rfl, by rw [List.length_set]; exact h.len, fun j x t hj hx ht => ?_, fun j x k hj hx hk => ?_, fun j x k hj hx hk => ?_, fun j l x x' k hj hl hne hx hx' hk => ?_⟩
  · rcases hcase j x hj hx with ⟨rfl, rfl⟩ | ⟨hj', hx'⟩
    · rw [hs1] at ht
      cases ht
      exact ⟨hm.owns (owns_rebase h1 (fun k hk => by have := (h1.lt k hk).1; omega)) (fun k hk e => by have := (h1.lt k hk).1; have : k = g := e; omega), hm.owns (owns_rebase h2 (fun k hk => by have := (h2.lt k hk).1; omega)) (fun k hk e => by have := (h2.lt k hk).1; have : k = g := e; omega)⟩
    · obtain ⟨a1, a2⟩ := h3.ser j x t hj' hx' ht
      exact ⟨hm.owns a1 (fun k hk e => h.off j x k hj' hx' (Or.inl hk) e), hm.owns a2 (fun k hk e => h.off j x k hj' hx' (Or.inr hk) e)⟩
  · rcases hcase j x hj hx with ⟨rfl, rfl⟩ | ⟨hj', hx'⟩
    · have := hnew k hk; omega
    · exact h.off j x k hj' hx' hk
  · rcases hcase j x hj hx with ⟨rfl, rfl⟩ | ⟨hj', hx'⟩
    · exact hd k hk
    · exact h.par j x k hj' hx' hk
  · rcases hcase j x hj hx with ⟨rfl, rfl⟩ | ⟨hj', hxj⟩
    · rcases hcase l x' hl hx' with ⟨rfl, _⟩ | ⟨hl', hxl⟩
      · exact absurd rfl hne
      · have h4 := hnew k hk
        exact ⟨fun e => by have := h.lt hl' hxl (Or.inl e); omega, fun e => by have := h.lt hl' hxl (Or.inr e); omega⟩
    · rcases hcase l x' hl hx' with ⟨rfl, rfl⟩ | ⟨hl', hxl⟩
      · have h4 := h.lt hj' hxj hk
        exact ⟨fun e => by have := hnew k (Or.inl e); omega, fun e => by have := hnew k (Or.inr e); omega⟩
      · exact h.dis j l x x' k hj' hl' hne hxj hxl hk
/-- All series have. -/
theorem ClIn.got {w wr : World} {hs : List Hd} {b : List Ser} {g : Nat} (h : ClIn w wr hs b g b.length) : GotC w b (.slice (some ⟨g, 0, none⟩) b.length b.length) wr := by
  have hj : ∀ {j : Nat} {x : Hd}, hs[j]? = some x → j < b.length := fun hx => by have := (List.getElem?_eq_some_iff.1 hx).1; have := h.len; omega
  refine ⟨hs, h.row, h.len, fun i x s hx hs => h.ser i x s (hj hx) hx hs, fun i x k hx hk => ?_, fun i x k hx hk => h.par i x k (hj hx) hx hk, fun i j x y k hne hx hy hk => h.dis i j x y k (hj hx) (hj hy) hne hx hy hk⟩
  have hk' : g = k := by simpa [Value.ownBlock] using hk
  exact ⟨fun e => h.off i x k (hj hx) hx (Or.inl e) hk'.symm, fun e => h.off i x k (hj hx) hx (Or.inr e) hk'.symm⟩
end Go.Proofs.YtkodhbkmpnokjaaGreat

end

section
/- Layer 12, the program's own: copyOf at labels. -/
set_option linter.unusedVariables false
set_option maxRecDepth 100000
namespace Go.Proofs.YtkodhbkmpnokjaaGreat
open Go Go.RowKit

theorem infoCpL : (Tryz.prog.info? 39).map (fun i => (i.zero, i.size, i.bytes)) = some (some (.agg #[.string ByteArray.empty, .string ByteArray.empty]), 2, 32) := by kernel_rfl

set_option maxHeartbeats 2000000 in
theorem copyL_any (v : Value) (n : Nat) (cs : List Value) (w : World) (h : Rd w 2 v n cs) (hn : n ≤ 1000000) (h1 : ∀ v ∈ cs, v.oneCell' = true) :
    Calls Tryz.prog 44 #[v] w fun e w' => e = .returned (.slice (some ⟨w.heap.size, 0, none⟩) n n) ∧ w'.ownsRow w.heap.size 39 2 (.slice (some ⟨w.heap.size, 0, none⟩) n n) n cs ∧ Below w.heap.size w w' := by
  have H := Lib.hid h; have HV := Lib.hid h1
  obtain ⟨p, c, e⟩ := h.shape
  subst e
  have HLn : Hid (cs.length = n * 2) := h.len
  obtain ⟨i0, hi0, hz0, hz1, hz2⟩ := info_parts infoCpL
  have HI := Lib.hid hi0; have HZ := Lib.hid hz0; have HZ1 := Lib.hid hz1
  have HZ2 : Hid (i0.bytes * n ≤ 281474976710656 ∧ n ≤ maxLen) := by show _ ∧ _; unfold maxLen; rw [hz2]; omega
  have HSz : Hid ((Tryz.prog.info? 39).map (·.size) = some 2) := by show _ = _; rw [hi0]; simp [hz1]
  have hni : (n : Int) ≤ 1000000 := by omega
  clear h hn h1 hi0 hz0 hz1 hz2
  go_enter Tryz.func44, Tryz.ntmps44
  go_wp2_with (refine wpList_make_full _ rfl _ _ _ rfl w.heap.size 39 i0 (.agg #[.string ByteArray.empty, .string ByteArray.empty]) 2 Tryz.underlying34 HI.out HZ.out HZ1.out _ _ _ _ n rfl rfl rfl rfl HZ2.out.1 HZ2.out.2 (Nat.le_refl _) ?_)
  intro w4 hown hgr
  have HR4 := Lib.hid (row_of_fullK hown)
  have HLm : Hid ((madeCells #[.string ByteArray.empty, .string ByteArray.empty] (n * 2)).toList.toArray.size = n * 2) := by show _ = _; simp [madeCells]
  have HB4 : Hid (Below w.heap.size w w4) := (Mods.of_grown hgr).below (Nat.le_refl _) (fun k _ e => by cases e)
  clear hown hgr
  by_cases h0 : n = 0
  · subst h0
    have hcs : cs = [] := List.eq_nil_of_length_eq_zero (by have := HLn.out; omega)
    have HRow : Hid (w4.ownsRow w.heap.size 39 2 (.slice (some ⟨w.heap.size, 0, none⟩) 0 0) 0 cs) := by
      show World.ownsRow _ _ _ _ _ _ _
      rw [hcs]
      have h := HR4.out
      rw [show (madeCells #[.string ByteArray.empty, .string ByteArray.empty] (0 * 2)).toList = [] from List.eq_nil_of_length_eq_zero (by simp [madeCells])] at h
      exact full_of_rowK h (Nat.le_refl _) rfl (by unfold maxLen; omega)
    have hrun := run_copy_noneK (P := Tryz.prog) w4 34 34 3 39 2 (some ⟨w.heap.size, 0, none⟩) p 0 c Tryz.underlying34 HSz.out
    clear hcs
    go_wp2_with fail
    go_ret
    exact ⟨rfl, HRow.out, HB4.out⟩
  · obtain ⟨b, off, c', e, _, _, hcl⟩ := H.out.at (fun e => by have := HLn.out; rw [e] at this; simp at this; omega)
    simp only [Value.slice.injEq] at e
    obtain ⟨rfl, _, rfl⟩ := e
    have hrun := run_copy_rowK (P := Tryz.prog) w4 34 34 3 39 2 w.heap.size n n ⟨b, off, none⟩ c _ _ cs Tryz.underlying34 HSz.out HR4.out HLn.out
      (fun j v hj => by
        have h3 := hcl j v hj
        have h4 : (⟨b, off, none⟩ : Addr).add j = ⟨b, off + j, none⟩ := by unfold Addr.add; split <;> simp_all
        rw [h4]
        exact (HB4.out.cell (World.block_lt_of_cell? w _ h3)).trans h3) (by rw [HLm.out, HLn.out]) HV.out
    generalize hw5 : w4.setRow _ _ = w5 at hrun
    have HRow : Hid (w5.ownsRow w.heap.size 39 2 (.slice (some ⟨w.heap.size, 0, none⟩) n n) n cs) := by
      show World.ownsRow _ _ _ _ _ _ _
      refine full_of_rowK ?_ (Nat.le_refl _) HLn.out HZ2.out.2
      rw [← hw5, setRow_heap w4 w.heap.size _ _ _ _ HR4.out]
    have HB5 : Hid (Below w.heap.size w w5) := by rw [← hw5]; exact below_rowK HB4.out (Nat.le_refl _) _
    clear hw5 h0 hcl
    go_wp2_with fail
    go_ret
    exact ⟨rfl, HRow.out, HB5.out⟩
end Go.Proofs.YtkodhbkmpnokjaaGreat

end

section
/- Layer 12, the program's own: Clone. -/
set_option linter.unusedVariables false
set_option maxRecDepth 20000
namespace Go.Proofs.YtkodhbkmpnokjaaGreat
open Go Go.RowKit

theorem labOne (l : List Lab) : ∀ v ∈ labCells l, v.oneCell' = true := by
  induction l with
  | nil => intro v hv; cases hv
  | cons x l ih =>
    intro v hv
    have e : labCells (x :: l) = .string x.1 :: .string x.2 :: labCells l := rfl
    rw [e] at hv
    rcases List.mem_cons.1 hv with rfl | hv
    · rfl
    · rcases List.mem_cons.1 hv with rfl | hv
      · rfl
      · exact ih v hv
theorem twoOne (hs : List Hd) (h : ∀ x ∈ hs, x.1.oneCell' = true ∧ x.2.oneCell' = true) : ∀ v ∈ two (Prod.fst : Hd → Value) Prod.snd hs, v.oneCell' = true := by
  induction hs with
  | nil => intro v hv; cases hv
  | cons x l ih =>
    intro v hv
    have e : two (Prod.fst : Hd → Value) Prod.snd (x :: l) = x.1 :: x.2 :: two Prod.fst Prod.snd l := rfl
    rw [e] at hv
    rcases List.mem_cons.1 hv with rfl | hv
    · exact (h x (by simp)).1
    · rcases List.mem_cons.1 hv with rfl | hv
      · exact (h x (by simp)).2
      · exact ih (fun y hy => h y (by simp [hy])) v hv

set_option maxHeartbeats 8000000 in
theorem modClone_any (bv : Value) (b : List Ser) (w : World) (h : RdB w bv b) (hs : Small b) :
    Calls Tryz.prog 17 #[bv] w fun e w' => ∃ r, e = .returned r ∧ GotC w b r w' := by
  have H := Lib.hid h; have HSm := Lib.hid hs
  obtain ⟨hs0, hr, hlen, hser⟩ := h.ex
  obtain ⟨p, c, hv⟩ := h.shape
  subst hv
  have hmx : (b.length : Int) ≤ 300 := by have := hs.len; omega
  have HCp := Lib.hid (copyB_any _ hs0.length (two Prod.fst Prod.snd hs0) w hr (by have := hs.len; omega) (twoOne hs0 (fun x hx => by
    obtain ⟨i, hi⟩ := List.mem_iff_getElem?.1 hx
    obtain ⟨s, hs⟩ : ∃ s, b[i]? = some s := ⟨_, List.getElem?_eq_getElem (by have := (List.getElem?_eq_some_iff.1 hi).1; omega)⟩
    obtain ⟨a1, a2⟩ := hser i x s hi hs
    obtain ⟨p1, c1, e1⟩ := a1.shape
    obtain ⟨p2, c2, e2⟩ := a2.shape
    rw [e1, e2]
    exact ⟨rfl, rfl⟩)))
  have HLen : Hid (hs0.length = b.length) := hlen
  rw [hlen] at HCp
  clear h hs hr hlen hser
  go_enter Tryz.func17, Tryz.ntmps17
  go_wp2_with fail
  refine HCp.out.mono ?_
  rintro e w1 ⟨rfl, hO, hB⟩
  have HC1 : Hid (ClIn w w1 hs0 b w.heap.size 0) := ⟨⟨by rw [HLen.out]; exact hO, hB⟩, HLen.out, fun j _ _ hj => absurd hj (Nat.not_lt_zero j), fun j _ _ hj => absurd hj (Nat.not_lt_zero j), fun j _ _ hj => absurd hj (Nat.not_lt_zero j), fun j _ _ _ _ hj => absurd hj (Nat.not_lt_zero j)⟩
  obtain ⟨g, hg⟩ : ∃ g, w.heap.size = g := ⟨_, rfl⟩
  rw [hg] at HC1 ⊢
  clear hO hB HCp hg
  go_wp2_with fail
  go_loopw [10] (fun iv wr => ∃ (i : Nat) (hs : List Hd), i ≤ b.length ∧ iv = .int .i64 (i : Int) ∧ Hid (ClIn w wr hs b g i)) (fun iv _ => b.length - (intOf iv).toNat)
  case atStart => exact ⟨0, hs0, Nat.zero_le _, rfl, HC1.out⟩
  case round =>
    obtain ⟨i, hs, hi, rfl, HC⟩ := hrel
    clear HC1
    have him : (i : Int) ≤ 300 := by omega
    by_cases hlt : i < b.length
    · have hlt' : (i : Int) < (b.length : Int) := by omega
      obtain ⟨s, hx⟩ : ∃ s, b[i]? = some s := ⟨_, List.getElem?_eq_getElem hlt⟩
      obtain ⟨blk, off, h1, h2, e, ⟨p1, k1, e1⟩, ⟨p2, k2, e2⟩, hal⟩ := H.out.always hx
      subst e
      subst e1
      subst e2
      have hmem := List.mem_of_getElem? hx
      have HL1 : Hid (s.1.length ≤ 200 ∧ s.2.length ≤ 3000) := ⟨HSm.out.lab _ hmem, HSm.out.mem hmem⟩
      obtain ⟨c1, c2, _⟩ := hal wr HC.out.row.bel
      obtain ⟨w2, hw2⟩ : ∃ w2, w2 = wr.alloc (.cells #[.slice p1 s.1.length k1, .slice p2 s.2.length k2] 37) := ⟨_, rfl⟩
      have HW : Hid (wr.alloc (.cells #[.slice p1 s.1.length k1, .slice p2 s.2.length k2] 37) = w2) := hw2.symm
      have hB2 : Below wr.heap.size wr w2 := by rw [hw2]; exact (Below.refl _ wr).alloc (Nat.le_refl _) _
      have HB2 := Lib.hid hB2
      have HK2 : Hid (Blk w2 wr.heap.size [.slice p1 s.1.length k1, .slice p2 s.2.length k2]) := by show Blk _ _ _; rw [hw2]; exact Blk.new wr _ _
      have HAl : Hid (∀ w', Below wr.heap.size wr w' → SerAt w' (.slice p1 s.1.length k1, .slice p2 s.2.length k2) s) := fun w' hb => (hal w' (HC.out.row.bel.trans (hb.mono HC.out.row.bel.size))).2.2
      have HX := Lib.hid hx
      have HGl : Hid (g < wr.heap.size) := (HC.out.row.row.lt g rfl).2
      clear hx hal hmem hw2 hB2
      go_wp2_with fail
      rw [HW.out]
      clear c1 c2 HW
      obtain ⟨bx, hbx⟩ : ∃ bx, wr.heap.size = bx := ⟨_, rfl⟩
      have HBx := Lib.hid hbx
      rw [hbx] at HK2 ⊢
      clear hbx
      have HS : Hid (∀ w' : World, (w'.cell? ⟨bx, 0, none⟩ = some (.slice p1 s.1.length k1) ∧ w'.cell? ⟨bx, 1, none⟩ = some (.slice p2 s.2.length k2) ∧ True) → (w'.cell? ⟨bx, 0, none⟩ = some (.slice p1 s.1.length k1) ∧ w'.cell? ⟨bx, 1, none⟩ = some (.slice p2 s.2.length k2) ∧ True)) := fun _ h => h
      refine wp_normal ?_
      refine wp_region_takeH (fun w' : World => w'.cell? ⟨bx, 0, none⟩ = some (.slice p1 s.1.length k1) ∧ w'.cell? ⟨bx, 1, none⟩ = some (.slice p2 s.2.length k2) ∧ True) [4, 7, 10] [0, 1, 2, 5, 3, 6, 4, 7, 8, 9, 10] (by kernel_rfl) (by kernel_rfl) (by kernel_rfl) ?_ ?_ ?_
      · intro c a a' w hd h; cases h.1
      · exact ⟨by rw [HK2.out.drew.cell]; rfl, by rw [HK2.out.drew.cell]; rfl, trivial⟩
      simp only [taken, List.map_cons, List.map_nil, List.getElem?_cons_succ, List.getElem?_cons_zero, Option.getD_some]
      have HB3 : Hid (Below wr.heap.size wr w2.drew) := HB2.out.trans ((Mods.drew (fun _ => False) w2).below HB2.out.size (fun _ _ e => e))
      have HK3 : Hid (Blk w2.drew bx [.slice p1 s.1.length k1, .slice p2 s.2.length k2]) := HK2.out.drew
      clear HB2 HK2
      generalize w2.drew = w3 at *
      have HCl := Lib.hid (copyL_any _ s.1.length (labCells s.1) w3 (HAl.out w3 HB3.out).1 (by have := HL1.out.1; omega) (labOne s.1))
      simp only at HCl
      repeat (first
        | (refine takeH_skip rfl ?_; simp only [Act.put, List.setIfInBounds_toArray, List.set_cons_succ, List.set_cons_zero])
        | (refine takeH_blind rfl rfl ?_; apply Exists.intro; refine ⟨fun w => ?_, ?_⟩; (go_simp; try with_reducible rfl); simp only [Act.put, List.setIfInBounds_toArray, List.set_cons_succ, List.set_cons_zero])
        | (refine takeH_reads rfl rfl ?_; apply Exists.intro; refine ⟨fun w' hS => ?_, ?_⟩; (obtain ⟨d0, d1, d2⟩ := HS.out w' hS; go_simp; try with_reducible rfl); simp only [Act.put, List.setIfInBounds_toArray, List.set_cons_succ, List.set_cons_zero]))
      refine takeH_call rfl rfl (fun K' hK => ?_)
      go_wp2_with fail
      refine HCl.out.mono ?_
      rintro e w4 ⟨rfl, hO, hB⟩
      have HB4 : Hid (Below wr.heap.size wr w4) := HB3.out.trans (hB.mono HB3.out.size)
      have HK4 : Hid (Blk w4 bx [.slice p1 s.1.length k1, .slice p2 s.2.length k2]) := HK3.out.of_same (hB.block _ HK3.out.lt)
      have HO4 : Hid (w4.ownsRow wr.heap.size 39 2 (.slice (some ⟨w3.heap.size, 0, none⟩) s.1.length s.1.length) s.1.length (labCells s.1)) := owns_rebase hO (fun k hk => Nat.le_trans HB3.out.size (hO.lt k hk).1)
      have HG4 : Hid (w3.heap.size < w4.heap.size) := (hO.lt w3.heap.size rfl).2
      refine hK _ _ ⟨by rw [HK4.out.cell]; rfl, by rw [HK4.out.cell]; rfl, trivial⟩ ?_
      clear hK K' hO hB HCl HK3 HB3
      generalize w3.heap.size = gl at *
      have HCs := Lib.hid (copyS_any _ s.2.length (samCells s.2) w4 (HAl.out w4 HB4.out).2 (by have := HL1.out.2; omega) (samOne s.2))
      simp only at HCs
      repeat (first
        | (refine takeH_skip rfl ?_; simp only [Act.put, List.setIfInBounds_toArray, List.set_cons_succ, List.set_cons_zero])
        | (refine takeH_blind rfl rfl ?_; apply Exists.intro; refine ⟨fun w => ?_, ?_⟩; (go_simp; try with_reducible rfl); simp only [Act.put, List.setIfInBounds_toArray, List.set_cons_succ, List.set_cons_zero])
        | (refine takeH_reads rfl rfl ?_; apply Exists.intro; refine ⟨fun w' hS => ?_, ?_⟩; (obtain ⟨d0, d1, d2⟩ := HS.out w' hS; go_simp; try with_reducible rfl); simp only [Act.put, List.setIfInBounds_toArray, List.set_cons_succ, List.set_cons_zero]))
      refine takeH_call rfl rfl (fun K' hK => ?_)
      go_wp2_with fail
      refine HCs.out.mono ?_
      rintro e w5 ⟨rfl, hO, hB⟩
      have HB5 : Hid (Below wr.heap.size wr w5) := HB4.out.trans (hB.mono HB4.out.size)
      have HK5 : Hid (Blk w5 bx [.slice p1 s.1.length k1, .slice p2 s.2.length k2]) := HK4.out.of_same (hB.block _ HK4.out.lt)
      have HO5 : Hid (w5.ownsRow wr.heap.size 39 2 (.slice (some ⟨gl, 0, none⟩) s.1.length s.1.length) s.1.length (labCells s.1)) := (Mods.of_below hB (fun _ => False)).owns HO4.out (fun _ _ e => e)
      have HP5 : Hid (w5.ownsRow wr.heap.size 42 2 (.slice (some ⟨w4.heap.size, 0, none⟩) s.2.length s.2.length) s.2.length (samCells s.2)) := owns_rebase hO (fun k hk => Nat.le_trans HB4.out.size (hO.lt k hk).1)
      refine hK _ _ ⟨by rw [HK5.out.cell]; rfl, by rw [HK5.out.cell]; rfl, trivial⟩ ?_
      clear hK K' hO hB HCs HK4 HB4 HO4
      generalize w4.heap.size = gs at *
      have HLn : Hid (hs.length = b.length) := HC.out.len
      obtain ⟨z, hz⟩ : ∃ z, hs[i]? = some z := ⟨_, List.getElem?_eq_getElem (by have := HLn.out; omega)⟩
      have HC5 := Lib.hid (HC.out.below HB5.out)
      obtain ⟨⟨d0, d1⟩, f0, f1⟩ := HC5.out.row.cell hz
      have HN : Hid (ClIn w ((w5.setCell ⟨g, i * 2, none⟩ (.slice (some ⟨gl, 0, none⟩) s.1.length s.1.length)).setCell ⟨g, i * 2 + 1, none⟩ (.slice (some ⟨gs, 0, none⟩) s.2.length s.2.length)) (hs.set i (.slice (some ⟨gl, 0, none⟩) s.1.length s.1.length, .slice (some ⟨gs, 0, none⟩) s.2.length s.2.length)) b g (i + 1)) :=
        HC.out.stored (y := (.slice (some ⟨gl, 0, none⟩) s.1.length s.1.length, .slice (some ⟨gs, 0, none⟩) s.2.length s.2.length)) HB5.out HX.out HO5.out HP5.out (fun k e1 e2 => by
          have h1 : gl = k := by simpa [Value.ownBlock] using e1
          have h2 : gs = k := by simpa [Value.ownBlock] using e2
          have := HG4.out
          omega)
      have hgb : g ≠ bx := by have := HGl.out; have := HBx.out; omega
      have q0 : ((w5.setCell ⟨g, i * 2, none⟩ (.slice (some ⟨gl, 0, none⟩) s.1.length s.1.length)).setCell ⟨g, i * 2 + 1, none⟩ (.slice (some ⟨gs, 0, none⟩) s.2.length s.2.length)).cell? ⟨bx, 0, none⟩ = some (.slice p1 s.1.length k1) := by
        rw [((HK5.out.set_other (a := ⟨g, i * 2, none⟩) (fun e => hgb e.symm) _).set_other (a := ⟨g, i * 2 + 1, none⟩) (fun e => hgb e.symm) _).cell]; rfl
      have q1 : ((w5.setCell ⟨g, i * 2, none⟩ (.slice (some ⟨gl, 0, none⟩) s.1.length s.1.length)).setCell ⟨g, i * 2 + 1, none⟩ (.slice (some ⟨gs, 0, none⟩) s.2.length s.2.length)).cell? ⟨bx, 1, none⟩ = some (.slice p2 s.2.length k2) := by
        rw [((HK5.out.set_other (a := ⟨g, i * 2, none⟩) (fun e => hgb e.symm) _).set_other (a := ⟨g, i * 2 + 1, none⟩) (fun e => hgb e.symm) _).cell]; rfl
      have HQ := Lib.hid (And.intro q0 q1)
      clear q0 q1 HC HC5 hz HO5 HP5 HK5 HB5
      repeat (first
        | (refine takeH_skip rfl ?_; simp only [Act.put, List.setIfInBounds_toArray, List.set_cons_succ, List.set_cons_zero])
        | (refine takeH_blind rfl rfl ?_; apply Exists.intro; refine ⟨fun w => ?_, ?_⟩; (go_simp; try with_reducible rfl); simp only [Act.put, List.setIfInBounds_toArray, List.set_cons_succ, List.set_cons_zero])
        | (refine takeH_reads rfl rfl ?_; apply Exists.intro; refine ⟨fun w' hS => ?_, ?_⟩; (obtain ⟨d0, d1, d2⟩ := HS.out w' hS; go_simp; try with_reducible rfl); simp only [Act.put, List.setIfInBounds_toArray, List.set_cons_succ, List.set_cons_zero]))
      refine takeH_call rfl rfl (fun K' hK => ?_)
      go_wp2_with fail
      refine hK _ _ ⟨HQ.out.1, HQ.out.2, trivial⟩ ?_
      clear hK K' d0 d1 f0 f1
      repeat (first
        | (refine takeH_skip rfl ?_; simp only [Act.put, List.setIfInBounds_toArray, List.set_cons_succ, List.set_cons_zero])
        | (refine takeH_blind rfl rfl ?_; apply Exists.intro; refine ⟨fun w => ?_, ?_⟩; (go_simp; try with_reducible rfl); simp only [Act.put, List.setIfInBounds_toArray, List.set_cons_succ, List.set_cons_zero])
        | (refine takeH_reads rfl rfl ?_; apply Exists.intro; refine ⟨fun w' hS => ?_, ?_⟩; (obtain ⟨d0, d1, d2⟩ := HS.out w' hS; go_simp; try with_reducible rfl); simp only [Act.put, List.setIfInBounds_toArray, List.set_cons_succ, List.set_cons_zero]))
      refine takeH_nil ⟨rfl, ?_⟩
      clear HS HQ hgb
      go_wp2_with fail
      go_round
      case rel => exact ⟨i + 1, _, by omega, by go_num, HN.out⟩
      case measure => simp [intOf]; omega
    · have hlt' : ¬ (i : Int) < (b.length : Int) := by omega
      have hil : i = b.length := by omega
      subst hil
      have HG := Lib.hid HC.out.got
      go_wp2_with fail
      go_ret
      exact ⟨_, rfl, HG.out⟩
end Go.Proofs.YtkodhbkmpnokjaaGreat

end

section
/- Layer 12: the program's model is as the walks ask. -/
set_option linter.unusedVariables false
namespace Go.Proofs.YtkodhbkmpnokjaaGreat
open Go Go.RowKit

theorem model : MoIf 0 (fun _ => True) where
  keeps := fun _ _ _ => trivial
  low := fun _ => Nat.zero_le _
  check := fun bv b w _ h hz hs => modCheck_any bv b w h hz hs
  norm := fun bv b w _ h hz hs => modNorm_any bv b w h hz hs
  equal := fun av bv a b w _ ha hb _ _ sa sb => modEqual_any av bv a b w ha hb sa sb
  samples := fun bv b w _ h _ hs => (modSamples_any bv b w h (by have := hs.len; omega) (by have := hs.sam; omega)).mono fun _ _ ⟨h1, h2⟩ => ⟨h1, h2.below⟩
  symbols := fun bv b w _ h _ hs => modSymbols_any bv b w h hs
  clone := fun bv b w _ h _ hs => modClone_any bv b w h hs
end Go.Proofs.YtkodhbkmpnokjaaGreat

end

section
/- Layer 12: a clone whose rows are written to: what stays as it was. -/
set_option linter.unusedVariables false
set_option maxRecDepth 20000
namespace Go.Proofs.YtkodhbkmpnokjaaGreat
open Go Go.RowKit

theorem labCells_setV (l : List Lab) (k : Nat) (x : Lab) (v : ByteArray) (h : l[k]? = some x) : (labCells l).set (k * 2 + 1) (.string v) = labCells (l.set k (x.1, v)) := by
  have h1 := two_set (f1 := fun x : Lab => Value.string x.1) (f2 := fun x : Lab => Value.string x.2) l k (x.1, v)
  have h2 := (two_get (f1 := fun x : Lab => Value.string x.1) (f2 := fun x : Lab => Value.string x.2) l k x h).1
  rw [labCells_two', labCells_two', ← h1]
  congr 1
  apply List.ext_getElem?
  intro j
  by_cases hj : k * 2 = j
  · subst hj
    rw [List.getElem?_set_self (List.getElem?_eq_some_iff.1 h2).1, h2]
  · rw [List.getElem?_set_ne hj]
theorem samCells_setT (l : List Sam) (k : Nat) (x : Sam) (t : Int) (h : l[k]? = some x) : (samCells l).set (k * 2) (.int .i64 t) = samCells (l.set k (t, x.2)) := by
  have h1 := two_set (f1 := fun x : Sam => Value.int .i64 x.1) (f2 := fun x : Sam => Value.int .u64 (x.2 : Int)) l k (t, x.2)
  have h2 := (two_get (f1 := fun x : Sam => Value.int .i64 x.1) (f2 := fun x : Sam => Value.int .u64 (x.2 : Int)) l k x h).2
  rw [samCells_two, samCells_two, ← h1]
  apply List.ext_getElem?
  intro j
  by_cases hj : k * 2 + 1 = j
  · subst hj
    rw [List.getElem?_set_self (by rw [List.length_set]; exact (List.getElem?_eq_some_iff.1 h2).1), List.getElem?_set_ne (by omega), h2]
  · rw [List.getElem?_set_ne hj]

/-- The rows of a clone lie apart. -/
structure Apart (hs : List Hd) (r : Value) : Prop where
  top : ∀ (i : Nat) (h : Hd) (k : Nat), hs[i]? = some h → r.ownBlock = some k → h.1.ownBlock ≠ some k ∧ h.2.ownBlock ≠ some k
  two : ∀ (i : Nat) (h : Hd) (k : Nat), hs[i]? = some h → h.1.ownBlock = some k → h.2.ownBlock ≠ some k
  all : ∀ (i j : Nat) (h g : Hd) (k : Nat), i ≠ j → hs[i]? = some h → hs[j]? = some g → h.1.ownBlock = some k ∨ h.2.ownBlock = some k → g.1.ownBlock ≠ some k ∧ g.2.ownBlock ≠ some k
/-- A clone under way: its rows, whatever they hold, between the blocks B and C; the values of the labels that are to do (td) are short. -/
structure ClAt (B C : Nat) (td : Nat → Nat → Prop) (wr : World) (hs : List Hd) (r : Value) (b : List Ser) : Prop where
  row : wr.ownsRow B 37 2 r hs.length (two Prod.fst Prod.snd hs)
  len : hs.length = b.length
  lab : ∀ (i : Nat) (h : Hd) (s : Ser), hs[i]? = some h → b[i]? = some s → ∃ l : List Lab, l.length = s.1.length ∧ wr.ownsRow B 39 2 h.1 s.1.length (labCells l) ∧ ∀ (k : Nat) (x : Lab), td i k → l[k]? = some x → x.2.size ≤ 200000
  sam : ∀ (i : Nat) (h : Hd) (s : Ser), hs[i]? = some h → b[i]? = some s → ∃ l : List Sam, l.length = s.2.length ∧ wr.ownsRow B 42 2 h.2 s.2.length (samCells l)
  low : ∀ (i : Nat) (h : Hd) (k : Nat), hs[i]? = some h → h.1.ownBlock = some k ∨ h.2.ownBlock = some k → B ≤ k ∧ k < C
theorem GotC.clAt {w w' : World} {b : List Ser} {r : Value} (h : GotC w b r w') (hb : ∀ s ∈ b, ∀ x ∈ stringsL s.1, x.size ≤ 200000) : ∃ hs, ClAt w.heap.size w'.heap.size (fun _ _ => True) w' hs r b ∧ Apart hs r := by
  obtain ⟨hs, h1, h2, h3, h4, h5, h6⟩ := h.ex
  refine ⟨hs, ⟨h1.row, h2, fun i h s hi hj => ⟨s.1, rfl, (h3 i h s hi hj).1, fun k x _ hx => hb s (List.mem_of_getElem? hj) x.2 (List.mem_flatMap.2 ⟨x, List.mem_of_getElem? hx, by simp⟩)⟩, fun i h s hi hj => ⟨s.2, rfl, (h3 i h s hi hj).2⟩, fun i h k hi hk => ?_⟩, h4, h5, h6⟩
  have hlt := (List.getElem?_eq_some_iff.1 hi).1
  obtain ⟨s, hs⟩ : ∃ s, b[i]? = some s := ⟨_, List.getElem?_eq_getElem (by omega)⟩
  rcases hk with e | e
  · exact (h3 i h s hi hs).1.lt k e
  · exact (h3 i h s hi hs).2.lt k e
theorem GotC.kept {w w' w'' : World} {b : List Ser} {r : Value} (h : GotC w b r w') {S : Nat → Prop} (hm : Mods S w' w'') (hs : ∀ k, S k → k < w.heap.size) : RdB w'' r b := by
  obtain ⟨hs', h1, h2, h3, _⟩ := h.ex
  have ho : ∀ {e : TypeId} {sz : Nat} {v : Value} {n : Nat} {xs : List Value}, w'.ownsRow w.heap.size e sz v n xs → w''.ownsRow w.heap.size e sz v n xs := fun k => hm.owns k (fun j hj e => by have := (k.lt j hj).1; have := hs j e; omega)
  exact ⟨hs', Rd.of_owns (ho h1.row), h2, fun i h s hi hj => ⟨Rd.of_owns (ho (h3 i h s hi hj).1), Rd.of_owns (ho (h3 i h s hi hj).2)⟩⟩
theorem ClAt.mono {B C : Nat} {td td' : Nat → Nat → Prop} {w : World} {hs : List Hd} {r : Value} {b : List Ser} (h : ClAt B C td w hs r b) (hm : ∀ i k, td' i k → td i k) : ClAt B C td' w hs r b :=
  ⟨h.row, h.len, fun i g s hi hj => by obtain ⟨l, h1, h2, h3⟩ := h.lab i g s hi hj; exact ⟨l, h1, h2, fun k x ht => h3 k x (hm i k ht)⟩, h.sam, h.low⟩
theorem ClAt.below {B C : Nat} {td : Nat → Nat → Prop} {w w' : World} {hs : List Hd} {r : Value} {b : List Ser} (h : ClAt B C td w hs r b) (hb : Below w.heap.size w w') : ClAt B C td w' hs r b := by
  have ho : ∀ {e : TypeId} {sz : Nat} {v : Value} {n : Nat} {xs : List Value}, w.ownsRow B e sz v n xs → w'.ownsRow B e sz v n xs := fun k => (Mods.of_below hb (fun _ => False)).owns k (fun _ _ e => e)
  exact ⟨ho h.row, h.len, fun i g s hi hj => by obtain ⟨l, h1, h2, h3⟩ := h.lab i g s hi hj; exact ⟨l, h1, ho h2, h3⟩, fun i g s hi hj => by obtain ⟨l, h1, h2⟩ := h.sam i g s hi hj; exact ⟨l, h1, ho h2⟩, h.low⟩
/-- The heads of series i, as cells. -/
theorem ClAt.head {B C : Nat} {td : Nat → Nat → Prop} {w : World} {hs : List Hd} {p : Option Addr} {n c : Nat} {b : List Ser} (h : ClAt B C td w hs (.slice p n c) b) {i : Nat} {s : Ser} (hi : b[i]? = some s) :
    ∃ g h1 h2, p = some ⟨g, 0, none⟩ ∧ hs[i]? = some (h1, h2) ∧ w.cell? ⟨g, i * 2, none⟩ = some h1 ∧ w.cell? ⟨g, i * 2 + 1, none⟩ = some h2 ∧ (∃ p1 c1, h1 = .slice p1 s.1.length c1) ∧ (∃ p2 c2, h2 = .slice p2 s.2.length c2) := by
  have hlt := (List.getElem?_eq_some_iff.1 hi).1
  obtain ⟨⟨h1, h2⟩, hh⟩ : ∃ g, hs[i]? = some g := ⟨_, List.getElem?_eq_getElem (by rw [h.len]; exact hlt)⟩
  have hr := h.row
  obtain ⟨l1, e1, o1, _⟩ := h.lab i _ s hh hi
  obtain ⟨l2, e2, o2⟩ := h.sam i _ s hh hi
  rcases owns_cases hr with ⟨_, h0, _⟩ | ⟨g, cap, hv, _⟩
  · have := h.len; omega
  · simp only [Value.slice.injEq] at hv
    obtain ⟨rfl, rfl, rfl⟩ := hv
    obtain ⟨c1, c2⟩ := two_get (f1 := (Prod.fst : Hd → Value)) (f2 := (Prod.snd : Hd → Value)) hs i _ hh
    have hl := two_length (f1 := (Prod.fst : Hd → Value)) (f2 := (Prod.snd : Hd → Value)) hs
    have hln := h.len
    exact ⟨g, h1, h2, rfl, hh, by rw [hr.cellAt (i * 2) (by omega)]; exact c1, by rw [hr.cellAt (i * 2 + 1) (by omega)]; exact c2, (Rd.of_owns o1).shape, (Rd.of_owns o2).shape⟩
/-- A label's value is written over. -/
theorem ClAt.labStep {B C : Nat} {td : Nat → Nat → Prop} {w : World} {hs : List Hd} {r : Value} {b : List Ser} (h : ClAt B C td w hs r b) (ha : Apart hs r) {i k : Nat} {s : Ser} {h1 h2 : Value} (hh : hs[i]? = some (h1, h2)) (hi : b[i]? = some s) (hk : k < s.1.length) (htd : td i k) :
    ∃ g c v, h1 = .slice (some ⟨g, 0, none⟩) s.1.length c ∧ w.cell? ⟨g, k * 2 + 1, none⟩ = some (.string v) ∧ w.frozen? ⟨g, k * 2 + 1, none⟩ = false ∧ v.size ≤ 200000 ∧
      ∀ v', ClAt B C (fun i' k' => td i' k' ∧ ¬ (i' = i ∧ k' = k)) (w.setCell ⟨g, k * 2 + 1, none⟩ (.string v')) hs r b ∧ Mods (fun j => B ≤ j ∧ j < C) w (w.setCell ⟨g, k * 2 + 1, none⟩ (.string v')) := by
  obtain ⟨l, e1, o1, hz⟩ := h.lab i _ s hh hi
  rcases owns_cases o1 with ⟨_, h0, _⟩ | ⟨g, cap, hv, _⟩
  · omega
  · simp only at hv o1
    subst hv
    obtain ⟨⟨n, v⟩, hx⟩ : ∃ x, l[k]? = some x := ⟨_, List.getElem?_eq_getElem (by omega)⟩
    have hc := (labCells_get l k n v hx).2
    have hl := labCells_length l
    have hg : ∀ j, (Value.slice (some ⟨g, 0, none⟩) s.1.length cap).ownBlock = some j ↔ g = j := fun j => by simp [Value.ownBlock]
    refine ⟨g, cap, v, rfl, by rw [o1.cellAt (k * 2 + 1) (by omega)]; exact hc, o1.frozenAt _, hz k _ htd hx, fun v' => ?_⟩
    have hm : Mods (fun j => j = g) w (w.setCell ⟨g, k * 2 + 1, none⟩ (.string v')) := Mods.set _ _ _ _ (fun _ => rfl)
    have hlow := h.low i _ g hh (Or.inl rfl)
    refine ⟨⟨hm.owns h.row (fun j hj e => ?_), h.len, fun i2 g2 s2 hi2 hj2 => ?_, fun i2 g2 s2 hi2 hj2 => ?_, h.low⟩, hm.mono (fun j _ e => by subst e; exact hlow)⟩
    · subst e; exact (ha.top i _ j hh hj).1 rfl
    · by_cases e : i = i2
      · subst e
        rw [hh] at hi2; cases hi2
        rw [hi] at hj2; cases hj2
        exact ⟨l.set k (n, v'), by rw [List.length_set]; exact e1, by rw [← labCells_setV l k (n, v) v' hx]; exact (o1.stored (k * 2 + 1) _).1, fun k2 x ht hx2 => hz k2 x ht.1 (by rwa [List.getElem?_set_ne (fun e => ht.2 ⟨rfl, e.symm⟩)] at hx2)⟩
      · obtain ⟨l2, a1, a2, a3⟩ := h.lab i2 g2 s2 hi2 hj2
        exact ⟨l2, a1, hm.owns a2 (fun j hj e2 => by subst e2; exact (ha.all i i2 _ _ j e hh hi2 (Or.inl rfl)).1 hj), fun k2 x ht => a3 k2 x ht.1⟩
    · obtain ⟨l2, a1, a2⟩ := h.sam i2 g2 s2 hi2 hj2
      refine ⟨l2, a1, hm.owns a2 (fun j hj e2 => ?_)⟩
      subst e2
      by_cases e : i = i2
      · subst e
        rw [hh] at hi2; cases hi2
        exact ha.two i _ j hh rfl hj
      · exact (ha.all i i2 _ _ j e hh hi2 (Or.inl rfl)).2 hj
/-- A sample's time is written over. -/
theorem ClAt.samStep {B C : Nat} {td : Nat → Nat → Prop} {w : World} {hs : List Hd} {r : Value} {b : List Ser} (h : ClAt B C td w hs r b) (ha : Apart hs r) {i k : Nat} {s : Ser} {h1 h2 : Value} (hh : hs[i]? = some (h1, h2)) (hi : b[i]? = some s) (hk : k < s.2.length) :
    ∃ g c t, h2 = .slice (some ⟨g, 0, none⟩) s.2.length c ∧ w.cell? ⟨g, k * 2, none⟩ = some (.int .i64 t) ∧ w.frozen? ⟨g, k * 2, none⟩ = false ∧
      ∀ t', ClAt B C td (w.setCell ⟨g, k * 2, none⟩ (.int .i64 t')) hs r b ∧ Mods (fun j => B ≤ j ∧ j < C) w (w.setCell ⟨g, k * 2, none⟩ (.int .i64 t')) := by
  obtain ⟨l, e1, o1⟩ := h.sam i _ s hh hi
  rcases owns_cases o1 with ⟨_, h0, _⟩ | ⟨g, cap, hv, _⟩
  · omega
  · simp only at hv o1
    subst hv
    obtain ⟨⟨n, v⟩, hx⟩ : ∃ x, l[k]? = some x := ⟨_, List.getElem?_eq_getElem (by omega)⟩
    have hc := (two_get (f1 := fun x : Sam => Value.int .i64 x.1) (f2 := fun x : Sam => Value.int .u64 (x.2 : Int)) l k _ hx).1
    have hl := samCells_length l
    refine ⟨g, cap, n, rfl, by rw [o1.cellAt (k * 2) (by omega)]; exact hc, o1.frozenAt _, fun t' => ?_⟩
    have hm : Mods (fun j => j = g) w (w.setCell ⟨g, k * 2, none⟩ (.int .i64 t')) := Mods.set _ _ _ _ (fun _ => rfl)
    have hlow := h.low i _ g hh (Or.inr rfl)
    refine ⟨⟨hm.owns h.row (fun j hj e => ?_), h.len, fun i2 g2 s2 hi2 hj2 => ?_, fun i2 g2 s2 hi2 hj2 => ?_, h.low⟩, hm.mono (fun j _ e => by subst e; exact hlow)⟩
    · subst e; exact (ha.top i _ j hh hj).2 rfl
    · obtain ⟨l2, a1, a2, a3⟩ := h.lab i2 g2 s2 hi2 hj2
      refine ⟨l2, a1, hm.owns a2 (fun j hj e2 => ?_), a3⟩
      subst e2
      by_cases e : i = i2
      · subst e
        rw [hh] at hi2; cases hi2
        exact ha.two i _ j hh hj rfl
      · exact (ha.all i i2 _ _ j e hh hi2 (Or.inr rfl)).1 hj
    · by_cases e : i = i2
      · subst e
        rw [hh] at hi2; cases hi2
        rw [hi] at hj2; cases hj2
        exact ⟨l.set k (t', v), by rw [List.length_set]; exact e1, by rw [← samCells_setT l k (n, v) t' hx]; exact (o1.stored (k * 2) _).1⟩
      · obtain ⟨l2, a1, a2⟩ := h.sam i2 g2 s2 hi2 hj2
        exact ⟨l2, a1, hm.owns a2 (fun j hj e2 => by subst e2; exact (ha.all i i2 _ _ j e hh hi2 (Or.inr rfl)).2 hj)⟩
end Go.Proofs.YtkodhbkmpnokjaaGreat

end

section
/- slices.Equal of strings. -/
set_option linter.unusedVariables false
namespace Go.Proofs.YtkodhbkmpnokjaaGreat
open Go Go.RowKit

set_option maxHeartbeats 1000000 in
/-- slices.Equal. -/
theorem equal_str (a b : Value) (l k : List ByteArray) (w : World) (ha : Rd w 1 a l.length (strs l)) (hb : Rd w 1 b k.length (strs k)) :
    Calls Tryz.prog 20 #[a, b] w fun e w' => e = .returned (.bool (decide (l = k))) ∧ Below w.heap.size w w' := by
  have HA := Lib.hid ha; have HB := Lib.hid hb
  obtain ⟨pa, ca, hv⟩ := ha.shape
  subst hv
  obtain ⟨pb, cb, hv⟩ := hb.shape
  subst hv
  clear ha hb
  by_cases hlen : l.length = k.length
  · have hlb : ((l.length : Int) == (k.length : Int)) = true := by rw [hlen]; simp
    have hli : (l.length : Int) = (k.length : Int) := by omega
    have HLen := Lib.hid hlen
    have HMax : Hid ((l.length : Int) ≤ 9223372036854775807) := by show _ ≤ _; have := HA.out.le; unfold maxLen at this; omega
    rw [← hlen] at HB ⊢
    clear hlen hlb hli
    go_enter Tryz.func20, Tryz.ntmps20
    go_wp2_with fail
    go_loopw [13] (fun i wr => ∃ j : Nat, j ≤ l.length ∧ i = .int .i64 (j : Int) ∧ Hid (Below w.heap.size w wr) ∧ Hid (l.take j = k.take j)) (fun i _ => l.length - (intOf i).toNat)
    case atStart => exact ⟨0, by omega, rfl, Below.refl _ _, rfl⟩
    case round =>
      obtain ⟨j, hj, rfl, HBw, HT⟩ := hrel
      by_cases hlt : j < l.length
      · have hlt' : (j : Int) < (l.length : Int) := by omega
        have hmx := HMax.out
        have hltk : j < k.length := by have := HLen.out; omega
        have hca := (HA.out.below HBw.out)
        have hcb := (HB.out.below HBw.out)
        obtain ⟨b1, o1, c1, e, m1, m2, hc1⟩ := hca.at (fun e => by have := congrArg List.length e; rw [strs_length] at this; simp at this; subst this; simp at hlt)
        simp only [Value.slice.injEq] at e
        obtain ⟨rfl, _, rfl⟩ := e
        obtain ⟨b2, o2, c2, e, m3, m4, hc2⟩ := hcb.at (fun e => by have := congrArg List.length e; rw [strs_length] at this; simp at this; subst this; simp at hltk)
        simp only [Value.slice.injEq] at e
        obtain ⟨rfl, _, rfl⟩ := e
        have h1 := hc1 j _ (strs_get l j hlt)
        have h2 := hc2 j _ (strs_get k j hltk)
        have HS : Hid (l[j] = k[j] → l.take (j + 1) = k.take (j + 1)) := fun e => by rw [List.take_add_one, List.take_add_one, List.getElem?_eq_getElem hlt, List.getElem?_eq_getElem hltk, e, HT.out]
        have HN : Hid (l[j] ≠ k[j] → decide (l = k) = false) := fun e => by
          rw [decide_eq_false_iff_not]
          intro h
          apply e
          have h3 : l[j]? = k[j]? := by rw [h]
          rw [List.getElem?_eq_getElem hlt, List.getElem?_eq_getElem hltk] at h3
          exact Option.some.inj h3
        clear hc1 hc2 hca hcb m1 m2 m3 m4
        generalize l[j] = x at *
        generalize k[j] = y at *
        clear hltk
        by_cases hxy : x = y
        · subst hxy
          have HS2 := Lib.hid (HS.out rfl)
          clear HS HN
          go_wp2_with fail
          go_quiet (fail)
          have HB2 : Hid (Below w.heap.size w (wr.drewN nq)) := HBw.out.trans ⟨rfl, rfl, rfl, Nat.le_refl _, fun _ _ => rfl⟩
          clear h1 h2
          generalize wr.drewN nq = w2 at *
          go_wp2_with fail
          go_round
          case rel => exact ⟨j + 1, by omega, by go_num, HB2.out, HS2.out⟩
          case measure => simp [intOf]; omega
        · have HN2 := Lib.hid (HN.out hxy)
          have hxb : (x.toList == y.toList) = false := by rw [eqS]; simpa using hxy
          clear HS HN hxy
          go_wp2_with fail
          go_quiet (fail)
          have HB2 : Hid (Below w.heap.size w (wr.drewN nq)) := HBw.out.trans ⟨rfl, rfl, rfl, Nat.le_refl _, fun _ _ => rfl⟩
          clear h1 h2
          generalize wr.drewN nq = w2 at *
          go_wp2_with fail
          go_ret
          exact ⟨by rw [HN2.out]; rfl, HB2.out⟩
      · obtain rfl : j = l.length := by omega
        have hnl : ¬ (l.length : Int) < (l.length : Int) := by omega
        have HE : Hid (decide (l = k) = true) := by
          show _ = _
          rw [decide_eq_true_iff]
          have h := HT.out
          rw [List.take_length, List.take_of_length_le (by have := HLen.out; omega)] at h
          exact h
        go_wp2_with fail
        go_ret
        exact ⟨by rw [HE.out]; rfl, HBw.out⟩
  · have hlb : ((l.length : Int) == (k.length : Int)) = false := by rw [beq_eq_false_iff_ne]; omega
    have hli : ¬ (l.length : Int) = (k.length : Int) := by omega
    have HE : Hid (decide (l = k) = false) := by
      show _ = _
      rw [decide_eq_false_iff_not]
      intro h; exact hlen (by rw [h])
    clear hlen
    go_enter Tryz.func20, Tryz.ntmps20
    go_wp2_with fail
    go_ret
    exact ⟨by rw [HE.out]; rfl, Below.refl _ _⟩

end Go.Proofs.YtkodhbkmpnokjaaGreat

end

section
/- Layer 12: slices.Reverse of series: of their two heads. -/
set_option linter.unusedVariables false
set_option maxRecDepth 20000
namespace Go.Proofs.YtkodhbkmpnokjaaGreat
open Go Go.RowKit

/-- The two heads of a series: where, how many, what room. -/
abbrev Sl := Option Addr × Nat × Nat
abbrev HdS := Sl × Sl
abbrev slV (s : Sl) : Value := .slice s.1 s.2.1 s.2.2
abbrev hdCells (d : List HdS) : List Value := two (fun h : HdS => slV h.1) (fun h : HdS => slV h.2) d
theorem hdCells_length (d : List HdS) : (hdCells d).length = d.length * 2 := two_length d
theorem hdCells_get (d : List HdS) (j : Nat) (n v : Sl) (h : d[j]? = some (n, v)) : (hdCells d)[j * 2]? = some (slV n) ∧ (hdCells d)[j * 2 + 1]? = some (slV v) := two_get d j (n, v) h
theorem hdCells_set (d : List HdS) (i : Nat) (y : HdS) : ((hdCells d).set (i * 2) (.slice y.1.1 y.1.2.1 y.1.2.2)).set (i * 2 + 1) (.slice y.2.1 y.2.2.1 y.2.2.2) = hdCells (d.set i y) := two_set d i y
def hdZ : HdS := ((none, 0, 0), (none, 0, 0))
/-- The list when i pairs have been exchanged. -/
def revHd (l : List HdS) (i : Nat) : List HdS := (List.range l.length).map fun k => if k < i ∨ l.length ≤ k + i then l.getD (l.length - 1 - k) hdZ else l.getD k hdZ
theorem revHd_length (l : List HdS) (i : Nat) : (revHd l i).length = l.length := by simp [revHd]
theorem revHd_get (l : List HdS) (i k : Nat) (h : k < l.length) : (revHd l i)[k]? = some (if k < i ∨ l.length ≤ k + i then l.getD (l.length - 1 - k) hdZ else l.getD k hdZ) := by simp [revHd, h]
theorem revHd_zero (l : List HdS) : revHd l 0 = l := by
  apply List.ext_getElem?
  intro k
  by_cases h : k < l.length
  · rw [revHd_get l 0 k h, if_neg (by omega), List.getD_eq_getElem?_getD, List.getElem?_eq_getElem h]; rfl
  · rw [List.getElem?_eq_none (by rw [revHd_length]; omega), List.getElem?_eq_none (by omega)]
theorem revHd_done (l : List HdS) (i : Nat) (h : l.length ≤ 2 * i + 1) : revHd l i = l.reverse := by
  apply List.ext_getElem?
  intro k
  by_cases hk : k < l.length
  · rw [revHd_get l i k hk, List.getElem?_reverse hk]
    have h1 : l.length - 1 - k < l.length := by omega
    split
    · rw [List.getElem?_eq_getElem h1, List.getD_eq_getElem?_getD, List.getElem?_eq_getElem h1]; rfl
    · next hn =>
      have e : l.length - 1 - k = k := by omega
      rw [e, List.getElem?_eq_getElem hk, List.getD_eq_getElem?_getD, List.getElem?_eq_getElem hk]; rfl
  · rw [List.getElem?_eq_none (by rw [revHd_length]; omega), List.getElem?_eq_none (by rw [List.length_reverse]; omega)]
theorem revHd_step (l : List HdS) (i j : Nat) (hj : i + j + 1 = l.length) (h : i < j) : ((revHd l i).set i (l.getD j hdZ)).set j (l.getD i hdZ) = revHd l (i + 1) := by
  apply List.ext_getElem?
  intro k
  by_cases hk : k < l.length
  · rw [revHd_get l (i + 1) k hk]
    by_cases e1 : k = j
    · subst e1
      rw [List.getElem?_set_self (by rw [List.length_set, revHd_length]; omega), if_pos (by omega), show l.length - 1 - k = i by omega]
    · rw [List.getElem?_set_ne (fun e => e1 e.symm)]
      by_cases e2 : k = i
      · subst e2
        rw [List.getElem?_set_self (by rw [revHd_length]; omega), if_pos (by omega), show l.length - 1 - k = j by omega]
      · rw [List.getElem?_set_ne (fun e => e2 e.symm), revHd_get l i k hk]
        congr 1
        by_cases e3 : k < i ∨ l.length ≤ k + i
        · rw [if_pos e3, if_pos (by omega)]
        · rw [if_neg e3, if_neg (by omega)]
  · rw [List.getElem?_eq_none (by rw [List.length_set, List.length_set, revHd_length]; omega), List.getElem?_eq_none (by rw [revHd_length]; omega)]


set_option maxHeartbeats 4000000 in
theorem reverse_hd (base : Nat) (lv : Value) (l : List HdS) (w : World) (hl : w.ownsRow base 37 2 lv l.length (hdCells l)) (hn : l.length ≤ 1000000000000) :
    Calls Tryz.prog 26 #[lv] w fun e w' => e = .returned (.tuple #[]) ∧ w'.ownsRow base 37 2 lv l.length (hdCells l.reverse) ∧ Mods (fun k => lv.ownBlock = some k) w w' := by
  have HL := Lib.hid hl
  have hni : (l.length : Int) ≤ 1000000000000 := by omega
  obtain ⟨pl, cl, hv⟩ := (Rd.of_owns hl).shape
  subst hv
  clear hl hn
  go_enter Tryz.func26, Tryz.ntmps26
  go_wp2_with fail
  go_loopw [2, 3] (fun iv jv wr => ∃ (i : Nat) (j : Int), iv = .int .i64 (i : Int) ∧ jv = .int .i64 j ∧ (i : Int) + j + 1 = (l.length : Int) ∧ (i : Int) ≤ j + 2 ∧ Hid (wr.ownsRow base 37 2 (.slice pl l.length cl) l.length (hdCells (revHd l i))) ∧ Hid (Mods (fun k => (Value.slice pl l.length cl).ownBlock = some k) w wr)) (fun iv _ _ => l.length - (intOf iv).toNat)
  case atStart => exact ⟨0, (l.length : Int) - 1, rfl, by go_num, by omega, by omega, by show World.ownsRow _ _ _ _ _ _ _; rw [revHd_zero]; exact HL.out, Mods.refl _ _⟩
  case round =>
    obtain ⟨i, j, rfl, rfl, hij, hi2, HR, HM⟩ := hrel
    by_cases hlt : (i : Int) < j
    · obtain ⟨j, rfl⟩ : ∃ m : Nat, j = (m : Int) := ⟨j.toNat, by omega⟩
      have hij2 : i + j + 1 = l.length := by omega
      have hltn : i < j := by omega
      have hil : (i : Int) < (l.length : Int) := by omega
      have hjl : (j : Int) < (l.length : Int) := by omega
      have hj0 : (0 : Int) ≤ (j : Int) := by omega
      obtain ⟨g, cap, hvv⟩ : ∃ g cap, (Value.slice pl l.length cl) = .slice (some ⟨g, 0, none⟩) l.length cap := by
        rcases owns_cases HR.out with ⟨_, h0, _⟩ | ⟨g, cap, hv, _⟩
        · omega
        · exact ⟨g, cap, hv⟩
      simp only [Value.slice.injEq] at hvv
      obtain ⟨rfl, _, rfl⟩ := hvv
      have hln := hdCells_length (revHd l i)
      rw [revHd_length] at hln
      have hgi : (revHd l i)[i]? = some (l.getD i hdZ) := by rw [revHd_get l i i (by omega), if_neg (by omega)]
      have hgj : (revHd l i)[j]? = some (l.getD j hdZ) := by rw [revHd_get l i j (by omega), if_neg (by omega)]
      have HSt := Lib.hid (revHd_step l i j hij2 hltn)
      have HIJ : Hid (i ≠ j ∧ i < l.length ∧ j < l.length) := by show _ ∧ _ ∧ _; omega
      generalize l.getD i hdZ = x at *
      generalize l.getD j hdZ = y at *
      obtain ⟨x1, x2⟩ := x
      obtain ⟨y1, y2⟩ := y
      have hci1 : wr.cell? ⟨g, i * 2, none⟩ = some (.slice x1.1 x1.2.1 x1.2.2) := by rw [HR.out.cellAt (i * 2) (by omega)]; exact (hdCells_get _ i _ _ hgi).1
      have hci2 : wr.cell? ⟨g, i * 2 + 1, none⟩ = some (.slice x2.1 x2.2.1 x2.2.2) := by rw [HR.out.cellAt (i * 2 + 1) (by omega)]; exact (hdCells_get _ i _ _ hgi).2
      have hcj1 : wr.cell? ⟨g, j * 2, none⟩ = some (.slice y1.1 y1.2.1 y1.2.2) := by rw [HR.out.cellAt (j * 2) (by omega)]; exact (hdCells_get _ j _ _ hgj).1
      have hcj2 : wr.cell? ⟨g, j * 2 + 1, none⟩ = some (.slice y2.1 y2.2.1 y2.2.2) := by rw [HR.out.cellAt (j * 2 + 1) (by omega)]; exact (hdCells_get _ j _ _ hgj).2
      have hfi1 := HR.out.frozenAt (i * 2)
      have hfi2 := HR.out.frozenAt (i * 2 + 1)
      have hfj1 := HR.out.frozenAt (j * 2)
      have hfj2 := HR.out.frozenAt (j * 2 + 1)
      clear hij2 hltn hgi hgj hln
      go_wp2_with fail
      go_big_region
      go_wp2_with fail
      have HF : Hid (∀ wz, wz = ((((wr.setCell ⟨g, i * 2, none⟩ (.slice y1.1 y1.2.1 y1.2.2)).setCell ⟨g, i * 2 + 1, none⟩ (.slice y2.1 y2.2.1 y2.2.2)).setCell ⟨g, j * 2, none⟩ (.slice x1.1 x1.2.1 x1.2.2)).setCell ⟨g, j * 2 + 1, none⟩ (.slice x2.1 x2.2.1 x2.2.2)).drew → wz.ownsRow base 37 2 (.slice (some ⟨g, 0, none⟩) l.length cl) l.length (hdCells (revHd l (i + 1))) ∧ Mods (fun k => (Value.slice (some ⟨g, 0, none⟩) l.length cl).ownBlock = some k) w wz) := by
        rintro wz rfl
        have h1 := (HR.out.stored (i * 2) (.slice y1.1 y1.2.1 y1.2.2)).1
        have h2 := (h1.stored (i * 2 + 1) (.slice y2.1 y2.2.1 y2.2.2)).1
        have h3 := (h2.stored (j * 2) (.slice x1.1 x1.2.1 x1.2.2)).1
        have h4 := (h3.stored (j * 2 + 1) (.slice x2.1 x2.2.1 x2.2.2)).1
        have e1 : ((hdCells (revHd l i)).set (i * 2) (.slice y1.1 y1.2.1 y1.2.2)).set (i * 2 + 1) (.slice y2.1 y2.2.1 y2.2.2) = hdCells ((revHd l i).set i (y1, y2)) := hdCells_set (revHd l i) i (y1, y2)
        have e2 : ((hdCells ((revHd l i).set i (y1, y2))).set (j * 2) (.slice x1.1 x1.2.1 x1.2.2)).set (j * 2 + 1) (.slice x2.1 x2.2.1 x2.2.2) = hdCells (((revHd l i).set i (y1, y2)).set j (x1, x2)) := hdCells_set ((revHd l i).set i (y1, y2)) j (x1, x2)
        rw [e1, e2, HSt.out] at h4
        have hS : ∀ (wy : World) (o : Nat) (v : Value), Mods (fun k => (Value.slice (some ⟨g, 0, none⟩) l.length cl).ownBlock = some k) wy (wy.setCell ⟨g, o, none⟩ v) := fun wy o v => Mods.set _ _ _ _ (fun _ => rfl)
        refine ⟨(Mods.drew (fun _ => False) _).owns h4 (fun _ _ e => e), ?_⟩
        exact ((((HM.out.trans (hS _ _ _) (fun _ _ e => e)).trans (hS _ _ _) (fun _ _ e => e)).trans (hS _ _ _) (fun _ _ e => e)).trans (hS _ _ _) (fun _ _ e => e)).trans (Mods.drew _ _) (fun _ _ e => e)
      go_round
      case rel => exact ⟨i + 1, (j : Int) - 1, by go_num, by go_num, by omega, by omega, (HF.out _ rfl).1, (HF.out _ rfl).2⟩
      case measure => simp [intOf]; omega
    · have hd := revHd_done l i (by omega)
      have HD := Lib.hid hd
      clear hd
      go_wp2_with fail
      go_end0
      refine ⟨rfl, ?_, HM.out⟩
      rw [← HD.out]
      exact HR.out
end Go.Proofs.YtkodhbkmpnokjaaGreat

end

section
/- Layer 12: series that are turned, with their samples turned: what is known of the list, step by step. -/
set_option linter.unusedVariables false
set_option maxRecDepth 20000
namespace Go.Proofs.YtkodhbkmpnokjaaGreat
open Go Go.RowKit

def toHd (h : HdS) : Hd := (slV h.1, slV h.2)
theorem hdCells_toHd (d : List HdS) : two Prod.fst Prod.snd (d.map toHd) = hdCells d := by
  rw [two, List.flatMap_map]; rfl
def toSl : Value → Sl
  | .slice p n c => (p, n, c)
  | _ => (none, 0, 0)
theorem RdB.heads {w : World} {v : Value} {b : List Ser} (k : RdB w v b) : ∃ d : List HdS, Rd w 2 v d.length (hdCells d) ∧ d.length = b.length ∧ ∀ (i : Nat) (h : HdS) (s : Ser), d[i]? = some h → b[i]? = some s → SerAt w (toHd h) s := by
  obtain ⟨hs, h1, h2, h3⟩ := k.ex
  have hk : ∀ (i : Nat) (h : Hd), hs[i]? = some h → toHd (toSl h.1, toSl h.2) = h := fun i h hi => by
    have hlt := (List.getElem?_eq_some_iff.1 hi).1
    obtain ⟨s, hs'⟩ : ∃ s, b[i]? = some s := ⟨_, List.getElem?_eq_getElem (by omega)⟩
    obtain ⟨a, c⟩ := h3 i h s hi hs'
    obtain ⟨p1, c1, e1⟩ := a.shape
    obtain ⟨p2, c2, e2⟩ := c.shape
    obtain ⟨x, y⟩ := h
    simp only at e1 e2
    subst e1; subst e2
    rfl
  have hd : (hs.map fun h => (toSl h.1, toSl h.2)).map toHd = hs := by
    rw [List.map_map]
    apply List.ext_getElem?
    intro i
    rw [List.getElem?_map]
    cases e : hs[i]? with
    | none => rfl
    | some h => show some _ = some _; rw [← hk i h e]; rfl
  refine ⟨hs.map fun h => (toSl h.1, toSl h.2), ?_, by simpa using h2, fun i h s hi hj => ?_⟩
  · rw [← hdCells_toHd, hd, List.length_map]; exact h1
  · rw [List.getElem?_map] at hi
    cases e : hs[i]? with
    | none => rw [e] at hi; cases hi
    | some g => rw [e] at hi; cases hi; rw [hk i g e]; exact h3 i g s e hj
theorem hdCells_append (a b : List HdS) : hdCells (a ++ b) = hdCells a ++ hdCells b := two_append a b
theorem hdCells_parts (l : List HdS) (i : Nat) (h : i ≤ l.length) : (hdCells l).drop (i * 2) = hdCells (l.drop i) ∧ (hdCells l).take (i * 2) = hdCells (l.take i) := by
  have e : hdCells l = hdCells (l.take i) ++ hdCells (l.drop i) := by rw [← hdCells_append, List.take_append_drop]
  have hl : (hdCells (l.take i)).length = i * 2 := by rw [hdCells_length, List.length_take, Nat.min_eq_left h]
  exact ⟨by rw [e, List.drop_append_of_le_length (by omega), ← hl, List.drop_length, List.nil_append], by rw [e, ← hl, List.take_left]⟩

/-! ### Turned -/
def revS (s : Ser) : Ser := (s.1, s.2.reverse)
def turnB (b : List Ser) (i : Nat) : List Ser := b.drop i ++ b.take i
theorem turnB_perm (b : List Ser) (i : Nat) : (turnB b i).Perm b := by
  refine List.Perm.trans List.perm_append_comm ?_
  rw [List.take_append_drop]
theorem turned_perm12 (b : List Ser) (i : Nat) : ((turnB b i).map revS).reverse.Perm (b.map revS) := (List.reverse_perm _).trans ((turnB_perm b i).map revS)
theorem samplesB_rev (b : List Ser) : samplesB (b.map revS) = samplesB b := by
  induction b with
  | nil => rfl
  | cons s b ih => rw [List.map_cons, samplesB_cons, samplesB_cons, ih]; simp [revS]
theorem small_turned {b : List Ser} (h : Small b) (i : Nat) : Small ((turnB b i).map revS).reverse := by
  have hp := turned_perm12 b i
  refine ⟨?_, ?_, fun s hs => ?_⟩
  · rw [hp.length_eq, List.length_map]; exact h.len
  · rw [samplesB_perm hp, samplesB_rev]; exact h.sam
  · obtain ⟨x, hx, rfl⟩ := List.mem_map.1 (hp.mem_iff.1 hs)
    exact h.lab x hx
theorem sized_turned {b : List Ser} (h : Sized b) (i : Nat) : Sized ((turnB b i).map revS).reverse := by
  intro s hs
  obtain ⟨x, hx, rfl⟩ := List.mem_map.1 ((turned_perm12 b i).mem_iff.1 hs)
  exact ⟨(h x hx).1, fun y hy => (h x hx).2 y (List.mem_reverse.1 hy)⟩
theorem forget_turned (b : List Ser) (i : Nat) : ((normB b).1 = 0 ↔ (normB ((turnB b i).map revS).reverse).1 = 0) ∧ (normB b).2 = (normB ((turnB b i).map revS).reverse).2 :=
  normB_forget (f := revS) (fun s => ⟨rfl, List.reverse_perm _⟩) (turned_perm12 b i)
theorem norm_again (b : List Ser) : normB (normB b).2 = (0, (normB b).2) := by
  by_cases h : (normB b).1 = 0
  · exact norm_normB h
  · have e : (normB b).2 = [] := by
      unfold normB at h ⊢
      repeat' split
      all_goals first | rfl | (exfalso; apply h; simp_all)
    rw [e]; rfl

/-- The first j series have their samples turned. -/
def mixS (b : List Ser) (j : Nat) : List Ser := (b.take j).map revS ++ b.drop j
theorem mixS_zero (b : List Ser) : mixS b 0 = b := rfl
theorem mixS_all (b : List Ser) (j : Nat) (h : b.length ≤ j) : mixS b j = b.map revS := by rw [mixS, List.take_of_length_le h, List.drop_of_length_le h, List.append_nil]
theorem mixS_length (b : List Ser) (j : Nat) : (mixS b j).length = b.length := by rw [mixS, List.length_append, List.length_map, List.length_take, List.length_drop]; omega
theorem mixS_get (b : List Ser) (j : Nat) : (mixS b j)[j]? = b[j]? := by
  by_cases h : j < b.length
  · have hl : ((b.take j).map revS).length = j := by rw [List.length_map, List.length_take]; omega
    rw [mixS, List.getElem?_append_right (by omega), hl, Nat.sub_self, List.getElem?_drop, Nat.add_zero]
  · rw [List.getElem?_eq_none (by rw [mixS_length]; omega), List.getElem?_eq_none (by omega)]
theorem mixS_set {b : List Ser} {j : Nat} {s : Ser} (h : b[j]? = some s) : (mixS b j).set j (revS s) = mixS b (j + 1) := by
  have hlt := (List.getElem?_eq_some_iff.1 h).1
  have hl : ((b.take j).map revS).length = j := by rw [List.length_map, List.length_take]; omega
  have hd : b.drop j = s :: b.drop (j + 1) := by rw [List.drop_eq_getElem_cons hlt, (List.getElem?_eq_some_iff.1 h).2]
  rw [mixS, hd, List.set_append_right _ _ (by omega), hl, Nat.sub_self, List.set_cons_zero, mixS, List.take_add_one, h, List.map_append, List.append_assoc]
  rfl

theorem two_setSnd {α : Type} {f1 f2 : α → Value} (d : List α) (i : Nat) (x y : α) (h : d[i]? = some x) (he : f1 x = f1 y) : (two f1 f2 d).set (i * 2 + 1) (f2 y) = two f1 f2 (d.set i y) := by
  have h1 := two_set (f1 := f1) (f2 := f2) d i y
  have h2 := (two_get (f1 := f1) (f2 := f2) d i x h).1
  rw [← h1]
  congr 1
  apply List.ext_getElem?
  intro j
  by_cases hj : i * 2 = j
  · subst hj
    rw [List.getElem?_set_self (List.getElem?_eq_some_iff.1 h2).1, h2, he]
  · rw [List.getElem?_set_ne hj]
/-- The second head of a series is written over. -/
theorem NmAt.storedSnd {w wr : World} {hs : List Hd} {b : List Ser} {g n c i : Nat} {h : Hd} {v2 : Value} {s : Ser} (k : NmAt w wr hs b (.slice (some ⟨g, 0, none⟩) n c)) (hh : hs[i]? = some h) (hsr : SerAt wr (h.1, v2) s) (ho : SerOff (fun j => j = g) (h.1, v2) s) :
    NmAt w (wr.setCell ⟨g, i * 2 + 1, none⟩ v2) (hs.set i (h.1, v2)) (b.set i s) (.slice (some ⟨g, 0, none⟩) n c) := by
  have hm : Mods (fun k => k = g) wr (wr.setCell ⟨g, i * 2 + 1, none⟩ v2) := Mods.set _ _ _ _ (fun _ => rfl)
  have hc : ∀ (h : Hd) (s : Ser), SerOff (fun j => j = g) h s → SerOff (fun j => (Value.slice (some ⟨g, 0, none⟩) n c).ownBlock = some j) h s := fun h s a => ⟨fun e j hj hv => a.1 e j hj (by simpa [Value.ownBlock] using hv.symm), fun e j hj hv => a.2 e j hj (by simpa [Value.ownBlock] using hv.symm)⟩
  have hc' : ∀ (h : Hd) (s : Ser), SerOff (fun j => (Value.slice (some ⟨g, 0, none⟩) n c).ownBlock = some j) h s → SerOff (fun j => j = g) h s := fun h s a => ⟨fun e j hj hv => a.1 e j hj (by rw [hv]; rfl), fun e j hj hv => a.2 e j hj (by rw [hv]; rfl)⟩
  have hg := (k.row.row.lt g rfl).1
  have hn := k.row.len
  subst hn
  refine ⟨⟨?_, k.row.bel.trans (hm.below k.row.bel.size (fun j hj e => by omega))⟩, by simp [k.len], fun j h' s' hi hj => ?_⟩
  · have := (k.row.row.stored (i * 2 + 1) v2).1
    rw [two_setSnd (f1 := (Prod.fst : Hd → Value)) (f2 := (Prod.snd : Hd → Value)) hs i h (h.1, v2) hh rfl] at this
    rw [List.length_set]
    exact this
  rw [List.getElem?_set] at hi hj
  by_cases e : i = j
  · subst e
    have hl := (List.getElem?_eq_some_iff.1 hh).1
    rw [if_pos rfl, if_pos hl] at hi
    rw [if_pos rfl, if_pos (by rw [← k.len]; exact hl)] at hj
    cases hi; cases hj
    exact ⟨hsr.mods hm ho, hc _ _ ho⟩
  · rw [if_neg e] at hi hj
    obtain ⟨a, b⟩ := k.ser j h' s' hi hj
    exact ⟨a.mods hm (hc' _ _ b), b⟩
/-- The list is turned. -/
theorem NmAt.reversed {w wr w1 : World} {hs : List Hd} {b : List Ser} {v : Value} (k : NmAt w wr hs b v) (ho : w1.ownsRow w.heap.size 37 2 v hs.length (two Prod.fst Prod.snd hs.reverse)) (hm : Mods (fun j => v.ownBlock = some j) wr w1) : NmAt w w1 hs.reverse b.reverse v := by
  refine ⟨⟨by rw [List.length_reverse]; exact ho, k.row.bel.trans (hm.below k.row.bel.size (fun j hj e => by have := (k.row.row.lt j e).1; omega))⟩, by simp [k.len], fun i h s hi hj => ?_⟩
  have hl : i < hs.length := by have := (List.getElem?_eq_some_iff.1 hi).1; simpa using this
  rw [List.getElem?_reverse hl] at hi
  rw [List.getElem?_reverse (by rw [← k.len]; exact hl), ← k.len] at hj
  obtain ⟨a, c⟩ := k.ser _ h s hi hj
  exact ⟨a.mods hm c, c⟩
/-- A list of old series, newly made. -/
theorem NmAt.of_made {w w' : World} {C : List HdS} {b : List Ser} {r : Value} (hM : Made w w' 37 2 r C.length (hdCells C)) (hl : C.length = b.length) (hs : ∀ (i : Nat) (h : HdS) (s : Ser), C[i]? = some h → b[i]? = some s → SerAt w (toHd h) s) : NmAt w w' (C.map toHd) b r := by
  refine ⟨⟨by rw [hdCells_toHd, List.length_map]; exact hM.1, hM.2⟩, by simpa using hl, fun i h s hi hj => ?_⟩
  rw [List.getElem?_map] at hi
  cases e : C[i]? with
  | none => rw [e] at hi; cases hi
  | some g =>
    rw [e] at hi; cases hi
    have h1 := hs i g s e hj
    refine ⟨h1.below hM.2, fun e j hj hv => ?_, fun e j hj hv => ?_⟩
    · have := h1.lt.1 e j hj; have := (hM.1.lt j hv).1; omega
    · have := h1.lt.2 e j hj; have := (hM.1.lt j hv).1; omega
end Go.Proofs.YtkodhbkmpnokjaaGreat

end
