/- Large12, OpenW, Field12, AlivL, AlivM, RdBlk, AllocN, Alive12, LbA, MdB, LbB, LbC, in one text. -/
import Derived.Test.YtkodhbkmpnokjaaGreatMrg7
import Derived.Test.YtkodhbkmpnokjaaGreatMrg4
import Derived.Test.YtkodhbkmpnokjaaGreatMrg5
import Derived.Test.YtkodhbkmpnokjaaGreatMrg2
import Derived.Test.YtkodhbkmpnokjaaGreatMrg3
import Derived.Test.YtkodhbkmpnokjaaGreatMrg1
import Derived.Lib.Bytealg
import Derived.Laws.Externs
import Derived.Shelf.SlSortCmp.QuietGrown
import Derived.Laws.EntriesVeiled

section
/- Layer 12: the statements' own bound. -/
set_option linter.unusedVariables false
set_option maxRecDepth 20000
namespace Go.Proofs.YtkodhbkmpnokjaaGreat
open Go Go.RowKit

/-- All labels in a row; what Large counts. -/
def flatLB (b : List Ser) : List Lab := b.flatMap fun s => s.1
def cntB (b : List Ser) : Nat := (b.map fun s => 1 + min s.2.length 3000).sum
theorem flatLB_step {b : List Ser} {i : Nat} {s : Ser} (h : b[i]? = some s) : flatLB (b.take (i + 1)) = flatLB (b.take i) ++ s.1 := by
  rw [flatLB, List.take_add_one, h, List.flatMap_append]; simp [flatLB]
theorem cntB_step {b : List Ser} {i : Nat} {s : Ser} (h : b[i]? = some s) : cntB (b.take (i + 1)) = cntB (b.take i) + (1 + min s.2.length 3000) := by
  rw [cntB, List.take_add_one, h, List.map_append, List.sum_append]; simp [cntB]
theorem samples_of_cnt {b : List Ser} (h : cntB b ≤ 3000) : samplesB b ≤ 3000 := by
  have key : ∀ b : List Ser, cntB b ≤ 3000 → samplesB b ≤ cntB b := by
    intro b
    induction b with
    | nil => intro _; simp [samplesB, cntB]
    | cons s b ih =>
      intro h
      have e : cntB (s :: b) = 1 + min s.2.length 3000 + cntB b := by simp [cntB]
      rw [e] at h ⊢
      have := ih (by omega)
      rw [samplesB_cons]
      omega
  exact Nat.le_trans (key b h) h
theorem flatLB_mem {b : List Ser} {s : Ser} {x : Lab} (hs : s ∈ b) (hx : x ∈ s.1) : x ∈ flatLB b := List.mem_flatMap.2 ⟨s, hs, hx⟩
set_option maxHeartbeats 2000000 in
theorem large12 (bv : Value) (b : List Ser) (w : World) (hb : RdB w bv b) (hz : Sized b) :
    Calls Tryz.prog 9 #[bv] w fun e w' => (e = .returned (.int .i64 1) ∨ (e = .returned (.int .i64 0) ∧ Small b ∧ ∀ s ∈ b, ∀ x ∈ stringsL s.1, x.size ≤ 200000)) ∧ Below w.heap.size w w' := by
  have H := Lib.hid hb; have HZ := Lib.hid hz
  obtain ⟨p, c, hv⟩ := hb.shape
  subst hv
  have hmx0 := hb.le
  clear hb hz
  go_enter Tryz.func9, Tryz.ntmps9
  go_wp2_with fail
  go_loopw [3, 4, 9] (fun nv vv iv wr => ∃ (j N : Nat), j ≤ b.length ∧ N ≤ 3000 ∧ nv = .int .i64 (N : Int) ∧ iv = .int .i64 (j : Int) ∧ Hid ((j = 0 ∨ b.length ≤ 300) ∧ (∀ s ∈ b.take j, s.1.length ≤ 200) ∧ cntB (b.take j) = N ∧ (flatLB (b.take j)).length ≤ 200 * j) ∧ Hid (OwnL w wr (flatLB (b.take j)) vv)) (fun _ _ iv _ => b.length - (intOf iv).toNat)
  case atStart => exact ⟨0, 0, Nat.zero_le _, Nat.zero_le _, rfl, rfl, ⟨Or.inl rfl, (by intro s hs; simp at hs), rfl, Nat.zero_le _⟩, Own2.nil w⟩
  case round =>
    obtain ⟨j, N, hj, hN, rfl, rfl, HF, HO⟩ := hrel
    have hNi : (N : Int) ≤ 3000 := by omega
    obtain ⟨pv, cv, hvv⟩ := HO.out.shape
    subst hvv
    by_cases hlt : j < b.length
    · have hlt' : (j : Int) < (b.length : Int) := by omega
      obtain ⟨⟨ls, ss⟩, hx⟩ : ∃ s, b[j]? = some s := ⟨_, List.getElem?_eq_getElem hlt⟩
      obtain ⟨blk, off, h1, h2, e, ⟨p1, k1, e1⟩, ⟨p2, k2, e2⟩, hal⟩ := H.out.always hx
      subst e
      simp only at e1 e2
      subst e1
      subst e2
      obtain ⟨cl, cs, hsr⟩ := hal wr HO.out.bel
      have HSr : Hid (Rd wr 2 (.slice p1 ls.length k1) ls.length (labCells ls)) := hsr.1
      have HSt := Lib.hid (flatLB_step hx)
      have HCt := Lib.hid (cntB_step hx)
      have HX := Lib.hid hx
      have hlm : (ls.length : Int) ≤ 9223372036854775807 := by have := hsr.1.le; simp only at this; unfold maxLen at this; omega
      have hsm : (ss.length : Int) ≤ 9223372036854775807 := by have := hsr.2.le; simp only at this; unfold maxLen at this; omega
      clear hx hal hsr
      by_cases hz : (ss.length : Int) ≤ 3000
      · by_cases hS : N + (1 + ss.length) ≤ 3000
        · have hS' : ¬ (3000 : Int) < (N : Int) + (1 + (ss.length : Int)) := by omega
          by_cases h5 : b.length ≤ 300
          · have h5' : ¬ (300 : Int) < (b.length : Int) := by omega
            by_cases h6 : ls.length ≤ 200
            · have h6' : ¬ (200 : Int) < (ls.length : Int) := by omega
              have HF2 : Hid ((j + 1 = 0 ∨ b.length ≤ 300) ∧ (∀ s ∈ b.take (j + 1), s.1.length ≤ 200) ∧ cntB (b.take (j + 1)) = N + (1 + ss.length) ∧ (flatLB (b.take (j + 1))).length ≤ 200 * (j + 1)) := by
                refine ⟨Or.inr h5, fun s hs => ?_, ?_, ?_⟩
                · rw [List.take_add_one, HX.out] at hs
                  rcases List.mem_append.1 hs with e | e
                  · exact HF.out.2.1 s e
                  · simp at e; subst e; exact h6
                · rw [HCt.out, HF.out.2.2.1]; simp only; omega
                · rw [HSt.out, List.length_append]; have := HF.out.2.2.2; simp only; omega
              have HDn : Hid ((flatLB (b.take j)).length ≤ 60000) := by show _ ≤ _; have := HF.out.2.2.2; omega
              have H6 : Hid (ls.length ≤ 200) := h6
              have hcs : ((N + (1 + ss.length) : Nat) : Int) = (N : Int) + (1 + (ss.length : Int)) := by omega
              have HCs := Lib.hid hcs
              have HH : Hid (N + (1 + ss.length) ≤ 3000) := hS
              have hSm : (N : Int) + (1 + (ss.length : Int)) ≤ 3000 := by omega
              clear h5 hS hcs h6 HCt HX HF
              generalize flatLB (b.take j) = D at *
              obtain ⟨dl, hdl⟩ : ∃ dl, D.length = dl := ⟨_, rfl⟩
              have HDl := Lib.hid hdl
              rw [hdl] at HO HDn ⊢
              clear hdl
              have hbA : Below wr.heap.size wr (wr.alloc (.cells #[.slice p1 ls.length k1, .slice p2 ss.length k2] 37)) := (Mods.alloc (fun _ => False) wr _).below (Nat.le_refl _) (fun _ _ e => e)
              have HOa := Lib.hid (HO.out.below hbA)
              have HSa := Lib.hid (HSr.out.below hbA)
              have HOv : Hid ((wr.alloc (.cells #[.slice p1 ls.length k1, .slice p2 ss.length k2] 37)).ownsRow 0 39 2 (.slice pv dl cv) dl (labCells D)) := by
                have h := HOa.out.base0
                rw [HDl.out] at h
                exact h
              have HLb : Hid ((dl + ls.length) * 32 ≤ 140737488355328 ∧ dl + ls.length ≤ maxLen) := by show _ ∧ _; have := HDn.out; have := H6.out; unfold maxLen; omega
              have HSz : Hid ((wr.alloc (.cells #[.slice p1 ls.length k1, .slice p2 ss.length k2] 37)).heap.size = wr.heap.size + 1) := by show _ = _; simp
              clear hbA HO HSr
              go_wp2_with (at_builtin; refine wpList_extend elemLab _ _ _ _ _ _ _ HOv.out HSa.out (labCells_one ls) HLb.out rfl _ _ rfl rfl rfl ?_)
              intro v3 w3 m0 m1 f1
              rw [← HSz.out] at f1
              have HO3 : Hid (OwnL w w3 (flatLB (b.take (j + 1))) v3) := by
                show OwnL _ _ _ _
                rw [HSt.out]
                exact HOa.out.extended (by rw [HDl.out]; exact m0) m1 f1
              obtain ⟨p3, c3, hv3⟩ := (Rd.of_owns m0).shape
              subst hv3
              clear m0 m1 f1 HOa HOv HSa
              go_wp2_with fail
              go_round
              case rel => exact ⟨j + 1, N + (1 + ss.length), by omega, HH.out, by rw [HCs.out], by go_num, HF2.out, HO3.out⟩
              case measure => simp [intOf]; omega
            · have h6' : (200 : Int) < (ls.length : Int) := by omega
              have HB1 : Hid (Below w.heap.size w (wr.alloc (.cells #[.slice p1 ls.length k1, .slice p2 ss.length k2] 37))) := HO.out.bel.trans (((Mods.alloc (fun _ => False) wr _).below (Nat.le_refl _) (fun _ _ e => e)).mono HO.out.bel.size)
              have hSm : (N : Int) + (1 + (ss.length : Int)) ≤ 3000 := by omega
              clear h5 hS h6
              go_wp2_with fail
              go_ret
              exact ⟨Or.inl rfl, HB1.out⟩
          · have h5' : (300 : Int) < (b.length : Int) := by omega
            have HB1 : Hid (Below w.heap.size w (wr.alloc (.cells #[.slice p1 ls.length k1, .slice p2 ss.length k2] 37))) := HO.out.bel.trans (((Mods.alloc (fun _ => False) wr _).below (Nat.le_refl _) (fun _ _ e => e)).mono HO.out.bel.size)
            have hSm : (N : Int) + (1 + (ss.length : Int)) ≤ 3000 := by omega
            clear h5 hS
            go_wp2_with fail
            go_ret
            exact ⟨Or.inl rfl, HB1.out⟩
        · have hS' : (3000 : Int) < (N : Int) + (1 + (ss.length : Int)) := by omega
          have HB1 : Hid (Below w.heap.size w (wr.alloc (.cells #[.slice p1 ls.length k1, .slice p2 ss.length k2] 37))) := HO.out.bel.trans (((Mods.alloc (fun _ => False) wr _).below (Nat.le_refl _) (fun _ _ e => e)).mono HO.out.bel.size)
          clear hS
          go_wp2_with fail
          go_ret
          exact ⟨Or.inl rfl, HB1.out⟩
      · have hz' : (3000 : Int) ≤ (ss.length : Int) := by omega
        have hS' : (3000 : Int) < (N : Int) + 3001 := by omega
        have HB1 : Hid (Below w.heap.size w (wr.alloc (.cells #[.slice p1 ls.length k1, .slice p2 ss.length k2] 37))) := HO.out.bel.trans (((Mods.alloc (fun _ => False) wr _).below (Nat.le_refl _) (fun _ _ e => e)).mono HO.out.bel.size)
        go_wp2_with fail
        go_ret
        exact ⟨Or.inl rfl, HB1.out⟩
    · have hlt' : ¬ (j : Int) < (b.length : Int) := by omega
      have HD : Hid (Small b) := by
        obtain ⟨f1, f2, f3, _⟩ := HF.out
        rw [List.take_of_length_le (by omega)] at f2 f3
        exact ⟨by rcases f1 with e | e <;> omega, samples_of_cnt (by omega), f2⟩
      have hE : b.take j = b := List.take_of_length_le (by omega)
      rw [hE] at HO ⊢
      have HLz : Hid (LabSized (flatLB b)) := fun x hx => by
        obtain ⟨s, hs, hxs⟩ := List.mem_flatMap.1 hx
        exact (HZ.out s hs).1 x hxs
      have HLg := Lib.hid (large11 _ (flatLB b) wr HO.out.rd HLz.out)
      have HMem : Hid (∀ s ∈ b, ∀ x ∈ stringsL s.1, x ∈ stringsL (flatLB b)) := fun s hs x hx => by
        obtain ⟨y, hy, hxy⟩ := List.mem_flatMap.1 hx
        exact List.mem_flatMap.2 ⟨y, flatLB_mem hs hy, hxy⟩
      have HB := Lib.hid HO.out.bel
      clear HF HO hE
      generalize flatLB b = D at *
      go_wp2_with fail
      refine HLg.out.mono ?_
      rintro e w2 ⟨he, hB⟩
      have HB2 := Lib.hid (HB.out.trans (hB.mono HB.out.size))
      clear hB
      rcases he with rfl | ⟨rfl, _, h6⟩
      · go_wp2_with fail
        go_ret
        exact ⟨Or.inl rfl, HB2.out⟩
      · have H6 : Hid (∀ s ∈ b, ∀ x ∈ stringsL s.1, x.size ≤ 200000) := fun s hs x hx => h6 x (HMem.out s hs x hx)
        clear h6
        go_wp2_with fail
        go_ret
        exact ⟨Or.inr ⟨rfl, HD.out, H6.out⟩, HB2.out⟩
end Go.Proofs.YtkodhbkmpnokjaaGreat

end

section
/- Arguments that came in, opened, where an element may lead on into memory (slices of slices, of structs of slices): as XOpen, but what is said of an element speaks of the world. No program in sight. -/
namespace Go.Proofs.YtkodhbkmpnokjaaGreat
open Go Go.RowKit Go.ChangeShapes

/-- Every reading at type e is of the cells 'f a' for an 'a' that is 'ok' in that world. -/
def FlatW (P : Program) (e : TypeId) (sz : Nat) {α : Type} (f : α → List Value) (ok : World → α → Prop) : Prop :=
  P.cellsOf e = sz ∧ ∀ (H : Type) (enc : TypeId × Value → H) (w : World) (base : Nat) (spare : Nat → Bool) (held : Bool) (fuel : Nat) (cs : List Value) (x : DataW H × List MemPlace),
    DataW.trod enc P w base spare held fuel e cs = some x → ∃ a, ok w a ∧ cs = f a

theorem Flat.wide {P : Program} {e : TypeId} {sz : Nat} {α : Type} {f : α → List Value} {ok : α → Prop} (h : Flat P e sz f ok) : FlatW P e sz f (fun _ => ok) :=
  ⟨h.1, fun H enc w base spare held fuel cs x hx => h.2 H enc w base spare held fuel cs x hx⟩
theorem FlatW.map {P : Program} {e : TypeId} {sz : Nat} {α β : Type} {f : α → List Value} {ok : World → α → Prop} (h : FlatW P e sz f ok) {g : β → List Value} {ok' : World → β → Prop} (hm : ∀ w a, ok w a → ∃ b, ok' w b ∧ f a = g b) : FlatW P e sz g ok' :=
  ⟨h.1, fun H enc w base spare held fuel cs x hx => by
    obtain ⟨a, ha, rfl⟩ := h.2 H enc w base spare held fuel cs x hx
    exact hm w a ha⟩
theorem flatW_struct2 {P : Program} {e : TypeId} {f0 f1 : Field} {s0 s1 : Nat} {α β : Type} {g0 : α → List Value} {g1 : β → List Value} {k0 : World → α → Prop} {k1 : World → β → Prop}
    (he : P.underlying e = some (.struct #[f0, f1])) (hc : P.cellsOf e = s0 + s1) (o0 : f0.offset = 0) (o1 : f1.offset = s0) (h0 : FlatW P f0.type s0 g0 k0) (h1 : FlatW P f1.type s1 g1 k1) :
    FlatW P e (s0 + s1) (fun a : α × β => g0 a.1 ++ g1 a.2) (fun w a => k0 w a.1 ∧ k1 w a.2) :=
  ⟨hc, fun H enc w base spare held fuel cs x hx => by
    obtain ⟨y0, y1, n, _, hl, t0, t1⟩ := trod_struct2 he hx
    rw [o0, h0.1] at t0
    rw [o1, h1.1] at t1
    obtain ⟨a, ha, ea⟩ := h0.2 H enc w base spare held n _ _ t0
    obtain ⟨b, hb, eb⟩ := h1.2 H enc w base spare held n _ _ t1
    refine ⟨(a, b), ⟨ha, hb⟩, ?_⟩
    show cs = g0 a ++ g1 b
    rw [← ea, ← eb]
    simp only [List.drop_zero]
    rw [List.take_of_length_le (l := cs.drop s0) (by rw [List.length_drop, hl, hc]; omega), List.take_append_drop]⟩

/-- A slice that is read. -/
theorem open_rowW {P : Program} {t e : TypeId} {sz : Nat} (hsz : 0 < sz) {α : Type} [Inhabited α] {f : α → List Value} {ok : World → α → Prop} (hF : FlatW P e sz f ok) (ht : P.underlying t = some (.slice e))
    {H : Type} {enc : TypeId × Value → H} {w : World} {base : Nat} {spare : Nat → Bool} {held : Bool} {fuel : Nat} {cs : List Value} {x : DataW H × List MemPlace} (h : DataW.trod enc P w base spare held fuel t cs = some x) :
    ∃ (v : Value) (l : List α), cs = [v] ∧ (∀ a ∈ l, ok w a) ∧ Rd w sz v l.length (l.flatMap f) ∧ ((x.1 = .nil ∧ l.length = 0) ∨ ∃ elems rest, x.1 = .slice elems rest ∧ elems.length = l.length) := by
  rcases Deep.open_slice ht h with ⟨rfl, rfl⟩ | ⟨a, len, cap, m, n', D, Pl, rfl, _, hl, hm, hmm, rfl, hel⟩
  · exact ⟨_, [], rfl, by simp, Rd.nil w sz, Or.inl ⟨rfl, rfl⟩⟩
  · have hml : len ≤ m := by rw [hmm]; split <;> omega
    have hch : ∀ i, i < len → ∃ b : α, ok w b ∧ (f b).length = sz ∧ ∀ (j : Nat) (u : Value), (f b)[j]? = some u → w.cell? (a.add (i * sz + j)) = some u := by
      intro i hi
      obtain ⟨cs', h1, h2⟩ := hel i (by omega)
      rw [hF.1] at h1
      obtain ⟨b, hb, rfl⟩ := hF.2 H enc w base spare held n' _ _ h2
      obtain ⟨h3, h4⟩ := cells_get h1
      exact ⟨b, hb, h3, fun j u hu => by rw [← Deep.add_add]; exact h4 j u hu⟩
    obtain ⟨g, hg⟩ := Deep.choose_lt hch
    have hlen : ∀ b ∈ (List.range len).map g, (f b).length = sz := by
      intro b hb
      obtain ⟨i, hi, rfl⟩ := List.mem_map.1 hb
      exact (hg i (List.mem_range.1 hi)).2.1
    refine ⟨.slice (some a) len cap, (List.range len).map g, rfl, ?_, ⟨some a, cap, by simp, ?_, by simpa using hl, hm, (fun e => by cases e), ?_⟩, Or.inr ⟨_, _, rfl, by simp⟩⟩
    · intro b hb
      obtain ⟨i, hi, rfl⟩ := List.mem_map.1 hb
      exact (hg i (List.mem_range.1 hi)).1
    · rw [flatMap_len f _ hlen]
    · intro ad e j u hu
      cases e
      have hj : j = j / sz * sz + j % sz := by rw [Nat.mul_comm]; exact (Nat.div_add_mod j sz).symm
      rw [hj] at hu
      obtain ⟨b, hb, hu'⟩ := flatMap_get f _ hlen (j / sz) (j % sz) (Nat.mod_lt _ hsz) u hu
      have hlt : j / sz < len := by
        rcases Nat.lt_or_ge (j / sz) len with h | h
        · exact h
        · rw [List.getElem?_eq_none (by simpa using h)] at hb; cases hb
      rw [List.getElem?_map, List.getElem?_range hlt] at hb
      simp at hb
      subst hb
      rw [hj]
      exact (hg (j / sz) hlt).2.2 _ u hu'
/-- A slice as an element: its value, and what it holds. -/
theorem flatW_slice {P : Program} {t e : TypeId} {sz : Nat} (hsz : 0 < sz) {α : Type} [Inhabited α] {f : α → List Value} {ok : World → α → Prop} (hF : FlatW P e sz f ok) (ht : P.underlying t = some (.slice e)) (hc : P.cellsOf t = 1) :
    FlatW P t 1 (fun a : Value × List α => [a.1]) (fun w a => (∀ x ∈ a.2, ok w x) ∧ Rd w sz a.1 a.2.length (a.2.flatMap f)) :=
  ⟨hc, fun H enc w base spare held fuel cs x hx => by
    obtain ⟨v, l, rfl, h1, h2, _⟩ := open_rowW hsz hF ht hx
    exact ⟨(v, l), ⟨h1, h2⟩, rfl⟩⟩
/-- A slice that came in. -/
theorem open_flatW {P : Program} {t e : TypeId} {sz : Nat} (hsz : 0 < sz) {α : Type} [Inhabited α] {f : α → List Value} {ok : World → α → Prop} (hF : FlatW P e sz f ok) (ht : P.underlying t = some (.slice e))
    {H : Type} {enc : TypeId × Value → H} {w : World} {base : Nat} {spare : Nat → Bool} {held : Bool} {v : Value} {d : DataW H} {ps : List MemPlace} {n c : Nat} {p : Option Addr} (hv : v = .slice p n c)
    (h : DataW.Trod enc P w base spare held t v d ps) :
    ∃ l : List α, (∀ a ∈ l, ok w a) ∧ l.length = n ∧ Rd w sz v l.length (l.flatMap f) ∧ ((d = .nil ∧ l.length = 0) ∨ ∃ elems rest, d = .slice elems rest ∧ elems.length = l.length) := by
  subst hv
  obtain ⟨fuel, h⟩ := h
  obtain ⟨v, l, hcs, h1, h2, h3⟩ := open_rowW hsz hF ht h
  simp [Value.cells] at hcs
  subst hcs
  have h2' := h2
  obtain ⟨_, _, e, _⟩ := h2'
  simp only [Value.slice.injEq] at e
  exact ⟨l, h1, e.2.1.symm, h2, h3⟩
end Go.Proofs.YtkodhbkmpnokjaaGreat

end

section
/- Layer 12: series as arguments. -/
namespace Go.Proofs.YtkodhbkmpnokjaaGreat
open Go Go.RowKit
def labCell12 (a : Lab) : List Value := [.string a.1, .string a.2]
def labOk12 (a : Lab) : Prop := a.1.size ≤ 9223372036854775807 ∧ a.2.size ≤ 9223372036854775807
theorem flat_lab12 : Flat Tryz.prog 39 2 labCell12 labOk12 :=
  (flat_struct2 Tryz.underlying39 (by kernel_rfl) rfl rfl (flat_string Tryz.underlying9 (by kernel_rfl)) (flat_string Tryz.underlying9 (by kernel_rfl))).map fun a h =>
    ⟨a, ⟨by have := h.1; unfold maxLen at this; omega, by have := h.2; unfold maxLen at this; omega⟩, rfl⟩
def samCell12 (a : Sam) : List Value := [.int .i64 a.1, .int .u64 (a.2 : Int)]
theorem flat_sam12 : Flat Tryz.prog 42 2 samCell12 sampleOk :=
  (flat_struct2 Tryz.underlying42 (by kernel_rfl) rfl rfl (flat_i64 Tryz.underlying2 (by kernel_rfl)) (flat_u64 Tryz.underlying40 (by kernel_rfl))).map fun a h => ⟨a, h, rfl⟩
abbrev SerA := (Value × List Lab) × (Value × List Sam)
def serCell (a : SerA) : List Value := [a.1.1] ++ [a.2.1]
def serOk (w : World) (a : SerA) : Prop := ((∀ x ∈ a.1.2, labOk12 x) ∧ Rd w 2 a.1.1 a.1.2.length (a.1.2.flatMap labCell12)) ∧ ((∀ x ∈ a.2.2, sampleOk x) ∧ Rd w 2 a.2.1 a.2.2.length (a.2.2.flatMap samCell12))
theorem flat_ser : FlatW Tryz.prog 37 2 serCell serOk :=
  flatW_struct2 Tryz.underlying37 (by kernel_rfl) rfl rfl (flatW_slice (by decide) flat_lab12.wide Tryz.underlying34 (by kernel_rfl)) (flatW_slice (by decide) flat_sam12.wide Tryz.underlying35 (by kernel_rfl))
theorem series_in {w : World} {v : Value} {l : List SerA} (ok : ∀ a ∈ l, serOk w a) (hr : Rd w 2 v l.length (l.flatMap serCell)) : ∃ b : List Ser, Sized b ∧ RdB w v b := by
  refine ⟨l.map fun a => (a.1.2, a.2.2), fun s hs => ?_, ⟨l.map fun a => (a.1.1, a.2.1), ?_, by simp, fun i h s hi hj => ?_⟩⟩
  · obtain ⟨a, ha, rfl⟩ := List.mem_map.1 hs
    exact ⟨(ok a ha).1.1, (ok a ha).2.1⟩
  · rw [List.length_map, two, List.flatMap_map]; exact hr
  · rw [List.getElem?_map] at hi hj
    cases e : l[i]? with
    | none => rw [e] at hi; cases hi
    | some a =>
      rw [e] at hi hj; cases hi; cases hj
      have h := ok a (List.mem_of_getElem? e)
      exact ⟨h.1.2, h.2.2⟩
end Go.Proofs.YtkodhbkmpnokjaaGreat

end

section
/- Layer 11: the two labels of the examples. No program in sight. -/
set_option linter.unusedVariables false
namespace Go.Proofs.YtkodhbkmpnokjaaGreat
open Go Go.RowKit

def lA : ByteArray := ⟨#[97]⟩

def lB : ByteArray := ⟨#[98]⟩

def l1 : ByteArray := ⟨#[49]⟩

def l2 : ByteArray := ⟨#[50]⟩

theorem lAB : ltS lA lB = true := by simp [ltS, lA, lB, ByteArray.toList_eq, Op.bytesLess]

theorem l12 : ltS l1 l2 = true := by simp [ltS, l1, l2, ByteArray.toList_eq, Op.bytesLess]

theorem lBA : ltS lB lA = false := ltS_ok.asy lAB

theorem l21 : ltS l2 l1 = false := ltS_ok.asy l12

theorem asc_ab11 : AscB ltN [(lA, l1), (lB, l2)] := by simp [AscB, ltN, lAB]

theorem one_ab11 : ∀ x ∈ ([(lA, l1), (lB, l2)] : List Lab), oneL x = 0 := by
  intro x hx
  simp only [List.mem_cons, List.not_mem_nil, or_false] at hx
  rcases hx with rfl | rfl <;> decide

theorem norm_ba11 : normL [(lB, l2), (lA, l1)] = (0, [(lA, l1), (lB, l2)]) := by
  have h1 := norm_of_asc asc_ab11 one_ab11
  have h2 := norm_perm (l := [(lB, l2), (lA, l1)]) (m := [(lA, l1), (lB, l2)]) (List.Perm.swap _ _ _)
  rw [h1] at h2
  exact Prod.ext (h2.1.2 rfl) h2.2

theorem check_ab11 : checkL [(lA, l1), (lB, l2)] = 0 := check_asc _ none asc_ab11 one_ab11 (fun _ e => by cases e)

theorem cmp_a11 : cmpLabs [(lA, l1)] [(lA, l1), (lB, l2)] = -1 := by
  rw [cmpLabs, cmpL, if_pos (cmpLab_ok.refl _)]; rfl

theorem cmp_b11 : cmpLabs [(lA, l2)] [(lA, l1), (lB, l2)] = 1 := by
  have h : cmpLab (lA, l2) (lA, l1) = 1 := by
    rw [cmpLab, cmpP, if_pos (ordS_ok.refl _)]
    show ordB ltS l2 l1 = 1
    rw [ordB, if_neg (by rw [l21]; simp), if_pos l12]
  rw [cmpLabs, cmpL, if_neg (by rw [h]; decide), h]

theorem get_b11 : getL [(lA, l1), (lB, l2)] lB = some l2 := by
  have h : lA ≠ lB := ltS_ok.ne lAB
  simp [getL, h]
end Go.Proofs.YtkodhbkmpnokjaaGreat

end

section
/- Layer 12: the examples of the chapter. No program in sight. -/
set_option linter.unusedVariables false
namespace Go.Proofs.YtkodhbkmpnokjaaGreat
open Go Go.RowKit

def abL : List Lab := [(lA, l1), (lB, l2)]
def baL : List Lab := [(lB, l2), (lA, l1)]
def oneS : List Sam := [(1, 0)]
theorem norm_ab11 : normL abL = (0, abL) := norm_of_asc asc_ab11 one_ab11
theorem nSer_ba : nSer (baL, oneS) = (abL, oneS) := by
  unfold nSer
  have h : normL (baL, oneS).1 = (0, abL) := norm_ba11
  rw [h]
  rfl
theorem nSer_ab : nSer (abL, oneS) = (abL, oneS) := by
  unfold nSer
  have h : normL (abL, oneS).1 = (0, abL) := norm_ab11
  rw [h]
  rfl
theorem nErr_ba : nErr (baL, oneS) = 0 := by
  unfold nErr
  have h : normL (baL, oneS).1 = (0, abL) := norm_ba11
  rw [h]
  rfl
theorem nErr_ab : nErr (abL, oneS) = 0 := by
  unfold nErr
  have h : normL (abL, oneS).1 = (0, abL) := norm_ab11
  rw [h]
  rfl
theorem norm_one12 : normB [(baL, oneS)] = (0, [(abL, oneS)]) := by
  have h1 : firstErrB [(baL, oneS)] = 0 := (firstErrB_zero _).2 (fun s hs => by rw [List.mem_singleton.1 hs]; exact nErr_ba)
  rw [normB, if_neg (not_not_intro h1), List.map_singleton, nSer_ba]
  rfl
theorem norm_two12 : normB [(abL, oneS), (baL, oneS)] = (19, []) := by
  have h1 : firstErrB [(abL, oneS), (baL, oneS)] = 0 := (firstErrB_zero _).2 (fun s hs => by
    simp only [List.mem_cons, List.not_mem_nil, or_false] at hs
    rcases hs with rfl | rfl
    · exact nErr_ab
    · exact nErr_ba)
  rw [normB, if_neg (not_not_intro h1), List.map_cons, List.map_singleton, nSer_ba, nSer_ab]
  have h2 : sortE ltB [(abL, oneS), (abL, oneS)] = [(abL, oneS), (abL, oneS)] := by
    have hp := sortE_perm (lt := ltB) [(abL, oneS), (abL, oneS)]
    have h3 : ∀ x ∈ sortE ltB [(abL, oneS), (abL, oneS)], x = (abL, oneS) := fun x hx => by
      have := hp.mem_iff.1 hx
      simp only [List.mem_cons, List.not_mem_nil, or_false, or_self] at this
      exact this
    exact List.eq_replicate_iff.2 ⟨hp.length_eq, h3⟩
  rw [h2, if_pos]
  rw [adjB, decide_eq_true (cmpLabs_ok.refl abL)]
  rfl
theorem check_none12 : checkB [([], [])] = 21 := rfl
theorem check_one12 : checkB [(abL, oneS)] = 0 := by
  have h : (normB [(baL, oneS)]).1 = 0 := by rw [norm_one12]
  have := checkB_norm h
  rwa [norm_one12] at this
theorem l1A : ltS l1 lA = true := by simp [ltS, l1, lA, ByteArray.toList_eq, Op.bytesLess]
theorem l2A : ltS l2 lA = true := by simp [ltS, l2, lA, ByteArray.toList_eq, Op.bytesLess]
theorem l1B : ltS l1 lB = true := by simp [ltS, l1, lB, ByteArray.toList_eq, Op.bytesLess]
theorem syms_one12 : tabS (symsB [(abL, oneS)]) = [l1, l2, lA, lB] := by
  have h : symsB [(abL, oneS)] = [lA, l1, lB, l2] := rfl
  rw [h]
  simp [tabS, tabB, tabFrom, insB, lAB, l12, l1A, l2A, l1B, ltS_ok.asy l1A, ltS_ok.asy l2A]
theorem small_ab12 : Small [(abL, oneS)] := ⟨by decide, by decide, fun s hs => by rw [List.mem_singleton.1 hs]; decide⟩
theorem small_ba12 : Small [(baL, oneS)] := ⟨by decide, by decide, fun s hs => by rw [List.mem_singleton.1 hs]; decide⟩
theorem small_two12 : Small [(abL, oneS), (baL, oneS)] := ⟨by decide, by decide, fun s hs => by
  simp only [List.mem_cons, List.not_mem_nil, or_false] at hs
  rcases hs with rfl | rfl <;> decide⟩
theorem small_none12 : Small [([], [])] := ⟨by decide, by decide, fun s hs => by rw [List.mem_singleton.1 hs]; decide⟩
theorem sized_one12 {l : List Lab} (h : ∀ x ∈ l, x ∈ abL) : SerSized (l, oneS) := by
  refine ⟨fun x hx => ?_, fun y hy => ?_⟩
  · have := h x hx
    simp only [abL, List.mem_cons, List.not_mem_nil, or_false] at this
    rcases this with rfl | rfl <;> decide
  · rw [List.mem_singleton.1 hy]; (show (_ ∧ _) ∧ _; simp)
theorem sized_ser_ab : SerSized (abL, oneS) := sized_one12 (fun _ h => h)
theorem sized_ser_ba : SerSized (baL, oneS) := sized_one12 (fun x h => by simp [abL, baL] at h ⊢; exact h.symm)
theorem sized_ab12 : Sized [(abL, oneS)] := fun s hs => by rw [List.mem_singleton.1 hs]; exact sized_ser_ab
theorem sized_ba12 : Sized [(baL, oneS)] := fun s hs => by rw [List.mem_singleton.1 hs]; exact sized_ser_ba
theorem sized_two12 : Sized [(abL, oneS), (baL, oneS)] := fun s hs => by
  simp only [List.mem_cons, List.not_mem_nil, or_false] at hs
  rcases hs with rfl | rfl
  · exact sized_ser_ab
  · exact sized_ser_ba
theorem sized_none12 : Sized [([], [])] := fun s hs => by rw [List.mem_singleton.1 hs]; exact ⟨fun x h => (by cases h), fun x h => (by cases h)⟩
theorem samples_one12 : samplesB [(abL, oneS)] = 1 := rfl
end Go.Proofs.YtkodhbkmpnokjaaGreat

end

section
/- A row in a block is a row that is read. No program in sight. -/
set_option linter.unusedVariables false
set_option maxRecDepth 100000
namespace Go.Proofs.YtkodhbkmpnokjaaGreat
open Go Go.RowKit


/-- A whole block, read as a slice. -/
theorem Rd.of_blk {w : World} {b n : Nat} {vs : List Value} {sz : Nat} (h : Blk w b vs) (hl : vs.length = n * sz) (hn : n ≤ maxLen) : Rd w sz (.slice (some ⟨b, 0, none⟩) n n) n vs := by
  refine ⟨_, _, rfl, hl, Nat.le_refl _, hn, (fun e => by cases e), fun ad e j u hu => ?_⟩
  cases e
  have e : (⟨b, 0, none⟩ : Addr).add j = ⟨b, j, none⟩ := by unfold Addr.add; split <;> simp_all
  rw [e, h.cell]
  exact hu
end Go.Proofs.YtkodhbkmpnokjaaGreat

end

section
/- Worlds after literals. No program in sight. -/
set_option linter.unusedVariables false
set_option maxRecDepth 20000
namespace Go.Proofs.YtkodhbkmpnokjaaGreat
open Go Go.RowKit

variable {G : Nat} {T : World → Prop}

theorem alloc_next {w w' : World} {n : Nat} {cs : Array Value} {t : TypeId} (hw : w' = w.alloc (.cells cs t)) (hs : w.heap.size = n) : Blk w' n cs.toList ∧ w'.heap.size = n + 1 ∧ Below w.heap.size w w' := by
  subst hw; subst hs
  exact ⟨Blk.new w cs t, by simp, (Mods.alloc (fun _ => False) w _).below (Nat.le_refl _) (fun _ _ e => e)⟩

theorem Blk.below {w w' : World} {b : Nat} {cs : List Value} (h : Blk w b cs) (hb : Below w.heap.size w w') : Blk w' b cs := h.of_same (hb.block _ h.lt)
end Go.Proofs.YtkodhbkmpnokjaaGreat

end

section
/- Layer 12: the examples of the chapter, over the interface. -/
set_option linter.unusedVariables false
set_option maxRecDepth 20000
namespace Go.Proofs.YtkodhbkmpnokjaaGreat
open Go Go.RowKit

variable {G : Nat} {T : World → Prop}
theorem rdB_one {w : World} {m p q : Nat} {ls : List Lab} {ss : List Sam} (h : Blk w m [.slice (some ⟨p, 0, none⟩) ls.length ls.length, .slice (some ⟨q, 0, none⟩) ss.length ss.length]) (h1 : Blk w p (labCells ls)) (h2 : Blk w q (samCells ss)) (hl : ls.length ≤ maxLen) (hs : ss.length ≤ maxLen) : RdB w (.slice (some ⟨m, 0, none⟩) 1 1) [(ls, ss)] :=
  ⟨⟨[(.slice (some ⟨p, 0, none⟩) ls.length ls.length, .slice (some ⟨q, 0, none⟩) ss.length ss.length)], Rd.of_blk h rfl (by simp [maxLen]), rfl, fun i hd s hi hj => by
    cases i with
    | zero =>
      simp at hi hj
      subst hi; subst hj
      exact ⟨Rd.of_blk h1 (labCells_length ls) hl, Rd.of_blk h2 (samCells_length ss) hs⟩
    | succ i => simp at hi⟩⟩
theorem rdB_two {w : World} {m p q r : Nat} {ls ks : List Lab} {ss : List Sam} (h : Blk w m [.slice (some ⟨p, 0, none⟩) ls.length ls.length, .slice (some ⟨q, 0, none⟩) ss.length ss.length, .slice (some ⟨r, 0, none⟩) ks.length ks.length, .slice (some ⟨q, 0, none⟩) ss.length ss.length]) (h1 : Blk w p (labCells ls)) (h2 : Blk w q (samCells ss)) (h3 : Blk w r (labCells ks)) (hl : ls.length ≤ maxLen) (hk : ks.length ≤ maxLen) (hs : ss.length ≤ maxLen) : RdB w (.slice (some ⟨m, 0, none⟩) 2 2) [(ls, ss), (ks, ss)] :=
  ⟨⟨[(.slice (some ⟨p, 0, none⟩) ls.length ls.length, .slice (some ⟨q, 0, none⟩) ss.length ss.length), (.slice (some ⟨r, 0, none⟩) ks.length ks.length, .slice (some ⟨q, 0, none⟩) ss.length ss.length)], Rd.of_blk h rfl (by simp [maxLen]), rfl, fun i hd s hi hj => by
    match i with
    | 0 =>
      simp at hi hj
      subst hi; subst hj
      exact ⟨Rd.of_blk h1 (labCells_length ls) hl, Rd.of_blk h2 (samCells_length ss) hs⟩
    | 1 =>
      simp at hi hj
      subst hi; subst hj
      exact ⟨Rd.of_blk h3 (labCells_length ks) hk, Rd.of_blk h2 (samCells_length ss) hs⟩
    | i + 2 => simp at hi⟩⟩

theorem rdB_none {w : World} {m : Nat} (h : Blk w m [.slice none 0 0, .slice none 0 0]) : RdB w (.slice (some ⟨m, 0, none⟩) 1 1) [([], [])] :=
  ⟨⟨[(.slice none 0 0, .slice none 0 0)], Rd.of_blk h rfl (by simp [maxLen]), rfl, fun i hd s hi hj => by
    cases i with
    | zero =>
      simp at hi hj
      subst hi; subst hj
      exact ⟨Rd.nil _ _, Rd.nil _ _⟩
    | succ i => simp at hi⟩⟩

set_option maxHeartbeats 4000000 in
theorem alive_of12 (I : MoIf G T) (w : World) (hT : T w) : Calls Tryz.prog 10 #[] w fun e w' => e = .returned (.bool true) ∧ Below w.heap.size w w' := by
  have HT := Lib.hid hT
  clear hT
  go_enter Tryz.func10, Tryz.ntmps10
  go_wp2_with fail
  obtain ⟨n, hn⟩ : ∃ n, w.heap.size = n := ⟨_, rfl⟩
  rw [hn]
  obtain ⟨w1, hw1⟩ : ∃ x, x = w.alloc (.cells #[.int .i64 1, .int .u64 0] 42) := ⟨_, rfl⟩
  rw [← hw1]
  obtain ⟨k0, s1, b1⟩ := alloc_next hw1 hn
  obtain ⟨w2, hw2⟩ : ∃ x, x = w1.alloc (.cells #[.string ⟨#[97]⟩, .string ⟨#[49]⟩] 39) := ⟨_, rfl⟩
  rw [← hw2]
  obtain ⟨k1, s2, b2⟩ := alloc_next hw2 s1
  obtain ⟨w3, hw3⟩ : ∃ x, x = w2.alloc (.cells #[.string ⟨#[98]⟩, .string ⟨#[50]⟩] 39) := ⟨_, rfl⟩
  rw [← hw3]
  obtain ⟨k2, s3, b3⟩ := alloc_next hw3 s2
  obtain ⟨w4, hw4⟩ : ∃ x, x = w3.alloc (.cells #[.string ⟨#[97]⟩, .string ⟨#[49]⟩, .string ⟨#[98]⟩, .string ⟨#[50]⟩] 39) := ⟨_, rfl⟩
  rw [← hw4]
  obtain ⟨k3, s4, b4⟩ := alloc_next hw4 s3
  obtain ⟨w5, hw5⟩ : ∃ x, x = w4.alloc (.cells #[.string ⟨#[98]⟩, .string ⟨#[50]⟩, .string ⟨#[97]⟩, .string ⟨#[49]⟩] 39) := ⟨_, rfl⟩
  rw [← hw5]
  obtain ⟨k4, s5, b5⟩ := alloc_next hw5 s4
  obtain ⟨w6, hw6⟩ : ∃ x, x = w5.alloc (.cells #[.slice (some ⟨n + 1 + 1 + 1, 0, none⟩) 2 2, .slice (some ⟨n, 0, none⟩) 1 1, .slice (some ⟨n + 1 + 1 + 1 + 1, 0, none⟩) 2 2, .slice (some ⟨n, 0, none⟩) 1 1] 37) := ⟨_, rfl⟩
  rw [← hw6]
  obtain ⟨k5, s6, b6⟩ := alloc_next hw6 s5
  have B6 : Below w.heap.size w w6 := by
    have c2 := b1.trans (b2.mono b1.size)
    have c3 := c2.trans (b3.mono c2.size)
    have c4 := c3.trans (b4.mono c3.size)
    have c5 := c4.trans (b5.mono c4.size)
    exact c5.trans (b6.mono c5.size)
  have K0 := ((((k0.below b2).below b3).below b4).below b5).below b6
  have K1 := (((k1.below b3).below b4).below b5).below b6
  have K2 := ((k2.below b4).below b5).below b6
  have K3 := (k3.below b5).below b6
  have K4 := k4.below b6
  have HRt : Hid (RdB w6 (.slice (some ⟨n + 1 + 1 + 1 + 1 + 1, 0, none⟩) 2 2) [(abL, oneS), (baL, oneS)]) := rdB_two (ls := abL) (ks := baL) (ss := oneS) k5 K3 K0 K4 (by decide) (by decide) (by decide)
  have HB6 := Lib.hid B6; have HK0 := Lib.hid K0; have HK1 := Lib.hid K1; have HK2 := Lib.hid K2
  have HT6 := Lib.hid (I.below HT.out B6)
  have hno := I.norm _ _ w6 HT6.out HRt.out sized_two12 small_two12
  rw [norm_two12] at hno
  have HNo := Lib.hid hno
  clear hno B6 K0 K1 K2 K3 K4 k0 k1 k2 k3 k4 k5 s1 s2 s3 s4 s5 s6 b1 b2 b3 b4 b5 b6 hw1 hw2 hw3 hw4 hw5 hw6 HT HRt hn
  refine HNo.out.mono ?_
  rintro e w7 ⟨r, rfl, hr, hB⟩
  have HB7 := Lib.hid (HB6.out.trans (hB.mono HB6.out.size))
  have HT7 := Lib.hid (I.below HT6.out hB)
  have HK07 := Lib.hid (HK0.out.below hB)
  have HK17 := Lib.hid (HK1.out.below hB)
  have HK27 := Lib.hid (HK2.out.below hB)
  obtain ⟨qr, cr, hv⟩ := hr.shape
  subst hv
  have h10 : w7.cell? ⟨n + 1, 0, none⟩ = some (.string ⟨#[97]⟩) := HK17.out.cell 0
  have h11 : w7.cell? ⟨n + 1, 1, none⟩ = some (.string ⟨#[49]⟩) := HK17.out.cell 1
  have h20 : w7.cell? ⟨n + 1 + 1, 0, none⟩ = some (.string ⟨#[98]⟩) := HK27.out.cell 0
  have h21 : w7.cell? ⟨n + 1 + 1, 1, none⟩ = some (.string ⟨#[50]⟩) := HK27.out.cell 1
  clear hr hB HNo HB6 HT6 HK0 HK1 HK2
  go_wp2_with fail
  obtain ⟨m, hm⟩ : ∃ m, w7.heap.size = m := ⟨_, rfl⟩
  rw [hm]
  obtain ⟨w8, hw8⟩ : ∃ x, x = w7.alloc (.cells #[.string ⟨#[98]⟩, .string ⟨#[50]⟩, .string ⟨#[97]⟩, .string ⟨#[49]⟩] 39) := ⟨_, rfl⟩
  rw [← hw8]
  obtain ⟨k3, s3, b3⟩ := alloc_next hw8 hm
  obtain ⟨w9, hw9⟩ : ∃ x, x = w8.alloc (.cells #[.slice (some ⟨m, 0, none⟩) 2 2, .slice (some ⟨n, 0, none⟩) 1 1] 37) := ⟨_, rfl⟩
  rw [← hw9]
  obtain ⟨k4, s4, b4⟩ := alloc_next hw9 s3
  have B9 := b3.trans (b4.mono b3.size)
  have HR9 : Hid (RdB w9 (.slice (some ⟨m + 1, 0, none⟩) 1 1) [(baL, oneS)]) := rdB_one (ls := baL) (ss := oneS) k4 (k3.below b4) (HK07.out.below B9) (by decide) (by decide)
  have HB9 := Lib.hid (HB7.out.trans (B9.mono HB7.out.size))
  have HT9 := Lib.hid (I.below HT7.out B9)
  have hno := I.norm _ _ w9 HT9.out HR9.out sized_ba12 small_ba12
  rw [norm_one12] at hno
  have HNo := Lib.hid hno
  clear hno B9 k3 k4 s3 s4 b3 b4 hw8 hw9 hm HB7 HT7 HK07 HK17 HK27 HR9 h10 h11 h20 h21
  refine HNo.out.mono ?_
  rintro e w10 ⟨r, rfl, hr, hB⟩
  have HBa := Lib.hid (HB9.out.trans (hB.mono HB9.out.size))
  have HTa := Lib.hid (I.below HT9.out hB)
  have HRa : Hid (RdB w10 r [(abL, oneS)]) := hr
  obtain ⟨ql, cl, hv⟩ : ∃ p c, r = .slice p 1 c := hr.shape
  subst hv
  clear hr hB HNo HB9 HT9
  go_wp2_with fail
  obtain ⟨m, hm⟩ : ∃ m, w10.heap.size = m := ⟨_, rfl⟩
  rw [hm]
  obtain ⟨w11, hw11⟩ : ∃ x, x = w10.alloc (.cells #[.slice none 0 0, .slice none 0 0] 37) := ⟨_, rfl⟩
  rw [← hw11]
  obtain ⟨k3, s3, b3⟩ := alloc_next hw11 hm
  have HBb := Lib.hid (HBa.out.trans (b3.mono HBa.out.size))
  have HTb := Lib.hid (I.below HTa.out b3)
  have HRb := Lib.hid (HRa.out.below b3)
  have hck := I.check _ _ w11 HTb.out (rdB_none k3) sized_none12 small_none12
  rw [check_none12] at hck
  have HCk := Lib.hid hck
  clear hck k3 s3 b3 hw11 hm HBa HTa HRa
  refine HCk.out.mono ?_
  rintro e w12 ⟨rfl, hB⟩
  have HBc := Lib.hid (HBb.out.trans (hB.mono HBb.out.size))
  have HTc := Lib.hid (I.below HTb.out hB)
  have HRc := Lib.hid (HRb.out.below hB)
  have hck := I.check _ _ w12 HTc.out HRc.out sized_ab12 small_ab12
  rw [check_one12] at hck
  have HCl := Lib.hid hck
  clear hck HCk hB HBb HTb HRb
  go_wp2_with fail
  refine HCl.out.mono ?_
  rintro e w13 ⟨rfl, hB⟩
  have HBd := Lib.hid (HBc.out.trans (hB.mono HBc.out.size))
  have HTd := Lib.hid (I.below HTc.out hB)
  have HRd := Lib.hid (HRc.out.below hB)
  have hsa := I.samples _ _ w13 HTd.out HRd.out sized_ab12 small_ab12
  rw [samples_one12] at hsa
  have HSa := Lib.hid hsa
  clear hsa HCl hB HBc HTc HRc
  go_wp2_with fail
  refine HSa.out.mono ?_
  rintro e w14 ⟨rfl, hB⟩
  have HBe := Lib.hid (HBd.out.trans (hB.mono HBd.out.size))
  have HTe := Lib.hid (I.below HTd.out hB)
  have HRe := Lib.hid (HRd.out.below hB)
  have hsy := I.symbols _ _ w14 HTe.out HRe.out sized_ab12 small_ab12
  rw [syms_one12] at hsy
  have HSy := Lib.hid hsy
  clear hsy HSa hB HBd HTd HRd
  go_wp2_with fail
  refine HSy.out.mono ?_
  rintro e w15 ⟨r, rfl, hg⟩
  have hB := hg.bel
  have HBf := Lib.hid (HBe.out.trans (hB.mono HBe.out.size))
  have HTf := Lib.hid (I.below HTe.out hB)
  have HRf := Lib.hid (HRe.out.below hB)
  obtain ⟨qs, cs, hv⟩ : ∃ p c, r = .slice p 4 c := hg.rd.shape
  subst hv
  have HCn := Lib.hid (I.clone _ _ w15 HTf.out HRf.out sized_ab12 small_ab12)
  clear hg hB HSy HBe HTe HRe
  go_wp2_with fail
  refine HCn.out.mono ?_
  rintro e w16 ⟨r, rfl, hg⟩
  have hB := hg.bel
  have HBg := Lib.hid (HBf.out.trans (hB.mono HBf.out.size))
  have HTg := Lib.hid (I.below HTf.out hB)
  have HRg := Lib.hid (HRf.out.below hB)
  have HRh := Lib.hid hg.rd
  obtain ⟨qc, cc, hv⟩ : ∃ p c, r = .slice p 1 c := HRh.out.shape
  subst hv
  have heq := I.equal _ _ _ _ w16 HTg.out HRg.out HRh.out sized_ab12 sized_ab12 small_ab12 small_ab12
  rw [decide_eq_true rfl] at heq
  have HEq := Lib.hid heq
  clear heq hg hB HCn HBf HTf HRf
  go_wp2_with fail
  refine HEq.out.mono ?_
  rintro e w17 ⟨rfl, hB⟩
  have HBh := Lib.hid (HBg.out.trans (hB.mono HBg.out.size))
  have HTh := Lib.hid (I.below HTg.out hB)
  have HRi := Lib.hid (HRg.out.below hB)
  have heq := I.equal _ _ _ _ w17 HTh.out HRi.out (RdB.nil w17) sized_ab12 (fun s hs => by cases hs) small_ab12 small_nil
  rw [decide_eq_false (by intro e; cases e)] at heq
  have HEn := Lib.hid heq
  clear heq hB HEq HBg HTg HRg HRh
  go_wp2_with fail
  refine HEn.out.mono ?_
  rintro e w18 ⟨rfl, hB⟩
  have HBi := Lib.hid (HBh.out.trans (hB.mono HBh.out.size))
  go_wp2_with fail
  go_ret
  exact ⟨rfl, HBi.out⟩
end Go.Proofs.YtkodhbkmpnokjaaGreat

end

section
/- Layer 11, the program's own: strings.Compare, the parts of a label, compareBy, compareNames, compareLabels: they draw and lay blocks of their own, and turn nothing. -/
set_option linter.unusedVariables false
set_option maxRecDepth 20000
namespace Go.Proofs.YtkodhbkmpnokjaaGreat
open Go Go.RowKit

/-- Draws and new blocks, and nothing else. -/
def Grw (w w' : World) : Prop := ∃ q os, w' = Go.Sort.grow (w.drewN q) os
theorem Grw.refl (w : World) : Grw w w := ⟨0, #[], by rw [Go.Sort.grow_empty]; rfl⟩
theorem Grw.trans {a b c : World} (h : Grw a b) (k : Grw b c) : Grw a c := by
  obtain ⟨q, os, rfl⟩ := h
  obtain ⟨r, ps, rfl⟩ := k
  exact ⟨q + r, os ++ ps, by show Go.Sort.grow (Go.Sort.grow ((a.drewN q).drewN r) os) ps = _; rw [Go.Sort.grow_grow, World.drewN_drewN]⟩
theorem Grw.alloc {a b : World} (h : Grw a b) (o : Obj) : Grw a (b.alloc o) := h.trans ⟨0, #[o], by rw [Go.Sort.alloc_eq_grow]; rfl⟩
theorem Grw.drew {a b : World} (h : Grw a b) : Grw a b.drew := h.trans ⟨1, #[], by rw [Go.Sort.grow_empty]; rfl⟩
theorem Grw.drewN {a b : World} (h : Grw a b) (n : Nat) : Grw a (b.drewN n) := h.trans ⟨n, #[], by rw [Go.Sort.grow_empty]⟩
theorem Grw.grow {a b : World} (h : Grw a b) (n : Nat) (os : Array Obj) : Grw a (Go.Sort.grow (b.drewN n) os) := h.trans ⟨n, os, rfl⟩
theorem Grw.below {w w' : World} (h : Grw w w') : Below w.heap.size w w' := by
  obtain ⟨q, os, rfl⟩ := h
  exact ⟨rfl, rfl, rfl, by rw [Go.Sort.size_grow]; exact Nat.le_add_right _ _, fun k hk => Go.Sort.heap_grow_old (w.drewN q) os hk⟩
theorem Grw.size {w w' : World} (h : Grw w w') : w.heap.size ≤ w'.heap.size := h.below.size
theorem Grw.blk {w w' : World} (h : Grw w w') {b : Nat} {cs : List Value} (hb : Blk w b cs) : Blk w' b cs := hb.of_same (h.below.block b hb.lt)

theorem ordS_bytes (a b : ByteArray) : Lib.compareBytes a.data.toList b.data.toList = ordS a b := by
  have key : ∀ (a b : List UInt8), Lib.compareBytes a b = if Op.bytesLess a b then -1 else if Op.bytesLess b a then 1 else 0 := by
    intro a
    induction a with
    | nil => intro b; cases b <;> simp [Lib.compareBytes, Op.bytesLess]
    | cons x a ih =>
      intro b
      cases b with
      | nil => simp [Lib.compareBytes, Op.bytesLess]
      | cons y b =>
        rw [Lib.compareBytes, ih b]
        by_cases h1 : x < y
        · simp [Op.bytesLess, h1]
        · by_cases h2 : y < x
          · have hne : ¬ x = y := fun e => by subst e; exact h1 h2
            simp [Op.bytesLess, h1, h2, hne]
          · have e : x = y := UInt8.le_antisymm (UInt8.not_lt.1 h2) (UInt8.not_lt.1 h1)
            subst e
            simp [Op.bytesLess, h1]
  have ha : a.toList = a.data.toList := by simp [ByteArray.toList_eq]
  have hb : b.toList = b.data.toList := by simp [ByteArray.toList_eq]
  rw [key, ordS, ordB, ltS, ltS, ha, hb]

theorem cmpString_any (a b : ByteArray) (w : World) : Calls Tryz.prog 130 #[.string a, .string b] w fun e w' => e = .returned (.int .i64 (ordS a b)) ∧ w' = w := by
  rw [← ordS_bytes]
  go_enter Tryz.func130, Tryz.ntmps130
  go_wp2_with fail
  rw [run_callFunc_extern Tryz.func139 (by kernel_rfl) (by kernel_rfl) (by kernel_rfl) (e := Extern.BytealgCompare.compare) (by kernel_rfl), Lib.run_compareString]
  simp only [Result.andThen]
  rw [Oper.upon_value]
  go_wp2_with fail
  go_ret
  exact ⟨rfl, rfl⟩

theorem strCompare_any (a b : ByteArray) (w : World) : Calls Tryz.prog 108 #[.string a, .string b] w fun e w' => e = .returned (.int .i64 (ordS a b)) ∧ w' = w := by
  have HC := Lib.hid (cmpString_any a b)
  generalize ordS a b = c at *
  go_enter Tryz.func108, Tryz.ntmps108
  go_wp2_with fail
  refine (HC.out _).mono ?_
  rintro e w' ⟨rfl, rfl⟩
  go_wp2_with fail
  go_ret
  exact ⟨rfl, rfl⟩

/-- A label as a value. -/
def labV (x : Lab) : Value := .agg #[.string x.1, .string x.2]

theorem nameOf_any (x : Lab) (w : World) : Calls Tryz.prog 89 #[labV x] w fun e w' => e = .returned (.string x.1) ∧ Grw w w' := by
  obtain ⟨n, v⟩ := x
  show Calls Tryz.prog 89 #[.agg #[.string n, .string v]] w _
  have HB := Lib.hid ((Grw.refl w).alloc (.cells #[.string n, .string v] 39))
  go_enter Tryz.func89, Tryz.ntmps89
  go_wp2_with fail
  go_ret
  exact ⟨rfl, HB.out⟩
theorem valueOf_any (x : Lab) (w : World) : Calls Tryz.prog 91 #[labV x] w fun e w' => e = .returned (.string x.2) ∧ Grw w w' := by
  obtain ⟨n, v⟩ := x
  show Calls Tryz.prog 91 #[.agg #[.string n, .string v]] w _
  have HB := Lib.hid ((Grw.refl w).alloc (.cells #[.string n, .string v] 39))
  go_enter Tryz.func91, Tryz.ntmps91
  go_wp2_with fail
  go_ret
  exact ⟨rfl, HB.out⟩
end Go.Proofs.YtkodhbkmpnokjaaGreat

end

section
/- Layer 12, the program's own: Samples, isTooLarge. -/
set_option linter.unusedVariables false
set_option maxRecDepth 20000
namespace Go.Proofs.YtkodhbkmpnokjaaGreat
open Go Go.RowKit

theorem samplesB_next {b : List Ser} {i : Nat} {s : Ser} (h : b[i]? = some s) : samplesB (b.take (i + 1)) = samplesB (b.take i) + s.2.length := by
  rw [List.take_add_one, h, samplesB_append]; simp [samplesB]

set_option maxHeartbeats 2000000 in
theorem modSamples_any (bv : Value) (b : List Ser) (w : World) (h : RdB w bv b) (hn : b.length ≤ 1000000) (hs : samplesB b ≤ 1000000000) :
    Calls Tryz.prog 18 #[bv] w fun e w' => e = .returned (.int .i64 (samplesB b : Int)) ∧ Grw w w' := by
  have H := Lib.hid h; have HS := Lib.hid hs
  obtain ⟨p, c, hv⟩ := h.shape
  subst hv
  have hmx : (b.length : Int) ≤ 1000000 := by omega
  clear h hs hn
  go_enter Tryz.func18, Tryz.ntmps18
  go_wp2_with fail
  go_loopw [3, 8] (fun nv iv wr => ∃ (i N : Nat), i ≤ b.length ∧ iv = .int .i64 (i : Int) ∧ nv = .int .i64 (N : Int) ∧ Hid (samplesB (b.take i) = N) ∧ Hid (Grw w wr)) (fun _ iv _ => b.length - (intOf iv).toNat)
  case atStart => exact ⟨0, 0, Nat.zero_le _, rfl, rfl, by show _ = _; simp [samplesB], Grw.refl _⟩
  case round =>
    obtain ⟨i, N, hi, rfl, rfl, HN, HG⟩ := hrel
    have him : (i : Int) ≤ 1000000 := by omega
    have hNm : (N : Int) ≤ 1000000000 := by have := HN.out; have := samplesB_take_le b i; have := HS.out; omega
    by_cases hlt : i < b.length
    · have hlt' : (i : Int) < (b.length : Int) := by omega
      obtain ⟨s, hx⟩ : ∃ s, b[i]? = some s := ⟨_, List.getElem?_eq_getElem hlt⟩
      obtain ⟨blk, off, h1, h2, e, ⟨p1, k1, e1⟩, ⟨p2, k2, e2⟩, hal⟩ := H.out.always hx
      subst e
      subst e1
      subst e2
      obtain ⟨c1, c2, _⟩ := hal wr HG.out.below
      have HN2 : Hid (samplesB (b.take (i + 1)) = N + s.2.length) := by show _ = _; rw [samplesB_next hx, HN.out]
      have hsum : (N : Int) + (s.2.length : Int) ≤ 1000000000 := by have := HN2.out; have := samplesB_take_le b (i + 1); have := HS.out; omega
      have HG2 : Hid (Grw w (wr.alloc (.cells #[.slice p1 s.1.length k1, .slice p2 s.2.length k2] 37))) := HG.out.alloc _
      clear hx hal HG
      generalize s.2.length = m at *
      go_wp2_with fail
      go_round
      case rel => exact ⟨i + 1, N + m, by omega, by go_num, by go_num, HN2.out, HG2.out⟩
      case measure => simp [intOf]; omega
    · have hlt' : ¬ (i : Int) < (b.length : Int) := by omega
      have HE : Hid (samplesB b = N) := by have := HN.out; rw [List.take_of_length_le (by omega)] at this; exact this
      go_wp2_with fail
      go_ret
      exact ⟨by rw [HE.out]; rfl, HG.out⟩

theorem modLarge_any (bv : Value) (b : List Ser) (w : World) (h : RdB w bv b) (hs : Small b) :
    Calls Tryz.prog 28 #[bv] w fun e w' => e = .returned (.bool false) ∧ Grw w w' := by
  have HS := Lib.hid (modSamples_any bv b w h (by have := hs.len; omega) (by have := hs.sam; omega))
  obtain ⟨p, c, hv⟩ := h.shape
  subst hv
  have h1 : ¬ (1048576 : Int) < (b.length : Int) := by have := hs.len; omega
  have h2 : ¬ (16777216 : Int) < (samplesB b : Int) := by have := hs.sam; omega
  clear h hs
  generalize samplesB b = N at *
  go_enter Tryz.func28, Tryz.ntmps28
  go_wp2_with fail
  refine HS.out.mono ?_
  rintro e w1 ⟨rfl, hG⟩
  have HG := Lib.hid hG
  have hd : decide ((16777216 : Int) < (N : Int)) = false := decide_eq_false (by omega)
  clear h2 hG HS
  go_wp2_with fail
  go_ret
  exact ⟨by simp, HG.out⟩
end Go.Proofs.YtkodhbkmpnokjaaGreat

end

section
/- Layer 11, the program's own: compareBy over whatever parts, compareNames, compareLabels. -/
set_option linter.unusedVariables false
set_option maxRecDepth 20000
namespace Go.Proofs.YtkodhbkmpnokjaaGreat
open Go Go.RowKit

/-- A part: the function that gives it, and what it gives. -/
abbrev PartL := FuncId × (Lab → ByteArray)
def partV (p : PartL) : Value := .func (.func p.1) #[] #[]
/-- The function of a part does what it says. -/
structure PartIs (p : PartL) : Prop where
  enter : ∀ (args : Array Value) (w : World), (callFunc p.1 args).run Tryz.prog w = .ok (.enter p.1 args) w
  gives : ∀ (x : Lab) (w : World), Calls Tryz.prog p.1 #[labV x] w fun e w' => e = .returned (.string (p.2 x)) ∧ Grw w w'
/-- The first of the parts in which two labels differ. -/
def cmpBy (x y : Lab) : List PartL → Int
  | [] => 0
  | p :: ps => if ordS (p.2 x) (p.2 y) = 0 then cmpBy x y ps else ordS (p.2 x) (p.2 y)
theorem cmpBy_step {x y : Lab} {ps : List PartL} {i : Nat} {p : PartL} (hp : ps[i]? = some p) (h : cmpBy x y ps = cmpBy x y (ps.drop i)) :
    cmpBy x y ps = if ordS (p.2 x) (p.2 y) = 0 then cmpBy x y (ps.drop (i + 1)) else ordS (p.2 x) (p.2 y) := by
  have h1 : ps.drop i = p :: ps.drop (i + 1) := by rw [List.drop_eq_getElem_cons (List.getElem?_eq_some_iff.1 hp).1, (List.getElem?_eq_some_iff.1 hp).2]
  rw [h, h1]; rfl

set_option maxHeartbeats 4000000 in
theorem compareBy_any (ps : List PartL) (hps : ∀ p ∈ ps, PartIs p) (hn : ps.length ≤ 1000) (x y : Lab) (v : Value) (w : World) (hv : Rd w 1 v ps.length (ps.map partV)) :
    Calls Tryz.prog 88 #[labV x, labV y, v] w fun e w' => e = .returned (.int .i64 (cmpBy x y ps)) ∧ Grw w w' := by
  have HV := Lib.hid hv; have HP := Lib.hid hps
  obtain ⟨q, c, e⟩ := hv.shape
  subst e
  obtain ⟨xn, xv⟩ := x
  obtain ⟨yn, yv⟩ := y
  have hmx : (ps.length : Int) ≤ 1000 := by omega
  clear hv hps hn
  show Calls Tryz.prog 88 #[.agg #[.string xn, .string xv], .agg #[.string yn, .string yv], .slice q ps.length c] w _
  have HW : Hid (∃ w2, w2 = (w.alloc (.cells #[.string xn, .string xv] 39)).alloc (.cells #[.string yn, .string yv] 39)) := ⟨_, rfl⟩
  have HG2 : Hid (Grw w ((w.alloc (.cells #[.string xn, .string xv] 39)).alloc (.cells #[.string yn, .string yv] 39))) := ((Grw.refl w).alloc _).alloc _
  have HX2 : Hid (Blk ((w.alloc (.cells #[.string xn, .string xv] 39)).alloc (.cells #[.string yn, .string yv] 39)) w.heap.size [.string xn, .string xv]) := (Blk.new w _ _).alloc _
  have HY2 : Hid (Blk ((w.alloc (.cells #[.string xn, .string xv] 39)).alloc (.cells #[.string yn, .string yv] 39)) (w.heap.size + 1) [.string yn, .string yv]) := by
    have h := Blk.new (w.alloc (.cells #[.string xn, .string xv] 39)) #[.string yn, .string yv] 39
    have hs : (w.alloc (.cells #[.string xn, .string xv] 39)).heap.size = w.heap.size + 1 := by simp
    rwa [hs] at h
  go_enter Tryz.func88, Tryz.ntmps88
  go_wp2_with fail
  generalize (w.alloc (.cells #[.string xn, .string xv] 39)).alloc (.cells #[.string yn, .string yv] 39) = w2 at *
  clear HW
  go_loopw [12] (fun iv wr => ∃ (i : Nat), i ≤ ps.length ∧ iv = .int .i64 (i : Int) ∧ Hid (cmpBy (xn, xv) (yn, yv) ps = cmpBy (xn, xv) (yn, yv) (ps.drop i)) ∧ Hid (Grw w2 wr)) (fun iv _ => ps.length - (intOf iv).toNat)
  case atStart => exact ⟨0, Nat.zero_le _, rfl, rfl, Grw.refl _⟩
  case round =>
    obtain ⟨i, hi, rfl, HC, HG⟩ := hrel
    by_cases hlt : i < ps.length
    · have hlt' : (i : Int) < (ps.length : Int) := by omega
      have him : (i : Int) ≤ 1000 := by omega
      obtain ⟨⟨f, g⟩, hp⟩ : ∃ p, ps[i]? = some p := ⟨_, List.getElem?_eq_getElem hlt⟩
      obtain ⟨b, off, c2, e, _, _, hc⟩ := (HV.out.below (HG2.out.trans HG.out).below).at (fun e => by have := congrArg List.length e; simp at this; rw [this] at hlt; simp at hlt)
      simp only [Value.slice.injEq] at e
      obtain ⟨rfl, _, rfl⟩ := e
      have c0 : wr.cell? ⟨b, off + i, none⟩ = some (.func (.func f) #[] #[]) := hc i _ (by rw [List.getElem?_map, hp]; rfl)
      have HPi := Lib.hid (HP.out _ (List.mem_of_getElem? hp))
      have hcf := HPi.out.enter
      have HSt := Lib.hid (cmpBy_step hp HC.out)
      clear hp HC hc
      have HG3 : Hid (Grw w2 (wr.alloc (.cells #[.func (.func f) #[] #[]] 110))) := HG.out.alloc _
      have HK3 : Hid (Blk (wr.alloc (.cells #[.func (.func f) #[] #[]] 110)) wr.heap.size [.func (.func f) #[] #[]]) := Blk.new wr _ _
      go_wp2_with fail
      clear c0 HG
      generalize wr.heap.size = h8 at *
      generalize wr.alloc (.cells #[.func (.func f) #[] #[]] 110) = w3 at *
      have HX3 := Lib.hid (HG3.out.blk HX2.out)
      have HY3 := Lib.hid (HG3.out.blk HY2.out)
      have p0 : ∀ n os, (Go.Sort.grow (w3.drewN n) os).cell? ⟨h8, 0, none⟩ = some (.func (.func f) #[] #[]) := fun n os => cell_grown HK3.out.lt (HK3.out.cell 0) n os
      have x0 : ∀ n os, (Go.Sort.grow (w3.drewN n) os).cell? ⟨w.heap.size, 0, none⟩ = some (.string xn) := fun n os => cell_grown HX3.out.lt (HX3.out.cell 0) n os
      have x1 : ∀ n os, (Go.Sort.grow (w3.drewN n) os).cell? ⟨w.heap.size, 1, none⟩ = some (.string xv) := fun n os => cell_grown HX3.out.lt (HX3.out.cell 1) n os
      have y0 : ∀ n os, (Go.Sort.grow (w3.drewN n) os).cell? ⟨w.heap.size + 1, 0, none⟩ = some (.string yn) := fun n os => cell_grown HY3.out.lt (HY3.out.cell 0) n os
      have y1 : ∀ n os, (Go.Sort.grow (w3.drewN n) os).cell? ⟨w.heap.size + 1, 1, none⟩ = some (.string yv) := fun n os => cell_grown HY3.out.lt (HY3.out.cell 1) n os
      have hcx : ∀ n os, Calls Tryz.prog f #[.agg #[.string xn, .string xv]] (Go.Sort.grow (w3.drewN n) os) fun e w' => e = .returned (.string (g (xn, xv))) ∧ ∃ q os', w' = Go.Sort.grow ((Go.Sort.grow (w3.drewN n) os).drewN q) os' := fun n os => HPi.out.gives (xn, xv) _
      have hcy : ∀ n os, Calls Tryz.prog f #[.agg #[.string yn, .string yv]] (Go.Sort.grow (w3.drewN n) os) fun e w' => e = .returned (.string (g (yn, yv))) ∧ ∃ q os', w' = Go.Sort.grow ((Go.Sort.grow (w3.drewN n) os).drewN q) os' := fun n os => HPi.out.gives (yn, yv) _
      have HXC := Lib.hid hcx
      have HYC := Lib.hid hcy
      clear hcx hcy HPi HX3 HY3 HK3
      generalize g (xn, xv) = sx at *
      generalize g (yn, yv) = sy at *
      have HS : Hid (∀ n os, Calls Tryz.prog 108 #[.string sx, .string sy] (Go.Sort.grow (w3.drewN n) os) fun e w' => e = .returned (.int .i64 (ordS sx sy)) ∧ ∃ q os', w' = Go.Sort.grow ((Go.Sort.grow (w3.drewN n) os).drewN q) os') := fun n os => (strCompare_any sx sy _).mono fun e w' ⟨h1, h2⟩ => ⟨h1, Grw.refl _ |> fun h => by rw [h2]; exact h⟩
      generalize ordS sx sy = o at *
      have mixed : Tryz.prog.follows .mixedOrders = true := by kernel_rfl
      go_quiet_grown (first | (go_at_call 108; exact Calls.grown_of (HS.out _ _)) | (go_at_fn f; exact Calls.grown_of (HXC.out _ _)) | (go_at_fn f; exact Calls.grown_of (HYC.out _ _)))
      have HG4 : Hid (Grw w2 (Go.Sort.grow (w3.drewN nq) osq)) := HG3.out.grow nq osq
      clear p0 x0 x1 y0 y1 HXC HYC HS HG3 hcf mixed
      show Exit.then _ _ _ _ (Go.Sort.grow (w3.drewN nq) osq)
      generalize Go.Sort.grow (w3.drewN nq) osq = w4 at *
      by_cases ho : o = 0
      · subst ho
        rw [if_pos rfl] at HSt
        go_wp2_with fail
        go_round
        case rel => exact ⟨i + 1, by omega, by go_num, HSt.out, HG4.out⟩
        case measure => simp [intOf]; omega
      · have hob : (o == 0) = false := by rw [beq_eq_false_iff_ne]; exact ho
        rw [if_neg ho] at HSt
        go_wp2_with fail
        go_ret
        exact ⟨by rw [HSt.out]; rfl, HG2.out.trans HG4.out⟩
    · have hlt' : ¬ (i : Int) < (ps.length : Int) := by omega
      have HE : Hid (cmpBy (xn, xv) (yn, yv) ps = 0) := by
        show _ = _
        rw [HC.out, List.drop_of_length_le (by omega)]
        rfl
      go_wp2_with fail
      go_ret
      exact ⟨by rw [HE.out]; rfl, HG2.out.trans HG.out⟩
end Go.Proofs.YtkodhbkmpnokjaaGreat

end

section
/- Layer 11, the program's own: compareNames and compareLabels. -/
set_option linter.unusedVariables false
set_option maxRecDepth 20000
namespace Go.Proofs.YtkodhbkmpnokjaaGreat
open Go Go.RowKit

def nameP : PartL := (89, fun x => x.1)
def valueP : PartL := (91, fun x => x.2)
theorem nameP_is : PartIs nameP := ⟨fun _ _ => rfl, nameOf_any⟩
theorem valueP_is : PartIs valueP := ⟨fun _ _ => rfl, valueOf_any⟩
theorem cmpBy_name (x y : Lab) : cmpBy x y [nameP] = ordS x.1 y.1 := by
  show (if ordS x.1 y.1 = 0 then 0 else ordS x.1 y.1) = _
  split
  · next h => exact h.symm
  · rfl
theorem cmpBy_both (x y : Lab) : cmpBy x y [nameP, valueP] = cmpLab x y := by
  show (if ordS x.1 y.1 = 0 then (if ordS x.2 y.2 = 0 then 0 else ordS x.2 y.2) else ordS x.1 y.1) = cmpLab x y
  unfold cmpLab cmpP
  split
  · split
    · next h => exact h.symm
    · rfl
  · rfl

set_option maxHeartbeats 2000000 in
theorem compareNames_any (x y : Lab) (w : World) :
    Calls Tryz.prog 68 #[labV x, labV y] w fun e w' => e = .returned (.int .i64 (ordS x.1 y.1)) ∧ Grw w w' := by
  obtain ⟨xn, xv⟩ := x
  obtain ⟨yn, yv⟩ := y
  obtain ⟨w1, hw1⟩ : ∃ w1, w1 = w.alloc (.cells #[.string xn, .string xv] 39) := ⟨_, rfl⟩
  obtain ⟨w2, hw2⟩ : ∃ w2, w2 = w1.alloc (.cells #[.string yn, .string yv] 39) := ⟨_, rfl⟩
  obtain ⟨w3, hw3⟩ : ∃ w3, w3 = w2.alloc (.cells #[.func (.func 89) #[] #[]] 110) := ⟨_, rfl⟩
  have HG : Hid (Grw w w3) := by show Grw _ _; rw [hw3, hw2, hw1]; exact (((Grw.refl w).alloc _).alloc _).alloc _
  have HK : Hid (Blk w3 w2.heap.size [.func (.func 89) #[] #[]]) := by show Blk _ _ _; rw [hw3]; exact Blk.new w2 _ _
  have HC := Lib.hid (compareBy_any [nameP] (by intro p hp; simp at hp; subst hp; exact nameP_is) (by simp) (xn, xv) (yn, yv) _ w3 (Rd.of_blk (n := 1) HK.out rfl (by decide)))
  have HE := Lib.hid (cmpBy_name (xn, xv) (yn, yv))
  have HW : Hid (w3 = ((w.alloc (.cells #[.string xn, .string xv] 39)).alloc (.cells #[.string yn, .string yv] 39)).alloc (.cells #[.func (.func 89) #[] #[]] 110)) := by show _ = _; rw [hw3, hw2, hw1]
  have HS : Hid (w2.heap.size = w.heap.size + 1 + 1) := by show _ = _; rw [hw2, hw1]; simp
  clear hw1 hw2 hw3 HK
  rw [HS.out] at HC
  clear HS
  show Calls Tryz.prog 68 #[.agg #[.string xn, .string xv], .agg #[.string yn, .string yv]] w _
  go_enter Tryz.func68, Tryz.ntmps68
  go_wp2_with fail
  rw [← HW.out]
  refine HC.out.mono ?_
  rintro e w4 ⟨rfl, hG⟩
  have HG4 := Lib.hid (HG.out.trans hG)
  clear hG HC HG HW
  rw [HE.out]
  clear HE
  go_wp2_with fail
  go_ret
  exact ⟨rfl, HG4.out⟩

set_option maxHeartbeats 2000000 in
theorem compareLabels_any (x y : Lab) (w : World) :
    Calls Tryz.prog 71 #[labV x, labV y] w fun e w' => e = .returned (.int .i64 (cmpLab x y)) ∧ Grw w w' := by
  obtain ⟨xn, xv⟩ := x
  obtain ⟨yn, yv⟩ := y
  obtain ⟨w1, hw1⟩ : ∃ w1, w1 = w.alloc (.cells #[.string xn, .string xv] 39) := ⟨_, rfl⟩
  obtain ⟨w2, hw2⟩ : ∃ w2, w2 = w1.alloc (.cells #[.string yn, .string yv] 39) := ⟨_, rfl⟩
  obtain ⟨w3, hw3⟩ : ∃ w3, w3 = w2.alloc (.cells #[.func (.func 89) #[] #[], .func (.func 91) #[] #[]] 110) := ⟨_, rfl⟩
  have HG : Hid (Grw w w3) := by show Grw _ _; rw [hw3, hw2, hw1]; exact (((Grw.refl w).alloc _).alloc _).alloc _
  have HK : Hid (Blk w3 w2.heap.size [.func (.func 89) #[] #[], .func (.func 91) #[] #[]]) := by show Blk _ _ _; rw [hw3]; exact Blk.new w2 _ _
  have HC := Lib.hid (compareBy_any [nameP, valueP] (by intro p hp; simp at hp; rcases hp with rfl | rfl <;> first | exact nameP_is | exact valueP_is) (by simp) (xn, xv) (yn, yv) _ w3 (Rd.of_blk (n := 2) HK.out rfl (by decide)))
  have HE := Lib.hid (cmpBy_both (xn, xv) (yn, yv))
  have HW : Hid (w3 = ((w.alloc (.cells #[.string xn, .string xv] 39)).alloc (.cells #[.string yn, .string yv] 39)).alloc (.cells #[.func (.func 89) #[] #[], .func (.func 91) #[] #[]] 110)) := by show _ = _; rw [hw3, hw2, hw1]
  have HS : Hid (w2.heap.size = w.heap.size + 1 + 1) := by show _ = _; rw [hw2, hw1]; simp
  clear hw1 hw2 hw3 HK
  rw [HS.out] at HC
  clear HS
  show Calls Tryz.prog 71 #[.agg #[.string xn, .string xv], .agg #[.string yn, .string yv]] w _
  go_enter Tryz.func71, Tryz.ntmps71
  go_wp2_with fail
  rw [← HW.out]
  refine HC.out.mono ?_
  rintro e w4 ⟨rfl, hG⟩
  have HG4 := Lib.hid (HG.out.trans hG)
  clear hG HC HG HW
  rw [HE.out]
  clear HE
  go_wp2_with fail
  go_ret
  exact ⟨rfl, HG4.out⟩

end Go.Proofs.YtkodhbkmpnokjaaGreat

end
