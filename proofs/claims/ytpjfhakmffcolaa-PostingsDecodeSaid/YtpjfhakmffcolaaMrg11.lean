/- LsCl, RdLL, ArAt, ElemLL, LsE, LsU, PbC, PbD, VarintA, ApAt, PosS, SlB, Ref10B, in one text. -/
import Derived.Test.YtpjfhakmffcolaaMrg10
import Derived.Test.YtpjfhakmffcolaaMrg1
import Derived.Test.YtpjfhakmffcolaaMrg2
import Derived.Test.YtpjfhakmffcolaaMrg6
import Derived.Test.YtpjfhakmffcolaaMrg9
import Derived.Test.YtpjfhakmffcolaaMrg5
import Derived.Test.YtpjfhakmffcolaaMrg3
import Derived.Test.YtpjfhakmffcolaaMrg4
import Derived.Shelf.Spec.SearchS

section
/- Layer 14: slices.Clone at numbers. (Cut from XLsC.) -/
set_option linter.unusedVariables false
set_option maxRecDepth 20000
namespace Go.Proofs.Ytpjfhakmffcolaa
open Go Go.RowKit

set_option maxHeartbeats 400000 in
/-- slices.Clone. -/
theorem clone_int (v : Value) (l : List Int) (w : World) (h : Rd w 1 v l.length (i64s l)) (hn : l.length ≤ 17592186044416) :
    Calls Try.prog 107 #[v] w fun e w' => ∃ r, e = .returned r ∧ Made w w' 3 1 r l.length (i64s l) := by
  have hq : ∀ (w : World) (a : Option Addr) (n c n' c' : Nat), (binOp .eql 38 (.slice a n c) (.slice none n' c')).run Try.prog w = .ok (.bool a.isNone) w := fun w a n c n' c' => Lib.run_eql_slice_nil w _ _ a n c n' c' Try.underlying38
  obtain ⟨p, c, hv⟩ := h.shape
  subst hv
  cases p with
  | none =>
    obtain ⟨_, _, e, hl, _, _, hnil, _⟩ := h
    simp only [Value.slice.injEq] at e
    obtain ⟨rfl, _, rfl⟩ := e
    obtain ⟨h0, rfl⟩ := hnil rfl
    obtain rfl : l = [] := List.eq_nil_of_length_eq_zero h0
    go_enter Try.func107, Try.ntmps107
    go_wp2
    go_ret
    exact ⟨_, rfl, World.ownsRow_nil _ _ _ _, Below.refl _ _⟩
  | some ad =>
    have HB : Hid (Below w.heap.size w (w.alloc (.cells #[] 3))) := (Below.refl _ _).alloc (Nat.le_refl _) _
    have HR := Lib.hid (h.below HB.out)
    clear h
    have HO : Hid ((w.alloc (.cells #[] 3)).ownsRow 0 3 1 (.slice (some ⟨w.heap.size, 0, none⟩) 0 0) 0 []) := World.ownsRow_lit (base := 0) w #[] 0 (Nat.zero_le _) (by simp [maxLen]) (by simp)
    have HL : Hid ((0 + l.length) * 8 ≤ 140737488355328 ∧ 0 + l.length ≤ maxLen) := by show _ ∧ _; unfold maxLen; omega
    go_enter Try.func107, Try.ntmps107
    go_wp2_with (at_builtin; refine wpList_extend elemInt14 _ _ _ _ _ _ _ HO.out HR.out (i64s_one _) HL.out rfl _ _ rfl rfl rfl ?_)
    intro v' w1 hown hmods hfr
    have HM : Hid (Made w w1 3 1 v' l.length (i64s l)) := by
      refine ⟨?_, HB.out.trans (hmods.below HB.out.size (fun k hk e => by simp [Value.ownBlock] at e; omega))⟩
      try simp only [List.nil_append, Nat.zero_add] at hown
      exact owns_rebase hown (fun k hk => by
        rcases hfr k hk with e | e
        · simp [Value.ownBlock] at e; omega
        · have := HB.out.size; omega)
    clear hown hmods hfr
    go_wp2
    go_ret
    exact ⟨_, rfl, HM.out⟩
end Go.Proofs.Ytpjfhakmffcolaa

end

section
/- Layer 14: lists of lists of numbers that are read. No program in sight. -/
set_option linter.unusedVariables false
namespace Go.Proofs.Ytpjfhakmffcolaa
open Go Go.RowKit

structure RdLL (w : World) (v : Value) (m : List (List Int)) : Prop where
  ex : ∃ hs : List Value, Rd w 1 v hs.length hs ∧ hs.length = m.length ∧ ∀ (i : Nat) (h : Value) (l : List Int), hs[i]? = some h → m[i]? = some l → Rd w 1 h l.length (i64s l)
theorem RdLL.below {w w' : World} {v : Value} {m : List (List Int)} (k : RdLL w v m) (hb : Below w.heap.size w w') : RdLL w' v m := by
  obtain ⟨hs, h1, h2, h3⟩ := k.ex
  exact ⟨hs, h1.below hb, h2, fun i h s hi hj => (h3 i h s hi hj).below hb⟩
theorem RdLL.shape {w : World} {v : Value} {m : List (List Int)} (k : RdLL w v m) : ∃ p c, v = .slice p m.length c := by
  obtain ⟨hs, h1, h2, _⟩ := k.ex
  rw [← h2]
  exact h1.shape
theorem RdLL.le {w : World} {v : Value} {m : List (List Int)} (k : RdLL w v m) : m.length ≤ maxLen := by
  obtain ⟨hs, h1, h2, _⟩ := k.ex
  rw [← h2]
  exact h1.le
/-- List i of a list, in every later world. -/
theorem RdLL.always {w : World} {p : Option Addr} {n c : Nat} {m : List (List Int)} (k : RdLL w (.slice p n c) m) {i : Nat} {l : List Int} (hi : m[i]? = some l) :
    ∃ blk off p1 c1, p = some ⟨blk, off, none⟩ ∧ ∀ w', Below w.heap.size w w' → w'.cell? ⟨blk, off + i, none⟩ = some (.slice p1 l.length c1) ∧ Rd w' 1 (.slice p1 l.length c1) l.length (i64s l) := by
  obtain ⟨hs, h1, h2, h3⟩ := k.ex
  have hlt := (List.getElem?_eq_some_iff.1 hi).1
  obtain ⟨h, hh⟩ : ∃ h, hs[i]? = some h := ⟨_, List.getElem?_eq_getElem (by omega)⟩
  have hr := h3 i h l hh hi
  obtain ⟨p1, c1, rfl⟩ := hr.shape
  obtain ⟨b, off, c', e, _, _, hc⟩ := h1.at (fun e => by rw [e] at hh; simp at hh)
  simp only [Value.slice.injEq] at e
  have hcell := hc i _ hh
  exact ⟨b, off, p1, c1, e.1, fun w' hb => ⟨(hb.cell (World.block_lt_of_cell? w _ hcell)).trans hcell, hr.below hb⟩⟩
theorem RdLL.single {w : World} {v h : Value} {l : List Int} (h1 : Rd w 1 v 1 [h]) (h2 : Rd w 1 h l.length (i64s l)) : RdLL w v [l] :=
  ⟨[h], h1, rfl, fun i h' l' hi hj => by
    cases i with
    | zero => simp at hi hj; subst hi hj; exact h2
    | succ i => simp at hi⟩
theorem RdLL.pair {w : World} {v h g : Value} {l k : List Int} (h1 : Rd w 1 v 2 [h, g]) (h2 : Rd w 1 h l.length (i64s l)) (h3 : Rd w 1 g k.length (i64s k)) : RdLL w v [l, k] :=
  ⟨[h, g], h1, rfl, fun i h' l' hi hj => by
    match i with
    | 0 => simp at hi hj; subst hi hj; exact h2
    | 1 => simp at hi hj; subst hi hj; exact h3
    | i + 2 => simp at hi⟩
end Go.Proofs.Ytpjfhakmffcolaa

end

section
/- Layer 14: a list of lists under way, in a row of the call's own, whose lists lie elsewhere. -/
set_option linter.unusedVariables false
set_option maxRecDepth 20000
namespace Go.Proofs.Ytpjfhakmffcolaa
open Go Go.RowKit

theorem i64s_ne14 {l : List Int} (h : i64s l ≠ []) : l ≠ [] := fun e => h (by subst e; rfl)
theorem getElem?_snoc14 {α : Type} {l : List α} {x y : α} {i : Nat} (h : (l ++ [x])[i]? = some y) : l[i]? = some y ∨ (i = l.length ∧ y = x) := by
  by_cases hi : i < l.length
  · rw [List.getElem?_append_left hi] at h; exact Or.inl h
  · rw [List.getElem?_append_right (by omega)] at h
    have : i - l.length = 0 := by
      rcases Nat.eq_zero_or_pos (i - l.length) with e | e
      · exact e
      · rw [List.getElem?_eq_none (by simp; omega)] at h; cases h
    rw [this] at h
    simp at h
    exact Or.inr ⟨by omega, h.symm⟩
def IntOff (S : Nat → Prop) (h : Value) (s : List Int) : Prop := i64s s ≠ [] → ∀ k, h.ownBlock = some k → ¬ S k
structure ArAt (t : TypeId) (w wr : World) (hs : List Value) (m : List (List Int)) (v : Value) : Prop where
  row : Own1 t (fun h : Value => h) w wr hs v
  len : hs.length = m.length
  ser : ∀ (i : Nat) (h : Value) (s : List Int), hs[i]? = some h → m[i]? = some s → Rd wr 1 h s.length (i64s s) ∧ IntOff (fun k => v.ownBlock = some k) h s
theorem ArAt.nil {t : TypeId} (w : World) : ArAt t w w [] [] (.slice none 0 0) := ⟨Own1.nil w, rfl, fun i h s hi _ => by simp at hi⟩
theorem ArAt.below {t : TypeId} {w wr w1 : World} {hs : List Value} {m : List (List Int)} {v : Value} (k : ArAt t w wr hs m v) (hb : Below wr.heap.size wr w1) : ArAt t w w1 hs m v :=
  ⟨k.row.below hb, k.len, fun i h s hi hj => ⟨(k.ser i h s hi hj).1.below hb, (k.ser i h s hi hj).2⟩⟩
theorem ArAt.rd {t : TypeId} {w wr : World} {hs : List Value} {m : List (List Int)} {v : Value} (k : ArAt t w wr hs m v) : RdLL wr v m :=
  ⟨⟨hs, by have h := k.row.rd; rwa [List.map_id'] at h, k.len, fun i h s hi hj => (k.ser i h s hi hj).1⟩⟩
/-- An append. -/
theorem ArAt.pushed {t : TypeId} {w wr w1 : World} {hs : List Value} {m : List (List Int)} {v v1 : Value} {h : Value} {s : List Int} (k : ArAt t w wr hs m v) (hsr : Rd wr 1 h s.length (i64s s)) (ho : IntOff (fun j => v.ownBlock = some j) h s)
    (k1 : w1.ownsRow 0 t 1 v1 (hs.length + 1) (hs ++ [h])) (hm : Mods (fun j => v.ownBlock = some j) wr w1) (hf : Fresh wr.heap.size v v1) : ArAt t w w1 (hs ++ [h]) (m ++ [s]) v1 := by
  have hoff : ∀ (h : Value) (s : List Int), Rd wr 1 h s.length (i64s s) → IntOff (fun j => v.ownBlock = some j) h s → Rd w1 1 h s.length (i64s s) ∧ IntOff (fun j => v1.ownBlock = some j) h s := fun h s a b => by
    refine ⟨a.mods' hm b, fun e j hj hv => ?_⟩
    rcases hf j hv with f | f
    · exact b e j hj f
    · have := a.lt e j hj; omega
  refine ⟨k.row.pushed (by rw [List.map_id']; exact k1) hm hf, by simp [k.len], fun i h' s' hi hj => ?_⟩
  rcases getElem?_snoc14 hi with e | ⟨e, rfl⟩
  · rcases getElem?_snoc14 hj with f | ⟨f, _⟩
    · exact hoff _ _ (k.ser i h' s' e f).1 (k.ser i h' s' e f).2
    · have := (List.getElem?_eq_some_iff.1 e).1; have := k.len; omega
  · rcases getElem?_snoc14 hj with f | ⟨_, rfl⟩
    · have := (List.getElem?_eq_some_iff.1 f).1; have := k.len; omega
    · exact hoff _ _ hsr ho
end Go.Proofs.Ytpjfhakmffcolaa

end

section
/- Layer 14: lists of lists as elements. (Cut from XLarge14.) -/
set_option linter.unusedVariables false
set_option maxRecDepth 20000
namespace Go.Proofs.Ytpjfhakmffcolaa
open Go Go.RowKit


theorem elemLL14 : Elem Try.prog 109 38 1 24 := Elem.mk' (z := .slice none 0 0) Try.underlying109 (by kernel_rfl) rfl (by decide)
end Go.Proofs.Ytpjfhakmffcolaa

end

section
/- Layer 14: the program: halves are combined. (Cut from XLsD.) -/
set_option linter.unusedVariables false
set_option maxRecDepth 20000
namespace Go.Proofs.Ytpjfhakmffcolaa
open Go Go.RowKit


theorem RdLL.upto {w : World} {p : Option Addr} {n c : Nat} {m : List (List Int)} (k : RdLL w (.slice p n c) m) (hn : n = m.length) (i : Nat) (hi : i ≤ m.length) : RdLL w (.slice p i c) (m.take i) := by
  obtain ⟨hs, h1, h2, h3⟩ := k.ex
  subst hn
  rw [h2] at h1
  have h := h1.upto i hi
  rw [Nat.mul_one] at h
  have hl : (hs.take i).length = i := by rw [List.length_take]; omega
  refine ⟨hs.take i, by rw [hl]; exact h, by rw [hl, List.length_take]; omega, fun j g l hg hl => ?_⟩
  rw [List.getElem?_take] at hg hl
  split at hg
  · next hj => rw [if_pos hj] at hl; exact h3 j g l hg hl
  · cases hg

theorem RdLL.from {w : World} {p : Option Addr} {n c : Nat} {m : List (List Int)} (k : RdLL w (.slice p n c) m) (hn : n = m.length) (i : Nat) (hi : i ≤ m.length) : RdLL w (sliced p i n c 1) (m.drop i) := by
  obtain ⟨hs, h1, h2, h3⟩ := k.ex
  subst hn
  rw [h2] at h1
  have h := h1.from i hi
  rw [Nat.mul_one] at h
  have hl : (hs.drop i).length = m.length - i := by rw [List.length_drop]; omega
  refine ⟨hs.drop i, by rw [hl]; exact h, by rw [hl, List.length_drop], fun j g l hg hl => ?_⟩
  rw [List.getElem?_drop] at hg hl
  exact h3 _ g l hg hl

theorem RdLL.cap {w : World} {p : Option Addr} {n c : Nat} {m : List (List Int)} (k : RdLL w (.slice p n c) m) : n ≤ c := by
  obtain ⟨hs, h1, _, _⟩ := k.ex
  obtain ⟨_, _, e, _, h2, _⟩ := h1
  simp only [Value.slice.injEq] at e
  obtain ⟨_, rfl, rfl⟩ := e
  exact h2

theorem OwnI.later {w w1 w2 : World} {d : List Int} {v : Value} (hb : Below w.heap.size w w1) (h : OwnI w1 w2 d v) : OwnI w w2 d v :=
  ⟨owns_rebase h.row (fun k hk => by have h1 := (h.row.lt k hk).1; have h2 := hb.size; omega), hb.trans (h.bel.mono hb.size)⟩

set_option maxHeartbeats 4000000 in
theorem combine_any (O : Int) (hO : O = 4 ∨ O = 7) : ∀ (N : Nat) (mv : Value) (m : List (List Int)) (w : World), m.length ≤ N → RdLL w mv m → (∀ l ∈ m, AscB ltI l) → m.flatten.length ≤ 1000000 →
    Calls Try.prog 91 #[mv, .int .i64 O] w fun e w' => ∃ v, e = .returned v ∧ OwnI w w' (cmbZ O m) v := by
  intro N
  induction N using Nat.strongRecOn with
  | _ N ih =>
  intro mv m w hN hm ha hf
  have HM := Lib.hid hm; have HA := Lib.hid ha; have HF := Lib.hid hf
  obtain ⟨p, c, hv⟩ := hm.shape
  subst hv
  have HCap := Lib.hid hm.cap
  have hcase : m = [] ∨ (∃ a, m = [a]) ∨ 2 ≤ m.length := by
    match m with
    | [] => exact Or.inl rfl
    | [a] => exact Or.inr (Or.inl ⟨a, rfl⟩)
    | _ :: _ :: r => exact Or.inr (Or.inr (by simp))
  clear hm ha hf
  rcases hcase with hmm | ⟨a, hmm⟩ | h2
  · subst hmm
    have HE := Lib.hid (cmbZ_nil O)
    rw [HE.out]
    clear HM HA HF hN ih HCap
    simp only [List.length_nil]
    go_enter Try.func91, Try.ntmps91
    go_wp2_with fail
    go_ret
    exact ⟨_, rfl, Own1.nil w⟩
  · subst hmm
    have HE := Lib.hid (cmbZ_one O (HA.out a (by simp)))
    rw [HE.out]
    have HLa : Hid (a.length ≤ 17592186044416) := by show _ ≤ _; have := HF.out; simp at this; omega
    obtain ⟨blk, off, pa, ca, e, hal⟩ := HM.out.always (i := 0) (l := a) rfl
    subst e
    obtain ⟨c0', hR⟩ := hal w (Below.refl _ _)
    have c0 : w.cell? ⟨blk, off, none⟩ = some (.slice pa a.length ca) := c0'
    clear c0'
    have HC := Lib.hid (clone_int _ a w hR HLa.out)
    clear HM HA HF hN ih HCap hal hR
    simp only [List.length_cons, List.length_nil, Nat.zero_add]
    go_enter Try.func91, Try.ntmps91
    go_wp2_with fail
    refine HC.out.mono ?_
    rintro e w1 ⟨r, rfl, hO, hB⟩
    have HO1 : Hid (OwnI w w1 a r) := ⟨hO, hB⟩
    clear hO hB HC
    go_wp2_with fail
    go_ret
    exact ⟨_, rfl, HO1.out⟩
  · obtain ⟨k, hk⟩ : ∃ k, m.length / 2 = k := ⟨_, rfl⟩
    have hk1 : 1 ≤ k ∧ k < m.length := by omega
    have HK := Lib.hid hk1
    have HS := Lib.hid (cmbZ_split hO (m := m.take k) (k := m.drop k) (fun e => by have := congrArg List.length e; rw [List.length_take, List.length_nil] at this; omega) (fun e => by have := congrArg List.length e; rw [List.length_drop, List.length_nil] at this; omega) (by rw [List.take_append_drop]; exact HA.out))
    rw [List.take_append_drop] at HS
    have HFl : Hid ((m.take k).flatten.length ≤ 1000000 ∧ (m.drop k).flatten.length ≤ 1000000 ∧ (m.take k).flatten.length + (m.drop k).flatten.length ≤ 1000000) := by
      have h := HF.out
      rw [← List.take_append_drop k m, List.flatten_append, List.length_append] at h
      show _ ∧ _
      omega
    have HI1 := Lib.hid (fun w' (hb : Below w.heap.size w w') => ih k (by omega) _ (m.take k) w' (by rw [List.length_take]; omega) ((HM.out.upto rfl k (by omega)).below hb) (fun l hl => HA.out l (List.mem_of_mem_take hl)) HFl.out.1)
    have hRf := HM.out.from rfl k (by omega)
    obtain ⟨pf, cf, hsl⟩ := hRf.shape
    have HI2 := Lib.hid (fun w' (hb : Below w.heap.size w w') => ih (m.length - k) (by omega) _ (m.drop k) w' (by rw [List.length_drop]; omega) (hRf.below hb) (fun l hl => HA.out l (List.mem_of_mem_drop hl)) HFl.out.2.1)
    rw [hsl] at HI2
    obtain ⟨ld, hld⟩ : ∃ ld, (m.drop k).length = ld := ⟨_, rfl⟩
    rw [hld] at HI2 hsl
    clear hld
    have HSl := Lib.hid hsl
    have HZ1 := Lib.hid (cmbZ_len O (m.take k)); have HZ2 := Lib.hid (cmbZ_len O (m.drop k))
    have hkq : ((m.length : Nat) : Int).tdiv 2 = (k : Int) := by rw [Int.tdiv_eq_ediv_of_nonneg (by omega)]; omega
    have hmx : (m.length : Int) ≤ 9223372036854775807 := by have := HM.out.le; unfold maxLen at this; omega
    have hwk : wrap64 (k : Int) = (k : Int) := by unfold RowKit.wrap64; omega
    have hne0 : ((m.length : Int) == 0) = false := by rw [beq_eq_false_iff_ne]; omega
    have hne1 : ((m.length : Int) == 1) = false := by rw [beq_eq_false_iff_ne]; omega
    have hO' := hO
    clear hRf hsl HM HA HF hN ih hO
    go_enter Try.func91, Try.ntmps91
    go_wp2_with fail
    have HD : Hid (Below w.heap.size w w.drew) := ⟨rfl, rfl, rfl, Nat.le_refl _, fun _ _ => rfl⟩
    refine wp_region_take [4, 9, 11] [0, 1, 2, 3, 5, 6, 7, 8, 10, 4, 9, 11, 12] (by kernel_rfl) (by kernel_rfl) (by kernel_rfl) ?_ ?_
    · intro c a a' w hd h
      exact ⟨hd ▸ h.1, h.2⟩
    simp only [taken, List.map_cons, List.map_nil, List.getElem?_cons_succ, List.getElem?_cons_zero, Option.getD_some]
    repeat (first
        | (refine take_skip rfl ?_; simp only [Act.put, List.setIfInBounds_toArray, List.set_cons_succ, List.set_cons_zero])
        | (refine take_blind rfl rfl ?_; apply Exists.intro; refine ⟨fun w => ?_, ?_⟩; (go_simp; try with_reducible rfl); simp only [Act.put, List.setIfInBounds_toArray, List.set_cons_succ, List.set_cons_zero]))
    refine take_blind rfl rfl ⟨_, fun w' => exec_upto elemLL14 w' p m.length c k (Nat.le_of_lt HK.out.2) HCap.out _ _ rfl rfl rfl, ?_⟩
    simp only [Act.put, List.setIfInBounds_toArray, List.set_cons_succ, List.set_cons_zero]
    repeat (first
        | (refine take_skip rfl ?_; simp only [Act.put, List.setIfInBounds_toArray, List.set_cons_succ, List.set_cons_zero])
        | (refine take_blind rfl rfl ?_; apply Exists.intro; refine ⟨fun w => ?_, ?_⟩; (go_simp; try with_reducible rfl); simp only [Act.put, List.setIfInBounds_toArray, List.set_cons_succ, List.set_cons_zero]))
    refine take_blind rfl rfl ⟨_, fun w' => (exec_from elemLL14 w' p m.length c k (Nat.le_of_lt HK.out.2) _ _ rfl rfl rfl).trans (by rw [HSl.out]), ?_⟩
    simp only [Act.put, List.setIfInBounds_toArray, List.set_cons_succ, List.set_cons_zero]
    repeat (first
        | (refine take_skip rfl ?_; simp only [Act.put, List.setIfInBounds_toArray, List.set_cons_succ, List.set_cons_zero])
        | (refine take_blind rfl rfl ?_; apply Exists.intro; refine ⟨fun w => ?_, ?_⟩; (go_simp; try with_reducible rfl); simp only [Act.put, List.setIfInBounds_toArray, List.set_cons_succ, List.set_cons_zero]))
    refine take_call rfl rfl (fun K hK => ?_)
    go_wp2_with fail
    refine (HI1.out _ HD.out).mono ?_
    rintro e w1 ⟨v1, rfl, hO⟩
    obtain ⟨p1, c1, hv1⟩ := hO.shape
    subst hv1
    have HB1 : Hid (Below w.heap.size w w1) := HD.out.trans hO.bel
    have HR1 := Lib.hid hO.rd
    have HO1 := Lib.hid hO
    clear hO HI1
    refine hK _ _ ?_
    clear hK K
    repeat (first
        | (refine take_skip rfl ?_; simp only [Act.put, List.setIfInBounds_toArray, List.set_cons_succ, List.set_cons_zero])
        | (refine take_blind rfl rfl ?_; apply Exists.intro; refine ⟨fun w => ?_, ?_⟩; (go_simp; try with_reducible rfl); simp only [Act.put, List.setIfInBounds_toArray, List.set_cons_succ, List.set_cons_zero]))
    refine take_call rfl rfl (fun K hK => ?_)
    go_wp2_with fail
    refine (HI2.out _ HB1.out).mono ?_
    rintro e w2 ⟨v2, rfl, hO⟩
    obtain ⟨p2, c2, hv2⟩ := hO.shape
    subst hv2
    have HB2 : Hid (Below w.heap.size w w2) := HB1.out.trans (hO.bel.mono HB1.out.size)
    have HC := Lib.hid (choose_any _ _ _ _ O (Or.inr hO') w2 (HR1.out.below hO.bel) hO.rd (by have := HZ1.out; have := HZ2.out; have := HFl.out; omega))
    rw [HS.out] at HC
    clear hO HI2 HB1 HO1 HR1
    refine hK _ _ ?_
    clear hK K
    repeat (first
        | (refine take_skip rfl ?_; simp only [Act.put, List.setIfInBounds_toArray, List.set_cons_succ, List.set_cons_zero])
        | (refine take_blind rfl rfl ?_; apply Exists.intro; refine ⟨fun w => ?_, ?_⟩; (go_simp; try with_reducible rfl); simp only [Act.put, List.setIfInBounds_toArray, List.set_cons_succ, List.set_cons_zero]))
    refine take_call rfl rfl (fun K hK => ?_)
    go_wp2_with fail
    refine HC.out.mono ?_
    rintro e w3 ⟨v3, rfl, hO⟩
    have HO3 := Lib.hid (OwnI.later HB2.out hO)
    clear hO HC
    refine hK _ _ ?_
    clear hK K
    repeat (first
        | (refine take_skip rfl ?_; simp only [Act.put, List.setIfInBounds_toArray, List.set_cons_succ, List.set_cons_zero])
        | (refine take_blind rfl rfl ?_; apply Exists.intro; refine ⟨fun w => ?_, ?_⟩; (go_simp; try with_reducible rfl); simp only [Act.put, List.setIfInBounds_toArray, List.set_cons_succ, List.set_cons_zero]))
    refine take_nil ?_
    go_wp2_with fail
    go_ret
    exact ⟨_, rfl, HO3.out⟩
end Go.Proofs.Ytpjfhakmffcolaa

end

section
/- Layer 14: the program: Union. (Cut from XLsD.) -/
set_option linter.unusedVariables false
set_option maxRecDepth 20000
namespace Go.Proofs.Ytpjfhakmffcolaa
open Go Go.RowKit

theorem lists_union1 (mv : Value) (m : List (List Int)) (w : World) (hm : RdLL w mv m) (ha : ∀ l ∈ m, AscB ltI l) (hf : m.flatten.length ≤ 1000000) :
    Calls Try.prog 64 #[mv] w fun e w' => ∃ v, e = .returned v ∧ OwnI w w' (unionZ m) v := by
  have HC := Lib.hid (combine_any 7 (Or.inr rfl) _ mv m w (Nat.le_refl _) hm ha hf)
  have HE : Hid (cmbZ 7 m = unionZ m) := by show _ = _; unfold cmbZ; rw [if_neg (by omega)]
  rw [HE.out] at HC
  clear hm ha hf HE
  go_enter Try.func64, Try.ntmps64
  go_wp2_with fail
  refine HC.out.mono ?_
  rintro e w1 ⟨v, rfl, hO⟩
  have HO := Lib.hid hO
  clear hO HC
  go_wp2_with fail
  go_ret
  exact ⟨_, rfl, HO.out⟩
end Go.Proofs.Ytpjfhakmffcolaa

end

section
/- Layer 15, the program's own: the entries that are looked for, by halves; Find and Named. (Written by genpbc.py.) -/
set_option linter.unusedVariables false
set_option maxRecDepth 20000
namespace Go.Proofs.Ytpjfhakmffcolaa
open Go Go.RowKit

set_option maxHeartbeats 2000000 in
theorem match1_any (F : FuncId) (cp : Value) (o : Lab → Int) (b3 b2 : Nat) (p : Option Addr) (n c : Nat) (l : List Ent) (w0 : World) (hO : OrdIs w0 F cp o) (hl : RdE w0 (.slice p n c) l) (hn : n = l.length) (hm : l.length ≤ 1000000)
    (h3 : Blk w0 b3 [.func (.func F) #[] #[cp]]) (h2 : Blk w0 b2 [.slice p n c]) (i : Nat) (w : World) (hg : Grw w0 w) (hi : i < l.length) :
    Calls Try.prog 66 #[.int .i64 (i : Int), .pointer (some ⟨b3, 0, none⟩), .pointer (some ⟨b2, 0, none⟩)] w fun e w' => e = .returned (.bool (geP o l i)) ∧ Grw w w' := by
  subst hn
  obtain ⟨⟨⟨xn, xv⟩, s⟩, hx⟩ : ∃ e, l[i]? = some e := ⟨_, List.getElem?_eq_getElem hi⟩
  obtain ⟨b, off, q, d, e, hat⟩ := hl.always hx
  subst e
  have HBl : Hid (∀ nn os, Below w0.heap.size w0 (Go.Sort.grow (w.drewN nn) os)) := fun nn os => (hg.grow nn os).below
  have x0 : ∀ nn os, (Go.Sort.grow (w.drewN nn) os).cell? ⟨b, off + i * 3, none⟩ = some (.string xn) := fun nn os => (hat _ (HBl.out nn os)).1.1
  have x1 : ∀ nn os, (Go.Sort.grow (w.drewN nn) os).cell? ⟨b, off + i * 3 + 1, none⟩ = some (.string xv) := fun nn os => (hat _ (HBl.out nn os)).1.2.1
  have x2 : ∀ nn os, (Go.Sort.grow (w.drewN nn) os).cell? ⟨b, off + i * 3 + 2, none⟩ = some (.slice q s.length d) := fun nn os => (hat _ (HBl.out nn os)).1.2.2
  have k3 : ∀ nn os, (Go.Sort.grow (w.drewN nn) os).cell? ⟨b3, 0, none⟩ = some (.func (.func F) #[] #[cp]) := fun nn os => ((hg.grow nn os).blk h3).cell 0
  have k2 : ∀ nn os, (Go.Sort.grow (w.drewN nn) os).cell? ⟨b2, 0, none⟩ = some (.slice (some ⟨b, off, none⟩) l.length c) := fun nn os => ((hg.grow nn os).blk h2).cell 0
  have HXC : Hid (∀ nn os, Calls Try.prog F #[.agg #[.string xn, .string xv, .slice q s.length d], cp] (Go.Sort.grow (w.drewN nn) os) fun e w' => e = .returned (.int .i64 (o (xn, xv))) ∧ ∃ q os', w' = Go.Sort.grow ((Go.Sort.grow (w.drewN nn) os).drewN q) os') := fun nn os => hO.gives (xn, xv) q s.length d _ (hg.grow nn os)
  have hcf := hO.enter
  have HP : Hid (geP o l i = decide (0 ≤ o (xn, xv))) := by show _ = _; unfold geP; rw [hx]
  have hlt' : (i : Int) < (l.length : Int) := by omega
  have hlm : (l.length : Int) ≤ 1000000 := by omega
  have HG : Hid (∀ nn os, Grw w (Go.Sort.grow (w.drewN nn) os)) := fun nn os => (Grw.refl w).grow nn os
  clear hat hx hO hl h3 h2 hg hm HBl
  rw [HP.out]
  clear HP
  generalize o (xn, xv) = ov at *
  go_enter Try.func66, Try.ntmps66
  go_wp2_with fail
  have mixed : Try.prog.follows .mixedOrders = true := by kernel_rfl
  go_quiet_grown (first | (go_at_fn F; exact Calls.grown_of (HXC.out _ _)))
  have HG4 := Lib.hid (HG.out nq osq)
  clear x0 x1 x2 k3 k2 HXC HG mixed hcf
  generalize Go.Sort.grow (w.drewN nq) osq = w4 at *
  go_wp2_with fail
  go_ret
  exact ⟨rfl, HG4.out⟩

set_option maxHeartbeats 2000000 in
theorem match2_any (F : FuncId) (cp : Value) (o : Lab → Int) (b3 b2 : Nat) (p : Option Addr) (n c : Nat) (l : List Ent) (w0 : World) (hO : OrdIs w0 F cp o) (hl : RdE w0 (.slice p n c) l) (hn : n = l.length) (hm : l.length ≤ 1000000)
    (h3 : Blk w0 b3 [.func (.func F) #[] #[cp]]) (h2 : Blk w0 b2 [.slice p n c]) (i : Nat) (w : World) (hg : Grw w0 w) (hi : i < l.length) :
    Calls Try.prog 67 #[.int .i64 (i : Int), .pointer (some ⟨b3, 0, none⟩), .pointer (some ⟨b2, 0, none⟩)] w fun e w' => e = .returned (.bool (gtP o l i)) ∧ Grw w w' := by
  subst hn
  obtain ⟨⟨⟨xn, xv⟩, s⟩, hx⟩ : ∃ e, l[i]? = some e := ⟨_, List.getElem?_eq_getElem hi⟩
  obtain ⟨b, off, q, d, e, hat⟩ := hl.always hx
  subst e
  have HBl : Hid (∀ nn os, Below w0.heap.size w0 (Go.Sort.grow (w.drewN nn) os)) := fun nn os => (hg.grow nn os).below
  have x0 : ∀ nn os, (Go.Sort.grow (w.drewN nn) os).cell? ⟨b, off + i * 3, none⟩ = some (.string xn) := fun nn os => (hat _ (HBl.out nn os)).1.1
  have x1 : ∀ nn os, (Go.Sort.grow (w.drewN nn) os).cell? ⟨b, off + i * 3 + 1, none⟩ = some (.string xv) := fun nn os => (hat _ (HBl.out nn os)).1.2.1
  have x2 : ∀ nn os, (Go.Sort.grow (w.drewN nn) os).cell? ⟨b, off + i * 3 + 2, none⟩ = some (.slice q s.length d) := fun nn os => (hat _ (HBl.out nn os)).1.2.2
  have k3 : ∀ nn os, (Go.Sort.grow (w.drewN nn) os).cell? ⟨b3, 0, none⟩ = some (.func (.func F) #[] #[cp]) := fun nn os => ((hg.grow nn os).blk h3).cell 0
  have k2 : ∀ nn os, (Go.Sort.grow (w.drewN nn) os).cell? ⟨b2, 0, none⟩ = some (.slice (some ⟨b, off, none⟩) l.length c) := fun nn os => ((hg.grow nn os).blk h2).cell 0
  have HXC : Hid (∀ nn os, Calls Try.prog F #[.agg #[.string xn, .string xv, .slice q s.length d], cp] (Go.Sort.grow (w.drewN nn) os) fun e w' => e = .returned (.int .i64 (o (xn, xv))) ∧ ∃ q os', w' = Go.Sort.grow ((Go.Sort.grow (w.drewN nn) os).drewN q) os') := fun nn os => hO.gives (xn, xv) q s.length d _ (hg.grow nn os)
  have hcf := hO.enter
  have HP : Hid (gtP o l i = decide (0 < o (xn, xv))) := by show _ = _; unfold gtP; rw [hx]
  have hlt' : (i : Int) < (l.length : Int) := by omega
  have hlm : (l.length : Int) ≤ 1000000 := by omega
  have HG : Hid (∀ nn os, Grw w (Go.Sort.grow (w.drewN nn) os)) := fun nn os => (Grw.refl w).grow nn os
  clear hat hx hO hl h3 h2 hg hm HBl
  rw [HP.out]
  clear HP
  generalize o (xn, xv) = ov at *
  go_enter Try.func67, Try.ntmps67
  go_wp2_with fail
  have mixed : Try.prog.follows .mixedOrders = true := by kernel_rfl
  go_quiet_grown (first | (go_at_fn F; exact Calls.grown_of (HXC.out _ _)))
  have HG4 := Lib.hid (HG.out nq osq)
  clear x0 x1 x2 k3 k2 HXC HG mixed hcf
  generalize Go.Sort.grow (w.drewN nq) osq = w4 at *
  go_wp2_with fail
  go_ret
  exact ⟨rfl, HG4.out⟩

set_option maxHeartbeats 4000000 in
theorem matching_any (F : FuncId) (cp : Value) (o : Lab → Int) (hU : UpO o) (lv : Value) (l : List Ent) (w : World) (hO : OrdIs w F cp o) (hl : RdE w lv l) (hn : l.length ≤ 1000000) (ha : AscB ltE (l.map Prod.fst)) :
    Calls Try.prog 40 #[lv, .func (.func F) #[] #[cp]] w fun e w' => ∃ v, e = .returned v ∧ RdE w' v (l.filter fun e => decide (o e.1 = 0)) ∧ Grw w w' := by
  obtain ⟨p, c, hv⟩ := hl.shape
  subst hv
  have HL := Lib.hid hl; have HA := Lib.hid ha; have HU := Lib.hid hU; have HN := Lib.hid hn
  have hnm : (l.length : Int) ≤ 1000000 := by omega
  obtain ⟨w1, hw1⟩ : ∃ w1, w1 = w.alloc (.cells #[.slice p l.length c] 29) := ⟨_, rfl⟩
  obtain ⟨w2, hw2⟩ : ∃ w2, w2 = w1.alloc (.cells #[.func (.func F) #[] #[cp]] 78) := ⟨_, rfl⟩
  have HW : Hid ((w.alloc (.cells #[.slice p l.length c] 29)).alloc (.cells #[.func (.func F) #[] #[cp]] 78) = w2) := by show _ = _; rw [hw2, hw1]
  have hg2 : Grw w w2 := by rw [hw2, hw1]; exact ((Grw.refl w).alloc _).alloc _
  have HG := Lib.hid hg2
  have hs1 : w1.heap.size = w.heap.size + 1 := by rw [hw1]; simp
  have hK2 : Blk w2 w.heap.size [.slice p l.length c] := by rw [hw2, hw1]; exact (Blk.new w _ _).alloc _
  have hK3 : Blk w2 (w.heap.size + 1) [.func (.func F) #[] #[cp]] := by rw [← hs1, hw2]; exact Blk.new w1 _ _
  have HK2 := Lib.hid hK2; have HK3 := Lib.hid hK3
  have HO := Lib.hid (hO.later hg2)
  have HS1 := Lib.hid (search_any 66 (.pointer (some ⟨w.heap.size + 1, 0, none⟩)) (.pointer (some ⟨w.heap.size, 0, none⟩)) l.length (geP o l) w2 (fun _ _ => rfl) hn
    (fun w' i hg hi => match1_any F cp o (w.heap.size + 1) w.heap.size p l.length c l w2 (hO.later hg2) (hl.below hg2.below) rfl hn hK3 hK2 i w' hg hi) (ge_mono hU ha))
  clear hw1 hw2 hl ha hU hO hg2 hs1 hK2 hK3 hn
  go_enter Try.func40, Try.ntmps40
  go_wp2_with fail
  rw [HW.out]
  clear HW
  refine HS1.out.mono ?_
  rintro e w3 ⟨a, rfl, hk, hG⟩
  obtain ⟨ha1, ha2, ha3⟩ := hk
  have H2 := Lib.hid ha2; have H3 := Lib.hid ha3
  have HG3 := Lib.hid (HG.out.trans hG)
  have HO3 := Lib.hid (HO.out.later hG)
  have hK2 := hG.blk HK2.out
  have HK23 := Lib.hid hK2
  have HK33 := Lib.hid (hG.blk HK3.out)
  have hR := (HL.out.below HG3.out.below).from a ha1
  obtain ⟨pf, cf, hsl⟩ := hR.shape
  rw [hsl] at hR
  have HR := Lib.hid hR
  have d0 : w3.cell? ⟨w.heap.size, 0, none⟩ = some (.slice p l.length c) := hK2.cell 0
  obtain ⟨m, hm⟩ : ∃ m, (l.drop a).length = m := ⟨_, rfl⟩
  have HM := Lib.hid hm
  have hml : m = l.length - a := by rw [← hm, List.length_drop]
  rw [hm] at hsl HR
  have HSl := Lib.hid hsl
  have hmi : (m : Int) ≤ 1000000 := by omega
  have hBt : ∀ k, (∀ t, t < k → gtP o (l.drop a) t = false) → (∀ t, k ≤ t → t < (l.drop a).length → gtP o (l.drop a) t = true) → (l.drop a).take k = l.filter fun e => decide (o e.1 = 0) := fun k => between ha2 ha3
  have HBt := Lib.hid hBt
  have HAa := Lib.hid ha1
  obtain ⟨b2, hb2⟩ : ∃ b2, w.heap.size = b2 := ⟨_, rfl⟩
  have HB2 := Lib.hid hb2
  rw [hb2] at HK2 HK3 HK23 HK33 d0 ⊢
  obtain ⟨b3, hb3⟩ : ∃ b3, b2 + 1 = b3 := ⟨_, rfl⟩
  rw [hb3] at HK3 HK33 ⊢
  obtain ⟨w4, hw4⟩ : ∃ w4, w4 = w3.alloc (.cells #[.slice pf m cf] 29) := ⟨_, rfl⟩
  have HW4 : Hid (w3.alloc (.cells #[.slice pf m cf] 29) = w4) := hw4.symm
  have hg4 : Grw w3 w4 := by rw [hw4]; exact (Grw.refl w3).alloc _
  have HG4 := Lib.hid (HG3.out.trans hg4)
  have hK4 : Blk w4 w3.heap.size [.slice pf m cf] := by rw [hw4]; exact Blk.new w3 _ _
  have HK4 := Lib.hid hK4
  have HR4 := Lib.hid (HR.out.below hg4.below)
  have HS2 := Lib.hid (search_any 67 (.pointer (some ⟨b3, 0, none⟩)) (.pointer (some ⟨w3.heap.size, 0, none⟩)) m (gtP o (l.drop a)) w4 (fun _ _ => rfl) (by omega)
    (fun w' i hg hi => match2_any F cp o b3 w3.heap.size pf m cf (l.drop a) w4 (HO3.out.later hg4) HR4.out hm.symm (by omega) (hg4.blk HK33.out) hK4 i w' hg (by omega))
    (fun i j hij hj => gt_mono HU.out (by rw [List.map_drop]; exact asc_drop HA.out a) i j hij (by omega)))
  clear hb2 hb3 hw4 hg4 hK4 hm hml hR hsl hBt ha1 ha2 ha3 hG hK2 HS1 HG HO HO3 HK2 HK3 HK33 HR HL HU HA HG3
  go_wp2_with (refine wpList_fromS elemEntP _ p l.length c a HAa.out _ HSl.out rfl _ _ rfl rfl rfl ?_)
  rw [HW4.out]
  clear HW4 d0
  refine HS2.out.mono ?_
  rintro e w5 ⟨k, rfl, hk, hG⟩
  obtain ⟨hk1, hk2, hk3⟩ := hk
  have HF : Hid ((l.drop a).take k = l.filter fun e => decide (o e.1 = 0)) := HBt.out k hk2 (by rw [HM.out]; exact hk3)
  have HG5 := Lib.hid (HG4.out.trans hG)
  have d4 : w5.cell? ⟨w3.heap.size, 0, none⟩ = some (.slice pf m cf) := (hG.blk HK4.out).cell 0
  have hR5 := (HR4.out.below hG.below).upto k (by rw [HM.out]; exact hk1)
  rw [HF.out] at hR5
  have HR5 := Lib.hid hR5
  have hcap := HR4.out.cap
  have HK1 := Lib.hid hk1
  clear HF hR5 hk2 hk3 hG HS2 HBt HR4 HK4 HG4 H2 H3 HK23 hk1
  go_wp2_with (refine wpList_upto elemEntP _ pf m cf k HK1.out hcap rfl _ _ rfl rfl rfl ?_)
  go_ret
  exact ⟨_, rfl, HR5.out, HG5.out⟩
end Go.Proofs.Ytpjfhakmffcolaa

end

section
/- Layer 15, the program's own: the union of the lists of entries; Find and Named. -/
set_option linter.unusedVariables false
set_option maxRecDepth 20000
namespace Go.Proofs.Ytpjfhakmffcolaa
open Go Go.RowKit

set_option maxHeartbeats 4000000 in
theorem poUnion_any (lv : Value) (l : List Ent) (w : World) (hl : RdE w lv l) (hn : l.length ≤ 1000000) (ha : ∀ e ∈ l, AscB ltI e.2) (hf : (l.map Prod.snd).flatten.length ≤ 1000000) :
    Calls Try.prog 39 #[lv] w fun e w' => ∃ v, e = .returned v ∧ OwnI w w' (unionZ (l.map Prod.snd)) v := by
  have HL := Lib.hid hl; have HF := Lib.hid hf
  have HA : Hid (∀ s ∈ l.map Prod.snd, AscB ltI s) := fun s hs => by
    obtain ⟨e, he, rfl⟩ := List.mem_map.1 hs
    exact ha e he
  obtain ⟨pl, cl, hv⟩ := hl.shape
  subst hv
  have hni : (l.length : Int) ≤ 1000000 := by omega
  clear hl hn ha hf
  go_enter Try.func39, Try.ntmps39
  go_wp2_with fail
  go_loopw [3, 8] (fun vv iv wr => ∃ (i : Nat), i ≤ l.length ∧ iv = .int .i64 (i : Int) ∧ Hid (∃ hs, ArAt 38 w wr hs ((l.take i).map Prod.snd) vv)) (fun _ iv _ => l.length - (intOf iv).toNat)
  case atStart => exact ⟨0, Nat.zero_le _, rfl, ⟨[], ArAt.nil w⟩⟩
  case round =>
    obtain ⟨i, hi, rfl, HO⟩ := hrel
    have him : (i : Int) ≤ 1000000 := by omega
    obtain ⟨hs, hO⟩ := HO.out
    have HAr := Lib.hid hO
    have HLh : Hid (hs.length ≤ 1000000) := by
      show _ ≤ _
      rw [hO.len, List.length_map, List.length_take]; omega
    clear HO hO
    obtain ⟨pv, cv, hvv⟩ := HAr.out.row.shape
    subst hvv
    by_cases hlt : i < l.length
    · have hlt' : (i : Int) < (l.length : Int) := by omega
      obtain ⟨⟨⟨e1, e2⟩, es⟩, hx⟩ : ∃ x, l[i]? = some x := ⟨_, List.getElem?_eq_getElem hlt⟩
      obtain ⟨ba, oa, q, d, e, hal⟩ := HL.out.always hx
      subst e
      simp only at hal
      obtain ⟨⟨c0, c1, c2⟩, hr⟩ := hal wr HAr.out.row.bel
      have hat := (hal w (Below.refl _ _)).2
      have hB : Below wr.heap.size wr (wr.alloc (.cells #[.string e1, .string e2, .slice q es.length d] 68)) := (Below.refl _ _).alloc (Nat.le_refl _) _
      have HA2 := Lib.hid (HAr.out.below hB)
      have HS2 : Hid (Rd (wr.alloc (.cells #[.string e1, .string e2, .slice q es.length d] 68)) 1 (.slice q es.length d) es.length (i64s es)) := hr.below hB
      have HOff : Hid (IntOff (fun j => (Value.slice pv hs.length cv).ownBlock = some j) (.slice q es.length d) es) :=
        fun e j hj hv => by have h5 := hat.lt e j hj; have h6 := (HAr.out.row.row.lt j hv).1; omega
      have HTk : Hid ((l.take (i + 1)).map Prod.snd = (l.take i).map Prod.snd ++ [es]) := by show _ = _; rw [List.take_add_one, hx, List.map_append]; rfl
      have HOz : Hid ((wr.alloc (.cells #[.string e1, .string e2, .slice q es.length d] 68)).ownsRow 0 38 1 (.slice pv hs.length cv) hs.length hs) := by
        have h := HA2.out.row.base0
        rwa [List.map_id'] at h
      have HLz : Hid ((hs.length + 1) * 24 ≤ 140737488355328 ∧ hs.length + 1 ≤ maxLen) := by show _ ∧ _; have := HLh.out; unfold maxLen; omega
      have HSz : Hid ((wr.alloc (.cells #[.string e1, .string e2, .slice q es.length d] 68)).heap.size = wr.heap.size + 1) := by show _ = _; simp
      clear hal hat hr hB hx HAr
      go_wp2_with (at_builtin; refine wpList_push elemLL14 _ #[.slice q es.length d] _ _ _ HOz.out rfl (by simp [Value.oneCell']) HLz.out rfl _ _ rfl rfl (by show _ = Value.slice (some ⟨World.heap _ |>.size, 0, none⟩) 1 1; rw [HSz.out]; rfl) ?_)
      intro v3 w3 k3 m3 f3
      have HN3 : Hid (ArAt 38 w w3 (hs ++ [.slice q es.length d]) ((l.take i).map Prod.snd ++ [es]) v3) := HA2.out.pushed HS2.out HOff.out k3 m3 (by rw [HSz.out]; exact f3)
      rw [← HTk.out] at HN3
      obtain ⟨p3, c3, hv3⟩ := (Rd.of_owns k3).shape
      subst hv3
      clear k3 m3 f3 HOz HA2 HS2 HOff HTk
      go_wp2_with fail
      go_round
      case rel => exact ⟨i + 1, by omega, by go_num, ⟨_, HN3.out⟩⟩
      case measure => simp [intOf]; omega
    · have hlt' : ¬ (i : Int) < (l.length : Int) := by omega
      have hte : l.take i = l := List.take_of_length_le (by omega)
      rw [hte] at HAr
      have HU := Lib.hid (lists_union1 _ (l.map Prod.snd) wr HAr.out.rd HA.out HF.out)
      clear hte
      go_wp2_with fail
      refine HU.out.mono ?_
      rintro e w2 ⟨v2, rfl, hO⟩
      have HO2 := Lib.hid (OwnI.later HAr.out.row.bel hO)
      clear HU hO
      go_wp2_with fail
      go_ret
      exact ⟨_, rfl, HO2.out⟩

theorem grw_own {w w1 w2 : World} {d : List Int} {v : Value} (hg : Grw w w1) (h : OwnI w1 w2 d v) : OwnI w w2 d v := OwnI.later hg.below h

set_option maxHeartbeats 2000000 in
theorem poFind_any (lv : Value) (l : List Ent) (n : Int) (x : Lab) (w : World) (hl : RdE w lv l) (hi : IsIdx n l) (hn : l.length ≤ 1000000) (hf : (l.map Prod.snd).flatten.length ≤ 1000000) :
    Calls Try.prog 20 #[lv, .agg #[.string x.1, .string x.2]] w fun e w' => ∃ v, e = .returned v ∧ OwnI w w' (findP l x) v := by
  obtain ⟨xn, xv⟩ := x
  show Calls Try.prog 20 #[lv, .agg #[.string xn, .string xv]] w fun e w' => ∃ v, e = .returned v ∧ OwnI w w' (findP l (xn, xv)) v
  obtain ⟨w1, hw1⟩ : ∃ w1, w1 = w.alloc (.cells #[.string xn, .string xv] 34) := ⟨_, rfl⟩
  have HW : Hid (w.alloc (.cells #[.string xn, .string xv] 34) = w1) := hw1.symm
  have hg1 : Grw w w1 := by rw [hw1]; exact (Grw.refl w).alloc _
  have hK : Blk w1 w.heap.size [.string xn, .string xv] := by rw [hw1]; exact Blk.new w _ _
  have HM := Lib.hid (matching_any 41 (.pointer (some ⟨w.heap.size, 0, none⟩)) (fun y => cmpLab y (xn, xv)) (up_find (xn, xv)) lv l w1 (find_order w1 w.heap.size (xn, xv) hK) (hl.below hg1.below) hn hi.1)
  have HU := Lib.hid (fun v w' (h : RdE w' v (l.filter fun e => decide (cmpLab e.1 (xn, xv) = 0))) => poUnion_any v _ w' h (Nat.le_trans (List.length_filter_le _ _) hn) (fun e he => (hi.2 e (List.mem_filter.1 he).1).1) (Nat.le_trans (filter_flat _ _) hf))
  have HE : Hid (unionZ ((l.filter fun e => decide (cmpLab e.1 (xn, xv) = 0)).map Prod.snd) = findP l (xn, xv)) := findP_union hi (xn, xv)
  have HG := Lib.hid hg1
  obtain ⟨p, c, hv⟩ := hl.shape
  subst hv
  rw [HE.out] at HU
  clear hw1 hg1 hK hl hi hn hf HE
  generalize findP l (xn, xv) = fp at *
  generalize (l.filter fun e => decide (cmpLab e.1 (xn, xv) = 0)) = fl at *
  go_enter Try.func20, Try.ntmps20
  go_wp2_with fail
  rw [HW.out]
  clear HW
  refine HM.out.mono ?_
  rintro e w2 ⟨v, rfl, hR, hG⟩
  have HG2 := Lib.hid (HG.out.trans hG)
  have HU2 := Lib.hid (HU.out v w2 hR)
  obtain ⟨p2, c2, hv⟩ := hR.shape
  subst hv
  clear HM hR hG HU HG
  go_wp2_with fail
  refine HU2.out.mono ?_
  rintro e w3 ⟨v3, rfl, hO⟩
  have HO := Lib.hid (grw_own HG2.out hO)
  clear HU2 hO
  go_wp2_with fail
  go_ret
  exact ⟨_, rfl, HO.out⟩

set_option maxHeartbeats 2000000 in
theorem poNamed_any (lv : Value) (l : List Ent) (n : Int) (x : ByteArray) (w : World) (hl : RdE w lv l) (hi : IsIdx n l) (hn : l.length ≤ 1000000) (hf : (l.map Prod.snd).flatten.length ≤ 1000000) :
    Calls Try.prog 21 #[lv, .string x] w fun e w' => ∃ v, e = .returned v ∧ OwnI w w' (namedP l x) v := by
  obtain ⟨w1, hw1⟩ : ∃ w1, w1 = w.alloc (.cells #[.string x] 9) := ⟨_, rfl⟩
  have HW : Hid (w.alloc (.cells #[.string x] 9) = w1) := hw1.symm
  have hg1 : Grw w w1 := by rw [hw1]; exact (Grw.refl w).alloc _
  have hK : Blk w1 w.heap.size [.string x] := by rw [hw1]; exact Blk.new w _ _
  have HM := Lib.hid (matching_any 42 (.pointer (some ⟨w.heap.size, 0, none⟩)) (fun y => ordS y.1 x) (up_named x) lv l w1 (named_order w1 w.heap.size x hK) (hl.below hg1.below) hn hi.1)
  have HU := Lib.hid (fun v w' (h : RdE w' v (l.filter fun e => decide (ordS e.1.1 x = 0))) => poUnion_any v _ w' h (Nat.le_trans (List.length_filter_le _ _) hn) (fun e he => (hi.2 e (List.mem_filter.1 he).1).1) (Nat.le_trans (filter_flat _ _) hf))
  have HE : Hid (unionZ ((l.filter fun e => decide (ordS e.1.1 x = 0)).map Prod.snd) = namedP l x) := namedP_union l x
  have HG := Lib.hid hg1
  obtain ⟨p, c, hv⟩ := hl.shape
  subst hv
  rw [HE.out] at HU
  clear hw1 hg1 hK hl hi hn hf HE
  generalize namedP l x = fp at *
  generalize (l.filter fun e => decide (ordS e.1.1 x = 0)) = fl at *
  go_enter Try.func21, Try.ntmps21
  go_wp2_with fail
  rw [HW.out]
  clear HW
  refine HM.out.mono ?_
  rintro e w2 ⟨v, rfl, hR, hG⟩
  have HG2 := Lib.hid (HG.out.trans hG)
  have HU2 := Lib.hid (HU.out v w2 hR)
  obtain ⟨p2, c2, hv⟩ := hR.shape
  subst hv
  clear HM hR hG HU HG
  go_wp2_with fail
  refine HU2.out.mono ?_
  rintro e w3 ⟨v3, rfl, hO⟩
  have HO := Lib.hid (grw_own HG2.out hO)
  clear HU2 hO
  go_wp2_with fail
  go_ret
  exact ⟨_, rfl, HO.out⟩
end Go.Proofs.Ytpjfhakmffcolaa

end

section
/- Layer 2: the function that yields groups; Append. -/
set_option linter.unusedVariables false
namespace Go.Proofs.Ytpjfhakmffcolaa
open Go Go.RowKit Go.Shelf
attribute [local go_sem] Oper.semAt_some

theorem new_groups (x : Nat) (w : World) (n : Nat) :
    CallsIn Fence.wide n Try.prog 69 #[.int .u64 x] w fun e w' => e = .returned (.func (.func 93) #[] #[.pointer (some ⟨w.heap.size, 0, none⟩)]) ∧ w' = w.alloc (.cells #[.int .u64 x] 81) := by
  refine callsIn_wide.2 ?_
  go_enter Try.func69, Try.ntmps69
  go_wp2
  go_ret
  exact ⟨rfl, rfl⟩

set_option maxRecDepth 100000 in
set_option maxHeartbeats 1000000 in
theorem groups_gives (n : Nat) (hn : 1 ≤ n) (b x : Nat) (hx : x < 18446744073709551616) (w : World) (hb : b < w.heap.size) (hc : w.cell? ⟨b, 0, none⟩ = some (.int .u64 x)) :
    SeqStopsK Fence.wide n Try.prog 93 #[.pointer (some ⟨b, 0, none⟩)] (fun c : Nat => #[.int .u8 (c : Int)]) KeepsWalks (fun ys => ys = groups x) (fun _ => True) (groups x).length w := by
  intro l J Jx W hW hJ hJx hY h0
  have hc' : W.cell? ⟨b, 0, none⟩ = some (.int .u64 x) := (hW.cell (p := ⟨b, 0, none⟩) hb).trans hc
  refine callsIn_of_wp Try.func93 rfl trivial ?_ rfl
  simp only [Try.ntmps93, List.size_toArray, List.length_cons, List.length_nil, Nat.reduceAdd, Nat.reduceSub, Array.replicate_succ, Array.replicate_zero, List.push_toArray, List.append_toArray, List.nil_append, List.cons_append]
  gi_wp2
  gi_loopw [3] (fun r wr => ∃ (pre : List Nat) (y : Nat), y < 18446744073709551616 ∧ r = .int .u64 y ∧ groups x = pre ++ groups y ∧ J pre wr) (fun r _ => (intOf r).toNat)
  case atStart => exact ⟨[], x, hx, rfl, rfl, h0⟩
  case round =>
    obtain ⟨pre, y, hy, rfl, hg, hJs⟩ := hrel
    by_cases h : y < 128
    · have hlt : (y : Int) < 128 := by omega
      obtain ⟨fn, tmps, assign, body, hyl, hR⟩ := hY pre y wr hJs (by rw [hg, groups_small h]; simp)
      rw [groups_small h] at hg
      gi_wp2
      refine hR.mono ?_
      rintro e W3 (⟨rfl, hJ3, hk3⟩ | ⟨rfl, hJx3⟩)
      · gi_wp2
        go_end0
        exact ⟨⟨_, rfl⟩, .inl ⟨_, hg.symm, hJ3⟩⟩
      · gi_wp2
        go_end0
        exact ⟨⟨_, rfl⟩, .inr ⟨_, trivial, hJx3⟩⟩
    · have hlt : ¬ (y : Int) < 128 := by omega
      obtain ⟨fn, tmps, assign, body, hyl, hR⟩ := hY pre (y % 128 + 128) wr hJs (by rw [hg, groups_big h]; simp)
      rw [show ((y % 128 + 128 : Nat) : Int) = (y : Int) % 128 + 128 from by omega] at hyl
      rw [groups_big h] at hg
      gi_wp2
      refine hR.mono ?_
      rintro e W3 (⟨rfl, hJ3, hk3⟩ | ⟨rfl, hJx3⟩)
      · gi_wp2
        go_roundw
        case rel => exact ⟨pre ++ [y % 128 + 128], y / 128, by omega, by go_num, by rw [hg]; simp, hJ3⟩
        case measure => simp [intOf]; omega
      · gi_wp2
        refine bodyPost_ret (results_none rfl _ _ _) rfl ?_
        exact ⟨⟨_, rfl⟩, .inr ⟨_, trivial, hJx3⟩⟩

/-- What an append to a row of bytes leaves behind. -/
structure AppPost (v : Value) (n : Nat) (out : List Nat) (w : World) (v' : Value) (w' : World) : Prop where
  own : w'.ownsRow 0 5 1 v' n (u8s out)
  mods : Mods (fun k => v.ownBlock = some k) w w'
  fresh : Fresh w.heap.size v v'

/-- What an append to a row that the call has made leaves behind. -/
theorem AppPost.below {v : Value} {n : Nat} {out : List Nat} {w : World} {v' : Value} {w' : World} (h : AppPost v n out w v' w') {B : Nat} (hB : B ≤ w.heap.size) (hv : ∀ k, v.ownBlock = some k → B ≤ k) : Below B w w' :=
  h.mods.below hB (fun k hk e => by have := hv k e; omega)
theorem AppPost.made {v : Value} {n : Nat} {out : List Nat} {w : World} {v' : Value} {w' : World} (h : AppPost v n out w v' w') {B : Nat} (hB : B ≤ w.heap.size) (hv : ∀ k, v.ownBlock = some k → B ≤ k) : w'.ownsRow B 5 1 v' n (u8s out) :=
  owns_rebase h.own (fun k hk => by
    rcases h.fresh k hk with e | e
    · exact hv k e
    · omega)
theorem nil_block {B : Nat} : ∀ k, (Value.slice none 0 0).ownBlock = some k → B ≤ k := fun k e => by simp [Value.ownBlock] at e

set_option maxRecDepth 100000 in
set_option maxHeartbeats 1000000 in
theorem append_any (v : Value) (n : Nat) (l : List Nat) (x : Nat) (hx : x < 18446744073709551616) (w : World) (h : w.ownsRow 0 5 1 v n (u8s l)) (hn : n + 10 ≤ 140737488355328) :
    Calls Try.prog 44 #[v, .int .u64 x] w fun e w' => ∃ v', e = .returned v' ∧ AppPost v (n + (groups x).length) (l ++ groups x) w v' w' := by
  have hten := groups_ten hx
  obtain ⟨p, c, hv⟩ := (Rd.of_owns h).shape
  subst hv
  refine (callsIn_wide (n := 9)).1 ?_
  refine callsIn_of_wp_marks Try.func44 rfl trivial ?_ rfl
  simp only [Try.ntmps44, List.size_toArray, List.length_cons, List.length_nil, Nat.reduceAdd, Nat.reduceSub, Array.replicate_succ, Array.replicate_zero, List.push_toArray, List.append_toArray, List.nil_append, List.cons_append]
  have H := Lib.hid h; clear h
  gi_wp2_with (refine ⟨trivial, ?_⟩; gi_at_call 69; refine (new_groups x _ _).mono ?_; rintro e w' ⟨rfl, rfl⟩)
  obtain ⟨W0, hW0⟩ : ∃ W0, (w.alloc (.cells #[.slice p n c] 49)).alloc (.cells #[.int .u64 x] 81) = W0 := ⟨_, rfl⟩
  have hs0 : W0.heap.size = w.heap.size + 2 := by rw [← hW0]; simp
  have hx0 : W0.cell? ⟨w.heap.size + 1, 0, none⟩ = some (.int .u64 x) := by
    have := (Blk.new (w.alloc (.cells #[.slice p n c] 49)) #[.int .u64 x] 81).cell 0
    rw [hW0] at this
    simpa using this
  have hI0 : Holds 5 1 w.heap.size (.slice p n c) (n + 0) (u8s (l ++ [])) w W0 := by
    have hm : Mods (fun k => (Value.slice p n c).ownBlock = some k) w W0 := by rw [← hW0]; exact (Mods.alloc _ _ _).trans (Mods.alloc (fun _ => False) _ _) (fun _ _ e => e.elim)
    refine ⟨_, ?_, ?_, Fresh.refl _ _, fun e => by have := owns_lt H.out _ e; omega, hm⟩
    · rw [← hW0]; exact (Blk.new w _ _).alloc _
    · rw [← hW0, List.append_nil]; exact (H.out.alloc _).alloc _
  rw [hW0]
  clear hW0
  refine wpIn_rangeFunc_ownG rfl (by omega) (gf := 93) (lb := #[.pointer (some ⟨w.heap.size + 1, 0, none⟩)]) rfl trivial (enters_of Try.func93 (by kernel_rfl) rfl)
    (groups_gives _ (by omega) (w.heap.size + 1) x hx W0 (by omega) hx0) walksK_t walksK_b (Below.refl _ _) (fun _ => rfl)
    (fun pre W => Holds 5 1 w.heap.size (.slice p n c) (n + pre.length) (u8s (l ++ pre)) w W)
    (fun _ _ _ => False)
    (ownFrom_holds (by omega) _ _ _ _ _ _)
    (fun _ _ _ _ _ hs _ _ => hs)
    hI0
    (fun k => { tmps := #[.slice p n c, .int .u64 x, .pointer (some ⟨w.heap.size, 0, none⟩), undef, .slice none 0 0, .int .u8 (k : Int), .int .u64 x, .func (.func 93) #[] #[.pointer (some ⟨w.heap.size + 1, 0, none⟩)], .int .u8 (k : Int), undef, undef, undef, undef, undef], defers := [] }) ?assign ?body ?done ?stop
  case assign =>
    intro l k W K hK
    simp only [List.zip_toArray, List.zip_cons_cons, List.zip_nil_right, List.foldl_toArray, List.foldl_cons, List.foldl_nil, List.setIfInBounds_toArray, List.set_cons_zero, List.set_cons_succ]
    gi_wp2
    exact hK
  case body =>
    rintro r pre k W ⟨v1, h1, h2, h3, h4, h5⟩ hlen
    have c0 : W.cell? ⟨w.heap.size, 0, none⟩ = some v1 := by rw [h1.cell]; rfl
    have f0 := h1.free 0
    have hb : (n + pre.length + 1) * 1 ≤ 140737488355328 ∧ n + pre.length + 1 ≤ maxLen := by unfold maxLen; omega
    have H2 := Lib.hid h2; have HB := Lib.hid hb
    obtain ⟨p1, c1, hv1⟩ := (Rd.of_owns h2).shape
    subst hv1
    clear h2 hb
    refine wpIn_block ?_
    refine wpIn_region_list ?_
    refine wpListIn_round not_letsOut_body _ _ _ (by simp) ?_
    go_wp2_with (at_builtin; refine wpList_push Try.elemU8 W #[.int .u8 (k : Int)] _ _ _ H2.out rfl (one_cell _ rfl) HB.out rfl _ _ rfl rfl rfl ?_)
    intro v2 w1 k1 k2 k3
    obtain ⟨q1, q2⟩ := Holds.pushed (Nat.le_refl _) h1 H2.out h3 h4 h5 k1 k2 k3
    have b1 := k2.blk h1 h4
    have c1' : w1.cell? ⟨w.heap.size, 0, none⟩ = some (.slice p1 (n + pre.length) c1) := by rw [b1.cell]; rfl
    have f1' := b1.free 0
    obtain ⟨p2, c2, hv2⟩ := (Rd.of_owns k1).shape
    subst hv2
    have Q1 := Lib.hid q1; have Q2 := Lib.hid q2
    clear k1 k2 k3 q1 q2
    go_wp2
    refine ⟨Q2.out.from _, Q2.out.walks, ?_⟩
    have q := Q1.out
    simpa [u8s, Nat.add_assoc] using q
  case done =>
    rintro D ys W hD rfl ⟨v1, h1, h2, h3, h4, h5⟩ hK
    have c0 : W.cell? ⟨w.heap.size, 0, none⟩ = some v1 := by rw [h1.cell]; rfl
    obtain ⟨p1, c1, hv1⟩ := (Rd.of_owns h2).shape
    subst hv1
    have H2 := Lib.hid h2; clear h2
    gi_wp2
    refine ⟨by simp, .inl ⟨_, _, rfl, run_takeDeferred hK, ?_⟩⟩
    refine ⟨_, results_tmp rfl _ _ _, ?_⟩
    exact ⟨.slice p1 (n + (groups x).length) c1, rfl, ⟨ownsRow_putObj H2.out _ hK rfl, h5.putObj (by omega) _, h3⟩⟩
  case stop =>
    rintro D c pre W _ _ h _
    exact h.elim
end Go.Proofs.Ytpjfhakmffcolaa

end

section
/- A number appended to bytes under way: what is left behind. (Cut from XRcA.) -/
set_option linter.unusedVariables false
set_option maxRecDepth 20000
namespace Go.Proofs.Ytpjfhakmffcolaa
open Go Go.RowKit


/-- What appending leaves: the row that was written to, or a new one. -/
structure ApAt (w0 : World) (v0 : Value) (w1 : World) (v1 : Value) : Prop where
  mods : Mods (fun k => v0.ownBlock = some k) w0 w1
  fresh : Fresh w0.heap.size v0 v1

theorem ApAt.refl (w : World) (v : Value) : ApAt w v w v := ⟨Mods.refl _ _, Fresh.refl _ _⟩

theorem ApAt.step {w0 w1 w2 : World} {v0 v1 v2 : Value} (h : ApAt w0 v0 w1 v1) (m : Mods (fun k => v1.ownBlock = some k) w1 w2) (f : Fresh w1.heap.size v1 v2) : ApAt w0 v0 w2 v2 :=
  ⟨h.mods.trans m (fun j hj e => by rcases h.fresh j e with e | e <;> first | exact e | omega), h.fresh.trans f h.mods.size⟩

theorem ApAt.below {w0 w1 w2 : World} {v0 v1 : Value} (h : ApAt w0 v0 w1 v1) (hb : Below w1.heap.size w1 w2) : ApAt w0 v0 w2 v1 :=
  h.step (Mods.of_below hb _) (Fresh.refl _ _)

theorem var_append13 (w wr : World) (L : List Nat) (v : Value) (n : Nat) (h : OwnB w wr L v) (hn : n < 18446744073709551616) (hL : L.length ≤ 1000000000) :
    Calls Try.prog 44 #[v, .int .u64 (n : Int)] wr fun en w' => ∃ r, en = .returned r ∧ OwnB w w' (L ++ groups n) r ∧ ApAt wr v w' r := by
  refine (append_any v L.length L n hn wr h.base0 (by omega)).mono ?_
  rintro en w' ⟨r, rfl, hP⟩
  refine ⟨r, rfl, h.extended (e := groups n) ?_ hP.mods hP.fresh, hP.mods, hP.fresh⟩
  have := hP.own
  rw [u8s_append] at this
  exact this
end Go.Proofs.Ytpjfhakmffcolaa

end

section
/- Where a search in a list of strings ends. No program in sight. -/
set_option linter.unusedVariables false
namespace Go.Proofs.Ytpjfhakmffcolaa
open Go Go.RowKit Go.Lib

/-- Element j of a list; s behind it. -/
def atOr (t : List ByteArray) (s : ByteArray) (j : Nat) : ByteArray := (t[j]?).getD s

/-- Where the search for s in t ends. -/
def posS (t : List ByteArray) (s : ByteArray) : Nat := t.findIdx (fun a => !ltS a s)

theorem posS_le (t : List ByteArray) (s : ByteArray) : posS t s ≤ t.length := List.findIdx_le_length

theorem posS_low {t : List ByteArray} {s : ByteArray} (j : Nat) (h : j < posS t s) : ltS (atOr t s j) s = true := by
  have hl := posS_le t s
  rw [atOr, List.getElem?_eq_getElem (by omega), Option.getD_some]
  have := List.not_of_lt_findIdx h
  simpa using this

theorem posS_high {t : List ByteArray} (ha : AscB ltS t) {s : ByteArray} (j : Nat) (h : posS t s ≤ j) : ltS (atOr t s j) s = false := by
  by_cases hj : j < t.length
  · rw [atOr, List.getElem?_eq_getElem hj, Option.getD_some]
    have hk : posS t s < t.length := by omega
    have h1 : ltS t[posS t s] s = false := by
      have h0 : (!ltS t[posS t s] s) = true := List.findIdx_getElem (w := hk)
      simpa using h0
    rcases Nat.lt_or_eq_of_le h with e | e
    · have h2 := ascB_get ha e hj
      rcases Bool.eq_false_or_eq_true (ltS t[j] s) with f | f
      · rw [ltS_ok.tr _ _ _ h2 f] at h1; cases h1
      · exact f
    · simp only [← e]; exact h1
  · rw [atOr, List.getElem?_eq_none (by omega)]
    exact ltS_ok.irr s
end Go.Proofs.Ytpjfhakmffcolaa

end

section
/- Lists of strings: BinarySearch of the library, by the contract of the shelf, laid by hand. -/
set_option linter.unusedVariables false
set_option maxRecDepth 20000
namespace Go.Proofs.Ytpjfhakmffcolaa
open Go Go.RowKit

def renSearchS : Go.Shelf.Ren := ⟨fun | 26 => 70 | 33 => 94 | 34 => 95 | 38 => 109 | n => n, fun | 0 => 0 | 3 => 3 | 4 => 4 | 9 => 9 | 24 => 46 | 40 => 106 | n => n, fun n => n⟩

theorem laysSearchS : Go.Proofs.Lays2.n26 Try.prog renSearchS := { mixed := by kernel_rfl, f26 := Try.func70.trans (congrArg some (by kernel_rfl)), f33 := Try.func94.trans (congrArg some (by kernel_rfl)), f34 := Try.func95.trans (congrArg some (by kernel_rfl)), f38 := Try.func109.trans (congrArg some (by kernel_rfl)), t0 := Try.underlying0, a0 := Try.isAgg0, z0 := Try.sizeOf0, v0 := Try.zeroValue0, t3 := Try.underlying3, a3 := Try.isAgg3, z3 := Try.sizeOf3, v3 := Try.zeroValue3, t4 := Try.underlying4, a4 := Try.isAgg4, z4 := Try.sizeOf4, v4 := Try.zeroValue4, t9 := Try.underlying9, a9 := Try.isAgg9, z9 := Try.sizeOf9, v9 := Try.zeroValue9, t24 := Try.underlying46, a24 := Try.isAgg46, z24 := Try.sizeOf46, v24 := Try.zeroValue46, t40 := Try.underlying106, a40 := Try.isAgg106, z40 := Try.sizeOf106, v40 := Try.zeroValue106 }

theorem search_row (tv : Value) (t : List ByteArray) (s : ByteArray) (w : World) (h : Rd w 1 tv t.length (strs t)) (hn : t.length ≤ 1000000) (ha : AscB ltS t) :
    Calls Try.prog 70 #[tv, .string s] w fun e w' => ∃ k : Nat, e = .returned (.tuple #[.int .i64 (k : Int), .bool (decide (0 ≤ findS t s))]) ∧ (0 ≤ findS t s → (k : Int) = findS t s) ∧ ∃ q, w' = w.drewN q := by
  by_cases h0 : t = []
  · subst h0
    obtain ⟨p, c, hv⟩ := h.shape
    subst hv
    refine (Any2.slices_BinarySearch_string_empty laysSearchS p c s w).mono ?_
    rintro e w' ⟨rfl, rfl⟩
    exact ⟨0, rfl, (fun h => absurd (show (0 : Int) ≤ -1 from h) (by decide)), 0, rfl⟩
  · obtain ⟨b, off, c, rfl, _, _, hc⟩ := h.at (fun e => h0 (by have := congrArg List.length e; rw [strs_length] at this; exact List.eq_nil_of_length_eq_zero this))
    have h1 := Any2.slices_BinarySearch_string laysSearchS b off t.length c (atOr t s) s w (by omega) (fun j hj => hc j _ (by rw [strs, List.getElem?_map, List.getElem?_eq_getElem hj, atOr, List.getElem?_eq_getElem hj]; rfl))
    have hk : Lib.bsGo (fun j => Op.bytesLess (atOr t s j).toList s.toList) t.length 0 t.length = posS t s :=
      Lib.bsGo_spec _ _ (fun j hj => posS_low j hj) (fun j hj => posS_high ha j hj) _ _ _ (by omega) (by omega) (posS_le t s)
    rw [hk] at h1
    refine h1.mono ?_
    rintro e w' ⟨rfl, q, rfl⟩
    by_cases hf : posS t s < t.length ∧ atOr t s (posS t s) = s
    · obtain ⟨hf1, hf2⟩ := hf
      rw [atOr, List.getElem?_eq_getElem hf1, Option.getD_some] at hf2
      have hF : findS t s = (posS t s : Int) := firstI_at (fun y hy => by
        obtain ⟨j, hj, he⟩ := List.getElem_of_mem hy
        rw [List.length_take] at hj
        rw [List.getElem_take] at he
        have := posS_low (t := t) (s := s) j (by omega)
        rw [atOr, List.getElem?_eq_getElem (by omega), Option.getD_some, he] at this
        rw [decide_eq_false]
        intro e
        rw [e, ltS_ok.irr] at this
        cases this) (by rw [List.getElem?_eq_getElem hf1]) (by rw [hf2]; simp)
      rw [hF]
      refine ⟨posS t s, ?_, fun _ => rfl, q, rfl⟩
      rw [decide_eq_true (show posS t s < t.length ∧ atOr t s (posS t s) = s from ⟨hf1, by rw [atOr, List.getElem?_eq_getElem hf1]; exact hf2⟩), decide_eq_true (by omega)]
    · have hF : findS t s = -1 := firstI_none (fun y hy => by
        rw [decide_eq_false]
        intro e
        subst e
        obtain ⟨j, hj, he⟩ := List.getElem_of_mem hy
        have hj1 : posS t y ≤ j := by
          rcases Nat.lt_or_ge j (posS t y) with hlt | hge
          · have := posS_low (t := t) (s := y) j hlt
            rw [atOr, List.getElem?_eq_getElem hj, Option.getD_some, he, ltS_ok.irr] at this
            cases this
          · exact hge
        have hk2 : posS t y < t.length := by omega
        refine hf ⟨hk2, ?_⟩
        rcases Nat.lt_or_eq_of_le hj1 with e | e
        · have h2 := ascB_get ha e hj
          have h3 := posS_high ha (s := y) (posS t y) (Nat.le_refl _)
          rw [atOr, List.getElem?_eq_getElem hk2, Option.getD_some] at h3
          rw [he, h3] at h2
          cases h2
        · rw [atOr, List.getElem?_eq_getElem hk2, Option.getD_some]
          simp only [e]
          exact he)
      rw [hF]
      exact ⟨posS t s, by rw [decide_eq_false hf]; rfl, fun h => absurd h (by decide), q, rfl⟩
end Go.Proofs.Ytpjfhakmffcolaa

end

section
/- Layer 10: the reference's Index. -/
set_option linter.unusedVariables false
namespace Go.Proofs.Ytpjfhakmffcolaa
open Go Go.RowKit


set_option maxHeartbeats 2000000 in
theorem ref_index10 (lv : Value) (l : List ByteArray) (x : ByteArray) (w : World) (hl : Rd w 1 lv l.length (strs l)) (hn : l.length ≤ 1000000000000) :
    Calls Try.prog 48 #[lv, .string x] w fun e w' => e = .returned (.int .i64 (findS l x)) ∧ w' = w := by
  have HL := Lib.hid hl; have HNn := Lib.hid hn
  obtain ⟨pl, cl, hv⟩ := hl.shape
  subst hv
  clear hl hn
  go_enter Try.func48, Try.ntmps48
  go_wp2_with fail
  go_loop [5] (fun iv => ∃ (j : Nat), j ≤ l.length ∧ iv = .int .i64 (j : Int) ∧ Hid (∀ y ∈ l.take j, decide (y = x) = false)) (fun iv => l.length - (intOf iv).toNat)
  case atStart => exact ⟨0, by omega, rfl, by intro y hy; simp at hy⟩
  case round =>
    obtain ⟨j, hj, rfl, HX⟩ := hrel
    by_cases hlt : j < l.length
    · have hlt' : (j : Int) < (l.length : Int) := by omega
      have hji : (j : Int) ≤ 1000000000000 := by have := HNn.out; omega
      obtain ⟨b, off, c', e, _, _, _⟩ := HL.out.at (fun e => by have := congrArg List.length e; rw [strs_length] at this; simp at this; subst this; simp at hlt)
      simp only [Value.slice.injEq] at e
      obtain ⟨rfl, _, rfl⟩ := e
      obtain ⟨y, hy⟩ : ∃ y, l[j]? = some y := ⟨_, List.getElem?_eq_getElem hlt⟩
      have hct : w.cell? ⟨b, off + j, none⟩ = some (.string y) := by rw [← (List.getElem?_eq_some_iff.1 hy).2]; exact rd1_cell HL.out hlt
      have HY := Lib.hid hy
      clear hy
      by_cases hxy : y = x
      · subst hxy
        have hse : (y.toList == y.toList) = true := by simp
        have HF : Hid (findS l y = (j : Int)) := firstI_at HX.out HY.out (by simp)
        go_wp2_with fail
        go_ret
        exact ⟨by rw [HF.out]; rfl, rfl⟩
      · have hse : (y.toList == x.toList) = false := by rw [eqS]; simpa using hxy
        have HX2 : Hid (∀ z ∈ l.take (j + 1), decide (z = x) = false) := not_take_succ HX.out HY.out (by simpa using hxy)
        clear hxy
        go_wp2_with fail
        go_round
        case rel => exact ⟨j + 1, by omega, by go_num, HX2.out⟩
        case measure => simp [intOf]; omega
    · have hlt' : ¬ (j : Int) < (l.length : Int) := by omega
      have HF : Hid (findS l x = -1) := firstI_none (by have := HX.out; rwa [List.take_of_length_le (by omega)] at this)
      go_wp2_with fail
      go_ret
      exact ⟨by rw [HF.out]; rfl, rfl⟩
end Go.Proofs.Ytpjfhakmffcolaa

end
