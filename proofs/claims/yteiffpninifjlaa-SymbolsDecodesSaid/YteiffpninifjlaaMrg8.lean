/- SyA, SyP, SlS, in one text. -/
import Derived.Test.YteiffpninifjlaaMrg2
import Derived.Test.YteiffpninifjlaaMrg7
import Derived.Test.YteiffpninifjlaaMrg4
import Derived.Shelf.SlicesE.Compact
import Derived.Shelf.Spec.SearchS
import Derived.Sort.Walk0
import Derived.Sort.OwnSorted
import Derived.Shelf.SortM.Plain
import Derived.Shelf.SortM.SortNone

section
/- Layer 10: the functions that yield the strings of a list: the library's, one by one; the program's, each after the one before it. -/
set_option linter.unusedVariables false
set_option maxRecDepth 100000
namespace Go.Proofs.Yteiffpninifjlaa
open Go Go.RowKit Go.Shelf
attribute [local go_sem] Oper.semAt_some

theorem new_values (p : Option Addr) (m c : Nat) (w : World) (n : Nat) :
    CallsIn Fence.wide n Try.prog 25 #[.slice p m c] w fun e w' => e = .returned (.func (.func 46) #[] #[.pointer (some ⟨w.heap.size, 0, none⟩)]) ∧ w' = w.alloc (.cells #[.slice p m c] 22) := by
  refine callsIn_wide.2 ?_
  go_enter Try.func25, Try.ntmps25
  go_wp2_with fail
  go_ret
  exact ⟨rfl, rfl⟩

/-- What an iterator over the list lv, boxed at b, must find unturned. -/
def KeepB (b : Nat) (lv : Value) (ls : List ByteArray) : Nat → Prop := fun k => k = b ∨ (ls ≠ [] ∧ lv.ownBlock = some k)
theorem keepB_lt {b : Nat} {lv : Value} {ls : List ByteArray} {w : World} (hb : b < w.heap.size) (hl : Rd w 1 lv ls.length (strs ls)) : ∀ k, KeepB b lv ls k → k < w.heap.size := fun k hk => by
  rcases hk with e | ⟨h, e⟩
  · omega
  · exact hl.lt (fun e => h (by have := congrArg List.length e; rw [strs_length] at this; exact List.eq_nil_of_length_eq_zero this)) k e

set_option maxHeartbeats 1000000 in
theorem values_gives (n : Nat) (hn : 1 ≤ n) (b : Nat) (lv : Value) (ls : List ByteArray) (w : World) (hc : w.cell? ⟨b, 0, none⟩ = some lv) (hl : Rd w 1 lv ls.length (strs ls)) :
    SeqStopsK Fence.wide n Try.prog 46 #[.pointer (some ⟨b, 0, none⟩)] (fun x : ByteArray => #[.string x]) (KeepAt (KeepB b lv ls)) (fun ys => ys = ls) (fun _ => True) ls.length w := by
  intro l J Jx W hW hJ hJx hY h0
  have hb : b < w.heap.size := World.block_lt_of_cell? w _ hc
  have HK0 : Hid (KeepAt (KeepB b lv ls) w W) := fun k hk => hW.block k (keepB_lt hb hl k hk)
  have HC := Lib.hid hc; have HL := Lib.hid hl
  have HY := Lib.hid hY
  have hmax : (ls.length : Int) ≤ 9223372036854775807 := by have := hl.le; unfold maxLen at this; omega
  clear hc hY
  obtain ⟨p, c, hv⟩ := hl.shape
  subst hv
  clear hl
  obtain ⟨K, hK⟩ : ∃ K : Nat → Prop, KeepB b (.slice p ls.length c) ls = K := ⟨_, rfl⟩
  have HKb : Hid (K b) := by rw [← hK]; exact Or.inl rfl
  have HKv : Hid (ls ≠ [] → ∀ k, (Value.slice p ls.length c).ownBlock = some k → K k) := by rw [← hK]; exact fun h k hk => Or.inr ⟨h, hk⟩
  rw [hK] at HK0 HY
  clear hK
  have cb := (HK0.out.cell HKb.out 0).trans HC.out
  refine callsIn_of_wp Try.func46 rfl trivial ?_ rfl
  simp only [Try.ntmps46, List.size_toArray, List.length_cons, List.length_nil, Nat.reduceAdd, Nat.reduceSub, Array.replicate_succ, Array.replicate_zero, List.push_toArray, List.append_toArray, List.nil_append, List.cons_append]
  gi_wp2
  clear cb
  gi_loopw [7] (fun iv wr => ∃ (i : Nat), i ≤ ls.length ∧ iv = .int .i64 (i : Int) ∧ Hid (J (ls.take i) wr ∧ KeepAt K w wr)) (fun iv _ => ls.length - (intOf iv).toNat)
  case atStart => exact ⟨0, Nat.zero_le _, rfl, by simpa using h0, HK0.out⟩
  case round =>
    obtain ⟨i, hi, rfl, HI⟩ := hrel
    by_cases h : i < ls.length
    · have hlt : (i : Int) < (ls.length : Int) := by omega
      have hne : ls ≠ [] := fun e => by rw [e] at h; simp at h
      have HR := Lib.hid (HI.out.2.rd HL.out (HKv.out hne))
      obtain ⟨b0, off, c', e, _, _, hcl⟩ := HR.out.at (fun e => hne (by have := congrArg List.length e; rw [strs_length] at this; exact List.eq_nil_of_length_eq_zero this))
      simp only [Value.slice.injEq] at e
      obtain ⟨rfl, _, rfl⟩ := e
      have c1 := hcl i (.string ls[i]) (strs_get ls i h)
      have HLi : Hid (ls.take (i + 1) = ls.take i ++ [ls[i]]) := by show _ = _; rw [List.take_add_one, List.getElem?_eq_getElem h]; rfl
      generalize ls[i] = t at *
      clear hcl HR
      obtain ⟨fn, tmps, assign, body, hyl, hR⟩ := HY.out (ls.take i) t wr HI.out.1 (by rw [List.length_take]; omega)
      have hRH := Lib.hid hR
      clear hR hne
      gi_wp2
      refine hRH.out.mono ?_
      rintro e W3 (⟨rfl, hJ3, hk3⟩ | ⟨rfl, hJx3⟩)
      · have HI3 : Hid (J (ls.take (i + 1)) W3 ∧ KeepAt K w W3) := ⟨by rw [HLi.out]; exact hJ3, keepAt_t HI.out.2 hk3⟩
        clear hJ3 hk3 c1
        gi_wp2
        go_roundw
        case rel => exact ⟨i + 1, by omega, by go_num, HI3.out⟩
        case measure => simp [intOf]; omega
      · gi_wp2
        refine bodyPost_ret (results_none rfl _ _ _) rfl ?_
        exact ⟨⟨_, rfl⟩, .inr ⟨_, trivial, hJx3⟩⟩
    · have hlt : ¬ (i : Int) < (ls.length : Int) := by omega
      have HE : Hid (ls.take i = ls) := List.take_of_length_le (by omega)
      gi_wp2
      go_end0
      refine ⟨⟨_, rfl⟩, .inl ?_⟩
      have := HI.out.1
      rw [HE.out] at this
      exact this

/-- Each string but the first one, after the one before it. -/
def neighS (l : List ByteArray) : List (ByteArray × ByteArray) := l.zip l.tail
theorem neighS_length (l : List ByteArray) : (neighS l).length = l.length - 1 := by rw [neighS, List.length_zip, List.length_tail]; omega
theorem neighS_get (l : List ByteArray) (k : Nat) (h : k + 1 < l.length) : (neighS l)[k]? = some (l[k], l[k + 1]) := by
  have hk : k < (neighS l).length := by rw [neighS_length]; omega
  rw [List.getElem?_eq_getElem hk]
  simp [neighS, List.getElem_zip, List.getElem_tail]

theorem new_neighbors (p : Option Addr) (m c : Nat) (w : World) (n : Nat) :
    CallsIn Fence.wide n Try.prog 50 #[.slice p m c] w fun e w' => e = .returned (.func (.func 62) #[] #[.pointer (some ⟨w.heap.size, 0, none⟩)]) ∧ w' = w.alloc (.cells #[.slice p m c] 22) := by
  refine callsIn_wide.2 ?_
  go_enter Try.func50, Try.ntmps50
  go_wp2_with fail
  go_ret
  exact ⟨rfl, rfl⟩

set_option maxHeartbeats 1000000 in
theorem neighbors_gives (n : Nat) (hn : 1 ≤ n) (b : Nat) (lv : Value) (ls : List ByteArray) (w : World) (hc : w.cell? ⟨b, 0, none⟩ = some lv) (hl : Rd w 1 lv ls.length (strs ls)) :
    SeqStopsK Fence.wide n Try.prog 62 #[.pointer (some ⟨b, 0, none⟩)] (fun x : ByteArray × ByteArray => #[.string x.1, .string x.2]) (KeepAt (KeepB b lv ls)) (fun ys => ys = neighS ls) (fun pre => ∃ i, pre = (neighS ls).take i) (neighS ls).length w := by
  intro l J Jx W hW hJ hJx hY h0
  have hb : b < w.heap.size := World.block_lt_of_cell? w _ hc
  have HK0 : Hid (KeepAt (KeepB b lv ls) w W) := fun k hk => hW.block k (keepB_lt hb hl k hk)
  have HC := Lib.hid hc; have HL := Lib.hid hl
  have HJ := Lib.hid hJ; have HY := Lib.hid hY
  have hmax : (ls.length : Int) ≤ 9223372036854775807 := by have := hl.le; unfold maxLen at this; omega
  clear hc hJ hY
  obtain ⟨p, c, hv⟩ := hl.shape
  subst hv
  clear hl
  obtain ⟨K, hK⟩ : ∃ K : Nat → Prop, KeepB b (.slice p ls.length c) ls = K := ⟨_, rfl⟩
  have HKb : Hid (K b) := by rw [← hK]; exact Or.inl rfl
  have HKv : Hid (ls ≠ [] → ∀ k, (Value.slice p ls.length c).ownBlock = some k → K k) := by rw [← hK]; exact fun h k hk => Or.inr ⟨h, hk⟩
  rw [hK] at HK0 HY
  clear hK
  refine callsIn_of_wp Try.func62 rfl trivial ?_ rfl
  simp only [Try.ntmps62, List.size_toArray, List.length_cons, List.length_nil, Nat.reduceAdd, Nat.reduceSub, Array.replicate_succ, Array.replicate_zero, List.push_toArray, List.append_toArray, List.nil_append, List.cons_append]
  gi_wp2
  gi_loopw [3] (fun iv wr => ∃ (i k : Nat), i = k + 1 ∧ (i ≤ ls.length ∨ k = 0) ∧ iv = .int .i64 (i : Int) ∧ Hid (J ((neighS ls).take k) wr ∧ KeepAt K w wr)) (fun iv _ => ls.length + 1 - (intOf iv).toNat)
  case atStart => exact ⟨1, 0, rfl, Or.inr rfl, rfl, by simpa using h0, HK0.out⟩
  case round =>
    obtain ⟨i, k, hik, hi, rfl, HI⟩ := hrel
    have cb := (HI.out.2.cell HKb.out 0).trans HC.out
    by_cases h : i < ls.length
    · have hlt : (i : Int) < (ls.length : Int) := by omega
      have hi1 : (i : Int) - 1 = (k : Int) := by omega
      have hkl : (k : Int) < (ls.length : Int) := by omega
      have hne : ls ≠ [] := fun e => by rw [e] at h; simp at h
      have HR := Lib.hid (HI.out.2.rd HL.out (HKv.out hne))
      obtain ⟨b0, off, c', e, _, _, hcl⟩ := HR.out.at (fun e => hne (by have := congrArg List.length e; rw [strs_length] at this; exact List.eq_nil_of_length_eq_zero this))
      simp only [Value.slice.injEq] at e
      obtain ⟨rfl, _, rfl⟩ := e
      have c1 := hcl i (.string ls[i]) (strs_get ls i h)
      have c2 := hcl k (.string (ls[k]'(by omega))) (strs_get ls k (by omega))
      have HLi : Hid ((neighS ls).take (k + 1) = (neighS ls).take k ++ [(ls[k]'(by omega), ls[i])]) := by
        show _ = _
        rw [List.take_add_one, neighS_get ls k (by omega)]
        simp only [hik]
        rfl
      have hkn : ((neighS ls).take k).length < (neighS ls).length := by rw [List.length_take, neighS_length]; omega
      generalize ls[i] = t at *
      generalize ls[k]'(by omega) = s at *
      have HIK := Lib.hid hik
      have hwk : IntKind.i64.wrap (k : Int) = (k : Int) := IntWalk.i64_in _ (by omega)
      clear hcl HR hik hi
      gi_wp2
      have HS : Hid (∀ w' : World, (w'.cell? ⟨b, 0, none⟩ = some (.slice (some ⟨b0, off, none⟩) ls.length c) ∧ w'.cell? ⟨b0, off + k, none⟩ = some (.string s) ∧ w'.cell? ⟨b0, off + i, none⟩ = some (.string t)) → (w'.cell? ⟨b, 0, none⟩ = some (.slice (some ⟨b0, off, none⟩) ls.length c) ∧ w'.cell? ⟨b0, off + k, none⟩ = some (.string s) ∧ w'.cell? ⟨b0, off + i, none⟩ = some (.string t))) := fun _ h => h
      refine wpIn_region_takeN (fun w' : World => w'.cell? ⟨b, 0, none⟩ = some (.slice (some ⟨b0, off, none⟩) ls.length c) ∧ w'.cell? ⟨b0, off + k, none⟩ = some (.string s) ∧ w'.cell? ⟨b0, off + i, none⟩ = some (.string t)) [0, 1, 2, 3, 4, 5, 6, 7, 8, 9] 10 [11] rfl (by kernel_rfl) (by kernel_rfl) (by kernel_rfl) ⟨cb, c2, c1⟩ ?_
      clear cb c1 c2
      simp only [taken, List.map_cons, List.map_nil, List.getElem?_cons_succ, List.getElem?_cons_zero, Option.getD_some]
      repeat (first
        | (refine takeN_skip rfl ?_; simp only [Act.put, List.setIfInBounds_toArray, List.set_cons_succ, List.set_cons_zero])
        | (refine takeN_blind rfl rfl ?_; apply Exists.intro; refine ⟨fun w => ?_, ?_⟩; (go_simp; try with_reducible rfl); simp only [Act.put, List.setIfInBounds_toArray, List.set_cons_succ, List.set_cons_zero])
        | (refine takeN_reads rfl rfl ?_; apply Exists.intro; refine ⟨fun w' hS => ?_, ?_⟩; (obtain ⟨d0, d1, d2⟩ := HS.out w' hS; go_simp; try with_reducible rfl); simp only [Act.put, List.setIfInBounds_toArray, List.set_cons_succ, List.set_cons_zero]))
      refine takeN_nil ?_
      refine ⟨rfl, fun K' hK' => ?_⟩
      have HI2 : Hid (J ((neighS ls).take k) wr.drew ∧ KeepAt K w wr.drew) := ⟨HJ.out _ wr _ none HI.out.1 (grown_drewN wr 1) (fun r e => by cases e), HI.out.2⟩
      clear HI hi1 hkl
      obtain ⟨fn, tmps, assign, body, hyl, hR⟩ := HY.out ((neighS ls).take k) (s, t) wr.drew HI2.out.1 hkn
      have hRH := Lib.hid hR
      clear hR hkn
      generalize wr.drew = wy at *
      gi_wp2
      refine hRH.out.mono ?_
      rintro e W3 (⟨rfl, hJ3, hk3⟩ | ⟨rfl, hJx3⟩)
      · have HI3 : Hid (J ((neighS ls).take (k + 1)) W3 ∧ KeepAt K w W3) := ⟨by rw [HLi.out]; exact hJ3, keepAt_t HI2.out.2 hk3⟩
        clear hJ3 hk3
        refine hK' _ _ ?_
        clear hK' K'
        repeat (first
        | (refine takeN_skip rfl ?_; simp only [Act.put, List.setIfInBounds_toArray, List.set_cons_succ, List.set_cons_zero])
        | (refine takeN_blind rfl rfl ?_; apply Exists.intro; refine ⟨fun w => ?_, ?_⟩; (go_simp; try with_reducible rfl); simp only [Act.put, List.setIfInBounds_toArray, List.set_cons_succ, List.set_cons_zero])
        | (refine takeN_reads rfl rfl ?_; apply Exists.intro; refine ⟨fun w' hS => ?_, ?_⟩; (obtain ⟨d0, d1, d2⟩ := HS.out w' hS; go_simp; try with_reducible rfl); simp only [Act.put, List.setIfInBounds_toArray, List.set_cons_succ, List.set_cons_zero]))
        refine takeN_nil ?_
        gi_wp2
        go_roundw
        case rel => exact ⟨i + 1, k + 1, by have := HIK.out; omega, Or.inl (by omega), by go_num, HI3.out⟩
        case measure => simp [intOf]; omega
      · refine hK' _ _ ?_
        clear hK' K'
        repeat (first
        | (refine takeN_skip rfl ?_; simp only [Act.put, List.setIfInBounds_toArray, List.set_cons_succ, List.set_cons_zero])
        | (refine takeN_blind rfl rfl ?_; apply Exists.intro; refine ⟨fun w => ?_, ?_⟩; (go_simp; try with_reducible rfl); simp only [Act.put, List.setIfInBounds_toArray, List.set_cons_succ, List.set_cons_zero])
        | (refine takeN_reads rfl rfl ?_; apply Exists.intro; refine ⟨fun w' hS => ?_, ?_⟩; (obtain ⟨d0, d1, d2⟩ := HS.out w' hS; go_simp; try with_reducible rfl); simp only [Act.put, List.setIfInBounds_toArray, List.set_cons_succ, List.set_cons_zero]))
        refine takeN_nil ?_
        gi_wp2
        refine bodyPost_ret (results_none rfl _ _ _) rfl ?_
        exact ⟨⟨_, rfl⟩, .inr ⟨_, ⟨k + 1, HLi.out.symm⟩, hJx3⟩⟩
    · have hlt : ¬ (i : Int) < (ls.length : Int) := by omega
      have HE : Hid ((neighS ls).take k = neighS ls) := List.take_of_length_le (by rw [neighS_length]; omega)
      clear hik hi
      gi_wp2
      go_end0
      refine ⟨⟨_, rfl⟩, .inl ?_⟩
      have := HI.out.1
      rw [HE.out] at this
      exact this
end Go.Proofs.Yteiffpninifjlaa

end

section
/- Layer 10: a sorted list without repetitions is the table; where a search in a table ends. No program in sight. -/
set_option linter.unusedVariables false
namespace Go.Proofs.Yteiffpninifjlaa
open Go Go.RowKit Go.Lib Go.Sort

def kOf (a : ByteArray) : List UInt8 := a.data.toList
def ofK (l : List UInt8) : ByteArray := ⟨l.toArray⟩
theorem ofK_kOf (a : ByteArray) : ofK (kOf a) = a := by cases a; simp [ofK, kOf]
theorem kOf_ofK (l : List UInt8) : kOf (ofK l) = l := by simp [ofK, kOf]
theorem ltS_ofK (x y : List UInt8) : ltS (ofK x) (ofK y) = bLt x y := by
  have h : ∀ l : List UInt8, (ofK l).toList = l := fun l => by rw [Lib.toList_data]; simp [ofK]
  rw [ltS, h, h]; rfl
theorem bLt_ok : LtOk bLt := ⟨⟨bLt_irr, bLt_tr⟩, bLt_tot⟩
theorem enc_kOf (l : List ByteArray) : (l.map kOf).map encStr = strs l := by
  rw [List.map_map, strs]
  refine List.map_congr_left fun a _ => ?_
  cases a
  simp [encStr, kOf]
theorem enc_ofK (l : List (List UInt8)) : l.map encStr = strs (l.map ofK) := by
  rw [strs, List.map_map]; rfl

section
variable {α : Type} [Inhabited α] [DecidableEq α] {lt : α → α → Bool}
theorem compact_mem (d : Array α) (m : Nat) (x : α) : x ∈ compactUpTo d m ↔ ∃ j, j < m ∧ d[j]! = x := by
  induction m with
  | zero => simp [compactUpTo]
  | succ m ih =>
    rw [compactUpTo_succ, List.mem_append, ih]
    constructor
    · rintro (⟨j, h1, h2⟩ | h)
      · exact ⟨j, by omega, h2⟩
      · by_cases hk : keeps d m = true
        · rw [if_pos hk] at h
          exact ⟨m, by omega, (List.mem_singleton.1 h).symm⟩
        · rw [if_neg hk] at h; cases h
    · rintro ⟨j, h1, h2⟩
      by_cases hj : j < m
      · exact Or.inl ⟨j, hj, h2⟩
      · obtain rfl : j = m := by omega
        by_cases hk : keeps d j = true
        · exact Or.inr (by rw [if_pos hk, h2]; exact List.mem_singleton.2 rfl)
        · have : ¬ (j = 0 ∨ d[j]! ≠ d[j - 1]!) := by simpa [keeps] using hk
          exact Or.inl ⟨j - 1, by omega, by rw [← h2]; exact (Decidable.not_not.1 (fun e => this (Or.inr e))).symm⟩
theorem compact_asc (h : LtOk lt) (d : Array α) (hs : ∀ i j, i < j → j < d.size → lt d[j]! d[i]! = false) (m : Nat) (hm : m ≤ d.size) : AscB lt (compactUpTo d m) := by
  induction m with
  | zero => exact List.Pairwise.nil
  | succ m ih =>
    rw [compactUpTo_succ]
    refine List.pairwise_append.2 ⟨ih (by omega), ?_, fun a ha b hb => ?_⟩
    · split
      · exact List.pairwise_singleton _ _
      · exact List.Pairwise.nil
    · by_cases hk : keeps d m = true
      · rw [if_pos hk] at hb
        obtain rfl := List.mem_singleton.1 hb
        obtain ⟨i, hi, rfl⟩ := (compact_mem d m a).1 ha
        have hne : d[m]! ≠ d[m - 1]! := by
          have : m = 0 ∨ d[m]! ≠ d[m - 1]! := by simpa [keeps] using hk
          rcases this with e | e
          · omega
          · exact e
        have h1 : lt d[m - 1]! d[m]! = true := by
          rcases Bool.eq_false_or_eq_true (lt d[m - 1]! d[m]!) with e | e
          · exact e
          · exact absurd (h.tot _ _ (hs (m - 1) m (by omega) (by omega)) e) hne
        by_cases he : i = m - 1
        · rw [he]; exact h1
        · exact h.le_tr (hs i (m - 1) (by omega) (by omega)) h1
      · rw [if_neg hk] at hb; cases hb
end

/-- A list of strings, sorted. -/
def srt (l : List ByteArray) : List (List UInt8) := (l.map kOf).mergeSort (fun x y => decide (x ≤ y))
theorem srt_perm (l : List ByteArray) : (srt l).Perm (l.map kOf) := List.mergeSort_perm _ _
theorem srt_length (l : List ByteArray) : (srt l).length = l.length := by rw [(srt_perm l).length_eq, List.length_map]
theorem le_bLt (x y : List UInt8) : decide (x ≤ y) = !bLt y x := by
  rw [bLt, bytesLess_eq]
  by_cases h : y < x
  · rw [decide_eq_true h, decide_eq_false (List.not_le.2 h)]; rfl
  · rw [decide_eq_false h, decide_eq_true (List.not_lt.1 h)]; rfl
theorem srt_sorted (l : List ByteArray) : (srt l).Pairwise (fun x y => bLt y x = false) := by
  have h := List.pairwise_mergeSort (le := fun x y : List UInt8 => decide (x ≤ y)) (fun a b c h1 h2 => by
    rw [le_bLt, Bool.not_eq_true'] at *
    rcases Bool.eq_false_or_eq_true (bLt c a) with e | e
    · exact absurd (bLt_ok.le_tr h2 e) (by rw [h1]; decide)
    · exact e) (fun a b => by
    rw [le_bLt, le_bLt]
    rcases Bool.eq_false_or_eq_true (bLt b a) with e | e
    · rw [bLt_ok.asy e]; simp
    · rw [e]; rfl) (l.map kOf)
  exact h.imp (fun {a b} h => by rw [le_bLt, Bool.not_eq_true'] at h; exact h)
/-- What Compact leaves of the sorted list is the table. -/
theorem compact_tab (l : List ByteArray) : (compactUpTo (srt l).toArray l.length).map ofK = tabS l := by
  have hget : ∀ j (h : j < (srt l).length), (srt l).toArray[j]! = (srt l)[j] := fun j h => by rw [getElem!_pos _ j (by simpa using h)]; simp
  refine ascB_ext ltS_ok.toLtPre _ _ ?_ (tabB_asc ltS_ok l) (fun x => ?_)
  · refine List.pairwise_map.2 ((compact_asc bLt_ok (srt l).toArray (fun i j hij hj => ?_) l.length (by simp [srt_length])).imp (fun {a b} h => by rw [ltS_ofK]; exact h))
    have hj' : j < (srt l).length := by simpa using hj
    rw [hget j hj', hget i (by omega)]
    exact List.pairwise_iff_getElem.1 (srt_sorted l) i j (by omega) hj' hij
  · rw [tabS, tabB_mem ltS_ok, List.mem_map]
    constructor
    · rintro ⟨k, hk, rfl⟩
      obtain ⟨j, hj, rfl⟩ := (compact_mem _ _ _).1 hk
      have hj' : j < (srt l).length := by rw [srt_length]; exact hj
      rw [hget j hj']
      obtain ⟨a, ha, he⟩ := List.mem_map.1 ((srt_perm l).mem_iff.1 (List.getElem_mem hj'))
      rw [← he, ofK_kOf]
      exact ha
    · intro hx
      have h1 : kOf x ∈ srt l := (srt_perm l).mem_iff.2 (List.mem_map.2 ⟨x, hx, rfl⟩)
      obtain ⟨j, hj, he⟩ := List.getElem_of_mem h1
      refine ⟨kOf x, (compact_mem _ _ _).2 ⟨j, by rw [← srt_length]; exact hj, by rw [hget j hj]; exact he⟩, ofK_kOf x⟩
theorem compact_len (ts : List (List UInt8)) (m : Nat) : (compactUpTo ts.toArray m).length ≤ m := by
  unfold compactUpTo
  rw [List.length_map]
  exact Nat.le_trans (List.length_filter_le _ _) (by simp)

/-- Element j of a list; s behind it. -/
def atOr (t : List ByteArray) (s : ByteArray) (j : Nat) : ByteArray := (t[j]?).getD s
/-- Where the search for s in t ends. -/
def posS (t : List ByteArray) (s : ByteArray) : Nat := t.findIdx (fun a => !ltS a s)
theorem posS_le (t : List ByteArray) (s : ByteArray) : posS t s ≤ t.length := List.findIdx_le_length
theorem posS_low {t : List ByteArray} {s : ByteArray} (j : Nat) (h : j < posS t s) : ltS (atOr t s j) s = true := by
  have hl := posS_le t s
  rw [atOr, List.getElem?_eq_getElem (by omega), Option.getD_some]
  have := List.not_of_lt_findIdx h
  simpa using this
theorem posS_high {t : List ByteArray} (ha : AscB ltS t) {s : ByteArray} (j : Nat) (h : posS t s ≤ j) : ltS (atOr t s j) s = false := by
  by_cases hj : j < t.length
  · rw [atOr, List.getElem?_eq_getElem hj, Option.getD_some]
    have hk : posS t s < t.length := by omega
    have h1 : ltS t[posS t s] s = false := by
      have h0 : (!ltS t[posS t s] s) = true := List.findIdx_getElem (w := hk)
      simpa using h0
    rcases Nat.lt_or_eq_of_le h with e | e
    · have h2 := ascB_get ha e hj
      rcases Bool.eq_false_or_eq_true (ltS t[j] s) with f | f
      · rw [ltS_ok.tr _ _ _ h2 f] at h1; cases h1
      · exact f
    · simp only [← e]; exact h1
  · rw [atOr, List.getElem?_eq_none (by omega)]
    exact ltS_ok.irr s
end Go.Proofs.Yteiffpninifjlaa

end

section
/- Lists of strings: the library's Sort, Compact, BinarySearch, by the shelf's contracts, laid by hand. -/
set_option linter.unusedVariables false
set_option maxRecDepth 20000
namespace Go.Proofs.Yteiffpninifjlaa
open Go Go.RowKit

def renSortS : Go.Shelf.Ren := ⟨fun | 6 => 45 | 8 => 60 | 9 => 59 | 19 => 76 | 20 => 77 | 21 => 68 | 22 => 69 | 23 => 70 | 24 => 71 | 25 => 72 | 26 => 73 | 27 => 47 | 28 => 74 | 29 => 75 | 31 => 80 | 32 => 81 | 36 => 79 | 37 => 82 | 38 => 83 | 39 => 61 | 41 => 84 | n => n, fun | 0 => 0 | 3 => 3 | 4 => 4 | 5 => 5 | 9 => 9 | 26 => 22 | 27 => 22 | 29 => 9 | 32 => 71 | 35 => 96 | 36 => 97 | 41 => 29 | 44 => 103 | 46 => 52 | 53 => 107 | 57 => 111 | 63 => 113 | 64 => 114 | n => n, fun n => n⟩
theorem laysSortS : Go.Proofs.SlLaysM.n6 Try.prog renSortS := { mixed := by kernel_rfl, f6 := ⟨"slices.Sort[[]string,string]", by decide, Try.func45.trans (congrArg some (by kernel_rfl))⟩, f8 := Try.func60.trans (congrArg some (by kernel_rfl)), f9 := ⟨"slices.pdqsortOrdered[string]", by decide, Try.func59.trans (congrArg some (by kernel_rfl))⟩, f19 := Try.func76.trans (congrArg some (by kernel_rfl)), f20 := Try.func77.trans (congrArg some (by kernel_rfl)), f21 := ⟨"slices.insertionSortOrdered[string]", by decide, Try.func68.trans (congrArg some (by kernel_rfl))⟩, f22 := ⟨"slices.heapSortOrdered[string]", by decide, Try.func69.trans (congrArg some (by kernel_rfl))⟩, f23 := ⟨"slices.breakPatternsOrdered[string]", by decide, Try.func70.trans (congrArg some (by kernel_rfl))⟩, f24 := ⟨"slices.choosePivotOrdered[string]", by decide, Try.func71.trans (congrArg some (by kernel_rfl))⟩, f25 := ⟨"slices.reverseRangeOrdered[string]", by decide, Try.func72.trans (congrArg some (by kernel_rfl))⟩, f26 := ⟨"slices.partialInsertionSortOrdered[string]", by decide, Try.func73.trans (congrArg some (by kernel_rfl))⟩, f27 := ⟨"cmp.Less[string]", by decide, Try.func47.trans (congrArg some (by kernel_rfl))⟩, f28 := ⟨"slices.partitionEqualOrdered[string]", by decide, Try.func74.trans (congrArg some (by kernel_rfl))⟩, f29 := ⟨"slices.partitionOrdered[string]", by decide, Try.func75.trans (congrArg some (by kernel_rfl))⟩, f31 := Try.func80.trans (congrArg some (by kernel_rfl)), f32 := Try.func81.trans (congrArg some (by kernel_rfl)), f36 := ⟨"slices.siftDownOrdered[string]", by decide, Try.func79.trans (congrArg some (by kernel_rfl))⟩, f37 := ⟨"slices.medianAdjacentOrdered[string]", by decide, Try.func82.trans (congrArg some (by kernel_rfl))⟩, f38 := ⟨"slices.medianOrdered[string]", by decide, Try.func83.trans (congrArg some (by kernel_rfl))⟩, f39 := ⟨"cmp.isNaN[string]", by decide, Try.func61.trans (congrArg some (by kernel_rfl))⟩, f41 := ⟨"slices.order2Ordered[string]", by decide, Try.func84.trans (congrArg some (by kernel_rfl))⟩, t0 := Try.underlying0, a0 := Try.isAgg0, z0 := Try.sizeOf0, v0 := Try.zeroValue0, t3 := Try.underlying3, a3 := Try.isAgg3, z3 := Try.sizeOf3, v3 := Try.zeroValue3, t4 := Try.underlying4, a4 := Try.isAgg4, z4 := Try.sizeOf4, v4 := Try.zeroValue4, t5 := Try.underlying5, a5 := Try.isAgg5, z5 := Try.sizeOf5, v5 := Try.zeroValue5, t9 := Try.underlying9, a9 := Try.isAgg9, z9 := Try.sizeOf9, v9 := Try.zeroValue9, t26 := Try.underlying22, a26 := Try.isAgg22, z26 := Try.sizeOf22, v26 := Try.zeroValue22, t27 := Try.underlying22, a27 := Try.isAgg22, z27 := Try.sizeOf22, v27 := Try.zeroValue22, t29 := Try.underlying9, a29 := Try.isAgg9, z29 := Try.sizeOf9, v29 := Try.zeroValue9, t32 := Try.underlying71, a32 := Try.isAgg71, z32 := Try.sizeOf71, v32 := Try.zeroValue71, t35 := Try.underlying96, a35 := Try.isAgg96, z35 := Try.sizeOf96, v35 := Try.zeroValue96, t36 := Try.underlying97, a36 := Try.isAgg97, z36 := Try.sizeOf97, v36 := Try.zeroValue97, t41 := Try.underlying29, a41 := Try.isAgg29, z41 := Try.sizeOf29, v41 := Try.zeroValue29, t44 := Try.underlying103, a44 := Try.isAgg103, z44 := Try.sizeOf103, v44 := Try.zeroValue103, t46 := Try.underlying52, a46 := Try.isAgg52, z46 := Try.sizeOf52, v46 := Try.zeroValue52, t53 := Try.underlying107, a53 := Try.isAgg107, z53 := Try.sizeOf107, v53 := Try.zeroValue107, t57 := Try.underlying111, a57 := Try.isAgg111, z57 := Try.sizeOf111, v57 := Try.zeroValue111, t63 := Try.underlying113, a63 := Try.isAgg113, z63 := Try.sizeOf113, v63 := Try.zeroValue113, t64 := Try.underlying114, a64 := Try.isAgg114, z64 := Try.sizeOf114, v64 := Try.zeroValue114 }
def renCompactS : Go.Shelf.Ren := ⟨fun | 43 => 23 | n => n, fun | 0 => 0 | 3 => 3 | 4 => 4 | 22 => 22 | 23 => 9 | n => n, fun n => n⟩
theorem laysCompactS : Go.Proofs.SlLaysE.n43 Try.prog renCompactS := { mixed := by kernel_rfl, f43 := ⟨"slices.Compact[[]string,string]", by decide, Try.func23.trans (congrArg some (by kernel_rfl))⟩, t0 := Try.underlying0, a0 := Try.isAgg0, z0 := Try.sizeOf0, v0 := Try.zeroValue0, t3 := Try.underlying3, a3 := Try.isAgg3, z3 := Try.sizeOf3, v3 := Try.zeroValue3, t4 := Try.underlying4, a4 := Try.isAgg4, z4 := Try.sizeOf4, v4 := Try.zeroValue4, t22 := Try.underlying22, a22 := Try.isAgg22, z22 := Try.sizeOf22, v22 := Try.zeroValue22, a23 := Try.isAgg9, z23 := Try.sizeOf9 }
def renSearchS : Go.Shelf.Ren := ⟨fun | 26 => 26 | 33 => 47 | 34 => 48 | 38 => 61 | n => n, fun | 0 => 0 | 3 => 3 | 4 => 4 | 9 => 9 | 24 => 22 | 40 => 71 | n => n, fun n => n⟩
theorem laysSearchS : Go.Proofs.Lays2.n26 Try.prog renSearchS := { mixed := by kernel_rfl, f26 := Try.func26.trans (congrArg some (by kernel_rfl)), f33 := Try.func47.trans (congrArg some (by kernel_rfl)), f34 := Try.func48.trans (congrArg some (by kernel_rfl)), f38 := Try.func61.trans (congrArg some (by kernel_rfl)), t0 := Try.underlying0, a0 := Try.isAgg0, z0 := Try.sizeOf0, v0 := Try.zeroValue0, t3 := Try.underlying3, a3 := Try.isAgg3, z3 := Try.sizeOf3, v3 := Try.zeroValue3, t4 := Try.underlying4, a4 := Try.isAgg4, z4 := Try.sizeOf4, v4 := Try.zeroValue4, t9 := Try.underlying9, a9 := Try.isAgg9, z9 := Try.sizeOf9, v9 := Try.zeroValue9, t24 := Try.underlying22, a24 := Try.isAgg22, z24 := Try.sizeOf22, v24 := Try.zeroValue22, t40 := Try.underlying71, a40 := Try.isAgg71, z40 := Try.sizeOf71, v40 := Try.zeroValue71 }

theorem srt_row (w : World) (base : Nat) (v : Value) (l : List ByteArray) (h : w.ownsRow base 9 1 v l.length (strs l)) (hn : l.length ≤ 1000000) :
    Calls Try.prog 45 #[v] w fun e w' => e = .returned (.tuple #[]) ∧ w'.ownsRow base 9 1 v l.length ((srt l).map encStr) ∧ Mods (fun k => v.ownBlock = some k) w w' := by
  have hl : (l.map kOf).length = l.length := List.length_map ..
  rcases h.2 with ⟨rfl, h0⟩ | ⟨g, cap, cur, rfl, hbase, hgb, r1, r2, r3, r4⟩
  · refine (AnyM.slices_Sort_string_none laysSortS none 0 w).mono ?_
    rintro e w' ⟨rfl, rfl⟩
    obtain rfl : l = [] := List.eq_nil_of_length_eq_zero h0
    exact ⟨rfl, by simpa [srt, strs] using h, Mods.refl _ _⟩
  · have hH : Go.Sort.Holds encStr w g 0 (l.map kOf).toArray := holds_of_block hgb (by rw [hl, enc_kOf, ← r4, Nat.mul_one])
    have hC := AnyM.slices_Sort_string laysSortS g 0 cap (l.map kOf) w hH (Array.getElem?_eq_some_iff.1 hgb).1 (by omega)
    rw [hl] at hC
    refine hC.mono ?_
    rintro e w' ⟨rfl, n, os, rfl⟩
    have hs : (srt l).length = (l.map kOf).length := by rw [srt_length, hl]
    have hrow := ownsRow_sorted (n := n) (os := os) (ts := srt l) (ss := l.map kOf) hs hbase hgb (by rw [hl]; exact r1) r2 r3
    rw [hl] at hrow
    exact ⟨rfl, hrow, (Mods.of_grown (grownBy_sorted _)).mono (fun k _ e => e)⟩

/-- A row, cut. -/
theorem owns_take {w : World} {base : Nat} {e : TypeId} {n c m : Nat} {p : Option Addr} {xs : List Value} (h : w.ownsRow base e 1 (.slice p n c) n xs) (hm : m ≤ n) : w.ownsRow base e 1 (.slice p m c) m (xs.take m) := by
  have hx := h.1
  refine ⟨by rw [List.length_take]; omega, ?_⟩
  rcases h.2 with ⟨e, h0⟩ | ⟨g, cap, cur, e, hb, hg, hn, hmx, hs, ht⟩
  · simp only [Value.slice.injEq] at e
    obtain ⟨rfl, _, rfl⟩ := e
    obtain rfl : m = 0 := by omega
    exact Or.inl ⟨rfl, rfl⟩
  · simp only [Value.slice.injEq] at e
    obtain ⟨rfl, _, rfl⟩ := e
    refine Or.inr ⟨g, c, cur, rfl, hb, hg, by omega, hmx, hs, ?_⟩
    rw [← ht, List.take_take, Nat.mul_one, Nat.mul_one, Nat.min_eq_left hm]

theorem eql_k (T : TypeId) : EqlAt Try.prog T encStr (fun x y => decide (x = y)) := by
  have h := EqlAt.string Try.prog T
  refine ⟨fun x y w => ?_, fun op a b x y w => h.2 op a b _ _ w⟩
  have hb : ((ofK x).toList == (ofK y).toList) = decide (x = y) := by rw [Lib.toList_data, Lib.toList_data]; show (kOf (ofK x) == kOf (ofK y)) = _; rw [kOf_ofK, kOf_ofK]; by_cases e : x = y <;> simp [e]
  have h2 := h.1 (ofK x) (ofK y) w
  simp only [hb] at h2
  exact h2
theorem neq_k (T : TypeId) : NeqAt Try.prog T encStr (fun x y => decide (x = y)) := by
  have h := NeqAt.string Try.prog T
  refine ⟨fun x y w => ?_, fun op a b x y w => h.2 op a b _ _ w⟩
  have hb : ((ofK x).toList == (ofK y).toList) = decide (x = y) := by rw [Lib.toList_data, Lib.toList_data]; show (kOf (ofK x) == kOf (ofK y)) = _; rw [kOf_ofK, kOf_ofK]; by_cases e : x = y <;> simp [e]
  have h2 := h.1 (ofK x) (ofK y) w
  simp only [hb] at h2
  exact h2

theorem compact_nil (w : World) : Calls Try.prog 23 #[.slice none 0 0] w fun e w' => e = .returned (.slice none 0 0) ∧ w' = w := by
  go_enter Try.func23, Try.ntmps23
  go_wp2_with fail
  go_ret
  exact ⟨rfl, rfl⟩

theorem compact_row (w : World) (base : Nat) (v : Value) (ts : List (List UInt8)) (h : w.ownsRow base 9 1 v ts.length (ts.map encStr)) (hn : ts.length ≤ 1000000) :
    Calls Try.prog 23 #[v] w fun e w' => ∃ r, e = .returned r ∧ w'.ownsRow base 9 1 r (Lib.compactUpTo ts.toArray ts.length).length ((Lib.compactUpTo ts.toArray ts.length).map encStr) ∧ Mods (fun k => v.ownBlock = some k) w w' := by
  rcases h.2 with ⟨rfl, h0⟩ | ⟨g, cap, cur, rfl, hbase, hgb, r1, r2, r3, r4⟩
  · refine (compact_nil w).mono ?_
    rintro e w' ⟨rfl, rfl⟩
    obtain rfl : ts = [] := List.eq_nil_of_length_eq_zero h0
    exact ⟨_, rfl, by simpa [Lib.compactUpTo] using h, Mods.refl _ _⟩
  · have hH : Go.Sort.Holds encStr w g 0 ts.toArray := holds_of_block hgb (by rw [← r4, Nat.mul_one])
    obtain ⟨C, hC⟩ : ∃ C, Lib.compactUpTo ts.toArray ts.length = C := ⟨_, rfl⟩
    have hCl : C.length ≤ ts.length := by rw [← hC]; exact compact_len _ _
    have h1 := AnyE.slices_Compact laysCompactS encStr (fun _ => rfl) (eql_k _) (neq_k _) [] Try.zeroValue9 g 0 cap ts.toArray w hH (by simp; omega) (by simpa using r1)
    simp only [List.size_toArray] at h1
    rw [hC] at h1 ⊢
    refine h1.mono ?_
    rintro e w' ⟨rfl, q, rfl⟩
    have hs : (C ++ List.replicate (ts.length - C.length) []).length = ts.length := by simp; omega
    have hrow := ownsRow_sorted (n := q) (os := #[]) (ts := C ++ List.replicate (ts.length - C.length) []) (ss := ts) hs hbase hgb r1 r2 r3
    rw [Go.Sort.grow_empty] at hrow
    have h2 := owns_take hrow hCl
    rw [List.map_append, List.take_left' (by simp)] at h2
    have hg := grownBy_sorted (w := w) (g := g) (n := q) (os := #[]) (C ++ List.replicate (ts.length - C.length) []).toArray
    rw [Go.Sort.grow_empty] at hg
    exact ⟨_, rfl, h2, (Mods.of_grown hg).mono (fun k _ e => e)⟩

theorem search_row (tv : Value) (t : List ByteArray) (s : ByteArray) (w : World) (h : Rd w 1 tv t.length (strs t)) (hn : t.length ≤ 1000000) (ha : AscB ltS t) :
    Calls Try.prog 26 #[tv, .string s] w fun e w' => ∃ k : Nat, e = .returned (.tuple #[.int .i64 (k : Int), .bool (decide (0 ≤ findS t s))]) ∧ (0 ≤ findS t s → (k : Int) = findS t s) ∧ ∃ q, w' = w.drewN q := by
  by_cases h0 : t = []
  · subst h0
    obtain ⟨p, c, hv⟩ := h.shape
    subst hv
    refine (Any2.slices_BinarySearch_string_empty laysSearchS p c s w).mono ?_
    rintro e w' ⟨rfl, rfl⟩
    exact ⟨0, rfl, (fun h => absurd (show (0 : Int) ≤ -1 from h) (by decide)), 0, rfl⟩
  · obtain ⟨b, off, c, rfl, _, _, hc⟩ := h.at (fun e => h0 (by have := congrArg List.length e; rw [strs_length] at this; exact List.eq_nil_of_length_eq_zero this))
    have h1 := Any2.slices_BinarySearch_string laysSearchS b off t.length c (atOr t s) s w (by omega) (fun j hj => hc j _ (by rw [strs, List.getElem?_map, List.getElem?_eq_getElem hj, atOr, List.getElem?_eq_getElem hj]; rfl))
    have hk : Lib.bsGo (fun j => Op.bytesLess (atOr t s j).toList s.toList) t.length 0 t.length = posS t s :=
      Lib.bsGo_spec _ _ (fun j hj => posS_low j hj) (fun j hj => posS_high ha j hj) _ _ _ (by omega) (by omega) (posS_le t s)
    rw [hk] at h1
    refine h1.mono ?_
    rintro e w' ⟨rfl, q, rfl⟩
    by_cases hf : posS t s < t.length ∧ atOr t s (posS t s) = s
    · obtain ⟨hf1, hf2⟩ := hf
      rw [atOr, List.getElem?_eq_getElem hf1, Option.getD_some] at hf2
      have hF : findS t s = (posS t s : Int) := firstI_at (fun y hy => by
        obtain ⟨j, hj, he⟩ := List.getElem_of_mem hy
        rw [List.length_take] at hj
        rw [List.getElem_take] at he
        have := posS_low (t := t) (s := s) j (by omega)
        rw [atOr, List.getElem?_eq_getElem (by omega), Option.getD_some, he] at this
        rw [decide_eq_false]
        intro e
        rw [e, ltS_ok.irr] at this
        cases this) (by rw [List.getElem?_eq_getElem hf1]) (by rw [hf2]; simp)
      rw [hF]
      refine ⟨posS t s, ?_, fun _ => rfl, q, rfl⟩
      rw [decide_eq_true (show posS t s < t.length ∧ atOr t s (posS t s) = s from ⟨hf1, by rw [atOr, List.getElem?_eq_getElem hf1]; exact hf2⟩), decide_eq_true (by omega)]
    · have hF : findS t s = -1 := firstI_none (fun y hy => by
        rw [decide_eq_false]
        intro e
        subst e
        obtain ⟨j, hj, he⟩ := List.getElem_of_mem hy
        have hj1 : posS t y ≤ j := by
          rcases Nat.lt_or_ge j (posS t y) with hlt | hge
          · have := posS_low (t := t) (s := y) j hlt
            rw [atOr, List.getElem?_eq_getElem hj, Option.getD_some, he, ltS_ok.irr] at this
            cases this
          · exact hge
        have hk2 : posS t y < t.length := by omega
        refine hf ⟨hk2, ?_⟩
        rcases Nat.lt_or_eq_of_le hj1 with e | e
        · have h2 := ascB_get ha e hj
          have h3 := posS_high ha (s := y) (posS t y) (Nat.le_refl _)
          rw [atOr, List.getElem?_eq_getElem hk2, Option.getD_some] at h3
          rw [he, h3] at h2
          cases h2
        · rw [atOr, List.getElem?_eq_getElem hk2, Option.getD_some]
          simp only [e]
          exact he)
      rw [hF]
      exact ⟨posS t s, by rw [decide_eq_false hf]; rfl, fun h => absurd h (by decide), q, rfl⟩
end Go.Proofs.Yteiffpninifjlaa

end
