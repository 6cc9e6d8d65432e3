/- Layer 7: the function that yields the runs. -/
import Derived.Test.YtnjdjmfjkjpelaaRnA
import Derived.Test.YtnjdjmfjkjpelaaKeep
set_option linter.unusedVariables false
namespace Go.Proofs.Ytnjdjmfjkjpelaa
open Go Go.RowKit Go.Shelf
attribute [local go_sem] Oper.semAt_some

/-- A run, with its bounds. -/
abbrev Rn : Type := { r : Nat × Nat // runOk r }
def runV (r : Rn) : Value := .agg #[.int .u64 (r.1.1 : Int), .int .i64 (r.1.2 : Int)]
def rnsOf (ys : List Rn) : List (Nat × Nat) := ys.map Subtype.val
theorem rnsOf_push (ys : List Rn) (x : Rn) : rnsOf (ys ++ [x]) = rnsOf ys ++ [x.1] := by simp [rnsOf]

/-- A variable that holds a run. -/
def IsRun (w : World) (k : Nat) : Prop := ∃ (x n : Int) (fz : Nat × Nat), w.heap[k]? = some (.cells #[.int .u64 x, .int .i64 n] 31 fz)
/-- The blocks K and the variables that hold a run are as they were. -/
def KeepRun (K : Nat → Prop) (A B : World) : Prop := KeepAt K A B ∧ ∀ k, IsRun A k → B.heap[k]? = A.heap[k]?
theorem IsRun.keep {A B : World} {k : Nat} (h : IsRun A k) (e : B.heap[k]? = A.heap[k]?) : IsRun B k := by
  obtain ⟨x, n, fz, h⟩ := h
  exact ⟨x, n, fz, e.trans h⟩
theorem keepRun_t {K : Nat → Prop} {A B C : World} (h : KeepRun K A B) (k : KeepRun K B C) : KeepRun K A C :=
  ⟨keepAt_t h.1 k.1, fun j hj => (k.2 j (hj.keep (h.2 j hj))).trans (h.2 j hj)⟩
theorem keepRun_b {K : Nat → Prop} {w : World} (hK : ∀ k, K k → k < w.heap.size) (W : World) (l : Nat) (o o' : Obj) (hl : w.heap.size ≤ l) (h : W.heap[l]? = some o) (ho : o.isCells = false) (hw : o.isWalk = false) : KeepRun K W (W.putObj l o') :=
  ⟨keepAt_b hK W l o o' hl h ho hw, fun k ⟨x, n, fz, hk⟩ => (grownBy_putObj' W l o').block k (Array.getElem?_eq_some_iff.1 hk).1 (fun e => by cases e; rw [hk] at h; cases h; cases ho)⟩
theorem keepRun_mods {K S : Nat → Prop} {w W W' : World} (hm : Mods S W W') (hs : w.heap.size ≤ W.heap.size) (hK : ∀ k, K k → k < w.heap.size) (hKS : ∀ k, K k → ¬ S k) (hR : ∀ k, S k → ¬ IsRun W k) : KeepRun K W W' :=
  ⟨fun k hk => hm.block k (by have := hK k hk; omega) (hKS k hk), fun k hk => hm.block k (by obtain ⟨_, _, _, e⟩ := hk; exact (Array.getElem?_eq_some_iff.1 e).1) (fun e => hR k e hk)⟩

theorem new_runs (p : Option Addr) (m c : Nat) (w : World) (n : Nat) :
    CallsIn Fence.wide n Try.prog 33 #[.slice p m c] w fun e w' => e = .returned (.func (.func 43) #[] #[.pointer (some ⟨w.heap.size, 0, none⟩)]) ∧ w' = w.alloc (.cells #[.slice p m c] 22) := by
  refine callsIn_wide.2 ?_
  go_enter Try.func33, Try.ntmps33
  go_wp2_with fail
  go_ret
  exact ⟨rfl, rfl⟩

set_option maxRecDepth 100000 in
set_option maxHeartbeats 1000000 in
theorem runs_gives (n : Nat) (hn : 1 ≤ n) (b : Nat) (lv : Value) (l : List Nat) (w : World) (hc : w.cell? ⟨b, 0, none⟩ = some lv) (hl : Rd w 1 lv l.length (u64s l)) (hok : ∀ t ∈ l, t < 18446744073709551616) :
    SeqStopsK Fence.wide n Try.prog 43 #[.pointer (some ⟨b, 0, none⟩)] (fun r : Rn => #[runV r]) (KeepRun (fun k => k = b ∨ (l ≠ [] ∧ lv.ownBlock = some k))) (fun ys => rnsOf ys = splitR l) (fun _ => True) (splitR l).length w := by
  intro r J Jx W hW hJ hJx hY h0
  have hb : b < w.heap.size := World.block_lt_of_cell? w _ hc
  have HKs0 : Hid (∀ k, (k = b ∨ (l ≠ [] ∧ lv.ownBlock = some k)) → k < w.heap.size) := fun k hk => by
    rcases hk with e | ⟨h1, e⟩
    · omega
    · exact hl.lt (fun e => h1 (by simpa [u64s] using e)) k e
  have HK0 : Hid (KeepAt (fun k => k = b ∨ (l ≠ [] ∧ lv.ownBlock = some k)) w W) := fun k hk => hW.block k (HKs0.out k hk)
  have HC := Lib.hid hc; have HL := Lib.hid hl; have HOk := Lib.hid hok
  have HJ := Lib.hid hJ
  have HY := Lib.hid hY
  have hmax : (l.length : Int) ≤ 9223372036854775807 := by have := hl.le; unfold maxLen at this; omega
  clear hc hJ hY hok
  obtain ⟨p, c, hv⟩ := hl.shape
  subst hv
  clear hl
  obtain ⟨K, hK⟩ : ∃ K : Nat → Prop, (fun k => k = b ∨ (l ≠ [] ∧ (Value.slice p l.length c).ownBlock = some k)) = K := ⟨_, rfl⟩
  have HKb : Hid (K b) := by rw [← hK]; exact Or.inl rfl
  have HKv : Hid (l ≠ [] → ∀ k, (Value.slice p l.length c).ownBlock = some k → K k) := by rw [← hK]; exact fun h k hk => Or.inr ⟨h, hk⟩
  have HKs : Hid (∀ k, K k → k < w.heap.size) := by rw [← hK]; exact HKs0.out
  rw [hK] at HK0 HY
  clear hK HKs0
  refine callsIn_of_wp Try.func43 rfl trivial ?_ rfl
  simp only [Try.ntmps43, List.size_toArray, List.length_cons, List.length_nil, Nat.reduceAdd, Nat.reduceSub, Array.replicate_succ, Array.replicate_zero, List.push_toArray, List.append_toArray, List.nil_append, List.cons_append]
  gi_wp2
  gi_loopw [3] (fun iv wr => ∃ (i : Nat) (pre : List Rn), i ≤ l.length ∧ iv = .int .i64 (i : Int) ∧ Hid (splitR l = rnsOf pre ++ splitR (l.drop i)) ∧ Hid (J pre wr ∧ KeepAt K w wr)) (fun iv _ => l.length - (intOf iv).toNat)
  case atStart => exact ⟨0, [], Nat.zero_le _, rfl, rfl, h0, HK0.out⟩
  case round =>
    obtain ⟨i, pre, hi, rfl, HP, HI⟩ := hrel
    have cb := (HI.out.2.cell HKb.out 0).trans HC.out
    by_cases h : i < l.length
    · have hlt : (i : Int) < (l.length : Int) := by omega
      have hle : (i : Int) ≤ (l.length : Int) := by omega
      have hne : l ≠ [] := fun e => by rw [e] at h; simp at h
      have HR := Lib.hid (HI.out.2.rd HL.out (HKv.out hne))
      have HDl : Hid ((l.drop i).length = l.length - i) := List.length_drop
      have HDn : Hid (l.drop i ≠ []) := fun e => by have := congrArg List.length e; rw [List.length_drop, List.length_nil] at this; omega
      have HDu : Hid ((u64s l).drop (i * 1) = u64s (l.drop i)) := by show _ = _; rw [Nat.mul_one, u64s, u64s, List.map_drop]
      have hci : ¬ (c = i) := by
        obtain ⟨_, _, e, _, h2, _⟩ := HR.out
        simp only [Value.slice.injEq] at e
        obtain ⟨_, _, rfl⟩ := e
        omega
      have hci2 : i < c := by
        obtain ⟨_, _, e, _, h2, _⟩ := HR.out
        simp only [Value.slice.injEq] at e
        obtain ⟨_, _, rfl⟩ := e
        omega
      clear hne
      have HRd : Hid (Rd wr 1 (.slice (Option.map (fun x : Addr => x.add i) p) (l.length - i) (c - i)) (l.drop i).length (u64s (l.drop i))) := by
        have h := HR.out.from i (by omega)
        rw [HDu.out] at h
        rw [HDl.out]
        show Rd _ _ _ _ _
        unfold sliced at h
        rw [if_neg (by omega)] at h
        simpa using h
      have HFr := Lib.hid (firstRun_any _ _ wr HRd.out HDn.out)
      clear HRd HDn HDu HR
      gi_wp2
      refine ⟨trivial, (callsIn_wide.2 HFr.out).mono ?_⟩
      rintro e w2 ⟨x, k, hH, rfl, hB⟩
      have HSp := Lib.hid (split_head hH)
      have hk1 := hH.one
      have hk3 := hH.most
      have HRo : Hid (runOk (x, k)) := by
        refine ⟨hk1, hk3, HOk.out x ?_⟩
        have : x ∈ (l.drop i).take k := by rw [hH.all]; exact List.mem_replicate.2 ⟨by omega, rfl⟩
        exact List.mem_of_mem_drop (List.mem_of_mem_take this)
      have hk2 : k ≤ l.length - i := by have := hH.le; rw [HDl.out] at this; exact this
      clear hH HFr
      have HI2 : Hid (J pre w2 ∧ KeepAt K w w2) := ⟨HJ.out pre wr _ none HI.out.1 (grown_below hB) (fun r e => by cases e), keepAt_below HI.out.2 HKs.out hB⟩
      have HI3 : Hid (J pre (w2.alloc (.cells #[.int .u64 (x : Int), .int .i64 (k : Int)] 31)) ∧ KeepAt K w (w2.alloc (.cells #[.int .u64 (x : Int), .int .i64 (k : Int)] 31))) := by
        have hB2 : Below w2.heap.size w2 (w2.alloc (.cells #[.int .u64 (x : Int), .int .i64 (k : Int)] 31)) := (Below.refl _ w2).alloc (Nat.le_refl _) _
        have hsz : W.heap.size ≤ w2.heap.size → True := fun _ => trivial
        exact ⟨HJ.out pre w2 _ none HI2.out.1 (grown_below hB2) (fun r e => by cases e), keepAt_below HI2.out.2 HKs.out hB2⟩
      obtain ⟨z, hz⟩ : ∃ z : Rn, z = ⟨(x, k), HRo.out⟩ := ⟨_, rfl⟩
      have HZ : Hid (z.1 = (x, k)) := by rw [hz]; rfl
      have hze : runV z = .agg #[.int .u64 (x : Int), .int .i64 (k : Int)] := by rw [hz]; rfl
      have hex : Hid (splitR l = rnsOf (pre ++ [z]) ++ splitR (l.drop (i + k))) := by
        show _ = _
        rw [rnsOf_push, HZ.out, HP.out, HSp.out, List.drop_drop, List.append_assoc]; rfl
      have hlen : pre.length < (splitR l).length := by
        rw [hex.out, rnsOf_push, List.length_append, List.length_append, List.length_singleton]
        have : (rnsOf pre).length = pre.length := by simp [rnsOf]
        omega
      obtain ⟨fn, tmps, assign, body, hyl, hR⟩ := HY.out pre z _ HI3.out.1 hlen
      rw [hze] at hyl
      have hRH := Lib.hid hR
      have HHx := Lib.hid hex
      clear HI cb hB hci hci2 HI2 hR hex hlen hze hz HP HSp
      gi_wp2
      refine hRH.out.mono ?_
      rintro e W3 (⟨rfl, hJ3, hk3⟩ | ⟨rfl, hJx3⟩)
      · have HI4 := Lib.hid (And.intro hJ3 (keepAt_t HI3.out.2 hk3.1))
        have hcr : W3.cell? ⟨w2.heap.size, 1, none⟩ = some (.int .i64 (k : Int)) := by
          have hb := Blk.new w2 #[.int .u64 (x : Int), .int .i64 (k : Int)] 31
          rw [(hb.of_same (hk3.2 _ ⟨_, _, _, World.alloc_heap_new w2 _⟩)).cell]; rfl
        clear hJ3 hk3
        have hkl : (k : Int) ≤ 128 := by omega
        gi_wp2
        go_roundw
        case rel => exact ⟨i + k, _, by omega, by go_num, HHx.out, HI4.out⟩
        case measure => simp [intOf]; omega
      · gi_wp2
        refine bodyPost_ret (results_none rfl _ _ _) rfl ?_
        exact ⟨⟨_, rfl⟩, .inr ⟨_, trivial, hJx3⟩⟩
    · have hlt : ¬ (i : Int) < (l.length : Int) := by omega
      have HE : Hid (rnsOf pre = splitR l) := by
        show _ = _
        rw [HP.out, List.drop_of_length_le (by omega)]
        simp [splitR, splitFrom]
      clear HP
      gi_wp2
      go_end0
      exact ⟨⟨_, rfl⟩, .inl ⟨_, HE.out, HI.out.1⟩⟩
end Go.Proofs.Ytnjdjmfjkjpelaa
