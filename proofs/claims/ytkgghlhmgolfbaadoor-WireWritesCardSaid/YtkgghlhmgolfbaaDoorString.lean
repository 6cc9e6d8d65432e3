/- 'append(b, s...)' of a string; strings and their bytes. No program in sight. -/
import Derived.Test.YtkgghlhmgolfbaaDoorSlice
import Derived.Laws.CopyRow
namespace Go.Proofs.YtkgghlhmgolfbaaDoor
open Go Go.RowKit

/-- The bytes of a string, as numbers. -/
def numsOf (s : ByteArray) : List Nat := s.data.toList.map fun b => b.toNat
theorem numsOf_length (s : ByteArray) : (numsOf s).length = s.size := by rw [numsOf, List.length_map, Array.length_toList]; rfl
theorem numsOf_lt (s : ByteArray) : ∀ c ∈ numsOf s, c < 256 := by
  intro c hc
  simp only [numsOf, List.mem_map] at hc
  obtain ⟨b, _, rfl⟩ := hc
  exact b.toNat_lt
theorem strOf_numsOf (s : ByteArray) : strOf (numsOf s) = s := by
  obtain ⟨⟨l⟩⟩ := s
  unfold strOf strOfNums numsOf
  congr 1
  simp [List.map_map, Function.comp_def]
theorem numsOf_strOf {l : List Nat} (h : ∀ c ∈ l, c < 256) : numsOf (strOf l) = l := by
  unfold strOf strOfNums numsOf
  simp only [List.map_map]
  conv => rhs; rw [← List.map_id l]
  apply List.map_congr_left
  intro x hx
  simp [Nat.mod_eq_of_lt (h x hx)]
theorem u8s_numsOf (s : ByteArray) : u8s (numsOf s) = s.data.toList.map fun b => Value.int .u8 (b.toNat : Int) := by rw [u8s, numsOf, List.map_map]; rfl

section
variable {P : Program} (w : World)
theorem run_firstCells_str (s : ByteArray) (n : Nat) (hn : s.size = n) (size : Nat) : (Builtin.firstCells size n (.string s)).run P w = .ok (u8s (numsOf s)).toArray w := by
  subst hn
  rw [u8s_numsOf]
  have hx : (s.extract 0 s.size).data = s.data := by
    rw [ByteArray.data_extract]
    exact Array.extract_size
  simp only [Builtin.firstCells, hx, Sem.run_pure]
  congr 1
  apply Array.ext'
  simp

/-- An append of a string to an owned row of bytes. -/
theorem run_app_str (t u ty e : TypeId) (i : TypeInfo) (z : Value) (ht : P.underlying t = some (.slice e)) (hu : P.underlying u = some .string) (hi : P.info? e = some i) (hz : i.zero = some z)
    (hsize : i.size = 1) (hby : i.bytes = 1) (hzs : z.cells.size = 1) (v : Value) (n : Nat) (xs : List Value) (hown : w.ownsRow 0 e 1 v n xs) (s : ByteArray) (h63 : n + s.size ≤ maxLen) (hbytes : (n + s.size) * 1 ≤ 140737488355328) :
    ∃ v' w', (Builtin.append_ #[t, u] ty #[v, .string s]).run P w = .ok v' w' ∧ w'.ownsRow 0 e 1 v' (n + s.size) (xs ++ u8s (numsOf s)) ∧ Mods (fun k => v.ownBlock = some k) w w' ∧ Fresh w.heap.size v v' := by
  have hf := fun w : World => run_firstCells_str (P := P) w s s.size rfl 1
  have hl : (u8s (numsOf s)).length = s.size := by rw [u8s_length, numsOf_length]
  have h1 : ∀ u ∈ u8s (numsOf s), u.oneCell' = true := u8s_oneCell _
  have hlen0 : Builtin.lenOf (.string s) = pure s.size := rfl
  generalize u8s (numsOf s) = news at *
  generalize s.size = M at *
  have hlen : (xs ++ news).length = (n + M) * 1 := by rw [List.length_append, hown.1, hl, Nat.add_mul, Nat.mul_one, Nat.mul_one]
  have h63' : ((n + M : Nat) : Int) ≤ 9223372036854775807 := by unfold maxLen at h63; omega
  rcases hown.2 with ⟨rfl, rfl⟩ | ⟨g, cap, cur, rfl, hb, hg, hnc, hcm, hcs, htake⟩
  · obtain rfl : xs = [] := List.eq_nil_of_length_eq_zero (by simpa using hown.1)
    by_cases h0 : M = 0
    · subst h0
      obtain rfl : news = [] := List.eq_nil_of_length_eq_zero hl
      refine ⟨.slice none 0 0, w, ?_, hown, Mods.refl _ _, Fresh.refl _ _⟩
      simp [Builtin.append_, run_underlying ht, run_underlying hu, sizeOf, typeInfo, hi, hsize, hlen0, hf w]
    · have hn : ¬ M = 0 := h0
      have h63'' : ¬ (9223372036854775807 < (M : Int)) := by omega
      have h48 : ¬ (281474976710656 < Builtin.nextslicecap M 0) := by rw [nextslicecap_zero (by omega)]; omega
      have hge := grownCap_ge w M 0 e
      refine ⟨.slice (some ⟨w.heap.size, 0, none⟩) M (grownCap w M 0 e), w.drew.alloc (.cells (news.toArray ++ Builtin.zeroCells z.cells (grownCap w M 0 e - M)) e), ?_, ⟨by simpa using hl, .inr ⟨w.heap.size, _, _, by rw [Nat.zero_add], Nat.zero_le _, heap_alloc_new w.drew _, by rw [Nat.zero_add]; exact hge, grownCap_le_maxLen w M 0 e (by omega), ?_, ?_⟩⟩, ⟨rfl, rfl, rfl, by simp, fun k hk _ => Below.heap_alloc w.drew _ k hk⟩, ?_⟩
      · simp [Builtin.append_, run_underlying ht, run_underlying hu, sizeOf, typeInfo, zeroValue, hi, hz, hsize, hby, hlen0, hn, h63'', h48, Question.forced, hf w.drew, newRow, grownCap, run_firstCells_none]
      · simp only [Array.size_append, List.size_toArray, size_zeroCells, hzs, hl]
        omega
      · simp [← hl]
      · intro k hk
        simp only [Value.ownBlock, Option.some.injEq] at hk
        exact Or.inr (by omega)
  · by_cases hroom : n + M ≤ cap
    · have hfit : 0 + n + news.length ≤ cur.size := by rw [hl, hcs]; omega
      have hst := run_storeCells_at P g n e news 0 cur w hg (by omega) h1
      refine ⟨.slice (some ⟨g, 0, none⟩) (n + M) cap, w.setRow g (cur.toList.take (n + 0) ++ news ++ cur.toList.drop (n + 0 + news.length)).toArray, ?_, ⟨hlen, .inr ⟨g, cap, _, rfl, Nat.zero_le _, setRow_heap w g cur _ e _ hg, hroom, hcm, ?_, ?_⟩⟩, ⟨rfl, rfl, rfl, by simp, fun k _ hk => setRow_other w g k _ (fun e => hk (by simp [Value.ownBlock, e]))⟩, fun k hk => Or.inl hk⟩
      · have ha : (⟨g, 0, none⟩ : Addr).add n = ⟨g, n, none⟩ := by unfold Addr.add; split <;> simp_all
        simp [Builtin.append_, run_underlying ht, run_underlying hu, sizeOf, typeInfo, hi, hsize, hlen0, hroom, hf w, ha, hst]
      · simp only [List.size_toArray, List.length_append, List.length_take, List.length_drop, Array.length_toList, Nat.add_zero]
        omega
      · have hx : cur.toList.take n = xs := by rw [← htake, Nat.mul_one]
        simp only [Nat.add_zero, hx]
        rw [← hlen]
        exact List.take_left
    · have holds : ∀ j u, xs[j]? = some u → w.cell? ((⟨g, 0, none⟩ : Addr).add j) = some u := hown.cells (g := g) rfl
      have hge := grownCap_ge w (n + M) cap e
      have hxl : xs.length = n * 1 := hown.1
      have hfo := run_firstCells_some (P := P) w.drew 1 n ⟨g, 0, none⟩ n cap xs hxl (by simpa using holds)
      have h63'' : ¬ (9223372036854775807 < ((n : Int) + (M : Int))) := by omega
      have h48 : ¬ (281474976710656 < Builtin.nextslicecap (n + M) cap) := by have := growslice_fits (need := n + M) (old := cap) (bytes := 1) (by omega) hbytes; omega
      refine ⟨.slice (some ⟨w.heap.size, 0, none⟩) (n + M) (grownCap w (n + M) cap e), w.drew.alloc (.cells (xs.toArray ++ news.toArray ++ Builtin.zeroCells z.cells (grownCap w (n + M) cap e - (n + M))) e), ?_, ⟨hlen, .inr ⟨w.heap.size, _, _, rfl, Nat.zero_le _, heap_alloc_new w.drew _, hge, grownCap_le_maxLen w (n + M) cap e h63, ?_, ?_⟩⟩, ⟨rfl, rfl, rfl, by simp, fun k hk _ => Below.heap_alloc w.drew _ k hk⟩, ?_⟩
      · simp [Builtin.append_, run_underlying ht, run_underlying hu, sizeOf, typeInfo, zeroValue, hi, hz, hsize, hby, hlen0, hroom, h63'', h48, Question.forced, hf w.drew, hfo, newRow, grownCap]
        congr 2
        apply Array.ext'
        simp [List.append_assoc]
      · simp only [Array.size_append, List.size_toArray, size_zeroCells, hzs, hl, hxl]
        omega
      · simp only [Array.toList_append, List.append_assoc]
        rw [← List.append_assoc, ← hlen]
        exact List.take_left
      · intro k hk
        simp only [Value.ownBlock, Option.some.injEq] at hk
        exact Or.inr (by omega)

/-- 'append(b, s...)' of a string. -/
theorem wpList_extendStr {t u e : TypeId} (hE : Elem P t e 1 1) (hu : P.underlying u = some .string) (w : World) (v : Value) (n : Nat) (xs : List Value) (hown : w.ownsRow 0 e 1 v n xs) (str : ByteArray) (hb : (n + str.size) * 1 ≤ 140737488355328 ∧ n + str.size ≤ maxLen)
    {ops : Array Oper} {rest : List Oper} {o : Oper} {a : Act} {Q : Exit → Act → World → Prop} (hgd : Region.wanted o (yielded ops a.tmps) = true) (s x : Operand) (ho : o.op = .call { callee := .builtin .append, args := #[s, x], argTypes := #[t, u] })
    (hs : a.eval s = v) (hx : a.eval x = .string str)
    (h : ∀ v' w', w'.ownsRow 0 e 1 v' (n + str.size) (xs ++ u8s (numsOf str)) → Mods (fun k => v.ownBlock = some k) w w' → Fresh w.heap.size v v' → wpList P ops Q rest (a.put o.dst v') w') : wpList P ops Q (o :: rest) a w := by
  obtain ⟨i, z, hi, hz, hsize, hby, hzs⟩ := hE.hi
  refine BigFrame.wpList_want hgd fun K hK => ?_
  obtain ⟨v', w', hr, h2, h3, h4⟩ := run_app_str (P := P) w t u o.type e i z hE.ht hu hi hz hsize hby hzs v n xs hown str hb.2 hb.1
  unfold Oper.wp execOp
  simp only [ho, resolve, invoke, builtin, Sem.run_bind, Sem.run_pure, Result.andThen_ok, List.map_toArray, List.map_cons, List.map_nil, hs, hx, hr]
  exact hK _ _ (h v' w' h2 h3 h4)
end
end Go.Proofs.YtkgghlhmgolfbaaDoor
