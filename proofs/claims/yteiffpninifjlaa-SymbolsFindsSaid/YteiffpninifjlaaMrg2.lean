/- StrRow, Open, Own1, StrGot, Groups, GroupsB, in one text. -/
import Derived.Test.YteiffpninifjlaaMrg1
import Derived.ProofKit
import Derived.OpenShut
import Derived.Deep.Slices
import Derived.SizedLaws
import Derived.Laws.BitsLemmas
import Derived.Laws.Bits64
import Derived.Laws.Bits64b

section
/- Lists of strings as rows. -/
set_option linter.unusedVariables false
namespace Go.Proofs.Yteiffpninifjlaa
open Go Go.RowKit

theorem strs_one (l : List ByteArray) : ∀ u ∈ strs l, u.oneCell' = true := by
  intro u hu
  simp only [strs, List.mem_map] at hu
  obtain ⟨n, _, rfl⟩ := hu
  rfl
theorem Try.infoStr : (Try.prog.info? 9).map (fun i => (i.zero, i.size, i.bytes)) = some (some (.string ⟨#[]⟩), 1, 16) := by kernel_rfl
theorem Try.elemStr : Elem Try.prog 22 9 1 16 := Elem.mk' Try.underlying22 Try.infoStr rfl (by decide)
end Go.Proofs.Yteiffpninifjlaa

end

section
/- Arguments that came in, opened: what the cells of a value of a flat type (numbers, bools, strings, and structs and arrays of these) hold; slices of these. No program in sight. -/
namespace Go.Proofs.Yteiffpninifjlaa
open Go Go.RowKit Go.ChangeShapes

/-- Every reading at type e is of the cells 'f a' for an 'a' that is 'ok'. -/
def Flat (P : Program) (e : TypeId) (sz : Nat) {α : Type} (f : α → List Value) (ok : α → Prop) : Prop :=
  P.cellsOf e = sz ∧ ∀ (H : Type) (enc : TypeId × Value → H) (w : World) (base : Nat) (spare : Nat → Bool) (held : Bool) (fuel : Nat) (cs : List Value) (x : DataW H × List MemPlace),
    DataW.trod enc P w base spare held fuel e cs = some x → ∃ a, ok a ∧ cs = f a

theorem Flat.map {P : Program} {e : TypeId} {sz : Nat} {α β : Type} {f : α → List Value} {ok : α → Prop} (h : Flat P e sz f ok) {g : β → List Value} {ok' : β → Prop} (hm : ∀ a, ok a → ∃ b, ok' b ∧ f a = g b) : Flat P e sz g ok' :=
  ⟨h.1, fun H enc w base spare held fuel cs x hx => by
    obtain ⟨a, ha, rfl⟩ := h.2 H enc w base spare held fuel cs x hx
    exact hm a ha⟩
theorem flat_int {P : Program} {e : TypeId} {k : IntKind} (he : P.underlying e = some (.int k)) (hc : P.cellsOf e = 1) : Flat P e 1 (fun z : Int => [Value.int k z]) (fun z => (Lit.int k z).wf = true) :=
  ⟨hc, fun H enc w base spare held fuel cs x hx => by
    obtain ⟨n, rfl, _, hw⟩ := DataW.trod_int he hx
    exact ⟨n, hw, rfl⟩⟩
theorem flat_bool {P : Program} {e : TypeId} (he : P.underlying e = some .bool) (hc : P.cellsOf e = 1) : Flat P e 1 (fun b : Bool => [Value.bool b]) (fun _ => True) :=
  ⟨hc, fun H enc w base spare held fuel cs x hx => by
    obtain ⟨n, rfl, _⟩ := DataW.trod_bool he hx
    exact ⟨n, trivial, rfl⟩⟩
theorem flat_string {P : Program} {e : TypeId} (he : P.underlying e = some .string) (hc : P.cellsOf e = 1) : Flat P e 1 (fun s : ByteArray => [Value.string s]) (fun s => s.size ≤ maxLen) :=
  ⟨hc, fun H enc w base spare held fuel cs x hx => by
    obtain ⟨s, rfl, _, hs⟩ := DataW.trod_string he hx
    exact ⟨s, hs, rfl⟩⟩
theorem flat_struct2 {P : Program} {e : TypeId} {f0 f1 : Field} {s0 s1 : Nat} {α β : Type} {g0 : α → List Value} {g1 : β → List Value} {k0 : α → Prop} {k1 : β → Prop}
    (he : P.underlying e = some (.struct #[f0, f1])) (hc : P.cellsOf e = s0 + s1) (o0 : f0.offset = 0) (o1 : f1.offset = s0) (h0 : Flat P f0.type s0 g0 k0) (h1 : Flat P f1.type s1 g1 k1) :
    Flat P e (s0 + s1) (fun a : α × β => g0 a.1 ++ g1 a.2) (fun a => k0 a.1 ∧ k1 a.2) :=
  ⟨hc, fun H enc w base spare held fuel cs x hx => by
    obtain ⟨y0, y1, n, _, hl, t0, t1⟩ := trod_struct2 he hx
    rw [o0, h0.1] at t0
    rw [o1, h1.1] at t1
    obtain ⟨a, ha, ea⟩ := h0.2 H enc w base spare held n _ _ t0
    obtain ⟨b, hb, eb⟩ := h1.2 H enc w base spare held n _ _ t1
    refine ⟨(a, b), ⟨ha, hb⟩, ?_⟩
    show cs = g0 a ++ g1 b
    rw [← ea, ← eb]
    simp only [List.drop_zero]
    rw [List.take_of_length_le (l := cs.drop s0) (by rw [List.length_drop, hl, hc]; omega), List.take_append_drop]⟩

theorem cells_get {w : World} {base : Nat} {a : Addr} {n : Nat} {cs : List Value} (h : w.cells? base a n = some cs) : cs.length = n ∧ ∀ (j : Nat) (u : Value), cs[j]? = some u → w.cell? (a.add j) = some u := by
  unfold World.cells? at h
  split at h
  · have key : ∀ (l : List Nat) (cs : List Value), l.mapM (fun i => w.cell? (a.add i)) = some cs → cs.length = l.length ∧ ∀ (j : Nat) (u : Value), cs[j]? = some u → ∃ i, l[j]? = some i ∧ w.cell? (a.add i) = some u := by
      intro l
      induction l with
      | nil => intro cs h; simp at h; subst h; simp
      | cons i l ih =>
        intro cs h
        rw [List.mapM_cons] at h
        simp only [Option.bind_eq_bind, Option.bind_eq_some_iff, Option.pure_def, Option.some.injEq] at h
        obtain ⟨x, hx, ys, hys, rfl⟩ := h
        obtain ⟨h1, h2⟩ := ih ys hys
        refine ⟨by simp [h1], fun j u hu => ?_⟩
        cases j with
        | zero => simp at hu; subst hu; exact ⟨i, rfl, hx⟩
        | succ j => simp at hu; obtain ⟨i', hi', hc⟩ := h2 j u hu; exact ⟨i', by simpa using hi', hc⟩
    obtain ⟨h1, h2⟩ := key _ _ h
    refine ⟨by simpa using h1, fun j u hu => ?_⟩
    obtain ⟨i, hi, hc⟩ := h2 j u hu
    rw [List.getElem?_range (by rcases Nat.lt_or_ge j n with hj | hj; exact hj; simp [List.getElem?_eq_none (show cs.length ≤ j by rw [h1]; simpa using hj)] at hu)] at hi
    simp at hi
    subst hi
    exact hc
  · cases h

theorem flatMap_get {α β : Type} {sz : Nat} (f : α → List β) (l : List α) (hf : ∀ a ∈ l, (f a).length = sz) (i k : Nat) (hk : k < sz) (u : β) (h : (l.flatMap f)[i * sz + k]? = some u) : ∃ a, l[i]? = some a ∧ (f a)[k]? = some u := by
  induction l generalizing i with
  | nil => simp at h
  | cons a l ih =>
    have ha := hf a (by simp)
    rw [List.flatMap_cons] at h
    cases i with
    | zero =>
      rw [Nat.zero_mul, Nat.zero_add, List.getElem?_append_left (by omega)] at h
      exact ⟨a, rfl, h⟩
    | succ i =>
      rw [List.getElem?_append_right (by rw [ha, Nat.add_mul]; omega), ha, show (i + 1) * sz + k - sz = i * sz + k by rw [Nat.add_mul]; omega] at h
      obtain ⟨b, hb, hu⟩ := ih (fun a ha => hf a (by simp [ha])) i h
      exact ⟨b, by simpa using hb, hu⟩
theorem flatMap_len {α β : Type} {sz : Nat} (f : α → List β) (l : List α) (hf : ∀ a ∈ l, (f a).length = sz) : (l.flatMap f).length = l.length * sz := by
  induction l with
  | nil => simp
  | cons a l ih => rw [List.flatMap_cons, List.length_append, hf a (by simp), ih (fun a ha => hf a (by simp [ha])), List.length_cons, Nat.add_mul]; omega

theorem flatMap_one {α β : Type} (f : α → β) (l : List α) : l.flatMap (fun a => [f a]) = l.map f := by
  induction l with
  | nil => rfl
  | cons a l ih => rw [List.flatMap_cons, ih]; rfl
theorem rd_cell {α : Type} {f : α → Value} {w : World} {v : Value} {l : List α} (h : Rd w 1 v l.length (l.flatMap fun a => [f a])) (j : Nat) (hj : j < l.length) :
    ∃ b off c, v = .slice (some ⟨b, off, none⟩) l.length c ∧ w.cell? ⟨b, off + j, none⟩ = some (f l[j]) ∧ b < w.heap.size := by
  have hg : (l.flatMap fun a => [f a])[j]? = some (f l[j]) := by rw [flatMap_one]; simp [hj]
  obtain ⟨b, off, c, hv, _, _, hc⟩ := h.at (fun e => by rw [e] at hg; simp at hg)
  have := hc j _ hg
  exact ⟨b, off, c, hv, this, World.block_lt_of_cell? w _ this⟩

/-- A slice of a flat type that came in. -/
theorem open_flat {P : Program} {t e : TypeId} {sz : Nat} (hsz : 0 < sz) {α : Type} [Inhabited α] {f : α → List Value} {ok : α → Prop} (hF : Flat P e sz f ok) (ht : P.underlying t = some (.slice e))
    {H : Type} {enc : TypeId × Value → H} {w : World} {base : Nat} {spare : Nat → Bool} {held : Bool} {v : Value} {d : DataW H} {ps : List MemPlace} {n c : Nat} {p : Option Addr} (hv : v = .slice p n c)
    (h : DataW.Trod enc P w base spare held t v d ps) :
    ∃ l : List α, (∀ a ∈ l, ok a) ∧ l.length = n ∧ Rd w sz v l.length (l.flatMap f) ∧ ((d = .nil ∧ l.length = 0) ∨ ∃ elems rest, d = .slice elems rest ∧ elems.length = l.length) := by
  subst hv
  obtain ⟨fuel, h⟩ := h
  rcases Deep.open_slice ht h with ⟨hcs, hx⟩ | ⟨a, len, cap, m, n', D, Pl, hcs, _, hl, hm, hmm, hx, hel⟩
  · simp [Value.cells] at hcs
    obtain ⟨rfl, rfl, rfl⟩ := hcs
    simp at hx
    exact ⟨[], by simp, rfl, Rd.nil w sz, Or.inl ⟨hx.1, rfl⟩⟩
  · simp [Value.cells] at hcs
    obtain ⟨rfl, rfl, rfl⟩ := hcs
    have hml : n ≤ m := by rw [hmm]; split <;> omega
    have hch : ∀ i, i < n → ∃ b : α, ok b ∧ (f b).length = sz ∧ ∀ (j : Nat) (u : Value), (f b)[j]? = some u → w.cell? (a.add (i * sz + j)) = some u := by
      intro i hi
      obtain ⟨cs', h1, h2⟩ := hel i (by omega)
      rw [hF.1] at h1
      obtain ⟨b, hb, rfl⟩ := hF.2 H enc w base spare held n' _ _ h2
      obtain ⟨h3, h4⟩ := cells_get h1
      exact ⟨b, hb, h3, fun j u hu => by rw [← Deep.add_add]; exact h4 j u hu⟩
    obtain ⟨g, hg⟩ := Deep.choose_lt hch
    have hlen : ∀ b ∈ (List.range n).map g, (f b).length = sz := by
      intro b hb
      obtain ⟨i, hi, rfl⟩ := List.mem_map.1 hb
      exact (hg i (List.mem_range.1 hi)).2.1
    simp at hx
    refine ⟨(List.range n).map g, ?_, by simp, ⟨some a, c, by simp, ?_, by simpa using hl, hm, (fun e => by cases e), ?_⟩, Or.inr ⟨_, _, hx.1, by simp⟩⟩
    · intro b hb
      obtain ⟨i, hi, rfl⟩ := List.mem_map.1 hb
      exact (hg i (List.mem_range.1 hi)).1
    · rw [flatMap_len f _ hlen]
    · intro ad e j u hu
      cases e
      have hj : j = j / sz * sz + j % sz := by rw [Nat.mul_comm]; exact (Nat.div_add_mod j sz).symm
      rw [hj] at hu
      obtain ⟨b, hb, hu'⟩ := flatMap_get f _ hlen (j / sz) (j % sz) (Nat.mod_lt _ hsz) u hu
      have hlt : j / sz < n := by
        rcases Nat.lt_or_ge (j / sz) n with h | h
        · exact h
        · rw [List.getElem?_eq_none (by simpa using h)] at hb; cases hb
      rw [List.getElem?_map, List.getElem?_range hlt] at hb
      simp at hb
      subst hb
      rw [hj]
      exact (hg (j / sz) hlt).2.2 _ u hu'

/-- A struct or an array by value. -/
theorem open_flat_agg {P : Program} {t : TypeId} {sz : Nat} {α : Type} {f : α → List Value} {ok : α → Prop} (hF : Flat P t sz f ok)
    {H : Type} {enc : TypeId × Value → H} {w : World} {base : Nat} {spare : Nat → Bool} {held : Bool} {v : Value} {d : DataW H} {ps : List MemPlace} {cs : Array Value} (hv : v = .agg cs)
    (h : DataW.Trod enc P w base spare held t v d ps) : ∃ a : α, ok a ∧ v = .agg (f a).toArray := by
  subst hv
  obtain ⟨fuel, h⟩ := h
  obtain ⟨a, ha, e⟩ := hF.2 H enc w base spare held fuel _ _ h
  exact ⟨a, ha, by rw [← e]; simp [Value.cells]⟩
theorem flat_array2 {P : Program} {t e : TypeId} {s : Nat} {α : Type} {g : α → List Value} {k : α → Prop} (he : P.underlying t = some (.array 2 e)) (hc : P.cellsOf t = s + s) (h : Flat P e s g k) :
    Flat P t (s + s) (fun a : α × α => g a.1 ++ g a.2) (fun a => k a.1 ∧ k a.2) :=
  ⟨hc, fun H enc w base spare held fuel cs x hx => by
    obtain ⟨xs, m, _, _, hl, hlen, hf⟩ := DataW.trod_array he hx
    match xs, hlen with
    | [y0, y1], _ =>
      have t0 := hf 0 (by decide)
      have t1 := hf 1 (by decide)
      rw [h.1] at t0 t1
      obtain ⟨a, ha, ea⟩ := h.2 H enc w base spare held m _ _ t0
      obtain ⟨b, hb, eb⟩ := h.2 H enc w base spare held m _ _ t1
      refine ⟨(a, b), ⟨ha, hb⟩, ?_⟩
      show cs = g a ++ g b
      rw [← ea, ← eb]
      simp only [Nat.zero_mul, Nat.one_mul, List.drop_zero]
      rw [List.take_of_length_le (l := cs.drop s) (by rw [List.length_drop, hl, hc]; omega), List.take_append_drop]⟩

theorem nat_u8 {z : Int} (h : (Lit.int .u8 z).wf = true) : ∃ n : Nat, n < 256 ∧ z = n := by have := bounds_u8 h; exact ⟨z.toNat, by omega, by omega⟩
theorem nat_u16 {z : Int} (h : (Lit.int .u16 z).wf = true) : ∃ n : Nat, n < 65536 ∧ z = n := by have := bounds_u16 h; exact ⟨z.toNat, by omega, by omega⟩
theorem nat_u32 {z : Int} (h : (Lit.int .u32 z).wf = true) : ∃ n : Nat, n < 4294967296 ∧ z = n := by have := bounds_u32 h; exact ⟨z.toNat, by omega, by omega⟩
theorem nat_u64 {z : Int} (h : (Lit.int .u64 z).wf = true) : ∃ n : Nat, n < 18446744073709551616 ∧ z = n := by have := bounds_u64 h; exact ⟨z.toNat, by omega, by omega⟩
theorem int_i64 {z : Int} (h : (Lit.int .i64 z).wf = true) : ∃ n : Int, (-9223372036854775808 ≤ n ∧ n < 9223372036854775808) ∧ z = n := by have := bounds_i64 h; exact ⟨z, by omega, rfl⟩
theorem okWide_arr {P : Program} {w : World} {r : Reach} {base n : Nat} {t e : TypeId} {v : Value} (ht : P.underlying t = some (.array n e)) (h : Value.okWide P w r base t v) : ∃ cs, v = .agg cs ∧ cs.size = P.cellsOf t := by
  simp only [Value.okWide, ht] at h
  obtain ⟨cs, h1, h2, _⟩ := h
  exact ⟨cs, h1, h2⟩

/-- How much such an argument may weigh. -/
theorem sized_flat {P : Program} {H : Type} {ts : List TypeId} {ds : List (DataW H)} (hw : (DataW.weightsEach P ts ds).all (· ≤ reachBytes) = true) {j : Nat} {t e : TypeId} {d : DataW H} {bytes m : Nat}
    (ht : ts[j]? = some t) (hd : ds[j]? = some d) (hu : P.underlying t = some (.slice e)) (hb : P.bytesOf e = bytes) (h : (d = .nil ∧ m = 0) ∨ ∃ elems rest, d = .slice elems rest ∧ elems.length = m) : m * bytes ≤ 140737488351232 := by
  rcases h with ⟨_, rfl⟩ | ⟨elems, rest, rfl, rfl⟩
  · omega
  · have := sized_slice hw ht hd hu
    rw [hb] at this
    have h2 : elems.length * bytes ≤ (elems.length + rest.length) * bytes := Nat.mul_le_mul_right _ (by omega)
    have h3 : reachBytes = 140737488351232 := by decide
    omega

/-- The bytes of a slice of bytes. -/
theorem flat_u8 {P : Program} {e : TypeId} (he : P.underlying e = some (.int .u8)) (hc : P.cellsOf e = 1) : Flat P e 1 (fun n : Nat => [Value.int .u8 (n : Int)]) (fun n => n < 256) :=
  (flat_int he hc).map fun z hz => by
    have := bounds_u8 hz
    exact ⟨z.toNat, by omega, by rw [Int.toNat_of_nonneg (by omega)]⟩
theorem flat_u64 {P : Program} {e : TypeId} (he : P.underlying e = some (.int .u64)) (hc : P.cellsOf e = 1) : Flat P e 1 (fun n : Nat => [Value.int .u64 (n : Int)]) (fun n => n < 18446744073709551616) :=
  (flat_int he hc).map fun z hz => by
    have := bounds_u64 hz
    exact ⟨z.toNat, by omega, by rw [Int.toNat_of_nonneg (by omega)]⟩
theorem flat_i64 {P : Program} {e : TypeId} (he : P.underlying e = some (.int .i64)) (hc : P.cellsOf e = 1) : Flat P e 1 (fun z : Int => [Value.int .i64 z]) (fun z => -9223372036854775808 ≤ z ∧ z < 9223372036854775808) :=
  (flat_int he hc).map fun z hz => by
    have := bounds_i64 hz
    exact ⟨z, by omega, rfl⟩
theorem flatMap_u8s (l : List Nat) : l.flatMap (fun n : Nat => [Value.int .u8 (n : Int)]) = u8s l := by
  induction l with
  | nil => rfl
  | cons a l ih => rw [List.flatMap_cons, ih]; simp [u8s]
end Go.Proofs.Yteiffpninifjlaa

end

section
/- A list in a row of the call's own, one cell an element. No program in sight. -/
set_option linter.unusedVariables false
namespace Go.Proofs.Yteiffpninifjlaa
open Go Go.RowKit

structure Own1 (t : TypeId) {α : Type} (f : α → Value) (w wr : World) (d : List α) (v : Value) : Prop where
  row : wr.ownsRow w.heap.size t 1 v d.length (d.map f)
  bel : Below w.heap.size w wr
variable {t : TypeId} {α : Type} {f : α → Value}
theorem Own1.nil (w : World) : Own1 t f w w [] (.slice none 0 0) := ⟨World.ownsRow_nil _ _ _ _, Below.refl _ _⟩
theorem Own1.drewN {w wr : World} {d : List α} {v : Value} (h : Own1 t f w wr d v) (n : Nat) : Own1 t f w (wr.drewN n) d v :=
  ⟨(Mods.drewN (fun _ => False) wr n).owns h.row (fun _ _ e => e), h.bel.trans ((Mods.drewN (fun _ => False) wr n).below h.bel.size (fun _ _ e => e))⟩
theorem Own1.below {w wr w1 : World} {d : List α} {v : Value} (h : Own1 t f w wr d v) (hb : Below wr.heap.size wr w1) : Own1 t f w w1 d v :=
  ⟨(Mods.of_below hb (fun _ => False)).owns h.row (fun _ _ e => e), h.bel.trans (hb.mono h.bel.size)⟩
theorem Own1.pushed {w wr w1 : World} {d : List α} {v v1 : Value} {x : α} (h : Own1 t f w wr d v) (k : w1.ownsRow 0 t 1 v1 (d.length + 1) (d.map f ++ [f x])) (m : Mods (fun k => v.ownBlock = some k) wr w1) (hf : Fresh wr.heap.size v v1) : Own1 t f w w1 (d ++ [x]) v1 := by
  refine ⟨?_, h.bel.trans (m.below h.bel.size (fun k hk e => by have := (h.row.lt k e).1; omega))⟩
  rw [List.length_append, List.map_append]
  refine owns_rebase k (fun k hk => ?_)
  rcases hf k hk with e | e
  · exact (h.row.lt k e).1
  · have := h.bel.size; omega
theorem Own1.extended {w wr w1 : World} {d e : List α} {v v1 : Value} (h : Own1 t f w wr d v) (k : w1.ownsRow 0 t 1 v1 (d.length + e.length) (d.map f ++ e.map f)) (m : Mods (fun k => v.ownBlock = some k) wr w1) (hf : Fresh wr.heap.size v v1) : Own1 t f w w1 (d ++ e) v1 := by
  refine ⟨?_, h.bel.trans (m.below h.bel.size (fun k hk e => by have := (h.row.lt k e).1; omega))⟩
  rw [List.length_append, List.map_append]
  refine owns_rebase k (fun k hk => ?_)
  rcases hf k hk with e | e
  · exact (h.row.lt k e).1
  · have := h.bel.size; omega
theorem Own1.shape {w wr : World} {d : List α} {v : Value} (h : Own1 t f w wr d v) : ∃ p c, v = .slice p d.length c := (Rd.of_owns h.row).shape
theorem Own1.rd {w wr : World} {d : List α} {v : Value} (h : Own1 t f w wr d v) : Rd wr 1 v d.length (d.map f) := Rd.of_owns h.row
theorem Own1.base0 {w wr : World} {d : List α} {v : Value} (h : Own1 t f w wr d v) : wr.ownsRow 0 t 1 v d.length (d.map f) := owns_rebase h.row (fun _ _ => Nat.zero_le _)
theorem Own1.stored {w wr : World} {d e : List α} {g n c i : Nat} {y : α} (h : Own1 t f w wr d (.slice (some ⟨g, 0, none⟩) n c)) (he : d.set i y = e) : Own1 t f w (wr.setCell ⟨g, i, none⟩ (f y)) e (.slice (some ⟨g, 0, none⟩) n c) := by
  subst he
  have hn : n = d.length := by
    obtain ⟨p, c', h'⟩ := (Rd.of_owns h.row).shape
    simp only [Value.slice.injEq] at h'
    exact h'.2.1
  subst hn
  have hm : Mods (fun k => k = g) wr (wr.setCell ⟨g, i, none⟩ (f y)) := Mods.set _ _ _ _ (fun _ => rfl)
  have hg := (h.row.lt g rfl).1
  refine ⟨?_, h.bel.trans (hm.below h.bel.size (fun k hk e => by omega))⟩
  rw [List.length_set, List.map_set]
  exact (h.row.stored i _).1
theorem Own1.cell {w wr : World} {d : List α} {g n c i : Nat} (h : Own1 t f w wr d (.slice (some ⟨g, 0, none⟩) n c)) (hi : i < d.length) : wr.cell? ⟨g, i, none⟩ = some (f d[i]) ∧ wr.frozen? ⟨g, i, none⟩ = false := by
  have hn : n = d.length := by
    obtain ⟨p, c', h'⟩ := (Rd.of_owns h.row).shape
    simp only [Value.slice.injEq] at h'
    exact h'.2.1
  subst hn
  refine ⟨?_, h.row.frozenAt _⟩
  rw [h.row.cellAt i (by omega)]
  simp [hi]
/-- Cell i of a list that is read. -/
theorem rd1_cell {w : World} {b off c n : Nat} {d : List α} (h : Rd w 1 (.slice (some ⟨b, off, none⟩) n c) n (d.map f)) {i : Nat} (hi : i < d.length) : w.cell? ⟨b, off + i, none⟩ = some (f d[i]) := by
  obtain ⟨b2, o2, c2, e, _, _, hc⟩ := h.at (fun e => by have := congrArg List.length e; simp at this; subst this; simp at hi)
  simp only [Value.slice.injEq, Option.some.injEq, Addr.mk.injEq] at e
  obtain ⟨⟨rfl, rfl, _⟩, _, rfl⟩ := e
  exact hc i _ (by simp [hi])

theorem shift_setG (d : List α) (k : Nat) (y z : α) (hk : k ≤ d.length) : (d.take k ++ y :: d.drop k).set k z = d.take k ++ z :: d.drop k := by
  have hl : (d.take k).length = k := by rw [List.length_take]; omega
  rw [List.set_append_right _ _ (by omega), hl, Nat.sub_self, List.set_cons_zero]
theorem shift_eqG (d : List α) (k : Nat) (hk : k < d.length) (z : α) (hz : d[k] = z) : d.take (k + 1) ++ z :: d.drop (k + 1) = d.take k ++ z :: d.drop k := by
  have e : d.drop k = z :: d.drop (k + 1) := by rw [← hz, List.getElem_cons_drop]
  rw [List.take_add_one, List.getElem?_eq_getElem hk, hz, e, List.append_assoc]
  rfl
end Go.Proofs.Yteiffpninifjlaa

end

section
/- A new list of strings, as a result. -/
set_option linter.unusedVariables false
namespace Go.Proofs.Yteiffpninifjlaa
open Go Go.RowKit

abbrev OwnS := Own1 9 Value.string
/-- A new list of strings. -/
structure GotL (w : World) (l : List ByteArray) (r : Value) (w' : World) : Prop where
  rd : Rd w' 1 r l.length (strs l)
  far : ∀ k, r.ownBlock = some k → w.heap.size ≤ k
  bel : Below w.heap.size w w'
theorem Own1.got {w wr : World} {l : List ByteArray} {v : Value} (h : OwnS w wr l v) : GotL w l v wr := ⟨h.rd, fun k hk => (h.row.lt k hk).1, h.bel⟩
end Go.Proofs.Yteiffpninifjlaa

end

section
/- Layer 2: numbers and their groups of seven digits, as lists of numbers. No program in sight. -/
namespace Go.Proofs.Yteiffpninifjlaa

/-- The bytes of the groups of x. -/
def groups (x : Nat) : List Nat := if x < 128 then [x] else (x % 128 + 128) :: groups (x / 128)
termination_by x
decreasing_by omega

theorem groups_small {x : Nat} (h : x < 128) : groups x = [x] := by rw [groups, if_pos h]
theorem groups_big {x : Nat} (h : ¬ x < 128) : groups x = (x % 128 + 128) :: groups (x / 128) := by rw [groups, if_neg h]

theorem groups_ne (x : Nat) : groups x ≠ [] := by
  by_cases h : x < 128
  · rw [groups_small h]; simp
  · rw [groups_big h]; simp
theorem groups_pos (x : Nat) : 0 < (groups x).length := List.length_pos_iff.2 (groups_ne x)
theorem groups_len (k x : Nat) (h : x < 128 ^ (k + 1)) : (groups x).length ≤ k + 1 := by
  induction k generalizing x with
  | zero => rw [groups_small (by simpa using h)]; simp
  | succ k ih =>
    by_cases hx : x < 128
    · rw [groups_small hx]; simp
    · rw [groups_big hx]
      have := ih (x / 128) (by rw [Nat.div_lt_iff_lt_mul (by decide)]; rwa [Nat.pow_succ] at h)
      simp; omega
theorem groups_ten {x : Nat} (h : x < 18446744073709551616) : (groups x).length ≤ 10 := groups_len 9 x (Nat.lt_of_lt_of_le h (by decide))
theorem groups_lt (x : Nat) : ∀ c ∈ groups x, c < 256 := by
  induction x using Nat.strongRecOn with
  | _ x ih =>
    by_cases h : x < 128
    · rw [groups_small h]; intro c hc; simp at hc; omega
    · rw [groups_big h]
      intro c hc
      rcases List.mem_cons.1 hc with rfl | hc
      · omega
      · exact ih (x / 128) (by omega) c hc

/-- What is read from the bytes on, number i of them being next, x read so far: the number, how many bytes, the error. -/
def readFrom : List Nat → Nat → Nat → Nat × Nat × Nat
  | [], _, _ => (0, 0, 3)
  | c :: cs, i, x =>
    if i = 9 ∧ 1 < c then (0, 0, 6)
    else if 128 ≤ c then readFrom cs (i + 1) (x + c % 128 * 2 ^ (7 * i))
    else if c = 0 ∧ 0 < i then (0, 0, 5)
    else (x + c * 2 ^ (7 * i), i + 1, 0)

/-- What is read at an offset: the number, the offset after it, the error. -/
def readAt (b : List Nat) (o : Int) : Nat × Int × Nat :=
  if o < 0 ∨ (b.length : Int) < o then (0, 0, 2)
  else ((readFrom (b.drop o.toNat) 0 0).1, (if (readFrom (b.drop o.toNat) 0 0).2.2 = 0 then o + (readFrom (b.drop o.toNat) 0 0).2.1 else 0), (readFrom (b.drop o.toNat) 0 0).2.2)

theorem readFrom_err {l : List Nat} {i x : Nat} (h : (readFrom l i x).2.2 ≠ 0) : (readFrom l i x).1 = 0 ∧ (readFrom l i x).2.1 = 0 := by
  induction l generalizing i x with
  | nil => simp [readFrom]
  | cons c cs ih =>
    rw [readFrom] at h ⊢
    split
    · exact ⟨rfl, rfl⟩
    · next h1 =>
      rw [if_neg h1] at h
      split
      · next h2 => rw [if_pos h2] at h; exact ih h
      · next h2 =>
        rw [if_neg h2] at h
        split
        · exact ⟨rfl, rfl⟩
        · next h3 => rw [if_neg h3] at h; simp at h

/-- The groups of y are read back, whatever follows. -/
theorem readFrom_groups (y i x : Nat) (rest : List Nat) (hi : i ≤ 9) (hy : y < 2 ^ (64 - 7 * i)) (hp : 0 < i → 0 < y) : readFrom (groups y ++ rest) i x = (x + y * 2 ^ (7 * i), i + (groups y).length, 0) := by
  induction y using Nat.strongRecOn generalizing i x with
  | _ y ih =>
    have h9 : i = 9 → y < 2 := fun e => by subst e; simpa using hy
    by_cases h : y < 128
    · rw [groups_small h]
      show readFrom (y :: rest) i x = _
      rw [readFrom, if_neg (by rintro ⟨e, h1⟩; have := h9 e; omega), if_neg (by omega), if_neg (by rintro ⟨e, h1⟩; have := hp h1; omega)]
      simp
    · rw [groups_big h]
      show readFrom ((y % 128 + 128) :: (groups (y / 128) ++ rest)) i x = _
      have hne : i ≠ 9 := fun e => by have := h9 e; omega
      rw [readFrom, if_neg (by rintro ⟨e, _⟩; exact hne e), if_pos (by omega)]
      have hpow : 2 ^ (64 - 7 * i) = 2 ^ (64 - 7 * (i + 1)) * 128 := by
        rw [show 64 - 7 * i = (64 - 7 * (i + 1)) + 7 from by omega, Nat.pow_add]
      rw [ih (y / 128) (by omega) (i + 1) _ (by omega) (by rw [Nat.div_lt_iff_lt_mul (by decide), ← hpow]; exact hy) (fun _ => by omega)]
      have hm : 2 ^ (7 * (i + 1)) = 128 * 2 ^ (7 * i) := by rw [show 7 * (i + 1) = 7 + 7 * i from by omega, Nat.pow_add]
      have e1 : (y % 128 + 128) % 128 = y % 128 := by omega
      rw [e1, hm]
      have e2 : y / 128 * (128 * 2 ^ (7 * i)) = (y / 128 * 128) * 2 ^ (7 * i) := by rw [Nat.mul_assoc]
      rw [e2, Nat.add_assoc x, ← Nat.add_mul, show y % 128 + y / 128 * 128 = y from by omega]
      simp only [List.length_cons]
      rw [show i + 1 + (groups (y / 128)).length = i + ((groups (y / 128)).length + 1) from by omega]

/-- What is read without an error is the groups of a number. -/
theorem readFrom_ok {l : List Nat} {i x : Nat} (hl : ∀ c ∈ l, c < 256) (hi : i ≤ 9) (h : (readFrom l i x).2.2 = 0) :
    ∃ y, l.take ((readFrom l i x).2.1 - i) = groups y ∧ (readFrom l i x).1 = x + y * 2 ^ (7 * i) ∧ (0 < i → 0 < y) ∧ y < 2 ^ (64 - 7 * i) ∧ i < (readFrom l i x).2.1 ∧ (readFrom l i x).2.1 - i ≤ l.length := by
  induction l generalizing i x with
  | nil => simp [readFrom] at h
  | cons c cs ih =>
    have hc : c < 256 := hl c (by simp)
    rw [readFrom] at h ⊢
    by_cases h1 : i = 9 ∧ 1 < c
    · rw [if_pos h1] at h; simp at h
    · rw [if_neg h1] at h ⊢
      by_cases h2 : 128 ≤ c
      · rw [if_pos h2] at h ⊢
        have hne : i ≠ 9 := fun e => h1 ⟨e, by omega⟩
        obtain ⟨y, hy, hx, hp, hlt, hgt, hle⟩ := ih (fun c h => hl c (by simp [h])) (by omega) h
        have hy0 := hp (by omega)
        have hpow : 2 ^ (64 - 7 * i) = 2 ^ (64 - 7 * (i + 1)) * 128 := by
          rw [show 64 - 7 * i = (64 - 7 * (i + 1)) + 7 from by omega, Nat.pow_add]
        have hm : 2 ^ (7 * (i + 1)) = 128 * 2 ^ (7 * i) := by rw [show 7 * (i + 1) = 7 + 7 * i from by omega, Nat.pow_add]
        refine ⟨c % 128 + y * 128, ?_, ?_, fun _ => by omega, by rw [hpow]; omega, by omega, by simp; omega⟩
        · rw [groups_big (by omega), show (c % 128 + y * 128) % 128 + 128 = c from by omega, show (c % 128 + y * 128) / 128 = y from by omega, ← hy]
          generalize (readFrom cs (i + 1) (x + c % 128 * 2 ^ (7 * i))).2.1 = m at *
          rw [show m - i = (m - (i + 1)) + 1 from by omega, List.take_succ_cons]
        · rw [hx, hm, Nat.add_mul, Nat.add_assoc, Nat.mul_assoc]
      · rw [if_neg h2] at h ⊢
        by_cases h3 : c = 0 ∧ 0 < i
        · rw [if_pos h3] at h; simp at h
        · rw [if_neg h3]
          refine ⟨c, ?_, rfl, fun hi0 => by by_cases e : c = 0
                                            · exact absurd ⟨e, hi0⟩ h3
                                            · omega, ?_, by simp, by simp⟩
          · rw [groups_small (by omega)]
            simp
          · by_cases e : i = 9
            · subst e
              have : ¬ 1 < c := fun h => h1 ⟨rfl, h⟩
              simp; omega
            · have : 2 ^ 8 ≤ 2 ^ (64 - 7 * i) := Nat.pow_le_pow_right (by omega) (by omega)
              omega

/-- The number that is read fits. -/
theorem readFrom_lt {l : List Nat} (hl : ∀ c ∈ l, c < 256) : (readFrom l 0 0).1 < 18446744073709551616 := by
  by_cases h : (readFrom l 0 0).2.2 = 0
  · obtain ⟨y, _, hx, _, hlt, _⟩ := readFrom_ok hl (by omega) h
    rw [hx]; simpa using hlt
  · rw [(readFrom_err h).1]; omega

/-- A proper part of the groups of a number, from the first on, ends early. -/
theorem readFrom_prefix (y i x k : Nat) (hi : i ≤ 9) (hy : y < 2 ^ (64 - 7 * i)) (hk : k < (groups y).length) : readFrom ((groups y).take k) i x = (0, 0, 3) := by
  induction y using Nat.strongRecOn generalizing i x k with
  | _ y ih =>
    cases k with
    | zero => rfl
    | succ k =>
      by_cases h : y < 128
      · rw [groups_small h] at hk; simp at hk
      · have h9 : i ≠ 9 := fun e => by subst e; have : y < 2 := by simpa using hy
                                       omega
        rw [groups_big h] at hk ⊢
        simp only [List.length_cons] at hk
        rw [List.take_succ_cons, readFrom, if_neg (by rintro ⟨e, _⟩; exact h9 e), if_pos (by omega)]
        have hpow : 2 ^ (64 - 7 * i) = 2 ^ (64 - 7 * (i + 1)) * 128 := by
          rw [show 64 - 7 * i = (64 - 7 * (i + 1)) + 7 from by omega, Nat.pow_add]
        exact ih (y / 128) (by omega) (i + 1) _ k (by omega) (by rw [Nat.div_lt_iff_lt_mul (by decide), ← hpow]; exact hy) (by omega)

/-- The number that stands for a signed number. -/
def fold (x : Int) : Nat := if x < 0 then (-2 * x - 1).toNat else (2 * x).toNat
def unfold (x : Nat) : Int := if x % 2 = 1 then -((x / 2 : Nat) : Int) - 1 else ((x / 2 : Nat) : Int)
theorem unfold_fold (x : Int) : unfold (fold x) = x := by
  unfold unfold fold
  split <;> split <;> omega
theorem fold_lt {x : Int} (h : -9223372036854775808 ≤ x ∧ x < 9223372036854775808) : fold x < 18446744073709551616 := by
  unfold fold
  split <;> omega

theorem readAt_in {l : List Nat} {o : Nat} (ho : o ≤ l.length) {a n e : Nat} (h : readFrom (l.drop o) 0 0 = (a, n, e)) : readAt l (o : Int) = (a, (if e = 0 then (o : Int) + n else 0), e) := by
  rw [readAt, if_neg (by omega), Int.toNat_natCast, h]
theorem readAt_groups (before after : List Nat) {y : Nat} (hy : y < 18446744073709551616) : readAt (before ++ groups y ++ after) (before.length : Int) = (y, ((before.length + (groups y).length : Nat) : Int), 0) := by
  have h : readFrom ((before ++ groups y ++ after).drop before.length) 0 0 = (y, (groups y).length, 0) := by
    rw [List.append_assoc, List.drop_left, readFrom_groups y 0 0 after (by omega) (by simpa using hy) (by omega)]
    simp
  rw [readAt_in (by simp) h]
  simp
theorem pow_seven {k : Nat} (hk : k ≤ 8) : 2 ^ (7 * k) ≤ 72057594037927936 := Nat.le_trans (Nat.pow_le_pow_right (by decide) (show 7 * k ≤ 56 by omega)) (by decide)
theorem next_small {y u k : Nat} (hy : y < 2 ^ (7 * k)) : y + u % 128 * 2 ^ (7 * k) < 2 ^ (7 * (k + 1)) := by
  have hm : 2 ^ (7 * (k + 1)) = 128 * 2 ^ (7 * k) := by rw [show 7 * (k + 1) = 7 + 7 * k from by omega, Nat.pow_add]
  have : u % 128 * 2 ^ (7 * k) ≤ 127 * 2 ^ (7 * k) := Nat.mul_le_mul_right _ (by omega)
  rw [hm]; omega
theorem shift_small {u k : Nat} (hk : k ≤ 8) : u % 128 * 2 ^ (7 * k) < 18446744073709551616 := by
  have h1 := pow_seven hk
  have : u % 128 * 2 ^ (7 * k) ≤ 127 * 72057594037927936 := Nat.mul_le_mul (by omega) h1
  omega

/-! ### The operations of a word of 64 bits -/
theorem wrap_u64_nat (n : Nat) (h : n < 18446744073709551616) : IntKind.u64.wrap (n : Int) = (n : Int) := by rw [IntKind.wrap_u64]; omega
/-- The next group is put above the bits read so far. -/
theorem or_shift (y u k : Nat) (hy : y < 2 ^ (7 * k)) (hk : 7 * k ≤ 63) (ht : u % 128 * 2 ^ (7 * k) < 18446744073709551616) :
    bits BinOp.or IntKind.u64 (y : Int) (IntKind.u64.wrap ((u : Int) % 128 * 2 ^ (7 * k))) = ((y + u % 128 * 2 ^ (7 * k) : Nat) : Int) := by
  have e : (u : Int) % 128 * 2 ^ (7 * k) = ((u % 128 * 2 ^ (7 * k) : Nat) : Int) := by simp
  have hy2 : y < 18446744073709551616 := Nat.lt_of_lt_of_le hy (Nat.le_trans (Nat.pow_le_pow_right (by decide) hk) (by decide))
  rw [e, wrap_u64_nat _ ht, bits_or_u64_nat _ _ hy2 ht, Nat.or_comm, ← Nat.shiftLeft_eq, ← Nat.shiftLeft_add_eq_or_of_lt hy, Nat.add_comm]
theorem add_group (y u U : Nat) (hy : y < U) (hU : U ≤ 72057594037927936) : IntKind.u64.wrap ((y : Int) + IntKind.u64.wrap ((u : Int) % 128 * (U : Int))) = ((y + u % 128 * U : Nat) : Int) ∧ y + u % 128 * U < U * 128 := by
  have h1 : u % 128 * U ≤ 127 * U := Nat.mul_le_mul_right _ (by omega)
  have e : (u : Int) % 128 * (U : Int) = ((u % 128 * U : Nat) : Int) := by simp
  have e2 : (y : Int) + ((u % 128 * U : Nat) : Int) = ((y + u % 128 * U : Nat) : Int) := by omega
  rw [e, wrap_u64_nat _ (by omega), e2, wrap_u64_nat _ (by omega)]
  exact ⟨rfl, by omega⟩
theorem or_top (y : Nat) (hy : y < 2 ^ (7 * 9)) : bits BinOp.or IntKind.u64 (y : Int) 9223372036854775808 = ((y + 2 ^ (7 * 9) : Nat) : Int) := by
  have hy2 : y < 18446744073709551616 := Nat.lt_of_lt_of_le hy (by decide)
  have e : (9223372036854775808 : Int) = ((1 <<< (7 * 9) : Nat) : Int) := by decide
  rw [e, bits_or_u64_nat _ _ hy2 (by decide), Nat.or_comm, ← Nat.shiftLeft_add_eq_or_of_lt hy, Nat.add_comm, Nat.shiftLeft_eq, Nat.one_mul]
theorem xor_max (b : Nat) (hb : b < 18446744073709551616) : 18446744073709551615 ^^^ b = 18446744073709551615 - b := by
  apply Nat.eq_of_testBit_eq
  intro i
  have h1 := Nat.testBit_two_pow_sub_succ (n := 64) (x := b) hb i
  have h2 := Nat.testBit_two_pow_sub_one 64 i
  rw [show (2 : Nat) ^ 64 - 1 = 18446744073709551615 from rfl] at h2
  rw [show (2 : Nat) ^ 64 - (b + 1) = 18446744073709551615 - b from by omega] at h1
  rw [Nat.testBit_xor, h1, h2]
  by_cases hi : i < 64
  · simp [hi]
  · have : b.testBit i = false := Nat.testBit_lt_two_pow (Nat.lt_of_lt_of_le hb (Nat.pow_le_pow_right (n := 2) (i := 64) (by decide) (by omega)))
    simp [hi, this]
/-- The complement of twice a negative number, as a word. -/
theorem not_double (x : Int) (h : -9223372036854775808 ≤ x) (hn : x < 0) : bits BinOp.xor IntKind.u64 IntKind.u64.max (IntKind.u64.wrap (IntKind.u64.wrap x * 2)) = (fold x : Int) := by
  have e : IntKind.u64.wrap (IntKind.u64.wrap x * 2) = ((18446744073709551616 + 2 * x).toNat : Int) := by rw [IntKind.wrap_u64, IntKind.wrap_u64]; omega
  have em : IntKind.u64.max = ((18446744073709551615 : Nat) : Int) := rfl
  rw [e, em, bits_xor_u64_nat _ _ (by decide) (by omega), xor_max _ (by omega)]
  unfold fold
  rw [if_pos hn]
  omega
end Go.Proofs.Yteiffpninifjlaa

end

section
/- Layer 2: what is read at an offset within the bytes. No program in sight. -/
namespace Go.Proofs.Yteiffpninifjlaa

theorem readAt_cases {l : List Nat} (hl : ∀ c ∈ l, c < 256) {i : Nat} (hi : i ≤ l.length) :
    (∃ e, e ≠ 0 ∧ readAt l (i : Int) = (0, 0, e)) ∨
    (∃ x n, readAt l (i : Int) = (x, ((i + n : Nat) : Int), 0) ∧ 0 < n ∧ i + n ≤ l.length ∧ (l.take (i + n)).drop i = groups x ∧ x < 18446744073709551616) := by
  obtain ⟨a, n, e, h⟩ : ∃ a n e, readFrom (l.drop i) 0 0 = (a, n, e) := ⟨_, _, _, rfl⟩
  have hd : ∀ c ∈ l.drop i, c < 256 := fun c hc => hl c (List.mem_of_mem_drop hc)
  by_cases he : e = 0
  · subst he
    obtain ⟨y, h1, h2, _, h4, h5, h6⟩ := readFrom_ok hd (Nat.zero_le 9) (show (readFrom (l.drop i) 0 0).2.2 = 0 by rw [h])
    rw [h] at h1 h2 h5 h6
    simp only [Nat.sub_zero, Nat.mul_zero, Nat.pow_zero, Nat.mul_one, Nat.zero_add] at h1 h2 h4 h5 h6
    rw [List.length_drop] at h6
    refine .inr ⟨y, n, ?_, h5, by omega, ?_, by simpa using h4⟩
    · rw [readAt_in hi h, h2]; simp
    · rw [List.drop_take, Nat.add_sub_cancel_left]; exact h1
  · obtain ⟨h1, h2⟩ := readFrom_err (show (readFrom (l.drop i) 0 0).2.2 ≠ 0 by rw [h]; exact he)
    rw [h] at h1 h2
    refine .inl ⟨e, he, ?_⟩
    rw [readAt_in hi h, if_neg he, show a = 0 from h1]
end Go.Proofs.Yteiffpninifjlaa

end
