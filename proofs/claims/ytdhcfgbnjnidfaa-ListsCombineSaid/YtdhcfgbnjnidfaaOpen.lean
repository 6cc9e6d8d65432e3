/- Arguments that came in, opened: what the cells of a value of a flat type (numbers, bools, strings, and structs and arrays of these) hold; slices of these. No program in sight. -/
import Derived.Test.YtdhcfgbnjnidfaaSlice
import Derived.ProofKit
import Derived.OpenShut
import Derived.Deep.Slices
import Derived.SizedLaws
namespace Go.Proofs.Ytdhcfgbnjnidfaa
open Go Go.RowKit Go.ChangeShapes

/-- Every reading at type e is of the cells 'f a' for an 'a' that is 'ok'. -/
def Flat (P : Program) (e : TypeId) (sz : Nat) {α : Type} (f : α → List Value) (ok : α → Prop) : Prop :=
  P.cellsOf e = sz ∧ ∀ (H : Type) (enc : TypeId × Value → H) (w : World) (base : Nat) (spare : Nat → Bool) (held : Bool) (fuel : Nat) (cs : List Value) (x : DataW H × List MemPlace),
    DataW.trod enc P w base spare held fuel e cs = some x → ∃ a, ok a ∧ cs = f a

theorem Flat.map {P : Program} {e : TypeId} {sz : Nat} {α β : Type} {f : α → List Value} {ok : α → Prop} (h : Flat P e sz f ok) {g : β → List Value} {ok' : β → Prop} (hm : ∀ a, ok a → ∃ b, ok' b ∧ f a = g b) : Flat P e sz g ok' :=
  ⟨h.1, fun H enc w base spare held fuel cs x hx => by
    obtain ⟨a, ha, rfl⟩ := h.2 H enc w base spare held fuel cs x hx
    exact hm a ha⟩
theorem flat_int {P : Program} {e : TypeId} {k : IntKind} (he : P.underlying e = some (.int k)) (hc : P.cellsOf e = 1) : Flat P e 1 (fun z : Int => [Value.int k z]) (fun z => (Lit.int k z).wf = true) :=
  ⟨hc, fun H enc w base spare held fuel cs x hx => by
    obtain ⟨n, rfl, _, hw⟩ := DataW.trod_int he hx
    exact ⟨n, hw, rfl⟩⟩
theorem flat_bool {P : Program} {e : TypeId} (he : P.underlying e = some .bool) (hc : P.cellsOf e = 1) : Flat P e 1 (fun b : Bool => [Value.bool b]) (fun _ => True) :=
  ⟨hc, fun H enc w base spare held fuel cs x hx => by
    obtain ⟨n, rfl, _⟩ := DataW.trod_bool he hx
    exact ⟨n, trivial, rfl⟩⟩
theorem flat_string {P : Program} {e : TypeId} (he : P.underlying e = some .string) (hc : P.cellsOf e = 1) : Flat P e 1 (fun s : ByteArray => [Value.string s]) (fun s => s.size ≤ maxLen) :=
  ⟨hc, fun H enc w base spare held fuel cs x hx => by
    obtain ⟨s, rfl, _, hs⟩ := DataW.trod_string he hx
    exact ⟨s, hs, rfl⟩⟩
theorem flat_struct2 {P : Program} {e : TypeId} {f0 f1 : Field} {s0 s1 : Nat} {α β : Type} {g0 : α → List Value} {g1 : β → List Value} {k0 : α → Prop} {k1 : β → Prop}
    (he : P.underlying e = some (.struct #[f0, f1])) (hc : P.cellsOf e = s0 + s1) (o0 : f0.offset = 0) (o1 : f1.offset = s0) (h0 : Flat P f0.type s0 g0 k0) (h1 : Flat P f1.type s1 g1 k1) :
    Flat P e (s0 + s1) (fun a : α × β => g0 a.1 ++ g1 a.2) (fun a => k0 a.1 ∧ k1 a.2) :=
  ⟨hc, fun H enc w base spare held fuel cs x hx => by
    obtain ⟨y0, y1, n, _, hl, t0, t1⟩ := trod_struct2 he hx
    rw [o0, h0.1] at t0
    rw [o1, h1.1] at t1
    obtain ⟨a, ha, ea⟩ := h0.2 H enc w base spare held n _ _ t0
    obtain ⟨b, hb, eb⟩ := h1.2 H enc w base spare held n _ _ t1
    refine ⟨(a, b), ⟨ha, hb⟩, ?_⟩
    show cs = g0 a ++ g1 b
    rw [← ea, ← eb]
    simp only [List.drop_zero]
    rw [List.take_of_length_le (l := cs.drop s0) (by rw [List.length_drop, hl, hc]; omega), List.take_append_drop]⟩

theorem cells_get {w : World} {base : Nat} {a : Addr} {n : Nat} {cs : List Value} (h : w.cells? base a n = some cs) : cs.length = n ∧ ∀ (j : Nat) (u : Value), cs[j]? = some u → w.cell? (a.add j) = some u := by
  unfold World.cells? at h
  split at h
  · have key : ∀ (l : List Nat) (cs : List Value), l.mapM (fun i => w.cell? (a.add i)) = some cs → cs.length = l.length ∧ ∀ (j : Nat) (u : Value), cs[j]? = some u → ∃ i, l[j]? = some i ∧ w.cell? (a.add i) = some u := by
      intro l
      induction l with
      | nil => intro cs h; simp at h; subst h; simp
      | cons i l ih =>
        intro cs h
        rw [List.mapM_cons] at h
        simp only [Option.bind_eq_bind, Option.bind_eq_some_iff, Option.pure_def, Option.some.injEq] at h
        obtain ⟨x, hx, ys, hys, rfl⟩ := h
        obtain ⟨h1, h2⟩ := ih ys hys
        refine ⟨by simp [h1], fun j u hu => ?_⟩
        cases j with
        | zero => simp at hu; subst hu; exact ⟨i, rfl, hx⟩
        | succ j => simp at hu; obtain ⟨i', hi', hc⟩ := h2 j u hu; exact ⟨i', by simpa using hi', hc⟩
    obtain ⟨h1, h2⟩ := key _ _ h
    refine ⟨by simpa using h1, fun j u hu => ?_⟩
    obtain ⟨i, hi, hc⟩ := h2 j u hu
    rw [List.getElem?_range (by rcases Nat.lt_or_ge j n with hj | hj; exact hj; simp [List.getElem?_eq_none (show cs.length ≤ j by rw [h1]; simpa using hj)] at hu)] at hi
    simp at hi
    subst hi
    exact hc
  · cases h

theorem flatMap_get {α β : Type} {sz : Nat} (f : α → List β) (l : List α) (hf : ∀ a ∈ l, (f a).length = sz) (i k : Nat) (hk : k < sz) (u : β) (h : (l.flatMap f)[i * sz + k]? = some u) : ∃ a, l[i]? = some a ∧ (f a)[k]? = some u := by
  induction l generalizing i with
  | nil => simp at h
  | cons a l ih =>
    have ha := hf a (by simp)
    rw [List.flatMap_cons] at h
    cases i with
    | zero =>
      rw [Nat.zero_mul, Nat.zero_add, List.getElem?_append_left (by omega)] at h
      exact ⟨a, rfl, h⟩
    | succ i =>
      rw [List.getElem?_append_right (by rw [ha, Nat.add_mul]; omega), ha, show (i + 1) * sz + k - sz = i * sz + k by rw [Nat.add_mul]; omega] at h
      obtain ⟨b, hb, hu⟩ := ih (fun a ha => hf a (by simp [ha])) i h
      exact ⟨b, by simpa using hb, hu⟩
theorem flatMap_len {α β : Type} {sz : Nat} (f : α → List β) (l : List α) (hf : ∀ a ∈ l, (f a).length = sz) : (l.flatMap f).length = l.length * sz := by
  induction l with
  | nil => simp
  | cons a l ih => rw [List.flatMap_cons, List.length_append, hf a (by simp), ih (fun a ha => hf a (by simp [ha])), List.length_cons, Nat.add_mul]; omega

theorem flatMap_one {α β : Type} (f : α → β) (l : List α) : l.flatMap (fun a => [f a]) = l.map f := by
  induction l with
  | nil => rfl
  | cons a l ih => rw [List.flatMap_cons, ih]; rfl
theorem rd_cell {α : Type} {f : α → Value} {w : World} {v : Value} {l : List α} (h : Rd w 1 v l.length (l.flatMap fun a => [f a])) (j : Nat) (hj : j < l.length) :
    ∃ b off c, v = .slice (some ⟨b, off, none⟩) l.length c ∧ w.cell? ⟨b, off + j, none⟩ = some (f l[j]) ∧ b < w.heap.size := by
  have hg : (l.flatMap fun a => [f a])[j]? = some (f l[j]) := by rw [flatMap_one]; simp [hj]
  obtain ⟨b, off, c, hv, _, _, hc⟩ := h.at (fun e => by rw [e] at hg; simp at hg)
  have := hc j _ hg
  exact ⟨b, off, c, hv, this, World.block_lt_of_cell? w _ this⟩

/-- A slice of a flat type that came in. -/
theorem open_flat {P : Program} {t e : TypeId} {sz : Nat} (hsz : 0 < sz) {α : Type} [Inhabited α] {f : α → List Value} {ok : α → Prop} (hF : Flat P e sz f ok) (ht : P.underlying t = some (.slice e))
    {H : Type} {enc : TypeId × Value → H} {w : World} {base : Nat} {spare : Nat → Bool} {held : Bool} {v : Value} {d : DataW H} {ps : List MemPlace} {n c : Nat} {p : Option Addr} (hv : v = .slice p n c)
    (h : DataW.Trod enc P w base spare held t v d ps) :
    ∃ l : List α, (∀ a ∈ l, ok a) ∧ l.length = n ∧ Rd w sz v l.length (l.flatMap f) ∧ ((d = .nil ∧ l.length = 0) ∨ ∃ elems rest, d = .slice elems rest ∧ elems.length = l.length) := by
  subst hv
  obtain ⟨fuel, h⟩ := h
  rcases Deep.open_slice ht h with ⟨hcs, hx⟩ | ⟨a, len, cap, m, n', D, Pl, hcs, _, hl, hm, hmm, hx, hel⟩
  · simp [Value.cells] at hcs
    obtain ⟨rfl, rfl, rfl⟩ := hcs
    simp at hx
    exact ⟨[], by simp, rfl, Rd.nil w sz, Or.inl ⟨hx.1, rfl⟩⟩
  · simp [Value.cells] at hcs
    obtain ⟨rfl, rfl, rfl⟩ := hcs
    have hml : n ≤ m := by rw [hmm]; split <;> omega
    have hch : ∀ i, i < n → ∃ b : α, ok b ∧ (f b).length = sz ∧ ∀ (j : Nat) (u : Value), (f b)[j]? = some u → w.cell? (a.add (i * sz + j)) = some u := by
      intro i hi
      obtain ⟨cs', h1, h2⟩ := hel i (by omega)
      rw [hF.1] at h1
      obtain ⟨b, hb, rfl⟩ := hF.2 H enc w base spare held n' _ _ h2
      obtain ⟨h3, h4⟩ := cells_get h1
      exact ⟨b, hb, h3, fun j u hu => by rw [← Deep.add_add]; exact h4 j u hu⟩
    obtain ⟨g, hg⟩ := Deep.choose_lt hch
    have hlen : ∀ b ∈ (List.range n).map g, (f b).length = sz := by
      intro b hb
      obtain ⟨i, hi, rfl⟩ := List.mem_map.1 hb
      exact (hg i (List.mem_range.1 hi)).2.1
    simp at hx
    refine ⟨(List.range n).map g, ?_, by simp, ⟨some a, c, by simp, ?_, by simpa using hl, hm, (fun e => by cases e), ?_⟩, Or.inr ⟨_, _, hx.1, by simp⟩⟩
    · intro b hb
      obtain ⟨i, hi, rfl⟩ := List.mem_map.1 hb
      exact (hg i (List.mem_range.1 hi)).1
    · rw [flatMap_len f _ hlen]
    · intro ad e j u hu
      cases e
      have hj : j = j / sz * sz + j % sz := by rw [Nat.mul_comm]; exact (Nat.div_add_mod j sz).symm
      rw [hj] at hu
      obtain ⟨b, hb, hu'⟩ := flatMap_get f _ hlen (j / sz) (j % sz) (Nat.mod_lt _ hsz) u hu
      have hlt : j / sz < n := by
        rcases Nat.lt_or_ge (j / sz) n with h | h
        · exact h
        · rw [List.getElem?_eq_none (by simpa using h)] at hb; cases hb
      rw [List.getElem?_map, List.getElem?_range hlt] at hb
      simp at hb
      subst hb
      rw [hj]
      exact (hg (j / sz) hlt).2.2 _ u hu'

/-- A struct or an array by value. -/
theorem open_flat_agg {P : Program} {t : TypeId} {sz : Nat} {α : Type} {f : α → List Value} {ok : α → Prop} (hF : Flat P t sz f ok)
    {H : Type} {enc : TypeId × Value → H} {w : World} {base : Nat} {spare : Nat → Bool} {held : Bool} {v : Value} {d : DataW H} {ps : List MemPlace} {cs : Array Value} (hv : v = .agg cs)
    (h : DataW.Trod enc P w base spare held t v d ps) : ∃ a : α, ok a ∧ v = .agg (f a).toArray := by
  subst hv
  obtain ⟨fuel, h⟩ := h
  obtain ⟨a, ha, e⟩ := hF.2 H enc w base spare held fuel _ _ h
  exact ⟨a, ha, by rw [← e]; simp [Value.cells]⟩
theorem flat_array2 {P : Program} {t e : TypeId} {s : Nat} {α : Type} {g : α → List Value} {k : α → Prop} (he : P.underlying t = some (.array 2 e)) (hc : P.cellsOf t = s + s) (h : Flat P e s g k) :
    Flat P t (s + s) (fun a : α × α => g a.1 ++ g a.2) (fun a => k a.1 ∧ k a.2) :=
  ⟨hc, fun H enc w base spare held fuel cs x hx => by
    obtain ⟨xs, m, _, _, hl, hlen, hf⟩ := DataW.trod_array he hx
    match xs, hlen with
    | [y0, y1], _ =>
      have t0 := hf 0 (by decide)
      have t1 := hf 1 (by decide)
      rw [h.1] at t0 t1
      obtain ⟨a, ha, ea⟩ := h.2 H enc w base spare held m _ _ t0
      obtain ⟨b, hb, eb⟩ := h.2 H enc w base spare held m _ _ t1
      refine ⟨(a, b), ⟨ha, hb⟩, ?_⟩
      show cs = g a ++ g b
      rw [← ea, ← eb]
      simp only [Nat.zero_mul, Nat.one_mul, List.drop_zero]
      rw [List.take_of_length_le (l := cs.drop s) (by rw [List.length_drop, hl, hc]; omega), List.take_append_drop]⟩

theorem nat_u8 {z : Int} (h : (Lit.int .u8 z).wf = true) : ∃ n : Nat, n < 256 ∧ z = n := by have := bounds_u8 h; exact ⟨z.toNat, by omega, by omega⟩
theorem nat_u16 {z : Int} (h : (Lit.int .u16 z).wf = true) : ∃ n : Nat, n < 65536 ∧ z = n := by have := bounds_u16 h; exact ⟨z.toNat, by omega, by omega⟩
theorem nat_u32 {z : Int} (h : (Lit.int .u32 z).wf = true) : ∃ n : Nat, n < 4294967296 ∧ z = n := by have := bounds_u32 h; exact ⟨z.toNat, by omega, by omega⟩
theorem nat_u64 {z : Int} (h : (Lit.int .u64 z).wf = true) : ∃ n : Nat, n < 18446744073709551616 ∧ z = n := by have := bounds_u64 h; exact ⟨z.toNat, by omega, by omega⟩
theorem int_i64 {z : Int} (h : (Lit.int .i64 z).wf = true) : ∃ n : Int, (-9223372036854775808 ≤ n ∧ n < 9223372036854775808) ∧ z = n := by have := bounds_i64 h; exact ⟨z, by omega, rfl⟩
theorem okWide_arr {P : Program} {w : World} {r : Reach} {base n : Nat} {t e : TypeId} {v : Value} (ht : P.underlying t = some (.array n e)) (h : Value.okWide P w r base t v) : ∃ cs, v = .agg cs ∧ cs.size = P.cellsOf t := by
  simp only [Value.okWide, ht] at h
  obtain ⟨cs, h1, h2, _⟩ := h
  exact ⟨cs, h1, h2⟩

/-- How much such an argument may weigh. -/
theorem sized_flat {P : Program} {H : Type} {ts : List TypeId} {ds : List (DataW H)} (hw : (DataW.weightsEach P ts ds).all (· ≤ reachBytes) = true) {j : Nat} {t e : TypeId} {d : DataW H} {bytes m : Nat}
    (ht : ts[j]? = some t) (hd : ds[j]? = some d) (hu : P.underlying t = some (.slice e)) (hb : P.bytesOf e = bytes) (h : (d = .nil ∧ m = 0) ∨ ∃ elems rest, d = .slice elems rest ∧ elems.length = m) : m * bytes ≤ 140737488351232 := by
  rcases h with ⟨_, rfl⟩ | ⟨elems, rest, rfl, rfl⟩
  · omega
  · have := sized_slice hw ht hd hu
    rw [hb] at this
    have h2 : elems.length * bytes ≤ (elems.length + rest.length) * bytes := Nat.mul_le_mul_right _ (by omega)
    have h3 : reachBytes = 140737488351232 := by decide
    omega

/-- The bytes of a slice of bytes. -/
theorem flat_u8 {P : Program} {e : TypeId} (he : P.underlying e = some (.int .u8)) (hc : P.cellsOf e = 1) : Flat P e 1 (fun n : Nat => [Value.int .u8 (n : Int)]) (fun n => n < 256) :=
  (flat_int he hc).map fun z hz => by
    have := bounds_u8 hz
    exact ⟨z.toNat, by omega, by rw [Int.toNat_of_nonneg (by omega)]⟩
theorem flat_u64 {P : Program} {e : TypeId} (he : P.underlying e = some (.int .u64)) (hc : P.cellsOf e = 1) : Flat P e 1 (fun n : Nat => [Value.int .u64 (n : Int)]) (fun n => n < 18446744073709551616) :=
  (flat_int he hc).map fun z hz => by
    have := bounds_u64 hz
    exact ⟨z.toNat, by omega, by rw [Int.toNat_of_nonneg (by omega)]⟩
theorem flat_i64 {P : Program} {e : TypeId} (he : P.underlying e = some (.int .i64)) (hc : P.cellsOf e = 1) : Flat P e 1 (fun z : Int => [Value.int .i64 z]) (fun z => -9223372036854775808 ≤ z ∧ z < 9223372036854775808) :=
  (flat_int he hc).map fun z hz => by
    have := bounds_i64 hz
    exact ⟨z, by omega, rfl⟩
theorem flatMap_u8s (l : List Nat) : l.flatMap (fun n : Nat => [Value.int .u8 (n : Int)]) = u8s l := by
  induction l with
  | nil => rfl
  | cons a l ih => rw [List.flatMap_cons, ih]; simp [u8s]
end Go.Proofs.Ytdhcfgbnjnidfaa
