/- Heap, Slice, I64s, String, Sorted, Strs, First, in one text. -/
import Derived.WalkKit
import Derived.BigFrame
import Derived.OneCell
import Derived.Laws.OwnMore
import Derived.Deep.Draws
import Derived.Laws.BytesArg
import Derived.Laws.Strings
import Derived.Lib.Bytes
import Derived.Deep.Quiet
import Derived.Laws.CopyRow

section
/- Blocks of cells, what a step may change, and an append whose result is known to be new memory or the old row. No program in sight. -/
namespace Go.Proofs.Ytpjfhakmffcolaa
open Go Go.RowKit

theorem ret_int {k : IntKind} {a b : Int} (h : a = b) : Ending.returned (.int k a) = .returned (.int k b) := by rw [h]
theorem ret_bool {a b : Bool} (h : a = b) : Ending.returned (.bool a) = .returned (.bool b) := by rw [h]

/-- Block b holds the cells cs; none of them is frozen. -/
def Blk (w : World) (b : Nat) (cs : List Value) : Prop := ∃ t, w.heap[b]? = some (.cells cs.toArray t (0, 0))

theorem Blk.lt {w : World} {b : Nat} {cs : List Value} (h : Blk w b cs) : b < w.heap.size := by obtain ⟨t, h⟩ := h; exact lt_of_block h
theorem Blk.cell {w : World} {b : Nat} {cs : List Value} (h : Blk w b cs) (i : Nat) : w.cell? ⟨b, i, none⟩ = cs[i]? := by
  obtain ⟨t, h⟩ := h; rw [cell_of_row w b i _ t (0, 0) h]; simp
theorem Blk.free {w : World} {b : Nat} {cs : List Value} (h : Blk w b cs) (i : Nat) : w.frozen? ⟨b, i, none⟩ = false := by obtain ⟨t, h⟩ := h; exact frozen_of_row w b i _ t h
theorem Blk.set {w : World} {b : Nat} {cs : List Value} (h : Blk w b cs) (i : Nat) (u : Value) : Blk (w.setCell ⟨b, i, none⟩ u) b (cs.set i u) := by
  obtain ⟨t, h⟩ := h; exact ⟨t, by rw [heap_setCell_same w b i _ t u h]; simp⟩
theorem Blk.of_same {w w' : World} {b : Nat} {cs : List Value} (h : Blk w b cs) (e : w'.heap[b]? = w.heap[b]?) : Blk w' b cs := by obtain ⟨t, h⟩ := h; exact ⟨t, e.trans h⟩
theorem Blk.set_other {w : World} {b : Nat} {cs : List Value} (h : Blk w b cs) {a : Addr} (ha : b ≠ a.block) (u : Value) : Blk (w.setCell a u) b cs := h.of_same (heap_setCell_other w a b u ha)
theorem Blk.alloc {w : World} {b : Nat} {cs : List Value} (h : Blk w b cs) (o : Obj) : Blk (w.alloc o) b cs := h.of_same (Below.heap_alloc w o b h.lt)
theorem Blk.drew {w : World} {b : Nat} {cs : List Value} (h : Blk w b cs) : Blk w.drew b cs := h
theorem Blk.new (w : World) (cs : Array Value) (t : TypeId) : Blk (w.alloc (.cells cs t)) w.heap.size cs.toList := ⟨t, by simpa using heap_alloc_new w (.cells cs t)⟩
theorem Blk.det {w : World} {b : Nat} {cs ds : List Value} (h : Blk w b cs) (k : Blk w b ds) : cs = ds := by
  obtain ⟨t, h⟩ := h; obtain ⟨u, k⟩ := k
  rw [h] at k; simp at k; exact k.1

/-- w' is w, but for the blocks of S and for new blocks. -/
structure Mods (S : Nat → Prop) (w w' : World) : Prop where
  os : w'.os = w.os
  tape : w'.tape = w.tape
  output : w'.output = w.output
  size : w.heap.size ≤ w'.heap.size
  block : ∀ k, k < w.heap.size → ¬ S k → w'.heap[k]? = w.heap[k]?

theorem Mods.refl (S : Nat → Prop) (w : World) : Mods S w w := ⟨rfl, rfl, rfl, Nat.le_refl _, fun _ _ _ => rfl⟩
theorem Mods.trans {S T : Nat → Prop} {a b c : World} (h : Mods S a b) (k : Mods T b c) (ht : ∀ j, j < a.heap.size → T j → S j) : Mods S a c :=
  ⟨k.os.trans h.os, k.tape.trans h.tape, k.output.trans h.output, Nat.le_trans h.size k.size,
    fun j hj hs => (k.block j (Nat.lt_of_lt_of_le hj h.size) (fun e => hs (ht j hj e))).trans (h.block j hj hs)⟩
theorem Mods.mono {S T : Nat → Prop} {a b : World} (h : Mods S a b) (hs : ∀ j, j < a.heap.size → S j → T j) : Mods T a b :=
  ⟨h.os, h.tape, h.output, h.size, fun j hj ht => h.block j hj (fun e => ht (hs j hj e))⟩
theorem Mods.alloc (S : Nat → Prop) (w : World) (o : Obj) : Mods S w (w.alloc o) := ⟨rfl, rfl, rfl, by simp, fun k hk _ => Below.heap_alloc w o k hk⟩
theorem Mods.drew (S : Nat → Prop) (w : World) : Mods S w w.drew := ⟨rfl, rfl, rfl, Nat.le_refl _, fun _ _ _ => rfl⟩
theorem Mods.drewN (S : Nat → Prop) (w : World) (n : Nat) : Mods S w (w.drewN n) := ⟨rfl, rfl, rfl, Nat.le_refl _, fun _ _ _ => rfl⟩
theorem Mods.set (S : Nat → Prop) (w : World) (a : Addr) (u : Value) (h : a.block < w.heap.size → S a.block) : Mods S w (w.setCell a u) :=
  ⟨rfl, rfl, rfl, by simp, fun k hk hs => heap_setCell_other w a k u (fun e => hs (e ▸ h (e ▸ hk)))⟩
theorem Mods.blk {S : Nat → Prop} {w w' : World} {b : Nat} {cs : List Value} (h : Mods S w w') (hb : Blk w b cs) (hs : ¬ S b) : Blk w' b cs := hb.of_same (h.block b hb.lt hs)
theorem Mods.below {S : Nat → Prop} {w w' : World} {B : Nat} (h : Mods S w w') (hB : B ≤ w.heap.size) (hs : ∀ k, k < B → ¬ S k) : Below B w w' := ⟨h.os, h.tape, h.output, h.size, fun k hk => h.block k (by omega) (hs k hk)⟩
theorem Mods.of_below {w w' : World} (h : Below w.heap.size w w') (S : Nat → Prop) : Mods S w w' := ⟨h.os, h.tape, h.output, h.size, fun k hk _ => h.block k hk⟩
theorem Mods.of_grown {w w' : World} {row : Option Nat} (h : w.grownBy w' row) : Mods (fun k => row = some k) w w' := ⟨h.os, h.tape, h.output, h.size, fun k hk hs => h.block k hk (fun e => hs e.symm)⟩
theorem Mods.cell {S : Nat → Prop} {w w' : World} (h : Mods S w w') {a : Addr} {u : Value} (hc : w.cell? a = some u) (hs : ¬ S a.block) : w'.cell? a = some u :=
  (World.cell?_of_block (h.block a.block (World.block_lt_of_cell? w a hc) hs)).trans hc
theorem Mods.owns {S : Nat → Prop} {w w' : World} (h : Mods S w w') {base : Nat} {e : TypeId} {size : Nat} {v : Value} {n : Nat} {xs : List Value} (ho : w.ownsRow base e size v n xs) (hs : ∀ k, v.ownBlock = some k → ¬ S k) : w'.ownsRow base e size v n xs := by
  refine ⟨ho.1, ?_⟩
  rcases ho.2 with hn | ⟨g, cap, cur, rfl, hb, hg, r⟩
  · exact Or.inl hn
  · exact Or.inr ⟨g, cap, cur, rfl, hb, by rw [h.block g (Array.getElem?_eq_some_iff.1 hg).1 (hs g rfl)]; exact hg, r⟩

/-- What an owned row is. -/
theorem owns_cases {w : World} {base : Nat} {e : TypeId} {size : Nat} {v : Value} {n : Nat} {xs : List Value} (h : w.ownsRow base e size v n xs) :
    (v = .slice none 0 0 ∧ n = 0 ∧ xs = []) ∨ ∃ g cap, v = .slice (some ⟨g, 0, none⟩) n cap ∧ g < w.heap.size ∧ n ≤ cap ∧ cap ≤ maxLen := by
  rcases h.2 with ⟨rfl, rfl⟩ | ⟨g, cap, cur, rfl, hb, hg, hn, hm, _⟩
  · exact Or.inl ⟨rfl, rfl, List.eq_nil_of_length_eq_zero (by simpa using h.1)⟩
  · exact Or.inr ⟨g, cap, rfl, lt_of_block hg, hn, hm⟩
theorem owns_lt {w : World} {base : Nat} {e : TypeId} {size : Nat} {v : Value} {n : Nat} {xs : List Value} (h : w.ownsRow base e size v n xs) : ∀ k, v.ownBlock = some k → k < w.heap.size :=
  fun k hk => (h.lt k hk).2
theorem owns_rebase {w : World} {base base' : Nat} {e : TypeId} {size : Nat} {v : Value} {n : Nat} {xs : List Value} (h : w.ownsRow base e size v n xs) (hb : ∀ k, v.ownBlock = some k → base' ≤ k) : w.ownsRow base' e size v n xs := by
  refine ⟨h.1, ?_⟩
  rcases h.2 with hn | ⟨g, cap, cur, rfl, _, r⟩
  · exact Or.inl hn
  · exact Or.inr ⟨g, cap, cur, rfl, hb g rfl, r⟩

/-- The blocks of v' are those of v, or new in a world that was of size B. -/
def Fresh (B : Nat) (v v' : Value) : Prop := ∀ k, v'.ownBlock = some k → v.ownBlock = some k ∨ B ≤ k
theorem Fresh.refl (B : Nat) (v : Value) : Fresh B v v := fun _ h => Or.inl h
theorem Fresh.trans {B C : Nat} {u v x : Value} (h : Fresh B u v) (k : Fresh C v x) (hBC : B ≤ C) : Fresh B u x := fun j hj => by
  rcases k j hj with h1 | h1
  · exact h j h1
  · exact Or.inr (by omega)

section
variable {P : Program} (w : World)
/-- An append to an owned row: where the result lies is known. -/
theorem run_app (t ty e : TypeId) (i : TypeInfo) (z : Value) (size bytes : Nat) (ht : P.underlying t = some (.slice e)) (hi : P.info? e = some i) (hz : i.zero = some z)
    (hsize : i.size = size) (hby : i.bytes = bytes) (hzs : z.cells.size = size) (hsz : 0 < size)
    (v : Value) (n : Nat) (xs : List Value) (hown : w.ownsRow 0 e size v n xs)
    (a : Addr) (m c : Nat) (news : List Value) (hl : news.length = m * size) (hnews : ∀ j u, news[j]? = some u → w.cell? (a.add j) = some u) (h1 : ∀ u ∈ news, u.oneCell' = true)
    (h63 : n + m ≤ maxLen) (hbytes : (n + m) * bytes ≤ 140737488355328) :
    ∃ v' w', (Builtin.append_ #[t, t] ty #[v, .slice (some a) m c]).run P w = .ok v' w' ∧ w'.ownsRow 0 e size v' (n + m) (xs ++ news) ∧ Mods (fun k => v.ownBlock = some k) w w' ∧ Fresh w.heap.size v v' := by
  have hsmall : n + m ≤ 9223372036854775807 := by simp only [maxLen] at h63; omega
  rcases owns_cases hown with ⟨rfl, rfl, rfl⟩ | ⟨g, cap, rfl, hg, hnc, hcm⟩
  · obtain ⟨v', w', hr, h2, h3, _⟩ := run_append_own (P := P) w w.heap.size t ty e i z size bytes ht hi hz hsize hby hzs hsz _ 0 [] (World.ownsRow_nil _ _ _ _) a m c news hl hnews h1 h63 hbytes (Nat.le_refl _)
    exact ⟨v', w', hr, owns_rebase h2 (fun _ _ => Nat.zero_le _), Mods.of_grown h3, fun k hk => Or.inr (h2.lt k hk).1⟩
  · by_cases hroom : n + m ≤ cap
    · obtain ⟨w', hr, h2, h3⟩ := run_append_fits (P := P) w 0 t ty e i size ht hi hsize g n cap xs hown a m c news hl hnews h1 hroom
      exact ⟨_, w', hr, h2, Mods.of_grown h3, fun k hk => Or.inl hk⟩
    · subst hsize
      subst hby
      have holds : ∀ j u, xs[j]? = some u → w.cell? ((⟨g, 0, none⟩ : Addr).add j) = some u := hown.cells (g := g) rfl
      have hr := run_append_grow (P := P) w t ty e i z ht hi hz ⟨g, 0, none⟩ n cap xs hown.1 holds a m c news hl hnews (by omega) (by omega) (growslice_fits (by omega) hbytes)
      have hge := grownCap_ge w (n + m) cap e
      have hlen : (xs ++ news).length = (n + m) * i.size := by rw [List.length_append, hown.1, hl, Nat.add_mul]
      refine ⟨_, _, hr, ⟨hlen, .inr ⟨w.heap.size, _, _, rfl, Nat.zero_le _, heap_alloc_new w.drew _, hge, grownCap_le_maxLen w (n + m) cap e h63, ?_, ?_⟩⟩, ⟨rfl, rfl, rfl, by simp, fun k hk _ => Below.heap_alloc w.drew _ k hk⟩, ?_⟩
      · simp only [Array.size_append, List.size_toArray, size_zeroCells, hzs, hown.1, hl, ← Nat.add_mul]
        congr 1
        omega
      · simp only [Array.toList_append, List.append_assoc]
        rw [← List.append_assoc, ← hlen]
        exact List.take_left
      · intro k hk
        simp only [Value.ownBlock, Option.some.injEq] at hk
        exact Or.inr (by omega)

theorem wpList_app {ops : Array Oper} {rest : List Oper} {o : Oper} {a : Act} {Q : Exit → Act → World → Prop} (hgd : Region.wanted o (yielded ops a.tmps) = true) (s x : Operand) (t : TypeId)
    (ho : o.op = .call { callee := .builtin .append, args := #[s, x], argTypes := #[t, t] })
    (e : TypeId) (i : TypeInfo) (z : Value) (size bytes : Nat) (ht : P.underlying t = some (.slice e)) (hi : P.info? e = some i) (hz : i.zero = some z)
    (hsize : i.size = size) (hby : i.bytes = bytes) (hzs : z.cells.size = size) (hsz : 0 < size)
    (v : Value) (n : Nat) (xs : List Value) (hs : a.eval s = v) (hown : w.ownsRow 0 e size v n xs)
    (ad : Addr) (m c : Nat) (news : List Value) (hx : a.eval x = .slice (some ad) m c) (hl : news.length = m * size) (hnews : ∀ j u, news[j]? = some u → w.cell? (ad.add j) = some u) (h1 : ∀ u ∈ news, u.oneCell' = true)
    (h63 : n + m ≤ maxLen) (hbytes : (n + m) * bytes ≤ 140737488355328)
    (h : ∀ v' w', w'.ownsRow 0 e size v' (n + m) (xs ++ news) → Mods (fun k => v.ownBlock = some k) w w' → Fresh w.heap.size v v' → wpList P ops Q rest (a.put o.dst v') w') : wpList P ops Q (o :: rest) a w := by
  refine BigFrame.wpList_want hgd fun K hK => ?_
  obtain ⟨v', w', hr, h2, h3, h4⟩ := run_app (P := P) w t o.type e i z size bytes ht hi hz hsize hby hzs hsz v n xs hown ad m c news hl hnews h1 h63 hbytes
  unfold Oper.wp execOp
  simp only [ho, resolve, invoke, builtin, Sem.run_bind, Sem.run_pure, Result.andThen_ok, List.map_toArray, List.map_cons, List.map_nil, hs, hx, hr]
  exact hK _ _ (h v' w' h2 h3 h4)

/-- The one cell that 'append(s, x)' lays for x. -/
theorem news_one (x : Value) (t : TypeId) : ∀ (j : Nat) (u : Value), [x][j]? = some u → (w.alloc (.cells #[x] t)).cell? ((⟨w.heap.size, 0, none⟩ : Addr).add j) = some u := by
  intro j u hj
  match j, hj with
  | 0, hj => simp at hj; subst hj; simp [Addr.add]
end
end Go.Proofs.Ytpjfhakmffcolaa

end

section
/- Slices that can be read: their values, whoever owns them. No program in sight. -/
namespace Go.Proofs.Ytpjfhakmffcolaa
open Go Go.RowKit

/-- The slice v of n elements, each of sz cells, reads as the cells vs. -/
def Rd (w : World) (sz : Nat) (v : Value) (n : Nat) (vs : List Value) : Prop :=
  ∃ p c, v = .slice p n c ∧ vs.length = n * sz ∧ n ≤ c ∧ c ≤ maxLen ∧ (p = none → n = 0 ∧ c = 0) ∧ ∀ ad, p = some ad → ∀ j u, vs[j]? = some u → w.cell? (ad.add j) = some u

theorem Rd.nil (w : World) (sz : Nat) : Rd w sz (.slice none 0 0) 0 [] := ⟨none, 0, rfl, by simp, Nat.le_refl _, by simp [maxLen], fun _ => ⟨rfl, rfl⟩, fun ad h => by cases h⟩
theorem Rd.of_owns {w : World} {base : Nat} {e : TypeId} {sz : Nat} {v : Value} {n : Nat} {vs : List Value} (h : w.ownsRow base e sz v n vs) : Rd w sz v n vs := by
  rcases owns_cases h with ⟨rfl, rfl, rfl⟩ | ⟨g, cap, rfl, _, h1, h2⟩
  · exact Rd.nil w sz
  · exact ⟨_, _, rfl, h.1, h1, h2, (fun e => by cases e), fun ad e => by cases e; exact h.cells rfl⟩
theorem Rd.of_cells {w w' : World} {sz : Nat} {v : Value} {n : Nat} {vs : List Value} (h : Rd w sz v n vs) (hc : ∀ (a : Addr) (u : Value), w.cell? a = some u → (∃ p, v = .slice (some p) n (match v with | .slice _ _ c => c | _ => 0) ∧ a.block = p.block) → w'.cell? a = some u) : Rd w' sz v n vs := by
  obtain ⟨p, c, rfl, h1, h2, h3, h4, h5⟩ := h
  refine ⟨p, c, rfl, h1, h2, h3, h4, fun ad e j u hu => ?_⟩
  subst e
  refine hc _ _ (h5 ad rfl j u hu) ⟨ad, rfl, ?_⟩
  unfold Addr.add; split <;> rfl
theorem Rd.below {w w' : World} {sz : Nat} {v : Value} {n : Nat} {vs : List Value} (h : Rd w sz v n vs) (hb : Below w.heap.size w w') : Rd w' sz v n vs :=
  h.of_cells fun a _ hc _ => (hb.cell (World.block_lt_of_cell? w a hc)).trans hc
theorem Rd.mods {S : Nat → Prop} {w w' : World} {sz : Nat} {v : Value} {n : Nat} {vs : List Value} (h : Rd w sz v n vs) (hm : Mods S w w') (hs : ∀ k, v.ownBlock = some k → ¬ S k) : Rd w' sz v n vs :=
  h.of_cells fun a _ hc ⟨p, hp, ha⟩ => hm.cell hc (hs _ (by rw [hp, ha]; rfl))
theorem Rd.mods' {S : Nat → Prop} {w w' : World} {sz : Nat} {v : Value} {n : Nat} {vs : List Value} (h : Rd w sz v n vs) (hm : Mods S w w') (hs : vs ≠ [] → ∀ k, v.ownBlock = some k → ¬ S k) : Rd w' sz v n vs := by
  by_cases e : vs = []
  · subst e
    obtain ⟨p, c, rfl, h1, h2, h3, h4, _⟩ := h
    exact ⟨p, c, rfl, h1, h2, h3, h4, fun ad _ j u hu => by simp at hu⟩
  · exact h.mods hm (hs e)
theorem Rd.len {w : World} {sz : Nat} {v : Value} {n : Nat} {vs : List Value} (h : Rd w sz v n vs) : vs.length = n * sz := by obtain ⟨_, _, _, h1, _⟩ := h; exact h1
theorem Rd.le {w : World} {sz : Nat} {v : Value} {n : Nat} {vs : List Value} (h : Rd w sz v n vs) : n ≤ maxLen := by obtain ⟨_, _, _, _, h1, h2, _⟩ := h; omega

/-- A slice that is not empty has an address. -/
theorem Rd.at {w : World} {sz : Nat} {v : Value} {n : Nat} {vs : List Value} (h : Rd w sz v n vs) (hne : vs ≠ []) :
    ∃ b off c, v = .slice (some ⟨b, off, none⟩) n c ∧ n ≤ c ∧ c ≤ maxLen ∧ ∀ (j : Nat) (u : Value), vs[j]? = some u → w.cell? ⟨b, off + j, none⟩ = some u := by
  obtain ⟨p, c, rfl, h1, h2, h3, h4, h5⟩ := h
  cases p with
  | none =>
    obtain ⟨rfl, _⟩ := h4 rfl
    exact absurd (List.eq_nil_of_length_eq_zero (by simpa using h1)) hne
  | some ad =>
    obtain ⟨b, off, spot⟩ := ad
    obtain ⟨x, hx⟩ : ∃ x, vs[0]? = some x := by
      cases vs with
      | nil => exact absurd rfl hne
      | cons x _ => exact ⟨x, rfl⟩
    have hspot : spot = none := by simpa [Addr.add] using World.cell?_spot (h5 _ rfl 0 x hx)
    subst hspot
    refine ⟨b, off, c, rfl, h2, h3, fun j u hu => ?_⟩
    have := h5 _ rfl j u hu
    simp only [Addr.add] at this
    split at this
    · next h0 => subst h0; simpa using this
    · exact this
theorem Rd.lt {w : World} {sz : Nat} {v : Value} {n : Nat} {vs : List Value} (h : Rd w sz v n vs) (hne : vs ≠ []) : ∀ k, v.ownBlock = some k → k < w.heap.size := by
  intro k hk
  obtain ⟨b, off, c, rfl, _, _, hc⟩ := h.at hne
  obtain ⟨x, hx⟩ : ∃ x, vs[0]? = some x := by
    cases vs with
    | nil => exact absurd rfl hne
    | cons x _ => exact ⟨x, rfl⟩
  simp only [Value.ownBlock, Option.some.injEq] at hk
  subst hk
  exact World.block_lt_of_cell? w _ (hc 0 x hx)
theorem Rd.shape {w : World} {sz : Nat} {v : Value} {n : Nat} {vs : List Value} (h : Rd w sz v n vs) : ∃ p c, v = .slice p n c := by obtain ⟨p, c, h, _⟩ := h; exact ⟨p, c, h⟩

/-- A region that draws its order, all of whose operations leave the world in a class C and yield the same value in each world of C. -/
theorem wp_region_class {P : Program} {C : World → Prop} {id : Nat} {Q : Exit → Act → World → Prop} {a : Act} {w : World} {l : List Oper} (hC : C w.drew) (hm : P.follows .mixedOrders = true) (hB : Region.lexB .any l.toArray = true)
    (h : wpQuiet P l.toArray C (fun a' => ∀ w', C w' → Q .normal a' w') l a) : (Code.region id l.toArray true).wp P Q a w :=
  wp_region_quiet (C := C) hm hB hC (by simpa using h)

/-- An element type e of the slice type t: its cells, its bytes. -/
structure Elem (P : Program) (t e : TypeId) (sz bytes : Nat) : Prop where
  ht : P.underlying t = some (.slice e)
  hi : ∃ i z, P.info? e = some i ∧ i.zero = some z ∧ i.size = sz ∧ i.bytes = bytes ∧ z.cells.size = sz
  pos : 0 < sz
theorem Elem.mk' {P : Program} {t e : TypeId} {z : Value} {sz bytes : Nat} (ht : P.underlying t = some (.slice e)) (h : (P.info? e).map (fun i => (i.zero, i.size, i.bytes)) = some (some z, sz, bytes)) (hz : z.cells.size = sz) (hp : 0 < sz) : Elem P t e sz bytes := by
  obtain ⟨i, h1, h2, h3, h4⟩ := info_parts h
  exact ⟨ht, ⟨i, z, h1, h2, h3, h4, hz⟩, hp⟩

section
variable {P : Program}
/-- 'append(s, x)' of one element: x lies in a new block of its own. -/
theorem wpList_push {t e : TypeId} {sz bytes : Nat} (hE : Elem P t e sz bytes) (w : World) (us : Array Value) (v : Value) (n : Nat) (xs : List Value) (hown : w.ownsRow 0 e sz v n xs) (hus : us.size = sz) (h1 : ∀ u ∈ us.toList, u.oneCell' = true) (hb : (n + 1) * bytes ≤ 140737488355328 ∧ n + 1 ≤ maxLen)
    {ops : Array Oper} {rest : List Oper} {o : Oper} {a : Act} {Q : Exit → Act → World → Prop} (hgd : Region.wanted o (yielded ops a.tmps) = true) (s x : Operand) (ho : o.op = .call { callee := .builtin .append, args := #[s, x], argTypes := #[t, t] })
    (hs : a.eval s = v) (hx : a.eval x = .slice (some ⟨w.heap.size, 0, none⟩) 1 1)
    (h : ∀ v' w', w'.ownsRow 0 e sz v' (n + 1) (xs ++ us.toList) → Mods (fun k => v.ownBlock = some k) w w' → Fresh w.heap.size v v' → wpList P ops Q rest (a.put o.dst v') w') : wpList P ops Q (o :: rest) a (w.alloc (.cells us e)) := by
  obtain ⟨i, z, hi, hz, hsize, hby, hzs⟩ := hE.hi
  refine wpList_app (w.alloc (.cells us e)) hgd s x t ho e i z sz bytes hE.ht hi hz hsize hby hzs hE.pos v n xs hs (hown.alloc _) ⟨w.heap.size, 0, none⟩ 1 1 us.toList hx (by simp [hus]) ?_ h1 hb.2 hb.1 ?_
  · intro j u hj
    have e1 : (⟨w.heap.size, 0, none⟩ : Addr).add j = ⟨w.heap.size, j, none⟩ := by unfold Addr.add; split <;> simp_all
    rw [e1, (Blk.new w us e).cell]
    exact hj
  · intro v' w' a1 a2 a3
    refine h v' w' a1 ((Mods.alloc _ _ _).trans a2 (fun _ _ e => e)) (fun k hk => ?_)
    rcases a3 k hk with e | e
    · exact Or.inl e
    · exact Or.inr (by simp at e; omega)

/-- 'append(s, xs...)'. -/
theorem wpList_extend {t e : TypeId} {sz bytes : Nat} (hE : Elem P t e sz bytes) (w : World) (v v2 : Value) (n m : Nat) (xs news : List Value) (hown : w.ownsRow 0 e sz v n xs) (hr : Rd w sz v2 m news) (h1 : ∀ u ∈ news, u.oneCell' = true) (hb : (n + m) * bytes ≤ 140737488355328 ∧ n + m ≤ maxLen)
    {ops : Array Oper} {rest : List Oper} {o : Oper} {a : Act} {Q : Exit → Act → World → Prop} (hgd : Region.wanted o (yielded ops a.tmps) = true) (s x : Operand) (ho : o.op = .call { callee := .builtin .append, args := #[s, x], argTypes := #[t, t] })
    (hs : a.eval s = v) (hx : a.eval x = v2)
    (h : ∀ v' w', w'.ownsRow 0 e sz v' (n + m) (xs ++ news) → Mods (fun k => v.ownBlock = some k) w w' → Fresh w.heap.size v v' → wpList P ops Q rest (a.put o.dst v') w') : wpList P ops Q (o :: rest) a w := by
  obtain ⟨i, z, hi, hz, hsize, hby, hzs⟩ := hE.hi
  obtain ⟨p, c, rfl, hl, hc1, hc2, hnil, hcell⟩ := hr
  cases p with
  | none =>
    obtain ⟨rfl, rfl⟩ := hnil rfl
    obtain rfl : news = [] := List.eq_nil_of_length_eq_zero (by simpa using hl)
    refine BigFrame.wpList_want hgd fun K hK => ?_
    have hr := run_append_owned_none (P := P) w 0 t o.type e i sz hE.ht hi v n xs hown
    unfold Oper.wp execOp
    simp only [ho, resolve, invoke, builtin, Sem.run_bind, Sem.run_pure, Result.andThen_ok, List.map_toArray, List.map_cons, List.map_nil, hs, hx, hr]
    exact hK _ _ (h v w (by simpa using hown) (Mods.refl _ _) (Fresh.refl _ _))
  | some ad => exact wpList_app w hgd s x t ho e i z sz bytes hE.ht hi hz hsize hby hzs hE.pos v n xs hs hown ad m c news hx hl (hcell ad rfl) h1 hb.2 hb.1 h
end

theorem one_cell (u : Value) (h : u.oneCell' = true) : ∀ x ∈ (#[u] : Array Value).toList, x.oneCell' = true := by
  intro x hx; simp at hx; subst hx; exact h

def u8s (l : List Nat) : List Value := l.map (fun n : Nat => Value.int .u8 (n : Int))
theorem u8s_length (l : List Nat) : (u8s l).length = l.length := by simp [u8s]
theorem u8s_append (a b : List Nat) : u8s (a ++ b) = u8s a ++ u8s b := by simp [u8s]
theorem u8s_set (l : List Nat) (i n : Nat) : (u8s l).set i (.int .u8 n) = u8s (l.set i n) := by simp [u8s, List.map_set]
theorem u8s_get (l : List Nat) (i : Nat) (h : i < l.length) : (u8s l)[i]? = some (.int .u8 (l[i] : Nat)) := by simp [u8s, h]

theorem u8s_oneCell (l : List Nat) : ∀ u ∈ u8s l, u.oneCell' = true := by
  intro u hu
  simp only [u8s, List.mem_map] at hu
  obtain ⟨n, _, rfl⟩ := hu
  rfl

/-- The bytes of a list of numbers, as a string. -/
def strOf (l : List Nat) : ByteArray := strOfNums (l.map fun n : Nat => (n : Int))
theorem strOf_inj {l k : List Nat} (hl : ∀ x ∈ l, x < 256) (hk : ∀ x ∈ k, x < 256) : ((strOf l).toList == (strOf k).toList) = decide (l = k) := by
  have e : ∀ l : List Nat, (strOf l).toList = l.map (fun n => UInt8.ofNat n) := fun l => by
    rw [strOf, Lib.strOfNums_toList]; simp [Lib.bytesOf, List.map_map, Function.comp_def]
  rw [e, e]
  by_cases h : l = k
  · simp [h]
  · have : ¬ (l.map (fun n => UInt8.ofNat n) = k.map (fun n => UInt8.ofNat n)) := fun hm => h (by
      have hm' := congrArg (List.map UInt8.toNat) hm
      rw [List.map_map, List.map_map] at hm'
      have key : ∀ l : List Nat, (∀ x ∈ l, x < 256) → l.map (UInt8.toNat ∘ fun n => UInt8.ofNat n) = l := by
        intro l hl
        conv => rhs; rw [← List.map_id l]
        apply List.map_congr_left
        intro x hx
        simp [Nat.mod_eq_of_lt (hl x hx)]
      rw [key l hl, key k hk] at hm'
      exact hm')
    simp [h, this]

theorem Rd.conv {P : Program} {w : World} {v : Value} {n : Nat} {l : List Nat} (h : Rd w 1 v n (u8s l)) (src e dst : TypeId) (hs : P.underlying src = some (.slice e)) (he : P.underlying e = some (.int .u8)) (hd : P.underlying dst = some .string) :
    (convert src dst v).run P w = .ok (.string (strOf l)) w := by
  obtain ⟨p, c, rfl, h1, h2, h3, h4, h5⟩ := h
  rw [u8s_length] at h1
  cases p with
  | none =>
    obtain ⟨rfl, rfl⟩ := h4 rfl
    obtain rfl : l = [] := List.eq_nil_of_length_eq_zero (by simpa using h1)
    exact run_convert_bytes_nil w src e hs he 0 0 dst hd
  | some ad =>
    by_cases hn : n = 0
    · subst hn
      obtain rfl : l = [] := List.eq_nil_of_length_eq_zero (by simpa using h1)
      rw [run_convert_bytes_string w src dst e _ 0 c hs he hd]
      simp [Conv.bytesToString, loadCells, loadCellsFrom, strOf, strOfNums]; rfl
    · obtain ⟨b, off, spot⟩ := ad
      have hcell : ∀ i, i < n → w.cell? ((⟨b, off, spot⟩ : Addr).add i) = some (.int .u8 ((l.map fun n : Nat => (n : Int)).getD i 0)) := fun i hi => by
        rw [h5 _ rfl i _ (u8s_get l i (by omega))]; simp [List.getD, show i < l.length by omega]
      have hspot : spot = none := by simpa [Addr.add] using World.cell?_spot (hcell 0 (by omega))
      subst hspot
      exact run_convert_bytes_arg w src e hs he b off n c _ (by simp; omega) (fun i hi => by
        have := hcell i hi
        simp only [Addr.add] at this
        split at this
        · next h0 => subst h0; simpa using this
        · exact this) dst hd
end Go.Proofs.Ytpjfhakmffcolaa

end

section
/- Rows of integers. No program in sight. -/
set_option linter.unusedVariables false
namespace Go.Proofs.Ytpjfhakmffcolaa
open Go Go.RowKit


def i64s (l : List Int) : List Value := l.map fun x => .int .i64 x

theorem i64s_length (l : List Int) : (i64s l).length = l.length := by simp [i64s]

theorem i64s_append (a b : List Int) : i64s (a ++ b) = i64s a ++ i64s b := by simp [i64s]

theorem i64s_get (l : List Int) (i : Nat) (h : i < l.length) : (i64s l)[i]? = some (.int .i64 l[i]) := by simp [i64s, h]

theorem i64s_one (l : List Int) : ∀ u ∈ i64s l, u.oneCell' = true := by
  intro u hu
  simp only [i64s, List.mem_map] at hu
  obtain ⟨n, _, rfl⟩ := hu
  rfl
end Go.Proofs.Ytpjfhakmffcolaa

end

section
/- 'append(b, s...)' of a string; strings and their bytes. No program in sight. -/
namespace Go.Proofs.Ytpjfhakmffcolaa
open Go Go.RowKit

/-- The bytes of a string, as numbers. -/
def numsOf (s : ByteArray) : List Nat := s.data.toList.map fun b => b.toNat
theorem numsOf_length (s : ByteArray) : (numsOf s).length = s.size := by rw [numsOf, List.length_map, Array.length_toList]; rfl
theorem numsOf_lt (s : ByteArray) : ∀ c ∈ numsOf s, c < 256 := by
  intro c hc
  simp only [numsOf, List.mem_map] at hc
  obtain ⟨b, _, rfl⟩ := hc
  exact b.toNat_lt
theorem strOf_numsOf (s : ByteArray) : strOf (numsOf s) = s := by
  obtain ⟨⟨l⟩⟩ := s
  unfold strOf strOfNums numsOf
  congr 1
  simp [List.map_map, Function.comp_def]
theorem numsOf_strOf {l : List Nat} (h : ∀ c ∈ l, c < 256) : numsOf (strOf l) = l := by
  unfold strOf strOfNums numsOf
  simp only [List.map_map]
  conv => rhs; rw [← List.map_id l]
  apply List.map_congr_left
  intro x hx
  simp [Nat.mod_eq_of_lt (h x hx)]
theorem u8s_numsOf (s : ByteArray) : u8s (numsOf s) = s.data.toList.map fun b => Value.int .u8 (b.toNat : Int) := by rw [u8s, numsOf, List.map_map]; rfl

section
variable {P : Program} (w : World)
theorem run_firstCells_str (s : ByteArray) (n : Nat) (hn : s.size = n) (size : Nat) : (Builtin.firstCells size n (.string s)).run P w = .ok (u8s (numsOf s)).toArray w := by
  subst hn
  rw [u8s_numsOf]
  have hx : (s.extract 0 s.size).data = s.data := by
    rw [ByteArray.data_extract]
    exact Array.extract_size
  simp only [Builtin.firstCells, hx, Sem.run_pure]
  congr 1
  apply Array.ext'
  simp

/-- An append of a string to an owned row of bytes. -/
theorem run_app_str (t u ty e : TypeId) (i : TypeInfo) (z : Value) (ht : P.underlying t = some (.slice e)) (hu : P.underlying u = some .string) (hi : P.info? e = some i) (hz : i.zero = some z)
    (hsize : i.size = 1) (hby : i.bytes = 1) (hzs : z.cells.size = 1) (v : Value) (n : Nat) (xs : List Value) (hown : w.ownsRow 0 e 1 v n xs) (s : ByteArray) (h63 : n + s.size ≤ maxLen) (hbytes : (n + s.size) * 1 ≤ 140737488355328) :
    ∃ v' w', (Builtin.append_ #[t, u] ty #[v, .string s]).run P w = .ok v' w' ∧ w'.ownsRow 0 e 1 v' (n + s.size) (xs ++ u8s (numsOf s)) ∧ Mods (fun k => v.ownBlock = some k) w w' ∧ Fresh w.heap.size v v' := by
  have hf := fun w : World => run_firstCells_str (P := P) w s s.size rfl 1
  have hl : (u8s (numsOf s)).length = s.size := by rw [u8s_length, numsOf_length]
  have h1 : ∀ u ∈ u8s (numsOf s), u.oneCell' = true := u8s_oneCell _
  have hlen0 : Builtin.lenOf (.string s) = pure s.size := rfl
  generalize u8s (numsOf s) = news at *
  generalize s.size = M at *
  have hlen : (xs ++ news).length = (n + M) * 1 := by rw [List.length_append, hown.1, hl, Nat.add_mul, Nat.mul_one, Nat.mul_one]
  have h63' : ((n + M : Nat) : Int) ≤ 9223372036854775807 := by unfold maxLen at h63; omega
  rcases hown.2 with ⟨rfl, rfl⟩ | ⟨g, cap, cur, rfl, hb, hg, hnc, hcm, hcs, htake⟩
  · obtain rfl : xs = [] := List.eq_nil_of_length_eq_zero (by simpa using hown.1)
    by_cases h0 : M = 0
    · subst h0
      obtain rfl : news = [] := List.eq_nil_of_length_eq_zero hl
      refine ⟨.slice none 0 0, w, ?_, hown, Mods.refl _ _, Fresh.refl _ _⟩
      simp [Builtin.append_, run_underlying ht, run_underlying hu, sizeOf, typeInfo, hi, hsize, hlen0, hf w]
    · have hn : ¬ M = 0 := h0
      have h63'' : ¬ (9223372036854775807 < (M : Int)) := by omega
      have h48 : ¬ (281474976710656 < Builtin.nextslicecap M 0) := by rw [nextslicecap_zero (by omega)]; omega
      have hge := grownCap_ge w M 0 e
      refine ⟨.slice (some ⟨w.heap.size, 0, none⟩) M (grownCap w M 0 e), w.drew.alloc (.cells (news.toArray ++ Builtin.zeroCells z.cells (grownCap w M 0 e - M)) e), ?_, ⟨by simpa using hl, .inr ⟨w.heap.size, _, _, by rw [Nat.zero_add], Nat.zero_le _, heap_alloc_new w.drew _, by rw [Nat.zero_add]; exact hge, grownCap_le_maxLen w M 0 e (by omega), ?_, ?_⟩⟩, ⟨rfl, rfl, rfl, by simp, fun k hk _ => Below.heap_alloc w.drew _ k hk⟩, ?_⟩
      · simp [Builtin.append_, run_underlying ht, run_underlying hu, sizeOf, typeInfo, zeroValue, hi, hz, hsize, hby, hlen0, hn, h63'', h48, Question.forced, hf w.drew, newRow, grownCap, run_firstCells_none]
      · simp only [Array.size_append, List.size_toArray, size_zeroCells, hzs, hl]
        omega
      · simp [← hl]
      · intro k hk
        simp only [Value.ownBlock, Option.some.injEq] at hk
        exact Or.inr (by omega)
  · by_cases hroom : n + M ≤ cap
    · have hfit : 0 + n + news.length ≤ cur.size := by rw [hl, hcs]; omega
      have hst := run_storeCells_at P g n e news 0 cur w hg (by omega) h1
      refine ⟨.slice (some ⟨g, 0, none⟩) (n + M) cap, w.setRow g (cur.toList.take (n + 0) ++ news ++ cur.toList.drop (n + 0 + news.length)).toArray, ?_, ⟨hlen, .inr ⟨g, cap, _, rfl, Nat.zero_le _, setRow_heap w g cur _ e _ hg, hroom, hcm, ?_, ?_⟩⟩, ⟨rfl, rfl, rfl, by simp, fun k _ hk => setRow_other w g k _ (fun e => hk (by simp [Value.ownBlock, e]))⟩, fun k hk => Or.inl hk⟩
      · have ha : (⟨g, 0, none⟩ : Addr).add n = ⟨g, n, none⟩ := by unfold Addr.add; split <;> simp_all
        simp [Builtin.append_, run_underlying ht, run_underlying hu, sizeOf, typeInfo, hi, hsize, hlen0, hroom, hf w, ha, hst]
      · simp only [List.size_toArray, List.length_append, List.length_take, List.length_drop, Array.length_toList, Nat.add_zero]
        omega
      · have hx : cur.toList.take n = xs := by rw [← htake, Nat.mul_one]
        simp only [Nat.add_zero, hx]
        rw [← hlen]
        exact List.take_left
    · have holds : ∀ j u, xs[j]? = some u → w.cell? ((⟨g, 0, none⟩ : Addr).add j) = some u := hown.cells (g := g) rfl
      have hge := grownCap_ge w (n + M) cap e
      have hxl : xs.length = n * 1 := hown.1
      have hfo := run_firstCells_some (P := P) w.drew 1 n ⟨g, 0, none⟩ n cap xs hxl (by simpa using holds)
      have h63'' : ¬ (9223372036854775807 < ((n : Int) + (M : Int))) := by omega
      have h48 : ¬ (281474976710656 < Builtin.nextslicecap (n + M) cap) := by have := growslice_fits (need := n + M) (old := cap) (bytes := 1) (by omega) hbytes; omega
      refine ⟨.slice (some ⟨w.heap.size, 0, none⟩) (n + M) (grownCap w (n + M) cap e), w.drew.alloc (.cells (xs.toArray ++ news.toArray ++ Builtin.zeroCells z.cells (grownCap w (n + M) cap e - (n + M))) e), ?_, ⟨hlen, .inr ⟨w.heap.size, _, _, rfl, Nat.zero_le _, heap_alloc_new w.drew _, hge, grownCap_le_maxLen w (n + M) cap e h63, ?_, ?_⟩⟩, ⟨rfl, rfl, rfl, by simp, fun k hk _ => Below.heap_alloc w.drew _ k hk⟩, ?_⟩
      · simp [Builtin.append_, run_underlying ht, run_underlying hu, sizeOf, typeInfo, zeroValue, hi, hz, hsize, hby, hlen0, hroom, h63'', h48, Question.forced, hf w.drew, hfo, newRow, grownCap]
        congr 2
        apply Array.ext'
        simp [List.append_assoc]
      · simp only [Array.size_append, List.size_toArray, size_zeroCells, hzs, hl, hxl]
        omega
      · simp only [Array.toList_append, List.append_assoc]
        rw [← List.append_assoc, ← hlen]
        exact List.take_left
      · intro k hk
        simp only [Value.ownBlock, Option.some.injEq] at hk
        exact Or.inr (by omega)

/-- 'append(b, s...)' of a string. -/
theorem wpList_extendStr {t u e : TypeId} (hE : Elem P t e 1 1) (hu : P.underlying u = some .string) (w : World) (v : Value) (n : Nat) (xs : List Value) (hown : w.ownsRow 0 e 1 v n xs) (str : ByteArray) (hb : (n + str.size) * 1 ≤ 140737488355328 ∧ n + str.size ≤ maxLen)
    {ops : Array Oper} {rest : List Oper} {o : Oper} {a : Act} {Q : Exit → Act → World → Prop} (hgd : Region.wanted o (yielded ops a.tmps) = true) (s x : Operand) (ho : o.op = .call { callee := .builtin .append, args := #[s, x], argTypes := #[t, u] })
    (hs : a.eval s = v) (hx : a.eval x = .string str)
    (h : ∀ v' w', w'.ownsRow 0 e 1 v' (n + str.size) (xs ++ u8s (numsOf str)) → Mods (fun k => v.ownBlock = some k) w w' → Fresh w.heap.size v v' → wpList P ops Q rest (a.put o.dst v') w') : wpList P ops Q (o :: rest) a w := by
  obtain ⟨i, z, hi, hz, hsize, hby, hzs⟩ := hE.hi
  refine BigFrame.wpList_want hgd fun K hK => ?_
  obtain ⟨v', w', hr, h2, h3, h4⟩ := run_app_str (P := P) w t u o.type e i z hE.ht hu hi hz hsize hby hzs v n xs hown str hb.2 hb.1
  unfold Oper.wp execOp
  simp only [ho, resolve, invoke, builtin, Sem.run_bind, Sem.run_pure, Result.andThen_ok, List.map_toArray, List.map_cons, List.map_nil, hs, hx, hr]
  exact hK _ _ (h v' w' h2 h3 h4)
end
end Go.Proofs.Ytpjfhakmffcolaa

end

section
/- Lists in strictly ascending order, whatever the order: insertion, the sorted list of some elements. No program in sight. -/
namespace Go.Proofs.Ytpjfhakmffcolaa

section
variable {α : Type}

/-- A strict order. -/
structure LtPre (lt : α → α → Bool) : Prop where
  irr : ∀ a, lt a a = false
  tr : ∀ a b c, lt a b = true → lt b c = true → lt a c = true
/-- A strict order that is total. -/
structure LtOk (lt : α → α → Bool) : Prop extends LtPre lt where
  tot : ∀ a b, lt a b = false → lt b a = false → a = b

def AscB (lt : α → α → Bool) (l : List α) : Prop := l.Pairwise (fun a b => lt a b = true)
/-- An element put in its place, once. -/
def insB (lt : α → α → Bool) (x : α) : List α → List α
  | [] => [x]
  | y :: l => if lt y x then y :: insB lt x l else if lt x y then x :: y :: l else y :: l
def tabFrom (lt : α → α → Bool) (t l : List α) : List α := l.foldl (fun t x => insB lt x t) t
/-- The elements of a list, each once, in ascending order. -/
def tabB (lt : α → α → Bool) (l : List α) : List α := tabFrom lt [] l

variable {lt : α → α → Bool}
theorem LtPre.asy (h : LtPre lt) {a b : α} (hab : lt a b = true) : lt b a = false := by
  rcases Bool.eq_false_or_eq_true (lt b a) with hb | hb
  · have := h.tr a b a hab hb; rw [h.irr] at this; cases this
  · exact hb
theorem LtPre.ne (h : LtPre lt) {a b : α} (hab : lt a b = true) : a ≠ b := fun e => by subst e; rw [h.irr] at hab; cases hab
/-- Where a is not below b, b is not above. -/
theorem LtOk.le_tr (h : LtOk lt) {a b c : α} (hab : lt b a = false) (hbc : lt b c = true) : lt a c = true := by
  rcases Bool.eq_false_or_eq_true (lt a b) with e | e
  · exact h.tr a b c e hbc
  · rw [h.tot a b e hab]; exact hbc

theorem insB_mem (h : LtOk lt) (x z : α) (d : List α) : z ∈ insB lt x d ↔ z = x ∨ z ∈ d := by
  induction d with
  | nil => simp [insB]
  | cons y l ih =>
    rw [insB]
    split
    · rw [List.mem_cons, ih, List.mem_cons]
      constructor
      · rintro (h | h | h)
        · exact Or.inr (Or.inl h)
        · exact Or.inl h
        · exact Or.inr (Or.inr h)
      · rintro (h | h | h)
        · exact Or.inr (Or.inl h)
        · exact Or.inl h
        · exact Or.inr (Or.inr h)
    · next h1 =>
      split
      · simp
      · next h2 =>
        have e : y = x := h.tot y x (by simpa using h1) (by simpa using h2)
        subst e
        simp
theorem insB_asc (h : LtOk lt) (x : α) (d : List α) (ha : AscB lt d) : AscB lt (insB lt x d) := by
  induction d with
  | nil => exact List.pairwise_singleton _ _
  | cons y l ih =>
    obtain ⟨h1, h2⟩ := List.pairwise_cons.1 ha
    rw [insB]
    split
    · next hyx =>
      exact List.pairwise_cons.2 ⟨fun z hz => by
        rcases (insB_mem h x z l).1 hz with e | e
        · subst e; exact hyx
        · exact h1 z e, ih h2⟩
    · split
      · next hxy =>
        exact List.pairwise_cons.2 ⟨fun z hz => by
          rcases List.mem_cons.1 hz with e | e
          · subst e; exact hxy
          · exact h.tr _ _ _ hxy (h1 z e), ha⟩
      · exact ha
theorem insB_le (x : α) (d : List α) : (insB lt x d).length ≤ d.length + 1 := by
  induction d with
  | nil => exact Nat.le_refl _
  | cons y l ih =>
    rw [insB]
    split
    · rw [List.length_cons, List.length_cons]; omega
    · split
      · exact Nat.le_refl _
      · exact Nat.le_succ _
/-- An element that is there. -/
theorem insB_at (h : LtPre lt) (x : α) (a b : List α) (ha : ∀ z ∈ a, lt z x = true) : insB lt x (a ++ x :: b) = a ++ x :: b := by
  induction a with
  | nil => rw [List.nil_append, insB, if_neg (by rw [h.irr]; simp), if_neg (by rw [h.irr]; simp)]
  | cons y l ih =>
    rw [List.cons_append, insB, if_pos (ha y (by simp)), ih (fun z hz => ha z (by simp [hz]))]
/-- An element that is not there. -/
theorem insB_parts (h : LtPre lt) (x : α) (a b : List α) (ha : ∀ z ∈ a, lt z x = true) (hb : ∀ z, b.head? = some z → lt x z = true) : insB lt x (a ++ b) = a ++ x :: b := by
  induction a with
  | nil =>
    cases b with
    | nil => rfl
    | cons y l =>
      have := hb y rfl
      rw [List.nil_append, insB, if_neg (by rw [h.asy this]; simp), if_pos this, List.nil_append]
  | cons y l ih =>
    rw [List.cons_append, insB, if_pos (ha y (by simp)), ih (fun z hz => ha z (by simp [hz])), List.cons_append]
theorem insB_last (h : LtPre lt) (x : α) (d : List α) (hd : ∀ z ∈ d, lt z x = true) : insB lt x d = d ++ [x] := by
  have := insB_parts h x d [] hd (fun z e => by cases e)
  rwa [List.append_nil] at this

theorem tabFrom_asc (h : LtOk lt) (t l : List α) (ht : AscB lt t) : AscB lt (tabFrom lt t l) := by
  induction l generalizing t with
  | nil => exact ht
  | cons x l ih => exact ih (insB lt x t) (insB_asc h x t ht)
theorem tabFrom_mem (h : LtOk lt) (t l : List α) (z : α) : z ∈ tabFrom lt t l ↔ z ∈ t ∨ z ∈ l := by
  induction l generalizing t with
  | nil => simp [tabFrom]
  | cons x l ih =>
    show z ∈ tabFrom lt (insB lt x t) l ↔ _
    rw [ih (insB lt x t), insB_mem h, List.mem_cons]
    constructor
    · rintro ((h | h) | h)
      · exact Or.inr (Or.inl h)
      · exact Or.inl h
      · exact Or.inr (Or.inr h)
    · rintro (h | h | h)
      · exact Or.inl (Or.inr h)
      · exact Or.inl (Or.inl h)
      · exact Or.inr h
theorem tabFrom_len (t l : List α) : (tabFrom lt t l).length ≤ t.length + l.length := by
  induction l generalizing t with
  | nil => exact Nat.le_refl _
  | cons x l ih =>
    have h1 := ih (insB lt x t); have h2 := insB_le (lt := lt) x t
    show (tabFrom lt (insB lt x t) l).length ≤ _
    rw [List.length_cons]; omega
theorem tabFrom_snoc (t l : List α) (x : α) : tabFrom lt t (l ++ [x]) = insB lt x (tabFrom lt t l) := by rw [tabFrom, List.foldl_append]; rfl
theorem tabB_asc (h : LtOk lt) (l : List α) : AscB lt (tabB lt l) := tabFrom_asc h [] l List.Pairwise.nil
theorem tabB_mem (h : LtOk lt) (l : List α) (z : α) : z ∈ tabB lt l ↔ z ∈ l := by rw [tabB, tabFrom_mem h]; simp
theorem tabB_len (l : List α) : (tabB lt l).length ≤ l.length := by have := tabFrom_len (lt := lt) [] l; rw [List.length_nil] at this; rw [tabB]; omega
theorem tabB_snoc (l : List α) (x : α) : tabB lt (l ++ [x]) = insB lt x (tabB lt l) := tabFrom_snoc [] l x

theorem ascB_ext (h : LtPre lt) (a b : List α) (ha : AscB lt a) (hb : AscB lt b) (hm : ∀ x, x ∈ a ↔ x ∈ b) : a = b := by
  induction a generalizing b with
  | nil =>
    cases b with
    | nil => rfl
    | cons y l => exact absurd ((hm y).2 (List.mem_cons_self ..)) List.not_mem_nil
  | cons x a ih =>
    cases b with
    | nil => exact absurd ((hm x).1 (List.mem_cons_self ..)) List.not_mem_nil
    | cons y b =>
      obtain ⟨a1, a2⟩ := List.pairwise_cons.1 ha
      obtain ⟨b1, b2⟩ := List.pairwise_cons.1 hb
      have hxy : x = y := by
        rcases List.mem_cons.1 ((hm x).1 (List.mem_cons_self ..)) with e | e
        · exact e
        · rcases List.mem_cons.1 ((hm y).2 (List.mem_cons_self ..)) with f | f
          · exact f.symm
          · have p := b1 x e; have q := a1 y f
            rw [h.asy p] at q; cases q
      subst hxy
      rw [ih b a2 b2 (fun z => ?_)]
      constructor
      · intro hz
        rcases List.mem_cons.1 ((hm z).1 (List.mem_cons_of_mem _ hz)) with e | e
        · subst e; exact absurd rfl (h.ne (a1 z hz))
        · exact e
      · intro hz
        rcases List.mem_cons.1 ((hm z).2 (List.mem_cons_of_mem _ hz)) with e | e
        · subst e; exact absurd rfl (h.ne (b1 z hz))
        · exact e
theorem tabB_ext (h : LtOk lt) (a b : List α) (hm : ∀ x, x ∈ a ↔ x ∈ b) : tabB lt a = tabB lt b :=
  ascB_ext h.toLtPre _ _ (tabB_asc h a) (tabB_asc h b) (fun x => by rw [tabB_mem h, tabB_mem h]; exact hm x)
theorem tabB_of_asc (h : LtOk lt) (a : List α) (ha : AscB lt a) : tabB lt a = a := ascB_ext h.toLtPre _ _ (tabB_asc h a) ha (fun x => tabB_mem h a x)

/-- Ascending: neighbour by neighbour. -/
theorem ascB_snoc (h : LtPre lt) {l : List α} {x : α} : AscB lt (l ++ [x]) ↔ AscB lt l ∧ (∀ y, l.getLast? = some y → lt y x = true) := by
  constructor
  · intro ha
    obtain ⟨h1, _, h3⟩ := List.pairwise_append.1 ha
    exact ⟨h1, fun y hy => h3 y (List.mem_of_getLast? hy) x (by simp)⟩
  · rintro ⟨h1, h2⟩
    refine List.pairwise_append.2 ⟨h1, List.pairwise_singleton _ _, fun a ha b hb => ?_⟩
    simp only [List.mem_singleton] at hb
    subst hb
    rcases List.eq_nil_or_concat l with e | ⟨p, y, e⟩
    · subst e; cases ha
    · have hy : lt y b = true := h2 y (by rw [e]; simp)
      rw [List.concat_eq_append] at e
      subst e
      rcases List.mem_append.1 ha with e | e
      · exact h.tr _ _ _ ((List.pairwise_append.1 h1).2.2 a e y (by simp)) hy
      · simp only [List.mem_singleton] at e; subst e; exact hy
theorem ascB_take {l : List α} (h : AscB lt l) (i : Nat) : AscB lt (l.take i) := List.Pairwise.sublist (List.take_sublist _ _) h
theorem ascB_get {l : List α} (h : AscB lt l) {i j : Nat} (hij : i < j) (hj : j < l.length) : lt (l[i]'(by omega)) l[j] = true := List.pairwise_iff_getElem.1 h i j (by omega) hj hij
end
end Go.Proofs.Ytpjfhakmffcolaa

end

section
/- Strings: their order, lists of strings as rows. No program in sight. -/
set_option linter.unusedVariables false
namespace Go.Proofs.Ytpjfhakmffcolaa
open Go Go.RowKit

def bLt : List UInt8 → List UInt8 → Bool := Op.bytesLess
theorem bLt_irr (a : List UInt8) : bLt a a = false := by
  induction a with
  | nil => rfl
  | cons x a ih => simp only [bLt, Op.bytesLess] at ih ⊢; simp [ih]
theorem bLt_tr : ∀ (a b c : List UInt8), bLt a b = true → bLt b c = true → bLt a c = true
  | a, [], c, h, _ => by cases a <;> simp [bLt, Op.bytesLess] at h
  | a, b :: bs, [], _, h => by simp [bLt, Op.bytesLess] at h
  | [], b :: bs, c :: cs, _, _ => rfl
  | a :: ar, b :: bs, c :: cs, h, k => by
    have ih := bLt_tr ar bs cs
    simp only [bLt, Op.bytesLess, Bool.or_eq_true, Bool.and_eq_true, beq_iff_eq, decide_eq_true_eq] at h k ih ⊢
    rcases h with h | ⟨h1, h2⟩
    · rcases k with k | ⟨k1, k2⟩
      · exact Or.inl (UInt8.lt_trans h k)
      · subst k1; exact Or.inl h
    · subst h1
      rcases k with k | ⟨k1, k2⟩
      · exact Or.inl k
      · exact Or.inr ⟨k1, ih h2 k2⟩
theorem bLt_tot : ∀ (a b : List UInt8), bLt a b = false → bLt b a = false → a = b
  | [], [], _, _ => rfl
  | [], b :: bs, h, _ => by simp [bLt, Op.bytesLess] at h
  | a :: ar, [], _, h => by simp [bLt, Op.bytesLess] at h
  | a :: ar, b :: bs, h, k => by
    have ih := bLt_tot ar bs
    simp only [bLt, Op.bytesLess, Bool.or_eq_false_iff, Bool.and_eq_false_iff, beq_eq_false_iff_ne, decide_eq_false_iff_not, UInt8.not_lt] at h k ih
    have e : a = b := UInt8.le_antisymm k.1 h.1
    subst e
    rw [ih (by rcases h.2 with h | h; exact absurd rfl h; exact h) (by rcases k.2 with h | h; exact absurd rfl h; exact h)]

/-- The order of strings, byte by byte. -/
def ltS (a b : ByteArray) : Bool := Op.bytesLess a.toList b.toList
theorem toList_inj {a b : ByteArray} (h : a.toList = b.toList) : a = b := by
  have ha : a.toList = a.data.toList := by simp [ByteArray.toList_eq]
  have hb : b.toList = b.data.toList := by simp [ByteArray.toList_eq]
  rw [ha, hb] at h
  cases a; cases b
  simp only at h
  rw [Array.toList_inj.1 h]
theorem ltS_ok : LtOk ltS := ⟨⟨fun a => bLt_irr _, fun a b c => bLt_tr _ _ _⟩, fun a b h k => toList_inj (bLt_tot _ _ h k)⟩
theorem eqS (a b : ByteArray) : (a.toList == b.toList) = decide (a = b) := by
  by_cases h : a = b
  · subst h; simp
  · rw [decide_eq_false h, beq_eq_false_iff_ne]; exact fun e => h (toList_inj e)

def strs (l : List ByteArray) : List Value := l.map Value.string
theorem strs_length (l : List ByteArray) : (strs l).length = l.length := by simp [strs]
theorem strs_append (a b : List ByteArray) : strs (a ++ b) = strs a ++ strs b := by simp [strs]
theorem strs_get (l : List ByteArray) (j : Nat) (h : j < l.length) : (strs l)[j]? = some (.string l[j]) := by simp [strs, h]
end Go.Proofs.Ytpjfhakmffcolaa

end

section
/- The place of the first element with a property. No program in sight. -/
namespace Go.Proofs.Ytpjfhakmffcolaa
variable {α : Type}
/-- The index of the first element with p, or -1. -/
def firstI (p : α → Bool) (l : List α) : Int := match l.findIdx? p with
  | some i => (i : Int)
  | none => -1
theorem firstI_at {p : α → Bool} {l : List α} {j : Nat} (h : ∀ x ∈ l.take j, p x = false) {x : α} (hj : l[j]? = some x) (hp : p x = true) : firstI p l = (j : Int) := by
  have hlt : j < l.length := (List.getElem?_eq_some_iff.1 hj).1
  have e : l.findIdx? p = some j := by
    rw [List.findIdx?_eq_some_iff_getElem]
    refine ⟨hlt, by rw [(List.getElem?_eq_some_iff.1 hj).2]; exact hp, fun i hi => ?_⟩
    have hm : l[i] ∈ l.take j := by
      rw [List.mem_take_iff_getElem]
      exact ⟨i, by omega, rfl⟩
    rw [h _ hm]; simp
  rw [firstI, e]
theorem firstI_none {p : α → Bool} {l : List α} (h : ∀ x ∈ l, p x = false) : firstI p l = -1 := by
  have e : l.findIdx? p = none := by rw [List.findIdx?_eq_none_iff]; exact h
  rw [firstI, e]
theorem firstI_cases (p : α → Bool) (l : List α) : (firstI p l = -1 ∧ ∀ x ∈ l, p x = false) ∨ ∃ (j : Nat) (x : α), firstI p l = (j : Int) ∧ l[j]? = some x ∧ p x = true ∧ ∀ y ∈ l.take j, p y = false := by
  cases e : l.findIdx? p with
  | none => exact Or.inl ⟨by rw [firstI, e], List.findIdx?_eq_none_iff.1 e⟩
  | some j =>
    obtain ⟨hj, hp, hn⟩ := List.findIdx?_eq_some_iff_getElem.1 e
    refine Or.inr ⟨j, l[j], by rw [firstI, e], List.getElem?_eq_getElem hj, hp, fun y hy => ?_⟩
    obtain ⟨i, hi, rfl⟩ := List.mem_take_iff_getElem.1 hy
    have := hn i (by omega)
    simpa using this
theorem not_take_succ {p : α → Bool} {l : List α} {j : Nat} (h : ∀ x ∈ l.take j, p x = false) {x : α} (hj : l[j]? = some x) (hp : p x = false) : ∀ y ∈ l.take (j + 1), p y = false := by
  intro y hy
  rw [List.take_add_one, hj] at hy
  rcases List.mem_append.1 hy with e | e
  · exact h y e
  · simp at e; subst e; exact hp
end Go.Proofs.Ytpjfhakmffcolaa

end
