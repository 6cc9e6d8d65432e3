/- Heap, Slice, Array, Open, Own1, Made, BytesU, OwnB, in one text. -/
import Derived.WalkKit
import Derived.BigFrame
import Derived.OneCell
import Derived.Laws.OwnMore
import Derived.Deep.Draws
import Derived.Laws.BytesArg
import Derived.Laws.Strings
import Derived.Lib.Bytes
import Derived.Deep.Quiet
import Derived.Laws.Rows
import Derived.Laws.PanicsMore
import Derived.ProofKit
import Derived.OpenShut
import Derived.Deep.Slices
import Derived.SizedLaws
import Derived.Test.YtlgphgipfjlbfaaDoorProg
import Derived.WalkSpells
import Derived.WalkLawsBesides
import Derived.Outline
import Derived.Lib.Hide
import Derived.Deep.QuietTactic
import Derived.BigQuiet
import Derived.StillTailTactics
import Derived.Laws.IdiomStrings
import Derived.Lib.SlBytesConst

section
/- Blocks of cells, what a step may change, and an append whose result is known to be new memory or the old row. No program in sight. -/
namespace Go.Proofs.YtlgphgipfjlbfaaDoor
open Go Go.RowKit

theorem ret_int {k : IntKind} {a b : Int} (h : a = b) : Ending.returned (.int k a) = .returned (.int k b) := by rw [h]
theorem ret_bool {a b : Bool} (h : a = b) : Ending.returned (.bool a) = .returned (.bool b) := by rw [h]

/-- Block b holds the cells cs; none of them is frozen. -/
def Blk (w : World) (b : Nat) (cs : List Value) : Prop := ∃ t, w.heap[b]? = some (.cells cs.toArray t (0, 0))

theorem Blk.lt {w : World} {b : Nat} {cs : List Value} (h : Blk w b cs) : b < w.heap.size := by obtain ⟨t, h⟩ := h; exact lt_of_block h
theorem Blk.cell {w : World} {b : Nat} {cs : List Value} (h : Blk w b cs) (i : Nat) : w.cell? ⟨b, i, none⟩ = cs[i]? := by
  obtain ⟨t, h⟩ := h; rw [cell_of_row w b i _ t (0, 0) h]; simp
theorem Blk.free {w : World} {b : Nat} {cs : List Value} (h : Blk w b cs) (i : Nat) : w.frozen? ⟨b, i, none⟩ = false := by obtain ⟨t, h⟩ := h; exact frozen_of_row w b i _ t h
theorem Blk.set {w : World} {b : Nat} {cs : List Value} (h : Blk w b cs) (i : Nat) (u : Value) : Blk (w.setCell ⟨b, i, none⟩ u) b (cs.set i u) := by
  obtain ⟨t, h⟩ := h; exact ⟨t, by rw [heap_setCell_same w b i _ t u h]; simp⟩
theorem Blk.of_same {w w' : World} {b : Nat} {cs : List Value} (h : Blk w b cs) (e : w'.heap[b]? = w.heap[b]?) : Blk w' b cs := by obtain ⟨t, h⟩ := h; exact ⟨t, e.trans h⟩
theorem Blk.set_other {w : World} {b : Nat} {cs : List Value} (h : Blk w b cs) {a : Addr} (ha : b ≠ a.block) (u : Value) : Blk (w.setCell a u) b cs := h.of_same (heap_setCell_other w a b u ha)
theorem Blk.alloc {w : World} {b : Nat} {cs : List Value} (h : Blk w b cs) (o : Obj) : Blk (w.alloc o) b cs := h.of_same (Below.heap_alloc w o b h.lt)
theorem Blk.drew {w : World} {b : Nat} {cs : List Value} (h : Blk w b cs) : Blk w.drew b cs := h
theorem Blk.new (w : World) (cs : Array Value) (t : TypeId) : Blk (w.alloc (.cells cs t)) w.heap.size cs.toList := ⟨t, by simpa using heap_alloc_new w (.cells cs t)⟩
theorem Blk.det {w : World} {b : Nat} {cs ds : List Value} (h : Blk w b cs) (k : Blk w b ds) : cs = ds := by
  obtain ⟨t, h⟩ := h; obtain ⟨u, k⟩ := k
  rw [h] at k; simp at k; exact k.1

/-- w' is w, but for the blocks of S and for new blocks. -/
structure Mods (S : Nat → Prop) (w w' : World) : Prop where
  os : w'.os = w.os
  tape : w'.tape = w.tape
  output : w'.output = w.output
  size : w.heap.size ≤ w'.heap.size
  block : ∀ k, k < w.heap.size → ¬ S k → w'.heap[k]? = w.heap[k]?

theorem Mods.refl (S : Nat → Prop) (w : World) : Mods S w w := ⟨rfl, rfl, rfl, Nat.le_refl _, fun _ _ _ => rfl⟩
theorem Mods.trans {S T : Nat → Prop} {a b c : World} (h : Mods S a b) (k : Mods T b c) (ht : ∀ j, j < a.heap.size → T j → S j) : Mods S a c :=
  ⟨k.os.trans h.os, k.tape.trans h.tape, k.output.trans h.output, Nat.le_trans h.size k.size,
    fun j hj hs => (k.block j (Nat.lt_of_lt_of_le hj h.size) (fun e => hs (ht j hj e))).trans (h.block j hj hs)⟩
theorem Mods.mono {S T : Nat → Prop} {a b : World} (h : Mods S a b) (hs : ∀ j, j < a.heap.size → S j → T j) : Mods T a b :=
  ⟨h.os, h.tape, h.output, h.size, fun j hj ht => h.block j hj (fun e => ht (hs j hj e))⟩
theorem Mods.alloc (S : Nat → Prop) (w : World) (o : Obj) : Mods S w (w.alloc o) := ⟨rfl, rfl, rfl, by simp, fun k hk _ => Below.heap_alloc w o k hk⟩
theorem Mods.drew (S : Nat → Prop) (w : World) : Mods S w w.drew := ⟨rfl, rfl, rfl, Nat.le_refl _, fun _ _ _ => rfl⟩
theorem Mods.drewN (S : Nat → Prop) (w : World) (n : Nat) : Mods S w (w.drewN n) := ⟨rfl, rfl, rfl, Nat.le_refl _, fun _ _ _ => rfl⟩
theorem Mods.set (S : Nat → Prop) (w : World) (a : Addr) (u : Value) (h : a.block < w.heap.size → S a.block) : Mods S w (w.setCell a u) :=
  ⟨rfl, rfl, rfl, by simp, fun k hk hs => heap_setCell_other w a k u (fun e => hs (e ▸ h (e ▸ hk)))⟩
theorem Mods.blk {S : Nat → Prop} {w w' : World} {b : Nat} {cs : List Value} (h : Mods S w w') (hb : Blk w b cs) (hs : ¬ S b) : Blk w' b cs := hb.of_same (h.block b hb.lt hs)
theorem Mods.below {S : Nat → Prop} {w w' : World} {B : Nat} (h : Mods S w w') (hB : B ≤ w.heap.size) (hs : ∀ k, k < B → ¬ S k) : Below B w w' := ⟨h.os, h.tape, h.output, h.size, fun k hk => h.block k (by omega) (hs k hk)⟩
theorem Mods.of_below {w w' : World} (h : Below w.heap.size w w') (S : Nat → Prop) : Mods S w w' := ⟨h.os, h.tape, h.output, h.size, fun k hk _ => h.block k hk⟩
theorem Mods.of_grown {w w' : World} {row : Option Nat} (h : w.grownBy w' row) : Mods (fun k => row = some k) w w' := ⟨h.os, h.tape, h.output, h.size, fun k hk hs => h.block k hk (fun e => hs e.symm)⟩
theorem Mods.cell {S : Nat → Prop} {w w' : World} (h : Mods S w w') {a : Addr} {u : Value} (hc : w.cell? a = some u) (hs : ¬ S a.block) : w'.cell? a = some u :=
  (World.cell?_of_block (h.block a.block (World.block_lt_of_cell? w a hc) hs)).trans hc
theorem Mods.owns {S : Nat → Prop} {w w' : World} (h : Mods S w w') {base : Nat} {e : TypeId} {size : Nat} {v : Value} {n : Nat} {xs : List Value} (ho : w.ownsRow base e size v n xs) (hs : ∀ k, v.ownBlock = some k → ¬ S k) : w'.ownsRow base e size v n xs := by
  refine ⟨ho.1, ?_⟩
  rcases ho.2 with hn | ⟨g, cap, cur, rfl, hb, hg, r⟩
  · exact Or.inl hn
  · exact Or.inr ⟨g, cap, cur, rfl, hb, by rw [h.block g (Array.getElem?_eq_some_iff.1 hg).1 (hs g rfl)]; exact hg, r⟩

/-- What an owned row is. -/
theorem owns_cases {w : World} {base : Nat} {e : TypeId} {size : Nat} {v : Value} {n : Nat} {xs : List Value} (h : w.ownsRow base e size v n xs) :
    (v = .slice none 0 0 ∧ n = 0 ∧ xs = []) ∨ ∃ g cap, v = .slice (some ⟨g, 0, none⟩) n cap ∧ g < w.heap.size ∧ n ≤ cap ∧ cap ≤ maxLen := by
  rcases h.2 with ⟨rfl, rfl⟩ | ⟨g, cap, cur, rfl, hb, hg, hn, hm, _⟩
  · exact Or.inl ⟨rfl, rfl, List.eq_nil_of_length_eq_zero (by simpa using h.1)⟩
  · exact Or.inr ⟨g, cap, rfl, lt_of_block hg, hn, hm⟩
theorem owns_lt {w : World} {base : Nat} {e : TypeId} {size : Nat} {v : Value} {n : Nat} {xs : List Value} (h : w.ownsRow base e size v n xs) : ∀ k, v.ownBlock = some k → k < w.heap.size :=
  fun k hk => (h.lt k hk).2
theorem owns_rebase {w : World} {base base' : Nat} {e : TypeId} {size : Nat} {v : Value} {n : Nat} {xs : List Value} (h : w.ownsRow base e size v n xs) (hb : ∀ k, v.ownBlock = some k → base' ≤ k) : w.ownsRow base' e size v n xs := by
  refine ⟨h.1, ?_⟩
  rcases h.2 with hn | ⟨g, cap, cur, rfl, _, r⟩
  · exact Or.inl hn
  · exact Or.inr ⟨g, cap, cur, rfl, hb g rfl, r⟩

/-- The blocks of v' are those of v, or new in a world that was of size B. -/
def Fresh (B : Nat) (v v' : Value) : Prop := ∀ k, v'.ownBlock = some k → v.ownBlock = some k ∨ B ≤ k
theorem Fresh.refl (B : Nat) (v : Value) : Fresh B v v := fun _ h => Or.inl h
theorem Fresh.trans {B C : Nat} {u v x : Value} (h : Fresh B u v) (k : Fresh C v x) (hBC : B ≤ C) : Fresh B u x := fun j hj => by
  rcases k j hj with h1 | h1
  · exact h j h1
  · exact Or.inr (by omega)

section
variable {P : Program} (w : World)
/-- An append to an owned row: where the result lies is known. -/
theorem run_app (t ty e : TypeId) (i : TypeInfo) (z : Value) (size bytes : Nat) (ht : P.underlying t = some (.slice e)) (hi : P.info? e = some i) (hz : i.zero = some z)
    (hsize : i.size = size) (hby : i.bytes = bytes) (hzs : z.cells.size = size) (hsz : 0 < size)
    (v : Value) (n : Nat) (xs : List Value) (hown : w.ownsRow 0 e size v n xs)
    (a : Addr) (m c : Nat) (news : List Value) (hl : news.length = m * size) (hnews : ∀ j u, news[j]? = some u → w.cell? (a.add j) = some u) (h1 : ∀ u ∈ news, u.oneCell' = true)
    (h63 : n + m ≤ maxLen) (hbytes : (n + m) * bytes ≤ 140737488355328) :
    ∃ v' w', (Builtin.append_ #[t, t] ty #[v, .slice (some a) m c]).run P w = .ok v' w' ∧ w'.ownsRow 0 e size v' (n + m) (xs ++ news) ∧ Mods (fun k => v.ownBlock = some k) w w' ∧ Fresh w.heap.size v v' := by
  have hsmall : n + m ≤ 9223372036854775807 := by simp only [maxLen] at h63; omega
  rcases owns_cases hown with ⟨rfl, rfl, rfl⟩ | ⟨g, cap, rfl, hg, hnc, hcm⟩
  · obtain ⟨v', w', hr, h2, h3, _⟩ := run_append_own (P := P) w w.heap.size t ty e i z size bytes ht hi hz hsize hby hzs hsz _ 0 [] (World.ownsRow_nil _ _ _ _) a m c news hl hnews h1 h63 hbytes (Nat.le_refl _)
    exact ⟨v', w', hr, owns_rebase h2 (fun _ _ => Nat.zero_le _), Mods.of_grown h3, fun k hk => Or.inr (h2.lt k hk).1⟩
  · by_cases hroom : n + m ≤ cap
    · obtain ⟨w', hr, h2, h3⟩ := run_append_fits (P := P) w 0 t ty e i size ht hi hsize g n cap xs hown a m c news hl hnews h1 hroom
      exact ⟨_, w', hr, h2, Mods.of_grown h3, fun k hk => Or.inl hk⟩
    · subst hsize
      subst hby
      have holds : ∀ j u, xs[j]? = some u → w.cell? ((⟨g, 0, none⟩ : Addr).add j) = some u := hown.cells (g := g) rfl
      have hr := run_append_grow (P := P) w t ty e i z ht hi hz ⟨g, 0, none⟩ n cap xs hown.1 holds a m c news hl hnews (by omega) (by omega) (growslice_fits (by omega) hbytes)
      have hge := grownCap_ge w (n + m) cap e
      have hlen : (xs ++ news).length = (n + m) * i.size := by rw [List.length_append, hown.1, hl, Nat.add_mul]
      refine ⟨_, _, hr, ⟨hlen, .inr ⟨w.heap.size, _, _, rfl, Nat.zero_le _, heap_alloc_new w.drew _, hge, grownCap_le_maxLen w (n + m) cap e h63, ?_, ?_⟩⟩, ⟨rfl, rfl, rfl, by simp, fun k hk _ => Below.heap_alloc w.drew _ k hk⟩, ?_⟩
      · simp only [Array.size_append, List.size_toArray, size_zeroCells, hzs, hown.1, hl, ← Nat.add_mul]
        congr 1
        omega
      · simp only [Array.toList_append, List.append_assoc]
        rw [← List.append_assoc, ← hlen]
        exact List.take_left
      · intro k hk
        simp only [Value.ownBlock, Option.some.injEq] at hk
        exact Or.inr (by omega)

theorem wpList_app {ops : Array Oper} {rest : List Oper} {o : Oper} {a : Act} {Q : Exit → Act → World → Prop} (hgd : Region.wanted o (yielded ops a.tmps) = true) (s x : Operand) (t : TypeId)
    (ho : o.op = .call { callee := .builtin .append, args := #[s, x], argTypes := #[t, t] })
    (e : TypeId) (i : TypeInfo) (z : Value) (size bytes : Nat) (ht : P.underlying t = some (.slice e)) (hi : P.info? e = some i) (hz : i.zero = some z)
    (hsize : i.size = size) (hby : i.bytes = bytes) (hzs : z.cells.size = size) (hsz : 0 < size)
    (v : Value) (n : Nat) (xs : List Value) (hs : a.eval s = v) (hown : w.ownsRow 0 e size v n xs)
    (ad : Addr) (m c : Nat) (news : List Value) (hx : a.eval x = .slice (some ad) m c) (hl : news.length = m * size) (hnews : ∀ j u, news[j]? = some u → w.cell? (ad.add j) = some u) (h1 : ∀ u ∈ news, u.oneCell' = true)
    (h63 : n + m ≤ maxLen) (hbytes : (n + m) * bytes ≤ 140737488355328)
    (h : ∀ v' w', w'.ownsRow 0 e size v' (n + m) (xs ++ news) → Mods (fun k => v.ownBlock = some k) w w' → Fresh w.heap.size v v' → wpList P ops Q rest (a.put o.dst v') w') : wpList P ops Q (o :: rest) a w := by
  refine BigFrame.wpList_want hgd fun K hK => ?_
  obtain ⟨v', w', hr, h2, h3, h4⟩ := run_app (P := P) w t o.type e i z size bytes ht hi hz hsize hby hzs hsz v n xs hown ad m c news hl hnews h1 h63 hbytes
  unfold Oper.wp execOp
  simp only [ho, resolve, invoke, builtin, Sem.run_bind, Sem.run_pure, Result.andThen_ok, List.map_toArray, List.map_cons, List.map_nil, hs, hx, hr]
  exact hK _ _ (h v' w' h2 h3 h4)

/-- The one cell that 'append(s, x)' lays for x. -/
theorem news_one (x : Value) (t : TypeId) : ∀ (j : Nat) (u : Value), [x][j]? = some u → (w.alloc (.cells #[x] t)).cell? ((⟨w.heap.size, 0, none⟩ : Addr).add j) = some u := by
  intro j u hj
  match j, hj with
  | 0, hj => simp at hj; subst hj; simp [Addr.add]
end
end Go.Proofs.YtlgphgipfjlbfaaDoor

end

section
/- Slices that can be read: their values, whoever owns them. No program in sight. -/
namespace Go.Proofs.YtlgphgipfjlbfaaDoor
open Go Go.RowKit

/-- The slice v of n elements, each of sz cells, reads as the cells vs. -/
def Rd (w : World) (sz : Nat) (v : Value) (n : Nat) (vs : List Value) : Prop :=
  ∃ p c, v = .slice p n c ∧ vs.length = n * sz ∧ n ≤ c ∧ c ≤ maxLen ∧ (p = none → n = 0 ∧ c = 0) ∧ ∀ ad, p = some ad → ∀ j u, vs[j]? = some u → w.cell? (ad.add j) = some u

theorem Rd.nil (w : World) (sz : Nat) : Rd w sz (.slice none 0 0) 0 [] := ⟨none, 0, rfl, by simp, Nat.le_refl _, by simp [maxLen], fun _ => ⟨rfl, rfl⟩, fun ad h => by cases h⟩
theorem Rd.of_owns {w : World} {base : Nat} {e : TypeId} {sz : Nat} {v : Value} {n : Nat} {vs : List Value} (h : w.ownsRow base e sz v n vs) : Rd w sz v n vs := by
  rcases owns_cases h with ⟨rfl, rfl, rfl⟩ | ⟨g, cap, rfl, _, h1, h2⟩
  · exact Rd.nil w sz
  · exact ⟨_, _, rfl, h.1, h1, h2, (fun e => by cases e), fun ad e => by cases e; exact h.cells rfl⟩
theorem Rd.of_cells {w w' : World} {sz : Nat} {v : Value} {n : Nat} {vs : List Value} (h : Rd w sz v n vs) (hc : ∀ (a : Addr) (u : Value), w.cell? a = some u → (∃ p, v = .slice (some p) n (match v with | .slice _ _ c => c | _ => 0) ∧ a.block = p.block) → w'.cell? a = some u) : Rd w' sz v n vs := by
  obtain ⟨p, c, rfl, h1, h2, h3, h4, h5⟩ := h
  refine ⟨p, c, rfl, h1, h2, h3, h4, fun ad e j u hu => ?_⟩
  subst e
  refine hc _ _ (h5 ad rfl j u hu) ⟨ad, rfl, ?_⟩
  unfold Addr.add; split <;> rfl
theorem Rd.below {w w' : World} {sz : Nat} {v : Value} {n : Nat} {vs : List Value} (h : Rd w sz v n vs) (hb : Below w.heap.size w w') : Rd w' sz v n vs :=
  h.of_cells fun a _ hc _ => (hb.cell (World.block_lt_of_cell? w a hc)).trans hc
theorem Rd.mods {S : Nat → Prop} {w w' : World} {sz : Nat} {v : Value} {n : Nat} {vs : List Value} (h : Rd w sz v n vs) (hm : Mods S w w') (hs : ∀ k, v.ownBlock = some k → ¬ S k) : Rd w' sz v n vs :=
  h.of_cells fun a _ hc ⟨p, hp, ha⟩ => hm.cell hc (hs _ (by rw [hp, ha]; rfl))
theorem Rd.mods' {S : Nat → Prop} {w w' : World} {sz : Nat} {v : Value} {n : Nat} {vs : List Value} (h : Rd w sz v n vs) (hm : Mods S w w') (hs : vs ≠ [] → ∀ k, v.ownBlock = some k → ¬ S k) : Rd w' sz v n vs := by
  by_cases e : vs = []
  · subst e
    obtain ⟨p, c, rfl, h1, h2, h3, h4, _⟩ := h
    exact ⟨p, c, rfl, h1, h2, h3, h4, fun ad _ j u hu => by simp at hu⟩
  · exact h.mods hm (hs e)
theorem Rd.len {w : World} {sz : Nat} {v : Value} {n : Nat} {vs : List Value} (h : Rd w sz v n vs) : vs.length = n * sz := by obtain ⟨_, _, _, h1, _⟩ := h; exact h1
theorem Rd.le {w : World} {sz : Nat} {v : Value} {n : Nat} {vs : List Value} (h : Rd w sz v n vs) : n ≤ maxLen := by obtain ⟨_, _, _, _, h1, h2, _⟩ := h; omega

/-- A slice that is not empty has an address. -/
theorem Rd.at {w : World} {sz : Nat} {v : Value} {n : Nat} {vs : List Value} (h : Rd w sz v n vs) (hne : vs ≠ []) :
    ∃ b off c, v = .slice (some ⟨b, off, none⟩) n c ∧ n ≤ c ∧ c ≤ maxLen ∧ ∀ (j : Nat) (u : Value), vs[j]? = some u → w.cell? ⟨b, off + j, none⟩ = some u := by
  obtain ⟨p, c, rfl, h1, h2, h3, h4, h5⟩ := h
  cases p with
  | none =>
    obtain ⟨rfl, _⟩ := h4 rfl
    exact absurd (List.eq_nil_of_length_eq_zero (by simpa using h1)) hne
  | some ad =>
    obtain ⟨b, off, spot⟩ := ad
    obtain ⟨x, hx⟩ : ∃ x, vs[0]? = some x := by
      cases vs with
      | nil => exact absurd rfl hne
      | cons x _ => exact ⟨x, rfl⟩
    have hspot : spot = none := by simpa [Addr.add] using World.cell?_spot (h5 _ rfl 0 x hx)
    subst hspot
    refine ⟨b, off, c, rfl, h2, h3, fun j u hu => ?_⟩
    have := h5 _ rfl j u hu
    simp only [Addr.add] at this
    split at this
    · next h0 => subst h0; simpa using this
    · exact this
theorem Rd.lt {w : World} {sz : Nat} {v : Value} {n : Nat} {vs : List Value} (h : Rd w sz v n vs) (hne : vs ≠ []) : ∀ k, v.ownBlock = some k → k < w.heap.size := by
  intro k hk
  obtain ⟨b, off, c, rfl, _, _, hc⟩ := h.at hne
  obtain ⟨x, hx⟩ : ∃ x, vs[0]? = some x := by
    cases vs with
    | nil => exact absurd rfl hne
    | cons x _ => exact ⟨x, rfl⟩
  simp only [Value.ownBlock, Option.some.injEq] at hk
  subst hk
  exact World.block_lt_of_cell? w _ (hc 0 x hx)
theorem Rd.shape {w : World} {sz : Nat} {v : Value} {n : Nat} {vs : List Value} (h : Rd w sz v n vs) : ∃ p c, v = .slice p n c := by obtain ⟨p, c, h, _⟩ := h; exact ⟨p, c, h⟩

/-- A region that draws its order, all of whose operations leave the world in a class C and yield the same value in each world of C. -/
theorem wp_region_class {P : Program} {C : World → Prop} {id : Nat} {Q : Exit → Act → World → Prop} {a : Act} {w : World} {l : List Oper} (hC : C w.drew) (hm : P.follows .mixedOrders = true) (hB : Region.lexB .any l.toArray = true)
    (h : wpQuiet P l.toArray C (fun a' => ∀ w', C w' → Q .normal a' w') l a) : (Code.region id l.toArray true).wp P Q a w :=
  wp_region_quiet (C := C) hm hB hC (by simpa using h)

/-- An element type e of the slice type t: its cells, its bytes. -/
structure Elem (P : Program) (t e : TypeId) (sz bytes : Nat) : Prop where
  ht : P.underlying t = some (.slice e)
  hi : ∃ i z, P.info? e = some i ∧ i.zero = some z ∧ i.size = sz ∧ i.bytes = bytes ∧ z.cells.size = sz
  pos : 0 < sz
theorem Elem.mk' {P : Program} {t e : TypeId} {z : Value} {sz bytes : Nat} (ht : P.underlying t = some (.slice e)) (h : (P.info? e).map (fun i => (i.zero, i.size, i.bytes)) = some (some z, sz, bytes)) (hz : z.cells.size = sz) (hp : 0 < sz) : Elem P t e sz bytes := by
  obtain ⟨i, h1, h2, h3, h4⟩ := info_parts h
  exact ⟨ht, ⟨i, z, h1, h2, h3, h4, hz⟩, hp⟩

section
variable {P : Program}
/-- 'append(s, x)' of one element: x lies in a new block of its own. -/
theorem wpList_push {t e : TypeId} {sz bytes : Nat} (hE : Elem P t e sz bytes) (w : World) (us : Array Value) (v : Value) (n : Nat) (xs : List Value) (hown : w.ownsRow 0 e sz v n xs) (hus : us.size = sz) (h1 : ∀ u ∈ us.toList, u.oneCell' = true) (hb : (n + 1) * bytes ≤ 140737488355328 ∧ n + 1 ≤ maxLen)
    {ops : Array Oper} {rest : List Oper} {o : Oper} {a : Act} {Q : Exit → Act → World → Prop} (hgd : Region.wanted o (yielded ops a.tmps) = true) (s x : Operand) (ho : o.op = .call { callee := .builtin .append, args := #[s, x], argTypes := #[t, t] })
    (hs : a.eval s = v) (hx : a.eval x = .slice (some ⟨w.heap.size, 0, none⟩) 1 1)
    (h : ∀ v' w', w'.ownsRow 0 e sz v' (n + 1) (xs ++ us.toList) → Mods (fun k => v.ownBlock = some k) w w' → Fresh w.heap.size v v' → wpList P ops Q rest (a.put o.dst v') w') : wpList P ops Q (o :: rest) a (w.alloc (.cells us e)) := by
  obtain ⟨i, z, hi, hz, hsize, hby, hzs⟩ := hE.hi
  refine wpList_app (w.alloc (.cells us e)) hgd s x t ho e i z sz bytes hE.ht hi hz hsize hby hzs hE.pos v n xs hs (hown.alloc _) ⟨w.heap.size, 0, none⟩ 1 1 us.toList hx (by simp [hus]) ?_ h1 hb.2 hb.1 ?_
  · intro j u hj
    have e1 : (⟨w.heap.size, 0, none⟩ : Addr).add j = ⟨w.heap.size, j, none⟩ := by unfold Addr.add; split <;> simp_all
    rw [e1, (Blk.new w us e).cell]
    exact hj
  · intro v' w' a1 a2 a3
    refine h v' w' a1 ((Mods.alloc _ _ _).trans a2 (fun _ _ e => e)) (fun k hk => ?_)
    rcases a3 k hk with e | e
    · exact Or.inl e
    · exact Or.inr (by simp at e; omega)

/-- 'append(s, xs...)'. -/
theorem wpList_extend {t e : TypeId} {sz bytes : Nat} (hE : Elem P t e sz bytes) (w : World) (v v2 : Value) (n m : Nat) (xs news : List Value) (hown : w.ownsRow 0 e sz v n xs) (hr : Rd w sz v2 m news) (h1 : ∀ u ∈ news, u.oneCell' = true) (hb : (n + m) * bytes ≤ 140737488355328 ∧ n + m ≤ maxLen)
    {ops : Array Oper} {rest : List Oper} {o : Oper} {a : Act} {Q : Exit → Act → World → Prop} (hgd : Region.wanted o (yielded ops a.tmps) = true) (s x : Operand) (ho : o.op = .call { callee := .builtin .append, args := #[s, x], argTypes := #[t, t] })
    (hs : a.eval s = v) (hx : a.eval x = v2)
    (h : ∀ v' w', w'.ownsRow 0 e sz v' (n + m) (xs ++ news) → Mods (fun k => v.ownBlock = some k) w w' → Fresh w.heap.size v v' → wpList P ops Q rest (a.put o.dst v') w') : wpList P ops Q (o :: rest) a w := by
  obtain ⟨i, z, hi, hz, hsize, hby, hzs⟩ := hE.hi
  obtain ⟨p, c, rfl, hl, hc1, hc2, hnil, hcell⟩ := hr
  cases p with
  | none =>
    obtain ⟨rfl, rfl⟩ := hnil rfl
    obtain rfl : news = [] := List.eq_nil_of_length_eq_zero (by simpa using hl)
    refine BigFrame.wpList_want hgd fun K hK => ?_
    have hr := run_append_owned_none (P := P) w 0 t o.type e i sz hE.ht hi v n xs hown
    unfold Oper.wp execOp
    simp only [ho, resolve, invoke, builtin, Sem.run_bind, Sem.run_pure, Result.andThen_ok, List.map_toArray, List.map_cons, List.map_nil, hs, hx, hr]
    exact hK _ _ (h v w (by simpa using hown) (Mods.refl _ _) (Fresh.refl _ _))
  | some ad => exact wpList_app w hgd s x t ho e i z sz bytes hE.ht hi hz hsize hby hzs hE.pos v n xs hs hown ad m c news hx hl (hcell ad rfl) h1 hb.2 hb.1 h
end

theorem one_cell (u : Value) (h : u.oneCell' = true) : ∀ x ∈ (#[u] : Array Value).toList, x.oneCell' = true := by
  intro x hx; simp at hx; subst hx; exact h

def u8s (l : List Nat) : List Value := l.map (fun n : Nat => Value.int .u8 (n : Int))
theorem u8s_length (l : List Nat) : (u8s l).length = l.length := by simp [u8s]
theorem u8s_append (a b : List Nat) : u8s (a ++ b) = u8s a ++ u8s b := by simp [u8s]
theorem u8s_set (l : List Nat) (i n : Nat) : (u8s l).set i (.int .u8 n) = u8s (l.set i n) := by simp [u8s, List.map_set]
theorem u8s_get (l : List Nat) (i : Nat) (h : i < l.length) : (u8s l)[i]? = some (.int .u8 (l[i] : Nat)) := by simp [u8s, h]

theorem u8s_oneCell (l : List Nat) : ∀ u ∈ u8s l, u.oneCell' = true := by
  intro u hu
  simp only [u8s, List.mem_map] at hu
  obtain ⟨n, _, rfl⟩ := hu
  rfl

/-- The bytes of a list of numbers, as a string. -/
def strOf (l : List Nat) : ByteArray := strOfNums (l.map fun n : Nat => (n : Int))
theorem strOf_inj {l k : List Nat} (hl : ∀ x ∈ l, x < 256) (hk : ∀ x ∈ k, x < 256) : ((strOf l).toList == (strOf k).toList) = decide (l = k) := by
  have e : ∀ l : List Nat, (strOf l).toList = l.map (fun n => UInt8.ofNat n) := fun l => by
    rw [strOf, Lib.strOfNums_toList]; simp [Lib.bytesOf, List.map_map, Function.comp_def]
  rw [e, e]
  by_cases h : l = k
  · simp [h]
  · have : ¬ (l.map (fun n => UInt8.ofNat n) = k.map (fun n => UInt8.ofNat n)) := fun hm => h (by
      have hm' := congrArg (List.map UInt8.toNat) hm
      rw [List.map_map, List.map_map] at hm'
      have key : ∀ l : List Nat, (∀ x ∈ l, x < 256) → l.map (UInt8.toNat ∘ fun n => UInt8.ofNat n) = l := by
        intro l hl
        conv => rhs; rw [← List.map_id l]
        apply List.map_congr_left
        intro x hx
        simp [Nat.mod_eq_of_lt (hl x hx)]
      rw [key l hl, key k hk] at hm'
      exact hm')
    simp [h, this]

theorem Rd.conv {P : Program} {w : World} {v : Value} {n : Nat} {l : List Nat} (h : Rd w 1 v n (u8s l)) (src e dst : TypeId) (hs : P.underlying src = some (.slice e)) (he : P.underlying e = some (.int .u8)) (hd : P.underlying dst = some .string) :
    (convert src dst v).run P w = .ok (.string (strOf l)) w := by
  obtain ⟨p, c, rfl, h1, h2, h3, h4, h5⟩ := h
  rw [u8s_length] at h1
  cases p with
  | none =>
    obtain ⟨rfl, rfl⟩ := h4 rfl
    obtain rfl : l = [] := List.eq_nil_of_length_eq_zero (by simpa using h1)
    exact run_convert_bytes_nil w src e hs he 0 0 dst hd
  | some ad =>
    by_cases hn : n = 0
    · subst hn
      obtain rfl : l = [] := List.eq_nil_of_length_eq_zero (by simpa using h1)
      rw [run_convert_bytes_string w src dst e _ 0 c hs he hd]
      simp [Conv.bytesToString, loadCells, loadCellsFrom, strOf, strOfNums]; rfl
    · obtain ⟨b, off, spot⟩ := ad
      have hcell : ∀ i, i < n → w.cell? ((⟨b, off, spot⟩ : Addr).add i) = some (.int .u8 ((l.map fun n : Nat => (n : Int)).getD i 0)) := fun i hi => by
        rw [h5 _ rfl i _ (u8s_get l i (by omega))]; simp [List.getD, show i < l.length by omega]
      have hspot : spot = none := by simpa [Addr.add] using World.cell?_spot (hcell 0 (by omega))
      subst hspot
      exact run_convert_bytes_arg w src e hs he b off n c _ (by simp; omega) (fun i hi => by
        have := hcell i hi
        simp only [Addr.add] at this
        split at this
        · next h0 => subst h0; simpa using this
        · exact this) dst hd
end Go.Proofs.YtlgphgipfjlbfaaDoor

end

section
/- Arrays of numbers as values: a variable that holds one, loads, stores, elements. No program in sight. -/
namespace Go.Proofs.YtlgphgipfjlbfaaDoor
open Go Go.RowKit

def u32s (l : List Nat) : List Value := l.map fun n : Nat => Value.int .u32 (n : Int)
theorem u32s_length (l : List Nat) : (u32s l).length = l.length := by simp [u32s]
theorem u32s_one (l : List Nat) : ∀ u ∈ u32s l, u.oneCell' = true := by
  intro u hu
  simp only [u32s, List.mem_map] at hu
  obtain ⟨n, _, rfl⟩ := hu
  rfl
theorem u32s_get (l : List Nat) (i x : Nat) (h : l[i]? = some x) : (u32s l)[i]? = some (.int .u32 (x : Int)) := by simp [u32s, h]
theorem u32s_set (l : List Nat) (i x : Nat) : (u32s l).set i (.int .u32 (x : Int)) = u32s (l.set i x) := by simp [u32s, List.map_set]

/-- Whether a type's values are made of several cells. -/
def manyCells : TypeDesc → Bool
  | .struct _ | .array _ _ => true
  | _ => false
/-- An array type t of n elements of type e, each one cell, whose zero value is z. -/
structure Arr (P : Program) (t e : TypeId) (n : Nat) (z : Value) : Prop where
  ht : P.underlying t = some (.array n e)
  hi : ∃ i, P.info? t = some i ∧ i.zero = some (.agg (List.replicate n z).toArray) ∧ i.size = n
  he : ∃ i, P.info? e = some i ∧ i.size = 1
  hl : ∃ d, P.underlying e = some d ∧ manyCells d = false

theorem Arr.mk' {P : Program} {t e : TypeId} {n : Nat} {z : Value} (ht : P.underlying t = some (.array n e)) (hi : (P.info? t).map (fun i => (i.zero, i.size)) = some (some (.agg (List.replicate n z).toArray), n)) (he : (P.info? e).map (·.size) = some 1)
    {d : TypeDesc} (hd : P.underlying e = some d) (hl : manyCells d = false) : Arr P t e n z := by
  obtain ⟨i, h1, h2⟩ := Option.map_eq_some_iff.1 hi
  obtain ⟨j, h3, h4⟩ := Option.map_eq_some_iff.1 he
  simp only [Prod.mk.injEq] at h2
  exact ⟨ht, ⟨i, h1, h2.1, h2.2⟩, ⟨j, h3, h4⟩, ⟨d, hd, hl⟩⟩

theorem mods_setRow (w : World) (g : Nat) (cs : Array Value) : Mods (fun k => k = g) w (w.setRow g cs) :=
  ⟨rfl, rfl, rfl, by simp, fun k _ hs => setRow_other w g k cs hs⟩

section
variable {P : Program} {ops : Array Oper} {rest : List Oper} {o : Oper} {a : Act} {w : World} {Q : Exit → Act → World → Prop} {t e : TypeId} {n : Nat} {z : Value}

/-- A new variable that holds the array. -/
theorem wpList_boxA (hg : o.guard = none) (t : TypeId) (x : Operand) (ho : o.op = .box t x) (cs : List Value) (hx : a.eval x = .agg cs.toArray)
    (h : ∀ w', Blk w' w.heap.size cs → Below w.heap.size w w' → w'.heap.size = w.heap.size + 1 → wpList P ops Q rest (a.put o.dst (.pointer (some ⟨w.heap.size, 0, none⟩))) w') : wpList P ops Q (o :: rest) a w := by
  refine wpList_plain hg fun K hK => ?_
  unfold Oper.wp execOp
  simp only [ho, hx, Sem.run_bind, Instr.box, newVar, newRow, run_newObj_alloc, Sem.run_pure, Result.andThen_ok]
  exact hK _ _ (h _ (by simpa [Value.cells] using Blk.new w cs.toArray t) ((Below.refl _ _).alloc (Nat.le_refl _) _) (by simp))

/-- A new variable that holds the zero value. -/
theorem wpList_allocA (hA : Arr P t e n z) (hg : o.guard = none) (ho : o.op = .alloc t)
    (h : ∀ w', Blk w' w.heap.size (List.replicate n z) → Below w.heap.size w w' → w'.heap.size = w.heap.size + 1 → wpList P ops Q rest (a.put o.dst (.pointer (some ⟨w.heap.size, 0, none⟩))) w') : wpList P ops Q (o :: rest) a w := by
  obtain ⟨i, hi, hz, hs⟩ := hA.hi
  refine wpList_plain hg fun K hK => ?_
  have hzv : (zeroValue t).run P w = .ok (.agg (List.replicate n z).toArray) w := by simp [zeroValue, typeInfo, hi, hz]
  unfold Oper.wp execOp
  simp only [ho, Sem.run_bind, Instr.alloc, hzv, newVar, newRow, run_newObj_alloc, Sem.run_pure, Result.andThen_ok]
  exact hK _ _ (h _ (by simpa [Value.cells] using Blk.new w (List.replicate n z).toArray t) ((Below.refl _ _).alloc (Nat.le_refl _) _) (by simp))

/-- The whole array loaded. -/
theorem wpList_loadA (hA : Arr P t e n z) (hgd : o.guard = none) (x : Operand) (ho : o.op = .load t x) (g : Nat) (hx : a.eval x = .pointer (some ⟨g, 0, none⟩)) (cs : List Value) (hb : Blk w g cs) (hl : cs.length = n)
    (h : wpList P ops Q rest (a.put o.dst (.agg cs.toArray)) w) : wpList P ops Q (o :: rest) a w := by
  obtain ⟨u, hg⟩ := hb
  obtain ⟨i, hi, _, hs⟩ := hA.hi
  exact wpList_load_row hgd t x ho g hx u cs.toArray (0, 0) _ hg hA.ht rfl (by rw [hi]; simp [hs, hl]) h

/-- The whole array stored. -/
theorem wpList_storeA (hA : Arr P t e n z) (hgd : o.guard = none) (x y : Operand) (ho : o.op = .store t x y) (g : Nat) (hx : a.eval x = .pointer (some ⟨g, 0, none⟩)) (cs old : List Value) (hy : a.eval y = .agg cs.toArray)
    (hb : Blk w g old) (hold : old.length = n) (hl : cs.length = n) (h1 : ∀ u ∈ cs, u.oneCell' = true)
    (h : ∀ w', Blk w' g cs → Mods (fun k => k = g) w w' → w'.heap.size = w.heap.size → wpList P ops Q rest (a.put o.dst undef) w') : wpList P ops Q (o :: rest) a w := by
  obtain ⟨u, hg⟩ := hb
  obtain ⟨i, hi, _, hs⟩ := hA.hi
  refine wpList_store_row hgd t x y ho g cs.toArray hx hy u old.toArray hg (by rw [hi]; simp [hs, hl]) (by simp [hold, hl]) (by simpa using h1) ?_
  exact h _ ⟨u, setRow_heap w g _ _ u _ hg⟩ (mods_setRow w g _) (by simp)

/-- One element of an array. -/
theorem wpList_indexA (hA : Arr P t e n z) (hgd : o.guard = none) (x y : Operand) (ho : o.op = .index t x y) (cs : List Value) (hx : a.eval x = .agg cs.toArray) (i : Nat) (hy : a.eval y = .int .i64 (i : Int)) (hi : i < n) (v : Value) (hv : cs[i]? = some v)
    (h : wpList P ops Q rest (a.put o.dst v) w) : wpList P ops Q (o :: rest) a w := by
  obtain ⟨ie, hie, hs⟩ := hA.he
  obtain ⟨d, hd, hnd⟩ := hA.hl
  refine wpList_plain hgd fun K hK => ?_
  have hag : (isAgg e).run P w = .ok false w := by
    unfold isAgg
    rw [Sem.run_bind, run_underlying hd w]
    cases d <;> simp_all [manyCells]
  have hr : (Instr.index t (.agg cs.toArray) (.int .i64 (i : Int))).run P w = .ok v w := by
    have hp : (part e cs.toArray i).run P w = .ok v w := by
      unfold part
      simp [Sem.run_bind, hag, hv]
    simp [Instr.index, asIntOf, Sem.run_bind, run_underlying hA.ht w, sizeOf, typeInfo, hie, hs, hp]
    exact fun hn => absurd hn (by omega)
  unfold Oper.wp execOp
  simp only [ho, hx, hy, Sem.run_bind, hr, Result.andThen_ok]
  exact hK _ _ h

/-- A result that lies in a variable. -/
theorem resultsA (hA : Arr P t e n z) {fn : Func} {p : Tmp} (h : fn.results = #[.cell p t]) (tmps : Array Value) (g : Nat) (hp : tmps.getD p undef = .pointer (some ⟨g, 0, none⟩)) (cs : List Value) (hb : Blk w g cs) (hl : cs.length = n) :
    (results fn tmps).run P w = .ok (.agg cs.toArray) w := by
  obtain ⟨u, hg⟩ := hb
  obtain ⟨i, hi, _, hs⟩ := hA.hi
  exact results_cell_row h tmps w g u cs.toArray (0, 0) _ hp hg hA.ht rfl (by rw [hi]; simp [hs, hl])
end
end Go.Proofs.YtlgphgipfjlbfaaDoor

end

section
/- Arguments that came in, opened: what the cells of a value of a flat type (numbers, bools, strings, and structs and arrays of these) hold; slices of these. No program in sight. -/
namespace Go.Proofs.YtlgphgipfjlbfaaDoor
open Go Go.RowKit Go.ChangeShapes

/-- Every reading at type e is of the cells 'f a' for an 'a' that is 'ok'. -/
def Flat (P : Program) (e : TypeId) (sz : Nat) {α : Type} (f : α → List Value) (ok : α → Prop) : Prop :=
  P.cellsOf e = sz ∧ ∀ (H : Type) (enc : TypeId × Value → H) (w : World) (base : Nat) (spare : Nat → Bool) (held : Bool) (fuel : Nat) (cs : List Value) (x : DataW H × List MemPlace),
    DataW.trod enc P w base spare held fuel e cs = some x → ∃ a, ok a ∧ cs = f a

theorem Flat.map {P : Program} {e : TypeId} {sz : Nat} {α β : Type} {f : α → List Value} {ok : α → Prop} (h : Flat P e sz f ok) {g : β → List Value} {ok' : β → Prop} (hm : ∀ a, ok a → ∃ b, ok' b ∧ f a = g b) : Flat P e sz g ok' :=
  ⟨h.1, fun H enc w base spare held fuel cs x hx => by
    obtain ⟨a, ha, rfl⟩ := h.2 H enc w base spare held fuel cs x hx
    exact hm a ha⟩
theorem flat_int {P : Program} {e : TypeId} {k : IntKind} (he : P.underlying e = some (.int k)) (hc : P.cellsOf e = 1) : Flat P e 1 (fun z : Int => [Value.int k z]) (fun z => (Lit.int k z).wf = true) :=
  ⟨hc, fun H enc w base spare held fuel cs x hx => by
    obtain ⟨n, rfl, _, hw⟩ := DataW.trod_int he hx
    exact ⟨n, hw, rfl⟩⟩
theorem flat_bool {P : Program} {e : TypeId} (he : P.underlying e = some .bool) (hc : P.cellsOf e = 1) : Flat P e 1 (fun b : Bool => [Value.bool b]) (fun _ => True) :=
  ⟨hc, fun H enc w base spare held fuel cs x hx => by
    obtain ⟨n, rfl, _⟩ := DataW.trod_bool he hx
    exact ⟨n, trivial, rfl⟩⟩
theorem flat_string {P : Program} {e : TypeId} (he : P.underlying e = some .string) (hc : P.cellsOf e = 1) : Flat P e 1 (fun s : ByteArray => [Value.string s]) (fun s => s.size ≤ maxLen) :=
  ⟨hc, fun H enc w base spare held fuel cs x hx => by
    obtain ⟨s, rfl, _, hs⟩ := DataW.trod_string he hx
    exact ⟨s, hs, rfl⟩⟩
theorem flat_struct2 {P : Program} {e : TypeId} {f0 f1 : Field} {s0 s1 : Nat} {α β : Type} {g0 : α → List Value} {g1 : β → List Value} {k0 : α → Prop} {k1 : β → Prop}
    (he : P.underlying e = some (.struct #[f0, f1])) (hc : P.cellsOf e = s0 + s1) (o0 : f0.offset = 0) (o1 : f1.offset = s0) (h0 : Flat P f0.type s0 g0 k0) (h1 : Flat P f1.type s1 g1 k1) :
    Flat P e (s0 + s1) (fun a : α × β => g0 a.1 ++ g1 a.2) (fun a => k0 a.1 ∧ k1 a.2) :=
  ⟨hc, fun H enc w base spare held fuel cs x hx => by
    obtain ⟨y0, y1, n, _, hl, t0, t1⟩ := trod_struct2 he hx
    rw [o0, h0.1] at t0
    rw [o1, h1.1] at t1
    obtain ⟨a, ha, ea⟩ := h0.2 H enc w base spare held n _ _ t0
    obtain ⟨b, hb, eb⟩ := h1.2 H enc w base spare held n _ _ t1
    refine ⟨(a, b), ⟨ha, hb⟩, ?_⟩
    show cs = g0 a ++ g1 b
    rw [← ea, ← eb]
    simp only [List.drop_zero]
    rw [List.take_of_length_le (l := cs.drop s0) (by rw [List.length_drop, hl, hc]; omega), List.take_append_drop]⟩

theorem cells_get {w : World} {base : Nat} {a : Addr} {n : Nat} {cs : List Value} (h : w.cells? base a n = some cs) : cs.length = n ∧ ∀ (j : Nat) (u : Value), cs[j]? = some u → w.cell? (a.add j) = some u := by
  unfold World.cells? at h
  split at h
  · have key : ∀ (l : List Nat) (cs : List Value), l.mapM (fun i => w.cell? (a.add i)) = some cs → cs.length = l.length ∧ ∀ (j : Nat) (u : Value), cs[j]? = some u → ∃ i, l[j]? = some i ∧ w.cell? (a.add i) = some u := by
      intro l
      induction l with
      | nil => intro cs h; simp at h; subst h; simp
      | cons i l ih =>
        intro cs h
        rw [List.mapM_cons] at h
        simp only [Option.bind_eq_bind, Option.bind_eq_some_iff, Option.pure_def, Option.some.injEq] at h
        obtain ⟨x, hx, ys, hys, rfl⟩ := h
        obtain ⟨h1, h2⟩ := ih ys hys
        refine ⟨by simp [h1], fun j u hu => ?_⟩
        cases j with
        | zero => simp at hu; subst hu; exact ⟨i, rfl, hx⟩
        | succ j => simp at hu; obtain ⟨i', hi', hc⟩ := h2 j u hu; exact ⟨i', by simpa using hi', hc⟩
    obtain ⟨h1, h2⟩ := key _ _ h
    refine ⟨by simpa using h1, fun j u hu => ?_⟩
    obtain ⟨i, hi, hc⟩ := h2 j u hu
    rw [List.getElem?_range (by rcases Nat.lt_or_ge j n with hj | hj; exact hj; simp [List.getElem?_eq_none (show cs.length ≤ j by rw [h1]; simpa using hj)] at hu)] at hi
    simp at hi
    subst hi
    exact hc
  · cases h

theorem flatMap_get {α β : Type} {sz : Nat} (f : α → List β) (l : List α) (hf : ∀ a ∈ l, (f a).length = sz) (i k : Nat) (hk : k < sz) (u : β) (h : (l.flatMap f)[i * sz + k]? = some u) : ∃ a, l[i]? = some a ∧ (f a)[k]? = some u := by
  induction l generalizing i with
  | nil => simp at h
  | cons a l ih =>
    have ha := hf a (by simp)
    rw [List.flatMap_cons] at h
    cases i with
    | zero =>
      rw [Nat.zero_mul, Nat.zero_add, List.getElem?_append_left (by omega)] at h
      exact ⟨a, rfl, h⟩
    | succ i =>
      rw [List.getElem?_append_right (by rw [ha, Nat.add_mul]; omega), ha, show (i + 1) * sz + k - sz = i * sz + k by rw [Nat.add_mul]; omega] at h
      obtain ⟨b, hb, hu⟩ := ih (fun a ha => hf a (by simp [ha])) i h
      exact ⟨b, by simpa using hb, hu⟩
theorem flatMap_len {α β : Type} {sz : Nat} (f : α → List β) (l : List α) (hf : ∀ a ∈ l, (f a).length = sz) : (l.flatMap f).length = l.length * sz := by
  induction l with
  | nil => simp
  | cons a l ih => rw [List.flatMap_cons, List.length_append, hf a (by simp), ih (fun a ha => hf a (by simp [ha])), List.length_cons, Nat.add_mul]; omega

theorem flatMap_one {α β : Type} (f : α → β) (l : List α) : l.flatMap (fun a => [f a]) = l.map f := by
  induction l with
  | nil => rfl
  | cons a l ih => rw [List.flatMap_cons, ih]; rfl
theorem rd_cell {α : Type} {f : α → Value} {w : World} {v : Value} {l : List α} (h : Rd w 1 v l.length (l.flatMap fun a => [f a])) (j : Nat) (hj : j < l.length) :
    ∃ b off c, v = .slice (some ⟨b, off, none⟩) l.length c ∧ w.cell? ⟨b, off + j, none⟩ = some (f l[j]) ∧ b < w.heap.size := by
  have hg : (l.flatMap fun a => [f a])[j]? = some (f l[j]) := by rw [flatMap_one]; simp [hj]
  obtain ⟨b, off, c, hv, _, _, hc⟩ := h.at (fun e => by rw [e] at hg; simp at hg)
  have := hc j _ hg
  exact ⟨b, off, c, hv, this, World.block_lt_of_cell? w _ this⟩

/-- A slice of a flat type that came in. -/
theorem open_flat {P : Program} {t e : TypeId} {sz : Nat} (hsz : 0 < sz) {α : Type} [Inhabited α] {f : α → List Value} {ok : α → Prop} (hF : Flat P e sz f ok) (ht : P.underlying t = some (.slice e))
    {H : Type} {enc : TypeId × Value → H} {w : World} {base : Nat} {spare : Nat → Bool} {held : Bool} {v : Value} {d : DataW H} {ps : List MemPlace} {n c : Nat} {p : Option Addr} (hv : v = .slice p n c)
    (h : DataW.Trod enc P w base spare held t v d ps) :
    ∃ l : List α, (∀ a ∈ l, ok a) ∧ l.length = n ∧ Rd w sz v l.length (l.flatMap f) ∧ ((d = .nil ∧ l.length = 0) ∨ ∃ elems rest, d = .slice elems rest ∧ elems.length = l.length) := by
  subst hv
  obtain ⟨fuel, h⟩ := h
  rcases Deep.open_slice ht h with ⟨hcs, hx⟩ | ⟨a, len, cap, m, n', D, Pl, hcs, _, hl, hm, hmm, hx, hel⟩
  · simp [Value.cells] at hcs
    obtain ⟨rfl, rfl, rfl⟩ := hcs
    simp at hx
    exact ⟨[], by simp, rfl, Rd.nil w sz, Or.inl ⟨hx.1, rfl⟩⟩
  · simp [Value.cells] at hcs
    obtain ⟨rfl, rfl, rfl⟩ := hcs
    have hml : n ≤ m := by rw [hmm]; split <;> omega
    have hch : ∀ i, i < n → ∃ b : α, ok b ∧ (f b).length = sz ∧ ∀ (j : Nat) (u : Value), (f b)[j]? = some u → w.cell? (a.add (i * sz + j)) = some u := by
      intro i hi
      obtain ⟨cs', h1, h2⟩ := hel i (by omega)
      rw [hF.1] at h1
      obtain ⟨b, hb, rfl⟩ := hF.2 H enc w base spare held n' _ _ h2
      obtain ⟨h3, h4⟩ := cells_get h1
      exact ⟨b, hb, h3, fun j u hu => by rw [← Deep.add_add]; exact h4 j u hu⟩
    obtain ⟨g, hg⟩ := Deep.choose_lt hch
    have hlen : ∀ b ∈ (List.range n).map g, (f b).length = sz := by
      intro b hb
      obtain ⟨i, hi, rfl⟩ := List.mem_map.1 hb
      exact (hg i (List.mem_range.1 hi)).2.1
    simp at hx
    refine ⟨(List.range n).map g, ?_, by simp, ⟨some a, c, by simp, ?_, by simpa using hl, hm, (fun e => by cases e), ?_⟩, Or.inr ⟨_, _, hx.1, by simp⟩⟩
    · intro b hb
      obtain ⟨i, hi, rfl⟩ := List.mem_map.1 hb
      exact (hg i (List.mem_range.1 hi)).1
    · rw [flatMap_len f _ hlen]
    · intro ad e j u hu
      cases e
      have hj : j = j / sz * sz + j % sz := by rw [Nat.mul_comm]; exact (Nat.div_add_mod j sz).symm
      rw [hj] at hu
      obtain ⟨b, hb, hu'⟩ := flatMap_get f _ hlen (j / sz) (j % sz) (Nat.mod_lt _ hsz) u hu
      have hlt : j / sz < n := by
        rcases Nat.lt_or_ge (j / sz) n with h | h
        · exact h
        · rw [List.getElem?_eq_none (by simpa using h)] at hb; cases hb
      rw [List.getElem?_map, List.getElem?_range hlt] at hb
      simp at hb
      subst hb
      rw [hj]
      exact (hg (j / sz) hlt).2.2 _ u hu'

/-- A struct or an array by value. -/
theorem open_flat_agg {P : Program} {t : TypeId} {sz : Nat} {α : Type} {f : α → List Value} {ok : α → Prop} (hF : Flat P t sz f ok)
    {H : Type} {enc : TypeId × Value → H} {w : World} {base : Nat} {spare : Nat → Bool} {held : Bool} {v : Value} {d : DataW H} {ps : List MemPlace} {cs : Array Value} (hv : v = .agg cs)
    (h : DataW.Trod enc P w base spare held t v d ps) : ∃ a : α, ok a ∧ v = .agg (f a).toArray := by
  subst hv
  obtain ⟨fuel, h⟩ := h
  obtain ⟨a, ha, e⟩ := hF.2 H enc w base spare held fuel _ _ h
  exact ⟨a, ha, by rw [← e]; simp [Value.cells]⟩
theorem flat_array2 {P : Program} {t e : TypeId} {s : Nat} {α : Type} {g : α → List Value} {k : α → Prop} (he : P.underlying t = some (.array 2 e)) (hc : P.cellsOf t = s + s) (h : Flat P e s g k) :
    Flat P t (s + s) (fun a : α × α => g a.1 ++ g a.2) (fun a => k a.1 ∧ k a.2) :=
  ⟨hc, fun H enc w base spare held fuel cs x hx => by
    obtain ⟨xs, m, _, _, hl, hlen, hf⟩ := DataW.trod_array he hx
    match xs, hlen with
    | [y0, y1], _ =>
      have t0 := hf 0 (by decide)
      have t1 := hf 1 (by decide)
      rw [h.1] at t0 t1
      obtain ⟨a, ha, ea⟩ := h.2 H enc w base spare held m _ _ t0
      obtain ⟨b, hb, eb⟩ := h.2 H enc w base spare held m _ _ t1
      refine ⟨(a, b), ⟨ha, hb⟩, ?_⟩
      show cs = g a ++ g b
      rw [← ea, ← eb]
      simp only [Nat.zero_mul, Nat.one_mul, List.drop_zero]
      rw [List.take_of_length_le (l := cs.drop s) (by rw [List.length_drop, hl, hc]; omega), List.take_append_drop]⟩

theorem nat_u8 {z : Int} (h : (Lit.int .u8 z).wf = true) : ∃ n : Nat, n < 256 ∧ z = n := by have := bounds_u8 h; exact ⟨z.toNat, by omega, by omega⟩
theorem nat_u16 {z : Int} (h : (Lit.int .u16 z).wf = true) : ∃ n : Nat, n < 65536 ∧ z = n := by have := bounds_u16 h; exact ⟨z.toNat, by omega, by omega⟩
theorem nat_u32 {z : Int} (h : (Lit.int .u32 z).wf = true) : ∃ n : Nat, n < 4294967296 ∧ z = n := by have := bounds_u32 h; exact ⟨z.toNat, by omega, by omega⟩
theorem nat_u64 {z : Int} (h : (Lit.int .u64 z).wf = true) : ∃ n : Nat, n < 18446744073709551616 ∧ z = n := by have := bounds_u64 h; exact ⟨z.toNat, by omega, by omega⟩
theorem int_i64 {z : Int} (h : (Lit.int .i64 z).wf = true) : ∃ n : Int, (-9223372036854775808 ≤ n ∧ n < 9223372036854775808) ∧ z = n := by have := bounds_i64 h; exact ⟨z, by omega, rfl⟩
theorem okWide_arr {P : Program} {w : World} {r : Reach} {base n : Nat} {t e : TypeId} {v : Value} (ht : P.underlying t = some (.array n e)) (h : Value.okWide P w r base t v) : ∃ cs, v = .agg cs ∧ cs.size = P.cellsOf t := by
  simp only [Value.okWide, ht] at h
  obtain ⟨cs, h1, h2, _⟩ := h
  exact ⟨cs, h1, h2⟩

/-- How much such an argument may weigh. -/
theorem sized_flat {P : Program} {H : Type} {ts : List TypeId} {ds : List (DataW H)} (hw : (DataW.weightsEach P ts ds).all (· ≤ reachBytes) = true) {j : Nat} {t e : TypeId} {d : DataW H} {bytes m : Nat}
    (ht : ts[j]? = some t) (hd : ds[j]? = some d) (hu : P.underlying t = some (.slice e)) (hb : P.bytesOf e = bytes) (h : (d = .nil ∧ m = 0) ∨ ∃ elems rest, d = .slice elems rest ∧ elems.length = m) : m * bytes ≤ 140737488351232 := by
  rcases h with ⟨_, rfl⟩ | ⟨elems, rest, rfl, rfl⟩
  · omega
  · have := sized_slice hw ht hd hu
    rw [hb] at this
    have h2 : elems.length * bytes ≤ (elems.length + rest.length) * bytes := Nat.mul_le_mul_right _ (by omega)
    have h3 : reachBytes = 140737488351232 := by decide
    omega

/-- The bytes of a slice of bytes. -/
theorem flat_u8 {P : Program} {e : TypeId} (he : P.underlying e = some (.int .u8)) (hc : P.cellsOf e = 1) : Flat P e 1 (fun n : Nat => [Value.int .u8 (n : Int)]) (fun n => n < 256) :=
  (flat_int he hc).map fun z hz => by
    have := bounds_u8 hz
    exact ⟨z.toNat, by omega, by rw [Int.toNat_of_nonneg (by omega)]⟩
theorem flat_u64 {P : Program} {e : TypeId} (he : P.underlying e = some (.int .u64)) (hc : P.cellsOf e = 1) : Flat P e 1 (fun n : Nat => [Value.int .u64 (n : Int)]) (fun n => n < 18446744073709551616) :=
  (flat_int he hc).map fun z hz => by
    have := bounds_u64 hz
    exact ⟨z.toNat, by omega, by rw [Int.toNat_of_nonneg (by omega)]⟩
theorem flat_i64 {P : Program} {e : TypeId} (he : P.underlying e = some (.int .i64)) (hc : P.cellsOf e = 1) : Flat P e 1 (fun z : Int => [Value.int .i64 z]) (fun z => -9223372036854775808 ≤ z ∧ z < 9223372036854775808) :=
  (flat_int he hc).map fun z hz => by
    have := bounds_i64 hz
    exact ⟨z, by omega, rfl⟩
theorem flatMap_u8s (l : List Nat) : l.flatMap (fun n : Nat => [Value.int .u8 (n : Int)]) = u8s l := by
  induction l with
  | nil => rfl
  | cons a l ih => rw [List.flatMap_cons, ih]; simp [u8s]
end Go.Proofs.YtlgphgipfjlbfaaDoor

end

section
/- A list in a row of the call's own, one cell an element. No program in sight. -/
set_option linter.unusedVariables false
namespace Go.Proofs.YtlgphgipfjlbfaaDoor
open Go Go.RowKit

structure Own1 (t : TypeId) {α : Type} (f : α → Value) (w wr : World) (d : List α) (v : Value) : Prop where
  row : wr.ownsRow w.heap.size t 1 v d.length (d.map f)
  bel : Below w.heap.size w wr
variable {t : TypeId} {α : Type} {f : α → Value}
theorem Own1.nil (w : World) : Own1 t f w w [] (.slice none 0 0) := ⟨World.ownsRow_nil _ _ _ _, Below.refl _ _⟩
theorem Own1.drewN {w wr : World} {d : List α} {v : Value} (h : Own1 t f w wr d v) (n : Nat) : Own1 t f w (wr.drewN n) d v :=
  ⟨(Mods.drewN (fun _ => False) wr n).owns h.row (fun _ _ e => e), h.bel.trans ((Mods.drewN (fun _ => False) wr n).below h.bel.size (fun _ _ e => e))⟩
theorem Own1.below {w wr w1 : World} {d : List α} {v : Value} (h : Own1 t f w wr d v) (hb : Below wr.heap.size wr w1) : Own1 t f w w1 d v :=
  ⟨(Mods.of_below hb (fun _ => False)).owns h.row (fun _ _ e => e), h.bel.trans (hb.mono h.bel.size)⟩
theorem Own1.pushed {w wr w1 : World} {d : List α} {v v1 : Value} {x : α} (h : Own1 t f w wr d v) (k : w1.ownsRow 0 t 1 v1 (d.length + 1) (d.map f ++ [f x])) (m : Mods (fun k => v.ownBlock = some k) wr w1) (hf : Fresh wr.heap.size v v1) : Own1 t f w w1 (d ++ [x]) v1 := by
  refine ⟨?_, h.bel.trans (m.below h.bel.size (fun k hk e => by have := (h.row.lt k e).1; omega))⟩
  rw [List.length_append, List.map_append]
  refine owns_rebase k (fun k hk => ?_)
  rcases hf k hk with e | e
  · exact (h.row.lt k e).1
  · have := h.bel.size; omega
theorem Own1.extended {w wr w1 : World} {d e : List α} {v v1 : Value} (h : Own1 t f w wr d v) (k : w1.ownsRow 0 t 1 v1 (d.length + e.length) (d.map f ++ e.map f)) (m : Mods (fun k => v.ownBlock = some k) wr w1) (hf : Fresh wr.heap.size v v1) : Own1 t f w w1 (d ++ e) v1 := by
  refine ⟨?_, h.bel.trans (m.below h.bel.size (fun k hk e => by have := (h.row.lt k e).1; omega))⟩
  rw [List.length_append, List.map_append]
  refine owns_rebase k (fun k hk => ?_)
  rcases hf k hk with e | e
  · exact (h.row.lt k e).1
  · have := h.bel.size; omega
theorem Own1.shape {w wr : World} {d : List α} {v : Value} (h : Own1 t f w wr d v) : ∃ p c, v = .slice p d.length c := (Rd.of_owns h.row).shape
theorem Own1.rd {w wr : World} {d : List α} {v : Value} (h : Own1 t f w wr d v) : Rd wr 1 v d.length (d.map f) := Rd.of_owns h.row
theorem Own1.base0 {w wr : World} {d : List α} {v : Value} (h : Own1 t f w wr d v) : wr.ownsRow 0 t 1 v d.length (d.map f) := owns_rebase h.row (fun _ _ => Nat.zero_le _)
theorem Own1.stored {w wr : World} {d e : List α} {g n c i : Nat} {y : α} (h : Own1 t f w wr d (.slice (some ⟨g, 0, none⟩) n c)) (he : d.set i y = e) : Own1 t f w (wr.setCell ⟨g, i, none⟩ (f y)) e (.slice (some ⟨g, 0, none⟩) n c) := by
  subst he
  have hn : n = d.length := by
    obtain ⟨p, c', h'⟩ := (Rd.of_owns h.row).shape
    simp only [Value.slice.injEq] at h'
    exact h'.2.1
  subst hn
  have hm : Mods (fun k => k = g) wr (wr.setCell ⟨g, i, none⟩ (f y)) := Mods.set _ _ _ _ (fun _ => rfl)
  have hg := (h.row.lt g rfl).1
  refine ⟨?_, h.bel.trans (hm.below h.bel.size (fun k hk e => by omega))⟩
  rw [List.length_set, List.map_set]
  exact (h.row.stored i _).1
theorem Own1.cell {w wr : World} {d : List α} {g n c i : Nat} (h : Own1 t f w wr d (.slice (some ⟨g, 0, none⟩) n c)) (hi : i < d.length) : wr.cell? ⟨g, i, none⟩ = some (f d[i]) ∧ wr.frozen? ⟨g, i, none⟩ = false := by
  have hn : n = d.length := by
    obtain ⟨p, c', h'⟩ := (Rd.of_owns h.row).shape
    simp only [Value.slice.injEq] at h'
    exact h'.2.1
  subst hn
  refine ⟨?_, h.row.frozenAt _⟩
  rw [h.row.cellAt i (by omega)]
  simp [hi]
/-- Cell i of a list that is read. -/
theorem rd1_cell {w : World} {b off c n : Nat} {d : List α} (h : Rd w 1 (.slice (some ⟨b, off, none⟩) n c) n (d.map f)) {i : Nat} (hi : i < d.length) : w.cell? ⟨b, off + i, none⟩ = some (f d[i]) := by
  obtain ⟨b2, o2, c2, e, _, _, hc⟩ := h.at (fun e => by have := congrArg List.length e; simp at this; subst this; simp at hi)
  simp only [Value.slice.injEq, Option.some.injEq, Addr.mk.injEq] at e
  obtain ⟨⟨rfl, rfl, _⟩, _, rfl⟩ := e
  exact hc i _ (by simp [hi])

theorem shift_setG (d : List α) (k : Nat) (y z : α) (hk : k ≤ d.length) : (d.take k ++ y :: d.drop k).set k z = d.take k ++ z :: d.drop k := by
  have hl : (d.take k).length = k := by rw [List.length_take]; omega
  rw [List.set_append_right _ _ (by omega), hl, Nat.sub_self, List.set_cons_zero]
theorem shift_eqG (d : List α) (k : Nat) (hk : k < d.length) (z : α) (hz : d[k] = z) : d.take (k + 1) ++ z :: d.drop (k + 1) = d.take k ++ z :: d.drop k := by
  have e : d.drop k = z :: d.drop (k + 1) := by rw [← hz, List.getElem_cons_drop]
  rw [List.take_add_one, List.getElem?_eq_getElem hk, hz, e, List.append_assoc]
  rfl
end Go.Proofs.YtlgphgipfjlbfaaDoor

end

section
/- What a call makes; the tactics. -/
namespace Go.Proofs.YtlgphgipfjlbfaaDoor
open Go Go.RowKit

/-- A slice that the call has made. -/
def Made (w w' : World) (e : TypeId) (sz : Nat) (r : Value) (n : Nat) (vs : List Value) : Prop := w'.ownsRow w.heap.size e sz r n vs ∧ Below w.heap.size w w'
end Go.Proofs.YtlgphgipfjlbfaaDoor

end

section
/- Slices of bytes: what a call makes. (Cut from XBytes.) -/
namespace Go.Proofs.YtlgphgipfjlbfaaDoor
open Go Go.RowKit

theorem Tryd.infoU8 : (Tryd.prog.info? 5).map (fun i => (i.zero, i.size, i.bytes)) = some (some (.int .u8 0), 1, 1) := by kernel_rfl

theorem Tryd.elemU8 : Elem Tryd.prog 22 5 1 1 := Elem.mk' Tryd.underlying22 Tryd.infoU8 rfl (by decide)

/-- A literal slice of bytes, built in a block of its own. -/
theorem lit_rd (w : World) (cs : Array Value) (l : List Nat) (h : cs.toList = u8s l) (hn : l.length ≤ maxLen) : Rd (w.alloc (.cells cs 5)) 1 (.slice (some ⟨w.heap.size, 0, none⟩) l.length l.length) l.length (u8s l) := by
  have hs : cs.size = l.length * 1 := by rw [← Array.length_toList, h, u8s_length, Nat.mul_one]
  have := Rd.of_owns (World.ownsRow_lit (base := 0) (e := 5) w cs l.length (Nat.zero_le _) (by simpa using hn) hs)
  rwa [h] at this

/-- '[]byte("..")' of a constant: its block bears a mark. -/
theorem lit_rd_mark (w : World) (cs : Array Value) (fr : Nat × Nat) (l : List Nat) (n : Nat) (h : cs.toList = u8s l) (hl : l.length = n) (hn : n ≤ maxLen) : Rd (w.alloc (.cells cs 5 fr)) 1 (.slice (some ⟨w.heap.size, 0, none⟩) n n) l.length (u8s l) := by
  subst hl
  refine ⟨_, _, rfl, by simp [u8s_length], Nat.le_refl _, hn, (fun e => by cases e), fun ad e j u hu => ?_⟩
  cases e
  have e1 : (⟨w.heap.size, 0, none⟩ : Addr).add j = ⟨w.heap.size, j, none⟩ := by unfold Addr.add; split <;> simp_all
  rw [e1, World.cell?_alloc_mark, ← Array.getElem?_toList, h]
  exact hu

theorem calls_flip {P : Program} {f : FuncId} {args : Array Value} {w : World} {r : Ending} (h : Calls P f args w fun e w' => e = r ∧ w = w') : Calls P f args w fun e w' => e = r ∧ w' = w := h.mono fun _ _ h => ⟨h.1, h.2.symm⟩
end Go.Proofs.YtlgphgipfjlbfaaDoor

end

section
/- Rows of bytes of the call's own; a result that is bytes and an error. -/
set_option linter.unusedVariables false
namespace Go.Proofs.YtlgphgipfjlbfaaDoor
open Go Go.RowKit


abbrev OwnB := Own1 5 (fun c : Nat => Value.int .u8 (c : Int))

/-- A result that is bytes and an error. -/
structure GotB (w : World) (o : Nat × List Nat) (e : Ending) (w' : World) : Prop where
  res : ∃ r, e = .returned (.tuple #[r, .int .i64 (o.1 : Int)]) ∧ Rd w' 1 r o.2.length (u8s o.2) ∧ (∀ k, r.ownBlock = some k → w.heap.size ≤ k)
  bel : Below w.heap.size w w'
end Go.Proofs.YtlgphgipfjlbfaaDoor

end
