/- Slices that can be read: their values, whoever owns them. No program in sight. -/
import Derived.Test.YtdhcfgbnjnidfaaHeap
import Derived.Laws.BytesArg
import Derived.Laws.Strings
import Derived.Lib.Bytes
import Derived.Deep.Quiet
namespace Go.Proofs.Ytdhcfgbnjnidfaa
open Go Go.RowKit

/-- The slice v of n elements, each of sz cells, reads as the cells vs. -/
def Rd (w : World) (sz : Nat) (v : Value) (n : Nat) (vs : List Value) : Prop :=
  ∃ p c, v = .slice p n c ∧ vs.length = n * sz ∧ n ≤ c ∧ c ≤ maxLen ∧ (p = none → n = 0 ∧ c = 0) ∧ ∀ ad, p = some ad → ∀ j u, vs[j]? = some u → w.cell? (ad.add j) = some u

theorem Rd.nil (w : World) (sz : Nat) : Rd w sz (.slice none 0 0) 0 [] := ⟨none, 0, rfl, by simp, Nat.le_refl _, by simp [maxLen], fun _ => ⟨rfl, rfl⟩, fun ad h => by cases h⟩
theorem Rd.of_owns {w : World} {base : Nat} {e : TypeId} {sz : Nat} {v : Value} {n : Nat} {vs : List Value} (h : w.ownsRow base e sz v n vs) : Rd w sz v n vs := by
  rcases owns_cases h with ⟨rfl, rfl, rfl⟩ | ⟨g, cap, rfl, _, h1, h2⟩
  · exact Rd.nil w sz
  · exact ⟨_, _, rfl, h.1, h1, h2, (fun e => by cases e), fun ad e => by cases e; exact h.cells rfl⟩
theorem Rd.of_cells {w w' : World} {sz : Nat} {v : Value} {n : Nat} {vs : List Value} (h : Rd w sz v n vs) (hc : ∀ (a : Addr) (u : Value), w.cell? a = some u → (∃ p, v = .slice (some p) n (match v with | .slice _ _ c => c | _ => 0) ∧ a.block = p.block) → w'.cell? a = some u) : Rd w' sz v n vs := by
  obtain ⟨p, c, rfl, h1, h2, h3, h4, h5⟩ := h
  refine ⟨p, c, rfl, h1, h2, h3, h4, fun ad e j u hu => ?_⟩
  subst e
  refine hc _ _ (h5 ad rfl j u hu) ⟨ad, rfl, ?_⟩
  unfold Addr.add; split <;> rfl
theorem Rd.below {w w' : World} {sz : Nat} {v : Value} {n : Nat} {vs : List Value} (h : Rd w sz v n vs) (hb : Below w.heap.size w w') : Rd w' sz v n vs :=
  h.of_cells fun a _ hc _ => (hb.cell (World.block_lt_of_cell? w a hc)).trans hc
theorem Rd.mods {S : Nat → Prop} {w w' : World} {sz : Nat} {v : Value} {n : Nat} {vs : List Value} (h : Rd w sz v n vs) (hm : Mods S w w') (hs : ∀ k, v.ownBlock = some k → ¬ S k) : Rd w' sz v n vs :=
  h.of_cells fun a _ hc ⟨p, hp, ha⟩ => hm.cell hc (hs _ (by rw [hp, ha]; rfl))
theorem Rd.mods' {S : Nat → Prop} {w w' : World} {sz : Nat} {v : Value} {n : Nat} {vs : List Value} (h : Rd w sz v n vs) (hm : Mods S w w') (hs : vs ≠ [] → ∀ k, v.ownBlock = some k → ¬ S k) : Rd w' sz v n vs := by
  by_cases e : vs = []
  · subst e
    obtain ⟨p, c, rfl, h1, h2, h3, h4, _⟩ := h
    exact ⟨p, c, rfl, h1, h2, h3, h4, fun ad _ j u hu => by simp at hu⟩
  · exact h.mods hm (hs e)
theorem Rd.len {w : World} {sz : Nat} {v : Value} {n : Nat} {vs : List Value} (h : Rd w sz v n vs) : vs.length = n * sz := by obtain ⟨_, _, _, h1, _⟩ := h; exact h1
theorem Rd.le {w : World} {sz : Nat} {v : Value} {n : Nat} {vs : List Value} (h : Rd w sz v n vs) : n ≤ maxLen := by obtain ⟨_, _, _, _, h1, h2, _⟩ := h; omega

/-- A slice that is not empty has an address. -/
theorem Rd.at {w : World} {sz : Nat} {v : Value} {n : Nat} {vs : List Value} (h : Rd w sz v n vs) (hne : vs ≠ []) :
    ∃ b off c, v = .slice (some ⟨b, off, none⟩) n c ∧ n ≤ c ∧ c ≤ maxLen ∧ ∀ (j : Nat) (u : Value), vs[j]? = some u → w.cell? ⟨b, off + j, none⟩ = some u := by
  obtain ⟨p, c, rfl, h1, h2, h3, h4, h5⟩ := h
  cases p with
  | none =>
    obtain ⟨rfl, _⟩ := h4 rfl
    exact absurd (List.eq_nil_of_length_eq_zero (by simpa using h1)) hne
  | some ad =>
    obtain ⟨b, off, spot⟩ := ad
    obtain ⟨x, hx⟩ : ∃ x, vs[0]? = some x := by
      cases vs with
      | nil => exact absurd rfl hne
      | cons x _ => exact ⟨x, rfl⟩
    have hspot : spot = none := by simpa [Addr.add] using World.cell?_spot (h5 _ rfl 0 x hx)
    subst hspot
    refine ⟨b, off, c, rfl, h2, h3, fun j u hu => ?_⟩
    have := h5 _ rfl j u hu
    simp only [Addr.add] at this
    split at this
    · next h0 => subst h0; simpa using this
    · exact this
theorem Rd.lt {w : World} {sz : Nat} {v : Value} {n : Nat} {vs : List Value} (h : Rd w sz v n vs) (hne : vs ≠ []) : ∀ k, v.ownBlock = some k → k < w.heap.size := by
  intro k hk
  obtain ⟨b, off, c, rfl, _, _, hc⟩ := h.at hne
  obtain ⟨x, hx⟩ : ∃ x, vs[0]? = some x := by
    cases vs with
    | nil => exact absurd rfl hne
    | cons x _ => exact ⟨x, rfl⟩
  simp only [Value.ownBlock, Option.some.injEq] at hk
  subst hk
  exact World.block_lt_of_cell? w _ (hc 0 x hx)
theorem Rd.shape {w : World} {sz : Nat} {v : Value} {n : Nat} {vs : List Value} (h : Rd w sz v n vs) : ∃ p c, v = .slice p n c := by obtain ⟨p, c, h, _⟩ := h; exact ⟨p, c, h⟩

/-- A region that draws its order, all of whose operations leave the world in a class C and yield the same value in each world of C. -/
theorem wp_region_class {P : Program} {C : World → Prop} {id : Nat} {Q : Exit → Act → World → Prop} {a : Act} {w : World} {l : List Oper} (hC : C w.drew) (hm : P.follows .mixedOrders = true) (hB : Region.lexB .any l.toArray = true)
    (h : wpQuiet P l.toArray C (fun a' => ∀ w', C w' → Q .normal a' w') l a) : (Code.region id l.toArray true).wp P Q a w :=
  wp_region_quiet (C := C) hm hB hC (by simpa using h)

/-- An element type e of the slice type t: its cells, its bytes. -/
structure Elem (P : Program) (t e : TypeId) (sz bytes : Nat) : Prop where
  ht : P.underlying t = some (.slice e)
  hi : ∃ i z, P.info? e = some i ∧ i.zero = some z ∧ i.size = sz ∧ i.bytes = bytes ∧ z.cells.size = sz
  pos : 0 < sz
theorem Elem.mk' {P : Program} {t e : TypeId} {z : Value} {sz bytes : Nat} (ht : P.underlying t = some (.slice e)) (h : (P.info? e).map (fun i => (i.zero, i.size, i.bytes)) = some (some z, sz, bytes)) (hz : z.cells.size = sz) (hp : 0 < sz) : Elem P t e sz bytes := by
  obtain ⟨i, h1, h2, h3, h4⟩ := info_parts h
  exact ⟨ht, ⟨i, z, h1, h2, h3, h4, hz⟩, hp⟩

section
variable {P : Program}
/-- 'append(s, x)' of one element: x lies in a new block of its own. -/
theorem wpList_push {t e : TypeId} {sz bytes : Nat} (hE : Elem P t e sz bytes) (w : World) (us : Array Value) (v : Value) (n : Nat) (xs : List Value) (hown : w.ownsRow 0 e sz v n xs) (hus : us.size = sz) (h1 : ∀ u ∈ us.toList, u.oneCell' = true) (hb : (n + 1) * bytes ≤ 140737488355328 ∧ n + 1 ≤ maxLen)
    {ops : Array Oper} {rest : List Oper} {o : Oper} {a : Act} {Q : Exit → Act → World → Prop} (hgd : Region.wanted o (yielded ops a.tmps) = true) (s x : Operand) (ho : o.op = .call { callee := .builtin .append, args := #[s, x], argTypes := #[t, t] })
    (hs : a.eval s = v) (hx : a.eval x = .slice (some ⟨w.heap.size, 0, none⟩) 1 1)
    (h : ∀ v' w', w'.ownsRow 0 e sz v' (n + 1) (xs ++ us.toList) → Mods (fun k => v.ownBlock = some k) w w' → Fresh w.heap.size v v' → wpList P ops Q rest (a.put o.dst v') w') : wpList P ops Q (o :: rest) a (w.alloc (.cells us e)) := by
  obtain ⟨i, z, hi, hz, hsize, hby, hzs⟩ := hE.hi
  refine wpList_app (w.alloc (.cells us e)) hgd s x t ho e i z sz bytes hE.ht hi hz hsize hby hzs hE.pos v n xs hs (hown.alloc _) ⟨w.heap.size, 0, none⟩ 1 1 us.toList hx (by simp [hus]) ?_ h1 hb.2 hb.1 ?_
  · intro j u hj
    have e1 : (⟨w.heap.size, 0, none⟩ : Addr).add j = ⟨w.heap.size, j, none⟩ := by unfold Addr.add; split <;> simp_all
    rw [e1, (Blk.new w us e).cell]
    exact hj
  · intro v' w' a1 a2 a3
    refine h v' w' a1 ((Mods.alloc _ _ _).trans a2 (fun _ _ e => e)) (fun k hk => ?_)
    rcases a3 k hk with e | e
    · exact Or.inl e
    · exact Or.inr (by simp at e; omega)

/-- 'append(s, xs...)'. -/
theorem wpList_extend {t e : TypeId} {sz bytes : Nat} (hE : Elem P t e sz bytes) (w : World) (v v2 : Value) (n m : Nat) (xs news : List Value) (hown : w.ownsRow 0 e sz v n xs) (hr : Rd w sz v2 m news) (h1 : ∀ u ∈ news, u.oneCell' = true) (hb : (n + m) * bytes ≤ 140737488355328 ∧ n + m ≤ maxLen)
    {ops : Array Oper} {rest : List Oper} {o : Oper} {a : Act} {Q : Exit → Act → World → Prop} (hgd : Region.wanted o (yielded ops a.tmps) = true) (s x : Operand) (ho : o.op = .call { callee := .builtin .append, args := #[s, x], argTypes := #[t, t] })
    (hs : a.eval s = v) (hx : a.eval x = v2)
    (h : ∀ v' w', w'.ownsRow 0 e sz v' (n + m) (xs ++ news) → Mods (fun k => v.ownBlock = some k) w w' → Fresh w.heap.size v v' → wpList P ops Q rest (a.put o.dst v') w') : wpList P ops Q (o :: rest) a w := by
  obtain ⟨i, z, hi, hz, hsize, hby, hzs⟩ := hE.hi
  obtain ⟨p, c, rfl, hl, hc1, hc2, hnil, hcell⟩ := hr
  cases p with
  | none =>
    obtain ⟨rfl, rfl⟩ := hnil rfl
    obtain rfl : news = [] := List.eq_nil_of_length_eq_zero (by simpa using hl)
    refine BigFrame.wpList_want hgd fun K hK => ?_
    have hr := run_append_owned_none (P := P) w 0 t o.type e i sz hE.ht hi v n xs hown
    unfold Oper.wp execOp
    simp only [ho, resolve, invoke, builtin, Sem.run_bind, Sem.run_pure, Result.andThen_ok, List.map_toArray, List.map_cons, List.map_nil, hs, hx, hr]
    exact hK _ _ (h v w (by simpa using hown) (Mods.refl _ _) (Fresh.refl _ _))
  | some ad => exact wpList_app w hgd s x t ho e i z sz bytes hE.ht hi hz hsize hby hzs hE.pos v n xs hs hown ad m c news hx hl (hcell ad rfl) h1 hb.2 hb.1 h
end

theorem one_cell (u : Value) (h : u.oneCell' = true) : ∀ x ∈ (#[u] : Array Value).toList, x.oneCell' = true := by
  intro x hx; simp at hx; subst hx; exact h

def u8s (l : List Nat) : List Value := l.map (fun n : Nat => Value.int .u8 (n : Int))
theorem u8s_length (l : List Nat) : (u8s l).length = l.length := by simp [u8s]
theorem u8s_append (a b : List Nat) : u8s (a ++ b) = u8s a ++ u8s b := by simp [u8s]
theorem u8s_set (l : List Nat) (i n : Nat) : (u8s l).set i (.int .u8 n) = u8s (l.set i n) := by simp [u8s, List.map_set]
theorem u8s_get (l : List Nat) (i : Nat) (h : i < l.length) : (u8s l)[i]? = some (.int .u8 (l[i] : Nat)) := by simp [u8s, h]

theorem u8s_oneCell (l : List Nat) : ∀ u ∈ u8s l, u.oneCell' = true := by
  intro u hu
  simp only [u8s, List.mem_map] at hu
  obtain ⟨n, _, rfl⟩ := hu
  rfl

/-- The bytes of a list of numbers, as a string. -/
def strOf (l : List Nat) : ByteArray := strOfNums (l.map fun n : Nat => (n : Int))
theorem strOf_inj {l k : List Nat} (hl : ∀ x ∈ l, x < 256) (hk : ∀ x ∈ k, x < 256) : ((strOf l).toList == (strOf k).toList) = decide (l = k) := by
  have e : ∀ l : List Nat, (strOf l).toList = l.map (fun n => UInt8.ofNat n) := fun l => by
    rw [strOf, Lib.strOfNums_toList]; simp [Lib.bytesOf, List.map_map, Function.comp_def]
  rw [e, e]
  by_cases h : l = k
  · simp [h]
  · have : ¬ (l.map (fun n => UInt8.ofNat n) = k.map (fun n => UInt8.ofNat n)) := fun hm => h (by
      have hm' := congrArg (List.map UInt8.toNat) hm
      rw [List.map_map, List.map_map] at hm'
      have key : ∀ l : List Nat, (∀ x ∈ l, x < 256) → l.map (UInt8.toNat ∘ fun n => UInt8.ofNat n) = l := by
        intro l hl
        conv => rhs; rw [← List.map_id l]
        apply List.map_congr_left
        intro x hx
        simp [Nat.mod_eq_of_lt (hl x hx)]
      rw [key l hl, key k hk] at hm'
      exact hm')
    simp [h, this]

theorem Rd.conv {P : Program} {w : World} {v : Value} {n : Nat} {l : List Nat} (h : Rd w 1 v n (u8s l)) (src e dst : TypeId) (hs : P.underlying src = some (.slice e)) (he : P.underlying e = some (.int .u8)) (hd : P.underlying dst = some .string) :
    (convert src dst v).run P w = .ok (.string (strOf l)) w := by
  obtain ⟨p, c, rfl, h1, h2, h3, h4, h5⟩ := h
  rw [u8s_length] at h1
  cases p with
  | none =>
    obtain ⟨rfl, rfl⟩ := h4 rfl
    obtain rfl : l = [] := List.eq_nil_of_length_eq_zero (by simpa using h1)
    exact run_convert_bytes_nil w src e hs he 0 0 dst hd
  | some ad =>
    by_cases hn : n = 0
    · subst hn
      obtain rfl : l = [] := List.eq_nil_of_length_eq_zero (by simpa using h1)
      rw [run_convert_bytes_string w src dst e _ 0 c hs he hd]
      simp [Conv.bytesToString, loadCells, loadCellsFrom, strOf, strOfNums]; rfl
    · obtain ⟨b, off, spot⟩ := ad
      have hcell : ∀ i, i < n → w.cell? ((⟨b, off, spot⟩ : Addr).add i) = some (.int .u8 ((l.map fun n : Nat => (n : Int)).getD i 0)) := fun i hi => by
        rw [h5 _ rfl i _ (u8s_get l i (by omega))]; simp [List.getD, show i < l.length by omega]
      have hspot : spot = none := by simpa [Addr.add] using World.cell?_spot (hcell 0 (by omega))
      subst hspot
      exact run_convert_bytes_arg w src e hs he b off n c _ (by simp; omega) (fun i hi => by
        have := hcell i hi
        simp only [Addr.add] at this
        split at this
        · next h0 => subst h0; simpa using this
        · exact this) dst hd
end Go.Proofs.Ytdhcfgbnjnidfaa
