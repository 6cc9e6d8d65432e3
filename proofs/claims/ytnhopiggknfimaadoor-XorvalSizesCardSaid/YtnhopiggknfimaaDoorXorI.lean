/- Layer 6: what the walks ask of the program's Put, Get and Size, whatever they look like inside. -/
import Derived.Test.YtnhopiggknfimaaDoorRef06C
import Derived.Test.YtnhopiggknfimaaDoorEqualU
import Derived.Test.YtnhopiggknfimaaDoorBitioD
set_option linter.unusedVariables false
namespace Go.Proofs.YtnhopiggknfimaaDoor
open Go Go.RowKit

theorem below_drewV (w : World) : Below w.heap.size w w.drew := ⟨rfl, rfl, rfl, Nat.le_refl _, fun _ _ => rfl⟩
/-- What Get leaves. -/
structure GetQV (p : Nat) (v : Value) (bs : List Nat) (w : World) (o : Res (List Nat)) (e : Ending) (w' : World) : Prop where
  res : ∃ r, e = .returned (.tuple #[r, .int .i64 (o.e : Int)]) ∧ Rd w' 1 r o.x.length (u64s o.x) ∧ (∀ k, r.ownBlock = some k → w.heap.size ≤ k)
  rd : RBitsPost p v (8 * bs.length - o.r.length) bs w w'

/-- T w: what the program's own memory, in the blocks below G, must hold. -/
structure VIf (G : Nat) (T : World → Prop) : Prop where
  keeps : ∀ {S : Nat → Prop} {w w' : World}, T w → Mods S w w' → (∀ k, k < G → ¬ S k) → T w'
  low : ∀ {w : World}, T w → G ≤ w.heap.size
  put : ∀ (p : Nat) (v lv : Value) (bits : List Bool) (l : List Nat) (w : World), T w → WriterIn w p v bits → G ≤ p → (∀ k, v.ownBlock = some k → G ≤ k) → Rd w 1 lv l.length (u64s l) → (∀ t ∈ l, in64u t) →
    (l ≠ [] → ∀ k, lv.ownBlock = some k → k ≠ p ∧ v.ownBlock ≠ some k) → bits.length + 78 * l.length ≤ 70368744177000 →
    Calls Tryd.prog 12 #[.pointer (some ⟨p, 0, none⟩), lv] w fun e w' => e = .returned (.int .i64 0) ∧ BitsPost p v (bits ++ encV l) w w'
  putNil : ∀ (w : World), T w → Calls Tryd.prog 12 #[.pointer none, .slice none 0 0] w fun e w' => e = .returned (.int .i64 1) ∧ Below w.heap.size w w'
  get : ∀ (p : Nat) (v : Value) (i n : Nat) (bs : List Nat) (w : World), T w → ReaderIn w p v i bs → G ≤ p → n ≤ 1000000 → bs.length ≤ 8796093022200 →
    Calls Tryd.prog 20 #[.pointer (some ⟨p, 0, none⟩), .int .i64 (n : Int)] w (GetQV p v bs w (decV n ((unpack bs).drop i)))
  getNeg : ∀ (p : Nat) (v : Value) (i : Nat) (n : Int) (bs : List Nat) (w : World), T w → ReaderIn w p v i bs → G ≤ p → n < 0 → -9223372036854775808 ≤ n → 
    Calls Tryd.prog 20 #[.pointer (some ⟨p, 0, none⟩), .int .i64 n] w fun e w' => (∃ r, e = .returned (.tuple #[r, .int .i64 2]) ∧ Rd w' 1 r 0 []) ∧ RBitsPost p v i bs w w'
  size : ∀ (lv : Value) (l : List Nat) (w : World), T w → Rd w 1 lv l.length (u64s l) → (∀ t ∈ l, in64u t) → 78 * l.length ≤ 70368744177000 →
    Calls Tryd.prog 18 #[lv] w fun e w' => e = .returned (.int .i64 ((encV l).length : Int)) ∧ Below w.heap.size w w'

theorem VIf.below {G : Nat} {T : World → Prop} (I : VIf G T) {w w' : World} (h : T w) (hb : Below w.heap.size w w') : T w' := I.keeps h (Mods.of_below hb (fun _ => False)) (fun _ _ h => h)

/-- A writer that was made at a time when the heap held b blocks. -/
structure WrV (G : Nat) (T : World → Prop) (b : Nat) (w : World) (p : Nat) (v : Value) (bits : List Bool) : Prop where
  tab : T w
  low : G ≤ b
  far : b ≤ p
  wr : WriterIn w p v bits
  own : ∀ k, v.ownBlock = some k → b ≤ k
theorem WrV.step {G : Nat} {T : World → Prop} (I : VIf G T) {b : Nat} {w w' : World} {p : Nat} {v v' : Value} {bits out : List Bool} (h : WrV G T b w p v bits) (hw : WriterIn w' p v' out) (hu : Upd w w' p v v') : WrV G T b w' p v' out ∧ Below b w w' := by
  have hlt := h.wr.blk.lt
  have hf := h.far; have hl := h.low
  have hm : ∀ k, k < b → ¬ (k = p ∨ v.ownBlock = some k) := fun k hk e => by
    rcases e with e | e
    · omega
    · have := h.own k e; omega
  refine ⟨⟨I.keeps h.tab hu.mods (fun k hk => hm k (by omega)), hl, hf, hw, fun k hk => ?_⟩, hu.mods.below (by omega) hm⟩
  rcases hu.fresh k hk with e | e
  · exact h.own k e
  · omega
theorem WrV.below {G : Nat} {T : World → Prop} (I : VIf G T) {b : Nat} {w w' : World} {p : Nat} {v : Value} {bits : List Bool} (h : WrV G T b w p v bits) (hb : Below w.heap.size w w') : WrV G T b w' p v bits :=
  ⟨I.below h.tab hb, h.low, h.far, h.wr.below hb, h.own⟩
theorem WrV.mods {G : Nat} {T : World → Prop} (I : VIf G T) {S : Nat → Prop} {b : Nat} {w w' : World} {p : Nat} {v : Value} {bits : List Bool} (h : WrV G T b w p v bits) (hm : Mods S w w') (hp : ¬ S p) (hv : ∀ k, v.ownBlock = some k → ¬ S k) (hg : ∀ k, k < G → ¬ S k) : WrV G T b w' p v bits :=
  ⟨I.keeps h.tab hm hg, h.low, h.far, h.wr.mods hm hp hv, h.own⟩
theorem VIf.putT {G : Nat} {T : World → Prop} (I : VIf G T) {b : Nat} {w : World} {p : Nat} {v lv : Value} {bits : List Bool} {l : List Nat} (h : WrV G T b w p v bits) (hl : Rd w 1 lv l.length (u64s l)) (ok : ∀ t ∈ l, in64u t) (hlo : l ≠ [] → ∀ k, lv.ownBlock = some k → k < b) (hz : bits.length + 78 * l.length ≤ 70368744177000) :
    Calls Tryd.prog 12 #[.pointer (some ⟨p, 0, none⟩), lv] w fun e w' => e = .returned (.int .i64 0) ∧ ∃ v', WrV G T b w' p v' (bits ++ encV l) ∧ Below b w w' ∧ Upd w w' p v v' :=
  (I.put p v lv bits l w h.tab h.wr (Nat.le_trans h.low h.far) (fun k hk => Nat.le_trans h.low (h.own k hk)) hl ok (fun hne k hk => ⟨by have := hlo hne k hk; have := h.far; omega, fun e => by have := hlo hne k hk; have := h.own k e; omega⟩) hz).mono fun e w' hp => by
    obtain ⟨he, v', hw, hu⟩ := hp
    obtain ⟨h1, h2⟩ := h.step I hw hu
    exact ⟨he, v', h1, h2, hu⟩
theorem u64s_lt {w : World} {lv : Value} {l : List Nat} (hl : Rd w 1 lv l.length (u64s l)) : l ≠ [] → ∀ k, lv.ownBlock = some k → k < w.heap.size := fun hne => hl.lt (fun e => hne (by simpa [u64s] using e))
theorem WrV.new {G : Nat} {T : World → Prop} (I : VIf G T) {w w1 : World} (hT : T w) (hW : WriterIn w1 w.heap.size (.slice none 0 0) []) (hB : Below w.heap.size w w1) : WrV G T w.heap.size w1 w.heap.size (.slice none 0 0) [] :=
  ⟨I.below hT hB, I.low hT, Nat.le_refl _, hW, fun k e => by cases e⟩
end Go.Proofs.YtnhopiggknfimaaDoor
