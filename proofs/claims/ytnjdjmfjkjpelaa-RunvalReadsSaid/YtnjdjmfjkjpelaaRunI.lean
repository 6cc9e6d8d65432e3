/- Layer 7: what the walks ask of the program's Put, Get and Size, whatever they look like inside. -/
import Derived.Test.YtnjdjmfjkjpelaaRef07B
import Derived.Test.YtnjdjmfjkjpelaaRef07C
import Derived.Test.YtnjdjmfjkjpelaaEqualU
import Derived.Test.YtnjdjmfjkjpelaaBitioD
import Derived.Test.YtnjdjmfjkjpelaaTakeR
set_option linter.unusedVariables false
namespace Go.Proofs.Ytnjdjmfjkjpelaa
open Go Go.RowKit

theorem below_drewR (w : World) : Below w.heap.size w w.drew := ⟨rfl, rfl, rfl, Nat.le_refl _, fun _ _ => rfl⟩
/-- Runs as cells; Runs whose counts are whatever. -/
def runCells (rs : List (Nat × Int)) : List Value := rs.flatMap fun r => [.int .u64 (r.1 : Int), .int .i64 r.2]
def runsI (rs : List (Nat × Nat)) : List (Nat × Int) := rs.map fun r => (r.1, (r.2 : Int))
def joinI (rs : List (Nat × Int)) : List Nat := rs.flatMap fun r => if 1 ≤ r.2 ∧ r.2 ≤ 128 then List.replicate r.2.toNat r.1 else []
theorem joinI_runs {rs : List (Nat × Nat)} (h : ∀ r ∈ rs, runOk r) : joinI (runsI rs) = joinR rs := by
  induction rs with
  | nil => rfl
  | cons r rs ih =>
    have h1 := h r (by simp)
    have h2 := ih (fun s hs => h s (by simp [hs]))
    unfold runOk at h1
    simp only [joinI, runsI, List.map_cons, List.flatMap_cons, joinR] at h2 ⊢
    rw [h2, if_pos (by omega)]
    simp
theorem runsI_length (rs : List (Nat × Nat)) : (runsI rs).length = rs.length := by simp [runsI]
/-- What Get leaves. -/
structure GetQR (p : Nat) (v : Value) (bs : List Nat) (w : World) (o : Res (List Nat)) (e : Ending) (w' : World) : Prop where
  res : ∃ r, e = .returned (.tuple #[r, .int .i64 (o.e : Int)]) ∧ Rd w' 1 r o.x.length (u64s o.x) ∧ (∀ k, r.ownBlock = some k → w.heap.size ≤ k)
  rd : RBitsPost p v (8 * bs.length - o.r.length) bs w w'

/-- T w: what the program's own memory, in the blocks below G, must hold. -/
structure RIf (G : Nat) (T : World → Prop) : Prop where
  keeps : ∀ {S : Nat → Prop} {w w' : World}, T w → Mods S w w' → (∀ k, k < G → ¬ S k) → T w'
  low : ∀ {w : World}, T w → G ≤ w.heap.size
  put : ∀ (p : Nat) (v lv : Value) (bits : List Bool) (l : List Nat) (w : World), T w → WriterIn w p v bits → G ≤ p → (∀ k, v.ownBlock = some k → G ≤ k) → Rd w 1 lv l.length (u64s l) → (∀ t ∈ l, in64u t) →
    (l ≠ [] → ∀ k, lv.ownBlock = some k → k ≠ p ∧ v.ownBlock ≠ some k) → bits.length + 71 * l.length ≤ 70368744177000 →
    Calls Try.prog 17 #[.pointer (some ⟨p, 0, none⟩), lv] w fun e w' => e = .returned (.int .i64 0) ∧ BitsPost p v (bits ++ encR l) w w'
  putNil : ∀ (lv : Value) (l : List Nat) (w : World), T w → Rd w 1 lv l.length (u64s l) → Calls Try.prog 17 #[.pointer none, lv] w fun e w' => e = .returned (.int .i64 1) ∧ Below w.heap.size w w'
  getNil : ∀ (n : Int) (w : World), T w → -9223372036854775808 ≤ n → n < 9223372036854775808 → Calls Try.prog 25 #[.pointer none, .int .i64 n] w fun e w' => (∃ r, e = .returned (.tuple #[r, .int .i64 1])) ∧ Below w.heap.size w w'
  get : ∀ (p : Nat) (v : Value) (i n : Nat) (bs : List Nat) (w : World), T w → ReaderIn w p v i bs → G ≤ p → n ≤ 1000000 → bs.length ≤ 8796093022200 →
    Calls Try.prog 25 #[.pointer (some ⟨p, 0, none⟩), .int .i64 (n : Int)] w (GetQR p v bs w (decR n ((unpack bs).drop i)))
  getNeg : ∀ (p : Nat) (v : Value) (i : Nat) (n : Int) (bs : List Nat) (w : World), T w → ReaderIn w p v i bs → G ≤ p → n < 0 → -9223372036854775808 ≤ n → 
    Calls Try.prog 25 #[.pointer (some ⟨p, 0, none⟩), .int .i64 n] w fun e w' => (∃ r, e = .returned (.tuple #[r, .int .i64 2]) ∧ Rd w' 1 r 0 []) ∧ RBitsPost p v i bs w w'
  size : ∀ (lv : Value) (l : List Nat) (w : World), T w → Rd w 1 lv l.length (u64s l) → (∀ t ∈ l, in64u t) → 71 * l.length ≤ 70368744177000 →
    Calls Try.prog 23 #[lv] w fun e w' => e = .returned (.int .i64 ((encR l).length : Int)) ∧ Below w.heap.size w w'
  split : ∀ (lv : Value) (l : List Nat) (w : World), T w → Rd w 1 lv l.length (u64s l) → (∀ t ∈ l, in64u t) → l.length ≤ 1000000 →
    Calls Try.prog 11 #[lv] w fun e w' => ∃ r, e = .returned r ∧ Rd w' 2 r (splitR l).length (runCells (runsI (splitR l))) ∧ Below w.heap.size w w'
  join : ∀ (rv : Value) (rs : List (Nat × Int)) (w : World), T w → Rd w 2 rv rs.length (runCells rs) → (∀ r ∈ rs, in64u r.1 ∧ -9223372036854775808 ≤ r.2 ∧ r.2 < 9223372036854775808) → rs.length ≤ 1000000 →
    Calls Try.prog 13 #[rv] w fun e w' => ∃ r, e = .returned r ∧ Rd w' 1 r (joinI rs).length (u64s (joinI rs)) ∧ Below w.heap.size w w'

theorem RIf.below {G : Nat} {T : World → Prop} (I : RIf G T) {w w' : World} (h : T w) (hb : Below w.heap.size w w') : T w' := I.keeps h (Mods.of_below hb (fun _ => False)) (fun _ _ h => h)

/-- A writer that was made at a time when the heap held b blocks. -/
structure WrR (G : Nat) (T : World → Prop) (b : Nat) (w : World) (p : Nat) (v : Value) (bits : List Bool) : Prop where
  tab : T w
  low : G ≤ b
  far : b ≤ p
  wr : WriterIn w p v bits
  own : ∀ k, v.ownBlock = some k → b ≤ k
theorem WrR.step {G : Nat} {T : World → Prop} (I : RIf G T) {b : Nat} {w w' : World} {p : Nat} {v v' : Value} {bits out : List Bool} (h : WrR G T b w p v bits) (hw : WriterIn w' p v' out) (hu : Upd w w' p v v') : WrR G T b w' p v' out ∧ Below b w w' := by
  have hlt := h.wr.blk.lt
  have hf := h.far; have hl := h.low
  have hm : ∀ k, k < b → ¬ (k = p ∨ v.ownBlock = some k) := fun k hk e => by
    rcases e with e | e
    · omega
    · have := h.own k e; omega
  refine ⟨⟨I.keeps h.tab hu.mods (fun k hk => hm k (by omega)), hl, hf, hw, fun k hk => ?_⟩, hu.mods.below (by omega) hm⟩
  rcases hu.fresh k hk with e | e
  · exact h.own k e
  · omega
theorem WrR.below {G : Nat} {T : World → Prop} (I : RIf G T) {b : Nat} {w w' : World} {p : Nat} {v : Value} {bits : List Bool} (h : WrR G T b w p v bits) (hb : Below w.heap.size w w') : WrR G T b w' p v bits :=
  ⟨I.below h.tab hb, h.low, h.far, h.wr.below hb, h.own⟩
theorem WrR.mods {G : Nat} {T : World → Prop} (I : RIf G T) {S : Nat → Prop} {b : Nat} {w w' : World} {p : Nat} {v : Value} {bits : List Bool} (h : WrR G T b w p v bits) (hm : Mods S w w') (hp : ¬ S p) (hv : ∀ k, v.ownBlock = some k → ¬ S k) (hg : ∀ k, k < G → ¬ S k) : WrR G T b w' p v bits :=
  ⟨I.keeps h.tab hm hg, h.low, h.far, h.wr.mods hm hp hv, h.own⟩
theorem RIf.putT {G : Nat} {T : World → Prop} (I : RIf G T) {b : Nat} {w : World} {p : Nat} {v lv : Value} {bits : List Bool} {l : List Nat} (h : WrR G T b w p v bits) (hl : Rd w 1 lv l.length (u64s l)) (ok : ∀ t ∈ l, in64u t) (hlo : l ≠ [] → ∀ k, lv.ownBlock = some k → k < b) (hz : bits.length + 71 * l.length ≤ 70368744177000) :
    Calls Try.prog 17 #[.pointer (some ⟨p, 0, none⟩), lv] w fun e w' => e = .returned (.int .i64 0) ∧ ∃ v', WrR G T b w' p v' (bits ++ encR l) ∧ Below b w w' ∧ Upd w w' p v v' :=
  (I.put p v lv bits l w h.tab h.wr (Nat.le_trans h.low h.far) (fun k hk => Nat.le_trans h.low (h.own k hk)) hl ok (fun hne k hk => ⟨by have := hlo hne k hk; have := h.far; omega, fun e => by have := hlo hne k hk; have := h.own k e; omega⟩) hz).mono fun e w' hp => by
    obtain ⟨he, v', hw, hu⟩ := hp
    obtain ⟨h1, h2⟩ := h.step I hw hu
    exact ⟨he, v', h1, h2, hu⟩
theorem u64s_ltR {w : World} {lv : Value} {l : List Nat} (hl : Rd w 1 lv l.length (u64s l)) : l ≠ [] → ∀ k, lv.ownBlock = some k → k < w.heap.size := fun hne => hl.lt (fun e => hne (by simpa [u64s] using e))
theorem WrR.new {G : Nat} {T : World → Prop} (I : RIf G T) {w w1 : World} (hT : T w) (hW : WriterIn w1 w.heap.size (.slice none 0 0) []) (hB : Below w.heap.size w w1) : WrR G T w.heap.size w1 w.heap.size (.slice none 0 0) [] :=
  ⟨I.below hT hB, I.low hT, Nat.le_refl _, hW, fun k e => by cases e⟩
end Go.Proofs.Ytnjdjmfjkjpelaa
