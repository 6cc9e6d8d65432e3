/- Layer 8: what the walks ask of the program's Put, Get and Size, whatever they look like inside. -/
import Derived.Test.YtpphgmgdmdehpaaRef08B
import Derived.Test.YtpphgmgdmdehpaaRef08C
import Derived.Test.YtpphgmgdmdehpaaEqualU
import Derived.Test.YtpphgmgdmdehpaaCloneU
import Derived.Test.YtpphgmgdmdehpaaTakeR
import Derived.Test.YtpphgmgdmdehpaaBitioD
set_option linter.unusedVariables false
namespace Go.Proofs.Ytpphgmgdmdehpaa
open Go Go.RowKit

theorem below_drewD (w : World) : Below w.heap.size w w.drew := ⟨rfl, rfl, rfl, Nat.le_refl _, fun _ _ => rfl⟩
/-- What Get leaves. -/
structure GetQD (p : Nat) (v : Value) (bs : List Nat) (w : World) (o : Res (List Nat)) (e : Ending) (w' : World) : Prop where
  res : ∃ r, e = .returned (.tuple #[r, .int .i64 (o.e : Int)]) ∧ Rd w' 1 r o.x.length (u64s o.x) ∧ (∀ k, r.ownBlock = some k → w.heap.size ≤ k)
  rd : RBitsPost p v (8 * bs.length - o.r.length) bs w w'

theorem encD_len (l : List Nat) (h : okD l = true) : (encD l).length ≤ 8199 + 7 * l.length := by
  have hk : (dictD l).length ≤ 128 := of_decide_eq_true h
  rw [encD]
  split
  · simp
  · rw [List.length_append, List.length_append, fieldBits_length, wordsBits_len, indsBits_len, List.length_map]
    have := Nat.mul_le_mul_right l.length (width_le hk)
    omega
theorem putD_ok {l : List Nat} (h : okD l = true) : putD l = encD l := if_pos h
theorem putD_no {l : List Nat} (h : okD l = false) : putD l = [] := by rw [putD, h]; rfl
theorem putD_len (l : List Nat) : (putD l).length ≤ 8199 + 7 * l.length := by
  cases h : okD l with
  | true => rw [putD_ok h]; exact encD_len l h
  | false => rw [putD_no h]; simp
/-- What Size says. -/
def sizeD (l : List Nat) : Int := if okD l then ((encD l).length : Int) else -1
/-- T w: what the program's own memory, in the blocks below G, must hold. -/
structure DIf (G : Nat) (T : World → Prop) : Prop where
  keeps : ∀ {S : Nat → Prop} {w w' : World}, T w → Mods S w w' → (∀ k, k < G → ¬ S k) → T w'
  low : ∀ {w : World}, T w → G ≤ w.heap.size
  dict : ∀ (lv : Value) (l : List Nat) (w : World), T w → Rd w 1 lv l.length (u64s l) → (∀ t ∈ l, in64u t) → l.length ≤ 1000000000 →
    Calls Try.prog 11 #[lv] w fun e w' => ∃ r, e = .returned r ∧ Made w w' 25 1 r (dictD l).length (u64s (dictD l))
  width : ∀ (c : Int) (w : World), T w → -9223372036854775808 ≤ c → c ≤ 1152921504606846976 →
    Calls Try.prog 14 #[.int .i64 c] w fun e w' => e = .returned (.int .i64 (widthI c)) ∧ Below w.heap.size w w'
  put : ∀ (p : Nat) (v lv : Value) (bits : List Bool) (l : List Nat) (w : World), T w → WriterIn w p v bits → G ≤ p → (∀ k, v.ownBlock = some k → G ≤ k) → Rd w 1 lv l.length (u64s l) → (∀ t ∈ l, in64u t) →
    (l ≠ [] → ∀ k, lv.ownBlock = some k → k ≠ p ∧ v.ownBlock ≠ some k) → l.length ≤ 1000000000 → bits.length + 8199 + 7 * l.length ≤ 70368744177000 →
    Calls Try.prog 18 #[.pointer (some ⟨p, 0, none⟩), lv] w fun e w' => e = .returned (.int .i64 (if okD l then 0 else 7)) ∧ BitsPost p v (bits ++ putD l) w w'
  getNil : ∀ (n : Int) (w : World), T w → -9223372036854775808 ≤ n → n < 9223372036854775808 → Calls Try.prog 26 #[.pointer none, .int .i64 n] w fun e w' => (∃ r, e = .returned (.tuple #[r, .int .i64 1])) ∧ Below w.heap.size w w'
  putNil : ∀ (lv : Value) (l : List Nat) (w : World), T w → Rd w 1 lv l.length (u64s l) → Calls Try.prog 18 #[.pointer none, lv] w fun e w' => e = .returned (.int .i64 1) ∧ Below w.heap.size w w'
  get : ∀ (p : Nat) (v : Value) (i n : Nat) (bs : List Nat) (w : World), T w → ReaderIn w p v i bs → G ≤ p → n ≤ 1000000 → bs.length ≤ 8796093022200 →
    Calls Try.prog 26 #[.pointer (some ⟨p, 0, none⟩), .int .i64 (n : Int)] w (GetQD p v bs w (decD n ((unpack bs).drop i)))
  getNeg : ∀ (p : Nat) (v : Value) (i : Nat) (n : Int) (bs : List Nat) (w : World), T w → ReaderIn w p v i bs → G ≤ p → n < 0 → -9223372036854775808 ≤ n → 
    Calls Try.prog 26 #[.pointer (some ⟨p, 0, none⟩), .int .i64 n] w fun e w' => (∃ r, e = .returned (.tuple #[r, .int .i64 2]) ∧ Rd w' 1 r 0 []) ∧ RBitsPost p v i bs w w'
  size : ∀ (lv : Value) (l : List Nat) (w : World), T w → Rd w 1 lv l.length (u64s l) → (∀ t ∈ l, in64u t) → l.length ≤ 1000000000 →
    Calls Try.prog 24 #[lv] w fun e w' => e = .returned (.int .i64 (sizeD l)) ∧ Below w.heap.size w w'

theorem DIf.below {G : Nat} {T : World → Prop} (I : DIf G T) {w w' : World} (h : T w) (hb : Below w.heap.size w w') : T w' := I.keeps h (Mods.of_below hb (fun _ => False)) (fun _ _ h => h)

/-- A writer that was made at a time when the heap held b blocks. -/
structure WrD (G : Nat) (T : World → Prop) (b : Nat) (w : World) (p : Nat) (v : Value) (bits : List Bool) : Prop where
  tab : T w
  low : G ≤ b
  far : b ≤ p
  wr : WriterIn w p v bits
  own : ∀ k, v.ownBlock = some k → b ≤ k
theorem WrD.step {G : Nat} {T : World → Prop} (I : DIf G T) {b : Nat} {w w' : World} {p : Nat} {v v' : Value} {bits out : List Bool} (h : WrD G T b w p v bits) (hw : WriterIn w' p v' out) (hu : Upd w w' p v v') : WrD G T b w' p v' out ∧ Below b w w' := by
  have hlt := h.wr.blk.lt
  have hf := h.far; have hl := h.low
  have hm : ∀ k, k < b → ¬ (k = p ∨ v.ownBlock = some k) := fun k hk e => by
    rcases e with e | e
    · omega
    · have := h.own k e; omega
  refine ⟨⟨I.keeps h.tab hu.mods (fun k hk => hm k (by omega)), hl, hf, hw, fun k hk => ?_⟩, hu.mods.below (by omega) hm⟩
  rcases hu.fresh k hk with e | e
  · exact h.own k e
  · omega
theorem WrD.below {G : Nat} {T : World → Prop} (I : DIf G T) {b : Nat} {w w' : World} {p : Nat} {v : Value} {bits : List Bool} (h : WrD G T b w p v bits) (hb : Below w.heap.size w w') : WrD G T b w' p v bits :=
  ⟨I.below h.tab hb, h.low, h.far, h.wr.below hb, h.own⟩
theorem WrD.mods {G : Nat} {T : World → Prop} (I : DIf G T) {S : Nat → Prop} {b : Nat} {w w' : World} {p : Nat} {v : Value} {bits : List Bool} (h : WrD G T b w p v bits) (hm : Mods S w w') (hp : ¬ S p) (hv : ∀ k, v.ownBlock = some k → ¬ S k) (hg : ∀ k, k < G → ¬ S k) : WrD G T b w' p v bits :=
  ⟨I.keeps h.tab hm hg, h.low, h.far, h.wr.mods hm hp hv, h.own⟩
theorem DIf.putT {G : Nat} {T : World → Prop} (I : DIf G T) {b : Nat} {w : World} {p : Nat} {v lv : Value} {bits : List Bool} {l : List Nat} (h : WrD G T b w p v bits) (hl : Rd w 1 lv l.length (u64s l)) (ok : ∀ t ∈ l, in64u t) (hlo : l ≠ [] → ∀ k, lv.ownBlock = some k → k < b) (hn : l.length ≤ 1000000000) (hz : bits.length + 8199 + 7 * l.length ≤ 70368744177000) :
    Calls Try.prog 18 #[.pointer (some ⟨p, 0, none⟩), lv] w fun e w' => e = .returned (.int .i64 (if okD l then 0 else 7)) ∧ ∃ v', WrD G T b w' p v' (bits ++ putD l) ∧ Below b w w' ∧ Upd w w' p v v' :=
  (I.put p v lv bits l w h.tab h.wr (Nat.le_trans h.low h.far) (fun k hk => Nat.le_trans h.low (h.own k hk)) hl ok (fun hne k hk => ⟨by have := hlo hne k hk; have := h.far; omega, fun e => by have := hlo hne k hk; have := h.own k e; omega⟩) hn hz).mono fun e w' hp => by
    obtain ⟨he, v', hw, hu⟩ := hp
    obtain ⟨h1, h2⟩ := h.step I hw hu
    exact ⟨he, v', h1, h2, hu⟩
theorem u64s_ltD {w : World} {lv : Value} {l : List Nat} (hl : Rd w 1 lv l.length (u64s l)) : l ≠ [] → ∀ k, lv.ownBlock = some k → k < w.heap.size := fun hne => hl.lt (fun e => hne (by simpa [u64s] using e))
theorem WrD.new {G : Nat} {T : World → Prop} (I : DIf G T) {w w1 : World} (hT : T w) (hW : WriterIn w1 w.heap.size (.slice none 0 0) []) (hB : Below w.heap.size w w1) : WrD G T w.heap.size w1 w.heap.size (.slice none 0 0) [] :=
  ⟨I.below hT hB, I.low hT, Nat.le_refl _, hW, fun k e => by cases e⟩
end Go.Proofs.Ytpphgmgdmdehpaa
