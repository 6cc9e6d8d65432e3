/- Layer 4: what the walks ask of the program's reader, whatever its memory looks like. -/
import Derived.Test.YtkgghlhmgolfbaaDoorRef04C
set_option linter.unusedVariables false
namespace Go.Proofs.YtkgghlhmgolfbaaDoor
open Go Go.RowKit

/-- T w: what the program's own memory, in the blocks below G, must hold. R w p v B a e: at block p lies a reader of the bytes B (in the slice v), at offset a, with the error e. -/
structure WIf (G : Nat) (T : World → Prop) (R : World → Nat → Value → List Nat → Nat → Int → Prop) : Prop where
  keeps : ∀ {S : Nat → Prop} {w w' : World}, T w → Mods S w w' → (∀ k, k < G → ¬ S k) → T w'
  tab : ∀ {w : World} {p : Nat} {v : Value} {B : List Nat} {a : Nat} {e : Int}, R w p v B a e → T w
  low : ∀ {w : World}, T w → G ≤ w.heap.size
  mods : ∀ {S : Nat → Prop} {w w' : World} {p : Nat} {v : Value} {B : List Nat} {a : Nat} {e : Int}, R w p v B a e → Mods S w w' → ¬ S p → (∀ k, v.ownBlock = some k → ¬ S k) → (∀ k, k < G → ¬ S k) → R w' p v B a e
  lt : ∀ {w : World} {p : Nat} {v : Value} {B : List Nat} {a : Nat} {e : Int}, R w p v B a e → p < w.heap.size
  vlt : ∀ {w : World} {p : Nat} {v : Value} {B : List Nat} {a : Nat} {e : Int}, R w p v B a e → ∀ k, v.ownBlock = some k → k < w.heap.size
  ok : ∀ {w : World} {p : Nat} {v : Value} {B : List Nat} {a : Nat} {e : Int}, R w p v B a e → (∀ c ∈ B, c < 256) ∧ a ≤ B.length ∧ B.length ≤ 140737488355000
  new : ∀ (v : Value) (B : List Nat) (w : World), T w → Rd w 1 v B.length (u8s B) → (∀ c ∈ B, c < 256) → B.length ≤ 140737488355000 →
    Calls Tryd.prog 16 #[v] w fun en w' => ∃ p vr, en = .returned (.pointer (some ⟨p, 0, none⟩)) ∧ R w' p vr B 0 0 ∧ w.heap.size ≤ p ∧ (∀ k, vr.ownBlock = some k → w.heap.size ≤ k) ∧ Below w.heap.size w w'
  pos : ∀ {w : World} {p : Nat} {v : Value} {B : List Nat} {a : Nat} {e : Int}, R w p v B a e → Calls Tryd.prog 23 #[.pointer (some ⟨p, 0, none⟩)] w fun en w' => en = .returned (.int .i64 (a : Int)) ∧ Below w.heap.size w w'
  err : ∀ {w : World} {p : Nat} {v : Value} {B : List Nat} {a : Nat} {e : Int}, R w p v B a e → Calls Tryd.prog 25 #[.pointer (some ⟨p, 0, none⟩)] w fun en w' => en = .returned (.int .i64 e) ∧ Below w.heap.size w w'
  fin : ∀ {w : World} {p : Nat} {v : Value} {B : List Nat} {a : Nat} {e : Int}, R w p v B a e → Calls Tryd.prog 18 #[.pointer (some ⟨p, 0, none⟩)] w fun en w' => en = .returned (.int .i64 (if e = 0 ∧ a < B.length then 4 else e)) ∧ Below w.heap.size w w'
  fail : ∀ {w : World} {p : Nat} {v : Value} {B : List Nat} {a : Nat} {e : Int} (x : Int), R w p v B a e → Calls Tryd.prog 27 #[.pointer (some ⟨p, 0, none⟩), .int .i64 x] w fun en w' => en = .returned (.tuple #[]) ∧ R w' p v B a (if e = 0 then x else e) ∧ Mods (fun k => k = p) w w'
  byte : ∀ {w : World} {p : Nat} {v : Value} {B : List Nat} {a : Nat}, R w p v B a 0 → Calls Tryd.prog 26 #[.pointer (some ⟨p, 0, none⟩)] w fun en w' => Mods (fun k => k = p) w w' ∧ Got (outByte B a) (fun c => .int .u8 (c : Int)) (.int .u8 0) (fun b e => R w' p v B b e) a en
  uint : ∀ {w : World} {p : Nat} {v : Value} {B : List Nat} {a : Nat} (most : Nat), most < 18446744073709551616 → R w p v B a 0 → Calls Tryd.prog 28 #[.pointer (some ⟨p, 0, none⟩), .int .u64 (most : Int)] w fun en w' => Mods (fun k => k = p) w w' ∧ Got (outUint B a most) (fun c => .int .u64 (c : Int)) (.int .u64 0) (fun b e => R w' p v B b e) a en
  take : ∀ {w : World} {p : Nat} {v : Value} {B : List Nat} {a : Nat} (n : Int), -9223372036854775808 ≤ n ∧ n < 9223372036854775808 → R w p v B a 0 → Calls Tryd.prog 29 #[.pointer (some ⟨p, 0, none⟩), .int .i64 n] w fun en w' => Mods (fun k => k = p) w w' ∧ GotS (outTake B a n) w w' (fun b e => R w' p v B b e) a en
  string : ∀ {w : World} {p : Nat} {v : Value} {B : List Nat} {a : Nat} (n : Int), -9223372036854775808 ≤ n ∧ n < 9223372036854775808 → R w p v B a 0 → Calls Tryd.prog 21 #[.pointer (some ⟨p, 0, none⟩), .int .i64 n] w fun en w' => Mods (fun k => k = p) w w' ∧ Got (outString B a n) (fun l => .string (strOf l)) (.string ⟨#[]⟩) (fun b e => R w' p v B b e) a en
  sect : ∀ {w : World} {p : Nat} {v : Value} {B : List Nat} {a : Nat} (id : Nat), id < 256 → R w p v B a 0 → Calls Tryd.prog 22 #[.pointer (some ⟨p, 0, none⟩), .int .u8 (id : Int)] w fun en w' => Mods (fun k => k = p) w w' ∧ GotS (outSection B a id) w w' (fun b e => R w' p v B b e) a en
  byteE : ∀ {w : World} {p : Nat} {v : Value} {B : List Nat} {a : Nat} {e : Int}, e ≠ 0 → R w p v B a e → Calls Tryd.prog 26 #[.pointer (some ⟨p, 0, none⟩)] w fun en w' => en = .returned (.int .u8 0) ∧ R w' p v B a e ∧ Mods (fun k => k = p) w w'
  uintE : ∀ {w : World} {p : Nat} {v : Value} {B : List Nat} {a : Nat} {e : Int} (most : Nat), most < 18446744073709551616 → e ≠ 0 → R w p v B a e → Calls Tryd.prog 28 #[.pointer (some ⟨p, 0, none⟩), .int .u64 (most : Int)] w fun en w' => en = .returned (.int .u64 0) ∧ R w' p v B a e ∧ Mods (fun k => k = p) w w'
  takeE : ∀ {w : World} {p : Nat} {v : Value} {B : List Nat} {a : Nat} {e : Int} (n : Int), -9223372036854775808 ≤ n ∧ n < 9223372036854775808 → e ≠ 0 → R w p v B a e → Calls Tryd.prog 29 #[.pointer (some ⟨p, 0, none⟩), .int .i64 n] w fun en w' => en = .returned (.slice none 0 0) ∧ R w' p v B a e ∧ Mods (fun k => k = p) w w'
  stringE : ∀ {w : World} {p : Nat} {v : Value} {B : List Nat} {a : Nat} {e : Int} (n : Int), -9223372036854775808 ≤ n ∧ n < 9223372036854775808 → e ≠ 0 → R w p v B a e → Calls Tryd.prog 21 #[.pointer (some ⟨p, 0, none⟩), .int .i64 n] w fun en w' => en = .returned (.string ⟨#[]⟩) ∧ R w' p v B a e ∧ Mods (fun k => k = p) w w'
  sectE : ∀ {w : World} {p : Nat} {v : Value} {B : List Nat} {a : Nat} {e : Int} (id : Nat), id < 256 → e ≠ 0 → R w p v B a e → Calls Tryd.prog 22 #[.pointer (some ⟨p, 0, none⟩), .int .u8 (id : Int)] w fun en w' => en = .returned (.slice none 0 0) ∧ R w' p v B a e ∧ Mods (fun k => k = p) w w'

theorem WIf.below {G : Nat} {T : World → Prop} {R : World → Nat → Value → List Nat → Nat → Int → Prop} (I : WIf G T R) {w w' : World} {p : Nat} {v : Value} {B : List Nat} {a : Nat} {e : Int} (h : R w p v B a e) (hb : Below w.heap.size w w') : R w' p v B a e := I.mods h (Mods.of_below hb (fun _ => False)) (fun h => h) (fun _ _ h => h) (fun _ _ h => h)
end Go.Proofs.YtkgghlhmgolfbaaDoor
