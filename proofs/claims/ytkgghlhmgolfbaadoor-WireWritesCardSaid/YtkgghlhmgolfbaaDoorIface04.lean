/- Layer 4: the program's reader is such as the walks ask. -/
import Derived.Test.YtkgghlhmgolfbaaDoorWireF
import Derived.Test.YtkgghlhmgolfbaaDoorWalkIsolated04
set_option linter.unusedVariables false
namespace Go.Proofs.YtkgghlhmgolfbaaDoor
open Go Go.RowKit

theorem Tab.low {w : World} (h : Tab w) : 0 + 1 ≤ w.heap.size := World.block_lt_of_cell? w _ (h 0 (by decide))
theorem Tab.mods {S : Nat → Prop} {w w' : World} (h : Tab w) (hm : Mods S w w') (hs : ∀ k, k < 0 + 1 → ¬ S k) : Tab w' := fun i hi => hm.cell (h i hi) (hs _ (Nat.lt_succ_self _))

/-- The program's reader: beside its memory, the table, and bytes that are bytes. -/
structure PRd (w : World) (p : Nat) (v : Value) (B : List Nat) (a : Nat) (e : Int) : Prop where
  tab : Tab w
  rd : RRd w p v B a e
  far : 0 + 1 ≤ p
  ok : (∀ c ∈ B, c < 256) ∧ a ≤ B.length ∧ B.length ≤ 140737488355000
  vlt : ∀ k, v.ownBlock = some k → k < w.heap.size

theorem PRd.step {w w' : World} {p : Nat} {v : Value} {B : List Nat} {a b : Nat} {e x : Int} (h : PRd w p v B a e) (hm : Mods (fun k => k = p) w w') (hr : RRd w' p v B b x) (hb : b ≤ B.length) : PRd w' p v B b x :=
  ⟨h.tab.mods hm (fun k hk e => by have := h.far; omega), hr, h.far, ⟨h.ok.1, hb, h.ok.2.2⟩, fun k hk => Nat.lt_of_lt_of_le (h.vlt k hk) hm.size⟩
theorem PRd.mods {S : Nat → Prop} {w w' : World} {p : Nat} {v : Value} {B : List Nat} {a : Nat} {e : Int} (h : PRd w p v B a e) (hm : Mods S w w') (hp : ¬ S p) (hv : ∀ k, v.ownBlock = some k → ¬ S k) (hg : ∀ k, k < 0 + 1 → ¬ S k) : PRd w' p v B a e :=
  ⟨h.tab.mods hm hg, h.rd.mods hm hp hv, h.far, h.ok, fun k hk => Nat.lt_of_lt_of_le (h.vlt k hk) hm.size⟩
theorem PRd.below {w w' : World} {p : Nat} {v : Value} {B : List Nat} {a : Nat} {e : Int} (h : PRd w p v B a e) (hb : Below w.heap.size w w') : PRd w' p v B a e := h.mods (Mods.of_below hb (fun _ => False)) (fun h => h) (fun _ _ h => h) (fun _ _ h => h)

/-- Where a read ends. -/
def Ends {α : Type} (o : Out α) (n : Nat) : Prop := ∀ x b, o = .ok x b → b ≤ n
theorem Got.step {α : Type} {o : Out α} {val : α → Value} {z : Value} {w w' : World} {p : Nat} {v : Value} {B : List Nat} {a : Nat} {en : Ending} (h : PRd w p v B a 0) (hm : Mods (fun k => k = p) w w') (hb : Ends o B.length) (hg : Got o val z (fun b e => RRd w' p v B b e) a en) : Got o val z (fun b e => PRd w' p v B b e) a en := by
  cases o with
  | ok x b => exact ⟨hg.1, h.step hm hg.2 (hb x b rfl)⟩
  | bad e => exact ⟨hg.1, h.step hm hg.2 h.ok.2.1⟩
theorem GotS.step {o : Out (List Nat)} {w w' : World} {p : Nat} {v : Value} {B : List Nat} {a : Nat} {en : Ending} (h : PRd w p v B a 0) (hm : Mods (fun k => k = p) w w') (hb : Ends o B.length) (hg : GotS o w w' (fun b e => RRd w' p v B b e) a en) : GotS o w w' (fun b e => PRd w' p v B b e) a en := by
  cases o with
  | ok x b => exact ⟨hg.1, h.step hm hg.2 (hb x b rfl)⟩
  | bad e => exact ⟨hg.1, h.step hm hg.2 h.ok.2.1⟩

theorem ends_byte (B : List Nat) (a : Nat) : Ends (outByte B a) B.length := fun x b h => by
  rw [outByte] at h
  split at h
  · next hc =>
    simp only [Out.ok.injEq] at h
    have := (List.getElem?_eq_some_iff.1 hc).1
    omega
  · cases h
theorem ends_uint {B : List Nat} (hB : ∀ c ∈ B, c < 256) {a : Nat} (ha : a ≤ B.length) (most : Nat) : Ends (outUint B a most) B.length := fun x b h => by
  rcases outUint_cases hB ha most with ⟨e, _, _, ho⟩ | ⟨y, to, _, _, hto, _, ho⟩
  · rw [ho] at h; cases h
  · rw [ho] at h
    split at h
    · cases h
    · simp only [Out.ok.injEq] at h; omega
theorem ends_take (B : List Nat) {a : Nat} (ha : a ≤ B.length) (n : Int) : Ends (outTake B a n) B.length := fun x b h => by
  rw [outTake] at h
  split at h
  · cases h
  · split at h
    · cases h
    · simp only [Out.ok.injEq] at h; omega
theorem ends_string {B : List Nat} (hB : ∀ c ∈ B, c < 256) {a : Nat} (ha : a ≤ B.length) (n : Int) : Ends (outString B a n) B.length := fun x b h => by
  rcases outString_cases hB ha n with ⟨e, _, _, ho⟩ | ⟨y, to, _, _, hto, _, ho⟩
  · rw [ho] at h; cases h
  · rw [ho] at h
    split at h
    · cases h
    · split at h
      · cases h
      · simp only [Out.ok.injEq] at h; omega
theorem ends_section {B : List Nat} (hB : ∀ c ∈ B, c < 256) (a id : Nat) : Ends (outSection B a id) B.length := fun x b h => by
  by_cases hla : B.length ≤ a
  · rw [outSection_none hla] at h; cases h
  · have hget : B[a]? = some B[a] := List.getElem?_eq_getElem (by omega)
    by_cases hne : B[a] = id
    · rw [hne] at hget
      rcases outSection_cases hB hget with ⟨e, _, _, ho⟩ | ⟨y, to, _, _, _, _, ho⟩
      · rw [ho] at h; cases h
      · rw [ho] at h
        split at h
        · cases h
        · split at h
          · simp only [Out.ok.injEq] at h; omega
          · cases h
    · rw [outSection_other hget hne] at h; cases h

theorem below_drewN (w : World) (n : Nat) : Below w.heap.size w (w.drewN n) := ⟨rfl, rfl, rfl, Nat.le_refl _, fun _ _ => rfl⟩

theorem reader : WIf (0 + 1) Tab PRd where
  keeps := fun h hm hs => h.mods hm hs
  tab := fun h => h.tab
  low := fun h => h.low
  mods := fun h hm hp hv hg => h.mods hm hp hv hg
  lt := fun h => h.rd.blk.lt
  vlt := fun h => h.vlt
  ok := fun h => h.ok
  new := fun v B w hT h hB hz => (rd_new v B w h hz).mono fun en w' hp => by
    obtain ⟨p, vr, he, hr, hp, hv, hb⟩ := hp
    exact ⟨p, vr, he, ⟨hT.below hb (Nat.le_refl _), hr, Nat.le_trans hT.low hp, ⟨hB, Nat.zero_le _, hz⟩, fun k hk => (hv k hk).2⟩, hp, fun k hk => (hv k hk).1, hb⟩
  pos := fun h => (rd_at _ _ _ _ _ _ h.rd).mono fun en w' hp => ⟨hp.1, by rw [hp.2]; exact Below.refl _ _⟩
  err := fun h => (rd_err _ _ _ _ _ _ h.rd).mono fun en w' hp => ⟨hp.1, by rw [hp.2]; exact Below.refl _ _⟩
  fin := fun h => (rd_end _ _ _ _ _ _ h.rd).mono fun en w' hp => ⟨hp.1, by obtain ⟨n, hn⟩ := hp.2; rw [hn]; exact below_drewN _ _⟩
  fail := fun x h => (rd_fail _ _ _ _ _ x _ h.rd).mono fun en w' hp => ⟨hp.1, h.step hp.2.2 hp.2.1 h.ok.2.1, hp.2.2⟩
  byte := fun h => (rd_byte _ _ _ _ _ h.rd h.ok.2.1 h.ok.2.2).mono fun en w' hp => ⟨hp.1, hp.2.step h hp.1 (ends_byte _ _)⟩
  uint := fun most _ h => (rd_uint _ _ _ _ most _ h.rd h.ok.1 h.ok.2.1 h.ok.2.2).mono fun en w' hp => ⟨hp.1, hp.2.step h hp.1 (ends_uint h.ok.1 h.ok.2.1 _)⟩
  take := fun n hn h => (rd_take _ _ _ _ n _ hn h.rd h.ok.1 h.ok.2.1 h.ok.2.2).mono fun en w' hp => ⟨hp.1, hp.2.step h hp.1 (ends_take _ h.ok.2.1 _)⟩
  string := fun n hn h => (rd_string _ _ _ _ n _ hn h.rd h.ok.1 h.ok.2.1 h.ok.2.2).mono fun en w' hp => ⟨hp.1, hp.2.step h hp.1 (ends_string h.ok.1 h.ok.2.1 _)⟩
  sect := fun id hid h => (rd_section _ _ _ _ id _ h.tab hid h.rd h.ok.1 h.ok.2.1 h.ok.2.2).mono fun en w' hp => ⟨hp.1, hp.2.step h hp.1 (ends_section h.ok.1 _ _)⟩
  byteE := fun he h => (rd_byte_err _ _ _ _ _ he _ h.rd).mono fun en w' hp => ⟨hp.1, by rw [hp.2]; exact h, by rw [hp.2]; exact Mods.refl _ _⟩
  uintE := fun most _ he h => (rd_uint_err _ _ _ _ most _ he _ h.rd).mono fun en w' hp => ⟨hp.1, h.below hp.2, Mods.of_below hp.2 _⟩
  takeE := fun n _ he h => (rd_take_err _ _ _ _ n _ he _ h.rd).mono fun en w' hp => ⟨hp.1, h.below hp.2, Mods.of_below hp.2 _⟩
  stringE := fun n _ he h => (rd_string_err _ _ _ _ n _ he _ h.rd).mono fun en w' hp => ⟨hp.1, h.below hp.2, Mods.of_below hp.2 _⟩
  sectE := fun id _ he h => (rd_section_err _ _ _ _ id _ he _ h.rd).mono fun en w' hp => ⟨hp.1, h.below hp.2, Mods.of_below hp.2 _⟩

theorem nils : wireIsolated.WNil Tab where
  pos := fun w => (nil_at w).mono fun en w' hp => ⟨hp.1, by rw [hp.2]; exact Below.refl _ _⟩
  err := fun w => (nil_err w).mono fun en w' hp => ⟨hp.1, by rw [hp.2]; exact Below.refl _ _⟩
  fin := fun w => (nil_end w).mono fun en w' hp => ⟨hp.1, by rw [hp.2]; exact Below.refl _ _⟩
  fail := fun x w => (nil_fail x w).mono fun en w' hp => ⟨hp.1, by rw [hp.2]; exact Below.refl _ _⟩
  byte := nil_byte
  uint := nil_uint
  take := nil_take
  string := nil_string
  sect := nil_section
end Go.Proofs.YtkgghlhmgolfbaaDoor
