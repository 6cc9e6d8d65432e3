/- Read, Parse, FindS, RecP, I64s, RecRow, RowHd, NrAt, LabCs, Ref11C, Normal, in one text. -/
import Derived.Test.YtmnagmbokajfpaaMrg3
import Derived.Test.YtmnagmbokajfpaaMrg1
import Derived.Test.YtmnagmbokajfpaaMrg2

section
/- Layer 4: what a reader reads at an offset, as functions on lists. No program in sight. -/
namespace Go.Proofs.Ytmnagmbokajfpaa

/-- What is read: a value and the offset behind it, or an error. -/
inductive Out (α : Type) where
  | ok (x : α) (to : Nat)
  | bad (e : Nat)

def outByte (B : List Nat) (a : Nat) : Out Nat := match B[a]? with
  | some c => .ok c (a + 1)
  | none => .bad 3
def outUint (B : List Nat) (a most : Nat) : Out Nat := match readAt B (a : Int) with
  | (x, to, 0) => if most < x then .bad 7 else .ok x to.toNat
  | (_, _, e + 1) => .bad (e + 1)
def outTake (B : List Nat) (a : Nat) (n : Int) : Out (List Nat) :=
  if n < 0 then .bad 2 else if ((B.length - a : Nat) : Int) < n then .bad 3 else .ok ((B.drop a).take n.toNat) (a + n.toNat)
def outString (B : List Nat) (a : Nat) (most : Int) : Out (List Nat) := match readAt B (a : Int) with
  | (x, to, 0) => if most < 0 ∨ most < (x : Int) then .bad 7 else if B.length - to.toNat < x then .bad 3 else .ok ((B.drop to.toNat).take x) (to.toNat + x)
  | (_, _, e + 1) => .bad (e + 1)
def outSection (B : List Nat) (a id : Nat) : Out (List Nat) := match B[a]? with
  | none => .bad 3
  | some c => if c ≠ id then .bad 11 else match readAt B ((a + 1 : Nat) : Int) with
    | (x, to, 0) => if B.length - to.toNat < 4 ∨ B.length - to.toNat - 4 < x then .bad 3 else
        if isCrc ((B.take (to.toNat + x + 4)).drop a) then .ok ((B.drop to.toNat).take x) (to.toNat + x + 4) else .bad 12
    | (_, _, e + 1) => .bad (e + 1)

/-- A string with its length; a section's frame. -/
def bytesOf (s : List Nat) : List Nat := groups s.length ++ s
def frameOf (id : Nat) (s : List Nat) : List Nat := withCrc (id :: bytesOf s)

theorem bytesOf_lt {s : List Nat} (h : ∀ c ∈ s, c < 256) : ∀ c ∈ bytesOf s, c < 256 := fun c hc => by
  rcases List.mem_append.1 hc with h1 | h1
  · exact groups_lt _ c h1
  · exact h c h1
theorem frameOf_lt {id : Nat} {s : List Nat} (hi : id < 256) (h : ∀ c ∈ s, c < 256) : ∀ c ∈ frameOf id s, c < 256 := withCrc_lt (fun c hc => by
  rcases List.mem_cons.1 hc with rfl | h1
  · exact hi
  · exact bytesOf_lt h c h1)
theorem bytesOf_length (s : List Nat) : (bytesOf s).length = (groups s.length).length + s.length := by simp [bytesOf]
theorem frameOf_length (id : Nat) (s : List Nat) : (frameOf id s).length = 1 + (groups s.length).length + s.length + 4 := by
  rw [frameOf, withCrc_length, List.length_cons, bytesOf_length]; omega

theorem outUint_cases {B : List Nat} (hB : ∀ c ∈ B, c < 256) {a : Nat} (ha : a ≤ B.length) (most : Nat) :
    (∃ e, e ≠ 0 ∧ readAt B (a : Int) = (0, 0, e) ∧ outUint B a most = .bad e) ∨
    (∃ x to : Nat, readAt B (a : Int) = (x, (to : Int), 0) ∧ a < to ∧ to ≤ B.length ∧ x < 18446744073709551616 ∧ outUint B a most = if most < x then .bad 7 else .ok x to) := by
  rcases readAt_cases hB ha with ⟨e, he, hr⟩ | ⟨x, n, hr, hn, hin, hg, hx⟩
  · refine .inl ⟨e, he, hr, ?_⟩
    obtain ⟨k, rfl⟩ : ∃ k, e = k + 1 := ⟨e - 1, by omega⟩
    rw [outUint, hr]
  · refine .inr ⟨x, a + n, hr, by omega, hin, hx, ?_⟩
    rw [outUint, hr]
    simp only [Int.toNat_natCast]
theorem outString_cases {B : List Nat} (hB : ∀ c ∈ B, c < 256) {a : Nat} (ha : a ≤ B.length) (most : Int) :
    (∃ e, e ≠ 0 ∧ readAt B (a : Int) = (0, 0, e) ∧ outString B a most = .bad e) ∨
    (∃ x to : Nat, readAt B (a : Int) = (x, (to : Int), 0) ∧ a < to ∧ to ≤ B.length ∧ x < 18446744073709551616 ∧
      outString B a most = if most < 0 ∨ most < (x : Int) then .bad 7 else if B.length - to < x then .bad 3 else .ok ((B.drop to).take x) (to + x)) := by
  rcases readAt_cases hB ha with ⟨e, he, hr⟩ | ⟨x, n, hr, hn, hin, hg, hx⟩
  · refine .inl ⟨e, he, hr, ?_⟩
    obtain ⟨k, rfl⟩ : ∃ k, e = k + 1 := ⟨e - 1, by omega⟩
    rw [outString, hr]
  · refine .inr ⟨x, a + n, hr, by omega, hin, hx, ?_⟩
    rw [outString, hr]
    simp only [Int.toNat_natCast]
theorem outSection_none {B : List Nat} {a : Nat} (h : B.length ≤ a) (id : Nat) : outSection B a id = .bad 3 := by rw [outSection, List.getElem?_eq_none h]
theorem outSection_other {B : List Nat} {a c : Nat} (h : B[a]? = some c) {id : Nat} (hi : c ≠ id) : outSection B a id = .bad 11 := by rw [outSection, h]; exact if_pos hi
theorem outSection_cases {B : List Nat} (hB : ∀ c ∈ B, c < 256) {a id : Nat} (h : B[a]? = some id) :
    (∃ e, e ≠ 0 ∧ readAt B ((a + 1 : Nat) : Int) = (0, 0, e) ∧ outSection B a id = .bad e) ∨
    (∃ x to : Nat, readAt B ((a + 1 : Nat) : Int) = (x, (to : Int), 0) ∧ a + 1 < to ∧ to ≤ B.length ∧ x < 18446744073709551616 ∧
      outSection B a id = if B.length - to < 4 ∨ B.length - to - 4 < x then .bad 3 else if isCrc ((B.take (to + x + 4)).drop a) then .ok ((B.drop to).take x) (to + x + 4) else .bad 12) := by
  have ha : a + 1 ≤ B.length := by have := (List.getElem?_eq_some_iff.1 h).1; omega
  rcases readAt_cases hB ha with ⟨e, he, hr⟩ | ⟨x, n, hr, hn, hin, hg, hx⟩
  · refine .inl ⟨e, he, hr, ?_⟩
    obtain ⟨k, rfl⟩ : ∃ k, e = k + 1 := ⟨e - 1, by omega⟩
    rw [outSection, h]
    simp only [hr, ne_eq, not_true_eq_false, if_false]
  · refine .inr ⟨x, a + 1 + n, hr, by omega, hin, hx, ?_⟩
    rw [outSection, h]
    simp only [hr, ne_eq, not_true_eq_false, if_false, Int.toNat_natCast]

/-- What was appended is read back. -/
theorem outString_back (pre s rest : List Nat) (hs : s.length < 18446744073709551616) (most : Int) (hm : (s.length : Int) ≤ most) :
    outString (pre ++ bytesOf s ++ rest) pre.length most = .ok s (pre.length + (bytesOf s).length) := by
  have e : pre ++ bytesOf s ++ rest = pre ++ groups s.length ++ (s ++ rest) := by simp [bytesOf]
  have hd : (pre ++ groups s.length ++ (s ++ rest)).drop (pre.length + (groups s.length).length) = s ++ rest := by rw [← List.length_append]; exact List.drop_left
  rw [e, outString, readAt_groups pre (s ++ rest) hs]
  simp only [Int.toNat_natCast]
  rw [if_neg (by omega), if_neg (by simp; omega), hd, List.take_left, bytesOf_length, Nat.add_assoc]
theorem outSection_back (pre s rest : List Nat) (id : Nat) (hs : s.length < 18446744073709551616) :
    outSection (pre ++ frameOf id s ++ rest) pre.length id = .ok s (pre.length + (frameOf id s).length) := by
  obtain ⟨t, ht⟩ : ∃ t, le4 (crcOf (id :: bytesOf s)) = t := ⟨_, rfl⟩
  have ht4 : t.length = 4 := by rw [← ht]; rfl
  have ef : frameOf id s = id :: bytesOf s ++ t := by rw [frameOf, withCrc, ht]
  have e : pre ++ frameOf id s ++ rest = (pre ++ [id]) ++ groups s.length ++ (s ++ t ++ rest) := by rw [ef]; simp [bytesOf]
  have h0 : (pre ++ frameOf id s ++ rest)[pre.length]? = some id := by rw [ef]; simp
  have hr := readAt_groups (pre ++ [id]) (s ++ t ++ rest) hs
  rw [← e] at hr
  have hpl : ((pre ++ [id]).length : Int) = ((pre.length + 1 : Nat) : Int) := by simp
  rw [hpl] at hr
  have hd : (pre ++ frameOf id s ++ rest).drop (pre.length + 1 + (groups s.length).length) = s ++ t ++ rest := by
    rw [e, show pre.length + 1 + (groups s.length).length = ((pre ++ [id]) ++ groups s.length).length by simp; omega]; exact List.drop_left
  have hlen : (pre ++ frameOf id s ++ rest).length = pre.length + 1 + (groups s.length).length + s.length + 4 + rest.length := by
    rw [List.length_append, List.length_append, frameOf_length]; omega
  have hk : ((pre ++ frameOf id s ++ rest).take (pre.length + 1 + (groups s.length).length + s.length + 4)).drop pre.length = frameOf id s := by
    have h1 : pre.length + 1 + (groups s.length).length + s.length + 4 = (pre ++ frameOf id s).length := by rw [List.length_append, frameOf_length]; omega
    rw [h1, List.take_left, List.drop_left]
  have hpl2 : (pre ++ [id]).length = pre.length + 1 := by simp
  rw [hpl2] at hr
  rw [outSection, h0]
  simp only [hr, ne_eq, not_true_eq_false, if_false, Int.toNat_natCast]
  rw [if_neg (by rw [hlen]; omega), hk, show isCrc (frameOf id s) = true from isCrc_withCrc _, if_pos rfl, hd, List.append_assoc, List.take_left, frameOf_length]
  congr 1
  omega
/-- A section that takes up all of the bytes ends with their checksum. -/
theorem outSection_whole {d : List Nat} (hd : ∀ c ∈ d, c < 256) {id : Nat} {g : List Nat} (h : outSection d 0 id = .ok g d.length) : isCrc d = true := by
  cases h0 : d[0]? with
  | none => rw [outSection, h0] at h; cases h
  | some c =>
    by_cases hc : c = id
    · subst hc
      rcases outSection_cases hd h0 with ⟨e, _, _, hr⟩ | ⟨x, to, _, _, hto, _, hr⟩
      · rw [hr] at h; cases h
      · rw [hr] at h
        split at h
        · cases h
        · split at h
          · next hk =>
            simp only [Out.ok.injEq] at h
            rw [h.2, List.take_length, List.drop_zero] at hk
            exact hk
          · cases h
    · rw [outSection_other h0 hc] at h; cases h
end Go.Proofs.Ytmnagmbokajfpaa

end

section
/- Readings that invert writings: numbers, symbols, pairs, counted lists; what is read of a proper prefix. No program in sight. -/
set_option linter.unusedVariables false
namespace Go.Proofs.Ytmnagmbokajfpaa

/-- What a number read at a gives when fewer bytes are there. -/
theorem readAt_take {B : List Nat} (hB : ∀ c ∈ B, c < 256) {a m x : Nat} {to : Int} (ham : a ≤ m) (hm : m ≤ B.length) (h : readAt B (a : Int) = (x, to, 0)) :
    ∃ b : Nat, to = (b : Int) ∧ a < b ∧ b ≤ B.length ∧ B.drop a = groups x ++ B.drop b ∧ b = a + (groups x).length ∧ x < 18446744073709551616 ∧ readAt (B.take m) (a : Int) = if b ≤ m then (x, (b : Int), 0) else (0, 0, 3) := by
  rcases readAt_cases hB (Nat.le_trans ham hm) with ⟨e, he, hr⟩ | ⟨y, n, hr, hn, hin, hg, hy⟩
  · rw [h] at hr; simp only [Prod.mk.injEq] at hr; exact absurd hr.2.2.symm he
  · rw [h] at hr
    simp only [Prod.mk.injEq] at hr
    obtain ⟨rfl, rfl, _⟩ := hr
    have hl : (groups x).length = n := by rw [← hg, List.length_drop, List.length_take]; omega
    have hd : B.drop a = groups x ++ B.drop (a + n) := by
      have : B.drop a = (B.take (a + n) ++ B.drop (a + n)).drop a := by rw [List.take_append_drop]
      rw [this, List.drop_append_of_le_length (by rw [List.length_take]; omega), hg]
    have hta : (B.take a).length = a := by rw [List.length_take]; omega
    have hBs : B = B.take a ++ (groups x ++ B.drop (a + n)) := by rw [← hd, List.take_append_drop]
    have htm : B.take m = B.take a ++ (groups x ++ B.drop (a + n)).take (m - a) := by
      have h0 : B.take m = (B.take a ++ (groups x ++ B.drop (a + n))).take m := by rw [← hBs]
      rw [h0, List.take_append, hta, List.take_of_length_le (l := B.take a) (by omega)]
    refine ⟨a + n, rfl, by omega, hin, hd, by rw [hl], hy, ?_⟩
    by_cases hle : a + n ≤ m
    · rw [if_pos hle, htm]
      have h1 : (groups x ++ B.drop (a + n)).take (m - a) = groups x ++ (B.drop (a + n)).take (m - a - n) := by
        rw [List.take_append, hl, List.take_of_length_le (l := groups x) (by omega)]
      rw [h1, ← List.append_assoc]
      have := readAt_groups (B.take a) ((B.drop (a + n)).take (m - a - n)) hy
      rw [hta, hl] at this
      exact this
    · rw [if_neg hle, htm]
      have h1 : (groups x ++ B.drop (a + n)).take (m - a) = (groups x).take (m - a) := by
        rw [List.take_append_of_le_length (by omega)]
      rw [h1]
      have hp := readFrom_prefix x 0 0 (m - a) (by decide) (by simpa using hy) (by omega)
      have h2 : readFrom ((B.take a ++ (groups x).take (m - a)).drop a) 0 0 = (0, 0, 3) := by
        rw [List.drop_append_of_le_length (by omega), List.drop_of_length_le (by omega), List.nil_append]; exact hp
      rw [readAt_in (by rw [List.length_append]; omega) h2]; rfl

/-- p reads what f writes, of what is ok: any bytes may follow; what is read was written; of fewer bytes the same is read, or too few are found. -/
structure Reads {α : Type} (p : List Nat → Nat → Out α) (f : α → List Nat) (ok : α → Prop) : Prop where
  back : ∀ (pre rest : List Nat) (x : α), ok x → p (pre ++ f x ++ rest) pre.length = .ok x (pre.length + (f x).length)
  inv : ∀ {B : List Nat} {a : Nat} {x : α} {b : Nat}, (∀ c ∈ B, c < 256) → a ≤ B.length → p B a = .ok x b → ok x ∧ B.drop a = f x ++ B.drop b ∧ a < b ∧ b ≤ B.length
  bad : ∀ {B : List Nat} {a e : Nat}, (∀ c ∈ B, c < 256) → a ≤ B.length → p B a = .bad e → e ≠ 0
  cut : ∀ {B : List Nat} {a : Nat} {x : α} {b m : Nat}, (∀ c ∈ B, c < 256) → a ≤ m → m ≤ B.length → p B a = .ok x b → p (B.take m) a = .bad 3 ∨ (b ≤ m ∧ p (B.take m) a = .ok x b)
  pos : ∀ x, ok x → 0 < (f x).length
  lt : ∀ x, ok x → ∀ c ∈ f x, c < 256

/-- A number of which not all are taken. -/
def pNum {α : Type} (g : Nat → Option α) (z : Nat) (B : List Nat) (a : Nat) : Out α := match readAt B (a : Int) with
  | (n, to, 0) => match g n with
    | some x => .ok x to.toNat
    | none => .bad z
  | (_, _, e + 1) => .bad (e + 1)
theorem reads_num {α : Type} {g : Nat → Option α} {h : α → Nat} {ok : α → Prop} {z : Nat} (hz : z ≠ 0) (h1 : ∀ x, ok x → g (h x) = some x ∧ h x < 18446744073709551616) (h2 : ∀ n x, g n = some x → ok x ∧ h x = n) : Reads (pNum g z) (fun x => groups (h x)) ok where
  back := fun pre rest x hx => by
    obtain ⟨e1, e2⟩ := h1 x hx
    rw [pNum, readAt_groups pre rest e2]
    simp only [e1, Int.toNat_natCast]
  inv := fun {B a x b} hB ha hp => by
    rcases readAt_cases hB ha with ⟨e, he, hr⟩ | ⟨y, n, hr, hn, hin, hg, hy⟩
    · obtain ⟨k, rfl⟩ : ∃ k, e = k + 1 := ⟨e - 1, by omega⟩
      rw [pNum, hr] at hp; cases hp
    · obtain ⟨b', hb, h3, h4, h5, h6, h7, _⟩ := readAt_take hB (Nat.le_refl a) ha hr
      rw [pNum, hr] at hp
      simp only at hp
      split at hp
      · next x' hx' =>
        cases hp
        obtain ⟨k1, k2⟩ := h2 _ _ hx'
        rw [Int.toNat_natCast]
        have : b' = a + n := by omega
        subst this
        exact ⟨k1, by rw [k2]; exact h5, by omega, h4⟩
      · cases hp
  bad := fun {B a e} hB ha hp => by
    rw [pNum] at hp
    split at hp
    · split at hp
      · cases hp
      · cases hp; exact hz
    · cases hp; omega
  cut := fun {B a x b m} hB ha hm hp => by
    rcases readAt_cases hB (Nat.le_trans ha hm) with ⟨e, he, hr⟩ | ⟨y, n, hr, hn, hin, hg, hy⟩
    · obtain ⟨k, rfl⟩ : ∃ k, e = k + 1 := ⟨e - 1, by omega⟩
      rw [pNum, hr] at hp; cases hp
    · obtain ⟨b', hb, h3, h4, h5, h6, h7, h8⟩ := readAt_take hB ha hm hr
      rw [pNum, hr] at hp
      simp only at hp
      split at hp
      · next x' hx' =>
        cases hp
        have e : b' = a + n := by omega
        rw [pNum, h8]
        by_cases hle : b' ≤ m
        · rw [if_pos hle]
          refine Or.inr ⟨by rw [Int.toNat_natCast]; omega, ?_⟩
          simp only [hx']
          rw [← hb]
        · rw [if_neg hle]; exact Or.inl rfl
      · cases hp
  pos := fun x _ => groups_pos _
  lt := fun x _ => groups_lt _

def pPair {α β : Type} (p : List Nat → Nat → Out α) (q : List Nat → Nat → Out β) (B : List Nat) (a : Nat) : Out (α × β) := match p B a with
  | .bad e => .bad e
  | .ok x b => match q B b with
    | .bad e => .bad e
    | .ok y c => .ok (x, y) c
theorem reads_pair {α β : Type} {p : List Nat → Nat → Out α} {q : List Nat → Nat → Out β} {f : α → List Nat} {g : β → List Nat} {ok1 : α → Prop} {ok2 : β → Prop} (hp : Reads p f ok1) (hq : Reads q g ok2) :
    Reads (pPair p q) (fun x => f x.1 ++ g x.2) (fun x => ok1 x.1 ∧ ok2 x.2) where
  back := fun pre rest x hx => by
    have e1 := hp.back pre (g x.2 ++ rest) x.1 hx.1
    have e2 := hq.back (pre ++ f x.1) rest x.2 hx.2
    have e0 : pre ++ (f x.1 ++ g x.2) ++ rest = pre ++ f x.1 ++ (g x.2 ++ rest) := by simp
    have e3 : pre ++ (f x.1 ++ g x.2) ++ rest = pre ++ f x.1 ++ g x.2 ++ rest := by simp
    rw [pPair, e0, e1]
    simp only
    rw [← e0, e3, ← List.length_append, e2]
    simp only [List.length_append, Nat.add_assoc]
  inv := fun {B a x c} hB ha h => by
    rw [pPair] at h
    split at h
    · cases h
    · next y b h1 =>
      split at h
      · cases h
      · next z c' h2 =>
        cases h
        obtain ⟨a1, a2, a3, a4⟩ := hp.inv hB ha h1
        obtain ⟨b1, b2, b3, b4⟩ := hq.inv hB a4 h2
        exact ⟨⟨a1, b1⟩, by rw [a2, b2, List.append_assoc], by omega, b4⟩
  bad := fun {B a e} hB ha h => by
    rw [pPair] at h
    split at h
    · next e' h1 => cases h; exact hp.bad hB ha h1
    · next y b h1 =>
      split at h
      · next e' h2 => cases h; exact hq.bad hB (hp.inv hB ha h1).2.2.2 h2
      · cases h
  cut := fun {B a x c m} hB ha hm h => by
    rw [pPair] at h
    split at h
    · cases h
    · next y b h1 =>
      split at h
      · cases h
      · next z c' h2 =>
        cases h
        rcases hp.cut hB ha hm h1 with e1 | ⟨hb, e1⟩
        · rw [pPair, e1]; exact Or.inl rfl
        · rcases hq.cut hB hb hm h2 with e2 | ⟨hc, e2⟩
          · exact Or.inl (by rw [pPair, e1]; simp only [e2])
          · exact Or.inr ⟨hc, by rw [pPair, e1]; simp only [e2]⟩
  pos := fun x hx => by rw [List.length_append]; have := hp.pos _ hx.1; omega
  lt := fun x hx c hc => by
    rcases List.mem_append.1 hc with h | h
    · exact hp.lt _ hx.1 c h
    · exact hq.lt _ hx.2 c h

def pMany {α : Type} (p : List Nat → Nat → Out α) (B : List Nat) : Nat → Nat → List α → Out (List α)
  | 0, a, acc => .ok acc a
  | k + 1, a, acc => match p B a with
    | .bad e => .bad e
    | .ok x b => pMany p B k b (acc ++ [x])
/-- A counted list, whose elements take a byte or more; z: the error of no elements, where there must be one. -/
def pList {α : Type} (z : Nat) (p : List Nat → Nat → Out α) (B : List Nat) (a : Nat) : Out (List α) := match readAt B (a : Int) with
  | (n, to, 0) => if B.length - to.toNat < n then .bad 3 else if z ≠ 0 ∧ n = 0 then .bad z else pMany p B n to.toNat []
  | (_, _, e + 1) => .bad (e + 1)
section
variable {α : Type} {p : List Nat → Nat → Out α} {f : α → List Nat} {ok : α → Prop}
theorem many_back (h : Reads p f ok) (rest : List Nat) (l : List α) : ∀ (pre : List Nat) (acc : List α), (∀ x ∈ l, ok x) → pMany p (pre ++ l.flatMap f ++ rest) l.length pre.length acc = .ok (acc ++ l) (pre.length + (l.flatMap f).length) := by
  induction l with
  | nil => intro pre acc _; simp [pMany]
  | cons x l ih =>
    intro pre acc ho
    have e0 : pre ++ (x :: l).flatMap f ++ rest = pre ++ f x ++ (l.flatMap f ++ rest) := by simp
    have e1 := h.back pre (l.flatMap f ++ rest) x (ho x (by simp))
    have e2 := ih (pre ++ f x) (acc ++ [x]) (fun y hy => ho y (by simp [hy]))
    rw [List.length_cons, pMany, e0, e1]
    simp only
    rw [← List.append_assoc, ← List.length_append, e2]
    simp [Nat.add_assoc]
theorem many_inv (h : Reads p f ok) {B : List Nat} (hB : ∀ c ∈ B, c < 256) : ∀ (k a : Nat) (acc u : List α) (b : Nat), a ≤ B.length → pMany p B k a acc = .ok u b → ∃ l, u = acc ++ l ∧ l.length = k ∧ (∀ x ∈ l, ok x) ∧ B.drop a = l.flatMap f ++ B.drop b ∧ a ≤ b ∧ b ≤ B.length := by
  intro k
  induction k with
  | zero => intro a acc u b ha hp; rw [pMany] at hp; cases hp; exact ⟨[], by simp, rfl, (fun _ h => by cases h), rfl, Nat.le_refl _, ha⟩
  | succ k ih =>
    intro a acc u b ha hp
    rw [pMany] at hp
    split at hp
    · cases hp
    · next x b1 h1 =>
      obtain ⟨a1, a2, a3, a4⟩ := h.inv hB ha h1
      obtain ⟨l, e1, e2, e3, e4, e5, e6⟩ := ih b1 (acc ++ [x]) u b a4 hp
      refine ⟨x :: l, by rw [e1]; simp, by simp [e2], ?_, by rw [a2, e4]; simp, by omega, e6⟩
      intro y hy
      rcases List.mem_cons.1 hy with rfl | hy
      · exact a1
      · exact e3 y hy
theorem many_bad (h : Reads p f ok) {B : List Nat} (hB : ∀ c ∈ B, c < 256) : ∀ (k a : Nat) (acc : List α) (e : Nat), a ≤ B.length → pMany p B k a acc = .bad e → e ≠ 0 := by
  intro k
  induction k with
  | zero => intro a acc e _ hp; rw [pMany] at hp; cases hp
  | succ k ih =>
    intro a acc e ha hp
    rw [pMany] at hp
    split at hp
    · next e' h1 => cases hp; exact h.bad hB ha h1
    · next x b1 h1 => exact ih b1 _ e (h.inv hB ha h1).2.2.2 hp
theorem many_cut (h : Reads p f ok) {B : List Nat} (hB : ∀ c ∈ B, c < 256) {m : Nat} (hm : m ≤ B.length) : ∀ (k a : Nat) (acc u : List α) (b : Nat), a ≤ m → pMany p B k a acc = .ok u b → pMany p (B.take m) k a acc = .bad 3 ∨ (b ≤ m ∧ pMany p (B.take m) k a acc = .ok u b) := by
  intro k
  induction k with
  | zero => intro a acc u b ha hp; rw [pMany] at hp; cases hp; exact Or.inr ⟨ha, rfl⟩
  | succ k ih =>
    intro a acc u b ha hp
    rw [pMany] at hp
    split at hp
    · cases hp
    · next x b1 h1 =>
      rcases h.cut hB ha hm h1 with e1 | ⟨hb, e1⟩
      · rw [pMany, e1]; exact Or.inl rfl
      · rw [pMany, e1]; exact ih b1 _ u b hb hp
theorem flat_le (h : Reads p f ok) (l : List α) (ho : ∀ x ∈ l, ok x) : l.length ≤ (l.flatMap f).length := by
  induction l with
  | nil => exact Nat.le_refl _
  | cons x l ih => rw [List.flatMap_cons, List.length_append, List.length_cons]; have := h.pos x (ho x (by simp)); have := ih (fun y hy => ho y (by simp [hy])); omega
theorem reads_list {z : Nat} (h : Reads p f ok) : Reads (pList z p) (fun l => groups l.length ++ l.flatMap f) (fun l => (∀ x ∈ l, ok x) ∧ l.length < 18446744073709551616 ∧ (z ≠ 0 → l ≠ [])) where
  back := fun pre rest l hl => by
    have e0 : pre ++ (groups l.length ++ l.flatMap f) ++ rest = pre ++ groups l.length ++ (l.flatMap f ++ rest) := by simp
    have e3 : pre ++ (groups l.length ++ l.flatMap f) ++ rest = pre ++ groups l.length ++ l.flatMap f ++ rest := by simp
    have hr := readAt_groups pre (l.flatMap f ++ rest) hl.2.1
    rw [pList, e0, hr]
    simp only [Int.toNat_natCast]
    have hf := flat_le h l hl.1
    rw [if_neg (by simp only [List.length_append]; omega), if_neg (fun e => hl.2.2 e.1 (List.eq_nil_of_length_eq_zero e.2)), ← e0, e3, ← List.length_append, many_back h rest l _ _ hl.1]
    simp [Nat.add_assoc]
  inv := fun {B a u b} hB ha hp => by
    rcases readAt_cases hB ha with ⟨e, he, hr⟩ | ⟨y, n, hr, hn, hin, hg, hy⟩
    · obtain ⟨k, rfl⟩ : ∃ k, e = k + 1 := ⟨e - 1, by omega⟩
      rw [pList, hr] at hp; cases hp
    · obtain ⟨b', hb, h3, h4, h5, h6, h7, _⟩ := readAt_take hB (Nat.le_refl a) ha hr
      have e : b' = a + n := by omega
      rw [pList, hr] at hp
      simp only [Int.toNat_natCast] at hp
      split at hp
      · cases hp
      · split at hp
        · cases hp
        · next hz =>
          rw [← e] at hp
          obtain ⟨l, e1, e2, e3, e4, e5, e6⟩ := many_inv h hB y b' [] u b h4 hp
          rw [List.nil_append] at e1
          subst e1
          refine ⟨⟨e3, by rw [e2]; exact h7, fun hz1 hn1 => hz ⟨hz1, by rw [← e2, hn1]; rfl⟩⟩, by rw [h5, e4, e2, List.append_assoc], by omega, e6⟩
  bad := fun {B a e} hB ha hp => by
    rcases readAt_cases hB ha with ⟨e1, he, hr⟩ | ⟨y, n, hr, hn, hin, hg, hy⟩
    · obtain ⟨k, rfl⟩ : ∃ k, e1 = k + 1 := ⟨e1 - 1, by omega⟩
      rw [pList, hr] at hp; cases hp; omega
    · rw [pList, hr] at hp
      simp only [Int.toNat_natCast] at hp
      split at hp
      · cases hp; decide
      · split at hp
        · next hz => cases hp; exact hz.1
        · exact many_bad h hB _ _ _ _ hin hp
  cut := fun {B a u b m} hB ha hm hp => by
    rcases readAt_cases hB (Nat.le_trans ha hm) with ⟨e1, he, hr⟩ | ⟨y, n, hr, hn, hin, hg, hy⟩
    · obtain ⟨k, rfl⟩ : ∃ k, e1 = k + 1 := ⟨e1 - 1, by omega⟩
      rw [pList, hr] at hp; cases hp
    · obtain ⟨b', hb, h3, h4, h5, h6, h7, h8⟩ := readAt_take hB ha hm hr
      have e : b' = a + n := by omega
      rw [pList, hr] at hp
      simp only [Int.toNat_natCast] at hp
      rw [pList, h8]
      by_cases hle : b' ≤ m
      · rw [if_pos hle]
        simp only [Int.toNat_natCast]
        split
        · exact Or.inl rfl
        · split at hp
          · cases hp
          · split at hp
            · cases hp
            · next hz =>
              rw [if_neg hz]
              rw [← e] at hp
              exact many_cut h hB hm _ _ _ _ _ hle hp
      · rw [if_neg hle]; exact Or.inl rfl
  pos := fun l _ => by rw [List.length_append]; have := groups_pos l.length; omega
  lt := fun l hl c hc => by
    rcases List.mem_append.1 hc with e | e
    · exact groups_lt _ c e
    · obtain ⟨x, hx, e⟩ := List.mem_flatMap.1 e
      exact h.lt x (hl.1 x hx) c e
end

/-- All bytes are one reading. -/
def pAll {α : Type} (p : List Nat → Nat → Out α) (z : α) (B : List Nat) : Nat × α := match p B 0 with
  | .bad e => (e, z)
  | .ok x b => if b < B.length then (4, z) else (0, x)
section
variable {α : Type} {p : List Nat → Nat → Out α} {f : α → List Nat} {ok : α → Prop} {z : α}
theorem all_back (h : Reads p f ok) {x : α} (hx : ok x) : pAll p z (f x) = (0, x) := by
  have := h.back [] [] x hx
  simp only [List.nil_append, List.append_nil, List.length_nil, Nat.zero_add] at this
  rw [pAll, this]; simp
theorem all_inv (h : Reads p f ok) {B : List Nat} (hB : ∀ c ∈ B, c < 256) (he : (pAll p z B).1 = 0) : ok (pAll p z B).2 ∧ B = f (pAll p z B).2 := by
  cases hp : p B 0 with
  | bad e => rw [pAll, hp] at he; exact absurd he (h.bad hB (Nat.zero_le _) hp)
  | ok x b =>
    obtain ⟨a1, a2, a3, a4⟩ := h.inv hB (Nat.zero_le _) hp
    rw [pAll, hp] at he ⊢
    simp only at he ⊢
    split at he
    · cases he
    · next hb =>
      rw [if_neg hb]
      refine ⟨a1, ?_⟩
      rw [List.drop_zero, List.drop_of_length_le (by omega), List.append_nil] at a2
      exact a2
theorem all_err (B : List Nat) (he : (pAll p z B).1 ≠ 0) : (pAll p z B).2 = z := by
  rw [pAll] at he ⊢
  split
  · rfl
  · next x b hp =>
    rw [hp] at he
    simp only at he
    split
    · rfl
    · next hb => rw [if_neg hb] at he; exact absurd rfl he
theorem all_cut (h : Reads p f ok) {x : α} (hx : ok x) {m : Nat} (hm : m < (f x).length) : pAll p z ((f x).take m) = (3, z) := by
  have hb := h.back [] [] x hx
  simp only [List.nil_append, List.append_nil, List.length_nil, Nat.zero_add] at hb
  rcases h.cut (h.lt x hx) (Nat.zero_le m) (Nat.le_of_lt hm) hb with e | ⟨e, _⟩
  · rw [pAll, e]
  · omega
theorem all_more (h : Reads p f ok) {x : α} (hx : ok x) (c : Nat) : pAll p z (f x ++ [c]) = (4, z) := by
  have hb := h.back [] [c] x hx
  simp only [List.nil_append, List.length_nil, Nat.zero_add] at hb
  rw [pAll, hb]; simp
end
end Go.Proofs.Ytmnagmbokajfpaa

end

section
/- The place of a string in a list of strings. No program in sight. -/
set_option linter.unusedVariables false
namespace Go.Proofs.Ytmnagmbokajfpaa
open Go Go.RowKit

def findS (l : List ByteArray) (x : ByteArray) : Int := firstI (fun y => decide (y = x)) l
theorem findS_in {t : List ByteArray} {s : ByteArray} (h : s ∈ t) : ∃ j : Nat, findS t s = (j : Int) ∧ t[j]? = some s := by
  rcases firstI_cases (fun y => decide (y = s)) t with ⟨_, h2⟩ | ⟨j, x, h1, h2, h3, _⟩
  · have := h2 s h; simp at this
  · have : x = s := by simpa using h3
    subst this
    exact ⟨j, h1, h2⟩
theorem findS_out {t : List ByteArray} {s : ByteArray} (h : s ∉ t) : findS t s = -1 :=
  firstI_none fun y hy => by simp only [decide_eq_false_iff_not]; rintro rfl; exact h hy
theorem findS_at {t : List ByteArray} (ht : t.Nodup) {n : Nat} {s : ByteArray} (h : t[n]? = some s) : findS t s = (n : Int) := by
  obtain ⟨j, h1, h2⟩ := findS_in (List.mem_of_getElem? h)
  rw [h1]
  have hj := (List.getElem?_eq_some_iff.1 h2).1
  have := (List.getElem?_inj hj ht).1 (h2.trans h.symm)
  omega
end Go.Proofs.Ytmnagmbokajfpaa

end

section
/- Layer 13: records, their encoding and its reading, as functions on lists. No program in sight. -/
set_option linter.unusedVariables false
namespace Go.Proofs.Ytmnagmbokajfpaa
open Go Go.RowKit

/-- Labels, and the lengths of chunks. -/
abbrev Rec := List Lab × List Int
def idxT (t : List ByteArray) (s : ByteArray) : Nat := (findS t s).toNat
def labBytes (t : List ByteArray) (x : Lab) : List Nat := groups (idxT t x.1) ++ groups (idxT t x.2)
def lenOk (n : Int) : Prop := 1 ≤ n ∧ n ≤ 2147483647
instance (n : Int) : Decidable (lenOk n) := inferInstanceAs (Decidable (1 ≤ n ∧ n ≤ 2147483647))
def labsBytes (t : List ByteArray) (l : List Lab) : List Nat := groups l.length ++ l.flatMap (labBytes t)
def lensBytes (l : List Int) : List Nat := groups l.length ++ l.flatMap (fun n => groups n.toNat)
def recBytes (t : List ByteArray) (r : Rec) : List Nat := labsBytes t r.1 ++ lensBytes r.2
def encRc (t : List ByteArray) (l : List Rec) : List Nat := groups l.length ++ l.flatMap (recBytes t)

def pSym (t : List ByteArray) : List Nat → Nat → Out ByteArray := pNum (fun n => t[n]?) 14
def pLen : List Nat → Nat → Out Int := pNum (fun n => if 1 ≤ n ∧ n ≤ 2147483647 then some (n : Int) else none) 23
def pLab (t : List ByteArray) : List Nat → Nat → Out Lab := pPair (pSym t) (pSym t)
def pLabs (t : List ByteArray) : List Nat → Nat → Out (List Lab) := pList 0 (pLab t)
def pLens : List Nat → Nat → Out (List Int) := pList 23 pLen
def pRec (t : List ByteArray) : List Nat → Nat → Out Rec := pPair (pLabs t) pLens
def pRecs (t : List ByteArray) : List Nat → Nat → Out (List Rec) := pList 0 (pRec t)
/-- What Decode gives. -/
def decRc (t : List ByteArray) (B : List Nat) : Nat × List Rec := pAll (pRecs t) [] B

def labIn (t : List ByteArray) (x : Lab) : Prop := x.1 ∈ t ∧ x.2 ∈ t
instance memDec (t : List ByteArray) (s : ByteArray) : Decidable (s ∈ t) := decidable_of_iff (∃ y ∈ t, y = s) ⟨fun ⟨y, hy, e⟩ => e ▸ hy, fun h => ⟨s, h, rfl⟩⟩
instance (t : List ByteArray) (x : Lab) : Decidable (labIn t x) := inferInstanceAs (Decidable (x.1 ∈ t ∧ x.2 ∈ t))
/-- The error of a record. -/
def recErr (t : List ByteArray) (r : Rec) : Nat := if ∀ x ∈ r.1, labIn t x then (if r.2 = [] then 23 else if ∀ n ∈ r.2, lenOk n then 0 else 23) else 14
def recsErr (t : List ByteArray) : List Rec → Nat
  | [] => 0
  | r :: l => if recErr t r = 0 then recsErr t l else recErr t r
/-- What Encode gives. -/
def encRcR (t : List ByteArray) (l : List Rec) : Nat × List Nat := if recsErr t l = 0 then (0, encRc t l) else (recsErr t l, [])

theorem asc_nodup {t : List ByteArray} (h : AscB ltS t) : t.Nodup :=
  List.Pairwise.imp (fun hab e => by rw [e, ltS_ok.irr] at hab; cases hab) h

section
variable {t : List ByteArray} (ht : t.Nodup) (hl : t.length < 18446744073709551616)
include ht hl
theorem reads_sym : Reads (pSym t) (fun s => groups (idxT t s)) (fun s => s ∈ t) :=
  reads_num (by decide) (fun s hs => by
    obtain ⟨j, h1, h2⟩ := findS_in hs
    have hj := (List.getElem?_eq_some_iff.1 h2).1
    rw [idxT, h1]
    exact ⟨h2, by simp only [Int.toNat_natCast]; omega⟩) (fun n s h => ⟨List.mem_of_getElem? h, by rw [idxT, findS_at ht h]; rfl⟩)
omit ht hl in
theorem reads_len : Reads pLen (fun n => groups n.toNat) lenOk :=
  reads_num (by decide) (fun n hn => by
    obtain ⟨h1, h2⟩ := hn
    refine ⟨?_, by omega⟩
    rw [if_pos (by omega)]
    congr 1
    omega) (fun n x h => by
    split at h
    · next hn => cases h; exact ⟨⟨by omega, by omega⟩, by simp⟩
    · cases h)
theorem reads_lab : Reads (pLab t) (labBytes t) (fun x => x.1 ∈ t ∧ x.2 ∈ t) := reads_pair (reads_sym ht hl) (reads_sym ht hl)
theorem reads_labs : Reads (pLabs t) (labsBytes t) (fun l => (∀ x ∈ l, x.1 ∈ t ∧ x.2 ∈ t) ∧ l.length < 18446744073709551616 ∧ ((0 : Nat) ≠ 0 → l ≠ [])) := reads_list (reads_lab ht hl)
omit ht hl in
theorem reads_lens : Reads pLens lensBytes (fun l => (∀ n ∈ l, lenOk n) ∧ l.length < 18446744073709551616 ∧ ((23 : Nat) ≠ 0 → l ≠ [])) := reads_list reads_len
def okRec (t : List ByteArray) (r : Rec) : Prop := ((∀ x ∈ r.1, x.1 ∈ t ∧ x.2 ∈ t) ∧ r.1.length < 18446744073709551616 ∧ ((0 : Nat) ≠ 0 → r.1 ≠ [])) ∧ ((∀ n ∈ r.2, lenOk n) ∧ r.2.length < 18446744073709551616 ∧ ((23 : Nat) ≠ 0 → r.2 ≠ []))
theorem reads_rec : Reads (pRec t) (recBytes t) (okRec t) := reads_pair (reads_labs ht hl) reads_lens
def okRecs (t : List ByteArray) (l : List Rec) : Prop := (∀ r ∈ l, okRec t r) ∧ l.length < 18446744073709551616 ∧ ((0 : Nat) ≠ 0 → l ≠ [])
theorem reads_recs : Reads (pRecs t) (encRc t) (okRecs t) := reads_list (reads_rec ht hl)
end

theorem recErr_zero {t : List ByteArray} {r : Rec} : recErr t r = 0 ↔ (∀ x ∈ r.1, labIn t x) ∧ r.2 ≠ [] ∧ ∀ n ∈ r.2, lenOk n := by
  unfold recErr
  constructor
  · intro h
    split at h
    · next h1 =>
      split at h
      · cases h
      · next h2 =>
        split at h
        · next h3 => exact ⟨h1, h2, h3⟩
        · cases h
    · cases h
  · rintro ⟨h1, h2, h3⟩
    rw [if_pos h1, if_neg h2, if_pos h3]
theorem recsErr_zero {t : List ByteArray} {l : List Rec} : recsErr t l = 0 ↔ ∀ r ∈ l, recErr t r = 0 := by
  induction l with
  | nil => simp [recsErr]
  | cons r l ih =>
    rw [recsErr]
    by_cases h : recErr t r = 0
    · rw [if_pos h, ih]; simp [h]
    · rw [if_neg h]; simp [h]
/-- Bounds that a machine keeps. -/
def recLens (l : List Rec) : Prop := l.length < 18446744073709551616 ∧ ∀ r ∈ l, r.1.length < 18446744073709551616 ∧ r.2.length < 18446744073709551616
theorem okRecs_of {t : List ByteArray} {l : List Rec} (h : recsErr t l = 0) (hl : recLens l) : okRecs t l :=
  ⟨fun r hr => by
    obtain ⟨h1, h2, h3⟩ := recErr_zero.1 (recsErr_zero.1 h r hr)
    exact ⟨⟨h1, (hl.2 r hr).1, fun e => absurd rfl e⟩, h3, (hl.2 r hr).2, fun _ => h2⟩, hl.1, fun e => absurd rfl e⟩
theorem okRecs_err {t : List ByteArray} {l : List Rec} (h : okRecs t l) : recsErr t l = 0 :=
  recsErr_zero.2 fun r hr => recErr_zero.2 ⟨(h.1 r hr).1.1, (h.1 r hr).2.2.2 (by decide), (h.1 r hr).2.1⟩
section
variable {t : List ByteArray} (ht : AscB ltS t) (hl : t.length < 18446744073709551616)
include ht hl
theorem decRc_back {l : List Rec} (h : recsErr t l = 0) (hl' : recLens l) : decRc t (encRc t l) = (0, l) := all_back (reads_recs (asc_nodup ht) hl) (okRecs_of h hl')
theorem decRc_inv {B : List Nat} (hB : ∀ c ∈ B, c < 256) (h : (decRc t B).1 = 0) : encRcR t (decRc t B).2 = (0, B) := by
  obtain ⟨h1, h2⟩ := all_inv (z := []) (reads_recs (asc_nodup ht) hl) hB h
  have h3 : recsErr t (decRc t B).2 = 0 := okRecs_err h1
  rw [encRcR, if_pos h3]
  exact Prod.ext rfl h2.symm
theorem decRc_cut {l : List Rec} (h : recsErr t l = 0) (hl' : recLens l) {m : Nat} (hm : m < (encRc t l).length) : decRc t ((encRc t l).take m) = (3, []) := all_cut (reads_recs (asc_nodup ht) hl) (okRecs_of h hl') hm
theorem decRc_more {l : List Rec} (h : recsErr t l = 0) (hl' : recLens l) (c : Nat) : decRc t (encRc t l ++ [c]) = (4, []) := all_more (reads_recs (asc_nodup ht) hl) (okRecs_of h hl') c
theorem encRc_lt {l : List Rec} (h : recsErr t l = 0) (hl' : recLens l) : ∀ c ∈ encRc t l, c < 256 := (reads_recs (asc_nodup ht) hl).lt _ (okRecs_of h hl')
theorem decRc_ok {B : List Nat} (hB : ∀ c ∈ B, c < 256) (h : (decRc t B).1 = 0) : okRecs t (decRc t B).2 := (all_inv (z := []) (reads_recs (asc_nodup ht) hl) hB h).1
end
theorem decRc_err {t : List ByteArray} {B : List Nat} (h : (decRc t B).1 ≠ 0) : (decRc t B).2 = [] := all_err B h
theorem recErr_in {t : List ByteArray} {r : Rec} (h : ∀ x ∈ r.1, labIn t x) : recErr t r = 0 ∨ recErr t r = 23 := by
  unfold recErr
  rw [if_pos h]
  repeat' split
  all_goals simp
theorem recsErr_in {t : List ByteArray} {l : List Rec} (h : ∀ r ∈ l, ∀ x ∈ r.1, labIn t x) : recsErr t l = 0 ∨ recsErr t l = 23 := by
  induction l with
  | nil => exact Or.inl rfl
  | cons r l ih =>
    rw [recsErr]
    split
    · exact ih (fun s hs => h s (by simp [hs]))
    · next hn => exact Or.inr ((recErr_in (h r (by simp))).resolve_left hn)
theorem recErr_le (t : List ByteArray) (r : Rec) : recErr t r ≤ 23 := by
  unfold recErr
  repeat' split
  all_goals omega
theorem recsErr_le (t : List ByteArray) (l : List Rec) : recsErr t l ≤ 23 := by
  induction l with
  | nil => simp [recsErr]
  | cons r l ih => rw [recsErr]; split <;> first | exact ih | exact recErr_le t r
end Go.Proofs.Ytmnagmbokajfpaa

end

section
/- Rows of integers. No program in sight. -/
set_option linter.unusedVariables false
namespace Go.Proofs.Ytmnagmbokajfpaa
open Go Go.RowKit


def i64s (l : List Int) : List Value := l.map fun x => .int .i64 x

theorem i64s_length (l : List Int) : (i64s l).length = l.length := by simp [i64s]

theorem i64s_append (a b : List Int) : i64s (a ++ b) = i64s a ++ i64s b := by simp [i64s]

theorem i64s_get (l : List Int) (i : Nat) (h : i < l.length) : (i64s l)[i]? = some (.int .i64 l[i]) := by simp [i64s, h]

theorem i64s_one (l : List Int) : ∀ u ∈ i64s l, u.oneCell' = true := by
  intro u hu
  simp only [i64s, List.mem_map] at hu
  obtain ⟨n, _, rfl⟩ := hu
  rfl
end Go.Proofs.Ytmnagmbokajfpaa

end

section
/- Layer 13: lists of records that are read: rows of two slices, each of which leads on. -/
set_option linter.unusedVariables false
namespace Go.Proofs.Ytmnagmbokajfpaa
open Go Go.RowKit

/-- What the two cells of a records hold. -/
def RecAt (w : World) (h : Value × Value) (s : Rec) : Prop := Rd w 2 h.1 s.1.length (labCells s.1) ∧ Rd w 1 h.2 s.2.length (i64s s.2)
theorem RecAt.below {w w' : World} {h : Value × Value} {s : Rec} (k : RecAt w h s) (hb : Below w.heap.size w w') : RecAt w' h s := ⟨k.1.below hb, k.2.below hb⟩
/-- A list of records that is read. -/
structure RdR (w : World) (v : Value) (b : List Rec) : Prop where
  ex : ∃ hs : List (Value × Value), Rd w 2 v hs.length (two Prod.fst Prod.snd hs) ∧ hs.length = b.length ∧ ∀ (i : Nat) (h : Value × Value) (s : Rec), hs[i]? = some h → b[i]? = some s → RecAt w h s
theorem RdR.below {w w' : World} {v : Value} {b : List Rec} (k : RdR w v b) (hb : Below w.heap.size w w') : RdR w' v b := by
  obtain ⟨hs, h1, h2, h3⟩ := k.ex
  exact ⟨hs, h1.below hb, h2, fun i h s hi hj => (h3 i h s hi hj).below hb⟩
theorem RdR.shape {w : World} {v : Value} {b : List Rec} (k : RdR w v b) : ∃ p c, v = .slice p b.length c := by
  obtain ⟨hs, h1, h2, _⟩ := k.ex
  rw [← h2]
  exact h1.shape
theorem RdR.le {w : World} {v : Value} {b : List Rec} (k : RdR w v b) : b.length ≤ maxLen := by
  obtain ⟨hs, h1, h2, _⟩ := k.ex
  rw [← h2]
  exact h1.le
/-- Series i of a list. -/
theorem RdR.at {w : World} {p : Option Addr} {n c : Nat} {b : List Rec} (k : RdR w (.slice p n c) b) {i : Nat} {s : Rec} (hi : b[i]? = some s) :
    ∃ blk off h1 h2, p = some ⟨blk, off, none⟩ ∧ w.cell? ⟨blk, off + i * 2, none⟩ = some h1 ∧ w.cell? ⟨blk, off + i * 2 + 1, none⟩ = some h2 ∧ RecAt w (h1, h2) s := by
  obtain ⟨hs, h1, h2, h3⟩ := k.ex
  have hlt := (List.getElem?_eq_some_iff.1 hi).1
  obtain ⟨h, hh⟩ : ∃ h, hs[i]? = some h := ⟨_, List.getElem?_eq_getElem (by omega)⟩
  obtain ⟨p', c', e⟩ := h1.shape
  simp only [Value.slice.injEq] at e
  obtain ⟨rfl, rfl, rfl⟩ := e
  obtain ⟨blk, off, rfl⟩ := rd2_at h1 hh
  obtain ⟨c1, c2⟩ := rd2_cell h1 hh
  exact ⟨blk, off, h.1, h.2, rfl, c1, c2, h3 i h s hh hi⟩
/-- .. and in every later world. -/
theorem RdR.always {w : World} {p : Option Addr} {n c : Nat} {b : List Rec} (k : RdR w (.slice p n c) b) {i : Nat} {s : Rec} (hi : b[i]? = some s) :
    ∃ blk off h1 h2, p = some ⟨blk, off, none⟩ ∧ (∃ p1 c1, h1 = .slice p1 s.1.length c1) ∧ (∃ p2 c2, h2 = .slice p2 s.2.length c2) ∧
      ∀ w', Below w.heap.size w w' → w'.cell? ⟨blk, off + i * 2, none⟩ = some h1 ∧ w'.cell? ⟨blk, off + i * 2 + 1, none⟩ = some h2 ∧ RecAt w' (h1, h2) s := by
  obtain ⟨blk, off, h1, h2, e, c1, c2, hs⟩ := k.at hi
  exact ⟨blk, off, h1, h2, e, hs.1.shape, hs.2.shape, fun w' hb => ⟨(hb.cell (World.block_lt_of_cell? w _ c1)).trans c1, (hb.cell (World.block_lt_of_cell? w _ c2)).trans c2, hs.below hb⟩⟩
end Go.Proofs.Ytmnagmbokajfpaa

end

section
/- Rows of two heads, each of which leads on: what serves series and records alike. No program in sight. -/
set_option linter.unusedVariables false
set_option maxRecDepth 20000
namespace Go.Proofs.Ytmnagmbokajfpaa
open Go Go.RowKit

abbrev Hd := Value × Value
theorem labCells_ne {l : List Lab} (h : labCells l ≠ []) : l ≠ [] := fun e => h (by subst e; rfl)
theorem labCells_ne' {l : List Lab} (h : l ≠ []) : labCells l ≠ [] := fun e => h (List.eq_nil_of_length_eq_zero (by have := congrArg List.length e; rw [labCells_length, List.length_nil] at this; omega))
theorem getElem?_snoc {α : Type} {l : List α} {x y : α} {i : Nat} (h : (l ++ [x])[i]? = some y) : l[i]? = some y ∨ (i = l.length ∧ y = x) := by
  by_cases hi : i < l.length
  · rw [List.getElem?_append_left hi] at h; exact Or.inl h
  · rw [List.getElem?_append_right (by omega)] at h
    have : i - l.length = 0 := by
      rcases Nat.eq_zero_or_pos (i - l.length) with e | e
      · exact e
      · rw [List.getElem?_eq_none (by simp; omega)] at h; cases h
    rw [this] at h
    simp at h
    exact Or.inr ⟨by omega, h.symm⟩
end Go.Proofs.Ytmnagmbokajfpaa

end

section
/- Layer 13: a list of records under way, in a row of the call's own, whose series lie elsewhere. -/
set_option linter.unusedVariables false
set_option maxRecDepth 20000
namespace Go.Proofs.Ytmnagmbokajfpaa
open Go Go.RowKit

/-- The rows of a series lie in no block of S. -/
def RecOff (S : Nat → Prop) (h : Hd) (s : Rec) : Prop := (s.1 ≠ [] → ∀ k, h.1.ownBlock = some k → ¬ S k) ∧ (s.2 ≠ [] → ∀ k, h.2.ownBlock = some k → ¬ S k)
theorem i64s_ne {l : List Int} (h : i64s l ≠ []) : l ≠ [] := fun e => h (by subst e; rfl)
theorem i64s_ne' {l : List Int} (h : l ≠ []) : i64s l ≠ [] := fun e => h (List.eq_nil_of_length_eq_zero (by have := congrArg List.length e; rw [i64s_length, List.length_nil] at this; omega))
theorem RecAt.mods {S : Nat → Prop} {w w' : World} {h : Hd} {s : Rec} (k : RecAt w h s) (hm : Mods S w w') (ho : RecOff S h s) : RecAt w' h s :=
  ⟨k.1.mods' hm (fun e => ho.1 (labCells_ne e)), k.2.mods' hm (fun e => ho.2 (i64s_ne e))⟩
theorem RecAt.lt {w : World} {h : Hd} {s : Rec} (k : RecAt w h s) : (s.1 ≠ [] → ∀ j, h.1.ownBlock = some j → j < w.heap.size) ∧ (s.2 ≠ [] → ∀ j, h.2.ownBlock = some j → j < w.heap.size) :=
  ⟨fun e => k.1.lt (labCells_ne' e), fun e => k.2.lt (i64s_ne' e)⟩

structure NrAt (t : TypeId) (w wr : World) (hs : List Hd) (b : List Rec) (v : Value) : Prop where
  row : Own2 t (Prod.fst : Hd → Value) Prod.snd w wr hs v
  len : hs.length = b.length
  ser : ∀ (i : Nat) (h : Hd) (s : Rec), hs[i]? = some h → b[i]? = some s → RecAt wr h s ∧ RecOff (fun k => v.ownBlock = some k) h s
theorem NrAt.nil {t : TypeId} (w : World) : NrAt t w w [] [] (.slice none 0 0) := ⟨Own2.nil w, rfl, fun i h s hi _ => by simp at hi⟩
theorem NrAt.below {t : TypeId} {w wr w1 : World} {hs : List Hd} {b : List Rec} {v : Value} (k : NrAt t w wr hs b v) (hb : Below wr.heap.size wr w1) : NrAt t w w1 hs b v :=
  ⟨k.row.below hb, k.len, fun i h s hi hj => ⟨(k.ser i h s hi hj).1.below hb, (k.ser i h s hi hj).2⟩⟩
theorem NrAt.rd {t : TypeId} {w wr : World} {hs : List Hd} {b : List Rec} {v : Value} (k : NrAt t w wr hs b v) : RdR wr v b := ⟨⟨hs, k.row.rd, k.len, fun i h s hi hj => (k.ser i h s hi hj).1⟩⟩
/-- An append. -/
theorem NrAt.pushed {t : TypeId} {w wr w1 : World} {hs : List Hd} {b : List Rec} {v v1 : Value} {h : Hd} {s : Rec} (k : NrAt t w wr hs b v) (hsr : RecAt wr h s) (ho : RecOff (fun j => v.ownBlock = some j) h s)
    (k1 : w1.ownsRow 0 t 2 v1 (hs.length + 1) (two Prod.fst Prod.snd hs ++ [h.1, h.2])) (m : Mods (fun j => v.ownBlock = some j) wr w1) (hf : Fresh wr.heap.size v v1) : NrAt t w w1 (hs ++ [h]) (b ++ [s]) v1 := by
  have hoff : ∀ (h : Hd) (s : Rec), RecAt wr h s → RecOff (fun j => v.ownBlock = some j) h s → RecAt w1 h s ∧ RecOff (fun j => v1.ownBlock = some j) h s := fun h s a b => by
    refine ⟨a.mods m b, fun e j hj hv => ?_, fun e j hj hv => ?_⟩
    · rcases hf j hv with f | f
      · exact b.1 e j hj f
      · have := a.lt.1 e j hj; omega
    · rcases hf j hv with f | f
      · exact b.2 e j hj f
      · have := a.lt.2 e j hj; omega
  refine ⟨k.row.pushed k1 m hf, by simp [k.len], fun i h' s' hi hj => ?_⟩
  rcases getElem?_snoc hi with e | ⟨e, rfl⟩
  · rcases getElem?_snoc hj with f | ⟨f, _⟩
    · exact hoff _ _ (k.ser i h' s' e f).1 (k.ser i h' s' e f).2
    · have := (List.getElem?_eq_some_iff.1 e).1; have := k.len; omega
  · rcases getElem?_snoc hj with f | ⟨_, rfl⟩
    · have := (List.getElem?_eq_some_iff.1 f).1; have := k.len; omega
    · exact hoff _ _ hsr ho
/-- A store. -/
theorem NrAt.stored {t : TypeId} {w wr : World} {hs hs' : List Hd} {b b' : List Rec} {g n c i : Nat} {h : Hd} {s : Rec} (k : NrAt t w wr hs b (.slice (some ⟨g, 0, none⟩) n c)) (hsr : RecAt wr h s) (ho : RecOff (fun j => j = g) h s) (e1 : hs.set i h = hs') (e2 : b.set i s = b') :
    NrAt t w ((wr.setCell ⟨g, i * 2, none⟩ h.1).setCell ⟨g, i * 2 + 1, none⟩ h.2) hs' b' (.slice (some ⟨g, 0, none⟩) n c) := by
  subst e1 e2
  have hm1 : Mods (fun k => k = g) wr (wr.setCell ⟨g, i * 2, none⟩ h.1) := Mods.set _ _ _ _ (fun _ => rfl)
  have hm : Mods (fun k => k = g) wr ((wr.setCell ⟨g, i * 2, none⟩ h.1).setCell ⟨g, i * 2 + 1, none⟩ h.2) := hm1.trans (Mods.set (fun k => k = g) _ _ _ (fun _ => rfl)) (fun _ _ e => e)
  have hc : ∀ (h : Hd) (s : Rec), RecOff (fun j => j = g) h s → RecOff (fun j => (Value.slice (some ⟨g, 0, none⟩) n c).ownBlock = some j) h s := fun h s a => ⟨fun e j hj hv => a.1 e j hj (by simpa [Value.ownBlock] using hv.symm), fun e j hj hv => a.2 e j hj (by simpa [Value.ownBlock] using hv.symm)⟩
  have hc' : ∀ (h : Hd) (s : Rec), RecOff (fun j => (Value.slice (some ⟨g, 0, none⟩) n c).ownBlock = some j) h s → RecOff (fun j => j = g) h s := fun h s a => ⟨fun e j hj hv => a.1 e j hj (by rw [hv]; rfl), fun e j hj hv => a.2 e j hj (by rw [hv]; rfl)⟩
  refine ⟨k.row.stored (y := h) rfl, by simp [k.len], fun j h' s' hi hj => ?_⟩
  rw [List.getElem?_set] at hi hj
  by_cases e : i = j
  · subst e
    by_cases hl : i < hs.length
    · rw [if_pos rfl, if_pos hl] at hi
      rw [if_pos rfl, if_pos (by rw [← k.len]; exact hl)] at hj
      cases hi; cases hj
      exact ⟨hsr.mods hm ho, hc _ _ ho⟩
    · rw [if_pos rfl, if_neg hl] at hi; cases hi
  · rw [if_neg e] at hi hj
    obtain ⟨a, b⟩ := k.ser j h' s' hi hj
    exact ⟨a.mods hm (hc' _ _ b), b⟩
end Go.Proofs.Ytmnagmbokajfpaa

end

section
/- Layer 11: the comparison of lists of labels, one step. No program in sight. -/
set_option linter.unusedVariables false
namespace Go.Proofs.Ytmnagmbokajfpaa
open Go Go.RowKit

theorem cmp_step {a b : List Lab} {i : Nat} {x y : Lab} (ha : a[i]? = some x) (hb : b[i]? = some y) (h : cmpLabs a b = cmpLabs (a.drop i) (b.drop i)) :
    cmpLabs a b = if cmpLab x y = 0 then cmpLabs (a.drop (i + 1)) (b.drop (i + 1)) else cmpLab x y := by
  have h1 : a.drop i = x :: a.drop (i + 1) := by rw [List.drop_eq_getElem_cons (List.getElem?_eq_some_iff.1 ha).1, (List.getElem?_eq_some_iff.1 ha).2]
  have h2 : b.drop i = y :: b.drop (i + 1) := by rw [List.drop_eq_getElem_cons (List.getElem?_eq_some_iff.1 hb).1, (List.getElem?_eq_some_iff.1 hb).2]
  rw [h, h1, h2]; rfl
theorem cmp_end {a b : List Lab} {i : Nat} (hi : i ≤ a.length ∧ i ≤ b.length) (he : ¬ (i < a.length ∧ i < b.length)) (h : cmpLabs a b = cmpLabs (a.drop i) (b.drop i)) :
    cmpLabs a b = if a.length < b.length then -1 else if b.length < a.length then 1 else 0 := by
  rw [h]
  by_cases h1 : i < a.length
  · have h2 : ¬ i < b.length := fun e => he ⟨h1, e⟩
    rw [if_neg (by omega), if_pos (by omega), List.drop_of_length_le (l := b) (by omega), List.drop_eq_getElem_cons h1]; rfl
  · rw [List.drop_of_length_le (l := a) (by omega)]
    by_cases h2 : i < b.length
    · rw [if_pos (by omega), List.drop_eq_getElem_cons h2]; rfl
    · rw [if_neg (by omega), if_neg (by omega), List.drop_of_length_le (by omega)]; rfl
end Go.Proofs.Ytmnagmbokajfpaa

end

section
/- Layer 11: the reference's order and Compare. -/
set_option linter.unusedVariables false
set_option maxRecDepth 20000
namespace Go.Proofs.Ytmnagmbokajfpaa
open Go Go.RowKit

theorem ref_order11 (a b : ByteArray) (w : World) :
    Calls Try.prog 57 #[.string a, .string b] w fun e w' => e = .returned (.int .i64 (ordS a b)) ∧ w' = w := by
  by_cases h1 : ltS a b = true
  · have hcmp : Op.bytesLess a.toList b.toList = true := h1
    have HO : Hid (ordS a b = -1) := if_pos h1
    rw [HO.out]
    clear h1
    go_enter Try.func57, Try.ntmps57
    go_wp2_with fail
    go_ret
    exact ⟨rfl, rfl⟩
  · have h1f : ltS a b = false := by simpa using h1
    have hcmp : Op.bytesLess a.toList b.toList = false := h1f
    by_cases h2 : ltS b a = true
    · have hne : a ≠ b := fun e => by subst e; rw [ltS_ok.irr] at h2; cases h2
      have hgt : binOp .gtr 9 (.string a) (.string b) = pure (.bool true) := by simp [binOp, Op.stringOp, hcmp, eqS, hne]
      have HO : Hid (ordS a b = 1) := by show _ = _; rw [ordS, ordB, if_neg h1, if_pos h2]
      rw [HO.out]
      clear h1 h1f h2 hne
      go_enter Try.func57, Try.ntmps57
      go_wp2_with fail
      go_ret
      exact ⟨rfl, rfl⟩
    · have he : a = b := ltS_ok.tot a b h1f (by simpa using h2)
      have hgt : binOp .gtr 9 (.string a) (.string b) = pure (.bool false) := by simp [binOp, Op.stringOp, he]
      have HO : Hid (ordS a b = 0) := by show _ = _; rw [ordS, ordB, if_neg h1, if_neg h2]
      rw [HO.out]
      clear h1 h1f h2 he
      go_enter Try.func57, Try.ntmps57
      go_wp2_with fail
      go_ret
      exact ⟨rfl, rfl⟩

theorem ordS_dom (a b : ByteArray) : ordS a b = -1 ∨ ordS a b = 0 ∨ ordS a b = 1 := ordS_ok.dom a b

/-- Nothing but draws. -/
def Drw (w w' : World) : Prop := ∃ q, w' = w.drewN q
theorem Drw.below {w w' : World} (h : Drw w w') : Below w.heap.size w w' := by
  obtain ⟨q, rfl⟩ := h
  exact ⟨rfl, rfl, rfl, Nat.le_refl _, fun _ _ => rfl⟩
theorem Drw.step {w w' : World} (h : Drw w w') (n : Nat) : Drw w (w'.drewN n) := by
  obtain ⟨q, rfl⟩ := h
  exact ⟨q + n, World.drewN_drewN ..⟩

set_option maxHeartbeats 4000000 in
theorem ref_compareD (av bv : Value) (a b : List Lab) (w : World) (ha : Rd w 2 av a.length (labCells a)) (hb : Rd w 2 bv b.length (labCells b)) (hna : a.length ≤ 1000000) (hnb : b.length ≤ 1000000) :
    Calls Try.prog 39 #[av, bv] w fun e w' => e = .returned (.int .i64 (cmpLabs a b)) ∧ Drw w w' := by
  have HLa := Lib.hid ha; have HLb := Lib.hid hb
  obtain ⟨pa, ca, hv⟩ := ha.shape
  subst hv
  obtain ⟨pb, cb, hv⟩ := hb.shape
  subst hv
  have hma : (a.length : Int) ≤ 1000000 := by omega
  have hmb : (b.length : Int) ≤ 1000000 := by omega
  clear ha hb hna hnb
  go_enter Try.func39, Try.ntmps39
  go_wp2_with fail
  go_loopw [5] (fun iv wr => ∃ (i : Nat), i ≤ a.length ∧ i ≤ b.length ∧ iv = .int .i64 (i : Int) ∧ Hid (cmpLabs a b = cmpLabs (a.drop i) (b.drop i)) ∧ Hid (Drw w wr)) (fun iv _ => a.length - (intOf iv).toNat)
  case atStart => exact ⟨0, Nat.zero_le _, Nat.zero_le _, rfl, rfl, ⟨0, rfl⟩⟩
  case round =>
    obtain ⟨i, hia, hib, rfl, HC, HB⟩ := hrel
    have him : (i : Int) ≤ 1000000 := by omega
    by_cases h1 : i < a.length
    · have h1' : (i : Int) < (a.length : Int) := by omega
      by_cases h2 : i < b.length
      · have h2' : (i : Int) < (b.length : Int) := by omega
        obtain ⟨⟨xn, xv⟩, hx⟩ : ∃ x, a[i]? = some x := ⟨_, List.getElem?_eq_getElem h1⟩
        obtain ⟨⟨yn, yv⟩, hy⟩ : ∃ y, b[i]? = some y := ⟨_, List.getElem?_eq_getElem h2⟩
        obtain ⟨ba, oa, e⟩ := rd2_at HLa.out hx
        subst e
        obtain ⟨bb, ob, e⟩ := rd2_at HLb.out hy
        subst e
        obtain ⟨c0, c1⟩ := rd2_cell (HLa.out.below HB.out.below) hx
        obtain ⟨d0, d1⟩ := rd2_cell (HLb.out.below HB.out.below) hy
        have HSt := Lib.hid (cmp_step hx hy HC.out)
        clear hx hy HC
        have HO1 := Lib.hid (fun w' => ref_order11 xn yn w')
        have HO2 := Lib.hid (fun w' => ref_order11 xv yv w')
        go_wp2_with fail
        go_quiet ((go_at_call 57; exact Calls.quiet_of_same (HO1.out _)))
        have HB1 : Hid (Drw w (wr.drewN nq)) := HB.out.step nq
        have c1' : (wr.drewN nq).cell? ⟨ba, oa + i * 2 + 1, none⟩ = some (.string xv) := c1
        have d1' : (wr.drewN nq).cell? ⟨bb, ob + i * 2 + 1, none⟩ = some (.string yv) := d1
        clear c0 c1 d0 d1
        generalize wr.drewN nq = w1 at *
        have HD1 := ordS_dom xn yn
        have HD2 := ordS_dom xv yv
        by_cases e1 : ordS xn yn = 0
        · have HSc : Hid (cmpLabs a b = if ordS xv yv = 0 then cmpLabs (a.drop (i + 1)) (b.drop (i + 1)) else ordS xv yv) := by
            show _ = _
            have hc : cmpLab (xn, xv) (yn, yv) = ordS xv yv := if_pos e1
            rw [HSt.out, hc]
          rw [e1]
          clear e1 HD1
          go_wp2_with fail
          go_quiet ((go_at_call 57; exact Calls.quiet_of_same (HO2.out _)))
          have HB2 : Hid (Drw w (w1.drewN nq)) := HB1.out.step nq
          clear c1' d1'
          generalize w1.drewN nq = w2 at *
          by_cases e2 : ordS xv yv = 0
          · rw [if_pos e2] at HSc
            rw [e2]
            clear e2 HD2
            go_wp2_with fail
            go_round
            case rel => exact ⟨i + 1, by omega, by omega, by go_num, HSc.out, HB2.out⟩
            case measure => simp [intOf]; omega
          · rw [if_neg e2] at HSc
            have heb : ((ordS xv yv) == 0) = false := by rw [beq_eq_false_iff_ne]; exact e2
            have HE2 := Lib.hid e2
            clear HD2
            generalize ordS xv yv = o2 at *
            go_wp2_with fail
            go_ret
            exact ⟨by rw [HSc.out]; rfl, HB2.out⟩
        · have HSc : Hid (cmpLabs a b = ordS xn yn) := by
            show _ = _
            have hc : cmpLab (xn, xv) (yn, yv) = ordS xn yn := if_neg e1
            rw [HSt.out, hc, if_neg e1]
          have heb : ((ordS xn yn) == 0) = false := by rw [beq_eq_false_iff_ne]; exact e1
          clear HD1 HD2
          generalize ordS xn yn = o1 at *
          go_wp2_with fail
          go_ret
          exact ⟨by rw [HSc.out]; rfl, HB1.out⟩
      · have h2' : ¬ (i : Int) < (b.length : Int) := by omega
        have HE := Lib.hid (cmp_end ⟨hia, hib⟩ (fun e => h2 e.2) HC.out)
        have hlt : ¬ (a.length : Int) < (b.length : Int) := by omega
        have hgt : (b.length : Int) < (a.length : Int) := by omega
        rw [if_neg (by omega), if_pos (by omega)] at HE
        clear h2
        go_wp2_with fail
        go_ret
        exact ⟨by rw [HE.out]; rfl, HB.out⟩
    · have h1' : ¬ (i : Int) < (a.length : Int) := by omega
      have HE := Lib.hid (cmp_end ⟨hia, hib⟩ (fun e => h1 e.1) HC.out)
      by_cases hl1 : a.length < b.length
      · have hlt : (a.length : Int) < (b.length : Int) := by omega
        rw [if_pos hl1] at HE
        clear hl1 h1
        go_wp2_with fail
        go_ret
        exact ⟨by rw [HE.out]; rfl, HB.out⟩
      · have hlt : ¬ (a.length : Int) < (b.length : Int) := by omega
        rw [if_neg hl1] at HE
        by_cases hl2 : b.length < a.length
        · have hgt : (b.length : Int) < (a.length : Int) := by omega
          rw [if_pos hl2] at HE
          clear hl1 hl2 h1
          go_wp2_with fail
          go_ret
          exact ⟨by rw [HE.out]; rfl, HB.out⟩
        · have hgt : ¬ (b.length : Int) < (a.length : Int) := by omega
          rw [if_neg hl2] at HE
          clear hl1 hl2 h1
          go_wp2_with fail
          go_ret
          exact ⟨by rw [HE.out]; rfl, HB.out⟩
theorem ref_compare11 (av bv : Value) (a b : List Lab) (w : World) (ha : Rd w 2 av a.length (labCells a)) (hb : Rd w 2 bv b.length (labCells b)) (hna : a.length ≤ 1000000) (hnb : b.length ≤ 1000000) :
    Calls Try.prog 39 #[av, bv] w fun e w' => e = .returned (.int .i64 (cmpLabs a b)) ∧ Below w.heap.size w w' :=
  (ref_compareD av bv a b w ha hb hna hnb).mono fun e w' h => ⟨h.1, h.2.below⟩
end Go.Proofs.Ytmnagmbokajfpaa

end

section
/- A region that ends in no panic. No program in sight. -/
namespace Go.Proofs.Ytmnagmbokajfpaa
open Go Go.RowKit

/-- A stretch that is left in one way alone. -/
theorem wp_normal {P : Program} {c : Code} {Q : Exit → Act → World → Prop} {a : Act} {w : World} (h : c.wp P (fun e a w => e = .normal ∧ Q .normal a w) a w) : c.wp P Q a w := wp_mono h (fun _ _ _ h => h.1 ▸ h.2)
end Go.Proofs.Ytmnagmbokajfpaa

end
