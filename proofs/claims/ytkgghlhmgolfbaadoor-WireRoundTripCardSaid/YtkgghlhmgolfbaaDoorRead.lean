/- Layer 4: what a reader reads at an offset, as functions on lists. No program in sight. -/
import Derived.Test.YtkgghlhmgolfbaaDoorGroupsB
import Derived.Test.YtkgghlhmgolfbaaDoorCrcC
namespace Go.Proofs.YtkgghlhmgolfbaaDoor

/-- What is read: a value and the offset behind it, or an error. -/
inductive Out (α : Type) where
  | ok (x : α) (to : Nat)
  | bad (e : Nat)

def outByte (B : List Nat) (a : Nat) : Out Nat := match B[a]? with
  | some c => .ok c (a + 1)
  | none => .bad 3
def outUint (B : List Nat) (a most : Nat) : Out Nat := match readAt B (a : Int) with
  | (x, to, 0) => if most < x then .bad 7 else .ok x to.toNat
  | (_, _, e + 1) => .bad (e + 1)
def outTake (B : List Nat) (a : Nat) (n : Int) : Out (List Nat) :=
  if n < 0 then .bad 2 else if ((B.length - a : Nat) : Int) < n then .bad 3 else .ok ((B.drop a).take n.toNat) (a + n.toNat)
def outString (B : List Nat) (a : Nat) (most : Int) : Out (List Nat) := match readAt B (a : Int) with
  | (x, to, 0) => if most < 0 ∨ most < (x : Int) then .bad 7 else if B.length - to.toNat < x then .bad 3 else .ok ((B.drop to.toNat).take x) (to.toNat + x)
  | (_, _, e + 1) => .bad (e + 1)
def outSection (B : List Nat) (a id : Nat) : Out (List Nat) := match B[a]? with
  | none => .bad 3
  | some c => if c ≠ id then .bad 11 else match readAt B ((a + 1 : Nat) : Int) with
    | (x, to, 0) => if B.length - to.toNat < 4 ∨ B.length - to.toNat - 4 < x then .bad 3 else
        if isCrc ((B.take (to.toNat + x + 4)).drop a) then .ok ((B.drop to.toNat).take x) (to.toNat + x + 4) else .bad 12
    | (_, _, e + 1) => .bad (e + 1)

/-- A string with its length; a section's frame. -/
def bytesOf (s : List Nat) : List Nat := groups s.length ++ s
def frameOf (id : Nat) (s : List Nat) : List Nat := withCrc (id :: bytesOf s)

theorem bytesOf_lt {s : List Nat} (h : ∀ c ∈ s, c < 256) : ∀ c ∈ bytesOf s, c < 256 := fun c hc => by
  rcases List.mem_append.1 hc with h1 | h1
  · exact groups_lt _ c h1
  · exact h c h1
theorem frameOf_lt {id : Nat} {s : List Nat} (hi : id < 256) (h : ∀ c ∈ s, c < 256) : ∀ c ∈ frameOf id s, c < 256 := withCrc_lt (fun c hc => by
  rcases List.mem_cons.1 hc with rfl | h1
  · exact hi
  · exact bytesOf_lt h c h1)
theorem bytesOf_length (s : List Nat) : (bytesOf s).length = (groups s.length).length + s.length := by simp [bytesOf]
theorem frameOf_length (id : Nat) (s : List Nat) : (frameOf id s).length = 1 + (groups s.length).length + s.length + 4 := by
  rw [frameOf, withCrc_length, List.length_cons, bytesOf_length]; omega

theorem outUint_cases {B : List Nat} (hB : ∀ c ∈ B, c < 256) {a : Nat} (ha : a ≤ B.length) (most : Nat) :
    (∃ e, e ≠ 0 ∧ readAt B (a : Int) = (0, 0, e) ∧ outUint B a most = .bad e) ∨
    (∃ x to : Nat, readAt B (a : Int) = (x, (to : Int), 0) ∧ a < to ∧ to ≤ B.length ∧ x < 18446744073709551616 ∧ outUint B a most = if most < x then .bad 7 else .ok x to) := by
  rcases readAt_cases hB ha with ⟨e, he, hr⟩ | ⟨x, n, hr, hn, hin, hg, hx⟩
  · refine .inl ⟨e, he, hr, ?_⟩
    obtain ⟨k, rfl⟩ : ∃ k, e = k + 1 := ⟨e - 1, by omega⟩
    rw [outUint, hr]
  · refine .inr ⟨x, a + n, hr, by omega, hin, hx, ?_⟩
    rw [outUint, hr]
    simp only [Int.toNat_natCast]
theorem outString_cases {B : List Nat} (hB : ∀ c ∈ B, c < 256) {a : Nat} (ha : a ≤ B.length) (most : Int) :
    (∃ e, e ≠ 0 ∧ readAt B (a : Int) = (0, 0, e) ∧ outString B a most = .bad e) ∨
    (∃ x to : Nat, readAt B (a : Int) = (x, (to : Int), 0) ∧ a < to ∧ to ≤ B.length ∧ x < 18446744073709551616 ∧
      outString B a most = if most < 0 ∨ most < (x : Int) then .bad 7 else if B.length - to < x then .bad 3 else .ok ((B.drop to).take x) (to + x)) := by
  rcases readAt_cases hB ha with ⟨e, he, hr⟩ | ⟨x, n, hr, hn, hin, hg, hx⟩
  · refine .inl ⟨e, he, hr, ?_⟩
    obtain ⟨k, rfl⟩ : ∃ k, e = k + 1 := ⟨e - 1, by omega⟩
    rw [outString, hr]
  · refine .inr ⟨x, a + n, hr, by omega, hin, hx, ?_⟩
    rw [outString, hr]
    simp only [Int.toNat_natCast]
theorem outSection_none {B : List Nat} {a : Nat} (h : B.length ≤ a) (id : Nat) : outSection B a id = .bad 3 := by rw [outSection, List.getElem?_eq_none h]
theorem outSection_other {B : List Nat} {a c : Nat} (h : B[a]? = some c) {id : Nat} (hi : c ≠ id) : outSection B a id = .bad 11 := by rw [outSection, h]; exact if_pos hi
theorem outSection_cases {B : List Nat} (hB : ∀ c ∈ B, c < 256) {a id : Nat} (h : B[a]? = some id) :
    (∃ e, e ≠ 0 ∧ readAt B ((a + 1 : Nat) : Int) = (0, 0, e) ∧ outSection B a id = .bad e) ∨
    (∃ x to : Nat, readAt B ((a + 1 : Nat) : Int) = (x, (to : Int), 0) ∧ a + 1 < to ∧ to ≤ B.length ∧ x < 18446744073709551616 ∧
      outSection B a id = if B.length - to < 4 ∨ B.length - to - 4 < x then .bad 3 else if isCrc ((B.take (to + x + 4)).drop a) then .ok ((B.drop to).take x) (to + x + 4) else .bad 12) := by
  have ha : a + 1 ≤ B.length := by have := (List.getElem?_eq_some_iff.1 h).1; omega
  rcases readAt_cases hB ha with ⟨e, he, hr⟩ | ⟨x, n, hr, hn, hin, hg, hx⟩
  · refine .inl ⟨e, he, hr, ?_⟩
    obtain ⟨k, rfl⟩ : ∃ k, e = k + 1 := ⟨e - 1, by omega⟩
    rw [outSection, h]
    simp only [hr, ne_eq, not_true_eq_false, if_false]
  · refine .inr ⟨x, a + 1 + n, hr, by omega, hin, hx, ?_⟩
    rw [outSection, h]
    simp only [hr, ne_eq, not_true_eq_false, if_false, Int.toNat_natCast]

/-- What was appended is read back. -/
theorem outString_back (pre s rest : List Nat) (hs : s.length < 18446744073709551616) (most : Int) (hm : (s.length : Int) ≤ most) :
    outString (pre ++ bytesOf s ++ rest) pre.length most = .ok s (pre.length + (bytesOf s).length) := by
  have e : pre ++ bytesOf s ++ rest = pre ++ groups s.length ++ (s ++ rest) := by simp [bytesOf]
  have hd : (pre ++ groups s.length ++ (s ++ rest)).drop (pre.length + (groups s.length).length) = s ++ rest := by rw [← List.length_append]; exact List.drop_left
  rw [e, outString, readAt_groups pre (s ++ rest) hs]
  simp only [Int.toNat_natCast]
  rw [if_neg (by omega), if_neg (by simp; omega), hd, List.take_left, bytesOf_length, Nat.add_assoc]
theorem outSection_back (pre s rest : List Nat) (id : Nat) (hs : s.length < 18446744073709551616) :
    outSection (pre ++ frameOf id s ++ rest) pre.length id = .ok s (pre.length + (frameOf id s).length) := by
  obtain ⟨t, ht⟩ : ∃ t, le4 (crcOf (id :: bytesOf s)) = t := ⟨_, rfl⟩
  have ht4 : t.length = 4 := by rw [← ht]; rfl
  have ef : frameOf id s = id :: bytesOf s ++ t := by rw [frameOf, withCrc, ht]
  have e : pre ++ frameOf id s ++ rest = (pre ++ [id]) ++ groups s.length ++ (s ++ t ++ rest) := by rw [ef]; simp [bytesOf]
  have h0 : (pre ++ frameOf id s ++ rest)[pre.length]? = some id := by rw [ef]; simp
  have hr := readAt_groups (pre ++ [id]) (s ++ t ++ rest) hs
  rw [← e] at hr
  have hpl : ((pre ++ [id]).length : Int) = ((pre.length + 1 : Nat) : Int) := by simp
  rw [hpl] at hr
  have hd : (pre ++ frameOf id s ++ rest).drop (pre.length + 1 + (groups s.length).length) = s ++ t ++ rest := by
    rw [e, show pre.length + 1 + (groups s.length).length = ((pre ++ [id]) ++ groups s.length).length by simp; omega]; exact List.drop_left
  have hlen : (pre ++ frameOf id s ++ rest).length = pre.length + 1 + (groups s.length).length + s.length + 4 + rest.length := by
    rw [List.length_append, List.length_append, frameOf_length]; omega
  have hk : ((pre ++ frameOf id s ++ rest).take (pre.length + 1 + (groups s.length).length + s.length + 4)).drop pre.length = frameOf id s := by
    have h1 : pre.length + 1 + (groups s.length).length + s.length + 4 = (pre ++ frameOf id s).length := by rw [List.length_append, frameOf_length]; omega
    rw [h1, List.take_left, List.drop_left]
  have hpl2 : (pre ++ [id]).length = pre.length + 1 := by simp
  rw [hpl2] at hr
  rw [outSection, h0]
  simp only [hr, ne_eq, not_true_eq_false, if_false, Int.toNat_natCast]
  rw [if_neg (by rw [hlen]; omega), hk, show isCrc (frameOf id s) = true from isCrc_withCrc _, if_pos rfl, hd, List.append_assoc, List.take_left, frameOf_length]
  congr 1
  omega
/-- A section that takes up all of the bytes ends with their checksum. -/
theorem outSection_whole {d : List Nat} (hd : ∀ c ∈ d, c < 256) {id : Nat} {g : List Nat} (h : outSection d 0 id = .ok g d.length) : isCrc d = true := by
  cases h0 : d[0]? with
  | none => rw [outSection, h0] at h; cases h
  | some c =>
    by_cases hc : c = id
    · subst hc
      rcases outSection_cases hd h0 with ⟨e, _, _, hr⟩ | ⟨x, to, _, _, hto, _, hr⟩
      · rw [hr] at h; cases h
      · rw [hr] at h
        split at h
        · cases h
        · split at h
          · next hk =>
            simp only [Out.ok.injEq] at h
            rw [h.2, List.take_length, List.drop_zero] at hk
            exact hk
          · cases h
    · rw [outSection_other h0 hc] at h; cases h
end Go.Proofs.YtkgghlhmgolfbaaDoor
