/- Parse, ParseS, LayP, LayF, in one text. -/
import Derived.Test.YtlgphgipfjlbfaaDoorMrg1

section
/- Readings that invert writings: numbers, symbols, pairs, counted lists; what is read of a proper prefix. No program in sight. -/
set_option linter.unusedVariables false
namespace Go.Proofs.YtlgphgipfjlbfaaDoor

/-- What a number read at a gives when fewer bytes are there. -/
theorem readAt_take {B : List Nat} (hB : ∀ c ∈ B, c < 256) {a m x : Nat} {to : Int} (ham : a ≤ m) (hm : m ≤ B.length) (h : readAt B (a : Int) = (x, to, 0)) :
    ∃ b : Nat, to = (b : Int) ∧ a < b ∧ b ≤ B.length ∧ B.drop a = groups x ++ B.drop b ∧ b = a + (groups x).length ∧ x < 18446744073709551616 ∧ readAt (B.take m) (a : Int) = if b ≤ m then (x, (b : Int), 0) else (0, 0, 3) := by
  rcases readAt_cases hB (Nat.le_trans ham hm) with ⟨e, he, hr⟩ | ⟨y, n, hr, hn, hin, hg, hy⟩
  · rw [h] at hr; simp only [Prod.mk.injEq] at hr; exact absurd hr.2.2.symm he
  · rw [h] at hr
    simp only [Prod.mk.injEq] at hr
    obtain ⟨rfl, rfl, _⟩ := hr
    have hl : (groups x).length = n := by rw [← hg, List.length_drop, List.length_take]; omega
    have hd : B.drop a = groups x ++ B.drop (a + n) := by
      have : B.drop a = (B.take (a + n) ++ B.drop (a + n)).drop a := by rw [List.take_append_drop]
      rw [this, List.drop_append_of_le_length (by rw [List.length_take]; omega), hg]
    have hta : (B.take a).length = a := by rw [List.length_take]; omega
    have hBs : B = B.take a ++ (groups x ++ B.drop (a + n)) := by rw [← hd, List.take_append_drop]
    have htm : B.take m = B.take a ++ (groups x ++ B.drop (a + n)).take (m - a) := by
      have h0 : B.take m = (B.take a ++ (groups x ++ B.drop (a + n))).take m := by rw [← hBs]
      rw [h0, List.take_append, hta, List.take_of_length_le (l := B.take a) (by omega)]
    refine ⟨a + n, rfl, by omega, hin, hd, by rw [hl], hy, ?_⟩
    by_cases hle : a + n ≤ m
    · rw [if_pos hle, htm]
      have h1 : (groups x ++ B.drop (a + n)).take (m - a) = groups x ++ (B.drop (a + n)).take (m - a - n) := by
        rw [List.take_append, hl, List.take_of_length_le (l := groups x) (by omega)]
      rw [h1, ← List.append_assoc]
      have := readAt_groups (B.take a) ((B.drop (a + n)).take (m - a - n)) hy
      rw [hta, hl] at this
      exact this
    · rw [if_neg hle, htm]
      have h1 : (groups x ++ B.drop (a + n)).take (m - a) = (groups x).take (m - a) := by
        rw [List.take_append_of_le_length (by omega)]
      rw [h1]
      have hp := readFrom_prefix x 0 0 (m - a) (by decide) (by simpa using hy) (by omega)
      have h2 : readFrom ((B.take a ++ (groups x).take (m - a)).drop a) 0 0 = (0, 0, 3) := by
        rw [List.drop_append_of_le_length (by omega), List.drop_of_length_le (by omega), List.nil_append]; exact hp
      rw [readAt_in (by rw [List.length_append]; omega) h2]; rfl

/-- p reads what f writes, of what is ok: any bytes may follow; what is read was written; of fewer bytes the same is read, or too few are found. -/
structure Reads {α : Type} (p : List Nat → Nat → Out α) (f : α → List Nat) (ok : α → Prop) : Prop where
  back : ∀ (pre rest : List Nat) (x : α), ok x → p (pre ++ f x ++ rest) pre.length = .ok x (pre.length + (f x).length)
  inv : ∀ {B : List Nat} {a : Nat} {x : α} {b : Nat}, (∀ c ∈ B, c < 256) → a ≤ B.length → p B a = .ok x b → ok x ∧ B.drop a = f x ++ B.drop b ∧ a < b ∧ b ≤ B.length
  bad : ∀ {B : List Nat} {a e : Nat}, (∀ c ∈ B, c < 256) → a ≤ B.length → p B a = .bad e → e ≠ 0
  cut : ∀ {B : List Nat} {a : Nat} {x : α} {b m : Nat}, (∀ c ∈ B, c < 256) → a ≤ m → m ≤ B.length → p B a = .ok x b → p (B.take m) a = .bad 3 ∨ (b ≤ m ∧ p (B.take m) a = .ok x b)
  pos : ∀ x, ok x → 0 < (f x).length
  lt : ∀ x, ok x → ∀ c ∈ f x, c < 256

/-- A number of which not all are taken. -/
def pNum {α : Type} (g : Nat → Option α) (z : Nat) (B : List Nat) (a : Nat) : Out α := match readAt B (a : Int) with
  | (n, to, 0) => match g n with
    | some x => .ok x to.toNat
    | none => .bad z
  | (_, _, e + 1) => .bad (e + 1)
theorem reads_num {α : Type} {g : Nat → Option α} {h : α → Nat} {ok : α → Prop} {z : Nat} (hz : z ≠ 0) (h1 : ∀ x, ok x → g (h x) = some x ∧ h x < 18446744073709551616) (h2 : ∀ n x, g n = some x → ok x ∧ h x = n) : Reads (pNum g z) (fun x => groups (h x)) ok where
  back := fun pre rest x hx => by
    obtain ⟨e1, e2⟩ := h1 x hx
    rw [pNum, readAt_groups pre rest e2]
    simp only [e1, Int.toNat_natCast]
  inv := fun {B a x b} hB ha hp => by
    rcases readAt_cases hB ha with ⟨e, he, hr⟩ | ⟨y, n, hr, hn, hin, hg, hy⟩
    · obtain ⟨k, rfl⟩ : ∃ k, e = k + 1 := ⟨e - 1, by omega⟩
      rw [pNum, hr] at hp; cases hp
    · obtain ⟨b', hb, h3, h4, h5, h6, h7, _⟩ := readAt_take hB (Nat.le_refl a) ha hr
      rw [pNum, hr] at hp
      simp only at hp
      split at hp
      · next x' hx' =>
        cases hp
        obtain ⟨k1, k2⟩ := h2 _ _ hx'
        rw [Int.toNat_natCast]
        have : b' = a + n := by omega
        subst this
        exact ⟨k1, by rw [k2]; exact h5, by omega, h4⟩
      · cases hp
  bad := fun {B a e} hB ha hp => by
    rw [pNum] at hp
    split at hp
    · split at hp
      · cases hp
      · cases hp; exact hz
    · cases hp; omega
  cut := fun {B a x b m} hB ha hm hp => by
    rcases readAt_cases hB (Nat.le_trans ha hm) with ⟨e, he, hr⟩ | ⟨y, n, hr, hn, hin, hg, hy⟩
    · obtain ⟨k, rfl⟩ : ∃ k, e = k + 1 := ⟨e - 1, by omega⟩
      rw [pNum, hr] at hp; cases hp
    · obtain ⟨b', hb, h3, h4, h5, h6, h7, h8⟩ := readAt_take hB ha hm hr
      rw [pNum, hr] at hp
      simp only at hp
      split at hp
      · next x' hx' =>
        cases hp
        have e : b' = a + n := by omega
        rw [pNum, h8]
        by_cases hle : b' ≤ m
        · rw [if_pos hle]
          refine Or.inr ⟨by rw [Int.toNat_natCast]; omega, ?_⟩
          simp only [hx']
          rw [← hb]
        · rw [if_neg hle]; exact Or.inl rfl
      · cases hp
  pos := fun x _ => groups_pos _
  lt := fun x _ => groups_lt _

def pPair {α β : Type} (p : List Nat → Nat → Out α) (q : List Nat → Nat → Out β) (B : List Nat) (a : Nat) : Out (α × β) := match p B a with
  | .bad e => .bad e
  | .ok x b => match q B b with
    | .bad e => .bad e
    | .ok y c => .ok (x, y) c
theorem reads_pair {α β : Type} {p : List Nat → Nat → Out α} {q : List Nat → Nat → Out β} {f : α → List Nat} {g : β → List Nat} {ok1 : α → Prop} {ok2 : β → Prop} (hp : Reads p f ok1) (hq : Reads q g ok2) :
    Reads (pPair p q) (fun x => f x.1 ++ g x.2) (fun x => ok1 x.1 ∧ ok2 x.2) where
  back := fun pre rest x hx => by
    have e1 := hp.back pre (g x.2 ++ rest) x.1 hx.1
    have e2 := hq.back (pre ++ f x.1) rest x.2 hx.2
    have e0 : pre ++ (f x.1 ++ g x.2) ++ rest = pre ++ f x.1 ++ (g x.2 ++ rest) := by simp
    have e3 : pre ++ (f x.1 ++ g x.2) ++ rest = pre ++ f x.1 ++ g x.2 ++ rest := by simp
    rw [pPair, e0, e1]
    simp only
    rw [← e0, e3, ← List.length_append, e2]
    simp only [List.length_append, Nat.add_assoc]
  inv := fun {B a x c} hB ha h => by
    rw [pPair] at h
    split at h
    · cases h
    · next y b h1 =>
      split at h
      · cases h
      · next z c' h2 =>
        cases h
        obtain ⟨a1, a2, a3, a4⟩ := hp.inv hB ha h1
        obtain ⟨b1, b2, b3, b4⟩ := hq.inv hB a4 h2
        exact ⟨⟨a1, b1⟩, by rw [a2, b2, List.append_assoc], by omega, b4⟩
  bad := fun {B a e} hB ha h => by
    rw [pPair] at h
    split at h
    · next e' h1 => cases h; exact hp.bad hB ha h1
    · next y b h1 =>
      split at h
      · next e' h2 => cases h; exact hq.bad hB (hp.inv hB ha h1).2.2.2 h2
      · cases h
  cut := fun {B a x c m} hB ha hm h => by
    rw [pPair] at h
    split at h
    · cases h
    · next y b h1 =>
      split at h
      · cases h
      · next z c' h2 =>
        cases h
        rcases hp.cut hB ha hm h1 with e1 | ⟨hb, e1⟩
        · rw [pPair, e1]; exact Or.inl rfl
        · rcases hq.cut hB hb hm h2 with e2 | ⟨hc, e2⟩
          · exact Or.inl (by rw [pPair, e1]; simp only [e2])
          · exact Or.inr ⟨hc, by rw [pPair, e1]; simp only [e2]⟩
  pos := fun x hx => by rw [List.length_append]; have := hp.pos _ hx.1; omega
  lt := fun x hx c hc => by
    rcases List.mem_append.1 hc with h | h
    · exact hp.lt _ hx.1 c h
    · exact hq.lt _ hx.2 c h

def pMany {α : Type} (p : List Nat → Nat → Out α) (B : List Nat) : Nat → Nat → List α → Out (List α)
  | 0, a, acc => .ok acc a
  | k + 1, a, acc => match p B a with
    | .bad e => .bad e
    | .ok x b => pMany p B k b (acc ++ [x])
/-- A counted list, whose elements take a byte or more; z: the error of no elements, where there must be one. -/
def pList {α : Type} (z : Nat) (p : List Nat → Nat → Out α) (B : List Nat) (a : Nat) : Out (List α) := match readAt B (a : Int) with
  | (n, to, 0) => if B.length - to.toNat < n then .bad 3 else if z ≠ 0 ∧ n = 0 then .bad z else pMany p B n to.toNat []
  | (_, _, e + 1) => .bad (e + 1)
section
variable {α : Type} {p : List Nat → Nat → Out α} {f : α → List Nat} {ok : α → Prop}
theorem many_back (h : Reads p f ok) (rest : List Nat) (l : List α) : ∀ (pre : List Nat) (acc : List α), (∀ x ∈ l, ok x) → pMany p (pre ++ l.flatMap f ++ rest) l.length pre.length acc = .ok (acc ++ l) (pre.length + (l.flatMap f).length) := by
  induction l with
  | nil => intro pre acc _; simp [pMany]
  | cons x l ih =>
    intro pre acc ho
    have e0 : pre ++ (x :: l).flatMap f ++ rest = pre ++ f x ++ (l.flatMap f ++ rest) := by simp
    have e1 := h.back pre (l.flatMap f ++ rest) x (ho x (by simp))
    have e2 := ih (pre ++ f x) (acc ++ [x]) (fun y hy => ho y (by simp [hy]))
    rw [List.length_cons, pMany, e0, e1]
    simp only
    rw [← List.append_assoc, ← List.length_append, e2]
    simp [Nat.add_assoc]
theorem many_inv (h : Reads p f ok) {B : List Nat} (hB : ∀ c ∈ B, c < 256) : ∀ (k a : Nat) (acc u : List α) (b : Nat), a ≤ B.length → pMany p B k a acc = .ok u b → ∃ l, u = acc ++ l ∧ l.length = k ∧ (∀ x ∈ l, ok x) ∧ B.drop a = l.flatMap f ++ B.drop b ∧ a ≤ b ∧ b ≤ B.length := by
  intro k
  induction k with
  | zero => intro a acc u b ha hp; rw [pMany] at hp; cases hp; exact ⟨[], by simp, rfl, (fun _ h => by cases h), rfl, Nat.le_refl _, ha⟩
  | succ k ih =>
    intro a acc u b ha hp
    rw [pMany] at hp
    split at hp
    · cases hp
    · next x b1 h1 =>
      obtain ⟨a1, a2, a3, a4⟩ := h.inv hB ha h1
      obtain ⟨l, e1, e2, e3, e4, e5, e6⟩ := ih b1 (acc ++ [x]) u b a4 hp
      refine ⟨x :: l, by rw [e1]; simp, by simp [e2], ?_, by rw [a2, e4]; simp, by omega, e6⟩
      intro y hy
      rcases List.mem_cons.1 hy with rfl | hy
      · exact a1
      · exact e3 y hy
theorem many_bad (h : Reads p f ok) {B : List Nat} (hB : ∀ c ∈ B, c < 256) : ∀ (k a : Nat) (acc : List α) (e : Nat), a ≤ B.length → pMany p B k a acc = .bad e → e ≠ 0 := by
  intro k
  induction k with
  | zero => intro a acc e _ hp; rw [pMany] at hp; cases hp
  | succ k ih =>
    intro a acc e ha hp
    rw [pMany] at hp
    split at hp
    · next e' h1 => cases hp; exact h.bad hB ha h1
    · next x b1 h1 => exact ih b1 _ e (h.inv hB ha h1).2.2.2 hp
theorem many_cut (h : Reads p f ok) {B : List Nat} (hB : ∀ c ∈ B, c < 256) {m : Nat} (hm : m ≤ B.length) : ∀ (k a : Nat) (acc u : List α) (b : Nat), a ≤ m → pMany p B k a acc = .ok u b → pMany p (B.take m) k a acc = .bad 3 ∨ (b ≤ m ∧ pMany p (B.take m) k a acc = .ok u b) := by
  intro k
  induction k with
  | zero => intro a acc u b ha hp; rw [pMany] at hp; cases hp; exact Or.inr ⟨ha, rfl⟩
  | succ k ih =>
    intro a acc u b ha hp
    rw [pMany] at hp
    split at hp
    · cases hp
    · next x b1 h1 =>
      rcases h.cut hB ha hm h1 with e1 | ⟨hb, e1⟩
      · rw [pMany, e1]; exact Or.inl rfl
      · rw [pMany, e1]; exact ih b1 _ u b hb hp
theorem flat_le (h : Reads p f ok) (l : List α) (ho : ∀ x ∈ l, ok x) : l.length ≤ (l.flatMap f).length := by
  induction l with
  | nil => exact Nat.le_refl _
  | cons x l ih => rw [List.flatMap_cons, List.length_append, List.length_cons]; have := h.pos x (ho x (by simp)); have := ih (fun y hy => ho y (by simp [hy])); omega
theorem reads_list {z : Nat} (h : Reads p f ok) : Reads (pList z p) (fun l => groups l.length ++ l.flatMap f) (fun l => (∀ x ∈ l, ok x) ∧ l.length < 18446744073709551616 ∧ (z ≠ 0 → l ≠ [])) where
  back := fun pre rest l hl => by
    have e0 : pre ++ (groups l.length ++ l.flatMap f) ++ rest = pre ++ groups l.length ++ (l.flatMap f ++ rest) := by simp
    have e3 : pre ++ (groups l.length ++ l.flatMap f) ++ rest = pre ++ groups l.length ++ l.flatMap f ++ rest := by simp
    have hr := readAt_groups pre (l.flatMap f ++ rest) hl.2.1
    rw [pList, e0, hr]
    simp only [Int.toNat_natCast]
    have hf := flat_le h l hl.1
    rw [if_neg (by simp only [List.length_append]; omega), if_neg (fun e => hl.2.2 e.1 (List.eq_nil_of_length_eq_zero e.2)), ← e0, e3, ← List.length_append, many_back h rest l _ _ hl.1]
    simp [Nat.add_assoc]
  inv := fun {B a u b} hB ha hp => by
    rcases readAt_cases hB ha with ⟨e, he, hr⟩ | ⟨y, n, hr, hn, hin, hg, hy⟩
    · obtain ⟨k, rfl⟩ : ∃ k, e = k + 1 := ⟨e - 1, by omega⟩
      rw [pList, hr] at hp; cases hp
    · obtain ⟨b', hb, h3, h4, h5, h6, h7, _⟩ := readAt_take hB (Nat.le_refl a) ha hr
      have e : b' = a + n := by omega
      rw [pList, hr] at hp
      simp only [Int.toNat_natCast] at hp
      split at hp
      · cases hp
      · split at hp
        · cases hp
        · next hz =>
          rw [← e] at hp
          obtain ⟨l, e1, e2, e3, e4, e5, e6⟩ := many_inv h hB y b' [] u b h4 hp
          rw [List.nil_append] at e1
          subst e1
          refine ⟨⟨e3, by rw [e2]; exact h7, fun hz1 hn1 => hz ⟨hz1, by rw [← e2, hn1]; rfl⟩⟩, by rw [h5, e4, e2, List.append_assoc], by omega, e6⟩
  bad := fun {B a e} hB ha hp => by
    rcases readAt_cases hB ha with ⟨e1, he, hr⟩ | ⟨y, n, hr, hn, hin, hg, hy⟩
    · obtain ⟨k, rfl⟩ : ∃ k, e1 = k + 1 := ⟨e1 - 1, by omega⟩
      rw [pList, hr] at hp; cases hp; omega
    · rw [pList, hr] at hp
      simp only [Int.toNat_natCast] at hp
      split at hp
      · cases hp; decide
      · split at hp
        · next hz => cases hp; exact hz.1
        · exact many_bad h hB _ _ _ _ hin hp
  cut := fun {B a u b m} hB ha hm hp => by
    rcases readAt_cases hB (Nat.le_trans ha hm) with ⟨e1, he, hr⟩ | ⟨y, n, hr, hn, hin, hg, hy⟩
    · obtain ⟨k, rfl⟩ : ∃ k, e1 = k + 1 := ⟨e1 - 1, by omega⟩
      rw [pList, hr] at hp; cases hp
    · obtain ⟨b', hb, h3, h4, h5, h6, h7, h8⟩ := readAt_take hB ha hm hr
      have e : b' = a + n := by omega
      rw [pList, hr] at hp
      simp only [Int.toNat_natCast] at hp
      rw [pList, h8]
      by_cases hle : b' ≤ m
      · rw [if_pos hle]
        simp only [Int.toNat_natCast]
        split
        · exact Or.inl rfl
        · split at hp
          · cases hp
          · split at hp
            · cases hp
            · next hz =>
              rw [if_neg hz]
              rw [← e] at hp
              exact many_cut h hB hm _ _ _ _ _ hle hp
      · rw [if_neg hle]; exact Or.inl rfl
  pos := fun l _ => by rw [List.length_append]; have := groups_pos l.length; omega
  lt := fun l hl c hc => by
    rcases List.mem_append.1 hc with e | e
    · exact groups_lt _ c e
    · obtain ⟨x, hx, e⟩ := List.mem_flatMap.1 e
      exact h.lt x (hl.1 x hx) c e
end

/-- All bytes are one reading. -/
def pAll {α : Type} (p : List Nat → Nat → Out α) (z : α) (B : List Nat) : Nat × α := match p B 0 with
  | .bad e => (e, z)
  | .ok x b => if b < B.length then (4, z) else (0, x)
section
variable {α : Type} {p : List Nat → Nat → Out α} {f : α → List Nat} {ok : α → Prop} {z : α}
theorem all_back (h : Reads p f ok) {x : α} (hx : ok x) : pAll p z (f x) = (0, x) := by
  have := h.back [] [] x hx
  simp only [List.nil_append, List.append_nil, List.length_nil, Nat.zero_add] at this
  rw [pAll, this]; simp
theorem all_inv (h : Reads p f ok) {B : List Nat} (hB : ∀ c ∈ B, c < 256) (he : (pAll p z B).1 = 0) : ok (pAll p z B).2 ∧ B = f (pAll p z B).2 := by
  cases hp : p B 0 with
  | bad e => rw [pAll, hp] at he; exact absurd he (h.bad hB (Nat.zero_le _) hp)
  | ok x b =>
    obtain ⟨a1, a2, a3, a4⟩ := h.inv hB (Nat.zero_le _) hp
    rw [pAll, hp] at he ⊢
    simp only at he ⊢
    split at he
    · cases he
    · next hb =>
      rw [if_neg hb]
      refine ⟨a1, ?_⟩
      rw [List.drop_zero, List.drop_of_length_le (by omega), List.append_nil] at a2
      exact a2
theorem all_err (B : List Nat) (he : (pAll p z B).1 ≠ 0) : (pAll p z B).2 = z := by
  rw [pAll] at he ⊢
  split
  · rfl
  · next x b hp =>
    rw [hp] at he
    simp only at he
    split
    · rfl
    · next hb => rw [if_neg hb] at he; exact absurd rfl he
theorem all_cut (h : Reads p f ok) {x : α} (hx : ok x) {m : Nat} (hm : m < (f x).length) : pAll p z ((f x).take m) = (3, z) := by
  have hb := h.back [] [] x hx
  simp only [List.nil_append, List.append_nil, List.length_nil, Nat.zero_add] at hb
  rcases h.cut (h.lt x hx) (Nat.zero_le m) (Nat.le_of_lt hm) hb with e | ⟨e, _⟩
  · rw [pAll, e]
  · omega
theorem all_more (h : Reads p f ok) {x : α} (hx : ok x) (c : Nat) : pAll p z (f x ++ [c]) = (4, z) := by
  have hb := h.back [] [c] x hx
  simp only [List.nil_append, List.length_nil, Nat.zero_add] at hb
  rw [pAll, hb]; simp
end
end Go.Proofs.YtlgphgipfjlbfaaDoor

end

section
/- Readings of lists whose elements depend on those before: a state is handed on. Readings of which not all are taken. No program in sight. -/
set_option linter.unusedVariables false
namespace Go.Proofs.YtlgphgipfjlbfaaDoor

/-- A reading of which not all are taken. -/
def pOnly {α : Type} (p : List Nat → Nat → Out α) (q : α → Bool) (z : Nat) (B : List Nat) (a : Nat) : Out α := match p B a with
  | .bad e => .bad e
  | .ok x b => if q x = true then .ok x b else .bad z
theorem reads_only {α : Type} {p : List Nat → Nat → Out α} {f : α → List Nat} {ok : α → Prop} {q : α → Bool} {z : Nat} (hz : z ≠ 0) (h : Reads p f ok) : Reads (pOnly p q z) f (fun x => ok x ∧ q x = true) where
  back := fun pre rest x hx => by rw [pOnly, h.back pre rest x hx.1]; simp only [hx.2, if_true]
  inv := fun {B a x b} hB ha hp => by
    rw [pOnly] at hp
    split at hp
    · cases hp
    · next y b' h1 =>
      split at hp
      · next hq =>
        cases hp
        obtain ⟨a1, a2, a3, a4⟩ := h.inv hB ha h1
        exact ⟨⟨a1, hq⟩, a2, a3, a4⟩
      · cases hp
  bad := fun {B a e} hB ha hp => by
    rw [pOnly] at hp
    split at hp
    · next e' h1 => cases hp; exact h.bad hB ha h1
    · split at hp
      · cases hp
      · cases hp; exact hz
  cut := fun {B a x b m} hB ha hm hp => by
    rw [pOnly] at hp
    split at hp
    · cases hp
    · next y b' h1 =>
      split at hp
      · next hq =>
        cases hp
        rcases h.cut hB ha hm h1 with e1 | ⟨hb, e1⟩
        · exact Or.inl (by rw [pOnly, e1])
        · exact Or.inr ⟨hb, by rw [pOnly, e1]; simp only [hq, if_true]⟩
      · cases hp
  pos := fun x hx => h.pos x hx.1
  lt := fun x hx => h.lt x hx.1

section
variable {α σ : Type} (p : σ → List Nat → Nat → Out α) (f : σ → α → List Nat) (ok : σ → α → Prop) (nx : σ → α → σ)
def pManyS (B : List Nat) : Nat → Nat → σ → List α → Out (List α)
  | 0, a, _, acc => .ok acc a
  | k + 1, a, s, acc => match p s B a with
    | .bad e => .bad e
    | .ok x b => pManyS B k b (nx s x) (acc ++ [x])
def fManyS : σ → List α → List Nat
  | _, [] => []
  | s, x :: l => f s x ++ fManyS (nx s x) l
def okS : σ → List α → Prop
  | _, [] => True
  | s, x :: l => ok s x ∧ okS (nx s x) l
/-- A counted list; z: the error of no elements, where there must be one. -/
def pListS (z : Nat) (s0 : σ) (B : List Nat) (a : Nat) : Out (List α) := match readAt B (a : Int) with
  | (n, to, 0) => if B.length - to.toNat < n then .bad 3 else if z ≠ 0 ∧ n = 0 then .bad z else pManyS p nx B n to.toNat s0 []
  | (_, _, e + 1) => .bad (e + 1)
end
section
variable {α σ : Type} {p : σ → List Nat → Nat → Out α} {f : σ → α → List Nat} {ok : σ → α → Prop} {nx : σ → α → σ}
theorem manyS_back (h : ∀ s, Reads (p s) (f s) (ok s)) (rest : List Nat) (l : List α) : ∀ (s : σ) (pre : List Nat) (acc : List α), okS ok nx s l → pManyS p nx (pre ++ fManyS f nx s l ++ rest) l.length pre.length s acc = .ok (acc ++ l) (pre.length + (fManyS f nx s l).length) := by
  induction l with
  | nil => intro s pre acc _; simp [pManyS, fManyS]
  | cons x l ih =>
    intro s pre acc ho
    have e0 : pre ++ fManyS f nx s (x :: l) ++ rest = pre ++ f s x ++ (fManyS f nx (nx s x) l ++ rest) := by simp [fManyS]
    have e1 := (h s).back pre (fManyS f nx (nx s x) l ++ rest) x ho.1
    have e2 := ih (nx s x) (pre ++ f s x) (acc ++ [x]) ho.2
    rw [List.length_cons, pManyS, e0, e1]
    simp only
    rw [← List.append_assoc, ← List.length_append, e2]
    simp [fManyS, Nat.add_assoc]
theorem manyS_inv (h : ∀ s, Reads (p s) (f s) (ok s)) {B : List Nat} (hB : ∀ c ∈ B, c < 256) : ∀ (k a : Nat) (s : σ) (acc u : List α) (b : Nat), a ≤ B.length → pManyS p nx B k a s acc = .ok u b → ∃ l, u = acc ++ l ∧ l.length = k ∧ okS ok nx s l ∧ B.drop a = fManyS f nx s l ++ B.drop b ∧ a ≤ b ∧ b ≤ B.length := by
  intro k
  induction k with
  | zero => intro a s acc u b ha hp; rw [pManyS] at hp; cases hp; exact ⟨[], by simp, rfl, trivial, rfl, Nat.le_refl _, ha⟩
  | succ k ih =>
    intro a s acc u b ha hp
    rw [pManyS] at hp
    split at hp
    · cases hp
    · next x b1 h1 =>
      obtain ⟨a1, a2, a3, a4⟩ := (h s).inv hB ha h1
      obtain ⟨l, e1, e2, e3, e4, e5, e6⟩ := ih b1 (nx s x) (acc ++ [x]) u b a4 hp
      exact ⟨x :: l, by rw [e1]; simp, by simp [e2], ⟨a1, e3⟩, by rw [a2, e4, fManyS, List.append_assoc], by omega, e6⟩
theorem manyS_bad (h : ∀ s, Reads (p s) (f s) (ok s)) {B : List Nat} (hB : ∀ c ∈ B, c < 256) : ∀ (k a : Nat) (s : σ) (acc : List α) (e : Nat), a ≤ B.length → pManyS p nx B k a s acc = .bad e → e ≠ 0 := by
  intro k
  induction k with
  | zero => intro a s acc e _ hp; rw [pManyS] at hp; cases hp
  | succ k ih =>
    intro a s acc e ha hp
    rw [pManyS] at hp
    split at hp
    · next e' h1 => cases hp; exact (h s).bad hB ha h1
    · next x b1 h1 => exact ih b1 _ _ e ((h s).inv hB ha h1).2.2.2 hp
theorem manyS_cut (h : ∀ s, Reads (p s) (f s) (ok s)) {B : List Nat} (hB : ∀ c ∈ B, c < 256) {m : Nat} (hm : m ≤ B.length) : ∀ (k a : Nat) (s : σ) (acc u : List α) (b : Nat), a ≤ m → pManyS p nx B k a s acc = .ok u b → pManyS p nx (B.take m) k a s acc = .bad 3 ∨ (b ≤ m ∧ pManyS p nx (B.take m) k a s acc = .ok u b) := by
  intro k
  induction k with
  | zero => intro a s acc u b ha hp; rw [pManyS] at hp; cases hp; exact Or.inr ⟨ha, rfl⟩
  | succ k ih =>
    intro a s acc u b ha hp
    rw [pManyS] at hp
    split at hp
    · cases hp
    · next x b1 h1 =>
      rcases (h s).cut hB ha hm h1 with e1 | ⟨hb, e1⟩
      · rw [pManyS, e1]; exact Or.inl rfl
      · rw [pManyS, e1]; exact ih b1 _ _ u b hb hp
theorem flatS_le (h : ∀ s, Reads (p s) (f s) (ok s)) (l : List α) : ∀ s, okS ok nx s l → l.length ≤ (fManyS f nx s l).length := by
  induction l with
  | nil => intro s _; exact Nat.le_refl _
  | cons x l ih => intro s ho; rw [fManyS, List.length_append, List.length_cons]; have := (h s).pos x ho.1; have := ih _ ho.2; omega
theorem flatS_lt (h : ∀ s, Reads (p s) (f s) (ok s)) (l : List α) : ∀ s, okS ok nx s l → ∀ c ∈ fManyS f nx s l, c < 256 := by
  induction l with
  | nil => intro s _ c hc; cases hc
  | cons x l ih =>
    intro s ho c hc
    rw [fManyS] at hc
    rcases List.mem_append.1 hc with e | e
    · exact (h s).lt x ho.1 c e
    · exact ih _ ho.2 c e
theorem reads_listS {z : Nat} (h : ∀ s, Reads (p s) (f s) (ok s)) (s0 : σ) : Reads (pListS p nx z s0) (fun l => groups l.length ++ fManyS f nx s0 l) (fun l => okS ok nx s0 l ∧ l.length < 18446744073709551616 ∧ (z ≠ 0 → l ≠ [])) where
  back := fun pre rest l hl => by
    have e0 : pre ++ (groups l.length ++ fManyS f nx s0 l) ++ rest = pre ++ groups l.length ++ (fManyS f nx s0 l ++ rest) := by simp
    have e3 : pre ++ (groups l.length ++ fManyS f nx s0 l) ++ rest = pre ++ groups l.length ++ fManyS f nx s0 l ++ rest := by simp
    have hr := readAt_groups pre (fManyS f nx s0 l ++ rest) hl.2.1
    rw [pListS, e0, hr]
    simp only [Int.toNat_natCast]
    have hf := flatS_le h l s0 hl.1
    rw [if_neg (by simp only [List.length_append]; omega), if_neg (fun e => hl.2.2 e.1 (List.eq_nil_of_length_eq_zero e.2)), ← e0, e3, ← List.length_append, manyS_back h rest l _ _ _ hl.1]
    simp [Nat.add_assoc]
  inv := fun {B a u b} hB ha hp => by
    rcases readAt_cases hB ha with ⟨e, he, hr⟩ | ⟨y, n, hr, hn, hin, hg, hy⟩
    · obtain ⟨k, rfl⟩ : ∃ k, e = k + 1 := ⟨e - 1, by omega⟩
      rw [pListS, hr] at hp; cases hp
    · obtain ⟨b', hb, h3, h4, h5, h6, h7, _⟩ := readAt_take hB (Nat.le_refl a) ha hr
      have e : b' = a + n := by omega
      rw [pListS, hr] at hp
      simp only [Int.toNat_natCast] at hp
      split at hp
      · cases hp
      · split at hp
        · cases hp
        · next hz =>
          rw [← e] at hp
          obtain ⟨l, e1, e2, e3, e4, e5, e6⟩ := manyS_inv h hB y b' s0 [] u b h4 hp
          rw [List.nil_append] at e1
          subst e1
          refine ⟨⟨e3, by rw [e2]; exact h7, fun hz1 hn1 => hz ⟨hz1, by rw [← e2, hn1]; rfl⟩⟩, by rw [h5, e4, e2, List.append_assoc], by omega, e6⟩
  bad := fun {B a e} hB ha hp => by
    rcases readAt_cases hB ha with ⟨e1, he, hr⟩ | ⟨y, n, hr, hn, hin, hg, hy⟩
    · obtain ⟨k, rfl⟩ : ∃ k, e1 = k + 1 := ⟨e1 - 1, by omega⟩
      rw [pListS, hr] at hp; cases hp; omega
    · rw [pListS, hr] at hp
      simp only [Int.toNat_natCast] at hp
      split at hp
      · cases hp; decide
      · split at hp
        · next hz => cases hp; exact hz.1
        · exact manyS_bad h hB _ _ _ _ _ hin hp
  cut := fun {B a u b m} hB ha hm hp => by
    rcases readAt_cases hB (Nat.le_trans ha hm) with ⟨e1, he, hr⟩ | ⟨y, n, hr, hn, hin, hg, hy⟩
    · obtain ⟨k, rfl⟩ : ∃ k, e1 = k + 1 := ⟨e1 - 1, by omega⟩
      rw [pListS, hr] at hp; cases hp
    · obtain ⟨b', hb, h3, h4, h5, h6, h7, h8⟩ := readAt_take hB ha hm hr
      have e : b' = a + n := by omega
      rw [pListS, hr] at hp
      simp only [Int.toNat_natCast] at hp
      rw [pListS, h8]
      by_cases hle : b' ≤ m
      · rw [if_pos hle]
        simp only [Int.toNat_natCast]
        split
        · exact Or.inl rfl
        · split at hp
          · cases hp
          · split at hp
            · cases hp
            · next hz =>
              rw [if_neg hz]
              rw [← e] at hp
              exact manyS_cut h hB hm _ _ _ _ _ _ hle hp
      · rw [if_neg hle]; exact Or.inl rfl
  pos := fun l _ => by rw [List.length_append]; have := groups_pos l.length; omega
  lt := fun l hl c hc => by
    rcases List.mem_append.1 hc with e | e
    · exact groups_lt _ c e
    · exact flatS_lt h l s0 hl.1 c e
end
end Go.Proofs.YtlgphgipfjlbfaaDoor

end

section
/- Layer 16: files, their parts and their reading, as functions on lists; what is read of the first bytes. No program in sight. -/
set_option linter.unusedVariables false
namespace Go.Proofs.YtlgphgipfjlbfaaDoor

/-! ### What is read of fewer bytes -/
/-- From a on: the same, or too few are found. -/
def StbA {α : Type} (a : Nat) (f : List Nat → Out α) : Prop := ∀ (B : List Nat) (m : Nat), (∀ c ∈ B, c < 256) → a ≤ m → m ≤ B.length → f (B.take m) = .bad 3 ∨ (f (B.take m) = f B ∧ ∀ x b, f B = .ok x b → b ≤ m)
def thenO {α β : Type} (o : Out α) (g : α → Nat → Out β) : Out β := match o with
  | .ok x b => g x b
  | .bad e => .bad e
theorem thenO_ok {α β : Type} {o : Out α} {g : α → Nat → Out β} {y : β} {c : Nat} (h : thenO o g = .ok y c) : ∃ x b, o = .ok x b ∧ g x b = .ok y c := by
  cases o with
  | bad e => cases h
  | ok x b => exact ⟨x, b, rfl, h⟩
theorem stb_then {α β : Type} {a : Nat} {f : List Nat → Out α} {g : α → Nat → List Nat → Out β} (hf : StbA a f) (hg : ∀ x b, StbA b (g x b)) : StbA a (fun B => thenO (f B) (fun x b => g x b B)) := by
  intro B m hB ha hm
  rcases hf B m hB ha hm with h | ⟨h, hb⟩
  · left; simp only [h, thenO]
  · simp only [h]
    cases hx : f B with
    | bad e => right; exact ⟨rfl, fun x b h => by simp [thenO] at h⟩
    | ok x b =>
      simp only [thenO]
      exact hg x b B m hB (hb x b hx) hm
theorem stb_ok {α : Type} (x : α) (a : Nat) : StbA a (fun _ => Out.ok x a) := fun B m _ ha _ => Or.inr ⟨rfl, fun y b h => by cases h; exact ha⟩
theorem stb_bad {α : Type} (e a : Nat) : StbA (α := α) a (fun _ => Out.bad e) := fun B m _ ha _ => Or.inr ⟨rfl, fun y b h => by cases h⟩
theorem stb_up {α : Type} {a b : Nat} {f : List Nat → Out α} (h : StbA a f) (hab : a ≤ b) : StbA b f := fun B m hB hb hm => h B m hB (by omega) hm

theorem readFrom_stable : ∀ (l : List Nat) (k i x : Nat), readFrom (l.take k) i x = (0, 0, 3) ∨ (readFrom (l.take k) i x = readFrom l i x ∧ ((readFrom l i x).2.2 = 0 → (readFrom l i x).2.1 ≤ i + k))
  | [], k, i, x => by left; rw [List.take_nil]; rfl
  | c :: l, 0, i, x => by left; rfl
  | c :: l, k + 1, i, x => by
    rw [List.take_succ_cons, readFrom, readFrom]
    by_cases h1 : i = 9 ∧ 1 < c
    · rw [if_pos h1, if_pos h1]; right; exact ⟨rfl, fun h => by cases h⟩
    · rw [if_neg h1, if_neg h1]
      by_cases h2 : 128 ≤ c
      · rw [if_pos h2, if_pos h2]
        rcases readFrom_stable l k (i + 1) (x + c % 128 * 2 ^ (7 * i)) with h | ⟨h, hb⟩
        · exact Or.inl h
        · exact Or.inr ⟨h, fun h0 => by have := hb h0; omega⟩
      · rw [if_neg h2, if_neg h2]
        by_cases h3 : c = 0 ∧ 0 < i
        · rw [if_pos h3]; right; exact ⟨rfl, fun h => by cases h⟩
        · rw [if_neg h3]; right; exact ⟨rfl, fun _ => by simp only; omega⟩

/-- A section whose identifier stands there, by what is read behind it. -/
theorem outSection_at {B : List Nat} {a id : Nat} (h : B[a]? = some id) {x n e : Nat} (hr : readFrom (B.drop (a + 1)) 0 0 = (x, n, e)) : outSection B a id = if e = 0 then (if B.length - (a + 1 + n) < 4 ∨ B.length - (a + 1 + n) - 4 < x then .bad 3 else if isCrc ((B.take (a + 1 + n + x + 4)).drop a) then .ok ((B.drop (a + 1 + n)).take x) (a + 1 + n + x + 4) else .bad 12) else .bad e := by
  have ha : a + 1 ≤ B.length := by have := (List.getElem?_eq_some_iff.1 h).1; omega
  have hA := readAt_in ha hr
  rw [outSection, h]
  simp only [ne_eq, not_true_eq_false, if_false]
  rw [hA]
  cases e with
  | zero =>
    simp only [if_true]
    rw [show ((a + 1 : Nat) : Int) + (n : Int) = ((a + 1 + n : Nat) : Int) by omega, Int.toNat_natCast]
  | succ k => simp
theorem sec_stable (id a : Nat) : StbA 0 (fun B => outSection B a id) := by
  intro B m hB _ hm
  show outSection (B.take m) a id = .bad 3 ∨ (outSection (B.take m) a id = outSection B a id ∧ ∀ x b, outSection B a id = .ok x b → b ≤ m)
  by_cases ham : m ≤ a
  · left; exact outSection_none (by rw [List.length_take]; omega) id
  · have hget : (B.take m)[a]? = B[a]? := List.getElem?_take_of_lt (by omega)
    obtain ⟨c, hc⟩ : ∃ c, B[a]? = some c := ⟨_, List.getElem?_eq_getElem (by omega)⟩
    by_cases hid : c = id
    · subst hid
      have hdt : (B.take m).drop (a + 1) = (B.drop (a + 1)).take (m - (a + 1)) := List.drop_take ..
      obtain ⟨x, n, e, hr⟩ : ∃ x n e, readFrom (B.drop (a + 1)) 0 0 = (x, n, e) := ⟨_, _, _, rfl⟩
      have hl : (B.take m).length = m := by rw [List.length_take]; omega
      rcases readFrom_stable (B.drop (a + 1)) (m - (a + 1)) 0 0 with h | ⟨h, hb⟩
      · left
        rw [← hdt] at h
        rw [outSection_at (hget.trans hc) h, if_neg (by decide)]
      · rw [← hdt, hr] at h
        rw [outSection_at (hget.trans hc) h, outSection_at hc hr, hl]
        by_cases he : e = 0
        · rw [if_pos he, if_pos he]
          have hn : n ≤ m - (a + 1) := by
            have := hb (by rw [hr]; exact he)
            rw [hr] at this
            simpa using this
          by_cases h1 : m - (a + 1 + n) < 4 ∨ m - (a + 1 + n) - 4 < x
          · left; rw [if_pos h1]
          · right
            have e1 : ((B.take m).take (a + 1 + n + x + 4)) = B.take (a + 1 + n + x + 4) := by rw [List.take_take, Nat.min_eq_left (by omega)]
            have e2 : ((B.take m).drop (a + 1 + n)).take x = (B.drop (a + 1 + n)).take x := by
              rw [List.drop_take, List.take_take, Nat.min_eq_left (by omega)]
            have h2 : ¬ (B.length - (a + 1 + n) < 4 ∨ B.length - (a + 1 + n) - 4 < x) := by omega
            rw [if_neg h1, e1, e2, if_neg h2]
            refine ⟨rfl, fun y b h => ?_⟩
            split at h
            · cases h; omega
            · cases h
        · rw [if_neg he, if_neg he]
          right; exact ⟨rfl, fun y b h => by cases h⟩
    · right
      rw [outSection_other (hget.trans hc) hid, outSection_other hc hid]
      exact ⟨rfl, fun y b h => by cases h⟩

/-- What is read of a section was written. -/
theorem sec_inv {B : List Nat} {a id : Nat} {d : List Nat} {b : Nat} (hB : ∀ c ∈ B, c < 256) (h : outSection B a id = .ok d b) : B.drop a = frameOf id d ++ B.drop b ∧ a < b ∧ b ≤ B.length ∧ (∀ c ∈ d, c < 256) ∧ d.length < 18446744073709551616 := by
  cases hc : B[a]? with
  | none => rw [outSection, hc] at h; cases h
  | some c =>
    by_cases hid : c = id
    · subst hid
      have ha := (List.getElem?_eq_some_iff.1 hc).1
      rcases outSection_cases hB hc with ⟨e, _, _, hr⟩ | ⟨x, to, hr0, h1, h2, hx, hr⟩
      · rw [hr] at h; cases h
      · rw [hr] at h
        split at h
        · cases h
        · next hlen =>
          split at h
          · next hk =>
            cases h
            obtain ⟨b', hb', h3, h4, h5, h6, h7, _⟩ := readAt_take hB (Nat.le_refl (a + 1)) (show a + 1 ≤ B.length by omega) hr0
            have hbt : b' = to := by omega
            subst hbt
            have hd : B.drop a = c :: (groups x ++ B.drop b') := by
              rw [List.drop_eq_getElem_cons ha, ← h5, (List.getElem?_eq_some_iff.1 hc).2]
            obtain ⟨D, hD⟩ : ∃ D, (B.drop b').take x = D := ⟨_, rfl⟩
            have hDl : D.length = x := by rw [← hD, List.length_take, List.length_drop]; omega
            have hsplit : B.drop a = (B.take (b' + x + 4)).drop a ++ B.drop (b' + x + 4) := by
              have e := congrArg (List.drop a) (List.take_append_drop (b' + x + 4) B)
              rw [← e, List.drop_append_of_le_length (by rw [List.length_take]; omega)]
            have hL : ((B.take (b' + x + 4)).drop a).take ((B.take (b' + x + 4)).drop a).length.pred.pred.pred.pred = c :: bytesOf D := by
              have hl : ((B.take (b' + x + 4)).drop a).length = b' + x + 4 - a := by rw [List.length_drop, List.length_take]; omega
              rw [hl]
              have e1 : (B.take (b' + x + 4)).drop a = (B.drop a).take (b' + x + 4 - a) := List.drop_take ..
              rw [e1, List.take_take, hd]
              have e2 : min (b' + x + 4 - a).pred.pred.pred.pred (b' + x + 4 - a) = 1 + (groups x).length + x := by simp only [Nat.pred_eq_sub_one]; omega
              rw [e2, show 1 + (groups x).length + x = ((groups x).length + x) + 1 by omega, List.take_succ_cons, List.take_append, List.take_of_length_le (l := groups x) (by omega), show (groups x).length + x - (groups x).length = x by omega, hD, bytesOf, hDl]
            have hcrc := of_decide_eq_true (hk : decide _ = true)
            have hfr : (B.take (b' + x + 4)).drop a = frameOf c D := by
              rw [frameOf, ← hL]
              exact hcrc.2.symm
            rw [hD]
            refine ⟨by rw [hsplit, hfr], by omega, by omega, fun y hy => hB y ?_, by omega⟩
            rw [← hD] at hy
            exact List.mem_of_mem_drop (List.mem_of_mem_take hy)
          · cases h
    · rw [outSection_other hc hid] at h; cases h
end Go.Proofs.YtlgphgipfjlbfaaDoor

end

section
/- Layer 16: files as a whole: what is assembled, what is parsed; that the one inverts the other; prefixes, continuations, bursts. No program in sight. -/
set_option linter.unusedVariables false
namespace Go.Proofs.YtlgphgipfjlbfaaDoor

def headL : List Nat := [84, 83, 66, 75, 1]
def tailL : List Nat := [75, 66, 83, 84]
/-- Bytes that must be those of a string: the first that is wrong, or too few. -/
def litE : List Nat → List Nat → Nat
  | _, [] => 0
  | [], _ :: _ => 3
  | c :: b, d :: s => if c = d then litE b s else 10
theorem litE_back (s r : List Nat) : litE (s ++ r) s = 0 := by
  induction s with
  | nil => cases r <;> rfl
  | cons d s ih => rw [List.cons_append, litE, if_pos rfl, ih]
theorem litE_inv : ∀ {b s : List Nat}, litE b s = 0 → b = s ++ b.drop s.length
  | b, [], _ => by simp
  | [], d :: s, h => by cases h
  | c :: b, d :: s, h => by
    rw [litE] at h
    split at h
    · next e => subst e; rw [List.length_cons, List.drop_succ_cons, List.cons_append, ← litE_inv h]
    · cases h
theorem litE_cases : ∀ (b s : List Nat), litE b s = 0 ∨ litE b s = 3 ∨ litE b s = 10
  | b, [] => by left; cases b <;> rfl
  | [], d :: s => by right; left; rfl
  | c :: b, d :: s => by
    rw [litE]
    split
    · exact litE_cases b s
    · right; right; rfl
theorem litE_take : ∀ (b s : List Nat) (k : Nat), litE (b.take k) s = 3 ∨ (litE (b.take k) s = litE b s ∧ (litE b s = 0 → s.length ≤ k))
  | b, [], k => by right; cases b <;> cases k <;> simp [litE]
  | [], d :: s, k => by left; rw [List.take_nil]; rfl
  | c :: b, d :: s, 0 => by left; rfl
  | c :: b, d :: s, k + 1 => by
    rw [List.take_succ_cons, litE, litE]
    split
    · rcases litE_take b s k with h | ⟨h, h2⟩
      · exact Or.inl h
      · exact Or.inr ⟨h, fun e => by have := h2 e; rw [List.length_cons]; omega⟩
    · right; exact ⟨rfl, fun h => by cases h⟩

/-- The frames of sections, from an identifier on; their offsets. -/
def putS : Nat → List (List Nat) → List Nat
  | _, [] => []
  | id, d :: S => frameOf id d ++ putS (id + 1) S
def offs : Nat → Nat → List (List Nat) → List Nat
  | _, _, [] => []
  | id, a, d :: S => a :: offs (id + 1) (a + (frameOf id d).length) S
def contents (ats : List Nat) : List Nat := ats.flatMap groups
def bodyL (S : List (List Nat)) : List Nat := headL ++ putS 1 S ++ frameOf 5 (contents (offs 1 5 S))
/-- What Assemble gives. -/
def asmL (S : List (List Nat)) : List Nat := withCrc (bodyL S) ++ tailL

def secsF : Nat → Nat → Nat → List (List Nat × Nat) → List Nat → Out (List (List Nat × Nat))
  | 0, _, a, acc, _ => .ok acc a
  | k + 1, id, a, acc, B => thenO (outSection B a id) (fun d b => secsF k (id + 1) b (acc ++ [(d, a)]) B)
def headO (B : List Nat) : Out Unit := if litE B headL = 0 then .ok () 5 else .bad (litE B headL)
def tocO (c : List Nat) (l : List (List Nat × Nat)) (a5 : Nat) : Out Unit := if c = contents (l.map Prod.snd) then .ok () a5 else .bad 13
def crcO (B : List Nat) (a5 : Nat) : Out Unit := if B.length - a5 < 4 then .bad 3 else if isCrc (B.take (a5 + 4)) = true then .ok () (a5 + 4) else .bad 12
def tailO (B : List Nat) (a6 : Nat) : Out Unit := if litE (B.drop a6) tailL = 0 then .ok () (a6 + 4) else .bad (litE (B.drop a6) tailL)
/-- All but the bytes behind the file. -/
def layF (B : List Nat) : Out (List (List Nat) × List Nat) :=
  thenO (headO B) fun _ a0 => thenO (secsF 4 1 a0 [] B) fun l a4 => thenO (outSection B a4 5) fun c a5 => thenO (tocO c l a5) fun _ a5' => thenO (crcO B a5') fun _ a6 => thenO (tailO B a6) fun _ a7 => .ok (l.map Prod.fst, l.map Prod.snd ++ [a4]) a7
/-- What Parse gives: the sections, the offsets, the error. -/
def noSecs : List (List Nat) := [[], [], [], []]
def noOffs : List Nat := [0, 0, 0, 0, 0]
def lay (B : List Nat) : List (List Nat) × List Nat × Nat := match layF B with
  | .bad e => (noSecs, noOffs, e)
  | .ok x b => if b < B.length then (noSecs, noOffs, 4) else (x.1, x.2, 0)

/-! ### Fewer bytes -/
theorem secs_stable : ∀ (k id a : Nat) (acc : List (List Nat × Nat)), StbA a (secsF k id a acc)
  | 0, id, a, acc => stb_ok acc a
  | k + 1, id, a, acc => stb_then (f := fun B => outSection B a id) (g := fun d b B => secsF k (id + 1) b (acc ++ [(d, a)]) B) (stb_up (sec_stable id a) (Nat.zero_le _)) (fun d b => secs_stable k (id + 1) b _)
theorem head_stable : StbA 0 headO := by
  intro B m hB _ hm
  rcases litE_take B headL m with h | ⟨h, h2⟩
  · left; rw [headO, h]; rfl
  · right
    rw [headO, headO, h]
    refine ⟨rfl, fun x b hx => ?_⟩
    split at hx
    · next h0 => cases hx; exact h2 h0
    · cases hx
theorem crc_stable (a5 : Nat) : StbA a5 (fun B => crcO B a5) := by
  intro B m hB ha hm
  show crcO (B.take m) a5 = .bad 3 ∨ (crcO (B.take m) a5 = crcO B a5 ∧ ∀ x b, crcO B a5 = .ok x b → b ≤ m)
  have hl : (B.take m).length = m := by rw [List.length_take]; omega
  rw [crcO, crcO, hl]
  by_cases h : m - a5 < 4
  · left; rw [if_pos h]
  · right
    have h2 : ¬ B.length - a5 < 4 := by omega
    have e : (B.take m).take (a5 + 4) = B.take (a5 + 4) := by rw [List.take_take, Nat.min_eq_left (by omega)]
    rw [if_neg h, if_neg h2, e]
    refine ⟨rfl, fun x b hx => ?_⟩
    split at hx
    · cases hx; omega
    · cases hx
theorem tail_stable (a6 : Nat) : StbA a6 (fun B => tailO B a6) := by
  intro B m hB ha hm
  show tailO (B.take m) a6 = .bad 3 ∨ (tailO (B.take m) a6 = tailO B a6 ∧ ∀ x b, tailO B a6 = .ok x b → b ≤ m)
  have e : (B.take m).drop a6 = (B.drop a6).take (m - a6) := List.drop_take ..
  rw [tailO, tailO, e]
  rcases litE_take (B.drop a6) tailL (m - a6) with h | ⟨h, h2⟩
  · left; rw [h]; rfl
  · right
    rw [h]
    refine ⟨rfl, fun x b hx => ?_⟩
    split at hx
    · next h0 =>
      cases hx
      have h3 : tailL.length ≤ m - a6 := h2 h0
      have : tailL.length = 4 := rfl
      omega
    · cases hx
theorem layF_stable : StbA 0 layF :=
  stb_then (f := headO) (g := fun _ a0 B => thenO (secsF 4 1 a0 [] B) fun l a4 => thenO (outSection B a4 5) fun c a5 => thenO (tocO c l a5) fun _ a5' => thenO (crcO B a5') fun _ a6 => thenO (tailO B a6) fun _ a7 => .ok (l.map Prod.fst, l.map Prod.snd ++ [a4]) a7) head_stable fun _ a0 =>
  stb_then (f := secsF 4 1 a0 []) (g := fun l a4 B => thenO (outSection B a4 5) fun c a5 => thenO (tocO c l a5) fun _ a5' => thenO (crcO B a5') fun _ a6 => thenO (tailO B a6) fun _ a7 => .ok (l.map Prod.fst, l.map Prod.snd ++ [a4]) a7) (secs_stable 4 1 a0 []) fun l a4 =>
  stb_then (f := fun B => outSection B a4 5) (g := fun c a5 B => thenO (tocO c l a5) fun _ a5' => thenO (crcO B a5') fun _ a6 => thenO (tailO B a6) fun _ a7 => .ok (l.map Prod.fst, l.map Prod.snd ++ [a4]) a7) (stb_up (sec_stable 5 a4) (Nat.zero_le _)) fun c a5 =>
  stb_then (f := fun _ => tocO c l a5) (g := fun _ a5' B => thenO (crcO B a5') fun _ a6 => thenO (tailO B a6) fun _ a7 => .ok (l.map Prod.fst, l.map Prod.snd ++ [a4]) a7) (by unfold tocO; split <;> first | exact stb_ok _ _ | exact stb_bad _ _) fun _ a5' =>
  stb_then (f := fun B => crcO B a5') (g := fun _ a6 B => thenO (tailO B a6) fun _ a7 => .ok (l.map Prod.fst, l.map Prod.snd ++ [a4]) a7) (crc_stable a5') fun _ a6 =>
  stb_then (f := fun B => tailO B a6) (g := fun _ a7 _ => .ok (l.map Prod.fst, l.map Prod.snd ++ [a4]) a7) (tail_stable a6) fun _ a7 => stb_ok _ _
theorem thenO_bad {α β : Type} {o : Out α} {g : α → Nat → Out β} {e : Nat} (h : thenO o g = .bad e) : o = .bad e ∨ ∃ x b, o = .ok x b ∧ g x b = .bad e := by
  cases o with
  | bad e' => simp only [thenO] at h; cases h; left; rfl
  | ok x b => right; exact ⟨x, b, rfl, h⟩
theorem sec_bad {B : List Nat} (hB : ∀ c ∈ B, c < 256) {a id e : Nat} (h : outSection B a id = .bad e) : e ≠ 0 := by
  cases h0 : B[a]? with
  | none => rw [outSection, h0] at h; simp only [Out.bad.injEq] at h; omega
  | some c =>
    by_cases hc : c = id
    · subst hc
      rcases outSection_cases hB h0 with ⟨e', he, _, hr⟩ | ⟨x, to, _, _, _, _, hr⟩
      · rw [hr] at h; simp only [Out.bad.injEq] at h; omega
      · rw [hr] at h
        split at h
        · simp only [Out.bad.injEq] at h; omega
        · split at h
          · cases h
          · simp only [Out.bad.injEq] at h; omega
    · rw [outSection_other h0 hc] at h; simp only [Out.bad.injEq] at h; omega
theorem secs_bad {B : List Nat} (hB : ∀ c ∈ B, c < 256) : ∀ (k id a : Nat) (acc : List (List Nat × Nat)) (e : Nat), secsF k id a acc B = .bad e → e ≠ 0
  | 0, id, a, acc, e, h => by cases h
  | k + 1, id, a, acc, e, h => by
    rcases thenO_bad h with h | ⟨x, b, _, h⟩
    · exact sec_bad hB h
    · exact secs_bad hB k _ _ _ e h
theorem layF_bad {B : List Nat} (hB : ∀ c ∈ B, c < 256) {e : Nat} (h : layF B = .bad e) : e ≠ 0 := by
  rcases thenO_bad h with h | ⟨_, a0, _, h⟩
  · unfold headO at h
    split at h
    · cases h
    · next h0 => cases h; exact h0
  · rcases thenO_bad h with h | ⟨l, a4, _, h⟩
    · exact secs_bad hB _ _ _ _ e h
    · rcases thenO_bad h with h | ⟨c, a5, _, h⟩
      · exact sec_bad hB h
      · rcases thenO_bad h with h | ⟨_, a5', _, h⟩
        · unfold tocO at h
          split at h
          · cases h
          · cases h; decide
        · rcases thenO_bad h with h | ⟨_, a6, _, h⟩
          · unfold crcO at h
            split at h
            · cases h; decide
            · split at h
              · cases h
              · cases h; decide
          · rcases thenO_bad h with h | ⟨_, a7, _, h⟩
            · unfold tailO at h
              split at h
              · cases h
              · next h0 => cases h; exact h0
            · cases h
/-- A proper prefix of a file ends too early. -/
theorem lay_prefix {B : List Nat} (hB : ∀ c ∈ B, c < 256) (h : (lay B).2.2 = 0) {m : Nat} (hm : m < B.length) : (lay (B.take m)).2.2 = 3 := by
  unfold lay at h
  cases hx : layF B with
  | bad e =>
    rw [hx] at h
    exact absurd h (layF_bad hB hx)
  | ok x b =>
    rw [hx] at h
    simp only at h
    split at h
    · cases h
    · next hb =>
      rcases layF_stable B m hB (Nat.zero_le _) (by omega) with h1 | ⟨h1, h2⟩
      · unfold lay; rw [h1]
      · have := h2 x b hx; omega
/-- An error that is certain stays. -/
theorem lay_certain {B : List Nat} (hB : ∀ c ∈ B, c < 256) {m : Nat} (hm : m ≤ B.length) {e : Nat} (h : (lay (B.take m)).2.2 = e) (h0 : e ≠ 0) (h3 : e ≠ 3) : (lay B).2.2 = e := by
  rcases layF_stable B m hB (Nat.zero_le _) hm with h1 | ⟨h1, h2⟩
  · unfold lay at h; rw [h1] at h; exact absurd h.symm h3
  · unfold lay at h ⊢
    rw [h1] at h
    cases hx : layF B with
    | bad e' => rw [hx] at h; exact h
    | ok x b =>
      rw [hx] at h
      simp only at h ⊢
      split at h
      · next hb =>
        have : b < B.length := by rw [List.length_take] at hb; omega
        rw [if_pos this]; exact h
      · exact absurd h.symm h0

/-! ### What was assembled -/
def okS4 (S : List (List Nat)) : Prop := ∀ d ∈ S, (∀ c ∈ d, c < 256) ∧ d.length < 18446744073709551616
theorem offs_length : ∀ (id a : Nat) (S : List (List Nat)), (offs id a S).length = S.length
  | _, _, [] => rfl
  | id, a, d :: S => by rw [offs, List.length_cons, offs_length, List.length_cons]
theorem putS_lt : ∀ (id : Nat) (S : List (List Nat)), id + S.length ≤ 256 → okS4 S → ∀ c ∈ putS id S, c < 256
  | _, [], _, _, c, hc => by cases hc
  | id, d :: S, hi, h, c, hc => by
    rw [putS] at hc
    rw [List.length_cons] at hi
    rcases List.mem_append.1 hc with e | e
    · exact frameOf_lt (by omega) (h d (by simp)).1 c e
    · exact putS_lt (id + 1) S (by omega) (fun d hd => h d (by simp [hd])) c e
theorem contents_lt (l : List Nat) : ∀ c ∈ contents l, c < 256 := fun c hc => by
  obtain ⟨x, _, h⟩ := List.mem_flatMap.1 hc
  exact groups_lt x c h
theorem bodyL_lt {S : List (List Nat)} (h4 : S.length = 4) (h : okS4 S) : ∀ c ∈ bodyL S, c < 256 := fun c hc => by
  unfold bodyL at hc
  rcases List.mem_append.1 hc with hc | hc
  · rcases List.mem_append.1 hc with hc | hc
    · simp [headL] at hc; omega
    · exact putS_lt 1 S (by omega) h c hc
  · exact frameOf_lt (by decide) (contents_lt _) c hc
theorem asmL_lt {S : List (List Nat)} (h4 : S.length = 4) (h : okS4 S) : ∀ c ∈ asmL S, c < 256 := fun c hc => by
  unfold asmL at hc
  rcases List.mem_append.1 hc with hc | hc
  · exact withCrc_lt (bodyL_lt h4 h) c hc
  · simp [tailL] at hc; omega
theorem secs_back (rest : List Nat) : ∀ (S : List (List Nat)) (id : Nat) (pre : List Nat) (acc : List (List Nat × Nat)), okS4 S → ∃ l, secsF S.length id pre.length acc (pre ++ putS id S ++ rest) = .ok l (pre.length + (putS id S).length) ∧ l.map Prod.fst = acc.map Prod.fst ++ S ∧ l.map Prod.snd = acc.map Prod.snd ++ offs id pre.length S
  | [], id, pre, acc, _ => ⟨acc, by simp [secsF, putS], by simp, by simp [offs]⟩
  | d :: S, id, pre, acc, h => by
    have e0 : pre ++ putS id (d :: S) ++ rest = pre ++ frameOf id d ++ (putS (id + 1) S ++ rest) := by simp [putS]
    have e1 := outSection_back pre d (putS (id + 1) S ++ rest) id (h d (by simp)).2
    obtain ⟨l, h1, h2, h3⟩ := secs_back rest S (id + 1) (pre ++ frameOf id d) (acc ++ [(d, pre.length)]) (fun d hd => h d (by simp [hd]))
    refine ⟨l, ?_, by rw [h2]; simp, by rw [h3]; simp [offs]⟩
    rw [List.length_cons, secsF, e0, e1]
    simp only [thenO]
    rw [← List.append_assoc, ← List.length_append, h1]
    simp [putS, Nat.add_assoc]
theorem contents_length {l : List Nat} (h : ∀ x ∈ l, x < 18446744073709551616) : (contents l).length ≤ 10 * l.length := by
  induction l with
  | nil => simp [contents]
  | cons x l ih =>
    have h1 := groups_ten (h x (by simp))
    have h2 := ih (fun y hy => h y (by simp [hy]))
    rw [contents, List.flatMap_cons, List.length_append, List.length_cons, ← contents]
    omega
theorem contents_small : ∀ (S : List (List Nat)) (id a : Nat), (a + (putS id S).length < 18446744073709551616) → ∀ x ∈ offs id a S, x < 18446744073709551616
  | [], _, _, _, x, hx => by cases hx
  | d :: S, id, a, h, x, hx => by
    rw [putS, List.length_append] at h
    rw [offs] at hx
    rcases List.mem_cons.1 hx with rfl | hx
    · omega
    · exact contents_small S (id + 1) _ (by omega) x hx
def atsOf (S : List (List Nat)) : List Nat := offs 1 5 S ++ [5 + (putS 1 S).length]
theorem lay_back {S : List (List Nat)} (h4 : S.length = 4) (h : okS4 S) (hl : (asmL S).length < 18446744073709551616) : lay (asmL S) = (S, atsOf S, 0) := by
  obtain ⟨F, hF⟩ : ∃ F, frameOf 5 (contents (offs 1 5 S)) = F := ⟨_, rfl⟩
  have hb : bodyL S = headL ++ putS 1 S ++ F := by rw [bodyL, hF]
  obtain ⟨K, hK⟩ : ∃ K, le4 (crcOf (bodyL S)) = K := ⟨_, rfl⟩
  have hK4 : K.length = 4 := by rw [← hK]; rfl
  have hw : withCrc (bodyL S) = headL ++ putS 1 S ++ F ++ K := by rw [withCrc, hK, hb]
  have ha : asmL S = headL ++ putS 1 S ++ (F ++ K ++ tailL) := by rw [asmL, hw]; simp
  have hlen : (asmL S).length = 5 + (putS 1 S).length + F.length + 8 := by rw [ha]; simp [headL, tailL, hK4]; omega
  have hpl : (headL ++ putS 1 S).length = 5 + (putS 1 S).length := by rw [List.length_append]; rfl
  have hcs : (contents (offs 1 5 S)).length < 18446744073709551616 := by
    have := contents_length (contents_small S 1 5 (by omega))
    rw [offs_length, h4] at this
    omega
  obtain ⟨l, h1, h2, h3⟩ := secs_back (F ++ K ++ tailL) S 1 headL [] h
  rw [← ha, h4, show headL.length = 5 from rfl] at h1
  simp only [List.map_nil, List.nil_append] at h2 h3
  rw [show headL.length = 5 from rfl] at h3
  have hs : outSection (asmL S) (5 + (putS 1 S).length) 5 = .ok (contents (offs 1 5 S)) (5 + (putS 1 S).length + F.length) := by
    have e := outSection_back (headL ++ putS 1 S) (contents (offs 1 5 S)) (K ++ tailL) 5 hcs
    rw [hF, hpl] at e
    rw [ha, show headL ++ putS 1 S ++ (F ++ K ++ tailL) = headL ++ putS 1 S ++ F ++ (K ++ tailL) by simp]
    exact e
  have hhd : headO (asmL S) = .ok () 5 := by
    have e : litE (asmL S) headL = 0 := by rw [ha, List.append_assoc]; exact litE_back _ _
    rw [headO, if_pos e]
  have htk : (asmL S).take (5 + (putS 1 S).length + F.length + 4) = withCrc (bodyL S) := by
    have e : (withCrc (bodyL S)).length = 5 + (putS 1 S).length + F.length + 4 := by rw [hw]; simp [headL, hK4]; omega
    rw [asmL, ← e, List.take_left]
  have hdr : (asmL S).drop (5 + (putS 1 S).length + F.length + 4) = tailL := by
    have e : (withCrc (bodyL S)).length = 5 + (putS 1 S).length + F.length + 4 := by rw [hw]; simp [headL, hK4]; omega
    rw [asmL, ← e, List.drop_left]
  have hc : crcO (asmL S) (5 + (putS 1 S).length + F.length) = .ok () (5 + (putS 1 S).length + F.length + 4) := by
    rw [crcO, if_neg (by omega), htk, if_pos (isCrc_withCrc _)]
  have ht : tailO (asmL S) (5 + (putS 1 S).length + F.length + 4) = .ok () (5 + (putS 1 S).length + F.length + 4 + 4) := by
    rw [tailO, hdr, if_pos (by decide)]
  have hlay : layF (asmL S) = .ok (S, atsOf S) (5 + (putS 1 S).length + F.length + 4 + 4) := by
    simp only [layF, hhd, thenO, h1, hs, tocO, h3, if_true, hc, ht, h2, atsOf]
  rw [lay, hlay]
  simp only
  rw [if_neg (by omega)]

/-! ### What was parsed -/
theorem secs_inv {B : List Nat} (hB : ∀ c ∈ B, c < 256) : ∀ (k id a : Nat) (acc l : List (List Nat × Nat)) (b : Nat), a ≤ B.length → secsF k id a acc B = .ok l b → ∃ S, S.length = k ∧ l.map Prod.fst = acc.map Prod.fst ++ S ∧ l.map Prod.snd = acc.map Prod.snd ++ offs id a S ∧ B.drop a = putS id S ++ B.drop b ∧ b = a + (putS id S).length ∧ b ≤ B.length ∧ okS4 S
  | 0, id, a, acc, l, b, ha, h => by
    rw [secsF] at h; cases h
    exact ⟨[], rfl, by simp, by simp [offs], by simp [putS], by simp [putS], ha, fun d hd => by cases hd⟩
  | k + 1, id, a, acc, l, b, ha, h => by
    rw [secsF] at h
    obtain ⟨d, b1, h1, h2⟩ := thenO_ok h
    obtain ⟨i1, i2, i3, i4, i5⟩ := sec_inv hB h1
    obtain ⟨S, s1, s2, s3, s4, s5, s6, s7⟩ := secs_inv hB k (id + 1) b1 _ l b i3 h2
    have hb1 : b1 = a + (frameOf id d).length := by
      have := congrArg List.length i1
      simp only [List.length_append, List.length_drop] at this
      omega
    refine ⟨d :: S, by simp [s1], by rw [s2]; simp, by rw [s3, hb1]; simp [offs], by rw [i1, s4, putS, List.append_assoc], by rw [s5, hb1, putS, List.length_append]; omega, s6, fun x hx => ?_⟩
    rcases List.mem_cons.1 hx with rfl | hx
    · exact ⟨i4, i5⟩
    · exact s7 x hx
theorem lay_inv {B : List Nat} (hB : ∀ c ∈ B, c < 256) (h : (lay B).2.2 = 0) : ∃ S, S.length = 4 ∧ okS4 S ∧ lay B = (S, atsOf S, 0) ∧ B = asmL S := by
  unfold lay at h
  cases hx : layF B with
  | bad e => rw [hx] at h; exact absurd h (layF_bad hB hx)
  | ok x b =>
    rw [hx] at h
    simp only at h
    split at h
    · cases h
    · next hb =>
      obtain ⟨_, a0, h1, hx2⟩ := thenO_ok hx
      obtain ⟨l, a4, h2, hx3⟩ := thenO_ok hx2
      obtain ⟨c, a5, h3, hx4⟩ := thenO_ok hx3
      obtain ⟨_, a5', h4, hx5⟩ := thenO_ok hx4
      obtain ⟨_, a6, h5, hx6⟩ := thenO_ok hx5
      obtain ⟨_, a7, h6, hx7⟩ := thenO_ok hx6
      cases hx7
      unfold headO at h1
      split at h1
      · next hh =>
        cases h1
        have hd := litE_inv hh
        rw [show headL.length = 5 from rfl] at hd
        have h5l : 5 ≤ B.length := by rw [hd]; simp [headL]
        obtain ⟨S, s1, s2, s3, s4, s5, s6, s7⟩ := secs_inv hB 4 1 5 [] l a4 h5l h2
        simp only [List.map_nil, List.nil_append] at s2 s3
        obtain ⟨i1, i2, i3, _, _⟩ := sec_inv hB h3
        unfold tocO at h4
        split at h4
        · next hc =>
          cases h4
          rw [s3] at hc
          unfold crcO at h5
          split at h5
          · cases h5
          · next hlen =>
            split at h5
            · next hcrc =>
              cases h5
              unfold tailO at h6
              split at h6
              · next htl =>
                cases h6
                have ht := litE_inv htl
                have e0 : (B.drop (a5 + 4)).drop 4 = [] := by rw [List.drop_drop]; exact List.drop_of_length_le (by omega)
                rw [show tailL.length = 4 from rfl, e0, List.append_nil] at ht
                have hsplit : B = B.take (a5 + 4) ++ tailL := by rw [← ht, List.take_append_drop]
                have hcr := (of_decide_eq_true (hcrc : decide _ = true)).2
                have hl4 : (B.take (a5 + 4)).length - 4 = a5 := by rw [List.length_take]; omega
                rw [hl4, List.take_take, Nat.min_eq_left (by omega)] at hcr
                have hB5 : B.take a5 = bodyL S := by
                  have e1 : B = headL ++ putS 1 S ++ frameOf 5 c ++ B.drop a5 := by
                    rw [List.append_assoc, ← i1, List.append_assoc, ← s4]; exact hd
                  have e2 : (headL ++ putS 1 S ++ frameOf 5 c).length = a5 := by
                    have := congrArg List.length e1
                    rw [List.length_append, List.length_drop] at this
                    omega
                  have e3 : B.take a5 = headL ++ putS 1 S ++ frameOf 5 c := by
                    rw [e1, ← e2]
                    rw [List.take_left' (by rw [e2])]
                  rw [e3, bodyL, hc]
                rw [hB5] at hcr
                refine ⟨S, s1, s7, ?_, by rw [asmL, hcr]; exact hsplit⟩
                rw [lay, hx]
                simp only
                rw [if_neg hb, s2, s3, s5]
                rfl
              · cases h6
            · cases h5
        · cases h4
      · cases h1

/-! ### Bursts -/
theorem flipBit_take (b : List Nat) (k m : Nat) : (flipBit b k).take m = flipBit (b.take m) k := by
  unfold flipBit
  rw [List.take_set]
  by_cases h : k / 8 < m
  · have : (b.take m).getD (k / 8) 0 = b.getD (k / 8) 0 := by
      rw [List.getD_eq_getElem?_getD, List.getD_eq_getElem?_getD, List.getElem?_take_of_lt h]
    rw [this]
  · rw [List.set_eq_of_length_le (by rw [List.length_take]; omega), List.set_eq_of_length_le (by rw [List.length_take]; omega)]
theorem flipBit_far {b : List Nat} {k : Nat} (h : 8 * b.length ≤ k) : flipBit b k = b := List.set_eq_of_length_le (by omega)
theorem flipTo_take (b : List Nat) (o p m : Nat) (hm : m ≤ b.length) : ∀ n, (flipTo b o p n).take m = flipTo (b.take m) o p n
  | 0 => rfl
  | n + 1 => by
    have hl : (b.take m).length = m := by rw [List.length_take]; omega
    rw [flipTo, flipTo, hl]
    by_cases h1 : p / 2 ^ n % 2 = 1 ∧ o + n < 8 * b.length
    · rw [if_pos h1, flipBit_take, flipTo_take b o p m hm n]
      by_cases h2 : o + n < 8 * m
      · rw [if_pos ⟨h1.1, h2⟩]
      · rw [if_neg (fun h => h2 h.2), flipBit_far (by rw [flipTo_length, hl]; omega)]
    · rw [if_neg h1, if_neg (fun h => h1 ⟨h.1, by omega⟩), flipTo_take b o p m hm n]
theorem flipTo_far {b : List Nat} {o : Nat} (h : 8 * b.length ≤ o) (p : Nat) : ∀ n, flipTo b o p n = b
  | 0 => rfl
  | n + 1 => by rw [flipTo, if_neg (fun k => by omega), flipTo_far h p n]
theorem lay_burst {S : List (List Nat)} (h4 : S.length = 4) (h : okS4 S) (hl : (asmL S).length < 18446744073709551616) (o p : Nat) : (lay (flipTo (asmL S) o p 32)).2.2 = 0 ↔ asmL S = flipTo (asmL S) o p 32 := by
  constructor
  · intro h0
    have hB := asmL_lt h4 h
    obtain ⟨S', k1, k2, _, k4⟩ := lay_inv (flipTo_lt hB o p 32) h0
    have hlen := flipTo_length (asmL S) o p 32
    have hw : ∀ T : List (List Nat), asmL T = withCrc (bodyL T) ++ tailL := fun _ => rfl
    have hw1 : (withCrc (bodyL S')).length = (withCrc (bodyL S)).length := by
      rw [k4, hw, hw S, List.length_append, List.length_append] at hlen
      omega
    have t1 : (asmL S).take (withCrc (bodyL S)).length = withCrc (bodyL S) := by rw [hw, List.take_left]
    have t2 : (flipTo (asmL S) o p 32).take (withCrc (bodyL S)).length = withCrc (bodyL S') := by rw [k4, hw, ← hw1, List.take_left]
    rw [flipTo_take _ _ _ _ (by rw [hw, List.length_append]; omega), t1] at t2
    have hwl : ∀ c ∈ withCrc (bodyL S), c < 256 := withCrc_lt (bodyL_lt h4 h)
    have hsame : withCrc (bodyL S) = withCrc (bodyL S') := by
      by_cases ho : o < 8 * (withCrc (bodyL S)).length
      · have hf := flip_found hwl (by rw [withCrc_length]; omega) (isCrc_withCrc _) o p ho
        rw [t2, isCrc_withCrc] at hf
        exact of_decide_eq_true hf.symm
      · rw [flipTo_far (by omega)] at t2
        exact t2
    rw [k4, hw S, hw S', hsame]
  · intro he
    rw [← he, lay_back h4 h hl]
end Go.Proofs.YtlgphgipfjlbfaaDoor

end
