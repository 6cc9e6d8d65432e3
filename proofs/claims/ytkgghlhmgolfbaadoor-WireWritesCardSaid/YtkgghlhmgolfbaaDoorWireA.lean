/- Layer 4: what the program's functions read at an offset: getByte, getBytes, getUint, getString. -/
import Derived.Test.YtkgghlhmgolfbaaDoorRef04D
import Derived.Test.YtkgghlhmgolfbaaDoorVarintGet
set_option linter.unusedVariables false
namespace Go.Proofs.YtkgghlhmgolfbaaDoor
open Go Go.RowKit

/-- What a function that reads at an offset gives back: a value, the offset behind it and OK, or zeros and the error. -/
def Tup {α : Type} (o : Out α) (val : α → Value) (z : Value) : Value := match o with
  | .ok x b => .tuple #[val x, .int .i64 (b : Int), .int .i64 0]
  | .bad e => .tuple #[z, .int .i64 0, .int .i64 (e : Int)]

/-- 's[i:k]'. -/
theorem wpList_fromTo {P : Program} {t e : TypeId} {sz bytes : Nat} (hE : Elem P t e sz bytes) (w : World) (v : Value) (n i k : Nat) (vs : List Value) (h0 : Rd w sz v n vs) (hi : i ≤ k) (hk : k ≤ n)
    {ops : Array Oper} {rest : List Oper} {o : Oper} {a : Act} {Q : Exit → Act → World → Prop} (hgd : Region.wanted o (yielded ops a.tmps) = true) (s x y : Operand) (ho : o.op = .slice t s (some x) (some y) none)
    (hs : a.eval s = v) (hx : a.eval x = .int .i64 (i : Int)) (hy : a.eval y = .int .i64 (k : Int))
    (h : ∀ p c, Rd w sz (.slice p (k - i) c) (k - i) ((vs.take (k * sz)).drop (i * sz)) → wpList P ops Q rest (a.put o.dst (.slice p (k - i) c)) w) : wpList P ops Q (o :: rest) a w := by
  obtain ⟨p, c, hv⟩ := h0.shape
  subst hv
  have hnc : n ≤ c := by obtain ⟨_, _, e, _, h, _⟩ := h0; cases e; exact h
  have hr := exec_fromTo hE w p n c i k hi (by omega) s x y ho hs hx hy
  have hR := h0.fromTo i k hi hk
  obtain ⟨p2, c2, hs2⟩ := hR.shape
  rw [hs2] at hr hR
  refine BigFrame.wpList_want hgd fun K hK => ?_
  unfold Oper.wp
  rw [hr]
  exact hK _ _ (h _ _ hR)

theorem get_byte (v : Value) (B : List Nat) (a : Nat) (w : World) (h : Rd w 1 v B.length (u8s B)) (ha : a ≤ B.length) (hz : B.length ≤ 140737488355000) :
    Calls Tryd.prog 47 #[v, .int .i64 (a : Int)] w fun en w' => en = .returned (Tup (outByte B a) (fun c => .int .u8 (c : Int)) (.int .u8 0)) ∧ w' = w := by
  by_cases hlt : a < B.length
  · obtain ⟨b, off, c, hv, _, _, hc⟩ := h.at (fun e => by have := congrArg List.length e; rw [u8s_length] at this; simp at this; subst this; simp at hlt)
    subst hv
    have hcell := hc a _ (u8s_get _ _ hlt)
    have HO : Hid (outByte B a = .ok B[a] (a + 1)) := by show _ = _; rw [outByte, List.getElem?_eq_getElem hlt]
    have hne : ¬ (a : Int) = (B.length : Int) := by omega
    have hlt2 : (a : Int) < (B.length : Int) := by omega
    have hmax2 : (B.length : Int) ≤ 9223372036854775807 := by omega
    have HA : Hid ((a : Int) + 1 = ((a + 1 : Nat) : Int)) := by show _ = _; omega
    clear h hc hz ha
    generalize B[a] = x at *
    go_enter Tryd.func47, Tryd.ntmps47
    go_wp2_with fail
    go_ret3
    exact ⟨by rw [HO.out]; show _ = Ending.returned (Value.tuple #[.int .u8 (x : Int), .int .i64 ((a + 1 : Nat) : Int), .int .i64 0]); rw [HA.out]; rfl, rfl⟩
  · obtain ⟨p, c, hv⟩ := h.shape
    subst hv
    have HO : Hid (outByte B a = .bad 3) := by show _ = _; rw [outByte, List.getElem?_eq_none (by omega)]
    obtain rfl : a = B.length := by omega
    clear h hz ha hlt
    go_enter Tryd.func47, Tryd.ntmps47
    go_wp2_with fail
    go_ret3
    exact ⟨by rw [HO.out]; rfl, rfl⟩

theorem get_bytes_eof (v : Value) (B : List Nat) (a n : Nat) (w : World) (h : Rd w 1 v B.length (u8s B)) (ha : a ≤ B.length) (hz : B.length ≤ 140737488355000) (hn : B.length - a < n) :
    Calls Tryd.prog 52 #[v, .int .i64 (a : Int), .int .u64 (n : Int)] w fun en w' => en = .returned (.tuple #[.slice none 0 0, .int .i64 0, .int .i64 3]) ∧ w' = w := by
  obtain ⟨p, c, hv⟩ := h.shape
  subst hv
  have hw : IntKind.u64.wrap ((B.length : Int) - (a : Int)) = (B.length : Int) - (a : Int) := wrap_u64_small _ (by omega) (by omega)
  have hgt : (B.length : Int) - (a : Int) < (n : Int) := by omega
  clear h
  go_enter Tryd.func52, Tryd.ntmps52
  go_wp2_with fail
  go_ret3
  exact ⟨rfl, rfl⟩

theorem get_bytes_ok (v : Value) (B : List Nat) (a n : Nat) (w : World) (h : Rd w 1 v B.length (u8s B)) (ha : a ≤ B.length) (hz : B.length ≤ 140737488355000) (hn : ¬ B.length - a < n) :
    Calls Tryd.prog 52 #[v, .int .i64 (a : Int), .int .u64 (n : Int)] w fun en w' => (∃ p c, en = .returned (.tuple #[.slice p n c, .int .i64 ((a + n : Nat) : Int), .int .i64 0]) ∧ Rd w 1 (.slice p n c) n (u8s ((B.drop a).take n))) ∧ w' = w := by
  obtain ⟨p, c, hv⟩ := h.shape
  subst hv
  have hw : IntKind.u64.wrap ((B.length : Int) - (a : Int)) = (B.length : Int) - (a : Int) := wrap_u64_small _ (by omega) (by omega)
  have hgt : ¬ (B.length : Int) - (a : Int) < (n : Int) := by omega
  have hwn : IntKind.i64.wrap (n : Int) = (n : Int) := IntWalk.i64_in _ (by omega)
  obtain ⟨A, hA⟩ : ∃ A, a + n = A := ⟨_, rfl⟩
  have hA1 : (a : Int) + (n : Int) = (A : Int) := by omega
  have H := Lib.hid h
  have HAl : Hid (a ≤ A ∧ A ≤ B.length ∧ A - a = n) := by show _ ∧ _; omega
  have hAle : (A : Int) ≤ 9223372036854775807 := by omega
  clear h hn
  go_enter Tryd.func52, Tryd.ntmps52
  go_wp2_with (refine wpList_fromTo Tryd.elemU8 _ _ _ a A _ H.out HAl.out.1 HAl.out.2.1 rfl _ _ _ rfl rfl rfl rfl ?_; intro p2 c2 h2)
  have h3 := h2
  rw [HAl.out.2.2] at h3 ⊢
  have HR : Hid (Rd w 1 (.slice p2 n c2) n (u8s ((B.drop a).take n))) := by
    show Rd _ _ _ _ _
    simp only [Nat.mul_one] at h3
    rw [List.drop_take, HAl.out.2.2] at h3
    simpa [u8s, List.map_drop, List.map_take] using h3
  clear h2 h3
  go_wp2_with fail
  go_ret3
  exact ⟨⟨_, _, rfl, HR.out⟩, rfl⟩

set_option maxHeartbeats 400000 in
theorem get_uint (v : Value) (B : List Nat) (a most : Nat) (w : World) (h : Rd w 1 v B.length (u8s B)) (hB : ∀ c ∈ B, c < 256) (ha : a ≤ B.length) :
    Calls Tryd.prog 50 #[v, .int .i64 (a : Int), .int .u64 (most : Int)] w fun en w' => en = .returned (Tup (outUint B a most) (fun c => .int .u64 (c : Int)) (.int .u64 0)) ∧ w' = w := by
  obtain ⟨p, c, hv⟩ := h.shape
  subst hv
  have hcs := outUint_cases hB ha most
  have HG := Lib.hid (calls_flip (get_any (.slice p B.length c) B (a : Int) w h hB))
  clear h hB
  go_enter Tryd.func50, Tryd.ntmps50
  go_wp2_with fail
  refine HG.out.mono ?_
  rintro en w1 ⟨rfl, rfl⟩
  rcases hcs with ⟨e, he, hr, ho⟩ | ⟨x, to, hr, hto, htl, hx, ho⟩
  · rw [hr]
    have HO := Lib.hid ho
    have heb : ((e : Int) == 0) = false := by rw [beq_eq_false_iff_ne]; omega
    clear hr ho HG
    go_wp2_with fail
    go_ret3
    exact ⟨by rw [HO.out]; rfl, rfl⟩
  · rw [hr]
    have HO := Lib.hid ho
    clear hr ho HG
    by_cases hlt : most < x
    · have hlt' : (most : Int) < (x : Int) := by omega
      rw [if_pos hlt] at HO
      go_wp2_with fail
      go_ret3
      exact ⟨by rw [HO.out]; rfl, rfl⟩
    · have hlt' : ¬ (most : Int) < (x : Int) := by omega
      rw [if_neg hlt] at HO
      go_wp2_with fail
      go_ret3
      exact ⟨by rw [HO.out]; rfl, rfl⟩

set_option maxHeartbeats 1000000 in
theorem get_string (v : Value) (B : List Nat) (a : Nat) (most : Int) (w : World) (h : Rd w 1 v B.length (u8s B)) (hB : ∀ c ∈ B, c < 256) (ha : a ≤ B.length) (hz : B.length ≤ 140737488355000) (hn : -9223372036854775808 ≤ most ∧ most < 9223372036854775808) :
    Calls Tryd.prog 42 #[v, .int .i64 (a : Int), .int .i64 most] w fun en w' => en = .returned (Tup (outString B a most) (fun l => .string (strOf l)) (.string ⟨#[]⟩)) ∧ w' = w := by
  obtain ⟨p, c, hv⟩ := h.shape
  subst hv
  have hcs := outString_cases hB ha most
  have HG := Lib.hid (calls_flip (get_any (.slice p B.length c) B (a : Int) w h hB))
  have H := Lib.hid h
  clear h hB
  go_enter Tryd.func42, Tryd.ntmps42
  go_wp2_with fail
  refine HG.out.mono ?_
  rintro en w1 ⟨rfl, rfl⟩
  rcases hcs with ⟨e, he, hr, ho⟩ | ⟨x, to, hr, hto, htl, hx, ho⟩
  · rw [hr]
    have HO := Lib.hid ho
    have heb : ((e : Int) == 0) = false := by rw [beq_eq_false_iff_ne]; omega
    clear hr ho HG
    go_wp2_with fail
    go_ret3
    exact ⟨by rw [HO.out]; rfl, rfl⟩
  · rw [hr]
    have HO := Lib.hid ho
    clear hr ho HG
    by_cases hneg : most < 0
    · rw [if_pos (Or.inl hneg)] at HO
      go_wp2_with fail
      go_ret3
      exact ⟨by rw [HO.out]; rfl, rfl⟩
    · obtain ⟨M, rfl⟩ : ∃ M : Nat, most = (M : Int) := ⟨most.toNat, by omega⟩
      have hwM : IntKind.u64.wrap (M : Int) = (M : Int) := wrap_u64_small _ (by omega) (by omega)
      have hM0 : ¬ (M : Int) < 0 := hneg
      by_cases hlt : M < x
      · have hlt' : (M : Int) < (x : Int) := by omega
        rw [if_pos (Or.inr hlt')] at HO
        clear hneg hn
        go_wp2_with fail
        go_ret3
        exact ⟨by rw [HO.out]; rfl, rfl⟩
      · have hlt' : ¬ (M : Int) < (x : Int) := by omega
        rw [if_neg (by omega)] at HO
        clear hneg hn
        by_cases hgt : B.length - to < x
        · rw [if_pos hgt] at HO
          have HE := Lib.hid (get_bytes_eof (.slice p B.length c) B to x w1 H.out htl hz hgt)
          have HN : Hid ((convert 22 9 (.slice none 0 0)).run Tryd.prog w1 = .ok (.string (strOf [])) w1) := (Rd.nil w1 1).conv (l := []) _ _ _ Tryd.underlying22 Tryd.underlying5 Tryd.underlying9
          go_wp2_with fail
          refine HE.out.mono ?_
          rintro en w2 ⟨rfl, rfl⟩
          have hN := HN.out
          go_wp2_with fail
          go_ret3
          exact ⟨by rw [HO.out]; rfl, rfl⟩
        · rw [if_neg hgt] at HO
          have HE := Lib.hid (get_bytes_ok (.slice p B.length c) B to x w1 H.out htl hz hgt)
          go_wp2_with fail
          refine HE.out.mono ?_
          rintro en w2 ⟨⟨p2, c2, rfl, hR⟩, rfl⟩
          have hN := hR.conv (P := Tryd.prog) 22 5 9 Tryd.underlying22 Tryd.underlying5 Tryd.underlying9
          clear hR HE H
          go_wp2_with fail
          go_ret3
          exact ⟨by rw [HO.out]; rfl, rfl⟩
end Go.Proofs.YtkgghlhmgolfbaaDoor
