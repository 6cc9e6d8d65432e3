/- Layer 4: what the program's functions read at an offset: getSection, and the closures of Take and Section. -/
import Derived.Test.YtkgghlhmgolfbaaDoorWireA
import Derived.Test.YtkgghlhmgolfbaaDoorCrc03B
import Derived.Test.YtkgghlhmgolfbaaDoorBytesClone
set_option linter.unusedVariables false
namespace Go.Proofs.YtkgghlhmgolfbaaDoor
open Go Go.RowKit

/-- What getSection leaves: a part of the bytes, or an error. -/
def TupR (o : Out (List Nat)) (w' : World) (en : Ending) : Prop := match o with
  | .ok l b => ∃ p c, en = .returned (.tuple #[.slice p l.length c, .int .i64 (b : Int), .int .i64 0]) ∧ Rd w' 1 (.slice p l.length c) l.length (u8s l)
  | .bad e => en = .returned (.tuple #[.slice none 0 0, .int .i64 0, .int .i64 (e : Int)])
/-- What the closures leave: new memory, or an error. -/
def TupS (o : Out (List Nat)) (w w' : World) (en : Ending) : Prop := match o with
  | .ok l b => ∃ p c, en = .returned (.tuple #[.slice p l.length c, .int .i64 (b : Int), .int .i64 0]) ∧ w'.ownsRow w.heap.size 5 1 (.slice p l.length c) l.length (u8s l)
  | .bad e => ∃ r, en = .returned (.tuple #[r, .int .i64 0, .int .i64 (e : Int)])

set_option maxHeartbeats 4000000 in
theorem get_section (v : Value) (B : List Nat) (a id : Nat) (w : World) (hT : Tab w) (h : Rd w 1 v B.length (u8s B)) (hB : ∀ c ∈ B, c < 256) (ha : a ≤ B.length) (hz : B.length ≤ 140737488355000) (hid : id < 256) :
    Calls Tryd.prog 45 #[v, .int .i64 (a : Int), .int .u8 (id : Int)] w fun en w' => TupR (outSection B a id) w' en ∧ Below w.heap.size w w' := by
  have HB := Lib.hid hB
  have HT := Lib.hid hT
  obtain ⟨p, c, hv⟩ := h.shape
  subst hv
  have H := Lib.hid h
  have HG0 := Lib.hid (get_byte (.slice p B.length c) B a w h ha hz)
  clear h hB hT
  by_cases hla : B.length ≤ a
  · have HO := Lib.hid (outSection_none hla id)
    have HO2 : Hid (outByte B a = .bad 3) := by show _ = _; rw [outByte, List.getElem?_eq_none hla]
    rw [HO2.out] at HG0
    unfold Tup at HG0
    go_enter Tryd.func45, Tryd.ntmps45
    go_wp2_with fail
    refine HG0.out.mono ?_
    rintro en w1 ⟨rfl, rfl⟩
    go_wp2_with fail
    go_ret3
    exact ⟨by rw [HO.out]; rfl, Below.refl _ _⟩
  · have hlt : a < B.length := by omega
    have hget : B[a]? = some B[a] := List.getElem?_eq_getElem hlt
    have HO2 : Hid (outByte B a = .ok B[a] (a + 1)) := by show _ = _; rw [outByte, hget]
    rw [HO2.out] at HG0
    unfold Tup at HG0
    clear HO2
    by_cases hne : B[a] = id
    · rw [hne] at hget HG0
      have hcs := outSection_cases HB.out hget
      have HG := Lib.hid (calls_flip (get_any (.slice p B.length c) B ((a + 1 : Nat) : Int) w H.out HB.out))
      obtain ⟨A1, hA1⟩ : ∃ A1, a + 1 = A1 := ⟨_, rfl⟩
      rw [hA1] at HG HG0 hcs
      clear hne hget
      go_enter Tryd.func45, Tryd.ntmps45
      go_wp2_with fail
      refine HG0.out.mono ?_
      rintro en w1 ⟨rfl, rfl⟩
      clear HG0
      go_wp2_with fail
      refine HG.out.mono ?_
      rintro en w2 ⟨rfl, rfl⟩
      rcases hcs with ⟨e, he, hr, ho⟩ | ⟨x, to, hr, hto, htl, hx, ho⟩
      · rw [hr]
        have HO := Lib.hid ho
        have heb : ((e : Int) == 0) = false := by rw [beq_eq_false_iff_ne]; omega
        clear hr ho HG
        go_wp2_with fail
        go_ret3
        exact ⟨by rw [HO.out]; rfl, Below.refl _ _⟩
      · rw [hr]
        have HO := Lib.hid ho
        clear hr ho HG
        by_cases hgt : B.length - to < x
        · rw [if_pos (by omega)] at HO
          have HE := Lib.hid (get_bytes_eof (.slice p B.length c) B to x w2 H.out htl hz hgt)
          go_wp2_with fail
          refine HE.out.mono ?_
          rintro en w3 ⟨rfl, rfl⟩
          clear HE
          go_wp2_with fail
          go_ret3
          exact ⟨by rw [HO.out]; rfl, Below.refl _ _⟩
        · have HE := Lib.hid (get_bytes_ok (.slice p B.length c) B to x w2 H.out htl hz hgt)
          obtain ⟨A, hA⟩ : ∃ A, to + x = A := ⟨_, rfl⟩
          have hAl : A ≤ B.length := by omega
          rw [hA] at HE HO
          go_wp2_with fail
          refine HE.out.mono ?_
          rintro en w3 ⟨⟨p2, c2, rfl, hR⟩, rfl⟩
          have HR := Lib.hid hR
          clear HE hR
          by_cases h4 : B.length - A < 4
          · rw [if_pos (by omega)] at HO
            have HE := Lib.hid (get_bytes_eof (.slice p B.length c) B A 4 w3 H.out hAl hz h4)
            clear hgt hA
            go_wp2_with fail
            refine HE.out.mono ?_
            rintro en w4 ⟨rfl, rfl⟩
            clear HE
            go_wp2_with fail
            go_ret3
            exact ⟨by rw [HO.out]; rfl, Below.refl _ _⟩
          · rw [if_neg (by omega)] at HO
            have HE := Lib.hid (get_bytes_ok (.slice p B.length c) B A 4 w3 H.out hAl hz h4)
            obtain ⟨T, hTT⟩ : ∃ T, A + 4 = T := ⟨_, rfl⟩
            have HTl : Hid (a ≤ T ∧ T ≤ B.length ∧ ((B.take T).drop a).length = T - a) := by
              refine ⟨by omega, by omega, ?_⟩
              rw [List.length_drop, List.length_take, Nat.min_eq_left (by omega)]
            have HXl : Hid (((B.drop to).take x).length = x) := by show _ = _; rw [List.length_take, List.length_drop]; omega
            rw [hTT] at HE HO
            clear hgt hA hTT h4
            go_wp2_with fail
            refine HE.out.mono ?_
            rintro en w4 ⟨⟨p3, c3, rfl, hR3⟩, rfl⟩
            clear HE hR3
            go_wp2_with (refine wpList_fromTo Tryd.elemU8 _ _ _ a T _ H.out HTl.out.1 HTl.out.2.1 rfl _ _ _ rfl rfl rfl rfl ?_; intro p4 c4 h4)
            have HR4 : Hid (Rd w4 1 (.slice p4 (T - a) c4) ((B.take T).drop a).length (u8s ((B.take T).drop a))) := by
              show Rd _ _ _ _ _
              simp only [Nat.mul_one] at h4
              rw [HTl.out.2.2]
              simpa [u8s, List.map_drop, List.map_take] using h4
            have HK8 : Hid (∀ z ∈ (B.take T).drop a, z < 256) := fun z hzm => HB.out z (List.mem_of_mem_take (List.mem_of_mem_drop hzm))
            clear h4
            go_wp2_with fail
            refine (crc_check _ _ w4 HT.out HR4.out HK8.out).mono ?_
            rintro en w5 ⟨rfl, hBel⟩
            have HB5 := Lib.hid hBel
            have HR5 := Lib.hid (HR.out.below hBel)
            clear hBel HR4 HK8 HR
            cases hk : isCrc ((B.take T).drop a) with
            | false =>
              rw [hk] at HO
              simp only [Bool.false_eq_true, if_false] at HO
              clear hk
              go_wp2_with fail
              go_ret3
              exact ⟨by rw [HO.out]; rfl, HB5.out⟩
            | true =>
              rw [hk] at HO
              simp only [if_true] at HO
              clear hk
              go_wp2_with fail
              go_ret3
              refine ⟨?_, HB5.out⟩
              rw [HO.out]
              show ∃ p c, _ ∧ _
              rw [HXl.out]
              exact ⟨_, _, rfl, HR5.out⟩
    · have HO := Lib.hid (outSection_other hget hne)
      have hne' : ¬ ((B[a] : Nat) : Int) = (id : Int) := by omega
      clear hget
      generalize B[a] = y at *
      go_enter Tryd.func45, Tryd.ntmps45
      go_wp2_with fail
      refine HG0.out.mono ?_
      rintro en w1 ⟨rfl, rfl⟩
      go_wp2_with fail
      go_ret3
      exact ⟨by rw [HO.out]; rfl, Below.refl _ _⟩
end Go.Proofs.YtkgghlhmgolfbaaDoor
