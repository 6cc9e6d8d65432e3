/- Layer 4: 'read' of a byte, a number, a string; of a reader with an error, and of nil. -/
import Derived.Test.YtkgghlhmgolfbaaDoorWireB
import Derived.Test.YtkgghlhmgolfbaaDoorWireA
set_option linter.unusedVariables false
namespace Go.Proofs.YtkgghlhmgolfbaaDoor
open Go Go.RowKit

theorem outByte_ne {B : List Nat} {a e : Nat} (h : outByte B a = .bad e) : e ≠ 0 := by
  rw [outByte] at h
  split at h
  · cases h
  · cases h; decide
theorem outUint_ne {B : List Nat} {a most e : Nat} (h : outUint B a most = .bad e) : e ≠ 0 := by
  rw [outUint] at h
  split at h
  · split at h
    · cases h; decide
    · cases h
  · cases h; omega
theorem outTake_ne {B : List Nat} {a : Nat} {n : Int} {e : Nat} (h : outTake B a n = .bad e) : e ≠ 0 := by
  rw [outTake] at h
  split at h
  · cases h; decide
  · split at h
    · cases h; decide
    · cases h
theorem outString_ne {B : List Nat} {a : Nat} {n : Int} {e : Nat} (h : outString B a n = .bad e) : e ≠ 0 := by
  rw [outString] at h
  split at h
  · split at h
    · cases h; decide
    · split at h
      · cases h; decide
      · cases h
  · cases h; omega
theorem outSection_ne {B : List Nat} {a id e : Nat} (h : outSection B a id = .bad e) : e ≠ 0 := by
  rw [outSection] at h
  split at h
  · cases h; decide
  · split at h
    · cases h; decide
    · split at h
      · split at h
        · cases h; decide
        · split at h
          · cases h
          · cases h; decide
      · cases h; omega

theorem lit_uint (v : Value) (B : List Nat) (a most : Nat) (x : Nat) (w : World) (h : Rd w 1 v B.length (u8s B)) (hB : ∀ c ∈ B, c < 256) (ha : a ≤ B.length) (hx : w.cell? ⟨x, 0, none⟩ = some (.int .u64 (most : Int))) :
    Calls Tryd.prog 49 #[v, .int .i64 (a : Int), .pointer (some ⟨x, 0, none⟩)] w fun en w' => en = .returned (Tup (outUint B a most) (fun c => .int .u64 (c : Int)) (.int .u64 0)) ∧ w' = w := by
  have HG := Lib.hid (get_uint v B a most w h hB ha)
  obtain ⟨p, c, hv⟩ := h.shape
  subst hv
  clear h hB
  generalize outUint B a most = o at *
  cases o with
  | bad e =>
    go_enter Tryd.func49, Tryd.ntmps49
    go_wp2_with fail
    refine HG.out.mono ?_
    rintro en w1 ⟨rfl, rfl⟩
    unfold Tup
    go_wp2_with fail
    go_ret3
    exact ⟨rfl, rfl⟩
  | ok y b =>
    go_enter Tryd.func49, Tryd.ntmps49
    go_wp2_with fail
    refine HG.out.mono ?_
    rintro en w1 ⟨rfl, rfl⟩
    unfold Tup
    go_wp2_with fail
    go_ret3
    exact ⟨rfl, rfl⟩
theorem lit_string (v : Value) (B : List Nat) (a : Nat) (most : Int) (x : Nat) (w : World) (h : Rd w 1 v B.length (u8s B)) (hB : ∀ c ∈ B, c < 256) (ha : a ≤ B.length) (hz : B.length ≤ 140737488355000) (hn : -9223372036854775808 ≤ most ∧ most < 9223372036854775808) (hx : w.cell? ⟨x, 0, none⟩ = some (.int .i64 most)) :
    Calls Tryd.prog 41 #[v, .int .i64 (a : Int), .pointer (some ⟨x, 0, none⟩)] w fun en w' => en = .returned (Tup (outString B a most) (fun l => .string (strOf l)) (.string ⟨#[]⟩)) ∧ w' = w := by
  have HG := Lib.hid (get_string v B a most w h hB ha hz hn)
  obtain ⟨p, c, hv⟩ := h.shape
  subst hv
  clear h hB hn
  generalize outString B a most = o at *
  cases o with
  | bad e =>
    go_enter Tryd.func41, Tryd.ntmps41
    go_wp2_with fail
    refine HG.out.mono ?_
    rintro en w1 ⟨rfl, rfl⟩
    unfold Tup
    go_wp2_with fail
    go_ret3
    exact ⟨rfl, rfl⟩
  | ok y b =>
    go_enter Tryd.func41, Tryd.ntmps41
    go_wp2_with fail
    refine HG.out.mono ?_
    rintro en w1 ⟨rfl, rfl⟩
    unfold Tup
    go_wp2_with fail
    go_ret3
    exact ⟨rfl, rfl⟩

set_option maxHeartbeats 2000000 in
/-- 'read' of a byte. -/
theorem read_byte (o : Out Nat) (ho : ∀ e, o = .bad e → e ≠ 0) (q : Nat) (v : Value) (B : List Nat) (a : Nat) (w : World) (h : RRd w q v B a 0)
    (hget : ∀ n, Calls Tryd.prog 47 #[v, .int .i64 (a : Int)] (w.drewN n) fun en w' => en = .returned (Tup o (fun c => .int .u8 (c : Int)) (.int .u8 0)) ∧ w' = w.drewN n) :
    Calls Tryd.prog 46 #[.pointer (some ⟨q, 0, none⟩), .func (.func 47) #[] #[]] w fun en w' => Mods (fun k => k = q) w w' ∧ Got o (fun c => .int .u8 (c : Int)) (.int .u8 0) (fun b e => RRd w' q v B b e) a en := by
  have HE := Lib.hid (rd_err q v B a 0 w h)
  have H := Lib.hid h
  have HG := Lib.hid hget
  obtain ⟨c0, c1, c2, f1, f2⟩ := h.cells
  obtain ⟨p, c, hv⟩ := h.rd.shape
  subst hv
  clear h hget
  cases o with
  | bad e =>
    have he : e ≠ 0 := ho e rfl
    have heb : ((e : Int) == 0) = false := by rw [beq_eq_false_iff_ne]; omega
    unfold Tup at HG
    clear ho
    go_enter Tryd.func46, Tryd.ntmps46
    go_wp2_with fail
    refine HE.out.mono ?_
    rintro en w1 ⟨rfl, rfl⟩
    clear HE
    go_wp2_with fail
    go_quiet ((go_at_call 47; exact Calls.quiet_of_same (HG.out _)))
    have H1 := Lib.hid (H.out.drewN nq)
    have HM1 : Hid (Mods (fun k => k = q) w1 (w1.drewN nq)) := Mods.drewN _ _ _
    generalize w1.drewN nq = w2 at *
    clear HG H c0 c1 c2 f1 f2
    go_wp2_with fail
    refine (rd_fail q _ B a 0 (e : Int) _ H1.out).mono ?_
    rintro en w3 ⟨rfl, hR, hm⟩
    rw [if_pos rfl] at hR
    have HM := Lib.hid (HM1.out.trans hm (fun _ _ e => e))
    have HR := Lib.hid hR
    clear hR hm
    go_wp2_with fail
    go_ret
    exact ⟨HM.out, rfl, HR.out⟩
  | ok y b =>
    unfold Tup at HG
    clear ho
    go_enter Tryd.func46, Tryd.ntmps46
    go_wp2_with fail
    refine HE.out.mono ?_
    rintro en w1 ⟨rfl, rfl⟩
    clear HE
    go_wp2_with fail
    go_quiet ((go_at_call 47; exact Calls.quiet_of_same (HG.out _)))
    have H1 := Lib.hid (H.out.drewN nq)
    have HM1 : Hid (Mods (fun k => k = q) w1 (w1.drewN nq)) := Mods.drewN _ _ _
    obtain ⟨m0, m1, m2, g1, g2⟩ := H1.out.cells
    generalize w1.drewN nq = w2 at *
    clear HG H c0 c1 c2 f1 f2
    have HS := Lib.hid (H1.out.setAt b)
    have HSM : Hid (Mods (fun k => k = q) w1 (w2.setCell ⟨q, 1, none⟩ (.int .i64 (b : Int)))) := HM1.out.trans (mods_set _ q 1 _) (fun _ _ e => e)
    go_wp2_with fail
    go_ret
    exact ⟨HSM.out, rfl, HS.out⟩
set_option maxHeartbeats 2000000 in
/-- 'read' of a number. -/
theorem read_uint (x : Nat) (o : Out Nat) (ho : ∀ e, o = .bad e → e ≠ 0) (q : Nat) (v : Value) (B : List Nat) (a : Nat) (w : World) (h : RRd w q v B a 0)
    (hget : ∀ n, Calls Tryd.prog 49 #[v, .int .i64 (a : Int), .pointer (some ⟨x, 0, none⟩)] (w.drewN n) fun en w' => en = .returned (Tup o (fun c => .int .u64 (c : Int)) (.int .u64 0)) ∧ w' = w.drewN n) :
    Calls Tryd.prog 48 #[.pointer (some ⟨q, 0, none⟩), .func (.func 49) #[] #[.pointer (some ⟨x, 0, none⟩)]] w fun en w' => Mods (fun k => k = q) w w' ∧ Got o (fun c => .int .u64 (c : Int)) (.int .u64 0) (fun b e => RRd w' q v B b e) a en := by
  have HE := Lib.hid (rd_err q v B a 0 w h)
  have H := Lib.hid h
  have HG := Lib.hid hget
  obtain ⟨c0, c1, c2, f1, f2⟩ := h.cells
  obtain ⟨p, c, hv⟩ := h.rd.shape
  subst hv
  clear h hget
  cases o with
  | bad e =>
    have he : e ≠ 0 := ho e rfl
    have heb : ((e : Int) == 0) = false := by rw [beq_eq_false_iff_ne]; omega
    unfold Tup at HG
    clear ho
    go_enter Tryd.func48, Tryd.ntmps48
    go_wp2_with fail
    refine HE.out.mono ?_
    rintro en w1 ⟨rfl, rfl⟩
    clear HE
    go_wp2_with fail
    go_quiet ((go_at_call 49; exact Calls.quiet_of_same (HG.out _)))
    have H1 := Lib.hid (H.out.drewN nq)
    have HM1 : Hid (Mods (fun k => k = q) w1 (w1.drewN nq)) := Mods.drewN _ _ _
    generalize w1.drewN nq = w2 at *
    clear HG H c0 c1 c2 f1 f2
    go_wp2_with fail
    refine (rd_fail q _ B a 0 (e : Int) _ H1.out).mono ?_
    rintro en w3 ⟨rfl, hR, hm⟩
    rw [if_pos rfl] at hR
    have HM := Lib.hid (HM1.out.trans hm (fun _ _ e => e))
    have HR := Lib.hid hR
    clear hR hm
    go_wp2_with fail
    go_ret
    exact ⟨HM.out, rfl, HR.out⟩
  | ok y b =>
    unfold Tup at HG
    clear ho
    go_enter Tryd.func48, Tryd.ntmps48
    go_wp2_with fail
    refine HE.out.mono ?_
    rintro en w1 ⟨rfl, rfl⟩
    clear HE
    go_wp2_with fail
    go_quiet ((go_at_call 49; exact Calls.quiet_of_same (HG.out _)))
    have H1 := Lib.hid (H.out.drewN nq)
    have HM1 : Hid (Mods (fun k => k = q) w1 (w1.drewN nq)) := Mods.drewN _ _ _
    obtain ⟨m0, m1, m2, g1, g2⟩ := H1.out.cells
    generalize w1.drewN nq = w2 at *
    clear HG H c0 c1 c2 f1 f2
    have HS := Lib.hid (H1.out.setAt b)
    have HSM : Hid (Mods (fun k => k = q) w1 (w2.setCell ⟨q, 1, none⟩ (.int .i64 (b : Int)))) := HM1.out.trans (mods_set _ q 1 _) (fun _ _ e => e)
    go_wp2_with fail
    go_ret
    exact ⟨HSM.out, rfl, HS.out⟩
set_option maxHeartbeats 2000000 in
/-- 'read' of a string. -/
theorem read_string (x : Nat) (o : Out (List Nat)) (ho : ∀ e, o = .bad e → e ≠ 0) (q : Nat) (v : Value) (B : List Nat) (a : Nat) (w : World) (h : RRd w q v B a 0)
    (hget : ∀ n, Calls Tryd.prog 41 #[v, .int .i64 (a : Int), .pointer (some ⟨x, 0, none⟩)] (w.drewN n) fun en w' => en = .returned (Tup o (fun l => .string (strOf l)) (.string ⟨#[]⟩)) ∧ w' = w.drewN n) :
    Calls Tryd.prog 40 #[.pointer (some ⟨q, 0, none⟩), .func (.func 41) #[] #[.pointer (some ⟨x, 0, none⟩)]] w fun en w' => Mods (fun k => k = q) w w' ∧ Got o (fun l => .string (strOf l)) (.string ⟨#[]⟩) (fun b e => RRd w' q v B b e) a en := by
  have HE := Lib.hid (rd_err q v B a 0 w h)
  have H := Lib.hid h
  have HG := Lib.hid hget
  obtain ⟨c0, c1, c2, f1, f2⟩ := h.cells
  obtain ⟨p, c, hv⟩ := h.rd.shape
  subst hv
  clear h hget
  cases o with
  | bad e =>
    have he : e ≠ 0 := ho e rfl
    have heb : ((e : Int) == 0) = false := by rw [beq_eq_false_iff_ne]; omega
    unfold Tup at HG
    clear ho
    go_enter Tryd.func40, Tryd.ntmps40
    go_wp2_with fail
    refine HE.out.mono ?_
    rintro en w1 ⟨rfl, rfl⟩
    clear HE
    go_wp2_with fail
    go_quiet ((go_at_call 41; exact Calls.quiet_of_same (HG.out _)))
    have H1 := Lib.hid (H.out.drewN nq)
    have HM1 : Hid (Mods (fun k => k = q) w1 (w1.drewN nq)) := Mods.drewN _ _ _
    generalize w1.drewN nq = w2 at *
    clear HG H c0 c1 c2 f1 f2
    go_wp2_with fail
    refine (rd_fail q _ B a 0 (e : Int) _ H1.out).mono ?_
    rintro en w3 ⟨rfl, hR, hm⟩
    rw [if_pos rfl] at hR
    have HM := Lib.hid (HM1.out.trans hm (fun _ _ e => e))
    have HR := Lib.hid hR
    clear hR hm
    go_wp2_with fail
    go_ret
    exact ⟨HM.out, rfl, HR.out⟩
  | ok y b =>
    unfold Tup at HG
    clear ho
    go_enter Tryd.func40, Tryd.ntmps40
    go_wp2_with fail
    refine HE.out.mono ?_
    rintro en w1 ⟨rfl, rfl⟩
    clear HE
    go_wp2_with fail
    go_quiet ((go_at_call 41; exact Calls.quiet_of_same (HG.out _)))
    have H1 := Lib.hid (H.out.drewN nq)
    have HM1 : Hid (Mods (fun k => k = q) w1 (w1.drewN nq)) := Mods.drewN _ _ _
    obtain ⟨m0, m1, m2, g1, g2⟩ := H1.out.cells
    generalize w1.drewN nq = w2 at *
    clear HG H c0 c1 c2 f1 f2
    have HS := Lib.hid (H1.out.setAt b)
    have HSM : Hid (Mods (fun k => k = q) w1 (w2.setCell ⟨q, 1, none⟩ (.int .i64 (b : Int)))) := HM1.out.trans (mods_set _ q 1 _) (fun _ _ e => e)
    go_wp2_with fail
    go_ret
    exact ⟨HSM.out, rfl, HS.out⟩

theorem read_byte_err (g : Value) (q : Nat) (v : Value) (B : List Nat) (a : Nat) (e : Int) (he : e ≠ 0) (w : World) (h : RRd w q v B a e) :
    Calls Tryd.prog 46 #[.pointer (some ⟨q, 0, none⟩), g] w fun en w' => en = .returned (.int .u8 0) ∧ w' = w := by
  have HE := Lib.hid (rd_err q v B a e w h)
  have heb : (e == 0) = false := by rw [beq_eq_false_iff_ne]; exact he
  clear h
  go_enter Tryd.func46, Tryd.ntmps46
  go_wp2_with fail
  refine HE.out.mono ?_
  rintro en w1 ⟨rfl, rfl⟩
  go_wp2_with fail
  go_ret
  exact ⟨rfl, rfl⟩
theorem read_byte_nil (g : Value) (w : World) :
    Calls Tryd.prog 46 #[.pointer none, g] w fun en w' => en = .returned (.int .u8 0) ∧ w' = w := by
  have HE := Lib.hid (nil_err w)
  go_enter Tryd.func46, Tryd.ntmps46
  go_wp2_with fail
  refine HE.out.mono ?_
  rintro en w1 ⟨rfl, rfl⟩
  go_wp2_with fail
  go_ret
  exact ⟨rfl, rfl⟩

theorem read_uint_err (g : Value) (q : Nat) (v : Value) (B : List Nat) (a : Nat) (e : Int) (he : e ≠ 0) (w : World) (h : RRd w q v B a e) :
    Calls Tryd.prog 48 #[.pointer (some ⟨q, 0, none⟩), g] w fun en w' => en = .returned (.int .u64 0) ∧ w' = w := by
  have HE := Lib.hid (rd_err q v B a e w h)
  have heb : (e == 0) = false := by rw [beq_eq_false_iff_ne]; exact he
  clear h
  go_enter Tryd.func48, Tryd.ntmps48
  go_wp2_with fail
  refine HE.out.mono ?_
  rintro en w1 ⟨rfl, rfl⟩
  go_wp2_with fail
  go_ret
  exact ⟨rfl, rfl⟩
theorem read_uint_nil (g : Value) (w : World) :
    Calls Tryd.prog 48 #[.pointer none, g] w fun en w' => en = .returned (.int .u64 0) ∧ w' = w := by
  have HE := Lib.hid (nil_err w)
  go_enter Tryd.func48, Tryd.ntmps48
  go_wp2_with fail
  refine HE.out.mono ?_
  rintro en w1 ⟨rfl, rfl⟩
  go_wp2_with fail
  go_ret
  exact ⟨rfl, rfl⟩

theorem read_string_err (g : Value) (q : Nat) (v : Value) (B : List Nat) (a : Nat) (e : Int) (he : e ≠ 0) (w : World) (h : RRd w q v B a e) :
    Calls Tryd.prog 40 #[.pointer (some ⟨q, 0, none⟩), g] w fun en w' => en = .returned (.string ⟨#[]⟩) ∧ w' = w := by
  have HE := Lib.hid (rd_err q v B a e w h)
  have heb : (e == 0) = false := by rw [beq_eq_false_iff_ne]; exact he
  clear h
  go_enter Tryd.func40, Tryd.ntmps40
  go_wp2_with fail
  refine HE.out.mono ?_
  rintro en w1 ⟨rfl, rfl⟩
  go_wp2_with fail
  go_ret
  exact ⟨rfl, rfl⟩
theorem read_string_nil (g : Value) (w : World) :
    Calls Tryd.prog 40 #[.pointer none, g] w fun en w' => en = .returned (.string ⟨#[]⟩) ∧ w' = w := by
  have HE := Lib.hid (nil_err w)
  go_enter Tryd.func40, Tryd.ntmps40
  go_wp2_with fail
  refine HE.out.mono ?_
  rintro en w1 ⟨rfl, rfl⟩
  go_wp2_with fail
  go_ret
  exact ⟨rfl, rfl⟩

theorem read_slice_err (g : Value) (q : Nat) (v : Value) (B : List Nat) (a : Nat) (e : Int) (he : e ≠ 0) (w : World) (h : RRd w q v B a e) :
    Calls Tryd.prog 43 #[.pointer (some ⟨q, 0, none⟩), g] w fun en w' => en = .returned (.slice none 0 0) ∧ w' = w := by
  have HE := Lib.hid (rd_err q v B a e w h)
  have heb : (e == 0) = false := by rw [beq_eq_false_iff_ne]; exact he
  clear h
  go_enter Tryd.func43, Tryd.ntmps43
  go_wp2_with fail
  refine HE.out.mono ?_
  rintro en w1 ⟨rfl, rfl⟩
  go_wp2_with fail
  go_ret
  exact ⟨rfl, rfl⟩
theorem read_slice_nil (g : Value) (w : World) :
    Calls Tryd.prog 43 #[.pointer none, g] w fun en w' => en = .returned (.slice none 0 0) ∧ w' = w := by
  have HE := Lib.hid (nil_err w)
  go_enter Tryd.func43, Tryd.ntmps43
  go_wp2_with fail
  refine HE.out.mono ?_
  rintro en w1 ⟨rfl, rfl⟩
  go_wp2_with fail
  go_ret
  exact ⟨rfl, rfl⟩
end Go.Proofs.YtkgghlhmgolfbaaDoor
