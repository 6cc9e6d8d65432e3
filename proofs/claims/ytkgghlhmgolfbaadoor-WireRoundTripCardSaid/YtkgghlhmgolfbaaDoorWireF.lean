/- Layer 4: the program's reader: NewReader, Byte, Uint, Take, String, Section; with an error; of nil. -/
import Derived.Test.YtkgghlhmgolfbaaDoorWireD
import Derived.Test.YtkgghlhmgolfbaaDoorWireE
import Derived.Test.YtkgghlhmgolfbaaDoorWireI
set_option linter.unusedVariables false
namespace Go.Proofs.YtkgghlhmgolfbaaDoor
open Go Go.RowKit

theorem rd_new (v : Value) (B : List Nat) (w : World) (h : Rd w 1 v B.length (u8s B)) (hz : B.length ≤ 140737488355000) :
    Calls Tryd.prog 16 #[v] w fun en w' => ∃ p vr, en = .returned (.pointer (some ⟨p, 0, none⟩)) ∧ RRd w' p vr B 0 0 ∧ w.heap.size ≤ p ∧ (∀ k, vr.ownBlock = some k → w.heap.size ≤ k ∧ k < w'.heap.size) ∧ Below w.heap.size w w' := by
  have H := Lib.hid h
  obtain ⟨q, c, hv⟩ := h.shape
  subst hv
  have HL : Hid (B.length ≤ 140737488355328) := by show _ ≤ _; omega
  clear h
  go_enter Tryd.func16, Tryd.ntmps16
  go_wp2_with fail
  refine (bytes_clone _ B.length _ w H.out (u8s_oneCell _) HL.out).mono ?_
  rintro en w1 ⟨r, rfl, hM⟩
  have HB := Lib.hid hM.2
  have HM := Lib.hid hM.1
  obtain ⟨p3, c3, hr⟩ := (Rd.of_owns hM.1).shape
  subst hr
  clear hM
  go_wp2_with fail
  go_ret
  have hs := HB.out.size
  have hb : Below w.heap.size w1 (w1.alloc (.cells #[.slice p3 B.length c3, .int .i64 0, .int .i64 0] 65)) := (Below.refl _ _).alloc hs _
  refine ⟨w1.heap.size, _, rfl, ⟨Blk.new w1 _ _, ?_, fun k hk => ?_⟩, hs, fun k hk => ⟨(HM.out.lt k hk).1, by have := (HM.out.lt k hk).2; simp; omega⟩, HB.out.trans hb⟩
  · exact (Rd.of_owns HM.out).below ((Below.refl _ _).alloc (Nat.le_refl _) _)
  · have := (HM.out.lt k hk).2; omega

theorem rd_byte (q : Nat) (v : Value) (B : List Nat) (a : Nat) (w : World) (h : RRd w q v B a 0) (ha : a ≤ B.length) (hz : B.length ≤ 140737488355000) :
    Calls Tryd.prog 26 #[.pointer (some ⟨q, 0, none⟩)] w fun en w' => Mods (fun k => k = q) w w' ∧ Got (outByte B a) (fun c => .int .u8 (c : Int)) (.int .u8 0) (fun b e => RRd w' q v B b e) a en := by
  have HG := Lib.hid (read_byte (outByte B a) (fun _ => outByte_ne) q v B a w h (fun n => get_byte v B a _ (h.drewN n).rd ha hz))
  clear h
  cases ho : outByte B a with
  | bad e =>
    rw [ho] at HG
    clear ho
    go_enter Tryd.func26, Tryd.ntmps26
    go_wp2_with fail
    refine HG.out.mono ?_
    rintro en w1 ⟨hM, rfl, hR⟩
    have HM := Lib.hid hM
    have HR := Lib.hid hR
    clear hM hR HG
    go_wp2_with fail
    go_ret
    exact ⟨HM.out, rfl, HR.out⟩
  | ok y b =>
    rw [ho] at HG
    clear ho
    go_enter Tryd.func26, Tryd.ntmps26
    go_wp2_with fail
    refine HG.out.mono ?_
    rintro en w1 ⟨hM, rfl, hR⟩
    have HM := Lib.hid hM
    have HR := Lib.hid hR
    clear hM hR HG
    go_wp2_with fail
    go_ret
    exact ⟨HM.out, rfl, HR.out⟩
theorem rd_byte_err (q : Nat) (v : Value) (B : List Nat) (a : Nat) (e : Int) (he : e ≠ 0) (w : World) (h : RRd w q v B a e) :
    Calls Tryd.prog 26 #[.pointer (some ⟨q, 0, none⟩)] w fun en w' => en = .returned (.int .u8 0) ∧ w' = w := by
  have HG := Lib.hid (read_byte_err (.func (.func 47) #[] #[]) q v B a e he w h)
  clear h
  go_enter Tryd.func26, Tryd.ntmps26
  go_wp2_with fail
  refine HG.out.mono ?_
  rintro en w1 ⟨rfl, rfl⟩
  go_wp2_with fail
  go_ret
  exact ⟨rfl, rfl⟩
theorem nil_byte (w : World) : Calls Tryd.prog 26 #[.pointer none] w fun en w' => en = .returned (.int .u8 0) ∧ Below w.heap.size w w' := by
  have HG := Lib.hid (read_byte_nil (.func (.func 47) #[] #[]) w)
  go_enter Tryd.func26, Tryd.ntmps26
  go_wp2_with fail
  refine HG.out.mono ?_
  rintro en w1 ⟨rfl, rfl⟩
  go_wp2_with fail
  go_ret
  exact ⟨rfl, Below.refl _ _⟩

set_option maxHeartbeats 1000000 in
theorem rd_uint (q : Nat) (v : Value) (B : List Nat) (a : Nat) (most : Nat) (w : World) (h : RRd w q v B a 0) (hB : ∀ c ∈ B, c < 256) (ha : a ≤ B.length) (hz : B.length ≤ 140737488355000) :
    Calls Tryd.prog 28 #[.pointer (some ⟨q, 0, none⟩), .int .u64 (most : Int)] w fun en w' => Mods (fun k => k = q) w w' ∧ Got (outUint B a most) (fun c => .int .u64 (c : Int)) (.int .u64 0) (fun b e => RRd w' q v B b e) a en := by
  have HB0 : Hid (Below w.heap.size w (w.alloc (.cells #[.int .u64 (most : Int)] 39))) := (Below.refl _ _).alloc (Nat.le_refl _) _
  have HR0 := Lib.hid (h.below HB0.out)
  have hsz : (w.alloc (.cells #[.int .u64 (most : Int)] 39)).heap.size = w.heap.size + 1 := by simp
  have HC : Hid ((w.alloc (.cells #[.int .u64 (most : Int)] 39)).cell? ⟨w.heap.size, 0, none⟩ = some (.int .u64 (most : Int))) := (Blk.new w _ _).cell 0
  have HG := Lib.hid (read_uint w.heap.size (outUint B a most) (fun _ => outUint_ne) q v B a _ HR0.out (fun n => lit_uint v B a most w.heap.size _ (HR0.out.drewN n).rd hB ha HC.out))
  have HM0 : Hid (Mods (fun k => k = q) w (w.alloc (.cells #[.int .u64 (most : Int)] 39))) := Mods.of_below HB0.out _
  have HS0 := Lib.hid hsz
  clear h hB HC hsz
  cases ho : outUint B a most with
  | bad e =>
    rw [ho] at HG
    clear ho
    go_enter Tryd.func28, Tryd.ntmps28
    go_wp2_with fail
    refine HG.out.mono ?_
    rintro en w1 ⟨hM, rfl, hR⟩
    have HM := Lib.hid (HM0.out.trans hM (fun _ _ e => e))
    have HR := Lib.hid hR
    clear hM hR HG
    go_wp2_with fail
    go_ret
    exact ⟨HM.out, rfl, HR.out⟩
  | ok y b =>
    rw [ho] at HG
    clear ho
    go_enter Tryd.func28, Tryd.ntmps28
    go_wp2_with fail
    refine HG.out.mono ?_
    rintro en w1 ⟨hM, rfl, hR⟩
    have HM := Lib.hid (HM0.out.trans hM (fun _ _ e => e))
    have HR := Lib.hid hR
    clear hM hR HG
    go_wp2_with fail
    go_ret
    exact ⟨HM.out, rfl, HR.out⟩
theorem rd_uint_err (q : Nat) (v : Value) (B : List Nat) (a : Nat) (most : Nat) (e : Int) (he : e ≠ 0) (w : World) (h : RRd w q v B a e) :
    Calls Tryd.prog 28 #[.pointer (some ⟨q, 0, none⟩), .int .u64 (most : Int)] w fun en w' => en = .returned (.int .u64 0) ∧ Below w.heap.size w w' := by
  have HB0 : Hid (Below w.heap.size w (w.alloc (.cells #[.int .u64 (most : Int)] 39))) := (Below.refl _ _).alloc (Nat.le_refl _) _
  have HG := Lib.hid (read_uint_err (.func (.func 49) #[] #[.pointer (some ⟨w.heap.size, 0, none⟩)]) q v B a e he _ (h.below HB0.out))
  clear h
  go_enter Tryd.func28, Tryd.ntmps28
  go_wp2_with fail
  refine HG.out.mono ?_
  rintro en w1 ⟨rfl, rfl⟩
  go_wp2_with fail
  go_ret
  exact ⟨rfl, HB0.out⟩
theorem nil_uint (most : Nat) (w : World) : Calls Tryd.prog 28 #[.pointer none, .int .u64 (most : Int)] w fun en w' => en = .returned (.int .u64 0) ∧ Below w.heap.size w w' := by
  have HB0 : Hid (Below w.heap.size w (w.alloc (.cells #[.int .u64 (most : Int)] 39))) := (Below.refl _ _).alloc (Nat.le_refl _) _
  have HG := Lib.hid (read_uint_nil (.func (.func 49) #[] #[.pointer (some ⟨w.heap.size, 0, none⟩)]) (w.alloc (.cells #[.int .u64 (most : Int)] 39)))
  go_enter Tryd.func28, Tryd.ntmps28
  go_wp2_with fail
  refine HG.out.mono ?_
  rintro en w1 ⟨rfl, rfl⟩
  go_wp2_with fail
  go_ret
  exact ⟨rfl, HB0.out⟩

set_option maxHeartbeats 1000000 in
theorem rd_string (q : Nat) (v : Value) (B : List Nat) (a : Nat) (n : Int) (w : World) (hn : -9223372036854775808 ≤ n ∧ n < 9223372036854775808) (h : RRd w q v B a 0) (hB : ∀ c ∈ B, c < 256) (ha : a ≤ B.length) (hz : B.length ≤ 140737488355000) :
    Calls Tryd.prog 21 #[.pointer (some ⟨q, 0, none⟩), .int .i64 n] w fun en w' => Mods (fun k => k = q) w w' ∧ Got (outString B a n) (fun l => .string (strOf l)) (.string ⟨#[]⟩) (fun b e => RRd w' q v B b e) a en := by
  have HB0 : Hid (Below w.heap.size w (w.alloc (.cells #[.int .i64 n] 3))) := (Below.refl _ _).alloc (Nat.le_refl _) _
  have HR0 := Lib.hid (h.below HB0.out)
  have hsz : (w.alloc (.cells #[.int .i64 n] 3)).heap.size = w.heap.size + 1 := by simp
  have HC : Hid ((w.alloc (.cells #[.int .i64 n] 3)).cell? ⟨w.heap.size, 0, none⟩ = some (.int .i64 n)) := (Blk.new w _ _).cell 0
  have HG := Lib.hid (read_string w.heap.size (outString B a n) (fun _ => outString_ne) q v B a _ HR0.out (fun m => lit_string v B a n w.heap.size _ (HR0.out.drewN m).rd hB ha hz hn HC.out))
  have HM0 : Hid (Mods (fun k => k = q) w (w.alloc (.cells #[.int .i64 n] 3))) := Mods.of_below HB0.out _
  have HS0 := Lib.hid hsz
  clear h hB HC hsz
  cases ho : outString B a n with
  | bad e =>
    rw [ho] at HG
    clear ho
    go_enter Tryd.func21, Tryd.ntmps21
    go_wp2_with fail
    refine HG.out.mono ?_
    rintro en w1 ⟨hM, rfl, hR⟩
    have HM := Lib.hid (HM0.out.trans hM (fun _ _ e => e))
    have HR := Lib.hid hR
    clear hM hR HG
    go_wp2_with fail
    go_ret
    exact ⟨HM.out, rfl, HR.out⟩
  | ok y b =>
    rw [ho] at HG
    clear ho
    go_enter Tryd.func21, Tryd.ntmps21
    go_wp2_with fail
    refine HG.out.mono ?_
    rintro en w1 ⟨hM, rfl, hR⟩
    have HM := Lib.hid (HM0.out.trans hM (fun _ _ e => e))
    have HR := Lib.hid hR
    clear hM hR HG
    go_wp2_with fail
    go_ret
    exact ⟨HM.out, rfl, HR.out⟩
theorem rd_string_err (q : Nat) (v : Value) (B : List Nat) (a : Nat) (n : Int) (e : Int) (he : e ≠ 0) (w : World) (h : RRd w q v B a e) :
    Calls Tryd.prog 21 #[.pointer (some ⟨q, 0, none⟩), .int .i64 n] w fun en w' => en = .returned (.string ⟨#[]⟩) ∧ Below w.heap.size w w' := by
  have HB0 : Hid (Below w.heap.size w (w.alloc (.cells #[.int .i64 n] 3))) := (Below.refl _ _).alloc (Nat.le_refl _) _
  have HG := Lib.hid (read_string_err (.func (.func 41) #[] #[.pointer (some ⟨w.heap.size, 0, none⟩)]) q v B a e he _ (h.below HB0.out))
  clear h
  go_enter Tryd.func21, Tryd.ntmps21
  go_wp2_with fail
  refine HG.out.mono ?_
  rintro en w1 ⟨rfl, rfl⟩
  go_wp2_with fail
  go_ret
  exact ⟨rfl, HB0.out⟩
theorem nil_string (n : Int) (w : World) : Calls Tryd.prog 21 #[.pointer none, .int .i64 n] w fun en w' => en = .returned (.string ⟨#[]⟩) ∧ Below w.heap.size w w' := by
  have HB0 : Hid (Below w.heap.size w (w.alloc (.cells #[.int .i64 n] 3))) := (Below.refl _ _).alloc (Nat.le_refl _) _
  have HG := Lib.hid (read_string_nil (.func (.func 41) #[] #[.pointer (some ⟨w.heap.size, 0, none⟩)]) (w.alloc (.cells #[.int .i64 n] 3)))
  go_enter Tryd.func21, Tryd.ntmps21
  go_wp2_with fail
  refine HG.out.mono ?_
  rintro en w1 ⟨rfl, rfl⟩
  go_wp2_with fail
  go_ret
  exact ⟨rfl, HB0.out⟩

set_option maxHeartbeats 1000000 in
theorem rd_take (q : Nat) (v : Value) (B : List Nat) (a : Nat) (n : Int) (w : World) (hn : -9223372036854775808 ≤ n ∧ n < 9223372036854775808) (h : RRd w q v B a 0) (hB : ∀ c ∈ B, c < 256) (ha : a ≤ B.length) (hz : B.length ≤ 140737488355000) :
    Calls Tryd.prog 29 #[.pointer (some ⟨q, 0, none⟩), .int .i64 n] w fun en w' => Mods (fun k => k = q) w w' ∧ GotS (outTake B a n) w w' (fun b e => RRd w' q v B b e) a en := by
  have HB0 : Hid (Below w.heap.size w (w.alloc (.cells #[.int .i64 n] 3))) := (Below.refl _ _).alloc (Nat.le_refl _) _
  have HR0 := Lib.hid (h.below HB0.out)
  have hsz : (w.alloc (.cells #[.int .i64 n] 3)).heap.size = w.heap.size + 1 := by simp
  have HC : Hid ((w.alloc (.cells #[.int .i64 n] 3)).cell? ⟨w.heap.size, 0, none⟩ = some (.int .i64 n)) := (Blk.new w _ _).cell 0
  have HG := Lib.hid (read_slice _ enter_take w.heap.size (outTake B a n) (fun _ => outTake_ne) q v B a _ HR0.out (fun w' hb => lit_take v B a n w.heap.size w' (HR0.out.below hb).rd ha hz hn ((hb.cell (by rw [hsz]; exact Nat.lt_succ_self _)).trans HC.out)))
  have HM0 : Hid (Mods (fun k => k = q) w (w.alloc (.cells #[.int .i64 n] 3))) := Mods.of_below HB0.out _
  have HS0 := Lib.hid hsz
  clear h hB HC hsz
  cases ho : outTake B a n with
  | bad e =>
    rw [ho] at HG
    clear ho
    go_enter Tryd.func29, Tryd.ntmps29
    go_wp2_with fail
    refine HG.out.mono ?_
    rintro en w1 ⟨hM, rfl, hR⟩
    have HM := Lib.hid (HM0.out.trans hM (fun _ _ e => e))
    have HR := Lib.hid hR
    clear hM hR HG
    go_wp2_with fail
    go_ret
    exact ⟨HM.out, rfl, HR.out⟩
  | ok y b =>
    rw [ho] at HG
    clear ho
    go_enter Tryd.func29, Tryd.ntmps29
    go_wp2_with fail
    refine HG.out.mono ?_
    rintro en w1 ⟨hM, ⟨r, rfl, hO⟩, hR⟩
    have HM := Lib.hid (HM0.out.trans hM (fun _ _ e => e))
    have HR := Lib.hid hR
    have HO := Lib.hid (owns_rebase hO (base' := w.heap.size) (fun k hk => by have := (hO.lt k hk).1; have := HS0.out; omega))
    obtain ⟨p3, c3, hr⟩ := (Rd.of_owns hO).shape
    subst hr
    clear hM hR HG hO
    go_wp2_with fail
    go_ret
    exact ⟨HM.out, ⟨_, rfl, HO.out⟩, HR.out⟩
theorem rd_take_err (q : Nat) (v : Value) (B : List Nat) (a : Nat) (n : Int) (e : Int) (he : e ≠ 0) (w : World) (h : RRd w q v B a e) :
    Calls Tryd.prog 29 #[.pointer (some ⟨q, 0, none⟩), .int .i64 n] w fun en w' => en = .returned (.slice none 0 0) ∧ Below w.heap.size w w' := by
  have HB0 : Hid (Below w.heap.size w (w.alloc (.cells #[.int .i64 n] 3))) := (Below.refl _ _).alloc (Nat.le_refl _) _
  have HG := Lib.hid (read_slice_err (.func (.func 51) #[] #[.pointer (some ⟨w.heap.size, 0, none⟩)]) q v B a e he _ (h.below HB0.out))
  clear h
  go_enter Tryd.func29, Tryd.ntmps29
  go_wp2_with fail
  refine HG.out.mono ?_
  rintro en w1 ⟨rfl, rfl⟩
  go_wp2_with fail
  go_ret
  exact ⟨rfl, HB0.out⟩
theorem nil_take (n : Int) (w : World) : Calls Tryd.prog 29 #[.pointer none, .int .i64 n] w fun en w' => en = .returned (.slice none 0 0) ∧ Below w.heap.size w w' := by
  have HB0 : Hid (Below w.heap.size w (w.alloc (.cells #[.int .i64 n] 3))) := (Below.refl _ _).alloc (Nat.le_refl _) _
  have HG := Lib.hid (read_slice_nil (.func (.func 51) #[] #[.pointer (some ⟨w.heap.size, 0, none⟩)]) (w.alloc (.cells #[.int .i64 n] 3)))
  go_enter Tryd.func29, Tryd.ntmps29
  go_wp2_with fail
  refine HG.out.mono ?_
  rintro en w1 ⟨rfl, rfl⟩
  go_wp2_with fail
  go_ret
  exact ⟨rfl, HB0.out⟩

set_option maxHeartbeats 1000000 in
theorem rd_section (q : Nat) (v : Value) (B : List Nat) (a : Nat) (id : Nat) (w : World) (hT : Tab w) (hid : id < 256) (h : RRd w q v B a 0) (hB : ∀ c ∈ B, c < 256) (ha : a ≤ B.length) (hz : B.length ≤ 140737488355000) :
    Calls Tryd.prog 22 #[.pointer (some ⟨q, 0, none⟩), .int .u8 (id : Int)] w fun en w' => Mods (fun k => k = q) w w' ∧ GotS (outSection B a id) w w' (fun b e => RRd w' q v B b e) a en := by
  have HB0 : Hid (Below w.heap.size w (w.alloc (.cells #[.int .u8 (id : Int)] 5))) := (Below.refl _ _).alloc (Nat.le_refl _) _
  have HR0 := Lib.hid (h.below HB0.out)
  have hsz : (w.alloc (.cells #[.int .u8 (id : Int)] 5)).heap.size = w.heap.size + 1 := by simp
  have HC : Hid ((w.alloc (.cells #[.int .u8 (id : Int)] 5)).cell? ⟨w.heap.size, 0, none⟩ = some (.int .u8 (id : Int))) := (Blk.new w _ _).cell 0
  have HG := Lib.hid (read_slice _ enter_section w.heap.size (outSection B a id) (fun _ => outSection_ne) q v B a _ HR0.out (fun w' hb => lit_section v B a id w.heap.size w' ((hT.below HB0.out (Nat.le_refl _)).below hb (Nat.le_refl _)) (HR0.out.below hb).rd hB ha hz hid ((hb.cell (by rw [hsz]; exact Nat.lt_succ_self _)).trans HC.out)))
  have HM0 : Hid (Mods (fun k => k = q) w (w.alloc (.cells #[.int .u8 (id : Int)] 5))) := Mods.of_below HB0.out _
  have HS0 := Lib.hid hsz
  clear h hB HC hsz hT
  cases ho : outSection B a id with
  | bad e =>
    rw [ho] at HG
    clear ho
    go_enter Tryd.func22, Tryd.ntmps22
    go_wp2_with fail
    refine HG.out.mono ?_
    rintro en w1 ⟨hM, rfl, hR⟩
    have HM := Lib.hid (HM0.out.trans hM (fun _ _ e => e))
    have HR := Lib.hid hR
    clear hM hR HG
    go_wp2_with fail
    go_ret
    exact ⟨HM.out, rfl, HR.out⟩
  | ok y b =>
    rw [ho] at HG
    clear ho
    go_enter Tryd.func22, Tryd.ntmps22
    go_wp2_with fail
    refine HG.out.mono ?_
    rintro en w1 ⟨hM, ⟨r, rfl, hO⟩, hR⟩
    have HM := Lib.hid (HM0.out.trans hM (fun _ _ e => e))
    have HR := Lib.hid hR
    have HO := Lib.hid (owns_rebase hO (base' := w.heap.size) (fun k hk => by have := (hO.lt k hk).1; have := HS0.out; omega))
    obtain ⟨p3, c3, hr⟩ := (Rd.of_owns hO).shape
    subst hr
    clear hM hR HG hO
    go_wp2_with fail
    go_ret
    exact ⟨HM.out, ⟨_, rfl, HO.out⟩, HR.out⟩
theorem rd_section_err (q : Nat) (v : Value) (B : List Nat) (a : Nat) (id : Nat) (e : Int) (he : e ≠ 0) (w : World) (h : RRd w q v B a e) :
    Calls Tryd.prog 22 #[.pointer (some ⟨q, 0, none⟩), .int .u8 (id : Int)] w fun en w' => en = .returned (.slice none 0 0) ∧ Below w.heap.size w w' := by
  have HB0 : Hid (Below w.heap.size w (w.alloc (.cells #[.int .u8 (id : Int)] 5))) := (Below.refl _ _).alloc (Nat.le_refl _) _
  have HG := Lib.hid (read_slice_err (.func (.func 44) #[] #[.pointer (some ⟨w.heap.size, 0, none⟩)]) q v B a e he _ (h.below HB0.out))
  clear h
  go_enter Tryd.func22, Tryd.ntmps22
  go_wp2_with fail
  refine HG.out.mono ?_
  rintro en w1 ⟨rfl, rfl⟩
  go_wp2_with fail
  go_ret
  exact ⟨rfl, HB0.out⟩
theorem nil_section (id : Nat) (w : World) : Calls Tryd.prog 22 #[.pointer none, .int .u8 (id : Int)] w fun en w' => en = .returned (.slice none 0 0) ∧ Below w.heap.size w w' := by
  have HB0 : Hid (Below w.heap.size w (w.alloc (.cells #[.int .u8 (id : Int)] 5))) := (Below.refl _ _).alloc (Nat.le_refl _) _
  have HG := Lib.hid (read_slice_nil (.func (.func 44) #[] #[.pointer (some ⟨w.heap.size, 0, none⟩)]) (w.alloc (.cells #[.int .u8 (id : Int)] 5)))
  go_enter Tryd.func22, Tryd.ntmps22
  go_wp2_with fail
  refine HG.out.mono ?_
  rintro en w1 ⟨rfl, rfl⟩
  go_wp2_with fail
  go_ret
  exact ⟨rfl, HB0.out⟩
end Go.Proofs.YtkgghlhmgolfbaaDoor
