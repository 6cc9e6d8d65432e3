/- WireGb, WireGs, WireEs, WireFs, WireEnds, SyE, SyF, Iface10, Long10, in one text. -/
import Derived.Test.YteiffpninifjlaaMrg10
import Derived.Test.YteiffpninifjlaaMrg3
import Derived.Test.YteiffpninifjlaaMrg2
import Derived.Test.YteiffpninifjlaaMrg9
import Derived.Test.YteiffpninifjlaaMrg6

section
/- Layer 4: getBytes. -/
set_option linter.unusedVariables false
set_option maxRecDepth 20000
namespace Go.Proofs.Yteiffpninifjlaa
open Go Go.RowKit

theorem get_bytes_eof (v : Value) (B : List Nat) (a n : Nat) (w : World) (h : Rd w 1 v B.length (u8s B)) (ha : a ≤ B.length) (hz : B.length ≤ 140737488355000) (hn : B.length - a < n) :
    Calls Try.prog 78 #[v, .int .i64 (a : Int), .int .u64 (n : Int)] w fun en w' => en = .returned (.tuple #[.slice none 0 0, .int .i64 0, .int .i64 3]) ∧ w' = w := by
  obtain ⟨p, c, hv⟩ := h.shape
  subst hv
  have hw : IntKind.u64.wrap ((B.length : Int) - (a : Int)) = (B.length : Int) - (a : Int) := wrap_u64_small _ (by omega) (by omega)
  have hgt : (B.length : Int) - (a : Int) < (n : Int) := by omega
  clear h
  go_enter Try.func78, Try.ntmps78
  go_wp2_with fail
  go_ret3
  exact ⟨rfl, rfl⟩

theorem get_bytes_ok (v : Value) (B : List Nat) (a n : Nat) (w : World) (h : Rd w 1 v B.length (u8s B)) (ha : a ≤ B.length) (hz : B.length ≤ 140737488355000) (hn : ¬ B.length - a < n) :
    Calls Try.prog 78 #[v, .int .i64 (a : Int), .int .u64 (n : Int)] w fun en w' => (∃ p c, en = .returned (.tuple #[.slice p n c, .int .i64 ((a + n : Nat) : Int), .int .i64 0]) ∧ Rd w 1 (.slice p n c) n (u8s ((B.drop a).take n))) ∧ w' = w := by
  obtain ⟨p, c, hv⟩ := h.shape
  subst hv
  have hw : IntKind.u64.wrap ((B.length : Int) - (a : Int)) = (B.length : Int) - (a : Int) := wrap_u64_small _ (by omega) (by omega)
  have hgt : ¬ (B.length : Int) - (a : Int) < (n : Int) := by omega
  have hwn : IntKind.i64.wrap (n : Int) = (n : Int) := IntWalk.i64_in _ (by omega)
  obtain ⟨A, hA⟩ : ∃ A, a + n = A := ⟨_, rfl⟩
  have hA1 : (a : Int) + (n : Int) = (A : Int) := by omega
  have H := Lib.hid h
  have HAl : Hid (a ≤ A ∧ A ≤ B.length ∧ A - a = n) := by show _ ∧ _; omega
  have hAle : (A : Int) ≤ 9223372036854775807 := by omega
  clear h hn
  go_enter Try.func78, Try.ntmps78
  go_wp2_with (refine wpList_fromTo Try.elemU8 _ _ _ a A _ H.out HAl.out.1 HAl.out.2.1 rfl _ _ _ rfl rfl rfl rfl ?_; intro p2 c2 h2)
  have h3 := h2
  rw [HAl.out.2.2] at h3 ⊢
  have HR : Hid (Rd w 1 (.slice p2 n c2) n (u8s ((B.drop a).take n))) := by
    show Rd _ _ _ _ _
    simp only [Nat.mul_one] at h3
    rw [List.drop_take, HAl.out.2.2] at h3
    simpa [u8s, List.map_drop, List.map_take] using h3
  clear h2 h3
  go_wp2_with fail
  go_ret3
  exact ⟨⟨_, _, rfl, HR.out⟩, rfl⟩
end Go.Proofs.Yteiffpninifjlaa

end

section
/- Layer 4: getString. -/
set_option linter.unusedVariables false
set_option maxRecDepth 20000
namespace Go.Proofs.Yteiffpninifjlaa
open Go Go.RowKit

set_option maxHeartbeats 1000000 in
theorem get_string (v : Value) (B : List Nat) (a : Nat) (most : Int) (w : World) (h : Rd w 1 v B.length (u8s B)) (hB : ∀ c ∈ B, c < 256) (ha : a ≤ B.length) (hz : B.length ≤ 140737488355000) (hn : -9223372036854775808 ≤ most ∧ most < 9223372036854775808) :
    Calls Try.prog 67 #[v, .int .i64 (a : Int), .int .i64 most] w fun en w' => en = .returned (Tup (outString B a most) (fun l => .string (strOf l)) (.string ⟨#[]⟩)) ∧ w' = w := by
  obtain ⟨p, c, hv⟩ := h.shape
  subst hv
  have hcs := outString_cases hB ha most
  have HG := Lib.hid (calls_flip (get_any (.slice p B.length c) B (a : Int) w h hB))
  have H := Lib.hid h
  clear h hB
  go_enter Try.func67, Try.ntmps67
  go_wp2_with fail
  refine HG.out.mono ?_
  rintro en w1 ⟨rfl, rfl⟩
  rcases hcs with ⟨e, he, hr, ho⟩ | ⟨x, to, hr, hto, htl, hx, ho⟩
  · rw [hr]
    have HO := Lib.hid ho
    have heb : ((e : Int) == 0) = false := by rw [beq_eq_false_iff_ne]; omega
    clear hr ho HG
    go_wp2_with fail
    go_ret3
    exact ⟨by rw [HO.out]; rfl, rfl⟩
  · rw [hr]
    have HO := Lib.hid ho
    clear hr ho HG
    by_cases hneg : most < 0
    · rw [if_pos (Or.inl hneg)] at HO
      go_wp2_with fail
      go_ret3
      exact ⟨by rw [HO.out]; rfl, rfl⟩
    · obtain ⟨M, rfl⟩ : ∃ M : Nat, most = (M : Int) := ⟨most.toNat, by omega⟩
      have hwM : IntKind.u64.wrap (M : Int) = (M : Int) := wrap_u64_small _ (by omega) (by omega)
      have hM0 : ¬ (M : Int) < 0 := hneg
      by_cases hlt : M < x
      · have hlt' : (M : Int) < (x : Int) := by omega
        rw [if_pos (Or.inr hlt')] at HO
        clear hneg hn
        go_wp2_with fail
        go_ret3
        exact ⟨by rw [HO.out]; rfl, rfl⟩
      · have hlt' : ¬ (M : Int) < (x : Int) := by omega
        rw [if_neg (by omega)] at HO
        clear hneg hn
        by_cases hgt : B.length - to < x
        · rw [if_pos hgt] at HO
          have HE := Lib.hid (get_bytes_eof (.slice p B.length c) B to x w1 H.out htl hz hgt)
          have HN : Hid ((convert 33 9 (.slice none 0 0)).run Try.prog w1 = .ok (.string (strOf [])) w1) := (Rd.nil w1 1).conv (l := []) _ _ _ Try.underlying33 Try.underlying5 Try.underlying9
          go_wp2_with fail
          refine HE.out.mono ?_
          rintro en w2 ⟨rfl, rfl⟩
          have hN := HN.out
          go_wp2_with fail
          go_ret3
          exact ⟨by rw [HO.out]; rfl, rfl⟩
        · rw [if_neg hgt] at HO
          have HE := Lib.hid (get_bytes_ok (.slice p B.length c) B to x w1 H.out htl hz hgt)
          go_wp2_with fail
          refine HE.out.mono ?_
          rintro en w2 ⟨⟨p2, c2, rfl, hR⟩, rfl⟩
          have hN := hR.conv (P := Try.prog) 33 5 9 Try.underlying33 Try.underlying5 Try.underlying9
          clear hR HE H
          go_wp2_with fail
          go_ret3
          exact ⟨by rw [HO.out]; rfl, rfl⟩
end Go.Proofs.Yteiffpninifjlaa

end

section
/- Layer 4: read of a string. -/
set_option linter.unusedVariables false
set_option maxRecDepth 20000
namespace Go.Proofs.Yteiffpninifjlaa
open Go Go.RowKit

theorem lit_string (v : Value) (B : List Nat) (a : Nat) (most : Int) (x : Nat) (w : World) (h : Rd w 1 v B.length (u8s B)) (hB : ∀ c ∈ B, c < 256) (ha : a ≤ B.length) (hz : B.length ≤ 140737488355000) (hn : -9223372036854775808 ≤ most ∧ most < 9223372036854775808) (hx : w.cell? ⟨x, 0, none⟩ = some (.int .i64 most)) :
    Calls Try.prog 66 #[v, .int .i64 (a : Int), .pointer (some ⟨x, 0, none⟩)] w fun en w' => en = .returned (Tup (outString B a most) (fun l => .string (strOf l)) (.string ⟨#[]⟩)) ∧ w' = w := by
  have HG := Lib.hid (get_string v B a most w h hB ha hz hn)
  obtain ⟨p, c, hv⟩ := h.shape
  subst hv
  clear h hB hn
  generalize outString B a most = o at *
  cases o with
  | bad e =>
    go_enter Try.func66, Try.ntmps66
    go_wp2_with fail
    refine HG.out.mono ?_
    rintro en w1 ⟨rfl, rfl⟩
    unfold Tup
    go_wp2_with fail
    go_ret3
    exact ⟨rfl, rfl⟩
  | ok y b =>
    go_enter Try.func66, Try.ntmps66
    go_wp2_with fail
    refine HG.out.mono ?_
    rintro en w1 ⟨rfl, rfl⟩
    unfold Tup
    go_wp2_with fail
    go_ret3
    exact ⟨rfl, rfl⟩

set_option maxHeartbeats 2000000 in
/-- 'read' of a string. -/
theorem read_string (x : Nat) (o : Out (List Nat)) (ho : ∀ e, o = .bad e → e ≠ 0) (q : Nat) (v : Value) (B : List Nat) (a : Nat) (w : World) (h : RRd w q v B a 0)
    (hget : ∀ n, Calls Try.prog 66 #[v, .int .i64 (a : Int), .pointer (some ⟨x, 0, none⟩)] (w.drewN n) fun en w' => en = .returned (Tup o (fun l => .string (strOf l)) (.string ⟨#[]⟩)) ∧ w' = w.drewN n) :
    Calls Try.prog 65 #[.pointer (some ⟨q, 0, none⟩), .func (.func 66) #[] #[.pointer (some ⟨x, 0, none⟩)]] w fun en w' => Mods (fun k => k = q) w w' ∧ Got o (fun l => .string (strOf l)) (.string ⟨#[]⟩) (fun b e => RRd w' q v B b e) a en := by
  have HE := Lib.hid (rd_err q v B a 0 w h)
  have H := Lib.hid h
  have HG := Lib.hid hget
  obtain ⟨c0, c1, c2, f1, f2⟩ := h.cells
  obtain ⟨p, c, hv⟩ := h.rd.shape
  subst hv
  clear h hget
  cases o with
  | bad e =>
    have he : e ≠ 0 := ho e rfl
    have heb : ((e : Int) == 0) = false := by rw [beq_eq_false_iff_ne]; omega
    unfold Tup at HG
    clear ho
    go_enter Try.func65, Try.ntmps65
    go_wp2_with fail
    refine HE.out.mono ?_
    rintro en w1 ⟨rfl, rfl⟩
    clear HE
    go_wp2_with fail
    go_quiet ((go_at_call 66; exact Calls.quiet_of_same (HG.out _)))
    have H1 := Lib.hid (H.out.drewN nq)
    have HM1 : Hid (Mods (fun k => k = q) w1 (w1.drewN nq)) := Mods.drewN _ _ _
    generalize w1.drewN nq = w2 at *
    clear HG H c0 c1 c2 f1 f2
    go_wp2_with fail
    refine (rd_fail q _ B a 0 (e : Int) _ H1.out).mono ?_
    rintro en w3 ⟨rfl, hR, hm⟩
    rw [if_pos rfl] at hR
    have HM := Lib.hid (HM1.out.trans hm (fun _ _ e => e))
    have HR := Lib.hid hR
    clear hR hm
    go_wp2_with fail
    go_ret
    exact ⟨HM.out, rfl, HR.out⟩
  | ok y b =>
    unfold Tup at HG
    clear ho
    go_enter Try.func65, Try.ntmps65
    go_wp2_with fail
    refine HE.out.mono ?_
    rintro en w1 ⟨rfl, rfl⟩
    clear HE
    go_wp2_with fail
    go_quiet ((go_at_call 66; exact Calls.quiet_of_same (HG.out _)))
    have H1 := Lib.hid (H.out.drewN nq)
    have HM1 : Hid (Mods (fun k => k = q) w1 (w1.drewN nq)) := Mods.drewN _ _ _
    obtain ⟨m0, m1, m2, g1, g2⟩ := H1.out.cells
    generalize w1.drewN nq = w2 at *
    clear HG H c0 c1 c2 f1 f2
    have HS := Lib.hid (H1.out.setAt b)
    have HSM : Hid (Mods (fun k => k = q) w1 (w2.setCell ⟨q, 1, none⟩ (.int .i64 (b : Int)))) := HM1.out.trans (mods_set _ q 1 _) (fun _ _ e => e)
    go_wp2_with fail
    go_ret
    exact ⟨HSM.out, rfl, HS.out⟩

theorem read_string_err (g : Value) (q : Nat) (v : Value) (B : List Nat) (a : Nat) (e : Int) (he : e ≠ 0) (w : World) (h : RRd w q v B a e) :
    Calls Try.prog 65 #[.pointer (some ⟨q, 0, none⟩), g] w fun en w' => en = .returned (.string ⟨#[]⟩) ∧ w' = w := by
  have HE := Lib.hid (rd_err q v B a e w h)
  have heb : (e == 0) = false := by rw [beq_eq_false_iff_ne]; exact he
  clear h
  go_enter Try.func65, Try.ntmps65
  go_wp2_with fail
  refine HE.out.mono ?_
  rintro en w1 ⟨rfl, rfl⟩
  go_wp2_with fail
  go_ret
  exact ⟨rfl, rfl⟩

theorem read_string_nil (g : Value) (w : World) :
    Calls Try.prog 65 #[.pointer none, g] w fun en w' => en = .returned (.string ⟨#[]⟩) ∧ w' = w := by
  have HE := Lib.hid (nil_err w)
  go_enter Try.func65, Try.ntmps65
  go_wp2_with fail
  refine HE.out.mono ?_
  rintro en w1 ⟨rfl, rfl⟩
  go_wp2_with fail
  go_ret
  exact ⟨rfl, rfl⟩
end Go.Proofs.Yteiffpninifjlaa

end

section
/- Layer 4: String. -/
set_option linter.unusedVariables false
set_option maxRecDepth 20000
namespace Go.Proofs.Yteiffpninifjlaa
open Go Go.RowKit

set_option maxHeartbeats 1000000 in
theorem rd_string (q : Nat) (v : Value) (B : List Nat) (a : Nat) (n : Int) (w : World) (hn : -9223372036854775808 ≤ n ∧ n < 9223372036854775808) (h : RRd w q v B a 0) (hB : ∀ c ∈ B, c < 256) (ha : a ≤ B.length) (hz : B.length ≤ 140737488355000) :
    Calls Try.prog 56 #[.pointer (some ⟨q, 0, none⟩), .int .i64 n] w fun en w' => Mods (fun k => k = q) w w' ∧ Got (outString B a n) (fun l => .string (strOf l)) (.string ⟨#[]⟩) (fun b e => RRd w' q v B b e) a en := by
  have HB0 : Hid (Below w.heap.size w (w.alloc (.cells #[.int .i64 n] 3))) := (Below.refl _ _).alloc (Nat.le_refl _) _
  have HR0 := Lib.hid (h.below HB0.out)
  have hsz : (w.alloc (.cells #[.int .i64 n] 3)).heap.size = w.heap.size + 1 := by simp
  have HC : Hid ((w.alloc (.cells #[.int .i64 n] 3)).cell? ⟨w.heap.size, 0, none⟩ = some (.int .i64 n)) := (Blk.new w _ _).cell 0
  have HG := Lib.hid (read_string w.heap.size (outString B a n) (fun _ => outString_ne) q v B a _ HR0.out (fun m => lit_string v B a n w.heap.size _ (HR0.out.drewN m).rd hB ha hz hn HC.out))
  have HM0 : Hid (Mods (fun k => k = q) w (w.alloc (.cells #[.int .i64 n] 3))) := Mods.of_below HB0.out _
  have HS0 := Lib.hid hsz
  clear h hB HC hsz
  cases ho : outString B a n with
  | bad e =>
    rw [ho] at HG
    clear ho
    go_enter Try.func56, Try.ntmps56
    go_wp2_with fail
    refine HG.out.mono ?_
    rintro en w1 ⟨hM, rfl, hR⟩
    have HM := Lib.hid (HM0.out.trans hM (fun _ _ e => e))
    have HR := Lib.hid hR
    clear hM hR HG
    go_wp2_with fail
    go_ret
    exact ⟨HM.out, rfl, HR.out⟩
  | ok y b =>
    rw [ho] at HG
    clear ho
    go_enter Try.func56, Try.ntmps56
    go_wp2_with fail
    refine HG.out.mono ?_
    rintro en w1 ⟨hM, rfl, hR⟩
    have HM := Lib.hid (HM0.out.trans hM (fun _ _ e => e))
    have HR := Lib.hid hR
    clear hM hR HG
    go_wp2_with fail
    go_ret
    exact ⟨HM.out, rfl, HR.out⟩

theorem rd_string_err (q : Nat) (v : Value) (B : List Nat) (a : Nat) (n : Int) (e : Int) (he : e ≠ 0) (w : World) (h : RRd w q v B a e) :
    Calls Try.prog 56 #[.pointer (some ⟨q, 0, none⟩), .int .i64 n] w fun en w' => en = .returned (.string ⟨#[]⟩) ∧ Below w.heap.size w w' := by
  have HB0 : Hid (Below w.heap.size w (w.alloc (.cells #[.int .i64 n] 3))) := (Below.refl _ _).alloc (Nat.le_refl _) _
  have HG := Lib.hid (read_string_err (.func (.func 66) #[] #[.pointer (some ⟨w.heap.size, 0, none⟩)]) q v B a e he _ (h.below HB0.out))
  clear h
  go_enter Try.func56, Try.ntmps56
  go_wp2_with fail
  refine HG.out.mono ?_
  rintro en w1 ⟨rfl, rfl⟩
  go_wp2_with fail
  go_ret
  exact ⟨rfl, HB0.out⟩

theorem nil_string (n : Int) (w : World) : Calls Try.prog 56 #[.pointer none, .int .i64 n] w fun en w' => en = .returned (.string ⟨#[]⟩) ∧ Below w.heap.size w w' := by
  have HB0 : Hid (Below w.heap.size w (w.alloc (.cells #[.int .i64 n] 3))) := (Below.refl _ _).alloc (Nat.le_refl _) _
  have HG := Lib.hid (read_string_nil (.func (.func 66) #[] #[.pointer (some ⟨w.heap.size, 0, none⟩)]) (w.alloc (.cells #[.int .i64 n] 3)))
  go_enter Try.func56, Try.ntmps56
  go_wp2_with fail
  refine HG.out.mono ?_
  rintro en w1 ⟨rfl, rfl⟩
  go_wp2_with fail
  go_ret
  exact ⟨rfl, HB0.out⟩
end Go.Proofs.Yteiffpninifjlaa

end

section
/- Layer 4: where a read ends. No program in sight. -/
set_option linter.unusedVariables false
namespace Go.Proofs.Yteiffpninifjlaa
open Go Go.RowKit

/-- Where a read ends. -/
def Ends {α : Type} (o : Out α) (n : Nat) : Prop := ∀ x b, o = .ok x b → b ≤ n

theorem ends_byte (B : List Nat) (a : Nat) : Ends (outByte B a) B.length := fun x b h => by
  rw [outByte] at h
  split at h
  · next hc =>
    simp only [Out.ok.injEq] at h
    have := (List.getElem?_eq_some_iff.1 hc).1
    omega
  · cases h

theorem ends_uint {B : List Nat} (hB : ∀ c ∈ B, c < 256) {a : Nat} (ha : a ≤ B.length) (most : Nat) : Ends (outUint B a most) B.length := fun x b h => by
  rcases outUint_cases hB ha most with ⟨e, _, _, ho⟩ | ⟨y, to, _, _, hto, _, ho⟩
  · rw [ho] at h; cases h
  · rw [ho] at h
    split at h
    · cases h
    · simp only [Out.ok.injEq] at h; omega

theorem ends_take (B : List Nat) {a : Nat} (ha : a ≤ B.length) (n : Int) : Ends (outTake B a n) B.length := fun x b h => by
  rw [outTake] at h
  split at h
  · cases h
  · split at h
    · cases h
    · simp only [Out.ok.injEq] at h; omega

theorem ends_string {B : List Nat} (hB : ∀ c ∈ B, c < 256) {a : Nat} (ha : a ≤ B.length) (n : Int) : Ends (outString B a n) B.length := fun x b h => by
  rcases outString_cases hB ha n with ⟨e, _, _, ho⟩ | ⟨y, to, _, _, hto, _, ho⟩
  · rw [ho] at h; cases h
  · rw [ho] at h
    split at h
    · cases h
    · split at h
      · cases h
      · simp only [Out.ok.injEq] at h; omega

theorem ends_section {B : List Nat} (hB : ∀ c ∈ B, c < 256) (a id : Nat) : Ends (outSection B a id) B.length := fun x b h => by
  by_cases hla : B.length ≤ a
  · rw [outSection_none hla] at h; cases h
  · have hget : B[a]? = some B[a] := List.getElem?_eq_getElem (by omega)
    by_cases hne : B[a] = id
    · rw [hne] at hget
      rcases outSection_cases hB hget with ⟨e, _, _, ho⟩ | ⟨y, to, _, _, _, _, ho⟩
      · rw [ho] at h; cases h
      · rw [ho] at h
        split at h
        · cases h
        · split at h
          · simp only [Out.ok.injEq] at h; omega
          · cases h
    · rw [outSection_other hget hne] at h; cases h

theorem below_drewN (w : World) (n : Nat) : Below w.heap.size w (w.drewN n) := ⟨rfl, rfl, rfl, Nat.le_refl _, fun _ _ => rfl⟩
end Go.Proofs.Yteiffpninifjlaa

end

section
/- Layer 10: getStrings, Decode. -/
set_option linter.unusedVariables false
set_option maxRecDepth 20000
namespace Go.Proofs.Yteiffpninifjlaa
open Go Go.RowKit

/-- What getStrings reads: the strings, the offset behind them, the error. -/
def getsP (b : List Nat) : Nat → Nat → List ByteArray → List ByteArray × Nat × Nat
  | 0, a, acc => (acc, a, 0)
  | k + 1, a, acc => match outString b a 65535 with
    | .bad e => (acc, a, e)
    | .ok s to => getsP b k to (acc ++ [strOf s])
/-- What Decode makes of it. -/
def endP (b : List Nat) (r : List ByteArray × Nat × Nat) : Nat × List ByteArray :=
  if ¬ AscB ltS r.1 then (16, []) else if r.2.2 = 0 ∧ r.2.1 < b.length then (4, []) else if r.2.2 = 0 then (0, r.1) else (r.2.2, [])
theorem getsP_prefix (b : List Nat) : ∀ (k a : Nat) (acc : List ByteArray), acc <+: (getsP b k a acc).1
  | 0, a, acc => List.prefix_rfl
  | k + 1, a, acc => by
    rw [getsP]
    split
    · exact List.prefix_rfl
    · next s to ho => exact (List.prefix_append acc [strOf s]).trans (getsP_prefix b k to _)
theorem decSyF_gets (b : List Nat) : ∀ (k a : Nat) (acc : List ByteArray), AscB ltS acc → decSyF b k a acc = endP b (getsP b k a acc)
  | 0, a, acc, h => by
    rw [decSyF, getsP, endP]
    simp only [h, not_true_eq_false, if_false, true_and, if_true]
  | k + 1, a, acc, h => by
    rw [decSyF, getsP]
    cases ho : outString b a 65535 with
    | bad e =>
      have he := outString_ne ho
      simp only [endP, h, not_true_eq_false, if_false, he, false_and]
    | ok s to =>
      simp only
      by_cases hl : lastLt acc (strOf s) = true
      · rw [if_pos hl]
        exact decSyF_gets b k to _ (ascB_push h hl)
      · rw [if_neg hl, endP, if_pos]
        intro h2
        have h3 : AscB ltS (acc ++ [strOf s]) := List.Pairwise.sublist (getsP_prefix b k to (acc ++ [strOf s])).sublist h2
        exact hl (lastLt_of (t := []) h3)

/-- Where getStrings stands. -/
structure GsAt (w : World) (q : Nat) (wr : World) (acc : List ByteArray) (tv : Value) : Prop where
  row : wr.ownsRow w.heap.size 9 1 tv acc.length (strs acc)
  mods : Mods (fun k => k = q) w wr
theorem GsAt.step {w : World} {q : Nat} {wr w' : World} {acc : List ByteArray} {tv : Value} (h : GsAt w q wr acc tv) (hq : q < w.heap.size) (hm : Mods (fun k => k = q) wr w') : GsAt w q w' acc tv :=
  ⟨hm.owns h.row (fun k hk e => by have := (h.row.lt k hk).1; omega), h.mods.trans hm (fun _ _ e => e)⟩
theorem GsAt.shape {w : World} {q : Nat} {wr : World} {acc : List ByteArray} {tv : Value} (h : GsAt w q wr acc tv) : ∃ p c, tv = .slice p acc.length c := (Rd.of_owns h.row).shape

theorem get_strings_err (q : Nat) (v : Value) (B : List Nat) (a n : Nat) (e : Int) (he : e ≠ 0) (w : World) (h : RRd w q v B a e) (hn : n < 18446744073709551616) :
    Calls Try.prog 38 #[.pointer (some ⟨q, 0, none⟩), .int .u64 (n : Int)] w fun en w' => en = .returned (.slice none 0 0) ∧ Below w.heap.size w w' := by
  have HS := Lib.hid (rd_string_err q v B a 65535 e he w h)
  have H := Lib.hid h
  have heb : (e == 0) = false := by rw [beq_eq_false_iff_ne]; exact he
  clear h he
  cases n with
  | zero =>
    go_enter Try.func38, Try.ntmps38
    go_wp2_with fail
    go_loop [5, 8] (fun tv iv => tv = .slice none 0 0 ∧ iv = .int .u64 0) (fun _ _ => 0)
    case atStart => exact ⟨rfl, rfl⟩
    case round =>
      obtain ⟨rfl, rfl⟩ := hrel
      go_wp2_with fail
      go_ret
      exact ⟨rfl, Below.refl _ _⟩
  | succ n =>
    have hlt : (0 : Int) < ((n + 1 : Nat) : Int) := by omega
    generalize ((n + 1 : Nat) : Int) = N at *
    go_enter Try.func38, Try.ntmps38
    go_wp2_with fail
    go_loop [5, 8] (fun tv iv => tv = .slice none 0 0 ∧ iv = .int .u64 0) (fun _ _ => 0)
    case atStart => exact ⟨rfl, rfl⟩
    case round =>
      obtain ⟨rfl, rfl⟩ := hrel
      go_wp2_with fail
      refine HS.out.mono ?_
      rintro en w1 ⟨rfl, hB⟩
      have HE := Lib.hid (rd_err q v B a e w1 (H.out.below hB))
      have HB := Lib.hid hB
      clear hB HS
      go_wp2_with fail
      refine HE.out.mono ?_
      rintro en w2 ⟨rfl, rfl⟩
      go_wp2_with fail
      go_ret
      exact ⟨rfl, HB.out⟩

set_option maxHeartbeats 2000000 in
theorem get_strings (q : Nat) (v : Value) (B : List Nat) (a0 n : Nat) (w : World) (h : RRd w q v B a0 0) (hB : ∀ c ∈ B, c < 256) (ha : a0 ≤ B.length) (hz : B.length ≤ 100000000) (hn : n ≤ 100000000) (hvl : ∀ k, v.ownBlock = some k → k < w.heap.size) :
    Calls Try.prog 38 #[.pointer (some ⟨q, 0, none⟩), .int .u64 (n : Int)] w fun en w' => ∃ tv, en = .returned tv ∧ GsAt w q w' (getsP B n a0 []).1 tv ∧ RRd w' q v B (getsP B n a0 []).2.1 ((getsP B n a0 []).2.2 : Int) := by
  have hq : q < w.heap.size := h.blk.lt
  have HB := Lib.hid hB; have HV := Lib.hid hvl
  have H := Lib.hid h
  obtain ⟨R, hR⟩ : ∃ R, getsP B n a0 [] = R := ⟨_, rfl⟩
  rw [hR]
  have HR := Lib.hid hR
  clear h hB hvl hR
  go_enter Try.func38, Try.ntmps38
  go_wp2_with fail
  go_loopw [5, 8] (fun tv iv wr => ∃ (j k a : Nat) (acc : List ByteArray), j + k = n ∧ a ≤ B.length ∧ iv = .int .u64 (j : Int) ∧ Hid (acc.length = j ∧ getsP B k a acc = R) ∧ Hid (GsAt w q wr acc tv ∧ RRd wr q v B a 0)) (fun _ iv _ => n - (intOf iv).toNat)
  case atStart => exact ⟨0, n, a0, [], Nat.zero_add n, ha, rfl, ⟨rfl, HR.out⟩, ⟨World.ownsRow_nil _ _ _ _, Mods.refl _ _⟩, H.out⟩
  case round =>
    obtain ⟨j, k, a, acc, hjk, hal, rfl, HP, HS⟩ := hrel
    have hji : (j : Int) ≤ 100000000 := by omega
    obtain ⟨pt, ct, hv⟩ := HS.out.1.shape
    subst hv
    have HJK := Lib.hid hjk
    cases k with
    | zero =>
      have hlt : ¬ (j : Int) < (n : Int) := by omega
      have HE : Hid ((acc, a, 0) = R) := HP.out.2
      clear hjk
      go_wp2_with fail
      go_ret
      refine ⟨_, rfl, ?_, ?_⟩
      · rw [← HE.out]; exact HS.out.1
      · rw [← HE.out]; exact HS.out.2
    | succ k =>
      have hlt : (j : Int) < (n : Int) := by omega
      have HSt := Lib.hid (rd_string q v B a 65535 wr (by omega) HS.out.2 HB.out hal (by omega))
      clear hjk
      go_wp2_with fail
      refine HSt.out.mono ?_
      rintro en w1 ⟨hM, hG⟩
      have HG1 := Lib.hid (HS.out.1.step hq hM)
      cases ho : outString B a 65535 with
      | bad e =>
        have he := outString_ne ho
        have heb : ((e : Int) == 0) = false := by rw [beq_eq_false_iff_ne]; omega
        have HE : Hid ((acc, a, e) = R) := by
          have := HP.out.2
          rw [getsP, ho] at this
          exact this
        rw [ho] at hG
        obtain ⟨rfl, hRd⟩ := hG
        have HRd := Lib.hid hRd
        have HEr := Lib.hid (rd_err q v B a e w1 hRd)
        clear hM hRd HSt ho he HS
        go_wp2_with fail
        refine HEr.out.mono ?_
        rintro en w2 ⟨rfl, rfl⟩
        go_wp2_with fail
        go_ret
        refine ⟨_, rfl, ?_, ?_⟩
        · rw [← HE.out]; exact HG1.out
        · rw [← HE.out]; exact HRd.out
      | ok s to =>
        have hto := ends_string HB.out hal 65535 s to ho
        have HE : Hid (getsP B k to (acc ++ [strOf s]) = R) := by
          have := HP.out.2
          rw [getsP, ho] at this
          exact this
        rw [ho] at hG
        obtain ⟨rfl, hRd⟩ := hG
        have HRd := Lib.hid hRd
        have HEr := Lib.hid (rd_err q v B to 0 w1 hRd)
        have HLa : Hid (acc.length = j) := HP.out.1
        have HOw : Hid (w1.ownsRow 0 9 1 (.slice pt acc.length ct) acc.length (strs acc)) := owns_rebase HG1.out.row (fun _ _ => Nat.zero_le _)
        have HLn : Hid ((acc.length + 1) * 16 ≤ 140737488355328 ∧ acc.length + 1 ≤ maxLen) := by have := HLa.out; show _ ∧ _; unfold maxLen; omega
        obtain ⟨al, hal2⟩ : ∃ al, acc.length = al := ⟨_, rfl⟩
        have HAl := Lib.hid hal2
        rw [hal2] at HOw HLn HG1 ⊢
        clear hM hRd HSt ho HS hal hal2
        go_wp2_with fail
        refine HEr.out.mono ?_
        rintro en w2 ⟨rfl, rfl⟩
        go_wp2_with (at_builtin; refine wpList_push Try.elemStr _ #[.string (strOf s)] _ _ _ HOw.out rfl (by simp [Value.oneCell']) HLn.out rfl _ _ rfl rfl rfl ?_)
        intro v2 w3 k1 k2 k3
        have HF : Hid (GsAt w q w3 (acc ++ [strOf s]) v2 ∧ RRd w3 q v B to 0) := by
          have hlow : ∀ k, (Value.slice pt al ct).ownBlock = some k → w.heap.size ≤ k := fun k hk => (HG1.out.row.lt k hk).1
          have hsz := HG1.out.mods.size
          refine ⟨⟨?_, HG1.out.mods.trans k2 (fun k hk e => by have := hlow k e; omega)⟩, HRd.out.mods k2 (fun e => by have := hlow q e; omega) (fun k hk e => by have := hlow k e; have := HV.out k hk; omega)⟩
          rw [List.length_append, HAl.out, strs_append]
          refine owns_rebase k1 (fun k hk => ?_)
          rcases k3 k hk with e | e
          · exact hlow k e
          · omega
        obtain ⟨p2, c2, hv2⟩ := (Rd.of_owns k1).shape
        subst hv2
        clear k1 k2 k3 HOw HLn HG1
        go_wp2_with fail
        go_roundw
        case rel => exact ⟨j + 1, k, to, acc ++ [strOf s], by have := HJK.out; omega, hto, by go_num, ⟨by rw [List.length_append, HLa.out]; rfl, HE.out⟩, HF.out⟩
        case measure => simp [intOf]; omega
end Go.Proofs.Yteiffpninifjlaa

end

section
/- Layer 10: Decode. -/
set_option linter.unusedVariables false
set_option maxRecDepth 20000
namespace Go.Proofs.Yteiffpninifjlaa
open Go Go.RowKit

theorem asc_nil : decide (AscB ltS ([] : List ByteArray)) = true := decide_eq_true List.Pairwise.nil

set_option maxHeartbeats 4000000 in
theorem decode_met (bv : Value) (B : List Nat) (w : World) (h : Rd w 1 bv B.length (u8s B)) (hB : ∀ c ∈ B, c < 256) (hn : B.length ≤ 100000000) :
    Calls Try.prog 21 #[bv] w (GotT w (decSy B)) := by
  have HN := Lib.hid (rd_new bv B w h (by omega))
  have HBy := Lib.hid hB
  obtain ⟨p, c, hv⟩ := h.shape
  subst hv
  have hcs := outUint_cases hB (Nat.zero_le B.length) 18446744073709551615
  clear h hB
  go_enter Try.func21, Try.ntmps21
  go_wp2_with fail
  refine HN.out.mono ?_
  rintro e w1 ⟨q, vr, rfl, hR, hq, hvk, hBel⟩
  have HQ : Hid (w.heap.size ≤ q ∧ q < w1.heap.size) := ⟨hq, hR.blk.lt⟩
  have HV := Lib.hid hvk
  have HB1 := Lib.hid hBel
  have HU : Hid (Calls Try.prog 35 #[.pointer (some ⟨q, 0, none⟩), .int .u64 18446744073709551615] w1 fun en w' => Mods (fun k => k = q) w1 w' ∧ Got (outUint B 0 18446744073709551615) (fun c => .int .u64 (c : Int)) (.int .u64 0) (fun b e => RRd w' q vr B b e) 0 en) :=
    rd_uint q vr B 0 18446744073709551615 w1 hR HBy.out (Nat.zero_le _) (by omega)
  clear hR hq hvk hBel HN
  have hbl : (B.length : Int) ≤ 100000000 := by omega
  rcases hcs with ⟨e, he, hr, ho⟩ | ⟨x, to, hr, hto, htl, hx, ho⟩
  · -- no number
    have hr0 : readAt B 0 = (0, 0, e) := hr
    have HD : Hid (decSy B = (e, [])) := by
      obtain ⟨k, rfl⟩ : ∃ k, e = k + 1 := ⟨e - 1, by omega⟩
      show _ = _
      rw [decSy, hr0]
    have heb : ((e : Int) == 0) = false := by rw [beq_eq_false_iff_ne]; omega
    have hei : (e : Int) ≠ 0 := by omega
    have hw : IntKind.u64.wrap (B.length : Int) = (B.length : Int) := by rw [IntKind.wrap_u64]; omega
    rw [ho] at HU
    clear hr hr0 ho
    go_wp2_with fail
    refine HU.out.mono ?_
    rintro en w2 ⟨hM, rfl, hR⟩
    have HB2 : Hid (Below w.heap.size w w2) := HB1.out.trans (hM.below HB1.out.size (fun k hk e => by have := HQ.out.1; omega))
    have HA := Lib.hid (rd_at q vr B 0 e w2 hR)
    have HG := Lib.hid (get_strings_err q vr B 0 0 e hei w2 hR (by decide))
    have HR := Lib.hid hR
    clear hM hR HU
    go_wp2_with fail
    refine HA.out.mono ?_
    rintro en w3 ⟨rfl, rfl⟩
    have hgt : ¬ (B.length : Int) < 0 := by omega
    go_wp2_with fail
    refine HG.out.mono ?_
    rintro en w4 ⟨rfl, hB⟩
    have HB4 : Hid (Below w.heap.size w w4) := HB2.out.trans (hB.mono HB2.out.size)
    have HAs := Lib.hid (is_ascending (.slice none 0 0) [] w4 (Rd.nil _ _))
    rw [asc_nil] at HAs
    have HR4 := Lib.hid (HR.out.below hB)
    clear hB HG HA HR HB2
    go_wp2_with fail
    refine HAs.out.mono ?_
    rintro en w5 ⟨rfl, hB⟩
    have HB5 : Hid (Below w.heap.size w w5) := HB4.out.trans (hB.mono HB4.out.size)
    have HE := Lib.hid (rd_end q vr B 0 e w5 (HR4.out.below hB))
    rw [if_neg (fun h : (e : Int) = 0 ∧ 0 < B.length => hei h.1)] at HE
    clear hB HAs HR4 HB4
    go_wp2_with fail
    refine HE.out.mono ?_
    rintro en w6 ⟨rfl, n6, rfl⟩
    have HB6 : Hid (Below w.heap.size w (w5.drewN n6)) := HB5.out.trans ((Mods.drewN (fun _ => False) w5 n6).below HB5.out.size (fun _ _ e => e))
    go_wp2_with fail
    go_ret2
    exact GotT.fails HB6.out HD.out
  · have hr0 : readAt B 0 = (x, (to : Int), 0) := hr
    have hxl : ¬ 18446744073709551615 < x := by omega
    rw [if_neg hxl] at ho
    rw [ho] at HU
    clear hr ho hxl
    have hti : (to : Int) ≤ 100000000 := by omega
    have hw : IntKind.u64.wrap ((B.length : Int) - (to : Int)) = (B.length : Int) - (to : Int) := by rw [IntKind.wrap_u64]; omega
    by_cases hgt : B.length - to < x
    · -- too many
      have HD : Hid (decSy B = (3, [])) := by
        show _ = _
        rw [decSy, hr0]
        simp only [Int.toNat_natCast]
        rw [if_pos hgt]
      have hgt' : (B.length : Int) - (to : Int) < (x : Int) := by omega
      clear hr0
      go_wp2_with fail
      refine HU.out.mono ?_
      rintro en w2 ⟨hM, rfl, hR⟩
      have HB2 : Hid (Below w.heap.size w w2) := HB1.out.trans (hM.below HB1.out.size (fun k hk e => by have := HQ.out.1; omega))
      have HA := Lib.hid (rd_at q vr B to 0 w2 hR)
      have HF := Lib.hid (rd_fail q vr B to 0 3 w2 hR)
      rw [if_pos rfl] at HF
      clear hM hR HU
      go_wp2_with fail
      refine HA.out.mono ?_
      rintro en w3 ⟨rfl, rfl⟩
      go_wp2_with fail
      refine HF.out.mono ?_
      rintro en w3 ⟨rfl, hR, hM⟩
      have HB3 : Hid (Below w.heap.size w w3) := HB2.out.trans (hM.below HB2.out.size (fun k hk e => by have := HQ.out.1; omega))
      have HG := Lib.hid (get_strings_err q vr B to x 3 (by decide) w3 hR hx)
      have HR := Lib.hid hR
      clear hM hR HF HA HB2
      go_wp2_with fail
      refine HG.out.mono ?_
      rintro en w4 ⟨rfl, hB⟩
      have HB4 : Hid (Below w.heap.size w w4) := HB3.out.trans (hB.mono HB3.out.size)
      have HAs := Lib.hid (is_ascending (.slice none 0 0) [] w4 (Rd.nil _ _))
      rw [asc_nil] at HAs
      have HR4 := Lib.hid (HR.out.below hB)
      clear hB HG HR HB3
      go_wp2_with fail
      refine HAs.out.mono ?_
      rintro en w5 ⟨rfl, hB⟩
      have HB5 : Hid (Below w.heap.size w w5) := HB4.out.trans (hB.mono HB4.out.size)
      have HE := Lib.hid (rd_end q vr B to 3 w5 (HR4.out.below hB))
      rw [if_neg (fun h : (3 : Int) = 0 ∧ to < B.length => absurd h.1 (by decide))] at HE
      clear hB HAs HR4 HB4
      go_wp2_with fail
      refine HE.out.mono ?_
      rintro en w6 ⟨rfl, n6, rfl⟩
      have HB6 : Hid (Below w.heap.size w (w5.drewN n6)) := HB5.out.trans ((Mods.drewN (fun _ => False) w5 n6).below HB5.out.size (fun _ _ e => e))
      go_wp2_with fail
      go_ret2
      exact GotT.fails (en := 3) HB6.out HD.out
    · have HD : Hid (decSy B = endP B (getsP B x to [])) := by
        show _ = _
        rw [decSy, hr0]
        simp only [Int.toNat_natCast]
        rw [if_neg hgt]
        exact decSyF_gets B x to [] List.Pairwise.nil
      have hgt' : ¬ (B.length : Int) - (to : Int) < (x : Int) := by omega
      have hxm : x ≤ 100000000 := by omega
      clear hr0
      go_wp2_with fail
      refine HU.out.mono ?_
      rintro en w2 ⟨hM, rfl, hR⟩
      have HB2 : Hid (Below w.heap.size w w2) := HB1.out.trans (hM.below HB1.out.size (fun k hk e => by have := HQ.out.1; omega))
      have HA := Lib.hid (rd_at q vr B to 0 w2 hR)
      have hvl : ∀ k, vr.ownBlock = some k → k < w2.heap.size := fun k hk => Nat.lt_of_lt_of_le (HV.out k hk).2 hM.size
      have HG := Lib.hid (get_strings q vr B to x w2 hR HBy.out htl hn hxm hvl)
      have HQ2 : Hid (q < w2.heap.size) := hR.blk.lt
      have HV2 : Hid (∀ k, vr.ownBlock = some k → k < w2.heap.size) := hvl
      clear hM hR HU hvl hx hxm
      go_wp2_with fail
      refine HA.out.mono ?_
      rintro en w3 ⟨rfl, rfl⟩
      generalize getsP B x to [] = R at *
      obtain ⟨t, a, e⟩ := R
      simp only at HG
      go_wp2_with fail
      refine HG.out.mono ?_
      rintro en w4 ⟨tv, rfl, hGs, hR4⟩
      obtain ⟨pt, ct, hv⟩ := hGs.shape
      subst hv
      have hM := hGs.mods
      have HB4 : Hid (Below w.heap.size w w4) := HB2.out.trans (hM.below HB2.out.size (fun k hk e => by have := HQ.out.1; omega))
      have HT4 : Hid (w4.ownsRow w3.heap.size 9 1 (.slice pt t.length ct) t.length (strs t)) := hGs.row
      have HAs := Lib.hid (is_ascending _ t w4 (Rd.of_owns hGs.row))
      have HR4 := Lib.hid hR4
      clear hGs hM hR4 HG HA
      by_cases hasc : AscB ltS t
      · rw [decide_eq_true hasc] at HAs
        have HD2 : Hid (decSy B = if e = 0 ∧ a < B.length then (4, []) else if e = 0 then (0, t) else (e, [])) := by
          show _ = _
          rw [HD.out, endP]
          exact if_neg (not_not_intro hasc)
        clear hasc HD
        go_wp2_with fail
        refine HAs.out.mono ?_
        rintro en w5 ⟨rfl, hB⟩
        have HB5 : Hid (Below w.heap.size w w5) := HB4.out.trans (hB.mono HB4.out.size)
        have HT5 : Hid (w5.ownsRow w3.heap.size 9 1 (.slice pt t.length ct) t.length (strs t)) := (Mods.of_below hB (fun _ => False)).owns HT4.out (fun _ _ e => e)
        have HE := Lib.hid (rd_end q vr B a e w5 (HR4.out.below hB))
        clear hB HAs HR4 HB4 HT4
        by_cases hta : (e : Int) = 0 ∧ a < B.length
        · rw [if_pos hta] at HE
          rw [if_pos (by omega)] at HD2
          clear hta
          go_wp2_with fail
          refine HE.out.mono ?_
          rintro en w6 ⟨rfl, n6, rfl⟩
          have HB6 : Hid (Below w.heap.size w (w5.drewN n6)) := HB5.out.trans ((Mods.drewN (fun _ => False) w5 n6).below HB5.out.size (fun _ _ e => e))
          go_wp2_with fail
          go_ret2
          exact GotT.fails (en := 4) HB6.out HD2.out
        · rw [if_neg hta] at HE
          rw [if_neg (by omega)] at HD2
          by_cases he : e = 0
          · subst he
            rw [if_pos rfl] at HD2
            clear hta
            go_wp2_with fail
            refine HE.out.mono ?_
            rintro en w6 ⟨rfl, n6, rfl⟩
            have HB6 : Hid (Below w.heap.size w (w5.drewN n6)) := HB5.out.trans ((Mods.drewN (fun _ => False) w5 n6).below HB5.out.size (fun _ _ e => e))
            have HT6 : Hid ((w5.drewN n6).ownsRow w3.heap.size 9 1 (.slice pt t.length ct) t.length (strs t)) := (Mods.drewN (fun _ => False) w5 n6).owns HT5.out (fun _ _ e => e)
            go_wp2_with fail
            go_ret2
            rw [HD2.out]
            exact ⟨⟨_, rfl, Rd.of_owns HT6.out, fun k hk => Nat.le_trans HB2.out.size (HT6.out.lt k hk).1⟩, HB6.out⟩
          · rw [if_neg he] at HD2
            have heb : ((e : Int) == 0) = false := by rw [beq_eq_false_iff_ne]; omega
            clear hta he
            go_wp2_with fail
            refine HE.out.mono ?_
            rintro en w6 ⟨rfl, n6, rfl⟩
            have HB6 : Hid (Below w.heap.size w (w5.drewN n6)) := HB5.out.trans ((Mods.drewN (fun _ => False) w5 n6).below HB5.out.size (fun _ _ e => e))
            go_wp2_with fail
            go_ret2
            exact GotT.fails HB6.out HD2.out
      · rw [decide_eq_false hasc] at HAs
        have HD2 : Hid (decSy B = (16, [])) := by
          show _ = _
          rw [HD.out, endP]
          exact if_pos hasc
        clear hasc HD
        go_wp2_with fail
        refine HAs.out.mono ?_
        rintro en w5 ⟨rfl, hB⟩
        have HB5 : Hid (Below w.heap.size w w5) := HB4.out.trans (hB.mono HB4.out.size)
        clear hB HAs
        go_wp2_with fail
        go_ret2
        exact GotT.fails (en := 16) HB5.out HD2.out
end Go.Proofs.Yteiffpninifjlaa

end

section
/- Layer 10: the program's Table, Index, Encode and Decode are such as the walks ask. -/
set_option linter.unusedVariables false
namespace Go.Proofs.Yteiffpninifjlaa
open Go Go.RowKit

theorem symbols : SyIf 0 (fun _ => True) where
  keeps := fun _ _ _ => trivial
  low := fun _ => Nat.zero_le _
  table := fun lv l w _ h hn => table_met lv l w h hn
  index := fun tv t s w _ h hn ha _ => index_met tv t s w h hn ha
  encode := fun tv t w _ h hn => encode_met tv t w h hn
  decode := fun bv B w _ h hB hn => decode_met bv B w h hB hn
end Go.Proofs.Yteiffpninifjlaa

end

section
/- Layer 10: the statements' own bounds. -/
set_option linter.unusedVariables false
namespace Go.Proofs.Yteiffpninifjlaa
open Go Go.RowKit

set_option maxHeartbeats 2000000 in
theorem long10 (lv : Value) (l : List ByteArray) (w : World) (hl : Rd w 1 lv l.length (strs l)) :
    Calls Try.prog 15 #[lv] w fun e w' => (e = .returned (.int .i64 1) ∨ (e = .returned (.int .i64 0) ∧ ∀ s ∈ l, s.size ≤ 65535)) ∧ Below w.heap.size w w' := by
  have HL := Lib.hid hl
  obtain ⟨pl, cl, hv⟩ := hl.shape
  subst hv
  have hmax : (l.length : Int) ≤ 9223372036854775807 := by have := hl.le; unfold maxLen at this; omega
  clear hl
  go_enter Try.func15, Try.ntmps15
  go_wp2_with fail
  go_loopw [7] (fun iv wr => ∃ (j : Nat), j ≤ l.length ∧ iv = .int .i64 (j : Int) ∧ Hid (∀ s ∈ l.take j, s.size ≤ 65535) ∧ Hid (Below w.heap.size w wr)) (fun iv _ => l.length - (intOf iv).toNat)
  case atStart => exact ⟨0, Nat.zero_le _, rfl, (by intro s hs; simp at hs), Below.refl _ _⟩
  case round =>
    obtain ⟨j, hj, rfl, HF, HB⟩ := hrel
    by_cases hlt : j < l.length
    · have hlt' : (j : Int) < (l.length : Int) := by omega
      obtain ⟨b, off, c', e, _, _, _⟩ := HL.out.at (fun e => by have := congrArg List.length e; rw [strs_length] at this; simp at this; subst this; simp at hlt)
      simp only [Value.slice.injEq] at e
      obtain ⟨rfl, _, rfl⟩ := e
      obtain ⟨x, hx⟩ : ∃ x, l[j]? = some x := ⟨_, List.getElem?_eq_getElem hlt⟩
      have hcx : wr.cell? ⟨b, off + j, none⟩ = some (.string x) := by rw [← (List.getElem?_eq_some_iff.1 hx).2]; exact rd1_cell (HL.out.below HB.out) hlt
      have HX := Lib.hid hx
      clear hx
      by_cases hz : (65535 : Int) < (x.size : Int)
      · go_wp2_with fail
        go_ret
        exact ⟨Or.inl rfl, HB.out⟩
      · have HF2 : Hid (∀ s ∈ l.take (j + 1), s.size ≤ 65535) := by
          intro s hs
          rw [List.take_add_one, HX.out] at hs
          rcases List.mem_append.1 hs with e | e
          · exact HF.out s e
          · simp at e; subst e; omega
        go_wp2_with fail
        go_round
        case rel => exact ⟨j + 1, by omega, by go_num, HF2.out, HB.out⟩
        case measure => simp [intOf]; omega
    · have hlt' : ¬ (j : Int) < (l.length : Int) := by omega
      have HD : Hid (∀ s ∈ l, s.size ≤ 65535) := by
        have h := HF.out
        rw [List.take_of_length_le (by omega)] at h
        exact h
      go_wp2_with fail
      go_ret
      exact ⟨Or.inr ⟨rfl, HD.out⟩, HB.out⟩
end Go.Proofs.Yteiffpninifjlaa

end
