/- Layer 1: the reference's functions on lists of bits. -/
import Derived.Test.YtpphgmgdmdehpaaProg
import Derived.Test.YtpphgmgdmdehpaaSlice
import Derived.Test.YtpphgmgdmdehpaaBits
import Derived.WalkSpells
import Derived.WalkLawsBesides
import Derived.Outline
import Derived.Lib.Hide
import Derived.Deep.QuietTactic
import Derived.BigQuiet
set_option maxRecDepth 20000
namespace Go.Proofs.Ytpphgmgdmdehpaa
open Go Go.RowKit

def bls (l : List Bool) : List Value := l.map Value.bool
theorem bls_length (l : List Bool) : (bls l).length = l.length := by simp [bls]
theorem bls_append (a b : List Bool) : bls (a ++ b) = bls a ++ bls b := by simp [bls]
theorem bls_get (l : List Bool) (i : Nat) (h : i < l.length) : (bls l)[i]? = some (.bool l[i]) := by simp [bls, h]

theorem Try.infoBool : (Try.prog.info? 4).map (fun i => (i.zero, i.size, i.bytes)) = some (some (.bool false), 1, 1) := by kernel_rfl

/-- A row of bits that the call may write. -/
def BitsIn (w : World) (v : Value) (bs : List Bool) : Prop := w.ownsRow 0 4 1 v bs.length (bls bs)
structure RefWrote (v : Value) (out : List Bool) (w : World) (v' : Value) (w' : World) : Prop where
  own : BitsIn w' v' out
  mods : Mods (fun k => v.ownBlock = some k) w w'
  fresh : Fresh w.heap.size v v'

theorem unit_step (n i : Nat) (h : i < n) : 2 ^ (n - 1) / 2 ^ i = 2 ^ (n - 1 - i) := by
  rw [Nat.pow_div (by omega) (by omega)]

set_option maxHeartbeats 400000 in
theorem ref_write (v : Value) (bs : List Bool) (x n : Nat) (w : World) (h : BitsIn w v bs) (hx : x < 18446744073709551616) (hn : n ≤ 64) (hb : bs.length + 64 ≤ 70368744177664) :
    Calls Try.prog 42 #[v, .int .u64 x, .int .i64 n] w fun e w' => ∃ v', e = .returned v' ∧ RefWrote v (bs ++ fieldBits x n) w v' w' := by
  obtain ⟨i0, hi, hz0, hz1, hz2⟩ := info_parts Try.infoBool
  have H := Lib.hid h; clear h
  go_enter Try.func42, Try.ntmps42
  go_wp2
  go_loop [7, 8] (fun u c => ∃ i : Nat, 1 ≤ i ∧ (i ≤ n ∨ i = 1) ∧ c = .int .i64 i ∧ u = .int .u64 ((2 ^ (i - 1) : Nat) : Int)) (fun _ c => n - (intOf c).toNat)
  case atStart => exact ⟨1, by omega, by omega, rfl, rfl⟩
  case round =>
    obtain ⟨i, h1, h2, rfl, rfl⟩ := hrel
    by_cases hlt : i < n
    · have hU : 2 ^ (i + 1 - 1) = 2 ^ (i - 1) * 2 := by rw [show i + 1 - 1 = (i - 1) + 1 from by omega, Nat.pow_succ]
      have hU2 : 2 ^ (i - 1) ≤ 2 ^ 62 := Nat.pow_le_pow_right (by omega) (by omega)
      have HU := Lib.hid hU; clear hU
      generalize 2 ^ (i - 1) = U at *
      have hU3 : (U : Int) ≤ 4611686018427387904 := by omega
      clear hU2
      go_wp2
      go_round
      case rel => exact ⟨i + 1, by omega, by omega, by go_num, by rw [HU.out]; go_num⟩
      case measure => simp [intOf]; omega
    · have hp : 2 ^ (i - 1) = 2 ^ (n - 1) := by congr 1; omega
      rw [hp]
      clear hp
      go_wp2
      go_loopw [0, 7, 9] (fun v2 u c wr => ∃ j : Nat, j ≤ n ∧ c = .int .i64 j ∧ u = .int .u64 ((2 ^ (n - 1) / 2 ^ j : Nat) : Int) ∧ RefWrote v (bs ++ (fieldBits x n).take j) w v2 wr) (fun _ _ c _ => n - (intOf c).toNat)
      case atStart => exact ⟨0, by omega, rfl, by simp, by simpa using H.out, Mods.refl _ _, Fresh.refl _ _⟩
      case round =>
        obtain ⟨j, hj, rfl, rfl, hW⟩ := hrel
        by_cases hjn : j < n
        · have hU : 2 ^ (n - 1) / 2 ^ (j + 1) = 2 ^ (n - 1) / 2 ^ j / 2 := by rw [Nat.pow_succ, Nat.div_div_eq_div_mul]
          have hB : ((x : Int) / ((2 ^ (n - 1) / 2 ^ j : Nat) : Int) % 2 == 1) = x.testBit (n - 1 - j) := by
            rw [unit_step n j hjn, Nat.testBit_eq_decide_div_mod_eq]
            have e : (x : Int) / ((2 ^ (n - 1 - j) : Nat) : Int) % 2 = ((x / 2 ^ (n - 1 - j) % 2 : Nat) : Int) := by simp
            rw [e]
            generalize x / 2 ^ (n - 1 - j) % 2 = m
            by_cases hm : m = 1
            · simp [hm]
            · have : ¬ (m : Int) = 1 := by omega
              simp [hm, this]
          have hU1 : 1 ≤ 2 ^ (n - 1) / 2 ^ j ∧ 2 ^ (n - 1) / 2 ^ j ≤ 9223372036854775808 := by
            rw [unit_step n j hjn]
            have : 2 ^ (n - 1 - j) ≤ 2 ^ 63 := Nat.pow_le_pow_right (by omega) (by omega)
            exact ⟨Nat.two_pow_pos _, by omega⟩
          have hxU : x / (2 ^ (n - 1) / 2 ^ j) ≤ x := Nat.div_le_self _ _
          have HU := Lib.hid hU; have HB := Lib.hid hB; clear hU hB
          generalize 2 ^ (n - 1) / 2 ^ j = U at *
          have hU2 : (1 : Int) ≤ U := by omega
          have hU3 : (U : Int) ≤ 9223372036854775808 := by omega
          have hx0 : (0 : Int) ≤ (x : Int) / (U : Int) := by have := Int.natCast_nonneg (x / U); rwa [Int.natCast_ediv] at this
          have hx1 : (x : Int) / (U : Int) ≤ 18446744073709551615 := by
            have h' : ((x / U : Nat) : Int) ≤ (x : Int) := by exact_mod_cast hxU
            rw [Int.natCast_ediv] at h'
            omega
          clear hU1 hxU
          have HS : Hid (bs ++ (fieldBits x n).take (j + 1) = (bs ++ (fieldBits x n).take j) ++ [x.testBit (n - 1 - j)]) := by
            show _ = _
            rw [fieldBits_take_succ x n j hjn, List.append_assoc]
          have hL0 : (bs ++ (fieldBits x n).take j).length ≤ 70368744177664 := by rw [List.length_append, List.length_take, fieldBits_length]; omega
          generalize bs ++ (fieldBits x n).take j = L at hW HS hL0
          have HL : Hid (L.length + 1 ≤ maxLen ∧ (L.length + 1) * 1 ≤ 140737488355328) := by
            show _ ∧ _
            unfold maxLen; omega
          have HW := Lib.hid hW; clear hW
          go_wp2_with (at_builtin; refine wpList_app _ rfl _ _ 34 rfl 4 i0 (.bool false) 1 1 Try.underlying34 hi hz0 hz1 hz2 rfl (by decide) _ _ _ rfl (HW.out.own.alloc _) ⟨wr.heap.size, 0, none⟩ 1 1 [.bool ((x : Int) / (U : Int) % 2 == 1)] rfl rfl ?c1 ?c2 ?c3 ?c4 ?_)
          case c1 => exact news_one _ _ _
          case c2 => intro u hu; simp at hu; subst hu; rfl
          case c3 => exact HL.out.1
          case c4 => exact HL.out.2
          intro v' w1 hown hmods hfresh
          have HR : Hid (RefWrote v (bs ++ (fieldBits x n).take (j + 1)) w v' w1) := by
            rw [HS.out]
            refine ⟨?_, ?_, ?_⟩
            · rw [HB.out] at hown
              rw [BitsIn, bls_append, List.length_append]
              exact hown
            · exact HW.out.mods.trans ((Mods.alloc _ _ _).trans hmods (fun _ _ e => e)) (fun k hk e => by
                rcases HW.out.fresh k e with e | e
                · exact e
                · omega)
            · exact HW.out.fresh.trans hfresh (by have := HW.out.mods.size; simp; omega)
          clear hown hmods hfresh HB HL HS
          go_wp2
          go_roundw
          case rel => exact ⟨j + 1, by omega, by go_num, by rw [HU.out]; go_num, HR.out⟩
          case measure => simp [intOf]; omega
        · obtain rfl : j = n := by omega
          go_wp2
          go_ret
          exact ⟨_, rfl, by rwa [List.take_of_length_le (by rw [fieldBits_length]; omega)] at hW⟩
end Go.Proofs.Ytpphgmgdmdehpaa
