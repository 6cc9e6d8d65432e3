/- slices.Sort of words: partitionEqualOrdered. -/
import Derived.Test.YtpphgmgdmdehpaaSortA
set_option linter.unusedVariables false
set_option maxRecDepth 20000
namespace Go.Proofs.Ytpphgmgdmdehpaa
open Go Go.RowKit

/-- Where a partition of equals stands: below i none greater than p, above j all. -/
structure EInv (w wr : World) (g n c a b : Nat) (d x : Array Nat) (i j p : Nat) : Prop where
  su : SU w wr g n c x
  perm : Sort.PermIn a b d x
  hp : x[a]! = p
  lo : ∀ k, a < k → k < i → x[k]! ≤ p
  hi : ∀ k, j < k → k < b → p < x[k]!
  b1 : a < i
  b2 : j < b
  b3 : i ≤ j + 1
section
variable {w wr wz : World} {g n c a b : Nat} {d x : Array Nat} {i j p q : Nat}
theorem EInv.drewN (h : EInv w wr g n c a b d x i j p) (m : Nat) : EInv w (wr.drewN m) g n c a b d x i j p := ⟨h.su.drewN m, h.perm, h.hp, h.lo, h.hi, h.b1, h.b2, h.b3⟩
theorem EInv.up (h : EInv w wr g n c a b d x i j p) (hij : i ≤ j) (hl : ltU p x[i]! = false) : EInv w wr g n c a b d x (i + 1) j p :=
  ⟨h.su, h.perm, h.hp, fun k h1 h2 => by
    by_cases e : k = i
    · subst e; simpa [ltU] using hl
    · exact h.lo k h1 (by omega), h.hi, by have := h.b1; omega, h.b2, by omega⟩
theorem EInv.down (h : EInv w wr g n c a b d x i (j + 1) p) (hij : i ≤ j + 1) (hl : ltU p x[j + 1]! = true) : EInv w wr g n c a b d x i j p :=
  ⟨h.su, h.perm, h.hp, h.lo, fun k h1 h2 => by
    by_cases e : k = j + 1
    · subst e; simpa [ltU] using hl
    · exact h.hi k (by omega) h2, h.b1, by have := h.b2; omega, hij⟩
theorem EInv.swap (h : EInv w wr g n c a b d x i (j + 1) p) (hb : b ≤ n) (hij : i ≤ j + 1) (hi : ltU p x[i]! = true) (hj : ltU p x[j + 1]! = false) (hs : SU w wz g n c (Sort.swp x i (j + 1))) : i ≤ j ∧ EInv w wz g n c a b d (Sort.swp x i (j + 1)) (i + 1) j p := by
  have hne : i ≠ j + 1 := fun e => by subst e; rw [hi] at hj; cases hj
  have hsz := h.su.sz
  have h1 := h.b1; have h2 := h.b2
  have ei : (Sort.swp x i (j + 1))[i]! = x[j + 1]! := Sort.swp_left x i (j + 1) (by omega) hne
  have ej : (Sort.swp x i (j + 1))[j + 1]! = x[i]! := Sort.swp_right x i (j + 1) (by omega)
  have eo : ∀ k, k ≠ i → k ≠ j + 1 → (Sort.swp x i (j + 1))[k]! = x[k]! := fun k e1 e2 => Sort.swp_other x i (j + 1) k e1 e2
  refine ⟨by omega, hs, Sort.permIn_trans _ _ _ _ _ h.perm (Sort.swp_permIn x a b i (j + 1) (by omega) (by omega) (by omega) h2 (by omega)), ?_, ?_, ?_, by omega, by omega, by omega⟩
  · rw [eo a (by omega) (by omega)]; exact h.hp
  · intro k k1 k2
    by_cases e : k = i
    · subst e; rw [ei]; simpa [ltU] using hj
    · rw [eo k e (by omega)]; exact h.lo k k1 (by omega)
  · intro k k1 k2
    by_cases e : k = j + 1
    · subst e; rw [ej]; simpa [ltU] using hi
    · rw [eo k (by omega) e]; exact h.hi k (by omega) k2
/-- What a partition of equals gives. -/
structure PartedE (w wr : World) (g n c a b : Nat) (d x : Array Nat) (m p : Nat) : Prop where
  su : SU w wr g n c x
  perm : Sort.PermIn a b d x
  b1 : a < m
  b2 : m ≤ b
  lo : ∀ k, a ≤ k → k < m → ltU p x[k]! = false
  hi : ∀ k, m ≤ k → k < b → ltU p x[k]! = true
theorem EInv.parted (h : EInv w wr g n c a b d x i j p) (hij : j < i) : PartedE w wr g n c a b d x i p := by
  have h1 := h.b1; have h2 := h.b2; have h3 := h.b3
  refine ⟨h.su, h.perm, h1, by omega, ?_, ?_⟩
  · intro k k1 k2
    by_cases e : k = a
    · subst e; rw [h.hp]; simp [ltU]
    · have := h.lo k (by omega) k2; simpa [ltU] using this
  · intro k k1 k2
    have := h.hi k (by omega) k2
    simpa [ltU] using this
theorem EInv.start (h : SU w wr g n c (Sort.swp d a q)) (hd : d.size = n) (hq : a ≤ q) (hqb : q < b) (hb : b ≤ n) : EInv w wr g n c a b d (Sort.swp d a q) (a + 1) (b - 1) d[q]! := by
  have hp : (Sort.swp d a q)[a]! = d[q]! := by
    by_cases e : a = q
    · subst e; exact Sort.swp_right d a a (by omega)
    · exact Sort.swp_left d a q (by omega) e
  exact ⟨h, Sort.swp_permIn d a b a q (Nat.le_refl _) (by omega) hq hqb (by omega), hp, fun k k1 k2 => by omega, fun k k1 k2 => by omega, by omega, by omega, by omega⟩
end

set_option maxHeartbeats 80000000 in
theorem partition_equal_u64 (g n c a b q : Nat) (d : Array Nat) (w : World) (h : SU w w g n c d) (hq : a ≤ q) (hqb : q < b) (hb : b ≤ n) (hn : n < 4611686018427387904) :
    Calls Try.prog 65 #[.slice (some ⟨g, 0, none⟩) n c, .int .i64 (a : Int), .int .i64 (b : Int), .int .i64 (q : Int)] w fun e w' => ∃ (m : Nat) (x : Array Nat), e = .returned (.int .i64 (m : Int)) ∧ PartedE w w' g n c a b d x m d[q]! := by
  have HS := Lib.hid h
  clear h
  have hci := HS.out.cell (i := a) (by omega)
  have hfi := HS.out.free a
  have hcj := HS.out.cell (i := q) (by omega)
  have hfj := HS.out.free q
  have hin : (a : Int) < (n : Int) := by omega
  have hjn : (q : Int) < (n : Int) := by omega
  have HS2 := Lib.hid (HS.out.swp (i := a) (j := q) (by omega) (by omega))
  obtain ⟨hmc, hmf⟩ := HS.out.mid (i := a) (j := q) (by omega) (by omega)
  obtain ⟨p, hpq⟩ : ∃ p, d[q]! = p := ⟨_, rfl⟩
  have HPQ := Lib.hid hpq
  rw [hpq] at hcj hmc hmf HS2 ⊢
  clear hpq
  go_enter Try.func65, Try.ntmps65
  go_wp2_with fail
  go_big_region
  obtain ⟨J, hJ1, hJ2⟩ : ∃ J, b ≤ J + 1 ∧ J + 1 ≤ b := ⟨b - 1, by omega, by omega⟩
  have hJi : (b : Int) - 1 = (J : Int) := by omega
  have HP1 := Lib.hid (EInv.start HS2.out HS.out.sz hq hqb hb)
  rw [show b - 1 = J by omega, HPQ.out] at HP1
  generalize World.drew _ = w1 at *
  clear hci hfi hcj hfj hmc hmf HS HS2 hjn
  generalize Sort.swp d a q = x0 at *
  go_wp2_with fail
  go_loopw [9, 10] (fun iv jv wr => ∃ (i j : Nat) (z : Array Nat), iv = .int .i64 (i : Int) ∧ jv = .int .i64 (j : Int) ∧ Hid (EInv w wr g n c a b d z i j p)) (fun iv _ _ => b + 1 - (intOf iv).toNat)
  case atStart => exact ⟨a + 1, J, x0, by go_num, by go_num, HP1.out⟩
  case round =>
    obtain ⟨i0, jJ, z, rfl, rfl, HS4⟩ := hrel
    clear HP1
    have hbj := HS4.out.b2
    go_wp2_with fail
    go_loopw [9] (fun iv wr => ∃ i : Nat, iv = .int .i64 (i : Int) ∧ i0 ≤ i ∧ Hid (EInv w wr g n c a b d z i jJ p)) (fun iv _ => b + 1 - (intOf iv).toNat)
    case atStart => exact ⟨i0, by go_num, Nat.le_refl _, HS4.out⟩
    case round =>
      obtain ⟨i, rfl, hI0, HA⟩ := hrel
      have hb1 := HA.out.b1; have hb2 := HA.out.b2; have hb3 := HA.out.b3
      clear HS4
      by_cases hij : i ≤ jJ
      · have hiji : (i : Int) ≤ (jJ : Int) := by omega
        have hgd : decide ((i : Int) ≤ (jJ : Int)) = true := decide_eq_true hiji
        have hci := HA.out.su.cell (i := i) (by omega)
        have hca := HA.out.su.cell (i := a) (by omega)
        rw [HA.out.hp] at hca
        have hin : (i : Int) < (n : Int) := by omega
        go_wp2_with fail
        go_quiet ((go_at_call 50; refine Calls.quiet_of_same (less_u64' _ _ _)))
        have HB := Lib.hid (HA.out.drewN nq)
        generalize World.drewN _ nq = wq at *
        clear hci hca HA
        cases hl : ltU p z[i]! with
        | false =>
          have HC := Lib.hid (HB.out.up hij hl)
          go_wp2_with fail
          go_round
          case rel => exact ⟨i + 1, by go_num, by omega, HC.out⟩
          case measure => simp [intOf] <;> omega
        | true =>
          have HF : Hid (i ≤ jJ → ltU p z[i]! = true) := fun _ => hl
          clear hiji hgd hij hl
          go_wp2_with fail
          go_loopw [10] (fun jv wr => ∃ j : Nat, jv = .int .i64 (j : Int) ∧ j ≤ jJ ∧ Hid (EInv w wr g n c a b d z i j p)) (fun jv _ => (intOf jv).toNat)
          case atStart => exact ⟨jJ, by go_num, Nat.le_refl _, HB.out⟩
          case round =>
            obtain ⟨j, rfl, hjJ, HA⟩ := hrel
            have hc2 := HA.out.b2; have hc3 := HA.out.b3
            clear HB
            by_cases hij : i ≤ j
            · obtain ⟨j, rfl⟩ : ∃ z, j = z + 1 := ⟨j - 1, by omega⟩
              have hiji : (i : Int) ≤ ((j + 1 : Nat) : Int) := by omega
              have hgd : decide ((i : Int) ≤ (j : Int) + 1) = true := decide_eq_true (by omega)
              have hcj := HA.out.su.cell (i := j + 1) (by omega)
              have hca := HA.out.su.cell (i := a) (by omega)
              rw [HA.out.hp] at hca
              have hjn : (j : Int) + 1 < (n : Int) := by omega
              go_wp2_with fail
              go_quiet ((go_at_call 50; refine Calls.quiet_of_same (less_u64' _ _ _)))
              have HB := Lib.hid (HA.out.drewN nq)
              generalize World.drewN _ nq = wq2 at *
              clear hcj hca HA
              cases hl : ltU p z[j + 1]! with
              | true =>
                have HC := Lib.hid (HB.out.down hij hl)
                go_wp2_with fail
                go_round
                case rel => exact ⟨j, by go_num, by omega, HC.out⟩
                case measure => simp [intOf] <;> omega
              | false =>
                have hli : ltU p z[i]! = true := HF.out (by omega)
                have HJ : Hid (i ≤ j + 1 ∧ ltU p z[i]! = true ∧ ltU p z[j + 1]! = false) := ⟨hij, hli, hl⟩
                have hgt : ¬ ((j + 1 : Nat) : Int) < (i : Int) := by omega
                clear hgd hli hl hiji
                have hci := HB.out.su.cell (i := i) (by omega)
                have hfi := HB.out.su.free i
                have hcj := HB.out.su.cell (i := j + 1) (by omega)
                have hfj := HB.out.su.free (j + 1)
                have hin : (i : Int) < (n : Int) := by omega
                have hjn : (j : Int) + 1 < (n : Int) := by omega
                obtain ⟨hmc, hmf⟩ := HB.out.su.mid (i := i) (j := j + 1) (by omega) (by omega)
                obtain ⟨hij2, hsw⟩ := HB.out.swap hb HJ.out.1 HJ.out.2.1 HJ.out.2.2 (HB.out.su.swp (i := i) (j := j + 1) (by omega) (by omega))
                have HS3 := Lib.hid hsw
                clear hsw
                go_wp2_with fail
                go_big_region
                generalize World.drew _ = w3 at *
                clear hci hcj hfi hfj hmc hmf HJ HB
                generalize Sort.swp z i (j + 1) = y at *
                go_wp2_with fail
                go_round
                case rel => exact ⟨i + 1, j, y, by go_num, by go_num, HS3.out⟩
                case measure => simp [intOf] <;> omega
            · have hiji : ¬ (i : Int) ≤ (j : Int) := by omega
              have hgd : decide ((i : Int) ≤ (j : Int)) = false := decide_eq_false hiji
              go_wp2_with fail
              go_quiet ((go_at_call 50; refine Calls.quiet_of_same (less_u64' _ _ _)))
              have HB := Lib.hid (HA.out.drewN nq)
              generalize World.drewN _ nq = wq2 at *
              clear HA hgd
              have hgt : (j : Int) < (i : Int) := by omega
              have HE := Lib.hid (HB.out.parted (by omega))
              go_wp2_with fail
              go_ret
              exact ⟨i, _, rfl, HE.out⟩
      · have hiji : ¬ (i : Int) ≤ (jJ : Int) := by omega
        have hgd : decide ((i : Int) ≤ (jJ : Int)) = false := decide_eq_false hiji
        have HF : Hid (i ≤ jJ → ltU p z[i]! = true) := fun h => absurd h hij
        go_wp2_with fail
        go_quiet ((go_at_call 50; refine Calls.quiet_of_same (less_u64' _ _ _)))
        have HB := Lib.hid (HA.out.drewN nq)
        generalize World.drewN _ nq = wq at *
        clear HA hiji hgd hij
        go_wp2_with fail
        go_loopw [10] (fun jv wr => ∃ j : Nat, jv = .int .i64 (j : Int) ∧ j ≤ jJ ∧ Hid (EInv w wr g n c a b d z i j p)) (fun jv _ => (intOf jv).toNat)
        case atStart => exact ⟨jJ, by go_num, Nat.le_refl _, HB.out⟩
        case round =>
          obtain ⟨j, rfl, hjJ, HA⟩ := hrel
          have hc2 := HA.out.b2; have hc3 := HA.out.b3
          clear HB
          by_cases hij : i ≤ j
          · obtain ⟨j, rfl⟩ : ∃ z, j = z + 1 := ⟨j - 1, by omega⟩
            have hiji : (i : Int) ≤ ((j + 1 : Nat) : Int) := by omega
            have hgd : decide ((i : Int) ≤ (j : Int) + 1) = true := decide_eq_true (by omega)
            have hcj := HA.out.su.cell (i := j + 1) (by omega)
            have hca := HA.out.su.cell (i := a) (by omega)
            rw [HA.out.hp] at hca
            have hjn : (j : Int) + 1 < (n : Int) := by omega
            go_wp2_with fail
            go_quiet ((go_at_call 50; refine Calls.quiet_of_same (less_u64' _ _ _)))
            have HB := Lib.hid (HA.out.drewN nq)
            generalize World.drewN _ nq = wq2 at *
            clear hcj hca HA
            cases hl : ltU p z[j + 1]! with
            | true =>
              have HC := Lib.hid (HB.out.down hij hl)
              go_wp2_with fail
              go_round
              case rel => exact ⟨j, by go_num, by omega, HC.out⟩
              case measure => simp [intOf] <;> omega
            | false =>
              have hli : ltU p z[i]! = true := HF.out (by omega)
              have HJ : Hid (i ≤ j + 1 ∧ ltU p z[i]! = true ∧ ltU p z[j + 1]! = false) := ⟨hij, hli, hl⟩
              have hgt : ¬ ((j + 1 : Nat) : Int) < (i : Int) := by omega
              clear hgd hli hl hiji
              have hci := HB.out.su.cell (i := i) (by omega)
              have hfi := HB.out.su.free i
              have hcj := HB.out.su.cell (i := j + 1) (by omega)
              have hfj := HB.out.su.free (j + 1)
              have hin : (i : Int) < (n : Int) := by omega
              have hjn : (j : Int) + 1 < (n : Int) := by omega
              obtain ⟨hmc, hmf⟩ := HB.out.su.mid (i := i) (j := j + 1) (by omega) (by omega)
              obtain ⟨hij2, hsw⟩ := HB.out.swap hb HJ.out.1 HJ.out.2.1 HJ.out.2.2 (HB.out.su.swp (i := i) (j := j + 1) (by omega) (by omega))
              have HS3 := Lib.hid hsw
              clear hsw
              go_wp2_with fail
              go_big_region
              generalize World.drew _ = w3 at *
              clear hci hcj hfi hfj hmc hmf HJ HB
              generalize Sort.swp z i (j + 1) = y at *
              go_wp2_with fail
              go_round
              case rel => exact ⟨i + 1, j, y, by go_num, by go_num, HS3.out⟩
              case measure => simp [intOf] <;> omega
          · have hiji : ¬ (i : Int) ≤ (j : Int) := by omega
            have hgd : decide ((i : Int) ≤ (j : Int)) = false := decide_eq_false hiji
            go_wp2_with fail
            go_quiet ((go_at_call 50; refine Calls.quiet_of_same (less_u64' _ _ _)))
            have HB := Lib.hid (HA.out.drewN nq)
            generalize World.drewN _ nq = wq2 at *
            clear HA hgd
            have hgt : (j : Int) < (i : Int) := by omega
            have HE := Lib.hid (HB.out.parted (by omega))
            go_wp2_with fail
            go_ret
            exact ⟨i, _, rfl, HE.out⟩
end Go.Proofs.Ytpphgmgdmdehpaa
