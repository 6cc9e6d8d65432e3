/- slices.Sort of words: partitionOrdered. -/
import Derived.Test.YtpphgmgdmdehpaaSortA
set_option linter.unusedVariables false
set_option maxRecDepth 20000
namespace Go.Proofs.Ytpphgmgdmdehpaa
open Go Go.RowKit

/-- Where a partition stands: below i all less than p, above j none. -/
structure PInv (w wr : World) (g n c a b : Nat) (d x : Array Nat) (i j p : Nat) : Prop where
  su : SU w wr g n c x
  perm : Sort.PermIn a b d x
  hp : x[a]! = p
  lo : ∀ k, a < k → k < i → x[k]! < p
  hi : ∀ k, j < k → k < b → p ≤ x[k]!
  b1 : a < i
  b2 : j < b
  b3 : i ≤ j + 1
section
variable {w wr wz : World} {g n c a b : Nat} {d x : Array Nat} {i j p q : Nat}
theorem PInv.drewN (h : PInv w wr g n c a b d x i j p) (m : Nat) : PInv w (wr.drewN m) g n c a b d x i j p := ⟨h.su.drewN m, h.perm, h.hp, h.lo, h.hi, h.b1, h.b2, h.b3⟩
theorem PInv.up (h : PInv w wr g n c a b d x i j p) (hij : i ≤ j) (hl : ltU x[i]! p = true) : PInv w wr g n c a b d x (i + 1) j p :=
  ⟨h.su, h.perm, h.hp, fun k h1 h2 => by
    by_cases e : k = i
    · subst e; simpa [ltU] using hl
    · exact h.lo k h1 (by omega), h.hi, by have := h.b1; omega, h.b2, by omega⟩
theorem PInv.down (h : PInv w wr g n c a b d x i (j + 1) p) (hij : i ≤ j + 1) (hl : ltU x[j + 1]! p = false) : PInv w wr g n c a b d x i j p :=
  ⟨h.su, h.perm, h.hp, h.lo, fun k h1 h2 => by
    by_cases e : k = j + 1
    · subst e; simpa [ltU] using hl
    · exact h.hi k (by omega) h2, h.b1, by have := h.b2; omega, hij⟩
theorem PInv.size (h : PInv w wr g n c a b d x i j p) : x.size = d.size := h.perm.1
theorem PInv.swap (h : PInv w wr g n c a b d x i (j + 1) p) (hb : b ≤ n) (hij : i ≤ j + 1) (hi : ltU x[i]! p = false) (hj : ltU x[j + 1]! p = true) (hs : SU w wz g n c (Sort.swp x i (j + 1))) : i ≤ j ∧ PInv w wz g n c a b d (Sort.swp x i (j + 1)) (i + 1) j p := by
  have hne : i ≠ j + 1 := fun e => by subst e; rw [hi] at hj; cases hj
  have hsz := h.su.sz
  have h1 := h.b1; have h2 := h.b2
  have ei : (Sort.swp x i (j + 1))[i]! = x[j + 1]! := Sort.swp_left x i (j + 1) (by omega) hne
  have ej : (Sort.swp x i (j + 1))[j + 1]! = x[i]! := Sort.swp_right x i (j + 1) (by omega)
  have eo : ∀ k, k ≠ i → k ≠ j + 1 → (Sort.swp x i (j + 1))[k]! = x[k]! := fun k e1 e2 => Sort.swp_other x i (j + 1) k e1 e2
  refine ⟨by omega, hs, Sort.permIn_trans _ _ _ _ _ h.perm (Sort.swp_permIn x a b i (j + 1) (by omega) (by omega) (by omega) h2 (by omega)), ?_, ?_, ?_, by omega, by omega, by omega⟩
  · rw [eo a (by omega) (by omega)]; exact h.hp
  · intro k k1 k2
    by_cases e : k = i
    · subst e; rw [ei]; simpa [ltU] using hj
    · rw [eo k e (by omega)]; exact h.lo k k1 (by omega)
  · intro k k1 k2
    by_cases e : k = j + 1
    · subst e; rw [ej]; simpa [ltU] using hi
    · rw [eo k (by omega) e]; exact h.hi k (by omega) k2
/-- What a partition gives. -/
structure Parted (w wr : World) (g n c a b : Nat) (d x : Array Nat) (m : Nat) : Prop where
  su : SU w wr g n c x
  perm : Sort.PermIn a b d x
  b1 : a ≤ m
  b2 : m < b
  lo : ∀ k, a ≤ k → k < m → ltU x[k]! x[m]! = true
  hi : ∀ k, m < k → k < b → ltU x[k]! x[m]! = false
theorem PInv.parted (h : PInv w wr g n c a b d x i j p) (hb : b ≤ n) (hij : j < i) (hs : SU w wz g n c (Sort.swp x j a)) : Parted w wz g n c a b d (Sort.swp x j a) j := by
  have hsz := h.su.sz
  have h1 := h.b1; have h2 := h.b2; have h3 := h.b3
  have ea : (Sort.swp x j a)[a]! = x[j]! := Sort.swp_right x j a (by omega)
  have ej : (Sort.swp x j a)[j]! = p := by
    by_cases e : j = a
    · subst e; rw [ea]; exact h.hp
    · rw [Sort.swp_left x j a (by omega) e]; exact h.hp
  have eo : ∀ k, k ≠ j → k ≠ a → (Sort.swp x j a)[k]! = x[k]! := fun k e1 e2 => Sort.swp_other x j a k e1 e2
  refine ⟨hs, Sort.permIn_trans _ _ _ _ _ h.perm (Sort.swp_permIn x a b j a (by omega) h2 (Nat.le_refl _) (by omega) (by omega)), by omega, h2, ?_, ?_⟩
  · intro k k1 k2
    rw [ej]
    by_cases e : k = a
    · subst e; rw [ea]; have := h.lo j (by omega) (by omega); simpa [ltU] using this
    · rw [eo k (by omega) e]; have := h.lo k (by omega) (by omega); simpa [ltU] using this
  · intro k k1 k2
    rw [ej, eo k (by omega) (by omega)]
    have := h.hi k k1 k2
    simpa [ltU] using this
theorem PInv.start (h : SU w wr g n c (Sort.swp d a q)) (hd : d.size = n) (hq : a ≤ q) (hqb : q < b) (hb : b ≤ n) : PInv w wr g n c a b d (Sort.swp d a q) (a + 1) (b - 1) (Sort.swp d a q)[a]! :=
  ⟨h, Sort.swp_permIn d a b a q (Nat.le_refl _) (by omega) hq hqb (by omega), rfl, fun k k1 k2 => by omega, fun k k1 k2 => by omega, by omega, by omega, by omega⟩
end

set_option maxHeartbeats 80000000 in
theorem partition_u64 (g n c a b q : Nat) (d : Array Nat) (w : World) (h : SU w w g n c d) (hq : a ≤ q) (hqb : q < b) (hb : b ≤ n) (hn : n < 4611686018427387904) :
    Calls Try.prog 66 #[.slice (some ⟨g, 0, none⟩) n c, .int .i64 (a : Int), .int .i64 (b : Int), .int .i64 (q : Int)] w fun e w' => ∃ (m : Nat) (r : Bool) (x : Array Nat), e = .returned (.tuple #[.int .i64 (m : Int), .bool r]) ∧ Parted w w' g n c a b d x m := by
  have HS := Lib.hid h
  clear h
  have hci := HS.out.cell (i := a) (by omega)
  have hfi := HS.out.free a
  have hcj := HS.out.cell (i := q) (by omega)
  have hfj := HS.out.free q
  have hin : (a : Int) < (n : Int) := by omega
  have hjn : (q : Int) < (n : Int) := by omega
  have HS2 := Lib.hid (HS.out.swp (i := a) (j := q) (by omega) (by omega))
  go_enter Try.func66, Try.ntmps66
  obtain ⟨hmc, hmf⟩ := HS.out.mid (i := a) (j := q) (by omega) (by omega)
  go_wp2_with fail
  go_big_region
  obtain ⟨J, hJ⟩ : ∃ J, b = J + 1 := ⟨b - 1, by omega⟩
  have hJi : (b : Int) - 1 = (J : Int) := by omega
  have HP1 := Lib.hid (PInv.start HS2.out HS.out.sz hq hqb hb)
  rw [show b - 1 = J by omega] at HP1
  generalize World.drew _ = w1 at *
  clear hci hfi hcj hfj hmc hmf HS HS2 hjn
  generalize Sort.swp d a q = x0 at *
  generalize x0[a]! = p at *
  go_wp2_with fail
  go_loopw [10] (fun iv wr => ∃ i : Nat, iv = .int .i64 (i : Int) ∧ a + 1 ≤ i ∧ Hid (PInv w wr g n c a b d x0 i J p)) (fun iv _ => b + 1 - (intOf iv).toNat)
  case atStart => exact ⟨a + 1, by go_num, Nat.le_refl _, HP1.out⟩
  case round =>
    obtain ⟨i, rfl, hI0, HA⟩ := hrel
    have hb1 := HA.out.b1; have hb2 := HA.out.b2; have hb3 := HA.out.b3
    clear HP1
    by_cases hij : i ≤ J
    · have hiji : (i : Int) ≤ (J : Int) := by omega
      have hgd : decide ((i : Int) ≤ (J : Int)) = true := decide_eq_true hiji
      have hci := HA.out.su.cell (i := i) (by omega)
      have hca := HA.out.su.cell (i := a) (by omega)
      rw [HA.out.hp] at hca
      have hin : (i : Int) < (n : Int) := by omega
      go_wp2_with fail
      go_quiet ((go_at_call 50; refine Calls.quiet_of_same (less_u64' _ _ _)))
      have HB := Lib.hid (HA.out.drewN nq)
      generalize World.drewN _ nq = wq at *
      clear hci hca HA
      cases hl : ltU x0[i]! p with
      | true =>
        have HC := Lib.hid (HB.out.up hij hl)
        go_wp2_with fail
        go_round
        case rel => exact ⟨i + 1, by go_num, by omega, HC.out⟩
        case measure => simp [intOf] <;> omega
      | false =>
        have HF : Hid (i ≤ J → ltU x0[i]! p = false) := fun _ => hl
        clear hiji hgd hij hl
        go_wp2_with fail
        go_loopw [11] (fun jv wr => ∃ j : Nat, jv = .int .i64 (j : Int) ∧ j ≤ J ∧ Hid (PInv w wr g n c a b d x0 i j p)) (fun jv _ => (intOf jv).toNat)
        case atStart => exact ⟨J, by go_num, Nat.le_refl _, HB.out⟩
        case round =>
          obtain ⟨j, rfl, hjJ, HA⟩ := hrel
          have hc2 := HA.out.b2; have hc3 := HA.out.b3
          clear HB
          by_cases hij : i ≤ j
          · obtain ⟨j, rfl⟩ : ∃ z, j = z + 1 := ⟨j - 1, by omega⟩
            have hiji : (i : Int) ≤ ((j + 1 : Nat) : Int) := by omega
            have hgd : decide ((i : Int) ≤ (j : Int) + 1) = true := decide_eq_true (by omega)
            have hcj := HA.out.su.cell (i := j + 1) (by omega)
            have hca := HA.out.su.cell (i := a) (by omega)
            rw [HA.out.hp] at hca
            have hjn : (j : Int) + 1 < (n : Int) := by omega
            go_wp2_with fail
            go_quiet ((go_at_call 50; refine Calls.quiet_of_same (less_u64' _ _ _)))
            have HB := Lib.hid (HA.out.drewN nq)
            generalize World.drewN _ nq = wq2 at *
            clear hcj hca HA
            cases hl : ltU x0[j + 1]! p with
            | false =>
              have HC := Lib.hid (HB.out.down hij hl)
              go_wp2_with fail
              go_round
              case rel => exact ⟨j, by go_num, by omega, HC.out⟩
              case measure => simp [intOf] <;> omega
            | true =>
              have hli : ltU x0[i]! p = false := HF.out (by omega)
              have HJ : Hid (i ≤ j + 1 ∧ ltU x0[i]! p = false ∧ ltU x0[j + 1]! p = true) := ⟨hij, hli, hl⟩
              have hgt : ¬ ((j + 1 : Nat) : Int) < (i : Int) := by omega
              clear hgd hli hl hiji
              have hci := HB.out.su.cell (i := i) (by omega)
              have hfi := HB.out.su.free i
              have hcj := HB.out.su.cell (i := j + 1) (by omega)
              have hfj := HB.out.su.free (j + 1)
              have hin : (i : Int) < (n : Int) := by omega
              have hjn : (j : Int) + 1 < (n : Int) := by omega
              obtain ⟨hmc, hmf⟩ := HB.out.su.mid (i := i) (j := j + 1) (by omega) (by omega)
              obtain ⟨hij2, hsw⟩ := HB.out.swap hb HJ.out.1 HJ.out.2.1 HJ.out.2.2 (HB.out.su.swp (i := i) (j := j + 1) (by omega) (by omega))
              have HS3 := Lib.hid hsw
              clear hsw
              go_wp2_with fail
              go_big_region
              generalize World.drew _ = w3 at *
              clear hci hcj hfi hfj hmc hmf HJ HB
              generalize Sort.swp x0 i (j + 1) = y at *
              go_wp2_with fail
              go_loopw [10, 11] (fun iv jv wr => ∃ (i j : Nat) (z : Array Nat), iv = .int .i64 (i : Int) ∧ jv = .int .i64 (j : Int) ∧ Hid (PInv w wr g n c a b d z i j p)) (fun iv _ _ => b + 1 - (intOf iv).toNat)
              case atStart => exact ⟨i + 1, j, y, by go_num, by go_num, HS3.out⟩
              case round =>
                obtain ⟨i0, jJ, z, rfl, rfl, HS4⟩ := hrel
                clear HS3 HF hgt hij hij2 hc2 hc3 hb1 hb2 hb3 hI0
                have hbj := HS4.out.b2
                go_wp2_with fail
                go_loopw [10] (fun iv wr => ∃ i : Nat, iv = .int .i64 (i : Int) ∧ i0 ≤ i ∧ Hid (PInv w wr g n c a b d z i jJ p)) (fun iv _ => b + 1 - (intOf iv).toNat)
                case atStart => exact ⟨i0, by go_num, Nat.le_refl _, HS4.out⟩
                case round =>
                  obtain ⟨i, rfl, hI0, HA⟩ := hrel
                  have hb1 := HA.out.b1; have hb2 := HA.out.b2; have hb3 := HA.out.b3
                  clear HS4
                  by_cases hij : i ≤ jJ
                  · have hiji : (i : Int) ≤ (jJ : Int) := by omega
                    have hgd : decide ((i : Int) ≤ (jJ : Int)) = true := decide_eq_true hiji
                    have hci := HA.out.su.cell (i := i) (by omega)
                    have hca := HA.out.su.cell (i := a) (by omega)
                    rw [HA.out.hp] at hca
                    have hin : (i : Int) < (n : Int) := by omega
                    go_wp2_with fail
                    go_quiet ((go_at_call 50; refine Calls.quiet_of_same (less_u64' _ _ _)))
                    have HB := Lib.hid (HA.out.drewN nq)
                    generalize World.drewN _ nq = wq at *
                    clear hci hca HA
                    cases hl : ltU z[i]! p with
                    | true =>
                      have HC := Lib.hid (HB.out.up hij hl)
                      go_wp2_with fail
                      go_round
                      case rel => exact ⟨i + 1, by go_num, by omega, HC.out⟩
                      case measure => simp [intOf] <;> omega
                    | false =>
                      have HF : Hid (i ≤ jJ → ltU z[i]! p = false) := fun _ => hl
                      clear hiji hgd hij hl
                      go_wp2_with fail
                      go_loopw [11] (fun jv wr => ∃ j : Nat, jv = .int .i64 (j : Int) ∧ j ≤ jJ ∧ Hid (PInv w wr g n c a b d z i j p)) (fun jv _ => (intOf jv).toNat)
                      case atStart => exact ⟨jJ, by go_num, Nat.le_refl _, HB.out⟩
                      case round =>
                        obtain ⟨j, rfl, hjJ, HA⟩ := hrel
                        have hc2 := HA.out.b2; have hc3 := HA.out.b3
                        clear HB
                        by_cases hij : i ≤ j
                        · obtain ⟨j, rfl⟩ : ∃ z, j = z + 1 := ⟨j - 1, by omega⟩
                          have hiji : (i : Int) ≤ ((j + 1 : Nat) : Int) := by omega
                          have hgd : decide ((i : Int) ≤ (j : Int) + 1) = true := decide_eq_true (by omega)
                          have hcj := HA.out.su.cell (i := j + 1) (by omega)
                          have hca := HA.out.su.cell (i := a) (by omega)
                          rw [HA.out.hp] at hca
                          have hjn : (j : Int) + 1 < (n : Int) := by omega
                          go_wp2_with fail
                          go_quiet ((go_at_call 50; refine Calls.quiet_of_same (less_u64' _ _ _)))
                          have HB := Lib.hid (HA.out.drewN nq)
                          generalize World.drewN _ nq = wq2 at *
                          clear hcj hca HA
                          cases hl : ltU z[j + 1]! p with
                          | false =>
                            have HC := Lib.hid (HB.out.down hij hl)
                            go_wp2_with fail
                            go_round
                            case rel => exact ⟨j, by go_num, by omega, HC.out⟩
                            case measure => simp [intOf] <;> omega
                          | true =>
                            have hli : ltU z[i]! p = false := HF.out (by omega)
                            have HJ : Hid (i ≤ j + 1 ∧ ltU z[i]! p = false ∧ ltU z[j + 1]! p = true) := ⟨hij, hli, hl⟩
                            have hgt : ¬ ((j + 1 : Nat) : Int) < (i : Int) := by omega
                            clear hgd hli hl hiji
                            have hci := HB.out.su.cell (i := i) (by omega)
                            have hfi := HB.out.su.free i
                            have hcj := HB.out.su.cell (i := j + 1) (by omega)
                            have hfj := HB.out.su.free (j + 1)
                            have hin : (i : Int) < (n : Int) := by omega
                            have hjn : (j : Int) + 1 < (n : Int) := by omega
                            obtain ⟨hmc, hmf⟩ := HB.out.su.mid (i := i) (j := j + 1) (by omega) (by omega)
                            obtain ⟨hij2, hsw⟩ := HB.out.swap hb HJ.out.1 HJ.out.2.1 HJ.out.2.2 (HB.out.su.swp (i := i) (j := j + 1) (by omega) (by omega))
                            have HS3 := Lib.hid hsw
                            clear hsw
                            go_wp2_with fail
                            go_big_region
                            generalize World.drew _ = w3 at *
                            clear hci hcj hfi hfj hmc hmf HJ HB
                            generalize Sort.swp z i (j + 1) = y at *
                            go_wp2_with fail
                            go_round
                            case rel => exact ⟨i + 1, j, y, by go_num, by go_num, HS3.out⟩
                            case measure => simp [intOf] <;> omega
                        · have hiji : ¬ (i : Int) ≤ (j : Int) := by omega
                          have hgd : decide ((i : Int) ≤ (j : Int)) = false := decide_eq_false hiji
                          go_wp2_with fail
                          go_quiet ((go_at_call 50; refine Calls.quiet_of_same (less_u64' _ _ _)))
                          have HB := Lib.hid (HA.out.drewN nq)
                          generalize World.drewN _ nq = wq2 at *
                          clear HA hgd
                          have hgt : (j : Int) < (i : Int) := by omega
                          have hcj := HB.out.su.cell (i := j) (by omega)
                          have hfj := HB.out.su.free j
                          have hca := HB.out.su.cell (i := a) (by omega)
                          have hfa := HB.out.su.free a
                          have hjn : (j : Int) < (n : Int) := by omega
                          obtain ⟨hmc, hmf⟩ := HB.out.su.mid (i := j) (j := a) (by omega) (by omega)
                          have HE := Lib.hid (HB.out.parted hb (by omega) (HB.out.su.swp (i := j) (j := a) (by omega) (by omega)))
                          go_wp2_with fail
                          go_big_region
                          go_wp2_with fail
                          go_ret2
                          exact ⟨j, _, _, rfl, HE.out⟩
                  · have hiji : ¬ (i : Int) ≤ (jJ : Int) := by omega
                    have hgd : decide ((i : Int) ≤ (jJ : Int)) = false := decide_eq_false hiji
                    have HF : Hid (i ≤ jJ → ltU z[i]! p = false) := fun h => absurd h hij
                    go_wp2_with fail
                    go_quiet ((go_at_call 50; refine Calls.quiet_of_same (less_u64' _ _ _)))
                    have HB := Lib.hid (HA.out.drewN nq)
                    generalize World.drewN _ nq = wq at *
                    clear HA hiji hgd hij
                    go_wp2_with fail
                    go_loopw [11] (fun jv wr => ∃ j : Nat, jv = .int .i64 (j : Int) ∧ j ≤ jJ ∧ Hid (PInv w wr g n c a b d z i j p)) (fun jv _ => (intOf jv).toNat)
                    case atStart => exact ⟨jJ, by go_num, Nat.le_refl _, HB.out⟩
                    case round =>
                      obtain ⟨j, rfl, hjJ, HA⟩ := hrel
                      have hc2 := HA.out.b2; have hc3 := HA.out.b3
                      clear HB
                      by_cases hij : i ≤ j
                      · obtain ⟨j, rfl⟩ : ∃ z, j = z + 1 := ⟨j - 1, by omega⟩
                        have hiji : (i : Int) ≤ ((j + 1 : Nat) : Int) := by omega
                        have hgd : decide ((i : Int) ≤ (j : Int) + 1) = true := decide_eq_true (by omega)
                        have hcj := HA.out.su.cell (i := j + 1) (by omega)
                        have hca := HA.out.su.cell (i := a) (by omega)
                        rw [HA.out.hp] at hca
                        have hjn : (j : Int) + 1 < (n : Int) := by omega
                        go_wp2_with fail
                        go_quiet ((go_at_call 50; refine Calls.quiet_of_same (less_u64' _ _ _)))
                        have HB := Lib.hid (HA.out.drewN nq)
                        generalize World.drewN _ nq = wq2 at *
                        clear hcj hca HA
                        cases hl : ltU z[j + 1]! p with
                        | false =>
                          have HC := Lib.hid (HB.out.down hij hl)
                          go_wp2_with fail
                          go_round
                          case rel => exact ⟨j, by go_num, by omega, HC.out⟩
                          case measure => simp [intOf] <;> omega
                        | true =>
                          have hli : ltU z[i]! p = false := HF.out (by omega)
                          have HJ : Hid (i ≤ j + 1 ∧ ltU z[i]! p = false ∧ ltU z[j + 1]! p = true) := ⟨hij, hli, hl⟩
                          have hgt : ¬ ((j + 1 : Nat) : Int) < (i : Int) := by omega
                          clear hgd hli hl hiji
                          have hci := HB.out.su.cell (i := i) (by omega)
                          have hfi := HB.out.su.free i
                          have hcj := HB.out.su.cell (i := j + 1) (by omega)
                          have hfj := HB.out.su.free (j + 1)
                          have hin : (i : Int) < (n : Int) := by omega
                          have hjn : (j : Int) + 1 < (n : Int) := by omega
                          obtain ⟨hmc, hmf⟩ := HB.out.su.mid (i := i) (j := j + 1) (by omega) (by omega)
                          obtain ⟨hij2, hsw⟩ := HB.out.swap hb HJ.out.1 HJ.out.2.1 HJ.out.2.2 (HB.out.su.swp (i := i) (j := j + 1) (by omega) (by omega))
                          have HS3 := Lib.hid hsw
                          clear hsw
                          go_wp2_with fail
                          go_big_region
                          generalize World.drew _ = w3 at *
                          clear hci hcj hfi hfj hmc hmf HJ HB
                          generalize Sort.swp z i (j + 1) = y at *
                          go_wp2_with fail
                          go_round
                          case rel => exact ⟨i + 1, j, y, by go_num, by go_num, HS3.out⟩
                          case measure => simp [intOf] <;> omega
                      · have hiji : ¬ (i : Int) ≤ (j : Int) := by omega
                        have hgd : decide ((i : Int) ≤ (j : Int)) = false := decide_eq_false hiji
                        go_wp2_with fail
                        go_quiet ((go_at_call 50; refine Calls.quiet_of_same (less_u64' _ _ _)))
                        have HB := Lib.hid (HA.out.drewN nq)
                        generalize World.drewN _ nq = wq2 at *
                        clear HA hgd
                        have hgt : (j : Int) < (i : Int) := by omega
                        have hcj := HB.out.su.cell (i := j) (by omega)
                        have hfj := HB.out.su.free j
                        have hca := HB.out.su.cell (i := a) (by omega)
                        have hfa := HB.out.su.free a
                        have hjn : (j : Int) < (n : Int) := by omega
                        obtain ⟨hmc, hmf⟩ := HB.out.su.mid (i := j) (j := a) (by omega) (by omega)
                        have HE := Lib.hid (HB.out.parted hb (by omega) (HB.out.su.swp (i := j) (j := a) (by omega) (by omega)))
                        go_wp2_with fail
                        go_big_region
                        go_wp2_with fail
                        go_ret2
                        exact ⟨j, _, _, rfl, HE.out⟩
          · have hiji : ¬ (i : Int) ≤ (j : Int) := by omega
            have hgd : decide ((i : Int) ≤ (j : Int)) = false := decide_eq_false hiji
            go_wp2_with fail
            go_quiet ((go_at_call 50; refine Calls.quiet_of_same (less_u64' _ _ _)))
            have HB := Lib.hid (HA.out.drewN nq)
            generalize World.drewN _ nq = wq2 at *
            clear HA hgd
            have hgt : (j : Int) < (i : Int) := by omega
            have hcj := HB.out.su.cell (i := j) (by omega)
            have hfj := HB.out.su.free j
            have hca := HB.out.su.cell (i := a) (by omega)
            have hfa := HB.out.su.free a
            have hjn : (j : Int) < (n : Int) := by omega
            obtain ⟨hmc, hmf⟩ := HB.out.su.mid (i := j) (j := a) (by omega) (by omega)
            have HE := Lib.hid (HB.out.parted hb (by omega) (HB.out.su.swp (i := j) (j := a) (by omega) (by omega)))
            go_wp2_with fail
            go_big_region
            go_wp2_with fail
            go_ret2
            exact ⟨j, _, _, rfl, HE.out⟩
    · have hiji : ¬ (i : Int) ≤ (J : Int) := by omega
      have hgd : decide ((i : Int) ≤ (J : Int)) = false := decide_eq_false hiji
      have HF : Hid (i ≤ J → ltU x0[i]! p = false) := fun h => absurd h hij
      go_wp2_with fail
      go_quiet ((go_at_call 50; refine Calls.quiet_of_same (less_u64' _ _ _)))
      have HB := Lib.hid (HA.out.drewN nq)
      generalize World.drewN _ nq = wq at *
      clear HA hiji hgd hij
      go_wp2_with fail
      go_loopw [11] (fun jv wr => ∃ j : Nat, jv = .int .i64 (j : Int) ∧ j ≤ J ∧ Hid (PInv w wr g n c a b d x0 i j p)) (fun jv _ => (intOf jv).toNat)
      case atStart => exact ⟨J, by go_num, Nat.le_refl _, HB.out⟩
      case round =>
        obtain ⟨j, rfl, hjJ, HA⟩ := hrel
        have hc2 := HA.out.b2; have hc3 := HA.out.b3
        clear HB
        by_cases hij : i ≤ j
        · obtain ⟨j, rfl⟩ : ∃ z, j = z + 1 := ⟨j - 1, by omega⟩
          have hiji : (i : Int) ≤ ((j + 1 : Nat) : Int) := by omega
          have hgd : decide ((i : Int) ≤ (j : Int) + 1) = true := decide_eq_true (by omega)
          have hcj := HA.out.su.cell (i := j + 1) (by omega)
          have hca := HA.out.su.cell (i := a) (by omega)
          rw [HA.out.hp] at hca
          have hjn : (j : Int) + 1 < (n : Int) := by omega
          go_wp2_with fail
          go_quiet ((go_at_call 50; refine Calls.quiet_of_same (less_u64' _ _ _)))
          have HB := Lib.hid (HA.out.drewN nq)
          generalize World.drewN _ nq = wq2 at *
          clear hcj hca HA
          cases hl : ltU x0[j + 1]! p with
          | false =>
            have HC := Lib.hid (HB.out.down hij hl)
            go_wp2_with fail
            go_round
            case rel => exact ⟨j, by go_num, by omega, HC.out⟩
            case measure => simp [intOf] <;> omega
          | true =>
            have hli : ltU x0[i]! p = false := HF.out (by omega)
            have HJ : Hid (i ≤ j + 1 ∧ ltU x0[i]! p = false ∧ ltU x0[j + 1]! p = true) := ⟨hij, hli, hl⟩
            have hgt : ¬ ((j + 1 : Nat) : Int) < (i : Int) := by omega
            clear hgd hli hl hiji
            have hci := HB.out.su.cell (i := i) (by omega)
            have hfi := HB.out.su.free i
            have hcj := HB.out.su.cell (i := j + 1) (by omega)
            have hfj := HB.out.su.free (j + 1)
            have hin : (i : Int) < (n : Int) := by omega
            have hjn : (j : Int) + 1 < (n : Int) := by omega
            obtain ⟨hmc, hmf⟩ := HB.out.su.mid (i := i) (j := j + 1) (by omega) (by omega)
            obtain ⟨hij2, hsw⟩ := HB.out.swap hb HJ.out.1 HJ.out.2.1 HJ.out.2.2 (HB.out.su.swp (i := i) (j := j + 1) (by omega) (by omega))
            have HS3 := Lib.hid hsw
            clear hsw
            go_wp2_with fail
            go_big_region
            generalize World.drew _ = w3 at *
            clear hci hcj hfi hfj hmc hmf HJ HB
            generalize Sort.swp x0 i (j + 1) = y at *
            go_wp2_with fail
            go_loopw [10, 11] (fun iv jv wr => ∃ (i j : Nat) (z : Array Nat), iv = .int .i64 (i : Int) ∧ jv = .int .i64 (j : Int) ∧ Hid (PInv w wr g n c a b d z i j p)) (fun iv _ _ => b + 1 - (intOf iv).toNat)
            case atStart => exact ⟨i + 1, j, y, by go_num, by go_num, HS3.out⟩
            case round =>
              obtain ⟨i0, jJ, z, rfl, rfl, HS4⟩ := hrel
              clear HS3 HF hgt hij hij2 hc2 hc3 hb1 hb2 hb3 hI0
              have hbj := HS4.out.b2
              go_wp2_with fail
              go_loopw [10] (fun iv wr => ∃ i : Nat, iv = .int .i64 (i : Int) ∧ i0 ≤ i ∧ Hid (PInv w wr g n c a b d z i jJ p)) (fun iv _ => b + 1 - (intOf iv).toNat)
              case atStart => exact ⟨i0, by go_num, Nat.le_refl _, HS4.out⟩
              case round =>
                obtain ⟨i, rfl, hI0, HA⟩ := hrel
                have hb1 := HA.out.b1; have hb2 := HA.out.b2; have hb3 := HA.out.b3
                clear HS4
                by_cases hij : i ≤ jJ
                · have hiji : (i : Int) ≤ (jJ : Int) := by omega
                  have hgd : decide ((i : Int) ≤ (jJ : Int)) = true := decide_eq_true hiji
                  have hci := HA.out.su.cell (i := i) (by omega)
                  have hca := HA.out.su.cell (i := a) (by omega)
                  rw [HA.out.hp] at hca
                  have hin : (i : Int) < (n : Int) := by omega
                  go_wp2_with fail
                  go_quiet ((go_at_call 50; refine Calls.quiet_of_same (less_u64' _ _ _)))
                  have HB := Lib.hid (HA.out.drewN nq)
                  generalize World.drewN _ nq = wq at *
                  clear hci hca HA
                  cases hl : ltU z[i]! p with
                  | true =>
                    have HC := Lib.hid (HB.out.up hij hl)
                    go_wp2_with fail
                    go_round
                    case rel => exact ⟨i + 1, by go_num, by omega, HC.out⟩
                    case measure => simp [intOf] <;> omega
                  | false =>
                    have HF : Hid (i ≤ jJ → ltU z[i]! p = false) := fun _ => hl
                    clear hiji hgd hij hl
                    go_wp2_with fail
                    go_loopw [11] (fun jv wr => ∃ j : Nat, jv = .int .i64 (j : Int) ∧ j ≤ jJ ∧ Hid (PInv w wr g n c a b d z i j p)) (fun jv _ => (intOf jv).toNat)
                    case atStart => exact ⟨jJ, by go_num, Nat.le_refl _, HB.out⟩
                    case round =>
                      obtain ⟨j, rfl, hjJ, HA⟩ := hrel
                      have hc2 := HA.out.b2; have hc3 := HA.out.b3
                      clear HB
                      by_cases hij : i ≤ j
                      · obtain ⟨j, rfl⟩ : ∃ z, j = z + 1 := ⟨j - 1, by omega⟩
                        have hiji : (i : Int) ≤ ((j + 1 : Nat) : Int) := by omega
                        have hgd : decide ((i : Int) ≤ (j : Int) + 1) = true := decide_eq_true (by omega)
                        have hcj := HA.out.su.cell (i := j + 1) (by omega)
                        have hca := HA.out.su.cell (i := a) (by omega)
                        rw [HA.out.hp] at hca
                        have hjn : (j : Int) + 1 < (n : Int) := by omega
                        go_wp2_with fail
                        go_quiet ((go_at_call 50; refine Calls.quiet_of_same (less_u64' _ _ _)))
                        have HB := Lib.hid (HA.out.drewN nq)
                        generalize World.drewN _ nq = wq2 at *
                        clear hcj hca HA
                        cases hl : ltU z[j + 1]! p with
                        | false =>
                          have HC := Lib.hid (HB.out.down hij hl)
                          go_wp2_with fail
                          go_round
                          case rel => exact ⟨j, by go_num, by omega, HC.out⟩
                          case measure => simp [intOf] <;> omega
                        | true =>
                          have hli : ltU z[i]! p = false := HF.out (by omega)
                          have HJ : Hid (i ≤ j + 1 ∧ ltU z[i]! p = false ∧ ltU z[j + 1]! p = true) := ⟨hij, hli, hl⟩
                          have hgt : ¬ ((j + 1 : Nat) : Int) < (i : Int) := by omega
                          clear hgd hli hl hiji
                          have hci := HB.out.su.cell (i := i) (by omega)
                          have hfi := HB.out.su.free i
                          have hcj := HB.out.su.cell (i := j + 1) (by omega)
                          have hfj := HB.out.su.free (j + 1)
                          have hin : (i : Int) < (n : Int) := by omega
                          have hjn : (j : Int) + 1 < (n : Int) := by omega
                          obtain ⟨hmc, hmf⟩ := HB.out.su.mid (i := i) (j := j + 1) (by omega) (by omega)
                          obtain ⟨hij2, hsw⟩ := HB.out.swap hb HJ.out.1 HJ.out.2.1 HJ.out.2.2 (HB.out.su.swp (i := i) (j := j + 1) (by omega) (by omega))
                          have HS3 := Lib.hid hsw
                          clear hsw
                          go_wp2_with fail
                          go_big_region
                          generalize World.drew _ = w3 at *
                          clear hci hcj hfi hfj hmc hmf HJ HB
                          generalize Sort.swp z i (j + 1) = y at *
                          go_wp2_with fail
                          go_round
                          case rel => exact ⟨i + 1, j, y, by go_num, by go_num, HS3.out⟩
                          case measure => simp [intOf] <;> omega
                      · have hiji : ¬ (i : Int) ≤ (j : Int) := by omega
                        have hgd : decide ((i : Int) ≤ (j : Int)) = false := decide_eq_false hiji
                        go_wp2_with fail
                        go_quiet ((go_at_call 50; refine Calls.quiet_of_same (less_u64' _ _ _)))
                        have HB := Lib.hid (HA.out.drewN nq)
                        generalize World.drewN _ nq = wq2 at *
                        clear HA hgd
                        have hgt : (j : Int) < (i : Int) := by omega
                        have hcj := HB.out.su.cell (i := j) (by omega)
                        have hfj := HB.out.su.free j
                        have hca := HB.out.su.cell (i := a) (by omega)
                        have hfa := HB.out.su.free a
                        have hjn : (j : Int) < (n : Int) := by omega
                        obtain ⟨hmc, hmf⟩ := HB.out.su.mid (i := j) (j := a) (by omega) (by omega)
                        have HE := Lib.hid (HB.out.parted hb (by omega) (HB.out.su.swp (i := j) (j := a) (by omega) (by omega)))
                        go_wp2_with fail
                        go_big_region
                        go_wp2_with fail
                        go_ret2
                        exact ⟨j, _, _, rfl, HE.out⟩
                · have hiji : ¬ (i : Int) ≤ (jJ : Int) := by omega
                  have hgd : decide ((i : Int) ≤ (jJ : Int)) = false := decide_eq_false hiji
                  have HF : Hid (i ≤ jJ → ltU z[i]! p = false) := fun h => absurd h hij
                  go_wp2_with fail
                  go_quiet ((go_at_call 50; refine Calls.quiet_of_same (less_u64' _ _ _)))
                  have HB := Lib.hid (HA.out.drewN nq)
                  generalize World.drewN _ nq = wq at *
                  clear HA hiji hgd hij
                  go_wp2_with fail
                  go_loopw [11] (fun jv wr => ∃ j : Nat, jv = .int .i64 (j : Int) ∧ j ≤ jJ ∧ Hid (PInv w wr g n c a b d z i j p)) (fun jv _ => (intOf jv).toNat)
                  case atStart => exact ⟨jJ, by go_num, Nat.le_refl _, HB.out⟩
                  case round =>
                    obtain ⟨j, rfl, hjJ, HA⟩ := hrel
                    have hc2 := HA.out.b2; have hc3 := HA.out.b3
                    clear HB
                    by_cases hij : i ≤ j
                    · obtain ⟨j, rfl⟩ : ∃ z, j = z + 1 := ⟨j - 1, by omega⟩
                      have hiji : (i : Int) ≤ ((j + 1 : Nat) : Int) := by omega
                      have hgd : decide ((i : Int) ≤ (j : Int) + 1) = true := decide_eq_true (by omega)
                      have hcj := HA.out.su.cell (i := j + 1) (by omega)
                      have hca := HA.out.su.cell (i := a) (by omega)
                      rw [HA.out.hp] at hca
                      have hjn : (j : Int) + 1 < (n : Int) := by omega
                      go_wp2_with fail
                      go_quiet ((go_at_call 50; refine Calls.quiet_of_same (less_u64' _ _ _)))
                      have HB := Lib.hid (HA.out.drewN nq)
                      generalize World.drewN _ nq = wq2 at *
                      clear hcj hca HA
                      cases hl : ltU z[j + 1]! p with
                      | false =>
                        have HC := Lib.hid (HB.out.down hij hl)
                        go_wp2_with fail
                        go_round
                        case rel => exact ⟨j, by go_num, by omega, HC.out⟩
                        case measure => simp [intOf] <;> omega
                      | true =>
                        have hli : ltU z[i]! p = false := HF.out (by omega)
                        have HJ : Hid (i ≤ j + 1 ∧ ltU z[i]! p = false ∧ ltU z[j + 1]! p = true) := ⟨hij, hli, hl⟩
                        have hgt : ¬ ((j + 1 : Nat) : Int) < (i : Int) := by omega
                        clear hgd hli hl hiji
                        have hci := HB.out.su.cell (i := i) (by omega)
                        have hfi := HB.out.su.free i
                        have hcj := HB.out.su.cell (i := j + 1) (by omega)
                        have hfj := HB.out.su.free (j + 1)
                        have hin : (i : Int) < (n : Int) := by omega
                        have hjn : (j : Int) + 1 < (n : Int) := by omega
                        obtain ⟨hmc, hmf⟩ := HB.out.su.mid (i := i) (j := j + 1) (by omega) (by omega)
                        obtain ⟨hij2, hsw⟩ := HB.out.swap hb HJ.out.1 HJ.out.2.1 HJ.out.2.2 (HB.out.su.swp (i := i) (j := j + 1) (by omega) (by omega))
                        have HS3 := Lib.hid hsw
                        clear hsw
                        go_wp2_with fail
                        go_big_region
                        generalize World.drew _ = w3 at *
                        clear hci hcj hfi hfj hmc hmf HJ HB
                        generalize Sort.swp z i (j + 1) = y at *
                        go_wp2_with fail
                        go_round
                        case rel => exact ⟨i + 1, j, y, by go_num, by go_num, HS3.out⟩
                        case measure => simp [intOf] <;> omega
                    · have hiji : ¬ (i : Int) ≤ (j : Int) := by omega
                      have hgd : decide ((i : Int) ≤ (j : Int)) = false := decide_eq_false hiji
                      go_wp2_with fail
                      go_quiet ((go_at_call 50; refine Calls.quiet_of_same (less_u64' _ _ _)))
                      have HB := Lib.hid (HA.out.drewN nq)
                      generalize World.drewN _ nq = wq2 at *
                      clear HA hgd
                      have hgt : (j : Int) < (i : Int) := by omega
                      have hcj := HB.out.su.cell (i := j) (by omega)
                      have hfj := HB.out.su.free j
                      have hca := HB.out.su.cell (i := a) (by omega)
                      have hfa := HB.out.su.free a
                      have hjn : (j : Int) < (n : Int) := by omega
                      obtain ⟨hmc, hmf⟩ := HB.out.su.mid (i := j) (j := a) (by omega) (by omega)
                      have HE := Lib.hid (HB.out.parted hb (by omega) (HB.out.su.swp (i := j) (j := a) (by omega) (by omega)))
                      go_wp2_with fail
                      go_big_region
                      go_wp2_with fail
                      go_ret2
                      exact ⟨j, _, _, rfl, HE.out⟩
        · have hiji : ¬ (i : Int) ≤ (j : Int) := by omega
          have hgd : decide ((i : Int) ≤ (j : Int)) = false := decide_eq_false hiji
          go_wp2_with fail
          go_quiet ((go_at_call 50; refine Calls.quiet_of_same (less_u64' _ _ _)))
          have HB := Lib.hid (HA.out.drewN nq)
          generalize World.drewN _ nq = wq2 at *
          clear HA hgd
          have hgt : (j : Int) < (i : Int) := by omega
          have hcj := HB.out.su.cell (i := j) (by omega)
          have hfj := HB.out.su.free j
          have hca := HB.out.su.cell (i := a) (by omega)
          have hfa := HB.out.su.free a
          have hjn : (j : Int) < (n : Int) := by omega
          obtain ⟨hmc, hmf⟩ := HB.out.su.mid (i := j) (j := a) (by omega) (by omega)
          have HE := Lib.hid (HB.out.parted hb (by omega) (HB.out.su.swp (i := j) (j := a) (by omega) (by omega)))
          go_wp2_with fail
          go_big_region
          go_wp2_with fail
          go_ret2
          exact ⟨j, _, _, rfl, HE.out⟩
end Go.Proofs.Ytpphgmgdmdehpaa
