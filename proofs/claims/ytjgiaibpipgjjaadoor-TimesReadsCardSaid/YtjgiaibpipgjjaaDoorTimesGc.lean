/- Layer 5: the program's reading of a number with its form. -/
import Derived.Test.YtjgiaibpipgjjaaDoorTimesRd
import Derived.Test.YtjgiaibpipgjjaaDoorTakeR
set_option linter.unusedVariables false
namespace Go.Proofs.YtjgiaibpipgjjaaDoor
open Go Go.RowKit

theorem rp_trans {p : Nat} {v : Value} {bs : List Nat} {r r' : List Bool} {a b c : World} (h : RP p v bs r a b) (k : RP p v bs r' b c) : RP p v bs r' a c := ⟨k.1, h.2.trans k.2 (fun _ _ e => e)⟩
theorem RP.below {p : Nat} {v : Value} {bs : List Nat} {r : List Bool} {a b c : World} (h : RP p v bs r a b) (k : Below b.heap.size b c) : RP p v bs r a c := ⟨h.1.below k, h.2.trans (Mods.of_below k _) (fun _ _ e => e)⟩
theorem RIs.start {p : Nat} {v : Value} {bs : List Nat} {r : List Bool} {w : World} (h : RIs p v bs r w) : RP p v bs r w w := ⟨h, Mods.refl _ _⟩

theorem mark_ne {a b : Nat} (ha : a ≤ 4) (hb : b ≤ 4) (h : a ≠ b) : (markT a : Int) ≠ (markT b : Int) := by
  unfold markT
  split <;> split <;> simp_all <;> omega

set_option maxHeartbeats 1000000 in
theorem get_change (p : Nat) (v : Value) (bs : List Nat) (r : List Bool) (w : World) (h : RIs p v bs r w) (hT : TabF w) (hgp : 0 ≠ p) :
    Calls Tryd.prog 35 #[.pointer (some ⟨p, 0, none⟩)] w fun e w' => e = .returned (.tuple #[.int .i64 (decX r).x, .int .i64 ((decX r).e : Int)]) ∧ RP p v bs (decX r).r w w' := by
  have HT := Lib.hid hT; have H := Lib.hid h
  have HF := Lib.hid (get_form p v bs r w h hT hgp)
  have HDx := Lib.hid (rfl : decX r = decX r)
  generalize hq : decX r = q at *
  have HQ := Lib.hid hq
  clear hT h hq HDx
  go_enter Tryd.func35, Tryd.ntmps35
  go_wp2_with fail
  refine HF.out.mono ?_
  rintro e w2 ⟨fv, en, r', rfl, hfr, hP2⟩
  have HP2 := Lib.hid hP2
  have HT2 : Hid (TabF w2) := HT.out.block (hP2.2.block _ HT.out.lt hgp)
  clear hP2 HF
  rcases hfr with ⟨K, hK4, hones, rfl, rfl⟩ | ⟨K, hones, rfl, rfl⟩
  · have HO := Lib.hid hones
    clear hones
    have hB3 : Below w2.heap.size w2 (w2.alloc (.cells #[.int .u64 (markT K : Int), .int .i64 (markLenT K : Int), .int .i64 (widthT K : Int)] 67)) := (Below.refl _ _).alloc (Nat.le_refl _) _
    have HP3 := Lib.hid (HP2.out.below hB3)
    have HT3 := Lib.hid (HT2.out.below hB3 (Nat.le_refl _))
    have HN := Lib.hid (get_number p v bs r' K hK4 _ HP3.out.1)
    have HB3 : Hid (Blk (w2.alloc (.cells #[.int .u64 (markT K : Int), .int .i64 (markLenT K : Int), .int .i64 (widthT K : Int)] 67)) w2.heap.size [.int .u64 (markT K : Int), .int .i64 (markLenT K : Int), .int .i64 (widthT K : Int)]) := Blk.new w2 _ _
    have HPl : Hid (w2.heap.size ≠ p) := fun e => by have := HP2.out.1.1.blk.lt; omega
    clear hB3
    by_cases hs : r'.length < widthT K
    · have hf : field (widthT K) r' = ⟨3, 0, r'⟩ := by rw [field, if_pos hs]
      have hd := decX_eof HO.out hs
      rw [HQ.out] at hd
      have HD := Lib.hid hd
      rw [hf] at HN
      clear hd hf hs
      go_wp2_with fail
      refine HN.out.mono ?_
      rintro e w4 ⟨rfl, hP4⟩
      have HP4 := Lib.hid (rp_trans HP3.out hP4)
      clear hP4 HN
      go_wp2_with fail
      go_ret2
      rw [HD.out]
      exact ⟨rfl, HP4.out⟩
    · have hf : field (widthT K) r' = ⟨0, numOf (r'.take (widthT K)), r'.drop (widthT K)⟩ := by rw [field, if_neg hs]
      have HDx := Lib.hid (fun h => decX_wrong HO.out hs h)
      have HDr := Lib.hid (fun h => decX_right HO.out hs h)
      rw [HQ.out] at HDx HDr
      rw [hf] at HN
      clear hf hs
      simp only at HN
      obtain ⟨s, hse⟩ : ∃ s, signT (numOf (r'.take (widthT K))) (widthT K) = s := ⟨_, rfl⟩
      rw [hse] at HN HDx HDr
      clear hse
      go_wp2_with fail
      refine HN.out.mono ?_
      rintro e w4 ⟨rfl, hP4⟩
      have HP4 := Lib.hid (rp_trans HP3.out hP4)
      have HB4 : Hid (Blk w4 w2.heap.size [.int .u64 (markT K : Int), .int .i64 (markLenT K : Int), .int .i64 (widthT K : Int)]) := hP4.2.blk HB3.out HPl.out
      have HT4 : Hid (TabF w4) := HT3.out.block (hP4.2.block _ HT3.out.lt hgp)
      have HFo := Lib.hid (formOf_cells s w4.drew (HT4.out.block rfl))
      clear hP4 HN
      go_wp2_with fail
      have HC : Hid (∀ w' : World, (w'.cell? ⟨w2.heap.size, 0, none⟩ = some (.int .u64 (markT K : Int)) ∧ w'.cell? ⟨w2.heap.size, 1, none⟩ = some (.int .i64 (markLenT K : Int)) ∧ w'.cell? ⟨w2.heap.size, 2, none⟩ = some (.int .i64 (widthT K : Int))) → (w'.cell? ⟨w2.heap.size, 0, none⟩ = some (.int .u64 (markT K : Int)) ∧ w'.cell? ⟨w2.heap.size, 1, none⟩ = some (.int .i64 (markLenT K : Int)) ∧ w'.cell? ⟨w2.heap.size, 2, none⟩ = some (.int .i64 (widthT K : Int)))) := fun _ h => h
      refine wp_normal ?_
      refine wp_region_takeH (fun w' : World => w'.cell? ⟨w2.heap.size, 0, none⟩ = some (.int .u64 (markT K : Int)) ∧ w'.cell? ⟨w2.heap.size, 1, none⟩ = some (.int .i64 (markLenT K : Int)) ∧ w'.cell? ⟨w2.heap.size, 2, none⟩ = some (.int .i64 (widthT K : Int))) [1] [0, 2, 1, 3] (by kernel_rfl) (by kernel_rfl) (by kernel_rfl) ?_ ?_ ?_
      · intro c a a' w hd h; cases h.1
      · exact HB4.out.three.1
      simp only [taken, List.map_cons, List.map_nil, List.getElem?_cons_succ, List.getElem?_cons_zero, Option.getD_some]
      repeat (first
        | (refine takeH_skip rfl ?_; simp only [Act.put, List.setIfInBounds_toArray, List.set_cons_succ, List.set_cons_zero])
        | (refine takeH_blind rfl rfl ?_; apply Exists.intro; refine ⟨fun w => ?_, ?_⟩; (go_simp; try with_reducible rfl); simp only [Act.put, List.setIfInBounds_toArray, List.set_cons_succ, List.set_cons_zero])
        | (refine takeH_reads rfl rfl ?_; apply Exists.intro; refine ⟨fun w' hS => ?_, ?_⟩; (obtain ⟨d0, d1, d2⟩ := HC.out w' hS; go_simp; try with_reducible rfl); simp only [Act.put, List.setIfInBounds_toArray, List.set_cons_succ, List.set_cons_zero]))
      refine takeH_call rfl rfl (fun K' hK => ?_)
      go_wp2_with fail
      refine HFo.out.mono ?_
      rintro e w5 ⟨rfl, hB5⟩
      have HP5 := Lib.hid ((show RP p v bs _ w w4.drew from ⟨HP4.out.1.mods (Mods.drew (fun _ => False) w4) (fun e => e) (fun _ _ e => e), HP4.out.2.trans (Mods.drew (fun k => k = p) w4) (fun _ _ e => e)⟩).below hB5)
      have hB4 := HB4.out.of_same (hB5.block _ HB4.out.lt)
      refine hK _ _ hB4.three.1 ?_
      clear hK K' hB5 hB4
      by_cases hk : formT s = K
      · have HD := Lib.hid (HDr.out hk)
        rw [hk]
        clear hk
        repeat (first
        | (refine takeH_skip rfl ?_; simp only [Act.put, List.setIfInBounds_toArray, List.set_cons_succ, List.set_cons_zero])
        | (refine takeH_blind rfl rfl ?_; apply Exists.intro; refine ⟨fun w => ?_, ?_⟩; (go_simp; try with_reducible rfl); simp only [Act.put, List.setIfInBounds_toArray, List.set_cons_succ, List.set_cons_zero])
        | (refine takeH_reads rfl rfl ?_; apply Exists.intro; refine ⟨fun w' hS => ?_, ?_⟩; (obtain ⟨d0, d1, d2⟩ := HC.out w' hS; go_simp; try with_reducible rfl); simp only [Act.put, List.setIfInBounds_toArray, List.set_cons_succ, List.set_cons_zero]))
        refine takeH_nil ⟨rfl, ?_⟩
        go_wp2_with fail
        go_ret2
        rw [HD.out]
        exact ⟨rfl, HP5.out⟩
      · have HD := Lib.hid (HDx.out hk)
        have hm := mark_ne (formT_le s) hK4 hk
        clear hk
        repeat (first
        | (refine takeH_skip rfl ?_; simp only [Act.put, List.setIfInBounds_toArray, List.set_cons_succ, List.set_cons_zero])
        | (refine takeH_blind rfl rfl ?_; apply Exists.intro; refine ⟨fun w => ?_, ?_⟩; (go_simp; try with_reducible rfl); simp only [Act.put, List.setIfInBounds_toArray, List.set_cons_succ, List.set_cons_zero])
        | (refine takeH_reads rfl rfl ?_; apply Exists.intro; refine ⟨fun w' hS => ?_, ?_⟩; (obtain ⟨d0, d1, d2⟩ := HC.out w' hS; go_simp; try with_reducible rfl); simp only [Act.put, List.setIfInBounds_toArray, List.set_cons_succ, List.set_cons_zero]))
        refine takeH_nil ⟨rfl, ?_⟩
        go_wp2_with fail
        go_ret2
        rw [HD.out]
        exact ⟨rfl, HP5.out⟩
  · have hd := decX_bad (by decide) hones
    rw [HQ.out] at hd
    have HD := Lib.hid hd
    clear hones hd
    go_wp2_with fail
    go_ret2
    rw [HD.out]
    exact ⟨rfl, HP2.out.below ((Below.refl _ _).alloc (Nat.le_refl _) _)⟩
end Go.Proofs.YtjgiaibpipgjjaaDoor
