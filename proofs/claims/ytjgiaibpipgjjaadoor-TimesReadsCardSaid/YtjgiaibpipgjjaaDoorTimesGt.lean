/- Layer 5: the program's Get. -/
import Derived.Test.YtjgiaibpipgjjaaDoorTimesGc
import Derived.Test.YtjgiaibpipgjjaaDoorTimesI
set_option linter.unusedVariables false
namespace Go.Proofs.YtjgiaibpipgjjaaDoor
open Go Go.RowKit

theorem sign_64 {u : Nat} (h : u < 18446744073709551616) : signT u 64 = toI u := by
  simp only [signT, toI]
  split <;> split <;> omega
theorem decX_err {b : List Bool} (h : (decX b).e ≠ 0) : decX b = ⟨(decX b).e, 0, (decX b).r⟩ := by
  revert h
  simp only [decX]
  split
  · intro _; rfl
  · split
    · intro _; rfl
    · split
      · intro _; rfl
      · intro h; exact absurd rfl h
theorem rp_more {S : Nat → Prop} {p : Nat} {v : Value} {bs : List Nat} {r0 r : List Bool} {w w2 w3 : World} (h0 : RIs p v bs r0 w) (h : RP p v bs r w w2) (hm : Mods S w2 w3) (hS : ∀ k, S k → w.heap.size ≤ k) : RP p v bs r w w3 := by
  have hlt := h0.1.blk.lt
  have hM : Mods (fun k => k = p) w w3 := h.2.trans hm (fun j hj e => by have := hS j e; omega)
  refine ⟨⟨⟨?_, h0.1.rd.mods hM (fun k hk e => h0.1.ne (by rw [hk, e])), h0.1.ne, h.1.1.le, h0.1.small, h0.1.byte⟩, h.1.2⟩, hM⟩
  exact h.1.1.blk.of_same (hm.block _ h.1.1.blk.lt (fun e => by have := hS p e; omega))
theorem RP.q {p : Nat} {v : Value} {bs : List Nat} {o : Res (List Int)} {w w' : World} {e : Ending} (h : RP p v bs o.r w w') (hr : ∃ r, e = .returned (.tuple #[r, .int .i64 (o.e : Int)]) ∧ Rd w' 1 r o.x.length (i64s o.x) ∧ (∀ k, r.ownBlock = some k → w.heap.size ≤ k)) : GetQ p v bs w o e w' :=
  ⟨hr, h.1.1, h.2⟩
theorem RP.fails {p : Nat} {v : Value} {bs : List Nat} {r : List Bool} {o : Res (List Int)} {w w' : World} {en : Nat} (h : RP p v bs r w w') (ho : o = ⟨en, [], r⟩) : GetQ p v bs w o (.returned (.tuple #[.slice none 0 0, .int .i64 (en : Int)])) w' := by
  subst ho
  exact h.q ⟨_, rfl, Rd.nil _ _, fun k e => by cases e⟩

/-- Where Get stands between two rounds. -/
structure GetIn (p : Nat) (v : Value) (bs : List Nat) (w : World) (n : Nat) (bits : List Bool) (k : Nat) (acc : List Int) (last d : Int) (cur : List Bool) (lv : Value) (wr : World) : Prop where
  len : acc.length = k + 1
  lst : acc[k]? = some last
  dec : decT n bits = ext acc (decFrom (n - (k + 1)) last d cur)
  row : wr.ownsRow w.heap.size 2 1 lv acc.length (i64s acc)
  rp : RP p v bs cur w wr

theorem times_get_neg (p : Nat) (v : Value) (i : Nat) (n : Int) (bs : List Nat) (w : World) (h : ReaderIn w p v i bs) (hn : n < 0) (hm : -9223372036854775808 ≤ n) :
    Calls Tryd.prog 20 #[.pointer (some ⟨p, 0, none⟩), .int .i64 n] w fun e w' => (∃ r, e = .returned (.tuple #[r, .int .i64 2]) ∧ Rd w' 1 r 0 []) ∧ RBitsPost p v i bs w w' := by
  have H := Lib.hid h
  clear h
  go_enter Tryd.func20, Tryd.ntmps20
  go_wp2_with fail
  go_ret2
  exact ⟨⟨_, rfl, Rd.nil _ _⟩, H.out, Mods.refl _ _⟩

set_option maxRecDepth 10000 in
set_option maxHeartbeats 4000000 in
theorem times_get (p : Nat) (v : Value) (n : Nat) (bs : List Nat) (bits : List Bool) (w : World) (h : RIs p v bs bits w) (hT : TabF w) (hgp : 0 ≠ p) (hn : n ≤ 1000000) :
    Calls Tryd.prog 20 #[.pointer (some ⟨p, 0, none⟩), .int .i64 (n : Int)] w (GetQ p v bs w (decT n bits)) := by
  have HT := Lib.hid hT; have H := Lib.hid h
  clear hT h
  by_cases h0 : n = 0
  · subst h0
    go_enter Tryd.func20, Tryd.ntmps20
    go_wp2_with fail
    go_ret2
    exact H.out.start.fails (o := decT 0 bits) rfl
  · obtain ⟨m, hm⟩ : ∃ m, n = m + 1 := ⟨n - 1, by omega⟩
    have hn1 : (n : Int) - 1 = (m : Int) := by omega
    have hnb : ((n : Int) == 0) = false := by rw [beq_eq_false_iff_ne]; omega
    have hnn : ¬ (n : Int) < 0 := by omega
    have hmb : (m : Int) ≤ 1000000 := by omega
    have HNM : Hid (n = m + 1) := hm
    have HN : Hid (Calls Tryd.prog 34 #[.pointer (some ⟨p, 0, none⟩), .int .i64 64] w fun e w' => e = .returned (.tuple #[.int .i64 (signT (field 64 bits).x 64), .int .i64 ((field 64 bits).e : Int)]) ∧ RP p v bs (field 64 bits).r w w') := get_number p v bs bits 4 (by decide) w H.out
    have HPl : Hid (p < w.heap.size) := H.out.1.blk.lt
    clear hm
    by_cases h64 : bits.length < 64
    · have hf : field 64 bits = ⟨3, 0, bits⟩ := by rw [field, if_pos h64]
      rw [hf] at HN
      have HD := Lib.hid (getAt_first_eof (n := n) (by omega) h64)
      clear hf h64
      go_enter Tryd.func20, Tryd.ntmps20
      go_wp2_with fail
      refine HN.out.mono ?_
      rintro e w2 ⟨rfl, hP⟩
      have HP := Lib.hid hP
      clear hP
      go_wp2_with fail
      go_ret2
      exact HP.out.fails HD.out
    · have hf : field 64 bits = ⟨0, numOf (bits.take 64), bits.drop 64⟩ := by rw [field, if_neg h64]
      have hlt := numOf_lt (bits.take 64)
      rw [List.length_take, Nat.min_eq_left (by omega)] at hlt
      have HG1 := Lib.hid (getAt_first (n := n) (by omega) h64)
      rw [hf] at HN
      simp only at HN
      rw [sign_64 hlt] at HN
      generalize toI (numOf (bits.take 64)) = t at *
      clear hf hlt h64
      generalize bits.drop 64 = cur1 at *
      go_enter Tryd.func20, Tryd.ntmps20
      go_wp2_with fail
      refine HN.out.mono ?_
      rintro e w2 ⟨rfl, hP⟩
      have HP := Lib.hid hP
      clear hP HN
      go_wp2_with fail
      have HG0 : Hid (GetIn p v bs w n bits 0 [t] t 0 cur1 (.slice (some ⟨w2.heap.size, 0, none⟩) 1 1) (w2.alloc (.cells #[.int .i64 t] 2))) := by
        refine ⟨rfl, rfl, ?_, World.ownsRow_lit (base := w.heap.size) w2 #[.int .i64 t] 1 HP.out.2.size (by simp [maxLen]) (by simp), HP.out.below ((Below.refl _ w2).alloc (Nat.le_refl _) _)⟩
        rcases HG1.out with ⟨h, _⟩ | ⟨k', last', hk', _, hl', hd⟩
        · cases h
        · obtain rfl : k' = 0 := by omega
          obtain rfl : t = last' := by simpa using hl'
          exact hd
      clear HP HG1
      generalize w2.alloc (.cells #[.int .i64 t] 2) = w3 at *
      go_loopw [6, 8, 9, 30] (fun tv lv dv kv wr => ∃ (k : Nat) (acc : List Int) (last d : Int) (cur : List Bool), k ≤ m ∧ kv = .int .i64 (k : Int) ∧ tv = .int .i64 last ∧ dv = .int .i64 d ∧ Hid (GetIn p v bs w n bits k acc last d cur lv wr)) (fun _ _ _ kv _ => m - (intOf kv).toNat)
      case atStart => exact ⟨0, [t], t, 0, cur1, by omega, rfl, rfl, rfl, HG0.out⟩
      case round =>
        obtain ⟨k, acc, last, d, cur, hkm, rfl, rfl, rfl, HG⟩ := hrel
        obtain ⟨pa, ca, hva⟩ := (Rd.of_owns HG.out.row).shape
        rw [HG.out.len] at hva
        subst hva
        by_cases hk : k < m
        · have hk' : (k : Int) < (m : Int) := by omega
          have HTr : Hid (TabF wr) := HT.out.block (HG.out.rp.2.block _ HT.out.lt hgp)
          have HC := Lib.hid (get_change p v bs cur wr HG.out.rp.1 HTr.out hgp)
          by_cases he : (decX cur).e = 0
          · have HX : Hid (decX cur = ⟨0, (decX cur).x, (decX cur).r⟩) := by show _ = _; rw [← he]
            have HNx := Lib.hid (getAt_next (n := n) (by have := HNM.out; omega) HG.out.len HG.out.dec HX.out)
            rw [he] at HC
            clear HX he
            generalize (decX cur).x = x at *
            generalize (decX cur).r = cur2 at *
            go_wp2_with fail
            refine HC.out.mono ?_
            rintro e w4 ⟨rfl, hP⟩
            have HO4 := Lib.hid (hP.2.owns HG.out.row (fun j hj e => by have := (HG.out.row.lt j hj).1; have := HPl.out; omega))
            have HP4 := Lib.hid (rp_trans HG.out.rp hP)
            have HLb : Hid ((k + 1 + 1) * 8 ≤ 140737488355328 ∧ k + 1 + 1 ≤ maxLen) := by show _ ∧ _; unfold maxLen; omega
            have HLen := Lib.hid HG.out.len
            have HO5 : Hid (w4.ownsRow 0 2 1 (.slice pa (k + 1) ca) (k + 1) (i64s acc)) := by
              have h := owns_rebase HO4.out (base' := 0) (fun _ _ => Nat.zero_le _)
              rw [HLen.out] at h
              exact h
            clear hP HC
            go_wp2_with (at_builtin; refine wpList_push Tryd.elemI64 w4 #[.int .i64 (wrap64 (last + wrap64 (d + x)))] _ _ _ HO5.out rfl (one_cell _ rfl) HLb.out rfl _ _ rfl rfl rfl ?_)
            intro v8 w8 hown hmods hfr
            have HG8 : Hid (GetIn p v bs w n bits (k + 1) (acc ++ [wrap64 (last + wrap64 (d + x))]) (wrap64 (last + wrap64 (d + x))) (wrap64 (d + x)) cur2 v8 w8) := by
              refine ⟨by rw [List.length_append, HLen.out]; rfl, by rw [List.getElem?_append_right (by rw [HLen.out]; omega), HLen.out]; simp, ?_, ?_, ?_⟩
              · rcases HNx.out with ⟨h, _⟩ | ⟨k', last', hk', _, hl', hd⟩
                · omega
                · obtain rfl : k' = k + 1 := by omega
                  rw [List.getElem?_append_right (by rw [HLen.out]; omega), HLen.out, Nat.sub_self] at hl'
                  have hl2 : wrap64 (last + wrap64 (d + x)) = last' := by simpa using hl'
                  rw [hl2] at hd ⊢
                  exact hd
              · rw [List.length_append, i64s_append, HLen.out]
                refine owns_rebase hown (fun j hj => ?_)
                rcases hfr j hj with e | e
                · exact (HO4.out.lt j e).1
                · have := HP4.out.2.size; omega
              · exact rp_more H.out HP4.out hmods (fun j e => (HO4.out.lt j e).1)
            obtain ⟨p8, c8, hv8⟩ : ∃ p c, v8 = .slice p (k + 2) c := by have := (Rd.of_owns HG8.out.row).shape; rwa [List.length_append, HLen.out] at this
            subst hv8
            clear hown hmods hfr HO5 HO4 HP4 HNx
            go_wp2_with fail
            go_round
            case rel => exact ⟨k + 1, _, _, _, cur2, by omega, by go_num, rfl, rfl, HG8.out⟩
            case measure => simp [intOf]; omega
          · have HB := Lib.hid (getAt_bad (n := n) (by have := HNM.out; omega) HG.out.dec he (decX_err he))
            have hne : ((decX cur).e : Int) ≠ 0 := by omega
            have hneb : (((decX cur).e : Int) == 0) = false := by rw [beq_eq_false_iff_ne]; exact hne
            clear he
            generalize (decX cur).x = x at *
            generalize (decX cur).r = cur2 at *
            generalize (decX cur).e = en at *
            go_wp2_with fail
            refine HC.out.mono ?_
            rintro e w4 ⟨rfl, hP⟩
            have HP4 := Lib.hid (rp_trans HG.out.rp hP)
            clear hP HC
            go_wp2_with fail
            go_ret2
            exact HP4.out.fails HB.out
        · have hk' : ¬ (k : Int) < (m : Int) := by omega
          have HD : Hid (decT n bits = ⟨0, acc, cur⟩) := by
            show _ = _
            have h := HG.out.dec
            rw [show n - (k + 1) = 0 by have := HNM.out; omega, decFrom] at h
            rw [h]
            simp [ext]
          go_wp2_with fail
          go_ret2
          rw [HD.out]
          exact HG.out.rp.q ⟨_, rfl, Rd.of_owns (by have := HG.out.row; exact this), fun j hj => (HG.out.row.lt j hj).1⟩
end Go.Proofs.YtjgiaibpipgjjaaDoor
