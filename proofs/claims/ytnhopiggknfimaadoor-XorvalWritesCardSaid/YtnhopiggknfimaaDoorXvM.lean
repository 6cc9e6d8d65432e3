/- Layer 6: the program's Get. -/
import Derived.Test.YtnhopiggknfimaaDoorXvL
set_option linter.unusedVariables false
namespace Go.Proofs.YtnhopiggknfimaaDoor
open Go Go.RowKit

theorem RP.qv {p : Nat} {v : Value} {bs : List Nat} {o : Res (List Nat)} {w w' : World} {e : Ending} (h : RP p v bs o.r w w') (hr : ∃ r, e = .returned (.tuple #[r, .int .i64 (o.e : Int)]) ∧ Rd w' 1 r o.x.length (u64s o.x) ∧ (∀ k, r.ownBlock = some k → w.heap.size ≤ k)) : GetQV p v bs w o e w' :=
  ⟨hr, h.1.1, h.2⟩
theorem RP.failsV {p : Nat} {v : Value} {bs : List Nat} {r : List Bool} {o : Res (List Nat)} {w w' : World} {en : Nat} (h : RP p v bs r w w') (ho : o = ⟨en, [], r⟩) : GetQV p v bs w o (.returned (.tuple #[.slice none 0 0, .int .i64 (en : Int)])) w' := by
  subst ho
  exact h.qv ⟨_, rfl, Rd.nil _ _, fun k e => by cases e⟩

/-- Where Get stands between two rounds. -/
structure GetInV (g p : Nat) (v : Value) (bs : List Nat) (w : World) (n : Nat) (bits : List Bool) (k : Nat) (acc : List Nat) (last : Nat) (win : Option (Nat × Nat)) (cur : List Bool) (lv : Value) (wr : World) : Prop where
  len : acc.length = k + 1
  lst : acc[k]? = some last
  at_ : GetAtV n bits (k + 1) acc win cur
  row : wr.ownsRow w.heap.size 28 1 lv acc.length (u64s acc)
  rg : lv.ownBlock ≠ some g
  dec : DecIs w wr g p v bs cur last win wr

theorem atV_dec {n k : Nat} {bits cur : List Bool} {acc : List Nat} {win : Option (Nat × Nat)} {last : Nat} (h : GetAtV n bits (k + 1) acc win cur) (hl : acc[k]? = some last) : decV n bits = extV acc (decFromV (n - (k + 1)) win last cur) := by
  rcases h with ⟨h, _⟩ | ⟨k', last', hk, _, hl', _, _, hd⟩
  · cases h
  · obtain rfl : k = k' := by omega
    rw [hl] at hl'
    obtain rfl := Option.some.inj hl'
    exact hd

theorem xorval_get_neg (p : Nat) (v : Value) (i : Nat) (n : Int) (bs : List Nat) (w : World) (h : ReaderIn w p v i bs) (hn : n < 0) (hm : -9223372036854775808 ≤ n) :
    Calls Tryd.prog 20 #[.pointer (some ⟨p, 0, none⟩), .int .i64 n] w fun e w' => (∃ r, e = .returned (.tuple #[r, .int .i64 2]) ∧ Rd w' 1 r 0 []) ∧ RBitsPost p v i bs w w' := by
  have H := Lib.hid h
  clear h
  go_enter Tryd.func20, Tryd.ntmps20
  go_wp2_with fail
  go_ret2
  exact ⟨⟨_, rfl, Rd.nil _ _⟩, H.out, Mods.refl _ _⟩

set_option maxRecDepth 20000 in
set_option maxHeartbeats 4000000 in
theorem xorval_get (p : Nat) (v : Value) (n : Nat) (bs : List Nat) (bits : List Bool) (w : World) (h : RIs p v bs bits w) (hT : TabZ w) (htp : 0 ≠ p) (hn : n ≤ 1000000) :
    Calls Tryd.prog 20 #[.pointer (some ⟨p, 0, none⟩), .int .i64 (n : Int)] w (GetQV p v bs w (decV n bits)) := by
  have HT := Lib.hid hT; have H := Lib.hid h
  clear hT h
  by_cases h0 : n = 0
  · subst h0
    go_enter Tryd.func20, Tryd.ntmps20
    go_wp2_with fail
    go_ret2
    exact H.out.start.failsV (o := decV 0 bits) rfl
  · obtain ⟨m, hm⟩ : ∃ m, n = m + 1 := ⟨n - 1, by omega⟩
    have hn1 : (n : Int) - 1 = (m : Int) := by omega
    have hnb : ((n : Int) == 0) = false := by rw [beq_eq_false_iff_ne]; omega
    have hnn : ¬ (n : Int) < 0 := by omega
    have hmb : (m : Int) ≤ 1000000 := by omega
    have HNM : Hid (n = m + 1) := hm
    have HTp : Hid (0 ≠ p) := htp
    have HN := Lib.hid (rfield p v bs bits 64 w H.out (by omega))
    have HPl : Hid (p < w.heap.size) := H.out.1.blk.lt
    clear hm htp
    by_cases h64 : bits.length < 64
    · have hf : field 64 bits = ⟨3, 0, bits⟩ := by rw [field, if_pos h64]
      rw [hf] at HN
      have HD := Lib.hid (getV_first_eof (n := n) (by omega) h64)
      clear hf h64
      go_enter Tryd.func20, Tryd.ntmps20
      go_wp2_with fail
      refine HN.out.mono ?_
      rintro e w2 ⟨rfl, hP⟩
      have HP := Lib.hid hP
      clear hP
      go_wp2_with fail
      go_ret2
      exact HP.out.failsV HD.out
    · have hf : field 64 bits = ⟨0, numOf (bits.take 64), bits.drop 64⟩ := by rw [field, if_neg h64]
      have hlt : numOf (bits.take 64) < 18446744073709551616 := by simpa using take_lt h64
      have HLt := Lib.hid hlt
      have HG1 := Lib.hid (getV_first (n := n) (by omega) h64)
      rw [hf] at HN
      simp only at HN
      generalize numOf (bits.take 64) = t at *
      clear hf hlt h64
      generalize bits.drop 64 = cur1 at *
      go_enter Tryd.func20, Tryd.ntmps20
      go_wp2_with fail
      refine HN.out.mono ?_
      rintro e w2 ⟨rfl, hP⟩
      have HP := Lib.hid hP
      clear hP HN
      go_wp2_with fail
      have HB0 : Hid (w.heap.size ≤ w2.heap.size) := HP.out.2.size
      have HG0 : Hid (GetInV (w2.heap.size + 1) p v bs w n bits 0 [t] t none cur1 (.slice (some ⟨w2.heap.size, 0, none⟩) 1 1) ((w2.alloc (.cells #[.int .u64 t] 28)).alloc (.cells #[.int .u64 t, .int .i64 0, .int .i64 0, .pointer (some ⟨p, 0, none⟩)] 83))) := by
        have hB1 : Below w2.heap.size w2 (w2.alloc (.cells #[.int .u64 t] 28)) := (Below.refl _ w2).alloc (Nat.le_refl _) _
        have hB2 : Below w2.heap.size w2 ((w2.alloc (.cells #[.int .u64 t] 28)).alloc (.cells #[.int .u64 t, .int .i64 0, .int .i64 0, .pointer (some ⟨p, 0, none⟩)] 83)) := hB1.alloc (by rw [World.size_alloc]; omega) _
        have hR := HP.out.below hB2
        have hs : (w2.alloc (.cells #[.int .u64 t] 28)).heap.size = w2.heap.size + 1 := World.size_alloc ..
        have hb := Blk.new (w2.alloc (.cells #[.int .u64 t] 28)) #[.int .u64 t, .int .i64 0, .int .i64 0, .pointer (some ⟨p, 0, none⟩)] 83
        rw [hs] at hb
        have hl := HPl.out
        have hz := HB0.out
        have hTt := HT.out.lt
        refine ⟨rfl, rfl, HG1.out, (Mods.alloc (fun _ => False) _ _).owns (World.ownsRow_lit (base := w.heap.size) w2 #[.int .u64 t] 1 hz (by simp [maxLen]) (by simp)) (fun j _ e => e), by intro e; have e2 : w2.heap.size = w2.heap.size + 1 := Option.some.inj e; omega, ⟨hb, hR, by omega, by omega, ?_, by omega, HTp.out, HLt.out, (fun _ _ e => by cases e), Mods.refl _ _⟩⟩
        exact HT.out.block (hR.2.block _ HT.out.lt HTp.out)
      clear HP HG1 HLt HB0
      generalize ((w2.alloc (.cells #[.int .u64 t] 28)).alloc (.cells #[.int .u64 t, .int .i64 0, .int .i64 0, .pointer (some ⟨p, 0, none⟩)] 83)) = w3 at *
      generalize hgg : w2.heap.size + 1 = g at *
      go_loopw [8, 34] (fun lv kv wr => ∃ (k : Nat) (acc : List Nat) (last : Nat) (win : Option (Nat × Nat)) (cur : List Bool), k ≤ m ∧ kv = .int .i64 (k : Int) ∧ Hid (GetInV g p v bs w n bits k acc last win cur lv wr)) (fun _ kv _ => m - (intOf kv).toNat)
      case atStart => exact ⟨0, [t], t, none, cur1, by omega, rfl, HG0.out⟩
      case round =>
        obtain ⟨k, acc, last, win, cur, hkm, rfl, HG⟩ := hrel
        obtain ⟨pa, ca, hva⟩ := (Rd.of_owns HG.out.row).shape
        rw [HG.out.len] at hva
        subst hva
        by_cases hk : k < m
        · have hk' : (k : Int) < (m : Int) := by omega
          have HC := Lib.hid (get_any6 w wr g p v bs bits cur last win wr H.out HG.out.dec)
          have HY := Lib.hid (decW_step HG.out.dec.ok cur)
          have HDd := Lib.hid (atV_dec HG.out.at_ HG.out.lst)
          by_cases he : (stepD win cur).e = 0
          · have HNx : Hid (GetAtV n bits (k + 1 + 1) (acc ++ [last ^^^ (stepD win cur).x]) (nextW win (stepD win cur).x) (stepD win cur).r) := by
              obtain ⟨y, hd, hy⟩ := HY.out
              rw [he, hy he] at hd
              exact getV_next (by have := HNM.out; omega) HG.out.len HG.out.dec.la HG.out.dec.ok HDd.out hd
            unfold GetPost1 at HC
            rw [he] at HC
            clear he HY HDd
            generalize (stepD win cur).x = x at *
            generalize (stepD win cur).r = cur2 at *
            go_wp2_with fail
            refine HC.out.mono ?_
            rintro e w4 ⟨⟨xx, rfl, hxx⟩, ⟨hP, hM⟩, hD⟩
            obtain rfl := hxx trivial
            have HO4 := Lib.hid (hM.owns HG.out.row (fun j hj e => by
              have h1 := (HG.out.row.lt j hj).1; have h2 := HPl.out
              rcases e with e | e
              · omega
              · exact HG.out.rg (e ▸ hj)))
            have HD4 := Lib.hid (hD trivial)
            have HLb : Hid ((k + 1 + 1) * 8 ≤ 140737488355328 ∧ k + 1 + 1 ≤ maxLen) := by show _ ∧ _; unfold maxLen; omega
            have HLen := Lib.hid HG.out.len
            have HRg := Lib.hid HG.out.rg
            have HO5 : Hid (w4.ownsRow 0 28 1 (.slice pa (k + 1) ca) (k + 1) (u64s acc)) := by
              have h := owns_rebase HO4.out (base' := 0) (fun _ _ => Nat.zero_le _)
              rw [HLen.out] at h
              exact h
            clear hP hM hD hxx HC
            go_wp2_with (at_builtin; refine wpList_push Tryd.elemU64 w4 #[.int .u64 ((last ^^^ x : Nat) : Int)] _ _ _ HO5.out rfl (one_cell _ rfl) HLb.out rfl _ _ rfl rfl rfl ?_)
            intro v8 w8 hown hmods hfr
            have HG8 : Hid (GetInV g p v bs w n bits (k + 1) (acc ++ [last ^^^ x]) (last ^^^ x) (nextW win x) cur2 v8 w8) := by
              have hD4 := HD4.out
              have hsz := hD4.rp.2.size
              have hgo : ¬ (Value.slice pa (k + 1) ca).ownBlock = some g := HRg.out
              have hto : ¬ (Value.slice pa (k + 1) ca).ownBlock = some 0 := fun e => by have := (HO4.out.lt _ e).1; have := HT.out.lt; omega
              refine ⟨by rw [List.length_append, HLen.out]; rfl, by rw [List.getElem?_append_right (by rw [HLen.out]; omega), HLen.out]; simp, HNx.out, ?_, ?_, ⟨?_, ?_, hD4.far, hD4.gp, ?_, hD4.tg, hD4.tp, hD4.la, hD4.ok, Mods.refl _ _⟩⟩
              · rw [List.length_append, u64s_append, HLen.out]
                refine owns_rebase hown (fun j hj => ?_)
                rcases hfr j hj with e | e
                · exact (HO4.out.lt j e).1
                · omega
              · intro e
                rcases hfr g e with e | e
                · exact hgo e
                · have := hD4.blk.lt; omega
              · exact hmods.blk hD4.blk hgo
              · exact rp_more H.out hD4.rp hmods (fun j e => (HO4.out.lt j e).1)
              · exact hD4.tab.block (hmods.block _ hD4.tab.lt hto)
            obtain ⟨p8, c8, hv8⟩ : ∃ p c, v8 = .slice p (k + 2) c := by have := (Rd.of_owns HG8.out.row).shape; rwa [List.length_append, HLen.out] at this
            subst hv8
            clear hown hmods hfr HO5 HO4 HNx HD4
            go_wp2_with fail
            go_round
            case rel => exact ⟨k + 1, _, _, _, cur2, by omega, by go_num, HG8.out⟩
            case measure => simp [intOf]; omega
          · have HB : Hid (decV n bits = ⟨(stepD win cur).e, [], (stepD win cur).r⟩) := by
              obtain ⟨y, hd, hy⟩ := HY.out
              exact getV_bad (by have := HNM.out; omega) HDd.out he hd
            have hne : ((stepD win cur).e : Int) ≠ 0 := by omega
            have hneb : (((stepD win cur).e : Int) == 0) = false := by rw [beq_eq_false_iff_ne]; exact hne
            unfold GetPost1 at HC
            clear he HY HDd
            generalize (stepD win cur).x = x at *
            generalize (stepD win cur).r = cur2 at *
            generalize (stepD win cur).e = en at *
            go_wp2_with fail
            refine HC.out.mono ?_
            rintro e w4 ⟨⟨xx, rfl, hxx⟩, ⟨hP, hM⟩, hD⟩
            have HP4 := Lib.hid hP
            clear hP hM hD hxx HC
            go_wp2_with fail
            go_ret2
            exact HP4.out.failsV HB.out
        · have hk' : ¬ (k : Int) < (m : Int) := by omega
          have HD : Hid (decV n bits = ⟨0, acc, cur⟩) := by
            show _ = _
            have h := HG.out.at_
            rw [show k + 1 = n by have := HNM.out; omega] at h
            exact getV_done h
          go_wp2_with fail
          go_ret2
          rw [HD.out]
          exact HG.out.dec.rp.qv ⟨_, rfl, Rd.of_owns (by have := HG.out.row; exact this), fun j hj => (HG.out.row.lt j hj).1⟩
end Go.Proofs.YtnhopiggknfimaaDoor
