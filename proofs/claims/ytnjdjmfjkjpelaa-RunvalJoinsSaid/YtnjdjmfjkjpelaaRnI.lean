/- Layer 7: the program's Get: its loop. -/
import Derived.Test.YtnjdjmfjkjpelaaRnH
set_option linter.unusedVariables false
set_option maxRecDepth 20000
namespace Go.Proofs.Ytnjdjmfjkjpelaa
open Go Go.RowKit

theorem contR_iff {acc : List Nat} {cnt : Nat} {rs : List (Nat × Nat)} (h : LastOk acc cnt rs) (x : Nat) : contR rs x = true ↔ (acc.getLast? = some x ∧ cnt < 128) := by
  rcases cases_last rs with rfl | ⟨p, v, c, rfl⟩
  · rw [h.1]
    simp [contR, joinR]
  · obtain ⟨e1, e2⟩ := h.2.1 (v, c) (lastR_snoc _ _ _)
    simp only at e1 e2
    rw [e1, e2]
    simp [contR]

/-- Where getRuns stands between two rounds. -/
structure GRIn (w : World) (p : Nat) (v : Value) (bs : List Nat) (n : Nat) (bits : List Bool) (rs : List (Nat × Nat)) (cur : List Bool) (lv : Value) (wr : World) : Prop where
  row : wr.ownsRow w.heap.size 31 2 lv rs.length (rnCells rs)
  rp : RP p v bs cur w wr
  at_ : ∃ cnt, LastOk (joinR rs) cnt rs ∧ GetAtR n bits (joinR rs) cnt cur
  ok : ∀ r ∈ rs, runOk r
  few : rs.length ≤ (joinR rs).length

/-- What getRuns leaves. -/
structure GRPost (p : Nat) (v : Value) (bs : List Nat) (w : World) (o : Res (List Nat)) (e : Ending) (w' : World) : Prop where
  res : ∃ (r : Value) (rs : List (Nat × Nat)), e = .returned (.tuple #[r, .int .i64 (o.e : Int)]) ∧ Rd w' 2 r rs.length (rnCells rs) ∧ (o.e = 0 → joinR rs = o.x ∧ (∀ r ∈ rs, runOk r) ∧ rs.length ≤ (joinR rs).length)
  rp : RP p v bs o.r w w'

theorem GRPost.fails {p : Nat} {v : Value} {bs : List Nat} {w w' : World} {o : Res (List Nat)} {r : List Bool} {en : Nat} (h : RP p v bs r w w') (ho : o = ⟨en, [], r⟩) (hen : en ≠ 0) : GRPost p v bs w o (.returned (.tuple #[.slice none 0 0, .int .i64 (en : Int)])) w' := by
  subst ho
  exact ⟨⟨_, [], rfl, Rd.nil _ _, fun e => absurd e hen⟩, h⟩

set_option maxHeartbeats 4000000 in
theorem getRuns_any (p : Nat) (v : Value) (n : Nat) (bs : List Nat) (bits : List Bool) (w : World) (h : RIs p v bs bits w) (hn : n ≤ 1000000) :
    Calls Try.prog 39 #[.pointer (some ⟨p, 0, none⟩), .int .i64 (n : Int)] w (GRPost p v bs w (decR n bits)) := by
  have H := Lib.hid h; have HNn := Lib.hid hn
  have HPl : Hid (p < w.heap.size) := h.1.blk.lt
  have hnm : (n : Int) ≤ 1000000 := by omega
  clear h hn
  go_enter Try.func39, Try.ntmps39
  go_wp2_with fail
  go_loopw [6, 7] (fun lv kv wr => ∃ (rs : List (Nat × Nat)) (cur : List Bool) (left : Nat), (joinR rs).length + left = n ∧ kv = .int .i64 (left : Int) ∧ Hid (GRIn w p v bs n bits rs cur lv wr)) (fun _ kv _ => (intOf kv).toNat)
  case atStart => exact ⟨[], bits, n, by simp [joinR], rfl, World.ownsRow_nil _ _ _ _, H.out.start, ⟨128, lastOk_nil, getR_start n bits⟩, (fun _ h => by cases h), Nat.le_refl _⟩
  case round =>
    obtain ⟨rs, cur, left, hlf, rfl, HG⟩ := hrel
    obtain ⟨pv, cv, hvv⟩ := (Rd.of_owns HG.out.row).shape
    subst hvv
    obtain ⟨cnt, HLo, HAt⟩ := HG.out.at_
    have HLo := Lib.hid HLo
    have HAt := Lib.hid HAt
    have hlb : (left : Int) ≤ 1000000 := by omega
    have HLf : Hid ((joinR rs).length + left = n) := hlf
    clear hlf
    by_cases h0 : 0 < left
    · have h0' : (0 : Int) < (left : Int) := by omega
      have HLt : Hid ((joinR rs).length < n) := by show _ < _; have := HLf.out; omega
      have HC := Lib.hid (getRun_any p v bs cur wr HG.out.rp.1)
      by_cases h64 : cur.length < 64
      · have HD : Hid (runD cur = ⟨3, (0, 0), cur⟩) := by show _ = _; rw [runD, field_short h64]; rfl
        have HR : Hid (decR n bits = ⟨3, [], cur⟩) := getR_eof1 HAt.out HLt.out h64
        rw [HD.out] at HC
        clear h64
        go_wp2_with fail
        refine HC.out.mono ?_
        rintro e w2 ⟨rfl, hP⟩
        have HP := Lib.hid (rp_trans HG.out.rp hP)
        clear hP HC
        go_wp2_with fail
        go_ret2
        exact GRPost.fails (HP.out.below ((Below.refl _ w2).alloc (Nat.le_refl _) _)) HR.out (by decide)
      · have hf1 := field_full h64
        have hx64 := take_lt h64
        generalize numOf (cur.take 64) = x at *
        generalize cur.drop 64 = b1 at *
        by_cases h7 : b1.length < 7
        · have HD : Hid (runD cur = ⟨3, (0, 0), b1⟩) := by show _ = _; rw [runD, hf1]; simp only [field_short h7, ne_eq, not_true_eq_false, if_false]; rfl
          have HR : Hid (decR n bits = ⟨3, [], b1⟩) := getR_eof2 HAt.out HLt.out hf1 h7
          rw [HD.out] at HC
          clear h7 hf1 hx64 h64
          go_wp2_with fail
          refine HC.out.mono ?_
          rintro e w2 ⟨rfl, hP⟩
          have HP := Lib.hid (rp_trans HG.out.rp hP)
          clear hP HC
          go_wp2_with fail
          go_ret2
          exact GRPost.fails (HP.out.below ((Below.refl _ w2).alloc (Nat.le_refl _) _)) HR.out (by decide)
        · have hf2 := field_full h7
          have hy := take_lt h7
          generalize numOf (b1.take 7) = y at *
          generalize b1.drop 7 = b2 at *
          have hy' : (y : Int) < 128 := by omega
          have HD : Hid (runD cur = ⟨0, (x, y + 1), b2⟩) := by show _ = _; rw [runD, hf1]; simp only [hf2, ne_eq, not_true_eq_false, if_false]
          have HF1 := Lib.hid hf1; have HF2 := Lib.hid hf2; have HX := Lib.hid hx64; have HY := Lib.hid hy
          rw [HD.out] at HC
          clear h7 hf1 hf2 hx64 h64 hy HD
          go_wp2_with fail
          refine HC.out.mono ?_
          rintro e w2 ⟨rfl, hP⟩
          obtain ⟨w3, hw3⟩ : ∃ w3, w2.alloc (.cells #[.int .u64 (x : Int), .int .i64 ((y : Int) + 1)] 31) = w3 := ⟨_, rfl⟩
          have hK3 : Blk w3 w2.heap.size [.int .u64 (x : Int), .int .i64 ((y : Int) + 1)] := by rw [← hw3]; exact Blk.new w2 _ _
          have hB3 : Below w2.heap.size w2 w3 := by rw [← hw3]; exact (Below.refl _ w2).alloc (Nat.le_refl _) _
          have HP3 := Lib.hid ((rp_trans HG.out.rp hP).below hB3)
          have HRow : Hid (w3.ownsRow w.heap.size 31 2 (.slice pv rs.length cv) rs.length (rnCells rs)) :=
            (Mods.of_below hB3 (fun _ => False)).owns (hP.2.owns HG.out.row (fun k hk e => by have := (HG.out.row.lt k hk).1; have := HPl.out; omega)) (fun _ _ e => e)
          have HNe : Hid (∀ k, (Value.slice pv rs.length cv).ownBlock = some k → k ≠ w2.heap.size) := fun k hk => by have := (HG.out.row.lt k hk).2; have := hP.2.size; omega
          have HK3 := Lib.hid hK3
          obtain ⟨⟨d0, d1⟩, f0, f1⟩ := hK3.two
          clear hP HC hB3 hK3
          by_cases hgt : left < y + 1
          · have hgt' : (left : Int) < (y : Int) + 1 := by omega
            have HR : Hid (decR n bits = ⟨8, [], b2⟩) := getR_bad HAt.out HLt.out HF1.out HF2.out (Or.inl (by have := HLf.out; omega))
            clear hgt
            go_wp2_with fail
            go_ret2
            exact GRPost.fails HP3.out HR.out (by decide)
          · have hgt' : ¬ (left : Int) < (y : Int) + 1 := by omega
            have hgd : decide ((left : Int) < (y : Int) + 1) = false := by simpa using hgt'
            have HCo := Lib.hid (continues_any _ rs x ((y : Int) + 1) w3 (Rd.of_owns HRow.out))
            have HCi := Lib.hid (contR_iff HLo.out x)
            have HGt : Hid (y + 1 ≤ left) := by show _ ≤ _; omega
            clear hgt
            by_cases hco : contR rs x = true
            · have HR : Hid (decR n bits = ⟨8, [], b2⟩) := getR_bad HAt.out HLt.out HF1.out HF2.out (Or.inr (HCi.out.1 hco))
              rw [hco] at HCo
              clear hco HCi
              go_wp2_with fail
              refine HCo.out.mono ?_
              rintro e w4 ⟨rfl, hB4⟩
              have HP4 := Lib.hid (HP3.out.below hB4)
              clear hB4 HCo
              go_wp2_with fail
              go_ret2
              exact GRPost.fails HP4.out HR.out (by decide)
            · have hcf : contR rs x = false := by simpa using hco
              rw [hcf] at HCo
              have HNx : Hid (GetAtR n bits (joinR (rs ++ [(x, y + 1)])) (y + 1) b2 ∧ LastOk (joinR (rs ++ [(x, y + 1)])) (y + 1) (rs ++ [(x, y + 1)])) := by
                have h1 := getR_next HAt.out HLt.out HF1.out HF2.out (fun e => by
                  rcases e with e | e
                  · have := HLf.out; have := HGt.out; omega
                  · exact hco (HCi.out.2 e))
                have h2 := lastOk_snoc HLo.out x y
                rw [← joinR_one x (y + 1), ← joinR_append] at h1 h2
                exact ⟨h1, h2⟩
              clear hco hcf HCi
              go_wp2_with fail
              refine HCo.out.mono ?_
              rintro e w4 ⟨rfl, hB4⟩
              have HP4 := Lib.hid (HP3.out.below hB4)
              have HB4 := Lib.hid hB4
              have HRow4 : Hid (w4.ownsRow 0 31 2 (.slice pv rs.length cv) rs.length (rnCells rs)) := owns_rebase ((Mods.of_below hB4 (fun _ => False)).owns HRow.out (fun _ _ e => e)) (fun _ _ => Nat.zero_le _)
              have hK4 := HK3.out.of_same (hB4.block _ HK3.out.lt)
              have HS4 : Hid (w.heap.size ≤ w4.heap.size) := HP4.out.2.size
              clear d0 d1 f0 f1
              obtain ⟨⟨d0, d1⟩, f0, f1⟩ := hK4.two
              have HFew : Hid (rs.length ≤ 1000000) := by show _ ≤ _; have := HG.out.few; have := HLf.out; have := HNn.out; omega
              have HBd : Hid ((rs.length + 1) * 16 ≤ 140737488355328 ∧ rs.length + 1 ≤ maxLen) := by show _ ∧ _; have := HFew.out; unfold maxLen; omega
              clear hB4 HCo hK4
              go_wp2_with (at_builtin; refine wpList_push elemRn w4 #[.int .u64 (x : Int), .int .i64 ((y : Int) + 1)] _ _ _ HRow4.out rfl (by simp [Value.oneCell']) HBd.out rfl _ _ rfl rfl rfl ?_)
              intro v5 w5 k1 k2 k3
              have hK5 := k2.blk (HK3.out.of_same (HB4.out.block _ HK3.out.lt)) (fun e => HNe.out _ e rfl)
              have HG5 : Hid (GRIn w p v bs n bits (rs ++ [(x, y + 1)]) b2 v5 w5) := by
                refine ⟨?_, rp_more H.out HP4.out k2 (fun k hk => (HRow.out.lt k hk).1), ⟨y + 1, HNx.out.2, HNx.out.1⟩, ?_, ?_⟩
                · rw [rnCells_push, List.length_append]
                  refine owns_rebase k1 (fun k hk => ?_)
                  rcases k3 k hk with e | e
                  · exact (HRow.out.lt k e).1
                  · have := HS4.out; omega
                · intro r hr
                  rcases List.mem_append.1 hr with hr | hr
                  · exact HG.out.ok r hr
                  · simp only [List.mem_singleton] at hr
                    subst hr
                    exact ⟨by show 1 ≤ y + 1; omega, by show y + 1 ≤ 128; have := HY.out; omega, by show x < 18446744073709551616; have := HX.out; omega⟩
                · rw [joinR_append, joinR_one, List.length_append, List.length_append, List.length_replicate, List.length_singleton]
                  have := HG.out.few; omega
              have HL5 : Hid ((joinR (rs ++ [(x, y + 1)])).length + (left - (y + 1)) = n) := by
                show _ = _
                rw [joinR_append, joinR_one, List.length_append, List.length_replicate]
                have := HLf.out; have := HGt.out; omega
              obtain ⟨p5, c5, hv5⟩ : ∃ p c, v5 = .slice p (rs.length + 1) c := by have := (Rd.of_owns k1).shape; exact this
              subst hv5
              clear d0 d1 f0 f1 k1 k2 k3 HRow4 HP4 HNx
              obtain ⟨⟨d0, d1⟩, f0, f1⟩ := hK5.two
              have HSub : Hid ((left : Int) - ((y : Int) + 1) = ((left - (y + 1) : Nat) : Int)) := by show _ = _; have := HGt.out; omega
              clear hK5
              go_wp2_with fail
              go_round
              case rel => exact ⟨_, b2, left - (y + 1), HL5.out, by rw [← HSub.out], HG5.out⟩
              case measure => have := HGt.out; simp [intOf]; omega
    · have h0' : ¬ (0 : Int) < (left : Int) := by omega
      have HR : Hid (decR n bits = ⟨0, joinR rs, cur⟩) := getR_done HAt.out (by have := HLf.out; omega)
      go_wp2_with fail
      go_ret2
      rw [HR.out]
      exact ⟨⟨_, rs, rfl, Rd.of_owns HG.out.row, fun _ => ⟨rfl, HG.out.ok, HG.out.few⟩⟩, HG.out.rp⟩
end Go.Proofs.Ytnjdjmfjkjpelaa
