/- Layer 6: the program's Put. -/
import Derived.Test.YtnhopiggknfimaaDoorXvF
import Derived.Test.YtnhopiggknfimaaDoorXorI
import Derived.Test.YtnhopiggknfimaaDoorFromO
set_option linter.unusedVariables false
set_option maxRecDepth 20000
namespace Go.Proofs.YtnhopiggknfimaaDoor
open Go Go.RowKit

theorem xorval_put_nil (p : Nat) (v lv : Value) (bs : List Bool) (w : World) (hW : WriterIn w p v bs) (h : Rd w 1 lv 0 []) :
    Calls Tryd.prog 12 #[.pointer (some ⟨p, 0, none⟩), lv] w fun e w' => e = .returned (.int .i64 0) ∧ BitsPost p v bs w w' := by
  have HW := Lib.hid hW
  clear hW
  obtain ⟨q, c, hv⟩ := h.shape
  subst hv
  go_enter Tryd.func12, Tryd.ntmps12
  go_wp2_with fail
  go_ret
  exact ⟨rfl, v, HW.out, Upd.refl _ _ _⟩
theorem xorval_put_nilw (w : World) : Calls Tryd.prog 12 #[.pointer none, .slice none 0 0] w fun e w' => e = .returned (.int .i64 1) ∧ Below w.heap.size w w' := by
  go_enter Tryd.func12, Tryd.ntmps12
  go_wp2_with fail
  go_ret
  exact ⟨rfl, Below.refl _ _⟩

/-- Where Put stands between two rounds. -/
structure PutInV (g p : Nat) (v : Value) (bs : List Bool) (ls tl : List Nat) (lv : Value) (w : World) (k : Nat) (v' : Value) (last : Nat) (win : Option (Nat × Nat)) (out : List Bool) (wr : World) : Prop where
  enc : EncIs g p v' out last win wr
  left : bs ++ encV ls = out ++ encFromV win last (tl.drop k)
  upd : Upd w wr p v v'
  row : Rd wr 1 lv tl.length (u64s tl)

set_option maxHeartbeats 4000000 in
theorem xorval_put_cons (p : Nat) (v lv : Value) (bs : List Bool) (ls : List Nat) (t0 : Nat) (tl : List Nat) (els : ls = t0 :: tl) (w : World) (hT : TabZ w) (hW : WriterIn w p v bs) (htp : 0 ≠ p) (htv : v.ownBlock ≠ some 0)
    (hl : Rd w 1 lv ls.length (u64s ls)) (ok : ∀ t ∈ ls, in64u t) (hap : ∀ k, lv.ownBlock = some k → k ≠ p ∧ v.ownBlock ≠ some k) (hz : bs.length + 78 * ls.length ≤ 70368744177000) :
    Calls Tryd.prog 12 #[.pointer (some ⟨p, 0, none⟩), lv] w fun e w' => e = .returned (.int .i64 0) ∧ BitsPost p v (bs ++ encV ls) w w' := by
  obtain ⟨b0, off, c, e, hm1, hm2, hcl⟩ := hl.at (by rw [els]; simp [u64s])
  subst e
  have HT := Lib.hid hT; have HW := Lib.hid hW; have HEL := Lib.hid els; have HOk := Lib.hid ok; have HZ := Lib.hid hz
  have hne : (ls.length : Int) ≠ 0 := by rw [els]; simp only [List.length_cons]; omega
  have hpos : (0 : Int) < (ls.length : Int) := by omega
  have hone : (1 : Int) ≤ (ls.length : Int) := by omega
  have hnb : ((ls.length : Int) == 0) = false := by rw [beq_eq_false_iff_ne]; exact hne
  have hc0 : w.cell? ⟨b0, off, none⟩ = some (.int .u64 (t0 : Int)) := by have := hcl 0 (.int .u64 (t0 : Int)) (by rw [els]; rfl); simpa using this
  have HAp : Hid (b0 ≠ p ∧ v.ownBlock ≠ some b0 ∧ b0 < w.heap.size) := ⟨(hap b0 rfl).1, (hap b0 rfl).2, World.block_lt_of_cell? w _ hc0⟩
  have HCl : Hid (∀ (i t : Nat), ls[i]? = some t → w.cell? ⟨b0, off + i, none⟩ = some (.int .u64 (t : Int))) := fun i t h => hcl i _ (by rw [u64s, List.getElem?_map, h]; rfl)
  have HB := Lib.hid (wbits p v bs t0 64 w hW (by omega) (by omega))
  have HRd := Lib.hid hl
  have hpos1 : 1 ≤ ls.length := by omega
  clear hT hW els ok hz hcl hap hl
  go_enter Tryd.func12, Tryd.ntmps12
  go_wp2_with fail
  refine HB.out.mono ?_
  rintro e w2 ⟨rfl, v2, hW2, hU2⟩
  have HW2 := Lib.hid hW2
  have HU2 := Lib.hid hU2
  have hc2 : w2.cell? ⟨b0, off, none⟩ = some (.int .u64 (t0 : Int)) := (hU2.keep hc0 HAp.out.1 HAp.out.2.1).1
  clear hW2 hU2 HB hc0
  have hsub : ls.length - 1 = tl.length := by rw [HEL.out]; rfl
  have hrow : Rd w2 1 (.slice (some ⟨b0, off, none⟩) ls.length c) ls.length (u64s ls) := HRd.out.mods HU2.out.mods (fun k hk e => by cases hk; exact e.elim HAp.out.1 HAp.out.2.1)
  obtain ⟨w3, hw3⟩ : ∃ w3, w2.alloc (.cells #[.int .u64 (t0 : Int), .int .i64 0, .int .i64 0, .pointer (some ⟨p, 0, none⟩)] 68) = w3 := ⟨_, rfl⟩
  have hB3 : Below w2.heap.size w2 w3 := by rw [← hw3]; exact (Below.refl _ w2).alloc (Nat.le_refl _) _
  have hK3 : Blk w3 w2.heap.size [.int .u64 (t0 : Int), .int .i64 0, .int .i64 0, .pointer (some ⟨p, 0, none⟩)] := by rw [← hw3]; exact Blk.new w2 _ _
  have HR3 := Lib.hid (hrow.below hB3)
  have hpl := HW.out.blk.lt
  have hs2 := HU2.out.mods.size
  have HE3 : Hid (EncIs w2.heap.size p v2 (bs ++ fieldBits t0 64) t0 none w3) := by
    have hvn : v2.ownBlock ≠ some 0 := fun e => (HU2.out.fresh _ e).elim htv (fun k => by have := HT.out.lt; omega)
    refine ⟨hK3, HW2.out.below hB3, by omega, fun e => by have := owns_lt HW2.out.own _ e; omega, ?_, by have := HT.out.lt; omega, htp, hvn, HOk.out t0 (by rw [HEL.out]; simp), fun _ _ e => by cases e⟩
    exact (HT.out.block (HU2.out.mods.block _ HT.out.lt (fun e => e.elim htp htv))).below hB3 (Nat.le_refl _)
  have HU3 : Hid (Upd w w3 p v v2) := HU2.out.trans (Upd.of_below hB3 p v2)
  have HL3 : Hid (bs ++ encV ls = (bs ++ fieldBits t0 64) ++ encFromV none t0 tl) := by show _ = _; rw [HEL.out, encV, List.append_assoc]
  have HG : Hid (w.heap.size ≤ w2.heap.size) := hs2
  clear hB3 hK3 hrow hpl hs2 HW2 HU2 htp htv HRd
  go_wp2_with (refine wpList_fromO Tryd.elemU64 _ _ _ 1 _ HR3.out hpos1 rfl _ _ rfl rfl rfl ?_; intro q c2 h2 hown)
  rw [hsub] at *
  have HOwn : Hid (∀ k, (Value.slice q tl.length c2).ownBlock = some k → k = b0) := fun k hk => by have := hown k hk; cases this; rfl
  have HR4 : Hid (Rd w3 1 (.slice q tl.length c2) tl.length (u64s tl)) := by
    show Rd _ _ _ _ _
    have : List.drop (1 * 1) (u64s ls) = u64s tl := by rw [HEL.out]; rfl
    rw [← this]; exact h2
  have HLn : Hid (ls.length = tl.length + 1) := by show _ = _; rw [HEL.out]; rfl
  have hmb : (tl.length : Int) ≤ 1000000000000 := by have h1 := HLn.out; have h2 := HZ.out; omega
  have HI0 : Hid (PutInV w2.heap.size p v bs ls tl (.slice q tl.length c2) w 0 v2 t0 none (bs ++ fieldBits t0 64) w3) := ⟨HE3.out, HL3.out, HU3.out, HR4.out⟩
  clear hsub h2 hown HR3 HR4 HE3 HL3 HU3 hw3 hc2 hne hpos hone hnb hpos1
  generalize w2.heap.size = g at *
  go_loopw [7, 27] (fun xv kv wr => ∃ (k : Nat) (v' : Value) (last : Nat) (win : Option (Nat × Nat)) (out : List Bool), k ≤ tl.length ∧ kv = .int .i64 (k : Int) ∧ Hid (PutInV g p v bs ls tl (.slice q tl.length c2) w k v' last win out wr)) (fun _ kv _ => tl.length - (intOf kv).toNat)
  case atStart => exact ⟨0, v2, t0, none, _, by omega, rfl, HI0.out⟩
  case round =>
    obtain ⟨k, v', last, win, out, hkm, rfl, HI⟩ := hrel
    by_cases hk : k < tl.length
    · have hk' : (k : Int) < (tl.length : Int) := by omega
      have hkb : (k : Int) ≤ 1000000000000 := by omega
      obtain ⟨b1, o1, c1, e1, _, _, hcl1⟩ := HI.out.row.at (by intro e; have := congrArg List.length e; rw [u64s, List.length_map, List.length_nil] at this; omega)
      cases e1
      obtain ⟨t, ht⟩ : ∃ t, tl[k]? = some t := ⟨_, List.getElem?_eq_getElem hk⟩
      have hc1 : wr.cell? ⟨b1, o1 + k, none⟩ = some (.int .u64 (t : Int)) := hcl1 k _ (by rw [u64s, List.getElem?_map, ht]; rfl)
      have hti : in64u t := HOk.out t (by rw [HEL.out]; exact List.mem_cons_of_mem _ (List.mem_of_getElem? ht))
      have hdr : tl.drop k = t :: tl.drop (k + 1) := by rw [List.drop_eq_getElem_cons hk]; rw [List.getElem?_eq_getElem hk] at ht; cases ht; rfl
      have hlen : out.length ≤ bs.length + 78 * ls.length := by
        have h1 := congrArg List.length HI.out.left
        rw [List.length_append, List.length_append] at h1
        have h2 := encV_len ls
        omega
      have HP := Lib.hid (put_any g p v' out last t win wr HI.out.enc hti (by have := HZ.out; omega))
      have HT1 := Lib.hid ht; have HD := Lib.hid hdr
      clear hcl1 ht hti hdr hlen
      go_wp2_with fail
      refine HP.out.mono ?_
      rintro e w5 ⟨rfl, v5, hE5, hM5, hF5⟩
      have HI5 : Hid (PutInV g p v bs ls tl (.slice (some ⟨b1, o1, none⟩) tl.length c2) w (k + 1) v5 t (nextW win (t ^^^ last)) (out ++ encW win (t ^^^ last)) w5) := by
        have hb : b1 = b0 := HOwn.out b1 rfl
        have hfr := HI.out.upd.fresh
        have hsz := HI.out.upd.mods.size
        have hg := HG.out; have hpl := HW.out.blk.lt; have hap := HAp.out
        refine ⟨hE5, ?_, ⟨HI.out.upd.mods.trans hM5 (fun j hj e => ?_), hfr.trans hF5 hsz⟩, HI.out.row.mods hM5 (fun j hj e => ?_)⟩
        · rw [HI.out.left, HD.out, encFromV, List.append_assoc]
        · rcases e with e | e | e
          · omega
          · exact Or.inl e
          · exact (hfr j e).elim Or.inr (fun h => by omega)
        · cases hj
          rw [hb] at e
          change b0 = g ∨ b0 = p ∨ v'.ownBlock = some b0 at e
          rcases e with e | e | e
          · omega
          · exact hap.1 e
          · exact (hfr _ e).elim hap.2.1 (fun h => by omega)
      clear hE5 hM5 hF5 HI HP
      go_wp2_with fail
      go_round
      case rel => exact ⟨k + 1, _, _, _, _, by omega, by go_num, HI5.out⟩
      case measure => simp [intOf]; omega
    · have hk' : ¬ (k : Int) < (tl.length : Int) := by omega
      have HLeft : Hid (bs ++ encV ls = out) := by
        have h := HI.out.left
        rw [List.drop_eq_nil_of_le (by omega), encFromV, List.append_nil] at h
        exact h
      go_wp2_with fail
      go_ret
      rw [HLeft.out]
      exact ⟨rfl, v', HI.out.enc.wr, HI.out.upd⟩
end Go.Proofs.YtnhopiggknfimaaDoor
