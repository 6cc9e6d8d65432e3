/- TakeR, Ref04D, Ref10D, SymI, Large10, EqualStr, CloneStr, in one text. -/
import Derived.Test.YteiffpninifjlaaMrg5
import Derived.Test.YteiffpninifjlaaMrg4
import Derived.Test.YteiffpninifjlaaMrg2

section
/- More steps of a drawing region that is walked in one order: loads under the region's condition; operations that make memory, alone. No program in sight. -/
namespace Go.Proofs.Yteiffpninifjlaa
open Go Go.RowKit

section
variable {P : Program} {ops : Array Oper} {Q : Exit → Act → World → Prop} {calls : List Nat} {S : World → Prop}
/-- An operation that reads memory. -/
theorem takeH_reads {i : Nat} {o : Oper} {rest : List (Nat × Oper)} {a : Act} {w : World} (hc : calls.contains i = false) (hw : Region.wanted o (yielded ops a.tmps) = true)
    (h : ∃ v, (∀ w, S w → (execOp a.eval o).run P w = .ok (.value v) w) ∧ wpTakeH P ops Q calls S rest (a.put o.dst v) w) : wpTakeH P ops Q calls S ((i, o) :: rest) a w := by
  obtain ⟨v, h1, h2⟩ := h
  exact takeH_read hc hw v h1 h2
/-- An operation that comes up alone and makes memory. -/
theorem takeH_run {i : Nat} {o : Oper} {rest : List (Nat × Oper)} {a : Act} {w : World} (hc : calls.contains i = true) (hw : Region.wanted o (yielded ops a.tmps) = true) (v : Value) (w2 : World) (h1 : (execOp a.eval o).run P w = .ok (.value v) w2) (hS : S w2)
    (h : wpTakeH P ops Q calls S rest (a.put o.dst v) w2) : wpTakeH P ops Q calls S ((i, o) :: rest) a w := by
  unfold wpTakeH
  simp only [hw, hc]
  show o.wp P a w (fun a' w' => S w' ∧ wpTakeH P ops Q calls S rest a' w') Q
  unfold Oper.wp
  rw [h1]
  exact ⟨hS, h⟩
/-- What 's[i:k]' yields. -/
theorem exec_fromTo {t e : TypeId} {sz bytes : Nat} (hE : Elem P t e sz bytes) (w : World) (p : Option Addr) (n c i k : Nat) (hi : i ≤ k) (hk : k ≤ c) {o : Oper} {a : Act} (s x y : Operand) (ho : o.op = .slice t s (some x) (some y) none)
    (hs : a.eval s = .slice p n c) (hx : a.eval x = .int .i64 (i : Int)) (hy : a.eval y = .int .i64 (k : Int)) : (execOp a.eval o).run P w = .ok (.value (sliced p i k c sz)) w := by
  obtain ⟨inf, z, hinf, hz, hsize, hby, hzs⟩ := hE.hi
  have helem : P.elem t = e := by simp [Program.elem, hE.ht]
  have hu : P.underlying t = some (.slice (P.elem t)) := by rw [helem]; exact hE.ht
  have hcell : P.cellsOf (P.elem t) = sz := by rw [helem]; simp [Program.cellsOf, hinf, hsize]
  have hr : (Instr.sliceAt t (.slice p n c) (some (.int .i64 (i : Int))) (some (.int .i64 (k : Int))) none).run P w = .ok (sliced p i k c sz) w := by
    have hsz := run_sizeOf (w := w) (show P.info? (P.elem t) = some inf by rw [helem]; exact hinf)
    rw [run_sliceAt_slice (h := hu), run_slice_lh (ht := hu) (h0 := by omega) (h1 := by omega) (h2 := by omega), hsz, hcell]
    simp [Result.andThen]
  unfold execOp
  simp only [ho, Sem.run_bind, Sem.run_pure, Result.andThen_ok, hs, hx, hy, hr, Option.map_some, Option.map_none]
/-- What 'append(s, x...)' yields. -/
theorem exec_extend {t e : TypeId} {sz bytes : Nat} (hE : Elem P t e sz bytes) (w : World) (v v2 : Value) (n m : Nat) (xs news : List Value) (hown : w.ownsRow 0 e sz v n xs) (hr : Rd w sz v2 m news) (h1 : ∀ u ∈ news, u.oneCell' = true) (hb : (n + m) * bytes ≤ 140737488355328 ∧ n + m ≤ maxLen)
    {o : Oper} {a : Act} (s x : Operand) (ho : o.op = .call { callee := .builtin .append, args := #[s, x], argTypes := #[t, t] }) (hs : a.eval s = v) (hx : a.eval x = v2) :
    ∃ v' w', (execOp a.eval o).run P w = .ok (.value v') w' ∧ w'.ownsRow 0 e sz v' (n + m) (xs ++ news) ∧ Mods (fun k => v.ownBlock = some k) w w' ∧ Fresh w.heap.size v v' := by
  obtain ⟨i, z, hi, hz, hsize, hby, hzs⟩ := hE.hi
  obtain ⟨p, c, rfl, hl, hc1, hc2, hnil, hcell⟩ := hr
  cases p with
  | none =>
    obtain ⟨rfl, rfl⟩ := hnil rfl
    obtain rfl : news = [] := List.eq_nil_of_length_eq_zero (by simpa using hl)
    have hr := run_append_owned_none (P := P) w 0 t o.type e i sz hE.ht hi v n xs hown
    refine ⟨v, w, ?_, by simpa using hown, Mods.refl _ _, Fresh.refl _ _⟩
    unfold execOp
    simp only [ho, resolve, invoke, builtin, Sem.run_bind, Sem.run_pure, Result.andThen_ok, List.map_toArray, List.map_cons, List.map_nil, hs, hx, hr]
  | some ad =>
    obtain ⟨v', w', hr, h2, h3, h4⟩ := run_app (P := P) w t o.type e i z sz bytes hE.ht hi hz hsize hby hzs hE.pos v n xs hown ad m c news hl (hcell ad rfl) h1 hb.2 hb.1
    refine ⟨v', w', ?_, h2, h3, h4⟩
    unfold execOp
    simp only [ho, resolve, invoke, builtin, Sem.run_bind, Sem.run_pure, Result.andThen_ok, List.map_toArray, List.map_cons, List.map_nil, hs, hx, hr]
/-- 'append(s, x...)', alone. -/
theorem takeH_extend {t e : TypeId} {sz bytes : Nat} (hE : Elem P t e sz bytes) {i : Nat} {o : Oper} {rest : List (Nat × Oper)} {a : Act} {w : World} (hc : calls.contains i = true) (hw : Region.wanted o (yielded ops a.tmps) = true) (s x : Operand)
    (ho : o.op = .call { callee := .builtin .append, args := #[s, x], argTypes := #[t, t] }) {v v2 : Value} (hs : a.eval s = v) (hx : a.eval x = v2) {n m : Nat} {xs news : List Value} (hown : w.ownsRow 0 e sz v n xs) (hr : Rd w sz v2 m news) (h1 : ∀ u ∈ news, u.oneCell' = true) (hb : (n + m) * bytes ≤ 140737488355328 ∧ n + m ≤ maxLen)
    (h : ∀ v' w', w'.ownsRow 0 e sz v' (n + m) (xs ++ news) → Mods (fun k => v.ownBlock = some k) w w' → Fresh w.heap.size v v' → S w' ∧ wpTakeH P ops Q calls S rest (a.put o.dst v') w') : wpTakeH P ops Q calls S ((i, o) :: rest) a w := by
  obtain ⟨v', w', hrun, h2, h3, h4⟩ := exec_extend hE w v v2 n m xs news hown hr h1 hb s x ho hs hx
  obtain ⟨h5, h6⟩ := h v' w' h2 h3 h4
  exact takeH_run hc hw v' w' hrun h5 h6
end
end Go.Proofs.Yteiffpninifjlaa

end

section
/- Layer 4: the reference's reader: String. -/
set_option linter.unusedVariables false
namespace Go.Proofs.Yteiffpninifjlaa
open Go Go.RowKit

theorem wrap_u64_small (n : Int) (h0 : 0 ≤ n) (h : n < 18446744073709551616) : IntKind.u64.wrap n = n := by rw [IntKind.wrap_u64]; omega

set_option maxHeartbeats 4000000 in
theorem rr_string (q : Nat) (v : Value) (B : List Nat) (a : Nat) (most : Int) (w : World) (h : RRd w q v B a 0) (hB : ∀ c ∈ B, c < 256) (ha : a ≤ B.length) (hz : B.length ≤ 140737488355000) (hn : -9223372036854775808 ≤ most ∧ most < 9223372036854775808) :
    Calls Try.prog 41 #[.pointer (some ⟨q, 0, none⟩), .int .i64 most] w fun en w' => Mods (fun k => k = q) w w' ∧ Got (outString B a most) (fun l => .string (strOf l)) (.string ⟨#[]⟩) (fun b e => RRd w' q v B b e) a en := by
  obtain ⟨c0, c1, c2, f1, f2⟩ := h.cells
  have H := Lib.hid h
  have HB := Lib.hid hB
  obtain ⟨p, c, hv⟩ := h.rd.shape
  subst hv
  have hnc : B.length ≤ c := by obtain ⟨_, _, e, _, h, _⟩ := h.rd; cases e; exact h
  have hcs := outString_cases hB ha most
  have HG := Lib.hid (fun n => calls_flip (ref_get (.slice p B.length c) B (a : Int) (w.drewN n) (h.drewN n).rd hB))
  clear h hB
  go_enter Try.func41, Try.ntmps41
  go_wp2_with fail
  go_quiet ((go_at_call 40; exact Calls.quiet_of_same (HG.out _)))
  have H1 := Lib.hid (H.out.drewN nq)
  obtain ⟨c0, c1, c2, f1, f2⟩ := H1.out.cells
  have HM1 : Hid (Mods (fun k => k = q) w (w.drewN nq)) := Mods.drewN _ _ _
  generalize w.drewN nq = w1 at *
  clear HG H
  rcases hcs with ⟨e, he, hr, ho⟩ | ⟨x, to, hr, hto, htl, hx, ho⟩
  · rw [hr]
    have HO := Lib.hid ho
    have heb : ((e : Int) == 0) = false := by rw [beq_eq_false_iff_ne]; omega
    clear hr ho
    go_wp2_with fail
    refine (rr_fail q _ B a 0 (e : Int) _ H1.out).mono ?_
    rintro en w2 ⟨rfl, hR, hm⟩
    rw [if_pos rfl] at hR
    have HM := Lib.hid (HM1.out.trans hm (fun _ _ e => e))
    have HR := Lib.hid hR
    clear hR hm
    go_wp2_with fail
    go_ret
    exact ⟨HM.out, by rw [HO.out]; exact ⟨rfl, HR.out⟩⟩
  · rw [hr]
    have HO := Lib.hid ho
    clear hr ho
    by_cases hneg : most < 0
    · rw [if_pos (Or.inl hneg)] at HO
      go_wp2_with fail
      refine (rr_fail q _ B a 0 7 _ H1.out).mono ?_
      rintro en w2 ⟨rfl, hR, hm⟩
      rw [if_pos rfl] at hR
      have HM := Lib.hid (HM1.out.trans hm (fun _ _ e => e))
      have HR := Lib.hid hR
      clear hR hm
      go_wp2_with fail
      go_ret
      exact ⟨HM.out, by rw [HO.out]; exact ⟨rfl, HR.out⟩⟩
    · obtain ⟨M, rfl⟩ : ∃ M : Nat, most = (M : Int) := ⟨most.toNat, by omega⟩
      have hwM : IntKind.u64.wrap (M : Int) = (M : Int) := wrap_u64_small _ (by omega) (by omega)
      have hM0 : ¬ (M : Int) < 0 := hneg
      by_cases hlt : M < x
      · have hlt' : (M : Int) < (x : Int) := by omega
        rw [if_pos (Or.inr hlt')] at HO
        clear hneg hn
        go_wp2_with fail
        refine (rr_fail q _ B a 0 7 _ H1.out).mono ?_
        rintro en w2 ⟨rfl, hR, hm⟩
        rw [if_pos rfl] at hR
        have HM := Lib.hid (HM1.out.trans hm (fun _ _ e => e))
        have HR := Lib.hid hR
        clear hR hm
        go_wp2_with fail
        go_ret
        exact ⟨HM.out, by rw [HO.out]; exact ⟨rfl, HR.out⟩⟩
      · have hlt' : ¬ (M : Int) < (x : Int) := by omega
        rw [if_neg (by omega)] at HO
        have hrest : (B.length : Int) - (to : Int) = ((B.length - to : Nat) : Int) := by omega
        have hwR : IntKind.u64.wrap ((B.length : Int) - (to : Int)) = (B.length : Int) - (to : Int) := wrap_u64_small _ (by omega) (by omega)
        by_cases hgt : B.length - to < x
        · have hgt' : (B.length : Int) - (to : Int) < (x : Int) := by omega
          rw [if_pos hgt] at HO
          clear hneg hn hrest hgt
          go_wp2_with fail
          refine (rr_fail q _ B a 0 3 _ H1.out).mono ?_
          rintro en w2 ⟨rfl, hR, hm⟩
          rw [if_pos rfl] at hR
          have HM := Lib.hid (HM1.out.trans hm (fun _ _ e => e))
          have HR := Lib.hid hR
          clear hR hm
          go_wp2_with fail
          go_ret
          exact ⟨HM.out, by rw [HO.out]; exact ⟨rfl, HR.out⟩⟩
        · have hgt' : ¬ (B.length : Int) - (to : Int) < (x : Int) := by omega
          rw [if_neg hgt] at HO
          obtain ⟨A, hA⟩ : ∃ A, to + x = A := ⟨_, rfl⟩
          have hAl : A ≤ B.length := by omega
          have hA1 : (to : Int) + (x : Int) = (A : Int) := by omega
          have hwx : IntKind.i64.wrap (x : Int) = (x : Int) := IntWalk.i64_in _ (by omega)
          clear hneg hn hrest
          go_wp2_with fail
          have H2 := Lib.hid (H1.out.setAt A)
          have HM2 : Hid (Mods (fun k => k = q) w (w1.setCell ⟨q, 1, none⟩ (.int .i64 (A : Int)))) := HM1.out.trans (mods_set _ q 1 _) (fun _ _ e => e)
          generalize w1.setCell ⟨q, 1, none⟩ (.int .i64 (A : Int)) = w2 at *
          clear c0 c1 c2 f1 f2 H1 HM1 w1
          have HC : Hid (∀ w', Below w2.heap.size w2 w' → w'.cell? ⟨q, 0, none⟩ = some (.slice p B.length c) ∧ w'.cell? ⟨q, 1, none⟩ = some (.int .i64 (A : Int)) ∧ w'.cell? ⟨q, 2, none⟩ = some (.int .i64 0)) := fun w' hb => by
            obtain ⟨e0, e1, e2, _, _⟩ := (H2.out.below hb).cells
            exact ⟨e0, e1, e2⟩
          have HSl : Hid (Rd w2 1 (sliced p to A c 1) ((B.drop to).take x).length (u8s ((B.drop to).take x))) := by
            show Rd _ _ _ _ _
            have h2 := H2.out.rd.fromTo to A (by omega) hAl
            rw [show A - to = x by omega] at h2
            simp only [Nat.mul_one] at h2
            rw [List.drop_take, show A - to = x by omega] at h2
            rw [List.length_take, List.length_drop, Nat.min_eq_left (by omega)]
            simpa [u8s, List.map_drop, List.map_take] using h2
          obtain ⟨p2, c2, hs2⟩ := HSl.out.shape
          refine wp_region_takeH (fun w' => Below w2.heap.size w2 w') [] [0, 1, 2, 3, 4, 5, 6, 7, 8, 9, 10, 11] (by kernel_rfl) (by kernel_rfl) (by kernel_rfl) ?_ ?_ ?_
          · intro c a a' w hd h; exact ⟨hd ▸ h.1, h.2⟩
          · exact ⟨rfl, rfl, rfl, Nat.le_refl _, fun _ _ => rfl⟩
          simp only [taken, List.map_cons, List.map_nil, List.getElem?_cons_succ, List.getElem?_cons_zero, Option.getD_some]
          repeat (first
        | (refine takeH_skip rfl ?_; simp only [Act.put, List.setIfInBounds_toArray, List.set_cons_succ, List.set_cons_zero])
        | (refine takeH_blind rfl rfl ?_; apply Exists.intro; refine ⟨fun w => ?_, ?_⟩; (go_simp; try with_reducible rfl); simp only [Act.put, List.setIfInBounds_toArray, List.set_cons_succ, List.set_cons_zero])
        | (refine takeH_reads rfl rfl ?_; apply Exists.intro; refine ⟨fun w' hS => ?_, ?_⟩; (obtain ⟨d0, d1, d2⟩ := HC.out w' hS; go_simp; try with_reducible rfl); simp only [Act.put, List.setIfInBounds_toArray, List.set_cons_succ, List.set_cons_zero]))
          refine takeH_read rfl rfl (.slice p2 ((B.drop to).take x).length c2) (fun w' _ => (exec_fromTo Try.elemU8 w' p B.length c to A (by omega) (by omega) _ _ _ rfl rfl rfl rfl).trans (by rw [hs2])) ?_
          simp only [Act.put, List.setIfInBounds_toArray, List.set_cons_succ, List.set_cons_zero]
          rw [hs2] at HSl
          clear hs2
          refine takeH_read rfl rfl (.string (strOf ((B.drop to).take x))) (fun w' hS => exec_convert _ _ _ rfl rfl ((HSl.out.below hS).conv _ _ _ Try.underlying33 Try.underlying5 Try.underlying9)) ?_
          simp only [Act.put, List.setIfInBounds_toArray, List.set_cons_succ, List.set_cons_zero]
          clear HC HSl
          repeat (first
        | (refine takeH_skip rfl ?_; simp only [Act.put, List.setIfInBounds_toArray, List.set_cons_succ, List.set_cons_zero])
        | (refine takeH_blind rfl rfl ?_; apply Exists.intro; refine ⟨fun w => ?_, ?_⟩; (go_simp; try with_reducible rfl); simp only [Act.put, List.setIfInBounds_toArray, List.set_cons_succ, List.set_cons_zero]))
          refine takeH_nil ?_
          go_wp2_with fail
          go_ret
          exact ⟨HM2.out.trans (Mods.drew (fun k => k = q) _) (fun _ _ e => e), by rw [HO.out]; exact ⟨rfl, hA ▸ H2.out.drew⟩⟩
end Go.Proofs.Yteiffpninifjlaa

end

section
/- Layer 10: the reference's Decode. -/
set_option linter.unusedVariables false
namespace Go.Proofs.Yteiffpninifjlaa
open Go Go.RowKit

/-- A result that is strings and an error. -/
structure GotT (w : World) (o : Nat × List ByteArray) (e : Ending) (w' : World) : Prop where
  res : ∃ r, e = .returned (.tuple #[r, .int .i64 (o.1 : Int)]) ∧ Rd w' 1 r o.2.length (strs o.2) ∧ (∀ k, r.ownBlock = some k → w.heap.size ≤ k)
  bel : Below w.heap.size w w'
theorem GotT.fails {w w' : World} {o : Nat × List ByteArray} {en : Nat} (h : Below w.heap.size w w') (ho : o = (en, [])) : GotT w o (.returned (.tuple #[.slice none 0 0, .int .i64 (en : Int)])) w' := by
  subst ho
  exact ⟨⟨_, rfl, Rd.nil _ _, fun k e => by cases e⟩, h⟩

/-- Where Decode stands between two rounds. -/
structure DIn (w : World) (q : Nat) (bv : Value) (B : List Nat) (n : Nat) (acc : List ByteArray) (a k : Nat) (tv : Value) (wr : World) : Prop where
  own : OwnS w wr acc tv
  rr : RRd wr q bv B a 0
  ale : a ≤ B.length
  at_ : decSy B = decSyF B (n - k) a acc
  len : acc.length = k
  ne : ∀ j, tv.ownBlock = some j → j ≠ q
theorem outString_bad {B : List Nat} (hB : ∀ c ∈ B, c < 256) {a : Nat} (ha : a ≤ B.length) {most : Int} {e : Nat} (h : outString B a most = .bad e) : e ≠ 0 := by
  rcases outString_cases hB ha most with ⟨e', he, _, hr⟩ | ⟨x, t, _, _, _, _, hr⟩
  · rw [hr] at h; cases h; exact he
  · rw [hr] at h
    split at h
    · cases h; decide
    · split at h <;> cases h; decide

set_option maxRecDepth 20000 in
set_option maxHeartbeats 4000000 in
theorem ref_decode10 (bv : Value) (B : List Nat) (w : World) (hl : Rd w 1 bv B.length (u8s B)) (hB : ∀ c ∈ B, c < 256) (hn : B.length ≤ 100000000) :
    Calls Try.prog 22 #[bv] w (GotT w (decSy B)) := by
  have HL := Lib.hid hl; have HNn := Lib.hid hn; have HB := Lib.hid hB
  have HG := Lib.hid (fun w h => ref_get bv B 0 w h hB)
  obtain ⟨pl, cl, hv⟩ := hl.shape
  subst hv
  have hBm : (B.length : Int) ≤ 100000000 := by omega
  clear hl hn
  rcases readAt_cases hB (Nat.zero_le _) with ⟨e, he, hr⟩ | ⟨n, m, hr, hm, hin, hg, hnn⟩
  · have hr0 : readAt B 0 = (0, 0, e) := hr
    have HD : Hid (decSy B = (e, [])) := by
      show _ = _
      obtain ⟨k, rfl⟩ : ∃ k, e = k + 1 := ⟨e - 1, by omega⟩
      rw [decSy, hr0]
    have HGc := Lib.hid (HG.out w HL.out)
    rw [hr0] at HGc
    have he1 : ¬ (e : Int) = 0 := by omega
    have hneb : ((e : Int) == 0) = false := by rw [beq_eq_false_iff_ne]; exact he1
    clear hr0 hr he hB
    go_enter Try.func22, Try.ntmps22
    go_wp2_with fail
    refine HGc.out.mono ?_
    rintro en w2 ⟨rfl, rfl⟩
    go_wp2_with fail
    go_ret2
    exact GotT.fails (Below.refl _ _) HD.out
  · have hr0 : readAt B 0 = (n, ((0 + m : Nat) : Int), 0) := hr
    rw [Nat.zero_add] at hr0 hin
    have HGc := Lib.hid (HG.out w HL.out)
    rw [hr0] at HGc
    have hmB : (m : Int) ≤ (B.length : Int) := by omega
    have hw : IntKind.u64.wrap ((B.length : Int) - (m : Int)) = ((B.length - m : Nat) : Int) := by rw [IntKind.wrap_u64]; omega
    have hsub : (B.length : Int) - (m : Int) = ((B.length - m : Nat) : Int) := by omega
    have HR0 := Lib.hid hr0
    clear hr0 hr hB hg
    by_cases hs : B.length - m < n
    · have hs' : ((B.length - m : Nat) : Int) < (n : Int) := by omega
      have HD : Hid (decSy B = (3, [])) := by
        show _ = _
        rw [decSy, HR0.out]
        simp only [Int.toNat_natCast]
        rw [if_pos hs]
      go_enter Try.func22, Try.ntmps22
      go_wp2_with fail
      refine HGc.out.mono ?_
      rintro en w2 ⟨rfl, rfl⟩
      go_wp2_with fail
      go_ret2
      exact GotT.fails (Below.refl _ _) HD.out
    · have hs' : ¬ ((B.length - m : Nat) : Int) < (n : Int) := by omega
      have HD : Hid (decSy B = decSyF B n m []) := by
        show _ = _
        rw [decSy, HR0.out]
        simp only [Int.toNat_natCast]
        rw [if_neg hs]
      go_enter Try.func22, Try.ntmps22
      go_wp2_with fail
      refine HGc.out.mono ?_
      rintro en w2 ⟨rfl, rfl⟩
      go_wp2_with fail
      obtain ⟨q, hq⟩ : ∃ q, w.heap.size = q := ⟨_, rfl⟩
      obtain ⟨W0, hW0⟩ : ∃ W0, w.alloc (.cells #[.slice pl B.length cl, .int .i64 (m : Int), .int .i64 0] 67) = W0 := ⟨_, rfl⟩
      have HB0 : Hid (Below w.heap.size w W0) := by rw [← hW0]; exact (Below.refl _ w).alloc (Nat.le_refl _) _
      have HK0 : Hid (Blk W0 q [.slice pl B.length cl, .int .i64 (m : Int), .int .i64 0]) := by rw [← hW0, ← hq]; exact Blk.new w _ _
      have HBlt : Hid (∀ j, (Value.slice pl B.length cl).ownBlock = some j → B = [] ∨ j < q) := fun j hj => by
        by_cases h : B = []
        · exact Or.inl h
        · have := HL.out.lt (fun e => h (by simpa [u8s] using e)) j hj; omega
      rw [hW0, hq]
      have HQ := Lib.hid hq
      clear hW0 hq
      have HBne : Hid (B ≠ []) := fun e => by have := hin; rw [e] at this; simp at this; omega
      have HBq : Hid (∀ j, (Value.slice pl B.length cl).ownBlock = some j → j < q) := fun j hj => (HBlt.out j hj).resolve_left HBne.out
      have HI0 : Hid (DIn w q (.slice pl B.length cl) B n [] m 0 (.slice none 0 0) W0) :=
        ⟨(Own1.nil w).below (HB0.out), ⟨HK0.out, HL.out.below HB0.out, fun j hj => by have := HBq.out j hj; omega⟩, hin, HD.out, rfl, fun j e => by cases e⟩
      have HNB : Hid (n ≤ B.length) := by show _ ≤ _; omega
      clear HBlt HK0 HB0 HGc HR0 hs hmB hw hsub hs' hnn hin hm
      have hnm : (n : Int) ≤ 100000000 := by have := HNB.out; have := HNn.out; omega
      have hwn : wrap64 (n : Int) = (n : Int) := by rw [wrap64]; omega
      go_loopw [8, 9] (fun tv kv wr => ∃ (k : Nat) (acc : List ByteArray) (a : Nat), k ≤ n ∧ kv = .int .i64 (k : Int) ∧ Hid (DIn w q (.slice pl B.length cl) B n acc a k tv wr)) (fun _ kv _ => n - (intOf kv).toNat)
      case atStart => exact ⟨0, [], m, Nat.zero_le _, rfl, HI0.out⟩
      case round =>
        obtain ⟨k, acc, a, hkn, rfl, HI⟩ := hrel
        have HLen := Lib.hid HI.out.len
        obtain ⟨pv, cv, hvv⟩ := HI.out.own.shape
        rw [HLen.out] at hvv
        subst hvv
        have hkm : (k : Int) ≤ 100000000 := by omega
        by_cases hk : k < n
        · have hk' : (k : Int) < (n : Int) := by omega
          have HS := Lib.hid (rr_string q _ B a 65535 wr HI.out.rr HB.out HI.out.ale (by have := HNn.out; omega) (by decide))
          have HAt : Hid (decSy B = decSyF B ((n - (k + 1)) + 1) a acc) := by
            have h := HI.out.at_
            rw [show n - k = (n - (k + 1)) + 1 from by omega] at h
            exact h
          go_wp2_with fail
          refine HS.out.mono ?_
          rintro en w2 ⟨hM, hG⟩
          have HBv : Hid (∀ j, (Value.slice pl B.length cl).ownBlock = some j → ¬ (Value.slice pv k cv).ownBlock = some j) := fun j hj e => by
            have h1 := HBq.out j hj; have h2 := (HI.out.own.row.lt j e).1; have := HQ.out; omega
          have HO2 : Hid (OwnS w w2 acc (.slice pv k cv)) := ⟨hM.owns HI.out.own.row (fun j hj e => HI.out.ne j hj e), HI.out.own.bel.trans (hM.below HI.out.own.bel.size (fun j hj e => by have := HQ.out; omega))⟩
          have HNe := Lib.hid HI.out.ne
          cases ho : outString B a 65535 with
          | bad e =>
            rw [ho] at hG
            obtain ⟨rfl, hR⟩ := hG
            have HR := Lib.hid hR
            have hene : e ≠ 0 := outString_bad HB.out HI.out.ale ho
            have HE : Hid (decSy B = (e, [])) := by show _ = _; rw [HAt.out, decSyF, ho]
            have he1 : ¬ (e : Int) = 0 := by omega
            have heb : ((e : Int) == 0) = false := by rw [beq_eq_false_iff_ne]; exact he1
            obtain ⟨c0, c1, c2, f1, f2⟩ := hR.cells
            clear hR hM ho hene HS HAt HI
            go_wp2_with fail
            go_quiet (fail)
            have HBe : Hid (Below w.heap.size w (w2.drewN nq)) := (HO2.out.drewN nq).bel
            generalize w2.drewN nq = w3 at *
            go_wp2_with fail
            go_ret2
            exact GotT.fails HBe.out HE.out
          | ok s to =>
            rw [ho] at hG
            obtain ⟨hen, hR⟩ := hG
            have hen2 : en = .returned (.string (strOf s)) := hen
            obtain ⟨_, h2, h3, h4, _⟩ := outString_inv HB.out HI.out.ale ho
            have HTo := Lib.hid h3
            obtain ⟨x, hx⟩ : ∃ x, strOf s = x := ⟨_, rfl⟩
            have HSt : Hid (decSy B = if lastLt acc x then decSyF B (n - (k + 1)) to (acc ++ [x]) else (16, [])) := by show _ = _; rw [HAt.out, decSyF, ho]; simp only [hx]
            rw [hx] at hen2
            subst hen2
            have HRr := Lib.hid hR
            obtain ⟨c0, c1, c2, f1, f2⟩ := hR.cells
            have HRow : Hid (w2.ownsRow 0 9 1 (.slice pv k cv) k (strs acc)) := by have h := HO2.out.base0; rw [HLen.out] at h; exact h
            have HBd : Hid ((k + 1) * 16 ≤ 140737488355328 ∧ k + 1 ≤ maxLen) := by show _ ∧ _; unfold maxLen; omega
            clear hR hM ho hx h2 h3 h4 HS HAt hen
            by_cases h0 : k = 0
            · have HNx : Hid (decSy B = decSyF B (n - (k + 1)) to (acc ++ [x])) := by
                show _ = _
                have : acc = [] := List.eq_nil_of_length_eq_zero (by rw [HLen.out, h0])
                rw [HSt.out, if_pos]
                rw [this]; rfl
              clear HI
              subst h0
              go_wp2_with (at_builtin; refine wpList_push Try.elemStr w2 #[.string x] _ _ _ HRow.out rfl (one_cell _ rfl) HBd.out rfl _ _ rfl rfl rfl ?_)
              intro v3 w3 k1 k2 k3
              have HI3 : Hid (DIn w q (.slice pl B.length cl) B n (acc ++ [x]) to (0 + 1) v3 w3) := by
                refine ⟨HO2.out.pushed (by rw [HLen.out]; exact k1) k2 k3, HRr.out.mods k2 (fun e => HNe.out _ e rfl) HBv.out, HTo.out, HNx.out, by rw [List.length_append, HLen.out]; rfl, fun j hj => ?_⟩
                rcases k3 j hj with e | e
                · exact HNe.out j e
                · have := HRr.out.blk.lt; omega
              obtain ⟨p3, c3, hv3⟩ : ∃ p c, v3 = .slice p (0 + 1) c := by have := (Rd.of_owns k1).shape; exact this
              subst hv3
              clear k1 k2 k3 HRow HO2 HRr
              go_wp2_with fail
              go_round
              case rel => exact ⟨1, acc ++ [x], to, by omega, by go_num, HI3.out⟩
              case measure => simp [intOf]; omega
            · obtain ⟨z, hz⟩ : ∃ z, k = z + 1 := ⟨k - 1, by omega⟩
              have h0' : (0 : Int) < (k : Int) := by omega
              have hzk : (k : Int) - 1 = (z : Int) := by omega
              have hz0 : (0 : Int) ≤ (z : Int) := by omega
              have hzl : (z : Int) < (k : Int) := by omega
              obtain ⟨y, hy⟩ : ∃ y, acc[z]? = some y := ⟨_, List.getElem?_eq_getElem (by have := HLen.out; omega)⟩
              have HLast : Hid (acc.getLast? = some y) := by
                show _ = _
                rw [List.getLast?_eq_getElem?, HLen.out, hz]; exact hy
              obtain ⟨g0, cap0, hv0⟩ : ∃ g cap, (Value.slice pv k cv) = .slice (some ⟨g, 0, none⟩) k cap := by
                rcases owns_cases HO2.out.row with ⟨_, h0, _⟩ | ⟨g, cap, hv, _⟩
                · have := HLen.out; omega
                · rw [HLen.out] at hv; exact ⟨g, cap, hv⟩
              simp only [Value.slice.injEq] at hv0
              obtain ⟨rfl, _, rfl⟩ := hv0
              have hcy : w2.cell? ⟨g0, z, none⟩ = some (.string y) := by rw [(HO2.out.cell (i := z) (by have := HLen.out; omega)).1, (List.getElem?_eq_some_iff.1 hy).2]
              clear h0 hy hz HI
              by_cases hyx : ltS y x = true
              · have HNx : Hid (decSy B = decSyF B (n - (k + 1)) to (acc ++ [x])) := by
                  show _ = _
                  rw [HSt.out, if_pos]
                  rw [lastLt, HLast.out]; exact hyx
                have hge : binOp .geq 9 (.string y) (.string x) = pure (.bool false) := by simp [binOp, Op.stringOp, show Op.bytesLess y.toList x.toList = true from hyx]
                clear hyx
                go_wp2_with (at_builtin; refine wpList_push Try.elemStr w2 #[.string x] _ _ _ HRow.out rfl (one_cell _ rfl) HBd.out rfl _ _ rfl rfl rfl ?_)
                intro v3 w3 k1 k2 k3
                have HI3 : Hid (DIn w q (.slice pl B.length cl) B n (acc ++ [x]) to (k + 1) v3 w3) := by
                  refine ⟨HO2.out.pushed (by rw [HLen.out]; exact k1) k2 k3, HRr.out.mods k2 (fun e => HNe.out _ e rfl) HBv.out, HTo.out, HNx.out, by rw [List.length_append, HLen.out]; rfl, fun j hj => ?_⟩
                  rcases k3 j hj with e | e
                  · exact HNe.out j e
                  · have := HRr.out.blk.lt; omega
                obtain ⟨p3, c3, hv3⟩ : ∃ p c, v3 = .slice p (k + 1) c := by have := (Rd.of_owns k1).shape; exact this
                subst hv3
                clear k1 k2 k3 HRow HO2 HRr
                go_wp2_with fail
                go_round
                case rel => exact ⟨k + 1, acc ++ [x], to, by omega, by go_num, HI3.out⟩
                case measure => simp [intOf]; omega
              · have hyf : ltS y x = false := by simpa using hyx
                have hge : binOp .geq 9 (.string y) (.string x) = pure (.bool true) := by simp [binOp, Op.stringOp, show Op.bytesLess y.toList x.toList = false from hyf]
                have HE : Hid (decSy B = (16, [])) := by
                  show _ = _
                  rw [HSt.out, if_neg]
                  rw [lastLt, HLast.out]; simpa using hyf
                have HFl := Lib.hid (rr_fail q _ B to 0 16 w2 HRr.out)
                clear hyx hyf
                go_wp2_with fail
                refine HFl.out.mono ?_
                rintro en w4 ⟨rfl, hR4, hM4⟩
                have hR4' : RRd w4 q (.slice pl B.length cl) B to 16 := hR4
                have HBe : Hid (Below w.heap.size w w4) := HO2.out.bel.trans (hM4.below HO2.out.bel.size (fun j hj e => by have := HQ.out; omega))
                clear c0 c1 c2 f1 f2 hR4 hM4 HFl hcy
                obtain ⟨c0, c1, c2, f1, f2⟩ := hR4'.cells
                clear hR4'
                go_wp2_with fail
                go_quiet (fail)
                have HBf : Hid (Below w.heap.size w (w4.drewN nq)) := HBe.out.trans ⟨rfl, rfl, rfl, Nat.le_refl _, fun _ _ => rfl⟩
                generalize w4.drewN nq = w5 at *
                go_wp2_with fail
                go_ret2
                exact GotT.fails HBf.out HE.out
        · have hk' : ¬ (k : Int) < (n : Int) := by omega
          have HE0 := Lib.hid (fun w' h => rr_end q (.slice pl B.length cl) B a 0 w' h)
          have HNx : Hid (decSy B = if a < B.length then (4, []) else (0, acc)) := by
            have h := HI.out.at_
            rw [show n - k = 0 from by omega, decSyF] at h
            exact h
          by_cases hal : a < B.length
          · have HEa : Hid (Calls Try.prog 43 #[.pointer (some ⟨q, 0, none⟩)] wr fun en w' => en = .returned (.int .i64 4) ∧ ∃ n, w' = wr.drewN n) := by
              have h := HE0.out wr HI.out.rr
              rw [if_pos (by simpa using hal)] at h
              exact h
            rw [if_pos hal] at HNx
            go_wp2_with fail
            refine HEa.out.mono ?_
            rintro en w2 ⟨rfl, d, rfl⟩
            have HEb : Hid (Calls Try.prog 43 #[.pointer (some ⟨q, 0, none⟩)] (wr.drewN d) fun en w' => en = .returned (.int .i64 4) ∧ ∃ n, w' = (wr.drewN d).drewN n) := by
              have h := HE0.out (wr.drewN d) (HI.out.rr.drewN d)
              rw [if_pos (by simpa using hal)] at h
              exact h
            clear hal HE0
            have HBe : Hid (Below w.heap.size w (wr.drewN d)) := (HI.out.own.drewN d).bel
            generalize wr.drewN d = w3 at *
            go_wp2_with fail
            refine HEb.out.mono ?_
            rintro en w4 ⟨rfl, d2, rfl⟩
            have HBf : Hid (Below w.heap.size w (w3.drewN d2)) := HBe.out.trans ⟨rfl, rfl, rfl, Nat.le_refl _, fun _ _ => rfl⟩
            generalize w3.drewN d2 = w4 at *
            go_wp2_with fail
            go_ret2
            exact GotT.fails HBf.out HNx.out
          · have HEa : Hid (Calls Try.prog 43 #[.pointer (some ⟨q, 0, none⟩)] wr fun en w' => en = .returned (.int .i64 0) ∧ ∃ n, w' = wr.drewN n) := by
              have h := HE0.out wr HI.out.rr
              rw [if_neg (by simpa using hal)] at h
              exact h
            rw [if_neg hal] at HNx
            clear hal HE0
            go_wp2_with fail
            refine HEa.out.mono ?_
            rintro en w2 ⟨rfl, d, rfl⟩
            have HO3 := Lib.hid (HI.out.own.drewN d)
            clear HI HEa
            generalize wr.drewN d = w3 at *
            go_wp2_with fail
            go_ret2
            rw [HNx.out]
            exact ⟨⟨_, rfl, (by have h := HO3.out.rd; rw [HLen.out] at h ⊢; exact h), fun j hj => (HO3.out.row.lt j hj).1⟩, HO3.out.bel⟩
end Go.Proofs.Yteiffpninifjlaa

end

section
/- Layer 10: what the walks ask of the program's Table, Index, Encode and Decode, whatever they look like inside. -/
set_option linter.unusedVariables false
namespace Go.Proofs.Yteiffpninifjlaa
open Go Go.RowKit

/-- T w: what the program's own memory, in the blocks below G, must hold. -/
structure SyIf (G : Nat) (T : World → Prop) : Prop where
  keeps : ∀ {S : Nat → Prop} {w w' : World}, T w → Mods S w w' → (∀ k, k < G → ¬ S k) → T w'
  low : ∀ {w : World}, T w → G ≤ w.heap.size
  table : ∀ (lv : Value) (l : List ByteArray) (w : World), T w → Rd w 1 lv l.length (strs l) → l.length ≤ 1000000 →
    Calls Try.prog 13 #[lv] w fun e w' => ∃ r, e = .returned r ∧ GotL w (tabS l) r w'
  index : ∀ (tv : Value) (t : List ByteArray) (s : ByteArray) (w : World), T w → Rd w 1 tv t.length (strs t) → t.length ≤ 1000000 → AscB ltS t → Fits t →
    Calls Try.prog 16 #[tv, .string s] w fun e w' => e = .returned (.tuple #[.int .i64 (max (findS t s) 0), .bool (decide (0 ≤ findS t s))]) ∧ Below w.heap.size w w'
  encode : ∀ (tv : Value) (t : List ByteArray) (w : World), T w → Rd w 1 tv t.length (strs t) → t.length ≤ 1000000 →
    Calls Try.prog 18 #[tv] w (GotB w (encSyR t))
  decode : ∀ (bv : Value) (B : List Nat) (w : World), T w → Rd w 1 bv B.length (u8s B) → (∀ c ∈ B, c < 256) → B.length ≤ 100000000 →
    Calls Try.prog 21 #[bv] w (GotT w (decSy B))
theorem SyIf.below {G : Nat} {T : World → Prop} (I : SyIf G T) {w w' : World} (h : T w) (hb : Below w.heap.size w w') : T w' := I.keeps h (Mods.of_below hb (fun _ => False)) (fun _ _ h => h)
end Go.Proofs.Yteiffpninifjlaa

end

section
/- Layer 10: the statements' own bounds. -/
set_option linter.unusedVariables false
namespace Go.Proofs.Yteiffpninifjlaa
open Go Go.RowKit

set_option maxHeartbeats 2000000 in
theorem large10 (lv : Value) (l : List ByteArray) (w : World) (hl : Rd w 1 lv l.length (strs l)) (hs : ∀ s ∈ l, s.size ≤ 9223372036854775807) :
    Calls Try.prog 9 #[lv] w fun e w' => (e = .returned (.int .i64 1) ∨ (e = .returned (.int .i64 0) ∧ l.length ≤ 500 ∧ ∀ s ∈ l, s.size ≤ 200000)) ∧ Below w.heap.size w w' := by
  have HL := Lib.hid hl; have HS := Lib.hid hs
  obtain ⟨pl, cl, hv⟩ := hl.shape
  subst hv
  have hmax : (l.length : Int) ≤ 9223372036854775807 := by have := hl.le; unfold maxLen at this; omega
  clear hl hs
  go_enter Try.func9, Try.ntmps9
  go_wp2_with fail
  go_loopw [3, 8] (fun nv iv wr => ∃ (j N : Nat), j ≤ l.length ∧ N ≤ 200000 ∧ nv = .int .i64 (N : Int) ∧ iv = .int .i64 (j : Int) ∧ Hid ((j = 0 ∨ l.length ≤ 500) ∧ ∀ s ∈ l.take j, s.size ≤ 200000) ∧ Hid (Below w.heap.size w wr)) (fun _ iv _ => l.length - (intOf iv).toNat)
  case atStart => exact ⟨0, 0, Nat.zero_le _, Nat.zero_le _, rfl, rfl, ⟨Or.inl rfl, by intro s hs; simp at hs⟩, Below.refl _ _⟩
  case round =>
    obtain ⟨j, N, hj, hN, rfl, rfl, HF, HB⟩ := hrel
    have hNi : (N : Int) ≤ 200000 := by omega
    by_cases hlt : j < l.length
    · have hlt' : (j : Int) < (l.length : Int) := by omega
      obtain ⟨b, off, c', e, _, _, _⟩ := HL.out.at (fun e => by have := congrArg List.length e; rw [strs_length] at this; simp at this; subst this; simp at hlt)
      simp only [Value.slice.injEq] at e
      obtain ⟨rfl, _, rfl⟩ := e
      obtain ⟨x, hx⟩ : ∃ x, l[j]? = some x := ⟨_, List.getElem?_eq_getElem hlt⟩
      have hcx : wr.cell? ⟨b, off + j, none⟩ = some (.string x) := by rw [← (List.getElem?_eq_some_iff.1 hx).2]; exact rd1_cell (HL.out.below HB.out) hlt
      have HX := Lib.hid hx
      have hxm : (x.size : Int) ≤ 9223372036854775807 := by have := HS.out x (List.mem_of_getElem? hx); omega
      clear hx
      by_cases hz : (x.size : Int) ≤ 200000
      · by_cases hS : N + (1 + x.size) ≤ 200000
        · have hS' : ¬ (200000 : Int) < (N : Int) + (1 + (x.size : Int)) := by omega
          have hSm : (N : Int) + (1 + (x.size : Int)) ≤ 200000 := by omega
          by_cases h5 : l.length ≤ 500
          · have h5' : ¬ (500 : Int) < (l.length : Int) := by omega
            have HF2 : Hid ((j + 1 = 0 ∨ l.length ≤ 500) ∧ ∀ s ∈ l.take (j + 1), s.size ≤ 200000) := by
              refine ⟨Or.inr h5, fun s hs => ?_⟩
              rw [List.take_add_one, HX.out] at hs
              rcases List.mem_append.1 hs with e | e
              · exact HF.out.2 s e
              · simp at e; subst e; omega
            have hcs : ((N + (1 + x.size) : Nat) : Int) = (N : Int) + (1 + (x.size : Int)) := by omega
            have HCs := Lib.hid hcs
            have HH : Hid (N + (1 + x.size) ≤ 200000) := hS
            clear h5 hS hcs
            go_wp2_with fail
            go_round
            case rel => exact ⟨j + 1, N + (1 + x.size), by omega, HH.out, by rw [HCs.out], by go_num, HF2.out, HB.out⟩
            case measure => simp [intOf]; omega
          · have h5' : (500 : Int) < (l.length : Int) := by omega
            clear h5 hS
            go_wp2_with fail
            go_ret
            exact ⟨Or.inl rfl, HB.out⟩
        · have hS' : (200000 : Int) < (N : Int) + (1 + (x.size : Int)) := by omega
          clear hS
          go_wp2_with fail
          go_ret
          exact ⟨Or.inl rfl, HB.out⟩
      · have hz' : (200000 : Int) ≤ (x.size : Int) := by omega
        have hS' : (200000 : Int) < (N : Int) + 200001 := by omega
        go_wp2_with fail
        go_ret
        exact ⟨Or.inl rfl, HB.out⟩
    · have hlt' : ¬ (j : Int) < (l.length : Int) := by omega
      have HD : Hid (l.length ≤ 500 ∧ ∀ s ∈ l, s.size ≤ 200000) := by
        have h := HF.out
        rw [List.take_of_length_le (by omega)] at h
        refine ⟨?_, h.2⟩
        rcases h.1 with e | e <;> omega
      go_wp2_with fail
      go_ret
      exact ⟨Or.inr ⟨rfl, HD.out⟩, HB.out⟩
end Go.Proofs.Yteiffpninifjlaa

end

section
/- slices.Equal of strings. -/
set_option linter.unusedVariables false
namespace Go.Proofs.Yteiffpninifjlaa
open Go Go.RowKit

set_option maxHeartbeats 1000000 in
/-- slices.Equal. -/
theorem equal_str (a b : Value) (l k : List ByteArray) (w : World) (ha : Rd w 1 a l.length (strs l)) (hb : Rd w 1 b k.length (strs k)) :
    Calls Try.prog 12 #[a, b] w fun e w' => e = .returned (.bool (decide (l = k))) ∧ Below w.heap.size w w' := by
  have HA := Lib.hid ha; have HB := Lib.hid hb
  obtain ⟨pa, ca, hv⟩ := ha.shape
  subst hv
  obtain ⟨pb, cb, hv⟩ := hb.shape
  subst hv
  clear ha hb
  by_cases hlen : l.length = k.length
  · have hlb : ((l.length : Int) == (k.length : Int)) = true := by rw [hlen]; simp
    have hli : (l.length : Int) = (k.length : Int) := by omega
    have HLen := Lib.hid hlen
    have HMax : Hid ((l.length : Int) ≤ 9223372036854775807) := by show _ ≤ _; have := HA.out.le; unfold maxLen at this; omega
    rw [← hlen] at HB ⊢
    clear hlen hlb hli
    go_enter Try.func12, Try.ntmps12
    go_wp2_with fail
    go_loopw [13] (fun i wr => ∃ j : Nat, j ≤ l.length ∧ i = .int .i64 (j : Int) ∧ Hid (Below w.heap.size w wr) ∧ Hid (l.take j = k.take j)) (fun i _ => l.length - (intOf i).toNat)
    case atStart => exact ⟨0, by omega, rfl, Below.refl _ _, rfl⟩
    case round =>
      obtain ⟨j, hj, rfl, HBw, HT⟩ := hrel
      by_cases hlt : j < l.length
      · have hlt' : (j : Int) < (l.length : Int) := by omega
        have hmx := HMax.out
        have hltk : j < k.length := by have := HLen.out; omega
        have hca := (HA.out.below HBw.out)
        have hcb := (HB.out.below HBw.out)
        obtain ⟨b1, o1, c1, e, m1, m2, hc1⟩ := hca.at (fun e => by have := congrArg List.length e; rw [strs_length] at this; simp at this; subst this; simp at hlt)
        simp only [Value.slice.injEq] at e
        obtain ⟨rfl, _, rfl⟩ := e
        obtain ⟨b2, o2, c2, e, m3, m4, hc2⟩ := hcb.at (fun e => by have := congrArg List.length e; rw [strs_length] at this; simp at this; subst this; simp at hltk)
        simp only [Value.slice.injEq] at e
        obtain ⟨rfl, _, rfl⟩ := e
        have h1 := hc1 j _ (strs_get l j hlt)
        have h2 := hc2 j _ (strs_get k j hltk)
        have HS : Hid (l[j] = k[j] → l.take (j + 1) = k.take (j + 1)) := fun e => by rw [List.take_add_one, List.take_add_one, List.getElem?_eq_getElem hlt, List.getElem?_eq_getElem hltk, e, HT.out]
        have HN : Hid (l[j] ≠ k[j] → decide (l = k) = false) := fun e => by
          rw [decide_eq_false_iff_not]
          intro h
          apply e
          have h3 : l[j]? = k[j]? := by rw [h]
          rw [List.getElem?_eq_getElem hlt, List.getElem?_eq_getElem hltk] at h3
          exact Option.some.inj h3
        clear hc1 hc2 hca hcb m1 m2 m3 m4
        generalize l[j] = x at *
        generalize k[j] = y at *
        clear hltk
        by_cases hxy : x = y
        · subst hxy
          have HS2 := Lib.hid (HS.out rfl)
          clear HS HN
          go_wp2_with fail
          go_quiet (fail)
          have HB2 : Hid (Below w.heap.size w (wr.drewN nq)) := HBw.out.trans ⟨rfl, rfl, rfl, Nat.le_refl _, fun _ _ => rfl⟩
          clear h1 h2
          generalize wr.drewN nq = w2 at *
          go_wp2_with fail
          go_round
          case rel => exact ⟨j + 1, by omega, by go_num, HB2.out, HS2.out⟩
          case measure => simp [intOf]; omega
        · have HN2 := Lib.hid (HN.out hxy)
          have hxb : (x.toList == y.toList) = false := by rw [eqS]; simpa using hxy
          clear HS HN hxy
          go_wp2_with fail
          go_quiet (fail)
          have HB2 : Hid (Below w.heap.size w (wr.drewN nq)) := HBw.out.trans ⟨rfl, rfl, rfl, Nat.le_refl _, fun _ _ => rfl⟩
          clear h1 h2
          generalize wr.drewN nq = w2 at *
          go_wp2_with fail
          go_ret
          exact ⟨by rw [HN2.out]; rfl, HB2.out⟩
      · obtain rfl : j = l.length := by omega
        have hnl : ¬ (l.length : Int) < (l.length : Int) := by omega
        have HE : Hid (decide (l = k) = true) := by
          show _ = _
          rw [decide_eq_true_iff]
          have h := HT.out
          rw [List.take_length, List.take_of_length_le (by have := HLen.out; omega)] at h
          exact h
        go_wp2_with fail
        go_ret
        exact ⟨by rw [HE.out]; rfl, HBw.out⟩
  · have hlb : ((l.length : Int) == (k.length : Int)) = false := by rw [beq_eq_false_iff_ne]; omega
    have hli : ¬ (l.length : Int) = (k.length : Int) := by omega
    have HE : Hid (decide (l = k) = false) := by
      show _ = _
      rw [decide_eq_false_iff_not]
      intro h; exact hlen (by rw [h])
    clear hlen
    go_enter Try.func12, Try.ntmps12
    go_wp2_with fail
    go_ret
    exact ⟨by rw [HE.out]; rfl, Below.refl _ _⟩

end Go.Proofs.Yteiffpninifjlaa

end

section
/- slices.Clone of strings. -/
set_option linter.unusedVariables false
namespace Go.Proofs.Yteiffpninifjlaa
open Go Go.RowKit

set_option maxHeartbeats 400000 in
/-- slices.Clone. -/
theorem clone_str (v : Value) (l : List ByteArray) (w : World) (h : Rd w 1 v l.length (strs l)) (hn : l.length ≤ 8796093022208) :
    Calls Try.prog 11 #[v] w fun e w' => ∃ r, e = .returned r ∧ Made w w' 9 1 r l.length (strs l) := by
  have hq : ∀ (w : World) (a : Option Addr) (n c n' c' : Nat), (binOp .eql 22 (.slice a n c) (.slice none n' c')).run Try.prog w = .ok (.bool a.isNone) w := fun w a n c n' c' => Lib.run_eql_slice_nil w _ _ a n c n' c' Try.underlying22
  obtain ⟨p, c, hv⟩ := h.shape
  subst hv
  cases p with
  | none =>
    obtain ⟨_, _, e, hl, _, _, hnil, _⟩ := h
    simp only [Value.slice.injEq] at e
    obtain ⟨rfl, _, rfl⟩ := e
    obtain ⟨h0, rfl⟩ := hnil rfl
    obtain rfl : l = [] := List.eq_nil_of_length_eq_zero h0
    go_enter Try.func11, Try.ntmps11
    go_wp2
    go_ret
    exact ⟨_, rfl, World.ownsRow_nil _ _ _ _, Below.refl _ _⟩
  | some ad =>
    have HB : Hid (Below w.heap.size w (w.alloc (.cells #[] 9))) := (Below.refl _ _).alloc (Nat.le_refl _) _
    have HR := Lib.hid (h.below HB.out)
    clear h
    have HO : Hid ((w.alloc (.cells #[] 9)).ownsRow 0 9 1 (.slice (some ⟨w.heap.size, 0, none⟩) 0 0) 0 []) := World.ownsRow_lit (base := 0) w #[] 0 (Nat.zero_le _) (by simp [maxLen]) (by simp)
    have HL : Hid ((0 + l.length) * 16 ≤ 140737488355328 ∧ 0 + l.length ≤ maxLen) := by show _ ∧ _; unfold maxLen; omega
    go_enter Try.func11, Try.ntmps11
    go_wp2_with (at_builtin; refine wpList_extend Try.elemStr _ _ _ _ _ _ _ HO.out HR.out (strs_one _) HL.out rfl _ _ rfl rfl rfl ?_)
    intro v' w1 hown hmods hfr
    have HM : Hid (Made w w1 9 1 v' l.length (strs l)) := by
      refine ⟨?_, HB.out.trans (hmods.below HB.out.size (fun k hk e => by simp [Value.ownBlock] at e; omega))⟩
      try simp only [List.nil_append, Nat.zero_add] at hown
      exact owns_rebase hown (fun k hk => by
        rcases hfr k hk with e | e
        · simp [Value.ownBlock] at e; omega
        · have := HB.out.size; omega)
    clear hown hmods hfr
    go_wp2
    go_ret
    exact ⟨_, rfl, HM.out⟩
end Go.Proofs.Yteiffpninifjlaa

end
