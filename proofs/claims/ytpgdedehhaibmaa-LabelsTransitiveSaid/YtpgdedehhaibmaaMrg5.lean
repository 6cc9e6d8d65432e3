/- LbB, RdBlk, LbC, LbD, LbG, SortRowK, LbS, LabPs, CloneLab, LbN, LbE, in one text. -/
import Derived.Test.YtpgdedehhaibmaaMrg4
import Derived.Laws.EntriesVeiled
import Derived.Test.YtpgdedehhaibmaaMrg1
import Derived.Test.YtpgdedehhaibmaaMrg2
import Derived.Shelf.SlSortCmp.InsertionK
import Derived.Shelf.SlSortCmp.NoneTotal
import Derived.Test.YtpgdedehhaibmaaMrg3

section
/- Layer 11, the program's own: compareBy over whatever parts, compareNames, compareLabels. -/
set_option linter.unusedVariables false
set_option maxRecDepth 20000
namespace Go.Proofs.Ytpgdedehhaibmaa
open Go Go.RowKit

/-- A part: the function that gives it, and what it gives. -/
abbrev PartL := FuncId × (Lab → ByteArray)
def partV (p : PartL) : Value := .func (.func p.1) #[] #[]
/-- The function of a part does what it says. -/
structure PartIs (p : PartL) : Prop where
  enter : ∀ (args : Array Value) (w : World), (callFunc p.1 args).run Try.prog w = .ok (.enter p.1 args) w
  gives : ∀ (x : Lab) (w : World), Calls Try.prog p.1 #[labV x] w fun e w' => e = .returned (.string (p.2 x)) ∧ Grw w w'
/-- The first of the parts in which two labels differ. -/
def cmpBy (x y : Lab) : List PartL → Int
  | [] => 0
  | p :: ps => if ordS (p.2 x) (p.2 y) = 0 then cmpBy x y ps else ordS (p.2 x) (p.2 y)
theorem cmpBy_step {x y : Lab} {ps : List PartL} {i : Nat} {p : PartL} (hp : ps[i]? = some p) (h : cmpBy x y ps = cmpBy x y (ps.drop i)) :
    cmpBy x y ps = if ordS (p.2 x) (p.2 y) = 0 then cmpBy x y (ps.drop (i + 1)) else ordS (p.2 x) (p.2 y) := by
  have h1 : ps.drop i = p :: ps.drop (i + 1) := by rw [List.drop_eq_getElem_cons (List.getElem?_eq_some_iff.1 hp).1, (List.getElem?_eq_some_iff.1 hp).2]
  rw [h, h1]; rfl

set_option maxHeartbeats 4000000 in
theorem compareBy_any (ps : List PartL) (hps : ∀ p ∈ ps, PartIs p) (hn : ps.length ≤ 1000) (x y : Lab) (v : Value) (w : World) (hv : Rd w 1 v ps.length (ps.map partV)) :
    Calls Try.prog 35 #[labV x, labV y, v] w fun e w' => e = .returned (.int .i64 (cmpBy x y ps)) ∧ Grw w w' := by
  have HV := Lib.hid hv; have HP := Lib.hid hps
  obtain ⟨q, c, e⟩ := hv.shape
  subst e
  obtain ⟨xn, xv⟩ := x
  obtain ⟨yn, yv⟩ := y
  have hmx : (ps.length : Int) ≤ 1000 := by omega
  clear hv hps hn
  show Calls Try.prog 35 #[.agg #[.string xn, .string xv], .agg #[.string yn, .string yv], .slice q ps.length c] w _
  have HW : Hid (∃ w2, w2 = (w.alloc (.cells #[.string xn, .string xv] 30)).alloc (.cells #[.string yn, .string yv] 30)) := ⟨_, rfl⟩
  have HG2 : Hid (Grw w ((w.alloc (.cells #[.string xn, .string xv] 30)).alloc (.cells #[.string yn, .string yv] 30))) := ((Grw.refl w).alloc _).alloc _
  have HX2 : Hid (Blk ((w.alloc (.cells #[.string xn, .string xv] 30)).alloc (.cells #[.string yn, .string yv] 30)) w.heap.size [.string xn, .string xv]) := (Blk.new w _ _).alloc _
  have HY2 : Hid (Blk ((w.alloc (.cells #[.string xn, .string xv] 30)).alloc (.cells #[.string yn, .string yv] 30)) (w.heap.size + 1) [.string yn, .string yv]) := by
    have h := Blk.new (w.alloc (.cells #[.string xn, .string xv] 30)) #[.string yn, .string yv] 30
    have hs : (w.alloc (.cells #[.string xn, .string xv] 30)).heap.size = w.heap.size + 1 := by simp
    rwa [hs] at h
  go_enter Try.func35, Try.ntmps35
  go_wp2_with fail
  generalize (w.alloc (.cells #[.string xn, .string xv] 30)).alloc (.cells #[.string yn, .string yv] 30) = w2 at *
  clear HW
  go_loopw [12] (fun iv wr => ∃ (i : Nat), i ≤ ps.length ∧ iv = .int .i64 (i : Int) ∧ Hid (cmpBy (xn, xv) (yn, yv) ps = cmpBy (xn, xv) (yn, yv) (ps.drop i)) ∧ Hid (Grw w2 wr)) (fun iv _ => ps.length - (intOf iv).toNat)
  case atStart => exact ⟨0, Nat.zero_le _, rfl, rfl, Grw.refl _⟩
  case round =>
    obtain ⟨i, hi, rfl, HC, HG⟩ := hrel
    by_cases hlt : i < ps.length
    · have hlt' : (i : Int) < (ps.length : Int) := by omega
      have him : (i : Int) ≤ 1000 := by omega
      obtain ⟨⟨f, g⟩, hp⟩ : ∃ p, ps[i]? = some p := ⟨_, List.getElem?_eq_getElem hlt⟩
      obtain ⟨b, off, c2, e, _, _, hc⟩ := (HV.out.below (HG2.out.trans HG.out).below).at (fun e => by have := congrArg List.length e; simp at this; rw [this] at hlt; simp at hlt)
      simp only [Value.slice.injEq] at e
      obtain ⟨rfl, _, rfl⟩ := e
      have c0 : wr.cell? ⟨b, off + i, none⟩ = some (.func (.func f) #[] #[]) := hc i _ (by rw [List.getElem?_map, hp]; rfl)
      have HPi := Lib.hid (HP.out _ (List.mem_of_getElem? hp))
      have hcf := HPi.out.enter
      have HSt := Lib.hid (cmpBy_step hp HC.out)
      clear hp HC hc
      have HG3 : Hid (Grw w2 (wr.alloc (.cells #[.func (.func f) #[] #[]] 59))) := HG.out.alloc _
      have HK3 : Hid (Blk (wr.alloc (.cells #[.func (.func f) #[] #[]] 59)) wr.heap.size [.func (.func f) #[] #[]]) := Blk.new wr _ _
      go_wp2_with fail
      clear c0 HG
      generalize wr.heap.size = h8 at *
      generalize wr.alloc (.cells #[.func (.func f) #[] #[]] 59) = w3 at *
      have HX3 := Lib.hid (HG3.out.blk HX2.out)
      have HY3 := Lib.hid (HG3.out.blk HY2.out)
      have p0 : ∀ n os, (Go.Sort.grow (w3.drewN n) os).cell? ⟨h8, 0, none⟩ = some (.func (.func f) #[] #[]) := fun n os => cell_grown HK3.out.lt (HK3.out.cell 0) n os
      have x0 : ∀ n os, (Go.Sort.grow (w3.drewN n) os).cell? ⟨w.heap.size, 0, none⟩ = some (.string xn) := fun n os => cell_grown HX3.out.lt (HX3.out.cell 0) n os
      have x1 : ∀ n os, (Go.Sort.grow (w3.drewN n) os).cell? ⟨w.heap.size, 1, none⟩ = some (.string xv) := fun n os => cell_grown HX3.out.lt (HX3.out.cell 1) n os
      have y0 : ∀ n os, (Go.Sort.grow (w3.drewN n) os).cell? ⟨w.heap.size + 1, 0, none⟩ = some (.string yn) := fun n os => cell_grown HY3.out.lt (HY3.out.cell 0) n os
      have y1 : ∀ n os, (Go.Sort.grow (w3.drewN n) os).cell? ⟨w.heap.size + 1, 1, none⟩ = some (.string yv) := fun n os => cell_grown HY3.out.lt (HY3.out.cell 1) n os
      have hcx : ∀ n os, Calls Try.prog f #[.agg #[.string xn, .string xv]] (Go.Sort.grow (w3.drewN n) os) fun e w' => e = .returned (.string (g (xn, xv))) ∧ ∃ q os', w' = Go.Sort.grow ((Go.Sort.grow (w3.drewN n) os).drewN q) os' := fun n os => HPi.out.gives (xn, xv) _
      have hcy : ∀ n os, Calls Try.prog f #[.agg #[.string yn, .string yv]] (Go.Sort.grow (w3.drewN n) os) fun e w' => e = .returned (.string (g (yn, yv))) ∧ ∃ q os', w' = Go.Sort.grow ((Go.Sort.grow (w3.drewN n) os).drewN q) os' := fun n os => HPi.out.gives (yn, yv) _
      have HXC := Lib.hid hcx
      have HYC := Lib.hid hcy
      clear hcx hcy HPi HX3 HY3 HK3
      generalize g (xn, xv) = sx at *
      generalize g (yn, yv) = sy at *
      have HS : Hid (∀ n os, Calls Try.prog 40 #[.string sx, .string sy] (Go.Sort.grow (w3.drewN n) os) fun e w' => e = .returned (.int .i64 (ordS sx sy)) ∧ ∃ q os', w' = Go.Sort.grow ((Go.Sort.grow (w3.drewN n) os).drewN q) os') := fun n os => (strCompare_any sx sy _).mono fun e w' ⟨h1, h2⟩ => ⟨h1, Grw.refl _ |> fun h => by rw [h2]; exact h⟩
      generalize ordS sx sy = o at *
      have mixed : Try.prog.follows .mixedOrders = true := by kernel_rfl
      go_quiet_grown (first | (go_at_call 40; exact Calls.grown_of (HS.out _ _)) | (go_at_fn f; exact Calls.grown_of (HXC.out _ _)) | (go_at_fn f; exact Calls.grown_of (HYC.out _ _)))
      have HG4 : Hid (Grw w2 (Go.Sort.grow (w3.drewN nq) osq)) := HG3.out.grow nq osq
      clear p0 x0 x1 y0 y1 HXC HYC HS HG3 hcf mixed
      show Exit.then _ _ _ _ (Go.Sort.grow (w3.drewN nq) osq)
      generalize Go.Sort.grow (w3.drewN nq) osq = w4 at *
      by_cases ho : o = 0
      · subst ho
        rw [if_pos rfl] at HSt
        go_wp2_with fail
        go_round
        case rel => exact ⟨i + 1, by omega, by go_num, HSt.out, HG4.out⟩
        case measure => simp [intOf]; omega
      · have hob : (o == 0) = false := by rw [beq_eq_false_iff_ne]; exact ho
        rw [if_neg ho] at HSt
        go_wp2_with fail
        go_ret
        exact ⟨by rw [HSt.out]; rfl, HG2.out.trans HG4.out⟩
    · have hlt' : ¬ (i : Int) < (ps.length : Int) := by omega
      have HE : Hid (cmpBy (xn, xv) (yn, yv) ps = 0) := by
        show _ = _
        rw [HC.out, List.drop_of_length_le (by omega)]
        rfl
      go_wp2_with fail
      go_ret
      exact ⟨by rw [HE.out]; rfl, HG2.out.trans HG.out⟩
end Go.Proofs.Ytpgdedehhaibmaa

end

section
/- A row in a block is a row that is read. No program in sight. -/
set_option linter.unusedVariables false
set_option maxRecDepth 100000
namespace Go.Proofs.Ytpgdedehhaibmaa
open Go Go.RowKit


/-- A whole block, read as a slice. -/
theorem Rd.of_blk {w : World} {b n : Nat} {vs : List Value} {sz : Nat} (h : Blk w b vs) (hl : vs.length = n * sz) (hn : n ≤ maxLen) : Rd w sz (.slice (some ⟨b, 0, none⟩) n n) n vs := by
  refine ⟨_, _, rfl, hl, Nat.le_refl _, hn, (fun e => by cases e), fun ad e j u hu => ?_⟩
  cases e
  have e : (⟨b, 0, none⟩ : Addr).add j = ⟨b, j, none⟩ := by unfold Addr.add; split <;> simp_all
  rw [e, h.cell]
  exact hu
end Go.Proofs.Ytpgdedehhaibmaa

end

section
/- Layer 11, the program's own: compareNames and compareLabels. -/
set_option linter.unusedVariables false
set_option maxRecDepth 20000
namespace Go.Proofs.Ytpgdedehhaibmaa
open Go Go.RowKit

def nameP : PartL := (36, fun x => x.1)
def valueP : PartL := (39, fun x => x.2)
theorem nameP_is : PartIs nameP := ⟨fun _ _ => rfl, nameOf_any⟩
theorem valueP_is : PartIs valueP := ⟨fun _ _ => rfl, valueOf_any⟩
theorem cmpBy_name (x y : Lab) : cmpBy x y [nameP] = ordS x.1 y.1 := by
  show (if ordS x.1 y.1 = 0 then 0 else ordS x.1 y.1) = _
  split
  · next h => exact h.symm
  · rfl
theorem cmpBy_both (x y : Lab) : cmpBy x y [nameP, valueP] = cmpLab x y := by
  show (if ordS x.1 y.1 = 0 then (if ordS x.2 y.2 = 0 then 0 else ordS x.2 y.2) else ordS x.1 y.1) = cmpLab x y
  unfold cmpLab cmpP
  split
  · split
    · next h => exact h.symm
    · rfl
  · rfl

set_option maxHeartbeats 2000000 in
theorem compareNames_any (x y : Lab) (w : World) :
    Calls Try.prog 28 #[labV x, labV y] w fun e w' => e = .returned (.int .i64 (ordS x.1 y.1)) ∧ Grw w w' := by
  obtain ⟨xn, xv⟩ := x
  obtain ⟨yn, yv⟩ := y
  obtain ⟨w1, hw1⟩ : ∃ w1, w1 = w.alloc (.cells #[.string xn, .string xv] 30) := ⟨_, rfl⟩
  obtain ⟨w2, hw2⟩ : ∃ w2, w2 = w1.alloc (.cells #[.string yn, .string yv] 30) := ⟨_, rfl⟩
  obtain ⟨w3, hw3⟩ : ∃ w3, w3 = w2.alloc (.cells #[.func (.func 36) #[] #[]] 59) := ⟨_, rfl⟩
  have HG : Hid (Grw w w3) := by show Grw _ _; rw [hw3, hw2, hw1]; exact (((Grw.refl w).alloc _).alloc _).alloc _
  have HK : Hid (Blk w3 w2.heap.size [.func (.func 36) #[] #[]]) := by show Blk _ _ _; rw [hw3]; exact Blk.new w2 _ _
  have HC := Lib.hid (compareBy_any [nameP] (by intro p hp; simp at hp; subst hp; exact nameP_is) (by simp) (xn, xv) (yn, yv) _ w3 (Rd.of_blk (n := 1) HK.out rfl (by decide)))
  have HE := Lib.hid (cmpBy_name (xn, xv) (yn, yv))
  have HW : Hid (w3 = ((w.alloc (.cells #[.string xn, .string xv] 30)).alloc (.cells #[.string yn, .string yv] 30)).alloc (.cells #[.func (.func 36) #[] #[]] 59)) := by show _ = _; rw [hw3, hw2, hw1]
  have HS : Hid (w2.heap.size = w.heap.size + 1 + 1) := by show _ = _; rw [hw2, hw1]; simp
  clear hw1 hw2 hw3 HK
  rw [HS.out] at HC
  clear HS
  show Calls Try.prog 28 #[.agg #[.string xn, .string xv], .agg #[.string yn, .string yv]] w _
  go_enter Try.func28, Try.ntmps28
  go_wp2_with fail
  rw [← HW.out]
  refine HC.out.mono ?_
  rintro e w4 ⟨rfl, hG⟩
  have HG4 := Lib.hid (HG.out.trans hG)
  clear hG HC HG HW
  rw [HE.out]
  clear HE
  go_wp2_with fail
  go_ret
  exact ⟨rfl, HG4.out⟩

set_option maxHeartbeats 2000000 in
theorem compareLabels_any (x y : Lab) (w : World) :
    Calls Try.prog 32 #[labV x, labV y] w fun e w' => e = .returned (.int .i64 (cmpLab x y)) ∧ Grw w w' := by
  obtain ⟨xn, xv⟩ := x
  obtain ⟨yn, yv⟩ := y
  obtain ⟨w1, hw1⟩ : ∃ w1, w1 = w.alloc (.cells #[.string xn, .string xv] 30) := ⟨_, rfl⟩
  obtain ⟨w2, hw2⟩ : ∃ w2, w2 = w1.alloc (.cells #[.string yn, .string yv] 30) := ⟨_, rfl⟩
  obtain ⟨w3, hw3⟩ : ∃ w3, w3 = w2.alloc (.cells #[.func (.func 36) #[] #[], .func (.func 39) #[] #[]] 59) := ⟨_, rfl⟩
  have HG : Hid (Grw w w3) := by show Grw _ _; rw [hw3, hw2, hw1]; exact (((Grw.refl w).alloc _).alloc _).alloc _
  have HK : Hid (Blk w3 w2.heap.size [.func (.func 36) #[] #[], .func (.func 39) #[] #[]]) := by show Blk _ _ _; rw [hw3]; exact Blk.new w2 _ _
  have HC := Lib.hid (compareBy_any [nameP, valueP] (by intro p hp; simp at hp; rcases hp with rfl | rfl <;> first | exact nameP_is | exact valueP_is) (by simp) (xn, xv) (yn, yv) _ w3 (Rd.of_blk (n := 2) HK.out rfl (by decide)))
  have HE := Lib.hid (cmpBy_both (xn, xv) (yn, yv))
  have HW : Hid (w3 = ((w.alloc (.cells #[.string xn, .string xv] 30)).alloc (.cells #[.string yn, .string yv] 30)).alloc (.cells #[.func (.func 36) #[] #[], .func (.func 39) #[] #[]] 59)) := by show _ = _; rw [hw3, hw2, hw1]
  have HS : Hid (w2.heap.size = w.heap.size + 1 + 1) := by show _ = _; rw [hw2, hw1]; simp
  clear hw1 hw2 hw3 HK
  rw [HS.out] at HC
  clear HS
  show Calls Try.prog 32 #[.agg #[.string xn, .string xv], .agg #[.string yn, .string yv]] w _
  go_enter Try.func32, Try.ntmps32
  go_wp2_with fail
  rw [← HW.out]
  refine HC.out.mono ?_
  rintro e w4 ⟨rfl, hG⟩
  have HG4 := Lib.hid (HG.out.trans hG)
  clear hG HC HG HW
  rw [HE.out]
  clear HE
  go_wp2_with fail
  go_ret
  exact ⟨rfl, HG4.out⟩

end Go.Proofs.Ytpgdedehhaibmaa

end

section
/- Layer 11, the program's own: checkLabel, Get, Strings. -/
set_option linter.unusedVariables false
set_option maxRecDepth 20000
namespace Go.Proofs.Ytpgdedehhaibmaa
open Go Go.RowKit

set_option maxHeartbeats 1000000 in
theorem checkLabel_any (n v : ByteArray) (w : World) (hn : n.size ≤ 9223372036854775807) (hv : v.size ≤ 9223372036854775807) :
    Calls Try.prog 27 #[.agg #[.string n, .string v]] w fun e w' => e = .returned (.int .i64 (oneL (n, v) : Int)) ∧ Below w.heap.size w w' := by
  have hB : Below w.heap.size w (w.alloc (.cells #[.string n, .string v] 30)) := (Below.refl _ w).alloc (Nat.le_refl _) _
  have HEm := Lib.hid (empty_size n)
  by_cases h0 : n.size = 0
  · have hE : n.toList.isEmpty = true := by rw [HEm.out]; simpa using h0
    have HO : Hid (oneL (n, v) = 17) := if_pos h0
    rw [HO.out]
    go_enter Try.func27, Try.ntmps27
    go_wp2_with fail
    go_ret
    exact ⟨rfl, hB⟩
  · have hE : n.toList.isEmpty = false := by rw [HEm.out]; simpa using h0
    by_cases h1 : (65535 : Int) < (n.size : Int)
    · have HO : Hid (oneL (n, v) = 7) := by show _ = _; rw [oneL, if_neg h0, if_pos (Or.inl (by show 65535 < n.size; omega))]
      rw [HO.out]
      clear h0
      go_enter Try.func27, Try.ntmps27
      go_wp2_with fail
      go_ret
      exact ⟨rfl, hB⟩
    · have hd1 : decide ((65535 : Int) < (n.size : Int)) = false := by simpa using h1
      by_cases h2 : (65535 : Int) < (v.size : Int)
      · have hd2 : decide ((65535 : Int) < (v.size : Int)) = true := by simpa using h2
        have HO : Hid (oneL (n, v) = 7) := by show _ = _; rw [oneL, if_neg h0, if_pos (Or.inr (by show 65535 < v.size; omega))]
        rw [HO.out]
        clear h0
        go_enter Try.func27, Try.ntmps27
        go_wp2_with fail
        go_ret
        exact ⟨rfl, hB⟩
      · have hd2 : decide ((65535 : Int) < (v.size : Int)) = false := by simpa using h2
        have HO : Hid (oneL (n, v) = 0) := by
          show _ = _
          rw [oneL, if_neg h0, if_neg]
          rintro (e | e)
          · exact h1 (by have : 65535 < n.size := e; omega)
          · exact h2 (by have : 65535 < v.size := e; omega)
        rw [HO.out]
        clear h0
        go_enter Try.func27, Try.ntmps27
        go_wp2_with fail
        go_ret
        exact ⟨rfl, hB⟩

end Go.Proofs.Ytpgdedehhaibmaa

end

section
/- Layer 11, the program's own: Check. -/
set_option linter.unusedVariables false
set_option maxRecDepth 20000
namespace Go.Proofs.Ytpgdedehhaibmaa
open Go Go.RowKit

theorem ltS_empty (n : ByteArray) : ltS n ⟨#[]⟩ = false := by
  unfold ltS
  have : (⟨#[]⟩ : ByteArray).toList = [] := by simp [ByteArray.toList_eq]
  rw [this]
  cases n.toList <;> rfl
theorem ltS_of_empty {n : ByteArray} (h : n.size ≠ 0) : ltS ⟨#[]⟩ n = true := by
  rcases Bool.eq_false_or_eq_true (ltS ⟨#[]⟩ n) with e | e
  · exact e
  · have := ltS_ok.tot _ _ e (ltS_empty n)
    subst this
    exact absurd rfl h
/-- One step of the program's check: the name before the first label is empty. -/
theorem checkNext_ord {p : Option ByteArray} {x : Lab} {r : Nat} (h : oneL x = 0) :
    checkNext p x r = if ordS x.1 (p.getD ⟨#[]⟩) = 0 then 18 else if ordS x.1 (p.getD ⟨#[]⟩) < 0 then 16 else r := by
  have hs : x.1.size ≠ 0 := fun e => by rw [oneL, if_pos e] at h; cases h
  cases p with
  | none =>
    have ho : ordS x.1 ⟨#[]⟩ = 1 := by rw [ordS, ordB, if_neg (by rw [ltS_empty]; simp), if_pos (ltS_of_empty hs)]
    show r = if ordS x.1 ⟨#[]⟩ = 0 then 18 else if ordS x.1 ⟨#[]⟩ < 0 then 16 else r
    rw [ho]; rfl
  | some n =>
    show (if x.1 = n then 18 else if ltS x.1 n then 16 else r) = if ordS x.1 n = 0 then 18 else if ordS x.1 n < 0 then 16 else r
    by_cases h1 : x.1 = n
    · rw [if_pos h1, if_pos ((ordS_ok.eq _ _).2 h1)]
    · rw [if_neg h1, if_neg (fun e => h1 ((ordS_ok.eq _ _).1 e))]
      by_cases h2 : ltS x.1 n = true
      · have : ordS x.1 n = -1 := if_pos h2
        rw [if_pos h2, if_pos (by omega)]
      · rw [if_neg h2, if_neg]
        have : ordS x.1 n = if ltS n x.1 then 1 else 0 := if_neg h2
        rw [this]
        split <;> decide
theorem prevN_next {l : List Lab} {i : Nat} {x : Lab} (hx : l[i]? = some x) : (prevN l (i + 1)).getD ⟨#[]⟩ = x.1 := by
  rw [prevN, if_neg (by omega), Nat.add_sub_cancel, hx]; rfl

set_option maxHeartbeats 4000000 in
theorem labCheck_any (lv : Value) (l : List Lab) (w : World) (hl : Rd w 2 lv l.length (labCells l)) (hs : ∀ x ∈ l, x.1.size ≤ 9223372036854775807 ∧ x.2.size ≤ 9223372036854775807) (hn : l.length ≤ 1000000) :
    Calls Try.prog 11 #[lv] w fun e w' => e = .returned (.int .i64 (checkL l : Int)) ∧ Below w.heap.size w w' := by
  have HL := Lib.hid hl; have HS := Lib.hid hs
  obtain ⟨pl, cl, hv⟩ := hl.shape
  subst hv
  have hmx : (l.length : Int) ≤ 1000000 := by omega
  have HB1 : Hid (Below w.heap.size w (w.alloc (.cells #[.string ⟨#[]⟩, .string ⟨#[]⟩] 30))) := (Below.refl _ w).alloc (Nat.le_refl _) _
  have HK1 : Hid (Blk (w.alloc (.cells #[.string ⟨#[]⟩, .string ⟨#[]⟩] 30)) w.heap.size [.string ⟨#[]⟩, .string ⟨#[]⟩]) := Blk.new w _ _
  clear hl hs hn
  go_enter Try.func11, Try.ntmps11
  go_wp2_with fail
  go_loopw [10] (fun iv wr => ∃ (i : Nat) (bn bv : ByteArray), i ≤ l.length ∧ iv = .int .i64 (i : Int) ∧ Hid (checkL l = checkFrom (prevN l i) (l.drop i)) ∧ Hid ((prevN l i).getD ⟨#[]⟩ = bn) ∧ Hid (Blk wr w.heap.size [.string bn, .string bv]) ∧ Hid (Below w.heap.size w wr)) (fun iv _ => l.length - (intOf iv).toNat)
  case atStart => exact ⟨0, ⟨#[]⟩, ⟨#[]⟩, Nat.zero_le _, rfl, rfl, rfl, HK1.out, HB1.out⟩
  case round =>
    obtain ⟨i, bn, bv, hi, rfl, HC, HP, HK, HB⟩ := hrel
    by_cases hlt : i < l.length
    · have hlt' : (i : Int) < (l.length : Int) := by omega
      have him : (i : Int) ≤ 1000000 := by omega
      obtain ⟨⟨n, v⟩, hx⟩ : ∃ x, l[i]? = some x := ⟨_, List.getElem?_eq_getElem hlt⟩
      obtain ⟨b, off, e⟩ := rd2_at HL.out hx
      subst e
      obtain ⟨c0, c1⟩ := rd2_cell (HL.out.below HB.out) hx
      have HOn := Lib.hid (fun w' => checkLabel_any n v w' (HS.out _ (List.mem_of_getElem? hx)).1 (HS.out _ (List.mem_of_getElem? hx)).2)
      have HSt := Lib.hid (check_step hx HC.out)
      have HNx := Lib.hid (prevN_next hx)
      have HB2 : Hid (Below w.heap.size w (wr.alloc (.cells #[.string n, .string v] 30))) := HB.out.trans (((Below.refl _ wr).alloc (Nat.le_refl _) _).mono HB.out.size)
      have HK2 : Hid (Blk (wr.alloc (.cells #[.string n, .string v] 30)) w.heap.size [.string bn, .string bv]) := HK.out.alloc _
      have HX2 : Hid (Blk (wr.alloc (.cells #[.string n, .string v] 30)) wr.heap.size [.string n, .string v]) := Blk.new wr _ _
      have HZ : Hid (w.heap.size < wr.heap.size) := HK.out.lt
      clear hx HC HB HK
      go_wp2_with fail
      refine (HOn.out _).mono ?_
      rintro e w3 ⟨rfl, hB⟩
      have HB3 := Lib.hid (HB2.out.trans (hB.mono HB2.out.size))
      have HK3 : Hid (Blk w3 w.heap.size [.string bn, .string bv]) := HK2.out.of_same (hB.block _ HK2.out.lt)
      have HX3 : Hid (Blk w3 wr.heap.size [.string n, .string v]) := HX2.out.of_same (hB.block _ HX2.out.lt)
      clear c0 c1 hB HOn HB2 HK2 HX2
      generalize wr.heap.size = h2 at *
      by_cases he : oneL (n, v) = 0
      · rw [if_neg (not_not_intro he)] at HSt
        have HSt2 : Hid (checkL l = if ordS n bn = 0 then 18 else if ordS n bn < 0 then 16 else checkFrom (prevN l (i + 1)) (l.drop (i + 1))) := by
          show _ = _
          rw [HSt.out, checkNext_ord he, HP.out]
        rw [he]
        clear he HSt
        have x0 := HX3.out.cell 0
        have x1 := HX3.out.cell 1
        have b0 := HK3.out.cell 0
        have b1 := HK3.out.cell 1
        simp only [List.getElem?_cons_zero, List.getElem?_cons_succ] at x0 x1 b0 b1
        have HCm := Lib.hid (compareNames_any (n, v) (bn, bv) w3)
        go_wp2_with fail
        refine HCm.out.mono ?_
        rintro e w4 ⟨rfl, hG⟩
        have HB4 := Lib.hid (HB3.out.trans (hG.below.mono HB3.out.size))
        have HK4 := Lib.hid (hG.blk HK3.out)
        have HX4 := Lib.hid (hG.blk HX3.out)
        clear x0 x1 b0 b1 hG HCm HB3 HK3 HX3
        show _
        have hnv : ordS (n, v).1 (bn, bv).1 = ordS n bn := rfl
        rw [hnv]
        clear hnv
        generalize ordS n bn = o at *
        by_cases ho : o = 0
        · subst ho
          rw [if_pos rfl] at HSt2
          go_wp2_with fail
          go_ret
          exact ⟨by rw [HSt2.out]; rfl, HB4.out⟩
        · have hob : (o == 0) = false := by rw [beq_eq_false_iff_ne]; exact ho
          rw [if_neg ho] at HSt2
          by_cases ho2 : o < 0
          · rw [if_pos ho2] at HSt2
            go_wp2_with fail
            go_ret
            exact ⟨by rw [HSt2.out]; rfl, HB4.out⟩
          · rw [if_neg ho2] at HSt2
            have x0 := HX4.out.cell 0
            have x1 := HX4.out.cell 1
            have b0 := HK4.out.cell 0
            have b1 := HK4.out.cell 1
            simp only [List.getElem?_cons_zero, List.getElem?_cons_succ] at x0 x1 b0 b1
            have f0 := HK4.out.free 0
            have f1 := HK4.out.free 1
            have HK5 : Hid (Blk ((w4.setCell ⟨w.heap.size, 0, none⟩ (.string n)).setCell ⟨w.heap.size, 1, none⟩ (.string v)) w.heap.size [.string n, .string v]) := (HK4.out.set 0 _).set 1 _
            have HB5 : Hid (Below w.heap.size w ((w4.setCell ⟨w.heap.size, 0, none⟩ (.string n)).setCell ⟨w.heap.size, 1, none⟩ (.string v))) :=
              HB4.out.trans (((Mods.set (fun k => k = w.heap.size) w4 ⟨w.heap.size, 0, none⟩ _ (fun _ => rfl)).trans (Mods.set (fun k => k = w.heap.size) _ ⟨w.heap.size, 1, none⟩ _ (fun _ => rfl)) (fun _ _ e => e)).below HB4.out.size (fun k hk e => by omega))
            clear HB4 HK4 HX4
            go_wp2_with fail
            go_round
            case rel => exact ⟨i + 1, n, v, by omega, by go_num, HSt2.out, HNx.out, HK5.out, HB5.out⟩
            case measure => simp [intOf]; omega
      · have he1 : ¬ (oneL (n, v) : Int) = 0 := by omega
        have heb : ((oneL (n, v) : Int) == 0) = false := by rw [beq_eq_false_iff_ne]; exact he1
        rw [if_pos he] at HSt
        clear he
        generalize oneL (n, v) = e at *
        go_wp2_with fail
        go_ret
        exact ⟨by rw [HSt.out]; rfl, HB3.out⟩
    · have hlt' : ¬ (i : Int) < (l.length : Int) := by omega
      have HE : Hid (checkL l = 0) := by
        show _ = _
        rw [HC.out, List.drop_of_length_le (by omega)]
        cases prevN l i <;> rfl
      go_wp2_with fail
      go_ret
      exact ⟨by rw [HE.out]; rfl, HB.out⟩
end Go.Proofs.Ytpgdedehhaibmaa

end

section
/- Rows of elements of k cells, as slices.SortFunc's contract speaks of them: an owned row is held, and owned again when it is sorted. No program in sight. -/
set_option linter.unusedVariables false
namespace Go.Proofs.Ytpgdedehhaibmaa
open Go Go.RowKit

section
variable {α : Type} [Inhabited α] (enc : α → List Value) (k : Nat)

omit [Inhabited α] in
theorem flatEnc_get (hk : ∀ x, (enc x).length = k) (hk0 : 0 < k) (l : List α) : ∀ (t : Nat), (l.flatMap enc)[t]? = (l[t / k]?).bind (fun x => (enc x)[t % k]?) := by
  induction l with
  | nil => intro t; simp
  | cons x l ih =>
    intro t
    rw [List.flatMap_cons]
    by_cases ht : t < k
    · rw [List.getElem?_append_left (by rw [hk]; exact ht), Nat.div_eq_of_lt ht, Nat.mod_eq_of_lt ht]; rfl
    · have hge : k ≤ t := Nat.le_of_not_lt ht
      rw [List.getElem?_append_right (by rw [hk]; exact hge), hk, ih (t - k), Nat.mod_eq_sub_mod hge]
      have : t / k = (t - k) / k + 1 := Nat.div_eq_sub_div hk0 hge
      rw [this, List.getElem?_cons_succ]
theorem flatK_get (hk : ∀ x, (enc x).length = k) (hk0 : 0 < k) (d : Array α) (t : Nat) (ht : t < d.size * k) : (d.toList.flatMap enc)[t]? = some (Go.Sort.flatK enc k d)[t]! := by
  rw [flatEnc_get enc k hk hk0]
  have h1 : t / k < d.size := Nat.div_lt_of_lt_mul (by rwa [Nat.mul_comm])
  have h2 : t % k < k := Nat.mod_lt _ hk0
  rw [Go.Sort.get_flatK enc k d t ht, List.getElem?_eq_getElem (by simpa using h1)]
  show (enc d.toList[t / k])[t % k]? = _
  have h3 : d[t / k]! = d.toList[t / k]'(by simpa using h1) := by rw [getElem!_pos d _ h1]; simp
  rw [h3, List.getElem?_eq_getElem (by rw [hk]; exact h2), getElem!_pos]
omit [Inhabited α] in
theorem flatEnc_length (hk : ∀ x, (enc x).length = k) (l : List α) : (l.flatMap enc).length = l.length * k := by
  induction l with
  | nil => simp
  | cons x l ih => rw [List.flatMap_cons, List.length_append, ih, hk, List.length_cons, Nat.add_mul]; omega

theorem holdsK_of_block (hk : ∀ x, (enc x).length = k) (hk0 : 0 < k) {w : World} {g : Nat} {cur : Array Value} {e : TypeId} {l : List α} (hb : w.heap[g]? = some (.cells cur e (0, 0))) (ht : cur.toList.take (l.length * k) = l.flatMap enc) : Go.Sort.HoldsK enc k w g 0 l.toArray := by
  intro j hj
  have hj' : j < l.length * k := by simpa using hj
  refine ⟨?_, by simp [World.frozen?, hb]⟩
  have h1 : (cur.toList.take (l.length * k))[j]? = (l.flatMap enc)[j]? := by rw [ht]
  rw [List.getElem?_take_of_lt hj'] at h1
  have h2 := flatK_get enc k hk hk0 l.toArray j (by simpa using hj')
  simp only at h2
  simp only [World.cell?, hb, Nat.zero_add]
  simp only [Option.isSome_none, Bool.false_eq_true, if_false]
  rw [← Array.getElem?_toList, h1, h2]
  rfl

theorem heap_sortedK {w : World} {g n : Nat} {os : Array Obj} {cur : Array Value} {e : TypeId} {fr : Nat × Nat} (F : Array Value) (hb : w.heap[g]? = some (.cells cur e fr)) :
    (Go.Sort.grow (Go.Sort.putRow id (Go.Sort.ahead w n) g 0 F) os).heap[g]? = some (.cells (Go.Sort.putCells id 0 F cur) e fr) := by
  have hg : g < w.heap.size := (Array.getElem?_eq_some_iff.1 hb).1
  rw [Go.Sort.heap_grow_old _ _ (by simpa using hg)]
  simp [Go.Sort.putRow, Go.Sort.mapBlock, Go.Sort.ahead, Array.getElem?_modify, hb, Go.Sort.onCells]
theorem mods_sortedK {w : World} {g n : Nat} {os : Array Obj} (F : Array Value) : Mods (fun j => j = g) w (Go.Sort.grow (Go.Sort.putRow id (Go.Sort.ahead w n) g 0 F) os) := by
  refine ⟨rfl, rfl, rfl, by simp, fun j hj hne => ?_⟩
  rw [Go.Sort.heap_grow_old _ _ (by simpa using hj)]
  have : g ≠ j := fun e => hne e.symm
  simp [Go.Sort.putRow, Go.Sort.mapBlock, Go.Sort.ahead, Array.getElem?_modify, this]
theorem take_putK (hk : ∀ x, (enc x).length = k) (hk0 : 0 < k) (cur : Array Value) (d : Array α) (h : d.size * k ≤ cur.size) : (Go.Sort.putCells id 0 (Go.Sort.flatK enc k d) cur).toList.take (d.size * k) = d.toList.flatMap enc := by
  apply List.ext_getElem?
  intro j
  by_cases hj : j < d.size * k
  · rw [List.getElem?_take_of_lt hj, Array.getElem?_toList, flatK_get enc k hk hk0 d j hj]
    simp [Go.Sort.putCells, hj, show j < cur.size by omega]
  · rw [List.getElem?_take_eq_none (by omega), List.getElem?_eq_none (by rw [flatEnc_length enc k hk]; simp; omega)]

/-- Behind the sort the same slice owns the elements in their new order. -/
theorem ownsRow_sortedK (hk : ∀ x, (enc x).length = k) (hk0 : 0 < k) {w : World} {base g cap n m : Nat} {e : TypeId} {os : Array Obj} {cur : Array Value} {d : Array α} (hl : d.size = m) (hbase : base ≤ g) (hb : w.heap[g]? = some (.cells cur e (0, 0)))
    (h1 : m ≤ cap) (h2 : cap ≤ maxLen) (h3 : cur.size = cap * k) :
    (sortWorldK enc k w g 0 n d os).ownsRow base e k (.slice (some ⟨g, 0, none⟩) m cap) m (d.toList.flatMap enc) := by
  subst hl
  refine ⟨by rw [flatEnc_length enc k hk]; simp, .inr ⟨g, cap, _, rfl, hbase, heap_sortedK (Go.Sort.flatK enc k d) hb, h1, h2, by simp [Go.Sort.putCells, h3], ?_⟩⟩
  exact take_putK enc k hk hk0 cur d (by rw [h3]; exact Nat.mul_le_mul_right k h1)
end
end Go.Proofs.Ytpgdedehhaibmaa

end

section
/- Layer 11, the program's own: slices.SortFunc at labels, by names. -/
set_option linter.unusedVariables false
set_option maxRecDepth 20000
namespace Go.Proofs.Ytpgdedehhaibmaa
open Go Go.RowKit

def renSortLab : Go.Shelf.Ren := ⟨fun | 6 => 30 | 14 => 37 | 15 => 38 | 20 => 41 | 21 => 42 | 22 => 43 | 23 => 44 | 24 => 45 | 25 => 46 | 26 => 47 | 27 => 48 | 28 => 49 | 29 => 50 | 46 => 52 | 47 => 53 | 48 => 54 | 49 => 55 | 50 => 56 | 57 => 58 | n => n, fun | 0 => 0 | 3 => 3 | 4 => 4 | 5 => 5 | 9 => 9 | 22 => 22 | 24 => 30 | 25 => 49 | 39 => 62 | 45 => 65 | 46 => 66 | 50 => 70 | 53 => 73 | 55 => 75 | 66 => 76 | 70 => 80 | 76 => 82 | 77 => 83 | n => n, fun n => n⟩
theorem laysSortLab : Go.Proofs.SlLaysF0.n6 Try.prog renSortLab := { mixed := by kernel_rfl, f6 := ⟨"slices.SortFunc[[]tsblock/api.Label,tsblock/api.Label]", by decide, Try.func30.trans (congrArg some (by kernel_rfl))⟩, f14 := ⟨"slices.pdqsortCmpFunc[tsblock/api.Label]", by decide, Try.func37.trans (congrArg some (by kernel_rfl))⟩, f15 := Try.func38.trans (congrArg some (by kernel_rfl)), f20 := ⟨"slices.insertionSortCmpFunc[tsblock/api.Label]", by decide, Try.func41.trans (congrArg some (by kernel_rfl))⟩, f21 := ⟨"slices.heapSortCmpFunc[tsblock/api.Label]", by decide, Try.func42.trans (congrArg some (by kernel_rfl))⟩, f22 := ⟨"slices.breakPatternsCmpFunc[tsblock/api.Label]", by decide, Try.func43.trans (congrArg some (by kernel_rfl))⟩, f23 := ⟨"slices.choosePivotCmpFunc[tsblock/api.Label]", by decide, Try.func44.trans (congrArg some (by kernel_rfl))⟩, f24 := ⟨"slices.reverseRangeCmpFunc[tsblock/api.Label]", by decide, Try.func45.trans (congrArg some (by kernel_rfl))⟩, f25 := ⟨"slices.partialInsertionSortCmpFunc[tsblock/api.Label]", by decide, Try.func46.trans (congrArg some (by kernel_rfl))⟩, f26 := ⟨"slices.partitionEqualCmpFunc[tsblock/api.Label]", by decide, Try.func47.trans (congrArg some (by kernel_rfl))⟩, f27 := ⟨"slices.partitionCmpFunc[tsblock/api.Label]", by decide, Try.func48.trans (congrArg some (by kernel_rfl))⟩, f28 := Try.func49.trans (congrArg some (by kernel_rfl)), f29 := Try.func50.trans (congrArg some (by kernel_rfl)), f46 := ⟨"slices.siftDownCmpFunc[tsblock/api.Label]", by decide, Try.func52.trans (congrArg some (by kernel_rfl))⟩, f47 := Try.func53.trans (congrArg some (by kernel_rfl)), f48 := Try.func54.trans (congrArg some (by kernel_rfl)), f49 := ⟨"slices.medianAdjacentCmpFunc[tsblock/api.Label]", by decide, Try.func55.trans (congrArg some (by kernel_rfl))⟩, f50 := ⟨"slices.medianCmpFunc[tsblock/api.Label]", by decide, Try.func56.trans (congrArg some (by kernel_rfl))⟩, f57 := ⟨"slices.order2CmpFunc[tsblock/api.Label]", by decide, Try.func58.trans (congrArg some (by kernel_rfl))⟩, t0 := Try.underlying0, a0 := Try.isAgg0, z0 := Try.sizeOf0, v0 := Try.zeroValue0, t3 := Try.underlying3, a3 := Try.isAgg3, z3 := Try.sizeOf3, v3 := Try.zeroValue3, t4 := Try.underlying4, a4 := Try.isAgg4, z4 := Try.sizeOf4, v4 := Try.zeroValue4, t5 := Try.underlying5, a5 := Try.isAgg5, z5 := Try.sizeOf5, v5 := Try.zeroValue5, t9 := Try.underlying9, a9 := Try.isAgg9, z9 := Try.sizeOf9, v9 := Try.zeroValue9, t22 := Try.underlying22, a22 := Try.isAgg22, z22 := Try.sizeOf22, v22 := Try.zeroValue22, t25 := Try.underlying49, a25 := Try.isAgg49, z25 := Try.sizeOf49, v25 := Try.zeroValue49, t39 := Try.underlying62, a39 := Try.isAgg62, z39 := Try.sizeOf62, v39 := Try.zeroValue62, t45 := Try.underlying65, a45 := Try.isAgg65, z45 := Try.sizeOf65, v45 := Try.zeroValue65, t46 := Try.underlying66, a46 := Try.isAgg66, z46 := Try.sizeOf66, v46 := Try.zeroValue66, t50 := Try.underlying70, a50 := Try.isAgg70, z50 := Try.sizeOf70, v50 := Try.zeroValue70, t53 := Try.underlying73, a53 := Try.isAgg73, z53 := Try.sizeOf73, v53 := Try.zeroValue73, t55 := Try.underlying75, a55 := Try.isAgg75, z55 := Try.sizeOf75, v55 := Try.zeroValue75, t66 := Try.underlying76, a66 := Try.isAgg76, z66 := Try.sizeOf76, v66 := Try.zeroValue76, t70 := Try.underlying80, a70 := Try.isAgg80, z70 := Try.sizeOf80, v70 := Try.zeroValue80, t76 := Try.underlying82, a76 := Try.isAgg82, z76 := Try.sizeOf82, v76 := Try.zeroValue82, t77 := Try.underlying83, a77 := Try.isAgg83, z77 := Try.sizeOf83, v77 := Try.zeroValue83 }

theorem ltOf_names (x y : Lab) : ltOf (fun x y : Lab => ordS x.1 y.1) x y = ltN x y := by
  show decide (ordS x.1 y.1 < 0) = ltS x.1 y.1
  rcases Bool.eq_false_or_eq_true (ltS x.1 y.1) with e | e
  · have : ordS x.1 y.1 = -1 := if_pos e
    rw [this, e]; rfl
  · have : ordS x.1 y.1 = if ltS y.1 x.1 then 1 else 0 := if_neg (by rw [e]; simp)
    rw [this, e]
    split <;> rfl
theorem ltOf_ltN : ltOf (fun x y : Lab => ordS x.1 y.1) = ltN := by
  funext x y; exact ltOf_names x y
theorem swo_ltN : Go.Sort.SWO ltN := ⟨fun x => ltN_ok.irr x, fun x y z => ltN_ok.tr x y z, fun x y z h1 h2 => by
  rcases Bool.eq_false_or_eq_true (ltN x z) with e | e
  · have := ltS_ok.le_tr (a := y.1) (b := x.1) (c := z.1) h1 e
    rw [show ltS y.1 z.1 = ltN y z from rfl, h2] at this
    cases this
  · exact e⟩

def encL (x : Lab) : List Value := [.string x.1, .string x.2]

theorem sort_lab (w : World) (base : Nat) (v : Value) (l : List Lab) (h : w.ownsRow base 30 2 v l.length (labCells l)) (hn : l.length ≤ 1000000) :
    Calls Try.prog 30 #[v, .func (.func 28) #[] #[]] w fun e w' => e = .returned (.tuple #[]) ∧ ∃ l', List.Perm l' l ∧ l'.Pairwise (fun a b => ltN b a = false) ∧ w'.ownsRow base 30 2 v l.length (labCells l') ∧ Mods (fun k => v.ownBlock = some k) w w' := by
  rcases h.2 with ⟨rfl, h0⟩ | ⟨g, cap, cur, rfl, hbase, hgb, r1, r2, r3, r4⟩
  · refine (AnyF.slices_SortFunc_none laysSortLab none 0 _ w).mono ?_
    rintro e w' ⟨rfl, rfl⟩
    obtain rfl : l = [] := List.eq_nil_of_length_eq_zero h0
    exact ⟨rfl, [], List.Perm.refl _, List.Pairwise.nil, h, Mods.refl _ _⟩
  · have hk : ∀ x : Lab, (encL x).length = 2 := fun _ => rfl
    have hH : Go.Sort.HoldsK encL 2 w g 0 l.toArray := holdsK_of_block encL 2 hk (by decide) hgb r4
    have hC := AnyQ.slices_SortFunc laysSortLab 2 Try.isAgg30 Try.sizeOf30 encL hk (fun x v hv => by simp only [encL, List.mem_cons, List.not_mem_nil, or_false] at hv; rcases hv with rfl | rfl <;> rfl) (fun x y : Lab => ordS x.1 y.1) (by rw [ltOf_ltN]; exact swo_ltN) 28 #[] g 0 cap l.toArray w
      (fun _ _ => rfl) (fun m os dk _ x y => compareNames_any x y _) hH (Array.getElem?_eq_some_iff.1 hgb).1 (by simp; omega)
    have hsz : l.toArray.size = l.length := by simp
    rw [hsz] at hC
    refine hC.mono ?_
    rintro e w' ⟨rfl, d', n, os, hp, hs, rfl⟩
    have hds : d'.size = l.length := by rw [hp.1]; simp
    refine ⟨rfl, d'.toList, ?_, ?_, ?_, (mods_sortedK (Go.Sort.flatK encL 2 d')).mono (fun k _ e => by show some g = some k; rw [show k = g from e])⟩
    · have h3 := hp.2.2
      rw [show d'.extract 0 l.length = d' by rw [← hds]; exact Array.extract_size] at h3
      rw [show l.toArray.extract 0 l.length = l.toArray by rw [← hsz]; exact Array.extract_size] at h3
      exact h3
    · rw [List.pairwise_iff_getElem]
      intro i j hi hj hij
      have h4 := hs i j (Nat.zero_le _) hij (by rw [← hds]; simpa using hj)
      rw [ltOf_ltN, getElem!_pos d' i (by simpa using hi), getElem!_pos d' j (by simpa using hj)] at h4
      simpa using h4
    · exact ownsRow_sortedK encL 2 hk (by decide) hds hbase hgb r1 r2 r3
end Go.Proofs.Ytpgdedehhaibmaa

end

section
/- Layer 11: labels sorted by names, and then checked: what Normalize gives. No program in sight. -/
set_option linter.unusedVariables false
namespace Go.Proofs.Ytpgdedehhaibmaa
open Go Go.RowKit

/-- The check of labels that are sorted by names finds that two names are one, or nothing. -/
theorem check_sorted (l : List Lab) : ∀ (p : Option ByteArray), (∀ x ∈ l, oneL x = 0) → l.Pairwise (fun a b => ltN b a = false) → (∀ n, p = some n → ∀ x ∈ l, ltS x.1 n = false) →
    (checkFrom p l = 0 ∧ AscB ltN l ∧ (∀ n, p = some n → ∀ x ∈ l, ltS n x.1 = true)) ∨ (checkFrom p l = 18 ∧ ¬ (p.toList ++ namesL l).Nodup) := by
  induction l with
  | nil => intro p _ _ _; exact Or.inl ⟨rfl, List.Pairwise.nil, fun _ _ _ h => by cases h⟩
  | cons x l ih =>
    intro p ho hs hp
    obtain ⟨h1, h2⟩ := List.pairwise_cons.1 hs
    have hx := ho x (by simp)
    have ih' := ih (some x.1) (fun y hy => ho y (by simp [hy])) h2 (fun n hn y hy => by cases hn; exact h1 y hy)
    have hasc : (∀ n, some x.1 = some n → ∀ y ∈ l, ltS n y.1 = true) → AscB ltN l → AscB ltN (x :: l) := fun h k => List.pairwise_cons.2 ⟨fun y hy => h x.1 rfl y hy, k⟩
    have hnn : namesL (x :: l) = x.1 :: namesL l := rfl
    cases p with
    | none =>
      rw [checkFrom, if_neg (not_not_intro hx)]
      rcases ih' with ⟨a, b, c⟩ | ⟨a, b⟩
      · exact Or.inl ⟨a, hasc c b, fun _ h => by cases h⟩
      · exact Or.inr ⟨a, by simpa [hnn] using b⟩
    | some n =>
      have hlt := hp n rfl x (by simp)
      rw [checkFrom, if_neg (not_not_intro hx)]
      by_cases he : x.1 = n
      · rw [if_pos he]
        refine Or.inr ⟨rfl, fun hd => ?_⟩
        rw [hnn, he] at hd
        simp at hd
      · rw [if_neg he, if_neg (by rw [hlt]; simp)]
        have hnx : ltS n x.1 = true := by
          rcases Bool.eq_false_or_eq_true (ltS n x.1) with e | e
          · exact e
          · exact absurd (ltS_ok.tot _ _ hlt e) he
        rcases ih' with ⟨a, b, c⟩ | ⟨a, b⟩
        · refine Or.inl ⟨a, hasc c b, fun m hm y hy => ?_⟩
          cases hm
          rcases List.mem_cons.1 hy with e | e
          · subst e; exact hnx
          · exact ltS_ok.tr _ _ _ hnx (c x.1 rfl y e)
        · refine Or.inr ⟨a, fun hd => b ?_⟩
          rw [hnn] at hd
          simp only [Option.toList_some, List.singleton_append, List.nodup_cons] at hd ⊢
          exact hd.2
/-- What Normalize gives, by the sorted labels. -/
theorem norm_sorted {l l' : List Lab} (h0 : firstErr l = 0) (hp : List.Perm l' l) (hs : l'.Pairwise (fun a b => ltN b a = false)) :
    (checkL l' = 0 ∧ normL l = (0, l')) ∨ (checkL l' = 18 ∧ normL l = (18, [])) := by
  have ho := (firstErr_zero l).1 h0
  have ho' : ∀ x ∈ l', oneL x = 0 := fun x hx => ho x (hp.mem_iff.1 hx)
  have hnp := norm_perm hp
  rcases check_sorted l' none ho' hs (fun _ h => by cases h) with ⟨a, b, _⟩ | ⟨a, b⟩
  · refine Or.inl ⟨a, ?_⟩
    have h1 := norm_of_asc b ho'
    have h2 : (normL l).1 = 0 := hnp.1.1 (by rw [h1])
    have h3 : (normL l).2 = l' := by rw [← hnp.2, h1]
    exact Prod.ext h2 h3
  · refine Or.inr ⟨a, ?_⟩
    have h1 : ¬ (normL l).1 = 0 := fun e => by
      have := (normL_ok.1 (hnp.1.2 e)).2
      exact b (by simpa using this)
    unfold normL at h1 ⊢
    rw [if_neg (not_not_intro h0)] at h1 ⊢
    split
    · rfl
    · next r hr => rw [hr] at h1; exact absurd rfl h1
end Go.Proofs.Ytpgdedehhaibmaa

end

section
/- Layer 11: slices.Clone of labels. -/
set_option linter.unusedVariables false
namespace Go.Proofs.Ytpgdedehhaibmaa
open Go Go.RowKit

set_option maxHeartbeats 400000 in
/-- slices.Clone. -/
theorem clone_lab (v : Value) (l : List Lab) (w : World) (h : Rd w 2 v l.length (labCells l)) (hn : l.length ≤ 4398046511104) :
    Calls Try.prog 13 #[v] w fun e w' => ∃ r, e = .returned r ∧ Made w w' 30 2 r l.length (labCells l) := by
  have hq : ∀ (w : World) (a : Option Addr) (n c n' c' : Nat), (binOp .eql 22 (.slice a n c) (.slice none n' c')).run Try.prog w = .ok (.bool a.isNone) w := fun w a n c n' c' => Lib.run_eql_slice_nil w _ _ a n c n' c' Try.underlying22
  obtain ⟨p, c, hv⟩ := h.shape
  subst hv
  cases p with
  | none =>
    obtain ⟨_, _, e, hl, _, _, hnil, _⟩ := h
    simp only [Value.slice.injEq] at e
    obtain ⟨rfl, _, rfl⟩ := e
    obtain ⟨h0, rfl⟩ := hnil rfl
    obtain rfl : l = [] := List.eq_nil_of_length_eq_zero h0
    go_enter Try.func13, Try.ntmps13
    go_wp2
    go_ret
    exact ⟨_, rfl, World.ownsRow_nil _ _ _ _, Below.refl _ _⟩
  | some ad =>
    have HB : Hid (Below w.heap.size w (w.alloc (.cells #[] 30))) := (Below.refl _ _).alloc (Nat.le_refl _) _
    have HR := Lib.hid (h.below HB.out)
    clear h
    have HO : Hid ((w.alloc (.cells #[] 30)).ownsRow 0 30 2 (.slice (some ⟨w.heap.size, 0, none⟩) 0 0) 0 []) := World.ownsRow_lit (base := 0) w #[] 0 (Nat.zero_le _) (by simp [maxLen]) (by simp)
    have HL : Hid ((0 + l.length) * 32 ≤ 140737488355328 ∧ 0 + l.length ≤ maxLen) := by show _ ∧ _; unfold maxLen; omega
    go_enter Try.func13, Try.ntmps13
    go_wp2_with (at_builtin; refine wpList_extend elemLab _ _ _ _ _ _ _ HO.out HR.out (labCells_one _) HL.out rfl _ _ rfl rfl rfl ?_)
    intro v' w1 hown hmods hfr
    have HM : Hid (Made w w1 30 2 v' l.length (labCells l)) := by
      refine ⟨?_, HB.out.trans (hmods.below HB.out.size (fun k hk e => by simp [Value.ownBlock] at e; omega))⟩
      try simp only [List.nil_append, Nat.zero_add] at hown
      exact owns_rebase hown (fun k hk => by
        rcases hfr k hk with e | e
        · simp [Value.ownBlock] at e; omega
        · have := HB.out.size; omega)
    clear hown hmods hfr
    go_wp2
    go_ret
    exact ⟨_, rfl, HM.out⟩
end Go.Proofs.Ytpgdedehhaibmaa

end

section
/- Layer 11, the program's own: Normalize. -/
set_option linter.unusedVariables false
set_option maxRecDepth 20000
namespace Go.Proofs.Ytpgdedehhaibmaa
open Go Go.RowKit

set_option maxHeartbeats 4000000 in
theorem labNorm_any (lv : Value) (l : List Lab) (w : World) (hl : Rd w 2 lv l.length (labCells l)) (hs : ∀ x ∈ l, x.1.size ≤ 9223372036854775807 ∧ x.2.size ≤ 9223372036854775807) (hn : l.length ≤ 100000) :
    Calls Try.prog 14 #[lv] w (GotLb w (normL l)) := by
  have HL := Lib.hid hl; have HS := Lib.hid hs; have HNn := Lib.hid hn
  obtain ⟨pl, cl, hv⟩ := hl.shape
  subst hv
  have hmx : (l.length : Int) ≤ 100000 := by omega
  clear hl hs hn
  go_enter Try.func14, Try.ntmps14
  go_wp2_with fail
  go_loopw [11] (fun iv wr => ∃ (i : Nat), i ≤ l.length ∧ iv = .int .i64 (i : Int) ∧ Hid (∀ x ∈ l.take i, oneL x = 0) ∧ Hid (Below w.heap.size w wr)) (fun iv _ => l.length - (intOf iv).toNat)
  case atStart => exact ⟨0, Nat.zero_le _, rfl, (by intro x hx; simp at hx), Below.refl _ _⟩
  case round =>
    obtain ⟨i, hi, rfl, HF, HB⟩ := hrel
    have him : (i : Int) ≤ 100000 := by omega
    by_cases hlt : i < l.length
    · have hlt' : (i : Int) < (l.length : Int) := by omega
      obtain ⟨⟨n, v⟩, hx⟩ : ∃ x, l[i]? = some x := ⟨_, List.getElem?_eq_getElem hlt⟩
      obtain ⟨b, off, e⟩ := rd2_at HL.out hx
      subst e
      obtain ⟨c0, c1⟩ := rd2_cell (HL.out.below HB.out) hx
      have HOn := Lib.hid (fun w' => checkLabel_any n v w' (HS.out _ (List.mem_of_getElem? hx)).1 (HS.out _ (List.mem_of_getElem? hx)).2)
      have HX := Lib.hid hx
      have HB2 : Hid (Below w.heap.size w (wr.alloc (.cells #[.string n, .string v] 30))) := HB.out.trans (((Below.refl _ wr).alloc (Nat.le_refl _) _).mono HB.out.size)
      clear hx
      go_wp2_with fail
      refine (HOn.out _).mono ?_
      rintro e w2 ⟨rfl, hB⟩
      have HBw := Lib.hid (HB2.out.trans (hB.mono HB2.out.size))
      clear c0 c1 hB HOn HB2
      by_cases he : oneL (n, v) = 0
      · have HF2 : Hid (∀ x ∈ l.take (i + 1), oneL x = 0) := by
          intro x hx
          rw [List.take_add_one, HX.out] at hx
          rcases List.mem_append.1 hx with e | e
          · exact HF.out x e
          · simp at e; subst e; exact he
        rw [he]
        clear he
        go_wp2_with fail
        go_round
        case rel => exact ⟨i + 1, by omega, by go_num, HF2.out, HBw.out⟩
        case measure => simp [intOf]; omega
      · have he1 : ¬ (oneL (n, v) : Int) = 0 := by omega
        have heb : ((oneL (n, v) : Int) == 0) = false := by rw [beq_eq_false_iff_ne]; exact he1
        have HE : Hid (normL l = (oneL (n, v), [])) := by
          show _ = _
          have h := firstErr_at HF.out HX.out he
          rw [normL, h, if_pos he]
        clear he
        generalize oneL (n, v) = e at *
        go_wp2_with fail
        go_ret2
        exact GotLb.fails HBw.out HE.out
    · have hlt' : ¬ (i : Int) < (l.length : Int) := by omega
      have HE0 : Hid (firstErr l = 0) := by
        show _ = _
        have h := HF.out
        rw [List.take_of_length_le (by omega)] at h
        exact (firstErr_zero l).2 h
      have HCl := Lib.hid (clone_lab (.slice pl l.length cl) l wr (HL.out.below HB.out) (by have := HNn.out; omega))
      go_wp2_with fail
      refine HCl.out.mono ?_
      rintro e w2 ⟨r, rfl, hM⟩
      have HO2 := Lib.hid hM.1
      have HB2 := Lib.hid (HB.out.trans (hM.2.mono HB.out.size))
      have HFar : Hid (∀ k, r.ownBlock = some k → w.heap.size ≤ k) := fun k hk => Nat.le_trans HB.out.size (hM.1.lt k hk).1
      obtain ⟨p, c, hv⟩ := (Rd.of_owns hM.1).shape
      subst hv
      clear hM HCl
      have HSo := Lib.hid (sort_lab w2 _ _ l HO2.out (by have := HNn.out; omega))
      go_wp2_with fail
      refine HSo.out.mono ?_
      rintro e w3 ⟨rfl, l', hp, hs, hO, hM⟩
      have HP := Lib.hid hp
      have HLn : Hid (l'.length = l.length) := hp.length_eq
      have HO3 := Lib.hid hO
      have HB3 := Lib.hid (HB2.out.trans (hM.below HB2.out.size (fun k hk e => by have := HFar.out k e; omega)))
      have HNs := Lib.hid (norm_sorted HE0.out hp hs)
      have HCk := Lib.hid (labCheck_any (.slice p l.length c) l' w3 (by have h := Rd.of_owns hO; rwa [← HLn.out] at h ⊢) (fun x hx => HS.out x (hp.mem_iff.1 hx)) (by have := HNn.out; have := HLn.out; omega))
      clear hp hs hO hM HSo HO2 HB2
      go_wp2_with fail
      refine HCk.out.mono ?_
      rintro e w4 ⟨rfl, hB⟩
      have HB4 := Lib.hid (HB3.out.trans (hB.mono HB3.out.size))
      have HR4 := Lib.hid ((Rd.of_owns HO3.out).below hB)
      clear hB HCk HB3 HO3
      rcases HNs.out with ⟨h1, h2⟩ | ⟨h1, h2⟩
      · have HN := Lib.hid h2
        rw [h1]
        clear h1 h2
        go_wp2_with fail
        go_ret2
        refine ⟨⟨_, ?_, ?_, HFar.out⟩, HB4.out⟩
        · rw [HN.out]; rfl
        · rw [HN.out]
          show Rd _ _ _ l'.length _
          rw [HLn.out]
          exact HR4.out
      · have HN := Lib.hid h2
        rw [h1]
        clear h1 h2
        go_wp2_with fail
        go_ret2
        exact GotLb.fails HB4.out HN.out
end Go.Proofs.Ytpgdedehhaibmaa

end

section
/- Layer 11, the program's own: Get, Strings. -/
set_option linter.unusedVariables false
set_option maxRecDepth 20000
namespace Go.Proofs.Ytpgdedehhaibmaa
open Go Go.RowKit

set_option maxHeartbeats 2000000 in
theorem labGet_any (lv : Value) (l : List Lab) (n : ByteArray) (w : World) (hl : Rd w 2 lv l.length (labCells l)) (hn : l.length ≤ 1000000) :
    Calls Try.prog 19 #[lv, .string n] w fun e w' => e = .returned (getV (getL l n)) ∧ Below w.heap.size w w' := by
  have HL := Lib.hid hl
  obtain ⟨pl, cl, hv⟩ := hl.shape
  subst hv
  have hmx : (l.length : Int) ≤ 1000000 := by omega
  clear hl hn
  go_enter Try.func19, Try.ntmps19
  go_wp2_with fail
  go_loopw [10] (fun iv wr => ∃ (i : Nat), i ≤ l.length ∧ iv = .int .i64 (i : Int) ∧ Hid (∀ y ∈ l.take i, y.1 ≠ n) ∧ Hid (Below w.heap.size w wr)) (fun iv _ => l.length - (intOf iv).toNat)
  case atStart => exact ⟨0, Nat.zero_le _, rfl, (by intro x hx; simp at hx), Below.refl _ _⟩
  case round =>
    obtain ⟨i, hi, rfl, HF, HB⟩ := hrel
    have him : (i : Int) ≤ 1000000 := by omega
    by_cases hlt : i < l.length
    · have hlt' : (i : Int) < (l.length : Int) := by omega
      obtain ⟨⟨yn, yv⟩, hx⟩ : ∃ x, l[i]? = some x := ⟨_, List.getElem?_eq_getElem hlt⟩
      obtain ⟨b, off, e⟩ := rd2_at HL.out hx
      subst e
      obtain ⟨c0, c1⟩ := rd2_cell (HL.out.below HB.out) hx
      have HX := Lib.hid hx
      have HA : Hid (Below w.heap.size w (wr.alloc (.cells #[.string yn, .string yv] 30))) := HB.out.trans (((Below.refl _ wr).alloc (Nat.le_refl _) _).mono HB.out.size)
      clear hx
      by_cases hy : yn = n
      · subst hy
        have hse : (yn.toList == yn.toList) = true := by simp
        have HG : Hid (getL l yn = some yv) := getL_at HF.out HX.out rfl
        go_wp2_with fail
        go_ret2
        exact ⟨by rw [HG.out]; rfl, HA.out⟩
      · have hse : (yn.toList == n.toList) = false := by rw [eqS]; simpa using hy
        have HF2 : Hid (∀ y ∈ l.take (i + 1), y.1 ≠ n) := by
          intro y hy2
          rw [List.take_add_one, HX.out] at hy2
          rcases List.mem_append.1 hy2 with e | e
          · exact HF.out y e
          · simp at e; subst e; exact hy
        clear hy
        go_wp2_with fail
        go_round
        case rel => exact ⟨i + 1, by omega, by go_num, HF2.out, HA.out⟩
        case measure => simp [intOf]; omega
    · have hlt' : ¬ (i : Int) < (l.length : Int) := by omega
      have HG : Hid (getL l n = none) := getL_none (by have h := HF.out; rwa [List.take_of_length_le (by omega)] at h)
      go_wp2_with fail
      go_ret2
      exact ⟨by rw [HG.out]; rfl, HB.out⟩

set_option maxHeartbeats 2000000 in
theorem labStrings_any (lv : Value) (l : List Lab) (w : World) (hl : Rd w 2 lv l.length (labCells l)) (hn : l.length ≤ 1000000) :
    Calls Try.prog 22 #[lv] w fun e w' => ∃ r, e = .returned r ∧ Own1 9 Value.string w w' (stringsL l) r := by
  have HL := Lib.hid hl
  obtain ⟨pl, cl, hv⟩ := hl.shape
  subst hv
  have hmx : (l.length : Int) ≤ 1000000 := by omega
  clear hl hn
  go_enter Try.func22, Try.ntmps22
  go_wp2_with fail
  go_loopw [3, 8] (fun vv iv wr => ∃ (i : Nat), i ≤ l.length ∧ iv = .int .i64 (i : Int) ∧ Hid (Own1 9 Value.string w wr (stringsL (l.take i)) vv)) (fun _ iv _ => l.length - (intOf iv).toNat)
  case atStart => exact ⟨0, Nat.zero_le _, rfl, Own1.nil w⟩
  case round =>
    obtain ⟨i, hi, rfl, HO⟩ := hrel
    have him : (i : Int) ≤ 1000000 := by omega
    by_cases hlt : i < l.length
    · have hlt' : (i : Int) < (l.length : Int) := by omega
      obtain ⟨⟨yn, yv⟩, hx⟩ : ∃ x, l[i]? = some x := ⟨_, List.getElem?_eq_getElem hlt⟩
      obtain ⟨b, off, e⟩ := rd2_at HL.out hx
      subst e
      obtain ⟨c0, c1⟩ := rd2_cell (HL.out.below HO.out.bel) hx
      have HSt := Lib.hid (stringsL_step hx)
      have hl1 : (stringsL (l.take i)).length ≤ 2000000 := by rw [stringsL_len, List.length_take]; omega
      have HXx := Lib.hid hx
      clear hx
      obtain ⟨pv, cv, hvv⟩ := HO.out.shape
      subst hvv
      have HBd : Hid (((stringsL (l.take i)).length + 2) * 16 ≤ 140737488355328 ∧ (stringsL (l.take i)).length + 2 ≤ maxLen) := by show _ ∧ _; unfold maxLen; omega
      clear hl1
      have HA := Lib.hid (HO.out.below (((Below.refl _ wr).alloc (Nat.le_refl _) (.cells #[.string yn, .string yv] 30))))
      generalize stringsL (l.take i) = acc at *
      obtain ⟨w1, hw1⟩ : ∃ w1, w1 = wr.alloc (.cells #[.string yn, .string yv] 30) := ⟨_, rfl⟩
      have HS1 : Hid (w1.heap.size = wr.heap.size + 1) := by show _ = _; rw [hw1]; simp
      rw [← hw1] at HA
      have HO2 : Hid (Own1 9 Value.string w (w1.alloc (.cells #[.string yn, .string yv] 9)) acc (.slice pv acc.length cv)) := HA.out.below ((Below.refl _ w1).alloc (Nat.le_refl _) _)
      have hlit := Rd.of_owns (World.ownsRow_lit (base := 0) w1 #[.string yn, .string yv] 2 (Nat.zero_le _) (by simp [maxLen]) (by simp) (e := 9) (size := 1))
      rw [HS1.out] at hlit
      rw [hw1] at hlit HO2
      have HLit := Lib.hid hlit
      have HOb := Lib.hid HO2.out.base0
      clear hlit HS1 HA hw1 w1
      go_wp2_with (refine wpList_extend Try.elemStr _ _ _ _ _ _ _ HOb.out HLit.out (strs_one [yn, yv]) HBd.out rfl _ _ rfl rfl rfl ?_)
      intro v3 w3 k1 k2 k3
      have HO4 : Hid (Own1 9 Value.string w w3 (stringsL (l.take (i + 1))) v3) := by show Own1 _ _ _ _ _ _; rw [HSt.out]; exact HO2.out.extended (e := [yn, yv]) k1 k2 (by simpa using k3)
      obtain ⟨p3, c3, hv3⟩ : ∃ p c, v3 = .slice p (acc.length + 2) c := (Rd.of_owns k1).shape
      subst hv3
      clear k1 k2 k3 HOb HLit HO2
      go_wp2_with fail
      go_round
      case rel => exact ⟨i + 1, by omega, by go_num, HO4.out⟩
      case measure => simp [intOf]; omega
    · have hlt' : ¬ (i : Int) < (l.length : Int) := by omega
      rw [List.take_of_length_le (by omega)] at HO
      obtain ⟨pv, cv, hvv⟩ := HO.out.shape
      subst hvv
      go_wp2_with fail
      go_ret
      exact ⟨_, rfl, HO.out⟩
end Go.Proofs.Ytpgdedehhaibmaa

end
