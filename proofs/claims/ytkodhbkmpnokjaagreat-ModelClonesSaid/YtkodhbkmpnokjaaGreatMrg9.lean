/- LbF, MdP, MdA, NbS, NbB, LbD, LbG, MdC, FromTo, MdD, in one text. -/
import Derived.Test.YtkodhbkmpnokjaaGreatMrg8
import Derived.Test.YtkodhbkmpnokjaaGreatMrg3
import Derived.Test.YtkodhbkmpnokjaaGreatMrg2
import Derived.Test.YtkodhbkmpnokjaaGreatMrg4
import Derived.Laws.EntriesVeiled
import Derived.Test.YtkodhbkmpnokjaaGreatMrg6
import Derived.Test.YtkodhbkmpnokjaaGreatMrg5

section
/- Layer 11, the program's own: slices.CompareFunc at labels, Compare. -/
set_option linter.unusedVariables false
set_option maxRecDepth 20000
namespace Go.Proofs.YtkodhbkmpnokjaaGreat
open Go Go.RowKit

set_option maxHeartbeats 4000000 in
theorem compareFunc_any (av bv : Value) (a b : List Lab) (w : World) (ha : Rd w 2 av a.length (labCells a)) (hb : Rd w 2 bv b.length (labCells b)) (hna : a.length ≤ 1000000) (hnb : b.length ≤ 1000000) :
    Calls Tryz.prog 70 #[av, bv, .func (.func 71) #[] #[]] w fun e w' => e = .returned (.int .i64 (cmpLabs a b)) ∧ Grw w w' := by
  have HLa := Lib.hid ha; have HLb := Lib.hid hb
  obtain ⟨pa, ca, hv⟩ := ha.shape
  subst hv
  obtain ⟨pb, cb, hv⟩ := hb.shape
  subst hv
  have hma : (a.length : Int) ≤ 1000000 := by omega
  have hmb : (b.length : Int) ≤ 1000000 := by omega
  clear ha hb hna hnb
  go_enter Tryz.func70, Tryz.ntmps70
  go_wp2_with fail
  go_loopw [13] (fun iv wr => ∃ (i : Nat), i ≤ a.length ∧ i ≤ b.length ∧ iv = .int .i64 (i : Int) ∧ Hid (cmpLabs a b = cmpLabs (a.drop i) (b.drop i)) ∧ Hid (Grw w wr)) (fun iv _ => a.length - (intOf iv).toNat)
  case atStart => exact ⟨0, Nat.zero_le _, Nat.zero_le _, rfl, rfl, Grw.refl _⟩
  case round =>
    obtain ⟨i, hia, hib, rfl, HC, HB⟩ := hrel
    have him : (i : Int) ≤ 1000000 := by omega
    by_cases h1 : i < a.length
    · have h1' : (i : Int) < (a.length : Int) := by omega
      obtain ⟨⟨xn, xv⟩, hx⟩ : ∃ x, a[i]? = some x := ⟨_, List.getElem?_eq_getElem h1⟩
      obtain ⟨ba, oa, e⟩ := rd2_at HLa.out hx
      subst e
      obtain ⟨c0, c1⟩ := rd2_cell (HLa.out.below HB.out.below) hx
      by_cases h2 : i < b.length
      · have h2' : (i : Int) < (b.length : Int) := by omega
        obtain ⟨⟨yn, yv⟩, hy⟩ : ∃ y, b[i]? = some y := ⟨_, List.getElem?_eq_getElem h2⟩
        obtain ⟨bb, ob, e⟩ := rd2_at HLb.out hy
        subst e
        have hne : ∀ o : Obj, (wr.alloc o).cell? ⟨bb, ob + i * 2, none⟩ = some (.string yn) ∧ (wr.alloc o).cell? ⟨bb, ob + i * 2 + 1, none⟩ = some (.string yv) := fun o => rd2_cell (HLb.out.below (HB.out.alloc o).below) hy
        obtain ⟨d0, d1⟩ := hne (.cells #[.string xn, .string xv] 39)
        have HSt := Lib.hid (cmp_step hx hy HC.out)
        have HG3 : Hid (Grw w ((wr.alloc (.cells #[.string xn, .string xv] 39)).alloc (.cells #[.string yn, .string yv] 39))) := (HB.out.alloc _).alloc _
        have HCm := Lib.hid (compareLabels_any (xn, xv) (yn, yv))
        clear hx hy HC hne
        generalize cmpLab (xn, xv) (yn, yv) = o at *
        go_wp2_with fail
        refine (HCm.out _).mono ?_
        rintro e w4 ⟨rfl, hG⟩
        have HG4 := Lib.hid (HG3.out.trans hG)
        clear hG HCm HG3 c0 c1 d0 d1
        by_cases ho : o = 0
        · subst ho
          rw [if_pos rfl] at HSt
          go_wp2_with fail
          go_round
          case rel => exact ⟨i + 1, by omega, by omega, by go_num, HSt.out, HG4.out⟩
          case measure => simp [intOf]; omega
        · have hob : (o == 0) = false := by rw [beq_eq_false_iff_ne]; exact ho
          rw [if_neg ho] at HSt
          go_wp2_with fail
          go_ret
          exact ⟨by rw [HSt.out]; rfl, HG4.out⟩
      · have h2' : ¬ (i : Int) < (b.length : Int) := by omega
        have h2g : (b.length : Int) ≤ (i : Int) := by omega
        have HE : Hid (cmpLabs a b = 1) := by
          show _ = _
          rw [cmp_end ⟨hia, hib⟩ (fun h => h2 h.2) HC.out, if_neg (by omega), if_pos (by omega)]
        have HG3 : Hid (Grw w (wr.alloc (.cells #[.string xn, .string xv] 39))) := HB.out.alloc _
        clear hx HC
        go_wp2_with fail
        go_ret
        exact ⟨by rw [HE.out]; rfl, HG3.out⟩
    · have h1' : ¬ (i : Int) < (a.length : Int) := by omega
      by_cases h3 : a.length < b.length
      · have h3' : (a.length : Int) < (b.length : Int) := by omega
        have HE : Hid (cmpLabs a b = -1) := by
          show _ = _
          rw [cmp_end ⟨hia, hib⟩ (fun h => h1 h.1) HC.out, if_pos h3]
        clear HC
        go_wp2_with fail
        go_ret
        exact ⟨by rw [HE.out]; rfl, HB.out⟩
      · have h3' : ¬ (a.length : Int) < (b.length : Int) := by omega
        have HE : Hid (cmpLabs a b = 0) := by
          show _ = _
          rw [cmp_end ⟨hia, hib⟩ (fun h => h1 h.1) HC.out, if_neg h3, if_neg (by omega)]
        clear HC
        go_wp2_with fail
        go_ret
        exact ⟨by rw [HE.out]; rfl, HB.out⟩

theorem labCompare_any (av bv : Value) (a b : List Lab) (w : World) (ha : Rd w 2 av a.length (labCells a)) (hb : Rd w 2 bv b.length (labCells b)) (hna : a.length ≤ 1000000) (hnb : b.length ≤ 1000000) :
    Calls Tryz.prog 55 #[av, bv] w fun e w' => e = .returned (.int .i64 (cmpLabs a b)) ∧ Grw w w' := by
  have HC := Lib.hid (compareFunc_any av bv a b w ha hb hna hnb)
  obtain ⟨pa, ca, hv⟩ := ha.shape
  subst hv
  obtain ⟨pb, cb, hv⟩ := hb.shape
  subst hv
  clear ha hb hna hnb
  generalize cmpLabs a b = o at *
  go_enter Tryz.func55, Tryz.ntmps55
  go_wp2_with fail
  refine HC.out.mono ?_
  rintro e w4 ⟨rfl, hG⟩
  have HG := Lib.hid hG
  clear hG HC
  go_wp2_with fail
  go_ret
  exact ⟨rfl, HG.out⟩
end Go.Proofs.YtkodhbkmpnokjaaGreat

end

section
/- Layer 12, the program's own: neighbours, as functions on lists; lists that any sort leaves. No program in sight. -/
set_option linter.unusedVariables false
namespace Go.Proofs.YtkodhbkmpnokjaaGreat
open Go Go.RowKit

/-- The order of numbers. -/
def ordI (a b : Int) : Int := if a < b then -1 else if b < a then 1 else 0
/-- The error of the first pair of neighbours that stand in no order: c k says how k + 1 stands to k. -/
def nbr (c : Nat → Int) (e0 : Int) : Nat → Nat → Int
  | _, 0 => 0
  | k, n + 1 => if c k = 0 then e0 else if c k < 0 then 16 else nbr c e0 (k + 1) n
section
variable {α : Type} (cmp : α → α → Int) (e0 : Int)
def nbrL : List α → Int
  | a :: b :: l => if cmp b a = 0 then e0 else if cmp b a < 0 then 16 else nbrL (b :: l)
  | _ => 0
def cOf (l : List α) (k : Nat) : Int := match l[k]?, l[k + 1]? with
  | some a, some b => cmp b a
  | _, _ => 0
theorem cOf_at {l : List α} {k : Nat} {a b : α} (h : l[k]? = some a) (h' : l[k + 1]? = some b) : cOf cmp l k = cmp b a := by simp [cOf, h, h']
theorem nbr_shift (x : α) (l : List α) (n : Nat) : ∀ k, nbr (cOf cmp (x :: l)) e0 (k + 1) n = nbr (cOf cmp l) e0 k n := by
  induction n with
  | zero => intro k; rfl
  | succ n ih =>
    intro k
    have hc : cOf cmp (x :: l) (k + 1) = cOf cmp l k := by simp [cOf]
    rw [nbr, nbr, hc, ih (k + 1)]
theorem nbr_list (l : List α) : nbr (cOf cmp l) e0 0 (l.length - 1) = nbrL cmp e0 l := by
  induction l with
  | nil => rfl
  | cons a l ih =>
    cases l with
    | nil => rfl
    | cons b l =>
      have hl : (a :: b :: l).length - 1 = l.length + 1 := rfl
      have hc : cOf cmp (a :: b :: l) 0 = cmp b a := cOf_at cmp rfl rfl
      have hs := nbr_shift cmp e0 a (b :: l) l.length 0
      have hl2 : (b :: l).length - 1 = l.length := rfl
      rw [hl2] at ih
      rw [hl, nbr, nbrL, hc, hs, ih]
end
theorem ordI_zero (a b : Int) : ordI a b = 0 ↔ a = b := by unfold ordI; split <;> (try split) <;> omega
theorem ordI_neg (a b : Int) : ordI a b < 0 ↔ a < b := by unfold ordI; split <;> (try split) <;> omega
theorem times_nbr (l : List Sam) : nbrL (fun x y : Sam => ordI x.1 y.1) 20 l = (timesL l : Int) := by
  have key : ∀ (l : List Sam) (a : Sam), nbrL (fun x y : Sam => ordI x.1 y.1) 20 (a :: l) = (timesFrom a.1 l : Int) := by
    intro l
    induction l with
    | nil => intro a; rfl
    | cons b l ih =>
      intro a
      rw [nbrL, timesFrom, ih b]
      by_cases h1 : b.1 = a.1
      · rw [if_pos ((ordI_zero _ _).2 h1), if_pos h1]; rfl
      · rw [if_neg (fun e => h1 ((ordI_zero _ _).1 e)), if_neg h1]
        by_cases h2 : b.1 < a.1
        · rw [if_pos ((ordI_neg _ _).2 h2), if_pos h2]; rfl
        · rw [if_neg (fun e => h2 ((ordI_neg _ _).1 e)), if_neg h2]
  cases l with
  | nil => rfl
  | cons a l => exact key l a
theorem times_srt {d : List Sam} (h : SrtE ltT d) : timesL d = 0 ∨ timesL d = 20 := by
  have key : ∀ (l : List Sam) (a : Sam), SrtE ltT (a :: l) → timesFrom a.1 l = 0 ∨ timesFrom a.1 l = 20 := by
    intro l
    induction l with
    | nil => intro a _; exact Or.inl rfl
    | cons b l ih =>
      intro a h
      obtain ⟨h1, h2⟩ := List.pairwise_cons.1 h
      have hb := h1 b (by simp)
      simp [ltT] at hb
      rw [timesFrom]
      split
      · exact Or.inr rfl
      · rw [if_neg (by omega)]; exact ih b h2
  cases d with
  | nil => exact Or.inl rfl
  | cons a l => exact key l a h
/-- Whatever sort: the same error, and the same list where there is none. -/
theorem sorted_sam {l l' : List Sam} (hp : l'.Perm l) (hs : SrtE ltT l') : timesL l' = timesL (sortE ltT l) ∧ (timesL l' = 0 → l' = sortE ltT l) := by
  have hz : timesL l' = 0 ↔ timesL (sortE ltT l) = 0 := by
    rw [times_sort, timesL_zero]
    exact ⟨fun h => (Keys.perm hp).1 (keys_of_asc h), fun h => asc_of_srt hs ((Keys.perm hp).2 h)⟩
  refine ⟨?_, fun h => ?_⟩
  · rcases times_srt hs with h1 | h1 <;> rcases times_srt (sortE_srt ltT_ok l) with h2 | h2
    · rw [h1, h2]
    · have := hz.1 h1; omega
    · have := hz.2 h2; omega
    · rw [h1, h2]
  · have ha := (timesL_zero l').1 h
    rw [← sortE_of_asc ltT_ok ha]
    exact sortE_ext ltT_ok (keys_of_asc ha) hp
theorem adj_nbr {d : List Ser} (h : SrtE ltB d) : nbrL (fun x y : Ser => cmpLabs x.1 y.1) 19 d = if adjB d = true then 19 else 0 := by
  induction d with
  | nil => rfl
  | cons a l ih =>
    obtain ⟨h1, h2⟩ := List.pairwise_cons.1 h
    cases l with
    | nil => rfl
    | cons b l =>
      have hb := h1 b (by simp)
      simp [ltB] at hb
      rw [nbrL, adjB, ih h2]
      have hd := cmpLabs_ok.dom b.1 a.1
      have hf := cmpLabs_ok.flip a.1 b.1
      by_cases h0 : cmpLabs b.1 a.1 = 0
      · have h0' : cmpLabs a.1 b.1 = 0 := by rw [h0] at hf; omega
        rw [if_pos h0, decide_eq_true h0']; rfl
      · have h0' : ¬ cmpLabs a.1 b.1 = 0 := fun e => h0 (by rw [e] at hf; omega)
        rw [if_neg h0, if_neg (by omega), decide_eq_false h0', Bool.false_or]
theorem sorted_ser {l l' : List Ser} (hp : l'.Perm l) (hs : SrtE ltB l') : adjB l' = adjB (sortE ltB l) ∧ (adjB l' = false → l' = sortE ltB l) := by
  have hz : adjB l' = false ↔ adjB (sortE ltB l) = false := by
    rw [adj_sort, adjB_false hs]
    exact ⟨fun h => (Keys.perm hp).1 (keys_of_asc h), fun h => asc_of_srt hs ((Keys.perm hp).2 h)⟩
  refine ⟨?_, fun h => ?_⟩
  · cases h1 : adjB l' with
    | false => rw [hz.1 h1]
    | true =>
      cases h2 : adjB (sortE ltB l) with
      | true => rfl
      | false => rw [hz.2 h2] at h1; cases h1
  · have ha := (adjB_false hs).1 h
    rw [← sortE_of_asc ltB_ok ha]
    exact sortE_ext ltB_ok (keys_of_asc ha) hp
end Go.Proofs.YtkodhbkmpnokjaaGreat

end

section
/- Layer 12, the program's own: the order of numbers, the orders of samples and of series; neighbours, as a function. -/
set_option linter.unusedVariables false
set_option maxRecDepth 20000
namespace Go.Proofs.YtkodhbkmpnokjaaGreat
open Go Go.RowKit

theorem isNaN_any (a : Int) (w : World) : Calls Tryz.prog 90 #[.int .i64 a] w fun e w' => e = .returned (.bool false) ∧ w' = w := by
  go_enter Tryz.func90, Tryz.ntmps90
  go_wp2_with fail
  go_ret
  exact ⟨rfl, rfl⟩
theorem cmpI64_any (a b : Int) (w : World) : Calls Tryz.prog 69 #[.int .i64 a, .int .i64 b] w fun e w' => e = .returned (.int .i64 (ordI a b)) ∧ w' = w := by
  have H1 := Lib.hid (isNaN_any a); have H2 := Lib.hid (isNaN_any b)
  by_cases h : a < b
  · have HE : Hid (ordI a b = -1) := if_pos h
    go_enter Tryz.func69, Tryz.ntmps69
    go_wp2_with fail
    refine (H1.out _).mono ?_
    rintro e w' ⟨rfl, rfl⟩
    go_wp2_with fail
    refine (H2.out _).mono ?_
    rintro e w' ⟨rfl, rfl⟩
    go_wp2_with fail
    go_ret
    exact ⟨by rw [HE.out]; rfl, rfl⟩
  · by_cases h2 : b < a
    · have HE : Hid (ordI a b = 1) := by show _ = _; rw [ordI, if_neg h, if_pos h2]
      go_enter Tryz.func69, Tryz.ntmps69
      go_wp2_with fail
      refine (H1.out _).mono ?_
      rintro e w' ⟨rfl, rfl⟩
      go_wp2_with fail
      refine (H2.out _).mono ?_
      rintro e w' ⟨rfl, rfl⟩
      go_wp2_with fail
      go_ret
      exact ⟨by rw [HE.out]; rfl, rfl⟩
    · have HE : Hid (ordI a b = 0) := by show _ = _; rw [ordI, if_neg h, if_neg h2]
      go_enter Tryz.func69, Tryz.ntmps69
      go_wp2_with fail
      refine (H1.out _).mono ?_
      rintro e w' ⟨rfl, rfl⟩
      go_wp2_with fail
      refine (H2.out _).mono ?_
      rintro e w' ⟨rfl, rfl⟩
      go_wp2_with fail
      go_ret
      exact ⟨by rw [HE.out]; rfl, rfl⟩

theorem compareTimes_any (x y : Sam) (w : World) :
    Calls Tryz.prog 54 #[.agg #[.int .i64 x.1, .int .u64 (x.2 : Int)], .agg #[.int .i64 y.1, .int .u64 (y.2 : Int)]] w fun e w' => e = .returned (.int .i64 (ordI x.1 y.1)) ∧ Grw w w' := by
  obtain ⟨xt, xv⟩ := x
  obtain ⟨yt, yv⟩ := y
  show Calls Tryz.prog 54 #[.agg #[.int .i64 xt, .int .u64 (xv : Int)], .agg #[.int .i64 yt, .int .u64 (yv : Int)]] w fun e w' => e = .returned (.int .i64 (ordI xt yt)) ∧ Grw w w'
  have HC := Lib.hid (fun w => cmpI64_any xt yt w)
  generalize ordI xt yt = o at *
  have HG2 : Hid (Grw w ((w.alloc (.cells #[.int .i64 xt, .int .u64 (xv : Int)] 42)).alloc (.cells #[.int .i64 yt, .int .u64 (yv : Int)] 42))) := ((Grw.refl w).alloc _).alloc _
  go_enter Tryz.func54, Tryz.ntmps54
  go_wp2_with fail
  refine (HC.out _).mono ?_
  rintro e w' ⟨rfl, rfl⟩
  clear HC
  go_wp2_with fail
  go_ret
  exact ⟨rfl, HG2.out⟩

theorem Rd.grw {w w' : World} {k : Nat} {v : Value} {n : Nat} {cs : List Value} (h : Rd w k v n cs) (hg : Grw w w') : Rd w' k v n cs := h.below hg.below

theorem compareSeries_any (x y : Hd) (s t : Ser) (w : World) (hx : SerAt w x s) (hy : SerAt w y t) (hs : s.1.length ≤ 1000000) (ht : t.1.length ≤ 1000000) :
    Calls Tryz.prog 31 #[.agg #[x.1, x.2], .agg #[y.1, y.2]] w fun e w' => e = .returned (.int .i64 (cmpLabs s.1 t.1)) ∧ Grw w w' := by
  obtain ⟨x1, x2⟩ := x
  obtain ⟨y1, y2⟩ := y
  obtain ⟨p1, c1, e1⟩ := hx.1.shape
  obtain ⟨p2, c2, e2⟩ := hx.2.shape
  obtain ⟨p3, c3, e3⟩ := hy.1.shape
  obtain ⟨p4, c4, e4⟩ := hy.2.shape
  simp only at e1 e2 e3 e4
  subst e1 e2 e3 e4
  have HG2 : Hid (Grw w ((w.alloc (.cells #[.slice p1 s.1.length c1, .slice p2 s.2.length c2] 37)).alloc (.cells #[.slice p3 t.1.length c3, .slice p4 t.2.length c4] 37))) := ((Grw.refl w).alloc _).alloc _
  have HC := Lib.hid (labCompare_any _ _ s.1 t.1 _ (hx.1.grw HG2.out) (hy.1.grw HG2.out) hs ht)
  clear hx hy hs ht
  generalize cmpLabs s.1 t.1 = o at *
  simp only at HC
  go_enter Tryz.func31, Tryz.ntmps31
  go_wp2_with fail
  refine HC.out.mono ?_
  rintro e w' ⟨rfl, hG⟩
  have HG3 := Lib.hid (HG2.out.trans hG)
  clear hG HC HG2
  go_wp2_with fail
  go_ret
  exact ⟨rfl, HG3.out⟩
end Go.Proofs.YtkodhbkmpnokjaaGreat

end

section
/- Layer 12, the program's own: neighbours in a list of samples. -/
set_option linter.unusedVariables false
set_option maxRecDepth 20000
namespace Go.Proofs.YtkodhbkmpnokjaaGreat
open Go Go.RowKit

set_option maxHeartbeats 4000000 in
theorem neighS_any (lv : Value) (hs : List Hd) (g : FuncId) (c : Nat → Int) (e0 : Int) (w : World) (h : Rd w 2 lv hs.length (two Prod.fst Prod.snd hs)) (hn : hs.length ≤ 1000000)
    (hcf : ∀ (args : Array Value) (w : World), (callFunc g args).run Tryz.prog w = .ok (.enter g args) w)
    (hc : ∀ (i : Nat) (a b : Hd), hs[i]? = some a → hs[i + 1]? = some b → ∀ w', Grw w w' → Calls Tryz.prog g #[.agg #[b.1, b.2], .agg #[a.1, a.2]] w' fun e w'' => e = .returned (.int .i64 (c i)) ∧ Grw w' w'') :
    Calls Tryz.prog 53 #[lv, .func (.func g) #[] #[], .int .i64 e0] w fun e w' => e = .returned (.int .i64 (nbr c e0 0 (hs.length - 1))) ∧ Grw w w' := by
  have H := Lib.hid h; have HC := Lib.hid hc
  obtain ⟨p, cp, hv⟩ := h.shape
  subst hv
  have hmx : (hs.length : Int) ≤ 1000000 := by omega
  clear h hn hc
  go_enter Tryz.func53, Tryz.ntmps53
  go_wp2_with fail
  go_step3
  go_wp2_with fail
  go_step3
  go_wp2_with fail
  go_loopw [7, 8] (fun ev iv wr => ∃ (i k : Nat), i = k + 1 ∧ (i ≤ hs.length ∨ k = 0) ∧ ev = .int .i64 0 ∧ iv = .int .i64 (i : Int) ∧ Hid (nbr c e0 0 (hs.length - 1) = nbr c e0 k (hs.length - 1 - k)) ∧ Hid (Grw w wr)) (fun _ iv _ => hs.length + 1 - (intOf iv).toNat)
  case atStart => exact ⟨1, 0, rfl, Or.inr rfl, rfl, rfl, rfl, Grw.refl _⟩
  case round =>
    obtain ⟨i, k, hik, hi, rfl, rfl, HP, HG⟩ := hrel
    by_cases hlt : i < hs.length
    · have hlt' : (i : Int) < (hs.length : Int) := by omega
      have hi1 : (i : Int) - 1 = (k : Int) := by omega
      have hkl : (k : Int) < (hs.length : Int) := by omega
      have hwk : IntKind.i64.wrap (k : Int) = (k : Int) := IntWalk.i64_in _ (by omega)
      obtain ⟨⟨a1, a2⟩, ha⟩ : ∃ x, hs[k]? = some x := ⟨_, List.getElem?_eq_getElem (by omega)⟩
      obtain ⟨⟨b1, b2⟩, hb⟩ : ∃ x, hs[i]? = some x := ⟨_, List.getElem?_eq_getElem hlt⟩
      have HSt : Hid (nbr c e0 0 (hs.length - 1) = if c k = 0 then e0 else if c k < 0 then 16 else nbr c e0 (k + 1) (hs.length - 1 - (k + 1))) := by
        show _ = _
        rw [HP.out]
        obtain ⟨m, hm⟩ : ∃ m, hs.length - 1 - k = m + 1 := ⟨hs.length - 1 - k - 1, by omega⟩
        rw [hm, show hs.length - 1 - (k + 1) = m by omega]
        rfl
      obtain ⟨b0, o0, e⟩ := rd2_at H.out ha
      subst e
      have HR : Hid (∀ n os, Rd (Go.Sort.grow (wr.drewN n) os) 2 (.slice (some ⟨b0, o0, none⟩) hs.length cp) hs.length (two Prod.fst Prod.snd hs)) := fun n os => H.out.below (HG.out.grow n os).below
      have x0 : ∀ n os, (Go.Sort.grow (wr.drewN n) os).cell? ⟨b0, o0 + k * 2, none⟩ = some a1 := fun n os => (rd2_cell (HR.out n os) ha).1
      have x1 : ∀ n os, (Go.Sort.grow (wr.drewN n) os).cell? ⟨b0, o0 + k * 2 + 1, none⟩ = some a2 := fun n os => (rd2_cell (HR.out n os) ha).2
      have y0 : ∀ n os, (Go.Sort.grow (wr.drewN n) os).cell? ⟨b0, o0 + i * 2, none⟩ = some b1 := fun n os => (rd2_cell (HR.out n os) hb).1
      have y1 : ∀ n os, (Go.Sort.grow (wr.drewN n) os).cell? ⟨b0, o0 + i * 2 + 1, none⟩ = some b2 := fun n os => (rd2_cell (HR.out n os) hb).2
      have HXC : Hid (∀ n os, Calls Tryz.prog g #[.agg #[b1, b2], .agg #[a1, a2]] (Go.Sort.grow (wr.drewN n) os) fun e w' => e = .returned (.int .i64 (c k)) ∧ ∃ q os', w' = Go.Sort.grow ((Go.Sort.grow (wr.drewN n) os).drewN q) os') := fun n os => HC.out k (a1, a2) (b1, b2) ha (by rw [← hik]; exact hb) _ (HG.out.grow n os)
      have HIK := Lib.hid hik
      clear ha hb HR HP hik hi
      generalize c k = o at *
      go_wp2_with fail
      have mixed : Tryz.prog.follows .mixedOrders = true := by kernel_rfl
      go_quiet_grown (first | (go_at_fn g; exact Calls.grown_of (HXC.out _ _)))
      have HG4 : Hid (Grw w (Go.Sort.grow (wr.drewN nq) osq)) := HG.out.grow nq osq
      clear x0 x1 y0 y1 HXC HG mixed hi1 hkl hwk
      show Exit.then _ _ _ _ (Go.Sort.grow (wr.drewN nq) osq)
      generalize Go.Sort.grow (wr.drewN nq) osq = w4 at *
      by_cases ho : o = 0
      · subst ho
        have HE : Hid (nbr c e0 0 (hs.length - 1) = e0) := HSt.out
        clear HSt
        go_wp2_with fail
        try rw [Exit.noGoto_ret]
        go_ret
        exact ⟨by rw [HE.out]; rfl, HG4.out⟩
      · have hob : (o == 0) = false := by rw [beq_eq_false_iff_ne]; exact ho
        by_cases h2 : o < 0
        · have HE : Hid (nbr c e0 0 (hs.length - 1) = 16) := by have := HSt.out; rw [if_neg ho, if_pos h2] at this; exact this
          clear HSt
          go_wp2_with fail
          try rw [Exit.noGoto_ret]
          go_ret
          exact ⟨by rw [HE.out]; rfl, HG4.out⟩
        · have HE : Hid (nbr c e0 0 (hs.length - 1) = nbr c e0 i (hs.length - 1 - i)) := by have := HSt.out; rw [if_neg ho, if_neg h2, ← HIK.out] at this; exact this
          clear HSt
          go_wp2_with fail
          go_round
          case rel => exact ⟨i + 1, i, rfl, Or.inl (by omega), rfl, by go_num, HE.out, HG4.out⟩
          case measure => simp [intOf]; omega
    · have hlt' : ¬ (i : Int) < (hs.length : Int) := by omega
      have HE : Hid (nbr c e0 0 (hs.length - 1) = 0) := by
        show _ = _
        rw [HP.out, show hs.length - 1 - k = 0 by omega]
        rfl
      clear hik hi
      go_wp2_with fail
      try rw [Exit.noGoto_ret]
      go_ret
      exact ⟨by rw [HE.out]; rfl, HG.out⟩
end Go.Proofs.YtkodhbkmpnokjaaGreat

end

section
/- Layer 12, the program's own: neighbours in a list of series. -/
set_option linter.unusedVariables false
set_option maxRecDepth 20000
namespace Go.Proofs.YtkodhbkmpnokjaaGreat
open Go Go.RowKit

set_option maxHeartbeats 4000000 in
theorem neighB_any (lv : Value) (hs : List Hd) (g : FuncId) (c : Nat → Int) (e0 : Int) (w : World) (h : Rd w 2 lv hs.length (two Prod.fst Prod.snd hs)) (hn : hs.length ≤ 1000000)
    (hcf : ∀ (args : Array Value) (w : World), (callFunc g args).run Tryz.prog w = .ok (.enter g args) w)
    (hc : ∀ (i : Nat) (a b : Hd), hs[i]? = some a → hs[i + 1]? = some b → ∀ w', Grw w w' → Calls Tryz.prog g #[.agg #[b.1, b.2], .agg #[a.1, a.2]] w' fun e w'' => e = .returned (.int .i64 (c i)) ∧ Grw w' w'') :
    Calls Tryz.prog 30 #[lv, .func (.func g) #[] #[], .int .i64 e0] w fun e w' => e = .returned (.int .i64 (nbr c e0 0 (hs.length - 1))) ∧ Grw w w' := by
  have H := Lib.hid h; have HC := Lib.hid hc
  obtain ⟨p, cp, hv⟩ := h.shape
  subst hv
  have hmx : (hs.length : Int) ≤ 1000000 := by omega
  clear h hn hc
  go_enter Tryz.func30, Tryz.ntmps30
  go_wp2_with fail
  go_step3
  go_wp2_with fail
  go_step3
  go_wp2_with fail
  go_loopw [7, 8] (fun ev iv wr => ∃ (i k : Nat), i = k + 1 ∧ (i ≤ hs.length ∨ k = 0) ∧ ev = .int .i64 0 ∧ iv = .int .i64 (i : Int) ∧ Hid (nbr c e0 0 (hs.length - 1) = nbr c e0 k (hs.length - 1 - k)) ∧ Hid (Grw w wr)) (fun _ iv _ => hs.length + 1 - (intOf iv).toNat)
  case atStart => exact ⟨1, 0, rfl, Or.inr rfl, rfl, rfl, rfl, Grw.refl _⟩
  case round =>
    obtain ⟨i, k, hik, hi, rfl, rfl, HP, HG⟩ := hrel
    by_cases hlt : i < hs.length
    · have hlt' : (i : Int) < (hs.length : Int) := by omega
      have hi1 : (i : Int) - 1 = (k : Int) := by omega
      have hkl : (k : Int) < (hs.length : Int) := by omega
      have hwk : IntKind.i64.wrap (k : Int) = (k : Int) := IntWalk.i64_in _ (by omega)
      obtain ⟨⟨a1, a2⟩, ha⟩ : ∃ x, hs[k]? = some x := ⟨_, List.getElem?_eq_getElem (by omega)⟩
      obtain ⟨⟨b1, b2⟩, hb⟩ : ∃ x, hs[i]? = some x := ⟨_, List.getElem?_eq_getElem hlt⟩
      have HSt : Hid (nbr c e0 0 (hs.length - 1) = if c k = 0 then e0 else if c k < 0 then 16 else nbr c e0 (k + 1) (hs.length - 1 - (k + 1))) := by
        show _ = _
        rw [HP.out]
        obtain ⟨m, hm⟩ : ∃ m, hs.length - 1 - k = m + 1 := ⟨hs.length - 1 - k - 1, by omega⟩
        rw [hm, show hs.length - 1 - (k + 1) = m by omega]
        rfl
      obtain ⟨b0, o0, e⟩ := rd2_at H.out ha
      subst e
      have HR : Hid (∀ n os, Rd (Go.Sort.grow (wr.drewN n) os) 2 (.slice (some ⟨b0, o0, none⟩) hs.length cp) hs.length (two Prod.fst Prod.snd hs)) := fun n os => H.out.below (HG.out.grow n os).below
      have x0 : ∀ n os, (Go.Sort.grow (wr.drewN n) os).cell? ⟨b0, o0 + k * 2, none⟩ = some a1 := fun n os => (rd2_cell (HR.out n os) ha).1
      have x1 : ∀ n os, (Go.Sort.grow (wr.drewN n) os).cell? ⟨b0, o0 + k * 2 + 1, none⟩ = some a2 := fun n os => (rd2_cell (HR.out n os) ha).2
      have y0 : ∀ n os, (Go.Sort.grow (wr.drewN n) os).cell? ⟨b0, o0 + i * 2, none⟩ = some b1 := fun n os => (rd2_cell (HR.out n os) hb).1
      have y1 : ∀ n os, (Go.Sort.grow (wr.drewN n) os).cell? ⟨b0, o0 + i * 2 + 1, none⟩ = some b2 := fun n os => (rd2_cell (HR.out n os) hb).2
      have HXC : Hid (∀ n os, Calls Tryz.prog g #[.agg #[b1, b2], .agg #[a1, a2]] (Go.Sort.grow (wr.drewN n) os) fun e w' => e = .returned (.int .i64 (c k)) ∧ ∃ q os', w' = Go.Sort.grow ((Go.Sort.grow (wr.drewN n) os).drewN q) os') := fun n os => HC.out k (a1, a2) (b1, b2) ha (by rw [← hik]; exact hb) _ (HG.out.grow n os)
      have HIK := Lib.hid hik
      clear ha hb HR HP hik hi
      generalize c k = o at *
      go_wp2_with fail
      have mixed : Tryz.prog.follows .mixedOrders = true := by kernel_rfl
      go_quiet_grown (first | (go_at_fn g; exact Calls.grown_of (HXC.out _ _)))
      have HG4 : Hid (Grw w (Go.Sort.grow (wr.drewN nq) osq)) := HG.out.grow nq osq
      clear x0 x1 y0 y1 HXC HG mixed hi1 hkl hwk
      show Exit.then _ _ _ _ (Go.Sort.grow (wr.drewN nq) osq)
      generalize Go.Sort.grow (wr.drewN nq) osq = w4 at *
      by_cases ho : o = 0
      · subst ho
        have HE : Hid (nbr c e0 0 (hs.length - 1) = e0) := HSt.out
        clear HSt
        go_wp2_with fail
        try rw [Exit.noGoto_ret]
        go_ret
        exact ⟨by rw [HE.out]; rfl, HG4.out⟩
      · have hob : (o == 0) = false := by rw [beq_eq_false_iff_ne]; exact ho
        by_cases h2 : o < 0
        · have HE : Hid (nbr c e0 0 (hs.length - 1) = 16) := by have := HSt.out; rw [if_neg ho, if_pos h2] at this; exact this
          clear HSt
          go_wp2_with fail
          try rw [Exit.noGoto_ret]
          go_ret
          exact ⟨by rw [HE.out]; rfl, HG4.out⟩
        · have HE : Hid (nbr c e0 0 (hs.length - 1) = nbr c e0 i (hs.length - 1 - i)) := by have := HSt.out; rw [if_neg ho, if_neg h2, ← HIK.out] at this; exact this
          clear HSt
          go_wp2_with fail
          go_round
          case rel => exact ⟨i + 1, i, rfl, Or.inl (by omega), rfl, by go_num, HE.out, HG4.out⟩
          case measure => simp [intOf]; omega
    · have hlt' : ¬ (i : Int) < (hs.length : Int) := by omega
      have HE : Hid (nbr c e0 0 (hs.length - 1) = 0) := by
        show _ = _
        rw [HP.out, show hs.length - 1 - k = 0 by omega]
        rfl
      clear hik hi
      go_wp2_with fail
      try rw [Exit.noGoto_ret]
      go_ret
      exact ⟨by rw [HE.out]; rfl, HG.out⟩
end Go.Proofs.YtkodhbkmpnokjaaGreat

end

section
/- Layer 11, the program's own: checkLabel, Get, Strings. -/
set_option linter.unusedVariables false
set_option maxRecDepth 20000
namespace Go.Proofs.YtkodhbkmpnokjaaGreat
open Go Go.RowKit

set_option maxHeartbeats 1000000 in
theorem checkLabel_any (n v : ByteArray) (w : World) (hn : n.size ≤ 9223372036854775807) (hv : v.size ≤ 9223372036854775807) :
    Calls Tryz.prog 67 #[.agg #[.string n, .string v]] w fun e w' => e = .returned (.int .i64 (oneL (n, v) : Int)) ∧ Below w.heap.size w w' := by
  have hB : Below w.heap.size w (w.alloc (.cells #[.string n, .string v] 39)) := (Below.refl _ w).alloc (Nat.le_refl _) _
  have HEm := Lib.hid (empty_size n)
  by_cases h0 : n.size = 0
  · have hE : n.toList.isEmpty = true := by rw [HEm.out]; simpa using h0
    have HO : Hid (oneL (n, v) = 17) := if_pos h0
    rw [HO.out]
    go_enter Tryz.func67, Tryz.ntmps67
    go_wp2_with fail
    go_ret
    exact ⟨rfl, hB⟩
  · have hE : n.toList.isEmpty = false := by rw [HEm.out]; simpa using h0
    by_cases h1 : (65535 : Int) < (n.size : Int)
    · have HO : Hid (oneL (n, v) = 7) := by show _ = _; rw [oneL, if_neg h0, if_pos (Or.inl (by show 65535 < n.size; omega))]
      rw [HO.out]
      clear h0
      go_enter Tryz.func67, Tryz.ntmps67
      go_wp2_with fail
      go_ret
      exact ⟨rfl, hB⟩
    · have hd1 : decide ((65535 : Int) < (n.size : Int)) = false := by simpa using h1
      by_cases h2 : (65535 : Int) < (v.size : Int)
      · have hd2 : decide ((65535 : Int) < (v.size : Int)) = true := by simpa using h2
        have HO : Hid (oneL (n, v) = 7) := by show _ = _; rw [oneL, if_neg h0, if_pos (Or.inr (by show 65535 < v.size; omega))]
        rw [HO.out]
        clear h0
        go_enter Tryz.func67, Tryz.ntmps67
        go_wp2_with fail
        go_ret
        exact ⟨rfl, hB⟩
      · have hd2 : decide ((65535 : Int) < (v.size : Int)) = false := by simpa using h2
        have HO : Hid (oneL (n, v) = 0) := by
          show _ = _
          rw [oneL, if_neg h0, if_neg]
          rintro (e | e)
          · exact h1 (by have : 65535 < n.size := e; omega)
          · exact h2 (by have : 65535 < v.size := e; omega)
        rw [HO.out]
        clear h0
        go_enter Tryz.func67, Tryz.ntmps67
        go_wp2_with fail
        go_ret
        exact ⟨rfl, hB⟩

end Go.Proofs.YtkodhbkmpnokjaaGreat

end

section
/- Layer 11, the program's own: Check. -/
set_option linter.unusedVariables false
set_option maxRecDepth 20000
namespace Go.Proofs.YtkodhbkmpnokjaaGreat
open Go Go.RowKit

theorem ltS_empty (n : ByteArray) : ltS n ⟨#[]⟩ = false := by
  unfold ltS
  have : (⟨#[]⟩ : ByteArray).toList = [] := by simp [ByteArray.toList_eq]
  rw [this]
  cases n.toList <;> rfl
theorem ltS_of_empty {n : ByteArray} (h : n.size ≠ 0) : ltS ⟨#[]⟩ n = true := by
  rcases Bool.eq_false_or_eq_true (ltS ⟨#[]⟩ n) with e | e
  · exact e
  · have := ltS_ok.tot _ _ e (ltS_empty n)
    subst this
    exact absurd rfl h
/-- One step of the program's check: the name before the first label is empty. -/
theorem checkNext_ord {p : Option ByteArray} {x : Lab} {r : Nat} (h : oneL x = 0) :
    checkNext p x r = if ordS x.1 (p.getD ⟨#[]⟩) = 0 then 18 else if ordS x.1 (p.getD ⟨#[]⟩) < 0 then 16 else r := by
  have hs : x.1.size ≠ 0 := fun e => by rw [oneL, if_pos e] at h; cases h
  cases p with
  | none =>
    have ho : ordS x.1 ⟨#[]⟩ = 1 := by rw [ordS, ordB, if_neg (by rw [ltS_empty]; simp), if_pos (ltS_of_empty hs)]
    show r = if ordS x.1 ⟨#[]⟩ = 0 then 18 else if ordS x.1 ⟨#[]⟩ < 0 then 16 else r
    rw [ho]; rfl
  | some n =>
    show (if x.1 = n then 18 else if ltS x.1 n then 16 else r) = if ordS x.1 n = 0 then 18 else if ordS x.1 n < 0 then 16 else r
    by_cases h1 : x.1 = n
    · rw [if_pos h1, if_pos ((ordS_ok.eq _ _).2 h1)]
    · rw [if_neg h1, if_neg (fun e => h1 ((ordS_ok.eq _ _).1 e))]
      by_cases h2 : ltS x.1 n = true
      · have : ordS x.1 n = -1 := if_pos h2
        rw [if_pos h2, if_pos (by omega)]
      · rw [if_neg h2, if_neg]
        have : ordS x.1 n = if ltS n x.1 then 1 else 0 := if_neg h2
        rw [this]
        split <;> decide
theorem prevN_next {l : List Lab} {i : Nat} {x : Lab} (hx : l[i]? = some x) : (prevN l (i + 1)).getD ⟨#[]⟩ = x.1 := by
  rw [prevN, if_neg (by omega), Nat.add_sub_cancel, hx]; rfl

set_option maxHeartbeats 4000000 in
theorem labCheck_any (lv : Value) (l : List Lab) (w : World) (hl : Rd w 2 lv l.length (labCells l)) (hs : ∀ x ∈ l, x.1.size ≤ 9223372036854775807 ∧ x.2.size ≤ 9223372036854775807) (hn : l.length ≤ 1000000) :
    Calls Tryz.prog 52 #[lv] w fun e w' => e = .returned (.int .i64 (checkL l : Int)) ∧ Below w.heap.size w w' := by
  have HL := Lib.hid hl; have HS := Lib.hid hs
  obtain ⟨pl, cl, hv⟩ := hl.shape
  subst hv
  have hmx : (l.length : Int) ≤ 1000000 := by omega
  have HB1 : Hid (Below w.heap.size w (w.alloc (.cells #[.string ⟨#[]⟩, .string ⟨#[]⟩] 39))) := (Below.refl _ w).alloc (Nat.le_refl _) _
  have HK1 : Hid (Blk (w.alloc (.cells #[.string ⟨#[]⟩, .string ⟨#[]⟩] 39)) w.heap.size [.string ⟨#[]⟩, .string ⟨#[]⟩]) := Blk.new w _ _
  clear hl hs hn
  go_enter Tryz.func52, Tryz.ntmps52
  go_wp2_with fail
  go_loopw [10] (fun iv wr => ∃ (i : Nat) (bn bv : ByteArray), i ≤ l.length ∧ iv = .int .i64 (i : Int) ∧ Hid (checkL l = checkFrom (prevN l i) (l.drop i)) ∧ Hid ((prevN l i).getD ⟨#[]⟩ = bn) ∧ Hid (Blk wr w.heap.size [.string bn, .string bv]) ∧ Hid (Below w.heap.size w wr)) (fun iv _ => l.length - (intOf iv).toNat)
  case atStart => exact ⟨0, ⟨#[]⟩, ⟨#[]⟩, Nat.zero_le _, rfl, rfl, rfl, HK1.out, HB1.out⟩
  case round =>
    obtain ⟨i, bn, bv, hi, rfl, HC, HP, HK, HB⟩ := hrel
    by_cases hlt : i < l.length
    · have hlt' : (i : Int) < (l.length : Int) := by omega
      have him : (i : Int) ≤ 1000000 := by omega
      obtain ⟨⟨n, v⟩, hx⟩ : ∃ x, l[i]? = some x := ⟨_, List.getElem?_eq_getElem hlt⟩
      obtain ⟨b, off, e⟩ := rd2_at HL.out hx
      subst e
      obtain ⟨c0, c1⟩ := rd2_cell (HL.out.below HB.out) hx
      have HOn := Lib.hid (fun w' => checkLabel_any n v w' (HS.out _ (List.mem_of_getElem? hx)).1 (HS.out _ (List.mem_of_getElem? hx)).2)
      have HSt := Lib.hid (check_step hx HC.out)
      have HNx := Lib.hid (prevN_next hx)
      have HB2 : Hid (Below w.heap.size w (wr.alloc (.cells #[.string n, .string v] 39))) := HB.out.trans (((Below.refl _ wr).alloc (Nat.le_refl _) _).mono HB.out.size)
      have HK2 : Hid (Blk (wr.alloc (.cells #[.string n, .string v] 39)) w.heap.size [.string bn, .string bv]) := HK.out.alloc _
      have HX2 : Hid (Blk (wr.alloc (.cells #[.string n, .string v] 39)) wr.heap.size [.string n, .string v]) := Blk.new wr _ _
      have HZ : Hid (w.heap.size < wr.heap.size) := HK.out.lt
      clear hx HC HB HK
      go_wp2_with fail
      refine (HOn.out _).mono ?_
      rintro e w3 ⟨rfl, hB⟩
      have HB3 := Lib.hid (HB2.out.trans (hB.mono HB2.out.size))
      have HK3 : Hid (Blk w3 w.heap.size [.string bn, .string bv]) := HK2.out.of_same (hB.block _ HK2.out.lt)
      have HX3 : Hid (Blk w3 wr.heap.size [.string n, .string v]) := HX2.out.of_same (hB.block _ HX2.out.lt)
      clear c0 c1 hB HOn HB2 HK2 HX2
      generalize wr.heap.size = h2 at *
      by_cases he : oneL (n, v) = 0
      · rw [if_neg (not_not_intro he)] at HSt
        have HSt2 : Hid (checkL l = if ordS n bn = 0 then 18 else if ordS n bn < 0 then 16 else checkFrom (prevN l (i + 1)) (l.drop (i + 1))) := by
          show _ = _
          rw [HSt.out, checkNext_ord he, HP.out]
        rw [he]
        clear he HSt
        have x0 := HX3.out.cell 0
        have x1 := HX3.out.cell 1
        have b0 := HK3.out.cell 0
        have b1 := HK3.out.cell 1
        simp only [List.getElem?_cons_zero, List.getElem?_cons_succ] at x0 x1 b0 b1
        have HCm := Lib.hid (compareNames_any (n, v) (bn, bv) w3)
        go_wp2_with fail
        refine HCm.out.mono ?_
        rintro e w4 ⟨rfl, hG⟩
        have HB4 := Lib.hid (HB3.out.trans (hG.below.mono HB3.out.size))
        have HK4 := Lib.hid (hG.blk HK3.out)
        have HX4 := Lib.hid (hG.blk HX3.out)
        clear x0 x1 b0 b1 hG HCm HB3 HK3 HX3
        show _
        have hnv : ordS (n, v).1 (bn, bv).1 = ordS n bn := rfl
        rw [hnv]
        clear hnv
        generalize ordS n bn = o at *
        by_cases ho : o = 0
        · subst ho
          rw [if_pos rfl] at HSt2
          go_wp2_with fail
          go_ret
          exact ⟨by rw [HSt2.out]; rfl, HB4.out⟩
        · have hob : (o == 0) = false := by rw [beq_eq_false_iff_ne]; exact ho
          rw [if_neg ho] at HSt2
          by_cases ho2 : o < 0
          · rw [if_pos ho2] at HSt2
            go_wp2_with fail
            go_ret
            exact ⟨by rw [HSt2.out]; rfl, HB4.out⟩
          · rw [if_neg ho2] at HSt2
            have x0 := HX4.out.cell 0
            have x1 := HX4.out.cell 1
            have b0 := HK4.out.cell 0
            have b1 := HK4.out.cell 1
            simp only [List.getElem?_cons_zero, List.getElem?_cons_succ] at x0 x1 b0 b1
            have f0 := HK4.out.free 0
            have f1 := HK4.out.free 1
            have HK5 : Hid (Blk ((w4.setCell ⟨w.heap.size, 0, none⟩ (.string n)).setCell ⟨w.heap.size, 1, none⟩ (.string v)) w.heap.size [.string n, .string v]) := (HK4.out.set 0 _).set 1 _
            have HB5 : Hid (Below w.heap.size w ((w4.setCell ⟨w.heap.size, 0, none⟩ (.string n)).setCell ⟨w.heap.size, 1, none⟩ (.string v))) :=
              HB4.out.trans (((Mods.set (fun k => k = w.heap.size) w4 ⟨w.heap.size, 0, none⟩ _ (fun _ => rfl)).trans (Mods.set (fun k => k = w.heap.size) _ ⟨w.heap.size, 1, none⟩ _ (fun _ => rfl)) (fun _ _ e => e)).below HB4.out.size (fun k hk e => by omega))
            clear HB4 HK4 HX4
            go_wp2_with fail
            go_round
            case rel => exact ⟨i + 1, n, v, by omega, by go_num, HSt2.out, HNx.out, HK5.out, HB5.out⟩
            case measure => simp [intOf]; omega
      · have he1 : ¬ (oneL (n, v) : Int) = 0 := by omega
        have heb : ((oneL (n, v) : Int) == 0) = false := by rw [beq_eq_false_iff_ne]; exact he1
        rw [if_pos he] at HSt
        clear he
        generalize oneL (n, v) = e at *
        go_wp2_with fail
        go_ret
        exact ⟨by rw [HSt.out]; rfl, HB3.out⟩
    · have hlt' : ¬ (i : Int) < (l.length : Int) := by omega
      have HE : Hid (checkL l = 0) := by
        show _ = _
        rw [HC.out, List.drop_of_length_le (by omega)]
        cases prevN l i <;> rfl
      go_wp2_with fail
      go_ret
      exact ⟨by rw [HE.out]; rfl, HB.out⟩
end Go.Proofs.YtkodhbkmpnokjaaGreat

end

section
/- Layer 12, the program's own: neighbours in samples and in series; checkSeries. -/
set_option linter.unusedVariables false
set_option maxRecDepth 20000
namespace Go.Proofs.YtkodhbkmpnokjaaGreat
open Go Go.RowKit

theorem Grw.mods {w w' : World} (h : Grw w w') (S : Nat → Prop) : Mods S w w' := Mods.of_below h.below S
def samHd (x : Sam) : Hd := (.int .i64 x.1, .int .u64 (x.2 : Int))
theorem samCells_hd (l : List Sam) : samCells l = two Prod.fst Prod.snd (l.map samHd) := by
  rw [samCells_two]
  induction l with
  | nil => rfl
  | cons x l ih =>
    show _ :: _ :: two _ _ l = _ :: _ :: two Prod.fst Prod.snd (l.map samHd)
    rw [ih]; rfl

theorem neighTimes (lv : Value) (l : List Sam) (w : World) (h : Rd w 2 lv l.length (samCells l)) (hn : l.length ≤ 1000000) :
    Calls Tryz.prog 53 #[lv, .func (.func 54) #[] #[], .int .i64 20] w fun e w' => e = .returned (.int .i64 (timesL l : Int)) ∧ Grw w w' := by
  have hl : (l.map samHd).length = l.length := List.length_map ..
  have hc := neighS_any lv (l.map samHd) 54 (cOf (fun x y : Sam => ordI x.1 y.1) l) 20 w (by rw [hl, ← samCells_hd]; exact h) (by omega) (fun _ _ => rfl) (fun i a b ha hb w' _ => by
    rw [List.getElem?_map] at ha hb
    obtain ⟨x, hx, rfl⟩ := Option.map_eq_some_iff.1 ha
    obtain ⟨y, hy, rfl⟩ := Option.map_eq_some_iff.1 hb
    rw [cOf_at _ hx hy]
    exact compareTimes_any y x w')
  rw [hl, nbr_list, times_nbr] at hc
  exact hc

theorem neighSers (lv : Value) (hs : List Hd) (b : List Ser) (w : World) (h : Rd w 2 lv hs.length (two Prod.fst Prod.snd hs)) (hlen : hs.length = b.length) (hser : ∀ (i : Nat) (h : Hd) (s : Ser), hs[i]? = some h → b[i]? = some s → SerAt w h s) (hn : b.length ≤ 1000000) (hb : ∀ s ∈ b, s.1.length ≤ 1000000) :
    Calls Tryz.prog 30 #[lv, .func (.func 31) #[] #[], .int .i64 19] w fun e w' => e = .returned (.int .i64 (nbrL (fun x y : Ser => cmpLabs x.1 y.1) 19 b)) ∧ Grw w w' := by
  have hc := neighB_any lv hs 31 (cOf (fun x y : Ser => cmpLabs x.1 y.1) b) 19 w h (by omega) (fun _ _ => rfl) (fun i x y hx hy w' hg => by
    obtain ⟨s, hs1⟩ : ∃ s, b[i]? = some s := ⟨_, List.getElem?_eq_getElem (by have := (List.getElem?_eq_some_iff.1 hx).1; omega)⟩
    obtain ⟨t, ht⟩ : ∃ t, b[i + 1]? = some t := ⟨_, List.getElem?_eq_getElem (by have := (List.getElem?_eq_some_iff.1 hy).1; omega)⟩
    rw [cOf_at _ hs1 ht]
    exact compareSeries_any y x t s w' ((hser _ _ _ hy ht).below hg.below) ((hser _ _ _ hx hs1).below hg.below) (hb _ (List.mem_of_getElem? ht)) (hb _ (List.mem_of_getElem? hs1)))
  rw [hlen, nbr_list] at hc
  exact hc

set_option maxHeartbeats 2000000 in
theorem checkSeries_any (x : Hd) (s : Ser) (w : World) (h : SerAt w x s) (hz : SerSized s) (hl : s.1.length ≤ 1000000) (hs : s.2.length ≤ 1000000) :
    Calls Tryz.prog 29 #[.agg #[x.1, x.2]] w fun e w' => e = .returned (.int .i64 (serErr s : Int)) ∧ Below w.heap.size w w' := by
  obtain ⟨x1, x2⟩ := x
  obtain ⟨ls, ss⟩ := s
  obtain ⟨p1, c1, e1⟩ := h.1.shape
  obtain ⟨p2, c2, e2⟩ := h.2.shape
  simp only at e1 e2 hl hs
  subst e1 e2
  obtain ⟨w1, hw1⟩ : ∃ w1, w1 = w.alloc (.cells #[.slice p1 ls.length c1, .slice p2 ss.length c2] 37) := ⟨_, rfl⟩
  have HW : Hid (w.alloc (.cells #[.slice p1 ls.length c1, .slice p2 ss.length c2] 37) = w1) := hw1.symm
  have HB1 : Hid (Below w.heap.size w w1) := by show Below _ _ _; rw [hw1]; exact (Below.refl _ w).alloc (Nat.le_refl _) _
  have HK1 : Hid (Blk w1 w.heap.size [.slice p1 ls.length c1, .slice p2 ss.length c2]) := by show Blk _ _ _; rw [hw1]; exact Blk.new w _ _
  have HC := Lib.hid (labCheck_any _ ls w1 (h.1.below HB1.out) hz.1 hl)
  have HS := Lib.hid (h.2.below HB1.out)
  have hsi : (ss.length : Int) ≤ 1000000 := by omega
  have HSn : Hid (ss.length ≤ 1000000) := hs
  simp only at HC HS
  clear hw1 h hz hl hs
  go_enter Tryz.func29, Tryz.ntmps29
  go_wp2_with fail
  rw [HW.out]
  refine HC.out.mono ?_
  rintro e w2 ⟨rfl, hB⟩
  have HB2 : Hid (Below w.heap.size w w2) := HB1.out.trans (hB.mono HB1.out.size)
  have HK2 : Hid (Blk w2 w.heap.size [.slice p1 ls.length c1, .slice p2 ss.length c2]) := HK1.out.of_same (hB.block _ HK1.out.lt)
  have HS2 := Lib.hid (HS.out.below hB)
  clear hB HC HS HW
  by_cases hc : checkL ls = 0
  · rw [hc]
    have k1 : w2.cell? ⟨w.heap.size, 1, none⟩ = some (.slice p2 ss.length c2) := by rw [HK2.out.cell]; rfl
    by_cases h0 : ss.length = 0
    · have HE : Hid (serErr (ls, ss) = 21) := by show _ = _; unfold serErr; rw [if_neg (not_not_intro hc), if_pos (List.eq_nil_of_length_eq_zero h0)]
      have h0b : ((ss.length : Int) == 0) = true := by rw [beq_iff_eq]; omega
      clear hc h0
      go_wp2_with fail
      go_ret
      exact ⟨by rw [HE.out]; rfl, HB2.out⟩
    · have HE : Hid (serErr (ls, ss) = timesL ss) := by show _ = _; unfold serErr; rw [if_neg (not_not_intro hc), if_neg (fun e : ss = [] => h0 (by rw [e]; rfl))]
      have h0b : ((ss.length : Int) == 0) = false := by rw [beq_eq_false_iff_ne]; omega
      have HN := Lib.hid (neighTimes _ ss w2 HS2.out HSn.out)
      clear hc h0
      go_wp2_with fail
      refine HN.out.mono ?_
      rintro e w3 ⟨rfl, hG⟩
      have HB3 : Hid (Below w.heap.size w w3) := HB2.out.trans (hG.below.mono HB2.out.size)
      clear hG HN k1
      go_wp2_with fail
      go_ret
      exact ⟨by rw [HE.out]; rfl, HB3.out⟩
  · have hcb : ((checkL ls : Int) == 0) = false := by rw [beq_eq_false_iff_ne]; omega
    have HE : Hid (serErr (ls, ss) = checkL ls) := by show _ = _; unfold serErr; rw [if_pos hc]
    clear hc
    generalize checkL ls = ce at *
    go_wp2_with fail
    go_ret
    exact ⟨by rw [HE.out]; rfl, HB2.out⟩
end Go.Proofs.YtkodhbkmpnokjaaGreat

end

section
/- A slice between two bounds. No program in sight. -/
set_option linter.unusedVariables false
namespace Go.Proofs.YtkodhbkmpnokjaaGreat
open Go Go.RowKit

/-- 's[i:k]'. -/
theorem wpList_fromTo {P : Program} {t e : TypeId} {sz bytes : Nat} (hE : Elem P t e sz bytes) (w : World) (v : Value) (n i k : Nat) (vs : List Value) (h0 : Rd w sz v n vs) (hi : i ≤ k) (hk : k ≤ n)
    {ops : Array Oper} {rest : List Oper} {o : Oper} {a : Act} {Q : Exit → Act → World → Prop} (hgd : Region.wanted o (yielded ops a.tmps) = true) (s x y : Operand) (ho : o.op = .slice t s (some x) (some y) none)
    (hs : a.eval s = v) (hx : a.eval x = .int .i64 (i : Int)) (hy : a.eval y = .int .i64 (k : Int))
    (h : ∀ p c, Rd w sz (.slice p (k - i) c) (k - i) ((vs.take (k * sz)).drop (i * sz)) → wpList P ops Q rest (a.put o.dst (.slice p (k - i) c)) w) : wpList P ops Q (o :: rest) a w := by
  obtain ⟨p, c, hv⟩ := h0.shape
  subst hv
  have hnc : n ≤ c := by obtain ⟨_, _, e, _, h, _⟩ := h0; cases e; exact h
  have hr := exec_fromTo hE w p n c i k hi (by omega) s x y ho hs hx hy
  have hR := h0.fromTo i k hi hk
  obtain ⟨p2, c2, hs2⟩ := hR.shape
  rw [hs2] at hr hR
  refine BigFrame.wpList_want hgd fun K hK => ?_
  unfold Oper.wp
  rw [hr]
  exact hK _ _ (h _ _ hR)
end Go.Proofs.YtkodhbkmpnokjaaGreat

end

section
/- Layer 12, the program's own: Check. -/
set_option linter.unusedVariables false
set_option maxRecDepth 20000
namespace Go.Proofs.YtkodhbkmpnokjaaGreat
open Go Go.RowKit

theorem two_take {α : Type} {f1 f2 : α → Value} (l : List α) : ∀ (k : Nat), (two f1 f2 l).take (k * 2) = two f1 f2 (l.take k) := by
  induction l with
  | nil => intro k; simp [two]
  | cons x l ih =>
    intro k
    cases k with
    | zero => simp [two]
    | succ k =>
      have e : two f1 f2 (x :: l) = f1 x :: f2 x :: two f1 f2 l := rfl
      rw [e, show (k + 1) * 2 = k * 2 + 1 + 1 by omega, List.take_succ_cons, List.take_succ_cons, ih k]
      rfl
theorem two_drop {α : Type} {f1 f2 : α → Value} (l : List α) : ∀ (k : Nat), (two f1 f2 l).drop (k * 2) = two f1 f2 (l.drop k) := by
  induction l with
  | nil => intro k; simp [two]
  | cons x l ih =>
    intro k
    cases k with
    | zero => simp
    | succ k =>
      have e : two f1 f2 (x :: l) = f1 x :: f2 x :: two f1 f2 l := rfl
      rw [e, show (k + 1) * 2 = k * 2 + 1 + 1 by omega, List.drop_succ_cons, List.drop_succ_cons, ih k]
      rfl
theorem seg_one {α : Type} {l : List α} {i : Nat} {x : α} (h : l[i]? = some x) : (l.take (i + 1)).drop i = [x] := by
  have hlt := (List.getElem?_eq_some_iff.1 h).1
  rw [List.take_add_one, h, List.drop_append_of_le_length (by rw [List.length_take]; omega), List.drop_of_length_le (by rw [List.length_take]; omega)]
  rfl
theorem seg_two {α : Type} {l : List α} {k : Nat} {x y : α} (h : l[k]? = some x) (h2 : l[k + 1]? = some y) : (l.take (k + 1 + 1)).drop k = [x, y] := by
  have hlt := (List.getElem?_eq_some_iff.1 h2).1
  rw [List.take_add_one, h2, List.drop_append_of_le_length (by rw [List.length_take]; omega), seg_one h]
  rfl
/-- Neighbours in a part of a list. -/
theorem neighPart (lv : Value) (hs : List Hd) (b : List Ser) (w : World) (i k : Nat) (h : Rd w 2 lv (k - i) (((two Prod.fst Prod.snd hs).take (k * 2)).drop (i * 2))) (hik : i ≤ k) (hk : k ≤ hs.length) (hlen : hs.length = b.length) (hser : ∀ (i : Nat) (h : Hd) (s : Ser), hs[i]? = some h → b[i]? = some s → SerAt w h s) (hn : b.length ≤ 1000000) (hb : ∀ s ∈ b, s.1.length ≤ 1000000) :
    Calls Tryz.prog 30 #[lv, .func (.func 31) #[] #[], .int .i64 19] w fun e w' => e = .returned (.int .i64 (nbrL (fun x y : Ser => cmpLabs x.1 y.1) 19 ((b.take k).drop i))) ∧ Grw w w' := by
  rw [two_take, two_drop] at h
  have hl : ((hs.take k).drop i).length = k - i := by rw [List.length_drop, List.length_take]; omega
  refine neighSers lv ((hs.take k).drop i) ((b.take k).drop i) w (by rw [hl]; exact h) (by rw [hl, List.length_drop, List.length_take]; omega) (fun j x s hx hs' => ?_) (by rw [List.length_drop, List.length_take]; omega) (fun s hs' => hb s (List.mem_of_mem_take (List.mem_of_mem_drop hs')))
  rw [List.getElem?_drop, List.getElem?_take] at hx hs'
  split at hx
  · next h1 =>
    rw [if_pos h1] at hs'
    exact hser _ _ _ hx hs'
  · cases hx

set_option maxHeartbeats 4000000 in
theorem modCheck_any (bv : Value) (b : List Ser) (w : World) (h : RdB w bv b) (hz : Sized b) (hs : Small b) :
    Calls Tryz.prog 11 #[bv] w fun e w' => e = .returned (.int .i64 (checkB b : Int)) ∧ Below w.heap.size w w' := by
  have H := Lib.hid h; have HSm := Lib.hid hs; have HZ := Lib.hid hz
  have HLg := Lib.hid (modLarge_any bv b w h hs)
  obtain ⟨hs', hr, hlen, hser⟩ := h.ex
  have HRd := Lib.hid hr; have HLen := Lib.hid hlen; have HSer := Lib.hid hser
  obtain ⟨p, c, hv⟩ := h.shape
  subst hv
  have hmx : (b.length : Int) ≤ 300 := by have := hs.len; omega
  clear h hs hz hr hlen hser
  go_enter Tryz.func11, Tryz.ntmps11
  go_wp2_with fail
  refine HLg.out.mono ?_
  rintro e w1 ⟨rfl, hG1⟩
  have HB1 : Hid (Below w.heap.size w w1) := hG1.below
  clear hG1 HLg
  go_wp2_with fail
  go_loopw [11] (fun iv wr => ∃ (i : Nat), i ≤ b.length ∧ iv = .int .i64 (i : Int) ∧ Hid (checkB b = checkBFrom (prevB b i) (b.drop i)) ∧ Hid (Below w.heap.size w wr)) (fun iv _ => b.length - (intOf iv).toNat)
  case atStart => exact ⟨0, Nat.zero_le _, rfl, rfl, HB1.out⟩
  case round =>
    obtain ⟨i, hi, rfl, HC, HB⟩ := hrel
    have him : (i : Int) ≤ 300 := by omega
    by_cases hlt : i < b.length
    · have hlt' : (i : Int) < (b.length : Int) := by omega
      obtain ⟨s, hx⟩ : ∃ s, b[i]? = some s := ⟨_, List.getElem?_eq_getElem hlt⟩
      obtain ⟨blk, off, h1, h2, e, ⟨p1, k1, e1⟩, ⟨p2, k2, e2⟩, hal⟩ := H.out.always hx
      subst e
      subst e1
      subst e2
      have HAl := Lib.hid hal
      have HSt := Lib.hid (checkB_step hx HC.out)
      have hmem := List.mem_of_getElem? hx
      have HL1 : Hid (s.1.length ≤ 200 ∧ s.2.length ≤ 3000) := ⟨HSm.out.lab _ hmem, HSm.out.mem hmem⟩
      obtain ⟨c1, c2, _⟩ := hal wr HB.out
      obtain ⟨w2, hw2⟩ : ∃ w2, w2 = wr.alloc (.cells #[.slice p1 s.1.length k1, .slice p2 s.2.length k2] 37) := ⟨_, rfl⟩
      have HW : Hid (wr.alloc (.cells #[.slice p1 s.1.length k1, .slice p2 s.2.length k2] 37) = w2) := hw2.symm
      have HB2 : Hid (Below w.heap.size w w2) := by show Below _ _ _; rw [hw2]; exact HB.out.alloc HB.out.size _
      have HK2 : Hid (Blk w2 wr.heap.size [.slice p1 s.1.length k1, .slice p2 s.2.length k2]) := by show Blk _ _ _; rw [hw2]; exact Blk.new wr _ _
      have HCk := Lib.hid (checkSeries_any (.slice p1 s.1.length k1, .slice p2 s.2.length k2) s w2 (hal w2 HB2.out).2.2 (HZ.out _ hmem) (by have := HL1.out.1; omega) (by have := HL1.out.2; omega))
      have HX := Lib.hid hx
      simp only at HCk
      clear hx hal hmem HC hw2
      go_wp2_with fail
      rw [HW.out]
      have q1 : w2.cell? ⟨wr.heap.size, 0, none⟩ = some (.slice p1 s.1.length k1) := by rw [HK2.out.cell]; rfl
      have q2 : w2.cell? ⟨wr.heap.size, 1, none⟩ = some (.slice p2 s.2.length k2) := by rw [HK2.out.cell]; rfl
      clear c1 c2
      try go_wp2_with fail
      refine HCk.out.mono ?_
      rintro e w3 ⟨rfl, hB3⟩
      have HB3 : Hid (Below w.heap.size w w3) := HB2.out.trans (hB3.mono HB2.out.size)
      clear hB3 HCk HB2 HK2 q1 q2 HW
      by_cases hc : serErr s = 0
      · rw [hc]
        have HNx : Hid (checkB b = nextB (prevB b i) s.1 (checkBFrom (prevB b (i + 1)) (b.drop (i + 1)))) := by
          have := HSt.out
          rw [if_neg (not_not_intro hc)] at this
          exact this
        clear hc HSt
        have HRd3 := Lib.hid (HRd.out.below HB3.out)
        have HLx : Hid (hs'.length = b.length ∧ b.length ≤ 300) := ⟨HLen.out, HSm.out.len⟩
        by_cases h0 : i = 0
        · subst h0
          have HE : Hid (checkB b = checkBFrom (prevB b (0 + 1)) (b.drop (0 + 1))) := HNx.out
          clear HNx
          have hR : Rd w3 2 (.slice (some ⟨blk, off, none⟩) b.length c) b.length (two Prod.fst Prod.snd hs') := by have := HRd3.out; rw [HLen.out] at this; exact this
          have HR3 := Lib.hid hR
          clear hR
          go_wp2_with (refine wpList_fromTo elemSer _ _ b.length 0 (0 + 1) _ HR3.out (by omega) (by omega) rfl _ _ _ rfl rfl rfl rfl ?_; intro p4 c4 h4)
          have HNp := Lib.hid (neighPart _ hs' b w3 0 (0 + 1) h4 (by omega) (by have := HLx.out; omega) HLen.out (fun i h s a c => (HSer.out i h s a c).below HB3.out) (by have := HLx.out; omega) (fun s hs => by have := HSm.out.lab s hs; omega))
          rw [seg_one HX.out] at HNp
          clear h4 HR3
          go_wp2_with fail
          refine HNp.out.mono ?_
          rintro e w4 ⟨rfl, hG⟩
          have HB4 : Hid (Below w.heap.size w w4) := HB3.out.trans (hG.below.mono HB3.out.size)
          clear hG HNp
          simp only [nbrL]
          go_wp2_with fail
          go_round
          case rel => exact ⟨0 + 1, by omega, by go_num, HE.out, HB4.out⟩
          case measure => simp [intOf]; omega
        · obtain ⟨k, rfl⟩ : ∃ k, i = k + 1 := ⟨i - 1, by omega⟩
          obtain ⟨q, hy⟩ : ∃ s, b[k]? = some s := ⟨_, List.getElem?_eq_getElem (by omega)⟩
          have hprev : prevB b (k + 1) = some q.1 := by rw [prevB, if_neg (by omega), Nat.add_sub_cancel, hy]; rfl
          have HE : Hid (checkB b = if cmpLabs q.1 s.1 = 0 then 19 else if 0 < cmpLabs q.1 s.1 then 16 else checkBFrom (prevB b (k + 1 + 1)) (b.drop (k + 1 + 1))) := by
            have := HNx.out
            rw [hprev] at this
            exact this
          have hR : Rd w3 2 (.slice (some ⟨blk, off, none⟩) b.length c) b.length (two Prod.fst Prod.snd hs') := by have := HRd3.out; rw [HLen.out] at this; exact this
          have HR3 := Lib.hid hR
          have HKl : Hid (k + 1 < b.length) := hlt
          have HY := Lib.hid hy
          have hki : ((k + 1 : Nat) : Int) - 1 = (k : Int) := by omega
          have hkm : (k : Int) ≤ 299 := by omega
          have hmax : max (k : Int) 0 = (k : Int) := by omega
          have hmax2 : ¬ (k : Int) < 0 := by omega
          have hki2 : ((k + 1 : Nat) : Int) + 1 = ((k + 2 : Nat) : Int) := by omega
          clear hR hy hprev HNx h0 hlt hi
          obtain ⟨I, hI⟩ : ∃ I, k + 1 = I := ⟨_, rfl⟩
          have HI := Lib.hid hI
          have hki3 : (I : Int) - 1 = (k : Int) := by omega
          rw [hI] at him hlt' ⊢
          clear hki hki2 hI
          go_wp2_with (refine wpList_fromTo elemSer _ _ b.length k (I + 1) _ HR3.out (by have := HI.out; omega) (by have := HI.out; have := HKl.out; omega) rfl _ _ _ rfl rfl rfl rfl ?_; intro p4 c4 h4)
          have HNp := Lib.hid (neighPart _ hs' b w3 k (I + 1) h4 (by have := HI.out; omega) (by have := HI.out; have := HKl.out; have := HLx.out; omega) HLen.out (fun i h s a c => (HSer.out i h s a c).below HB3.out) (by have := HLx.out; omega) (fun s hs => by have := HSm.out.lab s hs; omega))
          have hsg : (b.take (I + 1)).drop k = [q, s] := by rw [← HI.out]; exact seg_two HY.out HX.out
          have hnb : nbrL (fun x y : Ser => cmpLabs x.1 y.1) 19 [q, s] = if cmpLabs s.1 q.1 = 0 then 19 else if cmpLabs s.1 q.1 < 0 then 16 else 0 := rfl
          have hfl := cmpLabs_ok.flip q.1 s.1
          have hdom := cmpLabs_ok.dom q.1 s.1
          rw [hsg, hnb, hfl] at HNp
          clear h4 HR3 hsg hnb hfl hmax hmax2 hki3
          generalize cmpLabs q.1 s.1 = cv at *
          rcases hdom with rfl | rfl | rfl
          · have HE2 : Hid (checkB b = checkBFrom (prevB b (I + 1)) (b.drop (I + 1))) := by rw [← HI.out]; exact HE.out
            have HNp2 : Hid (Calls Tryz.prog 30 #[.slice p4 (I + 1 - k) c4, .func (.func 31) #[] #[], .int .i64 19] w3 fun e w' => e = .returned (.int .i64 0) ∧ Grw w3 w') := HNp.out
            clear HE HNp
            go_wp2_with fail
            refine HNp2.out.mono ?_
            rintro e w4 ⟨rfl, hG⟩
            have HB4 : Hid (Below w.heap.size w w4) := HB3.out.trans (hG.below.mono HB3.out.size)
            clear hG HNp2
            go_wp2_with fail
            go_round
            case rel => exact ⟨I + 1, by have := HI.out; have := HKl.out; omega, by go_num, HE2.out, HB4.out⟩
            case measure => simp [intOf]; have := HI.out; have := HKl.out; omega
          · have HE2 : Hid (checkB b = 19) := HE.out
            have HNp2 : Hid (Calls Tryz.prog 30 #[.slice p4 (I + 1 - k) c4, .func (.func 31) #[] #[], .int .i64 19] w3 fun e w' => e = .returned (.int .i64 19) ∧ Grw w3 w') := HNp.out
            clear HE HNp
            go_wp2_with fail
            refine HNp2.out.mono ?_
            rintro e w4 ⟨rfl, hG⟩
            have HB4 : Hid (Below w.heap.size w w4) := HB3.out.trans (hG.below.mono HB3.out.size)
            clear hG HNp2
            go_wp2_with fail
            go_ret
            exact ⟨by rw [HE2.out]; rfl, HB4.out⟩
          · have HE2 : Hid (checkB b = 16) := HE.out
            have HNp2 : Hid (Calls Tryz.prog 30 #[.slice p4 (I + 1 - k) c4, .func (.func 31) #[] #[], .int .i64 19] w3 fun e w' => e = .returned (.int .i64 16) ∧ Grw w3 w') := HNp.out
            clear HE HNp
            go_wp2_with fail
            refine HNp2.out.mono ?_
            rintro e w4 ⟨rfl, hG⟩
            have HB4 : Hid (Below w.heap.size w w4) := HB3.out.trans (hG.below.mono HB3.out.size)
            clear hG HNp2
            go_wp2_with fail
            go_ret
            exact ⟨by rw [HE2.out]; rfl, HB4.out⟩
      · have hcb : ((serErr s : Int) == 0) = false := by rw [beq_eq_false_iff_ne]; omega
        have HE : Hid (checkB b = serErr s) := by have := HSt.out; rw [if_pos hc] at this; exact this
        clear hc HSt
        generalize serErr s = ce at *
        go_wp2_with fail
        go_ret
        exact ⟨by rw [HE.out]; rfl, HB3.out⟩
    · have hlt' : ¬ (i : Int) < (b.length : Int) := by omega
      have HE : Hid (checkB b = 0) := by
        show _ = _
        rw [HC.out, List.drop_of_length_le (by omega)]
        cases prevB b i <;> rfl
      go_wp2_with fail
      go_ret
      exact ⟨by rw [HE.out]; rfl, HB.out⟩
end Go.Proofs.YtkodhbkmpnokjaaGreat

end
