/- ChunkT, CkA, CkB, CkC, CkD, CkE, CkF, in one text. -/
import Derived.Test.YtgpmoimmpbkgfaaGreatDoorMrg3
import Derived.Test.YtgpmoimmpbkgfaaGreatDoorMrg6
import Derived.Test.YtgpmoimmpbkgfaaGreatDoorMrg7
import Derived.Test.YtgpmoimmpbkgfaaGreatDoorMrg8
import Derived.Test.YtgpmoimmpbkgfaaGreatDoorMrg9
import Derived.Test.YtgpmoimmpbkgfaaGreatDoorMrg13
import Derived.Test.YtgpmoimmpbkgfaaGreatDoorMrg5
import Derived.RegionTactic
import Derived.BigRegion
import Derived.Deep.OwnRows
import Derived.Deep.CutRange

section
/- Layer 9: the program's encodings of times and values, each by its tag. -/
set_option linter.unusedVariables false
namespace Go.Proofs.YtgpmoimmpbkgfaaGreatDoor
open Go Go.RowKit

/-- Both tables. -/
def T9 (w : World) : Prop := TabF w ∧ TabZ w
/-- Blocks from here on are neither of the two. -/
def G9 : Nat := max 0 1 + 1
theorem g9_forms {k : Nat} (h : G9 ≤ k) : 0 + 1 ≤ k := by unfold G9 at h; omega
theorem g9_zeros {k : Nat} (h : G9 ≤ k) : 1 + 1 ≤ k := by unfold G9 at h; omega
theorem T9.low {w : World} (h : T9 w) : G9 ≤ w.heap.size := by have h1 := h.1.lt; have h2 := h.2.lt; unfold G9; omega
theorem T9.keeps {S : Nat → Prop} {w w' : World} (h : T9 w) (hm : Mods S w w') (hk : ∀ k, k < G9 → ¬ S k) : T9 w' :=
  ⟨h.1.block (hm.block _ h.1.lt (hk _ (by unfold G9; omega))), h.2.block (hm.block _ h.2.lt (hk _ (by unfold G9; omega)))⟩
theorem T9.below {w w' : World} (h : T9 w) (hb : Below w.heap.size w w') : T9 w' := h.keeps (Mods.of_below hb (fun _ => False)) (fun _ _ h => h)
theorem T9.bits {w w' : World} {p : Nat} {v v' : Value} (h : T9 w) (hu : Upd w w' p v v') (hp : G9 ≤ p) (hv : ∀ k, v.ownBlock = some k → G9 ≤ k) : T9 w' :=
  h.keeps hu.mods (fun k hk e => by
    rcases e with e | e
    · omega
    · have := hv k e; omega)
theorem T9.rp {w w' : World} {p : Nat} {v : Value} {bs : List Nat} {r : List Bool} (h : T9 w) (hr : RP p v bs r w w') (hp : G9 ≤ p) : T9 w' := h.keeps hr.2 (fun k hk e => by omega)

theorem rp_of_getq {p : Nat} {v : Value} {bs : List Nat} {bits r : List Bool} {w w' : World} (h : RIs p v bs bits w) (hs : Suf r bits) (hr : RBitsPost p v (8 * bs.length - r.length) bs w w') : RP p v bs r w w' := by
  have hl := h.len
  have hk := hs.len
  refine ⟨⟨hr.rd, ?_⟩, hr.mods⟩
  have e := hs.drop
  rw [h.2, List.drop_drop, List.length_drop, unpack_length] at e
  rw [show 8 * bs.length - r.length = 8 * bs.length - bits.length + (8 * bs.length - (8 * bs.length - bits.length) - r.length) by omega]
  exact e

theorem put_times (p : Nat) (v lv : Value) (bits : List Bool) (l : List Int) (w : World) (hT : T9 w) (hW : WriterIn w p v bits) (hp : G9 ≤ p) (hv : ∀ k, v.ownBlock = some k → G9 ≤ k) (hl : Rd w 1 lv l.length (i64s l)) (ok : ∀ t ∈ l, in64 t)
    (hap : l ≠ [] → ∀ k, lv.ownBlock = some k → k ≠ p ∧ v.ownBlock ≠ some k) (hz : bits.length + 68 * l.length ≤ 70368744177000) :
    Calls Tryz.prog 29 #[.pointer (some ⟨p, 0, none⟩), lv] w fun e w' => e = .returned (.int .i64 0) ∧ BitsPost p v (bits ++ encT l) w w' := by
  match l, hl, hap, hz with
  | [], hl, _, _ =>
    rw [show encT [] = [] from rfl, List.append_nil]
    exact times_put_nil p v lv bits w hW hl
  | t :: tl, hl, hap, hz => exact times_put_cons p v lv bits (t :: tl) t tl rfl w hT.1 hW (g9_forms hp) (fun k hk => g9_forms (hv k hk)) hl (hap (by simp)) hz
theorem get_times (p : Nat) (v : Value) (n : Nat) (bs : List Nat) (bits : List Bool) (w : World) (hT : T9 w) (h : RIs p v bs bits w) (hp : G9 ≤ p) (hn : n ≤ 1000000) :
    Calls Tryz.prog 36 #[.pointer (some ⟨p, 0, none⟩), .int .i64 (n : Int)] w fun e w' => (∃ r, e = .returned (.tuple #[r, .int .i64 ((decT n bits).e : Int)]) ∧ Rd w' 1 r (decT n bits).x.length (i64s (decT n bits).x) ∧ (∀ k, r.ownBlock = some k → w.heap.size ≤ k)) ∧ RP p v bs (decT n bits).r w w' :=
  (times_get p v n bs bits w h hT.1 (by have := g9_forms hp; omega) hn).mono fun e w' q => ⟨q.res, rp_of_getq h (suf_decT n bits) q.rd⟩

/-- What a Put, a Get, a Size of values with the tag does. -/
def PutsC (tag : Nat) (f : FuncId) : Prop := ∀ (p : Nat) (v lv : Value) (bits : List Bool) (l : List Nat) (w : World), T9 w → WriterIn w p v bits → G9 ≤ p → (∀ k, v.ownBlock = some k → G9 ≤ k) → Rd w 1 lv l.length (u64s l) → (∀ t ∈ l, in64u t) →
  (l ≠ [] → ∀ k, lv.ownBlock = some k → k ≠ p ∧ v.ownBlock ≠ some k) → l.length ≤ 1000000 → bits.length + 8199 + 78 * l.length ≤ 70368744177000 →
  Calls Tryz.prog f #[.pointer (some ⟨p, 0, none⟩), lv] w fun e w' => e = .returned (.int .i64 (if okC tag l then 0 else 7)) ∧ BitsPost p v (bits ++ bitsC tag l) w w'
def GetsC (tag : Nat) (f : FuncId) : Prop := ∀ (p : Nat) (v : Value) (n : Nat) (bs : List Nat) (bits : List Bool) (w : World), T9 w → RIs p v bs bits w → G9 ≤ p → n ≤ 1000000 →
  Calls Tryz.prog f #[.pointer (some ⟨p, 0, none⟩), .int .i64 (n : Int)] w fun e w' => (∃ r, e = .returned (.tuple #[r, .int .i64 ((valsC tag n bits).e : Int)]) ∧ Rd w' 1 r (valsC tag n bits).x.length (u64s (valsC tag n bits).x) ∧ (∀ k, r.ownBlock = some k → w.heap.size ≤ k)) ∧ RP p v bs (valsC tag n bits).r w w'
def SizesC (tag : Nat) (f : FuncId) : Prop := ∀ (lv : Value) (l : List Nat) (w : World), T9 w → Rd w 1 lv l.length (u64s l) → (∀ t ∈ l, in64u t) → l.length ≤ 1000000 →
  Calls Tryz.prog f #[lv] w fun e w' => e = .returned (.int .i64 (sizeC tag l)) ∧ Below w.heap.size w w'

theorem puts1 : PutsC 1 49 := fun p v lv bits l w hT hW hp hv hl ok hap hn hz => by
  show Calls _ _ _ _ fun e w' => e = .returned (.int .i64 0) ∧ BitsPost p v (bits ++ encV l) w w'
  match l, hl, ok, hap, hz with
  | [], hl, _, _, _ =>
    rw [show encV [] = [] from rfl, List.append_nil]
    exact xorval_put_nil p v lv bits w hW hl
  | t :: tl, hl, ok, hap, hz => exact xorval_put_cons p v lv bits (t :: tl) t tl rfl w hT.2 hW (by have := g9_zeros hp; omega) (fun e => by have := g9_zeros (hv _ e); omega) hl ok (hap (by simp)) (by omega)
theorem puts2 : PutsC 2 52 := fun p v lv bits l w hT hW hp hv hl ok hap hn hz => runval_put p v lv bits l w hW hl ok hap (by omega)
theorem puts3 : PutsC 3 55 := fun p v lv bits l w hT hW hp hv hl ok hap hn hz => dictval_put p v lv bits l w hW hl ok hap (by omega) (by omega)
theorem gets1 : GetsC 1 50 := fun p v n bs bits w hT h hp hn => (xorval_get p v n bs bits w h hT.2 (by have := g9_zeros hp; omega) hn).mono fun e w' q => ⟨q.res, rp_of_getq h (suf_decV n bits) q.rd⟩
theorem gets2 : GetsC 2 53 := fun p v n bs bits w hT h hp hn => (runval_get p v n bs bits w h hn).mono fun e w' q => ⟨q.res, rp_of_getq h (suf_decR n bits) q.rd⟩
theorem gets3 : GetsC 3 56 := fun p v n bs bits w hT h hp hn => (dictval_get p v n bs bits w h hn).mono fun e w' q => ⟨q.res, rp_of_getq h (suf_decD n bits) q.rd⟩
theorem sizes1 : SizesC 1 48 := fun lv l w hT hl ok hn => by
  show Calls _ _ _ _ fun e w' => e = .returned (.int .i64 ((encV l).length : Int)) ∧ Below w.heap.size w w'
  match l, hl, ok, hn with
  | [], hl, _, _ => exact xorval_size_nil w lv hl
  | t :: tl, hl, ok, hn => exact xorval_size_cons lv (t :: tl) t tl rfl w hT.2 hl ok (by omega)
theorem sizes2 : SizesC 2 51 := fun lv l w hT hl ok hn => runval_size lv l w hl ok (by omega)
theorem sizes3 : SizesC 3 54 := fun lv l w hT hl ok hn => (dictval_size lv l w hl ok (by omega)).mono fun e w' q => by
  refine ⟨?_, q.2⟩
  rw [q.1, sizeD, sizeC]
  show _ = Ending.returned (.int .i64 (if okD l = true then ((putD l).length : Int) else -1))
  split
  · next h => rw [putD_ok h]
  · rfl
end Go.Proofs.YtgpmoimmpbkgfaaGreatDoor

end

section
/- Layer 9 (practice): the table of encodings, made in a function; Sizes. -/
set_option linter.unusedVariables false
set_option maxRecDepth 100000
namespace Go.Proofs.YtgpmoimmpbkgfaaGreatDoor
open Go Go.RowKit

/-- A function as a value. -/
def fnV (f : FuncId) : Value := .func (.func f) #[] #[]
def encCells : List Value := [.nilFunc, .nilFunc, .nilFunc, fnV 48, fnV 49, fnV 50, fnV 51, fnV 52, fnV 53, fnV 54, fnV 55, fnV 56]
theorem strEnc : Str Tryz.prog 58 12 (List.replicate 12 .nilFunc) := Str.mk' Tryz.underlying58 rfl (by kernel_rfl) rfl
theorem strI3 : Str Tryz.prog 25 3 [.int .i64 0, .int .i64 0, .int .i64 0] := Str.mk' Tryz.underlying25 rfl (by kernel_rfl) rfl

set_option maxHeartbeats 2000000 in
theorem encodings_any (w : World) : Calls Tryz.prog 25 #[] w fun e w' => e = .returned (.agg encCells.toArray) ∧ Below w.heap.size w w' := by
  go_enter Tryz.func25, Tryz.ntmps25
  go_wp2_with (refine wpList_allocS strEnc rfl rfl ?_)
  intro w1 hK hB hs
  have HK := Lib.hid hK; have HB := Lib.hid hB; have HS := Lib.hid hs
  clear hK hB hs
  go_wp2_with (refine wpList_storeS strEnc rfl _ _ rfl w.heap.size rfl encCells _ rfl HK.out rfl rfl (by simp [encCells, fnV, Value.oneCell']) ?_)
  intro w2 hK hM hs
  have HK2 := Lib.hid hK
  have HB2 : Hid (Below w.heap.size w w2) := HB.out.trans (hM.below (by have := HS.out; omega) (fun k hk e => by omega))
  clear hK hM hs
  go_wp2_with fail
  refine bodyPost_ret (resultsS (p := 0) strEnc (by kernel_rfl) _ w.heap.size rfl encCells HK2.out rfl) rfl ⟨rfl, HB2.out⟩

/-- Which function measures the values in an encoding. -/
def szF : Nat → FuncId
  | 0 => 48
  | 1 => 51
  | _ => 54
theorem szF_call (i : Nat) : ∀ (args : Array Value) (w : World), (callFunc (szF i) args).run Tryz.prog w = .ok (.enter (szF i) args) w := by
  intro args w
  match i with
  | 0 => rfl
  | 1 => rfl
  | _ + 2 => rfl
theorem szF_sizes (i : Nat) (h : i < 3) : SizesC (i + 1) (szF i) := by
  match i, h with
  | 0, _ => exact sizes1
  | 1, _ => exact sizes2
  | 2, _ => exact sizes3
def pF : Nat → FuncId
  | 0 => 49
  | 1 => 52
  | _ => 55
def gF : Nat → FuncId
  | 0 => 50
  | 1 => 53
  | _ => 56
theorem enc_at (i : Nat) (h : i < 3) : encCells[3 + i * 3]? = some (fnV (szF i)) ∧ encCells[3 + i * 3 + 1]? = some (fnV (pF i)) ∧ encCells[3 + i * 3 + 2]? = some (fnV (gF i)) := by
  match i, h with
  | 0, _ => exact ⟨rfl, rfl, rfl⟩
  | 1, _ => exact ⟨rfl, rfl, rfl⟩
  | 2, _ => exact ⟨rfl, rfl, rfl⟩
theorem strE : Str Tryz.prog 57 3 [.nilFunc, .nilFunc, .nilFunc] := Str.mk' Tryz.underlying57 rfl (by kernel_rfl) rfl

/-- The sizes that have been found. -/
def szs (l : List Nat) (i : Nat) : List Value := [.int .i64 (if 0 < i then sizeC 1 l else 0), .int .i64 (if 1 < i then sizeC 2 l else 0), .int .i64 (if 2 < i then sizeC 3 l else 0)]
theorem szs_set (l : List Nat) (i : Nat) (h : i < 3) : (szs l i).set i (.int .i64 (sizeC (i + 1) l)) = szs l (i + 1) := by
  match i, h with
  | 0, _ => rfl
  | 1, _ => rfl
  | 2, _ => rfl

structure SzIn (w wr : World) (l : List Nat) (g b i : Nat) : Prop where
  bel : Below w.heap.size w wr
  own : Blk wr g (szs l i)
  enc : Blk wr b encCells
  res : Blk wr w.heap.size [.int .i64 0, .int .i64 0, .int .i64 0]

set_option maxHeartbeats 8000000 in
theorem chunk_sizes (lv : Value) (l : List Nat) (w : World) (hT : T9 w) (hl : Rd w 1 lv l.length (u64s l)) (ok : ∀ t ∈ l, in64u t) (hn : l.length ≤ 1000000) :
    Calls Tryz.prog 11 #[lv] w fun e w' => e = .returned (.agg #[.int .i64 (sizeC 1 l), .int .i64 (sizeC 2 l), .int .i64 (sizeC 3 l)]) ∧ Below w.heap.size w w' := by
  have HT := Lib.hid hT; have HL := Lib.hid hl; have HOk := Lib.hid ok; have HNn := Lib.hid hn
  obtain ⟨q, c, hv⟩ := hl.shape
  subst hv
  clear hT hl ok hn
  go_enter Tryz.func11, Tryz.ntmps11
  go_wp2_with (refine wpList_allocS strI3 rfl rfl ?_)
  intro w1 hK hB hs
  have HB1 := Lib.hid hB
  have HR1 := Lib.hid hK
  have HS1 : Hid (w.heap.size < w1.heap.size) := by show _ < _; omega
  clear hK hB hs
  go_wp2_with (refine wpList_allocS strI3 rfl rfl ?_)
  intro w2 hK hB hs
  have HK2 : Hid (Blk w2 w1.heap.size (szs l 0)) := hK
  have HB2 := Lib.hid (HB1.out.trans (hB.mono HB1.out.size))
  have HR2 : Hid (Blk w2 w.heap.size [.int .i64 0, .int .i64 0, .int .i64 0]) := HR1.out.of_same (hB.block _ HR1.out.lt)
  have HS2 : Hid (w1.heap.size < w2.heap.size) := by show _ < _; omega
  clear hK hB hs HB1 HR1
  generalize w1.heap.size = g at *
  go_wp2_with fail
  refine (encodings_any w2).mono ?_
  rintro e w3 ⟨rfl, hB⟩
  have HK3 : Hid (Blk w3 g (szs l 0)) := HK2.out.of_same (hB.block _ HK2.out.lt)
  have HR3 : Hid (Blk w3 w.heap.size [.int .i64 0, .int .i64 0, .int .i64 0]) := HR2.out.of_same (hB.block _ HR2.out.lt)
  have HB3 := Lib.hid (HB2.out.trans (hB.mono HB2.out.size))
  have HS3 : Hid (g < w3.heap.size) := by have := HS2.out; have := hB.size; show _ < _; omega
  clear hB HK2 HR2
  go_wp2_with (refine wpList_allocS strEnc rfl rfl ?_)
  intro w4 hK hB hs
  have HE4 := Lib.hid hK
  have HK4 : Hid (Blk w4 g (szs l 0)) := HK3.out.of_same (hB.block _ HK3.out.lt)
  have HR4 : Hid (Blk w4 w.heap.size [.int .i64 0, .int .i64 0, .int .i64 0]) := HR3.out.of_same (hB.block _ HR3.out.lt)
  have HB4 := Lib.hid (HB3.out.trans (hB.mono HB3.out.size))
  clear hK hB hs HB3 HK3 HR3 HB2
  generalize w3.heap.size = b at *
  have HN : Hid (w.heap.size < g ∧ g < b) := ⟨HS1.out, HS3.out⟩
  clear HS1 HS2 HS3
  go_wp2_with (refine wpList_storeS strEnc rfl _ _ rfl b rfl encCells _ rfl HE4.out rfl rfl (by simp [encCells, fnV, Value.oneCell']) ?_)
  intro w5 hK hM hs
  have HI5 : Hid (SzIn w w5 l g b 0) := ⟨HB4.out.trans (hM.below (HB4.out.size) (fun k hk e => by have := HN.out; omega)), hM.blk HK4.out (fun e => by have := HN.out; omega), hK, hM.blk HR4.out (fun e => by have := HN.out; omega)⟩
  clear hK hM hs HE4 HK4 HB4 HR4
  go_wp2_with fail
  go_loopw [10] (fun iv wr => ∃ (i : Nat), i ≤ 3 ∧ iv = .int .i64 (i : Int) ∧ Hid (SzIn w wr l g b i)) (fun iv _ => 3 - (intOf iv).toNat)
  case atStart => exact ⟨0, Nat.zero_le _, rfl, HI5.out⟩
  case round =>
    obtain ⟨i, hi, rfl, HI⟩ := hrel
    by_cases hlt : i < 3
    · have hlt' : (i : Int) < 3 := by omega
      obtain ⟨e0, e1, e2⟩ := enc_at i hlt
      have c0 : wr.cell? ⟨b, 3 + i * 3, none⟩ = some (.func (.func (szF i)) #[] #[]) := (HI.out.enc.cell _).trans e0
      have c1 : wr.cell? ⟨b, 3 + i * 3 + 1, none⟩ = some (.func (.func (pF i)) #[] #[]) := (HI.out.enc.cell _).trans e1
      have c2 : wr.cell? ⟨b, 3 + i * 3 + 2, none⟩ = some (.func (.func (gF i)) #[] #[]) := (HI.out.enc.cell _).trans e2
      have HSz := Lib.hid (szF_sizes i hlt)
      have hcf := szF_call i
      have HSt := Lib.hid (szs_set l i hlt)
      clear e0 e1 e2
      generalize szF i = sf at *
      generalize pF i = pf at *
      generalize gF i = gf at *
      go_wp2_with (refine wpList_allocS strE rfl rfl ?_)
      intro w6 hK hB hs
      have hI6 : SzIn w w6 l g b i := ⟨HI.out.bel.trans (hB.mono HI.out.bel.size), HI.out.own.of_same (hB.block _ HI.out.own.lt), HI.out.enc.of_same (hB.block _ HI.out.enc.lt), HI.out.res.of_same (hB.block _ HI.out.res.lt)⟩
      have HK6 := Lib.hid hK
      have HI6 := Lib.hid hI6
      have HN6 : Hid (b < wr.heap.size) := HI.out.enc.lt
      clear hK hB hs hI6 c0 c1 c2 HI
      generalize wr.heap.size = h6 at *
      go_wp2_with (refine wpList_storeS strE rfl _ _ rfl h6 rfl [.func (.func sf) #[] #[], .func (.func pf) #[] #[], .func (.func gf) #[] #[]] _ rfl HK6.out rfl rfl (by simp [Value.oneCell']) ?_)
      intro w7 hK hM hs
      have HI7 : Hid (SzIn w w7 l g b i) := ⟨HI6.out.bel.trans (hM.below HI6.out.bel.size (fun k hk e => by have := HN6.out; have := HN.out; omega)), hM.blk HI6.out.own (fun e => by have := HN6.out; have := HN.out; omega), hM.blk HI6.out.enc (fun e => by have := HN6.out; omega), hM.blk HI6.out.res (fun e => by have := HN6.out; have := HN.out; omega)⟩
      have c0 := hK.three.1.1
      clear hK hM hs HK6 HI6
      go_wp2_with fail
      refine (HSz.out _ l w7 (HT.out.below HI7.out.bel) (HL.out.below HI7.out.bel) HOk.out HNn.out).mono ?_
      rintro e w8 ⟨rfl, hB⟩
      have hI8 : SzIn w w8 l g b i := ⟨HI7.out.bel.trans (hB.mono HI7.out.bel.size), HI7.out.own.of_same (hB.block _ HI7.out.own.lt), HI7.out.enc.of_same (hB.block _ HI7.out.enc.lt), HI7.out.res.of_same (hB.block _ HI7.out.res.lt)⟩
      have HI8 := Lib.hid hI8
      clear hB hI8 HI7 c0 HSz hcf
      have cg : ∃ v, w8.cell? ⟨g, i, none⟩ = some v := by
        rw [HI8.out.own.cell]
        exact ⟨_, List.getElem?_eq_getElem (by simpa [szs] using hlt)⟩
      obtain ⟨vg, cg⟩ := cg
      have fg := HI8.out.own.free i
      have HI9 : Hid (SzIn w (w8.setCell ⟨g, i, none⟩ (.int .i64 (sizeC (i + 1) l))) l g b (i + 1)) := by
        have hn := HN.out
        refine ⟨HI8.out.bel.trans ((Mods.set (fun k => k = g) w8 ⟨g, i, none⟩ _ (fun _ => rfl)).below HI8.out.bel.size (fun k hk e => by omega)), ?_, HI8.out.enc.set_other (by show b ≠ g; omega) _, HI8.out.res.set_other (by show w.heap.size ≠ g; omega) _⟩
        have := HI8.out.own.set i (.int .i64 (sizeC (i + 1) l))
        rwa [HSt.out] at this
      clear HI8 HSt
      generalize sizeC (i + 1) l = S at *
      go_wp2_with fail
      go_round
      case rel => exact ⟨i + 1, by omega, by go_num, HI9.out⟩
      case measure => simp [intOf]; omega
    · have hlt' : ¬ (i : Int) < 3 := by omega
      obtain rfl : i = 3 := by omega
      have h3 : Blk wr g [.int .i64 (sizeC 1 l), .int .i64 (sizeC 2 l), .int .i64 (sizeC 3 l)] := HI.out.own
      obtain ⟨⟨c0, c1, c2⟩, _⟩ := h3.three
      clear h3
      go_wp2_with (refine wpList_storeS strI3 rfl _ _ rfl w.heap.size rfl [.int .i64 (sizeC 1 l), .int .i64 (sizeC 2 l), .int .i64 (sizeC 3 l)] _ rfl HI.out.res rfl rfl (by simp [Value.oneCell']) ?_)
      intro w7 hK hM hs
      have HK := Lib.hid hK
      have HB : Hid (Below w.heap.size w w7) := HI.out.bel.trans (hM.below HI.out.bel.size (fun k hk e => by omega))
      clear hK hM hs
      go_wp2_with fail
      refine bodyPost_ret (resultsS (p := 2) strI3 (by kernel_rfl) _ w.heap.size rfl _ HK.out rfl) rfl ⟨rfl, HB.out⟩
end Go.Proofs.YtgpmoimmpbkgfaaGreatDoor

end

section
/- Layer 9: the program's Choose. -/
set_option linter.unusedVariables false
set_option maxRecDepth 100000
namespace Go.Proofs.YtgpmoimmpbkgfaaGreatDoor
open Go Go.RowKit

theorem arrI3 : Arr Tryz.prog 25 3 3 (.int .i64 0) := Arr.mk' Tryz.underlying25 rfl (by kernel_rfl) Tryz.underlying3 rfl
/-- The best of the first ones. -/
def bst (l : List Nat) : Nat → Nat
  | 0 => 0
  | i + 1 => if 0 ≤ sizeC (i + 1) l ∧ sizeC (i + 1) l < sizeC (bst l i + 1) l then i else bst l i
theorem bst_le (l : List Nat) (i : Nat) : bst l i ≤ i := by
  induction i with
  | zero => exact Nat.le_refl _
  | succ i ih =>
    rw [bst]
    split <;> omega
theorem bst_lt (l : List Nat) (i : Nat) (h : i ≤ 3) : bst l i < 3 := by
  match i, h with
  | 0, _ => exact Nat.zero_lt_succ _
  | i + 1, h =>
    rw [bst]
    have := bst_le l i
    split <;> omega
theorem sizeC_two (l : List Nat) : 0 ≤ sizeC 2 l := by
  rw [sizeC, show okC 2 l = true from rfl, if_pos rfl]
  omega
theorem bst_choose (l : List Nat) : 1 + bst l 3 = chooseC l := by
  have h2 := sizeC_two l
  have b1 : bst l 1 = 0 := by rw [bst, bst]; split <;> rfl
  have b2 : bst l 2 = if sizeC 2 l < sizeC 1 l then 1 else 0 := by
    rw [bst, b1]
    by_cases h : sizeC 2 l < sizeC 1 l
    · rw [if_pos ⟨h2, h⟩, if_pos h]
    · rw [if_neg (fun e => h e.2), if_neg h]
  rw [bst, chooseC, b2]
  by_cases h : sizeC 2 l < sizeC 1 l
  · rw [if_pos h, if_pos h]
    split <;> rfl
  · rw [if_neg h, if_neg h]
    split <;> rfl
/-- The sizes as cells. -/
def szv (l : List Nat) : List Value := [.int .i64 (sizeC 1 l), .int .i64 (sizeC 2 l), .int .i64 (sizeC 3 l)]
theorem szv_get (l : List Nat) (i : Nat) (h : i < 3) : (szv l)[i]? = some (.int .i64 (sizeC (i + 1) l)) := by
  match i, h with
  | 0, _ => rfl
  | 1, _ => rfl
  | 2, _ => rfl
structure ChIn (w wr : World) (l : List Nat) (g : Nat) : Prop where
  bel : Below w.heap.size w wr
  own : Blk wr g (szv l)

set_option maxHeartbeats 8000000 in
theorem chunk_choose (lv : Value) (l : List Nat) (w : World) (hT : T9 w) (hl : Rd w 1 lv l.length (u64s l)) (ok : ∀ t ∈ l, in64u t) (hn : l.length ≤ 1000000) :
    Calls Tryz.prog 12 #[lv] w fun e w' => e = .returned (.int .i64 (chooseC l : Int)) ∧ Below w.heap.size w w' := by
  have HSz := Lib.hid (chunk_sizes lv l w hT hl ok hn)
  rw [← bst_choose]
  clear hT hl ok hn
  go_enter Tryz.func12, Tryz.ntmps12
  go_wp2_with fail
  refine HSz.out.mono ?_
  rintro e w1 ⟨rfl, hB⟩
  have HB1 := Lib.hid hB
  clear hB HSz
  go_wp2_with (refine wpList_allocS strI3 rfl rfl ?_)
  intro w2 hK hB hs
  have HK2 := Lib.hid hK
  have HB2 := Lib.hid (HB1.out.trans (hB.mono HB1.out.size))
  have HG : Hid (w.heap.size ≤ w1.heap.size) := HB1.out.size
  clear hK hB hs HB1
  generalize w1.heap.size = g at *
  go_wp2_with (refine wpList_storeS strI3 rfl _ _ rfl g rfl (szv l) _ rfl HK2.out rfl rfl (by simp [szv, Value.oneCell']) ?_)
  intro w3 hK hM hs
  have HI3 : Hid (ChIn w w3 l g) := ⟨HB2.out.trans (hM.below HB2.out.size (fun k hk e => by have := HG.out; omega)), hK⟩
  obtain ⟨⟨c0, c1, c2⟩, _⟩ := hK.three
  clear hK hM hs HK2 HB2
  go_wp2_with fail
  clear c0 c1 c2
  go_loopw [4, 10] (fun bv iv wr => ∃ (i : Nat), i ≤ 3 ∧ iv = .int .i64 (i : Int) ∧ bv = .int .i64 (bst l i : Int) ∧ Hid (ChIn w wr l g)) (fun _ iv _ => 3 - (intOf iv).toNat)
  case atStart => exact ⟨0, Nat.zero_le _, rfl, rfl, HI3.out⟩
  case round =>
    obtain ⟨i, hi, rfl, rfl, HI⟩ := hrel
    by_cases hlt : i < 3
    · have hlt' : (i : Int) < 3 := by omega
      have HV := Lib.hid (szv_get l i hlt)
      have hbl := bst_lt l i hi
      have cb : wr.cell? ⟨g, bst l i, none⟩ = some (.int .i64 (sizeC (bst l i + 1) l)) := (HI.out.own.cell _).trans (szv_get l _ hbl)
      have HSt : Hid (bst l (i + 1) = if 0 ≤ sizeC (i + 1) l ∧ sizeC (i + 1) l < sizeC (bst l i + 1) l then i else bst l i) := rfl
      generalize bst l i = B at *
      generalize sizeC (i + 1) l = s at *
      generalize sizeC (B + 1) l = t at *
      by_cases h0 : 0 ≤ s
      · by_cases h1 : s < t
        · go_wp2_with (refine wpList_indexA arrI3 rfl _ _ rfl (szv l) rfl i rfl hlt _ HV.out ?_)
          go_round
          case rel => exact ⟨i + 1, by omega, by go_num, by rw [HSt.out, if_pos ⟨h0, h1⟩], HI.out⟩
          case measure => simp [intOf]; omega
        · have h2 : t ≤ s := by omega
          go_wp2_with (refine wpList_indexA arrI3 rfl _ _ rfl (szv l) rfl i rfl hlt _ HV.out ?_)
          go_round
          case rel => exact ⟨i + 1, by omega, by go_num, by rw [HSt.out, if_neg (fun e => h1 e.2)], HI.out⟩
          case measure => simp [intOf]; omega
      · have HS2 : Hid (bst l (i + 1) = B) := by show _ = _; rw [HSt.out, if_neg (fun e => h0 e.1)]
        go_wp2_with (refine wpList_indexA arrI3 rfl _ _ rfl (szv l) rfl i rfl hlt _ HV.out ?_)
        go_round
        case rel => exact ⟨i + 1, by omega, by go_num, by rw [HS2.out], HI.out⟩
        case measure => simp [intOf]; omega
    · have hlt' : ¬ (i : Int) < 3 := by omega
      obtain rfl : i = 3 := by omega
      have hbl := bst_lt l 3 (Nat.le_refl _)
      go_wp2_with fail
      go_ret
      refine ⟨by go_num, HI.out.bel⟩
end Go.Proofs.YtgpmoimmpbkgfaaGreatDoor

end

section
/- Layer 9: the program's separate. -/
set_option linter.unusedVariables false
set_option maxRecDepth 100000
namespace Go.Proofs.YtgpmoimmpbkgfaaGreatDoor
open Go Go.RowKit

/-- A whole block, read as a slice. -/
theorem Rd.of_blk {w : World} {b n : Nat} {vs : List Value} {sz : Nat} (h : Blk w b vs) (hl : vs.length = n * sz) (hn : n ≤ maxLen) : Rd w sz (.slice (some ⟨b, 0, none⟩) n n) n vs := by
  refine ⟨_, _, rfl, hl, Nat.le_refl _, hn, (fun e => by cases e), fun ad e j u hu => ?_⟩
  cases e
  have e : (⟨b, 0, none⟩ : Addr).add j = ⟨b, j, none⟩ := by unfold Addr.add; split <;> simp_all
  rw [e, h.cell]
  exact hu
/-- The first i of a list, then zeros. -/
def fillW {α : Type} (z : α) (A : List α) (i : Nat) : List α := A.take i ++ List.replicate (A.length - i) z
theorem fillW_zero {α : Type} (z : α) (A : List α) : fillW z A 0 = List.replicate A.length z := by simp [fillW]
theorem fillW_full {α : Type} (z : α) (A : List α) : fillW z A A.length = A := by simp [fillW]
theorem fillW_length {α : Type} (z : α) (A : List α) (i : Nat) (h : i ≤ A.length) : (fillW z A i).length = A.length := by simp [fillW]; omega
theorem fillW_set {α : Type} (z : α) (A : List α) (i : Nat) (x : α) (h : A[i]? = some x) : (fillW z A i).set i x = fillW z A (i + 1) := by
  have hi : i < A.length := (List.getElem?_eq_some_iff.1 h).1
  have e : A.length - i = (A.length - (i + 1)) + 1 := by omega
  rw [fillW, fillW, e, List.replicate_succ, List.take_add_one, h]
  rw [List.set_append_right _ _ (by simp; omega)]
  simp [Nat.min_eq_left (Nat.le_of_lt hi)]
theorem i64s_set (l : List Int) (i : Nat) (x : Int) : (i64s l).set i (.int .i64 x) = i64s (l.set i x) := by simp [i64s, List.map_set]
theorem u64s_set' (l : List Nat) (i x : Nat) : (u64s l).set i (.int .u64 (x : Int)) = u64s (l.set i x) := by simp [u64s, List.map_set]

/-- What lies in the two new rows. -/
structure SepIn (w wr : World) (l : List (Int × Nat)) (bt bv i : Nat) : Prop where
  bel : Below w.heap.size w wr
  ts : Blk wr bt (i64s (fillW 0 (timesC l) i))
  vs : Blk wr bv (u64s (fillW 0 (valuesC l) i))
theorem SepIn.step {w wr : World} {l : List (Int × Nat)} {bt bv i : Nat} {t : Int} {x : Nat} (h : SepIn w wr l bt bv i) (hd : bt ≠ bv ∧ w.heap.size ≤ bt ∧ w.heap.size ≤ bv) (ht : (timesC l)[i]? = some t) (hx : (valuesC l)[i]? = some x) :
    SepIn w ((wr.setCell ⟨bt, i, none⟩ (.int .i64 t)).setCell ⟨bv, i, none⟩ (.int .u64 (x : Int))).drew l bt bv (i + 1) := by
  have m1 := Mods.set (fun k => k = bt) wr ⟨bt, i, none⟩ (.int .i64 t) (fun _ => rfl)
  have m2 := Mods.set (fun k => k = bv) (wr.setCell ⟨bt, i, none⟩ (.int .i64 t)) ⟨bv, i, none⟩ (.int .u64 (x : Int)) (fun _ => rfl)
  have k1 := h.ts.set i (.int .i64 t)
  have k2 := (h.vs.set_other (a := ⟨bt, i, none⟩) (fun e => hd.1 e.symm) (.int .i64 t)).set i (.int .u64 (x : Int))
  rw [i64s_set, fillW_set _ _ _ _ ht] at k1
  rw [u64s_set', fillW_set _ _ _ _ hx] at k2
  refine ⟨?_, k1.set_other (fun e => hd.1 e) _, k2⟩
  have b1 := m1.below h.bel.size (fun k hk e => by omega)
  have b2 := m2.below (Nat.le_trans h.bel.size m1.size) (fun k hk e => by omega)
  exact ((h.bel.trans b1).trans b2).trans ⟨rfl, rfl, rfl, Nat.le_refl _, fun _ _ => rfl⟩
theorem strSam : Str Tryz.prog 33 2 [.int .i64 0, .int .u64 0] := Str.mk' Tryz.underlying33 rfl (by kernel_rfl) rfl
theorem Blk.twoS {w : World} {g : Nat} {a b : Value} (h : Blk w g [a, b]) : (w.cell? ⟨g, 0, none⟩ = some a ∧ w.cell? ⟨g, 1, none⟩ = some b) := ⟨by rw [h.cell]; rfl, by rw [h.cell]; rfl⟩
theorem timesC_len (l : List (Int × Nat)) : (timesC l).length = l.length := by simp [timesC]
theorem valuesC_len (l : List (Int × Nat)) : (valuesC l).length = l.length := by simp [valuesC]

theorem i64s_zero (n : Nat) : i64s (List.replicate n 0) = List.replicate n (.int .i64 0) := by simp [i64s]
theorem u64s_zero (n : Nat) : u64s (List.replicate n 0) = List.replicate n (.int .u64 0) := by simp [u64s]
theorem made_one (z : Value) (n : Nat) : (madeCells #[z] n).toList = List.replicate n z := toList_madeCells_one z n
theorem sep_start1 (w : World) (n : Nat) (l : List (Int × Nat)) (h : l.length = n) : SepIn w ((w.alloc (.cells (madeCells #[.int .i64 0] n) 2)).alloc (.cells (madeCells #[.int .u64 0] n) 31)).drew l w.heap.size (w.heap.size + 1) 0 := by
  have h1 := (Blk.new w (madeCells #[.int .i64 0] n) 2).alloc (.cells (madeCells #[.int .u64 0] n) 31)
  have h2 := Blk.new (w.alloc (.cells (madeCells #[.int .i64 0] n) 2)) (madeCells #[.int .u64 0] n) 31
  rw [made_one] at h1 h2
  refine ⟨((((Below.refl _ w).alloc (Nat.le_refl _) _).alloc (by simp) _).trans ⟨rfl, rfl, rfl, Nat.le_refl _, fun _ _ => rfl⟩), ?_, ?_⟩
  · rw [fillW_zero, timesC_len, h, i64s_zero]; exact h1
  · rw [fillW_zero, valuesC_len, h, u64s_zero]
    have e : (w.alloc (.cells (madeCells #[.int .i64 0] n) 2)).heap.size = w.heap.size + 1 := by simp
    rw [e] at h2
    exact h2
theorem sep_start2 (w : World) (n : Nat) (l : List (Int × Nat)) (h : l.length = n) : SepIn w ((w.alloc (.cells (madeCells #[.int .u64 0] n) 31)).alloc (.cells (madeCells #[.int .i64 0] n) 2)).drew l (w.heap.size + 1) w.heap.size 0 := by
  have h1 := (Blk.new w (madeCells #[.int .u64 0] n) 31).alloc (.cells (madeCells #[.int .i64 0] n) 2)
  have h2 := Blk.new (w.alloc (.cells (madeCells #[.int .u64 0] n) 31)) (madeCells #[.int .i64 0] n) 2
  rw [made_one] at h1 h2
  refine ⟨((((Below.refl _ w).alloc (Nat.le_refl _) _).alloc (by simp) _).trans ⟨rfl, rfl, rfl, Nat.le_refl _, fun _ _ => rfl⟩), ?_, ?_⟩
  · rw [fillW_zero, timesC_len, h, i64s_zero]
    have e : (w.alloc (.cells (madeCells #[.int .u64 0] n) 31)).heap.size = w.heap.size + 1 := by simp
    rw [e] at h2
    exact h2
  · rw [fillW_zero, valuesC_len, h, u64s_zero]; exact h1

set_option maxHeartbeats 8000000 in
theorem chunk_separate (lv : Value) (l : List (Int × Nat)) (w : World) (hl : Rd w 2 lv l.length (samCells l)) (hn : l.length ≤ 1000000) :
    Calls Tryz.prog 26 #[lv] w fun e w' => ∃ tv vv, e = .returned (.tuple #[tv, vv]) ∧ Rd w' 1 tv l.length (i64s (timesC l)) ∧ Rd w' 1 vv l.length (u64s (valuesC l)) ∧ (∀ k, tv.ownBlock = some k → w.heap.size ≤ k) ∧ (∀ k, vv.ownBlock = some k → w.heap.size ≤ k) ∧ Below w.heap.size w w' := by
  have HL := Lib.hid hl; have HN := Lib.hid hn
  obtain ⟨pl, cl, hv⟩ := hl.shape
  subst hv
  obtain ⟨n, hn'⟩ : ∃ n, l.length = n := ⟨_, rfl⟩
  have HLn := Lib.hid hn'
  rw [hn'] at HL HN ⊢
  have hn2 : n ≤ 1000000 := by rw [← hn']; exact hn
  have hmk1 := run_make_row' (P := Tryz.prog) 61 2 (.int .i64 0) 8 Tryz.underlying61 Tryz.infoI64 rfl .i64 .i64 n (by omega) (by omega)
  have hmk2 := run_make_row' (P := Tryz.prog) 22 31 (.int .u64 0) 8 Tryz.underlying22 Tryz.infoU64 rfl .i64 .i64 n (by omega) (by omega)
  clear hl hn hn' hn2
  go_enter Tryz.func26, Tryz.ntmps26
  go_wp2_with fail
  go_upto_region 1 with fail
  go_cut [4, 5] from 8 to 13 (fun tv vv wx => ∃ bt bv, tv = .slice (some ⟨bt, 0, none⟩) n n ∧ vv = .slice (some ⟨bv, 0, none⟩) n n ∧ Hid (SepIn w wx l bt bv 0 ∧ bt ≠ bv ∧ w.heap.size ≤ bt ∧ w.heap.size ≤ bv))
  case first =>
    go_region
    · go_wp2_with fail
      go_meet
      exact ⟨_, _, rfl, rfl, sep_start1 w n l HLn.out, by omega, by omega, by omega⟩
    · go_wp2_with fail
      go_meet
      exact ⟨_, _, rfl, rfl, sep_start2 w n l HLn.out, by omega, by omega, by omega⟩
  case rest =>
  obtain ⟨bt, bv, rfl, rfl, HI0⟩ := hcut
  clear hmk1 hmk2
  have HD : Hid (bt ≠ bv ∧ w.heap.size ≤ bt ∧ w.heap.size ≤ bv) := HI0.out.2
  go_wp2_with fail
  go_loopw [16] (fun iv wr => ∃ (i : Nat), i ≤ n ∧ iv = .int .i64 (i : Int) ∧ Hid (SepIn w wr l bt bv i)) (fun iv _ => n - (intOf iv).toNat)
  case atStart => exact ⟨0, Nat.zero_le _, rfl, HI0.out.1⟩
  case round =>
    obtain ⟨i, hi, rfl, HI⟩ := hrel
    clear HI0
    have hib : (i : Int) ≤ 1000000 := by have := HN.out; omega
    by_cases hlt : i < n
    · have hlt' : (i : Int) < (n : Int) := by omega
      obtain ⟨t, x, htx⟩ : ∃ t x, l[i]? = some (t, x) := ⟨_, _, List.getElem?_eq_getElem (by rw [HLn.out]; exact hlt)⟩
      obtain ⟨g1, g2⟩ := samCells_get l i t x htx
      obtain ⟨b, off, c', e, hnc, hncm, hcell⟩ := (HL.out.below HI.out.bel).at (fun e => by rw [e] at g1; cases g1)
      simp only [Value.slice.injEq] at e
      obtain ⟨rfl, _, rfl⟩ := e
      have h1 := hcell _ _ g1
      have h2 := hcell _ _ g2
      rw [← Nat.add_assoc] at h2
      have HT : Hid ((timesC l)[i]? = some t) := by show _ = _; simp [timesC, htx]
      have HV : Hid ((valuesC l)[i]? = some x) := by show _ = _; simp [valuesC, htx]
      clear hcell hnc hncm g1 g2 htx
      go_wp2_with (refine wpList_allocS strSam rfl rfl ?_)
      intro w6 hK hB hs
      have HK6 := Lib.hid hK
      have HI6 : Hid (SepIn w w6 l bt bv i) := ⟨HI.out.bel.trans (hB.mono HI.out.bel.size), HI.out.ts.of_same (hB.block _ HI.out.ts.lt), HI.out.vs.of_same (hB.block _ HI.out.vs.lt)⟩
      have HH : Hid (bt < wr.heap.size ∧ bv < wr.heap.size ∧ w.heap.size ≤ wr.heap.size) := ⟨HI.out.ts.lt, HI.out.vs.lt, HI.out.bel.size⟩
      clear hK hB hs HI h1 h2
      generalize wr.heap.size = h6 at *
      go_wp2_with (refine wpList_storeS strSam rfl _ _ rfl h6 rfl [.int .i64 t, .int .u64 (x : Int)] _ rfl HK6.out rfl rfl (by simp [Value.oneCell']) ?_)
      intro w7 hK hM hs
      have HI7 : Hid (SepIn w w7 l bt bv i) := ⟨HI6.out.bel.trans (hM.below HI6.out.bel.size (fun k hk e => by have := HH.out; omega)), hM.blk HI6.out.ts (fun e => by have := HH.out; omega), hM.blk HI6.out.vs (fun e => by have := HH.out; omega)⟩
      obtain ⟨c0, c1⟩ := hK.twoS
      clear hK hM hs HK6 HI6
      have hn1 : bt ≠ bv := HD.out.1
      have hn2 : h6 ≠ bt := by have := HH.out; omega
      have hn3 : h6 ≠ bv := by have := HH.out; omega
      obtain ⟨vt, ct⟩ : ∃ v, w7.cell? ⟨bt, i, none⟩ = some v := by
        rw [HI7.out.ts.cell]
        exact ⟨_, List.getElem?_eq_getElem (by rw [i64s_length, fillW_length _ _ _ (by rw [timesC_len, HLn.out]; exact hi), timesC_len, HLn.out]; exact hlt)⟩
      obtain ⟨vv, cv⟩ : ∃ v, w7.cell? ⟨bv, i, none⟩ = some v := by
        rw [HI7.out.vs.cell]
        exact ⟨_, List.getElem?_eq_getElem (by rw [u64s_length, fillW_length _ _ _ (by rw [valuesC_len, HLn.out]; exact hi), valuesC_len, HLn.out]; exact hlt)⟩
      have ft := HI7.out.ts.free i
      have fv := HI7.out.vs.free i
      go_wp2_with fail
      go_region
      go_wp2_with fail
      go_round
      case rel =>
        exact ⟨i + 1, by omega, by go_num, HI7.out.step HD.out HT.out HV.out⟩
      case measure => simp [intOf]; omega
    · have hlt' : ¬ (i : Int) < (n : Int) := by omega
      obtain rfl : i = n := by omega
      go_wp2_with fail
      go_ret2
      have ht := HI.out.ts
      have hv := HI.out.vs
      rw [show i = (timesC l).length by rw [timesC_len, HLn.out], fillW_full] at ht
      rw [show i = (valuesC l).length by rw [valuesC_len, HLn.out], fillW_full] at hv
      exact ⟨_, _, rfl, Rd.of_blk ht (by rw [i64s_length, timesC_len, HLn.out]; omega) (by have := HN.out; unfold maxLen; omega), Rd.of_blk hv (by rw [u64s_length, valuesC_len, HLn.out]; omega) (by have := HN.out; unfold maxLen; omega), (fun k e => by cases e; exact HD.out.2.1), (fun k e => by cases e; exact HD.out.2.2), HI.out.bel⟩
end Go.Proofs.YtgpmoimmpbkgfaaGreatDoor

end

section
/- Layer 9: the program's unite. -/
set_option linter.unusedVariables false
set_option maxRecDepth 100000
namespace Go.Proofs.YtgpmoimmpbkgfaaGreatDoor
open Go Go.RowKit

theorem infoSamU : (Tryz.prog.info? 33).map (fun i => (i.zero, i.size, i.bytes)) = some (some (.agg #[.int .i64 0, .int .u64 0]), 2, 16) := by kernel_rfl
theorem made_sam (n : Nat) : (madeCells #[.int .i64 0, .int .u64 0] (n * 2)).toList = samCells (List.replicate n (0, 0)) := by
  refine List.ext_getElem? fun j => ?_
  by_cases hj : j < n * 2
  · obtain ⟨g1, g2⟩ := samCells_get (List.replicate n (0, 0)) (j / 2) 0 0 (by rw [List.getElem?_replicate, if_pos (by omega)])
    have hl : (madeCells #[Value.int .i64 0, .int .u64 0] (n * 2)).toList[j]? = some (#[Value.int .i64 0, .int .u64 0][j % 2]!) := by
      simp [madeCells, hj]
    rw [hl]
    rcases Nat.mod_two_eq_zero_or_one j with h | h
    · rw [h, show j = j / 2 * 2 by omega, g1]; rfl
    · rw [h, show j = j / 2 * 2 + 1 by omega, g2]; rfl
  · rw [List.getElem?_eq_none (by simp [madeCells]; omega), List.getElem?_eq_none (by rw [samCells_length]; simp; omega)]
theorem samCells_set (L : List (Int × Nat)) (i : Nat) (t : Int) (x : Nat) : ((samCells L).set (i * 2) (.int .i64 t)).set (i * 2 + 1) (.int .u64 (x : Int)) = samCells (L.set i (t, x)) := by
  induction L generalizing i with
  | nil => rfl
  | cons r rs ih =>
    have e : samCells (r :: rs) = .int .i64 r.1 :: .int .u64 (r.2 : Int) :: samCells rs := rfl
    cases i with
    | zero => rfl
    | succ i =>
      rw [e, show (i + 1) * 2 = i * 2 + 2 by omega, show i * 2 + 2 + 1 = i * 2 + 1 + 2 by omega]
      show .int .i64 r.1 :: .int .u64 (r.2 : Int) :: ((samCells rs).set (i * 2) (.int .i64 t)).set (i * 2 + 1) (.int .u64 (x : Int)) = .int .i64 r.1 :: .int .u64 (r.2 : Int) :: samCells (rs.set i (t, x))
      rw [ih]
theorem Blk.rowS {w : World} {base g n : Nat} {t : TypeId} {xs : List Value} {sz : Nat} (h : w.ownsRow base t sz (.slice (some ⟨g, 0, none⟩) n n) n xs) : Blk w g xs := by
  rcases h.2 with ⟨e, _⟩ | ⟨g', cap, cur, e, _, hg, _, _, hs, ht⟩
  · cases e
  · simp only [Value.slice.injEq, Option.some.injEq, Addr.mk.injEq, and_true, true_and] at e
    obtain ⟨rfl, rfl⟩ := e
    exact ⟨t, by rw [hg, ← ht, List.take_of_length_le (by simp [hs])]⟩

structure UniIn (w wr : World) (L : List (Int × Nat)) (g i : Nat) : Prop where
  bel : Below w.heap.size w wr
  own : Blk wr g (samCells (fillW (0, 0) L i))

set_option maxHeartbeats 8000000 in
theorem chunk_unite (tv vv : Value) (ts : List Int) (xs : List Nat) (w : World) (ht : Rd w 1 tv ts.length (i64s ts)) (hv : Rd w 1 vv xs.length (u64s xs)) (hlen : xs.length = ts.length) (hn : ts.length ≤ 1000000) :
    Calls Tryz.prog 38 #[tv, vv] w fun e w' => ∃ r, e = .returned r ∧ Rd w' 2 r (ts.zip xs).length (samCells (ts.zip xs)) ∧ Below w.heap.size w w' := by
  rw [hlen] at hv
  have HTs := Lib.hid ht; have HVs := Lib.hid hv; have HN := Lib.hid hn; have HLe := Lib.hid hlen
  obtain ⟨pt, ct, he⟩ := ht.shape
  subst he
  obtain ⟨pv, cv, he⟩ := hv.shape
  subst he
  obtain ⟨n, hn'⟩ : ∃ n, ts.length = n := ⟨_, rfl⟩
  have HLn := Lib.hid hn'
  have HZl : Hid ((ts.zip xs).length = n) := by show _ = _; rw [List.length_zip, hlen, Nat.min_self, hn']
  rw [hn'] at HTs HVs HN HLe ⊢
  obtain ⟨i0, hi0, hz0, hz1, hz2⟩ := info_parts infoSamU
  have HI := Lib.hid hi0; have HZ := Lib.hid hz0; have HZ1 := Lib.hid hz1
  have HZ2 : Hid (i0.bytes * n ≤ 281474976710656 ∧ n ≤ maxLen) := by show _ ∧ _; unfold maxLen; rw [hz2]; omega
  clear ht hv hn hlen hn' hi0 hz0 hz1 hz2
  go_enter Tryz.func38, Tryz.ntmps38
  go_wp2_with (refine wpList_make_full _ rfl _ _ _ rfl w.heap.size 33 i0 (.agg #[.int .i64 0, .int .u64 0]) 2 Tryz.underlying29 HI.out HZ.out HZ1.out _ _ _ _ n rfl rfl rfl rfl HZ2.out.1 HZ2.out.2 (Nat.le_refl _) ?_)
  intro w4 hown hgr
  have HI4 : Hid (UniIn w w4 (ts.zip xs) w.heap.size 0) := by
    refine ⟨(Mods.of_grown hgr).below (Nat.le_refl _) (fun k _ e => by cases e), ?_⟩
    have h := Blk.rowS hown
    rw [made_sam] at h
    rw [fillW_zero, HZl.out]
    exact h
  clear hown hgr HZ2 HZ1 HZ HI
  go_wp2_with fail
  go_loopw [13] (fun iv wr => ∃ (i : Nat), i ≤ n ∧ iv = .int .i64 (i : Int) ∧ Hid (UniIn w wr (ts.zip xs) w.heap.size i)) (fun iv _ => n - (intOf iv).toNat)
  case atStart => exact ⟨0, Nat.zero_le _, rfl, HI4.out⟩
  case round =>
    obtain ⟨i, hi, rfl, HI⟩ := hrel
    clear HI4
    have hib : (i : Int) ≤ 1000000 := by have := HN.out; omega
    by_cases hlt : i < n
    · have hlt' : (i : Int) < (n : Int) := by omega
      obtain ⟨t, ht⟩ : ∃ t, ts[i]? = some t := ⟨_, List.getElem?_eq_getElem (by rw [HLn.out]; exact hlt)⟩
      obtain ⟨x, hx⟩ : ∃ x, xs[i]? = some x := ⟨_, List.getElem?_eq_getElem (by rw [HLe.out]; exact hlt)⟩
      have gt : (i64s ts)[i]? = some (.int .i64 t) := by simp [i64s, ht]
      have gx : (u64s xs)[i]? = some (.int .u64 (x : Int)) := by simp [u64s, hx]
      have HS : Hid ((ts.zip xs)[i]? = some (t, x)) := by show _ = _; rw [List.getElem?_zip_eq_some]; exact ⟨ht, hx⟩
      obtain ⟨b, off, c', e, _, _, hcell⟩ := (HTs.out.below HI.out.bel).at (fun e => by rw [e] at gt; cases gt)
      simp only [Value.slice.injEq] at e
      obtain ⟨rfl, _, rfl⟩ := e
      obtain ⟨b2, off2, c2, e, _, _, hcell2⟩ := (HVs.out.below HI.out.bel).at (fun e => by rw [e] at gx; cases gx)
      simp only [Value.slice.injEq] at e
      obtain ⟨rfl, _, rfl⟩ := e
      have h1 := hcell _ _ gt
      have h2 := hcell2 _ _ gx
      have hL : (samCells (fillW (0, 0) (ts.zip xs) i)).length = n * 2 := by rw [samCells_length, fillW_length _ _ _ (by rw [HZl.out]; exact hi), HZl.out]
      obtain ⟨v0, k0⟩ : ∃ v, wr.cell? ⟨w.heap.size, i * 2, none⟩ = some v := by
        rw [HI.out.own.cell]
        exact ⟨_, List.getElem?_eq_getElem (by rw [hL]; omega)⟩
      obtain ⟨v1, k1⟩ : ∃ v, wr.cell? ⟨w.heap.size, i * 2 + 1, none⟩ = some v := by
        rw [HI.out.own.cell]
        exact ⟨_, List.getElem?_eq_getElem (by rw [hL]; omega)⟩
      have f0 := HI.out.own.free (i * 2)
      have f1 := HI.out.own.free (i * 2 + 1)
      have HI9 : Hid (UniIn w ((wr.setCell ⟨w.heap.size, i * 2, none⟩ (.int .i64 t)).setCell ⟨w.heap.size, i * 2 + 1, none⟩ (.int .u64 (x : Int))) (ts.zip xs) w.heap.size (i + 1)) := by
        have hB := HI.out.bel
        have m1 := Mods.set (fun k => k = w.heap.size) wr ⟨w.heap.size, i * 2, none⟩ (.int .i64 t) (fun _ => rfl)
        have m2 := Mods.set (fun k => k = w.heap.size) (wr.setCell ⟨w.heap.size, i * 2, none⟩ (.int .i64 t)) ⟨w.heap.size, i * 2 + 1, none⟩ (.int .u64 (x : Int)) (fun _ => rfl)
        refine ⟨(hB.trans (m1.below hB.size (fun k hk e => by omega))).trans (m2.below (Nat.le_trans hB.size m1.size) (fun k hk e => by omega)), ?_⟩
        have := (HI.out.own.set (i * 2) (.int .i64 t)).set (i * 2 + 1) (.int .u64 (x : Int))
        rw [samCells_set, fillW_set _ _ _ _ HS.out] at this
        exact this
      clear hcell hcell2 gt gx ht hx hL HI
      go_wp2_with fail
      go_round
      case rel => exact ⟨i + 1, by omega, by go_num, HI9.out⟩
      case measure => simp [intOf]; omega
    · have hlt' : ¬ (i : Int) < (n : Int) := by omega
      obtain rfl : i = n := by omega
      go_wp2_with fail
      go_ret
      have h := HI.out.own
      rw [show i = (ts.zip xs).length from HZl.out.symm, fillW_full] at h
      refine ⟨_, rfl, ?_, HI.out.bel⟩
      rw [HLn.out, HLe.out, Nat.min_self]
      exact Rd.of_blk h (by rw [samCells_length, HZl.out]) (by have := HN.out; unfold maxLen; omega)
end Go.Proofs.YtgpmoimmpbkgfaaGreatDoor

end

section
/- Layer 9: the program's Encode. -/
set_option linter.unusedVariables false
set_option maxRecDepth 100000
namespace Go.Proofs.YtgpmoimmpbkgfaaGreatDoor
open Go Go.RowKit

section
variable {P : Program} {ops : Array Oper} {rest : List Oper} {o : Oper} {a : Act} {w : World} {Q : Exit → Act → World → Prop} {t e : TypeId} {n N : Nat} {zs : List Value}
/-- One element of an array of structs. -/
theorem wpList_indexS (hA : Str P e n zs) (ht : P.underlying t = some (.array N e)) (hgd : o.guard = none) (x y : Operand) (ho : o.op = .index t x y) (cs : List Value) (hx : a.eval x = .agg cs.toArray) (i : Nat) (hy : a.eval y = .int .i64 (i : Int)) (hi : i < N) (sub : List Value) (hsub : (cs.drop (i * n)).take n = sub)
    (h : wpList P ops Q rest (a.put o.dst (.agg sub.toArray)) w) : wpList P ops Q (o :: rest) a w := by
  obtain ⟨ie, hie, _, hs⟩ := hA.hi
  obtain ⟨d, hd, hmany⟩ := hA.ht
  refine wpList_plain hgd fun K hK => ?_
  have hag : (isAgg e).run P w = .ok true w := by
    unfold isAgg
    rw [Sem.run_bind, run_underlying hd w]
    cases d <;> simp_all [manyCells]
  have hp : (part e cs.toArray (i * n)).run P w = .ok (.agg sub.toArray) w := by
    unfold part
    subst hsub
    simp [Sem.run_bind, hag, sizeOf, typeInfo, hie, hs, Nat.add_sub_cancel_left]
  have hr : (Instr.index t (.agg cs.toArray) (.int .i64 (i : Int))).run P w = .ok (.agg sub.toArray) w := by
    have hin : ((i : Int) < (N : Int)) := by omega
    simp [Instr.index, asIntOf, Sem.run_bind, run_underlying ht w, sizeOf, typeInfo, hie, hs, hp, hi]
  unfold Oper.wp execOp
  simp only [ho, hx, hy, Sem.run_bind, hr, Result.andThen_ok]
  exact hK _ _ h
/-- One field of a struct. -/
theorem wpList_fieldS {fs} {ft : TypeId} {d : TypeDesc} (ht : P.underlying t = some (.struct fs)) (k off : Nat) (hf : (fs[k]?).map (fun f => (f.type, f.offset)) = some (ft, off)) (hd : P.underlying ft = some d) (hm : manyCells d = false)
    (hgd : o.guard = none) (x : Operand) (ho : o.op = .field t x k) (cs : List Value) (hx : a.eval x = .agg cs.toArray) (v : Value) (hv : cs[off]? = some v)
    (h : wpList P ops Q rest (a.put o.dst v) w) : wpList P ops Q (o :: rest) a w := by
  refine wpList_plain hgd fun K hK => ?_
  obtain ⟨f, hf1, hf2⟩ := Option.map_eq_some_iff.1 hf
  simp only [Prod.mk.injEq] at hf2
  obtain ⟨hf2, hf3⟩ := hf2
  have hag : (isAgg ft).run P w = .ok false w := by
    unfold isAgg
    rw [Sem.run_bind, run_underlying hd w]
    cases d <;> simp_all [manyCells]
  have hr : (Instr.field t (.agg cs.toArray) k).run P w = .ok v w := by
    have hp : (part ft cs.toArray off).run P w = .ok v w := by
      unfold part
      simp [Sem.run_bind, hag, hv]
    simp [Instr.field, Sem.run_bind, run_underlying ht w, hf1, hf2, hf3, asAgg, hp]
  unfold Oper.wp execOp
  simp only [ho, hx, Sem.run_bind, hr, Result.andThen_ok]
  exact hK _ _ h
end

theorem enc_sub (tag : Nat) (h : 1 ≤ tag ∧ tag ≤ 3) : (encCells.drop (tag * 3)).take 3 = [fnV (szF (tag - 1)), fnV (pF (tag - 1)), fnV (gF (tag - 1))] := by
  match tag, h with
  | 1, _ => rfl
  | 2, _ => rfl
  | 3, _ => rfl
theorem pF_call (i : Nat) : ∀ (args : Array Value) (w : World), (callFunc (pF i) args).run Tryz.prog w = .ok (.enter (pF i) args) w := by
  intro args w
  match i with
  | 0 => rfl
  | 1 => rfl
  | _ + 2 => rfl
theorem gF_call (i : Nat) : ∀ (args : Array Value) (w : World), (callFunc (gF i) args).run Tryz.prog w = .ok (.enter (gF i) args) w := by
  intro args w
  match i with
  | 0 => rfl
  | 1 => rfl
  | _ + 2 => rfl
theorem pF_puts (tag : Nat) (h : 1 ≤ tag ∧ tag ≤ 3) : PutsC tag (pF (tag - 1)) := by
  match tag, h with
  | 1, _ => exact puts1
  | 2, _ => exact puts2
  | 3, _ => exact puts3
theorem gF_gets (tag : Nat) (h : 1 ≤ tag ∧ tag ≤ 3) : GetsC tag (gF (tag - 1)) := by
  match tag, h with
  | 1, _ => exact gets1
  | 2, _ => exact gets2
  | 3, _ => exact gets3
theorem encUnd : Tryz.prog.underlying 58 = some (.array 4 57) := Tryz.underlying58

theorem pack_byte (x : Nat) (h : x < 256) (bits : List Bool) : pack (fieldBits x 8 ++ bits) = x :: pack bits := by
  refine unpack_inj (pack_lt _) (fun y hy => ?_) ?_
  · rcases List.mem_cons.1 hy with rfl | hy
    · exact h
    · exact pack_lt _ y hy
  · rw [unpack_pack, unpack_cons, unpack_pack, List.append_assoc]
    have e : 8 * (((fieldBits x 8 ++ bits).length + 7) / 8) - (fieldBits x 8 ++ bits).length = 8 * ((bits.length + 7) / 8) - bits.length := by
      rw [List.length_append, fieldBits_length]
      omega
    rw [e]

/-- The writer, and the rows that were there before it. -/
structure EncIn (w wr : World) (B p : Nat) (v : Value) (bits : List Bool) (tv vv : Value) (ts : List Int) (xs : List Nat) : Prop where
  bel : Below w.heap.size w wr
  wi : WriterIn wr p v bits
  tr : Rd wr 1 tv ts.length (i64s ts)
  vr : Rd wr 1 vv xs.length (u64s xs)
  tb : T9 wr
  low : ∀ k, v.ownBlock = some k → B ≤ k
theorem EncIn.put {w wr wr' : World} {B p : Nat} {v : Value} {bits out : List Bool} {tv vv : Value} {ts : List Int} {xs : List Nat} (h : EncIn w wr B p v bits tv vv ts xs) (hB : w.heap.size ≤ B ∧ G9 ≤ B ∧ B ≤ p ∧ B ≤ wr.heap.size) (ht : ∀ k, tv.ownBlock = some k → k < B) (hv : ∀ k, vv.ownBlock = some k → k < B)
    (hp : BitsPost p v out wr wr') : ∃ v', EncIn w wr' B p v' out tv vv ts xs ∧ B ≤ wr'.heap.size := by
  obtain ⟨v', h1, h2⟩ := hp
  have hS : ∀ k, k < B → ¬ (k = p ∨ v.ownBlock = some k) := fun k hk e => by
    rcases e with e | e
    · omega
    · have := h.low k e; omega
  have hsz := h2.mods.size
  exact ⟨v', ⟨h.bel.trans (h2.mods.below h.bel.size (fun k hk => hS k (by omega))), h1, h.tr.mods h2.mods (fun k hk => hS k (ht k hk)), h.vr.mods h2.mods (fun k hk => hS k (hv k hk)), h.tb.keeps h2.mods (fun k hk => hS k (by omega)), fun k hk => by
    rcases h2.fresh k hk with e | e
    · exact h.low k e
    · omega⟩, by omega⟩

set_option maxHeartbeats 8000000 in
theorem chunk_encode (lv : Value) (l : List (Int × Nat)) (w : World) (hT : T9 w) (hl : Rd w 2 lv l.length (samCells l)) (ok : ∀ s ∈ l, sampleOk s) (hn : l.length ≤ 1000000) :
    Calls Tryz.prog 15 #[lv] w fun e w' => ∃ r, e = .returned (.tuple #[r, .int .i64 ((encC l).2 : Int)]) ∧ Rd w' 1 r (encC l).1.length (u8s (encC l).1) ∧ Below w.heap.size w w' := by
  have HT := Lib.hid hT
  have HL := Lib.hid hl; have HO := Lib.hid ok
  obtain ⟨pl, cl, hv⟩ := hl.shape
  subst hv
  have HPa := Lib.hid (chunk_separate _ l w hl hn)
  clear hl ok hT
  by_cases h0 : l.length = 0
  · have hz : (l.length : Int) = 0 := by omega
    have HE : Hid (encC l = ([], 21)) := by show _ = _; rw [encC, if_pos (List.eq_nil_of_length_eq_zero h0)]
    clear h0 hn HPa
    go_enter Tryz.func15, Tryz.ntmps15
    go_wp2_with fail
    go_ret2
    rw [HE.out]
    exact ⟨_, rfl, Rd.nil _ _, Below.refl _ _⟩
  · have hz : ¬ (l.length : Int) = 0 := by omega
    have hzb : ((l.length : Int) == 0) = false := by rw [beq_eq_false_iff_ne]; exact hz
    have hne : l ≠ [] := fun e => h0 (by rw [e]; rfl)
    by_cases h120 : 120 < l.length
    · have h120' : (120 : Int) < (l.length : Int) := by omega
      have HE : Hid (encC l = ([], 7)) := by show _ = _; rw [encC, if_neg hne, if_pos h120]
      clear h0 hn HPa hne h120
      go_enter Tryz.func15, Tryz.ntmps15
      go_wp2_with fail
      go_ret2
      rw [HE.out]
      exact ⟨_, rfl, Rd.nil _ _, Below.refl _ _⟩
    · have h120' : ¬ (120 : Int) < (l.length : Int) := by omega
      have HE : Hid (encC l = (chooseC (valuesC l) :: (l.length - 1) :: pack (encT (timesC l) ++ bitsC (chooseC (valuesC l)) (valuesC l)), 0)) := by show _ = _; rw [encC, if_neg hne, if_neg h120]
      have HN : Hid (0 < l.length ∧ l.length ≤ 120) := by show _ ∧ _; omega
      have HTi : Hid (∀ t ∈ timesC l, in64 t) := fun t ht => by
        obtain ⟨s, hs, rfl⟩ := List.mem_map.1 ht
        exact (HO.out s hs).1
      have HVi : Hid (∀ x ∈ valuesC l, in64u x) := fun x hx => by
        obtain ⟨s, hs, rfl⟩ := List.mem_map.1 hx
        exact (HO.out s hs).2
      have HTl : Hid ((timesC l).length = l.length) := timesC_len l
      have HVl : Hid ((valuesC l).length = l.length) := valuesC_len l
      have HOk := Lib.hid (choose_ok (valuesC l))
      have hlm : (l.length : Int) - 1 = ((l.length - 1 : Nat) : Int) := by omega
      have hw2 : IntKind.u64.wrap ((l.length : Int) - 1) = ((l.length - 1 : Nat) : Int) := by rw [IntKind.wrap_u64]; omega
      clear h0 hn hne h120
      generalize timesC l = ts at *
      generalize valuesC l = xs at *
      go_enter Tryz.func15, Tryz.ntmps15
      go_wp2_with fail
      refine HPa.out.mono ?_
      rintro e w1 ⟨tv, vv, rfl, ht1, hv1, htk, hvk, hB⟩
      have HB1 := Lib.hid hB
      rw [← HTl.out] at ht1
      rw [← HVl.out] at hv1
      have HT1 := Lib.hid ht1
      have HV1 := Lib.hid hv1
      have HTb1 := Lib.hid (HT.out.below hB)
      have HTo : Hid (∀ k, tv.ownBlock = some k → k < w1.heap.size) := ht1.lt (fun e => by have := congrArg List.length e; rw [i64s_length, HTl.out, List.length_nil] at this; have := HN.out; omega)
      have HVo : Hid (∀ k, vv.ownBlock = some k → k < w1.heap.size) := hv1.lt (fun e => by have := congrArg List.length e; rw [u64s_length, HVl.out, List.length_nil] at this; have := HN.out; omega)
      obtain ⟨pt, ct, he⟩ := ht1.shape
      subst he
      obtain ⟨pv, cv, he⟩ := hv1.shape
      subst he
      clear ht1 hv1 hB HPa htk hvk
      go_wp2_with fail
      refine (chunk_choose _ xs w1 HTb1.out HV1.out HVi.out (by rw [HVl.out]; have := HN.out; omega)).mono ?_
      rintro e w2 ⟨rfl, hB⟩
      have HB2 := Lib.hid (HB1.out.trans (hB.mono HB1.out.size))
      have HT2 := Lib.hid (HT1.out.below hB)
      have HV2 := Lib.hid (HV1.out.below hB)
      have HTb2 := Lib.hid (HTb1.out.below hB)
      have HBB : Hid (w.heap.size ≤ w1.heap.size ∧ G9 ≤ w1.heap.size ∧ w1.heap.size ≤ w2.heap.size) := ⟨HB1.out.size, HTb1.out.low, hB.size⟩
      have HTg : Hid (1 ≤ chooseC xs ∧ chooseC xs ≤ 3) := by show _ ∧ _; have := choose_tag xs; omega
      clear hB HB1 HT1 HV1 HTb1
      generalize chooseC xs = tag at *
      generalize w1.heap.size = B at *
      have hw1 : IntKind.u64.wrap (tag : Int) = (tag : Int) := by rw [IntKind.wrap_u64]; have := HTg.out; omega
      go_wp2_with fail
      refine (new_writer w2).mono ?_
      rintro e w3 ⟨rfl, hW, hB⟩
      have HI3 : Hid (EncIn w w3 B w2.heap.size (.slice none 0 0) [] (.slice pt ts.length ct) (.slice pv xs.length cv) ts xs) := ⟨HB2.out.trans (hB.mono HB2.out.size), hW, HT2.out.below hB, HV2.out.below hB, HTb2.out.below hB, fun k e => by cases e⟩
      have HP3 : Hid (w.heap.size ≤ B ∧ G9 ≤ B ∧ B ≤ w2.heap.size ∧ B ≤ w3.heap.size) := by have := HBB.out; have := hB.size; show _ ∧ _; omega
      clear hW hB HB2 HT2 HV2 HTb2 HBB
      generalize w2.heap.size = p at *
      go_wp2_with fail
      refine (wbits p _ [] tag 8 w3 HI3.out.wi (by omega) (by simp)).mono ?_
      rintro e w4 ⟨rfl, hP⟩
      obtain ⟨v4, hI, hb⟩ := HI3.out.put HP3.out HTo.out HVo.out hP
      have HI4 := Lib.hid hI
      have HP4 : Hid (w.heap.size ≤ B ∧ G9 ≤ B ∧ B ≤ p ∧ B ≤ w4.heap.size) := by have := HP3.out; show _ ∧ _; omega
      clear hP hI hb HI3 HP3
      go_wp2_with fail
      refine (wbits p _ ([] ++ fieldBits tag 8) (l.length - 1) 8 w4 HI4.out.wi (by omega) (by rw [List.nil_append, fieldBits_length]; omega)).mono ?_
      rintro e w5 ⟨rfl, hP⟩
      obtain ⟨v5, hI, hb⟩ := HI4.out.put HP4.out HTo.out HVo.out hP
      have HI5 := Lib.hid hI
      have HP5 : Hid (w.heap.size ≤ B ∧ G9 ≤ B ∧ B ≤ p ∧ B ≤ w5.heap.size) := by have := HP4.out; show _ ∧ _; omega
      have HA5 : Hid (∀ k, v5.ownBlock = some k → G9 ≤ k) := fun k hk => by have := HI5.out.low k hk; have := HP5.out; omega
      have HPu := Lib.hid (put_times p v5 _ _ ts w5 HI5.out.tb HI5.out.wi (by have := HP5.out; omega) HA5.out HI5.out.tr HTi.out (fun _ k hk => ⟨by have := HTo.out k hk; have := HP5.out; omega, fun e => by have := HTo.out k hk; have := HI5.out.low k e; omega⟩) (by rw [List.length_append, List.length_append, fieldBits_length, fieldBits_length, HTl.out]; have := HN.out; simp; omega))
      clear hP hI hb HI4 HP4 hw1 hw2 hlm
      go_wp2_with fail
      refine HPu.out.mono ?_
      rintro e w6 ⟨rfl, hP⟩
      obtain ⟨v6, hI, hb⟩ := HI5.out.put HP5.out HTo.out HVo.out hP
      have HI6 := Lib.hid hI
      have HP6 : Hid (w.heap.size ≤ B ∧ G9 ≤ B ∧ B ≤ p ∧ B ≤ w6.heap.size) := by have := HP5.out; show _ ∧ _; omega
      clear hP hI hb HI5 HP5 HA5 HPu
      go_wp2_with fail
      refine (encodings_any w6).mono ?_
      rintro e w7 ⟨rfl, hB⟩
      have HI7 : Hid (EncIn w w7 B p v6 _ (.slice pt ts.length ct) (.slice pv xs.length cv) ts xs) := ⟨HI6.out.bel.trans (hB.mono HI6.out.bel.size), HI6.out.wi.below hB, HI6.out.tr.below hB, HI6.out.vr.below hB, HI6.out.tb.below hB, HI6.out.low⟩
      have HP7 : Hid (w.heap.size ≤ B ∧ G9 ≤ B ∧ B ≤ p ∧ B ≤ w7.heap.size) := by have := HP6.out; have := hB.size; show _ ∧ _; omega
      have HA7 : Hid (∀ k, v6.ownBlock = some k → G9 ≤ k) := fun k hk => by have := HI7.out.low k hk; have := HP7.out; omega
      have HEl : Hid ((encT ts).length ≤ 8160) := by show _ ≤ _; have := encT_len ts; have := HTl.out; have := HN.out; omega
      have HPu := Lib.hid (pF_puts tag HTg.out p v6 _ _ xs w7 HI7.out.tb HI7.out.wi (by have := HP7.out; omega) HA7.out HI7.out.vr HVi.out (fun _ k hk => ⟨by have := HVo.out k hk; have := HP7.out; omega, fun e => by have := HVo.out k hk; have := HI7.out.low k e; omega⟩) (by rw [HVl.out]; have := HN.out; omega) (by rw [List.length_append, List.length_append, List.length_append, fieldBits_length, fieldBits_length, HVl.out]; have := HN.out; have := HEl.out; simp; omega))
      have hcf := pF_call (tag - 1)
      have HSub := Lib.hid (enc_sub tag HTg.out)
      clear hB HI6 HP6 HA7
      generalize szF (tag - 1) = sf at *
      generalize pF (tag - 1) = pf at *
      generalize gF (tag - 1) = gf at *
      go_wp2_with (first
        | refine wpList_indexS strE encUnd rfl _ _ rfl encCells rfl tag rfl (by have := HTg.out; omega) _ HSub.out ?_
        | refine wpList_fieldS Tryz.underlying57 1 1 rfl Tryz.underlying54 rfl rfl _ rfl [fnV sf, fnV pf, fnV gf] rfl (.func (.func pf) #[] #[]) rfl ?_)
      refine HPu.out.mono ?_
      rintro e w8 ⟨rfl, hP⟩
      obtain ⟨v8, hI, hb⟩ := HI7.out.put HP7.out HTo.out HVo.out hP
      have HI8 := Lib.hid hI
      clear hP hI hb HI7 HP7 HPu hcf HSub
      have hBl : ([] ++ fieldBits tag 8 ++ fieldBits (l.length - 1) 8 ++ encT ts ++ bitsC tag xs).length ≤ 1125899906842624 := by
        rw [List.length_append, List.length_append, List.length_append, List.length_append, fieldBits_length, fieldBits_length]
        have := bitsC_len tag xs; have := HEl.out; have := HVl.out; have := HN.out
        simp; omega
      have HPk : Hid (pack ([] ++ fieldBits tag 8 ++ fieldBits (l.length - 1) 8 ++ encT ts ++ bitsC tag xs) = tag :: (l.length - 1) :: pack (encT ts ++ bitsC tag xs)) := by
        show _ = _
        rw [List.nil_append, List.append_assoc, List.append_assoc, pack_byte _ (by have := HTg.out; omega), pack_byte _ (by have := HN.out; omega)]
      go_wp2_with fail
      refine (wbytes p v8 _ w8 HI8.out.wi hBl).mono ?_
      rintro e w9 ⟨r, rfl, hM⟩
      have HR : Hid (Rd w9 1 r (tag :: (l.length - 1) :: pack (encT ts ++ bitsC tag xs)).length (u8s (tag :: (l.length - 1) :: pack (encT ts ++ bitsC tag xs)))) := by
        have := Rd.of_owns hM.1
        rw [HPk.out] at this
        exact this
      have HB9 : Hid (Below w.heap.size w w9) := HI8.out.bel.trans (hM.2.mono HI8.out.bel.size)
      obtain ⟨p8, c8, hv8⟩ := HR.out.shape
      subst hv8
      clear hM HPk hBl HI8
      go_wp2_with fail
      go_ret2
      rw [HE.out]
      exact ⟨_, rfl, HR.out, HB9.out⟩
end Go.Proofs.YtgpmoimmpbkgfaaGreatDoor

end

section
/- Layer 9: the program's getHead. -/
set_option linter.unusedVariables false
set_option maxRecDepth 100000
namespace Go.Proofs.YtgpmoimmpbkgfaaGreatDoor
open Go Go.RowKit

/-- The tag, the number, the error; the bits that are left. -/
def headK (bits : List Bool) : (Nat × Nat × Nat) × List Bool :=
  if (field 8 bits).e ≠ 0 then ((0, 0, 3), bits) else if (field 8 bits).x < 1 ∨ 3 < (field 8 bits).x then ((0, 0, 9), (field 8 bits).r) else
  if (field 8 (field 8 bits).r).e ≠ 0 then ((0, 0, 3), (field 8 bits).r) else if 120 ≤ (field 8 (field 8 bits).r).x then ((0, 0, 7), (field 8 (field 8 bits).r).r) else
  (((field 8 bits).x, (field 8 (field 8 bits).r).x + 1, 0), (field 8 (field 8 bits).r).r)
theorem field_byte (t : Nat) (rest : List Bool) (h : t < 256) : field 8 (fieldBits t 8 ++ rest) = ⟨0, t, rest⟩ := field_back t 8 rest (by simpa using h)
theorem decC_head (b : List Nat) (h8 : ∀ x ∈ b, x < 256) : decC b = if (headK (unpack b)).1.2.2 ≠ 0 then ([], (headK (unpack b)).1.2.2) else decBody (headK (unpack b)).1.1 (headK (unpack b)).1.2.1 (headK (unpack b)).2 := by
  match b with
  | [] => rfl
  | [t] =>
    have ht := h8 t (by simp)
    have e : unpack [t] = fieldBits t 8 ++ [] := by rw [unpack_cons]; rfl
    rw [e, headK, field_byte t [] ht]
    simp only [decC, ne_eq, not_true_eq_false, if_false]
    split
    · rfl
    · rfl
  | t :: m :: rest =>
    have ht := h8 t (by simp)
    have hm := h8 m (by simp)
    have e : unpack (t :: m :: rest) = fieldBits t 8 ++ (fieldBits m 8 ++ unpack rest) := by rw [unpack_cons, unpack_cons]
    rw [e, headK, field_byte t _ ht]
    simp only [decC, ne_eq, not_true_eq_false, if_false]
    rw [field_byte m _ hm]
    simp only [not_true_eq_false, if_false]
    split
    · rfl
    · by_cases h : 120 ≤ m
      · have h2 : 120 < m + 1 := by omega
        simp [h, h2]
      · have h2 : ¬ 120 < m + 1 := by omega
        simp [h, h2]

theorem headK_ok {bits : List Bool} (h : (headK bits).1.2.2 = 0) : 1 ≤ (headK bits).1.1 ∧ (headK bits).1.1 ≤ 3 ∧ (headK bits).1.2.1 ≤ 120 := by
  revert h
  rw [headK]
  split
  · intro h; cases h
  · split
    · intro h; cases h
    · split
      · intro h; cases h
      · split
        · intro h; cases h
        · intro _
          refine ⟨?_, ?_, ?_⟩ <;> simp only <;> omega

set_option maxHeartbeats 4000000 in
theorem chunk_head (p : Nat) (v : Value) (bs : List Nat) (bits : List Bool) (w : World) (h : RIs p v bs bits w) :
    Calls Tryz.prog 35 #[.pointer (some ⟨p, 0, none⟩)] w fun e w' => e = .returned (.tuple #[.int .i64 ((headK bits).1.1 : Int), .int .i64 ((headK bits).1.2.1 : Int), .int .i64 ((headK bits).1.2.2 : Int)]) ∧ RP p v bs (headK bits).2 w w' := by
  have H := Lib.hid h
  have HE := Lib.hid (rfield p v bs bits 8 w h (by omega))
  clear h
  rcases field_two 8 bits with hf | ⟨x, c, hf, hx⟩
  · have HD : Hid (headK bits = ((0, 0, 3), bits)) := by show _ = _; rw [headK, hf]; rfl
    rw [hf] at HE
    rw [HD.out]
    clear hf
    go_enter Tryz.func35, Tryz.ntmps35
    go_wp2_with fail
    refine HE.out.mono ?_
    rintro e w2 ⟨rfl, hP⟩
    have HP := Lib.hid hP
    clear hP HE
    go_wp2_with fail
    go_ret3
    exact ⟨rfl, HP.out⟩
  · have hx' : x < 256 := by simpa using hx
    have hxi : (x : Int) < 256 := by omega
    rw [hf] at HE
    by_cases hlo : x < 1
    · have HD : Hid (headK bits = ((0, 0, 9), c)) := by show _ = _; rw [headK, hf]; simp [hlo]
      have hlo' : (x : Int) < 1 := by omega
      rw [HD.out]
      clear hf hx hx'
      go_enter Tryz.func35, Tryz.ntmps35
      go_wp2_with fail
      refine HE.out.mono ?_
      rintro e w2 ⟨rfl, hP⟩
      have HP := Lib.hid hP
      clear hP HE
      go_wp2_with fail
      go_ret3
      exact ⟨rfl, HP.out⟩
    · have hlo' : ¬ (x : Int) < 1 := by omega
      by_cases hhi : 3 < x
      · have HD : Hid (headK bits = ((0, 0, 9), c)) := by show _ = _; rw [headK, hf]; simp [hhi]
        have hhi' : (3 : Int) < x := by omega
        rw [HD.out]
        clear hf hx hx'
        go_enter Tryz.func35, Tryz.ntmps35
        go_wp2_with fail
        refine HE.out.mono ?_
        rintro e w2 ⟨rfl, hP⟩
        have HP := Lib.hid hP
        clear hP HE
        go_wp2_with fail
        go_ret3
        exact ⟨rfl, HP.out⟩
      · have hhi' : ¬ (3 : Int) < x := by omega
        have hw1 : IntKind.i64.wrap (x : Int) = (x : Int) := by rw [IntKind.wrap_i64]; omega
        rcases field_two 8 c with hg | ⟨y, d, hg, hy⟩
        · have HD : Hid (headK bits = ((0, 0, 3), c)) := by show _ = _; rw [headK, hf]; simp [hg, hlo, hhi]
          rw [HD.out]
          have HG := Lib.hid hg
          clear hf hx hx' hg
          go_enter Tryz.func35, Tryz.ntmps35
          go_wp2_with fail
          refine HE.out.mono ?_
          rintro e w2 ⟨rfl, hP⟩
          have HP := Lib.hid hP
          have HE2 := Lib.hid (rfield p v bs c 8 w2 hP.1 (by omega))
          rw [HG.out] at HE2
          clear hP HE
          go_wp2_with fail
          refine HE2.out.mono ?_
          rintro e w3 ⟨rfl, hP⟩
          have HP3 := Lib.hid (rp_trans HP.out hP)
          clear hP HE2 HP
          go_wp2_with fail
          go_ret3
          exact ⟨rfl, HP3.out⟩
        · have hy' : y < 256 := by simpa using hy
          have hyi : (y : Int) < 256 := by omega
          by_cases hby : 120 ≤ y
          · have HD : Hid (headK bits = ((0, 0, 7), d)) := by show _ = _; rw [headK, hf]; simp [hg, hlo, hhi, hby]
            have hby' : (120 : Int) ≤ y := by omega
            rw [HD.out]
            have HG := Lib.hid hg
            clear hf hx hx' hg hy hy'
            go_enter Tryz.func35, Tryz.ntmps35
            go_wp2_with fail
            refine HE.out.mono ?_
            rintro e w2 ⟨rfl, hP⟩
            have HP := Lib.hid hP
            have HE2 := Lib.hid (rfield p v bs c 8 w2 hP.1 (by omega))
            rw [HG.out] at HE2
            clear hP HE
            go_wp2_with fail
            refine HE2.out.mono ?_
            rintro e w3 ⟨rfl, hP⟩
            have HP3 := Lib.hid (rp_trans HP.out hP)
            clear hP HE2 HP
            go_wp2_with fail
            go_ret3
            exact ⟨rfl, HP3.out⟩
          · have HD : Hid (headK bits = ((x, y + 1, 0), d)) := by show _ = _; rw [headK, hf]; simp [hg, hlo, hhi, hby]
            have hby' : ¬ (120 : Int) ≤ y := by omega
            have hw2 : IntKind.i64.wrap (y : Int) = (y : Int) := by rw [IntKind.wrap_i64]; omega
            rw [HD.out]
            have HG := Lib.hid hg
            clear hf hx hx' hg hy hy'
            go_enter Tryz.func35, Tryz.ntmps35
            go_wp2_with fail
            refine HE.out.mono ?_
            rintro e w2 ⟨rfl, hP⟩
            have HP := Lib.hid hP
            have HE2 := Lib.hid (rfield p v bs c 8 w2 hP.1 (by omega))
            rw [HG.out] at HE2
            clear hP HE
            go_wp2_with fail
            refine HE2.out.mono ?_
            rintro e w3 ⟨rfl, hP⟩
            have HP3 := Lib.hid (rp_trans HP.out hP)
            clear hP HE2 HP
            go_wp2_with fail
            go_ret3
            exact ⟨by go_num, HP3.out⟩
end Go.Proofs.YtgpmoimmpbkgfaaGreatDoor

end
