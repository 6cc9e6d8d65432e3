/- Texts 36. -/
import Derived.Test.YtdcgbgecbeegmaaGreatDoorMgSA
import Derived.Test.YtdcgbgecbeegmaaGreatDoorMgS34
import Derived.Shelf.Small.Bits
import Derived.Shelf.Spec.TrailingZeros
set_option linter.unusedVariables false
set_option linter.unusedSimpArgs false
set_option maxHeartbeats 400000000
set_option maxRecDepth 100000
section
namespace Go.Proofs.YtdcgbgecbeegmaaGreatDoor
open Go Go.RowKit
theorem cP {f x:Nat} (h0:x≠0) (h:x<2 ^ f):Lib.bitLenAux f x=Nat.log2 x+1:=by
 induction f generalizing x with
 | zero=>simp at h;omega
 | succ f ih=>
  rw [Lib.bitLenAux,if_neg h0]
  by_cases h1:x / 2=0
  ·have:x=1:=by omega
   subst this
   cases f<;>rfl
  ·have hl:Nat.log2 x=Nat.log2 (x / 2)+1:=by rw [Nat.log2_def x,if_pos (by omega)]
   rw [ih h1 (by rw [zDS] at h;omega),hl];omega
theorem ZZ {x:Nat} (h0:x≠0) (h:x<18446744073709551616):(64:Int)-(Lib.bitLen x:Int)=(AV x:Int):=by
 have h1:Nat.log2 x<64:=(zHE h0).2 (by simpa using h)
 rw [Lib.bitLen,cP h0 (by simpa using h),AV];omega
theorem kS (f x:Nat):Lib.ctzFrom f x=tz f x:=by
 induction f generalizing x with
 | zero=>rfl
 | succ f ih=>
  rw [Lib.ctzFrom,tz,ih]
  by_cases h:x % 2=1
  ·rw [if_pos h,if_neg (by omega)]
  ·rw [if_neg h,if_pos (by omega)]
theorem kT {x:Nat} (h0:x≠0):Lib.ctz 64 x=Av x:=by rw [Lib.ctz,if_neg h0,kS];rfl
def renL:Go.Shelf.Ren:=⟨fun | 129=>169 | 134=>292 | n=>n,fun | 3=>3 | 4=>4 | 5=>5 | 9=>9 | 46=>177 | 53=>81 | n=>n,fun n=>n⟩
theorem laysL:Go.Proofs.Lays.n134 Tryz.prog renL:={ mixed:=by kernel_rfl,f129:=Tryz.func169.trans (congrArg some (by kernel_rfl)),f134:=Tryz.func292.trans (congrArg some (by kernel_rfl)),t3:=Tryz.underlying3,a3:=Tryz.isAgg3,z3:=Tryz.sizeOf3,v3:=Tryz.zeroValue3,t4:=Tryz.underlying4,a4:=Tryz.isAgg4,z4:=Tryz.sizeOf4,v4:=Tryz.zeroValue4,t5:=Tryz.underlying5,a5:=Tryz.isAgg5,z5:=Tryz.sizeOf5,v5:=Tryz.zeroValue5,t9:=Tryz.underlying9,a9:=Tryz.isAgg9,z9:=Tryz.sizeOf9,v9:=Tryz.zeroValue9,t46:=Tryz.underlying177,a46:=Tryz.isAgg177,z46:=Tryz.sizeOf177,v46:=Tryz.zeroValue177,t53:=Tryz.underlying81,a53:=Tryz.isAgg81,z53:=Tryz.sizeOf81,v53:=Tryz.zeroValue81 }
def renT:Go.Shelf.Ren:=⟨fun | 29=>293 | n=>n,fun | 0=>0 | 3=>3 | 4=>4 | 5=>5 | 22=>81 | 25=>177 | 54=>362 | n=>n,fun | 1=>3 | n=>n⟩
theorem laysT:Go.Proofs.Lays7.n29 Tryz.prog renT:={ mixed:=by kernel_rfl,f29:=Tryz.func293.trans (congrArg some (by kernel_rfl)),t0:=Tryz.underlying0,a0:=Tryz.isAgg0,z0:=Tryz.sizeOf0,v0:=Tryz.zeroValue0,i0:=by kernel_rfl,t3:=Tryz.underlying3,a3:=Tryz.isAgg3,z3:=Tryz.sizeOf3,v3:=Tryz.zeroValue3,i3:=by kernel_rfl,t4:=Tryz.underlying4,a4:=Tryz.isAgg4,z4:=Tryz.sizeOf4,v4:=Tryz.zeroValue4,i4:=by kernel_rfl,t5:=Tryz.underlying5,a5:=Tryz.isAgg5,z5:=Tryz.sizeOf5,v5:=Tryz.zeroValue5,i5:=by kernel_rfl,t22:=Tryz.underlying81,a22:=Tryz.isAgg81,z22:=Tryz.sizeOf81,v22:=Tryz.zeroValue81,i22:=by kernel_rfl,t25:=Tryz.underlying177,a25:=Tryz.isAgg177,z25:=Tryz.sizeOf177,v25:=Tryz.zeroValue177,i25:=by kernel_rfl,t54:=Tryz.underlying362,a54:=Tryz.isAgg362,z54:=Tryz.sizeOf362,g1:=by kernel_rfl }
def JP (w:World):Prop:=TabAt 3 Lib.deBruijn64tab w
theorem JP.lt {w:World} (h:JP w) : 3 < w.heap.size:=zAP w _ (h 0 (by decide))
theorem JP.block {w w':World} (h:JP w) (hb:w'.heap[3]? = w.heap[3]?):JP w':=fun j hj=>by
 have:=h j hj
 unfold World.cell? at this ⊢
 rw [hb]
 exact this
theorem JP.below {w w':World} {B:Nat} (h:JP w) (hb:Below B w w') (hB:w.heap.size≤B):JP w':=h.block (hb.block _ (zAO h.lt hB))
theorem lz64 (x:Nat) (hx:x<18446744073709551616) (h0:x≠0) (w:World):Calls Tryz.prog 292 #[.int .u64 (x:Int)] w fun e w'=>e = .returned (.int .i64 (AV x:Int))∧w'=w:=
 (Any.bits_LeadingZeros64 laysL (x:Int) w (by omega) (by omega)).mono fun e w' h=>by
  rw [zCA,ZZ h0 hx] at h
  exact h
theorem tz64 (x:Nat) (hx:x<18446744073709551616) (h0:x≠0) (w:World) (hT:JP w):Calls Tryz.prog 293 #[.int .u64 (x:Int)] w fun e w'=>e = .returned (.int .i64 (Av x:Int))∧w'=w:=
 (Any7.bits_TrailingZeros64 laysT x hx w (fun _=>hT)).mono fun e w' h=>by
  rw [kT h0] at h
  exact h
def wl (win:Option (Nat × Nat)):Nat:=match win with | none=>0 | some (L,_)=>L
def ww (win:Option (Nat × Nat)):Nat:=match win with | none=>0 | some (L,t)=>64-L-t
def sL (win:Option (Nat × Nat)) (x:Nat):Nat:=if x=0 then 0 else if Js win x then wl win else AV x
def sW (win:Option (Nat × Nat)) (x:Nat):Nat:=if x=0 then 0 else if Js win x then ww win else 64-AV x-Av x
def sN (win:Option (Nat × Nat)) (x:Nat):Bool:=if x=0 then false else if Js win x then false else true
theorem x6:Pz Tryz.prog 281 2 [.int .i64 0,.int .i64 0]:=Pz.mk' Tryz.underlying281 rfl (by kernel_rfl) rfl
theorem R0:Pz Tryz.prog 285 3 [.int .i64 0,.int .i64 0,.bool false]:=Pz.mk' Tryz.underlying285 rfl (by kernel_rfl) rfl
theorem Pn (a b:Nat) (ha:a≤1000) (hb:b≤1000) (w:World) :
  Calls Tryz.prog 272 #[.agg #[.int .i64 (a:Int),.int .i64 (b:Int)]] w fun e w'=>e = .returned (.int .i64 ((64:Int)-(a:Int)-(b:Int)))∧Below w.heap.size w w':=by
 have ha':(a:Int)≤1000:=by omega
 have hb':(b:Int)≤1000:=by omega
 go_enter Tryz.func272,Tryz.ntmps272
 go_wp2_with fail
 go_ret
 exact ⟨rfl,(zAM _ _).alloc (zAD _) _⟩
theorem X9 (x:Nat) (hx:x<18446744073709551616) (h0:x≠0) (w:World) (hT:JP w) :
  Calls Tryz.prog 270 #[.int .u64 (x:Int)] w fun e w'=>e = .returned (.agg #[.int .i64 (AV x:Int),.int .i64 ((64-AV x-Av x:Nat):Int)])∧Below w.heap.size w w':=by
 have HW:=zAA (LE hx h0)
 have HL:=fun w=>zAA (lz64 x hx h0 w)
 have HTz:=fun w hT=>zAA (tz64 x hx h0 w hT)
 have HT:=zAA hT
 have e1:(64:Int)-(AV x:Int)-(Av x:Int)=((64-AV x-Av x:Nat):Int):=by have:=HW.out;omega
 have HE:=zAA e1
 clear e1 hT hx h0
 have hl:(AV x:Int)≤63:=by have:=HW.out;omega
 have ht:(Av x:Int)≤63:=by have:=HW.out;omega
 generalize AV x=L at *
 generalize Av x=t at *
 go_enter Tryz.func270,Tryz.ntmps270
 go_wp2_with fail
 obtain ⟨w1,Cg⟩:∃w1,w.alloc (.cells #[.int .i64 0,.int .i64 0] 281)=w1:=⟨_,rfl⟩
 have MW:Ao w1 w.heap.size [.int .i64 0,.int .i64 0]:=by rw [← Cg];exact Ao.new w _ _
 have A6:Hid (Below w.heap.size w w1):=by rw [← Cg];exact (zAM _ w).alloc (zAD _) _
 rw [Cg]
 clear Cg
 refine (HL _).out.mono ?_
 rintro e w2 ⟨rfl,nO⟩
 subst nO
 go_wp2_with fail
 refine (HTz _ (HT.out.below A6.out (zAD _))).out.mono ?_
 rintro e w2 ⟨rfl,nO⟩
 subst nO
 have c0:w2.cell? ⟨w.heap.size,0,none⟩=some (.int .i64 0):=by rw [MW.cell];rfl
 have c1:w2.cell? ⟨w.heap.size,1,none⟩=some (.int .i64 0):=by rw [MW.cell];rfl
 have f0:=MW.free 0
 have f1:=MW.free 1
 have Je:=zAA MW
 clear MW
 go_wp2_with fail
 rw [HE.out]
 refine zCB (Di (p:=2) x6 (by kernel_rfl) _ w.heap.size rfl [.int .i64 (L:Int),.int .i64 ((64-L-t:Nat):Int)] ?_ rfl) rfl ⟨rfl,?_⟩
 ·simpa using (Je.out.set 0 (.int .i64 (L:Int))).set 1 (.int .i64 ((64-L-t:Nat):Int))
 ·exact A6.out.trans (((Ac.set (fun k=>k=w.heap.size) w2 ⟨w.heap.size,0,none⟩ _ (fun _=>rfl)).trans (Ac.set (fun k=>k=w.heap.size) _ ⟨w.heap.size,1,none⟩ _ (fun _=>rfl)) (fun _ _ e=>e)).below A6.out.size (fun j hj e=>by omega))
theorem mN (L wd x:Nat) (hw:L+wd≤64) (hx:x<18446744073709551616) (h0:x≠0) (w:World) (hT:JP w) :
  Calls Tryz.prog 269 #[.agg #[.int .i64 (L:Int),.int .i64 (wd:Int)],.int .u64 (x:Int)] w fun e w'=>e = .returned (.bool (decide (L≤AV x)&&decide (64-L-wd≤Av x)))∧Below w.heap.size w w':=by
 have HL:=fun w=>zAA (lz64 x hx h0 w)
 have HTz:=fun w hT=>zAA (tz64 x hx h0 w hT)
 have qK:=fun w=>zAA (Pn L wd (by omega) (by omega) w)
 have DY:=zAA (LE hx h0)
 have HT:=zAA hT;have qL:=zAA hw
 clear hT hx h0
 generalize AV x=ld at *
 generalize Av x=tr at *
 go_enter Tryz.func269,Tryz.ntmps269
 go_wp2_with fail
 obtain ⟨w1,Cg⟩:∃w1,w.alloc (.cells #[.int .i64 (L:Int),.int .i64 (wd:Int)] 281)=w1:=⟨_,rfl⟩
 have Je:Hid (Ao w1 w.heap.size [.int .i64 (L:Int),.int .i64 (wd:Int)]):=by rw [← Cg];exact Ao.new w _ _
 have A6:Hid (Below w.heap.size w w1):=by rw [← Cg];exact (zAM _ w).alloc (zAD _) _
 rw [Cg]
 clear Cg
 have HC:Hid (∀w':World,(w'.cell? ⟨w.heap.size,0,none⟩=some (.int .i64 (L:Int))∧w'.cell? ⟨w.heap.size,1,none⟩=some (.int .i64 (wd:Int))∧True)→(w'.cell? ⟨w.heap.size,0,none⟩=some (.int .i64 (L:Int))∧w'.cell? ⟨w.heap.size,1,none⟩=some (.int .i64 (wd:Int))∧True)):=fun _ h=>h
 refine AI (fun w':World=>w'.cell? ⟨w.heap.size,0,none⟩=some (.int .i64 (L:Int))∧w'.cell? ⟨w.heap.size,1,none⟩=some (.int .i64 (wd:Int))∧True) [1,7,9] [0,2,3,1,4,5,6,8,7,9,10,11,12] (by kernel_rfl) (by kernel_rfl) (by kernel_rfl) ?_ ?_ ?_
 ·intro c a a' w hd h;exact ⟨hd ▸ h.1,h.2⟩
 ·exact ⟨by rw [World.cell?_drew,Je.out.cell];rfl,by rw [World.cell?_drew,Je.out.cell];rfl,trivial⟩
 simp only [Cj,zBC,zCP,zBE,zAY,zBM]
 repeat (first
        | (refine takeH_skip rfl ?_; simp only [Act.put, List.setIfInBounds_toArray, List.set_cons_succ, List.set_cons_zero])
        | (refine takeH_blind rfl rfl ?_; apply Exists.intro; refine ⟨fun w => ?_, ?_⟩; (go_simp; try with_reducible rfl); simp only [Act.put, List.setIfInBounds_toArray, List.set_cons_succ, List.set_cons_zero])
        | (refine takeH_reads rfl rfl ?_; apply Exists.intro; refine ⟨fun w' hS => ?_, ?_⟩; (obtain ⟨d0, d1, d2⟩ := HC.out w' hS; go_simp; try with_reducible rfl); simp only [Act.put, List.setIfInBounds_toArray, List.set_cons_succ, List.set_cons_zero]))
 refine AY rfl rfl (fun K' hK=>?_)
 go_wp2_with fail
 refine (HL _).out.mono ?_
 rintro e w2 ⟨rfl,nO⟩
 have F3:Hid (w2=w1.drew):=nO
 have HS2:Hid (w2.cell? ⟨w.heap.size,0,none⟩=some (.int .i64 (L:Int))∧w2.cell? ⟨w.heap.size,1,none⟩=some (.int .i64 (wd:Int))∧True):=by show _∧_;rw [nO];exact ⟨by rw [World.cell?_drew,Je.out.cell];rfl,by rw [World.cell?_drew,Je.out.cell];rfl,trivial⟩
 have GA:Hid (JP w2):=by show JP _;rw [nO];exact (HT.out.below A6.out (zAD _)).block rfl
 have AP:Hid (Below w.heap.size w w2):=by show Below _ _ _;rw [nO];exact A6.out.drew
 refine hK _ _ HS2.out ?_
 clear hK K' nO F3 A6 Je
 have hl63:(ld:Int)≤63:=by have:=DY.out;omega
 have ht63:(tr:Int)≤63:=by have:=DY.out;omega
 by_cases NQ:L≤ld
 ·have xr:(L:Int)≤(ld:Int):=by omega
  have SE:decide (L≤ld)=true:=by simpa using NQ
  have hd1':decide ((L:Int)≤(ld:Int))=true:=by simpa using xr
  have Ua:=zAA SE
  clear NQ SE
  repeat (first
        | (refine takeH_skip rfl ?_; simp only [Act.put, List.setIfInBounds_toArray, List.set_cons_succ, List.set_cons_zero])
        | (refine takeH_blind rfl rfl ?_; apply Exists.intro; refine ⟨fun w => ?_, ?_⟩; (go_simp; try with_reducible rfl); simp only [Act.put, List.setIfInBounds_toArray, List.set_cons_succ, List.set_cons_zero])
        | (refine takeH_reads rfl rfl ?_; apply Exists.intro; refine ⟨fun w' hS => ?_, ?_⟩; (obtain ⟨d0, d1, d2⟩ := HC.out w' hS; go_simp; try with_reducible rfl); simp only [Act.put, List.setIfInBounds_toArray, List.set_cons_succ, List.set_cons_zero]))
  refine AY rfl rfl (fun K' hK=>?_)
  go_wp2_with fail
  refine (HTz _ GA.out).out.mono ?_
  rintro e w3 ⟨rfl,nO⟩
  subst nO
  refine hK _ _ HS2.out ?_
  clear hK K'
  repeat (first
        | (refine takeH_skip rfl ?_; simp only [Act.put, List.setIfInBounds_toArray, List.set_cons_succ, List.set_cons_zero])
        | (refine takeH_blind rfl rfl ?_; apply Exists.intro; refine ⟨fun w => ?_, ?_⟩; (go_simp; try with_reducible rfl); simp only [Act.put, List.setIfInBounds_toArray, List.set_cons_succ, List.set_cons_zero])
        | (refine takeH_reads rfl rfl ?_; apply Exists.intro; refine ⟨fun w' hS => ?_, ?_⟩; (obtain ⟨d0, d1, d2⟩ := HC.out w' hS; go_simp; try with_reducible rfl); simp only [Act.put, List.setIfInBounds_toArray, List.set_cons_succ, List.set_cons_zero]))
  refine AY rfl rfl (fun K' hK=>?_)
  go_wp2_with fail
  refine (qK _).out.mono ?_
  rintro e w4 ⟨rfl,Yp⟩
  have CF:Hid (Below w.heap.size w w4):=AP.out.trans (Yp.mono AP.out.size)
  refine hK _ _ ⟨(Yp.cell (zAP w3 _ HS2.out.1)).trans HS2.out.1,(Yp.cell (zAP w3 _ HS2.out.2.1)).trans HS2.out.2.1,trivial⟩ ?_
  clear hK K' Yp
  have e2:(64:Int)-(L:Int)-(wd:Int)=((64-L-wd:Nat):Int):=by have:=qL.out;omega
  have vp:Hid (decide (64-L-wd≤tr)=decide (((64-L-wd:Nat):Int)≤(tr:Int))):=by show _=_;rw [zHB];omega
  rw [e2]
  clear e2
  generalize ((64-L-wd:Nat):Int)=T at *
  repeat (first
        | (refine takeH_skip rfl ?_; simp only [Act.put, List.setIfInBounds_toArray, List.set_cons_succ, List.set_cons_zero])
        | (refine takeH_blind rfl rfl ?_; apply Exists.intro; refine ⟨fun w => ?_, ?_⟩; (go_simp; try with_reducible rfl); simp only [Act.put, List.setIfInBounds_toArray, List.set_cons_succ, List.set_cons_zero])
        | (refine takeH_reads rfl rfl ?_; apply Exists.intro; refine ⟨fun w' hS => ?_, ?_⟩; (obtain ⟨d0, d1, d2⟩ := HC.out w' hS; go_simp; try with_reducible rfl); simp only [Act.put, List.setIfInBounds_toArray, List.set_cons_succ, List.set_cons_zero]))
  refine Bv ?_
  go_wp2_with fail
  go_ret
  exact ⟨by rw [Ua.out,vp.out];rfl,CF.out⟩
 ·have xr:¬(L:Int)≤(ld:Int):=by omega
  have SE:decide (L≤ld)=false:=by simpa using NQ
  have hd1':decide ((L:Int)≤(ld:Int))=false:=by simpa using xr
  have Ua:=zAA SE
  clear NQ SE
  repeat (first
        | (refine takeH_skip rfl ?_; simp only [Act.put, List.setIfInBounds_toArray, List.set_cons_succ, List.set_cons_zero])
        | (refine takeH_blind rfl rfl ?_; apply Exists.intro; refine ⟨fun w => ?_, ?_⟩; (go_simp; try with_reducible rfl); simp only [Act.put, List.setIfInBounds_toArray, List.set_cons_succ, List.set_cons_zero])
        | (refine takeH_reads rfl rfl ?_; apply Exists.intro; refine ⟨fun w' hS => ?_, ?_⟩; (obtain ⟨d0, d1, d2⟩ := HC.out w' hS; go_simp; try with_reducible rfl); simp only [Act.put, List.setIfInBounds_toArray, List.set_cons_succ, List.set_cons_zero]))
  refine Bv ?_
  go_wp2_with fail
  go_ret
  exact ⟨by rw [Ua.out];rfl,AP.out⟩
theorem Rb (g:Nat) (win:Option (Nat × Nat)) (x:Nat) (ho:pG win) (hx:x<18446744073709551616) (w:World) (hT:JP w) (c1:w.cell? ⟨g,1,none⟩=some (.int .i64 (wl win:Int))) (c2:w.cell? ⟨g,2,none⟩=some (.int .i64 (ww win:Int))) :
  Calls Tryz.prog 227 #[.pointer (some ⟨g,0,none⟩),.int .u64 (x:Int)] w fun e w'=>e = .returned (.agg #[.int .i64 (sL win x:Int),.int .i64 (sW win x:Int),.bool (sN win x)])∧Below w.heap.size w w':=by
 have HT:=zAA hT
 have HG:Hid (g<w.heap.size):=zAP w _ c1
 obtain ⟨w1,Cg⟩:∃w1,w.alloc (.cells #[.int .i64 0,.int .i64 0,.bool false] 285)=w1:=⟨_,rfl⟩
 have Je:Hid (Ao w1 w.heap.size [.int .i64 0,.int .i64 0,.bool false]):=by rw [← Cg];exact Ao.new w _ _
 have A6:Hid (Below w.heap.size w w1):=by rw [← Cg];exact (zAM _ w).alloc (zAD _) _
 have Wr:Hid (w1.cell? ⟨g,1,none⟩=some (.int .i64 (wl win:Int))∧w1.cell? ⟨g,2,none⟩=some (.int .i64 (ww win:Int))):=⟨(A6.out.cell HG.out).trans c1,(A6.out.cell HG.out).trans c2⟩
 obtain ⟨⟨d0,d1,d2⟩,f0,f1,f2⟩:=Je.out.three
 clear hT c1 c2
 go_enter Tryz.func227,Tryz.ntmps227
 by_cases h0:x=0
 ·subst h0
  go_wp2_with fail
  refine zCB (Di (p:=4) R0 (by kernel_rfl) _ w.heap.size rfl [.int .i64 0,.int .i64 0,.bool false] (Je.out.fi _ _ _) rfl) rfl ⟨rfl,?_⟩
  exact A6.out.trans ((Er _ _ _ _ _).below A6.out.size (fun j hj e=>by omega))
 ·have h0b:((x:Int) == 0)=false:=by rw [zAQ];omega
  have JL:=zAA (HT.out.below A6.out (zAD _))
  have wj:∀w2,Hid (Below w1.heap.size w1 w2)→Hid (Calls Tryz.prog 270 #[.int .u64 (x:Int)] w2 fun e w'=>e = .returned (.agg #[.int .i64 (AV x:Int),.int .i64 ((64-AV x-Av x:Nat):Int)])∧Below w2.heap.size w2 w'):=fun w2 h=>X9 x hx h0 w2 (JL.out.block (h.out.block _ JL.out.lt))
  match win,ho,Wr with
  | none,ho,Wr=>
   obtain ⟨e1,e2⟩:=Wr.out
   simp only [wl,ww] at e1 e2
   go_wp2_with fail
   have HI:Hid (Below w1.heap.size w1 w1):=zAM _ _
   refine (wj _ HI).out.mono ?_
   rintro e w3 ⟨rfl,FG⟩
   have GF:=zAA (Je.out.of_same (FG.block _ Je.out.lt))
   have BS:Hid (Below w.heap.size w w3):=A6.out.trans (FG.mono A6.out.size)
   clear FG d0 d1 d2 f0 f1 f2
   obtain ⟨⟨d0,d1,d2⟩,f0,f1,f2⟩:=GF.out.three
   obtain ⟨wd,sM⟩:∃wd,64-AV x-Av x=wd:=⟨_,rfl⟩
   have qL:=zAA sM
   rw [sM]
   clear sM
   go_wp2_with fail
   have hs:sL none x=AV x∧sW none x=wd∧sN none x=true:=by simp only [sL,sW,sN,h0,Js,qL.out,zFK,zDC];exact ⟨trivial,trivial,trivial⟩
   refine zCB (Di (p:=4) R0 (by kernel_rfl) _ w.heap.size rfl [.int .i64 (AV x:Int),.int .i64 (wd:Int),.bool true] (GF.out.fi _ _ _) rfl) rfl ⟨by rw [hs.1,hs.2.1,hs.2.2],?_⟩
   exact BS.out.trans ((Er _ _ _ _ _).below BS.out.size (fun j hj e=>by omega))
  | some (L,t),ho,Wr=>
   have NQ:=ho L t rfl
   obtain ⟨e1,e2⟩:=Wr.out
   simp only [wl,ww] at e1 e2
   have HF:=zAA (mN L (64-L-t) x (by omega) hx h0 w1 JL.out)
   have hwb:(((64-L-t:Nat):Int) == 0)=false:=by rw [zAQ];omega
   rw [show 64-L-(64-L-t)=t by omega] at HF
   have HFt:Hid (Js (some (L,t)) x=(decide (L≤AV x)&&decide (t≤Av x))):=rfl
   rw [← HFt.out] at HF
   have qL:Hid (ww (some (L,t))=64-L-t):=rfl
   clear HFt
   generalize 64-L-t=wd at *
   go_wp2_with fail
   refine HF.out.mono ?_
   rintro e w2 ⟨rfl,EP⟩
   have E4:=zAA (Je.out.of_same (EP.block _ Je.out.lt))
   have AP:=zAA EP
   have RP:Hid (w2.cell? ⟨g,1,none⟩=some (.int .i64 (L:Int))∧w2.cell? ⟨g,2,none⟩=some (.int .i64 (wd:Int))):=⟨(EP.cell (zAP w1 _ e1)).trans e1,(EP.cell (zAP w1 _ e2)).trans e2⟩
   clear EP d0 d1 d2 f0 f1 f2 e1 e2
   obtain ⟨⟨d0,d1,d2⟩,f0,f1,f2⟩:=E4.out.three
   obtain ⟨e1,e2⟩:=RP.out
   by_cases hf:Js (some (L,t)) x=true
   ·rw [hf]
    have HFf:=zAA hf
    clear hf
    go_wp2_with fail
    have hs:sL (some (L,t)) x=L∧sW (some (L,t)) x=wd∧sN (some (L,t)) x=false:=by simp only [sL,sW,sN,h0,HFf.out,qL.out,wl,zFK,zHC];exact ⟨trivial,trivial,trivial⟩
    refine zCB (Di (p:=4) R0 (by kernel_rfl) _ w.heap.size rfl [.int .i64 (L:Int),.int .i64 (wd:Int),.bool false] (E4.out.fi _ _ _) rfl) rfl ⟨by rw [hs.1,hs.2.1,hs.2.2],?_⟩
    exact (A6.out.trans (AP.out.mono A6.out.size)).trans ((Er _ _ _ _ _).below (zAW A6.out.size AP.out.size) (fun j hj e=>by omega))
   ·have hf:Js (some (L,t)) x=false:=by simpa using hf
    rw [hf]
    have HFf:=zAA hf
    clear hf
    go_wp2_with fail
    refine (wj _ AP).out.mono ?_
    rintro e w3 ⟨rfl,FG⟩
    have GF:=zAA (E4.out.of_same (FG.block _ E4.out.lt))
    have BS:Hid (Below w.heap.size w w3):=(A6.out.trans (AP.out.mono A6.out.size)).trans (FG.mono (zAW A6.out.size AP.out.size))
    clear FG d0 d1 d2 f0 f1 f2
    obtain ⟨⟨d0,d1,d2⟩,f0,f1,f2⟩:=GF.out.three
    obtain ⟨wd2,sM⟩:∃wd2,64-AV x-Av x=wd2:=⟨_,rfl⟩
    have HWd2:=zAA sM
    rw [sM]
    clear sM
    go_wp2_with fail
    have hs:sL (some (L,t)) x=AV x∧sW (some (L,t)) x=wd2∧sN (some (L,t)) x=true:=by simp only [sL,sW,sN,h0,HFf.out,HWd2.out,zFK,zDC];exact ⟨trivial,trivial,trivial⟩
    refine zCB (Di (p:=4) R0 (by kernel_rfl) _ w.heap.size rfl [.int .i64 (AV x:Int),.int .i64 (wd2:Int),.bool true] (GF.out.fi _ _ _) rfl) rfl ⟨by rw [hs.1,hs.2.1,hs.2.2],?_⟩
    exact BS.out.trans ((Er _ _ _ _ _).below BS.out.size (fun j hj e=>by omega))
def ml (last x L wd a b:Nat) (c:Bool):List Value:=[.int .u64 ((last ^^^ x:Nat):Int),.int .i64 ((if c then a else L:Nat):Int),.int .i64 ((if c then b else wd:Nat):Int)]
theorem Ao.wG {w:World} {g:Nat} {a b c:Value} {rest:List Value} (h:Ao w g (a::b::c::rest)):(w.cell? ⟨g,0,none⟩=some a∧w.cell? ⟨g,1,none⟩=some b∧w.cell? ⟨g,2,none⟩=some c)∧(w.frozen? ⟨g,0,none⟩=false∧w.frozen? ⟨g,1,none⟩=false∧w.frozen? ⟨g,2,none⟩=false):=
 ⟨⟨by rw [h.cell];rfl,by rw [h.cell];rfl,by rw [h.cell];rfl⟩,h.free 0,h.free 1,h.free 2⟩
theorem Qw (g last x L wd a b:Nat) (c:Bool) (rest:List Value) (hla:last<18446744073709551616) (hx:x<18446744073709551616) (w:World) (h:Ao w g ([.int .u64 (last:Int),.int .i64 (L:Int),.int .i64 (wd:Int)]++rest)) :
  Calls Tryz.prog 228 #[.pointer (some ⟨g,0,none⟩),.int .u64 (x:Int),.agg #[.int .i64 (a:Int),.int .i64 (b:Int),.bool c]] w fun e w'=>e = .returned (.tuple #[])∧Ao w' g (ml last x L wd a b c++rest)∧Ac (fun k=>k=g) w w':=by
 have HX:Hid (bits .xor .u64 (last:Int) (x:Int)=((last ^^^ x:Nat):Int)):=bits_xor_u64_nat last x hla hx
 obtain ⟨w1,Cg⟩:∃w1,w.alloc (.cells #[.int .i64 (a:Int),.int .i64 (b:Int),.bool c] 285)=w1:=⟨_,rfl⟩
 have Je:Hid (Ao w1 w.heap.size [.int .i64 (a:Int),.int .i64 (b:Int),.bool c]):=by rw [← Cg];exact Ao.new w _ _
 have A6:Hid (Below w.heap.size w w1):=by rw [← Cg];exact (zAM _ w).alloc (zAD _) _
 have HG:Hid (g<w.heap.size):=h.lt
 have HS1:Hid (Ao w1 g (.int .u64 (last:Int) :: .int .i64 (L:Int) :: .int .i64 (wd:Int)::rest)):=h.of_same (A6.out.block _ HG.out)
 obtain ⟨⟨d0,d1,d2⟩,_⟩:=Je.out.three
 obtain ⟨⟨s0,s1,s2⟩,f0,f1,f2⟩:=HS1.out.wG
 have BC:w.heap.size≠g:=by have:=HG.out;omega
 have hne':g≠w.heap.size:=by have:=HG.out;omega
 clear h
 cases c with
 | true=>
  go_enter Tryz.func228,Tryz.ntmps228
  go_wp2_with fail
  go_end0
  rw [HX.out]
  refine ⟨rfl,?_,?_⟩
  ·simpa [ml] using ((HS1.out.set 0 (.int .u64 ((last ^^^ x:Nat):Int))).set 1 (.int .i64 (a:Int))).set 2 (.int .i64 (b:Int))
  ·exact (Ac.Ah A6.out _).trans (Er w1 g _ _ _) (fun _ _ e=>e)
 | false=>
  go_enter Tryz.func228,Tryz.ntmps228
  go_wp2_with fail
  go_end0
  rw [HX.out]
  refine ⟨rfl,?_,?_⟩
  ·simpa [ml] using HS1.out.set 0 (.int .u64 ((last ^^^ x:Nat):Int))
  ·exact (Ac.Ah A6.out _).trans (Ac.set (fun k=>k=g) w1 ⟨g,0,none⟩ _ (fun _=>rfl)) (fun _ _ e=>e)
def TB (a b:Nat) (c:Bool):Nat:=if a=0∧b=0 then 1 else if c then 14+b else 2+b
theorem kC (a b:Nat) (c:Bool) (Gz:(a=0∧b=0)∨1≤b) (hb:b≤1000) (ha:a≤1000) (w:World) :
  Calls Tryz.prog 229 #[.agg #[.int .i64 (a:Int),.int .i64 (b:Int),.bool c]] w fun e w'=>e = .returned (.int .i64 (TB a b c:Int))∧Below w.heap.size w w':=by
 have hb':(b:Int)≤1000:=by omega
 rcases Gz with ⟨rfl,rfl⟩ | h1
 ·go_enter Tryz.func229,Tryz.ntmps229
  go_wp2_with fail
  go_ret
  exact ⟨rfl,(zAM _ w).alloc (zAD _) _⟩
 ·have hbb:((b:Int) == 0)=false:=by rw [zAQ];omega
  have RW:(1:Int)≤(b:Int):=by omega
  have HN:Hid ¬(a=0∧b=0):=by show ¬_;omega
  have lf:Hid (TB a b true=14+b):=by show _=_;rw [TB,if_neg HN.out,if_pos rfl]
  have YH:Hid (TB a b false=2+b):=by show _=_;rw [TB,if_neg HN.out,if_neg (by decide)]
  cases c with
  | true=>
   go_enter Tryz.func229,Tryz.ntmps229
   go_wp2_with fail
   go_ret
   exact ⟨by rw [lf.out];go_num,(zAM _ w).alloc (zAD _) _⟩
  | false=>
   go_enter Tryz.func229,Tryz.ntmps229
   go_wp2_with fail
   go_ret
   exact ⟨by rw [YH.out];go_num,(zAM _ w).alloc (zAD _) _⟩
theorem JE.Ah {w w':World} (h:Below w.heap.size w w') (p:Nat) (v:Value):JE w w' p v v:=⟨Ac.Ah h _,AG.refl _ _⟩
theorem JE.keep {w w':World} {p:Nat} {v v':Value} (h:JE w w' p v v') {a:Addr} {u:Value} (hc:w.cell? a=some u) (h1:a.block≠p) (h2:v.ownBlock≠some a.block):w'.cell? a=some u∧v'.ownBlock≠some a.block:=
 ⟨h.Ai.cell hc (fun e=>e.elim h1 h2),fun e=>(h.fresh _ e).elim h2 (fun k=>by have:=zAP w a hc;omega)⟩
def Le (a b:Nat) (c:Bool):List Bool:=if a=0∧b=0 then [false] else if c then [true,true]++(Aa a 6++Aa (b-1) 6) else [true,false]
structure Gj (g p B a b:Nat) (c:Bool) (w:World) (v:Value) (out:List Bool) (w':World) (v':Value):Prop where
 wr:Ay w' p v' out
 Jd:JE w w' p v v'
 c3:w'.cell? ⟨g,3,none⟩=some (.pointer (some ⟨p,0,none⟩))
 b0:w'.cell? ⟨B,0,none⟩=some (.int .i64 (a:Int))
 b1:w'.cell? ⟨B,1,none⟩=some (.int .i64 (b:Int))
 b2:w'.cell? ⟨B,2,none⟩=some (.bool c)
 gp:g≠p
 gv:v'.ownBlock≠some g
 bp:B≠p
 bv:v'.ownBlock≠some B
theorem Gj.next {g p B a b:Nat} {c:Bool} {w w1 w2:World} {v v1 v2:Value} {out out2:List Bool} (h:Gj g p B a b c w v out w1 v1) (hw:Ay w2 p v2 out2) (hu:JE w1 w2 p v1 v2):Gj g p B a b c w v out2 w2 v2:=by
 obtain ⟨k1,k2⟩:=hu.keep h.c3 h.gp h.gv
 obtain ⟨k3,k4⟩:=hu.keep h.b0 h.bp h.bv
 obtain ⟨k5,_⟩:=hu.keep h.b1 h.bp h.bv
 obtain ⟨k6,_⟩:=hu.keep h.b2 h.bp h.bv
 exact ⟨hw,h.Jd.trans hu,k1,k3,k5,k6,h.gp,k2,h.bp,k4⟩
theorem Gj.drew {g p B a b:Nat} {c:Bool} {w w1:World} {v v1:Value} {out:List Bool} (h:Gj g p B a b c w v out w1 v1):Gj g p B a b c w v out w1.drew v1:=
 h.next (h.wr.Ai (Ac.drew (fun _=>False) w1) (fun e=>e) (fun _ _ e=>e)) ⟨Ac.drew _ _,AG.refl _ _⟩
theorem Gj.bits {g p B a b:Nat} {c:Bool} {w w1:World} {v v1:Value} {out:List Bool} (h:Gj g p B a b c w v out w1 v1) (x n:Nat) (hn:n≤64) (hb:out.length+64≤1125899906842624) :
  Calls Tryz.prog 137 #[.pointer (some ⟨p,0,none⟩),.int .u64 (x:Int),.int .i64 (n:Int)] w1 fun e w2=>e = .returned (.int .i64 0)∧∃v2,Gj g p B a b c w v (out++Aa x n) w2 v2∧w2.heap[g]? = w1.heap[g]?:=
 (KA p v1 out x n w1 h.wr hn hb).mono fun e w2 hp=>by
  obtain ⟨he,v2,hw,hu⟩:=hp
  exact ⟨he,v2,h.next hw hu,hu.Ai.block _ (zAP w1 _ h.c3) (fun e=>e.elim h.gp h.gv)⟩
theorem aE (g p a b:Nat) (c:Bool) (v:Value) (bits:List Bool) (w:World) (hW:Ay w p v bits) (h3:w.cell? ⟨g,3,none⟩=some (.pointer (some ⟨p,0,none⟩))) (nn:g≠p) (yM:v.ownBlock≠some g) (Gz:(a=0∧b=0)∨1≤b) (ha:a≤63) (hb:b≤64) (hz:bits.length+100≤1125899906842624) :
  Calls Tryz.prog 271 #[.pointer (some ⟨g,0,none⟩),.agg #[.int .i64 (a:Int),.int .i64 (b:Int),.bool c]] w fun e w'=>e = .returned (.tuple #[])∧Cy p v (bits++Le a b c) w w':=by
 have hb':(b:Int)≤64:=by omega
 have ha':(a:Int)≤63:=by omega
 have HZ:Hid (bits.length+100≤1125899906842624):=hz
 obtain ⟨w1,Cg⟩:∃w1,w.alloc (.cells #[.int .i64 (a:Int),.int .i64 (b:Int),.bool c] 285)=w1:=⟨_,rfl⟩
 have Je:Hid (Ao w1 w.heap.size [.int .i64 (a:Int),.int .i64 (b:Int),.bool c]):=by rw [← Cg];exact Ao.new w _ _
 have A6:Hid (Below w.heap.size w w1):=by rw [← Cg];exact (zAM _ w).alloc (zAD _) _
 have fL:Hid (Gj g p w.heap.size a b c w v bits w1 v):=by
  have gD:=hW.AM.lt
  exact ⟨hW.below A6.out,JE.Ah A6.out _ _,(A6.out.cell (zAP w _ h3)).trans h3,Je.out.three.1.1,Je.out.three.1.2.1,Je.out.three.1.2.2,nn,yM,by omega,fun e=>by have:=Ef hW.own _ e;omega⟩
 have d2:w1.cell? ⟨w.heap.size,2,none⟩=some (.bool c):=Je.out.three.1.2.2
 have d0:=fL.out.b0
 have d1:=fL.out.b1
 have d3:=fL.out.c3
 clear hW h3 hz
 rcases Gz with ⟨rfl,rfl⟩ | h1
 ·have Xn:((0:Nat):Int)=0:=rfl
  rw [Xn] at Cg d0 d1 ⊢
  clear Xn
  have bS:=zAA (fL.out.bits 0 1 (by omega) (by have:=HZ.out;omega))
  go_enter Tryz.func271,Tryz.ntmps271
  go_wp2_with fail
  refine bS.out.mono ?_
  rintro e w2 ⟨rfl,v2,un,_⟩
  have Ye:=zAA un
  clear un
  go_wp2_with fail
  go_end0
  exact ⟨rfl,v2,Ye.out.wr,Ye.out.Jd⟩
 ·have hbb:((b:Int) == 0)=false:=by rw [zAQ];omega
  have RW:(1:Int)≤(b:Int):=by omega
  have HN:Hid ¬(a=0∧b=0):=by show ¬_;omega
  cases c with
  | false=>
   go_enter Tryz.func271,Tryz.ntmps271
   have bS:=zAA (fL.out.bits 2 2 (by omega) (by have:=HZ.out;omega))
   go_wp2_with fail
   refine bS.out.mono ?_
   rintro e w2 ⟨rfl,v2,un,_⟩
   have Ye:=zAA un
   clear un
   go_wp2_with fail
   go_end0
   refine ⟨rfl,v2,?_,Ye.out.Jd⟩
   rw [Le,if_neg HN.out,if_neg (by decide)]
   exact Ye.out.wr
  | true=>
   go_enter Tryz.func271,Tryz.ntmps271
   have bS:=zAA (fL.out.bits 3 2 (by omega) (by have:=HZ.out;omega))
   go_wp2_with fail
   refine bS.out.mono ?_
   rintro e w2 ⟨rfl,v2,un,_⟩
   have Ye:=zAA un.drew
   clear un bS
   have HC:Hid (∀w':World,(w'.cell? ⟨g,3,none⟩=some (.pointer (some ⟨p,0,none⟩))∧w'.cell? ⟨w.heap.size,0,none⟩=some (.int .i64 (a:Int))∧w'.cell? ⟨w.heap.size,1,none⟩=some (.int .i64 (b:Int)))→(w'.cell? ⟨g,3,none⟩=some (.pointer (some ⟨p,0,none⟩))∧w'.cell? ⟨w.heap.size,0,none⟩=some (.int .i64 (a:Int))∧w'.cell? ⟨w.heap.size,1,none⟩=some (.int .i64 (b:Int)))):=fun _ h=>h
   go_wp2_with fail
   refine AI (fun w':World=>w'.cell? ⟨g,3,none⟩=some (.pointer (some ⟨p,0,none⟩))∧w'.cell? ⟨w.heap.size,0,none⟩=some (.int .i64 (a:Int))∧w'.cell? ⟨w.heap.size,1,none⟩=some (.int .i64 (b:Int))) [8] [0,1,2,3,4,5,6,7,8] (by kernel_rfl) (by kernel_rfl) (by kernel_rfl) ?_ ?_ ?_
   ·intro c a a' w hd h;exact ⟨hd ▸ h.1,h.2⟩
   ·exact ⟨Ye.out.c3,Ye.out.b0,Ye.out.b1⟩
   simp only [Cj,zBC,zCP,zBE,zAY,zBM]
   repeat (first
        | (refine takeH_skip rfl ?_; simp only [Act.put, List.setIfInBounds_toArray, List.set_cons_succ, List.set_cons_zero])
        | (refine takeH_blind rfl rfl ?_; apply Exists.intro; refine ⟨fun w => ?_, ?_⟩; (go_simp; try with_reducible rfl); simp only [Act.put, List.setIfInBounds_toArray, List.set_cons_succ, List.set_cons_zero])
        | (refine takeH_reads rfl rfl ?_; apply Exists.intro; refine ⟨fun w' hS => ?_, ?_⟩; (obtain ⟨d0, d1, d2⟩ := HC.out w' hS; go_simp; try with_reducible rfl); simp only [Act.put, List.setIfInBounds_toArray, List.set_cons_succ, List.set_cons_zero]))
   refine AY rfl rfl (fun K' hK=>?_)
   go_wp2_with fail
   have bS:=zAA (Ye.out.bits a 6 (by omega) (by have:=HZ.out;rw [zAB,Ae];omega))
   refine bS.out.mono ?_
   rintro e w3 ⟨rfl,v3,hH3,_⟩
   refine hK _ _ ⟨hH3.c3,hH3.b0,hH3.b1⟩ ?_
   have YE:=zAA hH3.drew
   clear hH3 bS Ye hK K'
   refine Bv ?_
   have e1:(b:Int)-1=((b-1:Nat):Int):=by omega
   have LQ:((b-1:Nat):Int)≤63:=by omega
   have bS:=zAA (YE.out.bits (b-1) 6 (by omega) (by have:=HZ.out;rw [zAB,zAB,Ae,Ae];omega))
   have AP:Hid (Le a b true=[true,true]++(Aa a 6++Aa (b-1) 6)):=by show _=_;rw [Le,if_neg HN.out,if_pos rfl]
   generalize b-1=bm at *
   go_wp2_with fail
   refine AI (fun w':World=>w'.cell? ⟨g,3,none⟩=some (.pointer (some ⟨p,0,none⟩))∧w'.cell? ⟨w.heap.size,0,none⟩=some (.int .i64 (a:Int))∧w'.cell? ⟨w.heap.size,1,none⟩=some (.int .i64 (b:Int))) [9] [0,1,2,3,4,5,6,7,8,9] (by kernel_rfl) (by kernel_rfl) (by kernel_rfl) ?_ ?_ ?_
   ·intro c a a' w hd h;exact ⟨hd ▸ h.1,h.2⟩
   ·exact ⟨YE.out.c3,YE.out.b0,YE.out.b1⟩
   simp only [Cj,zBC,zCP,zBE,zAY,zBM]
   repeat (first
        | (refine takeH_skip rfl ?_; simp only [Act.put, List.setIfInBounds_toArray, List.set_cons_succ, List.set_cons_zero])
        | (refine takeH_blind rfl rfl ?_; apply Exists.intro; refine ⟨fun w => ?_, ?_⟩; (go_simp; try with_reducible rfl); simp only [Act.put, List.setIfInBounds_toArray, List.set_cons_succ, List.set_cons_zero])
        | (refine takeH_reads rfl rfl ?_; apply Exists.intro; refine ⟨fun w' hS => ?_, ?_⟩; (obtain ⟨d0, d1, d2⟩ := HC.out w' hS; go_simp; try with_reducible rfl); simp only [Act.put, List.setIfInBounds_toArray, List.set_cons_succ, List.set_cons_zero]))
   refine AY rfl rfl (fun K' hK=>?_)
   go_wp2_with fail
   refine bS.out.mono ?_
   rintro e w4 ⟨rfl,v4,hH4,_⟩
   refine hK _ _ ⟨hH4.c3,hH4.b0,hH4.b1⟩ ?_
   have rj:=zAA hH4
   clear hH4 bS YE hK K'
   refine Bv ?_
   go_wp2_with fail
   go_end0
   refine ⟨rfl,v4,?_,rj.out.Jd⟩
   rw [AP.out,← zAK,← zAK]
   exact rj.out.wr
theorem TC (win:Option (Nat × Nat)) (last value:Nat):ml last (value ^^^ last) (wl win) (ww win) (sL win (value ^^^ last)) (sW win (value ^^^ last)) (sN win (value ^^^ last))=[.int .u64 (value:Int),.int .i64 (wl (Dg win (value ^^^ last)):Int),.int .i64 (ww (Dg win (value ^^^ last)):Int)]:=by
 have e:last ^^^ (value ^^^ last)=value:=by rw [Nat.xor_comm value,← zFJ,Nat.xor_self,Nat.zero_xor]
 rw [ml,e,Dg,sL,sW,sN]
 by_cases h0:value ^^^ last=0
 ·simp only [h0,zHC,zDC,zFK]
 ·by_cases hf:Js win (value ^^^ last)=true
  ·simp only [h0,hf,zHC,zDC,zFK]
  ·simp only [h0,hf,zHC,zDC,zFK];rfl
theorem Wf {win:Option (Nat × Nat)} (ho:pG win) {x:Nat} (hx:x<18446744073709551616):((sL win x=0∧sW win x=0)∨1≤sW win x)∧sL win x≤63∧sW win x≤64∧sL win x+sW win x≤64:=by
 rw [sL,sW]
 by_cases h0:x=0
 ·simp only [h0,zHC];exact ⟨Or.inl ⟨trivial,trivial⟩,by omega,by omega,by omega⟩
 ·by_cases hf:Js win x=true
  ·simp only [h0,hf,zHC,zFK]
   cases win with
   | none=>cases hf
   | some w=>obtain ⟨L,t⟩:=w;have:=ho L t rfl;simp only [wl,ww];omega
  ·simp only [h0,hf,zFK,zDC]
   have:=LE hx h0;omega
theorem We {win:Option (Nat × Nat)} (ho:pG win) {x:Nat} (hx:x<18446744073709551616):Le (sL win x) (sW win x) (sN win x)++Aa (x / 2 ^ (64-sL win x-sW win x)) (sW win x)=GC win x:=by
 unfold sL sW sN GC
 by_cases h0:x=0
 ·simp only [h0,zHC,Le,and_self,Nat.zero_div];rfl
 ·by_cases hf:Js win x=true
  ·simp only [h0,hf,zHC,zFK]
   cases win with
   | none=>cases hf
   | some w=>
    obtain ⟨L,t⟩:=w
    have:=ho L t rfl
    simp only [wl,ww]
    rw [Le,if_neg (by omega),if_neg (by decide),show 64-L-(64-L-t)=t by omega]
  ·have lj:Js win x=false:=by simpa using hf
   have hw:=LE hx h0
   simp only [h0,lj,zFK,zDC]
   rw [Le,if_neg (by omega),if_pos rfl,show 64-AV x-(64-AV x-Av x)=Av x by omega,show 64-AV x-Av x-1=63-AV x-Av x by omega,zAK,zAK]
   cases win with
   | none=>rfl
   | some w=>obtain ⟨L,t⟩:=w;rfl
theorem jh (a b:Nat) (c:Bool):(Le a b c).length≤14:=by
 unfold Le
 split
 ·simp
 ·split
  ·simp only [zAB,Ae,zAH,zBG];omega
  ·simp
structure fI (g p:Nat) (v:Value) (bits:List Bool) (last:Nat) (win:Option (Nat × Nat)) (w:World):Prop where
 AM:Ao w g [.int .u64 (last:Int),.int .i64 (wl win:Int),.int .i64 (ww win:Int),.pointer (some ⟨p,0,none⟩)]
 wr:Ay w p v bits
 gp:g≠p
 gv:v.ownBlock≠some g
 yc:JP w
 tg : 3≠g
 tp : 3≠p
 tv:v.ownBlock≠some 3
 la:last<18446744073709551616
 ok:pG win
theorem tD (g p:Nat) (v:Value) (bs:List Bool) (last value:Nat) (win:Option (Nat × Nat)) (w:World) (h:fI g p v bs last win w) (hv:value<18446744073709551616) (hz:bs.length+200≤1125899906842624) :
  Calls Tryz.prog 230 #[.pointer (some ⟨g,0,none⟩),.int .u64 (value:Int)] w fun e w'=>e = .returned (.tuple #[])∧∃v',fI g p v' (bs++GC win (value ^^^ last)) value (Dg win (value ^^^ last)) w'∧Ac (fun k=>k=g∨k=p∨v.ownBlock=some k) w w'∧AG w.heap.size v v':=by
 have H:=zAA h
 have HX:Hid (bits .xor .u64 (value:Int) (last:Int)=((value ^^^ last:Nat):Int)):=bits_xor_u64_nat value last hv h.la
 have hx:value ^^^ last<18446744073709551616:=TT hv h.la
 have c0:w.cell? ⟨g,0,none⟩=some (.int .u64 (last:Int)):=by rw [h.AM.cell];rfl
 have BH:=zAA (Rb g win (value ^^^ last) h.ok hx w h.yc (by rw [h.AM.cell];rfl) (by rw [h.AM.cell];rfl))
 have zq:=zAA (TC win last value)
 have lH:=zAA (Wf h.ok hx)
 have HBi:=zAA (We h.ok hx)
 have zM:=zAA hx
 have HZ:=zAA hz
 have HV:=zAA hv
 have Gy:Hid (pG (Dg win (value ^^^ last))):=S6 h.ok hx
 clear h hx hz hv
 generalize value ^^^ last=x at *
 generalize sL win x=a at *
 generalize sW win x=b at *
 generalize sN win x=c at *
 generalize GC win x=E at *
 generalize Dg win x=win' at *
 go_enter Tryz.func230,Tryz.ntmps230
 go_wp2_with fail
 rw [HX.out]
 go_wp2_with fail
 refine BH.out.mono ?_
 rintro e w2 ⟨rfl,EP⟩
 obtain ⟨w3,SL⟩:∃w3,w2.alloc (.cells #[.int .i64 (a:Int),.int .i64 (b:Int),.bool c] 285)=w3:=⟨_,rfl⟩
 have qO:Ao w3 w2.heap.size [.int .i64 (a:Int),.int .i64 (b:Int),.bool c]:=by rw [← SL];exact Ao.new w2 _ _
 have BS:Hid (Below w.heap.size w w3):=by rw [← SL];exact EP.alloc EP.size _
 have HG:Hid (Ao w3 g [.int .u64 (last:Int),.int .i64 (wl win:Int),.int .i64 (ww win:Int),.pointer (some ⟨p,0,none⟩)]):=H.out.AM.of_same (BS.out.block _ H.out.AM.lt)
 have Ed:=EP.size
 have EQ:=zAA Ed
 have YE:Hid (Gj g p w2.heap.size a b c w v bs w3 v):=
  ⟨H.out.wr.below BS.out,JE.Ah BS.out _ _,by rw [HG.out.cell];rfl,qO.three.1.1,qO.three.1.2.1,qO.three.1.2.2,H.out.gp,H.out.gv,by have:=H.out.wr.AM.lt;omega,fun e=>by have:=Ef H.out.wr.own _ e;omega⟩
 clear BH HX c0 EP qO Ed
 have d0:=YE.out.b0
 have d1:=YE.out.b1
 have d2:=YE.out.b2
 have yA:=zAA (aE g p a b c v bs w3 YE.out.wr YE.out.c3 YE.out.gp YE.out.gv lH.out.1 lH.out.2.1 lH.out.2.2.1 (by have:=HZ.out;omega))
 go_wp2_with fail
 refine yA.out.mono ?_
 rintro e w4 ⟨rfl,v4,Ys,zsoA⟩
 have rj:=zAA (YE.out.next Ys zsoA).drew
 have Ud:Hid (Ao w4.drew g [.int .u64 (last:Int),.int .i64 (wl win:Int),.int .i64 (ww win:Int),.pointer (some ⟨p,0,none⟩)]):=(HG.out.of_same (zsoA.Ai.block _ HG.out.lt (fun e=>e.elim H.out.gp H.out.gv)))
 clear Ys zsoA yA HG YE d0 d1 d2 SL
 have HC:Hid (∀w':World,(w'.cell? ⟨g,3,none⟩=some (.pointer (some ⟨p,0,none⟩))∧w'.cell? ⟨w2.heap.size,0,none⟩=some (.int .i64 (a:Int))∧w'.cell? ⟨w2.heap.size,1,none⟩=some (.int .i64 (b:Int)))→(w'.cell? ⟨g,3,none⟩=some (.pointer (some ⟨p,0,none⟩))∧w'.cell? ⟨w2.heap.size,0,none⟩=some (.int .i64 (a:Int))∧w'.cell? ⟨w2.heap.size,1,none⟩=some (.int .i64 (b:Int)))):=fun _ h=>h
 go_wp2_with fail
 refine AI (fun w':World=>w'.cell? ⟨g,3,none⟩=some (.pointer (some ⟨p,0,none⟩))∧w'.cell? ⟨w2.heap.size,0,none⟩=some (.int .i64 (a:Int))∧w'.cell? ⟨w2.heap.size,1,none⟩=some (.int .i64 (b:Int))) [7,12] [0,1,2,3,4,5,6,9,10,11,7,8,12] (by kernel_rfl) (by kernel_rfl) (by kernel_rfl) ?_ ?_ ?_
 ·intro c a a' w hd h;exact ⟨hd ▸ h.1,h.2⟩
 ·exact ⟨rj.out.c3,rj.out.b0,rj.out.b1⟩
 simp only [Cj,zBC,zCP,zBE,zAY,zBM]
 repeat (first
        | (refine takeH_skip rfl ?_; simp only [Act.put, List.setIfInBounds_toArray, List.set_cons_succ, List.set_cons_zero])
        | (refine takeH_blind rfl rfl ?_; apply Exists.intro; refine ⟨fun w => ?_, ?_⟩; (go_simp; try with_reducible rfl); simp only [Act.put, List.setIfInBounds_toArray, List.set_cons_succ, List.set_cons_zero])
        | (refine takeH_reads rfl rfl ?_; apply Exists.intro; refine ⟨fun w' hS => ?_, ?_⟩; (obtain ⟨d0, d1, d2⟩ := HC.out w' hS; go_simp; try with_reducible rfl); simp only [Act.put, List.setIfInBounds_toArray, List.set_cons_succ, List.set_cons_zero]))
 refine AY rfl rfl (fun K' hK=>?_)
 go_wp2_with fail
 refine (Pn a b (by have:=lH.out.2.1;omega) (by have:=lH.out.2.2.1;omega) w4.drew).mono ?_
 rintro e w5 ⟨rfl,W9⟩
 have zL:=zAA (rj.out.next (rj.out.wr.below W9) (JE.Ah W9 p _))
 have bG:=zAA (Ud.out.of_same (W9.block _ Ud.out.lt))
 refine hK _ _ ⟨zL.out.c3,zL.out.b0,zL.out.b1⟩ ?_
 clear hK K' W9 rj Ud
 have e1:(64:Int)-(a:Int)-(b:Int)=((64-a-b:Nat):Int):=by have:=lH.out.2.2.2;omega
 rw [e1]
 clear e1
 have hT64:((64-a-b:Nat):Int)≤64:=by omega
 generalize 64-a-b=T at *
 repeat (first
        | (refine takeH_skip rfl ?_; simp only [Act.put, List.setIfInBounds_toArray, List.set_cons_succ, List.set_cons_zero])
        | (refine takeH_blind rfl rfl ?_; apply Exists.intro; refine ⟨fun w => ?_, ?_⟩; (go_simp; try with_reducible rfl); simp only [Act.put, List.setIfInBounds_toArray, List.set_cons_succ, List.set_cons_zero])
        | (refine takeH_reads rfl rfl ?_; apply Exists.intro; refine ⟨fun w' hS => ?_, ?_⟩; (obtain ⟨d0, d1, d2⟩ := HC.out w' hS; go_simp; try with_reducible rfl); simp only [Act.put, List.setIfInBounds_toArray, List.set_cons_succ, List.set_cons_zero]))
 have e2:(x:Int) / 2 ^ T=((x / 2 ^ T:Nat):Int):=by simp
 rw [e2]
 clear e2
 have bS:=zAA (zL.out.bits (x / 2 ^ T) b (by have:=lH.out.2.2.1;omega) (by
  have h1:=HZ.out
  rw [zAB]
  have:=jh a b c
  omega))
 refine AY rfl rfl (fun K' hK=>?_)
 go_wp2_with fail
 refine bS.out.mono ?_
 rintro e w6 ⟨rfl,v6,hH6,hg6⟩
 refine hK _ _ ⟨hH6.c3,hH6.b0,hH6.b1⟩ ?_
 have ik:=zAA hH6.drew
 have vz:Hid (Ao w6.drew g [.int .u64 (last:Int),.int .i64 (wl win:Int),.int .i64 (ww win:Int),.pointer (some ⟨p,0,none⟩)]):=bG.out.of_same hg6
 rw [zAK,HBi.out] at ik
 clear hH6 hg6 bS zL bG hK K' HC
 have HC:Hid (∀w':World,(w'.cell? ⟨w2.heap.size,0,none⟩=some (.int .i64 (a:Int))∧w'.cell? ⟨w2.heap.size,1,none⟩=some (.int .i64 (b:Int))∧w'.cell? ⟨w2.heap.size,2,none⟩=some (.bool c))→(w'.cell? ⟨w2.heap.size,0,none⟩=some (.int .i64 (a:Int))∧w'.cell? ⟨w2.heap.size,1,none⟩=some (.int .i64 (b:Int))∧w'.cell? ⟨w2.heap.size,2,none⟩=some (.bool c))):=fun _ h=>h
 refine Bv ?_
 go_wp2_with fail
 refine AI (fun w':World=>w'.cell? ⟨w2.heap.size,0,none⟩=some (.int .i64 (a:Int))∧w'.cell? ⟨w2.heap.size,1,none⟩=some (.int .i64 (b:Int))∧w'.cell? ⟨w2.heap.size,2,none⟩=some (.bool c)) [5] [0,1,2,3,4,5] (by kernel_rfl) (by kernel_rfl) (by kernel_rfl) ?_ ?_ ?_
 ·intro c a a' w hd h;exact ⟨hd ▸ h.1,h.2⟩
 ·exact ⟨ik.out.b0,ik.out.b1,ik.out.b2⟩
 simp only [Cj,zBC,zCP,zBE,zAY,zBM]
 repeat (first
        | (refine takeH_skip rfl ?_; simp only [Act.put, List.setIfInBounds_toArray, List.set_cons_succ, List.set_cons_zero])
        | (refine takeH_blind rfl rfl ?_; apply Exists.intro; refine ⟨fun w => ?_, ?_⟩; (go_simp; try with_reducible rfl); simp only [Act.put, List.setIfInBounds_toArray, List.set_cons_succ, List.set_cons_zero])
        | (refine takeH_reads rfl rfl ?_; apply Exists.intro; refine ⟨fun w' hS => ?_, ?_⟩; (obtain ⟨d0, d1, d2⟩ := HC.out w' hS; go_simp; try with_reducible rfl); simp only [Act.put, List.setIfInBounds_toArray, List.set_cons_succ, List.set_cons_zero]))
 refine AY rfl rfl (fun K' hK=>?_)
 go_wp2_with fail
 refine (Qw g last x (wl win) (ww win) a b c [.pointer (some ⟨p,0,none⟩)] H.out.la zM.out w6.drew vz.out).mono ?_
 rintro e w7 ⟨rfl,hG7,hM7⟩
 have BC:w2.heap.size≠g:=by have:=EQ.out;have:=H.out.AM.lt;omega
 refine hK _ _ ⟨hM7.cell ik.out.b0 BC,hM7.cell ik.out.b1 BC,hM7.cell ik.out.b2 BC⟩ ?_
 refine Bv ?_
 go_wp2_with fail
 go_end0
 have hU:=ik.out.Jd.Ai
 have hM:Ac (fun k=>k=g∨k=p∨v.ownBlock=some k) w w7:=(hU.mono (fun j _ e=>Or.inr e)).trans hM7 (fun j _ e=>Or.inl e)
 refine ⟨rfl,v6,⟨?_,?_,H.out.gp,ik.out.gv,?_,H.out.tg,H.out.tp,?_,?_,Gy.out⟩,hM,ik.out.Jd.fresh⟩
 ·rw [zq.out] at hG7;exact hG7
 ·exact ik.out.wr.Ai hM7 (fun e=>H.out.gp e.symm) (fun k hk e=>ik.out.gv (e ▸ hk))
 ·exact H.out.yc.block (hM.block _ H.out.yc.lt (fun e=>e.elim H.out.tg (fun e=>e.elim H.out.tp H.out.tv)))
 ·intro e
  rcases ik.out.Jd.fresh _ e with e | e
  ·exact H.out.tv e
  ·have:=H.out.yc.lt;omega
 ·exact HV.out
theorem TU (p:Nat) (v lv:Value) (bs:List Bool) (w:World) (hW:Ay w p v bs) (h:Rd w 1 lv 0 []) :
  Calls Tryz.prog 185 #[.pointer (some ⟨p,0,none⟩),lv] w fun e w'=>e = .returned (.int .i64 0)∧Cy p v bs w w':=by
 have HW:=zAA hW
 clear hW
 obtain ⟨q,c,hv⟩:=h.shape
 subst hv
 go_enter Tryz.func185,Tryz.ntmps185
 go_wp2_with fail
 go_ret
 exact ⟨rfl,v,HW.out,JE.refl _ _ _⟩
structure cf (g p:Nat) (v:Value) (bs:List Bool) (ls tl:List Nat) (lv:Value) (w:World) (k:Nat) (v':Value) (last:Nat) (win:Option (Nat × Nat)) (out:List Bool) (wr:World):Prop where
 enc:fI g p v' out last win wr
 left:bs++G1 ls=out++Cm win last (tl.drop k)
 Jd:JE w wr p v v'
 row:Rd wr 1 lv tl.length (AL tl)
theorem RN (p:Nat) (v lv:Value) (bs:List Bool) (ls:List Nat) (t0:Nat) (tl:List Nat) (els:ls=t0::tl) (w:World) (hT:JP w) (hW:Ay w p v bs) (htp : 3≠p) (htv:v.ownBlock≠some 3)
  (hl:Rd w 1 lv ls.length (AL ls)) (ok:∀t∈ls,C4 t) (Dz:∀k,lv.ownBlock=some k→k≠p∧v.ownBlock≠some k) (hz:bs.length+78*ls.length≤70368744177000) :
  Calls Tryz.prog 185 #[.pointer (some ⟨p,0,none⟩),lv] w fun e w'=>e = .returned (.int .i64 0)∧Cy p v (bs++G1 ls) w w':=by
 obtain ⟨b0,off,c,e,G6,F6,FH⟩:=hl.at (by rw [els];simp [AL])
 subst e
 have HT:=zAA hT;have HW:=zAA hW;have YD:=zAA els;have Fj:=zAA ok;have HZ:=zAA hz
 have BC:(ls.length:Int)≠0:=by rw [els];simp only [zAH];omega
 have RB:(0:Int)<(ls.length:Int):=by omega
 have hone:(1:Int)≤(ls.length:Int):=by omega
 have Yw:((ls.length:Int) == 0)=false:=by rw [zAQ];exact BC
 have DW:w.cell? ⟨b0,off,none⟩=some (.int .u64 (t0:Int)):=by have:=FH 0 (.int .u64 (t0:Int)) (by rw [els];rfl);simpa using this
 have Nm:Hid (b0≠p∧v.ownBlock≠some b0∧b0<w.heap.size):=⟨(Dz b0 rfl).1,(Dz b0 rfl).2,zAP w _ DW⟩
 have TV:Hid (∀(i t:Nat),ls[i]? = some t→w.cell? ⟨b0,off+i,none⟩=some (.int .u64 (t:Int))):=fun i t h=>FH i _ (by rw [AL,zBQ,h];rfl)
 have HB:=zAA (KA p v bs t0 64 w hW (by omega) (by omega))
 have Yk:=zAA hl
 have SH:1≤ls.length:=by omega
 clear hT hW els ok hz FH Dz hl
 go_enter Tryz.func185,Tryz.ntmps185
 go_wp2_with fail
 refine HB.out.mono ?_
 rintro e w2 ⟨rfl,v2,RV,Xa⟩
 have F3:=zAA RV
 have Py:=zAA Xa
 have Vw:w2.cell? ⟨b0,off,none⟩=some (.int .u64 (t0:Int)):=(Xa.keep DW Nm.out.1 Nm.out.2.1).1
 clear RV Xa HB DW
 have SJ:ls.length-1=tl.length:=by rw [YD.out];rfl
 have RC:Rd w2 1 (.slice (some ⟨b0,off,none⟩) ls.length c) ls.length (AL ls):=Yk.out.Ai Py.out.Ai (fun k hk e=>by cases hk;exact e.elim Nm.out.1 Nm.out.2.1)
 obtain ⟨w3,SL⟩:∃w3,w2.alloc (.cells #[.int .u64 (t0:Int),.int .i64 0,.int .i64 0,.pointer (some ⟨p,0,none⟩)] 289)=w3:=⟨_,rfl⟩
 have FG:Below w2.heap.size w2 w3:=by rw [← SL];exact (zAM _ w2).alloc (zAD _) _
 have qO:Ao w3 w2.heap.size [.int .u64 (t0:Int),.int .i64 0,.int .i64 0,.pointer (some ⟨p,0,none⟩)]:=by rw [← SL];exact Ao.new w2 _ _
 have Ft:=zAA (RC.below FG)
 have gD:=HW.out.AM.lt
 have KN:=Py.out.Ai.size
 have HE3:Hid (fI w2.heap.size p v2 (bs++Aa t0 64) t0 none w3):=by
  have y5:v2.ownBlock≠some 3:=fun e=>(Py.out.fresh _ e).elim htv (fun k=>by have:=HT.out.lt;omega)
  refine ⟨qO,F3.out.below FG,by omega,fun e=>by have:=Ef F3.out.own _ e;omega,?_,by have:=HT.out.lt;omega,htp,y5,Fj.out t0 (by rw [YD.out];simp),fun _ _ e=>by cases e⟩
  exact (HT.out.block (Py.out.Ai.block _ HT.out.lt (fun e=>e.elim htp htv))).below FG (zAD _)
 have Vg:Hid (JE w w3 p v v2):=Py.out.trans (JE.Ah FG p v2)
 have Np:Hid (bs++G1 ls=(bs++Aa t0 64)++Cm none t0 tl):=by show _=_;rw [YD.out,G1,zAK]
 have HG:Hid (w.heap.size≤w2.heap.size):=KN
 clear FG qO RC gD KN F3 Py htp htv Yk
 go_wp2_with (refine Pr Tryz.GJ _ _ _ 1 _ Ft.out SH rfl _ _ rfl rfl rfl ?_;intro q c2 h2 Au)
 rw [SJ] at *
 have vO:Hid (∀k,(Value.slice q tl.length c2).ownBlock=some k→k=b0):=fun k hk=>by have:=Au k hk;cases this;rfl
 have R8:Hid (Rd w3 1 (.slice q tl.length c2) tl.length (AL tl)):=by
  show Rd _ _ _ _ _
  have:List.drop (1*1) (AL ls)=AL tl:=by rw [YD.out];rfl
  rw [← this];exact h2
 have DP:Hid (ls.length=tl.length+1):=by show _=_;rw [YD.out];rfl
 have hmb:(tl.length:Int)≤1000000000000:=by have h1:=DP.out;have h2:=HZ.out;omega
 have Vd:Hid (cf w2.heap.size p v bs ls tl (.slice q tl.length c2) w 0 v2 t0 none (bs++Aa t0 64) w3):=⟨HE3.out,Np.out,Vg.out,R8.out⟩
 clear SJ h2 Au Ft R8 HE3 Np Vg SL Vw BC RB hone Yw SH
 generalize w2.heap.size=g at *
 go_loopw [7,27] (fun xv kv wr=>∃(k:Nat) (v':Value) (last:Nat) (win:Option (Nat × Nat)) (out:List Bool),k≤tl.length∧kv = .int .i64 (k:Int)∧Hid (cf g p v bs ls tl (.slice q tl.length c2) w k v' last win out wr)) (fun _ kv _=>tl.length-(intOf kv).toNat)
 case atStart=>exact ⟨0,v2,t0,none,_,by omega,rfl,Vd.out⟩
 case round=>
  obtain ⟨k,v',last,win,out,Xg,rfl,HI⟩:=hrel
  by_cases hk:k<tl.length
  ·have hk':(k:Int)<(tl.length:Int):=by omega
   have hkb:(k:Int)≤1000000000000:=by omega
   obtain ⟨b1,o1,c1,e1,_,_,nf⟩:=HI.out.row.at (by intro e;have:=congrArg List.length e;rw [AL,zAT,zBG] at this;omega)
   cases e1
   obtain ⟨t,ht⟩:∃t,tl[k]? = some t:=⟨_,zAC hk⟩
   have FC:wr.cell? ⟨b1,o1+k,none⟩=some (.int .u64 (t:Int)):=nf k _ (by rw [AL,zBQ,ht];rfl)
   have ZO:C4 t:=Fj.out t (by rw [YD.out];exact zCS _ (zAG ht))
   have hdr:tl.drop k=t::tl.drop (k+1):=by rw [zBV hk];rw [zAC hk] at ht;cases ht;rfl
   have Bg:out.length≤bs.length+78*ls.length:=by
    have h1:=congrArg List.length HI.out.left
    rw [zAB,zAB] at h1
    have h2:=NC ls
    omega
   have HP:=zAA (tD g p v' out last t win wr HI.out.enc ZO (by have:=HZ.out;omega))
   have JL:=zAA ht;have HD:=zAA hdr
   clear nf ht ZO hdr Bg
   go_wp2_with fail
   refine HP.out.mono ?_
   rintro e w5 ⟨rfl,v5,hE5,wP,hF5⟩
   have lJ:Hid (cf g p v bs ls tl (.slice (some ⟨b1,o1,none⟩) tl.length c2) w (k+1) v5 t (Dg win (t ^^^ last)) (out++GC win (t ^^^ last)) w5):=by
    have hb:b1=b0:=vO.out b1 rfl
    have DK:=HI.out.Jd.fresh
    have Ed:=HI.out.Jd.Ai.size
    have hg:=HG.out;have gD:=HW.out.AM.lt;have Dz:=Nm.out
    refine ⟨hE5,?_,⟨HI.out.Jd.Ai.trans wP (fun j hj e=>?_),DK.trans hF5 Ed⟩,HI.out.row.Ai wP (fun j hj e=>?_)⟩
    ·rw [HI.out.left,HD.out,Cm,zAK]
    ·rcases e with e | e | e
     ·omega
     ·exact Or.inl e
     ·exact (DK j e).elim Or.inr (fun h=>by omega)
    ·cases hj
     rw [hb] at e
     change b0=g∨b0=p∨v'.ownBlock=some b0 at e
     rcases e with e | e | e
     ·omega
     ·exact Dz.1 e
     ·exact (DK _ e).elim Dz.2.1 (fun h=>by omega)
   clear hE5 wP hF5 HI HP
   go_wp2_with fail
   go_round
   case rel=>exact ⟨k+1,_,_,_,_,by omega,by go_num,lJ.out⟩
   case measure=>simp [intOf];omega
  ·have hk':¬(k:Int)<(tl.length:Int):=by omega
   have lK:Hid (bs++G1 ls=out):=by
    have h:=HI.out.left
    rw [List.drop_eq_nil_of_le (by omega),Cm,zBR] at h
    exact h
   go_wp2_with fail
   go_ret
   rw [lK.out]
   exact ⟨rfl,v',HI.out.enc.wr,HI.out.Jd⟩
theorem RO (w:World) (v:Value) (h:Rd w 1 v 0 []):Calls Tryz.prog 184 #[v] w fun e w'=>e = .returned (.int .i64 0)∧Below w.heap.size w w':=by
 obtain ⟨p,c,hv⟩:=h.shape
 subst hv
 go_enter Tryz.func184,Tryz.ntmps184
 go_wp2_with fail
 go_ret
 exact ⟨rfl,zAM _ _⟩
theorem kF {win:Option (Nat × Nat)} (ho:pG win) {x:Nat} (hx:x<18446744073709551616):TB (sL win x) (sW win x) (sN win x)=(GC win x).length:=by
 rw [← We ho hx,zAB,Ae,TB,Le]
 by_cases h:sL win x=0∧sW win x=0
 ·rw [if_pos h,if_pos h,h.2];rfl
 ·rw [if_neg h,if_neg h]
  split
  ·simp only [zAB,Ae,zAH,zBG]
  ·rfl
structure cq (g:Nat) (ls tl:List Nat) (lv:Value) (w:World) (k last:Nat) (win:Option (Nat × Nat)) (n:Nat) (wr:World):Prop where
 AM:Ao wr g [.int .u64 (last:Int),.int .i64 (wl win:Int),.int .i64 (ww win:Int)]
 below:Below w.heap.size w wr
 left:(G1 ls).length=n+(Cm win last (tl.drop k)).length
 la:last<18446744073709551616
 ok:pG win
 row:Rd wr 1 lv tl.length (AL tl)
theorem Qt (lv:Value) (ls:List Nat) (t0:Nat) (tl:List Nat) (els:ls=t0::tl) (w:World) (hT:JP w) (hl:Rd w 1 lv ls.length (AL ls)) (ok:∀t∈ls,C4 t) (hz:78*ls.length≤70368744177000) :
  Calls Tryz.prog 184 #[lv] w fun e w'=>e = .returned (.int .i64 ((G1 ls).length:Int))∧Below w.heap.size w w':=by
 obtain ⟨b0,off,c,e,G6,F6,FH⟩:=hl.at (by rw [els];simp [AL])
 subst e
 have HT:=zAA hT;have YD:=zAA els;have Fj:=zAA ok;have HZ:=zAA hz
 have BC:(ls.length:Int)≠0:=by rw [els];simp only [zAH];omega
 have RB:(0:Int)<(ls.length:Int):=by omega
 have Yw:((ls.length:Int) == 0)=false:=by rw [zAQ];exact BC
 have DW:w.cell? ⟨b0,off,none⟩=some (.int .u64 (t0:Int)):=by have:=FH 0 (.int .u64 (t0:Int)) (by rw [els];rfl);simpa using this
 have Nm:Hid (b0<w.heap.size):=zAP w _ DW
 have Yk:=zAA hl
 have SH:1≤ls.length:=by omega
 have SJ:ls.length-1=tl.length:=by rw [els];rfl
 have BS:Hid (Below w.heap.size w (w.alloc (.cells #[.int .u64 (t0:Int),.int .i64 0,.int .i64 0] 283))):=(zAM _ w).alloc (zAD _) _
 have GF:Hid (Ao (w.alloc (.cells #[.int .u64 (t0:Int),.int .i64 0,.int .i64 0] 283)) w.heap.size [.int .u64 (t0:Int),.int .i64 0,.int .i64 0]):=Ao.new w _ _
 have Ft:=zAA (hl.below BS.out)
 have Np:Hid ((G1 ls).length=64+(Cm none t0 tl).length):=by show _=_;rw [YD.out,G1,zAB,Ae]
 have DP:Hid (ls.length=tl.length+1):=by show _=_;rw [YD.out];rfl
 clear hT els ok hz FH hl
 go_enter Tryz.func184,Tryz.ntmps184
 go_wp2_with (refine Pr Tryz.GJ _ _ _ 1 _ Ft.out SH rfl _ _ rfl rfl rfl ?_;intro q c2 h2 Au)
 rw [SJ] at *
 have vO:Hid (∀k,(Value.slice q tl.length c2).ownBlock=some k→k=b0):=fun k hk=>by have:=Au k hk;cases this;rfl
 have Vd:Hid (cq w.heap.size ls tl (.slice q tl.length c2) w 0 t0 none 64 (w.alloc (.cells #[.int .u64 (t0:Int),.int .i64 0,.int .i64 0] 283))):=by
  refine ⟨GF.out,BS.out,Np.out,Fj.out t0 (by rw [YD.out];simp),fun _ _ e=>(by cases e),?_⟩
  have:List.drop (1*1) (AL ls)=AL tl:=by rw [YD.out];rfl
  rw [← this];exact h2
 have hmb:(tl.length:Int)≤1000000000000:=by have h1:=DP.out;have h2:=HZ.out;omega
 generalize w.alloc (.cells #[.int .u64 (t0:Int),.int .i64 0,.int .i64 0] 283)=w3 at *
 clear SJ h2 Au Ft Np BC RB Yw SH DW GF
 have HG:Hid (∃g,g=w.heap.size):=⟨_,rfl⟩
 obtain ⟨g,hg⟩:=HG.out
 clear HG
 rw [← hg] at Vd ⊢
 have HGe:Hid (g=w.heap.size):=hg
 clear hg
 go_loopw [3,6,7,8,19] (fun nv vv xv pv kv wr=>∃(k last:Nat) (win:Option (Nat × Nat)) (n:Nat),k≤tl.length∧kv = .int .i64 (k:Int)∧nv = .int .i64 (n:Int)∧Hid (cq g ls tl (.slice q tl.length c2) w k last win n wr)) (fun _ _ _ _ kv _=>tl.length-(intOf kv).toNat)
 case atStart=>exact ⟨0,t0,none,64,by omega,rfl,rfl,Vd.out⟩
 case round=>
  obtain ⟨k,last,win,n,Xg,rfl,rfl,HI⟩:=hrel
  by_cases hk:k<tl.length
  ·have hk':(k:Int)<(tl.length:Int):=by omega
   have hkb:(k:Int)≤1000000000000:=by omega
   have HN:Hid ((G1 ls).length≤78*ls.length):=NC ls
   have hnb2:(n:Int)≤70368744177000:=by have h1:=HI.out.left;have h2:=HN.out;have h3:=HZ.out;omega
   obtain ⟨b1,o1,c1,e1,_,_,nf⟩:=HI.out.row.at (by intro e;have:=congrArg List.length e;rw [AL,zAT,zBG] at this;omega)
   cases e1
   obtain ⟨t,ht⟩:∃t,tl[k]? = some t:=⟨_,zAC hk⟩
   have FC:wr.cell? ⟨b1,o1+k,none⟩=some (.int .u64 (t:Int)):=nf k _ (by rw [AL,zBQ,ht];rfl)
   have ZO:C4 t:=Fj.out t (by rw [YD.out];exact zCS _ (zAG ht))
   have hdr:tl.drop k=t::tl.drop (k+1):=by rw [zBV hk];rw [zAC hk] at ht;cases ht;rfl
   have HX:Hid (bits .xor .u64 (t:Int) (last:Int)=((t ^^^ last:Nat):Int)):=bits_xor_u64_nat t last ZO HI.out.la
   have hx:t ^^^ last<18446744073709551616:=TT ZO HI.out.la
   have c0:wr.cell? ⟨g,0,none⟩=some (.int .u64 (last:Int)):=by rw [HI.out.AM.cell];rfl
   have qK:Hid (JP wr):=HT.out.below HI.out.below (zAD _)
   have BH:=zAA (Rb g win (t ^^^ last) HI.out.ok hx wr qK.out (by rw [HI.out.AM.cell];rfl) (by rw [HI.out.AM.cell];rfl))
   have zq:=zAA (TC win last t)
   have lH:=zAA (Wf HI.out.ok hx)
   have EQ:=zAA (kF HI.out.ok hx)
   have Gy:Hid (pG (Dg win (t ^^^ last))):=S6 HI.out.ok hx
   have vX:=zAA ZO;have HD:=zAA hdr;have zM:=zAA hx
   have Gi:Hid (Cm win last (tl.drop k)=GC win (t ^^^ last)++Cm (Dg win (t ^^^ last)) t (tl.drop (k+1))):=by show _=_;rw [HD.out];rfl
   clear nf ht ZO hdr hx
   generalize t ^^^ last=x at *
   generalize sL win x=a at *
   generalize sW win x=b at *
   generalize sN win x=c at *
   generalize GC win x=E at *
   generalize Dg win x=win' at *
   go_wp2_with fail
   rw [HX.out]
   go_wp2_with fail
   refine BH.out.mono ?_
   rintro e w2 ⟨rfl,EP⟩
   obtain ⟨w4,uR⟩:∃w4,w2.alloc (.cells #[.int .i64 (a:Int),.int .i64 (b:Int),.bool c] 285)=w4:=⟨_,rfl⟩
   have KP:Hid (Ao w4 w2.heap.size [.int .i64 (a:Int),.int .i64 (b:Int),.bool c]):=by rw [← uR];exact Ao.new w2 _ _
   have CF:Hid (Below wr.heap.size wr w4):=by rw [← uR];exact EP.alloc EP.size _
   have HS2:Hid (wr.heap.size≤w2.heap.size):=EP.size
   have zl:Hid (Ao w4 g ([.int .u64 (last:Int),.int .i64 (wl win:Int),.int .i64 (ww win:Int)]++[])):=HI.out.AM.of_same (CF.out.block _ HI.out.AM.lt)
   have hgl:=HI.out.AM.lt
   have KN:=HS2.out
   have hgB:g≠w2.heap.size:=by omega
   obtain ⟨⟨d0,d1,d2⟩,_⟩:=KP.out.three
   have tS:=zAA (Qw g last x (wl win) (ww win) a b c [] HI.out.la zM.out w4 zl.out)
   clear BH HX c0 EP KN
   go_wp2_with fail
   refine tS.out.mono ?_
   rintro e w5 ⟨rfl,hG5,wP⟩
   rw [zq.out] at hG5
   obtain ⟨⟨d0,d1,d2⟩,_⟩:=(wP.AM KP.out (fun e=>hgB e.symm)).three
   have bG:=zAA hG5;have yu:=zAA wP
   have hab1:=lH.out.2.1;have hab2:=lH.out.2.2.1
   have HSi:=zAA (kC a b c lH.out.1 (by omega) (by omega) w5)
   rw [EQ.out] at HSi
   have hEl:(E.length:Int)≤70368744177000:=by have h1:=HI.out.left;have h2:=HN.out;have h3:=HZ.out;rw [Gi.out,zAB] at h1;omega
   clear hG5 wP tS hab1 hab2
   go_wp2_with fail
   refine HSi.out.mono ?_
   rintro e w6 ⟨rfl,i7⟩
   have MG:Hid (cq g ls tl (.slice (some ⟨b1,o1,none⟩) tl.length c2) w (k+1) t win' (n+E.length) w6):=by
    have hb:b1=b0:=vO.out b1 rfl
    have Dz:=Nm.out;have T0:=HGe.out
    have uu:Ac (fun k=>k=g) wr w6:=((Ac.Ah CF.out _).trans yu.out (fun _ _ e=>e)).trans (Ac.Ah i7 _) (fun _ _ e=>e)
    refine ⟨bG.out.of_same (i7.block _ bG.out.lt),HI.out.below.trans (uu.below HI.out.below.size (fun j hj e=>by omega)),?_,vX.out,Gy.out,HI.out.row.Ai uu (fun j hj e=>?_)⟩
    ·rw [HI.out.left,Gi.out,zAB];omega
    ·cases hj
     change b1=g at e
     omega
   clear bG yu i7 HI HSi zl CF KP d0 d1 d2
   go_wp2_with fail
   go_round
   case rel=>exact ⟨k+1,_,_,_,by omega,by go_num,by go_num,MG.out⟩
   case measure=>simp [intOf];omega
  ·have hk':¬(k:Int)<(tl.length:Int):=by omega
   have lK:Hid ((G1 ls).length=n):=by
    have h:=HI.out.left
    rw [List.drop_eq_nil_of_le (by omega),Cm] at h
    exact h
   go_wp2_with fail
   go_ret
   rw [lK.out]
   exact ⟨rfl,HI.out.below⟩
end Go.Proofs.YtdcgbgecbeegmaaGreatDoor
end
