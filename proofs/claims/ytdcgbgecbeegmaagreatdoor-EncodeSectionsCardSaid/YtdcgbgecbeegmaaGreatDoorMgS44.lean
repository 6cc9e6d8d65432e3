/- Texts 44. -/
import Derived.Test.YtdcgbgecbeegmaaGreatDoorMgSA
import Derived.Test.YtdcgbgecbeegmaaGreatDoorMgS41
import Derived.Test.YtdcgbgecbeegmaaGreatDoorMgS43
set_option linter.unusedVariables false
set_option linter.unusedSimpArgs false
set_option maxHeartbeats 400000000
set_option maxRecDepth 100000
section
namespace Go.Proofs.YtdcgbgecbeegmaaGreatDoor
open Go Go.RowKit Go.ChangeShapes
def Nl (P:Program) (e:TypeId) (sz:Nat) {α:Type} (f:α→List Value) (ok:World→α→Prop):Prop:=
 P.cellsOf e=sz∧∀(H:Type) (enc:TypeId × Value→H) (w:World) (base:Nat) (spare:Nat→Bool) (held:Bool) (fuel:Nat) (cs:List Value) (x:DataW H × List MemPlace),
  DataW.trod enc P w base spare held fuel e cs=some x→∃a,ok w a∧cs=f a
theorem Nk.wide {P:Program} {e:TypeId} {sz:Nat} {α:Type} {f:α→List Value} {ok:α→Prop} (h:Nk P e sz f ok):Nl P e sz f (fun _=>ok):=
 ⟨h.1,fun H enc w base spare held fuel cs x hx=>h.2 H enc w base spare held fuel cs x hx⟩
theorem Us {P:Program} {e:TypeId} {f0 f1:Field} {s0 s1:Nat} {α β:Type} {g0:α→List Value} {g1:β→List Value} {k0:World→α→Prop} {k1:World→β→Prop}
  (he:P.underlying e=some (.struct #[f0,f1])) (hc:P.cellsOf e=s0+s1) (o0:f0.offset=0) (o1:f1.offset=s0) (h0:Nl P f0.type s0 g0 k0) (h1:Nl P f1.type s1 g1 k1) :
  Nl P e (s0+s1) (fun a:α × β=>g0 a.1++g1 a.2) (fun w a=>k0 w a.1∧k1 w a.2):=
 ⟨hc,fun H enc w base spare held fuel cs x hx=>by
  obtain ⟨y0,y1,n,_,hl,t0,t1⟩:=trod_struct2 he hx
  rw [o0,h0.1] at t0
  rw [o1,h1.1] at t1
  obtain ⟨a,ha,ea⟩:=h0.2 H enc w base spare held n _ _ t0
  obtain ⟨b,hb,eb⟩:=h1.2 H enc w base spare held n _ _ t1
  refine ⟨(a,b),⟨ha,hb⟩,?_⟩
  show cs=g0 a++g1 b
  rw [← ea,← eb]
  simp only [List.drop_zero]
  rw [zAF (l:=cs.drop s0) (by rw [zCN,hl,hc];omega),zBD]⟩
theorem VO {P:Program} {t e:TypeId} {sz:Nat} (Ed:0<sz) {α:Type} [Inhabited α] {f:α→List Value} {ok:World→α→Prop} (hF:Nl P e sz f ok) (ht:P.underlying t=some (.slice e))
  {H:Type} {enc:TypeId × Value→H} {w:World} {base:Nat} {spare:Nat→Bool} {held:Bool} {fuel:Nat} {cs:List Value} {x:DataW H × List MemPlace} (h:DataW.trod enc P w base spare held fuel t cs=some x) :
  ∃(v:Value) (l:List α),cs=[v]∧(∀a∈l,ok w a)∧Rd w sz v l.length (l.flatMap f)∧((x.1 = .nil∧l.length=0)∨∃elems rest,x.1 = .slice elems rest∧elems.length=l.length):=by
 rcases Deep.open_slice ht h with ⟨rfl,rfl⟩ | ⟨a,len,cap,m,n',D,Pl,rfl,_,hl,hm,hmm,rfl,sC⟩
 ·exact ⟨_,[],rfl,by simp,Rd.nil w sz,Or.inl ⟨rfl,rfl⟩⟩
 ·have hml:len≤m:=by rw [hmm];split<;>omega
  have hch:∀i,i<len→∃b:α,ok w b∧(f b).length=sz∧∀(j:Nat) (u:Value),(f b)[j]? = some u→w.cell? (a.add (i*sz+j))=some u:=by
   intro i hi
   obtain ⟨cs',h1,h2⟩:=sC i (by omega)
   rw [hF.1] at h1
   obtain ⟨b,hb,rfl⟩:=hF.2 H enc w base spare held n' _ _ h2
   obtain ⟨h3,h4⟩:=iF h1
   exact ⟨b,hb,h3,fun j u hu=>by rw [← Deep.add_add];exact h4 j u hu⟩
  obtain ⟨g,hg⟩:=Deep.choose_lt hch
  have Bg:∀b∈(List.range len).map g,(f b).length=sz:=by
   intro b hb
   obtain ⟨i,hi,rfl⟩:=zBU.1 hb
   exact (hg i (zFN.1 hi)).2.1
  refine ⟨.slice (some a) len cap,(List.range len).map g,rfl,?_,⟨some a,cap,by simp,?_,by simpa using hl,hm,(fun e=>by cases e),?_⟩,Or.inr ⟨_,_,rfl,by simp⟩⟩
  ·intro b hb
   obtain ⟨i,hi,rfl⟩:=zBU.1 hb
   exact (hg i (zFN.1 hi)).1
  ·rw [Zw f _ Bg]
  ·intro ad e j u hu
   cases e
   have hj:j=j / sz*sz+j % sz:=by rw [zGP];exact (Nat.div_add_mod j sz).symm
   rw [hj] at hu
   obtain ⟨b,hb,hu'⟩:=Zv f _ Bg (j / sz) (j % sz) (zFO _ Ed) u hu
   have Aq:j / sz<len:=by
    rcases Nat.lt_or_ge (j / sz) len with h | h
    ·exact h
    ·rw [zCJ (by simpa using h)] at hb;cases hb
   rw [zBQ,List.getElem?_range Aq] at hb
   simp at hb
   subst hb
   rw [hj]
   exact (hg (j / sz) Aq).2.2 _ u hu'
theorem QG {P:Program} {t e:TypeId} {sz:Nat} (Ed:0<sz) {α:Type} [Inhabited α] {f:α→List Value} {ok:World→α→Prop} (hF:Nl P e sz f ok) (ht:P.underlying t=some (.slice e)) (hc:P.cellsOf t=1) :
  Nl P t 1 (fun a:Value × List α=>[a.1]) (fun w a=>(∀x∈a.2,ok w x)∧Rd w sz a.1 a.2.length (a.2.flatMap f)):=
 ⟨hc,fun H enc w base spare held fuel cs x hx=>by
  obtain ⟨v,l,rfl,h1,h2,_⟩:=VO Ed hF ht hx
  exact ⟨(v,l),⟨h1,h2⟩,rfl⟩⟩
theorem ef {P:Program} {t e:TypeId} {sz:Nat} (Ed:0<sz) {α:Type} [Inhabited α] {f:α→List Value} {ok:World→α→Prop} (hF:Nl P e sz f ok) (ht:P.underlying t=some (.slice e))
  {H:Type} {enc:TypeId × Value→H} {w:World} {base:Nat} {spare:Nat→Bool} {held:Bool} {v:Value} {d:DataW H} {ps:List MemPlace} {n c:Nat} {p:Option Addr} (hv:v = .slice p n c)
  (h:DataW.Trod enc P w base spare held t v d ps) :
  ∃l:List α,(∀a∈l,ok w a)∧l.length=n∧Rd w sz v l.length (l.flatMap f)∧((d = .nil∧l.length=0)∨∃elems rest,d = .slice elems rest∧elems.length=l.length):=by
 subst hv
 obtain ⟨fuel,h⟩:=h
 obtain ⟨v,l,Rw,h1,h2,h3⟩:=VO Ed hF ht h
 simp [Value.cells] at Rw
 subst Rw
 have h2':=h2
 obtain ⟨_,_,e,_⟩:=h2'
 simp only [zAN] at e
 exact ⟨l,h1,e.2.1.symm,h2,h3⟩
end Go.Proofs.YtdcgbgecbeegmaaGreatDoor
end
section
namespace Go.Proofs.YtdcgbgecbeegmaaGreatDoor
open Go Go.RowKit
def VG (a:AC):List Value:=[.string a.1,.string a.2]
def gI (a:AC):Prop:=a.1.size≤9223372036854775807∧a.2.size≤9223372036854775807
theorem dr:Nk Tryz.prog 108 2 VG gI:=
 (NH Tryz.underlying108 (by kernel_rfl) rfl rfl (QH Tryz.underlying9 (by kernel_rfl)) (QH Tryz.underlying9 (by kernel_rfl))).map fun a h=>
  ⟨a,⟨by have:=h.1;unfold maxLen at this;omega,by have:=h.2;unfold maxLen at this;omega⟩,rfl⟩
def V8 (a:Dt):List Value:=[.int .i64 a.1,.int .u64 (a.2:Int)]
theorem du:Nk Tryz.prog 110 2 V8 EK:=
 (NH Tryz.underlying110 (by kernel_rfl) rfl rfl (mR Tryz.underlying2 (by kernel_rfl)) (mT Tryz.underlying81 (by kernel_rfl))).map fun a h=>⟨a,h,rfl⟩
abbrev wu:=(Value × List AC) × (Value × List Dt)
def gY (a:wu):List Value:=[a.1.1]++[a.2.1]
def uZ (w:World) (a:wu):Prop:=((∀x∈a.1.2,gI x)∧Rd w 2 a.1.1 a.1.2.length (a.1.2.flatMap VG))∧((∀x∈a.2.2,EK x)∧Rd w 2 a.2.1 a.2.2.length (a.2.2.flatMap V8))
theorem mS:Nl Tryz.prog 51 2 gY uZ:=
 Us Tryz.underlying51 (by kernel_rfl) rfl rfl (QG (by decide) dr.wide Tryz.underlying48 (by kernel_rfl)) (QG (by decide) du.wide Tryz.underlying49 (by kernel_rfl))
theorem ks {w:World} {v:Value} {l:List wu} (ok:∀a∈l,uZ w a) (hr:Rd w 2 v l.length (l.flatMap gY)):∃b:List AJ,Du b∧FU w v b:=by
 refine ⟨l.map fun a=>(a.1.2,a.2.2),fun s hs=>?_,⟨l.map fun a=>(a.1.1,a.2.1),?_,by simp,fun i h s hi hj=>?_⟩⟩
 ·obtain ⟨a,ha,rfl⟩:=zBU.1 hs
  exact ⟨(ok a ha).1.1,(ok a ha).2.1⟩
 ·rw [zAT,two,zGL];exact hr
 ·rw [zBQ] at hi hj
  cases e:l[i]? with
  | none=>rw [e] at hi;cases hi
  | some a=>
   rw [e] at hi hj;cases hi;cases hj
   have h:=ok a (zAG e)
   exact ⟨h.1.2,h.2.2⟩
def l1:ByteArray:=⟨#[49]⟩
def l2:ByteArray:=⟨#[50]⟩
theorem XZ:Jn [([],[])]:=⟨by decide,by decide,fun s hs=>by rw [zCF.1 hs];decide⟩
theorem XY:Du [([],[])]:=fun s hs=>by rw [zCF.1 hs];exact ⟨fun x h=>(by cases h),fun x h=>(by cases h)⟩
section
variable {G:Nat} {T:World→Prop}
def Pg:List (List Nat):=[[0],[0],[],[0]]
theorem X3:CJ []=[]:=rfl
theorem Q5:C5 []=Pg:=by
 have h1:(BR (CJ [])).2=[0]:=by
  rw [X3,BR,if_neg (zCI (show Rf [] from fun s hs=>by cases hs)),if_neg (zCI (show AN CB [] from List.Pairwise.nil))]
  simp [Ks,AZ]
 have h2:(BQ (CJ []) (List.map Cx [])).2=[0]:=by
  rw [X3,BQ,if_pos (show Bu [] (List.map Cx [])=0 from rfl)]
  simp [Gp,AZ]
 have h3:(Cl (CJ []) (Bk (List.map Prod.fst ([]:List AJ)))).2=[0]:=by
  rw [X3,Cl,if_pos (show ∀e∈Bk (List.map Prod.fst ([]:List AJ)),CV [] e.1 from fun e he=>by cases he)]
  show Bt [] []=[0]
  simp [Bt,AZ]
 rw [C5,h1,h2,h3]
 rfl
theorem PN:A0 []=0:=rfl
theorem LP (id:Nat):(AH id [0]).length=7∧(AH id []).length=6:=by
 constructor
 ·rw [Dy];simp [AZ]
 ·rw [Dy];simp [AZ]
theorem rQ:(FJ Pg).length=50:=by
 have hp:(Eu 1 Pg).length=27:=by simp [Eu,Pg,(LP _).1,(LP _).2]
 have ho:EU 1 5 Pg=[5,12,19,25]:=by simp [EU,Pg,(LP _).1,(LP _).2]
 rw [FJ,zAB,Cf,Kr,zAB,zAB,hp,ho,AH,Cf,Bf]
 simp [bytesOf,AZ,QJ,qp]
theorem tE:VZ [([],[])]=(21,[]):=rfl
theorem rZ:K6 []=(0,FJ Pg):=by rw [mC PN,Q5]
theorem V0 (w:World):FU w (.slice none 0 0) []:=⟨⟨[],Rd.nil _ _,rfl,fun i h s hi _=>by simp at hi⟩⟩
theorem eE {w:World} {m:Nat} (h:Ao w m [.slice none 0 0,.slice none 0 0]):FU w (.slice (some ⟨m,0,none⟩) 1 1) [([],[])]:=
 ⟨⟨[(.slice none 0 0,.slice none 0 0)],Rd.FQ h rfl (by simp [maxLen]),rfl,fun i hd s hi hj=>by
  cases i with
  | zero=>
   simp at hi hj
   subst hi;subst hj
   exact ⟨Rd.nil _ _,Rd.nil _ _⟩
  | succ i=>simp at hi⟩⟩
theorem Q9:Jn []:=⟨by decide,by decide,fun s hs=>by cases hs⟩
theorem Q8:Du []:=fun s hs=>by cases hs
theorem cD (I:lr G T) (w:World) (hT:T w):Calls Tryz.prog 10 #[] w fun e w'=>e = .returned (.bool true)∧Below w.heap.size w w':=by
 have HT:=zAA hT
 have Wr:=zAA (fun w' hT hR=>I.encode (.slice none 0 0) [] w' hT hR Q8 Q9.mid)
 have RP:=zAA (fun w' hT hR=>I.sections (.slice none 0 0) [] w' hT hR Q8 Q9.mid)
 have rh:=zAA (fun w' v hT hR=>I.raw v [([],[])] w' hT hR XY XZ)
 have hso:DF []=Pg:=by unfold DF;rw [if_pos PN,Q5]
 have Bg:=rQ
 rw [rZ] at Wr
 rw [tE] at rh
 rw [hso,PN] at RP
 generalize FJ Pg=B at *
 have DP:=zAA Bg
 clear hT Bg hso
 go_enter Tryz.func10,Tryz.ntmps10
 go_wp2_with fail
 refine (Wr.out _ HT.out (V0 _)).mono ?_
 rintro e w1 ⟨⟨r,rfl,hR,_⟩,hB⟩
 have A6:=zAA hB
 have JL:=zAA (I.below HT.out hB)
 obtain ⟨p1,c1,hv⟩:∃p c,r = .slice p 50 c:=by obtain ⟨p,c,e⟩:=hR.shape;exact ⟨p,c,by rw [e];simp only;rw [DP.out]⟩
 subst hv
 clear hR hB Wr HT
 go_wp2_with fail
 refine (RP.out _ JL.out (V0 _)).mono ?_
 rintro e w2 ⟨vs,rfl,hS,hB⟩
 have AP:=zAA (A6.out.trans (hB.mono A6.out.size))
 have GA:=zAA (I.below JL.out hB)
 obtain ⟨v0,v1,v2,v3,hvs⟩:=Z2 (hS.len.trans rfl:vs.length=4)
 subst hvs
 have yV:=hS.at_ 0 v0 [0] rfl rfl
 have Kv:=hS.at_ 2 v2 [] rfl rfl
 have KQ:=zAA (LV hS)
 obtain ⟨p0,c0,hv⟩:=yV.shape
 subst hv
 obtain ⟨p2,c2,hv⟩:=Kv.shape
 subst hv
 have bX:=zAA yV
 clear hS hB yV Kv A6 JL RP
 simp only [zAH,zBG,zEF] at KQ bX ⊢
 go_wp2_with (refine LG DU rfl rfl rfl _ _ rfl [.slice p0 1 c0,v1,.slice p2 0 c2,v3] rfl rfl rfl KQ.out ?_;intro w3 hk hb hs)
 have BS:=zAA (AP.out.trans (hb.mono AP.out.size))
 have ir:=zAA (I.below GA.out hb)
 have GF:=zAA hk
 have Ui:=zAA (bX.out.below hb)
 obtain ⟨g,hg⟩:∃g,w2.heap.size=g:=⟨_,rfl⟩
 have EQ:Hid (w3.heap.size=g+1):=by show _=_;rw [← hg];exact hs
 rw [hg] at GF ⊢
 clear hk hb hs hg AP GA bX KQ
 try go_wp2_with fail
 have k4:Ao (w3.alloc (.cells #[.slice none 0 0,.slice none 0 0] 51)) (g+1) [.slice none 0 0,.slice none 0 0]:=by rw [← EQ.out];exact Ao.new w3 _ _
 have b4:Below w3.heap.size w3 (w3.alloc (.cells #[.slice none 0 0,.slice none 0 0] 51)):=(zAM _ _).alloc (zAD _) _
 have CF:=zAA (BS.out.trans (b4.mono BS.out.size))
 have bZ:=zAA (I.below ir.out b4)
 have KP:=zAA (GF.out.alloc (.cells #[.slice none 0 0,.slice none 0 0] 51))
 have lV:=zAA (Ui.out.below b4)
 refine (rh.out _ _ bZ.out (eE k4)).mono ?_
 rintro e w5 ⟨⟨r,rfl,hR,_⟩,hB⟩
 have KC:=zAA (CF.out.trans (hB.mono CF.out.size))
 have Ve:=zAA (KP.out.of_same (hB.block _ KP.out.lt))
 have yB:=zAA (lV.out.below hB)
 obtain ⟨p5,c5,hv⟩:=hR.shape
 subst hv
 clear k4 b4 hR hB CF bZ KP lV BS ir GF Ui rh EQ
 have d0:w5.cell? ⟨g,0,none⟩=some (.slice p0 1 c0):=by rw [Ve.out.cell];rfl
 have b6:Below w5.heap.size w5 (w5.alloc (.cells #[.int .u8 0] 5)):=(zAM _ _).alloc (zAD _) _
 have Jl:=zAA (KC.out.trans (b6.mono KC.out.size))
 have Yf:=zAA (Ve.out.alloc (.cells #[.int .u8 0] 5))
 have HQ6:=zAA (yB.out.below b6)
 have vD:Hid (Rd (w5.alloc (.cells #[.int .u8 0] 5)) 1 (.slice (some ⟨w5.heap.size,0,none⟩) 1 1) 1 (B9 [0])):=Rd.FQ (Ao.new w5 #[.int .u8 0] 5) rfl (by simp [maxLen])
 go_wp2_with fail
 refine (iW _ _ _ _ [0] [0] _ HQ6.out vD.out (by decide) (by decide)).mono ?_
 rintro e w7 ⟨rfl,rfl⟩
 rw [zBA (rfl:[0]=[0])]
 have d2:(w5.alloc (.cells #[.int .u8 0] 5)).cell? ⟨g,2,none⟩=some (.slice p2 0 c2):=by rw [Yf.out.cell];rfl
 clear d0 b6
 go_wp2_with fail
 go_ret
 exact ⟨rfl,Jl.out⟩
end
end Go.Proofs.YtdcgbgecbeegmaaGreatDoor
end
section
namespace Go.Proofs.YtdcgbgecbeegmaaGreatDoor
open Go Go.RowKit Go.Shelf
section
def YP (N N':Nat→Prop) (W W':World):Prop:=∀j,N' j→N j∨(W.heap.size≤j∧j<W'.heap.size)
def fV {β:Type} (F:Fence) (n:Nat) (P:Program) (g:Nat) (lb:Array Value) (full:List β) (encs:β→Value→Array Value) (Rx:β→Value→World→Prop) (K:Nat→Prop) (w:World):Prop:=
 ∀(l:Nat) (J:Nat→(Nat→Prop)→World→Prop) (W:World),Below w.heap.size w W→
  (∀k N N' W W',J k N W→Below W.heap.size W W'→YP N N' W W'→J k N' W')→
  (∀k x v N W1,J k N W1→full[k]? = some x→Rx x v W1→YieldAt F (n-1) P l (encs x v) W1 fun e W'=>e = .returned (.bool true)∧J (k+1) N W'∧Ac (fun j=>¬N j) W1 W')→
  J 0 K W→
  CallsIn F n P g (#[.func (.yield l) #[] #[]]++lb) W fun e W'=>(∃v,e = .returned v)∧∃N,J full.length N W'
def pj (B:Nat) (I:Nat→(Nat→Prop)→World→Prop) (k:Nat) (N:Nat→Prop) (W:World):Exit→Act→World→Prop
 | .normal,_,W'=>KeepsFrom B W W'∧Ac (fun j=>¬N j) W W'∧I (k+1) N W'
 | _,_,_=>False
theorem N4 {S:Nat→Prop} {w W:World} (h:Ac S w W) {l:Nat} (hl:S l∨w.heap.size≤l) (o:Obj):Ac S w (W.putObj l o):=by
 have hg:=grownBy_putObj' W l o
 exact ⟨hg.os.trans h.os,hg.tape.trans h.tape,hg.output.trans h.output,zAW h.size hg.size,fun k hk hs=>(hg.block k (by have:=h.size;omega) (fun e=>by
  cases e
  rcases hl with e | e
  ·exact hs e
  ·omega)).trans (h.block k hk hs)⟩
variable {F:Fence} {n:Nat} {P:Program}
theorem Mi {β:Type} {g:Operand} {ps:Array Tmp} {assign body:Code} {Q:Exit→Act→World→Prop} {a:Act} {w:World}
  (hro:F.round=none) (h1:1≤n) {gf:Nat} {lb:Array Value} (hg:a.eval g = .func (.func gf) #[] lb) (hFg:F.fn gf) (eg:∀args w,(callFunc gf args).run P w = .ok (.enter gf args) w)
  {full:List β} {encs:β→Value→Array Value} {Rx:β→Value→World→Prop} {K:Nat→Prop} {w0:World} (hseq:fV F (n-1) P gf lb full encs Rx K w0) (wW:Below w0.heap.size w0 w) (hps:∀x v,(encs x v).size=ps.size)
  (hRx:∀x v W l o o',Rx x v W→W.heap[l]? = some o→o.isCells=false→Rx x v (W.putObj l o'))
  (I:Nat→(Nat→Prop)→World→Prop)
  (hIb:∀k N N' W W',I k N W→Below W.heap.size W W'→YP N N' W W'→I k N' W')
  (hIp:∀k N W l o o',I k N W→w.heap.size≤l→¬N l→W.heap[l]? = some o→o.isCells=false→I k N (W.putObj l o'))
  (hK:∀k,K k→k<w.heap.size) (h0:I 0 K w) (a₁:β→Value→Act)
  (sr:∀(l:Nat) (x:β) (v:Value) (W:World) (G:Act→World→Prop),G (a₁ x v) W→
   assign.wpIn (F.inRound l) (n-1-1) P (Exit.then G (fun _ _ _=>False)) { tmps:=(ps.zip (encs x v)).foldl (fun t (p,v)=>t.setIfInBounds p v) a.tmps,defers:=[] } W)
  (hbody:∀(l k:Nat) (x:β) (v:Value) (N:Nat→Prop) (W:World),I k N W→full[k]? = some x→Rx x v W→body.wpIn (F.inRound l) (n-1-1) P (pj w.heap.size I k N W) (a₁ x v) W)
  (hdone:∀(D:Nat) (N:Nat→Prop) (W:World),w.heap.size≤D→I full.length N W→W.heap[D]? = some (.deferred (some []))→Q .normal { a with defers:={ target:=.collected D,args:=#[] }::a.defers } W) :
  (Code.rangeFunc g ps assign body).wpIn F n P Q a w:=by
 refine wpIn_rangeFunc fun fn hfn=>?_
 rw [hro]
 let Qg:LoopState→Loop:=fun st=>{ state:=st,pending:=none,fn,tmps:=a.tmps,params:=ps,assign,body,defers:=w.heap.size }
 let L:=w.heap.size+1
 let W1:=(w.alloc (.deferred (some []))).alloc (.loop (Qg .ready))
 have sz:W1.heap.size=w.heap.size+2:=by simp [W1]
 have bw:Below w.heap.size w W1:=((zAM _ w).alloc (zAD _) _).alloc (by simp) _
 have hL:W1.heap[L]? = some (.loop (Qg .ready)):=by
  have:=World.alloc_heap_new (w.alloc (.deferred (some []))) (.loop (Qg .ready))
  rwa [World.size_alloc] at this
 have hD:W1.heap[w.heap.size]? = some (.deferred (some [])):=(zEW _ _ _ (by simp)).trans (World.alloc_heap_new w _)
 refine ⟨L,[{ target:=.collected w.heap.size,args:=#[] }],W1,{ target:=.fn (.func gf) lb,args:=#[.func (.yield L) #[] #[]] },W1,gf,#[.func (.yield L) #[] #[]]++lb,W1,run_enterLoop_outer _ _ _ _ _,?_,?_,?_,fun _=>h1,?_⟩
 ·simp only [resolve,hg];simp [go_sem,L]
 ·intro f' hf';simp [Target.leads] at hf';subst hf';exact hFg
 ·simp [invoke,go_sem,eg]
 let J:Nat→(Nat→Prop)→World→Prop:=fun k N W=>I k N W∧W.heap[L]? = some (.loop (Qg .ready))∧W.heap[w.heap.size]? = some (.deferred (some []))∧¬N L
 have hJb:∀k N N' W W',J k N W→Below W.heap.size W W'→YP N N' W W'→J k N' W':=by
  rintro k N N' W W' ⟨i1,i2,i3,i4⟩ hb hj
  have l1:=(zAX.1 i2).1
  have l2:=(zAX.1 i3).1
  refine ⟨hIb _ _ _ _ _ i1 hb hj,(hb.block _ l1).trans i2,(hb.block _ l2).trans i3,fun e=>?_⟩
  rcases hj _ e with f | f
  ·exact i4 f
  ·omega
 have hJ0:J 0 K W1:=⟨hIb _ _ _ _ _ h0 bw (fun j hj=>Or.inl hj),hL,hD,fun e=>by have:=hK _ e;omega⟩
 refine (hseq L J W1 (wW.trans (bw.mono wW.size)) hJb ?_ hJ0).mono ?_
 ·rintro k x v N W ⟨i1,i2,i3,i4⟩ hx hr
  have hy:=run_yield (P:=P) (args:=encs x v) i2 (hps x v)
  refine ⟨fn,_,assign,body,hy,roundIn_of_wpIn hfn (sr _ x v W _ ⟨_,run_beginRound i2 rfl,?_⟩)⟩
  let W2:=W.putObj L (.loop { Qg .ready with state:=.busy })
  have l1:=(zAX.1 i2).1
  have j2:W2.heap[L]? = some (.loop { Qg .ready with state:=.busy }):=World.putObj_heap_same l1
  have j3:W2.heap[w.heap.size]? = some (.deferred (some [])):=(World.putObj_heap_other (by simp [L])).trans i3
  refine wpIn_mono (hbody _ k x v N W2 (hIp _ _ _ _ _ _ i1 (by simp [L]) i4 i2 rfl) hx (hRx _ _ _ _ _ _ hr i2 rfl)) ?_
  rintro e a3 W3 hp
  cases e with
  | normal=>
   obtain ⟨p1,p2,p3⟩:=hp
   have e2:=p1.same _ _ (by simp [L]) j2 rfl
   have e3:=p1.same _ _ (zAD _) j3 rfl
   have l3:=(zAX.1 e2).1
   have hb:Ac (fun j=>¬N j) W W2:=N4 (Ac.refl _ W) (Or.inl i4) _
   refine ⟨_,_,run_endRound (P:=P) none e2,rfl,⟨hIp _ _ _ _ _ _ p3 (by simp [L]) i4 e2 rfl,World.putObj_heap_same l3,(World.putObj_heap_other (by simp [L])).trans e3,i4⟩,N4 (hb.trans p2 (fun _ _ e=>e)) (Or.inl i4) _⟩
  | _=>exact hp.elim
 ·rintro e W2 ⟨⟨v,rfl⟩,N,i1,i2,i3,i4⟩
  exact ⟨none,_,run_endLoop (P:=P) i2 (by simp [Qg]),hdone _ N _ (zAD _) (hIp _ _ _ _ _ _ i1 (by simp [L]) i4 i2 rfl) ((World.putObj_heap_other (by simp [L])).trans i3)⟩
end
end Go.Proofs.YtdcgbgecbeegmaaGreatDoor
end
section
namespace Go.Proofs.YtdcgbgecbeegmaaGreatDoor
open Go Go.RowKit Go.Shelf
attribute [local go_sem] Oper.semAt_some
section
theorem jS (p:Option Addr) (m c:Nat) (w:World) (n:Nat) :
  CallsIn Fence.wide n Tryz.prog 98 #[.slice p m c] w fun e w'=>e = .returned (.func (.func 141) #[] #[.pointer (some ⟨w.heap.size,0,none⟩)])∧w'=w.alloc (.cells #[.slice p m c] 22):=by
 refine zCQ.2 ?_
 go_enter Tryz.func98,Tryz.ntmps98
 go_wp2_with fail
 go_ret
 exact ⟨rfl,rfl⟩
structure PaIn (K:Nat→Prop) (J:Nat→(Nat→Prop)→World→Prop) (w0:World) (g:Nat) (bv:Value) (k:Nat) (N:Nat→Prop) (W:World):Prop where
 inv:J k N W
 sub:∀j,K j→N j
 AA:Below w0.heap.size w0 W
 box:W.cell? ⟨g,0,none⟩=some bv
structure iu (K:Nat→Prop) (J:Nat→(Nat→Prop)→World→Prop) (w0:World) (g:Nat) (bv:Value) (k:Nat) (N:Nat→Prop) (r:Value) (vs:List Value) (ps:List (List Dt)) (W:World):Prop extends PaIn K J w0 g bv k N W where
 row:Rd W 1 r vs.length vs
 at_:RT W vs ps
 rown:∀j,r.ownBlock=some j→N j
 vown:∀u∈vs,∀j,u.ownBlock=some j→N j
variable {K:Nat→Prop} {J:Nat→(Nat→Prop)→World→Prop} {w0 W W':World} {g k:Nat} {bv r:Value} {N N':Nat→Prop} {vs:List Value} {ps:List (List Dt)}
theorem PaIn.lays (h:PaIn K J w0 g bv k N W) (hJ:∀k N N' W W',J k N W→Below W.heap.size W W'→YP N N' W W'→J k N' W') (hb:Below W.heap.size W W'):PaIn K J w0 g bv k (fun j=>N j∨(W.heap.size≤j∧j<W'.heap.size)) W':=
 ⟨hJ _ _ _ _ _ h.inv hb (fun _ e=>e),fun j e=>Or.inl (h.sub j e),h.AA.trans (hb.mono h.AA.size),(hb.cell (zAP W _ h.box)).trans h.box⟩
theorem iu.went (h:iu K J w0 g bv k N r vs ps W) (hK:∀j,j<w0.heap.size∨j=g→K j) (hj:J (k+1) N W') (hm:Ac (fun j=>¬N j) W W'):iu K J w0 g bv (k+1) N r vs ps W':=
 ⟨⟨hj,h.sub,h.AA.trans (hm.below h.AA.size (fun j Aq e=>e (h.sub j (hK j (Or.inl Aq))))),hm.cell h.box (fun e=>e (h.sub _ (hK _ (Or.inr rfl))))⟩,
  h.row.Ai hm (fun j e f=>f (h.rown j e)),⟨h.at_.1,fun i v p hv hp=>(h.at_.2 i v p hv hp).Ai hm (fun j e f=>f (h.vown v (zAG hv) j e))⟩,h.rown,h.vown⟩
theorem aw (n:Nat) (hn:1≤n) (g:Nat) (bv:Value) (b:List AJ) (w0 w:World) (hR:FU w0 bv b) (hs:KS b) (hb:Below w0.heap.size w0 w) (hg:w.cell? ⟨g,0,none⟩=some bv) :
  fV Fence.wide n Tryz.prog 141 #[.pointer (some ⟨g,0,none⟩)] (Ka b) (fun (x:rM) v=>#[.int .i64 (x.1:Int),v]) (fun x v W=>Rd W 2 v x.2.length (Al x.2)) (fun j=>j<w0.heap.size∨j=g) w:=by
 intro l J W hW hJ hY h0
 obtain ⟨K,hK⟩:∃K:Nat→Prop,(fun j=>j<w0.heap.size∨j=g)=K:=⟨_,rfl⟩
 rw [hK] at h0
 have HKd:Hid (∀j,j<w0.heap.size∨j=g→K j):=by rw [← hK];exact fun _ e=>e
 clear hK
 have Vd:Hid (PaIn K J w0 g bv 0 K W):=⟨h0,fun _ e=>e,hb.trans (hW.mono hb.size),(hW.cell (zAP w _ hg)).trans hg⟩
 have HR:=zAA hR;have HM:=zAA hs
 have HJ:=zAA hJ;have HY:=zAA hY
 obtain ⟨pb,cb,hv⟩:=hR.shape
 subst hv
 have nD:(b.length:Int)≤20000:=by have:=hs.len;omega
 clear hR hs hb hg hJ hY h0 hW
 have c0:=Vd.out.box
 refine zGC Tryz.func141 rfl trivial ?_ rfl
 simp only [Tryz.ntmps141,zCC,zAH,zBG,Nat.reduceAdd,Nat.reduceSub,zCL,zCM,zCV,zCO,zBK,zBX]
 gi_wp2
 clear c0
 gi_loopw [9] (fun iv wr=>∃(i:Nat) (N:Nat→Prop),i≤b.length∧iv = .int .i64 (i:Int)∧Hid (PaIn K J w0 g (.slice pb b.length cb) (DR b i).length N wr)) (fun iv _=>b.length-(intOf iv).toNat)
 case atStart=>exact ⟨0,K,zAJ _,rfl,Vd.out⟩
 case round=>
  obtain ⟨i,N,hi,rfl,HI⟩:=hrel
  clear Vd
  have KM:(i:Int)≤20000:=by omega
  by_cases Aq:i<b.length
  ·have AF:(i:Int)<(b.length:Int):=by omega
   obtain ⟨s,hx⟩:∃s,b[i]? = some s:=⟨_,zAC Aq⟩
   obtain ⟨AM,off,h1,h2,e,⟨p1,k1,e1⟩,⟨p2,k2,e2⟩,Ex⟩:=HR.out.always hx
   subst e
   subst e1
   subst e2
   have HX:=zAA hx
   have Fi:=zAA Ex
   obtain ⟨c1,c2,_⟩:=Ex wr HI.out.AA
   obtain ⟨w2,EC⟩:∃w2,w2=wr.alloc (.cells #[.slice p1 s.1.length k1,.slice p2 s.2.length k2] 51):=⟨_,rfl⟩
   have HW:Hid (wr.alloc (.cells #[.slice p1 s.1.length k1,.slice p2 s.2.length k2] 51)=w2):=EC.symm
   have EP:Below wr.heap.size wr w2:=by rw [EC];exact (zAM _ wr).alloc (zAD _) _
   have E4:Hid (Ao w2 wr.heap.size [.slice p1 s.1.length k1,.slice p2 s.2.length k2]):=by show Ao _ _ _;rw [EC];exact Ao.new wr _ _
   have Ue:=zAA (HI.out.lays HJ.out EP)
   have qI:=zAA (WH (.slice p2 s.2.length k2) s.2 w2 ((Ex w2 Ue.out.AA).2.2.2) (HM.out.mem (zAG hx)))
   clear hx Ex EC EP
   gi_wp2
   rw [HW.out]
   have q1:w2.cell? ⟨wr.heap.size,0,none⟩=some (.slice p1 s.1.length k1):=by rw [E4.out.cell];rfl
   have q2:w2.cell? ⟨wr.heap.size,1,none⟩=some (.slice p2 s.2.length k2):=by rw [E4.out.cell];rfl
   clear c1 c2
   gi_wp2_with (refine ⟨trivial,?_⟩;gi_at_call 142;refine (zCQ.2 qI.out).mono ?_;rintro e w3 ⟨r,vs,rfl,hr,Jv,hrf,hvf,FG⟩;obtain ⟨pr,cr,xD⟩:=hr.shape;subst xD)
   have Uf:=zAA (Ue.out.lays HJ.out FG)
   obtain ⟨N3,hN3⟩:∃N3:Nat→Prop,(fun j=>(N j∨(wr.heap.size≤j∧j<w2.heap.size))∨(w2.heap.size≤j∧j<w3.heap.size))=N3:=⟨_,rfl⟩
   rw [hN3] at Uf
   have hnw:∀j,w2.heap.size≤j∧j<w3.heap.size→N3 j:=fun j hj=>by rw [← hN3];exact Or.inr hj
   rw [et] at Jv
   have kX:Hid (iu K J w0 g (.slice (some ⟨AM,off,none⟩) b.length cb) ((DR b i).length+0) N3 (.slice pr vs.length cr) vs (Gb s.2) w3):=
    ⟨Uf.out,hr,Jv,fun j e=>hnw j (hrf j e),fun u hu j e=>hnw j (hvf u hu j e)⟩
   have y4:vs.length=(s.2.length+119) / 120:=by rw [Jv.1,Gb,zAT,zEI]
   have gE:(vs.length:Int)≤1000000:=by have:=HM.out.mem (zAG HX.out);omega
   have RQ:Hid (vs.length=(Gb s.2).length):=Jv.1
   clear hN3 hnw hr Jv hrf hvf FG Uf Ue qI y4 E4 HW q1 q2 HI
   gi_loopw [18] (fun jv wr=>∃(j:Nat),j≤vs.length∧jv = .int .i64 (j:Int)∧Hid (iu K J w0 g (.slice (some ⟨AM,off,none⟩) b.length cb) ((DR b i).length+j) N3 (.slice pr vs.length cr) vs (Gb s.2) wr)) (fun jv _=>vs.length-(intOf jv).toNat)
   case atStart=>exact ⟨0,zAJ _,rfl,kX.out⟩
   case round=>
    obtain ⟨j,hj,rfl,HA⟩:=hrel
    clear kX
    have hjm:(j:Int)≤1000000:=by omega
    by_cases Mc:j<vs.length
    ·have hlt2':(j:Int)<(vs.length:Int):=by omega
     obtain ⟨v,hvj⟩:∃v,vs[j]? = some v:=⟨_,zAC Mc⟩
     obtain ⟨p,hpj⟩:∃p,(Gb s.2)[j]? = some p:=⟨_,zAC (by have:=RQ.out;omega)⟩
     obtain ⟨bk,of,c',e,_,_,hc⟩:=HA.out.row.at (fun e=>by rw [e] at Mc;simp at Mc)
     simp only [zAN,true_and] at e
     obtain ⟨rfl,rfl⟩:=e
     have nI:=HA.out.at_.2 j v p hvj hpj
     obtain ⟨pv,cv,DB⟩:=nI.shape
     subst DB
     have c1:=hc j _ hvj
     obtain ⟨fn,tmps,assign,body,jz,hR⟩:=HY.out _ (i,p) (.slice pv p.length cv) N3 wr HA.out.inv (tt HX.out hpj) nI
     simp only at jz
     have li:=zAA hR
     clear hR hvj hpj nI hc
     gi_wp2
     refine li.out.mono ?_
     rintro e W3 ⟨rfl,Uv,lm⟩
     have L5:Hid (iu K J w0 g (.slice (some ⟨AM,off,none⟩) b.length cb) ((DR b i).length+(j+1)) N3 (.slice (some ⟨bk,of,none⟩) vs.length cr) vs (Gb s.2) W3):=HA.out.went HKd.out Uv lm
     clear Uv lm li HA c1
     gi_wp2
     go_roundw
     case rel=>exact ⟨j+1,by omega,by go_num,L5.out⟩
     case measure=>simp [intOf];omega
    ·have hlt2':¬(j:Int)<(vs.length:Int):=by omega
     have HE:Hid (PaIn K J w0 g (.slice (some ⟨AM,off,none⟩) b.length cb) (DR b (i+1)).length N3 wr):=by
      show PaIn _ _ _ _ _ _ _ _
      rw [VT HX.out,← RQ.out,show vs.length=j by omega]
      exact HA.out.toPaIn
     clear HA
     gi_wp2
     go_roundw
     case rel=>exact ⟨i+1,N3,by omega,by go_num,HE.out⟩
     case measure=>simp [intOf];omega
  ·have Aq:¬(i:Int)<(b.length:Int):=by omega
   have HE:Hid (PaIn K J w0 g (.slice pb b.length cb) (Ka b).length N wr):=by
    have h:=HI.out
    rw [show i=b.length by omega] at h
    exact h
   gi_wp2
   go_end0
   exact ⟨⟨_,rfl⟩,N,HE.out.inv⟩
end
end Go.Proofs.YtdcgbgecbeegmaaGreatDoor
end
section
namespace Go.Proofs.YtdcgbgecbeegmaaGreatDoor
open Go Go.RowKit Go.Shelf
section
theorem Wa {α:Type} {l:List α} {i:Nat} {a:α} (h:l[i]? = some a):l.set i a=l:=by
 refine zFY fun k=>?_
 rw [zDB]
 split
 ·next e=>
  subst e
  rw [if_pos (zAE.1 h).1,h]
 ·rfl
def Jm (gb gL gc gl:Nat) (sv:Value) (hs:List Hd) (j:Nat):Prop:=j=gb∨j=gL∨j=gc∨j=gl∨sv.ownBlock=some j∨∃h∈hs,h.2.ownBlock=some j
structure Do (w:World) (gb gL gc gl:Nat) (bv:Value) (n:Nat) (rs:List DT) (out:List Nat) (N:Nat→Prop) (W:World) (hs:List Hd) (sv:Value):Prop where
 AA:Below w.heap.size w W
 bb:Ao W gb [bv]
 bL:Ao W gL [.slice (some ⟨gl,0,none⟩) n n]
 bc:Ao W gc [sv]
 row:W.ownsRow w.heap.size 146 2 (.slice (some ⟨gl,0,none⟩) n n) n (two Prod.fst Prod.snd hs)
 len:hs.length=n
 dP:rs.length=n
 own:W.ownsRow w.heap.size 5 1 sv out.length (B9 out)
 NV:∀(i:Nat) (h:Hd) (r:DT),hs[i]? = some h→rs[i]? = some r→Rd W 2 h.1 r.1.length (Am r.1)∧(r.1≠[]→∀j,h.1.ownBlock=some j→j<w.heap.size)
 lens:∀(i:Nat) (h:Hd) (r:DT),hs[i]? = some h→rs[i]? = some r→W.ownsRow w.heap.size 3 1 h.2 r.2.length (A1 r.2)
 apart:∀(i:Nat) (h:Hd),hs[i]? = some h→∀j,h.2.ownBlock=some j→j≠gb∧j≠gL∧j≠gc∧j≠gl∧sv.ownBlock≠some j
 fZ:∀(i k:Nat) (h x:Hd),i≠k→hs[i]? = some h→hs[k]? = some x→∀j,h.2.ownBlock=some j→x.2.ownBlock≠some j
 kG:∀j,sv.ownBlock=some j→j≠gb∧j≠gL∧j≠gc∧j≠gl
 four:gl≠gb∧gl≠gL∧gl≠gc∧gc≠gb∧gc≠gL
 low:w.heap.size≤gb∧w.heap.size≤gL∧w.heap.size≤gc
 off:∀j,Jm gb gL gc gl sv hs j→¬N j
 td:∀j,N j→j<W.heap.size
variable {w W W':World} {gb gL gc gl n:Nat} {bv sv:Value} {rs:List DT} {out:List Nat} {N N':Nat→Prop} {hs:List Hd}
theorem Do.glow (h:Do w gb gL gc gl bv n rs out N W hs sv):w.heap.size≤gl:=(h.row.lt gl rfl).1
theorem Do.Qg (h:Do w gb gL gc gl bv n rs out N W hs sv) {i:Nat} {x:Hd} (hi:hs[i]? = some x):∃r,rs[i]? = some r:=⟨_,zAC (by have:=(zAE.1 hi).1;rw [h.dP,← h.len];exact this)⟩
theorem Do.tc (h:Do w gb gL gc gl bv n rs out N W hs sv) {j:Nat} (hj:Jm gb gL gc gl sv hs j):w.heap.size≤j∧j<W.heap.size:=by
 rcases hj with rfl | rfl | rfl | rfl | e | ⟨x,hx,e⟩
 ·exact ⟨h.low.1,h.bb.lt⟩
 ·exact ⟨h.low.2.1,h.bL.lt⟩
 ·exact ⟨h.low.2.2,h.bc.lt⟩
 ·exact h.row.lt _ rfl
 ·exact h.own.lt j e
 ·obtain ⟨i,hi⟩:=zGF hx
  obtain ⟨r,hr⟩:=h.Qg hi
  exact (h.lens i x r hi hr).lt j e
theorem Do.ye {S:Nat→Prop} (h:Do w gb gL gc gl bv n rs out N W hs sv) (hm:Ac S W W') (hw:∀j,j<w.heap.size→¬S j) (hS:∀j,Jm gb gL gc gl sv hs j→¬S j) (hN:∀j,Jm gb gL gc gl sv hs j→¬N' j) (hl:∀j,N' j→j<W'.heap.size):Do w gb gL gc gl bv n rs out N' W' hs sv where
 AA:=h.AA.trans (hm.below h.AA.size hw)
 bb:=hm.AM h.bb (hS _ (Or.inl rfl))
 bL:=hm.AM h.bL (hS _ (Or.inr (Or.inl rfl)))
 bc:=hm.AM h.bc (hS _ (Or.inr (Or.inr (Or.inl rfl))))
 row:=hm.owns h.row (fun j e=>hS _ (Or.inr (Or.inr (Or.inr (Or.inl (by simpa [Value.ownBlock] using e.symm))))))
 len:=h.len
 dP:=h.dP
 own:=hm.owns h.own (fun j e=>hS _ (Or.inr (Or.inr (Or.inr (Or.inr (Or.inl e))))))
 NV:=fun i x r hi hr=>⟨(h.NV i x r hi hr).1.mods' hm (fun ne j e=>hw j ((h.NV i x r hi hr).2 (CO ne) j e)),(h.NV i x r hi hr).2⟩
 lens:=fun i x r hi hr=>hm.owns (h.lens i x r hi hr) (fun j e=>hS _ (Or.inr (Or.inr (Or.inr (Or.inr (Or.inr ⟨x,zAG hi,e⟩))))))
 apart:=h.apart
 fZ:=h.fZ
 kG:=h.kG
 four:=h.four
 low:=h.low
 off:=hN
 td:=hl
theorem Do.below (h:Do w gb gL gc gl bv n rs out N W hs sv) (hb:Below W.heap.size W W'):Do w gb gL gc gl bv n rs out N W' hs sv:=h.ye (Ac.Ah hb (fun _=>False)) (fun _ _ e=>e) (fun _ _ e=>e) h.off (fun j e=>zAO (h.td j e) hb.size)
theorem Do.joins (h:Do w gb gL gc gl bv n rs out N W hs sv) (hb:Below W.heap.size W W') (hj:YP N N' W W'):Do w gb gL gc gl bv n rs out N' W' hs sv:=h.ye (Ac.Ah hb (fun _=>False)) (fun _ _ e=>e) (fun _ _ e=>e) (fun j hm e=>by
 rcases hj j e with f | f
 ·exact h.off j hm f
 ·have:=(h.tc hm).2;omega) (fun j e=>by
 rcases hj j e with f | f
 ·exact zAO (h.td j f) hb.size
 ·exact f.2)
theorem Do.isCells (h:Do w gb gL gc gl bv n rs out N W hs sv) {j:Nat} (hj:Jm gb gL gc gl sv hs j) {o:Obj} (ho:W.heap[j]? = some o):o.isCells=true:=by
 have AM:∀{k:Nat} {cs:List Value},Ao W k cs→j=k→o.isCells=true:=fun {k cs} hb e=>by
  subst e
  obtain ⟨t,ht⟩:=hb
  rw [ht] at ho;cases ho;rfl
 rcases hj with e | e | e | e | e | ⟨x,hx,e⟩
 ·exact AM h.bb e
 ·exact AM h.bL e
 ·exact AM h.bc e
 ·subst e
  exact C9 h.row _ o rfl ho
 ·exact C9 h.own _ o e ho
 ·obtain ⟨i,hi⟩:=zGF hx
  obtain ⟨r,hr⟩:=h.Qg hi
  exact C9 (h.lens i x r hi hr) _ o e ho
theorem Do.put (h:Do w gb gL gc gl bv n rs out N W hs sv) {l:Nat} {o:Obj} (hl:w.heap.size≤l) (ho:W.heap[l]? = some o) (hc:o.isCells=false) (o':Obj):Do w gb gL gc gl bv n rs out N (W.putObj l o') hs sv:=
 h.ye (S:=fun j=>j=l) (N4 (Ac.refl (fun j=>j=l) W) (Or.inl rfl) o') (fun j hj e=>by omega) (fun j hm e=>by subst e;have:=h.isCells hm ho;rw [hc] at this;cases this) h.off (fun j e=>by simpa using h.td j e)
theorem Do.rdR (h:Do w gb gL gc gl bv n rs out N W hs sv):bO W (.slice (some ⟨gl,0,none⟩) n n) rs:=
 ⟨⟨hs,by rw [h.len];exact Rd.Ad h.row,h.len.trans h.dP.symm,fun i x r hi hr=>⟨(h.NV i x r hi hr).1,Rd.Ad (h.lens i x r hi hr)⟩⟩⟩
theorem Do.label (h:Do w gb gL gc gl bv n rs out N W hs sv) {i:Nat} {x:Hd} {r:DT} {lv:Value} {l:List AC} (hi:hs[i]? = some x) (hr:rs[i]? = some r) (hl:Rd W 2 lv l.length (Am l)) (dC:l≠[]→∀j,lv.ownBlock=some j→j<w.heap.size) :
  Do w gb gL gc gl bv n (rs.set i (l,r.2)) out N (W.setCell ⟨gl,i*2,none⟩ lv) (hs.set i (lv,x.2)) sv∧Ac (fun j=>j=gl) W (W.setCell ⟨gl,i*2,none⟩ lv):=by
 have hm:Ac (fun j=>j=gl) W (W.setCell ⟨gl,i*2,none⟩ lv):=Ac.set _ _ _ _ (fun _=>rfl)
 have hg:=h.glow
 have Aq:=(zAE.1 hi).1
 have nB:=(zAE.1 hr).1
 have mem:∀y∈hs.set i (lv,x.2),∃z∈hs,z.2=y.2:=fun y hy=>by
  rcases zGI hy with e | e
  ·exact ⟨y,e,rfl⟩
  ·subst e;exact ⟨x,zAG hi,rfl⟩
 have get:∀{k:Nat} {y:Hd},(hs.set i (lv,x.2))[k]? = some y→∃z,hs[k]? = some z∧z.2=y.2:=fun {k y} hy=>by
  rw [zDB] at hy
  split at hy
  ·next e=>
   subst e
   try rw [if_pos Aq] at hy
   cases hy
   exact ⟨x,hi,rfl⟩
  ·exact ⟨y,hy,rfl⟩
 have Aj:(two Prod.fst Prod.snd hs).set (i*2) lv=two Prod.fst Prod.snd (hs.set i (lv,x.2)):=by
  rw [← X6]
  have h2:=(Fo (f1:=Prod.fst) (f2:=Prod.snd) hs i x hi).2
  have h3:((two Prod.fst Prod.snd hs).set (i*2) lv)[i*2+1]? = some x.2:=by rw [zDB,if_neg (by omega)];exact h2
  exact (Wa h3).symm
 refine ⟨⟨h.AA.trans (hm.below h.AA.size (fun j hj e=>by omega)),hm.AM h.bb (fun e=>h.four.1 e.symm),hm.AM h.bL (fun e=>h.four.2.1 e.symm),hm.AM h.bc (fun e=>h.four.2.2.1 e.symm),?_,by rw [zFC];exact h.len,by rw [zFC];exact h.dP,hm.owns h.own (fun j e=>(h.kG j e).2.2.2),fun k y s hy hs'=>?_,fun k y s hy hs'=>?_,fun k y hy j e=>?_,fun k k' y y' BC hy hy' j e=>?_,h.kG,h.four,h.low,fun j hj=>?_,fun j e=>by simpa using h.td j e⟩,hm⟩
 ·rw [← Aj]
  exact (h.row.stored (i*2) lv).1
 ·rw [zDB] at hy hs'
  split at hy
  ·next e=>
   subst e
   try rw [if_pos Aq] at hy
   rw [if_pos rfl,if_pos nB] at hs'
   cases hy;cases hs'
   exact ⟨hl.FZ hm (fun ne j e=>by have:=dC (CO ne) j e;omega),dC⟩
  ·next e=>
   rw [if_neg e] at hs'
   have h1:=h.NV k y s hy hs'
   exact ⟨h1.1.FZ hm (fun ne j e=>by have:=h1.2 (CO ne) j e;omega),h1.2⟩
 ·rw [zDB] at hy hs'
  split at hy
  ·next e=>
   subst e
   try rw [if_pos Aq] at hy
   rw [if_pos rfl,if_pos nB] at hs'
   cases hy;cases hs'
   exact hm.owns (h.lens i x r hi hr) (fun j e=>(h.apart i x hi j e).2.2.2.1)
  ·next e=>
   rw [if_neg e] at hs'
   exact hm.owns (h.lens k y s hy hs') (fun j e=>(h.apart k y hy j e).2.2.2.1)
 ·obtain ⟨z,hz,e2⟩:=get hy
  exact h.apart k z hz j (e2 ▸ e)
 ·obtain ⟨z,hz,e2⟩:=get hy
  obtain ⟨z',hz',e2'⟩:=get hy'
  rw [← e2']
  exact h.fZ k k' z z' BC hz hz' j (e2 ▸ e)
 ·refine h.off j ?_
  rcases hj with e | e | e | e | e | ⟨y,hy,e⟩
  ·exact Or.inl e
  ·exact Or.inr (Or.inl e)
  ·exact Or.inr (Or.inr (Or.inl e))
  ·exact Or.inr (Or.inr (Or.inr (Or.inl e)))
  ·exact Or.inr (Or.inr (Or.inr (Or.inr (Or.inl e))))
  ·obtain ⟨z,hz,e2⟩:=mem y hy
   exact Or.inr (Or.inr (Or.inr (Or.inr (Or.inr ⟨z,hz,e2 ▸ e⟩))))
theorem Do.push (h:Do w gb gL gc gl bv n rs out N W hs sv) {i:Nat} {x:Hd} {r:DT} {cv:Value} {z:Int} {W1:World} (hi:hs[i]? = some x) (hr:rs[i]? = some r)
  (k1:W1.ownsRow 0 3 1 cv (r.2.length+1) (A1 r.2++[.int .i64 z])) (k2:Ac (fun k=>x.2.ownBlock=some k) W W1) (k3:AG W.heap.size x.2 cv) :
  Do w gb gL gc gl bv n (rs.set i (r.1,r.2++[z])) out N (W1.setCell ⟨gl,i*2+1,none⟩ cv) (hs.set i (x.1,cv)) sv∧Ac (fun j=>j=gl∨x.2.ownBlock=some j) W (W1.setCell ⟨gl,i*2+1,none⟩ cv):=by
 have Lg:Ac (fun j=>j=gl) W1 (W1.setCell ⟨gl,i*2+1,none⟩ cv):=Ac.set _ _ _ _ (fun _=>rfl)
 have hm:Ac (fun j=>j=gl∨x.2.ownBlock=some j) W (W1.setCell ⟨gl,i*2+1,none⟩ cv):=(k2.mono (fun _ _ e=>Or.inr e)).trans Lg (fun _ _ e=>Or.inl e)
 have hg:=h.glow
 have Aq:=(zAE.1 hi).1
 have nB:=(zAE.1 hr).1
 have Dz:=h.apart i x hi
 have xN:=fun j e=>(h.lens i x r hi hr).lt j e
 have hbs:=h.AA.size
 have hgW:gl<W.heap.size:=(h.row.lt gl rfl).2
 have gn:∀j,cv.ownBlock=some j→w.heap.size≤j∧j≠gb∧j≠gL∧j≠gc∧j≠gl∧sv.ownBlock≠some j:=fun j e=>by
  rcases k3 j e with f | f
  ·exact ⟨(xN j f).1,Dz j f⟩
  ·have q1:=h.bb.lt;have q2:=h.bL.lt;have q3:=h.bc.lt
   exact ⟨by omega,by omega,by omega,by omega,by omega,fun e=>by have:=(h.own.lt j e).2;omega⟩
 have hcv2:∀(k:Nat) (y:Hd),k≠i→hs[k]? = some y→∀j,cv.ownBlock=some j→y.2.ownBlock≠some j:=fun k y BC hy j e f=>by
  rcases k3 j e with g | g
  ·exact h.fZ k i y x BC hy hi j f g
  ·obtain ⟨s,hs'⟩:=h.Qg hy
   have:=((h.lens k y s hy hs').lt j f).2;omega
 have get:∀{k:Nat} {y:Hd},(hs.set i (x.1,cv))[k]? = some y→(k=i∧y=(x.1,cv))∨(k≠i∧hs[k]? = some y):=fun {k y} hy=>by
  rw [zDB] at hy
  split at hy
  ·next e=>
   subst e
   try rw [if_pos Aq] at hy
   cases hy
   exact Or.inl ⟨rfl,rfl⟩
  ·next e=>exact Or.inr ⟨fun f=>e f.symm,hy⟩
 have Aj:(two Prod.fst Prod.snd hs).set (i*2+1) cv=two Prod.fst Prod.snd (hs.set i (x.1,cv)):=by
  rw [← X6]
  have h2:=(Fo (f1:=Prod.fst) (f2:=Prod.snd) hs i x hi).1
  rw [Wa h2]
 refine ⟨⟨h.AA.trans (hm.below hbs (fun j hj e=>?_)),hm.AM h.bb (fun e=>?_),hm.AM h.bL (fun e=>?_),hm.AM h.bc (fun e=>?_),?_,by rw [zFC];exact h.len,by rw [zFC];exact h.dP,hm.owns h.own (fun j e f=>?_),fun k y s hy hs'=>?_,fun k y s hy hs'=>?_,fun k y hy j e=>?_,fun k k' y y' BC hy hy' j e=>?_,h.kG,h.four,h.low,fun j hj=>?_,fun j e=>zAO (h.td j e) hm.size⟩,hm⟩
 ·rcases e with e | e
  ·omega
  ·have:=(xN j e).1;omega
 ·rcases e with e | e
  ·exact h.four.1 e.symm
  ·exact (Dz _ e).1 rfl
 ·rcases e with e | e
  ·exact h.four.2.1 e.symm
  ·exact (Dz _ e).2.1 rfl
 ·rcases e with e | e
  ·exact h.four.2.2.1 e.symm
  ·exact (Dz _ e).2.2.1 rfl
 ·rw [← Aj]
  have r1:=k2.owns h.row (fun j e f=>(Dz j f).2.2.2.1 (by simpa [Value.ownBlock] using e.symm))
  exact (r1.stored (i*2+1) cv).1
 ·rcases f with f | f
  ·exact (h.kG j e).2.2.2 f
  ·exact (Dz j f).2.2.2.2 e
 ·have old:∀(s:DT),hs[k]? = some (if k=i then x else y)→rs[k]? = some s→Rd W 2 (if k=i then x else y).1 s.1.length (Am s.1)∧(s.1≠[]→∀j,(if k=i then x else y).1.ownBlock=some j→j<w.heap.size):=fun s a b=>h.NV k _ s a b
  have key:∀(u:Value) (l:List AC),Rd W 2 u l.length (Am l)→(l≠[]→∀j,u.ownBlock=some j→j<w.heap.size)→Rd (W1.setCell ⟨gl,i*2+1,none⟩ cv) 2 u l.length (Am l):=fun u l hu ho=>hu.FZ hm (fun ne j e f=>by
   have:=ho (CO ne) j e
   rcases f with f | f
   ·omega
   ·have:=(xN j f).1;omega)
  rw [zDB] at hs'
  rcases get hy with ⟨rfl,rfl⟩ | ⟨e,hy'⟩
  ·rw [if_pos rfl,if_pos nB] at hs'
   cases hs'
   obtain ⟨a,c⟩:=h.NV k x r hi hr
   exact ⟨key _ _ a c,c⟩
  ·rw [if_neg (fun f=>e f.symm)] at hs'
   obtain ⟨a,c⟩:=h.NV k y s hy' hs'
   exact ⟨key _ _ a c,c⟩
 ·rw [zDB] at hs'
  rcases get hy with ⟨rfl,rfl⟩ | ⟨e,hy'⟩
  ·rw [if_pos rfl,if_pos nB] at hs'
   cases hs'
   show World.ownsRow _ _ _ _ _ _ _
   rw [zAB,Lh]
   exact Af (Lg.owns k1 (fun j e f=>(gn j e).2.2.2.2.1 f)) (fun j e=>(gn j e).1)
  ·rw [if_neg (fun f=>e f.symm)] at hs'
   exact hm.owns (h.lens k y s hy' hs') (fun j a b=>by
    rcases b with b | b
    ·exact (h.apart k y hy' j a).2.2.2.1 b
    ·exact h.fZ k i y x e hy' hi j a b)
 ·rcases get hy with ⟨rfl,rfl⟩ | ⟨_,hy'⟩
  ·exact (gn j e).2
  ·exact h.apart k y hy' j e
 ·rcases get hy with ⟨rfl,rfl⟩ | ⟨a,xO⟩
  ·rcases get hy' with ⟨rfl,rfl⟩ | ⟨b,hy2⟩
   ·exact absurd rfl BC
   ·exact hcv2 k' y' b hy2 j e
  ·rcases get hy' with ⟨rfl,rfl⟩ | ⟨b,hy2⟩
   ·exact fun f=>hcv2 k y a xO j f e
   ·exact h.fZ k k' y y' BC xO hy2 j e
 ·have up:Jm gb gL gc gl sv hs j→¬N j:=h.off j
  rcases hj with e | e | e | e | e | ⟨y,hy,e⟩
  ·exact up (Or.inl e)
  ·exact up (Or.inr (Or.inl e))
  ·exact up (Or.inr (Or.inr (Or.inl e)))
  ·exact up (Or.inr (Or.inr (Or.inr (Or.inl e))))
  ·exact up (Or.inr (Or.inr (Or.inr (Or.inr (Or.inl e)))))
  ·rcases zGI hy with f | f
   ·exact up (Or.inr (Or.inr (Or.inr (Or.inr (Or.inr ⟨y,f,e⟩)))))
   ·subst f
    rcases k3 j e with g | g
    ·exact up (Or.inr (Or.inr (Or.inr (Or.inr (Or.inr ⟨x,zAG hi,g⟩)))))
    ·exact fun f=>by have:=h.td j f;omega
theorem Do.extend (h:Do w gb gL gc gl bv n rs out N W hs sv) {l:List Nat} {sv':Value} {W1:World}
  (k1:W1.ownsRow 0 5 1 sv' (out.length+l.length) (B9 out++B9 l)) (k2:Ac (fun k=>sv.ownBlock=some k) W W1) (k3:AG W.heap.size sv sv') :
  Do w gb gL gc gl bv n rs (out++l) N (W1.setCell ⟨gc,0,none⟩ sv') hs sv'∧Ac (fun j=>j=gc∨sv.ownBlock=some j) W (W1.setCell ⟨gc,0,none⟩ sv'):=by
 have Lg:Ac (fun j=>j=gc) W1 (W1.setCell ⟨gc,0,none⟩ sv'):=Ac.set _ _ _ _ (fun _=>rfl)
 have hm:Ac (fun j=>j=gc∨sv.ownBlock=some j) W (W1.setCell ⟨gc,0,none⟩ sv'):=(k2.mono (fun _ _ e=>Or.inr e)).trans Lg (fun _ _ e=>Or.inl e)
 have hbs:=h.AA.size
 have q1:=h.bb.lt;have q2:=h.bL.lt;have q3:=h.bc.lt
 have hgW:gl<W.heap.size:=(h.row.lt gl rfl).2
 have hl:=h.low
 have RA:∀j,sv'.ownBlock=some j→w.heap.size≤j∧j≠gb∧j≠gL∧j≠gc∧j≠gl:=fun j e=>by
  rcases k3 j e with f | f
  ·exact ⟨(h.own.lt j f).1,h.kG j f⟩
  ·exact ⟨by omega,by omega,by omega,by omega,by omega⟩
 have hnx:∀(k:Nat) (y:Hd),hs[k]? = some y→∀j,y.2.ownBlock=some j→sv'.ownBlock≠some j:=fun k y hy j e f=>by
  rcases k3 j f with g | g
  ·exact (h.apart k y hy j e).2.2.2.2 g
  ·obtain ⟨s,hs'⟩:=h.Qg hy
   have:=((h.lens k y s hy hs').lt j e).2;omega
 refine ⟨⟨h.AA.trans (hm.below hbs (fun j hj e=>?_)),hm.AM h.bb (fun e=>?_),hm.AM h.bL (fun e=>?_),?_,hm.owns h.row (fun j a b=>?_),h.len,h.dP,?_,fun k y s hy hs'=>⟨(h.NV k y s hy hs').1.mods' hm (fun ne j a b=>?_),(h.NV k y s hy hs').2⟩,fun k y s hy hs'=>hm.owns (h.lens k y s hy hs') (fun j a b=>?_),fun k y hy j e=>?_,h.fZ,fun j e=>(RA j e).2,h.four,h.low,fun j hj=>?_,fun j e=>zAO (h.td j e) hm.size⟩,hm⟩
 ·rcases e with e | e
  ·omega
  ·have:=(h.own.lt j e).1;omega
 ·rcases e with e | e
  ·exact h.four.2.2.2.1 e.symm
  ·exact (h.kG _ e).1 rfl
 ·rcases e with e | e
  ·exact h.four.2.2.2.2 e.symm
  ·exact (h.kG _ e).2.1 rfl
 ·have b1:=k2.AM h.bc (fun e=>(h.kG _ e).2.2.1 rfl)
  simpa using b1.set 0 sv'
 ·have a':j=gl:=by simpa [Value.ownBlock] using a.symm
  rcases b with b | b
  ·exact h.four.2.2.1 (a' ▸ b)
  ·exact (h.kG j b).2.2.2 a'
 ·rw [zAB,Cb]
  exact Af (Lg.owns k1 (fun j e f=>(RA j e).2.2.2.1 f)) (fun j e=>(RA j e).1)
 ·have:=(h.NV k y s hy hs').2 (CO ne) j a
  rcases b with b | b
  ·omega
  ·have:=(h.own.lt j b).1;omega
 ·rcases b with b | b
  ·exact (h.apart k y hy j a).2.2.1 b
  ·exact (h.apart k y hy j a).2.2.2.2 b
 ·have a:=h.apart k y hy j e
  exact ⟨a.1,a.2.1,a.2.2.1,a.2.2.2.1,hnx k y hy j e⟩
 ·have up:Jm gb gL gc gl sv hs j→¬N j:=h.off j
  rcases hj with e | e | e | e | e | e
  ·exact up (Or.inl e)
  ·exact up (Or.inr (Or.inl e))
  ·exact up (Or.inr (Or.inr (Or.inl e)))
  ·exact up (Or.inr (Or.inr (Or.inr (Or.inl e))))
  ·rcases k3 j e with g | g
   ·exact up (Or.inr (Or.inr (Or.inr (Or.inr (Or.inl g)))))
   ·exact fun f=>by have:=h.td j f;omega
  ·exact up (Or.inr (Or.inr (Or.inr (Or.inr (Or.inr e)))))
end
end Go.Proofs.YtdcgbgecbeegmaaGreatDoor
end
section
namespace Go.Proofs.YtdcgbgecbeegmaaGreatDoor
open Go Go.RowKit
theorem f7:Cd Tryz.prog 59 3 1 8:=Cd.mk' (z:=.int .i64 0) Tryz.underlying59 (by kernel_rfl) rfl (by decide)
theorem Fy (w:World):Below w.heap.size w w.drew:=⟨rfl,rfl,rfl,zAD _,fun _ _=>rfl⟩
def zb (w:World) (gb gL gc gl:Nat) (bv:Value) (n:Nat) (rs:List DT) (out:List Nat) (N:Nat→Prop) (sv:Value) (hs:List Hd) (W W':World):Prop:=
 ∃hs' sv',Do w gb gL gc gl bv n rs out N W' hs' sv'∧Ac (Jm gb gL gc gl sv hs) W W'
theorem rN {w W:World} {gb gL gc gl:Nat} {bv v:Value} {b:List AJ} {n:Nat} {rs:List DT} {out:List Nat} {N:Nat→Prop} {hs:List Hd} {sv:Value} {i:Nat} {s:AJ} {p:List Dt}
  (h:Do w gb gL gc gl bv n rs out N W hs sv) (hT:T9 W) (hb:FU w bv b) (hn:b.length=n) (hm:n≤20000) (hi:b[i]? = some s) (hp:Rd W 2 v p.length (Al p)) (ok:∀x∈p,EK x) (gD:p.length≤1000000)
  (hr:∀r∈rs,r.2.length≤1000000) (ho:out.length≤110000000000) :
  Calls Tryz.prog 96 #[.int .i64 (i:Int),v,.pointer (some ⟨gb,0,none⟩),.pointer (some ⟨gL,0,none⟩),.pointer (some ⟨gc,0,none⟩)] W fun e W'=>(∃u,e = .returned u)∧zb w gb gL gc gl bv n (rs.set i (s.1,((rs[i]?).getD ([],[])).2++[((B0 p).1.length:Int)])) (out++(B0 p).1) N sv hs W W':=by
 have H:=zAA h;have HB:=zAA hb
 have Gi:=zAA (Um v p W hT hp ok gD)
 obtain ⟨pv,cv,hv⟩:=hp.shape
 subst hv
 obtain ⟨pb,cb,hv⟩:=hb.shape
 subst hv
 rw [hn] at HB H ⊢
 have Ct:i<n:=by rw [← hn];exact (zAE.1 hi).1
 obtain ⟨x,hx⟩:∃x,hs[i]? = some x:=⟨_,zAC (by rw [h.len];exact Ct)⟩
 obtain ⟨r,nH⟩:=h.Qg hx
 have HX:=zAA hx;have HR:=zAA nH
 have nI:rs[i]?.getD ([],[])=r:=by rw [nH];rfl
 rw [nI]
 have DP:Hid (r.2.length≤1000000∧out.length≤110000000000∧(B0 p).1.length≤100000∧∀x∈(B0 p).1,x<256):=⟨hr r (zAG nH),ho,Gn p,PW p⟩
 obtain ⟨AM,off,h1,h2,e,⟨p1,c1,e1⟩,_,Ex⟩:=hb.always hi
 subst e
 subst e1
 have Fi:=zAA Ex
 have Vf:Hid (s.1≠[]→∀j,(Value.slice p1 s.1.length c1).ownBlock=some j→j<w.heap.size):=fun BC j hj=>(Ex w (zAM _ _)).2.2.1.lt (F9 BC) j hj
 have hii:(i:Int)<(n:Int):=by omega
 have hi2:(i:Int)≤20000:=by omega
 have yT:(n:Int)≤20000:=by omega
 obtain ⟨cw,gq⟩:∃cw,(B0 p).1=cw:=⟨_,rfl⟩
 rw [gq] at Gi DP ⊢
 generalize (B0 p).2=ce at *
 clear h hT hb hn hm hi hp ok gD hr ho Ct hx nH nI Ex gq
 go_enter Tryz.func96,Tryz.ntmps96
 go_wp2_with fail
 refine Gi.out.mono ?_
 rintro e W1 ⟨u,rfl,hU,hUf,hB⟩
 obtain ⟨pu,cu,hv⟩:=hU.shape
 subst hv
 have Ww:Hid (∀k,(Value.slice pu cw.length cu).ownBlock=some k→W.heap.size≤k):=hUf
 have HU1:=zAA hU;have A6:=zAA hB
 have H1:=zAA (H.out.below hB)
 have HGw:Hid (gl<W.heap.size∧gc<W.heap.size):=⟨(H.out.row.lt gl rfl).2,H.out.bc.lt⟩
 have HSv0:Hid (∀k,sv.ownBlock=some k→k<W.heap.size):=fun k hk=>(H.out.own.lt k hk).2
 have HXv0:Hid (∀k,x.2.ownBlock=some k→k<W.heap.size):=fun k hk=>(H.out.lens i x r HX.out HR.out).lt k hk |>.2
 clear hU hUf hB Gi H
 go_wp2_with fail
 obtain ⟨⟨d0,d1⟩,f0,f1⟩:(W1.cell? ⟨gl,i*2,none⟩=some x.1∧W1.cell? ⟨gl,i*2+1,none⟩=some x.2)∧(W1.frozen? ⟨gl,i*2,none⟩=false∧W1.frozen? ⟨gl,i*2+1,none⟩=false):=by
  have h1:=Fo (f1:=Prod.fst) (f2:=Prod.snd) hs i x HX.out
  have Aq:=(zAE.1 HX.out).1
  have hl:=Ff (f1:=Prod.fst) (f2:=Prod.snd) hs
  have JG:=H1.out.len
  exact ⟨⟨by rw [H1.out.row.cellAt (i*2) (by omega)];exact h1.1,by rw [H1.out.row.cellAt (i*2+1) (by omega)];exact h1.2⟩,H1.out.row.frozenAt _,H1.out.row.frozenAt _⟩
 have HS1:Hid (∀w':World,(w'.cell? ⟨gL,0,none⟩=some (.slice (some ⟨gl,0,none⟩) n n)∧w'.cell? ⟨gb,0,none⟩=some (.slice (some ⟨AM,off,none⟩) n cb)∧w'.cell? ⟨AM,off+i*2,none⟩=some (.slice p1 s.1.length c1))→(w'.cell? ⟨gL,0,none⟩=some (.slice (some ⟨gl,0,none⟩) n n)∧w'.cell? ⟨gb,0,none⟩=some (.slice (some ⟨AM,off,none⟩) n cb)∧w'.cell? ⟨AM,off+i*2,none⟩=some (.slice p1 s.1.length c1))):=fun _ h=>h
 have C0:Hid (Rd W1.drew 2 (.slice p1 s.1.length c1) s.1.length (Am s.1)):=(Fi.out W1.drew (H1.out.AA.trans ⟨rfl,rfl,rfl,zAD _,fun _ _=>rfl⟩)).2.2.1
 have zf:=zAA (H1.out.below (W':=W1.drew) ⟨rfl,rfl,rfl,zAD _,fun _ _=>rfl⟩)
 have dB:=zf.out.label HX.out HR.out C0.out Vf.out
 obtain ⟨W2,RV⟩:∃W2,(W1.setCell ⟨gl,i*2,none⟩ (.slice p1 s.1.length c1)).drew=W2:=⟨_,rfl⟩
 have hW2':W1.drew.setCell ⟨gl,i*2,none⟩ (.slice p1 s.1.length c1)=W2:=RV
 rw [hW2'] at dB
 have H2:=zAA dB.1;have Ni:=zAA dB.2
 have F3:=zAA RV
 have Wr:Hid (∀w',Do w gb gL gc gl (.slice (some ⟨AM,off,none⟩) n cb) n (rs.set i (s.1,r.2)) out N w' (hs.set i (.slice p1 s.1.length c1,x.2)) sv→(w'.cell? ⟨gL,0,none⟩=some (.slice (some ⟨gl,0,none⟩) n n)∧w'.cell? ⟨gb,0,none⟩=some (.slice (some ⟨AM,off,none⟩) n cb)∧w'.cell? ⟨AM,off+i*2,none⟩=some (.slice p1 s.1.length c1))):=fun w' h=>⟨by rw [h.bL.cell];rfl,by rw [h.bb.cell];rfl,(Fi.out w' h.AA).1⟩
 have d0':W1.drew.cell? ⟨gl,i*2,none⟩=some x.1:=d0
 have f0':W1.drew.frozen? ⟨gl,i*2,none⟩=false:=f0
 clear d0 d1 f0 f1 dB RV hW2'
 refine AI (fun w':World=>w'.cell? ⟨gL,0,none⟩=some (.slice (some ⟨gl,0,none⟩) n n)∧w'.cell? ⟨gb,0,none⟩=some (.slice (some ⟨AM,off,none⟩) n cb)∧w'.cell? ⟨AM,off+i*2,none⟩=some (.slice p1 s.1.length c1)) [9] [0,1,2,3,4,5,6,7,8,9] (by kernel_rfl) (by kernel_rfl) (by kernel_rfl) ?_ ?_ ?_
 ·intro c a a' w hd h;exact ⟨hd ▸ h.1,h.2⟩
 ·exact ⟨by rw [zf.out.bL.cell];rfl,by rw [zf.out.bb.cell];rfl,(Fi.out W1.drew zf.out.AA).1⟩
 simp only [Cj,zBC,zCP,zBE,zAY,zBM]
 repeat (first
        | (refine takeH_skip rfl ?_; simp only [Act.put, List.setIfInBounds_toArray, List.set_cons_succ, List.set_cons_zero])
        | (refine takeH_blind rfl rfl ?_; apply Exists.intro; refine ⟨fun w => ?_, ?_⟩; (go_simp; try with_reducible rfl); simp only [Act.put, List.setIfInBounds_toArray, List.set_cons_succ, List.set_cons_zero])
        | (refine takeH_reads rfl rfl ?_; apply Exists.intro; refine ⟨fun w' hS => ?_, ?_⟩; (obtain ⟨d0, d1, d2⟩ := HS1.out w' hS; go_simp; try with_reducible rfl); simp only [Act.put, List.setIfInBounds_toArray, List.set_cons_succ, List.set_cons_zero]))
 refine AY rfl rfl (fun K' hK=>?_)
 go_wp2_with fail
 refine hK _ _ ?_ ?_
 ·rw [F3.out];exact Wr.out _ H2.out
 rw [F3.out]
 clear hK K' F3
 refine Bv ?_
 have Py:Hid (Rd W2 1 (.slice pu cw.length cu) cw.length (B9 cw)):=(HU1.out.below (w':=W1.drew) ⟨rfl,rfl,rfl,zAD _,fun _ _=>rfl⟩).Ai Ni.out (fun k hk e=>by have:=Ww.out k hk;have:=HGw.out;have:k=gl:=e;omega)
 have zZ:Hid (Ac (Jm gb gL gc gl sv hs) W W2):=(Ac.Ah (A6.out.trans ((Fy W1).mono A6.out.size)) _).trans Ni.out (fun k _ e=>Or.inr (Or.inr (Or.inr (Or.inl e))))
 clear HU1 H1 A6 C0 zf Ni Wr HS1 d0' f0'
 go_wp2_with fail
 have C1:Hid ((hs.set i (.slice p1 s.1.length c1,x.2))[i]? = some (.slice p1 s.1.length c1,x.2)):=by
  show _=_
  rw [zDB,if_pos rfl,if_pos (zAE.1 HX.out).1]
 have KK:Hid ((rs.set i (s.1,r.2))[i]? = some (s.1,r.2)):=by
  show _=_
  rw [zDB,if_pos rfl,if_pos (zAE.1 HR.out).1]
 have hyc:∃px cx,x.2 = .slice px r.2.length cx:=(Rd.Ad (H2.out.lens i _ _ C1.out KK.out)).shape
 obtain ⟨px,cx,hxe⟩:=hyc
 have qN:=zAA hxe
 have rn:Hid (Ac (Jm gb gL gc gl sv hs) W W2.drew):=zZ.out.trans (Ac.Ah (Fy W2) (fun _=>False)) (fun _ _ e=>e.elim)
 have H3:=zAA (H2.out.below (Fy W2))
 have Vg:=zAA (Py.out.below (Fy W2))
 have HS2:Hid (∀w':World,w'.cell? ⟨gL,0,none⟩=some (.slice (some ⟨gl,0,none⟩) n n)→w'.cell? ⟨gL,0,none⟩=some (.slice (some ⟨gl,0,none⟩) n n)∧True∧True):=fun _ h=>⟨h,trivial,trivial⟩
 refine RM (fun w':World=>w'.cell? ⟨gL,0,none⟩=some (.slice (some ⟨gl,0,none⟩) n n)) (.take 0 (.take 1 (.take 2 (.take 3 (.take 4 (.take 5 (.take 7 (.take 8 (.two 6 9 (.one 9 (.one 10 (.take 11 (.take 12 (.one 13 .done))))) (.one 6 (.one 10 (.take 11 (.take 12 (.one 13 .done)))))))))))))) (by kernel_rfl) (by kernel_rfl) (by kernel_rfl) ?_ ?_ ?_
 ·intro c a a' w hd h;exact ⟨hd ▸ h.1,h.2⟩
 ·rw [H3.out.bL.cell];rfl
 simp only [GS,zBE,zAY,zBM]
 have HGw3:Hid (W.heap.size≤W2.drew.heap.size):=rn.out.size
 generalize W2.drew=W3 at *
 clear H2 Py zZ
 repeat (first
        | (refine takeP_skip rfl ?_; simp only [Act.put, List.setIfInBounds_toArray, List.set_cons_succ, List.set_cons_zero])
        | (refine takeP_blind rfl ?_; apply Exists.intro; refine ⟨fun w => ?_, ?_⟩; (go_simp; try with_reducible rfl); simp only [Act.put, List.setIfInBounds_toArray, List.set_cons_succ, List.set_cons_zero])
        | (refine takeP_reads rfl ?_; apply Exists.intro; refine ⟨fun w' hS => ?_, ?_⟩; (obtain ⟨d0, d1, d2⟩ := HS2.out w' hS; go_simp; try with_reducible rfl); simp only [Act.put, List.setIfInBounds_toArray, List.set_cons_succ, List.set_cons_zero]))
 have JK:Hid (∀w',Below W3.heap.size W3 w'→w'.cell? ⟨gL,0,none⟩=some (.slice (some ⟨gl,0,none⟩) n n)):=fun w' hb=>by rw [(H3.out.below hb).bL.cell];rfl
 have CF:Hid (Below W3.heap.size W3 (W3.alloc (.cells #[.int .i64 (cw.length:Int)] 3))):=(zAM _ W3).alloc (zAD _) _
 have H4:=zAA (H3.out.below CF.out)
 have uc:=zAA (Vg.out.below CF.out)
 have tY:Hid (Rd (W3.alloc (.cells #[.int .i64 (cw.length:Int)] 3)) 1 (.slice (some ⟨W3.heap.size,0,none⟩) 1 1) 1 [.int .i64 (cw.length:Int)]):=
  Rd.Ad (zCZ (base:=0) W3 #[.int .i64 (cw.length:Int)] 1 (zAJ _) (by simp [maxLen]) (by simp))
 have bJ:Hid (Ac (Jm gb gL gc gl sv hs) W (W3.alloc (.cells #[.int .i64 (cw.length:Int)] 3))):=rn.out.trans (Ac.Ah CF.out (fun _=>False)) (fun _ _ e=>e.elim)
 have GG:Hid ((W3.alloc (.cells #[.int .i64 (cw.length:Int)] 3)).ownsRow 0 3 1 (.slice px r.2.length cx) r.2.length (A1 r.2)):=by
  have h:=H4.out.lens i _ _ C1.out KK.out
  show World.ownsRow _ _ _ _ _ _ _
  rw [← qN.out]
  exact Af h (fun _ _=>zAJ _)
 have Nn:Hid ((r.2.length+1)*8≤140737488355328∧r.2.length+1≤maxLen):=by show _∧_;have:=DP.out.1;unfold maxLen;omega
 have cellX:∀{A:World},Do w gb gL gc gl (.slice (some ⟨AM,off,none⟩) n cb) n (rs.set i (s.1,r.2)) out N A (hs.set i (.slice p1 s.1.length c1,x.2)) sv→A.cell? ⟨gl,i*2+1,none⟩=some (.slice px r.2.length cx)∧A.frozen? ⟨gl,i*2+1,none⟩=false:=fun {A} h=>by
  have h1:=Fo (f1:=Prod.fst) (f2:=Prod.snd) (hs.set i (.slice p1 s.1.length c1,x.2)) i _ C1.out
  have Aq:=(zAE.1 C1.out).1
  have hl:=Ff (f1:=Prod.fst) (f2:=Prod.snd) (hs.set i (.slice p1 s.1.length c1,x.2))
  have JG:=h.len
  exact ⟨by rw [h.row.cellAt (i*2+1) (by omega),h1.2,← qN.out],h.row.frozenAt _⟩
 have yj:=zAA (fun A=>cellX (A:=A))
 clear cellX hxe
 refine kN ?_ ?_
 ·have q6:=(yj.out _ H3.out).1
  refine JB rfl (fun K' hK=>?_)
  go_wp2_with fail
  refine hK _ _ (JK.out _ (zAM _ _)) ?_
  clear hK K'
  refine Qm rfl (.slice (some ⟨W3.heap.size,0,none⟩) 1 1) (W3.alloc (.cells #[.int .i64 (cw.length:Int)] 3)) (by go_simp;try rfl) (JK.out _ CF.out) ?_
  simp only [Act.put,zAZ,zBT,zBL]
  refine Pm f7 rfl (.tmp 29) (.tmp 32) rfl rfl rfl GG.out tY.out (by simp [Value.oneCell']) Nn.out (fun v5 w5 k1 k2 k3=>?_)
  have sI:=H4.out.push (z:=(cw.length:Int)) C1.out KK.out k1 (by rw [qN.out];exact k2) (by rw [qN.out];exact k3)
  have Dz:=H4.out.apart i _ C1.out
  rw [qN.out] at Dz
  have bL5:=k2.AM H4.out.bL (fun e=>(Dz gL e).2.1 rfl)
  have row5:=k2.owns H4.out.row (fun j e f=>(Dz j f).2.2.2.1 (by simpa [Value.ownBlock] using e.symm))
  have d5:w5.cell? ⟨gl,i*2+1,none⟩=some (.slice px r.2.length cx):=by
   have h1:=Fo (f1:=Prod.fst) (f2:=Prod.snd) (hs.set i (.slice p1 s.1.length c1,x.2)) i _ C1.out
   have Aq:=(zAE.1 C1.out).1
   have hl:=Ff (f1:=Prod.fst) (f2:=Prod.snd) (hs.set i (.slice p1 s.1.length c1,x.2))
   have JG:=H4.out.len
   rw [row5.cellAt (i*2+1) (by omega),h1.2,← qN.out]
  have f5:w5.frozen? ⟨gl,i*2+1,none⟩=false:=row5.frozenAt _
  have H6:=zAA sI.1
  have HU6:=zAA (uc.out.Ai sI.2 (fun k hk e=>by
   have:=Ww.out k hk
   rcases e with e | e
   ·have:=HGw.out;omega
   ·have:=HXv0.out k e;omega))
  have yw:Hid (Ac (Jm gb gL gc gl sv hs) W (w5.setCell ⟨gl,i*2+1,none⟩ v5)):=bJ.out.trans sI.2 (fun k _ e=>by
   rcases e with e | e
   ·exact Or.inr (Or.inr (Or.inr (Or.inl e)))
   ·exact Or.inr (Or.inr (Or.inr (Or.inr (Or.inr ⟨x,zAG HX.out,e⟩)))))
  obtain ⟨p5,c5,sJ⟩:=(Rd.Ad k1).shape
  subst sJ
  refine ⟨by rw [bL5.cell];rfl,?_⟩
  clear k1 k2 k3 sI Dz bL5 row5 GG tY H4 uc bJ CF H3 Vg rn yj JK
  simp only [Act.put,zAZ,zBT,zBL]
  repeat (first
        | (refine takeP_skip rfl ?_; simp only [Act.put, List.setIfInBounds_toArray, List.set_cons_succ, List.set_cons_zero])
        | (refine takeP_blind rfl ?_; apply Exists.intro; refine ⟨fun w => ?_, ?_⟩; (go_simp; try with_reducible rfl); simp only [Act.put, List.setIfInBounds_toArray, List.set_cons_succ, List.set_cons_zero])
        | (refine takeP_reads rfl ?_; apply Exists.intro; refine ⟨fun w' hS => ?_, ?_⟩; (obtain ⟨d0, d1, d2⟩ := HS2.out w' hS; go_simp; try with_reducible rfl); simp only [Act.put, List.setIfInBounds_toArray, List.set_cons_succ, List.set_cons_zero]))
  refine JB rfl (fun K' hK=>?_)
  go_wp2_with fail
  refine hK _ _ (by rw [H6.out.bL.cell];rfl) ?_
  clear hK K' d5 f5
  refine TH ?_
  generalize w5.setCell ⟨gl,i*2+1,none⟩ (.slice p5 (r.2.length+1) c5)=w6 at *
  have y1:w6.cell? ⟨gc,0,none⟩=some sv:=by rw [H6.out.bc.cell];rfl
  have y2:=H6.out.bc.free 0
  obtain ⟨ps,cs,dE⟩:=(Rd.Ad H6.out.own).shape
  have KD:=zAA dE
  have Jg:Hid (w6.ownsRow 0 5 1 (.slice ps out.length cs) out.length (B9 out)):=by
   show World.ownsRow _ _ _ _ _ _ _
   rw [← KD.out]
   exact Af H6.out.own (fun _ _=>zAJ _)
  rw [dE] at y1
  have Jl:Hid ((out.length+cw.length)*1≤140737488355328∧out.length+cw.length≤maxLen):=by show _∧_;have:=DP.out;unfold maxLen;omega
  clear dE
  go_wp2_with (at_builtin;refine At Tryz.CG _ _ _ _ _ _ _ Jg.out HU6.out (A3 _) Jl.out rfl _ _ rfl rfl rfl ?_)
  intro v7 w7 k1 k2 k3
  have hex:=H6.out.extend k1 (by rw [KD.out];exact k2) (by rw [KD.out];exact k3)
  have b7:=k2.AM H6.out.bc (fun e=>(H6.out.kG gc (by rw [KD.out];exact e)).2.2.1 rfl)
  have y1:w7.cell? ⟨gc,0,none⟩=some sv:=by rw [b7.cell];rfl
  have y2:=b7.free 0
  have H8:=zAA hex.1;have rq:=zAA hex.2
  obtain ⟨p7,c7,UB⟩:=(Rd.Ad k1).shape
  subst UB
  clear k1 k2 k3 b7 hex Jg Jl
  go_wp2_with fail
  go_end0
  refine ⟨⟨_,rfl⟩,hs.set i (.slice p1 s.1.length c1,.slice p5 (r.2.length+1) c5),.slice p7 (out.length+cw.length) c7,?_,yw.out.trans rq.out (fun k Aq e=>?_)⟩
  ·have h:=H8.out
   rw [List.set_set,List.set_set] at h
   exact h
  ·rcases e with e | e
   ·exact Or.inr (Or.inr (Or.inl e))
   ·exact Or.inr (Or.inr (Or.inr (Or.inr (Or.inl e))))
 ·have q6:=(yj.out _ H4.out).1
  refine Qm rfl (.slice (some ⟨W3.heap.size,0,none⟩) 1 1) (W3.alloc (.cells #[.int .i64 (cw.length:Int)] 3)) (by go_simp;try rfl) (JK.out _ CF.out) ?_
  simp only [Act.put,zAZ,zBT,zBL]
  refine JB rfl (fun K' hK=>?_)
  go_wp2_with fail
  refine hK _ _ (JK.out _ CF.out) ?_
  clear hK K'
  refine Pm f7 rfl (.tmp 29) (.tmp 32) rfl rfl rfl GG.out tY.out (by simp [Value.oneCell']) Nn.out (fun v5 w5 k1 k2 k3=>?_)
  have sI:=H4.out.push (z:=(cw.length:Int)) C1.out KK.out k1 (by rw [qN.out];exact k2) (by rw [qN.out];exact k3)
  have Dz:=H4.out.apart i _ C1.out
  rw [qN.out] at Dz
  have bL5:=k2.AM H4.out.bL (fun e=>(Dz gL e).2.1 rfl)
  have row5:=k2.owns H4.out.row (fun j e f=>(Dz j f).2.2.2.1 (by simpa [Value.ownBlock] using e.symm))
  have d5:w5.cell? ⟨gl,i*2+1,none⟩=some (.slice px r.2.length cx):=by
   have h1:=Fo (f1:=Prod.fst) (f2:=Prod.snd) (hs.set i (.slice p1 s.1.length c1,x.2)) i _ C1.out
   have Aq:=(zAE.1 C1.out).1
   have hl:=Ff (f1:=Prod.fst) (f2:=Prod.snd) (hs.set i (.slice p1 s.1.length c1,x.2))
   have JG:=H4.out.len
   rw [row5.cellAt (i*2+1) (by omega),h1.2,← qN.out]
  have f5:w5.frozen? ⟨gl,i*2+1,none⟩=false:=row5.frozenAt _
  have H6:=zAA sI.1
  have HU6:=zAA (uc.out.Ai sI.2 (fun k hk e=>by
   have:=Ww.out k hk
   rcases e with e | e
   ·have:=HGw.out;omega
   ·have:=HXv0.out k e;omega))
  have yw:Hid (Ac (Jm gb gL gc gl sv hs) W (w5.setCell ⟨gl,i*2+1,none⟩ v5)):=bJ.out.trans sI.2 (fun k _ e=>by
   rcases e with e | e
   ·exact Or.inr (Or.inr (Or.inr (Or.inl e)))
   ·exact Or.inr (Or.inr (Or.inr (Or.inr (Or.inr ⟨x,zAG HX.out,e⟩)))))
  obtain ⟨p5,c5,sJ⟩:=(Rd.Ad k1).shape
  subst sJ
  refine ⟨by rw [bL5.cell];rfl,?_⟩
  clear k1 k2 k3 sI Dz bL5 row5 GG tY H4 uc bJ CF H3 Vg rn yj JK
  simp only [Act.put,zAZ,zBT,zBL]
  repeat (first
        | (refine takeP_skip rfl ?_; simp only [Act.put, List.setIfInBounds_toArray, List.set_cons_succ, List.set_cons_zero])
        | (refine takeP_blind rfl ?_; apply Exists.intro; refine ⟨fun w => ?_, ?_⟩; (go_simp; try with_reducible rfl); simp only [Act.put, List.setIfInBounds_toArray, List.set_cons_succ, List.set_cons_zero])
        | (refine takeP_reads rfl ?_; apply Exists.intro; refine ⟨fun w' hS => ?_, ?_⟩; (obtain ⟨d0, d1, d2⟩ := HS2.out w' hS; go_simp; try with_reducible rfl); simp only [Act.put, List.setIfInBounds_toArray, List.set_cons_succ, List.set_cons_zero]))
  refine JB rfl (fun K' hK=>?_)
  go_wp2_with fail
  refine hK _ _ (by rw [H6.out.bL.cell];rfl) ?_
  clear hK K' d5 f5
  refine TH ?_
  generalize w5.setCell ⟨gl,i*2+1,none⟩ (.slice p5 (r.2.length+1) c5)=w6 at *
  have y1:w6.cell? ⟨gc,0,none⟩=some sv:=by rw [H6.out.bc.cell];rfl
  have y2:=H6.out.bc.free 0
  obtain ⟨ps,cs,dE⟩:=(Rd.Ad H6.out.own).shape
  have KD:=zAA dE
  have Jg:Hid (w6.ownsRow 0 5 1 (.slice ps out.length cs) out.length (B9 out)):=by
   show World.ownsRow _ _ _ _ _ _ _
   rw [← KD.out]
   exact Af H6.out.own (fun _ _=>zAJ _)
  rw [dE] at y1
  have Jl:Hid ((out.length+cw.length)*1≤140737488355328∧out.length+cw.length≤maxLen):=by show _∧_;have:=DP.out;unfold maxLen;omega
  clear dE
  go_wp2_with (at_builtin;refine At Tryz.CG _ _ _ _ _ _ _ Jg.out HU6.out (A3 _) Jl.out rfl _ _ rfl rfl rfl ?_)
  intro v7 w7 k1 k2 k3
  have hex:=H6.out.extend k1 (by rw [KD.out];exact k2) (by rw [KD.out];exact k3)
  have b7:=k2.AM H6.out.bc (fun e=>(H6.out.kG gc (by rw [KD.out];exact e)).2.2.1 rfl)
  have y1:w7.cell? ⟨gc,0,none⟩=some sv:=by rw [b7.cell];rfl
  have y2:=b7.free 0
  have H8:=zAA hex.1;have rq:=zAA hex.2
  obtain ⟨p7,c7,UB⟩:=(Rd.Ad k1).shape
  subst UB
  clear k1 k2 k3 b7 hex Jg Jl
  go_wp2_with fail
  go_end0
  refine ⟨⟨_,rfl⟩,hs.set i (.slice p1 s.1.length c1,.slice p5 (r.2.length+1) c5),.slice p7 (out.length+cw.length) c7,?_,yw.out.trans rq.out (fun k Aq e=>?_)⟩
  ·have h:=H8.out
   rw [List.set_set,List.set_set] at h
   exact h
  ·rcases e with e | e
   ·exact Or.inr (Or.inr (Or.inl e))
   ·exact Or.inr (Or.inr (Or.inr (Or.inr (Or.inl e))))
end Go.Proofs.YtdcgbgecbeegmaaGreatDoor
end
section
namespace Go.Proofs.YtdcgbgecbeegmaaGreatDoor
open Go Go.RowKit Go.Shelf
attribute [local go_sem] Oper.semAt_some
theorem jD:(Tryz.prog.info? 146).map (fun i=>(i.zero,i.size,i.bytes))=some (some (.agg #[.slice none 0 0,.slice none 0 0]),2,48):=by kernel_rfl
theorem TO {ops:Array Oper} {rest:List Oper} {o:Oper} {a:Act} {Q:Exit→Act→World→Prop} {W:World} {m:Nat} (n:Nat) (hn:n≤1000000) (l c:Operand) (hg:Region.wanted o (yielded ops a.tmps)=true) (hop:o.op=Op.makeSlice 98 l c) (hl:a.eval l = .int .i64 (n:Int)) (hc:a.eval c = .int .i64 (n:Int))
  (h:∀w2,w2.ownsRow W.heap.size 146 2 (.slice (some ⟨W.heap.size,0,none⟩) n n) n (two Prod.fst Prod.snd (List.replicate n Kx))→W.grownBy w2 none→W.heap.size<w2.heap.size→wpListIn Fence.wide m Tryz.prog ops Q rest (a.put o.dst (.slice (some ⟨W.heap.size,0,none⟩) n n)) w2) :
  wpListIn Fence.wide m Tryz.prog ops Q (o::rest) a W:=by
 obtain ⟨i0,nu,Xn,By,Co⟩:=zGX jD
 obtain ⟨w2,J0,Au,gu⟩:=run_make_full (P:=Tryz.prog) W W.heap.size 98 146 i0 (.agg #[.slice none 0 0,.slice none 0 0]) 2 Tryz.underlying98 nu Xn By .i64 .i64 n (by rw [Co];omega) (by unfold maxLen;omega) (zAD _)
 refine Pq hg (.slice (some ⟨W.heap.size,0,none⟩) n n) w2 ?_ (h w2 ?_ gu (Au.lt _ rfl).2)
 ·unfold execOp
  simp only [hop,hl,hc]
  simp [J0,Result.andThen]
 ·rw [← aa]
  exact Au
theorem Y9 (bv:Value) (b:List AJ) (w:World) (hR:FU w bv b) (hT:T9 w) (hm:KS b) (hz:Du b) (BC:∀s∈b,s.2≠[]) :
  Calls Tryz.prog 62 #[bv] w fun e w'=>∃lv sv,e = .returned (.tuple #[lv,sv])∧bO w' lv (b.map Cx)∧Rd w' 1 sv (Ap b).length (B9 (Ap b))∧(∀k,sv.ownBlock=some k→w.heap.size≤k)∧Below w.heap.size w w':=by
 have HR:=zAA hR;have HT:=zAA hT;have HM:=zAA hm;have HZ:=zAA hz;have Ej:=zAA BC
 obtain ⟨pb,cb,hv⟩:=hR.shape
 subst hv
 have hn:b.length≤1000000:=by have:=hm.len;omega
 have nD:(b.length:Int)≤20000:=by have:=hm.len;omega
 clear hR hT hm hz BC
 refine (zCQ (n:=9)).1 ?_
 refine callsIn_of_wp_marks Tryz.func62 rfl trivial ?_ rfl
 simp only [Tryz.ntmps62,zCC,zAH,zBG,Nat.reduceAdd,Nat.reduceSub,zCL,zCM,zCV,zCO,zBK,zBX]
 gi_wp2_with (refine TO b.length hn (.tmp 10) (.tmp 10) rfl rfl rfl rfl ?_)
 intro w2 Au gu Aq
 obtain ⟨W3,Xb⟩:∃W3,(((w2.alloc (.cells #[.slice (some ⟨w.heap.size+1,0,none⟩) b.length b.length] 98)).alloc (.cells #[.slice none 0 0] 25)).alloc (.cells #[.func (.func 96) #[] #[.pointer (some ⟨w.heap.size,0,none⟩),.pointer (some ⟨w2.heap.size,0,none⟩),.pointer (some ⟨w2.heap.size+1,0,none⟩)]] 147))=W3:=⟨_,rfl⟩
 have EP:Below w.heap.size w w2:=((zAM _ w).alloc (zAD _) (.cells #[.slice pb b.length cb] 22)).trans ((Ac.EF gu).below (by simp) (fun k _ e=>by cases e))
 have hbb2:Ao w2 w.heap.size [.slice pb b.length cb]:=(Ac.EF gu).AM (Ao.new w #[.slice pb b.length cb] 22) (fun e=>by cases e)
 have hls:w.heap.size+1<w2.heap.size:=by simpa using Aq
 have ZK:w2.ownsRow w.heap.size 146 2 (.slice (some ⟨w.heap.size+1,0,none⟩) b.length b.length) b.length (two Prod.fst Prod.snd (List.replicate b.length Kx)):=by
  have h:=Af Au (base':=w.heap.size) (fun k hk=>by have:=(Au.lt k hk).1;omega)
  simpa using h
 have wX:Ao W3 w.heap.size [.slice pb b.length cb]:=by rw [← Xb];exact ((hbb2.alloc _).alloc _).alloc _
 have gm:=wX.cell 0
 simp only [zAY] at gm
 clear Au gu Aq
 gi_wp2_with (refine ⟨trivial,?_⟩;gi_at_call 98;refine (jS pb b.length cb _ _).mono ?_;rintro e w' ⟨rfl,rfl⟩)
 obtain ⟨W4,Ys⟩:∃W4,W3.alloc (.cells #[.slice pb b.length cb] 22)=W4:=⟨_,rfl⟩
 have qX:W3.heap.size=w2.heap.size+3:=by rw [← Xb];simp
 have jt:W4.heap.size=w2.heap.size+4:=by rw [← Ys];simp [qX]
 have up3:∀{k:Nat} {cs:List Value},Ao W3 k cs→Ao W4 k cs:=fun h=>by rw [← Ys];exact h.alloc _
 have hbL:Ao W4 w2.heap.size [.slice (some ⟨w.heap.size+1,0,none⟩) b.length b.length]:=up3 (by rw [← Xb];exact ((Ao.new w2 _ _).alloc _).alloc _)
 have hbc:Ao W4 (w2.heap.size+1) [.slice none 0 0]:=up3 (by
  rw [← Xb]
  have h:=Ao.new (w2.alloc (.cells #[.slice (some ⟨w.heap.size+1,0,none⟩) b.length b.length] 98)) #[.slice none 0 0] 25
  rw [World.size_alloc] at h
  exact h.alloc _)
 have gk:Ao W4 (w2.heap.size+1+1) [.func (.func 96) #[] #[.pointer (some ⟨w.heap.size,0,none⟩),.pointer (some ⟨w2.heap.size,0,none⟩),.pointer (some ⟨w2.heap.size+1,0,none⟩)]]:=up3 (by
  rw [← Xb]
  have h:=Ao.new ((w2.alloc (.cells #[.slice (some ⟨w.heap.size+1,0,none⟩) b.length b.length] 98)).alloc (.cells #[.slice none 0 0] 25)) #[.func (.func 96) #[] #[.pointer (some ⟨w.heap.size,0,none⟩),.pointer (some ⟨w2.heap.size,0,none⟩),.pointer (some ⟨w2.heap.size+1,0,none⟩)]] 147
  rw [World.size_alloc,World.size_alloc] at h
  exact h)
 have sw:W4.cell? ⟨W3.heap.size,0,none⟩=some (.slice pb b.length cb):=by
  have h:=(Ao.new W3 #[.slice pb b.length cb] 22).cell 0
  rw [Ys] at h
  simpa using h
 have wJ:Below w2.heap.size w2 W4:=by
  rw [← Ys,← Xb]
  exact ((((zAM _ w2).alloc (zAD _) _).alloc (by simp) _).alloc (by simp;omega) _).alloc (by simp;omega) _
 have Yp:Below w.heap.size w W4:=EP.trans (wJ.mono EP.size)
 obtain ⟨K,hK⟩:∃K:Nat→Prop,(fun j=>j<w.heap.size∨j=W3.heap.size)=K:=⟨_,rfl⟩
 have MW:∀j,K j→j<w.heap.size∨j=w2.heap.size+3:=fun j hj=>by rw [← hK] at hj;rw [← qX];exact hj
 have No:=zAA (aw 8 (by omega) W3.heap.size (.slice pb b.length cb) b w W4 HR.out HM.out Yp sw)
 rw [hK] at No
 obtain ⟨ga,xh⟩:∃ga,w2.heap.size+1+1=ga:=⟨_,rfl⟩
 have fJ:Hid (Do w w.heap.size w2.heap.size (w2.heap.size+1) (w.heap.size+1) (.slice pb b.length cb) b.length (D7 b 0) (Eb b 0) (fun j=>K j∨j=ga) W4 (List.replicate b.length Kx) (.slice none 0 0)):=by
  have nil0:∀{i:Nat} {h:Hd},(List.replicate b.length Kx)[i]? = some h→h=Kx:=fun {i h} e=>by
   rw [zEB] at e
   split at e
   ·cases e;rfl
   ·cases e
  have no:∀{i:Nat} {h:Hd} {j:Nat},(List.replicate b.length Kx)[i]? = some h→h.2.ownBlock=some j→False:=fun {i h j} e f=>by
   rw [nil0 e] at f
   simp [Kx,Value.ownBlock] at f
  have nilr:∀{i:Nat} {r:DT},(D7 b 0)[i]? = some r→r=([],[]):=fun {i r} e=>by
   rw [Tk,zEB] at e
   split at e
   ·cases e;rfl
   ·cases e
  refine ⟨Yp,up3 wX,hbL,hbc,(Ac.Ah wJ (fun _=>False)).owns ZK (fun _ _ e=>e),zFU,kd b 0,by rw [WJ];exact zBI _ _ _ _,fun i h r hi hr=>?_,fun i h r hi hr=>?_,fun i h hi j e=>(no hi e).elim,fun i k h x _ hi _ j e=>(no hi e).elim,fun j e=>by simp [Value.ownBlock] at e,⟨by omega,by omega,by omega,by omega,by omega⟩,⟨zAD _,by omega,by omega⟩,fun j hj hN=>?_,fun j hj=>?_⟩
  ·rw [nil0 hi,nilr hr]
   exact ⟨Rd.nil _ _,fun e=>absurd rfl e⟩
  ·rw [nil0 hi,nilr hr]
   exact zBI _ _ _ _
  ·have h1:j<w.heap.size∨j=w2.heap.size+3∨j=ga:=by
    rcases hN with e | e
    ·rcases MW j e with f | f
     ·exact Or.inl f
     ·exact Or.inr (Or.inl f)
    ·exact Or.inr (Or.inr e)
   rcases hj with e | e | e | e | e | ⟨y,hy,e⟩
   ·omega
   ·omega
   ·omega
   ·omega
   ·simp [Value.ownBlock] at e
   ·obtain ⟨i,hi⟩:=zGF hy
    exact no hi e
  ·rcases hj with e | e
   ·rcases MW j e with f | f<;>omega
   ·omega
 have rk:Hid (∀k,K k→k<W4.heap.size):=fun k hk=>by rcases MW k hk with f | f<;>omega
 have ly:Hid (Ao W4 ga [.func (.func 96) #[] #[.pointer (some ⟨w.heap.size,0,none⟩),.pointer (some ⟨w2.heap.size,0,none⟩),.pointer (some ⟨w2.heap.size+1,0,none⟩)]]):=by rw [← xh];exact gk
 have EQ:Hid (w.heap.size≤W4.heap.size∧w.heap.size≤ga):=by show _∧_;omega
 rw [xh]
 try rw [Ys]
 clear gm wX hbb2 EP wJ Yp up3 hbL hbc gk sw ZK hK MW Xb Ys hls
 generalize w2.heap.size=gL at *
 generalize W3.heap.size=g5 at *
 clear qX jt xh
 refine Mi rfl (by omega) (gf:=141) (lb:=#[.pointer (some ⟨g5,0,none⟩)]) rfl trivial (enters_of Tryz.func141 (by kernel_rfl) rfl)
  No.out (zAM _ _) (fun _ _=>rfl) ?rx
  (fun k N W=>(∃hs sv,Do w w.heap.size gL (gL+1) (w.heap.size+1) (.slice pb b.length cb) b.length (D7 b k) (Eb b k) (fun j=>N j∨j=ga) W hs sv)∧Ao W ga [.func (.func 96) #[] #[.pointer (some ⟨w.heap.size,0,none⟩),.pointer (some ⟨gL,0,none⟩),.pointer (some ⟨gL+1,0,none⟩)]])
  ?ib ?ip rk.out ⟨⟨_,_,fJ.out⟩,ly.out⟩
  (fun x v=>{ tmps:=#[.slice pb b.length cb,.pointer (some ⟨w.heap.size,0,none⟩),.slice none 0 0,.slice none 0 0,.pointer (some ⟨gL,0,none⟩),.pointer (some ⟨gL+1,0,none⟩),.pointer (some ⟨ga,0,none⟩),.int .i64 (x.1:Int),v,.slice pb b.length cb,.int .i64 (b.length:Int),.slice (some ⟨w.heap.size+1,0,none⟩) b.length b.length,.func (.func 96) #[] #[.pointer (some ⟨w.heap.size,0,none⟩),.pointer (some ⟨gL,0,none⟩),.pointer (some ⟨gL+1,0,none⟩)],.slice pb b.length cb,.func (.func 141) #[] #[.pointer (some ⟨g5,0,none⟩)],.int .i64 (x.1:Int),v,undef,undef,undef,undef,undef,undef],defers:=[] })
  ?assign ?body ?done
 case rx=>
  intro x v W l o o' hr ho hc
  exact Qe hr (grownBy_putObj' W l o') (fun r e=>by cases e;exact ⟨o,ho,hc⟩)
 case ib=>
  rintro k N N' W W' ⟨⟨hs,sv,hC⟩,hb⟩ hB hj
  refine ⟨⟨hs,sv,hC.joins hB (fun j hj'=>?_)⟩,hb.of_same (hB.block _ hb.lt)⟩
  rcases hj' with e | e
  ·rcases hj j e with f | f
   ·exact Or.inl (Or.inl f)
   ·exact Or.inr f
  ·exact Or.inl (Or.inr e)
 case ip=>
  rintro k N W l o o' ⟨⟨hs,sv,hC⟩,hb⟩ hl hN ho hc
  refine ⟨⟨hs,sv,hC.put (zAW EQ.out.1 hl) ho hc o'⟩,?_⟩
  refine (N4 (Ac.refl (fun k=>k=l) W) (Or.inl rfl) o').AM hb (fun e=>?_)
  obtain ⟨t,ht⟩:=hb
  rw [e,ho] at ht
  cases ht
  cases hc
 case assign=>
  intro l x v W G hG
  simp only [zEN,zEC,zED,zEA,zDP,zFA,zAZ,zBL,zBT]
  gi_wp2
  exact hG
 case body=>
  rintro l k x v N W ⟨⟨hs,sv,hC⟩,hb⟩ hx hr
  have hr':Rd W 2 v x.2.length (Al x.2):=hr
  obtain ⟨s,yZ,hw⟩:=pJ (zAG hx)
  have xL:=bA hw
  have hT:T9 W:=HT.out.keeps (S:=fun k=>w.heap.size≤k) ⟨hC.AA.os,hC.AA.tape,hC.AA.output,hC.AA.size,fun k hk hs=>hC.AA.block k (by omega)⟩ (fun k Aq e=>by have:=HT.out.low;omega)
  have Fl:k<(Ka b).length:=(zAE.1 hx).1
  have gD:=eu HM.out
  have wI:=rN hC hT HR.out rfl HM.out.len yZ hr' (fun y hy=>(HZ.out s (zAG yZ)).2 y (xL.2.2 y hy)) (by have:=xL.2.1;omega) (fun r h=>by have:=eO b k r h;omega) (by have:=Un HM.out k;omega)
  have xB:(D7 b k).set x.1 (s.1,(((D7 b k)[x.1]?).getD ([],[])).2++[((B0 x.2).1.length:Int)])=D7 b (k+1):=by rw [Tj hx,Kd,yZ];rfl
  rw [xB,← WI hx] at wI
  have HAdd:=zAA wI
  have HC:=zAA hC;have HBg:=zAA hb
  obtain ⟨pv,cv,DB⟩:=hr'.shape
  subst DB
  have c0:=hb.cell 0
  simp only [zAY] at c0
  clear hC hb hx hr hr' yZ hw xL hT Fl gD wI xB
  refine wpIn_block ?_
  gi_wp2_with fail
  refine ⟨trivial,(CallsIn.inRound l (zCQ.2 HAdd.out)).mono ?_⟩
  rintro e W' ⟨⟨u,rfl⟩,hs',sv',hC',hM'⟩
  gi_wp2_with fail
  refine ⟨(KeepsOthers.J5 hM' (fun j o hj ho=>HC.out.isCells hj ho)).from _,hM'.mono (fun j _ hj e=>HC.out.off j hj (Or.inl e)),⟨hs',sv',hC'⟩,hM'.AM HBg.out (fun e=>HC.out.off ga e (Or.inr rfl))⟩
 case done=>
  rintro D N W hD ⟨⟨hs,sv,hC⟩,hb⟩ hK
  rw [kb Ej.out,QB] at hC
  have hC2:=(hC.below (Fy W)).put (zAW EQ.out.1 hD) (show W.drew.heap[D]? = _ from hK) rfl (.deferred none)
  have RP:=zAA hC2
  obtain ⟨ps,cs,dE⟩:=(Rd.Ad hC.own).shape
  subst dE
  have c0:=hC.bL.cell 0
  have c1:=hC.bc.cell 0
  simp only [zAY] at c0 c1
  clear hC hC2 hb
  gi_wp2_with fail
  refine wpIn_wide.2 (Gh ?_)
  have HS:Hid (∀w':World,(w'.cell? ⟨gL,0,none⟩=some (.slice (some ⟨w.heap.size+1,0,none⟩) b.length b.length)∧w'.cell? ⟨gL+1,0,none⟩=some (.slice ps (Ap b).length cs)∧True)→(w'.cell? ⟨gL,0,none⟩=some (.slice (some ⟨w.heap.size+1,0,none⟩) b.length b.length)∧w'.cell? ⟨gL+1,0,none⟩=some (.slice ps (Ap b).length cs)∧True)):=fun _ h=>h
  refine AI (fun w':World=>w'.cell? ⟨gL,0,none⟩=some (.slice (some ⟨w.heap.size+1,0,none⟩) b.length b.length)∧w'.cell? ⟨gL+1,0,none⟩=some (.slice ps (Ap b).length cs)∧True) [] [0,1,2,3] (by kernel_rfl) (by kernel_rfl) (by kernel_rfl) ?_ ?_ ?_
  ·intro c a a' w hd h;cases h.1
  ·exact ⟨c0,c1,trivial⟩
  clear c0 c1
  simp only [Cj,zBC,zCP,zBE,zAY,zBM]
  repeat (first
        | (refine takeH_skip rfl ?_; simp only [Act.put, List.setIfInBounds_toArray, List.set_cons_succ, List.set_cons_zero])
        | (refine takeH_blind rfl rfl ?_; apply Exists.intro; refine ⟨fun w => ?_, ?_⟩; (go_simp; try with_reducible rfl); simp only [Act.put, List.setIfInBounds_toArray, List.set_cons_succ, List.set_cons_zero])
        | (refine takeH_reads rfl rfl ?_; apply Exists.intro; refine ⟨fun w' hS => ?_, ?_⟩; (obtain ⟨d0, d1, d2⟩ := HS.out w' hS; go_simp; try with_reducible rfl); simp only [Act.put, List.setIfInBounds_toArray, List.set_cons_succ, List.set_cons_zero]))
  refine Bv ⟨rfl,?_⟩
  gi_wp2_with fail
  refine ⟨by simp,.inl ⟨_,_,rfl,run_takeDeferred (show W.drew.heap[D]? = _ from hK),?_⟩⟩
  refine ⟨_,results_tmp2 (t:=2) (u:=3) rfl _ _ _,.slice (some ⟨w.heap.size+1,0,none⟩) b.length b.length,.slice ps (Ap b).length cs,rfl,RP.out.rdR,Rd.Ad RP.out.own,fun k hk=>(RP.out.own.lt k hk).1,RP.out.AA⟩
end Go.Proofs.YtdcgbgecbeegmaaGreatDoor
end
section
namespace Go.Proofs.YtdcgbgecbeegmaaGreatDoor
open Go Go.RowKit
theorem Zg:Cd Tryz.prog 68 48 1 24:=Cd.mk' (z:=.slice none 0 0) Tryz.underlying68 (by kernel_rfl) rfl (by decide)
theorem UH (bv:Value) (b:List AJ) (w:World) (hb:FU w bv b) (hn:b.length≤1000000) :
  Calls Tryz.prog 67 #[bv] w fun e w'=>∃v,e = .returned v∧∃hs,GB 48 w w' hs (b.map Prod.fst) v:=by
 have HL:=zAA hb;have HN:=zAA hn
 obtain ⟨pb,cb,hv⟩:=hb.shape
 subst hv
 have nD:(b.length:Int)≤1000000:=by omega
 clear hb hn
 go_enter Tryz.func67,Tryz.ntmps67
 go_wp2_with fail
 go_loopw [3,8] (fun vv iv wr=>∃(i:Nat) (hs:List Value),i≤b.length∧iv = .int .i64 (i:Int)∧Hid (GB 48 w wr hs ((b.take i).map Prod.fst) vv)) (fun _ iv _=>b.length-(intOf iv).toNat)
 case atStart=>exact ⟨0,[],zAJ _,rfl,GB.nil w⟩
 case round=>
  obtain ⟨i,hs,hi,rfl,HA⟩:=hrel
  have KM:(i:Int)≤1000000:=by omega
  obtain ⟨pv,cv,DB⟩:=HA.out.row.rd.shape
  subst DB
  by_cases Aq:i<b.length
  ·have AF:(i:Int)<(b.length:Int):=by omega
   obtain ⟨s,hs'⟩:∃s,b[i]? = some s:=⟨_,zAC Aq⟩
   obtain ⟨AM,off,h1,h2,rfl,⟨p1,c1,rfl⟩,⟨p2,c2,rfl⟩,Ex⟩:=HL.out.always hs'
   obtain ⟨d0,d1,Jw⟩:=Ex wr HA.out.row.AA
   have xJ:=Ex w (zAM _ _)
   have Pw:Hid ((b.take (i+1)).map Prod.fst=(b.take i).map Prod.fst++[s.1]):=by show _=_;rw [zAL,hs',zCD];rfl
   have YN:=zAA Jw.1
   have fO:Hid (PG (fun j=>(Value.slice pv hs.length cv).ownBlock=some j) (.slice p1 s.1.length c1) s.1):=fun BC j hj hv=>by
    have a:=xJ.2.2.1.lt BC j hj
    have c:=(HA.out.row.row.lt j hv).1
    omega
   obtain ⟨w2,EC⟩:∃w2,wr.alloc (.cells #[.slice p1 s.1.length c1,.slice p2 s.2.length c2] 51)=w2:=⟨_,rfl⟩
   have EP:Below wr.heap.size wr w2:=by rw [← EC];exact (zAM _ wr).alloc (zAD _) _
   have uo:Ao w2 wr.heap.size [.slice p1 s.1.length c1,.slice p2 s.2.length c2]:=by rw [← EC];exact Ao.new wr _ _
   have q1:=uo.cell 0
   have q2:=uo.cell 1
   simp only [zAY,zBE] at q1 q2
   have G0:=zAA (HA.out.below EP)
   have HSr2:=zAA (Jw.1.below EP)
   have YJ:Hid (w2.ownsRow 0 48 1 (.slice pv hs.length cv) hs.length hs):=by
    show World.ownsRow _ _ _ _ _ _ _
    have h:=G0.out.row.Cz
    rwa [List.map_id'] at h
   have YG:Hid ((hs.length+1)*24≤140737488355328∧hs.length+1≤maxLen):=by
    show _∧_
    have h:=HA.out.len
    rw [zAT,zAR] at h
    have:=HN.out
    unfold maxLen
    omega
   clear hs' Ex Jw xJ EP uo
   go_wp2_with (at_builtin;refine AD Zg w2 #[.slice p1 s.1.length c1] _ _ _ YJ.out rfl (by simp [Value.oneCell']) YG.out rfl _ _ rfl rfl rfl ?_)
   intro v4 w4 k1 m1 f1
   have L5:Hid (GB 48 w w4 (hs++[.slice p1 s.1.length c1]) ((b.take (i+1)).map Prod.fst) v4):=by
    show GB _ _ _ _ _ _
    rw [Pw.out]
    exact G0.out.B5 (h:=.slice p1 s.1.length c1) (s:=s.1) HSr2.out fO.out k1 m1 f1
   clear k1 m1 f1 YJ YG HA G0 YN HSr2 fO d0 d1 q1 q2 EC
   obtain ⟨p4,c4,nM⟩:=L5.out.row.rd.shape
   subst nM
   go_wp2_with fail
   go_round
   case rel=>exact ⟨i+1,_,by omega,by go_num,L5.out⟩
   case measure=>simp [intOf];omega
  ·have AF:¬(i:Int)<(b.length:Int):=by omega
   have G0:Hid (GB 48 w wr hs (b.map Prod.fst) (.slice pv hs.length cv)):=by
    have h:=HA.out
    rw [zAF (by omega)] at h
    exact h
   go_wp2_with fail
   go_ret
   exact ⟨_,rfl,hs,G0.out⟩
end Go.Proofs.YtdcgbgecbeegmaaGreatDoor
end
