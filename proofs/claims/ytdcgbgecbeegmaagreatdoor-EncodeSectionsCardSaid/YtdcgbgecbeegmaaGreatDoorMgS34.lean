/- Texts 34. -/
import Derived.Test.YtdcgbgecbeegmaaGreatDoorMgSA
import Derived.Test.YtdcgbgecbeegmaaGreatDoorMgS33
import Derived.Lib.Bytealg
import Derived.Laws.Externs
import Derived.Laws.CopyOwn
import Derived.Laws.IdiomCopy
set_option linter.unusedVariables false
set_option linter.unusedSimpArgs false
set_option maxHeartbeats 400000000
set_option maxRecDepth 100000
section
namespace Go.Proofs.YtdcgbgecbeegmaaGreatDoor
open Go Go.RowKit
abbrev rM:=Nat × List Dt
theorem et (l:List Dt):(List.range (PR l.length)).map (AS l)=Gb l:=by
 unfold PR Gb
 refine zCR fun k _=>?_
 rw [AS,zGP]
def DR (b:List AJ) (m:Nat):List rM:=(List.range m).flatMap fun i=>match b[i]? with | some s=>(Gb s.2).map fun p=>(i,p) | none=>[]
def Ka (b:List AJ):List rM:=DR b b.length
theorem Kb {b:List AJ} {i:Nat} {s:AJ} (h:b[i]? = some s):DR b (i+1)=DR b i++(Gb s.2).map fun p=>(i,p):=by
 rw [DR,zEU,zBO]
 simp [DR,h]
theorem jZ (b:List AJ) (i:Nat):∀m,∃t,DR b (i+m)=DR b i++t:=by
 intro m
 induction m with
 | zero=>exact ⟨[],by simp⟩
 | succ m ih=>
  obtain ⟨t,ht⟩:=ih
  refine ⟨t++[i+m].flatMap (fun i=>match b[i]? with | some s=>(Gb s.2).map fun p=>(i,p) | none=>[]),?_⟩
  rw [← zAK,← ht,← zDH]
  unfold DR
  rw [zEU,zBO]
theorem tt {b:List AJ} {i j:Nat} {s:AJ} {p:List Dt} (h:b[i]? = some s) (hp:(Gb s.2)[j]? = some p):(Ka b)[(DR b i).length+j]? = some (i,p):=by
 have hi:=(zAE.1 h).1
 obtain ⟨t,ht⟩:=jZ b (i+1) (b.length-(i+1))
 rw [show i+1+(b.length-(i+1))=b.length by omega] at ht
 have hj:=(zAE.1 hp).1
 rw [Ka,ht,Kb h,zAK,zBS (by omega),zFG,zCE (by simpa using hj),zBQ,hp]
 rfl
theorem VT {b:List AJ} {i:Nat} {s:AJ} (h:b[i]? = some s):(DR b (i+1)).length=(DR b i).length+(Gb s.2).length:=by
 rw [Kb h,zAB,zAT]
theorem pJ {b:List AJ} {x:rM} (h:x∈Ka b):∃s,b[x.1]? = some s∧x.2∈Gb s.2:=by
 obtain ⟨i,_,hx⟩:=zBZ.1 h
 split at hx
 ·next s hs=>
  obtain ⟨p,hp,rfl⟩:=zBU.1 hx
  exact ⟨s,hs,hp⟩
 ·cases hx
def Kd (b:List AJ) (l:List DT) (x:rM):List DT:=l.set x.1 (((b[x.1]?).getD ([],[])).1,((l[x.1]?).getD ([],[])).2++[((B0 x.2).1.length:Int)])
def D7 (b:List AJ) (k:Nat):List DT:=((Ka b).take k).foldl (Kd b) (List.replicate b.length ([],[]))
def Eb (b:List AJ) (k:Nat):List Nat:=((Ka b).take k).flatMap fun x=>(B0 x.2).1
theorem Tk (b:List AJ):D7 b 0=List.replicate b.length ([],[]):=by simp [D7]
theorem WJ (b:List AJ):Eb b 0=[]:=by simp [Eb]
theorem Tj {b:List AJ} {k:Nat} {x:rM} (h:(Ka b)[k]? = some x):D7 b (k+1)=Kd b (D7 b k) x:=by
 rw [D7,zAL,h,zDL];rfl
theorem WI {b:List AJ} {k:Nat} {x:rM} (h:(Ka b)[k]? = some x):Eb b (k+1)=Eb b k++(B0 x.2).1:=by
 rw [Eb,zAL,h,zBO];simp [Eb]
theorem PZ (b:List AJ):∀(xs:List rM) (l:List DT),(xs.foldl (Kd b) l).length=l.length:=by
 intro xs
 induction xs with
 | nil=>intro l;rfl
 | cons x xs ih=>intro l;rw [zDP,ih];simp [Kd]
theorem kd (b:List AJ) (k:Nat):(D7 b k).length=b.length:=by rw [D7,PZ];simp
theorem eN {b:List AJ} {i:Nat} {s:AJ} (h:b[i]? = some s):∀(ws:List (List Dt)) (l:List DT) (l0:List AC) (c0:List Int),l[i]? = some (l0,c0)→ws≠[]→
  (ws.map fun p=>(i,p)).foldl (Kd b) l=l.set i (s.1,c0++ws.map fun p=>((B0 p).1.length:Int)):=by
 intro ws
 induction ws with
 | nil=>intro _ _ _ _ h;exact absurd rfl h
 | cons p ws ih=>
  intro l l0 c0 hl _
  have e:Kd b l (i,p)=l.set i (s.1,c0++[((B0 p).1.length:Int)]):=by simp [Kd,h,hl]
  rw [zBC,zDP,e]
  have hi:=(zAE.1 hl).1
  by_cases hw:ws=[]
  ·subst hw;rfl
  ·rw [ih _ s.1 (c0++[((B0 p).1.length:Int)]) (by rw [zDB,if_pos rfl,if_pos hi]) hw,List.set_set]
   simp
theorem ew {b:List AJ} (hb:∀s∈b,s.2≠[]):∀i,i≤b.length→(DR b i).foldl (Kd b) (List.replicate b.length ([],[]))=(b.take i).map Cx++List.replicate (b.length-i) ([],[]):=by
 intro i
 induction i with
 | zero=>intro _;simp [DR]
 | succ i ih=>
  intro hi
  obtain ⟨s,hs⟩:∃s,b[i]? = some s:=⟨_,zAC (by omega)⟩
  have hl:((b.take i).map Cx).length=i:=by rw [zAT,zAR];omega
  have hx:((b.take i).map Cx++List.replicate (b.length-i) ([],[]))[i]? = some (([],[]):DT):=by
   rw [zBS (by omega),hl,zFD,zEB,if_pos (by omega)]
  rw [Kb hs,zDL,ih (by omega),eN hs _ _ _ _ hx (ic (hb s (zAG hs))),zBK,zDQ _ _ (by omega),hl,zFD]
  obtain ⟨m,hm⟩:∃m,b.length-i=m+1:=⟨b.length-i-1,by omega⟩
  rw [hm,List.replicate_succ,zBL,zAL,hs,zCD,zAK,show b.length-(i+1)=m by omega]
  rfl
theorem kb {b:List AJ} (hb:∀s∈b,s.2≠[]):D7 b (Ka b).length=b.map Cx:=by
 rw [D7,zCT,Ka,ew hb _ (zAD _)]
 simp
theorem XG (b:List AJ):∀i,i≤b.length→((DR b i).flatMap fun x=>(B0 x.2).1)=Ap (b.take i):=by
 intro i
 induction i with
 | zero=>intro _;simp [DR,Ap]
 | succ i ih=>
  intro hi
  obtain ⟨s,hs⟩:∃s,b[i]? = some s:=⟨_,zAC (by omega)⟩
  rw [Kb hs,zBO,ih (by omega),Nw hs,zGL]
  rfl
theorem QB (b:List AJ):Eb b (Ka b).length=Ap b:=by
 rw [Eb,zCT,Ka,XG b _ (zAD _),zCT]
theorem eO (b:List AJ):∀k,∀r∈D7 b k,r.2.length≤k:=by
 intro k
 induction k with
 | zero=>
  intro r hr
  rw [Tk] at hr
  rw [(List.mem_replicate.1 hr).2]
  simp
 | succ k ih=>
  intro r hr
  by_cases hk:k<(Ka b).length
  ·obtain ⟨x,hx⟩:∃x,(Ka b)[k]? = some x:=⟨_,zAC hk⟩
   rw [Tj hx] at hr
   rcases zGI hr with h | h
   ·have:=ih r h;omega
   ·subst h
    rw [zAB,zDY]
    cases hg:(D7 b k)[x.1]? with
    | none=>simp
    | some y=>
     have:=ih y (zAG hg)
     simp;omega
  ·have e:D7 b (k+1)=D7 b k:=by rw [D7,D7,zAF (by omega),zAF (by omega)]
   rw [e] at hr
   have:=ih r hr;omega
theorem qy (l:List Dt):(Gb l).length≤l.length:=by rw [Gb,zAT,zEI];omega
theorem ay (b:List AJ):∀i,i≤b.length→(DR b i).length≤Aw (b.take i):=by
 intro i
 induction i with
 | zero=>intro _;simp [DR]
 | succ i ih=>
  intro hi
  obtain ⟨s,hs⟩:∃s,b[i]? = some s:=⟨_,zAC (by omega)⟩
  have h1:=ih (by omega)
  have h2:=qy s.2
  rw [VT hs,zAL,hs,Eh]
  have e:Aw (some s).toList=s.2.length:=by simp [Aw]
  rw [e]
  omega
theorem eu {b:List AJ} (h:KS b):(Ka b).length≤1000000:=by
 have h1:=ay b b.length (zAD _)
 rw [zCT] at h1
 have:=h.ko
 unfold Ka
 omega
theorem Rv {α:Type} (f:α→List Nat) (l:List α) (k:Nat):((l.take k).flatMap f).length≤(l.flatMap f).length:=by
 have e:(l.flatMap f).length=((l.take k).flatMap f).length+((l.drop k).flatMap f).length:=by rw [← zAB,← zBO,zBD]
 omega
theorem Un {b:List AJ} (h:KS b) (k:Nat):(Eb b k).length≤102000000000:=by
 have h1:=Rv (fun x:rM=>(B0 x.2).1) (Ka b) k
 have h2:=QB b
 rw [Eb,zCT] at h2
 rw [h2] at h1
 exact zAW h1 (QA h)
structure Ay (w:World) (p:Nat) (v:Value) (bits:List Bool):Prop where
 AM:Ao w p [.int .i64 bits.length,v]
 own:w.ownsRow 0 5 1 v (Bi bits).length (B9 (Bi bits))
 ne:v.ownBlock≠some p
structure JE (w w':World) (p:Nat) (v v':Value):Prop where
 Ai:Ac (fun k=>k=p∨v.ownBlock=some k) w w'
 fresh:AG w.heap.size v v'
theorem JE.refl (w:World) (p:Nat) (v:Value):JE w w p v v:=⟨Ac.refl _ _,AG.refl _ _⟩
theorem JE.trans {a b c:World} {p:Nat} {u v x:Value} (h:JE a b p u v) (k:JE b c p v x):JE a c p u x:=
 ⟨h.Ai.trans k.Ai (fun j hj e=>by
  rcases e with e | e
  ·exact Or.inl e
  ·rcases h.fresh j e with e | e
   ·exact Or.inr e
   ·omega),h.fresh.trans k.fresh h.Ai.size⟩
theorem Wb (n:Int) (w:World) (h0:0≤n) (h1:n≤9223372036854775807):Calls Tryz.prog 224 #[.int .i64 n] w fun e w'=>e = .returned (.int .i64 (7-n % 8))∧w'=w:=by
 go_enter Tryz.func224,Tryz.ntmps224
 go_wp2
 go_ret
 exact ⟨rfl,rfl⟩
def KU (p:Nat) (v:Value) (bits:List Bool) (b:Bool) (w w':World):Prop:=∃v',Ay w' p v' (bits++[b])∧JE w w' p v v'
theorem eD {w:World} {p g m cap:Nat} {bits:List Bool} (b:Bool) (h:Ay w p (.slice (some ⟨g,0,none⟩) m cap) bits) (hr:bits.length % 8≠0) (y:Int) (hy:y=((BV (bits++[b]) (bits.length / 8):Nat):Int)) :
  KU p (.slice (some ⟨g,0,none⟩) m cap) bits b w (((w.setCell ⟨g,bits.length / 8,none⟩ (.int .u8 y)).setCell ⟨p,0,none⟩ (.int .i64 (bits.length+1))).drew):=by
 subst hy
 have nn:g≠p:=fun e=>h.ne (by simp [Value.ownBlock,e])
 have hm:m=(Bi bits).length:=by
  rcases BA h.own with ⟨e,_⟩ | ⟨g',c',e,_⟩
  ·simp at e
  ·simp at e;exact e.2.1
 subst hm
 have Vz:=(h.own.stored (bits.length / 8) (.int .u8 ((BV (bits++[b]) (bits.length / 8):Nat):Int))).1
 rw [ia,← UN bits b hr] at Vz
 have hl:(Bi (bits++[b])).length=(Bi bits).length:=by simp [A9];omega
 refine ⟨.slice (some ⟨g,0,none⟩) (Bi bits).length cap,⟨?_,?_,h.ne⟩,⟨?_,AG.refl _ _⟩⟩
 ·have:=(h.AM.Ci (a:=⟨g,bits.length / 8,none⟩) (Ne.symm nn) (.int .u8 ((BV (bits++[b]) (bits.length / 8):Nat):Int))).set 0 (.int .i64 (bits.length+1))
  exact Ao.drew (by simpa using this)
 ·rw [hl]
  exact (Ac.set (fun k=>k=p) _ ⟨p,0,none⟩ _ (fun _=>rfl)).owns Vz (fun k hk e=>h.ne (by rw [← e];exact hk))
 ·exact ((Ac.set _ _ _ _ (fun _=>Or.inr rfl)).trans (Ac.set (fun k=>k=p∨k=g) _ ⟨p,0,none⟩ _ (fun _=>Or.inl rfl)) (fun j _ e=>by
   rcases e with e | e
   ·exact Or.inl e
   ·exact Or.inr (by simp [Value.ownBlock,e]))).trans (Ac.drew (fun _=>False) _) (fun _ _ e=>e.elim)
theorem pO (p g m cap:Nat) (bs:List Bool) (b:Bool) (c:Int) (w:World) (h:Ay w p (.slice (some ⟨g,0,none⟩) m cap) bs) (hb:bs.length<1125899906842624) (hr:bs.length % 8≠0)
  (hc:c=(b.toNat:Int)):Calls Tryz.prog 181 #[.pointer (some ⟨p,0,none⟩),.int .u8 c] w fun e w'=>e = .returned (.tuple #[])∧KU p (.slice (some ⟨g,0,none⟩) m cap) bs b w w':=by
 have nn:g≠p:=fun e=>h.ne (by simp [Value.ownBlock,e])
 have hm:m=(bs.length+7) / 8:=by
  rcases BA h.own with ⟨e,_⟩ | ⟨g',c',e,_⟩
  ·simp at e
  ·simp at e;rw [e.2.1,A9]
 have h0:w.cell? ⟨p,0,none⟩=some (.int .i64 bs.length):=by rw [h.AM.cell];rfl
 have h1:w.cell? ⟨p,1,none⟩=some (.slice (some ⟨g,0,none⟩) m cap):=by rw [h.AM.cell];rfl
 have f0:w.frozen? ⟨p,0,none⟩=false:=h.AM.free 0
 have hg:w.cell? ⟨g,bs.length / 8,none⟩=some (.int .u8 ((BV bs (bs.length / 8):Nat):Int)):=by
  have Au:=h.own
  rw [A9,← hm] at Au
  rw [Au.cellAt _ (by omega),B9,zBQ,Ta _ _ (by omega)];rfl
 have fg:w.frozen? ⟨g,bs.length / 8,none⟩=false:=by
  have Au:=h.own
  rw [A9,← hm] at Au
  exact Au.frozenAt _
 have hor:=xS bs b ((BV bs (bs.length / 8):Nat):Int) (c*2 ^ (7-bs.length % 8) % 256) rfl (by
  have RW:b.toNat≤1:=by cases b<;>simp
  have hp:2 ^ (7-bs.length % 8)≤2 ^ 7:=zDV (by omega) (by omega)
  have hx:b.toNat*2 ^ (7-bs.length % 8)<256:=by
   have:=Nat.mul_le_mul RW hp
   omega
  have e:(b.toNat:Int)*2 ^ (7-bs.length % 8)=((b.toNat*2 ^ (7-bs.length % 8):Nat):Int):=by simp
  rw [hc,e]
  omega)
 have Hor:=zAA hor;clear hor
 have PP:=fun y hy=>eD (w:=w) b h hr y hy
 have HP:=zAA PP;clear PP
 clear h
 generalize hY:((BV (bs++[b]) (bs.length / 8):Nat):Int)=Y at *
 generalize hK:((BV bs (bs.length / 8):Nat):Int)=K at *
 clear hY hK
 generalize bs.length=n at *
 have BC:((n:Int) % 8 == 0)=false:=by rw [zAQ];omega
 have Aq:(n:Int) / 8<(m:Int):=by omega
 have T0:0≤(n:Int) / 8:=by omega
 have Cg:IntKind.i64.wrap ((n:Int) / 8)=(n:Int) / 8:=zEZ _ (by omega)
 have T4:(0:Int)≤7-(n:Int) % 8:=by omega
 have Lg:7-(n:Int) % 8<8:=by omega
 have hd:((n:Int) / 8).toNat=n / 8:=by omega
 clear hm hc
 go_enter Tryz.func181,Tryz.ntmps181
 go_wp2_with fail
 go_still_tail 22,(by kernel_rfl)
 still_call (Wb _ _ (by omega) (by omega))
 repeat still_step
 refine wpStill_nil ?_
 change wpList _ _ _ _ _ w.drew
 go_wp2
 go_end0
 exact ⟨rfl,HP.out _ Hor.out⟩
theorem eC {w w1:World} {p g m cap:Nat} {v:Value} {bits:List Bool} (b:Bool) (h:Ay w p v bits) (hr:bits.length % 8=0) (hb:Ao w1 p [.int .i64 bits.length,v])
  (ho:w1.ownsRow 0 5 1 (.slice (some ⟨g,0,none⟩) m cap) ((Bi bits).length+1) (B9 (Bi bits)++[.int .u8 0])) (hm:Ac (fun k=>v.ownBlock=some k) w w1)
  (hf:AG w.heap.size v (.slice (some ⟨g,0,none⟩) m cap)) (y:Int) (hy:y=((b.toNat*128:Nat):Int)) :
  KU p v bits b w ((((w1.setCell ⟨p,1,none⟩ (.slice (some ⟨g,0,none⟩) m cap)).setCell ⟨g,bits.length / 8,none⟩ (.int .u8 y)).setCell ⟨p,0,none⟩ (.int .i64 (bits.length+1))).drew):=by
 subst hy
 have nn:g≠p:=fun e=>by
  rcases hf g rfl with h1 | h1
  ·exact h.ne (by rw [h1,e])
  ·have:=h.AM.lt;omega
 have hm':m=(Bi bits).length+1:=by
  rcases BA ho with ⟨e,_⟩ | ⟨g',c',e,_⟩
  ·simp at e
  ·simp at e;exact e.2.1
 subst hm'
 have hq:(Bi bits).length=bits.length / 8:=by rw [A9];omega
 have e1:B9 (Bi bits)++[.int .u8 0]=B9 (Bi bits++[0]):=by rw [Cb];rfl
 have e2:(Bi bits++[0]).set (bits.length / 8) (b.toNat*128)=Bi (bits++[b]):=by
  rw [UM bits b hr,zDQ _ _ (by omega),hq];simp
 have ho1:=(Ac.set (fun k=>k=p) w1 ⟨p,1,none⟩ (.slice (some ⟨g,0,none⟩) ((Bi bits).length+1) cap) (fun _=>rfl)).owns ho (fun k hk e=>by simp [Value.ownBlock] at hk;omega)
 have Vz:=(ho1.stored (bits.length / 8) (.int .u8 ((b.toNat*128:Nat):Int))).1
 rw [e1,ia,e2] at Vz
 have hl:(Bi (bits++[b])).length=(Bi bits).length+1:=by simp [A9];omega
 have RW:=(((hb.set 1 (.slice (some ⟨g,0,none⟩) ((Bi bits).length+1) cap)).Ci (a:=⟨g,bits.length / 8,none⟩) (Ne.symm nn) (.int .u8 ((b.toNat*128:Nat):Int))).set 0 (.int .i64 (bits.length+1)))
 refine ⟨.slice (some ⟨g,0,none⟩) ((Bi bits).length+1) cap,⟨?_,?_,?_⟩,⟨?_,hf⟩⟩
 ·exact Ao.drew (by simpa using RW)
 ·rw [hl]
  exact (Ac.set (fun k=>k=p) _ ⟨p,0,none⟩ _ (fun _=>rfl)).owns Vz (fun k hk e=>by simp [Value.ownBlock] at hk;omega)
 ·simp [Value.ownBlock];exact nn
 ·have hgs:∀j,j<w.heap.size→j=g→(j=p∨v.ownBlock=some j):=fun j hj e=>by
   rcases hf g rfl with h1 | h1
   ·exact Or.inr (by rw [e];exact h1)
   ·omega
  exact ((((hm.mono (fun j _ e=>Or.inr e)).trans (Ac.set (fun k=>k=p) _ ⟨p,1,none⟩ _ (fun _=>rfl)) (fun j _ e=>Or.inl e)).trans (Ac.set (fun k=>k=g) _ ⟨g,_,none⟩ _ (fun _=>rfl)) (fun j hj e=>hgs j hj e)).trans
   (Ac.set (fun k=>k=p) _ ⟨p,0,none⟩ _ (fun _=>rfl)) (fun j _ e=>Or.inl e)).trans (Ac.drew (fun _=>False) _) (fun _ _ e=>e.elim)
theorem pN (p:Nat) (v:Value) (bs:List Bool) (b:Bool) (c:Int) (w:World) (h:Ay w p v bs) (hb:bs.length<1125899906842624) (hr:bs.length % 8=0)
  (hc:c=(b.toNat:Int)):Calls Tryz.prog 181 #[.pointer (some ⟨p,0,none⟩),.int .u8 c] w fun e w'=>e = .returned (.tuple #[])∧KU p v bs b w w':=by
 have h0:w.cell? ⟨p,0,none⟩=some (.int .i64 bs.length):=by rw [h.AM.cell];rfl
 have h1:w.cell? ⟨p,1,none⟩=some v:=by rw [h.AM.cell];rfl
 have gD:=h.AM.lt
 obtain ⟨i0,hi,Xn,By,Co⟩:=zGX Tryz.infoU8
 have hmL:(Bi bs).length+1≤maxLen∧((Bi bs).length+1)*1≤140737488355328:=by rw [A9];unfold maxLen;omega
 have H:=zAA h;clear h
 have BC:((bs.length:Int) % 8 == 0)=true:=by rw [zGB];omega
 have yT:(bs.length:Int)≤1125899906842624:=by omega
 go_enter Tryz.func181,Tryz.ntmps181
 go_wp2_with (at_builtin;refine Kk _ rfl _ _ 25 rfl 5 i0 (.int .u8 0) 1 1 Tryz.underlying25 hi Xn By Co rfl (by decide) _ _ _ rfl (H.out.own.alloc _) ⟨w.heap.size,0,none⟩ 1 1 [.int .u8 0] rfl rfl ?c1 ?c2 ?c3 ?c4 ?_)
 case c1=>exact al _ _ _
 case c2=>intro u hu;simp at hu;subst hu;rfl
 case c3=>exact hmL.1
 case c4=>exact hmL.2
 intro v' w1 Au AU P3
 have hex:∃g cap,v' = .slice (some ⟨g,0,none⟩) ((Bi bs).length+1) cap:=by
  rcases BA Au with ⟨_,e,_⟩ | ⟨g,cap,e,_⟩
  ·omega
  ·exact ⟨g,cap,e⟩
 obtain ⟨g,cap,hv⟩:=hex
 rw [hv]
 rw [hv] at Au P3
 clear hv
 have RW:Ao w1 p [.int .i64 bs.length,v]:=AU.AM (H.out.AM.alloc _) H.out.ne
 have nC:Ac (fun k=>v.ownBlock=some k) w w1:=(Ac.alloc _ w _).trans AU (fun _ _ e=>e)
 have DK:AG w.heap.size v (.slice (some ⟨g,0,none⟩) ((Bi bs).length+1) cap):=fun k hk=>by
  rcases P3 k hk with e | e
  ·exact Or.inl e
  ·exact Or.inr (by omega)
 have PP:=fun y hy=>eC (w:=w) b H.out hr RW Au nC DK y hy
 have nn:g≠p:=fun e=>by
  rcases DK g rfl with h1 | h1
  ·exact H.out.ne (by rw [h1,e])
  ·omega
 have hq:(Bi bs).length=bs.length / 8:=by rw [A9];omega
 have j1:w1.cell? ⟨p,1,none⟩=some v:=by rw [RW.cell];rfl
 have jf:w1.frozen? ⟨p,1,none⟩=false:=RW.free 1
 have LQ:=RW.set 1 (.slice (some ⟨g,0,none⟩) ((Bi bs).length+1) cap)
 have dD:=(Ac.set (fun k=>k=p) w1 ⟨p,1,none⟩ (.slice (some ⟨g,0,none⟩) ((Bi bs).length+1) cap) (fun _=>rfl)).owns Au (fun k hk e=>by simp [Value.ownBlock] at hk;omega)
 have k0:(w1.setCell ⟨p,1,none⟩ (.slice (some ⟨g,0,none⟩) ((Bi bs).length+1) cap)).cell? ⟨p,0,none⟩=some (.int .i64 bs.length):=by rw [LQ.cell];rfl
 have k1:(w1.setCell ⟨p,1,none⟩ (.slice (some ⟨g,0,none⟩) ((Bi bs).length+1) cap)).cell? ⟨p,1,none⟩=some (.slice (some ⟨g,0,none⟩) ((Bi bs).length+1) cap):=by rw [LQ.cell];rfl
 have k2:(w1.setCell ⟨p,1,none⟩ (.slice (some ⟨g,0,none⟩) ((Bi bs).length+1) cap)).cell? ⟨g,bs.length / 8,none⟩=some (.int .u8 0):=by
  rw [dD.cellAt _ (by omega),zBS (by rw [Fg];omega),Fg,hq,zFD];rfl
 have f0:(w1.setCell ⟨p,1,none⟩ (.slice (some ⟨g,0,none⟩) ((Bi bs).length+1) cap)).frozen? ⟨p,0,none⟩=false:=LQ.free 0
 have f2:(w1.setCell ⟨p,1,none⟩ (.slice (some ⟨g,0,none⟩) ((Bi bs).length+1) cap)).frozen? ⟨g,bs.length / 8,none⟩=false:=dD.frozenAt _
 have hbit:bits BinOp.or IntKind.u8 0 ((b.toNat:Int)*128 % 256)=((b.toNat*128:Nat):Int):=by cases b<;>decide +kernel
 have HB:=zAA hbit;clear hbit
 have HP:=zAA PP;clear PP
 have hmq:bs.length / 8<(Bi bs).length+1:=by omega
 have Hq:=zAA hq;clear hq
 have K0:=zAA k0;have K1:=zAA k1;have K2:=zAA k2;have F0:=zAA f0;have F2:=zAA f2
 clear Au AU P3 nC DK RW h0 h1 LQ dD k0 k1 k2 f0 f2
 generalize bs.length=n at *
 generalize (Bi bs).length+1=m at *
 have Aq:(n:Int) / 8<(m:Int):=by omega
 have T0:0≤(n:Int) / 8:=by omega
 have Cg:IntKind.i64.wrap ((n:Int) / 8)=(n:Int) / 8:=zEZ _ (by omega)
 have hd:((n:Int) / 8).toNat=n / 8:=by omega
 go_wp2_with fail
 generalize w1.setCell ⟨p,1,none⟩ (.slice (some ⟨g,0,none⟩) m cap)=w2 at K0 K1 K2 F0 F2 HP ⊢
 have k0:=K0.out;have k1:=K1.out;have k2:=K2.out;have f0:=F0.out;have f2:=F2.out
 clear K0 K1 K2 F0 F2
 go_still_tail 22,(by kernel_rfl)
 still_call (Wb _ _ (by omega) (by omega))
 repeat still_step
 refine wpStill_nil ?_
 change wpList _ _ _ _ _ w2.drew
 go_wp2
 go_end0
 exact ⟨rfl,HP.out _ HB.out⟩
theorem pM (p:Nat) (v:Value) (bs:List Bool) (b:Bool) (c:Int) (w:World) (h:Ay w p v bs) (hb:bs.length<1125899906842624)
  (hc:c=(b.toNat:Int)):Calls Tryz.prog 181 #[.pointer (some ⟨p,0,none⟩),.int .u8 c] w fun e w'=>e = .returned (.tuple #[])∧KU p v bs b w w':=by
 by_cases hr:bs.length % 8=0
 ·exact pN p v bs b c w h hb hr hc
 ·rcases BA h.own with ⟨_,e,_⟩ | ⟨g,cap,e,_⟩
  ·rw [A9] at e;omega
  ·subst e;exact pO p g _ cap bs b c w h hb hr hc
def Cy (p:Nat) (v:Value) (out:List Bool) (w w':World):Prop:=∃v',Ay w' p v' out∧JE w w' p v v'
theorem rS (x k:Nat):bits BinOp.and IntKind.u8 ((x:Int) / 2 ^ k % 256) 1=((x.testBit k).toNat:Int):=by
 have e:(x:Int) / 2 ^ k % 256=((x / 2 ^ k % 256:Nat):Int):=by simp
 rw [e]
 have:=bits_mask .u8 8 (by decide) wraps_u8 1 (by decide) ((x / 2 ^ k % 256:Nat):Int) (zFP _) (by have:x / 2 ^ k % 256<256:=zFO _ (by omega);simp;omega)
 simp only [Int.reduceSub,Int.pow_one] at this
 rw [this]
 rw [Jc]
 omega
theorem KA (p:Nat) (v:Value) (bs:List Bool) (x n:Nat) (w:World) (h:Ay w p v bs) (hn:n≤64) (hb:bs.length+64≤1125899906842624) :
  Calls Tryz.prog 137 #[.pointer (some ⟨p,0,none⟩),.int .u64 x,.int .i64 n] w fun e w'=>e = .returned (.int .i64 0)∧Cy p v (bs++Aa x n) w w':=by
 go_enter Tryz.func137,Tryz.ntmps137
 go_wp2
 go_loopw [17] (fun c wr=>∃(k:Nat) (v':Value),k≤n∧c = .int .i64 k∧Ay wr p v' (bs++(Aa x n).take k)∧JE w wr p v v') (fun c _=>n-(intOf c).toNat)
 case atStart=>exact ⟨0,v,zAJ _,rfl,by simpa using h,JE.refl _ _ _⟩
 case round=>
  obtain ⟨k,v',hk,rfl,hW,hU⟩:=hrel
  by_cases Aq:k<n
  ·go_wp2_with fail
   refine (pM p v' _ (x.testBit (n-1-k)) _ _ hW (by rw [zAB,zAR,Ae];omega) (rS x (n-1-k))).mono ?_
   rintro e w' ⟨rfl,v2,RV,Xa⟩
   have HR:Hid (Cy p v (bs++(Aa x n).take (k+1)) w w'):=⟨v2,by rw [FX x n k Aq,← zAK];exact RV,hU.trans Xa⟩
   clear hW hU RV Xa
   go_wp2
   go_roundw
   case rel=>
    obtain ⟨v2,RV,Xa⟩:=HR.out
    exact ⟨k+1,v2,by omega,by go_num,RV,Xa⟩
   case measure=>simp [intOf];omega
  ·go_wp2
   go_ret
   obtain rfl:k=n:=by omega
   exact ⟨rfl,v',by rwa [zAF (by rw [Ae];omega)] at hW,hU⟩
theorem d7 (w:World):Calls Tryz.prog 136 #[] w fun e w'=>e = .returned (.pointer (some ⟨w.heap.size,0,none⟩))∧Ay w' w.heap.size (.slice none 0 0) []∧Below w.heap.size w w':=by
 go_enter Tryz.func136,Tryz.ntmps136
 go_wp2
 go_ret
 exact ⟨rfl,⟨Ao.new _ _ _,zBI _ _ _ _,by simp [Value.ownBlock]⟩,(zAM _ _).alloc (zAD _) _⟩
theorem Ay.Ai {S:Nat→Prop} {w w':World} {p:Nat} {v:Value} {bs:List Bool} (h:Ay w p v bs) (hm:Ac S w w') (hp:¬S p) (hv:∀k,v.ownBlock=some k→¬S k):Ay w' p v bs:=
 ⟨hm.AM h.AM hp,hm.owns h.own hv,h.ne⟩
theorem Ay.below {w w':World} {p:Nat} {v:Value} {bs:List Bool} (h:Ay w p v bs) (hb:Below w.heap.size w w'):Ay w' p v bs:=h.Ai (Ac.Ah hb (fun _=>False)) (fun e=>e) (fun _ _ e=>e)
theorem iJ (v:Value) (n:Nat) (vs:List Value) (w:World) (h:Rd w 1 v n vs) (h1:∀u∈vs,u.oneCell'=true) (hn:n≤140737488355328) :
  Calls Tryz.prog 193 #[v] w fun e w'=>∃r,e = .returned r∧MI w w' 5 1 r n vs:=by
 obtain ⟨i0,hi,Xn,By,Co⟩:=zGX Tryz.infoU8
 obtain ⟨p,c,rfl,hl,FC,Vw,EB,Aj⟩:=h
 have Xi:n≤maxLen:=by unfold maxLen;omega
 cases p with
 | none=>
  obtain ⟨rfl,rfl⟩:=EB rfl
  obtain rfl:vs=[]:=zAI (by simpa using hl)
  go_enter Tryz.func193,Tryz.ntmps193
  go_wp2
  go_ret
  exact ⟨_,rfl,zBI _ _ _ _,zAM _ _⟩
 | some ad=>
  have HC:=zAA Aj;clear Aj EB
  go_enter Tryz.func193,Tryz.ntmps193
  go_wp2_with (at_builtin;refine wpList_append_own _ rfl _ _ 25 rfl w.heap.size 5 i0 (.int .u8 0) 1 1 Tryz.underlying25 hi Xn By Co rfl (by decide) _ _ _ rfl (zBI _ _ _ _) ad n c vs rfl ?c1 ?c2 ?c3 ?c4 ?c5 ?c6 ?_)
  case c1=>exact hl
  case c2=>exact HC.out ad rfl
  case c3=>exact h1
  case c4=>omega
  case c5=>omega
  case c6=>exact zAD _
  intro v' w1 Au uD hx
  clear hx
  have HO:=zAA Au;have HG:=zAA uD;clear Au uD
  go_wp2
  go_ret
  exact ⟨_,rfl,HO.out,(zAM _ _).grown HG.out (zAD _) (fun k e=>by cases e)⟩
theorem yh (p:Nat) (v:Value) (bs:List Bool) (w:World) (h:Ay w p v bs) (hb:bs.length≤1125899906842624):Calls Tryz.prog 140 #[.pointer (some ⟨p,0,none⟩)] w
  fun e w'=>∃r,e = .returned r∧MI w w' 5 1 r (Bi bs).length (B9 (Bi bs)):=by
 have h1:w.cell? ⟨p,1,none⟩=some v:=by rw [h.AM.cell];rfl
 have hr:Rd w 1 v (Bi bs).length (B9 (Bi bs)):=Rd.Ad h.own
 have Bg:(Bi bs).length≤140737488355328:=by rw [A9];omega
 clear h
 go_enter Tryz.func140,Tryz.ntmps140
 go_wp2_with (go_at_call 193;refine (iJ _ _ _ _ hr (A3 _) Bg).mono ?_;rintro e w' ⟨r,rfl,hm⟩)
 go_ret
 exact ⟨_,rfl,hm⟩
end Go.Proofs.YtdcgbgecbeegmaaGreatDoor
end
section
namespace Go.Proofs.YtdcgbgecbeegmaaGreatDoor
open Go Go.RowKit Go.Shelf
def mf (p:Nat) (v:Value) (W0:World) (out:List Bool) (W:World):Prop:=∃v',Ay W p v' out∧JE W0 W p v v'
theorem LU {β:Type} {B:Nat} {W0:World} (hB:W0.heap.size≤B) (p:Nat) (v:Value) (f:β→List Bool):OwnFrom B (fun s W=>mf p v W0 (f s) W):=by
 rintro s W W' row ⟨v',h1,h2⟩ hg hr
 have hr':∀r,row=some r→∃o:Obj,W.heap[r]? = some o∧o.isCells=false:=fun r e=>(hr r e).2
 exact ⟨v',⟨LT p (fun _:Unit=>[.int .i64 (f s).length,v']) () W W' row h1.AM hg hr',GQ h1.own hg hr',h1.ne⟩,⟨J8 hB () W W' row h2.Ai hg hr,h2.fresh⟩⟩
theorem QZ {p:Nat} {v':Value} {W W':World} {out:List Bool} (h:Ay W p v' out) (hm:Ac (fun k=>k=p∨v'.ownBlock=some k) W W'):KeepsOthers W W':=by
 refine KeepsOthers.J5 hm (fun k o hk ho=>?_)
 rcases hk with rfl | hk
 ·obtain ⟨t,ht⟩:=h.AM
  rw [ht] at ho
  cases ho;rfl
 ·exact C9 h.own k o hk ho
end Go.Proofs.YtdcgbgecbeegmaaGreatDoor
end
section
namespace Go.Proofs.YtdcgbgecbeegmaaGreatDoor
open Go Go.RowKit
section
theorem em {p:Option Addr} {i n c sz k:Nat} (h:(sliced p i n c sz).ownBlock=some k):(Value.slice p n c).ownBlock=some k:=by
 unfold sliced at h
 cases p with
 | none=>split at h<;>simp [Value.ownBlock] at h
 | some a=>
  split at h<;>simp_all [Value.ownBlock,Addr.add]
  all_goals (try split at h)<;>simp_all
section
variable {P:Program}
theorem Pr {t e:TypeId} {sz bytes:Nat} (hE:Cd P t e sz bytes) (w:World) (v:Value) (n i:Nat) (vs:List Value) (h0:Rd w sz v n vs) (hi:i≤n)
  {ops:Array Oper} {rest:List Oper} {o:Oper} {a:Act} {Q:Exit→Act→World→Prop} (BT:Region.wanted o (yielded ops a.tmps)=true) (s x:Operand) (ho:o.op = .slice t s (some x) none none)
  (hs:a.eval s=v) (hx:a.eval x = .int .i64 (i:Int))
  (h:∀p c,Rd w sz (.slice p (n-i) c) (n-i) (vs.drop (i*sz))→(∀k,(Value.slice p (n-i) c).ownBlock=some k→v.ownBlock=some k)→wpList P ops Q rest (a.put o.dst (.slice p (n-i) c)) w):wpList P ops Q (o::rest) a w:=by
 obtain ⟨inf,z,NP,hz,Cn,PB,Me⟩:=hE.hi
 obtain ⟨p,c,hv⟩:=h0.shape
 subst hv
 refine zDU BT fun K hK=>?_
 have EA:P.elem t=e:=by simp [Program.elem,hE.ht]
 have hu:P.underlying t=some (.slice (P.elem t)):=by rw [EA];exact hE.ht
 have Aj:P.cellsOf (P.elem t)=sz:=by rw [EA];simp [Program.cellsOf,NP,Cn]
 have hr:(Instr.sliceAt t (.slice p n c) (some (.int .i64 (i:Int))) none none).run P w = .ok (sliced p i n c sz) w:=by
  have Ed:=run_sizeOf (w:=w) (show P.info? (P.elem t)=some inf by rw [EA];exact NP)
  rw [zGD (h:=hu),run_slice_l (ht:=hu) (h0:=by omega) (h1:=by omega),Ed,Aj]
  simp [Result.andThen]
 unfold Oper.wp execOp
 simp only [ho,zCK,zDM,zCG,hs,hx,hr,zEV,Option.map_none]
 exact hK _ _ (h _ _ (h0.from i hi) (fun k hk=>em hk))
end
end
theorem Ao.tJ {w:World} {g:Nat} {a b:Value} (h:Ao w g [a,b]) (x y:Value):Ao ((w.setCell ⟨g,0,none⟩ x).setCell ⟨g,1,none⟩ y) g [x,y]:=by
 simpa using (h.set 0 x).set 1 y
theorem Ao.two {w:World} {g:Nat} {a b:Value} (h:Ao w g [a,b]):(w.cell? ⟨g,0,none⟩=some a∧w.cell? ⟨g,1,none⟩=some b)∧(w.frozen? ⟨g,0,none⟩=false∧w.frozen? ⟨g,1,none⟩=false):=
 ⟨⟨by rw [h.cell];rfl,by rw [h.cell];rfl⟩,h.free 0,h.free 1⟩
section
section
variable {P:Program} (w:World)
end
section
variable {P:Program}
end
end
section
def Fs (P:Program) (ops:Array Oper) (Q:Exit→Act→World→Prop) (S:World→Prop):DS→Act→World→Prop
 | .done,a,w=>Q .normal a w
 | .take i p,a,w=>match ops[i]? with
  | none=>False
  | some o=>if Region.wanted o (yielded ops a.tmps)=true then ∃v,(∀w,S w→(execOp a.eval o).run P w = .ok (.value v) w)∧Fs P ops Q S p (a.put o.dst v) w else Fs P ops Q S p (a.put o.dst undef) w
 | .one i p,a,w=>LH P ops Q i (fun a w=>S w∧Fs P ops Q S p a w) a w
 | .two i j p q,a,w=>LH P ops Q i (fun a w=>S w∧Fs P ops Q S p a w) a w∧LH P ops Q j (fun a w=>S w∧Fs P ops Q S q a w) a w
section
variable {P:Program} {ops:Array Oper} {Q:Exit→Act→World→Prop} {S:World→Prop} {md:Region.Mode}
theorem CZ (hs:Region.noSelect ops=true) (hQ:∀c (a a':Act) w,a.defers=a'.defers→Q (.panic c) a w→Q (.panic c) a' w):∀(p:DS) (listed:Array Bool) (a:Act) (w:World) (fuel:Nat),p.steps≤fuel→
  DD md ops p listed=true→S w→Fs P ops Q S p a w→wpAnyH P md ops Q S fuel listed a w
 | .done,listed,a,w,fuel,_,hB,_,h=>wpAnyH_done (by simpa [DD] using hB) h fuel
 | .take i p,listed,a,w,0,hf,_,_,_=>by simp [DS.steps] at hf
 | .take i p,listed,a,w,fuel+1,hf,hB,hS,h=>by
  have hf':p.steps≤fuel:=by simpa [DS.steps] using hf
  simp only [DD,zBY] at hB
  unfold Fs at h
  cases ho:ops[i]? with
  | none=>rw [ho] at h;exact h.elim
  | some o=>
   rw [ho] at h
   simp only at h
   by_cases hw:Region.wanted o (yielded ops a.tmps)=true
   ·rw [if_pos hw] at h
    obtain ⟨v,hv,h⟩:=h
    exact wpAnyH_take ho hs hB.1.1 hB.1.2 (fun c a w h=>hQ c _ _ w (put_defers _ _ _) h) (.inl ⟨hw,hv⟩) hS (CZ hs hQ p _ _ w fuel hf' hB.2 hS h)
   ·rw [if_neg hw] at h
    exact wpAnyH_take ho hs hB.1.1 hB.1.2 (fun c a w h=>hQ c _ _ w (put_defers _ _ _) h) (.inr ⟨by simpa using hw,rfl⟩) hS (CZ hs hQ p _ _ w fuel hf' hB.2 hS h)
 | .one i p,listed,a,w,0,hf,_,_,_=>by simp [DS.steps] at hf
 | .one i p,listed,a,w,fuel+1,hf,hB,hS,h=>by
  have hf':p.steps≤fuel:=by simpa [DS.steps] using hf
  simp only [DD,zBY,zGB] at hB
  refine wpAnyH_all hB.1 (by simp) (fun j hj=>?_)
  obtain rfl:j=i:=by simpa using hj
  exact Et (fun a w h=>⟨h.1,CZ hs hQ p _ a w fuel hf' hB.2 h.1 h.2⟩) h
 | .two i j p q,listed,a,w,0,hf,_,_,_=>by simp [DS.steps] at hf
 | .two i j p q,listed,a,w,fuel+1,hf,hB,hS,h=>by
  have hf':max p.steps q.steps≤fuel:=by simpa [DS.steps] using hf
  simp only [DD,zBY,zGB] at hB
  refine wpAnyH_all hB.1 (by simp) (fun m hm=>?_)
  have hm':m=i∨m=j:=by simpa using hm
  rcases hm' with rfl | rfl
  ·exact Et (fun a w h=>⟨h.1,CZ hs hQ p _ a w fuel (by omega) hB.2.1 h.1 h.2⟩) h.1
  ·exact Et (fun a w h=>⟨h.1,CZ hs hQ q _ a w fuel (by omega) hB.2.2 h.1 h.2⟩) h.2
theorem RL {id:Nat} {a:Act} {w:World} (S:World→Prop) (p:DS) (hm:P.follows .mixedOrders=true) (hs:Region.noSelect ops=true) (hB:(decide (p.steps≤ops.size)&&DD .any ops p (Array.replicate ops.size false))=true)
  (hQ:∀c (a a':Act) w,a.defers=a'.defers→Q (.panic c) a w→Q (.panic c) a' w) (hS:S w.drew) (h:Fs P ops Q S p a w.drew):(Code.region id ops true).wp P Q a w:=by
 rw [zBY] at hB
 exact wp_region_held hm (CZ hs hQ p _ _ _ _ (by simpa using hB.1) hB.2 hS h)
inductive KT where
 | done
 | take (o:Oper) (p:KT)
 | one (o:Oper) (p:KT)
 | two (o1 o2:Oper) (p q:KT)
def d8:Oper:={ dst:=none,op:=.move (.tmp 0),type:=0,pos:= "",after:=#[],guard:=none }
def GS (l:List Oper):DS→KT
 | .done=>.done
 | .take i p=>.take (l[i]?.getD d8) (GS l p)
 | .one i p=>.one (l[i]?.getD d8) (GS l p)
 | .two i j p q=>.two (l[i]?.getD d8) (l[j]?.getD d8) (GS l p) (GS l q)
def Kc (n:Nat):DS→Bool
 | .done=>true
 | .take i p=>decide (i<n)&&Kc n p
 | .one i p=>decide (i<n)&&Kc n p
 | .two i j p q=>decide (i<n)&&(decide (j<n)&&(Kc n p&&Kc n q))
def Qr (P:Program) (ops:Array Oper) (Q:Exit→Act→World→Prop) (o:Oper) (K:Act→World→Prop) (a:Act) (w:World):Prop:=
 if Region.wanted o (yielded ops a.tmps)=true then o.wp P a w K Q else K (a.put o.dst undef) w
def BI (P:Program) (ops:Array Oper) (Q:Exit→Act→World→Prop) (S:World→Prop):KT→Act→World→Prop
 | .done,a,w=>Q .normal a w
 | .take o p,a,w=>if Region.wanted o (yielded ops a.tmps)=true then ∃v,(∀w,S w→(execOp a.eval o).run P w = .ok (.value v) w)∧BI P ops Q S p (a.put o.dst v) w else BI P ops Q S p (a.put o.dst undef) w
 | .one o p,a,w=>Qr P ops Q o (fun a w=>S w∧BI P ops Q S p a w) a w
 | .two o1 o2 p q,a,w=>Qr P ops Q o1 (fun a w=>S w∧BI P ops Q S p a w) a w∧Qr P ops Q o2 (fun a w=>S w∧BI P ops Q S q a w) a w
end
section
variable {P:Program} {l:List Oper} {Q:Exit→Act→World→Prop} {S:World→Prop}
theorem S3 {i:Nat} (hi:i<l.length) {K K':Act→World→Prop} {a:Act} {w:World} (hK:∀a w,K a w→K' a w) (h:Qr P l.toArray Q (l[i]?.getD d8) K a w):LH P l.toArray Q i K' a w:=by
 have ho:l[i]?.getD d8=l[i]:=by simp [hi]
 rw [ho] at h
 unfold Qr at h
 unfold LH
 have h2:l.toArray[i]? = some l[i]:=by simp [hi]
 simp only [h2]
 split
 ·next hw=>rw [if_pos hw] at h;exact Oper.wp_mono hK h
 ·next hw=>rw [if_neg hw] at h;exact hK _ _ h
theorem Fc:∀(p:DS) (a:Act) (w:World),Kc l.length p=true→BI P l.toArray Q S (GS l p) a w→Fs P l.toArray Q S p a w
 | .done,a,w,_,h=>h
 | .take i p,a,w,hi,h=>by
  simp only [Kc,zBY,zCH] at hi
  have ho:l[i]?.getD d8=l[i]:=by simp [hi.1]
  have h2:l.toArray[i]? = some l[i]:=by simp [hi.1]
  unfold GS BI at h
  rw [ho] at h
  unfold Fs
  simp only [h2]
  split
  ·next hw=>
   rw [if_pos hw] at h
   obtain ⟨v,h3,h4⟩:=h
   exact ⟨v,h3,Fc p _ _ hi.2 h4⟩
  ·next hw=>rw [if_neg hw] at h;exact Fc p _ _ hi.2 h
 | .one i p,a,w,hi,h=>by
  simp only [Kc,zBY,zCH] at hi
  exact S3 hi.1 (fun a w h=>⟨h.1,Fc p a w hi.2 h.2⟩) h
 | .two i j p q,a,w,hi,h=>by
  simp only [Kc,zBY,zCH] at hi
  exact ⟨S3 hi.1 (fun a w h=>⟨h.1,Fc p a w hi.2.2.1 h.2⟩) h.1,S3 hi.2.1 (fun a w h=>⟨h.1,Fc q a w hi.2.2.2 h.2⟩) h.2⟩
theorem RM {id:Nat} {a:Act} {w:World} (S:World→Prop) (p:DS) (hm:P.follows .mixedOrders=true) (hs:Region.noSelect l.toArray=true) (hB:(Kc l.length p&&(decide (p.steps≤l.toArray.size)&&DD .any l.toArray p (Array.replicate l.toArray.size false)))=true)
  (hQ:∀c (a a':Act) w,a.defers=a'.defers→Q (.panic c) a w→Q (.panic c) a' w) (hS:S w.drew) (h:BI P l.toArray Q S (GS l p) a w.drew):(Code.region id l.toArray true).wp P Q a w:=by
 rw [zBY] at hB
 exact RL S p hm hs hB.2 hQ hS (Fc p _ _ hB.1 h)
variable {ops:Array Oper}
theorem TH {a:Act} {w:World} (h:Q .normal a w):BI P ops Q S .done a w:=h
theorem takeP_blind {o:Oper} {p:KT} {a:Act} {w:World} (hw:Region.wanted o (yielded ops a.tmps)=true)
  (h:∃v,(∀w,(execOp a.eval o).run P w = .ok (.value v) w)∧BI P ops Q S p (a.put o.dst v) w):BI P ops Q S (.take o p) a w:=by
 unfold BI
 simp only [hw]
 obtain ⟨v,h1,h2⟩:=h
 exact ⟨v,fun w _=>h1 w,h2⟩
theorem takeP_reads {o:Oper} {p:KT} {a:Act} {w:World} (hw:Region.wanted o (yielded ops a.tmps)=true)
  (h:∃v,(∀w,S w→(execOp a.eval o).run P w = .ok (.value v) w)∧BI P ops Q S p (a.put o.dst v) w):BI P ops Q S (.take o p) a w:=by
 unfold BI
 simp only [hw]
 exact h
theorem JB {o:Oper} {p:KT} {a:Act} {w:World} (hw:Region.wanted o (yielded ops a.tmps)=true) (h:∀K:Act→World→Prop,(∀a w,S w→BI P ops Q S p a w→K a w)→o.wp P a w K Q):BI P ops Q S (.one o p) a w:=by
 unfold BI Qr
 simp only [hw]
 exact h _ (fun _ _ h1 h2=>⟨h1,h2⟩)
theorem Qm {o:Oper} {p:KT} {a:Act} {w:World} (hw:Region.wanted o (yielded ops a.tmps)=true) (v:Value) (w2:World) (hr:(execOp a.eval o).run P w = .ok (.value v) w2) (hS:S w2) (h:BI P ops Q S p (a.put o.dst v) w2):BI P ops Q S (.one o p) a w:=by
 refine JB hw (fun K hK=>?_)
 unfold Oper.wp
 rw [hr]
 exact hK _ _ hS h
theorem Pm {t e:TypeId} {sz bytes:Nat} (hE:Cd P t e sz bytes) {o:Oper} {p:KT} {a:Act} {w:World} (hw:Region.wanted o (yielded ops a.tmps)=true) (s x:Operand)
  (ho:o.op = .call { callee:=.builtin .append,args:=#[s,x],argTypes:=#[t,t] }) {v v2:Value} (hs:a.eval s=v) (hx:a.eval x=v2) {n m:Nat} {xs news:List Value} (Au:w.ownsRow 0 e sz v n xs) (hr:Rd w sz v2 m news) (h1:∀u∈news,u.oneCell'=true) (hb:(n+m)*bytes≤140737488355328∧n+m≤maxLen)
  (h:∀v' w',w'.ownsRow 0 e sz v' (n+m) (xs++news)→Ac (fun k=>v.ownBlock=some k) w w'→AG w.heap.size v v'→S w'∧BI P ops Q S p (a.put o.dst v') w'):BI P ops Q S (.one o p) a w:=by
 obtain ⟨v',w',J0,h2,h3,h4⟩:=K9 hE w v v2 n m xs news Au hr h1 hb s x ho hs hx
 obtain ⟨h5,h6⟩:=h v' w' h2 h3 h4
 exact Qm hw v' w' J0 h5 h6
theorem kN {o1 o2:Oper} {p q:KT} {a:Act} {w:World} (h1:BI P ops Q S (.one o1 p) a w) (h2:BI P ops Q S (.one o2 q) a w):BI P ops Q S (.two o1 o2 p q) a w:=⟨h1,h2⟩
end
end
theorem ek (a b:ByteArray):Lib.compareBytes a.data.toList b.data.toList=Br a b:=by
 have key:∀(a b:List UInt8),Lib.compareBytes a b=if Op.bytesLess a b then -1 else if Op.bytesLess b a then 1 else 0:=by
  intro a
  induction a with
  | nil=>intro b;cases b<;>simp [Lib.compareBytes,Op.bytesLess]
  | cons x a ih=>
   intro b
   cases b with
   | nil=>simp [Lib.compareBytes,Op.bytesLess]
   | cons y b=>
    rw [Lib.compareBytes,ih b]
    by_cases h1:x<y
    ·simp [Op.bytesLess,h1]
    ·by_cases h2:y<x
     ·have BC:¬x=y:=fun e=>by subst e;exact h1 h2
      simp [Op.bytesLess,h1,h2,BC]
     ·have e:x=y:=UInt8.le_antisymm (UInt8.not_lt.1 h2) (UInt8.not_lt.1 h1)
      subst e
      simp [Op.bytesLess,h1]
 have ha:a.toList=a.data.toList:=by simp [zES]
 have hb:b.toList=b.data.toList:=by simp [zES]
 rw [key,Br,RH,CB,CB,ha,hb]
theorem Uo (a b:ByteArray) (w:World):Calls Tryz.prog 207 #[.string a,.string b] w fun e w'=>e = .returned (.int .i64 (Br a b))∧w'=w:=by
 rw [← ek]
 go_enter Tryz.func207,Tryz.ntmps207
 go_wp2_with fail
 rw [run_callFunc_extern Tryz.func247 (by kernel_rfl) (by kernel_rfl) (by kernel_rfl) (e:=Extern.BytealgCompare.compare) (by kernel_rfl),Lib.run_compareString]
 simp only [Result.andThen]
 rw [Oper.upon_value]
 go_wp2_with fail
 go_ret
 exact ⟨rfl,rfl⟩
theorem Gv (a b:ByteArray) (w:World):Calls Tryz.prog 149 #[.string a,.string b] w fun e w'=>e = .returned (.int .i64 (Br a b))∧w'=w:=by
 have HC:=zAA (Uo a b)
 generalize Br a b=c at *
 go_enter Tryz.func149,Tryz.ntmps149
 go_wp2_with fail
 refine (HC.out _).mono ?_
 rintro e w' ⟨rfl,rfl⟩
 go_wp2_with fail
 go_ret
 exact ⟨rfl,rfl⟩
theorem iK (v:Value) (l:List AC) (w:World) (h:Rd w 2 v l.length (Am l)) (hn:l.length≤4398046511104) :
  Calls Tryz.prog 157 #[v] w fun e w'=>∃r,e = .returned r∧MI w w' 108 2 r l.length (Am l):=by
 have hq:∀(w:World) (a:Option Addr) (n c n' c':Nat),(binOp .eql 48 (.slice a n c) (.slice none n' c')).run Tryz.prog w = .ok (.bool a.isNone) w:=fun w a n c n' c'=>Lib.run_eql_slice_nil w _ _ a n c n' c' Tryz.underlying48
 obtain ⟨p,c,hv⟩:=h.shape
 subst hv
 cases p with
 | none=>
  obtain ⟨_,_,e,hl,_,_,EB,_⟩:=h
  simp only [zAN] at e
  obtain ⟨rfl,_,rfl⟩:=e
  obtain ⟨h0,rfl⟩:=EB rfl
  obtain rfl:l=[]:=zAI h0
  go_enter Tryz.func157,Tryz.ntmps157
  go_wp2
  go_ret
  exact ⟨_,rfl,zBI _ _ _ _,zAM _ _⟩
 | some ad=>
  have HB:Hid (Below w.heap.size w (w.alloc (.cells #[] 108))):=(zAM _ _).alloc (zAD _) _
  have HR:=zAA (h.below HB.out)
  clear h
  have HO:Hid ((w.alloc (.cells #[] 108)).ownsRow 0 108 2 (.slice (some ⟨w.heap.size,0,none⟩) 0 0) 0 []):=zCZ (base:=0) w #[] 0 (zAJ _) (by simp [maxLen]) (by simp)
  have HL:Hid ((0+l.length)*32≤140737488355328∧0+l.length≤maxLen):=by show _∧_;unfold maxLen;omega
  go_enter Tryz.func157,Tryz.ntmps157
  go_wp2_with (at_builtin;refine At gg _ _ _ _ _ _ _ HO.out HR.out (NW _) HL.out rfl _ _ rfl rfl rfl ?_)
  intro v' w1 Au AU DK
  have HM:Hid (MI w w1 108 2 v' l.length (Am l)):=by
   refine ⟨?_,HB.out.trans (AU.below HB.out.size (fun k hk e=>by simp [Value.ownBlock] at e;omega))⟩
   try simp only [zBK,zEF] at Au
   exact Af Au (fun k hk=>by
    rcases DK k hk with e | e
    ·simp [Value.ownBlock] at e;omega
    ·have:=HB.out.size;omega)
  clear Au AU DK
  go_wp2
  go_ret
  exact ⟨_,rfl,HM.out⟩
theorem UW {P:Program} (w:World) (dT sT ty elem:TypeId) (sz g n dCap:Nat) (a:Addr) (sCap:Nat) (cur:Array Value) (t:TypeId) (cs:List Value)
  (hu:P.underlying dT=some (.slice elem)) (hs:(P.info? elem).map (·.size)=some sz)
  (hg:w.heap[g]? = some (.cells cur t (0,0))) (hn:cs.length=n*sz)
  (hsrc:∀j v,cs[j]? = some v→w.cell? (a.add j)=some v) (nm:cur.size=cs.length) (h1:∀v∈cs,v.oneCell'=true) :
  (Builtin.copy_ #[dT,sT] ty #[.slice (some ⟨g,0,none⟩) n dCap,.slice (some a) n sCap]).run P w = .ok (goInt n) (w.setRow g cs.toArray):=by
 have hl:=run_loadCells_list (P:=P) w a cs hsrc
 have Vz:=run_storeCells_at P g 0 t cs 0 cur w hg (by simp;omega) h1
 have he:(cur.toList.take (0+0)++cs++cur.toList.drop (0+0+cs.length)).toArray=cs.toArray:=by
  simp [zBF (show cur.toList.length≤cs.length by simp [nm])]
 rw [he] at Vz
 cases hq:P.info? elem with
 | none=>simp [hq] at hs
 | some i=>
  have hi:i.size=sz:=by simpa [hq] using hs
  simp [Builtin.copy_,zDG hu,Builtin.lenOf,Builtin.firstCells,sizeOf,typeInfo,hq,hi,← hn,hl,Vz]
theorem Tr {P:Program} (w:World) (dT sT ty elem:TypeId) (sz:Nat) (d a:Option Addr) (dCap sCap:Nat) (hu:P.underlying dT=some (.slice elem)) (hs:(P.info? elem).map (·.size)=some sz) :
  (Builtin.copy_ #[dT,sT] ty #[.slice d 0 dCap,.slice a 0 sCap]).run P w = .ok (goInt 0) w:=by
 cases hq:P.info? elem with
 | none=>simp [hq] at hs
 | some i=>
  have hl:∀(x:Addr),(loadCells x 0).run P w = .ok #[] w:=fun x=>by simpa using run_loadCells_list (P:=P) w x [] (by simp)
  cases d<;>cases a<;>simp [Builtin.copy_,zDG hu,Builtin.lenOf,Builtin.firstCells,sizeOf,typeInfo,hq,storeCells,hl]
theorem XT {w:World} {base g n sz:Nat} {t:TypeId} {xs:List Value} (h:w.ownsRow base t sz (.slice (some ⟨g,0,none⟩) n n) n xs):w.heap[g]? = some (.cells xs.toArray t (0,0)):=by
 rcases h.2 with ⟨e,_⟩ | ⟨g',cap,cur,e,_,hg,_,_,hs,ht⟩
 ·cases e
 ·simp only [zAN,zCW,zGR,and_true,true_and] at e
  obtain ⟨rfl,rfl⟩:=e
  rw [hg,← ht,zAF (by simp [hs])]
theorem NJ {w:World} {base g n sz:Nat} {t:TypeId} {xs:List Value} (h:w.heap[g]? = some (.cells xs.toArray t (0,0))) (hb:base≤g) (hl:xs.length=n*sz) (hn:n≤maxLen):w.ownsRow base t sz (.slice (some ⟨g,0,none⟩) n n) n xs:=
 ⟨hl,Or.inr ⟨g,n,xs.toArray,rfl,hb,h,zAD _,hn,by simp [hl],by simp [← hl]⟩⟩
theorem cL {B g:Nat} {w0 w:World} (hb:Below B w0 w) (hg:B≤g) (cs:Array Value):Below B w0 (w.setRow g cs):=
 hb.trans ⟨rfl,rfl,rfl,by simp [World.setRow],fun k hk=>setRow_other w g k cs (by omega)⟩
section
section
variable {P:Program} {ops:Array Oper} {Q:Exit→Act→World→Prop} {md:Region.Mode} {S:World→Prop} {n:Nat}
theorem Pt {i:Nat} {o:Oper} {v:Value} {a:Act} (hi:ops[i]? = some o) (hy:YieldsIf P ops S o v a) {K:Act→World→Prop} {w:World} (hS:S w) (h:K (a.put o.dst v) w):wpOpIn Fence.wide n P ops Q i K a w:=by
 unfold wpOpIn
 simp only [hi]
 rcases hy with ⟨hw,hv⟩ | ⟨hw,rfl⟩
 ·rw [if_pos hw]
  refine ⟨fun _ _=>trivial,?_⟩
  show o.uponIn _ n P a _ Q ((o.semAt none a.eval).run P w)
  rw [Oper.semAt_none,hv w hS]
  exact h
 ·rw [if_neg (by rw [hw];decide)]
  exact ⟨fun _ _=>trivial,h⟩
theorem bC {j:Nat} {oi oj:Oper} {v:Value} (hj:ops[j]? = some oj) (Dz:oi.apart ops oj=true)
  (hsi:∀cs b,oi.op≠.select cs b) (hsj:∀cs b,oj.op≠.select cs b)
  (hQ:∀c a w,Q (.panic c) (a.put oi.dst v) w→Q (.panic c) a w) {K:Act→World→Prop} {a:Act} {w:World}
  (hy:YieldsIf P ops S oi v a) (h:wpOpIn Fence.wide n P ops Q j K (a.put oi.dst v) w) :
  wpOpIn Fence.wide n P ops Q j (fun a' w'=>YieldsIf P ops S oi v a'∧K (a'.put oi.dst v) w') a w:=by
 obtain ⟨h1,h2,h3⟩:=Oper.apart_spec Dz
 have keep:∀(a:Act),YieldsIf P ops S oi v a→∀u,YieldsIf P ops S oi v (a.put oj.dst u):=fun a hy u=>
  hy.of_same (execOp_put oi hsi a oj.dst u h3) (wanted_put oi a oj.dst u h3)
 have keepD:∀d,YieldsIf P ops S oi v { a with defers:=d::a.defers }:=fun d=>hy.of_same rfl rfl
 unfold wpOpIn at *
 simp only [hj] at *
 rw [wanted_put oj a oi.dst v h1] at h
 split
 ·next hw=>
  rw [if_pos hw] at h
  obtain ⟨_,h⟩:=h
  refine ⟨fun _ _=>trivial,?_⟩
  have h:oj.uponIn Fence.wide n P (a.put oi.dst v) K Q ((oj.semAt none (a.put oi.dst v).eval).run P w):=h
  show oj.uponIn Fence.wide n P a _ Q ((oj.semAt none a.eval).run P w)
  rw [Oper.semAt_none] at h ⊢
  rw [execOp_put oj hsj a oi.dst v h1] at h
  generalize (execOp a.eval oj).run P w=r at *
  cases r with
  | ok x w'=>
   cases x<;>simp only [Oper.uponIn] at h ⊢
   case value u=>exact ⟨keep a hy u,by rw [← zGN a v u h2];exact h⟩
   case skip=>exact ⟨keep a hy _,by rw [← zGN a v undef h2];exact h⟩
   case defer d=>
    refine ⟨keep _ (keepD d) _,?_⟩
    rw [← zGN _ v undef h2,← Act.put_defers]
    exact h
   case enter f args=>
    refine ⟨h.1,CallsIn.mono h.2 fun e w'' he=>?_⟩
    cases e with
    | returned u=>exact ⟨keep a hy u,by rw [← zGN a v u h2];exact he⟩
    | panicked c=>exact hQ _ _ _ he
    | outgrown=>exact he
   case row row args=>exact ⟨h.1,RowsIn.mono h.2 fun u w'' he=>⟨keep a hy u,by rw [← zGN a v u h2];exact he⟩⟩
   case round l f tmps assign body=>
    refine ⟨h.1,RoundIn.mono h.2 fun e w'' he=>?_⟩
    cases e with
    | returned u=>exact ⟨keep a hy u,by rw [← zGN a v u h2];exact he⟩
    | panicked c=>exact hQ _ _ _ he
    | outgrown=>exact he
  | halt x w'=>
   cases x<;>simp only [Oper.uponIn] at h ⊢
   case panic u=>exact hQ _ _ _ h
 ·next hw=>
  rw [if_neg hw] at h
  exact ⟨fun _ _=>trivial,keep a hy _,by rw [← zGN a v undef h2];exact h.2⟩
def mA (md:Region.Mode) (ops:Array Oper):Nat→Nat→Nat→Bool
 | 0,_,_=>false
 | f+1,c,i=>match ops[c]? with
  | none=>false
  | some o=>o.after.any fun e=>Region.binds md e&&(e.on == i || mA md ops f e.on i)
def MF (md:Region.Mode) (ops:Array Oper) (listed:Array Bool):Prop:=∀k o,ops[k]? = some o→listed.getD k false=true→∀e∈o.after,Region.binds md e=true→listed.getD e.on false=true
theorem Y5:MF md ops (Array.replicate ops.size false):=fun k o _ h=>by
 simp [Array.getElem?_replicate] at h
 split at h<;>simp at h
theorem JV {listed:Array Bool} {i:Nat} (h:MF md ops listed) (hi:i∈Region.ready md ops listed):MF md ops (listed.setIfInBounds i true):=fun k o ho hk e he hb=>by
 by_cases gx:i=k
 ·subst gx
  obtain ⟨_,o2,dD,SC⟩:=mem_ready.1 hi
  rw [ho] at dD
  cases dD
  exact getD_set_true (SC e he hb)
 ·exact getD_set_true (h k o ho (by rwa [getD_set_ne false gx] at hk) e he hb)
theorem Sl {listed:Array Bool} (h:MF md ops listed) (i:Nat):∀(f c:Nat),(∀o,ops[c]? = some o→∀e∈o.after,Region.binds md e=true→listed.getD e.on false=true)→mA md ops f c i=true→listed.getD i false=true
 | 0,_,_,hd=>by cases hd
 | f+1,c,hc,hd=>by
  unfold mA at hd
  cases ho:ops[c]? with
  | none=>rw [ho] at hd;cases hd
  | some o=>
   rw [ho] at hd
   obtain ⟨e,he,h2⟩:=Array.any_eq_true'.1 hd
   simp only [zBY,Bool.or_eq_true,zGB] at h2
   have hl:=hc o ho e he h2.1
   rcases h2.2 with e1 | e1
   ·rw [← e1];exact hl
   ·exact Sl h i f e.on (fun o2 dD=>h e.on o2 dD hl) e1
theorem bu {listed:Array Bool} {i:Nat} (h:listed.getD i true=false):listed.getD i false=false:=by
 rcases Nat.lt_or_ge i listed.size with h' | h'
 ·simp [h'] at h ⊢;exact h
 ·simp [Array.getElem?_eq_none h'] at h
def L4 (n:Nat) (P:Program) (md:Region.Mode) (ops:Array Oper) (Q:Exit→Act→World→Prop) (c:Nat) (S:World→Prop):Nat→Array Bool→Act→World→Prop
 | 0,listed,a,w=>Region.ready md ops listed=[]∧Q .normal a w
 | fuel+1,listed,a,w=>
  (Region.ready md ops listed=[]→Q .normal a w)∧
  ∀i∈Region.ready md ops listed,wpOpIn Fence.wide n P ops Q i (fun a' w'=>((listed.setIfInBounds i true).getD c false=true∨S w')∧L4 n P md ops Q c S fuel (listed.setIfInBounds i true) a' w') a w
theorem JC {c:Nat}:∀(fuel:Nat) (listed:Array Bool) (a:Act) (w:World),L4 n P md ops Q c S fuel listed a w→wpAnyIn Fence.wide n P md ops Q fuel listed a w
 | 0,_,_,_,h=>h
 | fuel+1,_,_,_,h=>⟨h.1,fun i hi=>wpOpIn_mono (fun a' w' h'=>JC fuel _ a' w' h'.2) (h.2 i hi)⟩
theorem Fp {i c:Nat} {oi:Oper} {v:Value} {S':World→Prop} (hi:ops[i]? = some oi) (xk:i≠c) (hsel:∀(j:Nat) (o:Oper) cs b,ops[j]? = some o→o.op≠.select cs b)
  (hQ:∀c a w,Q (.panic c) (a.put oi.dst v) w→Q (.panic c) a w) (hS':(∀w,S' w)∨(mA md ops ops.size c i=true∧∀w,S w→S' w)) :
  ∀(fuel:Nat) (listed:Array Bool) (a:Act) (w:World),
   (∀j oj,ops[j]? = some oj→j≠i→listed.getD j true=false→(∀e∈oj.after,Region.binds md e=true→e.on≠i)→oi.apart ops oj=true)→MF md ops listed→
   i∈Region.ready md ops listed→YieldsIf P ops S' oi v a→S' w→(listed.getD c false=true∨S w)→
   L4 n P md ops Q c S fuel (listed.setIfInBounds i true) (a.put oi.dst v) w→L4 n P md ops Q c S (fuel+1) listed a w:=by
 intro fuel
 induction fuel with
 | zero=>
  intro listed a w _ FH hr hy hS Rw H
  refine ⟨fun h=>(by rw [h] at hr;cases hr),fun j hj=>?_⟩
  by_cases T1:j=i
  ·subst T1
   exact Pt hi hy hS ⟨Rw.imp (fun h=>getD_set_true h) id,H⟩
  ·have:=ready_mono hj T1
   rw [H.1] at this
   cases this
 | succ fuel ih=>
  intro listed a w uC FH hr hy hS Rw H
  refine ⟨fun h=>(by rw [h] at hr;cases hr),fun j hj=>?_⟩
  by_cases T1:j=i
  ·subst T1
   exact Pt hi hy hS ⟨Rw.imp (fun h=>getD_set_true h) id,H⟩
  ·have h1:=H.2 j (ready_mono hj T1)
   obtain ⟨hjun,oj,hoj,SC⟩:=mem_ready.1 hj
   have hnot:∀e∈oj.after,Region.binds md e=true→e.on≠i:=fun e he hb nk=>by
    have h1:=SC e he hb
    rw [nk,bu (mem_ready.1 hr).1] at h1
    cases h1
   have wZ:=JV FH hj
   have hiun:(listed.setIfInBounds j true).getD i false=false:=by rw [getD_set_ne false T1];exact bu (mem_ready.1 hr).1
   have h2:=bC hoj (uC j oj hoj T1 hjun hnot) (fun cs b=>hsel i oi cs b hi) (fun cs b=>hsel j oj cs b hoj) hQ hy h1
   have xe:∀k ok,ops[k]? = some ok→k≠i→(listed.setIfInBounds j true).getD k true=false→
     (∀e∈ok.after,Region.binds md e=true→e.on≠i)→oi.apart ops ok=true:=fun k ok hk gx hun uI=>by
    refine uC k ok hk gx ?_ uI
    by_cases xo:j=k
    ·subst xo;exact hjun
    ·rw [getD_set_ne true xo] at hun;exact hun
   have hcond:∀w',(((listed.setIfInBounds i true).setIfInBounds j true).getD c false=true∨S w')→((listed.setIfInBounds j true).getD c false=true∨S w'):=fun w' h=>h.imp (fun h=>by
    rw [Array.setIfInBounds_comm _ _ (Ne.symm T1),getD_set_ne false xk] at h
    exact h) id
   have hSn:∀w',((listed.setIfInBounds j true).getD c false=true∨S w')→S' w':=fun w' h=>by
    rcases hS' with e | ⟨hd,e⟩
    ·exact e w'
    ·rcases h with h | h
     ·have:=Sl wZ i ops.size c (fun o ho e he hb=>wZ c o ho h e he hb) hd
      rw [hiun] at this
      cases this
     ·exact e w' h
   refine wpOpIn_mono (fun a' w' h3=>?_) h2
   have jd:=hcond w' h3.2.1
   refine ⟨jd,ih (listed.setIfInBounds j true) a' w' xe wZ (ready_mono hr (Ne.symm T1)) h3.1 (hSn w' jd) jd ?_⟩
   rw [Array.setIfInBounds_comm _ _ T1]
   exact h3.2.2
end
def EJ (P:Program) (ops:Array Oper) (S:World→Prop):List (Nat × Oper)→(Act→Prop)→Act→Prop
 | [],K,a=>K a
 | (_,o)::rest,K,a=>if Region.wanted o (yielded ops a.tmps)=true then ∃v,(∀w,S w→(execOp a.eval o).run P w = .ok (.value v) w)∧EJ P ops S rest K (a.put o.dst v)
   else EJ P ops S rest K (a.put o.dst undef)
def S8 (md:Region.Mode) (ops:Array Oper) (c:Nat) (R:List Nat):List Nat→Array Bool→Bool
 | [],listed=>Region.ready md ops listed == [c]&&J7 md ops [] R (listed.setIfInBounds c true)
 | i::rest,listed=>Region.free md ops listed i&&(Region.ready md ops listed).contains i&&(mA md ops ops.size c i&&(i != c&&S8 md ops c R rest (listed.setIfInBounds i true)))
section
variable {P:Program} {l:List Oper} {Q:Exit→Act→World→Prop} {md:Region.Mode} {S:World→Prop} {n c:Nat}
theorem Kj (hs:Region.noSelect l.toArray=true) (hQ:∀c (a a':Act) w,a.defers=a'.defers→Q (.panic c) a w→Q (.panic c) a' w):∀(R:List Nat) (listed:Array Bool) (a:Act) (w:World) (fuel:Nat),R.length≤fuel→
  (∀i∈R,i<l.length)→c∉R→J7 md l.toArray [] R listed=true→MF md l.toArray listed→listed.getD c false=true→EJ P l.toArray (fun _=>True) (Cj l R) (fun a'=>Q .normal a' w) a→L4 n P md l.toArray Q c S fuel listed a w
 | [],listed,a,w,fuel,_,_,_,hB,_,_,h=>by
  have hr:Region.ready md l.toArray listed=[]:=by simpa [J7] using hB
  cases fuel with
  | zero=>exact ⟨hr,h⟩
  | succ fuel=>exact ⟨fun _=>h,by rw [hr];simp⟩
 | i::rest,listed,a,w,0,hf,_,_,_,_,_,_=>by simp at hf
 | i::rest,listed,a,w,fuel+1,hf,hl,hc,hB,FH,Rw,h=>by
  have hf':rest.length≤fuel:=by simpa using hf
  have hl':∀j∈rest,j<l.length:=fun j hj=>hl j (by simp [hj])
  have hc':c∉rest:=fun e=>hc (by simp [e])
  have xk:i≠c:=fun e=>hc (by simp [e])
  have hi:i<l.length:=hl i (by simp)
  unfold J7 at hB
  simp only [List.contains_nil,zDC,zFK,zBY] at hB
  obtain ⟨h1,h2⟩:=hB
  have ho:l.toArray[i]? = some l[i]:=by simp [hi]
  have e:Cj l (i::rest)=(i,l[i])::Cj l rest:=by simp [Cj,hi]
  rw [e] at h
  unfold EJ at h
  generalize l[i]=o at *
  have Ch:i∈Region.ready md l.toArray listed:=by simpa using h1.2
  have ng:=JV FH Ch
  have hcs2:(listed.setIfInBounds i true).getD c false=true:=getD_set_true Rw
  by_cases hw:Region.wanted o (yielded l.toArray a.tmps)=true
  ·rw [if_pos hw] at h
   obtain ⟨v,hv,h⟩:=h
   exact Fp (S':=fun _=>True) ho xk (zGH hs) (fun c a w h=>hQ c _ _ w (put_defers _ _ _) h) (.inl (fun _=>trivial)) fuel listed a w (Region.free_spec ho h1.1) FH Ch (.inl ⟨hw,hv⟩) trivial (.inl Rw) (Kj hs hQ rest _ _ w fuel hf' hl' hc' h2 ng hcs2 h)
  ·rw [if_neg hw] at h
   exact Fp (S':=fun _=>True) ho xk (zGH hs) (fun c a w h=>hQ c _ _ w (put_defers _ _ _) h) (.inl (fun _=>trivial)) fuel listed a w (Region.free_spec ho h1.1) FH Ch (.inr ⟨by simpa using hw,rfl⟩) trivial (.inl Rw) (Kj hs hQ rest _ _ w fuel hf' hl' hc' h2 ng hcs2 h)
theorem FR {o:Oper} (hoc:l.toArray[c]? = some o) (hs:Region.noSelect l.toArray=true) (hQ:∀c (a a':Act) w,a.defers=a'.defers→Q (.panic c) a w→Q (.panic c) a' w) (R:List Nat) (hR:∀i∈R,i<l.length) (hcR:c∉R):∀(L:List Nat) (listed:Array Bool) (a:Act) (w:World) (fuel:Nat),L.length+1+R.length≤fuel→
  (∀i∈L,i<l.length)→S8 md l.toArray c R L listed=true→MF md l.toArray listed→S w→
  EJ P l.toArray S (Cj l L) (fun a1=>Region.wanted o (yielded l.toArray a1.tmps)=true∧o.wpIn Fence.wide n P a1 w (fun a2 w2=>EJ P l.toArray (fun _=>True) (Cj l R) (fun a3=>Q .normal a3 w2) a2) Q) a→L4 n P md l.toArray Q c S fuel listed a w
 | [],listed,a,w,0,hf,_,_,_,_,_=>by simp at hf
 | [],listed,a,w,fuel+1,hf,_,hB,FH,hS,h=>by
  unfold S8 at hB
  rw [zBY] at hB
  have hr:Region.ready md l.toArray listed=[c]:=by simpa using hB.1
  refine ⟨fun h0=>absurd (hr ▸ h0) (by simp),fun j hj=>?_⟩
  have Ch:=hj
  rw [hr] at hj
  obtain rfl:j=c:=by simpa using hj
  have Rw:(listed.setIfInBounds j true).getD j false=true:=by
   have h1:=(mem_ready.1 Ch).1
   rcases Nat.lt_or_ge j listed.size with h' | h'
   ·simp [h']
   ·simp [Array.getElem?_eq_none h'] at h1
  unfold wpOpIn
  simp only [hoc]
  obtain ⟨hw,h⟩:=h
  rw [if_pos hw]
  exact Oper.wpIn_mono (fun a w h=>⟨.inl Rw,Kj hs hQ R _ a w fuel (by simp at hf;omega) hR hcR hB.2 (JV FH Ch) Rw h⟩) h
 | i::rest,listed,a,w,0,hf,_,_,_,_,_=>by simp at hf
 | i::rest,listed,a,w,fuel+1,hf,hl,hB,FH,hS,h=>by
  have hf':rest.length+1+R.length≤fuel:=by simp at hf;omega
  have hl':∀j∈rest,j<l.length:=fun j hj=>hl j (by simp [hj])
  have hi:i<l.length:=hl i (by simp)
  unfold S8 at hB
  simp only [zBY,bne_iff_ne] at hB
  obtain ⟨⟨DK,nI⟩,nh,xk,h2⟩:=hB
  have ho:l.toArray[i]? = some l[i]:=by simp [hi]
  have e:Cj l (i::rest)=(i,l[i])::Cj l rest:=by simp [Cj,hi]
  rw [e] at h
  unfold EJ at h
  generalize l[i]=o' at *
  have Ch:i∈Region.ready md l.toArray listed:=by simpa using nI
  have ng:=JV FH Ch
  by_cases hw:Region.wanted o' (yielded l.toArray a.tmps)=true
  ·rw [if_pos hw] at h
   obtain ⟨v,hv,h⟩:=h
   exact Fp (S':=S) ho xk (zGH hs) (fun c a w h=>hQ c _ _ w (put_defers _ _ _) h) (.inr ⟨nh,fun _ h=>h⟩) fuel listed a w (Region.free_spec ho DK) FH Ch (.inl ⟨hw,hv⟩) hS (.inr hS) (FR hoc hs hQ R hR hcR rest _ _ w fuel hf' hl' h2 ng hS h)
  ·rw [if_neg hw] at h
   exact Fp (S':=S) ho xk (zGH hs) (fun c a w h=>hQ c _ _ w (put_defers _ _ _) h) (.inr ⟨nh,fun _ h=>h⟩) fuel listed a w (Region.free_spec ho DK) FH Ch (.inr ⟨by simpa using hw,rfl⟩) hS (.inr hS) (FR hoc hs hQ R hR hcR rest _ _ w fuel hf' hl' h2 ng hS h)
theorem Pp {id:Nat} {a:Act} {w:World} (S:World→Prop) (L:List Nat) (c:Nat) (R:List Nat) {o:Oper} (hoc:l.toArray[c]? = some o) (hm:P.follows .mixedOrders=true) (hs:Region.noSelect l.toArray=true)
  (hB:(decide (L.length+1+R.length≤l.length)&&(L.all (fun i=>decide (i<l.length))&&(R.all (fun i=>decide (i<l.length)&&i != c)&&S8 .any l.toArray c R L (Array.replicate l.length false))))=true)
  (hS:S w.drew) (h:EJ P l.toArray S (Cj l L) (fun a1=>Region.wanted o (yielded l.toArray a1.tmps)=true∧∀K:Act→World→Prop,(∀a2 w2,EJ P l.toArray (fun _=>True) (Cj l R) (fun a3=>Q .normal a3 w2) a2→K a2 w2)→o.wpIn Fence.wide n P a1 w.drew K (fun e a w=>e = .normal∧Q .normal a w)) a):(Code.region id l.toArray true).wpIn Fence.wide n P Q a w:=by
 simp only [zBY,List.all_eq_true,zCH,bne_iff_ne] at hB
 obtain ⟨h1,h2,h3,h4⟩:=hB
 refine Code.wpIn_mono (Q:=fun e a w=>e = .normal∧Q .normal a w) (fun _ _ _ h=>h.1 ▸ h.2) ?_
 refine wpIn_region_any hm (JC (c:=c) (S:=S) _ _ _ _ (FR hoc hs (fun c a a' w _ h=>by cases h.1) R (fun i hi=>(h3 i hi).1) (fun e=>(h3 c e).2 rfl) L _ a _ _ (by simpa using h1) h2 (by simpa using h4) (by have:=Y5 (md:=.any) (ops:=l.toArray);simpa using this) hS ?_))
 have uG:∀(L:List (Nat × Oper)) (S:World→Prop) (K K':Act→Prop) (a:Act),(∀a,K a→K' a)→EJ P l.toArray S L K a→EJ P l.toArray S L K' a:=by
  intro L
  induction L with
  | nil=>intro S K K' a hk h;exact hk a h
  | cons x rest ih=>
   intro S K K' a hk h
   obtain ⟨i,o⟩:=x
   unfold EJ at h ⊢
   split
   ·next hw=>
    rw [if_pos hw] at h
    obtain ⟨v,hv,h⟩:=h
    exact ⟨v,hv,ih S K K' _ hk h⟩
   ·next hw=>
    rw [if_neg hw] at h
    exact ih S K K' _ hk h
 exact uG _ _ _ _ _ (fun a1 h=>⟨h.1,h.2 _ (fun a2 w2 h2=>uG _ _ _ _ _ (fun a3 h=>⟨rfl,h⟩) h2)⟩) h
variable {ops:Array Oper} {K:Act→Prop}
theorem Ql {a:Act} (h:K a):EJ P ops S [] K a:=h
theorem takeN_blind {i:Nat} {o:Oper} {rest:List (Nat × Oper)} {a:Act} (_:true=true) (hw:Region.wanted o (yielded ops a.tmps)=true)
  (h:∃v,(∀w,(execOp a.eval o).run P w = .ok (.value v) w)∧EJ P ops S rest K (a.put o.dst v)):EJ P ops S ((i,o)::rest) K a:=by
 unfold EJ
 rw [if_pos hw]
 obtain ⟨v,h1,h2⟩:=h
 exact ⟨v,fun w _=>h1 w,h2⟩
theorem takeN_reads {i:Nat} {o:Oper} {rest:List (Nat × Oper)} {a:Act} (_:true=true) (hw:Region.wanted o (yielded ops a.tmps)=true)
  (h:∃v,(∀w,S w→(execOp a.eval o).run P w = .ok (.value v) w)∧EJ P ops S rest K (a.put o.dst v)):EJ P ops S ((i,o)::rest) K a:=by
 unfold EJ
 rw [if_pos hw]
 exact h
end
end
end Go.Proofs.YtdcgbgecbeegmaaGreatDoor
end
section
namespace Go.Proofs.YtdcgbgecbeegmaaGreatDoor
open Go Go.RowKit Go.Shelf
attribute [local go_sem] Oper.semAt_some
theorem d4 (x:Nat) (w:World) (n:Nat) :
  CallsIn Fence.wide n Tryz.prog 123 #[.int .u64 x] w fun e w'=>e = .returned (.func (.func 170) #[] #[.pointer (some ⟨w.heap.size,0,none⟩)])∧w'=w.alloc (.cells #[.int .u64 x] 81):=by
 refine zCQ.2 ?_
 go_enter Tryz.func123,Tryz.ntmps123
 go_wp2
 go_ret
 exact ⟨rfl,rfl⟩
theorem W7 (n:Nat) (hn:1≤n) (b x:Nat) (hx:x<18446744073709551616) (w:World) (hb:b<w.heap.size) (hc:w.cell? ⟨b,0,none⟩=some (.int .u64 x)) :
  SeqStopsK Fence.wide n Tryz.prog 170 #[.pointer (some ⟨b,0,none⟩)] (fun c:Nat=>#[.int .u8 (c:Int)]) KeepsWalks (fun ys=>ys=Ab x) (fun _=>True) (Ab x).length w:=by
 intro l J Jx W hW hJ hJx hY h0
 have hc':W.cell? ⟨b,0,none⟩=some (.int .u64 x):=(hW.cell (p:=⟨b,0,none⟩) hb).trans hc
 refine zGC Tryz.func170 rfl trivial ?_ rfl
 simp only [Tryz.ntmps170,zCC,zAH,zBG,Nat.reduceAdd,Nat.reduceSub,zCL,zCM,zCV,zCO,zBK,zBX]
 gi_wp2
 gi_loopw [3] (fun r wr=>∃(pre:List Nat) (y:Nat),y<18446744073709551616∧r = .int .u64 y∧Ab x=pre++Ab y∧J pre wr) (fun r _=>(intOf r).toNat)
 case atStart=>exact ⟨[],x,hx,rfl,rfl,h0⟩
 case round=>
  obtain ⟨pre,y,hy,rfl,hg,hJs⟩:=hrel
  by_cases h:y<128
  ·have Aq:(y:Int)<128:=by omega
   obtain ⟨fn,tmps,assign,body,jz,hR⟩:=hY pre y wr hJs (by rw [hg,AZ h];simp)
   rw [AZ h] at hg
   gi_wp2
   refine hR.mono ?_
   rintro e W3 (⟨rfl,Uv,Xf⟩ | ⟨rfl,P0⟩)
   ·gi_wp2
    go_end0
    exact ⟨⟨_,rfl⟩,.inl ⟨_,hg.symm,Uv⟩⟩
   ·gi_wp2
    go_end0
    exact ⟨⟨_,rfl⟩,.inr ⟨_,trivial,P0⟩⟩
  ·have Aq:¬(y:Int)<128:=by omega
   obtain ⟨fn,tmps,assign,body,jz,hR⟩:=hY pre (y % 128+128) wr hJs (by rw [hg,C8 h];simp)
   rw [show ((y % 128+128:Nat):Int)=(y:Int) % 128+128 from by omega] at jz
   rw [C8 h] at hg
   gi_wp2
   refine hR.mono ?_
   rintro e W3 (⟨rfl,Uv,Xf⟩ | ⟨rfl,P0⟩)
   ·gi_wp2
    go_roundw
    case rel=>exact ⟨pre++[y % 128+128],y / 128,by omega,by go_num,by rw [hg];simp,Uv⟩
    case measure=>simp [intOf];omega
   ·gi_wp2
    refine zCB (zDZ rfl _ _ _) rfl ?_
    exact ⟨⟨_,rfl⟩,.inr ⟨_,trivial,P0⟩⟩
structure JI (v:Value) (n:Nat) (out:List Nat) (w:World) (v':Value) (w':World):Prop where
 own:w'.ownsRow 0 5 1 v' n (B9 out)
 Ai:Ac (fun k=>v.ownBlock=some k) w w'
 fresh:AG w.heap.size v v'
theorem JI.below {v:Value} {n:Nat} {out:List Nat} {w:World} {v':Value} {w':World} (h:JI v n out w v' w') {B:Nat} (hB:B≤w.heap.size) (hv:∀k,v.ownBlock=some k→B≤k):Below B w w':=
 h.Ai.below hB (fun k hk e=>by have:=hv k e;omega)
theorem JI.made {v:Value} {n:Nat} {out:List Nat} {w:World} {v':Value} {w':World} (h:JI v n out w v' w') {B:Nat} (hB:B≤w.heap.size) (hv:∀k,v.ownBlock=some k→B≤k):w'.ownsRow B 5 1 v' n (B9 out):=
 Af h.own (fun k hk=>by
  rcases h.fresh k hk with e | e
  ·exact hv k e
  ·omega)
theorem VM {B:Nat}:∀k,(Value.slice none 0 0).ownBlock=some k→B≤k:=fun k e=>by simp [Value.ownBlock] at e
theorem Gk (v:Value) (n:Nat) (l:List Nat) (x:Nat) (hx:x<18446744073709551616) (w:World) (h:w.ownsRow 0 5 1 v n (B9 l)) (hn:n+10≤140737488355328) :
  Calls Tryz.prog 86 #[v,.int .u64 x] w fun e w'=>∃v',e = .returned v'∧JI v (n+(Ab x).length) (l++Ab x) w v' w':=by
 have jw:=AE hx
 obtain ⟨p,c,hv⟩:=(Rd.Ad h).shape
 subst hv
 refine (zCQ (n:=9)).1 ?_
 refine callsIn_of_wp_marks Tryz.func86 rfl trivial ?_ rfl
 simp only [Tryz.ntmps86,zCC,zAH,zBG,Nat.reduceAdd,Nat.reduceSub,zCL,zCM,zCV,zCO,zBK,zBX]
 have H:=zAA h;clear h
 gi_wp2_with (refine ⟨trivial,?_⟩;gi_at_call 123;refine (d4 x _ _).mono ?_;rintro e w' ⟨rfl,rfl⟩)
 obtain ⟨W0,Gr⟩:∃W0,(w.alloc (.cells #[.slice p n c] 25)).alloc (.cells #[.int .u64 x] 81)=W0:=⟨_,rfl⟩
 have T4:W0.heap.size=w.heap.size+2:=by rw [← Gr];simp
 have GD:W0.cell? ⟨w.heap.size+1,0,none⟩=some (.int .u64 x):=by
  have:=(Ao.new (w.alloc (.cells #[.slice p n c] 25)) #[.int .u64 x] 81).cell 0
  rw [Gr] at this
  simpa using this
 have wN:Holds 5 1 w.heap.size (.slice p n c) (n+0) (B9 (l++[])) w W0:=by
  have hm:Ac (fun k=>(Value.slice p n c).ownBlock=some k) w W0:=by rw [← Gr];exact (Ac.alloc _ _ _).trans (Ac.alloc (fun _=>False) _ _) (fun _ _ e=>e.elim)
  refine ⟨_,?_,?_,AG.refl _ _,fun e=>by have:=Ef H.out _ e;omega,hm⟩
  ·rw [← Gr];exact (Ao.new w _ _).alloc _
  ·rw [← Gr,zBR];exact (H.out.alloc _).alloc _
 rw [Gr]
 clear Gr
 refine wpIn_rangeFunc_ownG rfl (by omega) (gf:=170) (lb:=#[.pointer (some ⟨w.heap.size+1,0,none⟩)]) rfl trivial (enters_of Tryz.func170 (by kernel_rfl) rfl)
  (W7 _ (by omega) (w.heap.size+1) x hx W0 (by omega) GD) walksK_t walksK_b (zAM _ _) (fun _=>rfl)
  (fun pre W=>Holds 5 1 w.heap.size (.slice p n c) (n+pre.length) (B9 (l++pre)) w W)
  (fun _ _ _=>False)
  (UL (by omega) _ _ _ _ _ _)
  (fun _ _ _ _ _ hs _ _=>hs)
  wN
  (fun k=>{ tmps:=#[.slice p n c,.int .u64 x,.pointer (some ⟨w.heap.size,0,none⟩),undef,.slice none 0 0,.int .u8 (k:Int),.int .u64 x,.func (.func 170) #[] #[.pointer (some ⟨w.heap.size+1,0,none⟩)],.int .u8 (k:Int),undef,undef,undef,undef,undef],defers:=[] }) ?assign ?body ?done ?stop
 case assign=>
  intro l k W K hK
  simp only [zEN,zEC,zED,zEA,zDP,zFA,zAZ,zBL,zBT]
  gi_wp2
  exact hK
 case body=>
  rintro r pre k W ⟨v1,h1,h2,h3,h4,h5⟩ Bg
  have c0:W.cell? ⟨w.heap.size,0,none⟩=some v1:=by rw [h1.cell];rfl
  have f0:=h1.free 0
  have hb:(n+pre.length+1)*1≤140737488355328∧n+pre.length+1≤maxLen:=by unfold maxLen;omega
  have H2:=zAA h2;have HB:=zAA hb
  obtain ⟨p1,c1,DA⟩:=(Rd.Ad h2).shape
  subst DA
  clear h2 hb
  refine wpIn_block ?_
  refine wpIn_region_list ?_
  refine EO Fb _ _ _ (by simp) ?_
  go_wp2_with (at_builtin;refine AD Tryz.CG W #[.int .u8 (k:Int)] _ _ _ H2.out rfl (CC _ rfl) HB.out rfl _ _ rfl rfl rfl ?_)
  intro v2 w1 k1 k2 k3
  obtain ⟨q1,q2⟩:=Holds.B5 (zAD _) h1 H2.out h3 h4 h5 k1 k2 k3
  have b1:=k2.AM h1 h4
  have c1':w1.cell? ⟨w.heap.size,0,none⟩=some (.slice p1 (n+pre.length) c1):=by rw [b1.cell];rfl
  have f1':=b1.free 0
  obtain ⟨p2,c2,Ji⟩:=(Rd.Ad k1).shape
  subst Ji
  have Q1:=zAA q1;have Q2:=zAA q2
  clear k1 k2 k3 q1 q2
  go_wp2
  refine ⟨Q2.out.from _,Q2.out.walks,?_⟩
  have q:=Q1.out
  simpa [B9,zDH] using q
 case done=>
  rintro D ys W hD rfl ⟨v1,h1,h2,h3,h4,h5⟩ hK
  have c0:W.cell? ⟨w.heap.size,0,none⟩=some v1:=by rw [h1.cell];rfl
  obtain ⟨p1,c1,DA⟩:=(Rd.Ad h2).shape
  subst DA
  have H2:=zAA h2;clear h2
  gi_wp2
  refine ⟨by simp,.inl ⟨_,_,rfl,run_takeDeferred hK,?_⟩⟩
  refine ⟨_,results_tmp rfl _ _ _,?_⟩
  exact ⟨.slice p1 (n+(Ab x).length) c1,rfl,⟨ownsRow_putObj H2.out _ hK rfl,h5.putObj (by omega) _,h3⟩⟩
 case stop=>
  rintro D c pre W _ _ h _
  exact h.elim
end Go.Proofs.YtdcgbgecbeegmaaGreatDoor
end
section
namespace Go.Proofs.YtdcgbgecbeegmaaGreatDoor
open Go Go.RowKit
theorem WB (v:Value) (n:Nat) (l:List Nat) (s:ByteArray) (w:World) (h:w.ownsRow 0 5 1 v n (B9 l)) (hn:n+s.size≤140737488350100) :
  Calls Tryz.prog 102 #[v,.string s] w fun en w'=>∃v',en = .returned v'∧JI v (n+(bytesOf (A8 s)).length) (l++bytesOf (A8 s)) w v' w':=by
 have jw:=AE (x:=s.size) (by omega)
 have HL:Hid ((n+(Ab s.size).length+s.size)*1≤140737488355328∧n+(Ab s.size).length+s.size≤maxLen):=by show _∧_;unfold maxLen;omega
 have HW:Hid (bytesOf (A8 s)=Ab s.size++A8 s):=by show _=_;rw [bytesOf,Cu]
 have hw:IntKind.u64.wrap (s.size:Int)=(s.size:Int):=by rw [zBB];omega
 have H:=zAA h
 obtain ⟨q0,c0,hv⟩:=(Rd.Ad h).shape
 subst hv
 clear h
 go_enter Tryz.func102,Tryz.ntmps102
 go_wp2_with fail
 refine (Gk _ _ l s.size (by omega) _ H.out (by omega)).mono ?_
 rintro e w1 ⟨r,rfl,hP⟩
 obtain ⟨p,c,hr⟩:=(Rd.Ad hP.own).shape
 subst hr
 have HO:=zAA hP.own
 have HM:=zAA hP.Ai
 have HF:=zAA hP.fresh
 clear hP
 go_wp2_with (at_builtin;refine Fh Tryz.CG Tryz.underlying9 _ _ _ _ HO.out s HL.out rfl _ _ rfl rfl rfl ?_)
 intro v2 w2 Au AU DK
 have TW:Hid (JI (.slice q0 n c0) (n+(bytesOf (A8 s)).length) (l++bytesOf (A8 s)) w v2 w2):=by
  refine ⟨?_,HM.out.trans AU (fun j hj e=>?_),fun k hk=>?_⟩
  ·rw [HW.out,zAB,Cu,← zDH,← zAK,Cb]
   exact Au
  ·rcases HF.out j e with h | h
   ·exact h
   ·omega
  ·rcases DK k hk with h | h
   ·exact HF.out k h
   ·have:=HM.out.size;exact Or.inr (by omega)
 clear Au AU DK
 go_wp2_with fail
 go_ret
 exact ⟨_,rfl,TW.out⟩
structure Yz (w0:World) (v0:Value) (w1:World) (v1:Value):Prop where
 Ai:Ac (fun k=>v0.ownBlock=some k) w0 w1
 fresh:AG w0.heap.size v0 v1
theorem Yz.step {w0 w1 w2:World} {v0 v1 v2:Value} (h:Yz w0 v0 w1 v1) (m:Ac (fun k=>v1.ownBlock=some k) w1 w2) (f:AG w1.heap.size v1 v2):Yz w0 v0 w2 v2:=
 ⟨h.Ai.trans m (fun j hj e=>by rcases h.fresh j e with e | e<;>first | exact e | omega),h.fresh.trans f h.Ai.size⟩
theorem Yz.below {w0 w1 w2:World} {v0 v1:Value} (h:Yz w0 v0 w1 v1) (hb:Below w1.heap.size w1 w2):Yz w0 v0 w2 v1:=
 h.step (Ac.Ah hb _) (AG.refl _ _)
theorem Cc (w wr:World) (L:List Nat) (v:Value) (n:Nat) (h:AR w wr L v) (hn:n<18446744073709551616) (hL:L.length≤1000000000) :
  Calls Tryz.prog 86 #[v,.int .u64 (n:Int)] wr fun en w'=>∃r,en = .returned r∧AR w w' (L++Ab n) r∧Yz wr v w' r:=by
 refine (Gk v L.length L n hn wr h.Cz (by omega)).mono ?_
 rintro en w' ⟨r,rfl,hP⟩
 refine ⟨r,rfl,h.extended (e:=Ab n) ?_ hP.Ai hP.fresh,hP.Ai,hP.fresh⟩
 have:=hP.own
 rw [Cb] at this
 exact this
theorem mB:Cd Tryz.prog 104 157 3 56:=Cd.mk' (z:=.agg #[.string ⟨#[]⟩,.string ⟨#[]⟩,.slice none 0 0]) Tryz.underlying104 (by kernel_rfl) rfl (by decide)
theorem MD {P:Program} {t e:TypeId} {sz bytes:Nat} (hE:Cd P t e sz bytes) (w:World) (v:Value) (n i k:Nat) (vs:List Value) (h0:Rd w sz v n vs) (hi:i≤k) (hk:k≤n)
  {ops:Array Oper} {rest:List Oper} {o:Oper} {a:Act} {Q:Exit→Act→World→Prop} (BT:Region.wanted o (yielded ops a.tmps)=true) (s x y:Operand) (ho:o.op = .slice t s (some x) (some y) none)
  (hs:a.eval s=v) (hx:a.eval x = .int .i64 (i:Int)) (hy:a.eval y = .int .i64 (k:Int))
  (h:∀p c,Rd w sz (.slice p (k-i) c) (k-i) ((vs.take (k*sz)).drop (i*sz))→wpList P ops Q rest (a.put o.dst (.slice p (k-i) c)) w):wpList P ops Q (o::rest) a w:=by
 obtain ⟨p,c,hv⟩:=h0.shape
 subst hv
 have T3:n≤c:=by obtain ⟨_,_,e,_,h,_⟩:=h0;cases e;exact h
 have hr:=QF hE w p n c i k hi (by omega) s x y ho hs hx hy
 have hR:=h0.mW i k hi hk
 obtain ⟨p2,c2,KN⟩:=hR.shape
 rw [KN] at hr hR
 refine zDU BT fun K hK=>?_
 unfold Oper.wp
 rw [hr]
 exact hK _ _ (h _ _ hR)
end Go.Proofs.YtdcgbgecbeegmaaGreatDoor
end
