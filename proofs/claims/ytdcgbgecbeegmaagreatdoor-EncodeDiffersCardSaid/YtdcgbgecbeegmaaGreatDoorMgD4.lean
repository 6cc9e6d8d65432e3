/- Texts 4. -/
import Derived.Test.YtdcgbgecbeegmaaGreatDoorMgD3
import Derived.Test.YtdcgbgecbeegmaaGreatDoorMgD2
import Derived.Test.YtdcgbgecbeegmaaGreatDoorMgD1
import Derived.ProofKit
import Derived.OpenShut
import Derived.Deep.Slices
import Derived.SizedLaws
import Derived.RegionTactic
import Derived.Laws.Slices
import Derived.ChangeKeysEq
set_option linter.unusedVariables false
set_option linter.unusedSimpArgs false
section
namespace Go.Proofs.YtdcgbgecbeegmaaGreatDoor
def pOnly {α:Type} (p:List Nat→Nat→Out α) (q:α→Bool) (z:Nat) (B:List Nat) (a:Nat):Out α:=match p B a with
 | .bad e=>.bad e
 | .ok x b=>if q x=true then .ok x b else .bad z
theorem reads_only {α:Type} {p:List Nat→Nat→Out α} {f:α→List Nat} {ok:α→Prop} {q:α→Bool} {z:Nat} (hz:z≠0) (h:Reads p f ok):Reads (pOnly p q z) f (fun x=>ok x∧q x=true) where
 back:=fun pre rest x hx=>by rw [pOnly,h.back pre rest x hx.1];simp only [hx.2,if_true]
 inv:=fun {B a x b} hB ha hp=>by
  rw [pOnly] at hp
  split at hp
  ·cases hp
  ·next y b' h1=>
   split at hp
   ·next hq=>
    cases hp
    obtain ⟨a1,a2,a3,a4⟩:=h.inv hB ha h1
    exact ⟨⟨a1,hq⟩,a2,a3,a4⟩
   ·cases hp
 bad:=fun {B a e} hB ha hp=>by
  rw [pOnly] at hp
  split at hp
  ·next e' h1=>cases hp;exact h.bad hB ha h1
  ·split at hp
   ·cases hp
   ·cases hp;exact hz
 cut:=fun {B a x b m} hB ha hm hp=>by
  rw [pOnly] at hp
  split at hp
  ·cases hp
  ·next y b' h1=>
   split at hp
   ·next hq=>
    cases hp
    rcases h.cut hB ha hm h1 with e1 | ⟨hb,e1⟩
    ·exact Or.inl (by rw [pOnly,e1])
    ·exact Or.inr ⟨hb,by rw [pOnly,e1];simp only [hq,if_true]⟩
   ·cases hp
 pos:=fun x hx=>h.pos x hx.1
 lt:=fun x hx=>h.lt x hx.1
section
variable {α σ:Type} (p:σ→List Nat→Nat→Out α) (f:σ→α→List Nat) (ok:σ→α→Prop) (nx:σ→α→σ)
def pManyS (B:List Nat):Nat→Nat→σ→List α→Out (List α)
 | 0,a,_,acc=>.ok acc a
 | k+1,a,s,acc=>match p s B a with
  | .bad e=>.bad e
  | .ok x b=>pManyS B k b (nx s x) (acc++[x])
def fManyS:σ→List α→List Nat
 | _,[]=>[]
 | s,x::l=>f s x++fManyS (nx s x) l
def okS:σ→List α→Prop
 | _,[]=>True
 | s,x::l=>ok s x∧okS (nx s x) l
def pListS (z:Nat) (s0:σ) (B:List Nat) (a:Nat):Out (List α):=match readAt B (a:Int) with
 | (n,to,0)=>if B.length-to.toNat<n then .bad 3 else if z≠0∧n=0 then .bad z else pManyS p nx B n to.toNat s0 []
 | (_,_,e+1)=>.bad (e+1)
end
section
variable {α σ:Type} {p:σ→List Nat→Nat→Out α} {f:σ→α→List Nat} {ok:σ→α→Prop} {nx:σ→α→σ}
theorem manyS_back (h:∀s,Reads (p s) (f s) (ok s)) (rest:List Nat) (l:List α):∀(s:σ) (pre:List Nat) (acc:List α),okS ok nx s l→pManyS p nx (pre++fManyS f nx s l++rest) l.length pre.length s acc = .ok (acc++l) (pre.length+(fManyS f nx s l).length):=by
 induction l with
 | nil=>intro s pre acc _;simp [pManyS,fManyS]
 | cons x l ih=>
  intro s pre acc ho
  have e0:pre++fManyS f nx s (x::l)++rest=pre++f s x++(fManyS f nx (nx s x) l++rest):=by simp [fManyS]
  have e1:=(h s).back pre (fManyS f nx (nx s x) l++rest) x ho.1
  have e2:=ih (nx s x) (pre++f s x) (acc++[x]) ho.2
  rw [List.length_cons,pManyS,e0,e1]
  simp only
  rw [← List.append_assoc,← List.length_append,e2]
  simp [fManyS,Nat.add_assoc]
theorem manyS_inv (h:∀s,Reads (p s) (f s) (ok s)) {B:List Nat} (hB:∀c∈B,c<256):∀(k a:Nat) (s:σ) (acc u:List α) (b:Nat),a≤B.length→pManyS p nx B k a s acc = .ok u b→∃l,u=acc++l∧l.length=k∧okS ok nx s l∧B.drop a=fManyS f nx s l++B.drop b∧a≤b∧b≤B.length:=by
 intro k
 induction k with
 | zero=>intro a s acc u b ha hp;rw [pManyS] at hp;cases hp;exact ⟨[],by simp,rfl,trivial,rfl,Nat.le_refl _,ha⟩
 | succ k ih=>
  intro a s acc u b ha hp
  rw [pManyS] at hp
  split at hp
  ·cases hp
  ·next x b1 h1=>
   obtain ⟨a1,a2,a3,a4⟩:=(h s).inv hB ha h1
   obtain ⟨l,e1,e2,e3,e4,e5,e6⟩:=ih b1 (nx s x) (acc++[x]) u b a4 hp
   exact ⟨x::l,by rw [e1];simp,by simp [e2],⟨a1,e3⟩,by rw [a2,e4,fManyS,List.append_assoc],by omega,e6⟩
theorem manyS_bad (h:∀s,Reads (p s) (f s) (ok s)) {B:List Nat} (hB:∀c∈B,c<256):∀(k a:Nat) (s:σ) (acc:List α) (e:Nat),a≤B.length→pManyS p nx B k a s acc = .bad e→e≠0:=by
 intro k
 induction k with
 | zero=>intro a s acc e _ hp;rw [pManyS] at hp;cases hp
 | succ k ih=>
  intro a s acc e ha hp
  rw [pManyS] at hp
  split at hp
  ·next e' h1=>cases hp;exact (h s).bad hB ha h1
  ·next x b1 h1=>exact ih b1 _ _ e ((h s).inv hB ha h1).2.2.2 hp
theorem manyS_cut (h:∀s,Reads (p s) (f s) (ok s)) {B:List Nat} (hB:∀c∈B,c<256) {m:Nat} (hm:m≤B.length):∀(k a:Nat) (s:σ) (acc u:List α) (b:Nat),a≤m→pManyS p nx B k a s acc = .ok u b→pManyS p nx (B.take m) k a s acc = .bad 3∨(b≤m∧pManyS p nx (B.take m) k a s acc = .ok u b):=by
 intro k
 induction k with
 | zero=>intro a s acc u b ha hp;rw [pManyS] at hp;cases hp;exact Or.inr ⟨ha,rfl⟩
 | succ k ih=>
  intro a s acc u b ha hp
  rw [pManyS] at hp
  split at hp
  ·cases hp
  ·next x b1 h1=>
   rcases (h s).cut hB ha hm h1 with e1 | ⟨hb,e1⟩
   ·rw [pManyS,e1];exact Or.inl rfl
   ·rw [pManyS,e1];exact ih b1 _ _ u b hb hp
theorem flatS_le (h:∀s,Reads (p s) (f s) (ok s)) (l:List α):∀s,okS ok nx s l→l.length≤(fManyS f nx s l).length:=by
 induction l with
 | nil=>intro s _;exact Nat.le_refl _
 | cons x l ih=>intro s ho;rw [fManyS,List.length_append,List.length_cons];have:=(h s).pos x ho.1;have:=ih _ ho.2;omega
theorem flatS_lt (h:∀s,Reads (p s) (f s) (ok s)) (l:List α):∀s,okS ok nx s l→∀c∈fManyS f nx s l,c<256:=by
 induction l with
 | nil=>intro s _ c hc;cases hc
 | cons x l ih=>
  intro s ho c hc
  rw [fManyS] at hc
  rcases List.mem_append.1 hc with e | e
  ·exact (h s).lt x ho.1 c e
  ·exact ih _ ho.2 c e
theorem reads_listS {z:Nat} (h:∀s,Reads (p s) (f s) (ok s)) (s0:σ):Reads (pListS p nx z s0) (fun l=>groups l.length++fManyS f nx s0 l) (fun l=>okS ok nx s0 l∧l.length<18446744073709551616∧(z≠0→l≠[])) where
 back:=fun pre rest l hl=>by
  have e0:pre++(groups l.length++fManyS f nx s0 l)++rest=pre++groups l.length++(fManyS f nx s0 l++rest):=by simp
  have e3:pre++(groups l.length++fManyS f nx s0 l)++rest=pre++groups l.length++fManyS f nx s0 l++rest:=by simp
  have hr:=readAt_groups pre (fManyS f nx s0 l++rest) hl.2.1
  rw [pListS,e0,hr]
  simp only [Int.toNat_natCast]
  have hf:=flatS_le h l s0 hl.1
  rw [if_neg (by simp only [List.length_append];omega),if_neg (fun e=>hl.2.2 e.1 (List.eq_nil_of_length_eq_zero e.2)),← e0,e3,← List.length_append,manyS_back h rest l _ _ _ hl.1]
  simp [Nat.add_assoc]
 inv:=fun {B a u b} hB ha hp=>by
  rcases readAt_cases hB ha with ⟨e,he,hr⟩ | ⟨y,n,hr,hn,hin,hg,hy⟩
  ·obtain ⟨k,rfl⟩:∃k,e=k+1:=⟨e-1,by omega⟩
   rw [pListS,hr] at hp;cases hp
  ·obtain ⟨b',hb,h3,h4,h5,h6,h7,_⟩:=readAt_take hB (Nat.le_refl a) ha hr
   have e:b'=a+n:=by omega
   rw [pListS,hr] at hp
   simp only [Int.toNat_natCast] at hp
   split at hp
   ·cases hp
   ·split at hp
    ·cases hp
    ·next hz=>
     rw [← e] at hp
     obtain ⟨l,e1,e2,e3,e4,e5,e6⟩:=manyS_inv h hB y b' s0 [] u b h4 hp
     rw [List.nil_append] at e1
     subst e1
     refine ⟨⟨e3,by rw [e2];exact h7,fun hz1 hn1=>hz ⟨hz1,by rw [← e2,hn1];rfl⟩⟩,by rw [h5,e4,e2,List.append_assoc],by omega,e6⟩
 bad:=fun {B a e} hB ha hp=>by
  rcases readAt_cases hB ha with ⟨e1,he,hr⟩ | ⟨y,n,hr,hn,hin,hg,hy⟩
  ·obtain ⟨k,rfl⟩:∃k,e1=k+1:=⟨e1-1,by omega⟩
   rw [pListS,hr] at hp;cases hp;omega
  ·rw [pListS,hr] at hp
   simp only [Int.toNat_natCast] at hp
   split at hp
   ·cases hp;decide
   ·split at hp
    ·next hz=>cases hp;exact hz.1
    ·exact manyS_bad h hB _ _ _ _ _ hin hp
 cut:=fun {B a u b m} hB ha hm hp=>by
  rcases readAt_cases hB (Nat.le_trans ha hm) with ⟨e1,he,hr⟩ | ⟨y,n,hr,hn,hin,hg,hy⟩
  ·obtain ⟨k,rfl⟩:∃k,e1=k+1:=⟨e1-1,by omega⟩
   rw [pListS,hr] at hp;cases hp
  ·obtain ⟨b',hb,h3,h4,h5,h6,h7,h8⟩:=readAt_take hB ha hm hr
   have e:b'=a+n:=by omega
   rw [pListS,hr] at hp
   simp only [Int.toNat_natCast] at hp
   rw [pListS,h8]
   by_cases hle:b'≤m
   ·rw [if_pos hle]
    simp only [Int.toNat_natCast]
    split
    ·exact Or.inl rfl
    ·split at hp
     ·cases hp
     ·split at hp
      ·cases hp
      ·next hz=>
       rw [if_neg hz]
       rw [← e] at hp
       exact manyS_cut h hB hm _ _ _ _ _ _ hle hp
   ·rw [if_neg hle];exact Or.inl rfl
 pos:=fun l _=>by rw [List.length_append];have:=groups_pos l.length;omega
 lt:=fun l hl c hc=>by
  rcases List.mem_append.1 hc with e | e
  ·exact groups_lt _ c e
  ·exact flatS_lt h l s0 hl.1 c e
end
end Go.Proofs.YtdcgbgecbeegmaaGreatDoor
end
section
namespace Go.Proofs.YtdcgbgecbeegmaaGreatDoor
open Go Go.RowKit
def serB (s:Option Int) (x:Int):List Nat:=groups (x-s.getD 0).toNat
def serBytes (l:List Int):List Nat:=groups l.length++fManyS serB (fun _ x=>some x) none l
def entBytes (t:List ByteArray) (e:Ent):List Nat:=labBytes t e.1++serBytes e.2
def entsBytes (t:List ByteArray) (l:List Ent):List Nat:=groups l.length++l.flatMap (entBytes t)
def ltOpt (s:Option Lab) (x:Lab):Bool:=match s with
 | none=>true
 | some y=>ltE y x
def pLabO (t:List ByteArray) (s:Option Lab):List Nat→Nat→Out Lab:=pOnly (pLab t) (ltOpt s) 16
def pSer (n:Int) (s:Option Int):List Nat→Nat→Out Int:=pNum (fun d=>if 0≤s.getD 0∧s.getD 0+(d:Int)<n∧(s=none∨d≠0) then some (s.getD 0+(d:Int)) else none) 22
def pSers (n:Int):List Nat→Nat→Out (List Int):=pListS (pSer n) (fun _ x=>some x) 22 none
def pEnt (t:List ByteArray) (n:Int) (s:Option Lab):List Nat→Nat→Out Ent:=pPair (pLabO t s) (pSers n)
def pEnts (t:List ByteArray) (n:Int):List Nat→Nat→Out (List Ent):=pListS (pEnt t n) (fun _ e=>some e.1) 0 none
def encPoR (t:List ByteArray) (l:List Ent):Nat × List Nat:=if ∀e∈l,labIn t e.1 then (0,entsBytes t l) else (14,[])
def okSer (n:Int) (s:Option Int) (x:Int):Prop:=0≤s.getD 0∧x<n∧(s=none→0≤x)∧∀y,s=some y→y<x
theorem reads_ser {n : Int} (hn : n < 9223372036854775808) (s : Option Int) : Reads (pSer n s) (serB s) (okSer n s) :=
  reads_num (by decide) (fun x hx => by
    obtain ⟨h1, h2, h3, h4⟩ := hx
    cases s with
    | none =>
      have h5 := h3 rfl
      simp only [Option.getD_none] at *
      refine ⟨?_, by omega⟩
      rw [if_pos ⟨by omega, by omega, Or.inl trivial⟩]
      congr 1
      omega
    | some y =>
      have h5 := h4 y rfl
      simp only [Option.getD_some] at *
      refine ⟨?_, by omega⟩
      rw [if_pos ⟨by omega, by omega, Or.inr (by omega)⟩]
      congr 1
      omega) (fun d x h => by
    split at h
    · next hd =>
      cases h
      obtain ⟨h1, h2, h3⟩ := hd
      cases s with
      | none =>
        simp only [Option.getD_none] at *
        exact ⟨⟨by simp, by omega, fun _ => by omega, fun y hy => by cases hy⟩, by omega⟩
      | some y =>
        simp only [Option.getD_some] at *
        have h4 : d ≠ 0 := by rcases h3 with e | e; · cases e
                              · exact e
        exact ⟨⟨by simpa using h1, by omega, (fun hy => by cases hy), fun z hz => by cases hz; omega⟩, by omega⟩
    · cases h)
def okSers (n:Int) (l:List Int):Prop:=okS (okSer n) (fun _ x=>some x) none l∧l.length<18446744073709551616∧((22:Nat)≠0→l≠[])
theorem reads_sers {n:Int} (hn:n<9223372036854775808):Reads (pSers n) serBytes (okSers n):=reads_listS (fun s=>reads_ser hn s) none
def okEnt (t:List ByteArray) (n:Int) (s:Option Lab) (e:Ent):Prop:=((e.1.1∈t∧e.1.2∈t)∧ltOpt s e.1=true)∧okSers n e.2
def okEnts (t:List ByteArray) (n:Int) (l:List Ent):Prop:=okS (okEnt t n) (fun _ e=>some e.1) none l∧l.length<18446744073709551616∧((0:Nat)≠0→l≠[])
theorem fMany_const {α σ:Type} (f:α→List Nat) (nx:σ→α→σ) (l:List α):∀s,fManyS (fun _=>f) nx s l=l.flatMap f:=by
 induction l with
 | nil=>intro s;rfl
 | cons x l ih=>intro s;rw [fManyS,ih,List.flatMap_cons]
section
variable {t:List ByteArray} (ht:t.Nodup) (hl:t.length<18446744073709551616) {n:Int} (hn:n<9223372036854775808)
include ht hl hn
theorem reads_ent (s:Option Lab):Reads (pEnt t n s) (entBytes t) (okEnt t n s):=reads_pair (reads_only (by decide) (reads_lab ht hl)) (reads_sers hn)
theorem reads_ents:Reads (pEnts t n) (entsBytes t) (okEnts t n):=by
 have h:=reads_listS (p:=pEnt t n) (f:=fun _=>entBytes t) (ok:=okEnt t n) (nx:=fun _ e=>some e.1) (z:=0) (fun s=>reads_ent ht hl hn s) none
 have e:(fun l=>groups l.length++fManyS (fun (_:Option Lab)=>entBytes t) (fun _ (e:Ent)=>some e.1) none l)=entsBytes t:=by
  funext l
  rw [fMany_const,entsBytes]
 rw [e] at h
 exact h
end
theorem sers_ok {n:Int} (l:List Int):∀s,okS (okSer n) (fun _ x=>some x) s l↔(∀x∈l,x<n)∧AscB ltI l∧(s=none→∀x∈l,0≤x)∧(l≠[]→0≤s.getD 0)∧∀y,s=some y→∀x∈l,y<x:=by
 induction l with
 | nil=>intro s;simp [okS,AscB]
 | cons x l ih=>
  intro s
  rw [okS,ih (some x)]
  constructor
  ·rintro ⟨⟨h1,h2,h3,h4⟩,k1,k2,_,k4,k5⟩
   have hx:∀z∈l,x<z:=k5 x rfl
   refine ⟨fun z hz=>?_,List.pairwise_cons.2 ⟨fun z hz=>by simpa [ltI] using hx z hz,k2⟩,fun e z hz=>?_,fun _=>h1,fun y hy z hz=>?_⟩
   ·rcases List.mem_cons.1 hz with rfl | hz
    ·exact h2
    ·exact k1 z hz
   ·rcases List.mem_cons.1 hz with rfl | hz
    ·exact h3 e
    ·have:=h3 e;have:=hx z hz;omega
   ·rcases List.mem_cons.1 hz with rfl | hz
    ·exact h4 y hy
    ·have:=h4 y hy;have:=hx z hz;omega
  ·rintro ⟨k1,k2,k3,k4,k5⟩
   obtain ⟨h1,h2⟩:=List.pairwise_cons.1 k2
   refine ⟨⟨k4 (by simp),k1 x (by simp),fun e=>k3 e x (by simp),fun y hy=>k5 y hy x (by simp)⟩,fun z hz=>k1 z (by simp [hz]),h2,(fun e=>by cases e),fun _=>?_,fun y hy z hz=>?_⟩
   ·show 0≤x
    cases s with
    | none=>exact k3 rfl x (by simp)
    | some y=>have h5:=k4 (by simp);have h6:=k5 y rfl x (by simp);simp only [Option.getD_some] at h5;omega
   ·cases hy
    simpa [ltI] using h1 z hz
theorem sers_ok0 {n:Int} {l:List Int}:okSers n l↔(AscB ltI l∧(∀x∈l,0≤x∧x<n)∧l≠[])∧l.length<18446744073709551616:=by
 rw [okSers,sers_ok]
 constructor
 ·rintro ⟨⟨h1,h2,h3,_,_⟩,h5,h6⟩
  exact ⟨⟨h2,fun x hx=>⟨h3 rfl x hx,h1 x hx⟩,h6 (by decide)⟩,h5⟩
 ·rintro ⟨⟨h1,h2,h3⟩,h4⟩
  exact ⟨⟨fun x hx=>(h2 x hx).2,h1,fun _ x hx=>(h2 x hx).1,fun _=>by simp,fun y hy=>by cases hy⟩,h4,fun _=>h3⟩
theorem ents_ok {t:List ByteArray} {n:Int} (l:List Ent):∀s,okS (okEnt t n) (fun _ e=>some e.1) s l↔(∀e∈l,(e.1.1∈t∧e.1.2∈t)∧okSers n e.2)∧AscB ltE (l.map Prod.fst)∧∀y,s=some y→∀e∈l,ltE y e.1=true:=by
 induction l with
 | nil=>intro s;simp [okS,AscB]
 | cons x l ih=>
  intro s
  rw [okS,ih (some x.1)]
  constructor
  ·rintro ⟨⟨⟨h1,h2⟩,h3⟩,k1,k2,k3⟩
   have hx:∀e∈l,ltE x.1 e.1=true:=k3 x.1 rfl
   refine ⟨fun e he=>?_,?_,fun y hy e he=>?_⟩
   ·rcases List.mem_cons.1 he with rfl | he
    ·exact ⟨h1,h3⟩
    ·exact k1 e he
   ·refine List.pairwise_cons.2 ⟨fun y hy=>?_,k2⟩
    obtain ⟨e,he,rfl⟩:=List.mem_map.1 hy
    exact hx e he
   ·subst hy
    rcases List.mem_cons.1 he with rfl | he
    ·exact h2
    ·exact ltE_ok.tr _ _ _ h2 (hx e he)
  ·rintro ⟨k1,k2,k3⟩
   obtain ⟨h1,h2⟩:=List.pairwise_cons.1 k2
   refine ⟨⟨⟨(k1 x (by simp)).1,?_⟩,(k1 x (by simp)).2⟩,fun e he=>k1 e (by simp [he]),h2,fun y hy e he=>?_⟩
   ·cases s with
    | none=>rfl
    | some y=>exact k3 y rfl x (by simp)
   ·cases hy
    exact h1 e.1 (List.mem_map.2 ⟨e,he,rfl⟩)
def IsIdx (n:Int) (l:List Ent):Prop:=AscB ltE (l.map Prod.fst)∧∀e∈l,AscB ltI e.2∧(∀x∈e.2,0≤x∧x<n)∧e.2≠[]
theorem okEnts_iff {t:List ByteArray} {n:Int} {l:List Ent}:okEnts t n l↔IsIdx n l∧(∀e∈l,labIn t e.1)∧l.length<18446744073709551616∧∀e∈l,e.2.length<18446744073709551616:=by
 rw [okEnts,ents_ok]
 constructor
 ·rintro ⟨⟨h1,h2,_⟩,h3,_⟩
  exact ⟨⟨h2,fun e he=>(sers_ok0.1 (h1 e he).2).1⟩,fun e he=>(h1 e he).1,h3,fun e he=>(sers_ok0.1 (h1 e he).2).2⟩
 ·rintro ⟨⟨h1,h2⟩,h3,h4,h5⟩
  exact ⟨⟨fun e he=>⟨h3 e he,sers_ok0.2 ⟨h2 e he,h5 e he⟩⟩,h1,fun y hy=>by cases hy⟩,h4,fun e=>absurd rfl e⟩
section
variable {t:List ByteArray} (ht:AscB ltS t) (hl:t.length<18446744073709551616) {n:Int} (hn:n<9223372036854775808) (h0:0≤n)
include ht hl hn h0
omit h0 in
omit h0 in
theorem encPo_lt {l:List Ent} (h:okEnts t n l):∀c∈entsBytes t l,c<256:=(reads_ents (asc_nodup ht) hl hn).lt _ h
end
theorem idx_is (l:List (List Lab)):IsIdx (l.length:Int) (idxP l):=by
 refine ⟨idx_asc l,fun e he=>?_⟩
 obtain ⟨h1,h2⟩:=idx_mem he
 rw [h2]
 refine ⟨posTo_asc _ _ _,posTo_lt _ _ _,fun hnil=>?_⟩
 obtain ⟨s,hs,hx⟩:=List.mem_flatten.1 h1
 obtain ⟨j,hj,rfl⟩:=List.getElem_of_mem hs
 have:(j:Int)∈posTo l l.length e.1:=(posTo_mem _ _ _ _).2 ⟨j,rfl,hj,by rwa [List.getD_eq_getElem?_getD,List.getElem?_eq_getElem hj]⟩
 rw [hnil] at this
 cases this
end Go.Proofs.YtdcgbgecbeegmaaGreatDoor
end
section
namespace Go.Proofs.YtdcgbgecbeegmaaGreatDoor
open Go Go.RowKit
instance {α:Type} (lt:α→α→Bool) (l:List α):Decidable (AscB lt l):=inferInstanceAs (Decidable (List.Pairwise _ _))
def tabS (l:List ByteArray):List ByteArray:=tabB ltS l
def Fits (t:List ByteArray):Prop:=∀s∈t,s.size≤65535
instance (t:List ByteArray):Decidable (Fits t):=inferInstanceAs (Decidable (∀s∈t,_))
def encSy (t:List ByteArray):List Nat:=groups t.length++t.flatMap fun s=>bytesOf (numsOf s)
def encSyR (t:List ByteArray):Nat × List Nat:=if ¬Fits t then (7,[]) else if ¬AscB ltS t then (16,[]) else (0,encSy t)
def lastLt (acc:List ByteArray) (x:ByteArray):Bool:=match acc.getLast? with
 | none=>true
 | some y=>ltS y x
def decSyF (b:List Nat):Nat→Nat→List ByteArray→Nat × List ByteArray
 | 0,a,acc=>if a<b.length then (4,[]) else (0,acc)
 | k+1,a,acc=>match outString b a 65535 with
  | .bad e=>(e,[])
  | .ok s to=>if lastLt acc (strOf s) then decSyF b k to (acc++[strOf s]) else (16,[])
def decSy (b:List Nat):Nat × List ByteArray:=match readAt b 0 with
 | (n,a,0)=>if b.length-a.toNat<n then (3,[]) else decSyF b n a.toNat []
 | (_,_,e+1)=>(e+1,[])
theorem bytesOf_pos (s:List Nat):1≤(bytesOf s).length:=by rw [bytesOf_length];have:=groups_pos s.length;omega
theorem flat_pos (t:List ByteArray):t.length≤(t.flatMap fun s=>bytesOf (numsOf s)).length:=by
 induction t with
 | nil=>exact Nat.le_refl _
 | cons s t ih=>rw [List.flatMap_cons,List.length_append,List.length_cons];have:=bytesOf_pos (numsOf s);omega
theorem lastLt_of {acc:List ByteArray} {x:ByteArray} {t:List ByteArray} (h:AscB ltS (acc++x::t)):lastLt acc x=true:=by
 unfold lastLt
 split
 ·rfl
 ·next y hy=>exact (List.pairwise_append.1 h).2.2 y (List.mem_of_getLast? hy) x (by simp)
theorem decSyF_back (t:List ByteArray):∀(pre:List Nat) (acc:List ByteArray),AscB ltS (acc++t)→Fits t→
  decSyF (pre++t.flatMap fun s=>bytesOf (numsOf s)) t.length pre.length acc=(0,acc++t):=by
 induction t with
 | nil=>intro pre acc _ _;simp [decSyF]
 | cons x t ih=>
  intro pre acc ha hf
  have hx:x.size≤65535:=hf x (by simp)
  rw [List.length_cons,decSyF,List.flatMap_cons,← List.append_assoc]
  rw [outString_back pre (numsOf x) _ (by rw [numsOf_length];omega) 65535 (by rw [numsOf_length];omega)]
  simp only [strOf_numsOf]
  rw [if_pos (lastLt_of ha),← List.length_append]
  have:=ih (pre++bytesOf (numsOf x)) (acc++[x]) (by simpa using ha) (fun s hs=>hf s (by simp [hs]))
  rw [this];simp
theorem decSy_back (t:List ByteArray) (ha:AscB ltS t) (hf:Fits t) (hn:t.length<18446744073709551616):decSy (encSy t)=(0,t):=by
 have hr:readAt (encSy t) 0=(t.length,(((groups t.length).length:Nat):Int),0):=by
  have:=readAt_groups [] (t.flatMap fun s=>bytesOf (numsOf s)) hn
  simpa [encSy] using this
 rw [decSy,hr]
 simp only [Int.toNat_natCast]
 rw [if_neg,encSy,decSyF_back t (groups t.length) [] (by simpa using ha) hf]
 ·simp
 ·rw [encSy,List.length_append];have:=flat_pos t;omega
theorem encSyR_of {t:List ByteArray} (h1:Fits t) (h2:AscB ltS t):encSyR t=(0,encSy t):=by
 unfold encSyR
 rw [if_neg (not_not_intro h1),if_neg (not_not_intro h2)]
theorem encSy_lt (t:List ByteArray):∀c∈encSy t,c<256:=fun c hc=>by
 rcases List.mem_append.1 hc with h | h
 ·exact groups_lt _ c h
 ·obtain ⟨s,_,h⟩:=List.mem_flatMap.1 h
  exact bytesOf_lt (numsOf_lt s) c h
end Go.Proofs.YtdcgbgecbeegmaaGreatDoor
end
section
namespace Go.Proofs.YtdcgbgecbeegmaaGreatDoor
def thenO {α β:Type} (o:Out α) (g:α→Nat→Out β):Out β:=match o with
 | .ok x b=>g x b
 | .bad e=>.bad e
def headL:List Nat:=[84,83,66,75,1]
def tailL:List Nat:=[75,66,83,84]
def litE:List Nat→List Nat→Nat
 | _,[]=>0
 | [],_::_=>3
 | c::b,d::s=>if c=d then litE b s else 10
theorem litE_back (s r:List Nat):litE (s++r) s=0:=by
 induction s with
 | nil=>cases r<;>rfl
 | cons d s ih=>rw [List.cons_append,litE,if_pos rfl,ih]
def putS:Nat→List (List Nat)→List Nat
 | _,[]=>[]
 | id,d::S=>frameOf id d++putS (id+1) S
def offs:Nat→Nat→List (List Nat)→List Nat
 | _,_,[]=>[]
 | id,a,d::S=>a::offs (id+1) (a+(frameOf id d).length) S
def contents (ats:List Nat):List Nat:=ats.flatMap groups
def bodyL (S:List (List Nat)):List Nat:=headL++putS 1 S++frameOf 5 (contents (offs 1 5 S))
def asmL (S:List (List Nat)):List Nat:=withCrc (bodyL S)++tailL
def secsF:Nat→Nat→Nat→List (List Nat × Nat)→List Nat→Out (List (List Nat × Nat))
 | 0,_,a,acc,_=>.ok acc a
 | k+1,id,a,acc,B=>thenO (outSection B a id) (fun d b=>secsF k (id+1) b (acc++[(d,a)]) B)
def headO (B:List Nat):Out Unit:=if litE B headL=0 then .ok () 5 else .bad (litE B headL)
def tocO (c:List Nat) (l:List (List Nat × Nat)) (a5:Nat):Out Unit:=if c=contents (l.map Prod.snd) then .ok () a5 else .bad 13
def crcO (B:List Nat) (a5:Nat):Out Unit:=if B.length-a5<4 then .bad 3 else if isCrc (B.take (a5+4))=true then .ok () (a5+4) else .bad 12
def tailO (B:List Nat) (a6:Nat):Out Unit:=if litE (B.drop a6) tailL=0 then .ok () (a6+4) else .bad (litE (B.drop a6) tailL)
def layF (B:List Nat):Out (List (List Nat) × List Nat):=
 thenO (headO B) fun _ a0=>thenO (secsF 4 1 a0 [] B) fun l a4=>thenO (outSection B a4 5) fun c a5=>thenO (tocO c l a5) fun _ a5'=>thenO (crcO B a5') fun _ a6=>thenO (tailO B a6) fun _ a7=>.ok (l.map Prod.fst,l.map Prod.snd++[a4]) a7
def noSecs:List (List Nat):=[[],[],[],[]]
def noOffs:List Nat:=[0,0,0,0,0]
def lay (B:List Nat):List (List Nat) × List Nat × Nat:=match layF B with
 | .bad e=>(noSecs,noOffs,e)
 | .ok x b=>if b<B.length then (noSecs,noOffs,4) else (x.1,x.2,0)
def okS4 (S:List (List Nat)):Prop:=∀d∈S,(∀c∈d,c<256)∧d.length<18446744073709551616
theorem offs_length:∀(id a:Nat) (S:List (List Nat)),(offs id a S).length=S.length
 | _,_,[]=>rfl
 | id,a,d::S=>by rw [offs,List.length_cons,offs_length,List.length_cons]
theorem putS_lt:∀(id:Nat) (S:List (List Nat)),id+S.length≤256→okS4 S→∀c∈putS id S,c<256
 | _,[],_,_,c,hc=>by cases hc
 | id,d::S,hi,h,c,hc=>by
  rw [putS] at hc
  rw [List.length_cons] at hi
  rcases List.mem_append.1 hc with e | e
  ·exact frameOf_lt (by omega) (h d (by simp)).1 c e
  ·exact putS_lt (id+1) S (by omega) (fun d hd=>h d (by simp [hd])) c e
theorem contents_lt (l:List Nat):∀c∈contents l,c<256:=fun c hc=>by
 obtain ⟨x,_,h⟩:=List.mem_flatMap.1 hc
 exact groups_lt x c h
theorem bodyL_lt {S:List (List Nat)} (h4:S.length=4) (h:okS4 S):∀c∈bodyL S,c<256:=fun c hc=>by
 unfold bodyL at hc
 rcases List.mem_append.1 hc with hc | hc
 ·rcases List.mem_append.1 hc with hc | hc
  ·simp [headL] at hc;omega
  ·exact putS_lt 1 S (by omega) h c hc
 ·exact frameOf_lt (by decide) (contents_lt _) c hc
theorem asmL_lt {S:List (List Nat)} (h4:S.length=4) (h:okS4 S):∀c∈asmL S,c<256:=fun c hc=>by
 unfold asmL at hc
 rcases List.mem_append.1 hc with hc | hc
 ·exact withCrc_lt (bodyL_lt h4 h) c hc
 ·simp [tailL] at hc;omega
theorem secs_back (rest:List Nat):∀(S:List (List Nat)) (id:Nat) (pre:List Nat) (acc:List (List Nat × Nat)),okS4 S→∃l,secsF S.length id pre.length acc (pre++putS id S++rest) = .ok l (pre.length+(putS id S).length)∧l.map Prod.fst=acc.map Prod.fst++S∧l.map Prod.snd=acc.map Prod.snd++offs id pre.length S
 | [],id,pre,acc,_=>⟨acc,by simp [secsF,putS],by simp,by simp [offs]⟩
 | d::S,id,pre,acc,h=>by
  have e0:pre++putS id (d::S)++rest=pre++frameOf id d++(putS (id+1) S++rest):=by simp [putS]
  have e1:=outSection_back pre d (putS (id+1) S++rest) id (h d (by simp)).2
  obtain ⟨l,h1,h2,h3⟩:=secs_back rest S (id+1) (pre++frameOf id d) (acc++[(d,pre.length)]) (fun d hd=>h d (by simp [hd]))
  refine ⟨l,?_,by rw [h2];simp,by rw [h3];simp [offs]⟩
  rw [List.length_cons,secsF,e0,e1]
  simp only [thenO]
  rw [← List.append_assoc,← List.length_append,h1]
  simp [putS,Nat.add_assoc]
theorem contents_length {l:List Nat} (h:∀x∈l,x<18446744073709551616):(contents l).length≤10*l.length:=by
 induction l with
 | nil=>simp [contents]
 | cons x l ih=>
  have h1:=groups_ten (h x (by simp))
  have h2:=ih (fun y hy=>h y (by simp [hy]))
  rw [contents,List.flatMap_cons,List.length_append,List.length_cons,← contents]
  omega
theorem contents_small:∀(S:List (List Nat)) (id a:Nat),(a+(putS id S).length<18446744073709551616)→∀x∈offs id a S,x<18446744073709551616
 | [],_,_,_,x,hx=>by cases hx
 | d::S,id,a,h,x,hx=>by
  rw [putS,List.length_append] at h
  rw [offs] at hx
  rcases List.mem_cons.1 hx with rfl | hx
  ·omega
  ·exact contents_small S (id+1) _ (by omega) x hx
def atsOf (S:List (List Nat)):List Nat:=offs 1 5 S++[5+(putS 1 S).length]
theorem lay_back {S:List (List Nat)} (h4:S.length=4) (h:okS4 S) (hl:(asmL S).length<18446744073709551616):lay (asmL S)=(S,atsOf S,0):=by
 obtain ⟨F,hF⟩:∃F,frameOf 5 (contents (offs 1 5 S))=F:=⟨_,rfl⟩
 have hb:bodyL S=headL++putS 1 S++F:=by rw [bodyL,hF]
 obtain ⟨K,hK⟩:∃K,le4 (crcOf (bodyL S))=K:=⟨_,rfl⟩
 have hK4:K.length=4:=by rw [← hK];rfl
 have hw:withCrc (bodyL S)=headL++putS 1 S++F++K:=by rw [withCrc,hK,hb]
 have ha:asmL S=headL++putS 1 S++(F++K++tailL):=by rw [asmL,hw];simp
 have hlen:(asmL S).length=5+(putS 1 S).length+F.length+8:=by rw [ha];simp [headL,tailL,hK4];omega
 have hpl:(headL++putS 1 S).length=5+(putS 1 S).length:=by rw [List.length_append];rfl
 have hcs:(contents (offs 1 5 S)).length<18446744073709551616:=by
  have:=contents_length (contents_small S 1 5 (by omega))
  rw [offs_length,h4] at this
  omega
 obtain ⟨l,h1,h2,h3⟩:=secs_back (F++K++tailL) S 1 headL [] h
 rw [← ha,h4,show headL.length=5 from rfl] at h1
 simp only [List.map_nil,List.nil_append] at h2 h3
 rw [show headL.length=5 from rfl] at h3
 have hs:outSection (asmL S) (5+(putS 1 S).length) 5 = .ok (contents (offs 1 5 S)) (5+(putS 1 S).length+F.length):=by
  have e:=outSection_back (headL++putS 1 S) (contents (offs 1 5 S)) (K++tailL) 5 hcs
  rw [hF,hpl] at e
  rw [ha,show headL++putS 1 S++(F++K++tailL)=headL++putS 1 S++F++(K++tailL) by simp]
  exact e
 have hhd:headO (asmL S) = .ok () 5:=by
  have e:litE (asmL S) headL=0:=by rw [ha,List.append_assoc];exact litE_back _ _
  rw [headO,if_pos e]
 have htk:(asmL S).take (5+(putS 1 S).length+F.length+4)=withCrc (bodyL S):=by
  have e:(withCrc (bodyL S)).length=5+(putS 1 S).length+F.length+4:=by rw [hw];simp [headL,hK4];omega
  rw [asmL,← e,List.take_left]
 have hdr:(asmL S).drop (5+(putS 1 S).length+F.length+4)=tailL:=by
  have e:(withCrc (bodyL S)).length=5+(putS 1 S).length+F.length+4:=by rw [hw];simp [headL,hK4];omega
  rw [asmL,← e,List.drop_left]
 have hc:crcO (asmL S) (5+(putS 1 S).length+F.length) = .ok () (5+(putS 1 S).length+F.length+4):=by
  rw [crcO,if_neg (by omega),htk,if_pos (isCrc_withCrc _)]
 have ht:tailO (asmL S) (5+(putS 1 S).length+F.length+4) = .ok () (5+(putS 1 S).length+F.length+4+4):=by
  rw [tailO,hdr,if_pos (by decide)]
 have hlay:layF (asmL S) = .ok (S,atsOf S) (5+(putS 1 S).length+F.length+4+4):=by
  simp only [layF,hhd,thenO,h1,hs,tocO,h3,if_true,hc,ht,h2,atsOf]
 rw [lay,hlay]
 simp only
 rw [if_neg (by omega)]
end Go.Proofs.YtdcgbgecbeegmaaGreatDoor
end
section
namespace Go.Proofs.YtdcgbgecbeegmaaGreatDoor
open Go Go.RowKit
def labCells (l:List Lab):List Value:=l.flatMap fun r=>[.string r.1,.string r.2]
theorem elemLab:Elem Tryz.prog 48 108 2 32:=Elem.mk' (z:=.agg #[.string ⟨#[]⟩,.string ⟨#[]⟩]) Tryz.underlying48 (by kernel_rfl) rfl (by decide)
theorem labCells_one (l:List Lab):∀u∈labCells l,u.oneCell'=true:=by
 intro u hu
 simp only [labCells,List.mem_flatMap] at hu
 obtain ⟨r,_,hu⟩:=hu
 simp only [List.mem_cons,List.not_mem_nil,or_false] at hu
 rcases hu with rfl | rfl<;>rfl
theorem labCells_length (rs:List Lab):(labCells rs).length=rs.length*2:=by
 induction rs with
 | nil=>rfl
 | cons r rs ih=>rw [labCells,List.flatMap_cons,List.length_append,← labCells,ih,List.length_cons];simp;omega
theorem labCells_get (rs:List Lab) (j:Nat) (x c:ByteArray) (h:rs[j]? = some (x,c)):(labCells rs)[j*2]? = some (.string x)∧(labCells rs)[j*2+1]? = some (.string c):=by
 induction rs generalizing j with
 | nil=>simp at h
 | cons r rs ih=>
  have e:labCells (r::rs)=[.string r.1,.string r.2]++labCells rs:=by simp [labCells]
  cases j with
  | zero=>
   simp at h
   subst h
   rw [e]
   exact ⟨rfl,rfl⟩
  | succ j=>
   obtain ⟨h1,h2⟩:=ih j (by simpa using h)
   rw [e,show (j+1)*2=j*2+2 by omega]
   exact ⟨by simpa using h1,by simpa using h2⟩
def samCells (l:List (Int × Nat)):List Value:=l.flatMap fun r=>[.int .i64 r.1,.int .u64 (r.2:Int)]
theorem elemSam:Elem Tryz.prog 49 110 2 16:=Elem.mk' (z:=.agg #[.int .i64 0,.int .u64 0]) Tryz.underlying49 (by kernel_rfl) rfl (by decide)
theorem samCells_one (l:List (Int × Nat)):∀u∈samCells l,u.oneCell'=true:=by
 intro u hu
 simp only [samCells,List.mem_flatMap] at hu
 obtain ⟨r,_,hu⟩:=hu
 simp only [List.mem_cons,List.not_mem_nil,or_false] at hu
 rcases hu with rfl | rfl<;>rfl
theorem samCells_length (rs:List (Int × Nat)):(samCells rs).length=rs.length*2:=by
 induction rs with
 | nil=>rfl
 | cons r rs ih=>rw [samCells,List.flatMap_cons,List.length_append,← samCells,ih,List.length_cons];simp;omega
theorem samCells_append (a b:List (Int × Nat)):samCells (a++b)=samCells a++samCells b:=by simp [samCells,List.flatMap_append]
theorem samCells_get (rs:List (Int × Nat)) (j:Nat) (x:Int) (c:Nat) (h:rs[j]? = some (x,c)):(samCells rs)[j*2]? = some (.int .i64 x)∧(samCells rs)[j*2+1]? = some (.int .u64 (c:Int)):=by
 induction rs generalizing j with
 | nil=>simp at h
 | cons r rs ih=>
  have e:samCells (r::rs)=[.int .i64 r.1,.int .u64 (r.2:Int)]++samCells rs:=by simp [samCells]
  cases j with
  | zero=>
   simp at h
   subst h
   rw [e]
   exact ⟨rfl,rfl⟩
  | succ j=>
   obtain ⟨h1,h2⟩:=ih j (by simpa using h)
   rw [e,show (j+1)*2=j*2+2 by omega]
   exact ⟨by simpa using h1,by simpa using h2⟩
end Go.Proofs.YtdcgbgecbeegmaaGreatDoor
end
section
namespace Go.Proofs.YtdcgbgecbeegmaaGreatDoor
open Go Go.RowKit
section
variable {t:TypeId} {α:Type} {f1 f2:α→Value}
def two (f1 f2:α→Value) (d:List α):List Value:=d.flatMap fun x=>[f1 x,f2 x]
theorem two_length (d:List α):(two f1 f2 d).length=d.length*2:=by
 induction d with
 | nil=>rfl
 | cons r d ih=>rw [two,List.flatMap_cons,List.length_append,← two,ih,List.length_cons];simp;omega
theorem two_append (a b:List α):two f1 f2 (a++b)=two f1 f2 a++two f1 f2 b:=by simp [two,List.flatMap_append]
theorem two_get (d:List α) (j:Nat) (x:α) (h:d[j]? = some x):(two f1 f2 d)[j*2]? = some (f1 x)∧(two f1 f2 d)[j*2+1]? = some (f2 x):=by
 induction d generalizing j with
 | nil=>simp at h
 | cons r d ih=>
  have e:two f1 f2 (r::d)=f1 r::f2 r::two f1 f2 d:=rfl
  cases j with
  | zero=>
   simp at h
   subst h
   rw [e]
   exact ⟨rfl,rfl⟩
  | succ j=>
   obtain ⟨h1,h2⟩:=ih j (by simpa using h)
   rw [e,show (j+1)*2=j*2+2 by omega]
   exact ⟨by simpa using h1,by simpa using h2⟩
theorem two_set (d:List α) (i:Nat) (y:α):((two f1 f2 d).set (i*2) (f1 y)).set (i*2+1) (f2 y)=two f1 f2 (d.set i y):=by
 induction d generalizing i with
 | nil=>rfl
 | cons r d ih=>
  have e:two f1 f2 (r::d)=f1 r::f2 r::two f1 f2 d:=rfl
  cases i with
  | zero=>rw [e];rfl
  | succ i=>
   rw [e,show (i+1)*2=i*2+1+1 by omega]
   simp only [List.set_cons_succ]
   rw [ih i];rfl
structure Own2 (t:TypeId) (f1 f2:α→Value) (w wr:World) (d:List α) (v:Value):Prop where
 row:wr.ownsRow w.heap.size t 2 v d.length (two f1 f2 d)
 bel:Below w.heap.size w wr
theorem Own2.nil (w:World):Own2 t f1 f2 w w [] (.slice none 0 0):=⟨World.ownsRow_nil _ _ _ _,Below.refl _ _⟩
theorem Own2.below {w wr w1:World} {d:List α} {v:Value} (h:Own2 t f1 f2 w wr d v) (hb:Below wr.heap.size wr w1):Own2 t f1 f2 w w1 d v:=
 ⟨(Mods.of_below hb (fun _=>False)).owns h.row (fun _ _ e=>e),h.bel.trans (hb.mono h.bel.size)⟩
theorem Own2.shape {w wr:World} {d:List α} {v:Value} (h:Own2 t f1 f2 w wr d v):∃p c,v = .slice p d.length c:=(Rd.of_owns h.row).shape
theorem Own2.rd {w wr:World} {d:List α} {v:Value} (h:Own2 t f1 f2 w wr d v):Rd wr 2 v d.length (two f1 f2 d):=Rd.of_owns h.row
theorem Own2.base0 {w wr:World} {d:List α} {v:Value} (h:Own2 t f1 f2 w wr d v):wr.ownsRow 0 t 2 v d.length (two f1 f2 d):=owns_rebase h.row (fun _ _=>Nat.zero_le _)
theorem Own2.pushed {w wr w1:World} {d:List α} {v v1:Value} {x:α} (h:Own2 t f1 f2 w wr d v) (k:w1.ownsRow 0 t 2 v1 (d.length+1) (two f1 f2 d++[f1 x,f2 x])) (m:Mods (fun k=>v.ownBlock=some k) wr w1) (hf:Fresh wr.heap.size v v1):Own2 t f1 f2 w w1 (d++[x]) v1:=by
 refine ⟨?_,h.bel.trans (m.below h.bel.size (fun k hk e=>by have:=(h.row.lt k e).1;omega))⟩
 rw [List.length_append,two_append]
 refine owns_rebase k (fun k hk=>?_)
 rcases hf k hk with e | e
 ·exact (h.row.lt k e).1
 ·have:=h.bel.size;omega
theorem Own2.len {w wr:World} {d:List α} {p:Option Addr} {n c:Nat} (h:Own2 t f1 f2 w wr d (.slice p n c)):n=d.length:=by
 obtain ⟨p',c',h'⟩:=h.shape
 simp only [Value.slice.injEq] at h'
 exact h'.2.1
theorem Own2.stored {w wr:World} {d e:List α} {g n c i:Nat} {y:α} (h:Own2 t f1 f2 w wr d (.slice (some ⟨g,0,none⟩) n c)) (he:d.set i y=e):Own2 t f1 f2 w ((wr.setCell ⟨g,i*2,none⟩ (f1 y)).setCell ⟨g,i*2+1,none⟩ (f2 y)) e (.slice (some ⟨g,0,none⟩) n c):=by
 subst he
 obtain rfl:=h.len
 have hm1:Mods (fun k=>k=g) wr (wr.setCell ⟨g,i*2,none⟩ (f1 y)):=Mods.set _ _ _ _ (fun _=>rfl)
 have hm2:Mods (fun k=>k=g) (wr.setCell ⟨g,i*2,none⟩ (f1 y)) ((wr.setCell ⟨g,i*2,none⟩ (f1 y)).setCell ⟨g,i*2+1,none⟩ (f2 y)):=Mods.set _ _ _ _ (fun _=>rfl)
 have hg:=(h.row.lt g rfl).1
 refine ⟨?_,h.bel.trans ((hm1.trans hm2 (fun _ _ e=>e)).below h.bel.size (fun k hk e=>by omega))⟩
 rw [List.length_set,← two_set]
 exact ((h.row.stored (i*2) _).1.stored (i*2+1) _).1
theorem Own2.cell {w wr:World} {d:List α} {g n c i:Nat} {x:α} (h:Own2 t f1 f2 w wr d (.slice (some ⟨g,0,none⟩) n c)) (hi:d[i]? = some x) :
  (wr.cell? ⟨g,i*2,none⟩=some (f1 x)∧wr.cell? ⟨g,i*2+1,none⟩=some (f2 x))∧(wr.frozen? ⟨g,i*2,none⟩=false∧wr.frozen? ⟨g,i*2+1,none⟩=false):=by
 obtain rfl:=h.len
 obtain ⟨h1,h2⟩:=two_get (f1:=f1) (f2:=f2) d i x hi
 have hlt:=(List.getElem?_eq_some_iff.1 hi).1
 have hl:=two_length (f1:=f1) (f2:=f2) d
 exact ⟨⟨by rw [h.row.cellAt (i*2) (by omega)];exact h1,by rw [h.row.cellAt (i*2+1) (by omega)];exact h2⟩,h.row.frozenAt _,h.row.frozenAt _⟩
theorem rd2_cell {w:World} {b off c n:Nat} {d:List α} (h:Rd w 2 (.slice (some ⟨b,off,none⟩) n c) n (two f1 f2 d)) {i:Nat} {x:α} (hi:d[i]? = some x) :
  w.cell? ⟨b,off+i*2,none⟩=some (f1 x)∧w.cell? ⟨b,off+i*2+1,none⟩=some (f2 x):=by
 obtain ⟨h1,h2⟩:=two_get (f1:=f1) (f2:=f2) d i x hi
 obtain ⟨b2,o2,c2,e,_,_,hc⟩:=h.at (fun e=>by rw [e] at h1;cases h1)
 simp only [Value.slice.injEq,Option.some.injEq,Addr.mk.injEq] at e
 obtain ⟨⟨rfl,rfl,_⟩,_,rfl⟩:=e
 exact ⟨hc _ _ h1,hc _ _ h2⟩
theorem rd2_at {w:World} {p:Option Addr} {c n:Nat} {d:List α} (h:Rd w 2 (.slice p n c) n (two f1 f2 d)) {i:Nat} {x:α} (hi:d[i]? = some x):∃b off,p=some ⟨b,off,none⟩:=by
 obtain ⟨h1,_⟩:=two_get (f1:=f1) (f2:=f2) d i x hi
 obtain ⟨b2,o2,c2,e,_,_,_⟩:=h.at (fun e=>by rw [e] at h1;cases h1)
 simp only [Value.slice.injEq] at e
 exact ⟨b2,o2,e.1⟩
end
theorem Own2.extended {α:Type} {t:TypeId} {f1 f2:α→Value} {w wr w1:World} {d e:List α} {v v1:Value} (h:Own2 t f1 f2 w wr d v) (k:w1.ownsRow 0 t 2 v1 (d.length+e.length) (two f1 f2 d++two f1 f2 e)) (m:Mods (fun k=>v.ownBlock=some k) wr w1) (hf:Fresh wr.heap.size v v1):Own2 t f1 f2 w w1 (d++e) v1:=by
 refine ⟨?_,h.bel.trans (m.below h.bel.size (fun k hk e=>by have:=(h.row.lt k e).1;omega))⟩
 rw [List.length_append,two_append]
 refine owns_rebase k (fun k hk=>?_)
 rcases hf k hk with e | e
 ·exact (h.row.lt k e).1
 ·have:=h.bel.size;omega
end Go.Proofs.YtdcgbgecbeegmaaGreatDoor
end
section
namespace Go.Proofs.YtdcgbgecbeegmaaGreatDoor
open Go Go.RowKit
theorem samCells_two (l:List Sam):samCells l=two (fun x:Sam=>Value.int .i64 x.1) (fun x:Sam=>Value.int .u64 (x.2:Int)) l:=rfl
def SerAt (w:World) (h:Value × Value) (s:Ser):Prop:=Rd w 2 h.1 s.1.length (labCells s.1)∧Rd w 2 h.2 s.2.length (samCells s.2)
theorem SerAt.below {w w':World} {h:Value × Value} {s:Ser} (k:SerAt w h s) (hb:Below w.heap.size w w'):SerAt w' h s:=⟨k.1.below hb,k.2.below hb⟩
structure RdB (w:World) (v:Value) (b:List Ser):Prop where
 ex:∃hs:List (Value × Value),Rd w 2 v hs.length (two Prod.fst Prod.snd hs)∧hs.length=b.length∧∀(i:Nat) (h:Value × Value) (s:Ser),hs[i]? = some h→b[i]? = some s→SerAt w h s
theorem RdB.below {w w':World} {v:Value} {b:List Ser} (k:RdB w v b) (hb:Below w.heap.size w w'):RdB w' v b:=by
 obtain ⟨hs,h1,h2,h3⟩:=k.ex
 exact ⟨hs,h1.below hb,h2,fun i h s hi hj=>(h3 i h s hi hj).below hb⟩
theorem RdB.shape {w:World} {v:Value} {b:List Ser} (k:RdB w v b):∃p c,v = .slice p b.length c:=by
 obtain ⟨hs,h1,h2,_⟩:=k.ex
 rw [← h2]
 exact h1.shape
theorem RdB.le {w:World} {v:Value} {b:List Ser} (k:RdB w v b):b.length≤maxLen:=by
 obtain ⟨hs,h1,h2,_⟩:=k.ex
 rw [← h2]
 exact h1.le
theorem RdB.at {w:World} {p:Option Addr} {n c:Nat} {b:List Ser} (k:RdB w (.slice p n c) b) {i:Nat} {s:Ser} (hi:b[i]? = some s) :
  ∃blk off h1 h2,p=some ⟨blk,off,none⟩∧w.cell? ⟨blk,off+i*2,none⟩=some h1∧w.cell? ⟨blk,off+i*2+1,none⟩=some h2∧SerAt w (h1,h2) s:=by
 obtain ⟨hs,h1,h2,h3⟩:=k.ex
 have hlt:=(List.getElem?_eq_some_iff.1 hi).1
 obtain ⟨h,hh⟩:∃h,hs[i]? = some h:=⟨_,List.getElem?_eq_getElem (by omega)⟩
 obtain ⟨p',c',e⟩:=h1.shape
 simp only [Value.slice.injEq] at e
 obtain ⟨rfl,rfl,rfl⟩:=e
 obtain ⟨blk,off,rfl⟩:=rd2_at h1 hh
 obtain ⟨c1,c2⟩:=rd2_cell h1 hh
 exact ⟨blk,off,h.1,h.2,rfl,c1,c2,h3 i h s hh hi⟩
theorem RdB.always {w:World} {p:Option Addr} {n c:Nat} {b:List Ser} (k:RdB w (.slice p n c) b) {i:Nat} {s:Ser} (hi:b[i]? = some s) :
  ∃blk off h1 h2,p=some ⟨blk,off,none⟩∧(∃p1 c1,h1 = .slice p1 s.1.length c1)∧(∃p2 c2,h2 = .slice p2 s.2.length c2)∧
   ∀w',Below w.heap.size w w'→w'.cell? ⟨blk,off+i*2,none⟩=some h1∧w'.cell? ⟨blk,off+i*2+1,none⟩=some h2∧SerAt w' (h1,h2) s:=by
 obtain ⟨blk,off,h1,h2,e,c1,c2,hs⟩:=k.at hi
 exact ⟨blk,off,h1,h2,e,hs.1.shape,hs.2.shape,fun w' hb=>⟨(hb.cell (World.block_lt_of_cell? w _ c1)).trans c1,(hb.cell (World.block_lt_of_cell? w _ c2)).trans c2,hs.below hb⟩⟩
def SerSized (s:Ser):Prop:=(∀x∈s.1,x.1.size≤9223372036854775807∧x.2.size≤9223372036854775807)∧∀x∈s.2,sampleOk x
def Sized (b:List Ser):Prop:=∀s∈b,SerSized s
structure Small (b:List Ser):Prop where
 len:b.length≤300
 sam:samplesB b≤3000
 lab:∀s∈b,s.1.length≤200
theorem Small.mem {b:List Ser} (h:Small b) {s:Ser} (hs:s∈b):s.2.length≤3000:=Nat.le_trans (samplesB_mem hs) h.sam
structure Mid (b:List Ser):Prop where
 len:b.length≤20000
 sam:samplesB b≤1000000
 flat:(b.map Prod.fst).flatten.length≤60000
theorem flat_mem17 {α:Type} {l:List (List α)} {x:List α} (h:x∈l):x.length≤l.flatten.length:=by
 induction l with
 | nil=>cases h
 | cons y l ih=>
  rw [List.flatten_cons,List.length_append]
  rcases List.mem_cons.1 h with rfl | h
  ·omega
  ·have:=ih h;omega
theorem Mid.lab {b:List Ser} (h:Mid b):∀s∈b,s.1.length≤60000:=fun s hs=>Nat.le_trans (flat_mem17 (List.mem_map.2 ⟨s,hs,rfl⟩)) h.flat
theorem Mid.mem {b:List Ser} (h:Mid b) {s:Ser} (hs:s∈b):s.2.length≤1000000:=Nat.le_trans (samplesB_mem hs) h.sam
theorem Small.mid {b:List Ser} (h:Small b):Mid b:=by
 have key:∀(b:List Ser),(∀s∈b,s.1.length≤200)→(b.map Prod.fst).flatten.length≤b.length*200:=by
  intro b
  induction b with
  | nil=>intro _;simp
  | cons s b ih=>
   intro h
   rw [List.map_cons,List.flatten_cons,List.length_append,List.length_cons]
   have:=h s (by simp)
   have:=ih (fun t ht=>h t (by simp [ht]))
   omega
 have h1:=key b h.lab
 have h2:=h.len
 exact ⟨by omega,by have:=h.sam;omega,by omega⟩
end Go.Proofs.YtdcgbgecbeegmaaGreatDoor
end
section
set_option maxRecDepth 20000
namespace Go.Proofs.YtdcgbgecbeegmaaGreatDoor
open Go Go.RowKit
theorem drewN_two (w:World) (m n:Nat):(w.drewN m).drewN n=w.drewN (m+n):=World.drewN_drewN ..
theorem samplesB_step {b:List Ser} {i:Nat} {s:Ser} (h:b[i]? = some s):samplesB (b.take (i+1))=samplesB (b.take i)+s.2.length:=by
 rw [List.take_add_one,h,samplesB_append];simp [samplesB]
theorem ref_samples12 (bv:Value) (b:List Ser) (w:World) (h:RdB w bv b) (hn:b.length≤1000000) (hs:samplesB b≤1000000000) :
  Calls Tryz.prog 68 #[bv] w fun e w'=>e = .returned (.int .i64 (samplesB b:Int))∧w'=w:=by
 have H:=Lib.hid h;have HS:=Lib.hid hs
 obtain ⟨p,c,hv⟩:=h.shape
 subst hv
 have hmx:(b.length:Int)≤1000000:=by omega
 clear h hs hn
 go_enter Tryz.func68,Tryz.ntmps68
 go_wp2_with fail
 go_loop [3,4] (fun nv iv=>∃(i N:Nat),i≤b.length∧iv = .int .i64 (i:Int)∧nv = .int .i64 (N:Int)∧Hid (samplesB (b.take i)=N)) (fun _ iv=>b.length-(intOf iv).toNat)
 case atStart=>exact ⟨0,0,Nat.zero_le _,rfl,rfl,by show _=_;simp [samplesB]⟩
 case round=>
  obtain ⟨i,N,hi,rfl,rfl,HN⟩:=hrel
  have him:(i:Int)≤1000000:=by omega
  have hNm:(N:Int)≤1000000000:=by have:=HN.out;have:=samplesB_take_le b i;have:=HS.out;omega
  by_cases hlt:i<b.length
  ·have hlt':(i:Int)<(b.length:Int):=by omega
   obtain ⟨s,hx⟩:∃s,b[i]? = some s:=⟨_,List.getElem?_eq_getElem hlt⟩
   obtain ⟨blk,off,h1,h2,e,c1,c2,hsr⟩:=H.out.at hx
   subst e
   obtain ⟨p2,k2,e⟩:=hsr.2.shape
   simp only at e
   subst e
   have HN2:Hid (samplesB (b.take (i+1))=N+s.2.length):=by show _=_;rw [samplesB_step hx,HN.out]
   have hsum:(N:Int)+(s.2.length:Int)≤1000000000:=by have:=HN2.out;have:=samplesB_take_le b (i+1);have:=HS.out;omega
   clear hx hsr c1
   generalize s.2.length=m at *
   go_wp2_with fail
   go_round
   case rel=>exact ⟨i+1,N+m,by omega,by go_num,by go_num,HN2.out⟩
   case measure=>simp [intOf];omega
  ·have hlt':¬(i:Int)<(b.length:Int):=by omega
   have HE:Hid (samplesB b=N):=by have:=HN.out;rw [List.take_of_length_le (by omega)] at this;exact this
   go_wp2_with fail
   go_ret
   exact ⟨by rw [HE.out];rfl,rfl⟩
theorem ref_large12 (bv:Value) (b:List Ser) (w:World) (h:RdB w bv b) (hs:Mid b) :
  Calls Tryz.prog 29 #[bv] w fun e w'=>e = .returned (.bool false)∧w'=w:=by
 have HS:=Lib.hid (ref_samples12 bv b w h (by have:=hs.len;omega) (by have:=hs.sam;omega))
 obtain ⟨p,c,hv⟩:=h.shape
 subst hv
 have h1:¬(1048576:Int)<(b.length:Int):=by have:=hs.len;omega
 have h2:¬(16777216:Int)<(samplesB b:Int):=by have:=hs.sam;omega
 clear h hs
 generalize samplesB b=N at *
 go_enter Tryz.func29,Tryz.ntmps29
 go_wp2_with fail
 refine HS.out.mono ?_
 rintro e w1 ⟨rfl,rfl⟩
 have hd:decide ((16777216:Int)<(N:Int))=false:=decide_eq_false (by omega)
 clear h2
 go_wp2_with fail
 go_ret
 exact ⟨by simp,rfl⟩
theorem times_step {l:List Sam} {i:Nat} {x y:Sam} (hx:l[i]? = some x) (hy:l[i+1]? = some y) (h:timesL l=timesFrom x.1 (l.drop (i+1))) :
  timesL l=if y.1=x.1 then 20 else if y.1<x.1 then 16 else timesFrom y.1 (l.drop (i+2)):=by
 have hd:l.drop (i+1)=y::l.drop (i+2):=by
  have:=List.drop_eq_getElem_cons (List.getElem?_eq_some_iff.1 hy).1
  rw [(List.getElem?_eq_some_iff.1 hy).2] at this
  exact this
 rw [h,hd,timesFrom]
set_option maxHeartbeats 1000000 in
theorem ref_times12 (lv:Value) (l:List Sam) (w:World) (h:Rd w 2 lv l.length (samCells l)) (hn:l.length≤1000000) :
  Calls Tryz.prog 31 #[lv] w fun e w'=>e = .returned (.int .i64 (timesL l:Int))∧∃q,w'=w.drewN q:=by
 have H:=Lib.hid h
 obtain ⟨p,c,hv⟩:=h.shape
 subst hv
 have hmx:(l.length:Int)≤1000000:=by omega
 clear h hn
 go_enter Tryz.func31,Tryz.ntmps31
 go_wp2_with fail
 go_loopw [3] (fun iv wr=>∃(i k q:Nat),i=k+1∧(i≤l.length∨k=0)∧iv = .int .i64 (i:Int)∧Hid (l=[]∨∃x,l[k]? = some x∧timesL l=timesFrom x.1 (l.drop i))∧wr=w.drewN q) (fun iv _=>l.length+1-(intOf iv).toNat)
 case atStart=>
  refine ⟨1,0,0,rfl,Or.inr rfl,rfl,?_,rfl⟩
  show _∨_
  cases l with
  | nil=>exact Or.inl rfl
  | cons x l=>exact Or.inr ⟨x,rfl,rfl⟩
 case round=>
  obtain ⟨i,k,q,hik,hi,rfl,HP,rfl⟩:=hrel
  by_cases hlt:i<l.length
  ·have hlt':(i:Int)<(l.length:Int):=by omega
   have hi1:(i:Int)-1=(k:Int):=by omega
   have hkl:(k:Int)<(l.length:Int):=by omega
   obtain ⟨x,hx,hT⟩:∃x,l[k]? = some x∧timesL l=timesFrom x.1 (l.drop i):=by
    rcases HP.out with e | e
    ·rw [e] at hlt;simp at hlt
    ·exact e
   obtain ⟨y,hy⟩:∃y,l[i]? = some y:=⟨_,List.getElem?_eq_getElem hlt⟩
   have HSt:Hid (timesL l=if y.1=x.1 then 20 else if y.1<x.1 then 16 else timesFrom y.1 (l.drop (i+1))):=by
    subst hik
    exact times_step hx hy hT
   obtain ⟨b0,o0,e⟩:=rd2_at (samCells_two l ▸ H.out) hx
   subst e
   have cx:=(rd2_cell (samCells_two l ▸ H.out) hx).1
   have cy:=(rd2_cell (samCells_two l ▸ H.out) hy).1
   have cx':(w.drewN q).cell? ⟨b0,o0+k*2,none⟩=some (.int .i64 x.1):=cx
   have cy':(w.drewN q).cell? ⟨b0,o0+i*2,none⟩=some (.int .i64 y.1):=cy
   have HY:=Lib.hid hy
   have HIK:=Lib.hid hik
   clear hx hT hy HP hik hi cx cy
   obtain ⟨x1,x2⟩:=x
   obtain ⟨y1,y2⟩:=y
   simp only at cx' cy' HSt
   obtain ⟨wq,hwq⟩:∃wq,w.drewN q=wq:=⟨_,rfl⟩
   have HWq:=Lib.hid hwq
   rw [hwq] at cx' cy' ⊢
   clear hwq
   by_cases e1:y1=x1
   ·have HR:Hid (timesL l=20):=by have:=HSt.out;rw [if_pos e1] at this;exact this
    subst e1
    go_wp2_with fail
    go_quiet (fail)
    have HW2:Hid (∃q,wq.drewN nq=w.drewN q):=⟨q+nq,by rw [← HWq.out,drewN_two]⟩
    clear cx' cy'
    generalize wq.drewN nq=w2 at *
    go_wp2_with fail
    go_ret
    exact ⟨by rw [HR.out];rfl,HW2.out⟩
   ·have he1:(y1 == x1)=false:=by rw [beq_eq_false_iff_ne];exact e1
    have HSt2:Hid (timesL l=if y1<x1 then 16 else timesFrom y1 (l.drop (i+1))):=by have:=HSt.out;rw [if_neg e1] at this;exact this
    clear HSt
    go_wp2_with fail
    go_quiet (fail)
    have HW2:Hid (∃q,wq.drewN nq=w.drewN q):=⟨q+nq,by rw [← HWq.out,drewN_two]⟩
    have cx2:(wq.drewN nq).cell? ⟨b0,o0+k*2,none⟩=some (.int .i64 x1):=cx'
    have cy2:(wq.drewN nq).cell? ⟨b0,o0+i*2,none⟩=some (.int .i64 y1):=cy'
    clear cx' cy' e1 he1 HWq
    generalize wq.drewN nq=w2 at *
    by_cases e2:y1<x1
    ·have HR:Hid (timesL l=16):=by have:=HSt2.out;rw [if_pos e2] at this;exact this
     clear HSt2
     go_wp2_with fail
     go_quiet (fail)
     have HW3:Hid (∃q,w2.drewN nq=w.drewN q):=by obtain ⟨q,hq⟩:=HW2.out;exact ⟨q+nq,by rw [hq,drewN_two]⟩
     clear cx2 cy2 HW2
     generalize w2.drewN nq=w3 at *
     go_wp2_with fail
     go_ret
     exact ⟨by rw [HR.out];rfl,HW3.out⟩
    ·have HR:Hid (timesL l=timesFrom y1 (l.drop (i+1))):=by have:=HSt2.out;rw [if_neg e2] at this;exact this
     clear HSt2
     go_wp2_with fail
     go_quiet (fail)
     obtain ⟨q3,hq3⟩:∃q,w2.drewN nq=w.drewN q:=by obtain ⟨q,hq⟩:=HW2.out;exact ⟨q+nq,by rw [hq,drewN_two]⟩
     have HQ3:=Lib.hid hq3
     clear cx2 cy2 HW2 hq3
     generalize w2.drewN nq=w3 at *
     go_wp2_with fail
     go_roundw
     case rel=>exact ⟨i+1,i,q3,rfl,Or.inl (by omega),by go_num,Or.inr ⟨_,HY.out,HR.out⟩,HQ3.out⟩
     case measure=>simp [intOf];omega
  ·have hlt':¬(i:Int)<(l.length:Int):=by omega
   have HE:Hid (timesL l=0):=by
    rcases HP.out with e | ⟨x,_,e⟩
    ·show _=_;rw [e];rfl
    ·show _=_;rw [e,List.drop_of_length_le (by omega)];rfl
   clear hik hi
   obtain ⟨wq,hwq⟩:∃wq,w.drewN q=wq:=⟨_,rfl⟩
   have HWq:=Lib.hid hwq
   rw [hwq]
   clear hwq
   go_wp2_with fail
   go_ret
   exact ⟨by rw [HE.out];rfl,q,HWq.out.symm⟩
abbrev OwnL:=Own2 108 (fun x:Lab=>Value.string x.1) (fun x:Lab=>Value.string x.2)
theorem empty_size (n:ByteArray):n.toList.isEmpty=decide (n.size=0):=by
 rw [ByteArray.toList_eq]
 cases n with
 | mk d=>cases d with
  | mk l=>cases l<;>simp [ByteArray.size]
end Go.Proofs.YtdcgbgecbeegmaaGreatDoor
end
section
namespace Go.Proofs.YtdcgbgecbeegmaaGreatDoor
open Go Go.RowKit
theorem strs_one (l:List ByteArray):∀u∈strs l,u.oneCell'=true:=by
 intro u hu
 simp only [strs,List.mem_map] at hu
 obtain ⟨n,_,rfl⟩:=hu
 rfl
theorem Tryz.infoStr:(Tryz.prog.info? 9).map (fun i=>(i.zero,i.size,i.bytes))=some (some (.string ⟨#[]⟩),1,16):=by kernel_rfl
theorem Tryz.elemStr:Elem Tryz.prog 44 9 1 16:=Elem.mk' Tryz.underlying44 Tryz.infoStr rfl (by decide)
end Go.Proofs.YtdcgbgecbeegmaaGreatDoor
end
section
namespace Go.Proofs.YtdcgbgecbeegmaaGreatDoor
open Go Go.RowKit Go.ChangeShapes
def Flat (P:Program) (e:TypeId) (sz:Nat) {α:Type} (f:α→List Value) (ok:α→Prop):Prop:=
 P.cellsOf e=sz∧∀(H:Type) (enc:TypeId × Value→H) (w:World) (base:Nat) (spare:Nat→Bool) (held:Bool) (fuel:Nat) (cs:List Value) (x:DataW H × List MemPlace),
  DataW.trod enc P w base spare held fuel e cs=some x→∃a,ok a∧cs=f a
theorem Flat.map {P:Program} {e:TypeId} {sz:Nat} {α β:Type} {f:α→List Value} {ok:α→Prop} (h:Flat P e sz f ok) {g:β→List Value} {ok':β→Prop} (hm:∀a,ok a→∃b,ok' b∧f a=g b):Flat P e sz g ok':=
 ⟨h.1,fun H enc w base spare held fuel cs x hx=>by
  obtain ⟨a,ha,rfl⟩:=h.2 H enc w base spare held fuel cs x hx
  exact hm a ha⟩
theorem flat_int {P:Program} {e:TypeId} {k:IntKind} (he:P.underlying e=some (.int k)) (hc:P.cellsOf e=1):Flat P e 1 (fun z:Int=>[Value.int k z]) (fun z=>(Lit.int k z).wf=true):=
 ⟨hc,fun H enc w base spare held fuel cs x hx=>by
  obtain ⟨n,rfl,_,hw⟩:=DataW.trod_int he hx
  exact ⟨n,hw,rfl⟩⟩
theorem flat_string {P:Program} {e:TypeId} (he:P.underlying e=some .string) (hc:P.cellsOf e=1):Flat P e 1 (fun s:ByteArray=>[Value.string s]) (fun s=>s.size≤maxLen):=
 ⟨hc,fun H enc w base spare held fuel cs x hx=>by
  obtain ⟨s,rfl,_,hs⟩:=DataW.trod_string he hx
  exact ⟨s,hs,rfl⟩⟩
theorem flat_struct2 {P:Program} {e:TypeId} {f0 f1:Field} {s0 s1:Nat} {α β:Type} {g0:α→List Value} {g1:β→List Value} {k0:α→Prop} {k1:β→Prop}
  (he:P.underlying e=some (.struct #[f0,f1])) (hc:P.cellsOf e=s0+s1) (o0:f0.offset=0) (o1:f1.offset=s0) (h0:Flat P f0.type s0 g0 k0) (h1:Flat P f1.type s1 g1 k1) :
  Flat P e (s0+s1) (fun a:α × β=>g0 a.1++g1 a.2) (fun a=>k0 a.1∧k1 a.2):=
 ⟨hc,fun H enc w base spare held fuel cs x hx=>by
  obtain ⟨y0,y1,n,_,hl,t0,t1⟩:=trod_struct2 he hx
  rw [o0,h0.1] at t0
  rw [o1,h1.1] at t1
  obtain ⟨a,ha,ea⟩:=h0.2 H enc w base spare held n _ _ t0
  obtain ⟨b,hb,eb⟩:=h1.2 H enc w base spare held n _ _ t1
  refine ⟨(a,b),⟨ha,hb⟩,?_⟩
  show cs=g0 a++g1 b
  rw [← ea,← eb]
  simp only [List.drop_zero]
  rw [List.take_of_length_le (l:=cs.drop s0) (by rw [List.length_drop,hl,hc];omega),List.take_append_drop]⟩
theorem cells_get {w:World} {base:Nat} {a:Addr} {n:Nat} {cs:List Value} (h:w.cells? base a n=some cs):cs.length=n∧∀(j:Nat) (u:Value),cs[j]? = some u→w.cell? (a.add j)=some u:=by
 unfold World.cells? at h
 split at h
 ·have key:∀(l:List Nat) (cs:List Value),l.mapM (fun i=>w.cell? (a.add i))=some cs→cs.length=l.length∧∀(j:Nat) (u:Value),cs[j]? = some u→∃i,l[j]? = some i∧w.cell? (a.add i)=some u:=by
   intro l
   induction l with
   | nil=>intro cs h;simp at h;subst h;simp
   | cons i l ih=>
    intro cs h
    rw [List.mapM_cons] at h
    simp only [Option.bind_eq_bind,Option.bind_eq_some_iff,Option.pure_def,Option.some.injEq] at h
    obtain ⟨x,hx,ys,hys,rfl⟩:=h
    obtain ⟨h1,h2⟩:=ih ys hys
    refine ⟨by simp [h1],fun j u hu=>?_⟩
    cases j with
    | zero=>simp at hu;subst hu;exact ⟨i,rfl,hx⟩
    | succ j=>simp at hu;obtain ⟨i',hi',hc⟩:=h2 j u hu;exact ⟨i',by simpa using hi',hc⟩
  obtain ⟨h1,h2⟩:=key _ _ h
  refine ⟨by simpa using h1,fun j u hu=>?_⟩
  obtain ⟨i,hi,hc⟩:=h2 j u hu
  rw [List.getElem?_range (by rcases Nat.lt_or_ge j n with hj | hj;exact hj;simp [List.getElem?_eq_none (show cs.length≤j by rw [h1];simpa using hj)] at hu)] at hi
  simp at hi
  subst hi
  exact hc
 ·cases h
theorem flatMap_get {α β:Type} {sz:Nat} (f:α→List β) (l:List α) (hf:∀a∈l,(f a).length=sz) (i k:Nat) (hk:k<sz) (u:β) (h:(l.flatMap f)[i*sz+k]? = some u):∃a,l[i]? = some a∧(f a)[k]? = some u:=by
 induction l generalizing i with
 | nil=>simp at h
 | cons a l ih=>
  have ha:=hf a (by simp)
  rw [List.flatMap_cons] at h
  cases i with
  | zero=>
   rw [Nat.zero_mul,Nat.zero_add,List.getElem?_append_left (by omega)] at h
   exact ⟨a,rfl,h⟩
  | succ i=>
   rw [List.getElem?_append_right (by rw [ha,Nat.add_mul];omega),ha,show (i+1)*sz+k-sz=i*sz+k by rw [Nat.add_mul];omega] at h
   obtain ⟨b,hb,hu⟩:=ih (fun a ha=>hf a (by simp [ha])) i h
   exact ⟨b,by simpa using hb,hu⟩
theorem flatMap_len {α β:Type} {sz:Nat} (f:α→List β) (l:List α) (hf:∀a∈l,(f a).length=sz):(l.flatMap f).length=l.length*sz:=by
 induction l with
 | nil=>simp
 | cons a l ih=>rw [List.flatMap_cons,List.length_append,hf a (by simp),ih (fun a ha=>hf a (by simp [ha])),List.length_cons,Nat.add_mul];omega
theorem flat_u64 {P:Program} {e:TypeId} (he:P.underlying e=some (.int .u64)) (hc:P.cellsOf e=1):Flat P e 1 (fun n:Nat=>[Value.int .u64 (n:Int)]) (fun n=>n<18446744073709551616):=
 (flat_int he hc).map fun z hz=>by
  have:=bounds_u64 hz
  exact ⟨z.toNat,by omega,by rw [Int.toNat_of_nonneg (by omega)]⟩
theorem flat_i64 {P:Program} {e:TypeId} (he:P.underlying e=some (.int .i64)) (hc:P.cellsOf e=1):Flat P e 1 (fun z:Int=>[Value.int .i64 z]) (fun z=>-9223372036854775808≤z∧z<9223372036854775808):=
 (flat_int he hc).map fun z hz=>by
  have:=bounds_i64 hz
  exact ⟨z,by omega,rfl⟩
end Go.Proofs.YtdcgbgecbeegmaaGreatDoor
end
section
namespace Go.Proofs.YtdcgbgecbeegmaaGreatDoor
open Go Go.RowKit
structure Own1 (t:TypeId) {α:Type} (f:α→Value) (w wr:World) (d:List α) (v:Value):Prop where
 row:wr.ownsRow w.heap.size t 1 v d.length (d.map f)
 bel:Below w.heap.size w wr
variable {t:TypeId} {α:Type} {f:α→Value}
theorem Own1.nil (w:World):Own1 t f w w [] (.slice none 0 0):=⟨World.ownsRow_nil _ _ _ _,Below.refl _ _⟩
theorem Own1.below {w wr w1:World} {d:List α} {v:Value} (h:Own1 t f w wr d v) (hb:Below wr.heap.size wr w1):Own1 t f w w1 d v:=
 ⟨(Mods.of_below hb (fun _=>False)).owns h.row (fun _ _ e=>e),h.bel.trans (hb.mono h.bel.size)⟩
theorem Own1.pushed {w wr w1:World} {d:List α} {v v1:Value} {x:α} (h:Own1 t f w wr d v) (k:w1.ownsRow 0 t 1 v1 (d.length+1) (d.map f++[f x])) (m:Mods (fun k=>v.ownBlock=some k) wr w1) (hf:Fresh wr.heap.size v v1):Own1 t f w w1 (d++[x]) v1:=by
 refine ⟨?_,h.bel.trans (m.below h.bel.size (fun k hk e=>by have:=(h.row.lt k e).1;omega))⟩
 rw [List.length_append,List.map_append]
 refine owns_rebase k (fun k hk=>?_)
 rcases hf k hk with e | e
 ·exact (h.row.lt k e).1
 ·have:=h.bel.size;omega
theorem Own1.extended {w wr w1:World} {d e:List α} {v v1:Value} (h:Own1 t f w wr d v) (k:w1.ownsRow 0 t 1 v1 (d.length+e.length) (d.map f++e.map f)) (m:Mods (fun k=>v.ownBlock=some k) wr w1) (hf:Fresh wr.heap.size v v1):Own1 t f w w1 (d++e) v1:=by
 refine ⟨?_,h.bel.trans (m.below h.bel.size (fun k hk e=>by have:=(h.row.lt k e).1;omega))⟩
 rw [List.length_append,List.map_append]
 refine owns_rebase k (fun k hk=>?_)
 rcases hf k hk with e | e
 ·exact (h.row.lt k e).1
 ·have:=h.bel.size;omega
theorem Own1.shape {w wr:World} {d:List α} {v:Value} (h:Own1 t f w wr d v):∃p c,v = .slice p d.length c:=(Rd.of_owns h.row).shape
theorem Own1.rd {w wr:World} {d:List α} {v:Value} (h:Own1 t f w wr d v):Rd wr 1 v d.length (d.map f):=Rd.of_owns h.row
theorem Own1.base0 {w wr:World} {d:List α} {v:Value} (h:Own1 t f w wr d v):wr.ownsRow 0 t 1 v d.length (d.map f):=owns_rebase h.row (fun _ _=>Nat.zero_le _)
theorem rd1_cell {w:World} {b off c n:Nat} {d:List α} (h:Rd w 1 (.slice (some ⟨b,off,none⟩) n c) n (d.map f)) {i:Nat} (hi:i<d.length):w.cell? ⟨b,off+i,none⟩=some (f d[i]):=by
 obtain ⟨b2,o2,c2,e,_,_,hc⟩:=h.at (fun e=>by have:=congrArg List.length e;simp at this;subst this;simp at hi)
 simp only [Value.slice.injEq,Option.some.injEq,Addr.mk.injEq] at e
 obtain ⟨⟨rfl,rfl,_⟩,_,rfl⟩:=e
 exact hc i _ (by simp [hi])
end Go.Proofs.YtdcgbgecbeegmaaGreatDoor
end
section
namespace Go.Proofs.YtdcgbgecbeegmaaGreatDoor
open Go Go.RowKit
def orderB (md:Region.Mode) (ops:Array Oper) (calls:List Nat):List Nat→Array Bool→Bool
 | [],listed=>(Region.ready md ops listed).isEmpty
 | i::rest,listed=>(if calls.contains i then Region.ready md ops listed == [i] else Region.free md ops listed i&&(Region.ready md ops listed).contains i)&&orderB md ops calls rest (listed.setIfInBounds i true)
def taken (l:List Oper) (L:List Nat):List (Nat × Oper):=L.map fun i=>(i,(l[i]?).getD { dst:=none,op:=.move (.tmp 0),type:=0,pos:= "",after:=#[],guard:=none })
theorem put_defers (a:Act) (d:Option Tmp) (v:Value):(a.put d v).defers=a.defers:=by cases d<;>rfl
section
variable {P:Program} {l:List Oper} {Q:Exit→Act→World→Prop} {md:Region.Mode} {calls:List Nat}
variable {ops:Array Oper}
end
end Go.Proofs.YtdcgbgecbeegmaaGreatDoor
end
section
namespace Go.Proofs.YtdcgbgecbeegmaaGreatDoor
open Go Go.RowKit
theorem Addr.add_add (ad:Addr) (i j:Nat):(ad.add i).add j=ad.add (i+j):=by
 unfold Addr.add
 by_cases hi:i=0
 ·simp [hi]
 ·by_cases hj:j=0
  ·simp [hi,hj]
  ·simp [hi,hj,Nat.add_assoc]
theorem Rd.from {w:World} {sz:Nat} {p:Option Addr} {n c:Nat} {vs:List Value} (h:Rd w sz (.slice p n c) n vs) (i:Nat) (hi:i≤n) :
  Rd w sz (sliced p i n c sz) (n-i) (vs.drop (i*sz)):=by
 obtain ⟨p',c',e,h1,h2,h3,h4,h5⟩:=h
 cases e
 refine ⟨_,_,rfl,by rw [List.length_drop,h1,Nat.sub_mul],by omega,by omega,?_,?_⟩
 ·intro hp
  split at hp
  ·obtain ⟨rfl,rfl⟩:=h4 hp;simp
  ·cases p with
   | none=>obtain ⟨rfl,rfl⟩:=h4 rfl;simp
   | some a=>simp at hp
 ·intro ad had j u hu
  rw [List.getElem?_drop] at hu
  split at had
  ·next hc=>
   have hlt:=(List.getElem?_eq_some_iff.1 hu).1
   rw [h1] at hlt
   have:n=i:=by omega
   subst this
   omega
  ·cases p with
   | none=>simp at had
   | some a=>
    simp only [Option.map_some,Option.some.injEq] at had
    subst had
    rw [Addr.add_add]
    exact h5 a rfl _ u hu
theorem Rd.upto {w:World} {sz:Nat} {p:Option Addr} {n c:Nat} {vs:List Value} (h:Rd w sz (.slice p n c) n vs) (i:Nat) (hi:i≤n) :
  Rd w sz (.slice p i c) i (vs.take (i*sz)):=by
 obtain ⟨p',c',e,h1,h2,h3,h4,h5⟩:=h
 cases e
 refine ⟨_,_,rfl,?_,by omega,by omega,fun e=>?_,?_⟩
 ·rw [List.length_take,h1]
  exact Nat.min_eq_left (Nat.mul_le_mul_right _ hi)
 ·obtain ⟨rfl,rfl⟩:=h4 e;exact ⟨by omega,rfl⟩
 ·intro ad had j u hu
  refine h5 ad had j u ?_
  rw [List.getElem?_take] at hu
  split at hu
  ·exact hu
  ·cases hu
theorem Rd.fromTo {w:World} {sz:Nat} {p:Option Addr} {n c:Nat} {vs:List Value} (h:Rd w sz (.slice p n c) n vs) (i k:Nat) (hi:i≤k) (hk:k≤n) :
  Rd w sz (sliced p i k c sz) (k-i) ((vs.take (k*sz)).drop (i*sz)):=(h.upto k hk).from i hi
section
variable {P:Program}
end
end Go.Proofs.YtdcgbgecbeegmaaGreatDoor
end
