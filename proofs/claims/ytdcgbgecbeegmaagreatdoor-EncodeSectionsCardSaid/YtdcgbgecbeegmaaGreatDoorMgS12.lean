/- Texts 12. -/
import Derived.Test.YtdcgbgecbeegmaaGreatDoorMgSA
import Derived.Test.YtdcgbgecbeegmaaGreatDoorMgS5
set_option linter.unusedVariables false
set_option linter.unusedSimpArgs false
set_option maxHeartbeats 400000000
set_option maxRecDepth 100000
section
namespace Go.Proofs.YtdcgbgecbeegmaaGreatDoor
open Go Go.RowKit
structure Jj {α:Type} (cmp:α→α→Int):Prop where
 Yo:∀a b,cmp a b = -1∨cmp a b=0∨cmp a b=1
 eq:∀a b,cmp a b=0↔a=b
 flip:∀a b,cmp b a = - cmp a b
 tr:∀a b c,cmp a b = -1→cmp b c = -1→cmp a c = -1
theorem Jj.refl {α:Type} {cmp:α→α→Int} (h:Jj cmp) (a:α):cmp a a=0:=(h.eq a a).2 rfl
theorem Jj.lt {α:Type} {cmp:α→α→Int} (h:Jj cmp):MH (fun a b=>decide (cmp a b = -1)):=
 ⟨⟨fun a=>by rw [h.refl];rfl,fun a b c h1 h2=>by
  simp only [zCH] at h1 h2 ⊢
  exact h.tr a b c h1 h2⟩,fun a b h1 h2=>by
  simp only [zDF] at h1 h2
  rw [h.flip a b] at h2
  rcases h.Yo a b with e | e | e
  ·exact absurd e h1
  ·exact (h.eq a b).1 e
  ·rw [e] at h2;exact absurd rfl h2⟩
def RH {α:Type} (lt:α→α→Bool) (a b:α):Int:=if lt a b then -1 else if lt b a then 1 else 0
theorem ti {α:Type} {lt:α→α→Bool} (h:MH lt):Jj (RH lt):=by
 refine ⟨fun a b=>?_,fun a b=>?_,fun a b=>?_,fun a b c h1 h2=>?_⟩
 ·unfold RH;split
  ·exact Or.inl rfl
  ·split
   ·exact Or.inr (Or.inr rfl)
   ·exact Or.inr (Or.inl rfl)
 ·unfold RH
  constructor
  ·intro e
   split at e
   ·cases e
   ·next h1=>
    split at e
    ·cases e
    ·next h2=>exact h.kQ a b (by simpa using h1) (by simpa using h2)
  ·rintro rfl;simp [h.SP]
 ·unfold RH
  rcases zBH (lt a b) with e | e
  ·simp [e,h.uk e]
  ·rcases zBH (lt b a) with f | f<;>simp [e,f]
 ·have lt1:∀x y,RH lt x y = -1→lt x y=true:=fun x y e=>by
   unfold RH at e
   split at e
   ·assumption
   ·split at e<;>cases e
  have:=h.tr a b c (lt1 a b h1) (lt1 b c h2)
  unfold RH;rw [if_pos this]
def Y7 {α β:Type} (c1:α→α→Int) (c2:β→β→Int) (a b:α × β):Int:=if c1 a.1 b.1=0 then c2 a.2 b.2 else c1 a.1 b.1
theorem rW {α β:Type} {c1:α→α→Int} {c2:β→β→Int} (h1:Jj c1) (h2:Jj c2):Jj (Y7 c1 c2):=by
 refine ⟨fun a b=>?_,fun a b=>?_,fun a b=>?_,fun a b c e f=>?_⟩
 ·unfold Y7;split
  ·exact h2.Yo _ _
  ·exact h1.Yo _ _
 ·obtain ⟨a1,a2⟩:=a;obtain ⟨b1,b2⟩:=b
  unfold Y7
  split
  ·next e=>rw [h2.eq];simp only at e;rw [(h1.eq _ _).1 e];simp
  ·next e=>
   constructor
   ·intro h;exact absurd h e
   ·rintro h;cases h;exact absurd (h1.refl _) e
 ·unfold Y7
  rw [h1.flip a.1 b.1,h2.flip a.2 b.2]
  by_cases e:c1 a.1 b.1=0
  ·rw [if_pos e,if_pos (by omega)]
  ·rw [if_neg e,if_neg (by omega)]
 ·unfold Y7 at e f ⊢
  by_cases e1:c1 a.1 b.1=0
  ·rw [if_pos e1] at e
   rw [(h1.eq _ _).1 e1]
   by_cases f1:c1 b.1 c.1=0
   ·rw [if_pos f1] at f ⊢;exact h2.tr _ _ _ e f
   ·rw [if_neg f1] at f ⊢;exact f
  ·rw [if_neg e1] at e
   by_cases f1:c1 b.1 c.1=0
   ·rw [if_pos f1] at f
    rw [← (h1.eq _ _).1 f1,if_neg e1];exact e
   ·rw [if_neg f1] at f
    have:=h1.tr _ _ _ e f
    rw [this,if_neg (by decide)]
def KE {α:Type} (c:α→α→Int):List α→List α→Int
 | [],[]=>0
 | [],_::_=>-1
 | _::_,[]=>1
 | a::l,b::k=>if c a b=0 then KE c l k else c a b
theorem rV {α : Type} {c : α → α → Int} (h : Jj c) : Jj (KE c) := by
  refine ⟨fun a => ?_, fun a => ?_, fun a => ?_, fun a => ?_⟩
  · induction a with
    | nil => intro b; cases b <;> simp [KE]
    | cons x a ih =>
      intro b
      cases b with
      | nil => simp [KE]
      | cons y b => rw [KE]; split
                    · exact ih b
                    · exact h.Yo _ _
  · induction a with
    | nil => intro b; cases b <;> simp [KE]
    | cons x a ih =>
      intro b
      cases b with
      | nil => simp [KE]
      | cons y b =>
        rw [KE]
        split
        · next e => rw [ih b, (h.eq _ _).1 e]; simp
        · next e =>
          constructor
          · intro g; exact absurd g e
          · rintro g; cases g; exact absurd (h.refl _) e
  · induction a with
    | nil => intro b; cases b <;> simp [KE]
    | cons x a ih =>
      intro b
      cases b with
      | nil => simp [KE]
      | cons y b =>
        rw [KE, KE, h.flip x y, ih b]
        by_cases e : c x y = 0
        · rw [if_pos e, if_pos (by omega)]
        · rw [if_neg e, if_neg (by omega)]
  · induction a with
    | nil =>
      intro b k e f
      cases k with
      | nil => cases b with
        | nil => simp [KE] at e
        | cons y b => simp [KE] at f
      | cons z k => rfl
    | cons x a ih =>
      intro b k e f
      cases b with
      | nil => simp [KE] at e
      | cons y b =>
        cases k with
        | nil => simp [KE] at f
        | cons z k =>
          rw [KE] at e f ⊢
          by_cases e1 : c x y = 0
          · rw [if_pos e1] at e
            rw [(h.eq _ _).1 e1]
            by_cases f1 : c y z = 0
            · rw [if_pos f1] at f ⊢; exact ih b k e f
            · rw [if_neg f1] at f ⊢; exact f
          · rw [if_neg e1] at e
            by_cases f1 : c y z = 0
            · rw [← (h.eq _ _).1 f1, if_neg e1]; exact e
            · rw [if_neg f1] at f
              have := h.tr _ _ _ e f
              rw [this, if_neg (by decide)]
abbrev AC:=ByteArray × ByteArray
def Br:ByteArray→ByteArray→Int:=RH CB
theorem N7:Jj Br:=ti Bz
def AW:AC→AC→Int:=Y7 Br Br
theorem CL:Jj AW:=rW N7 N7
def Az:List AC→List AC→Int:=KE AW
theorem BJ:Jj Az:=rV CL
def B4 (x:AC):Nat:=if x.1.size=0 then 17 else if 65535<x.1.size∨65535<x.2.size then 7 else 0
def A5 (p:Option ByteArray):List AC→Nat
 | []=>0
 | x::l=>
  if B4 x≠0 then B4 x else
  match p with
  | none=>A5 (some x.1) l
  | some n=>if x.1=n then 18 else if CB x.1 n then 16 else A5 (some x.1) l
def BZ (l:List AC):Nat:=A5 none l
def My (a b:AC):Bool:=CB a.1 b.1
def CN:List AC→Nat
 | []=>0
 | x::l=>if B4 x≠0 then B4 x else CN l
def Tf:List AC→List AC→Option (List AC)
 | out,[]=>some out
 | out,x::l=>if ∃y∈out,y.1=x.1 then none else Tf (BL My x out) l
def BD (l:List AC):Nat × List AC:=if CN l≠0 then (CN l,[]) else match Tf [] l with
 | none=>(18,[])
 | some out=>(0,out)
def An (l:List AC):List ByteArray:=l.flatMap fun x=>[x.1,x.2]
theorem Qa:LtPre My:=⟨fun a=>Bz.SP _,fun a b c=>Bz.tr _ _ _⟩
theorem pi {a b:AC} (h:a.1≠b.1):My a b=false→My b a=true:=fun h1=>by
 rcases zBH (My b a) with e | e
 ·exact e
 ·exact absurd (Bz.kQ _ _ h1 e) h
theorem Li (x z:AC) (d:List AC) (hd:∀y∈d,y.1≠x.1):z∈BL My x d↔z=x∨z∈d:=by
 induction d with
 | nil=>simp [BL]
 | cons y l ih=>
  have hy:=hd y (by simp)
  rw [BL]
  split
  ·rw [zAS,ih (fun y hy=>hd y (by simp [hy])),zAS]
   constructor
   ·rintro (h | h | h)
    ·exact Or.inr (Or.inl h)
    ·exact Or.inl h
    ·exact Or.inr (Or.inr h)
   ·rintro (h | h | h)
    ·exact Or.inr (Or.inl h)
    ·exact Or.inl h
    ·exact Or.inr (Or.inr h)
  ·next h1=>
   rw [if_pos (pi hy (by simpa using h1))]
   simp
theorem nV (x:AC) (d:List AC) (hd:∀y∈d,y.1≠x.1) (ha:AN My d):AN My (BL My x d):=by
 induction d with
 | nil=>exact zCY _ _
 | cons y l ih=>
  obtain ⟨h1,h2⟩:=zAU.1 ha
  have hd':∀y∈l,y.1≠x.1:=fun y hy=>hd y (by simp [hy])
  rw [BL]
  split
  ·next Xm=>
   exact zAU.2 ⟨fun z hz=>by
    rcases (Li x z l hd').1 hz with e | e
    ·subst e;exact Xm
    ·exact h1 z e,ih hd' h2⟩
  ·next Xm=>
   have KH:=pi (hd y (by simp)) (by simpa using Xm)
   rw [if_pos KH]
   exact zAU.2 ⟨fun z hz=>by
    rcases zAS.1 hz with e | e
    ·subst e;exact KH
    ·exact Qa.tr _ _ _ KH (h1 z e),ha⟩
theorem DZ (l : List AC) : CN l = 0 ↔ ∀ x ∈ l, B4 x = 0 := by
  induction l with
  | nil => simp [CN]
  | cons x l ih =>
    rw [CN]
    split
    · next h => constructor
                · intro e; exact absurd e h
                · intro e; exact absurd (e x (by simp)) h
    · next h => rw [ih]; simp only [zAS, forall_eq_or_imp]
                constructor
                · intro e; exact ⟨zGW.1 h, e⟩
                · intro e; exact e.2
def FP (l:List AC):List ByteArray:=l.map Prod.fst
theorem VX (l:List AC):∀(out r:List AC),Tf out l=some r→AN My out→AN My r∧(∀z,z∈r↔z∈out∨z∈l)∧(FP l).Nodup∧(∀y∈out,∀x∈l,y.1≠x.1):=by
 induction l with
 | nil=>intro out r h ha;simp [Tf] at h;subst h;exact ⟨ha,fun z=>by simp,List.nodup_nil,fun _ _ _ h=>by cases h⟩
 | cons x l ih=>
  intro out r h ha
  rw [Tf] at h
  split at h
  ·cases h
  ·next hn=>
   have hn':∀y∈out,y.1≠x.1:=fun y hy e=>hn ⟨y,hy,e⟩
   obtain ⟨h1,h2,h3,h4⟩:=ih _ r h (nV x out hn' ha)
   refine ⟨h1,fun z=>?_,?_,fun y hy z hz=>?_⟩
   ·rw [h2,Li x z out hn',zAS]
    constructor
    ·rintro ((h | h) | h)
     ·exact Or.inr (Or.inl h)
     ·exact Or.inl h
     ·exact Or.inr (Or.inr h)
    ·rintro (h | h | h)
     ·exact Or.inl (Or.inr h)
     ·exact Or.inl (Or.inl h)
     ·exact Or.inr h
   ·rw [FP,zBC,List.nodup_cons]
    refine ⟨fun hm=>?_,h3⟩
    obtain ⟨z,hz,he⟩:=zBU.1 hm
    exact h4 x ((Li x x out hn').2 (Or.inl rfl)) z hz he.symm
   ·rcases zAS.1 hz with e | e
    ·subst e;exact hn' y hy
    ·exact h4 y ((Li x y out hn').2 (Or.inr hy)) z e
theorem gT (l:List AC):∀(out:List AC),(FP l).Nodup→(∀y∈out,∀x∈l,y.1≠x.1)→∃r,Tf out l=some r:=by
 induction l with
 | nil=>intro out _ _;exact ⟨out,rfl⟩
 | cons x l ih=>
  intro out qV hd
  rw [FP,zBC,List.nodup_cons] at qV
  have hn':∀y∈out,y.1≠x.1:=fun y hy=>hd y hy x (by simp)
  rw [Tf,if_neg (fun ⟨y,hy,e⟩=>hn' y hy e)]
  refine ih _ qV.2 (fun y hy z hz=>?_)
  rcases (Li x y out hn').1 hy with e | e
  ·subst e;intro he;exact qV.1 (zBU.2 ⟨z,hz,he.symm⟩)
  ·exact hd y e z (by simp [hz])
theorem Lm {l:List AC}:(BD l).1=0↔(∀x∈l,B4 x=0)∧(FP l).Nodup:=by
 unfold BD
 constructor
 ·intro h
  split at h
  ·next h1=>exact absurd h h1
  ·next h1=>
   split at h
   ·cases h
   ·next r hr=>exact ⟨(DZ l).1 (zGW.1 h1),(VX l [] r hr List.Pairwise.nil).2.2.1⟩
 ·rintro ⟨h1,h2⟩
  rw [if_neg (zCI ((DZ l).2 h1))]
  obtain ⟨r,hr⟩:=gT l [] h2 (fun _ h=>by cases h)
  rw [hr]
theorem LS {l:List AC} (h:(BD l).1=0):AN My (BD l).2∧∀z,z∈(BD l).2↔z∈l:=by
 have h0:=Lm.1 h
 unfold BD
 rw [if_neg (zCI ((DZ l).2 h0.1))]
 obtain ⟨r,hr⟩:=gT l [] h0.2 (fun _ h=>by cases h)
 rw [hr]
 obtain ⟨a,b,_⟩:=VX l [] r hr List.Pairwise.nil
 exact ⟨a,fun z=>by rw [b];simp⟩
theorem Qc {l:List AC} (h:(BD l).1≠0):(BD l).2=[]:=by
 unfold BD at h ⊢
 split
 ·rfl
 ·next h1=>
  rw [if_neg h1] at h
  split
  ·rfl
  ·next r hr=>rw [hr] at h;exact absurd rfl h
theorem jU {l m:List AC} (hp:l.Perm m):((BD l).1=0↔(BD m).1=0)∧(BD l).2=(BD m).2:=by
 have xl:(BD l).1=0↔(BD m).1=0:=by
  rw [Lm,Lm]
  have h1:(FP l).Nodup↔(FP m).Nodup:=(hp.map Prod.fst).nodup_iff
  have h2:(∀x∈l,B4 x=0)↔(∀x∈m,B4 x=0):=⟨fun h x hx=>h x (hp.mem_iff.2 hx),fun h x hx=>h x (hp.mem_iff.1 hx)⟩
  rw [h1,h2]
 refine ⟨xl,?_⟩
 by_cases h:(BD l).1=0
 ·obtain ⟨a1,a2⟩:=LS h
  obtain ⟨b1,b2⟩:=LS (xl.1 h)
  exact Gl Qa _ _ a1 b1 (fun z=>by rw [a2,b2];exact hp.mem_iff)
 ·rw [Qc h,Qc (fun e=>h (xl.2 e))]
theorem cG {l:List AC} (h:AN My l):(FP l).Nodup:=by
 rw [FP,List.Nodup,zER]
 exact zFX (fun Gz e=>by unfold My at Gz;rw [e,Bz.SP] at Gz;cases Gz) h
theorem ao {l:List AC} (h:AN My l) (ho:∀x∈l,B4 x=0):BD l=(0,l):=by
 have h0:(BD l).1=0:=Lm.2 ⟨ho,cG h⟩
 obtain ⟨a1,a2⟩:=LS h0
 have:(BD l).2=l:=Gl Qa _ _ a1 h a2
 exact Prod.ext h0 this
theorem gQ (x:AC):B4 x≤18:=by rw [B4];(repeat' split)<;>omega
theorem rU (l:List AC):∀p,A5 p l≤18:=by
 induction l with
 | nil=>intro p;rw [A5];omega
 | cons x l ih=>
  intro p
  have h1:=gQ x
  cases p with
  | none=>
   rw [A5]
   split
   ·exact h1
   ·exact ih _
  | some n=>
   rw [A5]
   repeat' split
   all_goals first | exact h1 | exact ih _ | omega
theorem Zs (l:List AC):CN l≤18:=by
 induction l with
 | nil=>rw [CN];omega
 | cons x l ih=>
  rw [CN]
  split
  ·exact gQ x
  ·exact ih
theorem tC (l:List AC):∀(out r:List AC),Tf out l=some r→r.length≤out.length+l.length:=by
 induction l with
 | nil=>intro out r h;rw [Tf] at h;simp at h;subst h;simp
 | cons x l ih=>
  intro out r h
  rw [Tf] at h
  split at h
  ·cases h
  ·have h1:=ih _ _ h
   have h2:=RX (lt:=My) x out
   rw [zAH];omega
theorem gK (l:List AC):(BD l).1≤18∧(BD l).2.length≤l.length:=by
 have hf:=Zs l
 rw [BD]
 split
 ·exact ⟨hf,zAJ _⟩
 ·cases hp:Tf [] l with
  | none=>exact ⟨zAD _,zAJ _⟩
  | some r=>
   have:=tC l [] r hp
   rw [zBG,zEF] at this
   exact ⟨zAJ _,this⟩
theorem pB {p:AC→Prop} {l:List AC} (h:∀x∈l,p x):∀x∈(BD l).2,p x:=by
 intro x hx
 by_cases h0:(BD l).1=0
 ·exact h x (((LS h0).2 x).1 hx)
 ·rw [Qc h0] at hx;cases hx
def Am (l:List AC):List Value:=l.flatMap fun r=>[.string r.1,.string r.2]
theorem gg:Cd Tryz.prog 48 108 2 32:=Cd.mk' (z:=.agg #[.string ⟨#[]⟩,.string ⟨#[]⟩]) Tryz.underlying48 (by kernel_rfl) rfl (by decide)
theorem NW (l:List AC):∀u∈Am l,u.oneCell'=true:=by
 intro u hu
 simp only [Am,zBZ] at hu
 obtain ⟨r,_,hu⟩:=hu
 simp only [zAS,zCX,zGU] at hu
 rcases hu with rfl | rfl<;>rfl
theorem RD (rs:List AC):(Am rs).length=rs.length*2:=by
 induction rs with
 | nil=>rfl
 | cons r rs ih=>rw [Am,zBN,zAB,← Am,ih,zAH];simp;omega
theorem Xt (rs:List AC) (j:Nat) (x c:ByteArray) (h:rs[j]? = some (x,c)):(Am rs)[j*2]? = some (.string x)∧(Am rs)[j*2+1]? = some (.string c):=by
 induction rs generalizing j with
 | nil=>simp at h
 | cons r rs ih=>
  have e:Am (r::rs)=[.string r.1,.string r.2]++Am rs:=by simp [Am]
  cases j with
  | zero=>
   simp at h
   subst h
   rw [e]
   exact ⟨rfl,rfl⟩
  | succ j=>
   obtain ⟨h1,h2⟩:=ih j (by simpa using h)
   rw [e,show (j+1)*2=j*2+2 by omega]
   exact ⟨by simpa using h1,by simpa using h2⟩
abbrev wo:=ER 108 (fun x:AC=>Value.string x.1) (fun x:AC=>Value.string x.2)
theorem Sm (n:ByteArray):n.toList.isEmpty=decide (n.size=0):=by
 rw [zES]
 cases n with
 | mk d=>cases d with
  | mk l=>cases l<;>simp [ByteArray.size]
theorem Da (l:List AC):(An l).length=2*l.length:=by
 induction l with
 | nil=>rfl
 | cons x l ih=>rw [An,zBN,zAB,← An,ih,zAH];simp;omega
theorem MB {l:List AC} {i:Nat} {x:AC} (hx:l[i]? = some x):An (l.take (i+1))=An (l.take i)++[x.1,x.2]:=by
 rw [zAL,hx];simp [An]
end Go.Proofs.YtdcgbgecbeegmaaGreatDoor
end
