/- Texts 5. -/
import Derived.Test.YtdcgbgecbeegmaaGreatDoorMgL1
import Derived.Test.YtdcgbgecbeegmaaGreatDoorMgL2
import Derived.Test.YtdcgbgecbeegmaaGreatDoorMgL3
import Derived.Test.YtdcgbgecbeegmaaGreatDoorMgL4
import Derived.Laws.Rows
import Derived.Laws.PanicsMore
import Derived.WalkSpells
import Derived.WalkLawsBesides
import Derived.Outline
import Derived.Lib.Hide
import Derived.Deep.QuietTactic
import Derived.BigQuiet
import Derived.StillTailTactics
import Derived.Laws.IdiomStrings
import Derived.Lib.SlBytesConst
set_option linter.unusedVariables false
set_option linter.unusedSimpArgs false
section
namespace Go.Proofs.YtdcgbgecbeegmaaGreatDoor
open Go Go.RowKit
def winE (l:List Sam):List (List Sam):=(List.range ((l.length+119) / 120)).map fun k=>(l.drop (120*k)).take 120
def winTo (l:List Sam) (k:Nat):List (List Sam):=(List.range k).map fun k=>(l.drop (120*k)).take 120
theorem winTo_all (l:List Sam):winTo l ((l.length+119) / 120)=winE l:=rfl
theorem winTo_step (l:List Sam) (k:Nat):winTo l (k+1)=winTo l k++[(l.drop (120*k)).take 120]:=by
 rw [winTo,List.range_succ,List.map_append];rfl
theorem winE_join (l:List Sam):(winE l).flatten=l:=by
 have h:∀k,(winTo l k).flatten=l.take (120*k):=by
  intro k
  induction k with
  | zero=>simp [winTo]
  | succ k ih=>
   rw [winTo_step,List.flatten_append,ih,show 120*(k+1)=120*k+120 by omega,List.take_add]
   simp
 rw [← winTo_all,h,List.take_of_length_le (by omega)]
theorem winE_mem {l:List Sam} {c:List Sam} (h:c∈winE l):c≠[]∧c.length≤120∧∀s∈c,s∈l:=by
 obtain ⟨k,hk,rfl⟩:=List.mem_map.1 h
 have hk':=List.mem_range.1 hk
 refine ⟨fun e=>?_,by rw [List.length_take];omega,fun s hs=>List.mem_of_mem_drop (List.mem_of_mem_take hs)⟩
 have:=congrArg List.length e
 rw [List.length_take,List.length_drop,List.length_nil] at this
 omega
def lensE (l:List Sam):List Int:=(winE l).map fun c=>((encC c).1.length:Int)
def recE (s:Ser):Rec:=(s.1,lensE s.2)
def bytesE (l:List Sam):List Nat:=(winE l).flatMap fun c=>(encC c).1
def chunksB (b:List Ser):List Nat:=b.flatMap fun s=>bytesE s.2
def tabE (b:List Ser):List ByteArray:=tabS (symsB b)
def secsE (b:List Ser):List (List Nat):=[(encSyR (tabE b)).2,(encRcR (tabE b) (b.map recE)).2,chunksB b,(encPoR (tabE b) (buildP (b.map Prod.fst))).2]
def encBl (b:List Ser):Nat × List Nat:=if checkB b=0 then (0,asmL (secsE b)) else (checkB b,[])
theorem secsE_four (b:List Ser):(secsE b).length=4:=rfl
theorem chunksB_step {b:List Ser} {i:Nat} {s:Ser} (h:b[i]? = some s):chunksB (b.take (i+1))=chunksB (b.take i)++bytesE s.2:=by
 rw [chunksB,List.take_add_one,h,List.flatMap_append];simp [chunksB]
theorem lens_sum (l:List Sam):((bytesE l).length:Int)=(lensE l).sum:=by
 unfold bytesE lensE
 induction winE l with
 | nil=>rfl
 | cons c cs ih=>rw [List.flatMap_cons,List.length_append,List.map_cons,List.sum_cons,← ih];omega
theorem fManyS_append {α σ:Type} (f:σ→α→List Nat) (nx:σ→α→σ) (a b:List α):∀s,fManyS f nx s (a++b)=fManyS f nx s a++fManyS f nx (a.foldl nx s) b:=by
 induction a with
 | nil=>intro s;rfl
 | cons x a ih=>intro s;rw [List.cons_append,fManyS,fManyS,ih,List.append_assoc];rfl
def serTo (l:List Int) (k:Nat):List Nat:=fManyS serB (fun _ x=>some x) none (l.take k)
def lastZ (l:List Int):Nat→Int
 | 0=>0
 | k+1=>l.getD k 0
theorem lastZ_succ {l:List Int} {k:Nat} {x:Int} (h:l[k]? = some x):lastZ l (k+1)=x:=by rw [lastZ,List.getD_eq_getElem?_getD,h];rfl
theorem lastO (l:List Int) (k:Nat) (h:k≤l.length):((l.take k).foldl (fun (_:Option Int) x=>some x) none).getD 0=lastZ l k:=by
 cases k with
 | zero=>rfl
 | succ k=>
  obtain ⟨x,hx⟩:∃x,l[k]? = some x:=⟨_,List.getElem?_eq_getElem (by omega)⟩
  rw [List.take_add_one,hx,List.foldl_append,lastZ_succ hx]
  rfl
theorem serTo_step {l:List Int} {k:Nat} {x:Int} (h:l[k]? = some x):serTo l (k+1)=serTo l k++groups (x-lastZ l k).toNat:=by
 rw [serTo,List.take_add_one,h,fManyS_append]
 simp only [Option.toList_some,fManyS,List.append_nil,serB]
 rw [lastO l k (Nat.le_of_lt (List.getElem?_eq_some_iff.1 h).1)]
 rfl
theorem serTo_le (l:List Int) (k:Nat):(serTo l k).length≤(fManyS serB (fun _ x=>some x) none l).length:=by
 have h:fManyS serB (fun (_:Option Int) x=>some x) none l=serTo l k++fManyS serB (fun _ x=>some x) ((l.take k).foldl (fun (_:Option Int) x=>some x) none) (l.drop k):=by
  rw [serTo,← fManyS_append,List.take_append_drop]
 rw [h,List.length_append];omega
theorem serTo_top (l:List Int) (k:Nat):(serTo l k).length≤(serTo l l.length).length:=by
 have h:=serTo_le l k
 rwa [show fManyS serB (fun (_:Option Int) x=>some x) none l=serTo l l.length by rw [serTo,List.take_length]] at h
theorem serBytes_to (l:List Int):serBytes l=groups l.length++serTo l l.length:=by rw [serTo,List.take_length];rfl
theorem lastZ_le {l:List Int} {k:Nat} {x:Int} (h:l[k]? = some x) (ha:AscB ltI l) (h0:∀y∈l,0≤y):0≤lastZ l k∧lastZ l k≤x:=by
 have hx:=h0 x (List.mem_of_getElem? h)
 cases k with
 | zero=>exact ⟨Int.le_refl _,hx⟩
 | succ k=>
  obtain ⟨hl,e⟩:=List.getElem?_eq_some_iff.1 h
  obtain ⟨y,hy⟩:∃y,l[k]? = some y:=⟨_,List.getElem?_eq_getElem (by omega)⟩
  rw [lastZ_succ hy]
  refine ⟨h0 y (List.mem_of_getElem? hy),?_⟩
  unfold AscB at ha
  rw [List.pairwise_iff_getElem] at ha
  obtain ⟨hl2,e2⟩:=List.getElem?_eq_some_iff.1 hy
  have:=ha k (k+1) hl2 hl (by omega)
  rw [e,e2] at this
  simp only [ltI,decide_eq_true_eq] at this
  omega
def encE (t:List ByteArray) (l:List Ent) (i:Nat):List Nat:=groups l.length++(l.take i).flatMap (entBytes t)
theorem encE_step {t:List ByteArray} {l:List Ent} {i:Nat} {n v:ByteArray} {s:List Int} (h:l[i]? = some ((n,v),s)):encE t l (i+1)=encE t l i++groups (idxT t n)++groups (idxT t v)++groups s.length++serTo s s.length:=by
 rw [encE,List.take_add_one,h,List.flatMap_append,encE]
 simp [entBytes,labBytes,serBytes_to]
theorem encE_all (t:List ByteArray) (l:List Ent) (i:Nat) (h:l.length≤i):encE t l i=entsBytes t l:=by rw [encE,List.take_of_length_le h];rfl
theorem encE_le (t:List ByteArray) (l:List Ent) (i:Nat):(encE t l i).length≤(entsBytes t l).length:=by
 have:entsBytes t l=encE t l i++(l.drop i).flatMap (entBytes t):=by
  rw [encE,List.append_assoc,← List.flatMap_append,List.take_append_drop];rfl
 rw [this,List.length_append];omega
theorem encE_room {t:List ByteArray} {l:List Ent} {i:Nat} {n v:ByteArray} {s:List Int} (h:l[i]? = some ((n,v),s)):(encE t l i).length+(groups (idxT t n)).length+(groups (idxT t v)).length+(groups s.length).length+(serTo s s.length).length≤(entsBytes t l).length:=by
 have h1:=encE_le t l (i+1)
 rw [encE_step h] at h1
 simp only [List.length_append] at h1
 omega
theorem encPo_bad {t:List ByteArray} {l:List Ent} {e:Ent} (he:e∈l) (h:¬labIn t e.1):encPoR t l=(14,[]):=by rw [encPoR,if_neg (fun k=>h (k e he))]
theorem encPo_ok {t:List ByteArray} {l:List Ent} (h:∀e∈l,labIn t e.1):encPoR t l=(0,entsBytes t l):=by rw [encPoR,if_pos h]
theorem ser_len (l:List Int) (h:∀x∈l,0≤x∧x<1000000000):∀s:Option Int,0≤s.getD 0→(fManyS serB (fun _ x=>some x) s l).length≤10*l.length:=by
 induction l with
 | nil=>intro s _;simp [fManyS]
 | cons x l ih=>
  intro s hs
  have hx:=h x (by simp)
  rw [fManyS,List.length_append,List.length_cons]
  have h1:=ih (fun y hy=>h y (by simp [hy])) (some x) hx.1
  have h2:(serB s x).length≤10:=groups_ten (by omega)
  omega
theorem flat_len {α:Type} (f:α→List Nat) (k:Nat) (l:List α) (h:∀x∈l,(f x).length≤k):(l.flatMap f).length≤l.length*k:=by
 induction l with
 | nil=>simp
 | cons x l ih=>
  rw [List.flatMap_cons,List.length_append,List.length_cons,Nat.add_mul,Nat.one_mul]
  have h1:=ih (fun y hy=>h y (by simp [hy]))
  have h2:=h x (by simp)
  omega
theorem findS_le (t:List ByteArray) (s:ByteArray):(findS t s).toNat≤t.length:=by
 by_cases h:s∈t
 ·obtain ⟨j,hj,hjt⟩:=findS_in h
  have:=(List.getElem?_eq_some_iff.1 hjt).1
  omega
 ·rw [findS_out h];simp
end Go.Proofs.YtdcgbgecbeegmaaGreatDoor
end
section
set_option maxRecDepth 20000
namespace Go.Proofs.YtdcgbgecbeegmaaGreatDoor
open Go Go.RowKit
theorem tabS_asc (l:List ByteArray):AscB ltS (tabS l):=tabB_asc ltS_ok l
theorem tabS_mem (l:List ByteArray) (s:ByteArray):s∈tabS l↔s∈l:=tabB_mem ltS_ok l s
theorem tabS_fits {l:List ByteArray} (h:∀s∈l,s.size≤65535):Fits (tabS l):=fun s hs=>h s ((tabS_mem l s).1 hs)
end Go.Proofs.YtdcgbgecbeegmaaGreatDoor
end
section
namespace Go.Proofs.YtdcgbgecbeegmaaGreatDoor
open Go Go.RowKit
theorem labs_in_table (m:List (List Lab)):∀e∈buildP m,labIn (tabS (m.flatMap stringsL)) e.1:=by
 intro e he
 rw [build_idx] at he
 obtain ⟨y,hy,hx⟩:=List.mem_flatten.1 (idx_mem he).1
 have h1:e.1.1∈stringsL y:=List.mem_flatMap.2 ⟨e.1,hx,by simp⟩
 have h2:e.1.2∈stringsL y:=List.mem_flatMap.2 ⟨e.1,hx,by simp⟩
 exact ⟨(tabS_mem _ _).2 (List.mem_flatMap.2 ⟨y,hy,h1⟩),(tabS_mem _ _).2 (List.mem_flatMap.2 ⟨y,hy,h2⟩)⟩
theorem asc_cons2 {α:Type} {lt:α→α→Bool} (tr:∀a b c,lt a b=true→lt b c=true→lt a c=true) {a b:α} {l:List α} (h:lt a b=true) (hl:AscB lt (b::l)):AscB lt (a::b::l):=by
 obtain ⟨h1,h2⟩:=List.pairwise_cons.1 hl
 refine List.pairwise_cons.2 ⟨fun c hc=>?_,hl⟩
 rcases List.mem_cons.1 hc with rfl | hc
 ·exact h
 ·exact tr _ _ _ h (h1 c hc)
theorem check_from_zero:∀(l:List Lab) (p:Option ByteArray),checkFrom p l=0→(∀x∈l,oneL x=0)∧AscB ltN l∧∀n,p=some n→∀x,l.head? = some x→ltS n x.1=true
 | [],p,_=>⟨fun x hx=>(by cases hx),List.Pairwise.nil,fun n _ x hx=>by cases hx⟩
 | x::l,p,h=>by
  unfold checkFrom at h
  by_cases ho:oneL x=0
  ·rw [if_neg (not_not_intro ho)] at h
   have key:checkFrom (some x.1) l=0∧∀n,p=some n→ltS n x.1=true:=by
    cases p with
    | none=>exact ⟨h,fun n e=>by cases e⟩
    | some n=>
     simp only at h
     by_cases hx:x.1=n
     ·rw [if_pos hx] at h;cases h
     ·rw [if_neg hx] at h
      cases hl:ltS x.1 n with
      | true=>rw [hl,if_pos rfl] at h;cases h
      | false=>
       rw [hl,if_neg (by decide)] at h
       refine ⟨h,fun m e=>?_⟩
       cases e
       cases hn:ltS n x.1 with
       | true=>rfl
       | false=>exact absurd (ltS_ok.tot _ _ hl hn) hx
   obtain ⟨h1,h2,h3⟩:=check_from_zero l _ key.1
   refine ⟨fun y hy=>?_,?_,fun n e y hy=>?_⟩
   ·rcases List.mem_cons.1 hy with rfl | hy
    ·exact ho
    ·exact h1 y hy
   ·cases l with
    | nil=>exact List.pairwise_cons.2 ⟨fun y hy=>(by cases hy),List.Pairwise.nil⟩
    | cons y l=>exact asc_cons2 ltN_ok.tr (h3 x.1 rfl y rfl) h2
   ·cases hy
    exact key.2 n e
  ·rw [if_pos ho] at h;exact absurd h ho
theorem block_of_check {b:List Ser} (h:checkB b=0):Block b:=by
 have key:∀(l:List Ser) (p:Option (List Lab)),checkBFrom p l=0→(∀s∈l,serErr s=0)∧AscB ltB l∧∀q,p=some q→∀s,l.head? = some s→cmpLabs q s.1 = -1:=by
  intro l
  induction l with
  | nil=>intro p _;exact ⟨fun s hs=>(by cases hs),List.Pairwise.nil,fun q _ s hs=>by cases hs⟩
  | cons s l ih=>
   intro p h
   unfold checkBFrom at h
   by_cases hs:serErr s=0
   ·rw [if_neg (not_not_intro hs)] at h
    have hk:checkBFrom (some s.1) l=0∧∀q,p=some q→cmpLabs q s.1 = -1:=by
     cases p with
     | none=>exact ⟨h,fun q e=>by cases e⟩
     | some q=>
      simp only at h
      by_cases h0:cmpLabs q s.1=0
      ·rw [if_pos h0] at h;cases h
      ·rw [if_neg h0] at h
       by_cases h1:0<cmpLabs q s.1
       ·rw [if_pos h1] at h;cases h
       ·rw [if_neg h1] at h
        refine ⟨h,fun q' e=>?_⟩
        cases e
        have:=cmpLabs_ok.dom q s.1
        omega
    obtain ⟨k1,k2,k3⟩:=ih _ hk.1
    refine ⟨fun t ht=>?_,?_,fun q e t ht=>by cases ht;exact hk.2 q e⟩
    ·rcases List.mem_cons.1 ht with rfl | ht
     ·exact hs
     ·exact k1 t ht
    ·cases l with
     | nil=>exact List.pairwise_cons.2 ⟨fun y hy=>(by cases hy),List.Pairwise.nil⟩
     | cons t l=>exact asc_cons2 ltB_ok.tr (by simpa [ltB] using k3 s.1 rfl t rfl) k2
   ·rw [if_pos hs] at h;exact absurd h hs
 obtain ⟨h1,h2,_⟩:=key b none h
 have one:∀s∈b,checkL s.1=0∧s.2≠[]∧timesL s.2=0:=fun s hs=>by
  have h:=h1 s hs
  unfold serErr at h
  by_cases hc:checkL s.1=0
  ·rw [if_neg (not_not_intro hc)] at h
   by_cases h0:s.2=[]
   ·rw [if_pos h0] at h;cases h
   ·rw [if_neg h0] at h;exact ⟨hc,h0,h⟩
  ·rw [if_pos hc] at h;exact absurd h hc
 exact ⟨fun s hs=>⟨(check_from_zero _ _ (one s hs).1).2.1,(check_from_zero _ _ (one s hs).1).1⟩,fun s hs=>(one s hs).2.1,fun s hs=>(timesL_zero _).1 (one s hs).2.2,h2⟩
theorem tabE_fits {b:List Ser} (h:Block b):Fits (tabE b):=tabS_fits fun z hz=>by
 obtain ⟨s,hs,hz⟩:=List.mem_flatMap.1 hz
 obtain ⟨x,hx,hz⟩:=List.mem_flatMap.1 hz
 have ho:=(h.lab s hs).2 x hx
 unfold oneL at ho
 split at ho
 ·cases ho
 ·split at ho
  ·cases ho
  ·simp only [List.mem_cons,List.not_mem_nil,or_false] at hz
   rcases hz with rfl | rfl<;>omega
theorem tabE_in {b:List Ser} {s:Ser} (hs:s∈b):∀x∈s.1,labIn (tabE b) x:=fun x hx=>
 ⟨(tabS_mem _ _).2 (List.mem_flatMap.2 ⟨s,hs,List.mem_flatMap.2 ⟨x,hx,by simp⟩⟩),(tabS_mem _ _).2 (List.mem_flatMap.2 ⟨s,hs,List.mem_flatMap.2 ⟨x,hx,by simp⟩⟩)⟩
theorem encSy_block {b:List Ser} (h:Block b):encSyR (tabE b)=(0,encSy (tabE b)):=by
 rw [encSyR,if_neg (not_not_intro (tabE_fits h)),if_neg (not_not_intro (show AscB ltS (tabE b) from tabS_asc _))]
theorem encPo_block (b:List Ser):encPoR (tabE b) (buildP (b.map Prod.fst))=(0,entsBytes (tabE b) (buildP (b.map Prod.fst))):=by
 have e:tabE b=tabS ((b.map Prod.fst).flatMap stringsL):=by rw [tabE,symsB,List.flatMap_map]
 rw [encPoR,e,if_pos (labs_in_table _)]
theorem encC_chunk {c:List Sam} (h0:c≠[]) (h1:c.length≤120):(encC c).2=0∧2≤(encC c).1.length:=by
 rw [encC,if_neg h0,if_neg (by omega)]
 exact ⟨rfl,by simp⟩
theorem winE_ne {l:List Sam} (h:l≠[]):winE l≠[]:=fun e=>h (by rw [← winE_join l,e];rfl)
theorem lensE_ok {l:List Sam} (hlen:∀c∈winE l,(encC c).1.length≤2147483647):∀n∈lensE l,lenOk n:=fun n hn=>by
 obtain ⟨c,hc,rfl⟩:=List.mem_map.1 hn
 obtain ⟨a0,a1,_⟩:=winE_mem hc
 have h2:=(encC_chunk a0 a1).2
 have h3:=hlen c hc
 exact ⟨by omega,by omega⟩
theorem recs_block {b:List Ser} (h:Block b) (hlen:∀c:List Sam,(encC c).1.length≤2147483647):recsErr (tabE b) (b.map recE)=0:=by
 rw [recsErr_zero]
 intro r hr
 obtain ⟨s,hs,rfl⟩:=List.mem_map.1 hr
 refine recErr_zero.2 ⟨tabE_in hs,?_,lensE_ok fun c _=>hlen c⟩
 show lensE s.2≠[]
 intro e
 exact winE_ne (h.ne s hs) (List.map_eq_nil_iff.1 e)
theorem encRc_block {b:List Ser} (h:Block b) (hlen:∀c:List Sam,(encC c).1.length≤2147483647):encRcR (tabE b) (b.map recE)=(0,encRc (tabE b) (b.map recE)):=by
 rw [encRcR,if_pos (recs_block h hlen)]
theorem secs_block {b:List Ser} (h:Block b) (hlen:∀c:List Sam,(encC c).1.length≤2147483647) :
  secsE b=[encSy (tabE b),encRc (tabE b) (b.map recE),chunksB b,entsBytes (tabE b) (buildP (b.map Prod.fst))]:=by
 rw [secsE,encSy_block h,encRc_block h hlen,encPo_block]
structure SzE (b:List Ser):Prop where
 blk:Block b
 tab:(tabE b).length<18446744073709551616
 lens:recLens (b.map recE)
 sam:∀s∈b,∀x∈s.2,sampleOk x
theorem encC_lt17 (l:List Sam):∀x∈(encC l).1,x<256:=by
 rw [encC]
 split
 ·intro x hx;cases hx
 ·split
  ·intro x hx;cases hx
  ·next h=>
   intro x hx
   rcases List.mem_cons.1 hx with e | hx
   ·rcases choose_tag (valuesC l) with h | h | h<;>omega
   ·rcases List.mem_cons.1 hx with e | hx
    ·omega
    ·exact pack_lt _ x hx
theorem encC_len17 (l:List Sam):(encC l).1.length≤100000:=by
 rw [encC]
 split
 ·simp
 ·split
  ·simp
  ·next h=>
   have h1:=bitsC_len (chooseC (valuesC l)) (valuesC l)
   have h2:=encT_len (timesC l)
   have e1:(timesC l).length=l.length:=by simp [timesC]
   have e2:(valuesC l).length=l.length:=by simp [valuesC]
   rw [List.length_cons,List.length_cons,pack_length,List.length_append]
   omega
theorem encC_small17 (l:List Sam):(encC l).1.length≤2147483647:=by have:=encC_len17 l;omega
theorem chunksB_lt (b:List Ser):∀c∈chunksB b,c<256:=fun c hc=>by
 obtain ⟨s,_,hc⟩:=List.mem_flatMap.1 hc
 obtain ⟨w,_,hc⟩:=List.mem_flatMap.1 hc
 exact encC_lt17 w c hc
theorem chunks_total (b:List Ser):((chunksB b).length:Int)=((b.map recE).map fun r:Rec=>r.2.sum).sum:=by
 induction b with
 | nil=>rfl
 | cons s b ih=>
  have h:=lens_sum s.2
  rw [chunksB,List.flatMap_cons,List.length_append,List.map_cons,List.map_cons,List.sum_cons,← ih]
  show ((bytesE s.2).length+(chunksB b).length:Nat)=(lensE s.2).sum+_
  omega
theorem idx_ok17 {b:List Ser} (hn:(buildP (b.map Prod.fst)).length<18446744073709551616) (hm:∀e∈buildP (b.map Prod.fst),e.2.length<18446744073709551616):okEnts (tabE b) (b.length:Int) (buildP (b.map Prod.fst)):=by
 have e:tabE b=tabS ((b.map Prod.fst).flatMap stringsL):=by rw [tabE,symsB,List.flatMap_map]
 refine okEnts_iff.2 ⟨?_,by rw [e];exact labs_in_table _,hn,hm⟩
 rw [build_idx]
 have h:=idx_is (b.map Prod.fst)
 rwa [List.length_map] at h
theorem secs_lt17 {b:List Ser} (h:SzE b) (hb:b.length<9223372036854775808) (hn:(buildP (b.map Prod.fst)).length<18446744073709551616) (hm:∀e∈buildP (b.map Prod.fst),e.2.length<18446744073709551616):∀d∈secsE b,∀c∈d,c<256:=by
 rw [secs_block h.blk encC_small17]
 intro d hd
 simp only [List.mem_cons,List.not_mem_nil,or_false] at hd
 rcases hd with rfl | rfl | rfl | rfl
 ·exact encSy_lt _
 ·exact encRc_lt (tabS_asc _) h.tab (recs_block h.blk encC_small17) h.lens
 ·exact chunksB_lt b
 ·exact encPo_lt (tabS_asc _) h.tab (by omega) (idx_ok17 hn hm)
def i64s (l:List Int):List Value:=l.map fun x=>.int .i64 x
theorem i64s_length (l:List Int):(i64s l).length=l.length:=by simp [i64s]
theorem i64s_append (a b:List Int):i64s (a++b)=i64s a++i64s b:=by simp [i64s]
def RecAt (w:World) (h:Value × Value) (s:Rec):Prop:=Rd w 2 h.1 s.1.length (labCells s.1)∧Rd w 1 h.2 s.2.length (i64s s.2)
theorem RecAt.below {w w':World} {h:Value × Value} {s:Rec} (k:RecAt w h s) (hb:Below w.heap.size w w'):RecAt w' h s:=⟨k.1.below hb,k.2.below hb⟩
structure RdR (w:World) (v:Value) (b:List Rec):Prop where
 ex:∃hs:List (Value × Value),Rd w 2 v hs.length (two Prod.fst Prod.snd hs)∧hs.length=b.length∧∀(i:Nat) (h:Value × Value) (s:Rec),hs[i]? = some h→b[i]? = some s→RecAt w h s
theorem RdR.below {w w':World} {v:Value} {b:List Rec} (k:RdR w v b) (hb:Below w.heap.size w w'):RdR w' v b:=by
 obtain ⟨hs,h1,h2,h3⟩:=k.ex
 exact ⟨hs,h1.below hb,h2,fun i h s hi hj=>(h3 i h s hi hj).below hb⟩
theorem RdR.shape {w:World} {v:Value} {b:List Rec} (k:RdR w v b):∃p c,v = .slice p b.length c:=by
 obtain ⟨hs,h1,h2,_⟩:=k.ex
 rw [← h2]
 exact h1.shape
theorem RdR.at {w:World} {p:Option Addr} {n c:Nat} {b:List Rec} (k:RdR w (.slice p n c) b) {i:Nat} {s:Rec} (hi:b[i]? = some s) :
  ∃blk off h1 h2,p=some ⟨blk,off,none⟩∧w.cell? ⟨blk,off+i*2,none⟩=some h1∧w.cell? ⟨blk,off+i*2+1,none⟩=some h2∧RecAt w (h1,h2) s:=by
 obtain ⟨hs,h1,h2,h3⟩:=k.ex
 have hlt:=(List.getElem?_eq_some_iff.1 hi).1
 obtain ⟨h,hh⟩:∃h,hs[i]? = some h:=⟨_,List.getElem?_eq_getElem (by omega)⟩
 obtain ⟨p',c',e⟩:=h1.shape
 simp only [Value.slice.injEq] at e
 obtain ⟨rfl,rfl,rfl⟩:=e
 obtain ⟨blk,off,rfl⟩:=rd2_at h1 hh
 obtain ⟨c1,c2⟩:=rd2_cell h1 hh
 exact ⟨blk,off,h.1,h.2,rfl,c1,c2,h3 i h s hh hi⟩
theorem RdR.always {w:World} {p:Option Addr} {n c:Nat} {b:List Rec} (k:RdR w (.slice p n c) b) {i:Nat} {s:Rec} (hi:b[i]? = some s) :
  ∃blk off h1 h2,p=some ⟨blk,off,none⟩∧(∃p1 c1,h1 = .slice p1 s.1.length c1)∧(∃p2 c2,h2 = .slice p2 s.2.length c2)∧
   ∀w',Below w.heap.size w w'→w'.cell? ⟨blk,off+i*2,none⟩=some h1∧w'.cell? ⟨blk,off+i*2+1,none⟩=some h2∧RecAt w' (h1,h2) s:=by
 obtain ⟨blk,off,h1,h2,e,c1,c2,hs⟩:=k.at hi
 exact ⟨blk,off,h1,h2,e,hs.1.shape,hs.2.shape,fun w' hb=>⟨(hb.cell (World.block_lt_of_cell? w _ c1)).trans c1,(hb.cell (World.block_lt_of_cell? w _ c2)).trans c2,hs.below hb⟩⟩
end Go.Proofs.YtdcgbgecbeegmaaGreatDoor
end
section
set_option maxRecDepth 20000
namespace Go.Proofs.YtdcgbgecbeegmaaGreatDoor
open Go Go.RowKit
abbrev Hd:=Value × Value
theorem labCells_ne {l:List Lab} (h:labCells l≠[]):l≠[]:=fun e=>h (by subst e;rfl)
theorem labCells_ne' {l:List Lab} (h:l≠[]):labCells l≠[]:=fun e=>h (List.eq_nil_of_length_eq_zero (by have:=congrArg List.length e;rw [labCells_length,List.length_nil] at this;omega))
theorem getElem?_snoc {α:Type} {l:List α} {x y:α} {i:Nat} (h:(l++[x])[i]? = some y):l[i]? = some y∨(i=l.length∧y=x):=by
 by_cases hi:i<l.length
 ·rw [List.getElem?_append_left hi] at h;exact Or.inl h
 ·rw [List.getElem?_append_right (by omega)] at h
  have:i-l.length=0:=by
   rcases Nat.eq_zero_or_pos (i-l.length) with e | e
   ·exact e
   ·rw [List.getElem?_eq_none (by simp;omega)] at h;cases h
  rw [this] at h
  simp at h
  exact Or.inr ⟨by omega,h.symm⟩
def RecOff (S:Nat→Prop) (h:Hd) (s:Rec):Prop:=(s.1≠[]→∀k,h.1.ownBlock=some k→¬S k)∧(s.2≠[]→∀k,h.2.ownBlock=some k→¬S k)
theorem i64s_ne {l:List Int} (h:i64s l≠[]):l≠[]:=fun e=>h (by subst e;rfl)
theorem i64s_ne' {l:List Int} (h:l≠[]):i64s l≠[]:=fun e=>h (List.eq_nil_of_length_eq_zero (by have:=congrArg List.length e;rw [i64s_length,List.length_nil] at this;omega))
theorem RecAt.mods {S:Nat→Prop} {w w':World} {h:Hd} {s:Rec} (k:RecAt w h s) (hm:Mods S w w') (ho:RecOff S h s):RecAt w' h s:=
 ⟨k.1.mods' hm (fun e=>ho.1 (labCells_ne e)),k.2.mods' hm (fun e=>ho.2 (i64s_ne e))⟩
theorem RecAt.lt {w:World} {h:Hd} {s:Rec} (k:RecAt w h s):(s.1≠[]→∀j,h.1.ownBlock=some j→j<w.heap.size)∧(s.2≠[]→∀j,h.2.ownBlock=some j→j<w.heap.size):=
 ⟨fun e=>k.1.lt (labCells_ne' e),fun e=>k.2.lt (i64s_ne' e)⟩
structure NrAt (t:TypeId) (w wr:World) (hs:List Hd) (b:List Rec) (v:Value):Prop where
 row:Own2 t (Prod.fst:Hd→Value) Prod.snd w wr hs v
 len:hs.length=b.length
 ser:∀(i:Nat) (h:Hd) (s:Rec),hs[i]? = some h→b[i]? = some s→RecAt wr h s∧RecOff (fun k=>v.ownBlock=some k) h s
theorem NrAt.below {t:TypeId} {w wr w1:World} {hs:List Hd} {b:List Rec} {v:Value} (k:NrAt t w wr hs b v) (hb:Below wr.heap.size wr w1):NrAt t w w1 hs b v:=
 ⟨k.row.below hb,k.len,fun i h s hi hj=>⟨(k.ser i h s hi hj).1.below hb,(k.ser i h s hi hj).2⟩⟩
theorem NrAt.rd {t:TypeId} {w wr:World} {hs:List Hd} {b:List Rec} {v:Value} (k:NrAt t w wr hs b v):RdR wr v b:=⟨⟨hs,k.row.rd,k.len,fun i h s hi hj=>(k.ser i h s hi hj).1⟩⟩
theorem NrAt.pushed {t:TypeId} {w wr w1:World} {hs:List Hd} {b:List Rec} {v v1:Value} {h:Hd} {s:Rec} (k:NrAt t w wr hs b v) (hsr:RecAt wr h s) (ho:RecOff (fun j=>v.ownBlock=some j) h s)
  (k1:w1.ownsRow 0 t 2 v1 (hs.length+1) (two Prod.fst Prod.snd hs++[h.1,h.2])) (m:Mods (fun j=>v.ownBlock=some j) wr w1) (hf:Fresh wr.heap.size v v1):NrAt t w w1 (hs++[h]) (b++[s]) v1:=by
 have hoff:∀(h:Hd) (s:Rec),RecAt wr h s→RecOff (fun j=>v.ownBlock=some j) h s→RecAt w1 h s∧RecOff (fun j=>v1.ownBlock=some j) h s:=fun h s a b=>by
  refine ⟨a.mods m b,fun e j hj hv=>?_,fun e j hj hv=>?_⟩
  ·rcases hf j hv with f | f
   ·exact b.1 e j hj f
   ·have:=a.lt.1 e j hj;omega
  ·rcases hf j hv with f | f
   ·exact b.2 e j hj f
   ·have:=a.lt.2 e j hj;omega
 refine ⟨k.row.pushed k1 m hf,by simp [k.len],fun i h' s' hi hj=>?_⟩
 rcases getElem?_snoc hi with e | ⟨e,rfl⟩
 ·rcases getElem?_snoc hj with f | ⟨f,_⟩
  ·exact hoff _ _ (k.ser i h' s' e f).1 (k.ser i h' s' e f).2
  ·have:=(List.getElem?_eq_some_iff.1 e).1;have:=k.len;omega
 ·rcases getElem?_snoc hj with f | ⟨_,rfl⟩
  ·have:=(List.getElem?_eq_some_iff.1 f).1;have:=k.len;omega
  ·exact hoff _ _ hsr ho
end Go.Proofs.YtdcgbgecbeegmaaGreatDoor
end
section
namespace Go.Proofs.YtdcgbgecbeegmaaGreatDoor
open Go Go.RowKit
def manyCells:TypeDesc→Bool
 | .struct _ | .array _ _=>true
 | _=>false
structure Arr (P:Program) (t e:TypeId) (n:Nat) (z:Value):Prop where
 ht:P.underlying t=some (.array n e)
 hi:∃i,P.info? t=some i∧i.zero=some (.agg (List.replicate n z).toArray)∧i.size=n
 he:∃i,P.info? e=some i∧i.size=1
 hl:∃d,P.underlying e=some d∧manyCells d=false
theorem Arr.mk' {P:Program} {t e:TypeId} {n:Nat} {z:Value} (ht:P.underlying t=some (.array n e)) (hi:(P.info? t).map (fun i=>(i.zero,i.size))=some (some (.agg (List.replicate n z).toArray),n)) (he:(P.info? e).map (·.size)=some 1)
  {d:TypeDesc} (hd:P.underlying e=some d) (hl:manyCells d=false):Arr P t e n z:=by
 obtain ⟨i,h1,h2⟩:=Option.map_eq_some_iff.1 hi
 obtain ⟨j,h3,h4⟩:=Option.map_eq_some_iff.1 he
 simp only [Prod.mk.injEq] at h2
 exact ⟨ht,⟨i,h1,h2.1,h2.2⟩,⟨j,h3,h4⟩,⟨d,hd,hl⟩⟩
theorem mods_setRow (w:World) (g:Nat) (cs:Array Value):Mods (fun k=>k=g) w (w.setRow g cs):=
 ⟨rfl,rfl,rfl,by simp,fun k _ hs=>setRow_other w g k cs hs⟩
section
variable {P:Program} {ops:Array Oper} {rest:List Oper} {o:Oper} {a:Act} {w:World} {Q:Exit→Act→World→Prop} {t e:TypeId} {n:Nat} {z:Value}
theorem wpList_boxA (hg:o.guard=none) (t:TypeId) (x:Operand) (ho:o.op = .box t x) (cs:List Value) (hx:a.eval x = .agg cs.toArray)
  (h:∀w',Blk w' w.heap.size cs→Below w.heap.size w w'→w'.heap.size=w.heap.size+1→wpList P ops Q rest (a.put o.dst (.pointer (some ⟨w.heap.size,0,none⟩))) w'):wpList P ops Q (o::rest) a w:=by
 refine wpList_plain hg fun K hK=>?_
 unfold Oper.wp execOp
 simp only [ho,hx,Sem.run_bind,Instr.box,newVar,newRow,run_newObj_alloc,Sem.run_pure,Result.andThen_ok]
 exact hK _ _ (h _ (by simpa [Value.cells] using Blk.new w cs.toArray t) ((Below.refl _ _).alloc (Nat.le_refl _) _) (by simp))
theorem wpList_allocA (hA:Arr P t e n z) (hg:o.guard=none) (ho:o.op = .alloc t)
  (h:∀w',Blk w' w.heap.size (List.replicate n z)→Below w.heap.size w w'→w'.heap.size=w.heap.size+1→wpList P ops Q rest (a.put o.dst (.pointer (some ⟨w.heap.size,0,none⟩))) w'):wpList P ops Q (o::rest) a w:=by
 obtain ⟨i,hi,hz,hs⟩:=hA.hi
 refine wpList_plain hg fun K hK=>?_
 have hzv:(zeroValue t).run P w = .ok (.agg (List.replicate n z).toArray) w:=by simp [zeroValue,typeInfo,hi,hz]
 unfold Oper.wp execOp
 simp only [ho,Sem.run_bind,Instr.alloc,hzv,newVar,newRow,run_newObj_alloc,Sem.run_pure,Result.andThen_ok]
 exact hK _ _ (h _ (by simpa [Value.cells] using Blk.new w (List.replicate n z).toArray t) ((Below.refl _ _).alloc (Nat.le_refl _) _) (by simp))
theorem wpList_loadA (hA:Arr P t e n z) (hgd:o.guard=none) (x:Operand) (ho:o.op = .load t x) (g:Nat) (hx:a.eval x = .pointer (some ⟨g,0,none⟩)) (cs:List Value) (hb:Blk w g cs) (hl:cs.length=n)
  (h:wpList P ops Q rest (a.put o.dst (.agg cs.toArray)) w):wpList P ops Q (o::rest) a w:=by
 obtain ⟨u,hg⟩:=hb
 obtain ⟨i,hi,_,hs⟩:=hA.hi
 exact wpList_load_row hgd t x ho g hx u cs.toArray (0,0) _ hg hA.ht rfl (by rw [hi];simp [hs,hl]) h
theorem wpList_storeA (hA:Arr P t e n z) (hgd:o.guard=none) (x y:Operand) (ho:o.op = .store t x y) (g:Nat) (hx:a.eval x = .pointer (some ⟨g,0,none⟩)) (cs old:List Value) (hy:a.eval y = .agg cs.toArray)
  (hb:Blk w g old) (hold:old.length=n) (hl:cs.length=n) (h1:∀u∈cs,u.oneCell'=true)
  (h:∀w',Blk w' g cs→Mods (fun k=>k=g) w w'→w'.heap.size=w.heap.size→wpList P ops Q rest (a.put o.dst undef) w'):wpList P ops Q (o::rest) a w:=by
 obtain ⟨u,hg⟩:=hb
 obtain ⟨i,hi,_,hs⟩:=hA.hi
 refine wpList_store_row hgd t x y ho g cs.toArray hx hy u old.toArray hg (by rw [hi];simp [hs,hl]) (by simp [hold,hl]) (by simpa using h1) ?_
 exact h _ ⟨u,setRow_heap w g _ _ u _ hg⟩ (mods_setRow w g _) (by simp)
theorem wpList_indexA (hA:Arr P t e n z) (hgd:o.guard=none) (x y:Operand) (ho:o.op = .index t x y) (cs:List Value) (hx:a.eval x = .agg cs.toArray) (i:Nat) (hy:a.eval y = .int .i64 (i:Int)) (hi:i<n) (v:Value) (hv:cs[i]? = some v)
  (h:wpList P ops Q rest (a.put o.dst v) w):wpList P ops Q (o::rest) a w:=by
 obtain ⟨ie,hie,hs⟩:=hA.he
 obtain ⟨d,hd,hnd⟩:=hA.hl
 refine wpList_plain hgd fun K hK=>?_
 have hag:(isAgg e).run P w = .ok false w:=by
  unfold isAgg
  rw [Sem.run_bind,run_underlying hd w]
  cases d<;>simp_all [manyCells]
 have hr:(Instr.index t (.agg cs.toArray) (.int .i64 (i:Int))).run P w = .ok v w:=by
  have hp:(part e cs.toArray i).run P w = .ok v w:=by
   unfold part
   simp [Sem.run_bind,hag,hv]
  simp [Instr.index,asIntOf,Sem.run_bind,run_underlying hA.ht w,sizeOf,typeInfo,hie,hs,hp]
  exact fun hn=>absurd hn (by omega)
 unfold Oper.wp execOp
 simp only [ho,hx,hy,Sem.run_bind,hr,Result.andThen_ok]
 exact hK _ _ h
theorem resultsA (hA:Arr P t e n z) {fn:Func} {p:Tmp} (h:fn.results = #[.cell p t]) (tmps:Array Value) (g:Nat) (hp:tmps.getD p undef = .pointer (some ⟨g,0,none⟩)) (cs:List Value) (hb:Blk w g cs) (hl:cs.length=n) :
  (results fn tmps).run P w = .ok (.agg cs.toArray) w:=by
 obtain ⟨u,hg⟩:=hb
 obtain ⟨i,hi,_,hs⟩:=hA.hi
 exact results_cell_row h tmps w g u cs.toArray (0,0) _ hp hg hA.ht rfl (by rw [hi];simp [hs,hl])
end
end Go.Proofs.YtdcgbgecbeegmaaGreatDoor
end
section
namespace Go.Proofs.YtdcgbgecbeegmaaGreatDoor
open Go Go.RowKit
theorem Tryz.infoU8:(Tryz.prog.info? 5).map (fun i=>(i.zero,i.size,i.bytes))=some (some (.int .u8 0),1,1):=by kernel_rfl
theorem Tryz.elemU8:Elem Tryz.prog 25 5 1 1:=Elem.mk' Tryz.underlying25 Tryz.infoU8 rfl (by decide)
theorem lit_rd_mark (w:World) (cs:Array Value) (fr:Nat × Nat) (l:List Nat) (n:Nat) (h:cs.toList=u8s l) (hl:l.length=n) (hn:n≤maxLen):Rd (w.alloc (.cells cs 5 fr)) 1 (.slice (some ⟨w.heap.size,0,none⟩) n n) l.length (u8s l):=by
 subst hl
 refine ⟨_,_,rfl,by simp [u8s_length],Nat.le_refl _,hn,(fun e=>by cases e),fun ad e j u hu=>?_⟩
 cases e
 have e1:(⟨w.heap.size,0,none⟩:Addr).add j=⟨w.heap.size,j,none⟩:=by unfold Addr.add;split<;>simp_all
 rw [e1,World.cell?_alloc_mark,← Array.getElem?_toList,h]
 exact hu
theorem calls_flip {P:Program} {f:FuncId} {args:Array Value} {w:World} {r:Ending} (h:Calls P f args w fun e w'=>e=r∧w=w'):Calls P f args w fun e w'=>e=r∧w'=w:=h.mono fun _ _ h=>⟨h.1,h.2.symm⟩
abbrev OwnB:=Own1 5 (fun c:Nat=>Value.int .u8 (c:Int))
structure GotB (w:World) (o:Nat × List Nat) (e:Ending) (w':World):Prop where
 res:∃r,e = .returned (.tuple #[r,.int .i64 (o.1:Int)])∧Rd w' 1 r o.2.length (u8s o.2)∧(∀k,r.ownBlock=some k→w.heap.size≤k)
 bel:Below w.heap.size w w'
set_option maxHeartbeats 400000 in
theorem ref_encode (x:Nat) (hx:x<18446744073709551616) (w:World) :
  Calls Tryz.prog 76 #[.int .u64 (x:Int)] w fun e w'=>∃r,e = .returned r∧Made w w' 5 1 r (groups x).length (u8s (groups x)):=by
 induction x using Nat.strongRecOn generalizing w with
 | _ x ih=>
  by_cases h:x<128
  ·have hlt:(x:Int)<128:=by omega
   rw [groups_small h]
   clear ih
   go_enter Tryz.func76,Tryz.ntmps76
   go_wp2
   go_ret
   exact ⟨_,rfl,World.ownsRow_lit (base:=w.heap.size) w #[.int .u8 (x:Int)] 1 (Nat.le_refl _) (by simp [maxLen]) (by simp),(Below.refl _ _).alloc (Nat.le_refl _) _⟩
  ·have hlt:¬(x:Int)<128:=by omega
   have HI:=Lib.hid (ih (x / 128) (by omega) (by omega))
   have hlen:=groups_len 8 (x / 128) (by omega)
   have hd:((x / 128:Nat):Int)=(x:Int) / 128:=by omega
   have HD:=Lib.hid hd
   clear ih hd
   go_enter Tryz.func76,Tryz.ntmps76
   go_wp2_with fail
   rw [← HD.out]
   refine (HI.out _).mono ?_
   rintro e w' ⟨r,rfl,hM⟩
   obtain ⟨rp,rc,hr⟩:=(Rd.of_owns hM.1).shape
   subst hr
   have HR:=Lib.hid (Rd.of_owns hM.1)
   have hB:Below w.heap.size w w':=((Below.refl _ w).alloc (Nat.le_refl _) _).trans (hM.2.mono (by simp))
   have HB:=Lib.hid hB
   have HO:Hid (w'.ownsRow 0 5 1 (.slice (some ⟨w.heap.size,0,none⟩) 1 1) 1 [.int .u8 ((x:Int) % 128+128)]):=
    (Mods.of_below hM.2 (fun _=>False)).owns (World.ownsRow_lit (base:=0) w #[.int .u8 ((x:Int) % 128+128)] 1 (Nat.zero_le _) (by simp [maxLen]) (by simp)) (fun _ _ e=>e)
   have HL:Hid ((1+(groups (x / 128)).length)*1≤140737488355328∧1+(groups (x / 128)).length≤maxLen):=by show _∧_;unfold maxLen;omega
   clear hM hB
   go_wp2_with (at_builtin;refine wpList_extend Tryz.elemU8 _ _ _ _ _ _ _ HO.out HR.out (u8s_oneCell _) HL.out rfl _ _ rfl rfl rfl ?_)
   intro v' w2 hown hmods hfr
   have HM:Hid (Made w w2 5 1 v' (groups x).length (u8s (groups x))):=by
    refine ⟨?_,HB.out.trans (hmods.below HB.out.size (fun k hk e=>by simp [Value.ownBlock] at e;omega))⟩
    have h2:=owns_rebase hown (base':=w.heap.size) (fun k hk=>by
     rcases hfr k hk with e | e
     ·simp [Value.ownBlock] at e;omega
     ·have:=HB.out.size;omega)
    rw [groups_big h,List.length_cons,Nat.add_comm]
    simpa [u8s] using h2
   clear hown hmods hfr
   go_wp2
   go_ret
   exact ⟨_,rfl,HM.out⟩
set_option maxHeartbeats 400000 in
theorem ref_get_arg (v:Value) (l:List Nat) (o:Int) (w:World) (h:Rd w 1 v l.length (u8s l)) (ho:o<0∨(l.length:Int)<o) :
  Calls Tryz.prog 84 #[v,.int .i64 o] w fun e w'=>e = .returned (.tuple #[.int .u64 0,.int .i64 0,.int .i64 2])∧w=w':=by
 obtain ⟨p,c,hv⟩:=h.shape
 subst hv
 clear h
 by_cases hneg:o<0
 ·clear ho
  go_enter Tryz.func84,Tryz.ntmps84
  go_wp2_with fail
  go_ret3
  exact ⟨rfl,rfl⟩
 ·have ho':(l.length:Int)<o:=by omega
  clear ho
  go_enter Tryz.func84,Tryz.ntmps84
  go_wp2_with fail
  go_ret3
  exact ⟨rfl,rfl⟩
set_option maxHeartbeats 400000 in
theorem ref_get_in (v:Value) (l:List Nat) (o:Nat) (w:World) (h:Rd w 1 v l.length (u8s l)) (ho:o≤l.length) (hl:∀c∈l,c<256) :
  Calls Tryz.prog 84 #[v,.int .i64 (o:Int)] w fun e w'=>e = .returned (.tuple #[.int .u64 ((readAt l o).1:Int),.int .i64 (readAt l o).2.1,.int .i64 ((readAt l o).2.2:Int)])∧w=w':=by
 have hmax:(l.length:Int)≤9223372036854775807:=by have:=h.le;unfold maxLen at this;omega
 obtain ⟨p,c,hv⟩:=h.shape
 subst hv
 have hle:¬(l.length:Int)<(o:Int):=by omega
 have H2:=Lib.hid h;clear h
 have HM:=Lib.hid hl;clear hl
 have HR:Hid (∀a n e,readFrom (l.drop o) 0 0=(a,n,e)→readAt l o=(a,(if e=0 then (o:Int)+n else 0),e)):=fun a n e h=>readAt_in ho h
 go_enter Tryz.func84,Tryz.ntmps84
 go_wp2_with fail
 go_loop [7,8,9] (fun x n i=>∃(k y U:Nat),i = .int .i64 (k:Int)∧x = .int .u64 (y:Int)∧n = .int .u64 (U:Int)∧o+k≤l.length∧k≤9∧y<U∧Hid (U=2 ^ (7*k))∧U≤9223372036854775808∧Hid (readFrom (l.drop o) 0 0=readFrom (l.drop (o+k)) k y)) (fun _ _ i=>l.length-o-(intOf i).toNat)
 case atStart=>exact ⟨0,0,1,rfl,rfl,rfl,by omega,by omega,by omega,rfl,by omega,rfl⟩
 case round=>
  obtain ⟨k,y,U,rfl,rfl,rfl,hk,hk9,hy,hU,hU2,hrf⟩:=hrel
  have hok:(o:Int)+(k:Int)≤(l.length:Int):=by omega
  by_cases hlt:o+k<l.length
  ·have hlt':¬(l.length:Int)≤(o:Int)+(k:Int):=by omega
   obtain ⟨b,off,c',e,_,_,hc⟩:=H2.out.at (fun e=>by have:=congrArg List.length e;rw [u8s_length] at this;simp at this;subst this;simp at hlt)
   simp only [Value.slice.injEq] at e
   obtain ⟨rfl,_,rfl⟩:=e
   obtain ⟨u,hu⟩:∃u,l[o+k]=u:=⟨_,rfl⟩
   have hcell:w.cell? ⟨b,off+(o+k),none⟩=some (.int .u8 (u:Int)):=by rw [← hu];exact hc (o+k) _ (u8s_get _ _ hlt)
   have hu256:u<256:=hu ▸ HM.out _ (List.getElem_mem hlt)
   have hdrop:l.drop (o+k)=u::l.drop (o+(k+1)):=by rw [← hu];exact List.drop_eq_getElem_cons hlt
   have HF:Hid (readFrom (l.drop o) 0 0=readFrom (u::l.drop (o+(k+1))) k y):=by show _=_;rw [← hdrop];exact hrf.out
   clear hc hdrop hrf hu
   by_cases h9:k=9∧1<u
   ·obtain ⟨rfl,h1⟩:=h9
    have h1':(1:Int)<(u:Int):=by omega
    have HA:=Lib.hid (HR.out 0 0 6 (by rw [HF.out,readFrom,if_pos ⟨rfl,h1⟩]))
    go_wp2
    go_ret3
    exact ⟨by rw [HA.out];rfl,rfl⟩
   ·by_cases hk9':k=9
    ·subst hk9'
     have h1:¬(1:Int)<(u:Int):=by omega
     have hUe:U=9223372036854775808:=hU.out
     subst hUe
     by_cases hu0:u=0
     ·subst hu0
      have HA:=Lib.hid (HR.out 0 0 5 (by rw [HF.out,readFrom,if_neg (by omega),if_neg (by omega),if_pos (by omega)]))
      go_wp2
      go_ret3
      exact ⟨by rw [HA.out];rfl,rfl⟩
     ·obtain rfl:u=1:=by omega
      have HA:=Lib.hid (HR.out (y+9223372036854775808) 10 0 (by rw [HF.out,readFrom,if_neg (by omega),if_neg (by omega),if_neg (by omega),Nat.one_mul]))
      clear HF HR
      go_wp2
      go_ret3
      exact ⟨by rw [HA.out,if_pos trivial];rfl,rfl⟩
    ·have hk9i:¬(k:Int)=9:=by omega
     have hU3:U≤72057594037927936:=by rw [hU.out];exact pow_seven (by omega)
     obtain ⟨hp,hp2⟩:=add_group y u U hy hU3
     have HP:=Lib.hid hp;have HP2:=Lib.hid hp2
     have HE:Hid (∀c:Nat,y+c*U=y+c*2 ^ (7*k)):=fun c=>by rw [← hU.out]
     have HU1:Hid (U*128=2 ^ (7*(k+1))):=by show _=_;rw [hU.out,show 7*(k+1)=7*k+7 from by omega,Nat.pow_add]
     clear h9 hp hp2
     by_cases hbig:128≤u
     ·have hbig':¬(u:Int)<128:=by omega
      have HD:Hid (readFrom (l.drop o) 0 0=readFrom (l.drop (o+(k+1))) (k+1) (y+u % 128*U)):=by show _=_;rw [HF.out,readFrom,if_neg (by omega),if_pos hbig,HE.out]
      go_wp2
      go_round
      case rel=>exact ⟨k+1,_,U*128,by go_num,by rw [HP.out],by go_num,by omega,by omega,HP2.out,HU1.out,by omega,HD.out⟩
      case measure=>simp [intOf];omega
     ·have hbig':(u:Int)<128:=by omega
      clear hU2
      by_cases h0:u=0∧0<k
      ·obtain ⟨rfl,hk0⟩:=h0
       have hk0':(0:Int)<(k:Int):=by omega
       have HA:=Lib.hid (HR.out 0 0 5 (by rw [HF.out,readFrom,if_neg (by omega),if_neg (by omega),if_pos ⟨rfl,hk0⟩]))
       go_wp2
       go_ret3
       exact ⟨by rw [HA.out];rfl,rfl⟩
      ·have HA:=Lib.hid (HR.out (y+u*U) (k+1) 0 (by rw [HF.out,readFrom,if_neg (by omega),if_neg hbig,if_neg h0,HE.out]))
       have HU:Hid (u % 128=u):=by show _=_;omega
       by_cases hu0:u=0
       ·subst hu0
        obtain rfl:k=0:=by omega
        obtain rfl:U=1:=by simpa using hU.out
        obtain rfl:y=0:=by omega
        rw [Nat.add_zero] at hcell
        clear HP HP2 HE HU1
        go_wp2
        go_ret3
        exact ⟨by rw [HA.out];simp,rfl⟩
       ·have hu0':¬(u:Int)=0:=by omega
        go_wp2
        go_ret3
        exact ⟨by rw [HA.out,HP.out,HU.out];simp;omega,rfl⟩
  ·have hlt':(l.length:Int)≤(o:Int)+(k:Int):=by omega
   have HA:=Lib.hid (HR.out 0 0 3 (by rw [hrf.out,List.drop_eq_nil_of_le (by omega),readFrom]))
   go_wp2
   go_ret3
   exact ⟨by rw [HA.out];rfl,rfl⟩
theorem ref_get (v:Value) (l:List Nat) (o:Int) (w:World) (h:Rd w 1 v l.length (u8s l)) (hl:∀c∈l,c<256) :
  Calls Tryz.prog 84 #[v,.int .i64 o] w fun e w'=>e = .returned (.tuple #[.int .u64 ((readAt l o).1:Int),.int .i64 (readAt l o).2.1,.int .i64 ((readAt l o).2.2:Int)])∧w=w':=by
 by_cases ho:o<0∨(l.length:Int)<o
 ·rw [show readAt l o=(0,0,2) by rw [readAt,if_pos ho]]
  exact ref_get_arg v l o w h ho
 ·obtain ⟨k,rfl⟩:∃k:Nat,o=k:=⟨o.toNat,by omega⟩
  exact ref_get_in v l k w h (by omega) hl
end Go.Proofs.YtdcgbgecbeegmaaGreatDoor
end
section
set_option maxRecDepth 20000
namespace Go.Proofs.YtdcgbgecbeegmaaGreatDoor
open Go Go.RowKit
def natI (l:List Nat):List Value:=l.map fun n:Nat=>.int .i64 (n:Int)
theorem natI_length (l:List Nat):(natI l).length=l.length:=by simp [natI]
theorem natI_get {l:List Nat} {i x:Nat} (h:l[i]? = some x):(natI l)[i]? = some (.int .i64 (x:Int)):=by simp [natI,h]
structure RdS (w:World) (vs:List Value) (S:List (List Nat)):Prop where
 len:vs.length=S.length
 at_:∀(i:Nat) (v:Value) (d:List Nat),vs[i]? = some v→S[i]? = some d→Rd w 1 v d.length (u8s d)
theorem RdS.below {w w':World} {vs:List Value} {S:List (List Nat)} (h:RdS w vs S) (hb:Below w.heap.size w w'):RdS w' vs S:=⟨h.len,fun i v d h1 h2=>(h.at_ i v d h1 h2).below hb⟩
theorem RdS.get {w:World} {vs:List Value} {S:List (List Nat)} (h:RdS w vs S) {i:Nat} {d:List Nat} (hd:S[i]? = some d):∃p c,vs[i]? = some (.slice p d.length c)∧Rd w 1 (.slice p d.length c) d.length (u8s d):=by
 have hi:=(List.getElem?_eq_some_iff.1 hd).1
 obtain ⟨v,hv⟩:∃v,vs[i]? = some v:=⟨_,List.getElem?_eq_getElem (by rw [h.len];exact hi)⟩
 have hr:=h.at_ i v d hv hd
 obtain ⟨p,c,rfl⟩:=hr.shape
 exact ⟨p,c,hv,hr⟩
theorem list4_of {α:Type} {l:List α} (h:l.length=4):∃a b c d,l=[a,b,c,d]:=by
 match l,h with
 | [a,b,c,d],_=>exact ⟨a,b,c,d,rfl⟩
theorem contents_step {l:List Nat} {i x:Nat} (h:l[i]? = some x):contents (l.take (i+1))=contents (l.take i)++groups x:=by
 rw [List.take_add_one,h];simp [contents]
end Go.Proofs.YtdcgbgecbeegmaaGreatDoor
end
section
namespace Go.Proofs.YtdcgbgecbeegmaaGreatDoor
open Go Go.RowKit
structure RRd (w:World) (q:Nat) (v:Value) (B:List Nat) (a:Nat) (e:Int):Prop where
 blk:Blk w q [v,.int .i64 (a:Int),.int .i64 e]
 rd:Rd w 1 v B.length (u8s B)
 ne:B≠[]→∀k,v.ownBlock=some k→k≠q
theorem u8s_ne {B:List Nat} (h:u8s B≠[]):B≠[]:=fun e=>h (by subst e;rfl)
theorem RRd.mods' {S:Nat→Prop} {w w':World} {q:Nat} {v:Value} {B:List Nat} {a:Nat} {e:Int} (h:RRd w q v B a e) (hm:Mods S w w') (hq:¬S q) (hv:B≠[]→∀k,v.ownBlock=some k→¬S k):RRd w' q v B a e:=⟨hm.blk h.blk hq,h.rd.mods' hm (fun e=>hv (u8s_ne e)),h.ne⟩
theorem RRd.mods {S:Nat→Prop} {w w':World} {q:Nat} {v:Value} {B:List Nat} {a:Nat} {e:Int} (h:RRd w q v B a e) (hm:Mods S w w') (hq:¬S q) (hv:∀k,v.ownBlock=some k→¬S k):RRd w' q v B a e:=h.mods' hm hq (fun _=>hv)
theorem RRd.below {w w':World} {q:Nat} {v:Value} {B:List Nat} {a:Nat} {e:Int} (h:RRd w q v B a e) (hb:Below w.heap.size w w'):RRd w' q v B a e:=h.mods (Mods.of_below hb (fun _=>False)) (fun h=>h) (fun _ _ h=>h)
theorem RRd.drewN {w:World} {q:Nat} {v:Value} {B:List Nat} {a:Nat} {e:Int} (h:RRd w q v B a e) (n:Nat):RRd (w.drewN n) q v B a e:=h.mods (Mods.drewN (fun _=>False) w n) (fun h=>h) (fun _ _ h=>h)
theorem RRd.cells {w:World} {q:Nat} {v:Value} {B:List Nat} {a:Nat} {e:Int} (h:RRd w q v B a e):w.cell? ⟨q,0,none⟩=some v∧w.cell? ⟨q,1,none⟩=some (.int .i64 (a:Int))∧w.cell? ⟨q,2,none⟩=some (.int .i64 e)∧w.frozen? ⟨q,1,none⟩=false∧w.frozen? ⟨q,2,none⟩=false:=
 ⟨by rw [h.blk.cell];rfl,by rw [h.blk.cell];rfl,by rw [h.blk.cell];rfl,h.blk.free 1,h.blk.free 2⟩
theorem RRd.setErr {w:World} {q:Nat} {v:Value} {B:List Nat} {a:Nat} {e:Int} (h:RRd w q v B a e) (x:Int):RRd (w.setCell ⟨q,2,none⟩ (.int .i64 x)) q v B a x:=
 ⟨h.blk.set 2 _,h.rd.mods' (Mods.set (fun j=>j=q) _ _ _ (fun _=>rfl)) (fun e=>h.ne (u8s_ne e)),h.ne⟩
theorem RRd.setAt {w:World} {q:Nat} {v:Value} {B:List Nat} {a:Nat} {e:Int} (h:RRd w q v B a e) (b:Nat):RRd (w.setCell ⟨q,1,none⟩ (.int .i64 (b:Int))) q v B b e:=
 ⟨h.blk.set 1 _,h.rd.mods' (Mods.set (fun j=>j=q) _ _ _ (fun _=>rfl)) (fun e=>h.ne (u8s_ne e)),h.ne⟩
theorem mods_set (w:World) (q i:Nat) (u:Value):Mods (fun k=>k=q) w (w.setCell ⟨q,i,none⟩ u):=Mods.set _ _ _ _ (fun _=>rfl)
def Got {α:Type} (o:Out α) (val:α→Value) (z:Value) (inv:Nat→Int→Prop) (a:Nat) (en:Ending):Prop:=match o with
 | .ok x b=>en = .returned (val x)∧inv b 0
 | .bad e=>en = .returned z∧inv a (e:Int)
theorem rr_fail (q:Nat) (v:Value) (B:List Nat) (a:Nat) (e x:Int) (w:World) (h:RRd w q v B a e) :
  Calls Tryz.prog 44 #[.pointer (some ⟨q,0,none⟩),.int .i64 x] w fun en w'=>en = .returned (.tuple #[])∧RRd w' q v B a (if e=0 then x else e)∧Mods (fun k=>k=q) w w':=by
 obtain ⟨c0,c1,c2,f1,f2⟩:=h.cells
 have H:=Lib.hid h
 clear h
 by_cases he:e=0
 ·subst he
  go_enter Tryz.func44,Tryz.ntmps44
  go_wp2
  go_end0
  exact ⟨rfl,by simpa using H.out.setErr x,mods_set _ _ _ _⟩
 ·go_enter Tryz.func44,Tryz.ntmps44
  go_wp2
  go_end0
  exact ⟨rfl,by simpa [he] using H.out,Mods.refl _ _⟩
set_option maxHeartbeats 400000 in
theorem rr_end (q:Nat) (v:Value) (B:List Nat) (a:Nat) (e:Int) (w:World) (h:RRd w q v B a e) :
  Calls Tryz.prog 46 #[.pointer (some ⟨q,0,none⟩)] w fun en w'=>en = .returned (.int .i64 (if e=0∧a<B.length then 4 else e))∧∃n,w'=w.drewN n:=by
 obtain ⟨c0,c1,c2,f1,f2⟩:=h.cells
 obtain ⟨p,c,hv⟩:=h.rd.shape
 subst hv
 clear h
 by_cases he:e=0
 ·subst he
  by_cases hlt:a<B.length
  ·have hlt2:(a:Int)<(B.length:Int):=by omega
   have HE:Hid ((if (0:Int)=0∧a<B.length then (4:Int) else 0)=4):=if_pos ⟨rfl,hlt⟩
   rw [HE.out]
   go_enter Tryz.func46,Tryz.ntmps46
   go_wp2_with fail
   go_quiet (fail)
   go_wp2_with fail
   go_ret
   exact ⟨rfl,_,rfl⟩
  ·have hlt2:¬(a:Int)<(B.length:Int):=by omega
   have HE:Hid ((if (0:Int)=0∧a<B.length then (4:Int) else 0)=0):=if_neg (fun h=>hlt h.2)
   rw [HE.out]
   go_enter Tryz.func46,Tryz.ntmps46
   go_wp2_with fail
   go_quiet (fail)
   go_wp2_with fail
   go_ret
   exact ⟨rfl,_,rfl⟩
 ·have HE:Hid ((if e=0∧a<B.length then (4:Int) else e)=e):=if_neg (fun h=>he h.1)
  rw [HE.out]
  have heb:(e == 0)=false:=by rw [beq_eq_false_iff_ne];exact he
  go_enter Tryz.func46,Tryz.ntmps46
  go_wp2_with fail
  go_quiet (fail)
  go_wp2_with fail
  go_ret
  exact ⟨rfl,_,rfl⟩
set_option maxHeartbeats 1000000 in
theorem rr_uint (q:Nat) (v:Value) (B:List Nat) (a most:Nat) (w:World) (h:RRd w q v B a 0) (hB:∀c∈B,c<256) (ha:a≤B.length) (hm:most<18446744073709551616) :
  Calls Tryz.prog 45 #[.pointer (some ⟨q,0,none⟩),.int .u64 (most:Int)] w fun en w'=>Mods (fun k=>k=q) w w'∧Got (outUint B a most) (fun c=>.int .u64 (c:Int)) (.int .u64 0) (fun b e=>RRd w' q v B b e) a en:=by
 obtain ⟨c0,c1,c2,f1,f2⟩:=h.cells
 have H:=Lib.hid h
 have HB:=Lib.hid hB
 obtain ⟨p,c,hv⟩:=h.rd.shape
 subst hv
 have hcs:=outUint_cases hB ha most
 have HG:=Lib.hid (fun n=>calls_flip (ref_get (.slice p B.length c) B (a:Int) (w.drewN n) (h.drewN n).rd hB))
 clear h hB
 go_enter Tryz.func45,Tryz.ntmps45
 go_wp2_with fail
 go_quiet ((go_at_call 84;exact Calls.quiet_of_same (HG.out _)))
 have H1:=Lib.hid (H.out.drewN nq)
 obtain ⟨c0,c1,c2,f1,f2⟩:=H1.out.cells
 have HM1:Hid (Mods (fun k=>k=q) w (w.drewN nq)):=Mods.drewN _ _ _
 generalize w.drewN nq=w1 at *
 clear HG H
 rcases hcs with ⟨e,he,hr,ho⟩ | ⟨x,to,hr,hto,htl,hx,ho⟩
 ·rw [hr]
  have HO:=Lib.hid ho
  have heb:((e:Int) == 0)=false:=by rw [beq_eq_false_iff_ne];omega
  clear hr ho
  go_wp2_with fail
  refine (rr_fail q _ B a 0 (e:Int) _ H1.out).mono ?_
  rintro en w2 ⟨rfl,hR,hm⟩
  rw [if_pos rfl] at hR
  have HM:=Lib.hid (HM1.out.trans hm (fun _ _ e=>e))
  have HR:=Lib.hid hR
  clear hR hm
  go_wp2_with fail
  go_ret
  exact ⟨HM.out,by rw [HO.out];exact ⟨rfl,HR.out⟩⟩
 ·rw [hr]
  have HO:=Lib.hid ho
  clear hr ho
  by_cases hlt:most<x
  ·have hlt':(most:Int)<(x:Int):=by omega
   rw [if_pos hlt] at HO
   go_wp2_with fail
   refine (rr_fail q _ B a 0 7 _ H1.out).mono ?_
   rintro en w2 ⟨rfl,hR,hm⟩
   rw [if_pos rfl] at hR
   have HM:=Lib.hid (HM1.out.trans hm (fun _ _ e=>e))
   have HR:=Lib.hid hR
   clear hR hm
   go_wp2_with fail
   go_ret
   exact ⟨HM.out,by rw [HO.out];exact ⟨rfl,HR.out⟩⟩
  ·have hlt':¬(most:Int)<(x:Int):=by omega
   rw [if_neg hlt] at HO
   go_wp2_with fail
   go_ret
   exact ⟨HM1.out.trans (mods_set _ q 1 _) (fun _ _ e=>e),by rw [HO.out];exact ⟨rfl,H1.out.setAt to⟩⟩
theorem rr_uint_err (q:Nat) (v:Value) (B:List Nat) (a:Nat) (e:Int) (x:Value) (w:World) (h:RRd w q v B a e) (he:e≠0) :
  Calls Tryz.prog 45 #[.pointer (some ⟨q,0,none⟩),x] w fun en w'=>en = .returned (.int .u64 0)∧w=w':=by
 obtain ⟨c0,c1,c2,f1,f2⟩:=h.cells
 clear h
 have heb:(e == 0)=false:=by rw [beq_eq_false_iff_ne];exact he
 go_enter Tryz.func45,Tryz.ntmps45
 go_wp2_with fail
 go_ret
 exact ⟨rfl,rfl⟩
end Go.Proofs.YtdcgbgecbeegmaaGreatDoor
end
section
namespace Go.Proofs.YtdcgbgecbeegmaaGreatDoor
def outCount (B:List Nat) (a:Nat):Out Nat:=match readAt B (a:Int) with
 | (n,to,0)=>if B.length-to.toNat<n then .bad 3 else .ok n to.toNat
 | (_,_,e+1)=>.bad (e+1)
theorem pList_count {α:Type} (z:Nat) (p:List Nat→Nat→Out α) (B:List Nat) (a:Nat):pList z p B a=match outCount B a with
 | .bad e=>.bad e
 | .ok n b=>if z≠0∧n=0 then .bad z else pMany p B n b []:=by
 unfold pList outCount
 rcases readAt B (a:Int) with ⟨n,to,e⟩
 cases e with
 | zero=>
  simp only
  by_cases h:B.length-to.toNat<n
  ·rw [if_pos h,if_pos h]
  ·rw [if_neg h,if_neg h]
 | succ e=>rfl
theorem outCount_cases {B:List Nat} (hB:∀c∈B,c<256) {a:Nat} (ha:a≤B.length) :
  (∃e,e≠0∧outUint B a 18446744073709551615 = .bad e∧outCount B a = .bad e)∨
  (∃n b,outUint B a 18446744073709551615 = .ok n b∧n<18446744073709551616∧a<b∧b≤B.length∧outCount B a=if B.length-b<n then .bad 3 else .ok n b):=by
 rcases readAt_cases hB ha with ⟨e,he,hr⟩ | ⟨y,n,hr,hn,hin,hg,hy⟩
 ·obtain ⟨k,rfl⟩:∃k,e=k+1:=⟨e-1,by omega⟩
  exact Or.inl ⟨k+1,he,by rw [outUint,hr],by rw [outCount,hr]⟩
 ·exact Or.inr ⟨y,a+n,by rw [outUint,hr];simp only [Int.toNat_natCast];rw [if_neg (by omega)],hy,by omega,hin,by rw [outCount,hr];simp only [Int.toNat_natCast]⟩
theorem pNum_cases {α:Type} (g:Nat→Option α) (z:Nat) {B:List Nat} (hB:∀c∈B,c<256) {a:Nat} (ha:a≤B.length) :
  (∃e,e≠0∧outUint B a 18446744073709551615 = .bad e∧pNum g z B a = .bad e)∨
  (∃n b,outUint B a 18446744073709551615 = .ok n b∧n<18446744073709551616∧a<b∧b≤B.length∧pNum g z B a=match g n with
   | some x=>.ok x b
   | none=>.bad z):=by
 rcases readAt_cases hB ha with ⟨e,he,hr⟩ | ⟨y,n,hr,hn,hin,hg,hy⟩
 ·obtain ⟨k,rfl⟩:∃k,e=k+1:=⟨e-1,by omega⟩
  exact Or.inl ⟨k+1,he,by rw [outUint,hr],by rw [pNum,hr]⟩
 ·exact Or.inr ⟨y,a+n,by rw [outUint,hr];simp only [Int.toNat_natCast];rw [if_neg (by omega)],hy,by omega,hin,by rw [pNum,hr];simp only [Int.toNat_natCast];cases g y<;>rfl⟩
end Go.Proofs.YtdcgbgecbeegmaaGreatDoor
end
section
set_option maxRecDepth 20000
namespace Go.Proofs.YtdcgbgecbeegmaaGreatDoor
open Go Go.RowKit
theorem strs_ne {t:List ByteArray} (h:strs t≠[]):t≠[]:=fun e=>h (by subst e;rfl)
def GotE {α:Type} (o:Out α) (val:α→Value) (z:Value) (inv:Nat→Int→Prop) (en:Ending):Prop:=match o with
 | .ok x b=>en = .returned (val x)∧inv b 0
 | .bad e=>en = .returned z∧∃a,inv a (e:Int)
set_option maxHeartbeats 4000000 in
theorem rr_count (q:Nat) (v:Value) (B:List Nat) (a:Nat) (w:World) (h:RRd w q v B a 0) (hB:∀c∈B,c<256) (ha:a≤B.length) (hz:B.length≤140737488355000) :
  Calls Tryz.prog 42 #[.pointer (some ⟨q,0,none⟩)] w fun en w'=>Mods (fun k=>k=q) w w'∧GotE (outCount B a) (fun n=>.int .i64 (n:Int)) (.int .i64 0) (fun b e=>RRd w' q v B b e) en:=by
 have HU:=Lib.hid (rr_uint q v B a 18446744073709551615 w h hB ha (by decide))
 obtain ⟨c0,c1,c2,f1,f2⟩:=h.cells
 obtain ⟨p,c,hv⟩:=h.rd.shape
 subst hv
 have hcs:=outCount_cases hB ha
 have hz':(B.length:Int)≤140737488355000:=by omega
 have ha':(a:Int)≤(B.length:Int):=by omega
 clear h
 go_enter Tryz.func42,Tryz.ntmps42
 go_wp2_with fail
 refine HU.out.mono ?_
 rintro en w1 ⟨hm,hg⟩
 have HM1:=Lib.hid hm
 clear HU hm c0 c1 c2 f1 f2
 rcases hcs with ⟨e,he,ho,hc⟩ | ⟨n,b,ho,hn,hab,hb,hc⟩
 ·rw [ho] at hg
  obtain ⟨rfl,hR⟩:=hg
  have HR:=Lib.hid hR
  have HC:=Lib.hid hc
  obtain ⟨c0,c1,c2,f1,f2⟩:=hR.cells
  have heb:((e:Int) == 0)=false:=by rw [beq_eq_false_iff_ne];omega
  have hen:¬(e:Int)=0:=by omega
  clear hR hc ho
  go_wp2_with fail
  go_quiet (fail)
  have HM2:Hid (Mods (fun k=>k=q) w (w1.drewN nq)):=HM1.out.trans (Mods.drewN _ _ _) (fun _ _ e=>e)
  have HR2:=Lib.hid (HR.out.drewN nq)
  obtain ⟨c0,c1,c2,f1,f2⟩:=HR2.out.cells
  clear HM1 HR
  generalize w1.drewN nq=w2 at *
  go_wp2_with fail
  go_ret
  exact ⟨HM2.out,by rw [HC.out];exact ⟨rfl,_,HR2.out⟩⟩
 ·rw [ho] at hg
  obtain ⟨rfl,hR⟩:=hg
  have HR:=Lib.hid hR
  obtain ⟨c0,c1,c2,f1,f2⟩:=hR.cells
  have hb':(b:Int)≤(B.length:Int):=by omega
  have hwr:IntKind.u64.wrap ((B.length:Int)-(b:Int))=((B.length-b:Nat):Int):=by rw [IntKind.wrap_u64];omega
  have hwi:IntKind.i64.wrap ((B.length:Int)-(b:Int))=((B.length-b:Nat):Int):=by rw [IntKind.wrap_i64];omega
  have hwi2:wrap64 ((B.length:Int)-(b:Int))=((B.length-b:Nat):Int):=by simp only [wrap64];omega
  have hwu:IntKind.u64.wrap ((B.length-b:Nat):Int)=((B.length-b:Nat):Int):=by rw [IntKind.wrap_u64];omega
  obtain ⟨D,hD⟩:∃D,B.length-b=D:=⟨_,rfl⟩
  rw [hD] at hwr hwi hwi2 hwu hc
  have HD:Hid (B.length-b=D):=hD
  clear hR ho hD
  by_cases hlt:D<n
  ·have hlt':(D:Int)<(n:Int):=by omega
   have hdd:decide ((D:Int)<(n:Int))=true:=by simpa using hlt'
   rw [if_pos hlt] at hc
   have HC:=Lib.hid hc
   clear hc hlt
   go_wp2_with fail
   go_quiet (fail)
   have HM2:Hid (Mods (fun k=>k=q) w (w1.drewN nq)):=HM1.out.trans (Mods.drewN _ _ _) (fun _ _ e=>e)
   have HR2:=Lib.hid (HR.out.drewN nq)
   clear HM1 HR c0 c1 c2 f1 f2
   obtain ⟨c0,c1,c2,f1,f2⟩:=HR2.out.cells
   generalize w1.drewN nq=w2 at *
   have HR3:=Lib.hid (HR2.out.setAt a)
   have HM3:Hid (Mods (fun k=>k=q) w (w2.setCell ⟨q,1,none⟩ (.int .i64 (a:Int)))):=HM2.out.trans (mods_set _ _ _ _) (fun _ _ e=>e)
   go_wp2_with fail
   refine (rr_fail q _ B a 0 3 _ HR3.out).mono ?_
   rintro en w4 ⟨rfl,hR,hm⟩
   rw [if_pos rfl] at hR
   have HM4:=Lib.hid (HM3.out.trans hm (fun _ _ e=>e))
   have HR4:=Lib.hid hR
   obtain ⟨d0,d1,d2,g1,g2⟩:=hR.cells
   clear hR hm c0 c1 c2 f1 f2
   go_wp2_with fail
   go_ret
   exact ⟨HM4.out,by rw [HC.out];exact ⟨rfl,_,HR4.out⟩⟩
  ·have hlt':¬(D:Int)<(n:Int):=by omega
   have hdd:decide ((D:Int)<(n:Int))=false:=by simpa using hlt'
   have hnz:(n:Int)≤140737488355000:=by have:=HD.out;omega
   have hwn:IntKind.i64.wrap (n:Int)=(n:Int):=by rw [IntKind.wrap_i64];omega
   rw [if_neg hlt] at hc
   have HC:=Lib.hid hc
   clear hc hlt
   go_wp2_with fail
   go_quiet (fail)
   have HM2:Hid (Mods (fun k=>k=q) w (w1.drewN nq)):=HM1.out.trans (Mods.drewN _ _ _) (fun _ _ e=>e)
   have HR2:=Lib.hid (HR.out.drewN nq)
   clear HM1 HR c0 c1 c2 f1 f2
   obtain ⟨c0,c1,c2,f1,f2⟩:=HR2.out.cells
   generalize w1.drewN nq=w2 at *
   go_wp2_with fail
   go_ret
   exact ⟨HM2.out,by rw [HC.out];exact ⟨rfl,HR2.out⟩⟩
theorem rr_symbol_err (q:Nat) (v:Value) (B:List Nat) (a:Nat) (e:Int) (tv:Value) (t:List ByteArray) (w:World) (h:RRd w q v B a e) (he:e≠0) (ht:Rd w 1 tv t.length (strs t)) :
  Calls Tryz.prog 83 #[.pointer (some ⟨q,0,none⟩),tv] w fun en w'=>en = .returned (.string ⟨#[]⟩)∧∃n,w'=w.drewN n:=by
 have HU:=Lib.hid (rr_uint_err q v B a e (.int .u64 18446744073709551615) w h he)
 obtain ⟨c0,c1,c2,f1,f2⟩:=h.cells
 obtain ⟨p,c,hv⟩:=h.rd.shape
 subst hv
 obtain ⟨pt,ct,hv⟩:=ht.shape
 subst hv
 have heb:(e == 0)=false:=by rw [beq_eq_false_iff_ne];exact he
 clear h ht
 go_enter Tryz.func83,Tryz.ntmps83
 go_wp2_with fail
 refine HU.out.mono ?_
 rintro en w1 ⟨rfl,rfl⟩
 clear HU
 go_wp2_with fail
 go_ret
 exact ⟨rfl,0,rfl⟩
set_option maxHeartbeats 4000000 in
theorem rr_symbol (q:Nat) (v:Value) (B:List Nat) (a:Nat) (tv:Value) (t:List ByteArray) (w:World) (h:RRd w q v B a 0) (hB:∀c∈B,c<256) (ha:a≤B.length) (ht:Rd w 1 tv t.length (strs t)) (hn:t.length≤100000000) (htq:t≠[]→∀k,tv.ownBlock=some k→k≠q) :
  Calls Tryz.prog 83 #[.pointer (some ⟨q,0,none⟩),tv] w fun en w'=>Mods (fun k=>k=q) w w'∧GotE (pSym t B a) (fun s=>.string s) (.string ⟨#[]⟩) (fun b e=>RRd w' q v B b e) en:=by
 have HU:=Lib.hid (rr_uint q v B a 18446744073709551615 w h hB ha (by decide))
 obtain ⟨c0,c1,c2,f1,f2⟩:=h.cells
 obtain ⟨p,c,hv⟩:=h.rd.shape
 subst hv
 have HT:=Lib.hid ht;have HTq:=Lib.hid htq
 obtain ⟨pt,ct,hv⟩:=ht.shape
 subst hv
 have hcs:=pNum_cases (fun n=>t[n]?) 14 hB ha
 have htm:(t.length:Int)≤100000000:=by omega
 have hwt:IntKind.u64.wrap (t.length:Int)=(t.length:Int):=by rw [IntKind.wrap_u64];omega
 clear h ht htq hn
 go_enter Tryz.func83,Tryz.ntmps83
 go_wp2_with fail
 refine HU.out.mono ?_
 rintro en w1 ⟨hm,hg⟩
 have HM1:=Lib.hid hm
 have HT1:=Lib.hid (HT.out.mods' hm (fun e=>HTq.out (strs_ne e)))
 clear HU hm c0 c1 c2 f1 f2
 rcases hcs with ⟨e,he,ho,hc⟩ | ⟨n,b,ho,hnu,hab,hb,hc⟩
 ·rw [ho] at hg
  obtain ⟨rfl,hR⟩:=hg
  have HR:=Lib.hid hR
  have HC:Hid (pSym t B a = .bad e):=hc
  obtain ⟨c0,c1,c2,f1,f2⟩:=hR.cells
  have heb:((e:Int) == 0)=false:=by rw [beq_eq_false_iff_ne];omega
  clear hR hc ho
  go_wp2_with fail
  go_ret
  exact ⟨HM1.out,by rw [HC.out];exact ⟨rfl,_,HR.out⟩⟩
 ·rw [ho] at hg
  obtain ⟨rfl,hR⟩:=hg
  have HR:=Lib.hid hR
  obtain ⟨c0,c1,c2,f1,f2⟩:=hR.cells
  clear hR ho
  by_cases hlt:n<t.length
  ·have hlt':(n:Int)<(t.length:Int):=by omega
   obtain ⟨s,hs⟩:∃s,t[n]? = some s:=⟨_,List.getElem?_eq_getElem hlt⟩
   have HC:Hid (pSym t B a = .ok s b):=by show pNum _ _ _ _=_;rw [hc];simp only [hs]
   obtain ⟨g,off,ct',e,_,_,hcell⟩:=HT1.out.at (fun e=>by have:=congrArg List.length e;rw [strs_length] at this;rw [this] at hlt;simp at hlt)
   simp only [Value.slice.injEq] at e
   obtain ⟨rfl,_,rfl⟩:=e
   have d0:w1.cell? ⟨g,off+n,none⟩=some (.string s):=hcell n _ (by rw [strs,List.getElem?_map,hs];rfl)
   clear hc hs hcell hlt
   go_wp2_with fail
   go_ret
   exact ⟨HM1.out,by rw [HC.out];exact ⟨rfl,HR.out⟩⟩
  ·have hlt':¬(n:Int)<(t.length:Int):=by omega
   have hle':(t.length:Int)≤(n:Int):=by omega
   have HC:Hid (pSym t B a = .bad 14):=by show pNum _ _ _ _=_;rw [hc,List.getElem?_eq_none (by omega)]
   clear hc hlt
   go_wp2_with fail
   refine (rr_fail q _ B b 0 14 _ HR.out).mono ?_
   rintro en w4 ⟨rfl,hR,hm⟩
   rw [if_pos rfl] at hR
   have HM4:=Lib.hid (HM1.out.trans hm (fun _ _ e=>e))
   have HR4:=Lib.hid hR
   obtain ⟨d0,d1,d2,g1,g2⟩:=hR.cells
   clear hR hm c0 c1 c2 f1 f2
   go_wp2_with fail
   go_ret
   exact ⟨HM4.out,by rw [HC.out];exact ⟨rfl,_,HR4.out⟩⟩
end Go.Proofs.YtdcgbgecbeegmaaGreatDoor
end
section
namespace Go.Proofs.YtdcgbgecbeegmaaGreatDoor
theorem many_ok {α:Type} {p:List Nat→Nat→Out α} {B:List Nat} {n i a:Nat} {acc:List α} {x:α} {b:Nat} {T:Out (List α)} (hi:i<n) (h:T=pMany p B (n-i) a acc) (hx:p B a = .ok x b):T=pMany p B (n-(i+1)) b (acc++[x]):=by
 rw [h,show n-i=(n-(i+1))+1 by omega,pMany,hx]
theorem many_no {α:Type} {p:List Nat→Nat→Out α} {B:List Nat} {n i a e:Nat} {acc:List α} {T:Out (List α)} (hi:i<n) (h:T=pMany p B (n-i) a acc) (hx:p B a = .bad e):T = .bad e:=by
 rw [h,show n-i=(n-(i+1))+1 by omega,pMany,hx]
theorem many_end {α:Type} {p:List Nat→Nat→Out α} {B:List Nat} {n i a:Nat} {acc:List α} {T:Out (List α)} (hi:n≤i) (h:T=pMany p B (n-i) a acc):T = .ok acc a:=by
 rw [h,show n-i=0 by omega,pMany]
theorem pair_ok {α β:Type} {p:List Nat→Nat→Out α} {q:List Nat→Nat→Out β} {B:List Nat} {a b c:Nat} {x:α} {y:β} (h1:p B a = .ok x b) (h2:q B b = .ok y c):pPair p q B a = .ok (x,y) c:=by rw [pPair,h1];simp only [h2]
theorem pair_no1 {α β:Type} {p:List Nat→Nat→Out α} {q:List Nat→Nat→Out β} {B:List Nat} {a e:Nat} (h1:p B a = .bad e):pPair p q B a = .bad e:=by rw [pPair,h1]
theorem pair_no2 {α β:Type} {p:List Nat→Nat→Out α} {q:List Nat→Nat→Out β} {B:List Nat} {a b e:Nat} {x:α} (h1:p B a = .ok x b) (h2:q B b = .bad e):pPair p q B a = .bad e:=by rw [pPair,h1];simp only [h2]
end Go.Proofs.YtdcgbgecbeegmaaGreatDoor
end
