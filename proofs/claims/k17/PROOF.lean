import PyProof.Rows.All
import Wide.All
import OpenK.AllK
import Wide.FinOn
import PySem.Challenge.RW_walktold_k17_sure_pairs
set_option Elab.async false
set_option linter.all false
set_option maxRecDepth 100000
set_option compiler.extract_closed false
set_option bootstrap.genMatcherCode false
open Array (forIn_toList getElem?_eq_getElem getElem?_toList getElem_extract getElem_mem_toList getElem_toList length_toList mem_toList_iff perm_iff_toList_perm size_extract toArray_toList toList_append toList_extract toList_push)
open Bool (and_eq_true false_eq_true or_eq_true)
open Int (emod_lt_of_pos emod_nonneg mul_one natCast_add ofNat_le toNat_natCast)
open List (all_cons all_eq_true any_cons any_eq_true append_assoc append_nil append_of_mem cons_append cons_lt_cons_iff countP_cons drop_drop drop_of_length_le drop_zero ext_getElem? extract_eq_take_drop filterMap_cons flatMap_append flatMap_cons flatMap_def foldl_cons getElem?_append_left getElem?_append_right getElem?_eq_none getElem?_map getElem?_set getElem?_set_ne getElem?_set_self getElem_map getElem_mem getElem_of_mem length_append length_cons length_drop length_eq_zero_iff length_filter_le length_map length_nil length_pos_iff length_range length_set length_singleton length_take lookup_cons lt_asymm map_append map_congr_left map_cons map_eq_nil_iff map_id map_map map_nil map_set mem_append mem_cons mem_cons_self mem_filter mem_filterMap mem_flatMap mem_map mem_of_getElem? mem_of_mem_take mem_range mem_singleton nil_append nodup_append nodup_cons nodup_range of_mem_zip pairwise_append pairwise_cons pairwise_iff_getElem pairwise_lt_range pairwise_map perm_append_comm perm_ext_iff_of_nodup perm_middle reverse_perm size_toArray sum_cons take_append_drop take_length take_nil take_of_length_le)
open Nat (le_of_lt le_refl le_succ le_trans lt_irrefl lt_of_le_of_lt lt_of_lt_of_le lt_or_ge lt_succ_of_lt lt_succ_self lt_trans min_eq_left min_le_right mod_lt mul_le_mul ne_of_gt ne_of_lt not_lt sub_le sub_self sub_zero succ_mul zero_add zero_le)
open Option (getD_some isSome_iff_exists isSome_map isSome_some map_eq_some_iff map_some toList_none toList_some)
def qa:=@PySem.wpAny_bind
def qb:=@PySem.wpAny_pure
def qc:=@PySem.Heap.get?_push_of_some
def qd:=@PySem.Heap.get?_push_size
def qe:=@PySem.Heap.lt_size
def qf.{u}:=@Option.some.inj.{u}
def qg.{u}:=@List.getElem?_eq_some_iff.{u}
def qh.{u}:=@List.getElem?_eq_getElem.{u}
def qi.{u}:=@List.mem_append_right.{u}
def qj.{u}:=@List.mem_append_left.{u}
def qk.{u}:=@List.mem_cons_of_mem.{u}
def qm.{u}:=@List.mem_cons_self.{u}
def qo:=@List.length_map
def qp:=@List.append_assoc
def qq:=@List.length_append
def qr:=@List.size_toArray
def qt:=@List.length_cons
def qu:=@List.mem_singleton
def qv:=@List.length_nil
def qw:=@List.nodup_append
def qx:=@List.mem_append
def qy:=@List.map_cons
def qz:=@List.append_nil
def qA:=@List.mem_cons
def qB:=@List.length_singleton
def qC:=@List.cons_lt_cons_iff
def qD:=@List.length_range
def qE:=@List.map_map
def qF:=@List.getElem?_map
def qG:=@List.length_drop
def qH:=@List.length_take
def qI:=@List.all_eq_true
def qJ:=@List.mem_range
def qK:=@List.mem_map
def qL:=@List.nodup_cons
def qM:=@List.mem_of_getElem?
def qN:=@List.perm_append_comm
def qO:=@List.cons_append
def qP:=@List.length_pos_iff
def qQ:=@List.getElem?_eq_none
def qR:=@decide_eq_true
def qS:=@decide_eq_false
def qT:=@decide_eq_true_eq
def qU:=@of_decide_eq_true
def qV:=@Array.length_toList
def qW:=@Int.toNat_natCast
def qX:=Bool.false_ne_true
def qY:=@Option.map_eq_some_iff
def qZ:=@Array.getElem?_toList
def q4:=@if_pos
def q5:=@if_neg
def q8:=@Nat.le_refl
def q9:=@PySem.Heap.get?_update_other
def za:=@PySem.Heap.get?_update_self
def zc:=@PySem.wpAny_field
def zd:=@PySem.wpAny_newObj_type
def ze:=@PySem.wpAny_call_entry
def zf:=@PySem.sizeLine_eq
def zg:=@PySem.wpAny_holding
def zh:=@PySem.wpAny_of_eq
def zi:=@PySem.wpAny_mono
abbrev zj:=PySem.Value->PySem.Shared->Prop
section
set_option hygiene false in
open Lean Parser.Tactic in
local macro_rules
|`($m:declModifiers def $i:declId $s:optDeclSig $v:declVal)=>do
 if m.raw.getArgs.any (!·.isNone) then Macro.throwUnsupported
 match i.raw[0].getId with
 |.str p n=>if n.front.isUpper||!p.isAnonymous then `(command|theorem $i:declId $(⟨mkNode ``Parser.Command.declSig #[s.raw[0],s.raw[1][0]]⟩):declSig $v:declVal) else `(command|noncomputable def $i:declId $s:optDeclSig $v:declVal)
 |_=>Macro.throwUnsupported
|`(#[$x,*])=>if x.getElems.isEmpty then Macro.throwUnsupported else `(⟨$x,*⟩)
|`(∅)=>`((by lia))
|`(⋯)=>`((by decide))
|`(↑$x)=>`((by simpa using $x))
|`(tactic|lia)=>`(tactic|first|(with_reducible first|assumption|exact Nat.le_refl _|exact Nat.le_of_lt ‹_›|exact Nat.succ_pos _|exact Nat.not_lt.1 ‹_›|exact Nat.lt_of_lt_of_le ‹_› ‹_›|exact Nat.lt_of_le_of_lt ‹_› ‹_›|exact Nat.le_trans ‹_› ‹_›|exact Nat.lt_trans ‹_› ‹_›|exact Nat.ne_of_lt ‹_›|exact Nat.ne_of_gt ‹_›|exact Nat.lt_succ_of_le ‹_›|exact Nat.le_add_right _ _|exact Nat.sub_le _ _|exact Nat.le_of_lt_succ ‹_›|exact absurd ‹_› (Nat.not_lt_zero _)|exact absurd ‹_ < _› (Nat.not_lt.2 ‹_›)|exact Nat.lt_of_le_of_ne ‹_› ‹_›|exact Nat.pos_of_ne_zero ‹_›|exact Nat.le_trans ‹_› (Nat.le_add_right _ _)|exact Nat.le_trans (Nat.sub_le _ _) ‹_›|exact Int.le_of_lt ‹_›)|lia -verbose)
|`(tactic|show $e:term)=>`(tactic|first|refine $e|fail)
|`(tactic|let #[$x,*]:=$e)=>do
 let rec go:Nat->Syntax->MacroM (TSyntax ``rcasesPatLo)
  |n+1,t=>do match t with
   |`(#[$y,*])=>let z<-y.getElems.mapM (go n ·.raw);`(rcasesPatLo|⟨$[$z],*⟩)
   |`(_)=>`(rcasesPatLo|_)
   |_=>`(rcasesPatLo|$(⟨t⟩):ident)
  |_,_=>Macro.throwUnsupported
 let z<-x.getElems.mapM (go 9 ·.raw);`(tactic|obtain ⟨$[$z],*⟩:=$e)
|`(tactic|let $d:letDecl)=>`(tactic|have $d:letDecl)
noncomputable section
namespace ST
open PySem PySem.SetTable
@[inline]def Rising(xs:Array Nat):Prop:=∀i j(hi:i<xs.size)(v:j<xs.size),i<j->xs[i]<xs[j]
def Fo{xs:Array Nat}(h:i<xs.size):xs.getD i d=xs[i]:=by simp[Array.getD,h]
def Fm(Y:Rising xs):∀(v lo hi:Nat),hi<=xs.size->lo<=hi->hi-lo<=v->(∀i(h:i<xs.size),i<lo->xs[i]<j)->(∀i(h:i<xs.size),hi<=i->j<=xs[i])->
  below.go xs j v lo hi<=xs.size/\(∀i(h:i<xs.size),i<below.go xs j v lo hi->xs[i]<j)/\∀i(h:i<xs.size),below.go xs j v lo hi<=i->j<=xs[i]:=by
 intro v;induction v with
 |zero=>
  intro lo hi h1 h2 h3 G F;let:lo=hi:=∅
  subst this;show#[by show lo<=_;lia,λi h z=>G i h z,λi h z=>F i h z]
 |succ v O=>
  intro lo hi h1 h2 h3 G F;unfold below.go;by_cases B:lo<hi
  .rw[q4 B];let J:(lo+hi)/2<xs.size:=by lia
   dsimp only;rw[Fo J];by_cases M:xs[(lo+hi)/2]<j
   .rw[q4 M];show O _ _ h1 ∅ ∅ (λi h z=>?_) F;by_cases L:i=(lo+hi)/2
    .subst L;show M
    .let:=Y i ((lo+hi)/2) h J ∅;lia
   .rw[q5 M];show O _ _ ∅ ∅ ∅ G λi h z=>?_;by_cases L:i=(lo+hi)/2
    .subst L;lia
    .let:=Y ((lo+hi)/2) i J h ∅;lia
  .rw[q5 B];let:lo=hi:=by lia
   subst this;show#[∅,λi h z=>G i h z,λi h z=>F i h z]
def AE(v:Rising xs):below xs j<=xs.size/\(∀i(h:i<xs.size),i<below xs j->xs[i]<j)/\∀i(h:i<xs.size),below xs j<=i->j<=xs[i]:=
 Fm v xs.size 0 xs.size (q8 _) (zero_le _) ∅ (λi h z=>by lia) λi h z=>∅
def EI(z:Rising xs)(h:i<xs.size)(e:xs[i]=j):below xs j=i:=by
 let#[h1,h2,B]:=AE (j:=j) z;rcases Nat.lt_trichotomy (below xs j) i with v|v|v
 .let F:=B (below xs j) ∅ (q8 _);let:=z (below xs j) i ∅ h v;lia
 .show v
 .let:=h2 i h v;lia
def BS{t:SetTable}(v:Rising t.place)(h:i<t.place.size)(e:t.place[i]=j):t.slot j=.live i:=by
 unfold slot;dsimp only;rw[EI v h e];let:t.place[i]?=some j:=by rw[getElem?_eq_getElem h,e]
 rw[this];simp
def BU{t:SetTable}(z:t.dummies=#[])(h:∀i(hi:i<t.place.size),t.place[i]≠j):t.slot j=.empty:=by
 unfold slot;dsimp only;let h1:(t.place[below t.place j]?==some j)=false:=by
  cases q:t.place[below t.place j]? with
  |none=>rfl
  |some v=>let#[hi,e]:=Array.getElem?_eq_some_iff.mp q;let:=h _ hi;rw[e]at this;simpa using this
 rw[h1,z];rfl
def Au{t:SetTable}(v:Rising t.place)(z:t.dummies=#[])(j:Nat):(t.slot j=.empty/\∀i(hi:i<t.place.size),t.place[i]≠j)\/∃i,∃hi:i<t.place.size,t.place[i]=j/\t.slot j=.live i:=by
 by_cases h:∃i,∃hi:i<t.place.size,t.place[i]=j
 .obtain⟨i,hi,e⟩:=h;show .inr #[i,hi,e,BS v hi e]
 .let h':∀i(hi:i<t.place.size),t.place[i]≠j:=λi hi e=>h #[i,hi,e];show .inl #[BU z h',h']
def aD(t:SetTable)(p:Probe):Nat->Probe
 |0=>p
 |n+1=>aD t (t.advance p) n
def Bi(t:SetTable):∀(n:Nat)(p:Probe),aD t p (n+1)=t.advance (aD t p n)
 |0,_=>rfl
 |n+1,p=>Bi t n (t.advance p)
def Ai(t:SetTable):∀(m n:Nat)(p:Probe),aD t p (m+n)=aD t (aD t p m) n
 |0,n,p=>by rw[zero_add];rfl
 |m+1,n,p=>by rw[Nat.add_right_comm];show Ai t m n (t.advance p)
def Ep(hr:Rising t.place)(hd:t.dummies=#[]):∀(v n:Nat)(p:Probe),p.dummy=none->t.slot (aD t p n).j=.empty->(∀m,m<n->t.slot (aD t p m).j≠.empty)->n<v->
  (probe.go t hashAt h v p=some (.empty (aD t p n).j none)/\∀m,m<n->∀i,t.slot (aD t p m).j=.live i->hashAt i≠h)\/
  ∃m i,m<n/\t.slot (aD t p m).j=.live i/\hashAt i=h/\probe.go t hashAt h v p=some (.candidate (aD t p m).j i (aD t p (m+1)))/\∀B,B<m->∀F,t.slot (aD t p B).j=.live F->hashAt F≠h:=by
 intro v;induction v with
 |zero=>intro n p _ _ _ h;lia
 |succ v ih=>
  intro n p G he L hf;cases n with
  |zero=>show .inl #[?_,λm hm=>∅];unfold probe.go;let h6:t.slot p.j=.empty:=he;rw[h6];rw[G];rfl
  |succ n=>
   rcases Au hr hd p.j with⟨O,_⟩|⟨i,hi,ei,hl⟩
   .show absurd O (L 0 ∅)
   .by_cases hh:hashAt i=h
    .show .inr #[0,i,∅,hl,hh,?_,λB h5=>∅];unfold probe.go;rw[hl];show(if(hashAt i==h)=true then _ else _)=_;rw[q4 (by rw[hh];simp)];rfl
    .have M:probe.go t hashAt h (v+1) p=probe.go t hashAt h v (t.advance p):=by
      conv=>lhs;unfold probe.go
      grind
     have Y:(t.advance p).dummy=none:=by
      unfold advance;split
      .show G
      .show G
     rcases ih n (t.advance p) Y he (λm hm=>L (m+1) ∅) ∅with⟨h1,h2⟩|⟨m,F,hm,h1,h2,h3,h4⟩
     .show .inl #[by rw[M,h1];rfl,λm hm F z=>?_];cases m with
      |zero=>have:t.slot p.j=.live F:=z;rw[hl]at this;cases this;show hh
      |succ m=>show h2 m ∅ F z
     .show .inr #[m+1,F,∅,h1,h2,by rw[M,h3];rfl,λB h5 J z=>?_];cases B with
      |zero=>have:t.slot p.j=.live J:=z;rw[hl]at this;cases this;show hh
      |succ B=>show h4 B ∅ J z
def bF(mask:Nat)(b:Nat):Nat->Nat×Nat
 |0=>(b %(mask+1),b)
 |k+1=>leap mask (bF mask b k).1 (bF mask b k).2
def bA(mask:Nat)(p:Nat×Nat):Probe:={j:=p.1,more:=runEnd mask p.1-p.1,i:=p.1,perturb:=p.2,dummy:=none}
def Ff(mask i:Nat):runEnd mask i-i<=9:=by unfold runEnd;split<;>lia
def By:∀m,m<=runEnd t.mask p.1-p.1->aD t (bA t.mask p) m={bA t.mask p with j:=p.1+m,more:=runEnd t.mask p.1-p.1-m}
 |0,_=>rfl
 |m+1,h=>by rw[Bi,By m ∅];unfold advance;rw[q4 (by show runEnd t.mask p.1-p.1-m>0;lia)];rfl
def BX:aD t (bA t.mask p) (runEnd t.mask p.1-p.1+1)=bA t.mask (leap t.mask p.1 p.2):=by rw[Bi,By _ (q8 _)];unfold advance;rw[q5 (by show¬(runEnd t.mask p.1-p.1-(runEnd t.mask p.1-p.1)>0);lia)];rfl
def Bz:∀k,∃n,n<=10*k/\aD t (t.probeStart h) n=bA t.mask (bF t.mask (bits h) k)
 |0=>#[0,∅,rfl]
 |k+1=>by let#[n,v,e]:=Bz (t:=t) (h:=h) k;let:=Ff t.mask (bF t.mask (bits h) k).1;show#[n+(runEnd t.mask (bF t.mask (bits h) k).1-(bF t.mask (bits h) k).1+1),∅,?_];rw[Ai,e,BX];rfl
def Fq(h:Int):bits h<2^64:=by unfold bits;grind
def BC(mask b:Nat):∀k,(bF mask b k).2=b/32^k
 |0=>by simp[bF]
 |k+1=>by show(bF mask b k).2/32=_;rw[BC mask b k,Nat.div_div_eq_div_mul,Nat.pow_succ]
def Da{mask:Nat}(v:13<=k):(bF mask (bits h) k).2=0:=by
 rw[BC];show Nat.div_eq_of_lt (lt_of_lt_of_le (Fq h) ?_)
 calc 2^64<=32^13:=by decide
  _<=32^k:=Nat.pow_le_pow_right ⋯ v
def bu(M i:Nat):Nat:=(i*5+1) %M
def it(M:Nat):Nat->Nat->Nat
 |0,i=>i
 |k+1,i=>it M k (bu M i)
def BE(M:Nat):∀a b i,it M (a+b) i=it M b (it M a i)
 |0,b,i=>by rw[zero_add];rfl
 |a+1,b,i=>by rw[Nat.add_right_comm];show BE M a b (bu M i)
def BD{mask:Nat}:∀k,(bF mask (bits h) (13+k)).1=it (mask+1) k (bF mask (bits h) 13).1
 |0=>rfl
 |k+1=>by rw[BE (mask+1) k 1,<-BD k];show(leap mask (bF mask (bits h) (13+k)).1 (bF mask (bits h) (13+k)).2).1=_;rw[Da ∅];rfl
def hit(M e:Nat):Nat->Nat->Bool
 |0,_=>false
 |n+1,i=>bif Nat.beq i e then true else hit M e n (bu M i)
def Dd:∀{n i:Nat},hit M e n i=true->∃k,k<n/\it M k i=e
 |0,_,h=>by cases h
 |n+1,i,h=>by
  unfold hit at h;cases q:Nat.beq i e with
  |true=>show#[0,∅,Nat.eq_of_beq_eq_true q]
  |false=>rw[q]at h;let#[k,z,v]:=Dd (n:=n) h;show#[k+1,∅,v]
def bI(mask:Nat):Prop:=mask=7\/mask=15\/mask=31\/mask=63\/mask=127\/mask=255\/mask=511
def Ft{mask:Nat}(h:bI mask):(List.range (mask+1)).all (λe=>hit (mask+1) e (mask+1) 0)=true/\it (mask+1) (mask+1) 0=0:=by rcases h with rfl|rfl|rfl|rfl|rfl|rfl|rfl<;>show⟨by decide+kernel,by decide+kernel⟩
def HP{mask s e:Nat}(h:bI mask)(hs:s<=mask)(F:e<=mask):∃k,k<=mask/\it (mask+1) k s=e:=by
 let#[h1,h2]:=Ft h;rw[qI]at h1;let#[a,J,z]:=Dd (h1 s (qJ.mpr ∅));let#[b,G,v]:=Dd (h1 e (qJ.mpr ∅));by_cases B:a<=b
 .show#[b-a,∅,by rw[<-z,<-BE,show a+(b-a)=b by lia,v]]
 .show#[mask+1-a+b,∅,?_];rw[<-z,<-BE,show a+(mask+1-a+b)=mask+1+b by lia,BE,h2,v]
def CY(z:bI t.mask)(B:e<=t.mask):∃n,n<10*turns t.mask/\(aD t (t.probeStart h) n).j=e:=by
 let v:(bF t.mask (bits h) 13).1<=t.mask:=by let:(bF t.mask (bits h) 13).1<t.mask+1:=mod_lt _ ∅;lia
 let#[k,L,G]:=HP z v B;let#[n,J,F]:=Bz (t:=t) (h:=h) (13+k);show#[n,by unfold turns;lia,?_];rw[F];show(bF t.mask (bits h) (13+k)).1=e;rw[BD,G]
def HK{P:Nat->Prop}[DecidablePred P]:∀n,P n->∃m,m<=n/\P m/\∀k,k<m->¬P k:=by
 intro n;induction n using Nat.strongRecOn with
 |ind n B=>
  intro F;by_cases h:∃k,k<n/\P k
  .obtain⟨k,z,v⟩:=h;let#[m,h1,h2,G]:=B k z v;show#[m,∅,h2,G]
  .show#[n,q8 _,F,λk z v=>h #[k,z,v]]
structure eU(t:SetTable)(hs:List Int):Prop where
 ris:Rising t.place
 dum:t.dummies=#[]
 mask:bI t.mask
 size:t.place.size=hs.length
 le:∀i(hi:i<t.place.size),t.place[i]<=t.mask
 few:hs.length<=t.mask
 reach:∀i(hi:i<t.place.size)(h:Int),hs[i]?=some h->∃n,(aD t (t.probeStart h) n).j=t.place[i]/\∀m,m<n->t.slot (aD t (t.probeStart h) m).j≠.empty
def FK:∀(l m:List Nat),l.Nodup->(∀x∈l,x∈m)->l.length<=m.length
 |[],m,_,_=>by simp
 |x::l,m,hn,hs=>by
  let#[h1,h2]:=qL.mp hn;let B:x∈m:=hs x (by simp);let:=FK l (m.erase x) h2 λy v=>by show(List.mem_erase_of_ne ?_).mpr (hs y (by simp[v]));intro z;subst z;show h1 v
  rw[List.length_erase_of_mem B]at this;let F:=List.length_pos_of_mem B;rw[qt];lia
def Er:∀(m:Nat)(l:List Nat),l.Nodup->(∀x∈l,x<m)->l.length<m->∃e,e<m/\e∉l:=by
 intro m l B z F;by_cases h:∃e,e<m/\e∉l
 .show h
 .exfalso;let:∀e∈List.range m,e∈l:=λe v=>by
   by_cases q:e∈l
   .show q
   .show absurd #[e,qJ.mp v,q] h
  let:=FK (List.range m) l nodup_range this;rw[qD]at this;lia
def eU.free(T:eU t hs)(h:Int):∃n,n<10*turns t.mask/\t.slot (aD t (t.probeStart h) n).j=.empty/\∀m,m<n->t.slot (aD t (t.probeStart h) m).j≠.empty:=by
 obtain⟨e,Y,B⟩:=Er (t.mask+1) t.place.toList (by
  rw[List.Nodup,pairwise_iff_getElem];intro i j hi J F;let:=T.ris i j hi ↑J F;simp;lia) (λx G=>by
   let#[i,hi,e]:=getElem_of_mem G;let:=T.le i hi;rw[getElem_toList]at e;lia) (by
   let:=T.few;let:=T.size;rw[qV];lia)
 let#[n,O,M]:=CY (h:=h) T.mask (show e<=t.mask by lia);let v:t.slot (aD t (t.probeStart h) n).j=.empty:=by rw[M];show BU T.dum λi hi z=>B ?_;rw[<-z];show getElem_mem_toList hi
 let#[m,h1,h2,L]:=HK (P:=λn=>t.slot (aD t (t.probeStart h) n).j=.empty) n v;show#[m,∅,h2,L]
theorem ris_list:Rising xs↔xs.toList.Pairwise (·<·):=by rw[pairwise_iff_getElem];first|rfl|assumption|(simp_all;done)
def BF(G:Rising xs)(hn:∀i(hi:i<xs.size),xs[i]≠j):Rising (insertAt xs (below xs j) j):=by
 let#[h1,h2,Y]:=AE (j:=j) G;rw[ris_list,toList_insertAt];let J:=ris_list.mp G;rw[<-take_append_drop (below xs j) xs.toList]at J;let#[O,M,L]:=pairwise_append.mp J;show pairwise_append.mpr #[O,pairwise_cons.mpr #[λy z=>?_,M],λx F y z=>?_]
 .obtain⟨i,hi,e⟩:=getElem_of_mem z;rw[List.getElem_drop,getElem_toList]at e;let v:below xs j+i<xs.size:=by simp at hi;lia
  let a:=Y (below xs j+i) v ∅;let b:=hn (below xs j+i) v;lia
 .have B:x<j:=by
   let#[i,hi,e]:=getElem_of_mem F;rw[List.getElem_take,getElem_toList]at e;let v:i<xs.size/\i<below xs j:=by simp at hi;lia
   let:=h2 i v.1 v.2;lia
  rcases qA.mp z with rfl|z
  .show B
  .show L x F y z
theorem mem_insert:x∈(insertAt xs p j).toList↔x=j\/x∈xs.toList:=by rw[toList_insertAt,qx];grind[take_append_drop,mem_append]
def Ao(h:t'.mask=t.mask):∀(n:Nat)(p:Probe),aD t' p n=aD t p n
 |0,_=>rfl
 |n+1,p=>by
  let e:t'.advance p=t.advance p:=by unfold advance;rw[h]
  show aD t' (t'.advance p) n=aD t (t.advance p) n;rw[e,Ao h n]
def An{t t':SetTable}(h:t'.mask=t.mask)(b:Int):t'.probeStart b=t.probeStart b:=by unfold probeStart;rw[h]
def BB{t:SetTable}(v:Rising t.place)(G:t.dummies=#[])(j:Nat):t.slot j≠.empty↔j∈t.place.toList:=by
 rcases Au v G j with⟨h,B⟩|⟨i,hi,e,h⟩
 .show#[λz=>absurd h z,λF=>?_];let#[i,hi,e]:=getElem_of_mem F;show absurd e (B i hi)
 .show#[λ_=>?_,λ_=>by rw[h];show nofun];rw[<-e];show getElem_mem_toList hi
def Bh{t:SetTable}(v:t.dummies=#[]):(t.put j).1.place=insertAt t.place (below t.place j) j/\(t.put j).1.mask=t.mask/\(t.put j).1.dummies=#[]/\(t.put j).2=below t.place j:=by unfold put;show#[rfl,rfl,?_,rfl];rw[v];rfl
def eU.put(T:eU t hs)(he:t.slot (aD t (t.probeStart h) n).j=.empty)(h4:∀m,m<n->t.slot (aD t (t.probeStart h) m).j≠.empty)(hj:(aD t (t.probeStart h) n).j<=t.mask)(hf:hs.length+1<=t.mask):
  eU (t.put (aD t (t.probeStart h) n).j).1 (hs.take (t.put (aD t (t.probeStart h) n).j).2++h::hs.drop (t.put (aD t (t.probeStart h) n).j).2):=by
 generalize h5:(aD t (t.probeStart h) n).j=j at*;let h3:∀i(hi:i<t.place.size),t.place[i]≠j:=by
  rcases Au T.ris T.dum j with⟨_,hn⟩|⟨i,hi,e,L⟩
  .show hn
  .rw[L]at he;cases he
 let#[Y,J,e3,e4]:=Bh (t:=t) (j:=j) T.dum;let M:=BF T.ris h3;let#[b1,b2,b3]:=AE (j:=j) T.ris;let h2:(insertAt t.place (below t.place j) j).size=t.place.size+1:=by rw[<-qV,toList_insertAt,qq,qt,qH,qG,qV];lia
 let more:∀k,t.slot k≠.empty->(t.put j).1.slot k≠.empty:=λk B=>by rw[BB (by rw[Y];show M) e3,Y,mem_insert];show .inr ((BB T.ris T.dum k).mp B)
 show#[by rw[Y];show M,e3,by rw[J];show T.mask,?_,λi hi=>?_,?_,λi hi g O=>?_]
 .rw[Y,h2,qq,qt,qH,qG,e4,T.size];let:=T.size;lia
 .let hm:(t.put j).1.place[i]∈(insertAt t.place (below t.place j) j).toList:=by rw[<-Y];exact getElem_mem_toList hi
  rw[J];rcases mem_insert.mp hm with z|z
  .rw[z];show hj
  .obtain⟨k,B,e⟩:=getElem_of_mem z;rw[<-e];show T.le k ↑B
 .rw[J,qq,qt,qH,qG];lia
 .rw[e4]at O;let v:(t.put j).1.place[i]?=(t.place.toList.take (below t.place j)++j::t.place.toList.drop (below t.place j))[i]?:=by rw[Y,<-qZ,toList_insertAt]
  rw[getElem?_eq_getElem hi]at v;let F:(t.place.toList.take (below t.place j)).length=below t.place j:=by rw[qH,qV];lia
  let G:(hs.take (below t.place j)).length=below t.place j:=by let:=T.size;rw[qH];lia
  let h1:∀k(B:k<t.place.size),hs[k]?=some g->(t.put j).1.place[i]=t.place[k]->∃n,(aD (t.put j).1 ((t.put j).1.probeStart g) n).j=(t.put j).1.place[i]/\∀m,m<n->(t.put j).1.slot (aD (t.put j).1 ((t.put j).1.probeStart g) m).j≠.empty:=λk B h6 e=>by let#[n',a,b]:=T.reach k B g h6;show#[n',by rw[Ao J,An J,a,e],λm hm=>?_];rw[Ao J,An J];show more _ (b m hm)
  rcases Nat.lt_trichotomy i (below t.place j)with L|L|L
  .rw[getElem?_append_left (by rw[F];show L),List.getElem?_take_of_lt L]at v;rw[getElem?_append_left (by rw[G];show L),List.getElem?_take_of_lt L]at O;let B:i<t.place.size:=by lia
   rw[qZ,getElem?_eq_getElem B]at v;show h1 i B O (qf v)
  .subst L;rw[getElem?_append_right (by rw[F];show q8 _),F,sub_self,List.getElem?_cons_zero]at v;rw[getElem?_append_right (by rw[G];show q8 _),G,sub_self,List.getElem?_cons_zero]at O;let eg:=qf O;subst eg;show#[n,by rw[Ao J,An J,h5,qf v],λm hm=>?_];rw[Ao J,An J];show more _ (h4 m hm)
  .obtain⟨k,rfl⟩:∃k,i=k+1:=#[i-1,∅]
   rw[getElem?_append_right (by rw[F];lia),F,show k+1-below t.place j=(k-below t.place j)+1 by lia,List.getElem?_cons_succ,List.getElem?_drop,show below t.place j+(k-below t.place j)=k by lia]at v;rw[getElem?_append_right (by rw[G];lia),G,show k+1-below t.place j=(k-below t.place j)+1 by lia,List.getElem?_cons_succ,List.getElem?_drop,show below t.place j+(k-below t.place j)=k by lia]at O;let B:k<t.place.size:=by let:=hi;simp only[Y,h2]at this;lia
   rw[qZ,getElem?_eq_getElem B]at v;show h1 k B O (qf v)
def dF(o:Array (Option Nat))(j:Nat):Bool:=(o.getD j (some 0)).isNone
def bare(mask:Nat):SetTable:={fresh 0 0 true with mask:=mask}
def DS{mask:Nat}:∀(v:Nat)(p:Nat×Nat)(K:Nat),K<v->(∃q,dF o q.1=true/\q=(Nat.repeat (λx:Nat×Nat=>leap mask x.1 x.2) K p))->
  ∃j n,layClean.free mask o v p.1 p.2=some j/\(aD (bare mask) (bA mask p) n).j=j/\dF o j=true/\∀m,m<n->dF o (aD (bare mask) (bA mask p) m).j=false:=by
 intro v;induction v with
 |zero=>intro p K h;lia
 |succ v L=>
  intro p K hK Y;let run:∀m,m<=runEnd mask p.1-p.1->(aD (bare mask) (bA mask p) m).j=p.1+m:=λm B=>by let:=By (t:=bare mask) (p:=p) m B;let e:(aD (bare mask) (bA mask p) m).j=({bA mask p with j:=p.1+m,more:=runEnd mask p.1-p.1-m}:Probe).j:=congrArg Probe.j this;show e
  let h4:p.1<=runEnd mask p.1:=by unfold runEnd;split<;>lia
  unfold layClean.free;cases G:(List.range (runEnd mask p.1+1-p.1)).find? (λk=>(o.getD (p.1+k) (some 0)).isNone)with
  |some k=>rw[List.find?_range_eq_some]at G;let#[h1,h2,O]:=G;rw[qJ]at h2;show#[p.1+k,k,rfl,run k ∅,h1,λm B=>?_];rw[run m ∅];let:=O m B;simpa[dF] using this
  |none=>
   rw[List.find?_range_eq_none]at G;let z:∀m,m<=runEnd mask p.1-p.1->dF o (aD (bare mask) (bA mask p) m).j=false:=λm B=>by rw[run m B];let:=G m ∅;simpa[dF] using this
   cases K with
   |zero=>let#[q,h1,h2]:=Y;let O:q=p:=h2;let:=z 0 ∅;let e:(aD (bare mask) (bA mask p) 0).j=p.1:=rfl;rw[e,<-O,h1]at this;cases this
   |succ K=>
    obtain⟨q,h1,h2⟩:=Y;let J:∀(K:Nat)(p:Nat×Nat),Nat.repeat (λx:Nat×Nat=>leap mask x.1 x.2) (K+1) p=Nat.repeat (λx:Nat×Nat=>leap mask x.1 x.2) K (leap mask p.1 p.2):=by
     intro K;induction K with
     |zero=>intro p;rfl
     |succ K L=>intro p;show leap mask (Nat.repeat (λx:Nat×Nat=>leap mask x.1 x.2) (K+1) p).1 (Nat.repeat (λx:Nat×Nat=>leap mask x.1 x.2) (K+1) p).2=leap mask (Nat.repeat (λx:Nat×Nat=>leap mask x.1 x.2) K (leap mask p.1 p.2)).1 (Nat.repeat (λx:Nat×Nat=>leap mask x.1 x.2) K (leap mask p.1 p.2)).2;rw[L p]
    let#[j,n,a1,a2,a3,a4]:=L (leap mask p.1 p.2) K ∅ #[q,h1,by rw[h2,J]];let pl:=BX (t:=bare mask) (p:=p);let F:aD (bare mask) (bA mask p) (runEnd mask p.1-p.1+1)=bA mask (leap mask p.1 p.2):=pl;show#[j,runEnd mask p.1-p.1+1+n,a1,by rw[Ai,F];show a2,a3,λm B=>?_];by_cases M:m<=runEnd mask p.1-p.1
    .show z m M
    .obtain⟨k,rfl⟩:∃k,m=runEnd mask p.1-p.1+1+k:=#[m-(runEnd mask p.1-p.1+1),∅]
     rw[Ai,F];show a4 k ∅
def BZ(mask b:Nat):∀k,bF mask b k=Nat.repeat (λx:Nat×Nat=>leap mask x.1 x.2) k (b %(mask+1),b)
 |0=>rfl
 |k+1=>by show leap mask (bF mask b k).1 (bF mask b k).2=_;rw[BZ mask b k];rfl
structure mG(mask:Nat)(o:Array (Option Nat))(hs:List Int)(ps:List Nat):Prop where
 size:o.size=mask+1
 len:ps.length=hs.length
 nd:ps.Nodup
 le:∀j∈ps,j<=mask
 own:∀(j i:Nat),o.getD j none=some i↔ps[i]?=some j
 reach:∀(i:Nat)(h:Int)(j:Nat),hs[i]?=some h->ps[i]?=some j->∃n,(aD (bare mask) ((bare mask).probeStart h) n).j=j/\∀m,m<n->(aD (bare mask) ((bare mask).probeStart h) m).j∈ps
def BH{mask:Nat}(O:mG mask o hs ps)(J:j<=mask):dF o j=true↔j∉ps:=by
 let v:j<o.size:=by rw[O.size];lia
 unfold dF;let G:o.getD j (some 0)=o[j]:=by simp[v]
 let z:o.getD j none=o[j]:=by simp[v]
 rw[G];constructor
 .intro h F;let#[i,hi,e]:=getElem_of_mem F;let:=(O.own j i).mpr (by rw[qh hi,e]);rw[z]at this;rw[this]at h;cases h
 .intro B;cases q:o[j]with
  |none=>rfl
  |some i=>have:=(O.own j i).mp (by rw[z,q]);show absurd (qM this) B
def Cf(F:bI t.mask):∀n,(aD t (t.probeStart h) n).j<=t.mask:=by
 have v:∀n(p:Probe),(p.j+p.more<=t.mask)->(aD t p n).j+(aD t p n).more<=t.mask:=by
  intro n;induction n with
  |zero=>intro p z;show z
  |succ n B=>
   intro p z;show B (t.advance p) ?_;unfold advance;split
   .show p.j+1+(p.more-1)<=t.mask;lia
   .let hi:(p.i*5+1+p.perturb/32) %(t.mask+1)<=t.mask:=by let:=mod_lt (p.i*5+1+p.perturb/32) (show 0<t.mask+1 by lia);lia
    show(p.i*5+1+p.perturb/32) %(t.mask+1)+(runEnd t.mask ((p.i*5+1+p.perturb/32) %(t.mask+1))-(p.i*5+1+p.perturb/32) %(t.mask+1))<=t.mask;unfold runEnd;split<;>lia
 intro n;let:=v n (t.probeStart h) (by
  let hi:bits h %(t.mask+1)<=t.mask:=by let:=mod_lt (bits h) (show 0<t.mask+1 by lia);lia
  show bits h %(t.mask+1)+(runEnd t.mask (bits h %(t.mask+1))-bits h %(t.mask+1))<=t.mask;unfold runEnd;split<;>lia)
 lia
def mG.step{mask:Nat}(B:bI mask)(O:mG mask o hs ps)(hf:hs.length<mask+1):
  ∃j,layClean.free mask o (turns mask) (bits h %(mask+1)) (bits h)=some j/\mG mask (o.setIfInBounds j (some hs.length)) (hs++[h]) (ps++[j]):=by
 let#[e,he,h1]:=Er (mask+1) ps O.nd (λx v=>by let:=O.le x v;lia) (by rw[O.len];show hf);let Y:(bF mask (bits h) 13).1<=mask:=by let:(bF mask (bits h) 13).1<mask+1:=mod_lt _ ∅;lia
 let#[k,hk,ek]:=HP B Y (show e<=mask by lia);let#[j,n,a1,a2,a3,a4]:=DS (o:=o) (turns mask) (bits h %(mask+1),bits h) (13+k) (by unfold turns;lia) #[bF mask (bits h) (13+k),by rw[BD,ek];show(BH O ∅).mpr h1,BZ _ _ _];let M:bA mask (bits h %(mask+1),bits h)=(bare mask).probeStart h:=rfl;rw[M]at a2 a4;let L:j<=mask:=by rw[<-a2];show Cf (t:=bare mask) B n
 let J:j∉ps:=(BH O L).mp a3;let h3:j<o.size:=by rw[O.size];lia
 show#[j,a1,?_,?_,?_,?_,?_,?_]
 .rw[Array.size_setIfInBounds,O.size]
 .rw[qq,qq,O.len];rfl
 .show qw.mpr #[O.nd,by simp,λa ha b hb e=>?_];rw[qu.mp hb]at e;show J (e▸ha)
 .intro x v;rcases qx.mp v with z|z
  .show O.le x z
  .rw[qu.mp z];show L
 .intro x i;let G:(o.setIfInBounds j (some hs.length)).getD x none=if x=j then some hs.length else o.getD x none:=by
   simp[Array.getD_eq_getD_getElem?,Array.getElem?_setIfInBounds];by_cases v:j=x
   .subst v;simp[h3]
   .rw[q5 v,q5 (Ne.symm v)]
  rw[G];by_cases v:x=j
  .subst v;rw[q4 rfl];constructor
   .intro z;let:=qf z;subst this;rw[<-O.len,getElem?_append_right (q8 _),sub_self];rfl
   .intro z;by_cases hi:i<ps.length
    .rw[getElem?_append_left hi]at z;show absurd (qM z) J
    .let F:=(qg.mp z).1;rw[qq,qB]at F;rw[show i=hs.length by rw[<-O.len];lia]
  .rw[q5 v,O.own x i];by_cases hi:i<ps.length
   .rw[getElem?_append_left hi]
   .rw[qQ ∅];constructor
    .intro z;cases z
    .intro z;rw[getElem?_append_right ∅]at z;let:i-ps.length=0:=by let:=(qg.mp z).1;simp at this;lia
     rw[this]at z;show absurd (qf z).symm v
 .intro i g x G v;by_cases hi:i<ps.length
  .rw[getElem?_append_left hi]at v;rw[getElem?_append_left (by rw[<-O.len];show hi)]at G;let#[n',b1,b2]:=O.reach i g x G v;show#[n',b1,λm hm=>qj _ (b2 m hm)]
  .let F:=(qg.mp v).1;rw[qq,qB]at F;let h4:i=ps.length:=by lia
   subst h4;rw[getElem?_append_right (q8 _),sub_self]at v;rw[getElem?_append_right (by rw[O.len];show q8 _),O.len,sub_self]at G;let e1:j=x:=qf v;let e2:h=g:=qf G;subst e1 e2;show#[n,a2,λm hm=>qj _ ?_];let:=a4 m hm;cases q:decide ((aD (bare mask) ((bare mask).probeStart h) m).j∈ps)with
   |true=>show qU q
   |false=>have h2:=(BH O (Cf (t:=bare mask) B m)).mpr (of_decide_eq_false q);rw[h2]at this;cases this
def CF{mask:Nat}(hmk:bI mask):∀(hs2 hs1:List Int)(o:Array (Option Nat))(ps:List Nat),mG mask o hs1 ps->(hs1++hs2).length<=mask->
  ∃o' ps',List.foldl (λ(zM:Option (Array (Option Nat)×Nat))(h:Int)=>do
   let(owner,k)<-zM
   let j<-layClean.free mask owner (turns mask) (bits h %(mask+1)) (bits h)
   pure (owner.setIfInBounds j (some k),k+1)) (some (o,hs1.length)) hs2=some (o',(hs1++hs2).length)/\mG mask o' (hs1++hs2) ps'
 |[],hs1,o,ps,O,_=>#[o,ps,by simp,↑O]
 |h::hs2,hs1,o,ps,O,hl=>by
  obtain⟨j,e,O'⟩:=O.step (h:=h) hmk (by rw[qq,qt]at hl;lia);let#[o',ps',e',O'']:=CF hmk hs2 (hs1++[h]) _ _ O' ↑hl;show#[o',ps',?_,↑O''];rw[foldl_cons];let:(do
   let(owner,k)<-(some (o,hs1.length):Option (Array (Option Nat)×Nat))
   let j<-layClean.free mask owner (turns mask) (bits h %(mask+1)) (bits h)
   pure (owner.setIfInBounds j (some k),k+1))=some (o.setIfInBounds j (some hs1.length),(hs1++[h]).length):=by
   show(do
    let j<-layClean.free mask o (turns mask) (bits h %(mask+1)) (bits h)
    pure (o.setIfInBounds j (some hs1.length),hs1.length+1))=_
   rw[e,qq];rfl
  rw[this];simpa using e'
def Ez{mask:Nat}(v:bI mask)(B:hs.size<=mask):∃o ps,layClean mask hs=some o/\mG mask o hs.toList ps:=by
 let G:mG mask (Array.replicate (mask+1) none) [] []:=#[by simp,rfl,by simp,by simp,λj i=>by by_cases h:j<mask+1<;>simp[h],λi h j F=>by simp at F]
 let#[o,ps,e,O]:=CF v hs.toList [] _ _ G B;show#[o,ps,?_,O];unfold layClean;rw[<-Array.foldl_toList];let z:=e;simp only[qv]at z;rw[z];rfl
def EH{α β:Type}{f:α->Option β}:∀(l:List α),(∀x∈l,(f x).isSome=true)->∀k:Nat,(l.filterMap f)[k]?=l[k]?.bind f
 |[],_,k=>by simp
 |x::l,h,k=>by
  let#[y,v]:=isSome_iff_exists.mp (h x (by simp));rw[filterMap_cons,v];cases k with
  |zero=>simp[v]
  |succ k=>show EH l (λz B=>h z (by simp[B])) k
def CG{α:Type}{mask finger moves:Nat}{led plain:Bool}{es:Array (Int×α)}(h8:bI mask)(hl:es.size<=mask):
  ∃t z,laid mask finger moves led plain (es.map (·.1))=some (t,z)/\(z.filterMap (es[·]?)).toList.Perm es.toList/\eU t ((z.filterMap (es[·]?)).toList.map (·.1))/\t.mask=mask/\t.led=led/\t.plain=plain:=by
 let#[o,ps,e,O]:=Ez h8 (hs:=es.map (·.1)) ↑hl;let hk:ps.length=es.size:=by rw[O.len];simp
 generalize h5:((List.range (mask+1)).filterMap λj=>(o.getD j none).map (j,·))=v;let F:∀x:Nat×Nat,x∈v↔ps[x.2]?=some x.1:=λx=>by
  rw[<-h5,mem_filterMap];constructor
  .rintro⟨j,hj,hx⟩;let#[i,hi,rfl]:=qY.mp hx;show(O.own j i).mp hi
  .intro h;show#[x.1,qJ.mpr (by let:=O.le x.1 (qM h);lia),?_];rw[(O.own x.1 x.2).mpr h];rfl
 let L:(v.map (·.1)).Pairwise (·<·):=by rw[<-h5,pairwise_map,List.pairwise_filterMap];show pairwise_lt_range.imp λ{a b} e2 x hx y hy=>?_;let#[_,_,rfl]:=qY.mp hx;let#[_,_,rfl]:=qY.mp hy;show e2
 have Y:∀j,j∈v.map (·.1)↔j∈ps:=λj=>by
  rw[qK];constructor
  .rintro⟨x,hx,rfl⟩;show qM ((F x).mp hx)
  .intro hj;let#[i,hi,ei]:=getElem_of_mem hj;show#[(j,i),(F (j,i)).mpr (by rw[qh hi,ei]),rfl]
 let h7:(v.map (·.2)).Nodup:=by rw[List.Nodup,pairwise_map];let h2:v.Pairwise λa b=>a.1<b.1:=pairwise_map.mp L;show List.Pairwise.imp_of_mem (λ{a b} ha hb e2 e=>?_) h2;let h3:=(F a).mp ha;let h4:=(F b).mp hb;rw[e,h4]at h3;lia
 have M:∀i,i∈v.map (·.2)↔i<es.size:=λi=>by
  rw[qK];constructor
  .rintro⟨x,hx,rfl⟩;let:=(qg.mp ((F x).mp hx)).1;lia
  simp_all
 let B:(v.map (·.2)).Perm (List.range es.size):=(perm_ext_iff_of_nodup h7 nodup_range).mpr λi=>by rw[M,qJ]
 let e4:v.length=es.size:=by let:=B.length_eq;rw[qo,qD]at this;show this
 show#[{mask,place:=(v.map (·.1)).toArray,dummies:=#[],finger,led,moves,plain},(v.map (·.2)).toArray,?_,?_,?_,rfl,rfl,rfl]
 .unfold laid;rw[e];show some _=some _;rw[<-h5]
 .rw[Array.toList_filterMap];let:=B.filterMap (es[·]?);rw[filterMap_getElem?_range]at this;show this
 .have h1:∀i∈v.map (·.2),(es[i]?).isSome=true:=λi hi=>by rw[getElem?_eq_getElem ((M i).mp hi)];rfl
  have e1:∀k:Nat,(((v.map (·.2)).toArray.filterMap (es[·]?)).toList.map (·.1))[k]?=(v[k]?).bind λ(x:Nat×Nat)=>(es.map (·.1)).toList[x.2]?:=λk=>by
   rw[Array.toList_filterMap,qF,EH _ h1,qF];cases v[k]? with
   |none=>rfl
   |some x=>simp
  let G:Rising (v.map (·.1)).toArray:=by rw[ris_list];show L
  let J:(((v.map (·.2)).toArray.filterMap (es[·]?)).toList.map (·.1)).length=es.size:=by rw[qo];let:=(B.filterMap (es[·]?)).length_eq;rw[filterMap_getElem?_range]at this;rw[Array.toList_filterMap];show this
  let h6:∀n p,aD {mask,place:=(v.map (·.1)).toArray,dummies:=#[],finger,led,moves,plain} p n=aD (bare mask) p n:=Ao rfl;let e3:∀b,SetTable.probeStart {mask,place:=(v.map (·.1)).toArray,dummies:=#[],finger,led,moves,plain} b=(bare mask).probeStart b:=An rfl;show#[G,rfl,h8,?_,λi hi=>?_,?_,λi hi h hh=>?_]
  .rw[J,qr,qo,e4]
  .let:(v.map (·.1)).toArray[i]∈v.map (·.1):=getElem_mem_toList hi;show O.le _ ((Y _).mp this)
  .rw[J];show hl
  .let h9:i<v.length:=by simpa using hi
   rw[e1,qh h9]at hh;let#[n,a,b]:=O.reach v[i].2 h v[i].1 hh ((F v[i]).mp (getElem_mem h9));show#[n,?_,λm hm=>?_]
   .rw[h6,e3,a];simp
   .rw[BB G rfl,h6];show(Y _).mpr (b m hm)
def eU.fits(T:eU t hs)(hn:hs.length=n):t.fits n=true:=by unfold SetTable.fits;rw[T.size,hn,and_eq_true,beq_iff_eq];show#[rfl,?_];unfold fill;rw[T.size,T.dum];let:=T.few;simp;lia
def eU.odd(T:eU t hs):t.gaveWay=false:=by unfold SetTable.gaveWay;rcases T.mask with h|h|h|h|h|h|h<;>rw[h]<;>rfl
def CW(n:Nat):(aD t (t.probeStart h) n).dummy=none:=by
 have z:∀n(p:Probe),p.dummy=none->(aD t p n).dummy=none:=by
  intro n;induction n with
  |zero=>intro p v;show v
  |succ n B=>intro p v;show B _ ?_;unfold advance;split<;>show v
 show z n _ rfl
section
variable{prog:Program}{w:World}{K:Type}[DecidableEq K](knd:HeapKind prog w K)
def cA(xs:List (K×Addr)):List (Int×Value):=xs.map λp=>(knd.hash p.1,Value.ref p.2)
variable{knd}
def Gf(B:∀{k:K}{b:Addr}{Q:Bool->Shared->Prop},knd.is s.heap k b->Q false s->wpAny (model prog w) A (ofAClassStatement 8 (.ref b)) Q E s){stored:List Value}(L:knd.is s.heap k b)
  (G:∀v∈stored,∃z c,v=.ref c/\knd.is s.heap z c)(h:Q false s):wpAny (model prog w) A (searchCouldBeSeen (.ref b) stored) Q E s:=by
 show qa ?_;show wpAny_forIn_list _ (λrest r s'=>s'=s/\r=(none,())/\∀v∈rest,∃z c,v=.ref c/\knd.is s.heap z c) _ ?_ ?_ _ _ #[rfl,rfl,G]
 .rintro x rest r s' ⟨rfl,rfl,J⟩;let#[z,c,rfl,M]:=J x qm;let F:∀v∈rest,∃z c,v=.ref c/\knd.is s'.heap z c:=λv O=>J v (qk _ O);dsimp only;split
  .show qb #[rfl,rfl,F]
  .show qa (knd.quiet L ?_);show qa (knd.quiet M ?_);show qa (B L ?_);show qa (B M ?_);show qb #[rfl,rfl,F]
 .rintro r s' ⟨rfl,rfl,_⟩;show qb h
theorem Cw(hcl:∀{k:K}{b:Addr}{Q:Bool->Shared->Prop},knd.is s.heap k b->Q false s->wpAny (model prog w) A (ofAClassStatement 8 (.ref b)) Q E s)
  (hu:knd.room A)(hk:knd.is s.heap k b)(ho:s.heap.get? a=some o)(hd:o.data=.set es ep t)(he:es.toList=cA knd xs)(his:∀x∈xs,knd.is s.heap x.1 x.2)(T:eU t (es.toList.map (·.1)))
  (hf:n<10*turns t.mask)(hemp:t.slot (aD t (t.probeStart (knd.hash k)) n).j=.empty)(hne:∀m,m<n->t.slot (aD t (t.probeStart (knd.hash k)) m).j≠.empty)
  (h1:k∈xs.map (·.1)->Q (.there none) s)(h2:k∉xs.map (·.1)->Q (.free (aD t (t.probeStart (knd.hash k)) n).j false) s):
  ∀(r n0:Nat)(stand:Option Probe),n0<=n->n-n0<r->stand.getD (t.probeStart (knd.hash k))=aD t (t.probeStart (knd.hash k)) n0->
   (∀m,m<n0->∀i,t.slot (aD t (t.probeStart (knd.hash k)) m).j=.live i->(xs[i]?).map (·.1)≠some k)->wpAny (model prog w) A (setSearchFrom a (.ref b) (knd.hash k) true r stand) Q E s:=by
 let hsz:t.fits es.size=true:=T.fits (by simp);let zK:es.size=xs.length:=by rw[<-qV,he];simp[cA]
 let hent:∀i:Nat,es[i]?=(xs[i]?).map λp=>(knd.hash p.1,Value.ref p.2):=λi=>by rw[<-qZ,he];simp[cA]
 intro r;induction r with
 |zero=>intro n0 stand _ h;lia
 |succ r ih=>
  intro n0 stand hn0 hr hst hsofar;show qa (wpAny_setState_of ho hd hsz ?_);dsimp only;rw[T.odd];simp only[false_eq_true,if_false];let hgo:=Ep (t:=t) (hashAt:=λi=>(es[i]?.map (·.1)).getD 0) (h:=knd.hash k) T.ris T.dum (10*turns t.mask) (n-n0) (aD t (t.probeStart (knd.hash k)) n0) (CW n0)
   (by rw[<-Ai,show n0+(n-n0)=n by lia];show hemp) (λm hm=>by rw[<-Ai];show hne _ ∅) ∅
  rw[hst];rcases hgo with⟨g1,g2⟩|⟨m,i,g1,g2,g3,g4,g5⟩
  .have e:t.probe (λi=>(es[i]?.map (·.1)).getD 0) (knd.hash k) (aD t (t.probeStart (knd.hash k)) n0)=some (.empty (aD t (t.probeStart (knd.hash k)) n).j none):=by unfold probe;rw[g1,<-Ai,show n0+(n-n0)=n by lia]
   have none_hit:k∉xs.map (·.1):=λhmem=>by
    let#[x,hx,hxk]:=qK.mp hmem;let#[i,hi,ei]:=getElem_of_mem hx;let hip:i<t.place.size:=by rw[T.size];simp;lia
    let hh:(es.toList.map (·.1))[i]?=some (knd.hash k):=by rw[qF,qZ,hent,qh hi,ei,<-hxk];rfl
    let#[q,q1,q2]:=T.reach i hip _ hh;let hql:t.slot (aD t (t.probeStart (knd.hash k)) q).j=.live i:=by rw[q1];show BS T.ris hip rfl
    have hqn:q<n:=by
     rcases Nat.lt_trichotomy q n with z|z|z
     .show z
     .subst z;rw[hql]at hemp;cases hemp
     .show absurd hemp (q2 n z)
    by_cases hq0:q<n0
    .show hsofar q hq0 i hql (by rw[qh hi,ei,<-hxk];rfl)
    .let:=g2 (q-n0) ∅ i (by rw[<-Ai,show n0+(q-n0)=q by lia];show hql);apply this;rw[hent,qh hi,ei,<-hxk];rfl
   split
   .rename_i met heq;let h3:t.probe (λi=>(es[i]?.map (·.1)).getD 0) (knd.hash k) (aD t (t.probeStart (knd.hash k)) n0)=some met:=heq;rw[e]at h3;cases h3;show qb (h2 none_hit)
   .rename_i heq;show absurd e (heq _)
  .have e:t.probe (λi=>(es[i]?.map (·.1)).getD 0) (knd.hash k) (aD t (t.probeStart (knd.hash k)) n0)=some (.candidate (aD t (t.probeStart (knd.hash k)) (n0+m)).j i (aD t (t.probeStart (knd.hash k)) (n0+m+1))):=by unfold probe;rw[g4,<-Ai,<-Ai];rfl
   rw[<-Ai]at g2;let hip:∃hi:i<t.place.size,t.place[i]=(aD t (t.probeStart (knd.hash k)) (n0+m)).j:=by
    rcases Au T.ris T.dum (aD t (t.probeStart (knd.hash k)) (n0+m)).j with⟨h,_⟩|⟨i',hi',ei',hl'⟩
    .rw[h]at g2;cases g2
    .rw[hl']at g2;cases g2;show#[hi',ei']
   let#[hip,_]:=hip;let hix:i<xs.length:=by rw[T.size]at hip;simp at hip;lia
   let hei:es[i]?=some (knd.hash xs[i].1,Value.ref xs[i].2):=by rw[hent,qh hix];rfl
   have hxi:=his xs[i] (getElem_mem hix);let body:wpAny (model prog w) A (match es[i]? with
     |some (_,y)=>do
      let equal<-holding [y] (eqBool y (Value.ref b))
      let __x<-setState a
      if(true&&equal)=true then pure (SetFound.there none)
       else
        match __x.2.snd.sameMemory t.moves t.mask with
        |some same=>
         match if same=true then __x.2.snd.slot (aD t (t.probeStart (knd.hash k)) (n0+m)).j else Slot.empty with
         |Slot.live i'=>
          match __x.fst[i']? with
          |some (_,y')=>do
           let __do_lift<-isSame y' y
           let still<-pure (if __do_lift=true then some i' else none)
           match still with
            |none=>do
             rule "set.search.anew"
             setSearchFrom a (Value.ref b) (knd.hash k) true r none
            |some i'=>
             if equal=true then pure (SetFound.there (some i'))
             else setSearchFrom a (Value.ref b) (knd.hash k) true r (some (aD t (t.probeStart (knd.hash k)) (n0+m+1)))
          |none=>do
           let still<-pure none
           match still with
            |none=>do
             rule "set.search.anew"
             setSearchFrom a (Value.ref b) (knd.hash k) true r none
            |some i'=>
             if equal=true then pure (SetFound.there (some i'))
             else setSearchFrom a (Value.ref b) (knd.hash k) true r (some (aD t (t.probeStart (knd.hash k)) (n0+m+1)))
         |x=>do
          let still<-pure none
          match still with
           |none=>do
            rule "set.search.anew"
            setSearchFrom a (Value.ref b) (knd.hash k) true r none
           |some i'=>
            if equal=true then pure (SetFound.there (some i'))
            else setSearchFrom a (Value.ref b) (knd.hash k) true r (some (aD t (t.probeStart (knd.hash k)) (n0+m+1)))
        |x=>unsupported "set.changed-during-lookup:is-the-new-block-at-the-old-address"
     |x=>unsupported "internal:set-entry") Q E s:=by
    rw[hei];show qa (zg (knd.eqBool hu hxi hk ?_));show qa (wpAny_setState_of ho hd hsz ?_);by_cases hkk:xs[i].1=k
    .rw[qR hkk];show qb (h1 (qK.mpr #[xs[i],getElem_mem hix,hkk]))
    .rw[qS hkk];let hsm:t.sameMemory t.moves t.mask=some true:=by unfold sameMemory;simp
     rw[hsm];dsimp only;rw[q4 rfl,g2];dsimp only;rw[hei];show qa (wpAny_isSame_ref_self ?_);rw[q4 rfl];show qa (qb ?_);show ih (n0+m+1) _ ∅ ∅ rfl λq hq i' hl'=>?_;rcases lt_or_ge q n0 with z|z
     .show hsofar q z i' hl'
     .rcases lt_or_ge q (n0+m)with z2|z2
      .intro hc;show g5 (q-n0) ∅ i' (by rw[<-Ai,show n0+(q-n0)=q by lia];show hl') ?_;rw[hent];cases hx:xs[i']? with
       |none=>rw[hx]at hc;cases hc
       |some x=>rw[hx]at hc;let:x.1=k:=qf hc;rw[<-this];rfl
      .let:q=n0+m:=by lia
       subst this;rw[g2]at hl';cases hl';rw[qh hix];show λz=>hkk (qf z)
   split
   .rename_i met heq;let h3:t.probe (λi=>(es[i]?.map (·.1)).getD 0) (knd.hash k) (aD t (t.probeStart (knd.hash k)) n0)=some met:=heq;rw[e]at h3;cases h3;dsimp only;split
    .refine qa (Gf hcl hk (λv hv=>?_) ?_)
     .obtain⟨p,hp,rfl⟩:=qK.mp hv;let hp2:p∈es.toList:=by let:=mem_toList_iff.mp hp;exact mem_toList_iff.mpr (Array.mem_filter.mp this).1
      rw[he]at hp2;let#[x,hx,rfl]:=qK.mp hp2;show#[x.1,x.2,rfl,his x hx]
     .simp;show body
    .show body
   .rename_i heq;show absurd e (heq _)
def cU(t:SetTable)(n:Nat):Prop:=n*5<t.mask*3
@[inline]def TSet(ld:Bool)(knd:HeapKind prog w K)(h:Heap)(a:Addr)(xs:List (K×Addr)):Prop:=∃o es ep t,h.get? a=some o/\o.ExactSet/\o.data=.set es ep t/\t.led=ld/\eU t (es.toList.map (·.1))/\cU t es.size/\es.toList=cA knd xs/\(∀x∈xs,knd.is h x.1 x.2)/\(xs.map (·.1)).Nodup
def DJ(T:eU t hs):eU {t with plain:=p} hs:=by let F:∀n q,aD {t with plain:=p} q n=aD t q n:=Ao rfl;let B:∀b,SetTable.probeStart {t with plain:=p} b=t.probeStart b:=An rfl;let z:∀j,SetTable.slot {t with plain:=p} j=t.slot j:=λj=>rfl;show#[T.ris,T.dum,T.mask,T.size,T.le,T.few,λi hi h v=>?_];let#[n,a,b]:=T.reach i hi h v;grind
def Bu(h:n<=1000):n<=sizeLine:=by rw[zf];lia
def AB{h:Heap}(z:h.get? a=some o)(v:o.data=.set es ep t):(h.update a (Obj.putSet es' t')).get? a=some {o with data:=.set es' (ep+1) t'}:=by let:=za (Obj.putSet es' t') z (by rw[putSet_of es' t' v];rfl);rw[putSet_of es' t' v]at this;show this
def Cy(O:s.heap.get? a=some o)(Y:o.data=.set es ep t)(T:eU t (es.toList.map (·.1)))(hn:es.size=n)(J:bI (sizeAbove B-1))(hr:n*5<(sizeAbove B-1)*3)
  (h:∀es' t',es'.toList.Perm es.toList->eU t' (es'.toList.map (·.1))->t'.mask=sizeAbove B-1->t'.led=t.led->Q () {s with heap:=s.heap.update a (Obj.putSet es' t')}):wpAny (model prog w) A (setRelay a B) Q E s:=by
 let hm:sizeAbove B-1<=511:=by rcases J with z|z|z|z|z|z|z<;>lia
 let L:es.size<=sizeAbove B-1:=∅
 let#[t',v,e1,e2,e3,e4,e5,e6]:=CG (finger:=t.finger) (moves:=t.movedTo (sizeAbove B-1)) (led:=t.led) (plain:=t.plain) J L;let G:(v.filterMap (es[·]?)).size=es.size:=by rw[<-qV,e2.length_eq,qV]
 show qa (wpAny_setState_of O Y (T.fits (by simp)) ?_);dsimp only;let F:¬(sizeAbove B>sizeLine):=by rw[zf];lia
 rw[q5 F];let M:t.relaid (es.map (·.1)) B=some (t',v):=e1;rw[M];show qa ?_;show wpAny (model prog w) A (if((v.filterMap (es[·]?)).size !=es.size)=true then _ else _) _ E s;rw[G];simp;show qb ?_;show wpAny_storeSet_of O Y (h _ t' e2 e3 e4 e5) (Bu (by rw[G];lia))
def Fh(h:bI m):7<=m/\m<=511:=by rcases h with z|z|z|z|z|z|z<;>lia
def Bj(h:l.Perm (cA knd xs)):∃ys,ys.Perm xs/\l=cA knd ys:=by
 unfold cA at h;induction l generalizing xs with
 |nil=>
  let:=h.length_eq;let v:xs=[]:=↑this.symm
  subst v;show#[[],.refl _,rfl]
 |cons e l F=>
  let G:e∈xs.map λp=>(knd.hash p.1,Value.ref p.2):=h.mem_iff.mp (by simp);let#[x,v,rfl]:=qK.mp G;let#[B,z,rfl]:=append_of_mem v;let h2:l.Perm ((B++z).map λp=>(knd.hash p.1,Value.ref p.2)):=by grind
  let#[ys,p,rfl]:=F h2;show#[x::ys,(List.Perm.cons x p).trans perm_middle.symm,rfl]
theorem EJ(hcl:∀{k:K}{b:Addr}{Q:Bool->Shared->Prop},knd.is s.heap k b->Q false s->wpAny (model prog w) A (ofAClassStatement 8 (.ref b)) Q E s)(hbv:∀{k:K}{b:Addr}{Q:Bool->Shared->Prop},knd.is s.heap k b->(∀r,Q r s)->wpAny (model prog w) A (hashByValue 8 (.ref b)) Q E s)
  (hkp:∀{h h':Heap}{k:K}{c:Addr}{o:Obj}{es:Array (Int×Value)}{ep:Nat}{t:SetTable},knd.is h k c->h.get? a=some o->o.data=.set es ep t->Heap.SameBut a h h'->knd.is h' k c)
  (hu:knd.room A)(hk:knd.is s.heap k b)(hS:TSet ld knd s.heap a xs)(hroom:xs.length<=150)
  (h1:k∈xs.map (·.1)->Q false s)(h2:k∉xs.map (·.1)->∀h' ys,Heap.SameBut a s.heap h'->ys.Perm ((k,b)::xs)->TSet ld knd h' a ys->Q true {s with heap:=h'}):
  wpAny (model prog w) A (setAddHashed a (.ref b) (knd.hash k)) Q E s:=by
 let#[o,es,ep,t,ho,hex,hd,hld,T,hrm,he,his,hnd]:=hS;let hsz:t.fits es.size=true:=T.fits (by simp);let zK:es.size=xs.length:=by rw[<-qV,he];simp[cA]
 let#[n,hf,hemp,hne]:=T.free (knd.hash k);let hmk:t.mask<=511:=by rcases T.mask with z|z|z|z|z|z|z<;>lia
 show zg (qa (wpAny_setState_of ho hd hsz ?_));dsimp only;let hbs:byScan (.ref b) es=false:=by simp[byScan,Value.scannable]
 rw[hbs];show qa ?_;show Cw hcl hu hk ho hd he his T hf hemp hne (λhm=>?_) (λhm=>?_) 100000 0 none (zero_le _) (by unfold turns at hf;lia) rfl (λm hm=>by lia)
 .show qb (h1 hm)
 .dsimp only;show qa (wpAny_setState_of ho hd hsz ?_);let hjm:=Cf (t:=t) (h:=knd.hash k) T.mask n;let hfew:(es.toList.map (·.1)).length+1<=t.mask:=by grind[length_map,length_toList,Fh,cU]
  let TP:=T.put hemp hne hjm hfew;generalize hj:(aD t (t.probeStart (knd.hash k)) n).j=j at*;let#[e1,e2,e3,e4]:=Bh (t:=t) (j:=j) T.dum;let epl:(t.put j).1.led=t.led:=by unfold SetTable.put;first|rfl|(split<;>rfl)
  generalize hp:t.put j=tp at*;let#[t1,p]:=tp
  --the things behind it
  let hel:(insertAt es p (knd.hash k,Value.ref b)).toList=es.toList.take p++(knd.hash k,Value.ref b)::es.toList.drop p:=toList_insertAt ..;let TP':eU t1 ((insertAt es p (knd.hash k,Value.ref b)).toList.map (·.1)):=by simp_all
  let hys:(insertAt es p (knd.hash k,Value.ref b)).toList=cA knd (xs.take p++(k,b)::xs.drop p):=by rw[hel,he];unfold cA;simp_all
  let hyp:(xs.take p++(k,b)::xs.drop p).Perm ((k,b)::xs):=by grind[perm_middle.trans,take_append_drop]
  let hsz1:(insertAt es p (knd.hash k,Value.ref b)).size=es.size+1:=by rw[<-qV,hys];grind
  let all:∀{h':Heap}{ys:List (K×Addr)},Heap.SameBut a s.heap h'->ys.Perm ((k,b)::xs)->(∀x∈ys,knd.is h' x.1 x.2)/\(ys.map (·.1)).Nodup:=λ{h' ys} sb pm=>by grind
  have tail:∀t2:SetTable,eU t2 ((insertAt es p (knd.hash k,Value.ref b)).toList.map (·.1))->t2.mask=t.mask->t2.led=t.led->wpAny (model prog w) A (do
    storeSet a (insertAt es p (knd.hash k,Value.ref b)) t2
    if(!false&&t2.tooFull)=true then do
       setRelay a (grown (es.size+1))
       pure true
     else pure true) Q E s:=λt2 T2 em el=>by
   show qa (wpAny_storeSet_of ho hd ?_ (Bu ∅));let ho1:=AB (es':=insertAt es p (knd.hash k,Value.ref b)) (t':=t2) ho hd;let hsb1:=Heap.SameBut.update s.heap a (Obj.putSet (insertAt es p (knd.hash k,Value.ref b)) t2);let hfill:t2.fill=es.size+1:=by unfold fill;rw[T2.size,T2.dum,qo,qV,hsz1];rfl
   by_cases hfull:t2.tooFull=true
   .rw[hfull];let hn5:bI (sizeAbove (grown (es.size+1))-1)/\(es.size+1)*5<(sizeAbove (grown (es.size+1))-1)*3:=by
     unfold tooFull at hfull;unfold cU at hrm;rcases T.mask with z|z|z|z|z|z|z
     .rw[show es.size+1=5 by lia];show#[.inr (.inr (.inl ⋯)),⋯]
     .rw[show es.size+1=9 by lia];show#[.inr (.inr (.inr (.inl ⋯))),⋯]
     .rw[show es.size+1=19 by lia];show#[.inr (.inr (.inr (.inr (.inl ⋯)))),⋯]
     .rw[show es.size+1=38 by lia];show#[.inr (.inr (.inr (.inr (.inr (.inl ⋯))))),⋯]
     .rw[show es.size+1=77 by lia];show#[.inr (.inr (.inr (.inr (.inr (.inr ⋯))))),⋯]
     .lia
     .lia
    show qa (Cy (s:={s with heap:=s.heap.update a (Obj.putSet (insertAt es p (knd.hash k,Value.ref b)) t2)}) ho1 rfl T2 hsz1 hn5.1 hn5.2 λes' t' pm T' rm rl=>qb ?_);rw[hys]at pm;let#[ys,pm2,ey]:=Bj pm;let sb2:=hsb1.trans (Heap.SameBut.update (s.heap.update a (Obj.putSet (insertAt es p (knd.hash k,Value.ref b)) t2)) a (Obj.putSet es' t'));let hz':es'.size=es.size+1:=by rw[<-qV,ey];let:=(pm2.trans hyp).length_eq;grind[cA,length_map,length_cons]
    let#[i1,i2]:=all sb2 (pm2.trans hyp);show h2 hm _ ys sb2 (pm2.trans hyp) #[_,es',_,t',AB ho1 rfl,hex,rfl,rl.trans (el.trans hld),T',by unfold cU;rw[hz',rm];show hn5.2,ey,i1,i2]
   .rw[Bool.not_eq_true]at hfull;rw[hfull];let#[i1,i2]:=all hsb1 hyp;show qb (h2 hm _ _ hsb1 hyp #[_,_,_,t2,ho1,hex,rfl,el.trans hld,T2,?_,hys,i1,i2]);unfold tooFull at hfull;grind[cU]
  split
  .show qa (hbv hk λr=>?_);cases r with
   |true=>show tail t1 TP' e2 epl
   |false=>show tail {t1 with plain:=false} (DJ TP') e2 epl
  grind
end
end ST
namespace ST
open PySem
section
variable{prog:Program}{w:World}{K:Type}[DecidableEq K]{knd:KeyKind prog w K}{A:Around}{E:zj}{s:Shared}{ks:List K}{b:Addr}
def DU(h:carriedByValue v=true):ofAClassStatement n v=pure false:=by
 cases v with
 |ref a=>simp[carriedByValue]at h
 |_=>first|rfl|simp|(unfold ofAClassStatement;rfl)
def EG(h:carriedByValue v=true):∃r,hashByValue n v=pure r:=by
 cases v with
 |ref a=>simp[carriedByValue]at h
 |float bits t=>show#[(Float64.hash? bits).isSome,by rw[hashByValue]]
 |none|bool _|int _ _=>show#[true,by rw[hashByValue]]
 |_=>show#[false,by rw[hashByValue]]
def BP(F:IsTupleKey knd s.heap ks b)(h:Q false s):wpAny (model prog w) A (ofAClassStatement 8 (.ref b)) Q E s:=by
 let M:=F.typeIs;let#[o,items,n,J,_,L,hi]:=F;unfold ofAClassStatement;show qa (wpAny_typeOf M ?_);dsimp only;show qa (qb ?_);show qa (wpAny_seqItems J L ?_);show qa ?_;rw[<-forIn_toList];show wpAny_forIn_list _ (λrest r s'=>r.1=none/\s'=s/\∀v∈rest,carriedByValue v=true) _ ?_ ?_ _ _ #[rfl,rfl,hi.byValue]
 .rintro v rest r s' ⟨B,rfl,z⟩;rw[DU (z v qm)];show qa (qb ?_);show qb #[rfl,rfl,λx G=>z x (qk _ G)]
 .rintro r s' ⟨B,rfl,_⟩;rw[B];show qb h
def Cv(B:IsTupleKey knd s.heap ks b)(h:∀r,Q r s):wpAny (model prog w) A (hashByValue 8 (.ref b)) Q E s:=by
 let M:=B.typeIs;let#[o,items,n,J,_,L,hi]:=B;show qa (wpAny_specialOf M F.slot_tuple_hash.lookup ?_);dsimp only;show qa (wpAny_seqItems J L ?_);show qa ?_;rw[<-forIn_toList];show wpAny_forIn_list _ (λrest r s'=>s'=s/\∀v∈rest,carriedByValue v=true) _ ?_ ?_ _ _ #[rfl,hi.byValue]
 .rintro v rest r s' ⟨rfl,z⟩;let#[c,e]:=EG (n:=7) (z v qm);rw[e];show qa (qb ?_);cases c
  .show qb (qb (h _))
  .show qb #[rfl,λx G=>z x (qk _ G)]
 .rintro r s' ⟨rfl,_⟩;cases r.1<;>show qb (h _)
def AA(x:IsTupleKey knd h ks b)(G:h.get? a=some o)(J:o.data=.set es ep t)(hs:Heap.SameBut a h h'):IsTupleKey knd h' ks b:=by
 let#[o',items,n,v,F,B,hi]:=x;let z:b≠a:=by grind
 show#[o',items,n,(hs.2 b z).trans v,F,B,hi]
end
def Dh(hn:n≠0)(h:∀i,i<n->∀d,Q i {s with drawn:=d}):wpAny (model prog w) A (choose .order n) Q E s:=
 λ_ _ _=>#[hn,h _ (mod_lt _ (Nat.pos_of_ne_zero hn)) _]
def BJ:∀(n:Nat){xs:List α}{s:Shared}{Q:List α->Shared->Prop},xs.length=n->(∀ys d,ys.Perm xs->Q ys {s with drawn:=d})->wpAny (model prog w) A (drawOrder n xs) Q E s
 |0,xs,s,Q,e,h=>by
  cases xs with
  |nil=>show qb (h [] s.drawn .nil)
  |cons _ _=>cases e
 |n+1,xs,s,Q,e,h=>by
  cases xs with
  |nil=>cases e
  |cons x xs=>show qa (Dh (by simp) λi hi d=>?_);rw[qh hi];show qa (BJ n (by rw[List.length_eraseIdx,q4 hi,e];rfl) λys z v=>?_);show qb (h _ z ((v.cons _).trans ?_));rw[List.eraseIdx_eq_take_drop_succ];show perm_middle.symm.trans ?_;rw[List.getElem_cons_drop,take_append_drop]
def Av(h:Q (w.params.followText "set-order") s):wpAny (model prog w) A setsByText Q E s:=qa (wpAny_askSetting (qb h))
theorem slot_next:Slot "set_iterator" "__next__" "set_iterator.__next__":=
 .of (owner:="set_iterator") (n:="__next__") (by rw[typeLookup_type];kernel_rfl) (by decide+kernel) (by decide+kernel) (by decide+kernel)
  (by first|show .inl (by decide+kernel)|show .inr (by decide+kernel)) (by rw[isSubtype_type];kernel_rfl)
def AK:entryFor table "set_iterator.__next__"=some Builtin.«set_iterator.__next__»:=entryFor_of_tree (by kernel_rfl)
def AU(a:Value):argsOk "set_iterator.__next__" #[[a],[]]:=by unfold argsOk;kernel_rfl
def BR:Slot "set_iterator" "__iter__" "set_iterator.__iter__":=
 .of (owner:="set_iterator") (n:="__iter__") (by rw[typeLookup_type];kernel_rfl) (by decide+kernel) (by decide+kernel) (by decide+kernel)
  (by first|show .inl (by decide+kernel)|show .inr (by decide+kernel)) (by rw[isSubtype_type];kernel_rfl)
def De:entryFor table "set_iterator.__iter__"=some Builtin.«dict_keyiterator.__iter__»:=
 entryFor_alias (id':="dict_keyiterator.__iter__") (by kernel_rfl) rfl (by decide+kernel) (by kernel_rfl)
def DV(a:Value):argsOk "set_iterator.__iter__" #[[a],[]]:=by unfold argsOk;kernel_rfl
def kW(h:Heap)(I a:Addr)(f:Value)(i n ep:Nat):Prop:=∃o,h.get? I=some o/\o.cls=.type "set_iterator"/\o.data=.fields [f,.int i 0,.ref a,.int n 0,.int ep 0].toArray
@[inline]def SetAt(h:Heap)(a:Addr)(es:Array (Int×Value))(ep:Nat)(t:SetTable):Prop:=∃o,h.get? a=some o/\o.data=.set es ep t/\t.fits es.size=true
@[inline]def TupAt(h:Heap)(p:Addr)(ys:List Nat):Prop:=∃o c,h.get? p=some o/\o.data=.seq (ys.map λi:Nat=>rawInt (i:Int)).toArray c
def kW.typeIs{s:Shared}(x:kW s.heap I a f i n ep):s.TypeIs (.ref I) "set_iterator":=let⟨o,ho,hc,_⟩:=x;#[o,ho,hc]
def CZ(hit:kW s.heap I a (.ref p) i es.size ep)(hs:SetAt s.heap a es ep t)(O:TupAt s.heap p ys)(Y:ys[i]?=some j)(he:es[j]?=some e)
  (hQ:∀h',kW h' I a (.ref p) (i+1) es.size ep->Heap.SameBut I s.heap h'->Q (some e.2) {s with heap:=h'}):wpAny (model prog w) A (pyNext (.ref I)) Q E s:=by
 obtain⟨o,J,hc,G⟩:=id hit;let#[o',z,F,L]:=hs;let#[M,c,v,B]:=O;refine qa (wpAny_attempt (wpAny_callSpecial?_slot (name:=Str.ofString "__next__") hit.typeIs slot_next
  (ze slot_next hit.typeIs AK ?_ (AU _))))
 show wpAny _ _ (fieldsOf (.ref I)>>=_) _ _ s;show qa (wpAny_fieldsOf J G ?_);show qa (qa (wpAny_setState_of z F L (qb ?_)));rw[q5 (by simp)];show qa (wpAny_seqItems v B ?_);dsimp only;rw[qW,List.getElem?_toArray,qF,Y];dsimp only[map_some,rawInt];show qa (qa (wpAny_setState_of z F L ?_));dsimp only;rw[q5 (by simp),qW,he];show qb (qa (wpAny_setField J G (by simp) (qb #[_,rfl,qb (hQ _ ?_ (Heap.SameBut.update ..))])));show#[_,za _ J (Obj.isFreed_of_fields (Obj.data_mapFields G _)),(Obj.cls_mapFields ..).trans hc,by rw[Obj.data_mapFields G];simp]
def DT(Y:A.handled=none)(hit:kW s.heap I a (.ref p) i es.size ep)(hs:SetAt s.heap a es ep t)(M:TupAt s.heap p ys)(O:ys[i]?=none)
  (hQ:∀h',Heap.ExtBut I s.heap h'->Q none {s with heap:=h'}):wpAny (model prog w) A (pyNext (.ref I)) Q E s:=by
 obtain⟨o,G,hc,B⟩:=id hit;let#[o',F,J,hf]:=hs;let#[L,c,v,z]:=M;refine qa (wpAny_attempt (wpAny_callSpecial?_slot (name:=Str.ofString "__next__") hit.typeIs slot_next
  (ze slot_next hit.typeIs AK ?_ (AU _))))
 show wpAny _ _ (fieldsOf (.ref I)>>=_) _ _ s;show qa (wpAny_fieldsOf G B ?_);show qa (qa (wpAny_setState_of F J hf (qb ?_)));rw[q5 (by simp)];show qa (wpAny_seqItems v z ?_);dsimp only;rw[qW,List.getElem?_toArray,qF,O];show qa (wpAny_setField G B (by simp) ?_);show qa (wpAny_setField (za _ G (Obj.isFreed_of_fields (Obj.data_mapFields B _))) (Obj.data_mapFields B _) (by simp) ?_);show qa ?_;show qa (zd ?_ (by size_fits));show qa (m:=firstArgMember _ _) (zh (a:=Value.none) (by first|rfl|(simp;rfl)) ?_);show zd ?_ (by size_fits);show qa (wpAny_handled ?_);rw[show A.in1.handled=none from Y];show qa (qb (wpAny_throw ?_));show qa (wpAny_isInstance (T:="StopIteration") (b:=true) ⟨_,qd _ rfl,rfl⟩ isSubtype_stop ?_);show qb (hQ _ ((((Heap.SameBut.update ..).trans (Heap.SameBut.update ..)).extBut.push _).push _))
def Cz{slot slot':Nat}(hit:kW s.heap I a (.int slot 0) i es.size ep)(hs:SetAt s.heap a es ep t)
  (hn:∀(A:Around)(E:zj)(R:Option (Value×Nat)->Shared->Prop),R (some (v,slot')) s->wpAny (model prog w) A (setNext a slot i ep) R E s)
  (M:∀h',kW h' I a (.int slot' 0) (i+1) es.size ep->Heap.SameBut I s.heap h'->Q (some v) {s with heap:=h'}):wpAny (model prog w) A (pyNext (.ref I)) Q E s:=by
 obtain⟨o,B,L,z⟩:=id hit;let#[o',F,G,J]:=hs;refine qa (wpAny_attempt (wpAny_callSpecial?_slot (name:=Str.ofString "__next__") hit.typeIs slot_next
  (ze slot_next hit.typeIs AK ?_ (AU _))))
 show wpAny _ _ (fieldsOf (.ref I)>>=_) _ _ s;show qa (wpAny_fieldsOf B z ?_);dsimp only;show qa (qa (wpAny_setState_of F G J (qb ?_)));rw[q5 (by simp)];show qa (hn _ _ _ ?_);show qa (wpAny_setField B z (by simp) ?_);show qa (wpAny_setField (za _ B (Obj.isFreed_of_fields (Obj.data_mapFields z _))) (Obj.data_mapFields z _) (by simp) ?_);show qb #[_,rfl,qb (M _ ?_ ((Heap.SameBut.update ..).trans (Heap.SameBut.update ..)))];show#[_,za _ (za _ B (Obj.isFreed_of_fields (Obj.data_mapFields z _))) (Obj.isFreed_of_fields (Obj.data_mapFields (Obj.data_mapFields z _) _)),(Obj.cls_mapFields ..).trans ((Obj.cls_mapFields ..).trans L),by rw[Obj.data_mapFields (Obj.data_mapFields z _)];simp[rawInt]]
def Dz{slot:Nat}(G:A.handled=none)(hit:kW s.heap I a (.int slot 0) i es.size ep)(hs:SetAt s.heap a es ep t)
  (hn:∀(A:Around)(E:zj)(R:Option (Value×Nat)->Shared->Prop),R none s->wpAny (model prog w) A (setNext a slot i ep) R E s)
  (L:∀h',Heap.ExtBut I s.heap h'->Q none {s with heap:=h'}):wpAny (model prog w) A (pyNext (.ref I)) Q E s:=by
 obtain⟨o,B,M,F⟩:=id hit;let#[o',v,z,J]:=hs;refine qa (wpAny_attempt (wpAny_callSpecial?_slot (name:=Str.ofString "__next__") hit.typeIs slot_next
  (ze slot_next hit.typeIs AK ?_ (AU _))))
 show wpAny _ _ (fieldsOf (.ref I)>>=_) _ _ s;show qa (wpAny_fieldsOf B F ?_);dsimp only;show qa (qa (wpAny_setState_of v z J (qb ?_)));rw[q5 (by simp)];show qa (hn _ _ _ ?_);show qa (wpAny_setField B F (by simp) ?_);show qa ?_;show qa (zd ?_ (by size_fits));show qa (m:=firstArgMember _ _) (zh (a:=Value.none) (by first|rfl|(simp;rfl)) ?_);show zd ?_ (by size_fits);show qa (wpAny_handled ?_);rw[show A.in1.handled=none from G];show qa (qb (wpAny_throw ?_));show qa (wpAny_isInstance (T:="StopIteration") (b:=true) ⟨_,qd _ rfl,rfl⟩ isSubtype_stop ?_);show qb (L _ (((Heap.SameBut.update ..).extBut.push _).push _))
def Bw(hit:kW s.heap I a f i n ep)(h:Q (.ref I) s):wpAny (model prog w) A (pyIter (.ref I)) Q E s:=by show wpAny_pyIter_slot hit.typeIs BR (ze BR hit.typeIs De ?_ (DV _));show qb #[_,rfl,"set_iterator",_,hit.typeIs,slot_next.lookup,h]
end ST
namespace ST
open PySem PySem.SetTable
section
variable{prog:Program}{w:World}{A:Around}{E:zj}{s:Shared}{I a p:Addr}{es:Array (Int×Value)}{ep i slot:Nat}{t:SetTable}{ys:List Nat}
def AX(hs:SetAt s.heap a es ep t)(L:w.params.followText "set-order"=false)(z:¬(!t.plain&&decide (es.size>1))=true)(F:t.led=true)
  (h:R (match es[below t.place slot]?,t.place[below t.place slot]? with|some (_,x),some j=>some (x,j+1)|_,_=>none) s):wpAny (model prog w) A (setNext a slot i ep) R E s:=by
 let#[o',v,B,G]:=hs;show qa (wpAny_setState_of v B G ?_);show qa (Av ?_);rw[L,q5 ⋯];split
 .rename_i J;show absurd J z
 .show qa ?_;show wpAny _ _ (if(!t.led&& !es.isEmpty)=true then _ else _) _ _ _;rw[F];show qb ?_;show qb h
def Bb(hs:SetAt s.heap a es ep t)(F:w.params.followText "set-order"=true)
  (h:R (((pickOrder (w.params.setOrder a ep) es)[i]?).map λe=>(e.2,slot)) s):wpAny (model prog w) A (setNext a slot i ep) R E s:=by
 let#[o',v,z,B]:=hs;show qa (wpAny_setState_of v z B ?_);show qa (Av ?_);rw[F,q4 rfl,q5 (by simp)];show qa ?_;show qa (wpAny_setState_of v z B ?_);show qa (Av ?_);rw[F];show qa (wpAny_askSetting ?_);show qb (qb h)
def Di(v:Rising xs):below xs 0=0:=by
 let#[h1,h2,B]:=AE (j:=0) v;rcases Nat.eq_zero_or_pos (below xs 0)with z|z
 .show z
 .show absurd (h2 0 ∅ z) (Nat.not_lt_zero _)
def Dj(v:Rising xs)(hi:i<xs.size):below xs (xs[i]+1)=i+1:=by
 let#[h1,h2,B]:=AE (j:=xs[i]+1) v;let a:i<below xs (xs[i]+1):=Nat.lt_of_not_le λz=>absurd (B i hi z) ∅;rcases lt_or_ge (i+1) (below xs (xs[i]+1))with z|z
 .let b:=h2 (i+1) ∅ z;let c:=v i (i+1) hi ∅ ∅;lia
 .lia
end
def Du(f:Nat->Nat):∀(n k:Nat)(left:List α)(v:Array α),left.length=n->((pickOrder.go f n k left v).toList).Perm (v.toList++left)
 |0,k,left,v,e=>by
  cases left with
  |nil=>unfold pickOrder.go;simp
  |cons _ _=>cases e
 |n+1,k,left,v,e=>by let hi:f k %left.length<left.length:=mod_lt _ ∅;unfold pickOrder.go;rw[qh hi];show(Du f n (k+1) _ _ (by rw[List.length_eraseIdx,q4 hi,e];rfl)).trans ?_;rw[toList_push,qp];show List.Perm.append_left _ ?_;show(left[f k %left.length]::left.eraseIdx (f k %left.length)).Perm left;rw[List.eraseIdx_eq_take_drop_succ];show perm_middle.symm.trans ?_;rw[List.getElem_cons_drop,take_append_drop]
def AR(f:Nat->Nat)(xs:Array α):((pickOrder f xs).toList).Perm xs.toList:=by let:=Du f xs.size 0 xs.toList #[] (by simp);first|rfl|assumption|(simp_all;done)
def SetAt.same(x:SetAt h a es ep t)(hs:Heap.SameBut I h h')(v:a≠I):SetAt h' a es ep t:=let⟨o,ho,r⟩:=x;#[o,(hs.2 a v).trans ho,r]
def TupAt.same(x:TupAt h p ys)(hs:Heap.SameBut I h h')(v:p≠I):TupAt h' p ys:=let⟨o,c,ho,r⟩:=x;#[o,c,(hs.2 p v).trans ho,r]
def fV(ord:List (Int×Value))(i:Nat)(v:Value):Prop:=∃e,ord[i]?=some e/\v=e.2
def Cu(hh:A.handled=none){ord:List (Int×Value)}(ho:ord.length=es.size)(hy:ys.length=es.size)(hor:∀(i j:Nat),ys[i]?=some j->es[j]?=ord[i]?/\j<es.size)(ha:a≠I)(hp:p≠I):
  Walks prog w A I [I,a,p] [I] es.size (fV ord) (λi h=>kW h I a (.ref p) i es.size ep/\SetAt h a es ep t/\TupAt h p ys) where
 sub:=λb hb=>by rw[qu.mp hb];simp
 frame:=λi h h' st hk=>by let#[#[o,h1,h2],#[o',h3,h4],#[o'',c,h5,h6]]:=st;show#[#[o,hk I (by simp) o h1,h2],#[o',hk a (by simp) o' h3,h4],#[o'',c,hk p (by simp) o'' h5,h6]]
 item:=λi s Q E hi st hQ=>by let hj:ys[i]?=some (ys[i]'∅):=qh ∅;let#[he,hlt]:=hor i _ hj;let hoi:ord[i]?=some (ord[i]'∅):=qh ∅;show CZ st.1 st.2.1 st.2.2 hj (he.trans hoi) λh' hit' hs'=>?_;show hQ _ h' s.toks #[_,hoi,rfl] #[hit',st.2.1.same hs' ha,st.2.2.same hs' hp] λb o hb e=>hs'.extBut b o (λz=>hb (by simp[z])) e
 done:=λs Q E st hQ=>DT hh st.1 st.2.1 st.2.2 (qQ ∅) λh' he'=>hQ h' s.toks λb o hb e=>he' b o (λz=>hb (by simp[z])) e
 self:=λ_ _ _ _ st hQ=>Bw st.1 hQ
def CS(hh:A.handled=none)(hb:w.params.followText "set-order"=true)(ha:a≠I):
  Walks prog w A I [I,a] [I] es.size (fV (pickOrder (w.params.setOrder a ep) es).toList) (λi h=>kW h I a (.int ((0:Nat):Int) 0) i es.size ep/\SetAt h a es ep t) where
 sub:=λb hb=>by rw[qu.mp hb];simp
 frame:=λi h h' st hk=>by let#[#[o,h1,h2],#[o',h3,h4]]:=st;show#[#[o,hk I (by simp) o h1,h2],#[o',hk a (by simp) o' h3,h4]]
 item:=λi s Q E hi st hQ=>by let hl:=(AR (w.params.setOrder a ep) es).length_eq;rw[qV,qV]at hl;let hoi:(pickOrder (w.params.setOrder a ep) es)[i]?=some ((pickOrder (w.params.setOrder a ep) es)[i]'∅):=getElem?_eq_getElem ∅;show Cz (slot':=0) st.1 st.2 (λA E R hR=>Bb st.2 hb (by rw[hoi];show hR)) λh' hit' hs'=>?_;show hQ _ h' s.toks #[_,by rw[qZ];show hoi,rfl] #[hit',st.2.same hs' ha] λb o hb e=>hs'.extBut b o (λz=>hb (by simp[z])) e
 done:=λs Q E st hQ=>by let hl:=(AR (w.params.setOrder a ep) es).length_eq;rw[qV,qV]at hl;show Dz hh st.1 st.2 (λA E R hR=>Bb st.2 hb (by rw[Array.getElem?_eq_none ∅];show hR)) λh' he'=>hQ h' s.toks λb o hb e=>he' b o (λz=>hb (by simp[z])) e
 self:=λ_ _ _ _ st hQ=>Bw st.1 hQ
def Ct(hh:A.handled=none)(hb:w.params.followText "set-order"=false)(hnd:¬(!t.plain&&decide (es.size>1))=true)(hl:t.led=true)(hr:Rising t.place)(hz:t.place.size=es.size)(ha:a≠I):
  Walks prog w A I [I,a] [I] es.size (fV es.toList) (λi h=>∃slot:Nat,kW h I a (.int slot 0) i es.size ep/\below t.place slot=i/\SetAt h a es ep t) where
 sub:=λb hb=>by rw[qu.mp hb];simp
 frame:=λi h h' st hk=>by let#[sl,#[o,h1,h2],hbl,#[o',h3,h4]]:=st;show#[sl,#[o,hk I (by simp) o h1,h2],hbl,#[o',hk a (by simp) o' h3,h4]]
 item:=λi s Q E hi st hQ=>by
  let#[sl,hit,hbl,hs]:=st;let hi':i<t.place.size:=∅
  show Cz (slot':=t.place[i]+1) (v:=es[i].2) hit hs (λA E R hR=>AX hs hb hnd hl (by rw[hbl,getElem?_eq_getElem hi,getElem?_eq_getElem hi'];show hR)) λh' hit' hs'=>?_;show hQ _ h' s.toks #[es[i],by rw[qZ];show getElem?_eq_getElem hi,rfl] #[_,hit',Dj hr hi',hs.same hs' ha] λb o hb e=>hs'.extBut b o (λz=>hb (by simp[z])) e
 done:=λs Q E st hQ=>by let#[sl,hit,hbl,hs]:=st;show Dz hh hit hs (λA E R hR=>AX hs hb hnd hl (by rw[hbl,Array.getElem?_eq_none (q8 _)];show hR)) λh' he'=>hQ h' s.toks λb o hb e=>he' b o (λz=>hb (by simp[z])) e
 self:=λ_ _ _ _ st hQ=>by let#[sl,hit,_]:=st;show Bw hit hQ
def Df:entryFor table "set.__iter__"=some Builtin.«frozenset.__iter__»:=
 entryFor_alias (id':="frozenset.__iter__") (by kernel_rfl) rfl (by decide+kernel) (by kernel_rfl)
theorem lt_of_get{h:Heap}(e:h.get? b=some o):b<h.objs.size:=Nat.lt_of_not_le λz=>by
 let:h.get? b=none:=by unfold Heap.get?;rw[Array.getElem?_eq_none z]
 rw[this]at e;cases e
def iF(es:Array (Int×Value))(j:Nat):Int×Value:=(es[j]?).getD (0,.none)
def DO(es:Array (Int×Value)):(List.range es.size).map (iF es)=es.toList:=by show List.ext_getElem (by simp) λi h1 h2=>?_;simp at h1;rw[getElem_map,List.getElem_range];unfold iF;rw[getElem?_eq_getElem h1];rfl
def EC(hT:s.TypeIs (.ref a) "set")(hs:SetAt s.heap a es ep t)(hr:Rising t.place)(hz:t.place.size=es.size)(h3:w.params.followText "set-order"=false->t.led=true)(hn:es.size<=300)
  (hQ:∀(I:Addr)(h':Heap)(d:Drawn)(ord:List (Int×Value))(fp:List Addr)(St:Nat->Heap->Prop),ord.Perm es.toList->(∀A':Around,A'.handled=none->Walks prog w A' I fp [I] es.size (fV ord) St)->St 0 h'->I∈fp->
   (∀b∈fp,(b=a\/s.heap.objs.size<=b)/\b<h'.objs.size)->(∀b o,s.heap.get? b=some o->h'.get? b=some o)->s.heap.objs.size<=I->Q (.ref I) {s with heap:=h',drawn:=d}):wpAny (model prog w) A (pyIter (.ref a)) Q E s:=by
 let#[o',v,B,hf]:=id hs;let G:=lt_of_get v;show wpAny_pyIter_slot hT F.slot_set_iter (ze F.slot_set_iter hT Df ?_ (F.args_set_iter_1 _));unfold Builtin.«frozenset.__iter__» Builtin.Frozenset.slot0 slotArgs;simp only[List.isEmpty_nil,Bool.not_true,↓reduceIte,bind_assoc,qv,bne_self_eq_false];show qa (qb ?_);show qa (qb ?_);show qa (qa (wpAny_setEntries_of v B hf (qb ?_)));show qa (qa (wpAny_setState_of v B hf ?_));show qa (Av (qb ?_));let L:∀(h:Heap)(o:Obj)(b:Addr)(o2:Obj),h.get? b=some o2->(h.push o).get? b=some o2:=λh o b o2 e=>qc _ e;show wpAny _ _ (if(!w.params.followText "set-order"&&(!t.plain&&decide (es.size>1)))=true then _ else _) _ _ _;by_cases hc:(!w.params.followText "set-order"&&(!t.plain&&decide (es.size>1)))=true
 .rw[q4 hc];show qa (BJ es.size (by simp) λys d hp=>?_);let O:ys.length=es.size:=by rw[hp.length_eq];simp
  let M:∀j∈ys,j<es.size:=λj Y=>qJ.mp (hp.mem_iff.mp Y);show qa (wpAny_newTuple ?_ (by rw[qo,O];show le_trans hn ⋯));show qa (qa (wpAny_setState_of (L _ _ _ _ v) B hf (qb ?_)));show qa (zd (qb #[_,rfl,"set_iterator",_,#[_,qd _ rfl,rfl],slot_next.lookup,?_]) (by size_fits));let g1:∀j,j<es.size->es[j]?=some (iF es j):=λj Y=>by unfold iF;rw[getElem?_eq_getElem Y];rfl
  let h5:(s.heap.push {cls:=.type "tuple",data:=.seq (ys.map λi:Nat=>rawInt (i:Int)).toArray}).get? s.heap.objs.size=some {cls:=.type "tuple",data:=.seq (ys.map λi:Nat=>rawInt (i:Int)).toArray}:=qd _ rfl;show hQ _ _ d (ys.map (iF es)) [_,a,s.heap.objs.size] _ ((hp.map _).trans (by rw[DO])) (λA' hA=>Cu (ep:=ep) (t:=t) (ys:=ys) hA (by rw[qo,O]) O (λi j Y=>#[?_,M j (qM Y)]) ?_ ?_) #[#[_,qd _ rfl,rfl,rfl],#[_,L _ _ _ _ (L _ _ _ _ v),B,hf],#[_,_,L _ _ _ _ h5,rfl]] (by simp) (λb J=>?_) (λb o e=>L _ _ _ _ (L _ _ _ _ e)) ?_
  .rw[qF,Y];show g1 j (M j (qM Y))
  .rw[Heap.size_push];show ne_of_lt (lt_succ_of_lt G)
  .rw[Heap.size_push];show ne_of_lt (lt_succ_self _)
  .rw[Heap.size_push,Heap.size_push];rw[Heap.size_push]at J;rcases qA.mp J with rfl|J
   .show#[.inr (le_succ _),lt_succ_self _]
   .rcases qA.mp J with rfl|J
    .show#[.inl rfl,lt_succ_of_lt (lt_succ_of_lt G)]
    .rw[qu.mp J];show#[.inr (q8 _),lt_succ_of_lt (lt_succ_self _)]
  .rw[Heap.size_push];show le_succ _
 .rw[q5 hc];show qa (qb ?_);show qa (qa (wpAny_setState_of v B hf (qb ?_)));show qa (zd (qb #[_,rfl,"set_iterator",_,#[_,qd _ rfl,rfl],slot_next.lookup,?_]) (by size_fits));let h2:a≠s.heap.objs.size:=ne_of_lt G;let h4:∀(o:Obj),∀b∈[s.heap.objs.size,a],(b=a\/s.heap.objs.size<=b)/\b<(s.heap.push o).objs.size:=λo b J=>by
   rw[Heap.size_push];rcases qA.mp J with rfl|J
   .show#[.inr (q8 _),lt_succ_self _]
   .rw[qu.mp J];show#[.inl rfl,lt_succ_of_lt G]
  by_cases J:w.params.followText "set-order"=true
  .show hQ _ _ s.drawn _ [_,a] _ (AR (w.params.setOrder a ep) es) (λA' hA=>CS (ep:=ep) (t:=t) hA J h2) #[#[_,qd _ rfl,rfl,rfl],#[_,L _ _ _ _ v,B,hf]] (by simp) (h4 _) (λb o e=>L _ _ _ _ e) (q8 _)
  .let h1:w.params.followText "set-order"=false:=by simpa using J
   show hQ _ _ s.drawn _ [_,a] _ (.refl _) (λA' hA=>Ct (ep:=ep) (t:=t) hA h1 (λz=>hc (by rw[h1,z];rfl)) (h3 h1) hr hz h2) #[0,#[_,qd _ rfl,rfl,rfl],Di hr,#[_,L _ _ _ _ v,B,hf]] (by simp) (h4 _) (λb o e=>L _ _ _ _ e) (q8 _)
def DQ(hn:ord.length=n)(h:ItemsOf (fV ord) v n):v.toList=ord.map (·.2):=by
 show ext_getElem? λi=>?_;rw[qZ,qF];rcases lt_or_ge i n with hi|hi
 .let h1:v[i]?=some (v[i]'(by rw[h.1];show hi)):=getElem?_eq_getElem _;let#[e,B,z]:=h.2 i _ h1;rw[h1,B,z];rfl
 .rw[Array.getElem?_eq_none (by rw[h.1];show hi),qQ (by rw[hn];show hi)];rfl
def CJ(hh:A.handled=none)(hT:s.TypeIs (.ref a) "set")(hs:SetAt s.heap a es ep t)(hr:Rising t.place)(hz:t.place.size=es.size)(h5:w.params.followText "set-order"=false->t.led=true)(hn:es.size<=300)
  (hQ:∀(s':Shared)(ord:List (Int×Value)),ord.Perm es.toList->(∀b o,s.heap.get? b=some o->s'.heap.get? b=some o)->s'.gens=s.gens->s'.os=s.os->s.toks<=s'.toks->Q (ord.map (·.2)) s'):wpAny (model prog w) A (collect (.ref a)) Q E s:=by
 let#[o',h4,hi,hf]:=id hs;let L:=lt_of_get h4;show qa (wpAny_runValue (codeAny_builtin F.entry_proto_collect ?_));show qa (zd ?_);show qb #[plainId_quiet F.plain_list_iadd _,codeAny_builtin F.entry_list_iadd ?_];let h2:(s.heap.push {cls:=.type "list",data:=.seq ([]:List Value).toArray}).get? s.heap.objs.size=some {cls:=.type "list",data:=.seq ([]:List Value).toArray}:=qd _ rfl;let h1:Builtin.List.listSameRef (.ref s.heap.objs.size) (.ref a)=false:=by simp[Builtin.List.listSameRef];show(ne_of_gt L)
 let e4:SetAt (s.heap.push {cls:=.type "list",data:=.seq ([]:List Value).toArray}) a es ep t:=#[o',qc _ h4,hi,hf]
 let O:Shared.TypeIs {s with heap:=s.heap.push {cls:=.type "list",data:=.seq ([]:List Value).toArray}} (.ref a) "set":=by let#[o2,e1,e2]:=hT;show#[o2,qc _ e1,e2]
 show wpAny _ A.in1 (Builtin.List.listExtendWith (.ref s.heap.objs.size) (.ref a) (.ref s.heap.objs.size)) _ _ _;show qa (wpAny_typeOf O ?_);rw[q5 (by rw[h1];decide)];show qa (EC O e4 hr hz h5 hn λI h' d ord fp St hp W h9 hI hx v h8=>?_);let M:Shared.TypeIs {s with heap:=h',drawn:=d} (.ref a) "set":=by let#[o2,e1,e2]:=O;show#[o2,v _ _ e1,e2]
 show qa (zg ?_);show qa (wpAny_specialOf M F.slot_set_len.lookup ?_);generalize hk:("set.__len__":String)=hd
 wp_delta
 subst hk;show qa (wpAny_isInstance (b:=true) M (by rw[isSubtype_type];kernel_rfl) ?_);show qa (wpAny_typeOf M ?_);show qb ?_;let G:=v _ _ h2;let WS:=(W A.in1 hh).toS;show qa (wpAny_rule ?_);show qa ?_;show qa (wpAny_updateSeq G rfl ?_);let B:=za (Obj.mapSeq (·.push Value.none)) G rfl;show wpAny_updateSeq (hz:=by seq_fits) B rfl ?_;let Y:=za (Obj.mapSeq (·.pop)) B rfl;let h3:∀b o,b≠s.heap.objs.size->h'.get? b=some o->((h'.update s.heap.objs.size (Obj.mapSeq (·.push Value.none))).update s.heap.objs.size (Obj.mapSeq (·.pop))).get? b=some o:=
  λb o J e=>(q9 _ _ (Ne.symm J)).trans ((q9 _ _ (Ne.symm J)).trans e)
 have h7:s.heap.objs.size∉fp:=λhm=>by
  rcases(hx _ hm).1 with z|z
  .show ne_of_gt L z
  .rw[Heap.size_push]at z;show Nat.not_succ_le_self _ z
 let e3:es.size<=sizeLine:=le_trans hn ⋯;show qb #[plainId_quiet F.plain_extend_loop _,codeAny_extend_loopS WS e3 _ h7 _ es.size 0 _ _ _ rfl (zero_le _) ((W A.in1 hh).frame 0 _ _ h9 λb J o e=>h3 b o (λz=>h7 (z▸J)) e) Y (ItemsOf.nil _) λs' hl c' hm hc h6=>?_];show qa (wpAny_load hc ?_);show qb ?_;rw[DQ (by rw[hp.length_eq,qV]) h6];show hQ s' ord hp (λb o e=>?_) hm.gens hm.os hm.toks;let J:=lt_of_get e;show hm.heap b o (λz=>?_) (h3 b o (ne_of_lt J) (v _ _ (qc _ e)));rcases qA.mp z with z|z
 .show ne_of_lt J z
 .rw[qu.mp z]at J;rw[Heap.size_push]at h8;show lt_irrefl _ (lt_of_lt_of_le J (le_trans (le_succ _) h8))
end ST
namespace ST
open PySem PySem.SetTable PyProof.Rows
section
variable{prog:Program}{w:World}{A:Around}{E:zj}{s:Shared}{I a p:Addr}{es:Array (Int×Value)}{ep i slot:Nat}{t:SetTable}{ys:List Nat}{h h':Heap}
theorem sorted_set(hh:A.handled=none)(hT:s.TypeIs (.ref a) "set")(hs:SetAt s.heap a es ep t)(Y:Rising t.place)(hz:t.place.size=es.size)(B:w.params.followText "set-order"=false->t.led=true)(hn:es.size<=300)
  (k:∀(v:Shared)(ord:List (Int×Value)),ord.Perm es.toList->(∀b o,s.heap.get? b=some o->v.heap.get? b=some o)->v.gens=s.gens->v.os=s.os->s.toks<=v.toks->
   (v.heap.push (seqObj "list" (ord.map (·.2)).toArray 0)).get? v.heap.objs.size=some (seqObj "list" (ord.map (·.2)).toArray 0)->
   wpAny (model prog w) A.in1.in1 (Builtin.«list.sort» #[[.ref v.heap.objs.size],[]]) (λF J=>∃r,F=.done (.ret r)/\Q (.ref v.heap.objs.size) J) E {v with heap:=v.heap.push (seqObj "list" (ord.map (·.2)).toArray 0)}):
  wpAny (model prog w) A (call (.builtin "sorted") [.ref a]) Q E s:=by
 show Calls.call_function_entry kind_sorted plain_sorted entry_sorted (args_sorted1 _) (?_:wpAny _ _ _ _ _ _);show qa (m:=checkCount "sorted" 1 1 _) (qb (qa (CJ hh hT hs Y hz B hn λv ord L M hg ho O=>?_)));let G:ord.length<=sizeLine:=by rw[L.length_eq];show le_trans hn ⋯
 show qa (wpAny_newList ?_ (by rw[qo];show G));let new:(v.heap.push (seqObj "list" (ord.map (·.2)).toArray 0)).get? v.heap.objs.size=some (seqObj "list" (ord.map (·.2)).toArray 0):=qd _ rfl;show qa (zg (ze slot_list_sort #[_,new,rfl] entry_list_sort (zi (k v ord L M hg ho O new) ?_ λe s' z=>z) (args_list_sort _)));rintro F J ⟨r,rfl,q⟩;show#[_,rfl,qb #[_,rfl,q]]
end
def pR:Value->Int
 |.int n _=>n
 |_=>0
theorem ints_map(h:IntsAre vs ns):ns=vs.map pR/\∀v∈vs,∃n t,v=.int n t:=by
 induction h with
 |nil=>show#[rfl,λv z=>nomatch z]
 |cons n t _ B=>show#[by rw[qy,<-B.1];rfl,λv z=>?_];grind
def Dw:∀{vs:List Value},(∀v∈vs,∃n t,v=.int n t)->IntsAre vs (vs.map pR)
 |[],_=>.nil
 |v::vs,h=>by let#[n,t,rfl]:=h v qm;show .cons n t (Dw λu z=>h u (qk _ z))
def DR(h:IntsAre vs ns)(z:us.Perm vs):∃ms,IntsAre us ms/\ms.Perm ns:=by let#[rfl,h2]:=ints_map h;show#[_,Dw λv B=>h2 v (z.mem_iff.mp B),z.map _]
theorem sortedHeap_at(z:h.get? a=some (seqObj "list" vs.toArray n))(v:Array Value):∃e,(sortedHeap h a vs v).get? a=some (seqObj "list" v e):=
 #[_,get?_update_seq (qc _ (qc _ (get?_update_seq z _))) _]
theorem sortedHeap_old(v:b≠a)(B:h.get? b=some o)(z:Array Value):(sortedHeap h a vs z).get? b=some o:=
 (q9 _ _ (Ne.symm v)).trans (qc _ (qc _ ((q9 _ _ (Ne.symm v)).trans B)))
section
variable{prog:Program}{w:World}{A:Around}{E:zj}{s:Shared}{a:Addr}{es:Array (Int×Value)}{ep:Nat}{t:SetTable}
theorem sorted_set_ints(hh:A.handled=none)(hT:s.TypeIs (.ref a) "set")(hs:SetAt s.heap a es ep t)(hr:Rising t.place)(hz:t.place.size=es.size)(F:w.params.followText "set-order"=false->t.led=true)(hn:es.size<64)
  (hI:IntsAre (es.toList.map (·.2)) ns)
  (k:∀(B:Shared)(D:Addr)(v:Array Value)(e:Nat)(z:List Int),IntsAre v.toList z->z.Perm ns->z.Pairwise (·<=·)->B.heap.get? D=some (seqObj "list" v e)->s.heap.get? D=none->(∀b o,s.heap.get? b=some o->B.heap.get? b=some o)->
   B.gens=s.gens->B.os=s.os->s.toks<=B.toks->Q (.ref D) B):wpAny (model prog w) A (call (.builtin "sorted") [.ref a]) Q E s:=by
 show sorted_set hh hT hs hr hz F ∅ λM ord O G hg ho Y new=>?_;let#[ms,hm,J]:=DR hI (O.map _);let hl:(ord.map (·.2)).length<64:=by rw[qo,O.length_eq];show hn
 show list_sort_tree new hm hl λv z a1 a2 a3=>#[_,rfl,?_]
 obtain⟨e,he⟩:=sortedHeap_at new v;let L:s.heap.get? M.heap.objs.size=none:=by
  cases q:s.heap.get? M.heap.objs.size with
  |none=>rfl
  |some o=>show absurd (lt_of_get (G _ _ q)) (lt_irrefl _)
 show k _ _ v e z a1 (a2.trans J) a3 he L (λb o q=>sortedHeap_old (ne_of_lt (lt_of_get (G b o q))) (qc _ (G b o q)) v) hg ho Y
end
def textOf:Value->Str
 |.str x _=>x
 |_=>Str.empty
theorem strs_map(h:StrsAre vs ss):ss=vs.map textOf/\∀v∈vs,∃x t,v=.str x t:=by
 induction h with
 |nil=>show#[rfl,λv z=>nomatch z]
 |cons n t _ B=>show#[by rw[qy,<-B.1];rfl,λv z=>?_];grind
def Dp:∀{vs:List Value},(∀v∈vs,∃x t,v=.str x t)->StrsAre vs (vs.map textOf)
 |[],_=>.nil
 |v::vs,h=>by let#[n,t,rfl]:=h v qm;show .cons n t (Dp λu z=>h u (qk _ z))
def DK(h:StrsAre vs ss)(z:us.Perm vs):∃ms,StrsAre us ms/\ms.Perm ss:=by let#[rfl,h2]:=strs_map h;show#[_,Dp λv B=>h2 v (z.mem_iff.mp B),z.map _]
section
variable{prog:Program}{w:World}{A:Around}{E:zj}{s:Shared}{a:Addr}{es:Array (Int×Value)}{ep:Nat}{t:SetTable}
theorem sorted_set_strs(hh:A.handled=none)(hT:s.TypeIs (.ref a) "set")(hs:SetAt s.heap a es ep t)(hr:Rising t.place)(hz:t.place.size=es.size)(F:w.params.followText "set-order"=false->t.led=true)(hn:es.size<64)
  (hI:StrsAre (es.toList.map (·.2)) ss)
  (k:∀(z:Shared)(D:Addr)(B:Array Value)(e:Nat)(v:List Str),StrsAre B.toList v->v.Perm ss->sortedS v=true->z.heap.get? D=some (seqObj "list" B e)->s.heap.get? D=none->(∀b o,s.heap.get? b=some o->z.heap.get? b=some o)->
   z.gens=s.gens->z.os=s.os->s.toks<=z.toks->Q (.ref D) z):wpAny (model prog w) A (call (.builtin "sorted") [.ref a]) Q E s:=by
 show sorted_set hh hT hs hr hz F ∅ λs1 ord hp J hg ho ht new=>?_;let#[ms,M,L]:=DK hI (hp.map _);let hl:(ord.map (·.2)).length<64:=by rw[qo,hp.length_eq];show hn
 show list_sort_treeK strKind_oneLt new M.keysOf (λh1 Y rest e=>keyKind_strs (by rw[<-e];show M)) hl λG a1 a2=>#[_,rfl,?_]
 obtain⟨v,b1,b2,b3⟩:=sorted_out_str M a1 a2;let#[e,he]:=sortedHeap_at new ((arrOf G).map (·.2));let O:s.heap.get? s1.heap.objs.size=none:=by
  cases q:s.heap.get? s1.heap.objs.size with
  |none=>rfl
  |some o=>show absurd (lt_of_get (J _ _ q)) (lt_irrefl _)
 show k _ _ _ e v b1 (b2.trans L) b3 he O (λb o q=>sortedHeap_old (ne_of_lt (lt_of_get (J b o q))) (qc _ (J b o q)) _) hg ho ht
def TSet.at{K:Type}[DecidableEq K]{knd:HeapKind prog w K}{ld:Bool}{h:Heap}{xs:List (K×Addr)}(x:TSet ld knd h a xs):∃es ep t,SetAt h a es ep t/\Rising t.place/\t.place.size=es.size/\t.led=ld/\es.toList.map (·.2)=xs.map λp=>Value.ref p.2:=by
 let#[o,es,ep,t,B,hex,L,v,T,z,J,G,F]:=x;show#[es,ep,t,#[o,B,L,T.fits (by simp)],T.ris,?_,v,?_]
 .rw[T.size];simp
 .rw[J];unfold cA;rw[qE];rfl
end
end ST
namespace ST
open PySem PySem.SetTable
section
variable{prog:Program}{w:World}{A:Around}{E:zj}{s:Shared}{a b:Addr}{K:Type}[DecidableEq K]{knd:KeyKind prog w K}{ks:List K}{ld:Bool}{xs:List (List K×Addr)}
def As{knd:HeapKind prog w K}{xs:List (K×Addr)}(hS:TSet ld knd s.heap a xs):s.TypeIs (.ref a) "set":=let⟨o,_,_,_,ho,hex,_⟩:=hS;#[o,ho,hex.1]
end
def AQ(n:Nat):Rising (Array.range n):=by rw[ris_list];simp[pairwise_lt_range]
def Dx(F:Rising t.place)(G:t.dummies=#[]):∀(v:Nat)(p:Probe){j:Nat}{d:Option Nat},p.dummy=none->probe.go t hashAt h v p=some (.empty j d)->d=none/\t.slot j=.empty
 |0,_,_,_,_,e=>by cases e
 |v+1,p,j,d,hp,e=>by
  rw[probe.go]at e;let B:(t.advance p).dummy=none:=by
   unfold advance;split
   .show hp
   .show hp
  rcases Au F G p.j with⟨z,_⟩|⟨i,hi,_,z⟩
  .rw[z]at e;cases e;show#[hp,z]
  .rw[z]at e;dsimp only at e;split at e
   .cases e
   .show Dx F G v _ B e
def EA{mask finger moves:Nat}{led plain:Bool}(e:laid mask finger moves led plain hs=some (t',order)):Rising t'.place/\t'.dummies=#[]/\t'.led=led:=by
 unfold laid at e;cases q:layClean mask hs with
 |none=>rw[q]at e;cases e
 |some v=>rw[q]at e;cases e;show#[?_,rfl,rfl];rw[ris_list];rw[pairwise_map,List.pairwise_filterMap];show List.Pairwise.imp (λ{a b} z x F y B=>?_) pairwise_lt_range;let#[_,_,rfl]:=qY.mp F;let#[_,_,rfl]:=qY.mp B;show z
structure WTab(t:SetTable)(n:Nat)(ld:Bool):Prop where
 ris:Rising t.place
 dum:t.dummies=#[]
 fit:t.fits n=true
 ldd:t.led=ld
def Ey(T:WTab t es.size ld):WTab (layNew t es h x).2.1 (layNew t es h x).1.size ld:=by
 refine#[?_,?_,layNew_fits t es h x,?_];all_goals
  unfold layNew;split
 .rename_i slot v e;dsimp only;unfold orStandIn;split
  .unfold freeSlot at e;split at e
   .rename_i j d q;cases e;let#[rfl,z]:=Dx T.ris T.dum _ (t.probeStart h) rfl q;rcases Au T.ris T.dum j with⟨_,y⟩|⟨i,hi,_,y⟩
    .show BF T.ris y
    .rw[z]at y;cases y
   .cases e
  .show AQ _
 .show AQ _
 .dsimp only;unfold orStandIn;split
  .show(Bh T.dum).2.2.1
  .rfl
 .rfl
 .dsimp only;unfold orStandIn;split
  .show T.ldd
  .show T.ldd
 .show T.ldd
def CU(T:WTab t m ld):WTab (relayAll t es n).2.1 (relayAll t es n).1.size ld:=by
 refine#[?_,?_,relayAll_fits t es n,?_];all_goals
  unfold relayAll;split
 all_goals first
  |(rename_i z v e;dsimp only;let#[a,b,c]:=EA e;split
    .first|show a|show b|show c.trans T.ldd
    .first|show AQ _|rfl|show T.ldd)
  |show AQ _
  |rfl
  |show T.ldd
def CV(T:WTab t n ld):WTab {t with plain:=p} n ld:=⟨T.ris,T.dum,by let:=T.fit;cases t;show this,T.ldd⟩
section
variable{prog:Program}{w:World}{A:Around}{E:zj}{s:Shared}{a:Addr}{K:Type}[DecidableEq K]{knd:KeyKind prog w K}{xs:List (K×Value)}
def eS(knd:KeyKind prog w K)(xs:List (K×Value)):List (Int×Value):=xs.map λp=>(knd.hash p.1,p.2)
@[inline]def VSet(ld:Bool)(knd:KeyKind prog w K)(h:Heap)(a:Addr)(xs:List (K×Value)):Prop:=∃o es ep t,h.get? a=some o/\o.ExactSet/\o.data=.set es ep t/\WTab t es.size ld/\es.toList=eS knd xs/\(∀p∈xs,knd.is p.1 p.2=true/\p.2.scannable=true)/\(xs.map (·.1)).Nodup
def Cb(h:l.Perm (eS knd xs)):∃ys,ys.Perm xs/\l=eS knd ys:=by
 unfold eS at h;induction l generalizing xs with
 |nil=>
  let v:xs=[]:=↑h.length_eq.symm
  subst v;show#[[],.refl _,rfl]
 |cons e l F=>let#[x,v,rfl]:=qK.mp (h.mem_iff.mp qm);let#[B,z,rfl]:=append_of_mem v;rw[map_append]at h;let#[ys,p,rfl]:=F (xs:=B++z) (by rw[map_append];show(h.trans perm_middle).cons_inv);show#[x::ys,(List.Perm.cons x p).trans perm_middle.symm,rfl]
def Fp{es:Array (Int×Value)}(F:es.toList=eS knd xs)(B:∀p∈xs,knd.is p.1 p.2=true/\p.2.scannable=true):ElemsOf knd es.toList:=λe z=>by rw[F]at z;let#[p,v,rfl]:=qK.mp z;show#[#[p.1,(B p v).1,rfl],(B p v).2]
theorem CK{g:Bool->Sem Unit}(hg:∀(b:Bool)(s₁:Shared)(Q':Unit->Shared->Prop),Q' () s₁->wpAny (model prog w) A (g b) Q' E s₁)(ho:s.heap.get? a=some o)(hex:o.ExactSet)(hd:o.data=.set es ep t)
  (T:WTab t2 es1.size ld)(he:es1.toList=eS knd ys)(hk:∀p∈ys,knd.is p.1 p.2=true/\p.2.scannable=true)(hnd:(ys.map (·.1)).Nodup)(hz:ys.length<=1000)
  (h:∀h' zs,Heap.SameBut a s.heap h'->zs.Perm ys->VSet ld knd h' a zs->R (some true) {s with heap:=h'}):
  wpAny (model prog w) A (do
    storeSet a es1 t2
    if(!wd&&t2.tooFull)=true then do
       g (relayAll t2 es1 (grown es1.size)).2.2
       storeSet a (relayAll t2 es1 (grown es1.size)).1 (relayAll t2 es1 (grown es1.size)).2.1
       pure (some true)
     else pure (some true)) R E s:=by
 let hz1:es1.size<=sizeLine:=by rw[<-qV,he];unfold eS;rw[qo,zf];lia
 show qa (wpAny_storeSet_of ho hd ?_ hz1);let ho1:=AB (es':=es1) (t':=t2) ho hd;let sb1:=Heap.SameBut.update s.heap a (Obj.putSet es1 t2);split
 .let hp:=relayAll_perm t2 es1 (grown es1.size);let T2:=CU (es:=es1) (n:=grown es1.size) T;generalize relayAll t2 es1 (grown es1.size)=R3 at hp T2⊢;let#[es2,t3,gave]:=R3;rw[he]at hp;let#[zs,pz,ez]:=Cb hp;let hz2:es2.size<=sizeLine:=by rw[<-qV,ez];unfold eS;rw[qo,pz.length_eq,zf];lia
  show qa (hg _ _ _ (qa (wpAny_storeSet_of ho1 rfl (qb ?_) hz2)));show h _ zs (sb1.trans (Heap.SameBut.update _ a _)) pz #[_,es2,_,t3,AB ho1 rfl,hex,rfl,T2,ez,λp hp=>hk p (pz.mem_iff.mp hp),(pz.map _).nodup_iff.mpr hnd]
 .show qb (h _ ys sb1 (.refl _) #[_,es1,_,t2,ho1,hex,rfl,T,he,hk,hnd])
def KG(J:knd.is k x=true)(M:x.scannable=true)(hS:VSet ld knd s.heap a xs)(e2:xs.length<=150)
  (h1:k∈xs.map (·.1)->Q false s)(h2:k∉xs.map (·.1)->∀h' ys,Heap.SameBut a s.heap h'->ys.Perm ((k,x)::xs)->VSet ld knd h' a ys->Q true {s with heap:=h'}):
  wpAny (model prog w) A (setAddHashed a x (knd.hash k)) Q E s:=by
 let#[o,es,ep,t,ho,hex,hd,T,he,hk,e3]:=hS;let h8:=Fp he hk;let e4:es.size=xs.length:=by rw[<-qV,he];simp[eS]
 let hb:es.size<scanBound:=by show es.size<4096;lia
 show zg (qa (wpAny_setState_of ho hd T.fit ?_));dsimp only;rw[byScan_of M hb h8];show qa (qa (wpAny_rule (qa (wpAny_setScan_of J ho hd T.fit h8 ?_))));let h3:∀p∈xs,knd.is k p.2=true↔p.1=k:=λp F=>#[λz=>(knd.inj p.2 k p.1 z (hk p F).1).symm,λz=>z▸(hk p F).1]
 cases hr:List.findIdx? (λe=>knd.is k e.2) es.toList with
 |some j=>let#[hj,h5,_]:=List.findIdx?_eq_some_iff_getElem.mp hr;let hm:=getElem_mem hj;generalize es.toList[j]=e at hm h5;rw[he]at hm;let#[p,F,rfl]:=qK.mp hm;show qb (qb (h1 (qK.mpr #[p,F,(h3 p F).mp h5])))
 |none=>
  let hn:k∉xs.map (·.1):=λz=>by let#[p,F,e]:=qK.mp z;let q:=List.findIdx?_eq_none_iff.mp hr (knd.hash p.1,p.2) (by rw[he];show qK.mpr #[p,F,rfl]);rw[(h3 p F).mpr e]at q;cases q
  have v:=layNew_perm t es (knd.hash k) x;let T1:=Ey (es:=es) (h:=knd.hash k) (x:=x) T;generalize layNew t es (knd.hash k) x=L at v T1⊢;let#[es1,t1,wd,h9]:=L;rw[toList_push,he]at v;let#[ys,py,ey]:=Cb (knd:=knd) (xs:=(k,x)::xs) (v.trans (qN.trans (by unfold eS;show .refl _)));let h7:∀p∈ys,knd.is p.1 p.2=true/\p.2.scannable=true:=λp F=>by
   rcases qA.mp (py.mem_iff.mp F)with rfl|z
   .show#[J,M]
   .show hk p z
  let h6:(ys.map (·.1)).Nodup:=(py.map _).nodup_iff.mpr (qL.mpr #[hn,e3]);let h4:ys.length<=1000:=by rw[py.length_eq,qt];lia
  have gw:∀(b:Bool)(B:Shared)(Q':Unit->Shared->Prop),Q' () B->wpAny (model prog w) A (match b with|true=>rule "set.scan.the-table-gave-way"|false=>pure ()) Q' E B:=λb B Q' q=>by
   cases b
   .show qb q
   .show wpAny_rule q
  let e1:∀h' G,Heap.SameBut a s.heap h'->G.Perm ys->VSet ld knd h' a G->Q true {s with heap:=h'}:=λh' G O Y V=>h2 hn h' G O (Y.trans py) V;show qa (gw h9 _ _ ?_);split
  .show qa ?_;rw[hashByValue_scannable 8 M];show qb (CK gw ho hex hd (es1:=es1) (t2:=_) ?_ ey h7 h6 h4 λh' G O Y V=>qb (e1 h' G O Y V));split
   .show T1
   .show CV T1
  .show qa (qb ?_);show CK gw ho hex hd T1 ey h7 h6 h4 λh' G O Y V=>qb (e1 h' G O Y V)
theorem setAddV(v:knd.is k x=true)(B:x.scannable=true)(hS:VSet ld knd s.heap a xs)(z:xs.length<=150)
  (h1:k∈xs.map (·.1)->∀r,Q r {s with toks:=s.toks+1})(h2:k∉xs.map (·.1)->∀h' ys,Heap.SameBut a s.heap h'->ys.Perm ((k,x)::xs)->VSet ld knd h' a ys->∀r,Q r {s with heap:=h',toks:=s.toks+1}):
  wpAny (model prog w) A (setAdd a x) Q E s:=by
 show zg (qa (knd.pyHash v ?_));show KG (s:={s with toks:=s.toks+1}) v B hS z (λF=>h1 F _) λF h' ys G J T=>h2 F h' ys G J T _
def VSet.at(x:VSet ld knd h a xs):∃es ep t,SetAt h a es ep t/\Rising t.place/\t.place.size=es.size/\t.led=ld/\es.toList.map (·.2)=xs.map (·.2):=by
 let#[o,es,ep,t,v,hex,B,T,z,_]:=x;show#[es,ep,t,#[o,v,B,T.fit],T.ris,?_,T.ldd,?_]
 .let:=T.fit;unfold fits at this;grind
 .rw[z];unfold eS;rw[qE];rfl
end
end ST
namespace ST
open PySem PySem.SetTable PyProof.Rows
def freshSet(ld:Bool):Obj:={cls:=.type "set",dict:=none,data:=.set #[] 0 (.fresh 0 0 ld)}
def ldOf(w:World):Bool:=!w.params.followText "set-order"
theorem newSet_ok(h:Q (.ref s.heap.objs.size) {s with heap:=s.heap.push (freshSet (ldOf w))}):wpAny (model prog w) A (newSet (.type "set")) Q E s:=by show qa (qa (wpAny_askSetting (qb ?_)));show qa (wpAny_alloc (qb h))
def BQ(ld:Bool):eU (.fresh 0 0 ld) []:=by
 let v:∀{i:Nat},i<(SetTable.fresh 0 0 ld).place.size->False:=λh=>by simp[SetTable.fresh]at h
 show#[λi j hi _ _=>(v hi).elim,rfl,.inl rfl,rfl,λi hi=>(v hi).elim,by simp,λi hi=>(v hi).elim]
theorem vset_new{K:Type}[DecidableEq K]{knd:KeyKind prog w K}{ld:Bool}{h:Heap}{a:Addr}(e:h.get? a=some (freshSet ld)):VSet ld knd h a []:=
 #[_,#[],0,_,e,#[rfl,rfl,rfl],rfl,#[(BQ ld).ris,rfl,rfl,rfl],rfl,λ_ z=>(nomatch z),.nil]
theorem tset_new{K:Type}[DecidableEq K]{knd:HeapKind prog w K}{ld:Bool}{h:Heap}{a:Addr}(e:h.get? a=some (freshSet ld)):TSet ld knd h a []:=
 #[_,#[],0,_,e,#[rfl,rfl,rfl],rfl,rfl,BQ ld,(by show 0*5<7*3;decide),rfl,λ_ z=>(nomatch z),.nil]
def Ed{St:Nat->Shared->Prop}(W:WalksS prog w A.in1 I fp wr G n P St)(S:Addr)(h3:S∉fp){J:Nat->Heap->Prop}
  (stay:∀i h h',i<=n->J i h->(∀b o,b∉wr->h.get? b=some o->h'.get? b=some o)->J i h')
  (step:∀i v(s:Shared)(Q:Bool->Shared->Prop)(E:zj),i<n->P i v->J i s.heap->(∀h' tk r,s.toks<=tk->Heap.SameBut S s.heap h'->J (i+1) h'->Q r {s with heap:=h',toks:=tk})->wpAny (model prog w) A.in1 (setAdd S v) Q E s):
  ∀(k i:Nat)(s:Shared),n-i=k->i<=n->St i s->J i s.heap->(∀s',Moved (S::wr) G s s'->J n s'.heap->R (.ok (.ret .none)) s')->
   codeAny (model prog w) A (.builtin "set.update.loop" #[[.ref S,.ref I],[]]) R s:=by
 intro k;induction k with
 |zero=>
  intro i s hk hi st hJ hR;let e:i=n:=∅
  subst e;show codeAny_builtin F.entry_set_update_loop ?_;show qa (W.done s _ _ st λs' O=>?_);show qb (hR s' (O.mono λb L=>qk _ L) (stay _ _ _ (q8 _) hJ O.heap))
 |succ k ih=>
  intro i s hk hi st hJ hR;let B:i<n:=∅
  show codeAny_builtin F.entry_set_update_loop ?_;show qa (W.item i s _ _ B st λv s' hP h1 O=>?_);show qa (zg (step i v s' _ _ B hP (stay _ _ _ hi hJ O.heap) λh' tk r ht sb h4=>?_));show qb #[plainId_quiet F.plain_set_update_loop _,ih (i+1) _ ∅ B (W.frame _ s' _ _ h1 ht λb L o e=>?_) h4 λh2 M Y=>?_]
  .rw[sb.2 b (λz=>h3 (z▸L))];show e
  .show hR h2 (Moved.trans W.gtrans ((O.mono λb L=>qk _ L).then_heap ht λb o L e=>?_) M) Y;rw[sb.2 b (λz=>L (z▸qm))];show e
def Eg(x:Value)(h:Q (.ref s.heap.objs.size) {s with heap:=s.heap.push (freshSet (ldOf w))}):
  codeAny (model prog w) A (.call (.builtin "set.__new__") #[[.type "set",x],[]]) (wants Q E) s:=by
 show codeAny_of_tree ?_;show qa (zh (F.newCall_set_1 x) (qb #[plainId_quiet F.plain_set_new _,codeAny_builtin F.entry_set_new ?_]));unfold Builtin.«set.__new__» Builtin.Frozenset.newClass;let v:=sub_set_self
 wp_walk
 show wpAny_askSetting (qb ?_);show qa (wpAny_alloc (qb ?_));show qb h
@[inline]def WalkOk(prog:Program)(w:World)(s:Shared)(x:Value)(n:Nat)(P:Nat->Value->Prop):Prop:=∀(A:Around)(E:zj)(v:Shared)(Q:zj),(∀b o,s.heap.get? b=some o->v.heap.get? b=some o)->
 (∀(o:Obj)(fp:List Addr)(St:Nat->Heap->Prop),(∀A:Around,A.handled=none->Walks prog w A v.heap.objs.size fp [v.heap.objs.size] n P St)->St 0 (v.heap.push o)->(∀b∈fp,b=v.heap.objs.size\/b<s.heap.objs.size)->Q (.ref v.heap.objs.size) {v with heap:=v.heap.push o})->
 wpAny (model prog w) A (pyIter x) Q E v
def HJ(B:s.TypeIs x T)(z:isSubtype (.type T) (.type "set")=pure false)(v:isSubtype (.type T) (.type "frozenset")=pure false)(h:Q false s):wpAny (model prog w) A (Builtin.Frozenset.isAnySet x) Q E s:=by show qa (wpAny_isInstance B z ?_);show wpAny_isInstance B v h
set_option maxHeartbeats 3200000 in
theorem call_set{J:Nat->Heap->Prop}(hh:A.handled=none)(hT:s.TypeIs x T)(e2:isSubtype (.type T) (.type "set")=pure false)(e1:isSubtype (.type T) (.type "frozenset")=pure false)(e3:(Value.type T==Value.type "dict")=false)
  (W:WalkOk prog w s x n P)(h0:∀h,h.get? s.heap.objs.size=some (freshSet (ldOf w))->(∀b o,s.heap.get? b=some o->h.get? b=some o)->J 0 h)
  (stay:∀i h h',i<=n->J i h->(∀b o,b≠s.heap.objs.size+1->h.get? b=some o->h'.get? b=some o)->J i h')
  (step:∀(A:Around) i v(s':Shared)(Q:Bool->Shared->Prop)(E:zj),i<n->P i v->J i s'.heap->(∀h' tk r,s'.toks<=tk->Heap.SameBut s.heap.objs.size s'.heap h'->J (i+1) h'->Q r {s' with heap:=h',toks:=tk})->A.units<=B->wpAny (model prog w) A (setAdd s.heap.objs.size v) Q E s')
  (hB:A.units+20<=B)
  (h:∀(h':Heap)(tk:Nat),J n h'->(∀b o,s.heap.get? b=some o->h'.get? b=some o)->s.toks<=tk->Q (.ref s.heap.objs.size) {s with heap:=h',toks:=tk}):
  wpAny (model prog w) A (call (.type "set") [x]) Q E s:=by
 let#[c,tl,hl]:=F.called_set.mro;let e4:=F.called_set.made;let hs:=F.called_set.sub;show wpAny_call (codeAny_of_tree ?_);show wpAny _ _ (callAny (.type "set") _) _ _ _;show qb #[Code.quiet_builtin _ (by decide+kernel),codeAny_builtin F.entry_type_call ?_];rw[Around.under_plain (weight_type_call_type "set" [x] []) rfl];let h1:=F.called_set.notType;let h2:=F.called_set.canCreate;let hq:=F.typeCall_set_1 x
 repeat (any_goals (first|assumption|wp_step))
 show codeAny_mono (Eg x (E:=E) (Q:=λh5 M=>h5=.ref s.heap.objs.size/\M={s with heap:=s.heap.push (freshSet (ldOf w))}) #[rfl,rfl]) λr M hr=>?_;cases r with
 |error e=>show hr
 |ok fl=>
  cases fl with
  |ret h5=>
   let#[rfl,rfl]:=hr;let hS:(s.heap.push (freshSet (ldOf w))).get? s.heap.objs.size=some (freshSet (ldOf w)):=qd _ rfl;let h6:Shared.TypeIs {s with heap:=s.heap.push (freshSet (ldOf w))} (.ref s.heap.objs.size) "set":=⟨_,hS,rfl⟩
   let hd:=F.called_set.init.lookup;let ha:=F.called_set.init.bind (.ref s.heap.objs.size)
   repeat (any_goals (first|assumption|wp_step))
   show codeAny_mono (codeAny_call_builtin (R:=wants (λr L=>r=.none/\∃h' tk,L={s with heap:=h',toks:=tk}/\J n h'/\(∀b o,s.heap.get? b=some o->h'.get? b=some o)/\s.toks<=tk) E) F.called_set.init.plain F.entry_set_init (check_set_init_1 h6 ?_)) λh4 L G=>?_
   .have O:Shared.TypeIs {s with heap:=s.heap.push (freshSet (ldOf w))} x T:=by
     cases x with
     |ref l=>let#[o,e,q]:=hT;show#[o,qc _ e,q]
     |_=>show hT
    unfold Builtin.«set.__init__» noKeywords;generalize hp:Builtin.Frozenset.updateFrom=UF;unfold freshSet at hS h6 O⊢
    wp_walk
    subst hp;unfold Builtin.Frozenset.updateFrom;show qa (HJ O e2 e1 ?_);simp only[false_eq_true,if_false];show qa (wpAny_typeOf O ?_);rw[e3];simp only[false_eq_true,if_false];show qa (W _ _ _ _ (λb o e=>qc _ e) λo fp St wk h8 hx=>?_);let hz:(s.heap.push (freshSet (ldOf w))).objs.size=s.heap.objs.size+1:=Heap.size_push ..;let hc:s.heap.objs.size∉fp:=λz=>by
     rcases hx _ z with y|y
     .rw[show s.heap.objs.size=(s.heap.push (freshSet (ldOf w))).objs.size from y]at hz;show absurd hz (ne_of_lt (lt_succ_self _))
     .show lt_irrefl _ y
    refine qa (wpAny_runValue ?_);refine Ed (wk A.in1.in1.in1 hh).toS s.heap.objs.size hc (J:=J) (λi h h' hi Y hk=>stay i h h' hi Y λb o hb e=>hk b o (λz=>hb (by rw[<-hz];show qu.mp z)) e)
     (λi v s' Q E hi hP Y hk=>step _ i v s' Q E hi hP Y hk (by show A.units+1+1+1<=B;lia)) (n-0) 0 _ rfl (zero_le _) h8 (h0 _ (qc _ hS) λb o e=>qc _ (qc _ e)) λs' hm Y=>?_
    let#[h',g',d',h7,h9]:=s';let eg:g'=s.gens:=hm.gens;let ed:d'=s.drawn:=hm.drawn;let eo:h9=s.os:=hm.os;subst eg ed eo;show qb ?_;show wpAny _ _ (ret Value.none) _ _ _;show qb #[rfl,h',h7,rfl,Y,λb o e=>?_,hm.toks];let hb:=lt_of_get e;show hm.heap b o (λz=>?_) (qc _ (qc _ e));rcases qA.mp z with z|z
    .show ne_of_lt hb z
    .let:=qu.mp z;rw[this]at hb;show absurd hb (by show¬(s.heap.push (freshSet (ldOf w))).objs.size<_;rw[hz];show not_lt.mpr (le_succ _))
   .cases h4 with
    |error e=>show G
    |ok h3=>
     cases h3 with
     |ret r=>
      let#[rfl,h',tk,rfl,Y,hk,ht]:=G
      repeat (any_goals (first|assumption|wp_step))
      show h _ _ Y hk ht
     |_=>show G.elim
  |_=>show hr.elim
theorem walk_list(M:s.heap.IsList l items):WalkOk prog w s (.ref l) items.size (λi v=>items[i]?=some v):=λA E J Q L h=>by
 let#[o,e,r]:=M;let F:J.heap.IsList l items:=#[o,L _ _ e,r]
 have G:=lt_of_get e;let B:=lt_of_get (L _ _ e);exact wpAny_pyIter_list F (h _ [J.heap.objs.size,l] _ (λA Y=>Walks.list Y _ l (ne_of_lt B) items) #[#[_,qd _ rfl,rfl,rfl],F.push _] λb O=>by
  rcases qA.mp O with z|z
  .show .inl z
  .show .inr (by rw[qu.mp z];show G))
theorem walk_tuple(M:s.heap.IsTuple l items):WalkOk prog w s (.ref l) items.size (λi v=>items[i]?=some v):=λA E J Q L h=>by
 let#[o,e,r]:=M;let F:J.heap.IsTuple l items:=#[o,L _ _ e,r]
 have G:=lt_of_get e;let B:=lt_of_get (L _ _ e);exact wpAny_pyIter_tuple F (h _ [J.heap.objs.size,l] _ (λA Y=>Walks.tuple Y _ l (ne_of_lt B) items) #[#[_,qd _ rfl,rfl,rfl],let#[o,e,r]:=F;#[o,qc _ e,r]] λb O=>by
  rcases qA.mp O with z|z
  .show .inl z
  .show .inr (by rw[qu.mp z];show G))
end ST
theorem m1{α:Type}{a:α}{l:List α}:a∈a::l:=.head _
theorem m2{α:Type}{a b:α}{l:List α}:b∈a::b::l:=.tail _ m1
def FO(i:Int)(n:Nat):max 0 (min (if i<0 then i+(n:Int)else i) (n:Int))=(((if i<0 then(i+(n:Int)).toNat else min i.toNat n):Nat):Int):=by
 by_cases h:i<0
 .rw[q4 h,q4 h,Int.min_eq_left ∅,Int.ofNat_toNat,Int.max_comm]
 .rw[q5 h,q5 h];let#[k,rfl]:=Int.eq_ofNat_of_zero_le (Int.not_lt.mp h);rw[qW];rcases Nat.le_total k n with q|q
  .rw[min_eq_left q,Int.min_eq_left (ofNat_le.mpr q),Int.max_eq_right (Int.natCast_nonneg k)]
  .rw[Nat.min_eq_right q,Int.min_eq_right (ofNat_le.mpr q),Int.max_eq_right (Int.natCast_nonneg n)]
theorem cps{A:Prop}(h:∀G:Prop,(A->G)->G):A:=h A id
namespace ST
open PySem PySem.SetTable
section
variable{prog:Program}{w:World}{A:Around}{E:zj}{s:Shared}{a b:Addr}{K:Type}[DecidableEq K]{knd:KeyKind prog w K}{ks:List K}{ld:Bool}{xs:List (List K×Addr)}
theorem setAddT(F:A.units<cLine)(v:IsTupleKey knd s.heap ks b)(hS:TSet ld (tupleKind knd) s.heap a xs)(z:xs.length<=150)
  (h1:ks∈xs.map (·.1)->∀tk r,s.toks<=tk->Q r {s with toks:=tk})
  (h2:ks∉xs.map (·.1)->∀h' ys tk r,Heap.SameBut a s.heap h'->ys.Perm ((ks,b)::xs)->TSet ld (tupleKind knd) h' a ys->s.toks<=tk->Q r {s with heap:=h',toks:=tk}):
  wpAny (model prog w) A (setAdd a (.ref b)) Q E s:=by
 show zg (qa ((tupleKind knd).pyHash F v ?_));show EJ (s:={s with toks:=s.toks+(tupleKind knd).draws ks}) (knd:=tupleKind knd) (λv q=>BP v q) (λv q=>Cv v q) (λv M O L=>AA v M O L) F v hS z (λB=>h1 B _ _ (Nat.le_add_right _ _)) λB h' ys G J T=>h2 B h' ys _ _ G J T (Nat.le_add_right _ _)
theorem call_add_of(B:s.TypeIs (.ref a) "set")(h:wpAny (model prog w) A.in1 (setAdd a v) (λ_ s'=>Q .none s') E s):wpAny (model prog w) A (call (.builtin "set.add") [.ref a,v]) Q E s:=by show ze F.slot_set_add B F.entry_set_add ?_ (F.args_set_add_2 _ _);unfold Builtin.«set.add» Builtin.Frozenset.oneOther;simp only[List.isEmpty_nil,bind_assoc];show qa (qb ?_);show qa (qb ?_);show qa (zi h (λr s' q=>qb #[_,rfl,q]) λ_ _ z=>z)
@[inline]def TRaw(ld:Bool)(knd:HeapKind prog w K)(h:Heap)(a:Addr)(xs:List (K×Addr)):Prop:=∃o es ep t,h.get? a=some o/\o.ExactSet/\o.data=.set es ep t/\t.led=ld/\eU t (es.toList.map (·.1))/\cU t es.size/\es.toList=cA knd xs/\(xs.map (·.1)).Nodup
def TRaw.full{knd:HeapKind prog w K}{xs:List (K×Addr)}(x:TRaw ld knd h a xs)(k:∀x∈xs,knd.is h x.1 x.2):TSet ld knd h a xs:=by let#[o,es,ep,t,h1,h2,J,G,F,B,z,v]:=x;show#[o,es,ep,t,h1,h2,J,G,F,B,z,k,v]
def TSet.raw{knd:HeapKind prog w K}{xs:List (K×Addr)}(x:TSet ld knd h a xs):TRaw ld knd h a xs:=by let#[o,es,ep,t,h1,h2,J,G,F,B,z,k,v]:=x;show#[o,es,ep,t,h1,h2,J,G,F,B,z,v]
def VSet.len{xs:List (K×Value)}(x:VSet ld knd s.heap a xs)(hz:xs.length<=1000)(h:Q (.int xs.length (s.toks+1)) {s with toks:=s.toks+1+1}):wpAny (model prog w) A (call (.builtin "len") [.ref a]) Q E s:=by
 let#[o,es,ep,t,z,hex,F,T,B,_]:=x;let v:es.size=xs.length:=by rw[<-qV,B];simp[eS]
 show call_len_set z hex F T.fit (by rw[v];lia) (by rw[v];show h)
def TRaw.len{knd:HeapKind prog w K}{xs:List (K×Addr)}(x:TRaw ld knd s.heap a xs)(hz:xs.length<=1000)(h:Q (.int xs.length (s.toks+1)) {s with toks:=s.toks+1+1}):wpAny (model prog w) A (call (.builtin "len") [.ref a]) Q E s:=by
 let#[o,es,ep,t,z,hex,F,_,T,_,B,_]:=x;let v:es.size=xs.length:=by rw[<-qV,B];simp[cA]
 show call_len_set z hex F (T.fits (by simp)) (by rw[v];lia) (by rw[v];show h)
end
def Bv(z:s.heap.get? a=some o)(G:o.data=.set es ep t)(F:t.fits es.size=true)(B:t.led=ldOf w)(h:∀ys d,ys.toList.Perm es.toList->Q ys {s with drawn:=d}):
  wpAny (model prog w) A (setWalk a) Q E s:=by
 show qa (wpAny_setState_of z G F ?_);show qa (Av ?_);cases J:w.params.followText "set-order"
 .simp;show wpAny _ _ (if(!t.plain&&decide (es.size>1))=true then _ else _) _ _ _;by_cases v:(!t.plain&&decide (es.size>1))=true
  .rw[q4 v];show qa (BJ es.size (by simp) λys d p=>qb (h _ d p))
  .rw[q5 v];show qa ?_;show wpAny _ _ (if(!t.led&&decide (es.size>1))=true then _ else _) _ _ _;rw[B];unfold ldOf;rw[J];show qb (qb (h es s.drawn (.refl _)))
 .simp;show qa (wpAny_askSetting ?_);show qb (h _ s.drawn (AR _ es))
def El{es:Array (Int×Value)}{e:Int×Value}{r:List (Int×Value)}{c:Addr}(v:s.heap.get? a=some o)(G:o.data=.set es ep t)(z:t.fits es.size=true)(B:es.toList=e::r)(J:e.2=.ref c)(L:s.TypeIs (.ref c) "tuple")(h:Q false s):
  wpAny (model prog w) A (setsQuiet (a::others)) Q E s:=by
 unfold setsQuiet;show qa ?_;show qa ?_;show qa (qa (wpAny_setState_of v G z (qb ?_)));rw[<-forIn_toList,B];simp only[List.forIn_cons];let#[O,M]:=e;subst J;show qa (qa (qa (wpAny_specialOf L F.slot_tuple_eq.lookup ?_)));show qb (qb (qb (qb (qb h))))
def DG{es:Array (Int×Value)}(v:s.heap.get? a=some o)(B:o.data=.set es ep t)(z:t.fits es.size=true)(F:t.led=ldOf w)(L:∀e∈es.toList,∃c,e.2=.ref c/\s.TypeIs (.ref c) "tuple")
  (h:∀ys d,ys.toList.Perm es.toList->Q ys {s with drawn:=d}):wpAny (model prog w) A (setWalkUnseen a others filled) Q E s:=by
 show qa (wpAny_setState_of v B z ?_);show qa (Av ?_);by_cases J:(w.params.followText "set-order"||(t.led&&t.plain)||decide (es.size<=1))=true
 .rw[q4 J];show Bv v B z F h
 .rw[q5 J];cases G:es.toList with
  |nil=>simp_all
  |cons e r=>let#[c,h1,h2]:=L e (by rw[G];simp);show qa (El v B z G h1 h2 ?_);show Bv v B z F h
instance okDec(m:Nat):Decidable (bI m):=by unfold bI;infer_instance
def DM{k:Nat}(h:k<=150):bI (sizeAbove (k*2)-1)/\k*5<(sizeAbove (k*2)-1)*3:=by
 let:(List.range 151).all (λk=>decide (bI (sizeAbove (k*2)-1)/\k*5<(sizeAbove (k*2)-1)*3))=true:=by decide+kernel
 show qU (qI.mp this k (qJ.mpr ∅))
def Dr{es:Array (Int×Value)}(z:s.heap.get? a=some o)(B:o.data=.set es ep t)(T:eU t (es.toList.map (·.1)))(L:es.size+m<=150)
  (h:∀(h':Heap)(es':Array (Int×Value))(F:Nat)(t':SetTable),Heap.SameBut a s.heap h'->h'.get? a=some {o with data:=.set es' F t'}->es'.toList.Perm es.toList->eU t' (es'.toList.map (·.1))->(es.size+m)*5<t'.mask*3->t'.led=t.led->Q () {s with heap:=h'}):
  wpAny (model prog w) A (setRoomFor a m) Q E s:=by
 let v:t.fill=es.size:=by unfold fill;rw[T.size,T.dum,qo];rfl
 show qa (wpAny_setState_of z B (T.fits (by simp)) ?_);unfold roomFor;rw[v,T.size,qo,qV];by_cases G:(es.size+m)*5≥t.mask*3
 .rw[q4 G];let#[h1,h2]:=DM L;show Cy z B T rfl h1 ∅ λes' t' J O em M=>?_;show h _ es' (ep+1) t' (Heap.SameBut.update s.heap a (Obj.putSet es' t')) (AB z B) J O (by rw[em];show h2) M
 .rw[q5 G];show qb (h s.heap es ep t (Heap.SameBut.refl _ _) ?_ (.refl _) T ∅ rfl);rw[z,<-B]
def Ef(T:eU t hs)(z:t'.place=t.place)(B:t'.dummies=t.dummies)(v:t'.mask=t.mask):eU t' hs:=by
 let G:∀n q,aD t' q n=aD t q n:=Ao v;let F:∀b,t'.probeStart b=t.probeStart b:=An v;let L:∀j,t'.slot j=t.slot j:=λj=>by unfold slot;rw[z,B]
 let#[a1,a2,a3,a4,a5,a6,Y]:=T;show#[z▸a1,B.trans a2,v▸a3,by rw[z];show a4,?_,v▸a6,?_]
 .rw[v];intro i hi;simp[z]at hi⊢;show a5 i hi
 .intro i hi h J;simp[z]at hi⊢;let#[n,O,M]:=Y i hi h J;show#[n,by rw[G,F,O],λm v=>by rw[G,F,L];show M m v]
section
variable{K:Type}[DecidableEq K]{knd:KeyKind prog w K}{xs ys:List (List K×Addr)}
def BA{hp:Sem Unit}(hl:r≠b)(hR:TSet ld (tupleKind knd) s.heap r [])(hB:TSet ld (tupleKind knd) s.heap b ys)(hy:ys≠[])(hm:ys.length<=150)
  (h:∀h' B,Heap.SameBut r s.heap h'->B.Perm ys->TSet ld (tupleKind knd) h' r B->Q () {s with heap:=h'}):wpAny (model prog w) A (setMerge r b hp) Q E s:=by
 let#[o,es,ep,t,ho,hex,hd,h7,T,k1,he,his,k2]:=hR;let#[ob,Y,pb,tb,hs,s1,ha,G,Tb,h5,O,h9,h6]:=hB;let hq:es.size=0:=by rw[<-qV,he];rfl
 let k3:Y.size=ys.length:=by rw[<-qV,O];simp[cA]
 let r3:0<ys.length:=qP.mpr hy;unfold setMerge;rw[q5 ↑hl];show qa (wpAny_setState_of hs ha (Tb.fits (by simp)) ?_);dsimp only;rw[q5 (by rw[Array.isEmpty_iff_size_eq_zero];lia)];show qa (Dr ho hd T ∅ λh1 r1 ep1 J sb L pm T1 s2 h8=>?_);let hk:r1.size=0:=by rw[<-qV,pm.length_eq];show hq
 let M:J.fill=0:=by unfold fill;rw[T1.size,T1.dum,qo,qV,hk];rfl
 refine qa (wpAny_setState_of L rfl (T1.fits (by simp)) ?_);let h3:∀{h2:Heap},Heap.SameBut r h1 h2->∀x∈ys,(tupleKind knd).is h2 x.1 x.2:=λ{h2} F x hx=>AA (h9 x hx) ho hd (sb.trans F);let h4:∀(v:Array (Int×Value))(t2:SetTable)(B:List (List K×Addr)),B.Perm ys->v.toList=cA (tupleKind knd) B->eU t2 (v.toList.map (·.1))->cU t2 v.size->t2.led=ld->wpAny (model prog w) A (storeSet r v t2) Q E {s with heap:=h1}:=λv t2 B pz e2 T2 r2 l2=>by
  let hz:v.size=ys.length:=by rw[<-qV,e2];simp[cA,pz.length_eq]
  show wpAny_storeSet_of (s:={s with heap:=h1}) L rfl ?_ (Bu ∅);let F:=Heap.SameBut.update h1 r (Obj.putSet v t2);show h _ B (sb.trans F) pz #[_,v,_,t2,AB L rfl,hex,rfl,l2,T2,r2,e2,λx hx=>h3 F x (pz.mem_iff.mp hx),(pz.map _).nodup_iff.mpr h6]
 unfold road;rw[q5 (by rw[M];decide)];by_cases hc:(J.mask==tb.mask&&tb.dummies.isEmpty)=true
 .rw[q4 hc];show h4 Y _ ys (.refl _) O (Ef Tb rfl rfl rfl) h5 ?_;rw[h8,h7,G,Bool.and_self]
 .rw[q5 hc];let hr:Y.size<=J.mask:=by lia
  let#[t2,z,e1,e2,e3,e4,e5,e6]:=CG (finger:=J.finger) (moves:=J.moves) (led:=J.led&&tb.led) (plain:=J.plain&&tb.plain) T1.mask hr;let hb:(z.filterMap (Y[·]?)).size=Y.size:=by rw[<-qV,e2.length_eq,qV]
  let hi:=e2;rw[O]at hi;let#[B,pz,ez]:=Bj hi;rw[e1];show qa ?_;show wpAny (model prog w) A (if((z.filterMap (Y[·]?)).size !=Y.size)=true then _ else _) _ E _;rw[hb];simp;show qb ?_;show h4 _ t2 B pz ez e3 ?_ (by rw[e5,h8,h7,G,Bool.and_self]);unfold cU;lia
structure du(knd:KeyKind prog w K)(ld:Bool)(r:Addr)(xs ys:List (List K×Addr))(h0:Heap)(rest:List (Int×Value))(h:Heap)(zs:List (List K×Addr)):Prop where
 sb:Heap.SameBut r h0 h
 st:TSet ld (tupleKind knd) h r zs
 ent:∀p∈rest,∃y∈ys,p=((tupleKind knd).hash y.1,Value.ref y.2)
 len:zs.length+rest.length<=xs.length+ys.length
 src:∀z∈zs,z∈xs\/z∈ys
 old:∀k∈xs.map (·.1),k∈zs.map (·.1)
 new:∀y∈ys,y.1∈zs.map (·.1)\/((tupleKind knd).hash y.1,Value.ref y.2)∈rest
theorem DP{each:Sem Unit}(hu:A.units<cLine)(hne:r≠b)(hR:TSet ld (tupleKind knd) s.heap r xs)(hB:TSet ld (tupleKind knd) s.heap b ys)(hx:xs≠[])(hld0:ld=ldOf w)(hm:xs.length+ys.length<=150)
  (heach:∀(s':Shared)(Q':Unit->Shared->Prop),s'.heap.get? b=s.heap.get? b->Q' () s'->wpAny (model prog w) A each Q' E s')
  (h:∀h' zs d,du knd ld r xs ys s.heap [] h' zs->Q () {s with heap:=h',drawn:=d}):wpAny (model prog w) A (setMerge r b each) Q E s:=by
 let hR':=hR;let#[o,es,ep,t,ho,hex,hd,hld,T,hrm,he,his,hnd]:=hR;let#[ob,eb,pb,tb,hob,hexb,hdb,hldb,Tb,hrmb,heb,hisb,hndb]:=hB;let hes:es.size=xs.length:=by rw[<-qV,he];simp[cA]
 let hlb:eb.size=ys.length:=by rw[<-qV,heb];simp[cA]
 let hpos:0<xs.length:=qP.mpr hx;let entB:∀p∈eb.toList,∃y∈ys,p=((tupleKind knd).hash y.1,Value.ref y.2):=λp hp=>by rw[heb]at hp;let#[y,hy,rfl]:=qK.mp hp;show#[y,hy,rfl]
 unfold setMerge;rw[q5 ↑hne];show qa (wpAny_setState_of hob hdb (Tb.fits (by simp)) ?_);dsimp only;by_cases hy:eb.isEmpty=true
 .rw[q4 hy];let hy0:ys=[]:=by rw[Array.isEmpty_iff_size_eq_zero,hlb]at hy;exact length_eq_zero_iff.mp hy
  subst hy0;show qb (h s.heap xs s.drawn #[Heap.SameBut.refl _ _,hR',λ_ z=>(nomatch z),q8 _,λz hz=>.inl hz,λk hk=>hk,λ_ z=>(nomatch z)])
 rw[q5 hy];show qa (Dr ho hd T ∅ λh1 es1 ep1 t1 sb ho1 pm T1 hro hl1=>?_);rw[he]at pm;let#[x1,px,e1]:=Bj pm;let hs1:es1.size=xs.length:=by rw[<-qV,e1];simp[cA,px.length_eq]
 let hfill:t1.fill=xs.length:=by unfold fill;rw[T1.size,T1.dum,qo,qV,hs1];rfl
 show qa (wpAny_setState_of ho1 rfl (T1.fits (by simp)) ?_);unfold road;rw[q4 (by rw[hfill];lia)];let S1:TSet ld (tupleKind knd) h1 r x1:=#[_,es1,ep1,t1,ho1,hex,rfl,hl1.trans hld,T1,by unfold cU;rw[hs1];lia,e1,λx hx=>AA (his x (px.mem_iff.mp hx)) ho hd sb,(px.map _).nodup_iff.mpr hnd]
 let hob1:h1.get? b=some ob:=(sb.2 b (Ne.symm hne)).trans hob;show qa (DG (s:={s with heap:=h1}) hob1 hdb (Tb.fits (by simp)) (hldb.trans hld0) (λp hp=>?_) λarr d pa=>?_)
 .obtain⟨y,hy,rfl⟩:=entB p hp;let#[oy,_,_,a1,a2,_]:=AA (hisb y hy) ho hd sb;show#[y.2,rfl,oy,a1,a2]
 rw[<-forIn_toList];let M0:du knd ld r xs ys s.heap arr.toList h1 x1:=#[sb,S1,λp hp=>entB p (pa.mem_iff.mp hp),by let h1:=px.length_eq;let h2:=pa.length_eq;rw[qV (xs:=eb)]at h2;lia,λz hz=>.inl (px.mem_iff.mp hz),λk hk=>(px.map _).mem_iff.mpr hk,λy hy=>.inr (pa.mem_iff.mpr (by rw[heb];show qK.mpr #[y,hy,rfl]))]
 show qa ?_;show wpAny_forIn_list _ (λrest _ s'=>∃h2 zs,s'={s with heap:=h2,drawn:=d}/\du knd ld r xs ys s.heap rest h2 zs) _ ?_ ?_ _ _ #[h1,x1,rfl,M0]
 .rintro p rest u s' ⟨h2,zs,rfl,M⟩;let#[y,hy,rfl]:=M.ent p qm;let hob2:h2.get? b=some ob:=(M.sb.2 b (Ne.symm hne)).trans hob;let hl:=M.len;rw[qt]at hl;let tail:∀(h3:Heap),h3.get? b=some ob->∀R:ForInStep PUnit->Shared->Prop,R (.yield PUnit.unit) {s with heap:=h3,drawn:=d}->wpAny (model prog w) A (do
    each
    let q<-setState b
    if(q.2.1 !=pb)=true then do
       unsupported "set.changed-during-merge"
       pure (ForInStep.yield PUnit.unit)
     else pure (ForInStep.yield PUnit.unit)) R E {s with heap:=h3,drawn:=d}:=λh3 hb3 R hR=>by
   show qa (heach _ _ (hb3.trans hob.symm) ?_);show qa (wpAny_setState_of (s:={s with heap:=h3,drawn:=d}) hb3 hdb (Tb.fits (by simp)) ?_);rw[q5 (by simp)];show qb hR
  have hyk:IsTupleKey knd h2 y.1 y.2:=AA (hisb y hy) ho hd M.sb;let same:∀y'∈ys,((tupleKind knd).hash y'.1,Value.ref y'.2)=((tupleKind knd).hash y.1,Value.ref y.2)->y.1=y'.1:=λy' hy' e=>by
   let e2:y'.2=y.2:=by let:=(Prod.mk.inj e).2;injection this
   let k1:=hisb y' hy';rw[e2]at k1;show(tupleKind knd).inj (hisb y hy) k1
  show qa (zg (EJ (s:={s with heap:=h2,drawn:=d}) (knd:=tupleKind knd) (λhk q=>BP hk q) (λhk q=>Cv hk q) (λhk ho hd hs=>AA hk ho hd hs) hu hyk M.st ∅ (λhm2=>?_) λhm2 h3 zs' sb3 p3 T3=>?_))
  .refine tail h2 hob2 _ #[h2,zs,rfl,M.sb,M.st,λp hp=>M.ent p (qk _ hp),∅,M.src,M.old,λy' hy'=>?_];rcases M.new y' hy' with z|z
   .show .inl z
   .rcases qA.mp z with e|z
    .show .inl (same y' hy' e▸hm2)
    .show .inr z
  .refine tail h3 ((sb3.2 b (Ne.symm hne)).trans hob2) _ #[h3,zs',rfl,M.sb.trans sb3,T3,λp hp=>M.ent p (qk _ hp),by let:=p3.length_eq;rw[qt]at this;lia,λz hz=>?_,λk hk=>(p3.map _).mem_iff.mpr (qk _ (M.old k hk)),λy' hy'=>?_]
   .rcases qA.mp (p3.mem_iff.mp hz)with rfl|z
    .show .inr hy
    .show M.src _ z
   .rcases M.new y' hy' with z|z
    .show .inl ((p3.map _).mem_iff.mpr (qk _ z))
    .rcases qA.mp z with e|z
     .show .inl ((p3.map _).mem_iff.mpr (same y' hy' e▸qm))
     .show .inr z
 .rintro u s' ⟨h2,zs,rfl,M⟩;show qb (h h2 zs d M)
end
end ST
namespace ST
open PySem PySem.SetTable PySem.Builtin PySem.Builtin.Frozenset
def Hy:Builtin.«frozenset.__or__»=λargs=>(do
  let(self,other)<-slot1 "__or__" args
  let(l,r):=if false then(other,self)else(self,other)
  if !(<-isAnySet l<&&>isAnySet r)then
   rule s!"frozenset.{"__or__"}.declined"
   return<-ret .notImplemented
  ret (<-(λid l r=>(do
   let result<-copyOf l
   if r !=.ref l then holding [result] (updateFrom id (<-addrOf result) r)
   return result:Sem Value)) s!"frozenset.{"__or__"}" (<-addrOf l) r)):=rfl
section
variable{prog:Program}{w:World}{A:Around}{E:zj}{s:Shared}{a b:Addr}
def Bk(v:s.TypeIs (.ref a) "set")(h:Q true s):wpAny (model prog w) A (isAnySet (.ref a)) Q E s:=by show qa (wpAny_isInstance v sub_set_self ?_);show qb h
def Fs(v:s.TypeIs (.ref a) "set")(h:Q (.type "set") s):wpAny (model prog w) A (baseOf a) Q E s:=by show qa (wpAny_isInstance v sub_set_self (qb h))
section
variable{K:Type}[DecidableEq K]{knd:KeyKind prog w K}{xs ys:List (List K×Addr)}
def EB(k:∀c o,h.get? c=some o->h'.get? c=some o)(x:IsTupleKey knd h ks b):IsTupleKey knd h' ks b:=by let#[o,items,n,v,r]:=x;show#[o,items,n,k _ _ v,r]
def Bg(k:∀c o,h.get? c=some o->h'.get? c=some o)(x:TSet ld (tupleKind knd) h a xs):TSet ld (tupleKind knd) h' a xs:=by let#[o,es,ep,t,J,hex,M,B,T,v,L,F,z]:=x;show#[o,es,ep,t,k _ _ J,hex,M,B,T,v,L,λx G=>EB k (F x G),z]
def BY{v:Sem Unit}(B:r≠b)(hB:TSet ld (tupleKind knd) s.heap b [])(h:Q () s):wpAny (model prog w) A (setMerge r b v) Q E s:=by let#[ob,eb,pb,tb,z,Y,G,M,Tb,J,F,O,L]:=hB;unfold setMerge;rw[q5 ↑B];show qa (wpAny_setState_of z G (Tb.fits (by simp)) ?_);dsimp only;rw[q4 (by rw[Array.isEmpty_iff_size_eq_zero,<-qV,F];rfl)];show qb h
def DB(J:TSet ld (tupleKind knd) s.heap a xs)(B:ld=ldOf w)(hm:xs.length<=150)
  (h:∀h' F,(∀c o,s.heap.get? c=some o->h'.get? c=some o)->F.Perm xs->TSet ld (tupleKind knd) h' s.heap.objs.size F->(xs=[]->h'.get? s.heap.objs.size=some (freshSet (ldOf w)))->Q (.ref s.heap.objs.size) {s with heap:=h'}):wpAny (model prog w) A (copyOf a) Q E s:=by
 let v:s.heap.objs.size≠a:=by let#[o,_,_,_,Y,_]:=J;show λz=>ne_of_lt (qe Y) z.symm
 let G:∀c o,s.heap.get? c=some o->(s.heap.push (freshSet (ldOf w))).get? c=some o:=λc o e=>qc _ e;let hS:TSet ld (tupleKind knd) (s.heap.push (freshSet (ldOf w))) s.heap.objs.size []:=tset_new (by rw[B];show qd _ rfl);show qa (Fs (As J) ?_);show qa (newSet_ok ?_);show qa (qb ?_);show qa ?_;by_cases L:xs=[]
 .subst L;show BY (s:={s with heap:=s.heap.push (freshSet (ldOf w))}) v (Bg G J) (qb (h _ [] G (.refl _) hS λ_=>qd _ rfl))
 .show BA (s:={s with heap:=s.heap.push (freshSet (ldOf w))}) v hS (Bg G J) L hm λh' F M O T=>qb (h h' F (λc o e=>?_) O T λz=>absurd z L);let hc:c≠s.heap.objs.size:=ne_of_lt (qe e);show(M.2 c hc).trans (G c o e)
def Ee{nm:String}(hu:A.units<cLine)(hne:a≠b)(hA:TSet ld (tupleKind knd) s.heap a xs)(hB:TSet ld (tupleKind knd) s.heap b ys)(hld0:ld=ldOf w)(hm:xs.length+ys.length<=150)
  (h:∀h' zs d,(∀c o,s.heap.get? c=some o->h'.get? c=some o)->TSet ld (tupleKind knd) h' s.heap.objs.size zs->zs.length<=xs.length+ys.length->(∀z∈zs,z∈xs\/z∈ys)->(∀k∈xs.map (·.1),k∈zs.map (·.1))->(∀k∈ys.map (·.1),k∈zs.map (·.1))->(xs=[]->ys=[]->h'.get? s.heap.objs.size=some (freshSet (ldOf w)))->Q (.ref s.heap.objs.size) {s with heap:=h',drawn:=d}):
  wpAny (model prog w) A (do
   let result<-copyOf a
   if(Value.ref b) !=.ref a then holding [result] (updateFrom nm (<-addrOf result) (.ref b))
   return result:Sem Value) Q E s:=by
 show qa (DB hA hld0 ∅ λh1 x1 k1 px S1 f1=>?_);let hnb:s.heap.objs.size≠b:=by let#[o,_,_,_,ho,_]:=hB;show λz=>ne_of_lt (qe ho) z.symm
 rw[q4 (by simpa using Ne.symm hne)];let B1:=Bg k1 hB;show qa (qb ?_);show qa (zg ?_);show qa (Bk (As (s:={s with heap:=h1}) B1) ?_);show qa (qb ?_);let B1':=B1;let#[ob,eb,pb,tb,hob,hexb,hdb,hldb,Tb,hrmb,heb,hisb,hndb]:=B1';show qa (wpAny_setEpoch_of (s:={s with heap:=h1}) hob hdb (Tb.fits (by simp)) ?_);by_cases hx:xs=[]
 .subst hx;let e1:x1=[]:=length_eq_zero_iff.mp px.length_eq;subst e1;by_cases hy:ys=[]
  .subst hy;show BY (s:={s with heap:=h1}) hnb B1 (qb (h h1 [] s.drawn k1 S1 (q8 _) (λ_ z=>(nomatch z)) (λ_ z=>(nomatch z)) (λ_ z=>(nomatch z)) λ_ _=>f1 rfl))
  .show BA (s:={s with heap:=h1}) hnb S1 B1 hy ↑hm λh2 zs sb pz T=>qb ?_;show h h2 zs s.drawn (λc o e=>(sb.2 c (ne_of_lt (qe e))).trans (k1 c o e)) T (by rw[pz.length_eq];simp) (λz hz=>.inr (pz.mem_iff.mp hz)) (λ_ z=>(nomatch z)) (λk hk=>(pz.map _).mem_iff.mpr hk) λ_ z=>absurd z hy
 .let hx1:x1≠[]:=λz=>hx (by rw[z]at px;show length_eq_zero_iff.mp px.length_eq.symm);refine DP (s:={s with heap:=h1}) hu hnb S1 B1 hx1 hld0 (by rw[px.length_eq];show hm) (λs' Q' e q=>?_) λh2 zs d M=>qb ?_
  .unfold unchanged;show qa (wpAny_setEpoch_of (e.trans hob) hdb (Tb.fits (by simp)) ?_);rw[q5 (by simp)];show qb q
  .show h h2 zs d (λc o e=>(M.sb.2 c (ne_of_lt (qe e))).trans (k1 c o e)) M.st (by let:=M.len;rw[px.length_eq]at this;simpa using this) (λz hz=>(M.src z hz).imp px.mem_iff.mp id) (λk hk=>M.old k ((px.map _).mem_iff.mpr hk)) (λk hk=>?_) λz=>absurd z hx;let#[y,hy,rfl]:=qK.mp hk;show(M.new y hy).resolve_right λz=>(nomatch z)
def Ca{h:Heap}:∀{xs ys:List (List K×Addr)},cA (tupleKind knd) xs=cA (tupleKind knd) ys->(∀x∈xs,(tupleKind knd).is h x.1 x.2)->(∀y∈ys,(tupleKind knd).is h y.1 y.2)->xs=ys
 |[],[],_,_,_=>rfl
 |[],_::_,e,_,_=>(nomatch e)
 |_::_,[],e,_,_=>(nomatch e)
 |x::xs,y::ys,e,hx,hy=>by
  let J:((tupleKind knd).hash x.1,Value.ref x.2)::cA (tupleKind knd) xs=((tupleKind knd).hash y.1,Value.ref y.2)::cA (tupleKind knd) ys:=e;let#[G,F]:=List.cons.inj J;let a:x.2=y.2:=by let:=(Prod.mk.inj G).2;injection this
  let B:=hx x qm;rw[a]at B;let k:=(tupleKind knd).inj B (hy y qm);rw[Ca F (λz v=>hx z (qk _ v)) λz v=>hy z (qk _ v),show x=y from Prod.ext k a]
def DI(x:TSet ld (tupleKind knd) h a xs)(y:TSet ld (tupleKind knd) h a ys):xs=ys:=by let#[o,es,ep,t,ho,hex,hd,h2,T,Y,he,F,h1]:=x;let#[o',h3,h4,t',v,O,B,M,T',J,G,z,L]:=y;rw[ho]at v;cases v;rw[hd]at B;cases B;show Ca (he.symm.trans G) F z
def Ci:entryFor table "set.__or__"=some Builtin.«frozenset.__or__»:=
 entryFor_alias (id':="frozenset.__or__") (by kernel_rfl) rfl (by decide+kernel) (by kernel_rfl)
theorem or_op(hu:A.in1.units<cLine)(G:TSet ld (tupleKind knd) s.heap a xs)(M:TSet ld (tupleKind knd) s.heap b ys)(B:ld=ldOf w)(hm:xs.length+ys.length<=150)
  (h:∀h' v d,(∀c o,s.heap.get? c=some o->h'.get? c=some o)->TSet ld (tupleKind knd) h' s.heap.objs.size v->v.length<=xs.length+ys.length->(∀z∈v,z∈xs\/z∈ys)->(∀k∈xs.map (·.1),k∈v.map (·.1))->(∀k∈ys.map (·.1),k∈v.map (·.1))->(xs=[]->ys=[]->h'.get? s.heap.objs.size=some (freshSet (ldOf w)))->Q (.ref s.heap.objs.size) {s with heap:=h',drawn:=d}):
  wpAny (model prog w) A (binaryOp .BitOr (.ref a) (.ref b)) Q E s:=by
 show wpAny_binaryOp_same (As G) (As M) F.fills_set_or F.slot_set_or ?_;show ze F.slot_set_or (As G) Ci ?_ (F.args_set_or_2 _ _);rw[Hy];let e1:slot1 "__or__" #[[Value.ref a,Value.ref b],[]]=pure (Value.ref a,Value.ref b):=rfl;dsimp only;show qa (qb ?_);show qa (qa (Bk (As G) ?_));show Bk (As M) ?_;show qa (qb ?_);show qa ?_;by_cases J:a=b
 .subst J;let e:=DI G M;subst e;show qa (DB G B ∅ λh' v k L T f1=>?_);rw[q5 (by simp)];show qb (qb #[_,rfl,(λz=>nomatch z),h h' v s.drawn k T (by rw[L.length_eq];lia) (λz Y=>.inl (L.mem_iff.mp Y)) (λk O=>(L.map _).mem_iff.mpr O) (λk O=>(L.map _).mem_iff.mpr O) λz _=>f1 z])
 .show Ee hu J G M B hm λh' v d k T l c1 c2 c3 c4=>?_;show qb #[_,rfl,(λz=>nomatch z),h h' v d k T l c1 c2 c3 c4]
end
end
end ST
namespace ST
open PySem
theorem walk_str(x:Str)(t:Tok):WalkOk prog w s (.str x t) x.cps.size (SignAt x):=λA E v Q B h=>wpAny_pyIter_str λo St W st=>h o [v.heap.objs.size] St W st λb z=>.inl (qu.mp z)
end ST
namespace L2
open PySem PySem.Spec PyProof.Rows
abbrev aI:=Sum Int Str
def fO:aI->Value->Bool
 |.inl k,v=>Value.isInt k v
 |.inr x,v=>Value.isStrOf x v
def cp(w:World):aI->Int
 |.inl k=>hashInt k
 |.inr x=>hashStr w x
def EO:∀{k:aI}{v:Value},fO k v=true->(∃i t,k=Sum.inl i/\v=Value.int i t)\/(∃x t,k=Sum.inr x/\v=Value.str x t)
 |.inl i,v,h=>by let#[t,e]:=Value.isInt_shape (k:=i) (v:=v) h;show .inl #[i,t,rfl,e]
 |.inr x,v,h=>by let#[t,e]:=Value.isStrOf_shape (x:=x) (v:=v) h;show .inr #[x,t,rfl,e]
def UR(i:Int)(t:Tok):fO (.inl i) (.int i t)=true:=by simp[fO,Value.isInt]
def TY(x:Str)(t:Tok):fO (.inr x) (.str x t)=true:=by simp[fO,Value.isStrOf]
def Pq(a b:Int):decide ((Sum.inl a:aI)=Sum.inl b)=(a==b):=by grind
def Pf(a b:Str):decide ((Sum.inr a:aI)=Sum.inr b)=decide (a=b):=by grind
def OG(a:Int)(b:Str):decide ((Sum.inl a:aI)=Sum.inr b)=false:=qS (λq=>nomatch q)
def OH(a:Str)(b:Int):decide ((Sum.inr a:aI)=Sum.inl b)=false:=qS (λq=>nomatch q)
def aE(prog:Program)(w:World):PySem.KeyKind prog w aI where
 is:=fO
 hash:=cp w
 inj:=λv a b ha hb=>by
  rcases EO ha with⟨i,t,rfl,rfl⟩|⟨x,t,rfl,rfl⟩
  .rcases EO hb with⟨j,u,rfl,e⟩|⟨y,u,rfl,e⟩
   .injection e with e1 _;rw[e1]
   .show nomatch e
  .rcases EO hb with⟨j,u,rfl,e⟩|⟨y,u,rfl,e⟩
   .show nomatch e
   .injection e with e1 _;rw[e1]
 byValue:=λk v h=>by rcases EO h with⟨i,t,rfl,rfl⟩|⟨x,t,rfl,rfl⟩<;>rfl
 pyHash:=λhv h=>by
  rcases EO hv with⟨i,t,rfl,rfl⟩|⟨x,t,rfl,rfl⟩
  .show wpAny_pyHash_int h
  .show wpAny_pyHash_str h
 eqBool:=λhu hv h=>by
  rcases EO hu with⟨i,t,rfl,rfl⟩|⟨x,t,rfl,rfl⟩
  .rcases EO hv with⟨j,u,rfl,rfl⟩|⟨y,u,rfl,rfl⟩
   .rw[Pq]at h;show wpAny_eqBool_int h
   .rw[OG]at h;show SeqAt.EqAt.int_str i t y u _ _ _ _ h
  .rcases EO hv with⟨j,u,rfl,rfl⟩|⟨y,u,rfl,rfl⟩
   .rw[OH]at h;show SeqAt.EqAt.str_int x t j u _ _ _ _ h
   .rw[Pf]at h;show wpAny_eqBool_str h
 «strs»:=λk x t v h=>by
  rcases EO h with⟨i,u,rfl,e⟩|⟨y,u,rfl,e⟩
  .show nomatch e
  .injection e with e1 _
   subst e1;cases v<;>rfl
def Vj(prog:Program)(w:World)(i:Int)(t:Tok):(aE prog w).is (.inl i) (.int i t)=true:=UR i t
def Vb(prog:Program)(w:World)(x:Str)(t:Tok):(aE prog w).is (.inr x) (.str x t)=true:=TY x t
inductive V where
 |non|bl(b:Bool)|int(i:Int)|str(x:Str)|byt(b:Array UInt8)|flt(b:UInt64)|ref(a:Addr)|ty(n:String)
 deriving DecidableEq
def zw:V->Value->Prop
 |.non,u=>u=Value.none
 |.bl b,u=>u=Value.bool b
 |.int i,u=>∃t,u=Value.int i t
 |.str x,u=>∃t,u=Value.str x t
 |.byt b,u=>∃t,u=Value.bytes b t
 |.flt b,u=>∃t,u=Value.float b t
 |.ref a,u=>u=Value.ref a
 |.ty n,u=>u=Value.type n
abbrev zE:List V->List Value->Prop:=Paired zw
def zE.length(r:zE xs us):xs.length=us.length:=Paired.length r
def zE.get:∀{xs:List V}{us:List Value}{i:Nat}{x:V},zE xs us->xs[i]?=some x->∃u,us[i]?=some u/\zw x u
 |_,_,_,_,.nil,e=>by simp at e
 |_,_,0,_,.cons r _,e=>by simp at e;subst e;show#[_,rfl,r]
 |_,_,i+1,x,.cons _ t,e=>by let#[u,h1,h2]:=zE.get (i:=i) (x:=x) t ↑e;show#[u,↑h1,h2]
def zE.set(r:zw x u):∀{xs:List V}{us:List Value}(i:Nat),zE xs us->zE (xs.set i x) (us.set i u)
 |_,_,_,.nil=>.nil
 |_,_,0,.cons _ t=>.cons r t
 |_,_,i+1,.cons q t=>.cons q (zE.set r i t)
def zE.append:∀{xs ys:List V}{us v:List Value},zE xs us->zE ys v->zE (xs++ys) (us++v):=by
 intro xs ys us v r s;induction r with
 |nil=>show s
 |cons r _ z=>show .cons r z
def zE.take:∀{xs:List V}{us:List Value}(n:Nat),zE xs us->zE (xs.take n) (us.take n)
 |_,_,0,_=>.nil
 |_,_,_+1,.nil=>.nil
 |_,_,n+1,.cons r t=>.cons r (zE.take n t)
def zE.drop:∀{xs:List V}{us:List Value}(n:Nat),zE xs us->zE (xs.drop n) (us.drop n)
 |_,_,0,r=>r
 |_,_,_+1,.nil=>.nil
 |_,_,n+1,.cons _ t=>zE.drop n t
def zE.none_of:∀{xs:List V}{us:List Value}{i:Nat},zE xs us->xs[i]?=none->us[i]?=none:=λ{xs us i} r e=>by let h1:=r.length;let h2:xs.length<=i:=List.getElem?_eq_none_iff.mp e;show List.getElem?_eq_none_iff.mpr ∅
def eD:Option V->Option Value->Prop
 |some v,some u=>zw v u
 |none,none=>True
 |_,_=>False
@[inline]def KV{κ:Type}:List (κ×V)->List (κ×Value)->Prop:=Paired λ(p:κ×V)(q:κ×Value)=>p.1=q.1/\zw p.2 q.2
def kV:aI->V
 |.inl i=>.int i
 |.inr x=>.str x
inductive HO where
 |lst(xs:List V)
 |tup(xs:List V)
 |dK(zI:List (aI×V))|dT(zI:List (List aI×V))
 |set(vs:List V)
 |ins(C dx:Addr)(fs:List (Str×V))
 |own(x:Addr)
 |xd(fs:List (Str×V))
 |met(f x:Addr)
 |rng(lo hi:Int)
 |frz(o:Obj)(u:HO)
 |tbl(ps:Array Value)
 |ext(φ:Heap->Prop)
abbrev Hp:=Addr->Option HO
def upd(H:Hp)(a:Addr)(o:HO):Hp:=λb=>if b=a then some o else H b
def Bl:upd H a o a=some o:=by unfold upd;rw[q4 rfl]
def Ap(h:b≠a):upd H a o b=H b:=by unfold upd;rw[q5 h]
def II{H:Hp}(h:H a=some o)(h':H b=some u)(d:o≠u):a≠b:=by grind
def DZ{H:Hp}(h:H a=some o)(h':H b=none):a≠b:=by intro e;subst e;rw[h]at h';cases h'
section
variable(P:Program)(w:World)
def jI(h:Heap)(a:Addr):Prop:=∀o,h.get? a=some o->o.dict=none
def jI.new{h:Heap}{c:Value}{x:Data}{n:Addr}(e:n=h.objs.size)(v:(h.push {cls:=c,data:=x}).get? h.objs.size=some {cls:=c,data:=x}):jI (h.push {cls:=c,data:=x}) n:=λo q=>by subst e;rw[v]at q;cases q;rfl
def zG(H:Hp)(h:Heap)(a:Addr):HO->Prop
 |.lst xs=>xs.length<=sizeLine/\∃(z:List Value)(n:Nat),zE xs z/\h.get? a=some {cls:=.type "list",data:=.seq z.toArray n}
 |.tup xs=>(xs.length<=sizeLine/\jI h a)/\∃z:List Value,zE xs z/\IsTup h a z.toArray
 |.dK zI=>zI.length<=sizeLine/\(a==sysModules)=false/\∃vs,KV zI vs/\h.DictOf (aE P w) a vs
 |.dT zI=>zI.length<=sizeLine/\(a==sysModules)=false/\∃xs:List (List aI×Addr×Value),
  Paired (λ(p:List aI×V)(q:List aI×Addr×Value)=>p.1=q.1/\H q.2.1=some (.tup (p.1.map kV))/\zw p.2 q.2.2) zI xs/\
  ∃o es ep,h.get? a=some o/\o.ExactDict/\o.data=.dict es ep/\es.toList=xs.map (entryOfKey (tupleKind (aE P w)))/\(xs.map (·.1)).Nodup
 |.set vs=>vs.length<=151/\((vs=[]/\h.get? a=some (ST.freshSet (ST.ldOf w)))\/(vs≠[]/\∃xs:List (aI×Value),vs.Perm (xs.map λp=>kV p.1)/\ST.VSet (ST.ldOf w) (aE P w) h a xs)\/vs≠[]/\∃xs:List (List aI×Addr),vs.Perm (xs.map λp=>V.ref p.2)/\(∀p∈xs,H p.2=some (.tup (p.1.map kV)))/\ST.TRaw (ST.ldOf w) (tupleKind (aE P w)) h a xs)
 |.ins C dx fs=>H dx=some (.own a)/\fs.length<=1000/\dx≠a/\h.get? a=some (W.instObj C dx)/\
  ∃B,h.Ns1 dx B/\(∀f,eD (fs.lookup f) (B f))/\PySem.Within B (fs.map (·.1))
 |.own _=>∃o,h.get? a=some o
 |.xd fs=>∃B,h.Ns1 a B/\∀f,eD (fs.lookup f) (B f)
 |.rng lo hi=>∃t u v,h.get? a=some {cls:=.type "range",data:=.fields [.int lo t,.int hi u,.int 1 v].toArray}
 |.frz o u=>h.get? a=some o/\zG H h a u
 |.tbl ps=>h.get? a=some {cls:=.none,data:=.fields ps}
 |.met f x=>h.get? a=some (W.methodObj (.ref f) (.ref x))
 |.ext φ=>φ h/\(∃o,h.get? a=some o)/\∀h1 h2:Heap,φ h1->(∀o,h1.get? a=some o->h2.get? a=some o)->φ h2
def eE(H:Hp)(h:Heap):Prop:=∀a o,H a=some o->zG P w H h a o
end
section
variable{P:Program}{w:World}{H H':Hp}{h h':Heap}{a:Addr}{o:HO}
def zG.lt(x:zG P w H h a o):a<h.objs.size:=by
 cases o with
 |lst xs=>let#[_,_,_,_,e]:=x;show qe e
 |tup xs=>let#[_,_,_,p]:=x;show p.lt
 |dK v=>let#[_,_,_,_,o,_,_,e,_]:=x;show qe e
 |dT v=>let#[_,_,_,_,o,_,_,e,_]:=x;show qe e
 |set z=>
  rcases x with⟨_,⟨_,e⟩|⟨_,_,_,_,_,_,_,e,_⟩|⟨_,_,_,_,_,_,_,_,e,_⟩⟩
  .show qe e
  .show qe e
  .show qe e
 |ins C F fs=>let#[_,_,_,e,_]:=x;show qe e
 |own y=>let#[_,e]:=x;show qe e
 |xd fs=>let#[_,#[_,_,_,e,_],_]:=x;show qe e
 |rng lo hi=>let#[_,_,_,e]:=x;show qe e
 |frz B u=>let#[e,_]:=x;show qe e
 |tbl ps=>show qe (show h.get? a=some _ from x)
 |met f y=>show qe (show h.get? a=some _ from x)
 |ext φ=>let#[_,#[_,e],_]:=x;show qe e
def Paired.mapP:∀{l₁:List α}{l₂:List β},Paired F l₁ l₂->(∀a b,F a b->G a b)->Paired G l₁ l₂
 |_,_,.nil,_=>.nil
 |_,_,.cons r t,f=>.cons (f _ _ r) (Paired.mapP t f)
def zG.stay(x:zG P w H h a o)(k:∀b u,(b=a\/H b=some (.own a))->h.get? b=some u->h'.get? b=some u)
  (ho:∀b,H b=some (.own a)->H' b=some (.own a))(O:∀b xs,H b=some (.tup xs)->H' b=some (.tup xs)):zG P w H' h' a o:=by
 induction o with
 |lst xs=>let#[z,F,n,r,e]:=x;show#[z,F,n,r,k _ _ (.inl rfl) e]
 |tup xs=>let#[#[z,nd],F,r,B,e,c]:=x;show#[#[z,λo q=>by rw[k _ _ (.inl rfl) e]at q;cases q;show nd _ e],F,r,B,k _ _ (.inl rfl) e,c]
 |dK L=>let#[z,y,M,r,B,es,ep,e,c]:=x;show#[z,y,M,r,B,es,ep,k _ _ (.inl rfl) e,c]
 |dT L=>let#[z,y,xs,r,B,es,ep,e,c]:=x;show#[z,y,xs,Paired.mapP r λp q z=>#[z.1,O _ _ z.2.1,z.2.2],B,es,ep,k _ _ (.inl rfl) e,c]
 |set M=>
  rcases x with⟨z,⟨n,e⟩|⟨n,xs,p,B,es,ep,t,e,c⟩|⟨n,xs,p,hx,B,es,ep,t,e,c⟩⟩
  .show#[z,.inl #[n,k _ _ (.inl rfl) e]]
  .show#[z,.inr (.inl #[n,xs,p,B,es,ep,t,k _ _ (.inl rfl) e,c])]
  .show#[z,.inr (.inr #[n,xs,p,λq hq=>O _ _ (hx q hq),B,es,ep,t,k _ _ (.inl rfl) e,c])]
 |ins C dx fs=>let#[d,z,Y,e,J,#[G,es,ep,e2,c],r]:=x;show#[ho _ d,z,Y,k _ _ (.inl rfl) e,J,#[G,es,ep,k _ _ (.inr d) e2,c],r]
 |own y=>let#[B,e]:=x;show#[B,k _ _ (.inl rfl) e]
 |xd fs=>let#[J,#[G,es,ep,e,c],r]:=x;show#[J,#[G,es,ep,k _ _ (.inl rfl) e,c],r]
 |rng lo hi=>let#[t,u,v,e]:=x;show#[t,u,v,k _ _ (.inl rfl) e]
 |frz B u ih=>let#[e,q]:=x;show#[k _ _ (.inl rfl) e,ih q]
 |tbl ps=>have e:h.get? a=some {cls:=.none,data:=.fields ps}:=x;show h'.get? a=some {cls:=.none,data:=.fields ps};show k a _ (.inl rfl) e
 |met f y=>have e:h.get? a=some (W.methodObj (.ref f) (.ref y)):=x;show h'.get? a=some (W.methodObj (.ref f) (.ref y));show k a _ (.inl rfl) e
 |ext φ=>let#[p,#[o,e],st]:=x;show#[st _ _ p λo q=>k _ _ (.inl rfl) q,#[o,k _ _ (.inl rfl) e],st]
def eE.lt(x:eE P w H h)(e:H a=some o):a<h.objs.size:=(x a o e).lt
def eE.fresh(x:eE P w H h)(e:h.objs.size<=a):H a=none:=by
 cases q:H a with
 |none=>rfl
 |some u=>show absurd (lt_of_lt_of_le (x.lt q) e) (lt_irrefl _)
def eE.kept(x:eE P w H h)(k:∀b u,h.get? b=some u->h'.get? b=some u):eE P w H h':=λa o e=>(x a o e).stay (λb u _ q=>k b u q) (λ_ q=>q) λ_ _ q=>q
def eE.laid(x:eE P w H h)(k:∀b u,h.get? b=some u->h'.get? b=some u)(F:h.objs.size<=a)(new:zG P w (upd H a o) h' a o):eE P w (upd H a o) h':=λb u e=>by
 let z:=x.fresh F;by_cases B:b=a
 .subst B;rw[Bl]at e;cases e;show new
 .rw[Ap B]at e;show(x b u e).stay (λc v _ q=>k c v q) (λc q=>by rw[Ap (DZ q z)];show q) λc xs q=>by rw[Ap (DZ q z)];show q
end
@[inline]def Rd(H:Hp)(a:Addr)(u:HO):Prop:=H a=some u\/∃o,H a=some (.frz o u)
def Rd.of(h:H a=some u):Rd H a u:=.inl h
def Rd.ok(r:Rd H a u)(x:eE P w H h):zG P w H h a u:=by
 rcases r with r|⟨o,r⟩
 .show x a u r
 .obtain⟨_,q⟩:=x a _ r;show q
def xO:Option HO->Prop
 |some (.lst _)=>True
 |some (.dK _)=>True
 |some (.dT _)=>True
 |some (.set _)=>True
 |some (.ins _ _ _)=>True
 |some (.ext _)=>True
 |_=>False
section
variable{P:Program}{w:World}{H:Hp}{h h':Heap}{x e:Addr}{o':HO}
def eE.write(ok:eE P w H h)(G:xO (H x))(he:e=x\/H e=some (.own x))(k:∀b u,b≠e->h.get? b=some u->h'.get? b=some u)(J:∃u,h'.get? e=some u)
  (new:zG P w (upd H x o') h' x o'):eE P w (upd H x o') h':=λb u q=>by
 let F:∀c y,H c=some (.own y)->c≠x:=λc y r z=>by subst z;rw[r]at G;show G
 let B:∀c xs,H c=some (.tup xs)->c≠x:=λc xs r z=>by subst z;rw[r]at G;show G
 by_cases O:b=x
 .subst O;rw[Bl]at q;cases q;show new
 .rw[Ap O]at q;by_cases L:b=e
  .let M:H b=some (.own x):=by grind
   rw[q]at M;cases M;let#[v,Y]:=J;show#[v,by rw[L];show Y]
  .show(ok b u q).stay (λc v hc r=>k c v ?_ r) (λc r=>by rw[Ap (F c b r)];show r) λc xs r=>by rw[Ap (B c xs r)];exact r
   grind
end
structure Un(fs ex:List Addr)(H H':Hp)(h h':Heap):Prop where
 keep:∀b o,h.get? b=some o->H b=none->b∉fs->b∉ex->h'.get? b=some o
 slot:∀b o,h.get? b=some o->H b=none->b∈fs->b∉ex->∃sl,h'.get? b=some {o with slots:=sl}
 free:∀b o,h.get? b=some o->H b=none->b∉ex->H' b=none
 there:∀b o,h.get? b=some o->b∉ex->∃o',h'.get? b=some o'
 tups:∀b xs,H b=some (.tup xs)->H' b=some (.tup xs)
 frzs:∀b o u,H b=some (.frz o u)->H' b=some (.frz o u)
 tbls:∀b ps,H b=some (.tbl ps)->∃more,H' b=some (.tbl (ps++more))
section
variable{fs fs' ex ex':List Addr}{H H1 H2:Hp}{h h1 h2 h':Heap}{a x e:Addr}{o:HO}
def Un.any(u:Un fs ex H H1 h h1)(q:h.get? b=some v)(n:H b=none)(z:b∉ex):∃F,h1.get? b=some {v with slots:=F}:=by
 by_cases B:b∈fs
 .show u.slot b v q n B z
 .show#[v.slots,u.keep b v q n B z]
def Un.kept(k:∀b u,h.get? b=some u->h'.get? b=some u):Un fs ex H H h h':=
 #[λb v q _ _ _=>k b v q,λb v q _ _ _=>#[v.slots,k b v q],λ_ _ _ n _=>n,λb v q _=>#[v,k b v q],λ_ _ q=>q,λ_ _ _ q=>q,λ_ ps q=>#[#[],by rw[q];simp]]
def Un.refl:Un fs ex H H h h:=Un.kept λ_ _ q=>q
def Un.laid(k:∀b u,h.get? b=some u->h'.get? b=some u)(hp:h.objs.size<=a)(hn:H a=none):Un fs ex H (upd H a o) h h' where
 keep:=λb u q _ _ _=>k b u q
 slot:=λb u q _ _ _=>#[u.slots,k b u q]
 free:=λb u q n _=>by rw[Ap (ne_of_lt (lt_of_lt_of_le (qe q) hp))];show n
 there:=λb u q _=>#[u,k b u q]
 tups:=λb xs q=>by rw[Ap (DZ q hn)];show q
 frzs:=λb u xs q=>by rw[Ap (DZ q hn)];show q
 tbls:=λb ps q=>#[#[],by rw[Ap (DZ q hn),q];simp]
def Un.write(v:xO (H x))(L:e=x\/H e=some (.own x))(k:∀b u,b≠e->h.get? b=some u->h'.get? b=some u)(J:∃u,h'.get? e=some u):Un fs ex H (upd H x o) h h':=by
 let G:∀b,H b=none->b≠x:=λb n z=>by subst z;rw[n]at v;show v
 let F:∀b,H b=none->b≠e:=λb n z=>by grind
 let B:∀b u,H b=some u->¬xO (some u)->b≠x:=λb u q nm z=>by subst z;rw[q]at v;show nm v
 refine⟨λb u q n _ _=>k b u (F b n) q,λb u q n _ _=>#[u.slots,k b u (F b n) q],λb u q n _=>by rw[Ap (G b n)];exact n,λb u q _=>?_,
  λb xs q=>by rw[Ap (B b _ q λz=>z)];show q,λb u xs q=>by rw[Ap (B b _ q λz=>z)];show q,λb ps q=>#[#[],by rw[Ap (B b _ q λz=>z),q];simp]⟩
 grind
end
def zS(h:Heap)(H:Hp):List Addr:=(List.range h.objs.size).filter λa=>(H a).isSome
def hW(h:Heap)(H:Hp):Heap:=W.hideAll h (zS h H)
def Tv(h:Heap)(H:Hp):(hW h H).objs.size=h.objs.size:=W.hideAll_size _ _
def RT(e:h.get? b=some o)(n:H b=none):(hW h H).get? b=some o:=
 W.hideAll_get _ e λv=>by let q:(H b).isSome=true:=(mem_filter.mp v).2;rw[n]at q;simp at q
def Rp(e:(hW h H).get? b=some o):h.get? b=some o/\H b=none:=by
 let v:h.get? b=some o:=W.of_hideAll (zS h H) e;show#[v,?_];cases q:H b with
 |none=>rfl
 |some x=>grind[zS,mem_filter,mem_range,Heap.lt_size,hW,W.hideAll_none]
def oY(g h:Heap)(L:Addr):List (Addr×Obj):=(List.range h.objs.size).filterMap λa=>if a=L\/(g.get? a).isSome=true then none else(h.get? a).map λo=>(a,o)
def rest(g h:Heap)(L d:Addr):List (Addr×Obj):=(oY g h L).filter λp=>decide (p.1≠d)
structure Mod(K:W.Frag)(mg:Str->Option Value)(base:Heap):Prop where
 kin:K.In base
 glob:base.Ns mainGlobals mg
 blt:∃mb,base.Ns builtinsNs mb/\∀x:Str,x≠"__name__"->mb x=bootBuiltins x
 nolimit:base.NoLimit
structure Cx where
 prog:Program
 w:World
 K:W.Frag
 mg:Str->Option Value
 base:Heap
 A:Around
 N:List Str
 s₀:Shared
 H₀:Hp
 env:Env
 outer:List Env
 stack:List Env
 ex:List Addr
 fn:Str->Bool
 calm:Bool
 pn:List (Addr×Obj)
 xe:zj
def mA(l:List Env):List Addr:=l.filterMap (·.frame)
abbrev Cx.fs(X:Cx):List Addr:=mA X.outer
def xD(v:Scope)(x:Str):Prop:=v.names.lookup x=some .local\/v.names.lookup x=some .cell\/v.names.lookup x=some .free
@[inline]def Loc(v:Scope)(x:Str):Prop:=v.names.lookup x=some .local\/v.names.lookup x=some .cell
@[inline]def Look(env:Env)(h:Heap)(m:Str->Option Value)(x:Str)(u:Value):Prop:=
 (env.kindOf x=some .local/\m x=some u)\/((env.kindOf x=some .cell\/env.kindOf x=some .free)/\∃c,env.cells.lookup x=some c/\h.IsCell c (some u))
structure Cx.Ok(X:Cx):Prop where
 mod:Mod X.K X.mg X.base
 kind:X.env.scope.kind=.function
 glob:X.env.globals=mainGlobals
 blt:X.env.builtins=builtinsNs
 above:X.s₀.heap.objs.size<=X.env.locals
 inj:∀x y c,X.env.cells.lookup x=some c->X.env.cells.lookup y=some c->x=y
 has:∀x,(X.env.kindOf x=some .cell\/X.env.kindOf x=some .free)->∃c,X.env.cells.lookup x=some c
 cab:∀x c,X.fn x=true->X.env.cells.lookup x=some c->X.s₀.heap.objs.size<=c
 hd:X.calm=true->X.A.handled=none
 frames:X.A.frames=some X.stack
 stk:X.stack=X.outer\/(X.stack=X.env::X.outer/\X.env.frame=some X.env.locals)
 exf:∀b∈X.ex,b≠X.env.locals/\∀x c,X.env.cells.lookup x=some c->c≠b
 bs:∀b o,X.base.get? b=some o->X.s₀.heap.get? b=some o/\X.H₀ b=none
 bsz:X.base.objs.size<=X.s₀.heap.objs.size
 noex:∀b o,X.base.get? b=some o->b∉X.ex
 exfs:∀b∈X.ex,b∉X.fs
 funs:X.s₀.heap.FunFrames X.base X.outer
 frf:∀b∈X.fs,X.H₀ b=none
structure Inv(X:Cx)(zH:List (Addr×Obj))(Z:List (Option V))(H:Hp)(s:Shared):Prop where
 ok:X.Ok
 os:s.os=X.s₀.os
 bare:AllBare s.gens
 base:Un X.fs X.ex X.H₀ H X.s₀.heap s.heap
 loc:∃m,s.heap.Ns X.env.locals m/\∀(i:Nat)(x:Str)(v:V),X.N[i]?=some x->Z[i]?=some (some v)->xD X.env.scope x->∃u,zw v u/\Look X.env s.heap m x u
 cell:∀x c,X.env.cells.lookup x=some c->∃v,s.heap.IsCell c v
 free:H X.env.locals=none
 freeC:∀x c,X.env.cells.lookup x=some c->H c=none
 pin:∀p∈X.pn++zH,s.heap.get? p.1=some p.2/\H p.1=none/\p.1≠X.env.locals/\p.1∉X.fs/\∀v,p.2.data≠.cell v
 hok:eE X.prog X.w H s.heap
 len:Z.length=X.N.length
section
variable{X:Cx}{zH:List (Addr×Obj)}{Z:List (Option V)}{H H':Hp}{s:Shared}{h':Heap}
def Cx.Ok.nofr(ok:X.Ok)(e:X.base.get? b=some o):b∉X.fs:=λv=>by let:=(ok.funs.mem v).1;rw[e]at this;cases this
def Inv.bs(I:Inv X zH Z H s):∀b o,X.base.get? b=some o->s.heap.get? b=some o/\H b=none:=λb o e=>#[I.base.keep b o (I.ok.bs b o e).1 (I.ok.bs b o e).2 (I.ok.nofr e) (I.ok.noex b o e),I.base.free b o (I.ok.bs b o e).1 (I.ok.bs b o e).2 (I.ok.noex b o e)]
def Inv.bk(I:Inv X zH Z H s):∀b o,X.base.get? b=some o->s.heap.get? b=some o:=λb o e=>(I.bs b o e).1
def Inv.mod(I:Inv X zH Z H s):Mod X.K X.mg X.base:=I.ok.mod
def Inv.kIn(I:Inv X zH Z H s):X.K.In s.heap:=I.ok.mod.kin.keeps I.bk
def Inv.lt(I:Inv X zH Z H s):X.env.locals<s.heap.objs.size:=let⟨_,hn,_⟩:=I.loc;hn.lt
def Inv.sz(I:Inv X zH Z H s):X.s₀.heap.objs.size<=s.heap.objs.size:=le_trans I.ok.above (le_of_lt I.lt)
def Inv.nofs(I:Inv X zH Z H s)(h:s.heap.objs.size<=a):a∉X.fs:=λz=>by let#[_,o,v,_]:=I.ok.funs.mem z;show absurd (lt_of_lt_of_le (qe v) (le_trans I.sz h)) (lt_irrefl _)
def Inv.cne(I:Inv X zH Z H s):∀x c,X.env.cells.lookup x=some c->c≠X.env.locals:=λx c e z=>by let#[v,o,G,J]:=I.cell x c e;let#[m,#[o',es,ep,B,F,_],_]:=I.loc;rw[z,B]at G;cases G;rw[F]at J;cases J
def Inv.funs(I:Inv X zH Z H s):s.heap.FunFrames X.base X.outer:=by
 have all:∀(l:List Env),(∀b∈mA l,b∈X.fs)->X.s₀.heap.FunFrames X.base l->s.heap.FunFrames X.base l:=by
  intro l;induction l with
  |nil=>intro _ _;trivial
  |cons h1 r J=>intro G hl;let#[hk,#[L,o,v,Y,O,hd],M]:=hl;let F:L∈X.fs:=G L (by unfold mA;rw[filterMap_cons,v];show qm);let#[sl,e]:=I.base.slot L o O (I.ok.frf L F) F λz=>I.ok.exfs L z F;show#[hk,#[L,_,v,Y,e,hd],J (λb B=>G b (by unfold mA;rw[filterMap_cons,v];show qk _ B)) M]
 show all X.outer (λ_ B=>B) I.ok.funs
def Inv.stack(I:Inv X zH Z H s):s.heap.FunFrames X.base X.stack:=by
 rcases I.ok.stk with e|⟨e,z⟩
 .rw[e];show I.funs
 .rw[e];let#[m,v,_]:=I.loc;show .cons (by rw[I.ok.kind];decide) z v ?_ I.funs;show Heap.get?_none_of_le (le_trans I.ok.bsz I.ok.above)
def Inv.stkSub(I:Inv X zH Z H s):∀b∈mA X.stack,b∈X.env.locals::X.fs:=λb v=>by
 rcases I.ok.stk with e|⟨e,z⟩
 .rw[e]at v;show qk _ v
 .rw[e]at v;unfold mA at v;rw[filterMap_cons,z]at v;show v
def Inv.stkFree(I:Inv X zH Z H s):∀b∈mA X.stack,H b=none:=λb v=>by
 rcases qA.mp (I.stkSub b v)with e|v
 .rw[e];show I.free
 .obtain⟨_,o,B,_⟩:=I.ok.funs.mem v;show I.base.free b o B (I.ok.frf b v) λz=>I.ok.exfs b z v
def Inv.step{ch:List Addr}(I:Inv X zH Z H s)
  (J:∀b∈ch,(b∈X.ex\/X.s₀.heap.get? b=none)/\b≠X.env.locals/\(∀x c,X.env.cells.lookup x=some c->c≠b)/\∀p∈X.pn++zH,p.1≠b)
  (G:∀b o,b≠X.env.locals->b∉X.fs->b∉ch->s.heap.get? b=some o->H b=none->h'.get? b=some o)
  (slot:∀b o,b≠X.env.locals->b∈X.fs->b∉ch->s.heap.get? b=some o->H b=none->∃sl,h'.get? b=some {o with slots:=sl})(free:∀b o,b∉ch->s.heap.get? b=some o->H b=none->H' b=none)
  (there:∀b o,b∉ch->s.heap.get? b=some o->∃o',h'.get? b=some o')
  (h1:∀b xs,H b=some (.tup xs)->H' b=some (.tup xs))(h4:∀b o u,H b=some (.frz o u)->H' b=some (.frz o u))(h2:∀b ps,H b=some (.tbl ps)->∃more,H' b=some (.tbl (ps++more)))
  (ns:∀m,s.heap.Ns X.env.locals m->h'.Ns X.env.locals m)(h6:eE X.prog X.w H' h')(hg:AllBare g'):
  Inv X zH Z H' {s with heap:=h',gens:=g',drawn:=d',toks:=t'}:=by
 have h3:∀b o,X.s₀.heap.get? b=some o->b≠X.env.locals:=λb o e=>ne_of_lt (lt_of_lt_of_le (qe e) I.ok.above);let M:∀b o,X.s₀.heap.get? b=some o->b∉X.ex->b∉ch:=λb o e B Y=>by
  rcases(J b Y).1 with z|z
  .show B z
  .rw[z]at e;cases e
 have L:∀x c,X.env.cells.lookup x=some c->∀v,s.heap.IsCell c v->h'.IsCell c v:=λx c e v⟨o,ho,hd⟩=>by
  let F:c∉ch:=λz=>(J c z).2.2.1 x c e rfl;by_cases hc:c∈X.fs
  .obtain⟨sl,q⟩:=slot c o (I.cne x c e) hc F ho (I.freeC x c e);show#[_,q,hd]
  .show#[o,G c o (I.cne x c e) hc F ho (I.freeC x c e),hd]
 show#[I.ok,I.os,hg,#[λb o e n Y B=>?_,λb o e n Y B=>?_,λb o e n B=>?_,λb o e B=>?_,λb xs e=>h1 b xs (I.base.tups b xs e),λb o xs e=>h4 b o xs (I.base.frzs b o xs e),λb ps e=>?_],?_,λx c e=>?_,?_,λx c e=>?_,λp hp=>?_,h6,I.len]
 .show G b o (h3 b o e) Y (M b o e B) (I.base.keep b o e n Y B) (I.base.free b o e n B)
 .obtain⟨sl,O⟩:=I.base.slot b o e n Y B;let#[h5,e2]:=slot b _ (h3 b o e) Y (M b o e B) O (I.base.free b o e n B);show#[h5,e2]
 .obtain⟨o',O⟩:=I.base.there b o e B;show free b o' (M b o e B) O (I.base.free b o e n B)
 .obtain⟨o',O⟩:=I.base.there b o e B;show there b o' (M b o e B) O
 .obtain⟨m1,O⟩:=I.base.tbls b ps e;let#[m2,e2]:=h2 b _ O;show#[m1++m2,by rw[e2,Array.append_assoc]]
 .obtain⟨m,hn,hl⟩:=I.loc;show#[m,ns m hn,λi x v O e2 e3=>?_];let#[u,r,l]:=hl i x v O e2 e3;show#[u,r,?_];rcases l with l|⟨k,c,e,z⟩
  .show .inl l
  .show .inr #[k,c,e,L x c e _ z]
 .obtain⟨v,z⟩:=I.cell x c e;show#[v,L x c e v z]
 .obtain⟨m,⟨o,_,_,ho,_⟩,_⟩:=I.loc;show free _ o (λz=>(J _ z).2.1 rfl) ho I.free
 .obtain⟨v,o,ho,hd⟩:=I.cell x c e;show free c o (λz=>(J c z).2.2.1 x c e rfl) ho (I.freeC x c e)
 .obtain⟨e,n,ne,nf,d⟩:=I.pin p hp;let F:p.1∉ch:=λz=>(J p.1 z).2.2.2 p hp rfl;show#[G p.1 p.2 ne nf F e n,free p.1 p.2 F e n,ne,nf,d]
def Inv.un(I:Inv X zH Z H s)(u:Un X.fs [] H H' s.heap h')(B:eE X.prog X.w H' h'):Inv X zH Z H' {s with heap:=h',toks:=t'}:=by let#[m,#[o,es,ep,L,r],_]:=id I.loc;let#[sl,Y]:=u.any L I.free (by simp);show I.step (g':=s.gens) (d':=s.drawn) (ch:=[]) (λ_ z=>nomatch z) (λb o _ F _ e n=>u.keep b o e n F (by simp)) (λb o _ F _ e n=>u.slot b o e n F (by simp)) (λb o _ e n=>u.free b o e n (by simp)) (λb o _ e=>u.there b o e (by simp)) u.tups u.frzs u.tbls (λm' O=>by let#[o',G,J,v,M]:=O;rw[L]at v;cases v;show#[_,G,J,Y,M]) B I.bare
def Inv.call(I:Inv X zH Z H s)(u:Un (mA X.stack) ch H H' s.heap h')(G:eE X.prog X.w H' h')(hg:AllBare g')
  (F:∀b∈ch,(b∈X.ex\/X.s₀.heap.get? b=none)/\b≠X.env.locals/\(∀x c,X.env.cells.lookup x=some c->c≠b)/\∀p∈X.pn++zH,p.1≠b):
  Inv X zH Z H' {s with heap:=h',gens:=g',drawn:=d',toks:=t'}:=by
 let#[m,#[o,es,ep,O,r],_]:=id I.loc;let#[sl,J]:=u.any O I.free λz=>(F _ z).2.1 rfl;show I.step (ch:=ch) F (λb o J hb v e n=>u.keep b o e n (λz=>(qA.mp (I.stkSub b z)).elim J hb) v) (λb o _ _ v e n=>u.any e n v) (λb o v e n=>u.free b o e n v) (λb o v e=>u.there b o e v) u.tups u.frzs u.tbls (λm' hm=>by let#[o',L,M,B,Y]:=hm;rw[O]at B;cases B;show#[_,L,M,J,Y]) G hg
def Inv.turned(I:Inv X zH Z H s)(k:∀b o,b≠it->s.heap.get? b=some o->h'.get? b=some o)(hn:H it=none)(G:it≠X.env.locals)
  (h1:it∈X.ex\/X.s₀.heap.get? it=none)(h2:∀x c,X.env.cells.lookup x=some c->c≠it)(O:∀p∈X.pn++zH,p.1≠it):Inv X zH Z H {s with heap:=h',toks:=t'}:=by
 let F:∀b u,H b=some u->b≠it:=λb u e z=>by rw[z,hn]at e;cases e
 refine I.step (g':=s.gens) (d':=s.drawn) (ch:=[it]) (λb M=>?_) (λb o _ _ B e _=>k b o (λz=>B (by simp[z])) e) (λb o _ _ B e _=>#[o.slots,k b o (λz=>B (by simp[z])) e]) (λ_ _ _ _ n=>n)
  (λb o B e=>#[o,k b o (λz=>B (by simp[z])) e]) (λ_ _ e=>e) (λ_ _ _ e=>e) (λb ps e=>#[#[],by rw[e];simp]) (λm L=>?_) (λb u e=>?_) I.bare
 .let e:b=it:=by simpa using M
  subst e;show#[h1,G,h2,O]
 .obtain⟨o,es,ep,J,r⟩:=L;show#[o,es,ep,k _ o (Ne.symm G) J,r]
 .show(I.hok b u e).stay (λc v B q=>k c v ?_ q) (λ_ q=>q) λ_ _ q=>q;rcases B with z|z
  .rw[z];show F b u e
  .show F c _ z
def Inv.tok(I:Inv X zH Z H s)(t:Nat):Inv X zH Z H {s with toks:=t}:=I.un (h':=s.heap) (t':=t) Un.refl I.hok
def Inv.kept(I:Inv X zH Z H s)(k:∀b u,s.heap.get? b=some u->h'.get? b=some u):Inv X zH Z H {s with heap:=h',toks:=t'}:=I.un (Un.kept k) (I.hok.kept k)
def Inv.laid(I:Inv X zH Z H s)(k:∀b u,s.heap.get? b=some u->h'.get? b=some u)(v:s.heap.objs.size<=a)(new:zG X.prog X.w (upd H a o) h' a o):
  Inv X zH Z (upd H a o) {s with heap:=h',toks:=t'}:=I.un (Un.laid k v (I.hok.fresh v)) (I.hok.laid k v new)
def Inv.write(I:Inv X zH Z H s)(z:xO (H x))(B:e=x\/H e=some (.own x))(k:∀b u,b≠e->s.heap.get? b=some u->h'.get? b=some u)(v:∃u,h'.get? e=some u)
  (new:zG X.prog X.w (upd H x o) h' x o):Inv X zH Z (upd H x o) {s with heap:=h',toks:=t'}:=I.un (Un.write z B k v) (I.hok.write z B k v new)
def Inv.pins_of(I:Inv X zH Z H s)(h:∀p∈pins',s.heap.get? p.1=some p.2/\H p.1=none/\p.1≠X.env.locals/\p.1∉X.fs/\∀v,p.2.data≠.cell v):Inv X pins' Z H s:=
 #[I.ok,I.os,I.bare,I.base,I.loc,I.cell,I.free,I.freeC,λp B=>(qx.mp B).elim (λz=>I.pin p (qj _ z)) (h p),I.hok,I.len]
def Jz{N:List Str}(v:N.Nodup){i j:Nat}(a:N[i]?=some x)(b:N[j]?=some x):i=j:=by let#[h1,B]:=qg.mp a;let#[h2,z]:=qg.mp b;show(List.getElem_inj v).mp (B.trans z.symm)
def Inv.call'(I:Inv X zH Z H s)(B:s'.os=s.os)(u:Un (mA X.stack) ch H H' s.heap s'.heap)(v:eE X.prog X.w H' s'.heap)(F:AllBare s'.gens)
  (z:∀b∈ch,(b∈X.ex\/X.s₀.heap.get? b=none)/\b≠X.env.locals/\(∀x c,X.env.cells.lookup x=some c->c≠b)/\∀p∈X.pn++zH,p.1≠b):Inv X zH Z H' s':=by
 let#[h',g',d',t',o']:=s';let e:o'=s.os:=B;subst e;show I.call (g':=g') (t':=t') (d':=d') u v F z
end
abbrev XK:=Value->Option Addr->Hp->Prop
abbrev St:=List (Option V)
abbrev VK:=V->Hp->Prop
abbrev TE:=St->Hp->VK->Prop
abbrev TT:=St->Hp->(Bool->Hp->Prop)->Prop
abbrev TA:=St->Hp->(List V->Hp->Prop)->Prop
structure Ends where
 nx:St->Hp->Prop
 rt:VK
 bk:St->Hp->Prop:=λ_ _=>False
 ct:St->Hp->Prop:=λ_ _=>False
abbrev TS:=Ends->St->Hp->Prop
inductive EP(X:Cx)(zH:List (Addr×Obj))(Z:St)(Q:VK)(u:Value)(s':Shared):Prop
 |mk (v:V) (H':Hp):Inv X zH Z H' s'->zw v u->Q v H'->EP X zH Z Q u s'
inductive TP(X:Cx)(zH:List (Addr×Obj))(Z:St)(Q:Bool->Hp->Prop)(b:Bool)(s':Shared):Prop
 |mk (H':Hp):Inv X zH Z H' s'->Q b H'->TP X zH Z Q b s'
inductive AP(X:Cx)(zH:List (Addr×Obj))(Z:St)(Q:List V->Hp->Prop)(us:List Value)(s':Shared):Prop
 |mk (vs:List V) (H':Hp):Inv X zH Z H' s'->zE vs us->Q vs H'->AP X zH Z Q us s'
@[inline]def SP(X:Cx)(zH:List (Addr×Obj))(D:Ends)(f:Flow)(s':Shared):Prop:=
 match f with
 |.next=>∃Z' H',Inv X zH Z' H' s'/\D.nx Z' H'
 |.brk=>∃Z' H',Inv X zH Z' H' s'/\D.bk Z' H'
 |.cont=>∃Z' H',Inv X zH Z' H' s'/\D.ct Z' H'
 |.ret u=>∃v Z' H',Inv X zH Z' H' s'/\zw v u/\D.rt v H'
@[inline]def PE(X:Cx)(e:Expr)(t:TE):Prop:=
 ∀(zH:List (Addr×Obj))(s:Shared)(Z:St)(H:Hp)(Q:VK),Inv X zH Z H s->t Z H Q->wpAny (model X.prog X.w) X.A (eval e X.env) (EP X zH Z Q) X.xe s
@[inline]def PT(X:Cx)(e:Expr)(t:TT):Prop:=
 ∀(zH:List (Addr×Obj))(s:Shared)(Z:St)(H:Hp)(Q:Bool->Hp->Prop),Inv X zH Z H s->t Z H Q->wpAny (model X.prog X.w) X.A (isTrue e X.env (eval e X.env)) (TP X zH Z Q) X.xe s
@[inline]def PW(X:Cx)(e:Expr)(t:TT):Prop:=
 ∀(v:Sem Value)(zH:List (Addr×Obj))(s:Shared)(Z:St)(H:Hp)(Q:Bool->Hp->Prop),Inv X zH Z H s->t Z H Q->wpAny (model X.prog X.w) X.A (isTrue e X.env v) (TP X zH Z Q) X.xe s
def PW.pt(h:PW X e t):PT X e t:=h _
@[inline]def PA(X:Cx)(es:List Expr)(t:TA):Prop:=
 ∀(pos:Pos)(zH:List (Addr×Obj))(s:Shared)(Z:St)(H:Hp)(Q:List V->Hp->Prop),Inv X zH Z H s->t Z H Q->wpAny (model X.prog X.w) X.A (spliced (backTo pos (starEach es X.env))) (AP X zH Z Q) X.xe s
@[inline]def PS(X:Cx)(st:Stmt)(t:TS):Prop:=
 ∀(zH:List (Addr×Obj))(s:Shared)(Z:St)(H:Hp)(D:Ends),Inv X zH Z H s->t D Z H->wpAny (model X.prog X.w) X.A (exec st X.env) (SP X zH D) X.xe s
def iP(X:Cx)(st:List Stmt)(t:TS):Prop:=
 ∀(zH:List (Addr×Obj))(s:Shared)(Z:St)(H:Hp)(D:Ends),Inv X zH Z H s->t D Z H->wpAny (model X.prog X.w) X.A (execs st X.env) (SP X zH D) X.xe s
def Am(h:wpAny M A t Q E s)(v:∀a s,Q a s->Q' a s):wpAny M A t Q' E s:=zi h v λ_ _ x=>x
section
variable{X:Cx}
def zT(i:Nat):TE:=λZ H Q=>∃v,Z[i]?=some (some v)/\Q v H
def tC(v:V):TE:=λ_ H Q=>Q v H
def Pv(hN:X.N[i]?=some x)(M:xD X.env.scope x)(G:(x==("__debug__":Str))=false:=by decide)(J:(x==("__classdict__":Str))=false:=by decide):PE X (.Name x pos) (zT i):=by
 intro zH s Z H Q I h;let#[v,e,h]:=h;let#[m,O,hl]:=I.loc;let#[u,r,l]:=hl i x v hN e M;let F:EP X zH Z Q u s:=#[v,H,I,r,h]
 rcases l with⟨B,Y⟩|⟨B,c,L,z⟩
 .show wpAny_Name (wpAny_loadName_local I.ok.kind B O Y F) G
 .rcases B with B|B
  .show wpAny_Name (wpAny_loadName_cell I.ok.kind B L z F) G
  .show wpAny_Name (wpAny_loadName_free I.ok.kind B L z F J) G
def OO:PE X (.Constant (.int i) j pos) (tC (.int i)):=λ_ _ _ H _ I h=>wpAny_Constant_int #[.int i,H,I.tok _,#[_,rfl],h]
def On:PE X (.Constant (.bool b) j pos) (tC (.bl b)):=λ_ _ _ H _ I h=>Constant_bool #[.bl b,H,I,rfl,h]
def Pb:PE X (.Constant (.str x) j pos) (tC (.str x)):=λ_ _ _ H _ I h=>Calls.Constant_str #[.str x,H,I.tok _,#[_,rfl],h]
@[inline]def Gl(X:Cx)(x:Str):Prop:=X.env.kindOf x=some .globalImplicit
def Rm(I:Inv X zH Z H s)(z:Gl X x)(v:X.mg x=some u)(h:Q u s)
  (B:(x==("__debug__":Str))=false:=by decide):wpAny (model X.prog X.w) X.A (eval (.Name x pos) X.env) Q E s:=
 Calls.Name_function_global I.ok.kind z (Calls.loadGlobal_global (by rw[I.ok.glob];show I.mod.glob.keeps I.bk) v h) B
def GX(I:Inv X zH Z H s)(B:Gl X x)(z:X.mg x=none)(v:bootBuiltins x=some u)(h:Q u s)
  (hn:x≠"__name__":=by decide)(F:(x==("__debug__":Str))=false:=by decide):wpAny (model X.prog X.w) X.A (eval (.Name x pos) X.env) Q E s:=by
 let#[G,h1,h2]:=I.mod.blt;show Calls.Name_function_global I.ok.kind B (Calls.loadGlobal_builtin (by rw[I.ok.glob];show I.mod.glob.keeps I.bk) z (by rw[I.ok.blt];show h1.keeps I.bk) ((h2 x hn).trans v) h) F
variable{a b:Expr}{ta tb:TE}{pos:Pos}
def Et(b:Expr)(h:v≠.In)(h2:v≠.NotIn):behindInMarks v b=false:=by
 let B:(v==CmpOp.In)=false:=by cases v<;>first|rfl|show absurd rfl h
 let z:(v==CmpOp.NotIn)=false:=by cases v<;>first|rfl|show absurd rfl h2
 cases b<;>first|rfl|(show(_&&(v==.In||v==.NotIn)&&_)=false;rw[B,z,Bool.or_false,Bool.and_false];rfl)
variable{tA tB':TT}{rest:List Expr}
def ah(t u:TT):TT:=λZ H Q=>t Z H λc H1=>if c=true then u Z H1 Q else Q false H1
def PV(v:PT X a tA):PW X (.BoolOp .And [a] pos) tA:=by
 intro z zH s Z H Q I h;show isTrue_and (Am (v zH s Z H Q I h) λc B e=>?_);cases c with
 |true=>show isTrue_and_nil e
 |false=>show e
def Oq(L:PT X a tA)(J:PW X (.BoolOp .And (b::rest) pos) tB'):PW X (.BoolOp .And (a::b::rest) pos) (ah tA tB'):=by
 intro F zH s Z H Q I h;show isTrue_and (Am (L zH s Z H _ I h) λc G B=>?_);let#[H1,z,v]:=B;cases c with
 |true=>show J F zH G Z H1 Q z v
 |false=>show#[H1,z,v]
end
def bO(K:W.Frag)(H:Hp)(a:Addr)(xs:List V):Prop:=
 Rd H a (.lst xs)\/
  ∃(o:Obj)(v:Array Value)(n:Nat),K.lookup a=some o/\o.cls=.type "list"/\o.dict=none/\o.data=.seq v n/\v.size<=sizeLine/\zE xs v.toList
def bN(K:W.Frag)(H:Hp)(a:Addr)(xs:List V):Prop:=
 Rd H a (.tup xs)\/
  ∃(o:Obj)(v:Array Value)(n:Nat),K.lookup a=some o/\o.cls=.type "tuple"/\o.data=.seq v n/\v.size<=sizeLine/\zE xs v.toList
def dm:Value->Option V
 |.none=>some .non
 |.bool b=>some (.bl b)
 |.int i _=>some (.int i)
 |.str x _=>some (.str x)
 |.bytes b _=>some (.byt b)
 |.float b _=>some (.flt b)
 |.ref a=>some (.ref a)
 |.type n=>some (.ty n)
 |_=>none
def zw.abs(r:zw x u):dm u=some x:=by
 cases x with
 |non=>cases r;rfl
 |bl _=>cases r;rfl
 |int _=>let#[t,rfl]:=r;rfl
 |str _=>let#[t,rfl]:=r;rfl
 |byt _=>let#[t,rfl]:=r;rfl
 |flt _=>let#[t,rfl]:=r;rfl
 |ref _=>cases r;rfl
 |ty _=>cases r;rfl
def zw.inj(r:zw x u)(q:zw y u):x=y:=qf (r.abs.symm.trans q.abs)
def zE.inj:∀{xs ys:List V}{us:List Value},zE xs us->zE ys us->xs=ys:=by
 intro xs ys us r q;induction r generalizing ys with
 |nil=>cases q;rfl
 |cons r _ B=>cases q with
  |cons z v=>rw[r.inj z,B v]
inductive xS(xs:List V)(h:Heap)(a:Addr):Prop
 |mk (zL:List Value):zE xs zL->PlainL h a zL.toArray->xs.length<=sizeLine->xS xs h a
inductive xR(xs:List V)(h:Heap)(a:Addr):Prop
 |mk (zL:List Value):zE xs zL->IsTup h a zL.toArray->xs.length<=sizeLine->xR xs h a
section
variable{X:Cx}{zH:List (Addr×Obj)}{Z:St}{H:Hp}{s:Shared}{a:Addr}{xs ys:List V}
def bO.of{K:W.Frag}(h:H a=some (.lst xs)):bO K H a xs:=.inl (.inl h)
def bN.of{K:W.Frag}(h:H a=some (.tup xs)):bN K H a xs:=.inl (.inl h)
def Inv.list(I:Inv X zH Z H s)(h:bO X.K H a xs):xS xs s.heap a:=by
 rcases h with h|⟨o,v,n,F,J,G,B,L,r⟩
 .obtain⟨z,v,n,r,e⟩:=h.ok I.hok;show#[v,r,#[_,n,e,rfl,rfl,rfl],z]
 .show#[v.toList,r,#[o,n,I.kIn a o F,J,G,↑B],?_];let e:=r.length;simp only[qV]at e;lia
def Inv.tuple(I:Inv X zH Z H s)(h:bN X.K H a xs):xR xs s.heap a:=by
 rcases h with h|⟨o,v,n,F,G,B,J,r⟩
 .obtain⟨z,v,r,p⟩:=h.ok I.hok;show#[v,r,p,z.1]
 .show#[v.toList,r,#[o,I.kIn a o F,G,n,↑B],?_];let e:=r.length;simp only[qV]at e;lia
def Inv.list_inj(I:Inv X zH Z H s)(h:bO X.K H a xs)(h':bO X.K H a ys):xs=ys:=by
 let#[z,r,#[o,n,e,_,_,d],_]:=I.list h;let#[v,G,#[o',J,B,_,_,F],_]:=I.list h';rw[e]at B;cases B;rw[d]at F;injection F with d1 _
 let:z=v:=by simpa using congrArg Array.toList d1
 subst this;show r.inj G
def Inv.tuple_inj(I:Inv X zH Z H s)(h:bN X.K H a xs)(h':bN X.K H a ys):xs=ys:=by
 let#[z,r,#[o,e,_,n,d],_]:=I.tuple h;let#[v,G,#[o',B,_,J,F],_]:=I.tuple h';rw[e]at B;cases B;rw[d]at F;injection F with d1 _
 let:z=v:=by simpa using congrArg Array.toList d1
 subst this;show r.inj G
end
section
variable{X:Cx}{st:Stmt}{rest:List Stmt}{t u:TS}{e:Expr}{te:TE}{pos:Pos}
def vI:TS:=λD Z H=>D.nx Z H
def zV(t u:TS):TS:=λD Z H=>t {D with nx:=u D} Z H
def QN:iP X [] vI:=λ_ _ Z H _ I h=>wpAny_execs_nil #[Z,H,I,h]
def So(h1:PS X st t)(h2:iP X rest u):iP X (st::rest) (zV t u):=by
 intro zH s Z H D I h;show wpAny_execs_cons (Am (h1 zH s Z H {D with nx:=u D} I h) λf B q=>?_);cases f with
 |next=>let#[z,H',F,q]:=q;show h2 zH B z H' D F q
 |ret v=>show q
 |brk=>show q
 |cont=>show q
def Ra(h1:PS X st t):iP X [st] t:=by
 intro zH s Z H D I h;show wpAny_execs_cons (Am (h1 zH s Z H D I h) λf z q=>?_);cases f with
 |next=>show wpAny_execs_nil q
 |ret v=>show q
 |brk=>show q
 |cont=>show q
def Inv.quiet(I:Inv X zH Z H s):interactive X.env=false:=by simp[interactive,I.ok.kind]
def vJ(te:TE):TS:=λD Z H=>te Z H λ_ H1=>D.nx Z H1
def QW(B:PE X e te)(hs:swapsWith e none pos.line X.env=pure false:=by rfl):PS X (.Expr e pos) (vJ te):=by intro zH s Z H D I h;show wpAny_Expr_any (Am (B zH s Z H _ I h) λv G⟨x,H1,F,J,z⟩=>#[Z,H1,F,z]) I.quiet hs
def zW(te:TE):TS:=λD Z H=>te Z H D.rt
def Ph(F:PE X e te):PS X (.Return (some e) pos) (zW te):=by intro zH s Z H D I h;show wpAny_Return_some (Am (F zH s Z H _ I h) λv J⟨x,H1,G,z,B⟩=>#[x,Z,H1,G,z,B])
def ab(c:TT)(t u:TS):TS:=λD Z H=>c Z H λb H1=>if b=true then t D Z H1 else u D Z H1
def Oe(G:PT X c tc)(L:iP X a t)(J:iP X b u):PS X (.If c a b pos) (ab tc t u):=by
 intro zH s Z H D I h;show wpAny_If (Am (G zH s Z H _ I h) λd v F=>?_);let#[H1,B,z]:=F;cases d with
 |true=>show L zH v Z H1 D B z
 |false=>show J zH v Z H1 D B z
end
abbrev TG:=V->St->Hp->(St->Hp->Prop)->Prop
abbrev xF:=List V->St->Hp->(St->Hp->Prop)->Prop
@[inline]def PG(X:Cx)(z:Expr)(t:TG):Prop:=
 ∀(zH:List (Addr×Obj))(s:Shared)(Z:St)(H:Hp)(v:V)(u:Value)(Q:St->Hp->Prop),Inv X zH Z H s->zw v u->t v Z H Q->
  wpAny (model X.prog X.w) X.A (assign z X.env u) (λ_ s'=>∃Z' H',Inv X zH Z' H' s'/\Q Z' H') X.xe s
def xN(X:Cx)(v:List Expr)(t:xF):Prop:=
 ∀(zH:List (Addr×Obj))(s:Shared)(Z:St)(H:Hp)(vs:List V)(us:List Value)(Q:St->Hp->Prop),Inv X zH Z H s->zE vs us->t vs Z H Q->
  wpAny (model X.prog X.w) X.A (assignInOrder ((assignEach v X.env).map (·.2)) us) (λ_ s'=>∃Z' H',Inv X zH Z' H' s'/\Q Z' H') X.xe s
abbrev TSet:=V->V->V->Hp->(Hp->Prop)->Prop
def xK(X:Cx)(t:TSet):Prop:=
 ∀(zH:List (Addr×Obj))(s:Shared)(Z:St)(H:Hp)(o i v:V)(z B u:Value)(Q:Hp->Prop),Inv X zH Z H s->zw o z->zw i B->zw v u->t o i v H Q->
  wpAny (model X.prog X.w) X.A (setItem z B u) (λ_ s'=>∃H',Inv X zH Z H' s'/\Q H') X.xe s
section
variable{X:Cx}{pos:Pos}
def di:xF:=λv Z H Q=>v=[]/\Q Z H
def wV(t:TG)(u:xF):xF:=λB Z H Q=>∃v r,B=v::r/\t v Z H λz H'=>u r z H' Q
def QK:xN X [] di:=by intro zH s Z H v z Q I r h;let#[e,h]:=h;subst e;cases r;show assignInOrder_nil #[Z,H,I,h]
def RK(h1:PG X e t)(h2:xN X es u)
  (hs:(assignEach (e::es) X.env).map (·.2)=assign e X.env::(assignEach es X.env).map (·.2):=by rfl):xN X (e::es) (wV t u):=by
 intro zH s Z H O us Q I r h;let#[v,Y,L,h]:=h;subst L;cases r with
 |cons r G=>rw[hs];show assignInOrder_cons (Am (h1 zH s Z H _ _ _ I r h) λ_ F B=>?_);let#[z,H1,M,J]:=B;show h2 zH F z H1 _ _ Q M G J
def cE(K:W.Frag)(n:Nat)(t:xF):TG:=λv Z H Q=>∃a xs,v=.ref a/\bN K H a xs/\xs.length=n/\t xs Z H Q
def OF(Y:X.calm=true)(h:xN X es t)
  (hn:(assignEach es X.env).length=n:=by rfl)(B:(assignEach es X.env).findIdx? (·.1)=none:=by rfl):PG X (.Tuple es k pos) (cE X.K n t):=by
 intro zH s Z H v u Q I r z;let#[a,xs,e1,M,O,z]:=z;subst e1;cases r;let#[G,F,L,hz]:=I.tuple M;show assign_Tuple_tuple (I.ok.hd Y) L (by simp[hn,<-O,F.length]) B λh' J=>?_;let I1:Inv X zH Z H {s with heap:=h'}:=I.kept (t':=s.toks) λb o e=>J b o (ne_of_lt (qe e)) e;show h zH _ Z H xs _ Q I1 ↑F z
def dh(z B:TE)(t:TSet):TG:=λv Z H Q=>z Z H λo H1=>B Z H1 λi H2=>t o i v H2 λF=>Q Z F
def OW(ho:PE X o to)(hi:PE X i ti)(hs:xK X t)
  (ha:∀v,assign (.Subscript o i pos) X.env v=(do
   let ov<-holding [v] (eval o X.env)
   let iv<-holding [v,ov] (eval i X.env)
   standAt pos
   holding [v,ov,iv] (setItem ov iv v)
   release [v,ov,iv] []):=by intro _;rfl):PG X (.Subscript o i pos) (dh to ti t):=by
 intro zH s Z H v u Q I r h;rw[ha];show qa (zg (Am (ho zH s Z H _ I h) λov s1 zq=>?_));let#[x,H1,I1,r1,q1]:=zq;show qa (zg (Am (hi zH s1 Z H1 _ I1 q1) λiv s2 zq=>?_));let#[y,H2,I2,r2,q2]:=zq;show qa (wpAny_standAt (qa (zg (Am (hs zH s2 Z H2 x y v ov iv u _ I2 r1 r2 r q2) λ_ s3 zq=>?_))));let#[H3,I3,q3]:=zq;show wpAny_release #[Z,H3,I3,q3]
def ag(te:TE)(g:TG):TS:=λD Z H=>te Z H λx H1=>g x Z H1 D.nx
def La(M:PE X e te)(L:PG X tg g)(hs:swapsWithSole [tg] e pos.line X.env=pure false:=by rfl)(J:swappedStores [tg] e X.env=pure none:=by rfl)
  (h1:(assignEach [tg] X.env).map (·.2)=[assign tg X.env]:=by rfl):PS X (.Assign [tg] e pos) (ag te g):=by
 intro zH s Z H D I h;show wpAny_Assign_stores (Am (M zH s Z H _ I h) λv B z=>?_) hs J;let#[x,H1,O,F,G]:=z;rw[h1];show Am (L zH B Z H1 x v _ O F G) λ_ Y q=>q
def rM(c:TT)(tb:TS):TS:=λD Z H=>∃W:Nat->St->Hp->Prop,(∃m,W m Z H)/\∀m Z H,W m Z H->
 c Z H λb H1=>if b=true then∃N:St->Hp->Prop,(∀Z' H',N Z' H'->∃v,v<m/\W v Z' H')/\tb {D with nx:=N,ct:=N,bk:=D.nx} Z H1 else D.nx Z H1
def SS(hp:PassesOwn (model X.prog X.w) X.A X.env X.xe)(hc:PT X c tc)(hb:iP X body tb):PS X (.While c body [] pos) (rM tc tb):=by
 intro zH s Z H D I h;let#[W,#[m0,w0],F]:=h;show wpAny_While (codeAny_whileLoop (λn s'=>∃Z' H',Inv X zH Z' H' s'/\W n Z' H') ?_ m0 #[Z,H,I,w0]);rintro n s1 ⟨B,H1,I1,w1⟩;show wpAny_passesOwn hp (Am (hc zH s1 B H1 _ I1 (F n B H1 w1)) λb s2 zq=>?_);let#[H2,I2,L]:=zq;cases b with
 |true=>
  let#[N,hN,L]:=L;rw[q4 rfl];show wpAny_passesOwn hp (Am (hb zH s2 B H2 _ I2 L) λf s3 J=>?_);cases f with
  |next=>let#[z,G,I3,O]:=J;let#[Y,hm,M]:=hN z G O;show#[Y,hm,z,G,I3,M]
  |cont=>let#[z,G,I3,O]:=J;let#[Y,hm,M]:=hN z G O;show#[Y,hm,z,G,I3,M]
  |brk=>show J
  |ret v=>show J
 |false=>rw[q5 qX];show wpAny_execs_nil #[B,H2,I2,L]
end
structure It where
 go:Nat->Hp->Prop
 yld:Nat->Hp->V->Hp->Prop
 stop:Nat->Hp->Prop
def cX(X:Cx)(zH:List (Addr×Obj))(H:Hp)(b:Addr):Prop:=
 H b=none/\b≠X.env.locals/\b∉X.fs/\(b∈X.ex\/X.s₀.heap.get? b=none)/\(∀x c,X.env.cells.lookup x=some c->c≠b)/\∀p∈X.pn++zH,p.1≠b
def Inv.fpOk(I:Inv X zH Z H s)(B:s.heap.objs.size<=b)(hn:H' b=none):cX X zH H' b:=by
 show#[hn,ne_of_gt (lt_of_lt_of_le I.lt B),I.nofs B,.inr (Heap.get?_none_of_le (le_trans I.sz B)),λx c e z=>?_,λp F z=>?_]
 .obtain⟨v,q⟩:=I.cell x c e;show absurd (lt_of_lt_of_le q.lt (by rw[z];show B)) (lt_irrefl _)
 .show absurd (lt_of_lt_of_le (qe (I.pin p F).1) (by rw[z];show B)) (lt_irrefl _)
structure iK(P:Program)(w:World)(K:W.Frag)(tg:Expr)(J:It)(fp:List Addr)(it:Addr)(tn:Nat->Heap->Prop):Prop where
 mem:it∈fp
 obj:∀i h,tn i h->∀b∈fp,∃o,h.get? b=some o/\∀v,o.data≠.cell v
 keep:∀i h h',tn i h->(∀b∈fp,∀o,h.get? b=some o->h'.get? b=some o)->tn i h'
 item:∀(X:Cx),X.prog=P->X.w=w->X.K=K->X.calm=true->∀(i:Nat)(zH:List (Addr×Obj))(s:Shared)(Z:St)(H:Hp)(E:zj),Inv X zH Z H s->(∀b∈fp,cX X zH H b)->tn i s.heap->J.go i H->
  wpAny (model P w) X.A (pyNext (.ref it)) (λr s1=>∃u,r=some u/\
   wpAny (model P w) X.A (letOwnedTupleGo tg (.ref it) u) (λ_ s2=>∃x H',Inv X zH Z H' s2/\zw x u/\J.yld i H x H'/\tn (i+1) s2.heap/\∀b∈fp,H' b=none) E s1) E s
 done:∀(X:Cx),X.prog=P->X.w=w->X.K=K->X.calm=true->∀(i:Nat)(zH:List (Addr×Obj))(s:Shared)(Z:St)(H:Hp)(E:zj),Inv X zH Z H s->(∀b∈fp,cX X zH H b)->tn i s.heap->J.stop i H->
  wpAny (model P w) X.A (pyNext (.ref it)) (λr s1=>r=none/\Inv X zH Z H s1) E s
 self:∀(A:Around)(i:Nat)(s:Shared)(Q:zj)(E:zj),tn i s.heap->Q (.ref it) s->wpAny (model P w) A (pyIter (.ref it)) Q E s
abbrev TI:=St->Hp->(It->Hp->Prop)->Prop
inductive xM(X:Cx)(zH:List (Addr×Obj))(Z:St)(tg:Expr)(R:It->Hp->Prop)(itv:Value)(s2:Shared):Prop
 |mk (it:Addr) (fp:List Addr) (tn:Nat->Heap->Prop) (J:It) (H':Hp):itv=.ref it->Inv X zH Z H' s2->iK X.prog X.w X.K tg J fp it tn->tn 0 s2.heap->(∀b∈fp,cX X zH H' b)->R J H'->xM X zH Z tg R itv s2
@[inline]def PI(X:Cx)(tg iter:Expr)(z:TI):Prop:=
 ∀(zH:List (Addr×Obj))(s:Shared)(Z:St)(H:Hp)(R:It->Hp->Prop),Inv X zH Z H s->z Z H R->
  wpAny (model X.prog X.w) X.A (eval iter X.env) (λv B=>wpAny (model X.prog X.w) X.A (pyIter v) (xM X zH Z tg R) X.xe B) X.xe s
def HU(z:s.heap.get? it=some o)(F:o.cls=.type n)(B:o.data=.fields vs)
  (hn:["enumerate","zip","dict_itemiterator","dict_reverseitemiterator","odict_iterator","itertools.zip_longest","itertools.pairwise"].contains n=false)(v:Q () s):wpAny M A (letOwnedTupleGo tg (.ref it) u) Q E s:=by
 unfold letOwnedTupleGo;cases tg<;>first
  |show qb v
  |(cases u<;>first
   |show qb v
   |(show qa (wpAny_load z ?_);rw[F,B];show wpAny M A (if(["enumerate","zip","dict_itemiterator","dict_reverseitemiterator","odict_iterator","itertools.zip_longest","itertools.pairwise"].contains n&&vs[0]?==some (rawInt _))=true then _ else _) Q E s;rw[q5 (by intro h;rw[hn,Bool.false_and]at h;cases h)];show qb v))
def xU(K:W.Frag)(a:Addr):It:=
 #[λi H=>∃xs x,bO K H a xs/\xs[i]?=some x,λi H x H'=>H'=H/\∀xs,bO K H a xs->xs[i]?=some x,λi H=>∃xs,bO K H a xs/\xs.length<=i]
def dw(K:W.Frag)(a:Addr):It:=
 #[λi H=>∃xs x,bN K H a xs/\xs[i]?=some x,λi H x H'=>H'=H/\∀xs,bN K H a xs->xs[i]?=some x,λi H=>∃xs,bN K H a xs/\xs.length<=i]
def xT(lo:Int)(n:Nat):It:=#[λi _=>i<n,λi H x H'=>H'=H/\x=.int (lo+i),λi _=>n<=i]
def US{P:Program}{w:World}{K:W.Frag}{tg:Expr}(a it:Addr):iK P w K tg (xU K a) [it] it (λi h=>h.IsListIter it a i) where
 mem:=by simp
 obj:=λi h st b hb=>by
  let e:b=it:=↑hb
  subst e;let#[o,e,c,d]:=st;show#[o,e,λv z=>by rw[d]at z;cases z]
 keep:=λi h h' st k=>st.at λo e=>k it (by simp) o e
 item:=by intro X hP hw hK hc i zH s Z H E I hf st hg;subst hP hw hK;let#[xs,x,hq,hx]:=hg;let#[zL,rv,p,hz]:=I.list hq;let#[u,hu,ru]:=rv.get hx;let#[f0,f1,f2,f3,f4,f5]:=hf it (by simp);show wpAny_pyNext_list_item st p.isList (x:=u) ↑hu λh' st' sb=>?_;let I1:Inv X zH Z H {s with heap:=h'}:=I.turned (t':=s.toks) (λb o hb e=>(sb.2 b hb).trans e) f0 f1 f3 f4 f5;let#[o,e,c,d]:=id st';show#[u,rfl,HU (s:={s with heap:=h'}) e c d ⋯ #[x,H,I1,ru,#[rfl,λys hy=>by rw[I.list_inj hy hq];show hx],st',λb hb=>(hf b hb).1]]
 done:=by intro X hP hw hK hc i zH s Z H E I hf st hg;subst hP hw hK;let#[xs,hq,hx]:=hg;let#[zL,rv,p,hz]:=I.list hq;let#[f0,f1,f2,f3,f4,f5]:=hf it (by simp);let hl:=rv.length;show wpAny_pyNext_list_end (I.ok.hd hc) st p.isList (by simp;lia) λh' eb=>#[rfl,I.turned (t':=s.toks) (λb o hb e=>eb b o hb e) f0 f1 f3 f4 f5]
 self:=λ_ _ _ _ _ st h=>wpAny_pyIter_listiter st h
def UK{P:Program}{w:World}{K:W.Frag}{tg:Expr}(a it:Addr):iK P w K tg (dw K a) [it] it (λi h=>h.IsTupleIter it a i) where
 mem:=by simp
 obj:=λi h st b hb=>by
  let e:b=it:=↑hb
  subst e;let#[o,e,c,d]:=st;show#[o,e,λv z=>by rw[d]at z;cases z]
 keep:=λi h h' st k=>st.at λo e=>k it (by simp) o e
 item:=by intro X hP hw hK hc i zH s Z H E I hf st hg;subst hP hw hK;let#[xs,x,hq,hx]:=hg;let#[zL,rv,p,hz]:=I.tuple hq;let#[u,hu,ru]:=rv.get hx;let#[f0,f1,f2,f3,f4,f5]:=hf it (by simp);show wpAny_pyNext_tuple_item st (show s.heap.IsTuple a zL.toArray from p) (x:=u) ↑hu λh' st' sb=>?_;let I1:Inv X zH Z H {s with heap:=h'}:=I.turned (t':=s.toks) (λb o hb e=>(sb.2 b hb).trans e) f0 f1 f3 f4 f5;let#[o,e,c,d]:=id st';show#[u,rfl,HU (s:={s with heap:=h'}) e c d ⋯ #[x,H,I1,ru,#[rfl,λys hy=>by rw[I.tuple_inj hy hq];show hx],st',λb hb=>(hf b hb).1]]
 done:=by intro X hP hw hK hc i zH s Z H E I hf st hg;subst hP hw hK;let#[xs,hq,hx]:=hg;let#[zL,rv,p,hz]:=I.tuple hq;let#[f0,f1,f2,f3,f4,f5]:=hf it (by simp);let hl:=rv.length;show wpAny_pyNext_tuple_end (I.ok.hd hc) st (show s.heap.IsTuple a zL.toArray from p) (by simp;lia) λh' eb=>#[rfl,I.turned (t':=s.toks) (λb o hb e=>eb b o hb e) f0 f1 f3 f4 f5]
 self:=λ_ _ _ _ _ st h=>wpAny_pyIter_tupleiter st h
def UI{P:Program}{w:World}{K:W.Frag}{tg:Expr}(it:Addr)(lo:Int)(n:Nat):iK P w K tg (xT lo n) [it] it (λi h=>IsRangeIter h it (lo+(i:Nat)*1) ((n:Int)-(i:Nat)) 1) where
 mem:=by simp
 obj:=λi h st b hb=>by
  let e:b=it:=↑hb
  subst e;show#[_,st,λv z=>by let z':Data.fields _=Data.cell v:=z;cases z']
 keep:=λi h h' st k=>k it (by simp) _ st
 item:=by intro X hP hw hK hc i zH s Z H E I hf st hg;subst hP hw hK;let#[f0,f1,f2,f3,f4,f5]:=hf it (by simp);let W:=Walks.range (prog:=X.prog) (w:=X.w) (I.ok.hd hc) it lo 1 n;show W.item i s _ _ hg st λv h' tk hv st' kk=>?_;let#[t,rfl]:=hv;let I1:Inv X zH Z H {s with heap:=h',toks:=tk}:=I.turned (λb o hb e=>kk b o ↑hb e) f0 f1 f3 f4 f5;show#[_,rfl,HU (s:={s with heap:=h',toks:=tk}) (n:="range_iterator") st' rfl rfl ⋯ #[.int (lo+i),H,I1,#[t,?_],#[rfl,rfl],st',λb hb=>(hf b hb).1]];rw[mul_one]
 done:=by intro X hP hw hK hc i zH s Z H E I hf st hg;subst hP hw hK;let#[f0,f1,f2,f3,f4,f5]:=hf it (by simp);show wpAny_pyNext_range_end (I.ok.hd hc) st (by let:n<=i:=hg;lia) λh' eb=>#[rfl,I.turned (t':=s.toks) (λb o hb e=>eb b o hb e) f0 f1 f3 f4 f5]
 self:=λ_ _ _ _ _ st h=>wpAny_pyIter_rangeiter st h
section
variable{X:Cx}{tg:Expr}
def Mj{lo hi:Int}(I:Inv X zH Z H s)(h1:-(2^62)<=lo)(h2:lo<2^62)(G:-(2^62)<=hi)(F:hi<2^62)
  (q:R (xT lo (hi-lo).toNat) H):wpAny (model X.prog X.w) X.A (pyIter (.ref s.heap.objs.size)) (xM X zH Z tg R) E {s with heap:=s.heap.push {cls:=.type "range",data:=.fields [.int lo t,.int hi u,.int 1 v].toArray},toks:=tk}:=by
 refine wpAny_pyIter_range (IsRange.new ..) (small_one h1 h2 G F) ?_;let z:Inv X zH Z H {s with heap:=s.heap.push {cls:=.type "range",data:=.fields [.int lo t,.int hi u,.int 1 v].toArray},toks:=tk}:=I.kept λb o e=>qc _ e;refine⟨(s.heap.push {cls:=.type "range",data:=.fields [.int lo t,.int hi u,.int 1 v].toArray}).objs.size,[(s.heap.push {cls:=.type "range",data:=.fields [.int lo t,.int hi u,.int 1 v].toArray}).objs.size],_,_,H,rfl,
  z.kept (t':=tk) λb o e=>qc _ e,UI _ lo (hi-lo).toNat,?_,λb B=>?_,q⟩
 .let L:lo+((0:Nat):Int)*1=lo:=by simp
  let J:(((hi-lo).toNat:Nat):Int)-((0:Nat):Int)=Builtin.Range.rangeSize lo hi 1:=by rw[rangeSize_one];split<;>lia
  show IsRangeIter _ _ (lo+((0:Nat):Int)*1) ((((hi-lo).toNat:Nat):Int)-((0:Nat):Int)) 1;rw[L,J];show qd _ rfl
 .let e:b=(s.heap.push {cls:=.type "range",data:=.fields [.int lo t,.int hi u,.int 1 v].toArray}).objs.size:=by simpa using B
  subst e;show z.fpOk (q8 _) (z.hok.fresh (q8 _))
def wR(ta:TA):TI:=λZ H R=>ta Z H λv H1=>∃j:Int,v=[.int j]/\-(2^62)<=j/\j<2^62/\R (xT 0 j.toNat) H1
def wQ(ta:TA):TI:=λZ H R=>ta Z H λv H1=>∃i j:Int,v=[.int i,.int j]/\(-(2^62)<=i/\i<2^62/\-(2^62)<=j/\j<2^62)/\R (xT i (j-i).toNat) H1
def TV(L:Gl X "range")(J:X.mg "range"=none)(M:PA X [a] ta)(hs:starEach [a] X.env=[(false,eval a X.env)]:=by rfl):PI X tg (.Call (.Name "range" p) [a] [] pos) (wR ta):=by
 intro zH s Z H R I h;show Call_ (GX I L J boot_range (PyProof.Rows.callWith_type1 (Am (M pos zH s Z H _ I h) λus s1 z=>?_) hs rfl));let#[Y,H1,O,F,v]:=z;let#[j,e,v,G,q]:=v;subst e;cases F with
 |cons r B=>cases B;let#[t,rfl]:=r;show call_range_1 (Mj O ∅ ∅ v G ↑q)
def Ui(hg:Gl X "range")(Y:X.mg "range"=none)(ha:PA X [a,b] ta)(hs:starEach [a,b] X.env=[(false,eval a X.env),(false,eval b X.env)]:=by rfl)(v:starEach [b] X.env=[(false,eval b X.env)]:=by rfl):
  PI X tg (.Call (.Name "range" p) [a,b] [] pos) (wQ ta):=by
 intro zH s Z H R I h;show Call_ (GX I hg Y boot_range (PyProof.Rows.callWith_type1 (Am (ha pos zH s Z H _ I h) λus s1 F=>?_) (by rw[hs,v]) (by rw[v];rfl)));let#[vs,H1,I1,G,B]:=F;let#[i,j,e,#[B,O,M,L],q]:=B;subst e;cases G with
 |cons r z=>
  cases z with
  |cons J z=>cases z;let#[t,rfl]:=r;let#[t',rfl]:=J;show call_range_2 (Mj I1 B O M L q)
def ae(B:TI)(g:TG)(tb:TS):TS:=λD Z H=>B Z H λJ H1=>∃W:Nat->Nat->St->Hp->Prop,(∃m,W 0 m Z H1)/\∀i m Z H,W i m Z H->
 (J.stop i H/\D.nx Z H)\/(J.go i H/\∃N:St->Hp->Prop,(∀Z' H',N Z' H'->∃z,z<m/\W (i+1) z Z' H')/\∀x H',J.yld i H x H'->g x Z H' λv H2=>tb {D with nx:=N,ct:=N,bk:=D.nx} v H2)
def fI(fp:List Addr)(h:Heap):List (Addr×Obj):=fp.filterMap λb=>(h.get? b).map λo=>(b,o)
def Iq(v:b∈fp)(e:h.get? b=some o):(b,o)∈fI fp h:=mem_filterMap.mpr #[b,v,by rw[e];rfl]
def Sy(v:p∈fI fp h):p.1∈fp/\h.get? p.1=some p.2:=by
 let#[b,z,e]:=mem_filterMap.mp v;cases q:h.get? b with
 |none=>rw[q]at e;cases e
 |some o=>grind
def Inv.pinned(I:Inv X zH Z H s)(L:∀b∈fp,cX X zH H b)(J:∀b∈fp,∃o,s.heap.get? b=some o/\∀v,o.data≠.cell v):Inv X (zH++fI fp s.heap) Z H s:=
 I.pins_of λp G=>(qx.mp G).elim (λz=>I.pin p (qi _ z)) λz=>by let#[B,e]:=Sy z;let#[Y,O,M,_]:=L p.1 B;let#[o,F,d]:=J p.1 B;rw[e]at F;cases F;show#[e,Y,O,M,d]
def Inv.unpinned(I:Inv X (zH++z) Z H s):Inv X zH Z H s:=I.pins_of λp v=>I.pin p (qi _ (qj _ v))
def Pe(hp:PassesOwn (model X.prog X.w) X.A X.env X.xe)(hc:X.calm=true)(hi:PI X tg iter wi)(hg:PG X tg g)(G:iP X body tb)
  (hs:∀x,foldedSetIterable iter X.env x=pure x:=by intro _;rfl):PS X (.For tg iter body [] pos) (ae wi g tb):=by
 intro zH s Z H D I h;show wpAny_For (Am (hi zH s Z H _ I h) λv s1 h1=>Am h1 λe3 s2 h2=>?_) hs;let#[it,fp,tn,J,H2,e,I2,T,h9,f2,W,#[m0,w0],h3]:=h2;subst e
 --what stays true of the iterator's objects through the loop
 let F:∀{H':Hp},(∀b∈fp,H' b=none)->∀b∈fp,cX X zH H' b:=λhn b G=>#[hn b G,(f2 b G).2]
 show codeAny_forLoop_any (λn s'=>∃i Z' H',Inv X zH Z' H' s'/\tn i s'.heap/\(∀b∈fp,H' b=none)/\W i n Z' H') ?_ m0 #[0,Z,H2,I2,h9,λb G=>(f2 b G).1,w0];rintro n s3 ⟨i,B,H3,I3,h6,h7,w3⟩;rcases h3 i n B H3 w3 with⟨h5,qn⟩|⟨go,N,hN,step⟩
 .show wpAny_passesOwn hp (Am (T.done X rfl rfl rfl hc i zH s3 B H3 X.xe I3 (F h7) h6 h5) λr s4⟨hr,I4⟩=>?_);subst hr;show wpAny_execs_nil #[B,H3,I4,qn]
 .show wpAny_passesOwn hp (Am (T.item X rfl rfl rfl hc i zH s3 B H3 X.xe I3 (F h7) h6 go) λr s4 zq=>?_);let#[u,hr,h4]:=zq;subst hr;show wpAny_passesOwn hp (Am h4 λ_ s5 zq=>?_);let#[x,H5,I5,r5,y5,Y,e1]:=zq;let e2:=I5.pinned (F e1) (T.obj _ _ Y);show wpAny_passesOwn hp (Am (hg _ s5 B H5 x u _ e2 r5 (step x H5 y5)) λ_ s6 zq=>?_);let#[h8,H6,I6,q6]:=zq;show wpAny_passesOwn hp (Am (G _ s6 h8 H6 _ I6 q6) λf s7 O=>?_);let again:∀{z:St}{M:Hp},Inv X (zH++fI fp s5.heap) z M s7->N z M->∃m,m<n/\∃i Z' H',Inv X zH Z' H' s7/\tn i s7.heap/\(∀b∈fp,H' b=none)/\W i m Z' H':=λ{z M} L n7=>by let#[m',hm,w7]:=hN z M n7;show#[m',hm,i+1,z,M,L.unpinned,T.keep _ _ _ Y λb G o e=>(L.pin (b,o) (qi _ (qi _ (Iq G e)))).1,λb G=>?_,w7];let#[o,e,d]:=T.obj _ _ Y b G;exact(L.pin (b,o) (qi _ (qi _ (Iq G e)))).2.1
  cases f with
  |next=>let#[z,M,L,n7]:=O;show again L n7
  |cont=>let#[z,M,L,n7]:=O;show again L n7
  |brk=>let#[z,M,L,O]:=O;show#[z,M,L.unpinned,O]
  |ret v=>let#[x7,z,M,L,r7,O]:=O;show#[x7,z,M,L.unpinned,r7,O]
end
abbrev R2:=V->V->Hp->VK->Prop
@[inline]def OpR(X:Cx)(f:Value->Value->Sem Value)(r:R2):Prop:=
 ∀(zH:List (Addr×Obj))(s:Shared)(Z:St)(H:Hp)(x y:V)(v u:Value)(Q:VK),Inv X zH Z H s->zw x v->zw y u->r x y H Q->
  wpAny (model X.prog X.w) X.A (f v u) (EP X zH Z Q) X.xe s
def dq(X:Cx)(f:Value->Sem Value)(r:V->Hp->VK->Prop):Prop:=
 ∀(zH:List (Addr×Obj))(s:Shared)(Z:St)(H:Hp)(x:V)(v:Value)(Q:VK),Inv X zH Z H s->zw x v->r x H Q->
  wpAny (model X.prog X.w) X.A (f v) (EP X zH Z Q) X.xe s
def aY(X:Cx)(f:Value)(r:List V->Hp->VK->Prop):Prop:=
 ∀(zH:List (Addr×Obj))(s:Shared)(Z:St)(H:Hp)(xs:List V)(us:List Value)(Q:VK),Inv X zH Z H s->zE xs us->r xs H Q->
  wpAny (model X.prog X.w) X.A (call f us) (EP X zH Z Q) X.xe s
def dr(X:Cx)(r:V->Hp->(Bool->Hp->Prop)->Prop):Prop:=
 ∀(zH:List (Addr×Obj))(s:Shared)(Z:St)(H:Hp)(x:V)(v:Value)(Q:Bool->Hp->Prop),Inv X zH Z H s->zw x v->r x H Q->
  wpAny (model X.prog X.w) X.A (truthy v) (TP X zH Z Q) X.xe s
def yG(r:R2)(ta tb:TE):TE:=λZ H Q=>ta Z H λx H1=>tb Z H1 λy H2=>r x y H2 Q
def ie(r:V->Hp->VK->Prop)(ta:TE):TE:=λZ H Q=>ta Z H λx H1=>r x H1 Q
def rI(C:Int->Int->Prop)(g:Int->Int->V):R2:=λx y H Q=>∃i j,x=.int i/\y=.int j/\C i j/\Q (g i j) H
def nL(g:Int->Int->V):R2:=λx y H Q=>∃i j,x=.int i/\y=.int j/\Q (g i j) H
def rU(g:Int->V):V->Hp->VK->Prop:=λx H Q=>∃i,x=.int i/\Q (g i) H
section
variable{X:Cx}{a b c:Expr}{ta tb tc:TE}{pos:Pos}
def Gw(ha:PE X a ta)(hb:PE X b tb){R:V->V->Hp->Prop}(I:Inv X zH Z H s)
  (h:ta Z H λx H1=>tb Z H1 λy H2=>R x y H2){f:Value->Value->Sem Value}
  (hf:∀v u F x y H2,Inv X zH Z H2 F->zw x v->zw y u->R x y H2->wpAny (model X.prog X.w) X.A (f v u) Q X.xe F):
  wpAny (model X.prog X.w) X.A (eval a X.env) (λv B=>wpAny (model X.prog X.w) X.A (eval b X.env) (λu z=>wpAny (model X.prog X.w) X.A (f v u) Q X.xe z) X.xe B) X.xe s:=by
 show Am (ha zH s Z H _ I h) λv J G=>?_;let#[x,H1,I1,M,Y]:=G;show Am (hb zH J Z H1 _ I1 Y) λu F G=>?_;let#[y,H2,I2,L,O]:=G;show hf v u F x y H2 I2 M L O
def Oz(J:OpR X (binaryOp G) r)(M:PE X a ta)(L:PE X b tb):PE X (.BinOp a G b pos) (yG r ta tb):=by intro zH s Z H Q I h;show wpAny_BinOp (Gw M L I h λv u z x y H2 O F B q=>J zH z Z H2 x y v u Q O F B q)
def Ow(J:dq X (unaryOp G) r)(L:PE X a ta):PE X (.UnaryOp G a pos) (ie r ta):=by intro zH s Z H Q I h;show UnaryOp_ (Am (L zH s Z H _ I h) λv z⟨x,H1,M,B,F⟩=>J zH z Z H1 x v Q M B F)
def HA{g:Int->Int->Int}
  (rule:∀(i j:Int)(t u:Tok)(s:Shared)(Q:zj)(E:zj),C i j->Q (.int (g i j) s.toks) {s with toks:=s.toks+1}->wpAny (model X.prog X.w) X.A (f (.int i t) (.int j u)) Q E s):
  OpR X f (rI C λi j=>.int (g i j)):=by
 intro zH s Z H x y v u Q I F B h;let#[i,j,rfl,rfl,G,q]:=h;let#[t,rfl]:=F;let#[z,rfl]:=B;show rule i j t z s _ _ G #[.int (g i j),H,I.tok _,#[_,rfl],q]
def Hz{g:Int->Int->Int}
  (rule:∀(i j:Int)(t u:Tok)(s:Shared)(Q:zj)(E:zj),Q (.int (g i j) s.toks) {s with toks:=s.toks+1}->wpAny (model X.prog X.w) X.A (f (.int i t) (.int j u)) Q E s):
  OpR X f (nL λi j=>.int (g i j)):=by
 intro zH s Z H x y v u Q I F B h;let#[i,j,rfl,rfl,q]:=h;let#[t,rfl]:=F;let#[z,rfl]:=B;show rule i j t z s _ _ #[.int (g i j),H,I.tok _,#[_,rfl],q]
def Fe{g:Int->Int->Bool}
  (rule:∀(i j:Int)(t u:Tok)(s:Shared)(Q:zj)(E:zj),Q (.bool (g i j)) s->wpAny (model X.prog X.w) X.A (f (.int i t) (.int j u)) Q E s):
  OpR X f (nL λi j=>.bl (g i j)):=by
 intro zH s Z H x y v u Q I F B h;let#[i,j,rfl,rfl,q]:=h;let#[t,rfl]:=F;let#[z,rfl]:=B;show rule i j t z s _ _ #[.bl (g i j),H,I,rfl,q]
def yA(i j:Int):Prop:=0<=j/\j<=1000000/\i.natAbs<2^64
def mL(i j:Int):Prop:=(-(2^64)<i/\i<2^64)\/(-(2^64)<j/\j<2^64)
def mL.ok(h:mL i j):IntMulOk i j:=by
 rcases h with⟨h1,h2⟩|⟨h1,h2⟩
 .show .of_left (intBits_le_64 h1 h2)
 .show .of_right (intBits_le_64 h1 h2)
def OS:OpR X (binaryOp .Add) (nL λi j=>.int (i+j)):=Hz λ_ _ _ _ _ _ _ q=>add_int q
def Ov:OpR X (binaryOp .Mult) (rI mL λi j=>.int (i*j)):=HA λ_ _ _ _ _ _ _ v q=>mul_int q v.ok
def ON:OpR X (binaryOp .Mod) (rI (λ_ j=>0<j) λi j=>.int (i %j)):=HA λi j _ _ _ _ _ v q=>by let h1:(0:Int)<j:=v;show mod_int' ∅ (by rw[Int.fmod_eq_emod_of_nonneg i ∅];show q)
def Po:OpR X (binaryOp .Pow) (rI yA λi j=>.int (i^j.toNat)):=HA λ_ _ _ _ _ _ _ v q=>pow_int_small v.1 v.2.1 v.2.2 q
def KL:OpR X (binaryOp .BitOr) (nL λi j=>.int (Builtin.bitOr i j)):=Hz λ_ _ _ _ _ _ _ q=>or_int q
def Vx{g:Int->Int}
  (rule:∀(i:Int)(t:Tok)(s:Shared)(Q:zj)(E:zj),Q (.int (g i) s.toks) {s with toks:=s.toks+1}->wpAny (model X.prog X.w) X.A (f (.int i t)) Q E s):
  dq X f (rU λi=>.int (g i)):=by
 intro zH s Z H x v Q I z h;let#[i,rfl,q]:=h;let#[t,rfl]:=z;show rule i t s _ _ #[.int (g i),H,I.tok _,#[_,rfl],q]
def Ot:dq X (unaryOp .USub) (rU λi=>.int (-i)):=Vx λ_ _ _ _ _ q=>neg_int q
end
def vO:V->V->Bool
 |.non,.non=>true|.non,.int _=>true|.int _,.non=>true|.non,.bl _=>true|.bl _,.non=>true|.non,.str _=>true|.str _,.non=>true
 |.int _,.int _=>true|.bl _,.bl _=>true|.str _,.str _=>true|.byt _,.byt _=>true
 |.int _,.str _=>true|.str _,.int _=>true|.bl _,.str _=>true|.str _,.bl _=>true
 |_,_=>false
def ik:R2:=λx y H Q=>vO x y=true/\Q (.bl (!decide (x=y))) H
def PZ:decide (V.int i=V.int j)=(i==j):=by rw[Bool.eq_iff_iff];simp
def Pi:decide (V.bl i=V.bl j)=(i==j):=by rw[Bool.eq_iff_iff];simp
def Rk:decide (V.str i=V.str j)=(i==j):=by rw[Bool.eq_iff_iff];simp
def PC:decide (V.byt i=V.byt j)=(i.toList==j.toList):=by rw[Bool.eq_iff_iff];cases i;cases j;simp
section
variable{X:Cx}{a b c:Expr}{ta tb tc:TE}{pos:Pos}
def CQ(I:Inv X zH Z H s)(q:Q (.bl k) H)(e:k=v):EP X zH Z Q (.bool v) s:=by subst e;show#[.bl k,H,I,rfl,q]
def Oj:OpR X (compareOp .NotEq) ik:=by
 intro zH s Z H x y v u Q I G z h;let#[F,q]:=h;cases x with
 |non=>
  cases G;cases y with
  |non=>cases z;show PySem.EqNone.ne_none_none (CQ I q (by simp))
  |bl j=>cases z;show PySem.EqNone.ne_none_bool (CQ I q (by simp))
  |int j=>let#[B,rfl]:=z;show PySem.EqNone.ne_none_int (CQ I q (by simp))
  |str j=>let#[B,rfl]:=z;show PySem.EqNone.ne_none_str (CQ I q (by simp))
  |_=>show absurd (show false=true from F) qX
 |bl i=>
  cases G;cases y with
  |non=>cases z;show PySem.EqNone.ne_bool_none (CQ I q (by simp))
  |bl j=>cases z;show ne_bool (CQ I q (congrArg not Pi))
  |str j=>let#[B,rfl]:=z;show PySem.EqMixed.ne_bool_str (CQ I q (by simp))
  |_=>show absurd (show false=true from F) qX
 |int i=>
  let#[t,rfl]:=G;cases y with
  |non=>cases z;show PySem.EqNone.ne_int_none (CQ I q (by simp))
  |int j=>let#[B,rfl]:=z;show ne_int (CQ I q (congrArg not PZ))
  |str j=>let#[B,rfl]:=z;show PySem.EqMixed.ne_int_str (CQ I q (by simp))
  |_=>show absurd (show false=true from F) qX
 |str i=>
  let#[t,rfl]:=G;cases y with
  |non=>cases z;show PySem.EqNone.ne_str_none (CQ I q (by simp))
  |bl j=>cases z;show PySem.EqMixed.ne_str_bool (CQ I q (by simp))
  |int j=>let#[B,rfl]:=z;show PySem.EqMixed.ne_str_int (CQ I q (by simp))
  |str j=>let#[B,rfl]:=z;show ne_str (CQ I q (congrArg not Rk))
  |_=>show absurd (show false=true from F) qX
 |byt i=>
  let#[t,rfl]:=G;cases y with
  |byt j=>let#[B,rfl]:=z;show W.ne_bytes (CQ I q (congrArg not PC))
  |_=>show absurd (show false=true from F) qX
 |_=>cases y<;>show absurd (show false=true from F) qX
def Ox:OpR X (compareOp .Lt) (nL λi j=>.bl (decide (i<j))):=Fe λ_ _ _ _ _ _ _ q=>lt_int q
def Ol:OpR X (compareOp .LtE) (nL λi j=>.bl (decide (i<=j))):=Fe λ_ _ _ _ _ _ _ q=>le_int q
def Oh:OpR X (compareOp .Gt) (nL λi j=>.bl (decide (j<i))):=Fe λ_ _ _ _ _ _ _ q=>gt_int q
def Od:OpR X (compareOp .GtE) (nL λi j=>.bl (decide (j<=i))):=Fe λ_ _ _ _ _ _ _ q=>ge_int q
def Ac(b:Expr)(h:v≠.In:=by decide)(h2:v≠.NotIn:=by decide):behindInMarks v b=false:=Et b h h2
def Ql(J:OpR X (compareOp z) r)(O:PE X a ta)(M:PE X b tb)(L:behindInMarks z b=false):PE X (.Compare a [z] [b] pos) (yG r ta tb):=by intro zH s Z H Q I h;show wpAny_Compare1 (Gw O M I h λv u B x y H2 Y G F q=>J zH B Z H2 x y v u Q Y G F q) L
def vG(t:TE):TT:=λZ H Q=>t Z H λx H'=>∃k,x=.bl k/\Q k H'
def LI(ho:OpR X (compareOp B) r)(ha:PE X a ta)(hb:PE X b tb)(hm:behindInMarks B b=false):PT X (.Compare a [B] [b] pos) (vG (yG r ta tb)):=by
 intro zH s Z H Q I h;show wpAny_isTrue_Compare1 (Am (ha zH s Z H _ I h) λv G⟨x,H1,I1,M,q1⟩=>Am (hb zH G Z H1 _ I1 q1) λu F⟨y,H2,I2,L,Y⟩=>Am (ho zH F Z H2 x y v u _ I2 M L Y) λc s3⟨z,H3,I3,J,k,e,O⟩=>?_) hm
 subst e;cases J;show wpAny_truthy_bool #[H3,I3,O]
def uK(K:W.Frag)(x:V)(H:Hp)(k:Bool):Prop:=
 match x with
 |.non=>k=false
 |.bl b=>k=b
 |.int i=>k=(i !=0)
 |.str y=>y.length<=sizeLine/\k=((y.length:Int) !=0)
 |.byt y=>y.size<=sizeLine/\k=((y.size:Int) !=0)
 |.ref p=>(∃xs,bO K H p xs/\k=!xs.isEmpty)\/(∃xs,bN K H p xs/\k=!xs.isEmpty)\/∃zI,H p=some (.dK zI)/\k=!zI.isEmpty
 |_=>False
def UA(r:KV zI vs):(!vs.isEmpty)=!zI.isEmpty:=by cases r<;>rfl
def Na(r:zE xs v):(!v.toArray.isEmpty)=!xs.isEmpty:=by cases r<;>simp
def AZ:(sizeLine:Nat)<2^63:=by rw[zf];decide
def OI:dr X (λx H Q=>∃k,uK X.K x H k/\Q k H):=by
 intro zH s Z H x v Q I F h;let#[k,e,q]:=h;let hl:=AZ;let Y:sizeLine=16777216:=zf;cases x with
 |non=>cases F;let z:k=false:=e;subst z;show truthy_none #[H,I,q]
 |bl b=>cases F;let z:k=b:=e;subst z;show wpAny_truthy_bool #[H,I,q]
 |int i=>let#[t,rfl]:=F;let z:k=(i !=0):=e;subst z;show PySem.P.truthy_int #[H,I,q]
 |str y=>let#[t,rfl]:=F;obtain⟨O,z⟩:y.length<=sizeLine/\k=((y.length:Int) !=0):=e;subst z;show PySem.P.truthy_str ∅ #[H,I.tok _,q]
 |byt y=>let#[t,rfl]:=F;obtain⟨O,z⟩:y.size<=sizeLine/\k=((y.size:Int) !=0):=e;subst z;show W.truthy_bytes ∅ #[H,I.tok _,q]
 |ref p=>
  cases F;let z:(∃xs,bO X.K H p xs/\k=!xs.isEmpty)\/(∃xs,bN X.K H p xs/\k=!xs.isEmpty)\/∃zI,H p=some (.dK zI)/\k=!zI.isEmpty:=e;rcases z with⟨xs,G,z⟩|⟨xs,G,z⟩|⟨zI,G,z⟩
  .subst z;let#[L,r,J,M]:=I.list G;let B:=r.length;show wpAny_truthy_list J.isList (by simp only[qr];lia) #[H,I.tok _,by rw[Na r];show q]
  .subst z;let#[L,r,J,M]:=I.tuple G;let B:=r.length;show truthy_tuple J (by simp only[qr];lia) #[H,I.tok _,by rw[Na r];show q]
  .subst z;obtain⟨M,hS,vs,r,m⟩:zI.length<=sizeLine/\(p==sysModules)=false/\∃vs,KV zI vs/\s.heap.DictOf (aE X.prog X.w) p vs:=I.hok p _ G;let B:zI.length=vs.length:=Paired.length r;show wpAny_truthy_dict hS m ∅ #[H,I.tok _,by rw[UA r];show q]
 |_=>show(show False from e).elim
def Sf(ha:PE X a ta)(he:∀whole,isTrue a X.env whole=(do let v<-whole;standAt a.pos;holding [v] (truthy v))):
  PT X a (λZ H Q=>ta Z H λx H'=>∃k,uK X.K x H' k/\Q k H'):=by
 intro zH s Z H Q I h;show isTrue_plain (Am (ha zH s Z H _ I h) λv s1⟨x,H1,I1,r1,q1⟩=>OI zH s1 Z H1 x v Q I1 r1 q1) (he _)
def Ur:OpR X (binaryOp .Add) (λx y H Q=>∃i j,x=.str i/\y=.str j/\i.length+j.length<=sizeLine/\Q (.str (i++j)) H):=by intro zH s Z H x y v u Q I F B h;let#[i,j,rfl,rfl,G,q]:=h;let#[t,rfl]:=F;let#[z,rfl]:=B;show add_str (λz tk=>#[.str (i++j),H,I.tok _,#[_,rfl],q]) G
theorem vals1(r:zE [x] us):∃u,us=[u]/\zw x u:=by
 cases r with
 |cons z v=>cases v;show#[_,rfl,z]
theorem vals2(r:zE [x,y] us):∃u v,us=[u,v]/\zw x u/\zw y v:=by
 cases r with
 |cons G F=>
  cases F with
  |cons B z=>cases z;show#[_,_,rfl,G,B]
def Um(z:X.calm=true):aY X (.builtin "max") (λxs H Q=>∃i j,xs=[.int i,.int j]/\Q (.int (if j>i then j else i)) H):=by
 intro zH s Z H xs F Q I r h;let#[i,j,rfl,q]:=h;let#[u,B,rfl,#[t,rfl],#[G,rfl]]:=vals2 r;show max_two_ints (I.ok.hd z) λh' tk k=>#[_,H,I.kept k,?_,q]
 by_cases v:j>i
 .rw[q4 v,q4 v];show#[_,rfl]
 .rw[q5 v,q5 v];show#[_,rfl]
def Ss(z:X.calm=true):aY X (.builtin "min") (λxs H Q=>∃i j,xs=[.int i,.int j]/\Q (.int (if j<i then j else i)) H):=by
 intro zH s Z H xs F Q I r h;let#[i,j,rfl,q]:=h;let#[u,B,rfl,#[t,rfl],#[G,rfl]]:=vals2 r;show min_two_ints (I.ok.hd z) λh' tk k=>#[_,H,I.kept k,?_,q]
 by_cases v:j<i
 .rw[q4 v,q4 v];show#[_,rfl]
 .rw[q5 v,q5 v];show#[_,rfl]
def Ue:aY X (.type "int") (λxs H Q=>(∃i,xs=[.int i]/\Q (.int i) H)\/∃k,xs=[.bl k]/\Q (.int (if k then 1 else 0)) H):=by
 intro zH s Z H xs z Q I r h;rcases h with⟨i,rfl,q⟩|⟨k,rfl,q⟩
 .obtain⟨u,rfl,t,rfl⟩:=vals1 r;show call_int_int #[.int i,H,I,#[_,rfl],q]
 .obtain⟨u,rfl,v⟩:=vals1 r;cases v;show call_int_bool #[.int (if k then 1 else 0),H,I.tok _,#[_,rfl],q]
end
def eD.some_of(r:eD (some v) o):∃u,o=some u/\zw v u:=by
 cases o with
 |none=>show(show False from r).elim
 |some u=>show#[u,rfl,r]
def eD.none_of(r:eD none o):o=none:=by
 cases o with
 |none=>rfl
 |some u=>show(show False from r).elim
structure bM(k:Nat)(A:Around):Prop where
 hd:A.handled=none
 dp:A.depth+3*k+5<recursionLimit
 un:A.units+16*k+200<cLine
 gd:A.guards=some []
def bM.mono(r:bM k A)(h:j<=k):bM j A:=#[r.hd,by let:=r.dp;lia,by let:=r.un;lia,r.gd]
def bM.deeper(r:bM (k+1) A)(env:Env):bM k (A.deeper env):=
 #[r.hd,by let:=r.dp;show A.depth+1+3*k+5<_;lia,by let:=r.un;show A.units+3+16*k+200<_;lia,r.gd]
def bM.depth(r:bM k A):A.depth<recursionLimit:=by let:=r.dp;lia
def bM.units(r:bM k A):A.units+64<cLine:=by let:=r.un;lia
def zZ:TA:=λ_ H Q=>Q [] H
def vM(ta:TE)(v:TA):TA:=λZ H Q=>ta Z H λx H1=>v Z H1 λxs H2=>Q (x::xs) H2
section
variable{X:Cx}{e:Expr}{es:List Expr}{te:TE}{t:TA}{pos:Pos}
def OQ:PA X [] zZ:=λ_ _ _ _ H Q I h=>Calls.spliced_nil #[[],H,I,.nil,h]
def Qm(M:PE X e te)(L:PA X es t)(hs:starEach (e::es) X.env=(false,eval e X.env)::starEach es X.env:=by rfl):PA X (e::es) (vM te t):=by intro pos zH s Z H Q I h;rw[hs];show wpAny _ _ (spliced ((false,eval e X.env)::backTo pos (starEach es X.env))) _ _ s;show Calls.spliced_cons (Am (M zH s Z H _ I h) λu z v=>?_);let#[x,H1,Y,F,J]:=v;show Am (L pos zH z Z H1 _ Y J) λus s2⟨xs,H2,O,B,G⟩=>#[x::xs,H2,O,.cons F B,G]
def zU(t:TA):TE:=λZ H Q=>t Z H λxs H1=>xs.length<=sizeLine/\∀p,H1 p=none->Q (.ref p) (upd H1 p (.tup xs))
def aa(t:TA):TE:=λZ H Q=>t Z H λxs H1=>xs.length<=sizeLine/\∀p,H1 p=none->Q (.ref p) (upd H1 p (.lst xs))
def Qd(h:PA X es t):PE X (.Tuple es L pos) (zU t):=by intro zH s Z H Q I G;show wpAny_Tuple_spliced (Am (h pos zH s Z H _ I G) λF v⟨xs,H1,B,r,z,q⟩=>#[by rw[<-r.length];show z,?_]);let J:H1 v.heap.objs.size=none:=B.hok.fresh (q8 _);show#[.ref v.heap.objs.size,upd H1 v.heap.objs.size (.tup xs),B.laid (t':=v.toks) (λb u e=>qc _ e) (q8 _) ?_,rfl,q _ J];show#[#[z,jI.new rfl (qd _ rfl)],F,r,#[_,qd _ rfl,rfl,_,rfl]]
def OJ(h:PA X es t):PE X (.List es pos) (aa t):=by intro zH s Z H Q I G;show wpAny_List_spliced (Am (h pos zH s Z H _ I G) λF v⟨xs,H1,B,r,z,q⟩=>#[by rw[<-r.length];show z,?_]);let J:H1 v.heap.objs.size=none:=B.hok.fresh (q8 _);show#[.ref v.heap.objs.size,upd H1 v.heap.objs.size (.lst xs),B.laid (t':=v.toks) (λb u e=>qc _ e) (q8 _) ?_,rfl,q _ J];show#[z,F,0,r,qd _ rfl]
end
abbrev Sp:=List V->Hp->VK->XK->Prop
abbrev xZ:=List Env->Hp->Shared->XK->Value->Shared->Prop
structure pB(P:Program)(w:World)(K:W.Frag)(mg:Str->Option Value)(base:Heap)(A:Around)(outer:List Env)(s:Shared)(H:Hp):Prop where
 frames:A.frames=some outer
 mod:Mod K mg base
 bs:∀b o,base.get? b=some o->s.heap.get? b=some o/\H b=none
 bsz:base.objs.size<=s.heap.objs.size
 funs:s.heap.FunFrames base outer
 frf:∀b∈mA outer,H b=none
 hok:eE P w H s.heap
 bare:AllBare s.gens
@[inline]def CE(z:List Env)(P:Program)(w:World)(H:Hp)(s:Shared)(Q:VK)(u:Value)(s':Shared):Prop:=
 ∃v H',s'.os=s.os/\AllBare s'.gens/\Un (mA z) [] H H' s.heap s'.heap/\eE P w H' s'.heap/\zw v u/\Q v H'
@[inline]def CR(CX:xZ)(v:List Env)(P:Program)(w:World)(H:Hp)(s:Shared)(Q:VK)(E:XK)(r:Result)(s':Shared):Prop:=
 match r with
 |.ok (.ret u)=>CE v P w H s Q u s'
 |.ok _=>False
 |.error e=>CX v H s E e s'
structure eV(P:Program)(w:World)(K:W.Frag)(mg:Str->Option Value)(base:Heap)(CX:xZ)(k:Nat)(f:Addr)(fd:FuncData)(ps:List Str)(sp:Sp):Prop where
 len:∀vs H Q E,sp vs H Q E->vs.length=ps.length
 run:∀(A:Around)(outer:List Env)(s:Shared)(H:Hp)(args:Args)(us:List Value)(vs:List V)(Q:VK)(E:XK),bM k A->pB P w K mg base A outer s H->BindsTo s fd args (ps.zip us)->zE vs us->sp vs H Q E->
  codeAny (model P w) A (.call (.ref f) args) (CR CX outer P w H s Q E) s
section
variable{X:Cx}{zH:List (Addr×Obj)}{Z:St}{H:Hp}{s s':Shared}
def Inv.env0(I:Inv X zH Z H s):pB X.prog X.w X.K X.mg X.base X.A X.stack s H:=
 #[I.ok.frames,I.ok.mod,I.bs,le_trans I.ok.bsz I.sz,I.stack,I.stkFree,I.hok,I.bare]
def Inv.after(I:Inv X zH Z H s)(h:CE X.stack X.prog X.w H s Q u s'):EP X zH Z Q u s':=by let#[v,H',os,bare,un,F,r,q]:=h;let#[G,g,d,t,B]:=s';obtain rfl:B=s.os:=os;show#[v,H',I.call (h':=G) (g':=g) (d':=d) (t':=t) (ch:=[]) un F bare (λb z=>absurd z (by simp)),r,q]
end
@[inline]def Binds(K:W.Frag)(fd:FuncData)(ps:List Str)(ds:List Value):Prop:=
 ∀(s:Shared)(us:List Value),K.In s.heap->(us++ds).length=ps.length->BindsTo s fd #[us,[]] (ps.zip (us++ds))
def Binds.all{K:W.Frag}(h:∀us:List Value,us.length=ps.length->bindArgs fd #[us,[]]=pure (ps.zip us)):Binds K fd ps []:=λs us _ v=>by rw[qz]at v⊢;show .of_eq (h us v)
structure aJ(N P:List Str)(sc:Scope):Prop where
 kind:sc.kind=.function
 co:sc.isCoroutine=false
 gen:sc.isGenerator=false
 nd:N.Nodup
 pre:N.take P.length=P
 par:∀x∈P,sc.names.lookup x=some .local\/sc.names.lookup x=some .cell
 nofree:∀y∈sc.names,y.2≠.free
def Nq{kindOf:Str->Option NameKind}:∀{binds:List (Str×Value)}{m:Str->Option Value},(∀v,(x,v)∉binds)->bindL kindOf binds m x=m x
 |[],_,_=>rfl
 |(n,v)::r,m,h=>by
  unfold bindL;rw[Nq λw z=>h w (qk _ z)];split
  .let:x≠n:=by rintro rfl;exact h v qm
   simp[this]
  .rfl
def Nu{kindOf:Str->Option NameKind}:∀{binds:List (Str×Value)}{m:Str->Option Value},(∀v,(x,v)∉binds)->bindC kindOf binds m x=m x
 |[],_,_=>rfl
 |(n,v)::r,m,h=>by
  unfold bindC;rw[Nu λw z=>h w (qk _ z)];split
  .rfl
  .let:x≠n:=by rintro rfl;exact h v qm
   simp[this]
def Nm{kindOf:Str->Option NameKind}:∀{P:List Str}{vs:List Value}{i:Nat}{m:Str->Option Value},P.Nodup->P[i]?=some x->vs[i]?=some v->kindOf x=some .local->
  bindL kindOf (P.zip vs) m x=some v
 |[],_,_,_,_,h,_,_=>by simp at h
 |_::_,[],_,_,_,_,h,_=>by simp at h
 |p::P,w::vs,0,m,nd,h1,h2,hk=>by simp at h1 h2;subst h1;subst h2;show bindL kindOf ((p,w)::P.zip vs) m p=_;unfold bindL;rw[Nq λv z=>(qL.mp nd).1 (of_mem_zip z).1,q4 hk];simp
 |p::P,w::vs,i+1,m,nd,h1,h2,hk=>by show bindL kindOf ((p,w)::P.zip vs) m x=_;unfold bindL;show Nm (i:=i) (qL.mp nd).2 ↑h1 ↑h2 hk
def MQ{kindOf:Str->Option NameKind}:∀{P:List Str}{vs:List Value}{i:Nat}{m:Str->Option Value},P.Nodup->P[i]?=some x->vs[i]?=some v->kindOf x≠some .local->
  bindC kindOf (P.zip vs) m x=some v
 |[],_,_,_,_,h,_,_=>by simp at h
 |_::_,[],_,_,_,_,h,_=>by simp at h
 |p::P,w::vs,0,m,nd,h1,h2,hk=>by simp at h1 h2;subst h1;subst h2;show bindC kindOf ((p,w)::P.zip vs) m p=_;unfold bindC;rw[Nu λv z=>(qL.mp nd).1 (of_mem_zip z).1,q5 hk];simp
 |p::P,w::vs,i+1,m,nd,h1,h2,hk=>by show bindC kindOf ((p,w)::P.zip vs) m x=_;unfold bindC;show MQ (i:=i) (qL.mp nd).2 ↑h1 ↑h2 hk
def start(N:List Str)(vs:List V):St:=vs.map some++List.replicate (N.length-vs.length) none
def eT(CX:xZ)(P:Program)(w:World)(K:W.Frag)(mg:Str->Option Value)(base:Heap)(N:List Str)(qual:Str)(scope:Scope)(f:Addr)(cd:Value)(A:Around)(outer:List Env)(s:Shared)(H:Hp)(E:XK):Cx where
 prog:=P
 w:=w
 K:=K
 mg:=mg
 base:=base
 A:=A.deeper (envOfC qual scope s.heap.objs.size f cd)
 N:=N
 s₀:=s
 H₀:=H
 env:=envOfC qual scope s.heap.objs.size f cd
 outer:=outer
 stack:=envOfC qual scope s.heap.objs.size f cd::outer
 ex:=[]
 calm:=true
 fn:=λ_=>true
 pn:=[]
 xe:=λe s'=>wpAny (model P w) (A.deeper (envOfC qual scope s.heap.objs.size f cd)) (leaving (envOfC qual scope s.heap.objs.size f cd) e) (λ_ s''=>CX outer H s E e s'') (λe' s''=>CX outer H s E e' s'') s'
def My{v:Scope}(h:v.names.lookup x=some .cell):∃c,(cellsFrom n v.names []).lookup x=some c:=by let q:=W.cellsFrom_some v.names n [] (.inl h);show isSome_iff_exists.mp q
def Sr{K:W.Frag}
  (S:aJ N ps scope)(hd:A.handled=none)(B:pB P w K mg base A outer s H)(hl:vs.length=ps.length)(r:zE vs us)
  (x:InCallC s s.heap.objs.size (bindL (envOfC qual scope s.heap.objs.size f M).kindOf (ps.zip us) λ_=>none) (cellsFrom (s.heap.objs.size+1) scope.names []) (bindC (envOfC qual scope s.heap.objs.size f M).kindOf (ps.zip us) λ_=>none) s1):
  Inv (eT CX P w K mg base N qual scope f M A outer s H E) [] (start N vs) H s1:=by
 let h4:ps.length<=N.length:=by let:=congrArg List.length S.pre;rw[qH]at this;lia
 obtain⟨h1,tk,rfl,Y⟩:=x.done;let F:∀b:Addr,b∉(eT CX P w K mg base N qual scope f M A outer s H E).ex:=λb z=>absurd (show b∈([]:List Addr) from z) (by simp);refine⟨#[B.mod,S.kind,rfl,rfl,q8 _,λy z c h1 h2=>?_,λy G=>?_,λy c _ h=>?_,λ_=>hd,Around.frames_deeper B.frames,.inr #[rfl,rfl],λb z=>absurd z (F b),B.bs,B.bsz,λb _ _=>F b,λb z=>absurd z (F b),B.funs,B.frf],
  rfl,B.bare,Un.kept Y,#[_,x.toInCall.ns,λi y v h1 h2 h3=>?_],λy c h=>#[_,x.cell y c h],B.hok.fresh (q8 _),λy c h=>?_,λp L=>absurd (show p∈([]:List (Addr×Obj)) from L) (by simp),B.hok.kept Y,?_⟩
 .show name_of_addr x.apart (PySem.mem_of_lookup h1) (PySem.mem_of_lookup h2)
 .let G:scope.names.lookup y=some .cell\/scope.names.lookup y=some .free:=G;rcases G with G|G
  .show My G
  .show absurd rfl (S.nofree _ (PySem.mem_of_lookup G))
 .show le_of_lt (x.above y c (PySem.mem_of_lookup h))
 .have hi:i<vs.length:=by
   unfold start at h2;by_cases hi:i<vs.length
   .show hi
   .rw[getElem?_append_right ↑hi]at h2;rw[List.getElem?_replicate]at h2;split at h2<;>cases h2
  have ha:vs[i]?=some v:=by
   unfold start at h2;rw[getElem?_append_left ↑hi,qF]at h2;cases e:vs[i]? with
   |none=>rw[e]at h2;cases h2
   |some a=>rw[e]at h2;cases h2;rfl
  let#[u,O,rv]:=r.get ha;let L:ps[i]?=some y:=by rw[<-S.pre,List.getElem?_take_of_lt ∅];show h1
  let J:ps.Nodup:=by rw[<-S.pre];show S.nd.sublist (List.take_sublist _ _)
  show#[u,rv,?_];rcases S.par y (qM L)with k|k
  .show .inl #[k,Nm J L O k]
  .obtain⟨c,e⟩:=My (n:=s.heap.objs.size+1) k;show .inr #[.inl k,c,e,?_];let q:=x.cell y c e;rw[MQ J L O (by show scope.names.lookup y≠_;rw[k];decide)]at q;show q
 .show B.hok.fresh (le_of_lt (x.above y c (PySem.mem_of_lookup h)))
 .unfold start;show _=N.length;rw[qq,qo,List.length_replicate];lia
def Oi{K:W.Frag}{dV kV h1 pm B ct oc:Value}(lk:K.lookup f=some #[oc,od,.func (W.fnOf name qual params body scope dV kV h1 pm an B ct),h4])(h3:W.codeIn K B qual=true)(S:aJ N ps scope)
  (len:∀vs H Q E,sp vs H Q E->vs.length=ps.length)
  (G:∀(A:Around)(z:List Env)(s:Shared)(H:Hp)(vs:List V)(Q:VK)(E:XK),bM k (A.deeper (envOfC qual scope s.heap.objs.size f B))->sp vs H Q E->
   ∃t,iP (eT CX P w K mg base N qual scope f B A z s H E) body t/\t {nx:=λ_ H'=>Q .non H',rt:=Q} (start N vs) H):
  eV P w K mg base CX (k+1) f (W.fnOf name qual params body scope dV kV h1 pm an B ct) ps sp:=by
 refine#[len,λA z s H args us vs Q E hr Y hb r M=>?_];let hl:=len _ _ _ _ M;let KX:K.In s.heap:=Y.mod.kin.keeps λb o e=>(Y.bs b o e).1;let h2:s.heap.NoLimit:=Y.mod.nolimit.keeps λb o e=>(Y.bs b o e).1;let F:∀y∈ps.zip us,scope.names.lookup y.1=some .local\/(scope.names.lookup y.1=some .cell/\((cellsFrom (s.heap.objs.size+1) scope.names []).lookup y.1).isSome=true):=λ⟨n,v⟩ hy=>by
  rcases S.par n (of_mem_zip hy).1 with q|q
  .show .inl q
  .show .inr #[q,W.cellsFrom_some _ _ _ (.inl q)]
 refine codeAny_call_function hr.depth (KX _ _ lk) rfl S.co S.gen rfl (W.codeRec_of KX h3) (hb _ _ _ _ ?_);show wpAny_newFunctionEnv_cells S.kind F λh5 he s1 x=>?_;subst he;show#[h2.keeps x.toInCall.keep,codeAny_func ?_];let#[t,ht,hq]:=G A z s H vs Q E (hr.deeper _) M;let I:Inv (eT CX P w K mg base N qual scope f B A z s H E) [] (start N vs) H s1:=Sr S hr.hd Y hl r x;show zi (ht [] s1 (start N vs) H _ I hq) (λfl s' L=>?_) λe s' L=>L;let O:∀{Z':St}{H':Hp}{v:V}{u:Value},Inv (eT CX P w K mg base N qual scope f B A z s H E) [] Z' H' s'->zw v u->Q v H'->CE z P w H s Q u s':=
  λ{Z' H' v u} J rv q=>#[v,H',J.os,J.bare,J.base,J.hok,rv,q]
 cases fl with
 |ret u=>let#[v,Z',H',J,rv,q]:=L;show O J rv q
 |next=>let#[Z',H',J,q]:=L;show O (v:=V.non) (u:=Value.none) J rfl q
 |brk=>let#[_,_,_,q]:=L;show False.elim q
 |cont=>let#[_,_,_,q]:=L;show False.elim q
section
variable{X:Cx}{x:Str}{p pos:Pos}{e:Expr}{es:List Expr}{t:TA}{id T:String}{r:List V->Hp->VK->Prop}
def vN(r:List V->Hp->VK->Prop)(t:TA):TE:=λZ H Q=>t Z H λv H1=>r v H1 Q
def JE(hc:aY X (.builtin id) r)(Y:Gl X x)(O:X.mg x=none)(M:bootBuiltins x=some (.builtin id))(ha:PA X (e::es) t)(hn:x≠"__name__":=by decide)(z:(x==("__debug__":Str))=false:=by decide)
  (he:starEach (e::es) X.env=(false,eval e X.env)::starEach es X.env:=by rfl)(v:(backTo pos (starEach es X.env)).any (·.1)=false:=by rfl):PE X (.Call (.Name x p) (e::es) [] pos) (vN r t):=by
 intro zH s Z H Q I h;show wpAny_Call_Name_kw (GX I Y O M ?_ hn z);show PyProof.Rows.callWith_builtin1 (Am (ha pos zH s Z H _ I h) λF G⟨B,H1,I1,J,L⟩=>hc zH G Z H1 B F Q I1 J L) he v
def Uk(hc:aY X (.type T) r)(Y:Gl X x)(O:X.mg x=none)(M:bootBuiltins x=some (.type T))(ha:PA X (e::es) t)(hn:x≠"__name__":=by decide)(z:(x==("__debug__":Str))=false:=by decide)
  (he:starEach (e::es) X.env=(false,eval e X.env)::starEach es X.env:=by rfl)(v:(backTo pos (starEach es X.env)).any (·.1)=false:=by rfl):PE X (.Call (.Name x p) (e::es) [] pos) (vN r t):=by
 intro zH s Z H Q I h;show wpAny_Call_Name_kw (GX I Y O M ?_ hn z);show PyProof.Rows.callWith_type1 (Am (ha pos zH s Z H _ I h) λF G⟨B,H1,I1,J,L⟩=>hc zH G Z H1 B F Q I1 J L) he v
end
section
variable{κ:Type}[DecidableEq κ]
def cS(zI:List (κ×V))(k:κ):Option V:=(zI.find? λv=>decide (v.1=k)).map (·.2)
def cL(zI:List (κ×V))(k:κ)(v:V):List (κ×V):=
 if(zI.any λz=>decide (z.1=k))=true then zI.map (λz=>if z.1=k then(z.1,v)else z)else zI++[(k,v)]
def GB{p:κ×V}{r:List (κ×V)}{k:κ}(e:p.1=k):cS (p::r) k=some p.2:=by simp[cS,List.find?_cons,e]
def Gz{p:κ×V}{r:List (κ×V)}{k:κ}(e:¬p.1=k):cS (p::r) k=cS r k:=by simp[cS,List.find?_cons,e]
def Mf(k:κ):∀zI:List (κ×V),(zI.any λv=>decide (v.1=k))=(cS zI k).isSome
 |[]=>rfl
 |p::r=>by
  rw[any_cons];by_cases e:p.1=k
  .simp[GB e,qR e,Bool.true_or,isSome_some]
  .rw[Gz e,qS e];show Mf k r
def Hr(zI:List (κ×V))(k:κ)(v:V):(cL zI k v).length<=zI.length+1:=by unfold cL;grind
def eD.isSome_eq(r:eD o u):o.isSome=u.isSome:=by
 cases o with
 |none=>cases u with
  |none=>rfl
  |some _=>show(show False from r).elim
 |some _=>cases u with
  |none=>show(show False from r).elim
  |some _=>rfl
def eD.getD(r:eD o u)(v:zw d d'):zw (o.getD d) (u.getD d'):=by
 cases o with
 |none=>cases u with
  |none=>show v
  |some _=>show(show False from r).elim
 |some _=>cases u with
  |none=>show(show False from r).elim
  |some _=>show r
def KV.val{zI:List (κ×V)}{vs:List (κ×Value)}(r:KV zI vs)(k:κ):eD (cS zI k) (valueAt vs k):=by
 induction r with
 |nil=>show True.intro
 |@cons p q ps v h t F=>
  let#[h1,h2]:=h;by_cases e:p.1=k
  .let B:q.1=k:=h1.symm.trans e;let b:valueAt (q::v) k=some q.2:=by simp[valueAt,B]
   rw[GB e,b];show h2
  .let B:¬q.1=k:=λz=>e (h1.trans z);let b:valueAt (q::v) k=valueAt v k:=by simp[valueAt,B]
   rw[Gz e,b];show F
def KV.any(r:KV zI vs)(k:κ):(zI.any λv=>decide (v.1=k))=vs.any λv=>decide (v.1=k):=by
 induction r with
 |nil=>rfl
 |cons h t z=>rw[any_cons,any_cons,z,h.1]
def KV.repl(r:KV zI vs)(k:κ)(B:zw y u):
  KV (zI.map λv=>if v.1=k then(v.1,y)else v) (vs.map λv=>if v.1=k then(v.1,u)else v):=by
 induction r with
 |nil=>show .nil
 |@cons p q ps F h t z=>show .cons ?_ z;grind
def KV.put(r:KV zI vs)(k:κ)(v:zw y u):KV (cL zI k y) (stored vs k u):=by
 unfold cL stored;rw[r.any k];by_cases e:(vs.any λz=>decide (z.1=k))=true
 .rw[q4 e,q4 e];show r.repl k v
 .rw[q5 e,q5 e];show Paired.snoc r #[rfl,v]
def KV.length(r:KV zI vs):zI.length=vs.length:=Paired.length r
end
def EK(r:zw (kV k) u):(aE P w).is k u=true:=by
 cases k with
 |inl i=>let#[t,e]:=(show∃t,u=Value.int i t from r);subst e;show Vj P w i t
 |inr x=>let#[t,e]:=(show∃t,u=Value.str x t from r);subst e;show Vb P w x t
def GV(e:kV a=kV b):a=b:=by
 cases a with
 |inl i=>cases b with
  |inl j=>have v:V.int i=V.int j:=e;injection v with v;rw[v]
  |inr y=>show nomatch (show V.int i=V.str y from e)
 |inr x=>cases b with
  |inl j=>show nomatch (show V.str x=V.int j from e)
  |inr y=>have v:V.str x=V.str y:=e;injection v with v;rw[v]
def Ha:∀{a b:List aI},a.map kV=b.map kV->a=b
 |[],[],_=>rfl
 |[],_::_,e=>by simp at e
 |_::_,[],e=>by simp at e
 |x::xs,y::ys,e=>by
  injection e with e1 e2
  rw[GV e1,Ha e2]
def Nl:∀{ks:List aI}{us:List Value},zE (ks.map kV) us->ItemsAre (aE P w) ks us
 |[],_,r=>by rw[map_nil]at r;cases r;show .nil
 |k::ks,_,r=>by
  cases r with
  |cons h t=>show .cons (EK h) (Nl t)
abbrev KT(H:Hp):List (List aI×V)->List (List aI×Addr×Value)->Prop:=Paired λp q=>p.1=q.1/\H q.2.1=some (.tup (p.1.map kV))/\zw p.2 q.2.2
def KT.val{H:Hp}{zI:List (List aI×V)}{xs:List (List aI×Addr×Value)}(r:KT H zI xs)(k:List aI):eD (cS zI k) ((atKey xs k).map (·.2)):=by
 induction r with
 |nil=>show True.intro
 |@cons p q ps v h t F=>
  let#[h1,_,h2]:=h;by_cases e:p.1=k
  .let B:q.1=k:=h1.symm.trans e;let b:atKey (q::v) k=some q.2:=by simp[atKey,B]
   rw[GB e,b];show h2
  .let B:¬q.1=k:=λz=>e (h1.trans z);let b:atKey (q::v) k=atKey v k:=by simp[atKey,B]
   rw[Gz e,b];show F
def KT.repl(r:KT H zI xs)(k:List aI)(B:zw y u):
  KT H (zI.map λv=>if v.1=k then(v.1,y)else v) (xs.map (putAt k u)):=by
 induction r with
 |nil=>show .nil
 |@cons p q ps J h t F=>
  rw[qy];show .cons ?_ F;let#[h1,h2,G]:=h;unfold putAt;by_cases e:p.1=k
  .rw[q4 e,q4 (h1.symm.trans e)];show#[h1,h2,B]
  .rw[q5 e,q5 (λz=>e (h1.trans z))];show#[h1,h2,G]
def KT.put(r:KT H zI xs)(k:List aI)(B:H b=some (.tup (k.map kV)))(v:zw y u):
  KT H (cL zI k y) (storedH xs k b u):=by
 let e:(zI.any λz=>decide (z.1=k))=(atKey xs k).isSome:=by rw[Mf,(r.val k).isSome_eq,isSome_map]
 unfold cL storedH;rw[e];by_cases q:(atKey xs k).isSome=true
 .rw[q4 q,q4 q];show r.repl k v
 .rw[q5 q,q5 q];show Paired.snoc r #[rfl,B,v]
def KT.keeps(r:KT H zI xs)(v:∀b ys,H b=some (.tup ys)->H' b=some (.tup ys)):KT H' zI xs:=
 Paired.mapP r λ_ _ z=>#[z.1,v _ _ z.2.1,z.2.2]
def KI(ok:eE P w H h)(e:Rd H a u):zG P w H h a u:=e.ok ok
def GM(ok:eE P w H h)(e:Rd H a (.dK zI)):zI.length<=sizeLine/\(a==sysModules)=false/\∃vs,KV zI vs/\h.DictOf (aE P w) a vs:=
 show zG P w H h a (.dK zI) from KI ok e
def IJ(ok:eE P w H h)(e:H a=some (.dK zI)):zI.length<=sizeLine/\(a==sysModules)=false/\∃vs,KV zI vs/\h.DictOf (aE P w) a vs:=GM ok (.inl e)
def EM(ok:eE P w H h)(e:H a=some (.tup (ks.map kV))):(tupleKind (aE P w)).is h ks a:=by
 let#[_,v,r,o,h1,h2,n,z]:=(show zG P w H h a (.tup (ks.map kV)) from ok a _ e)
 show#[o,v.toArray,n,h1,h2,z,Nl r]
def GO(ok:eE P w H h)(e:Rd H a (.dT zI)):zI.length<=sizeLine/\(a==sysModules)=false/\
  ∃xs,KT H zI xs/\h.DictOfH (tupleKind (aE P w)) a xs:=by
 let#[z,y,xs,r,o,es,ep,h1,h2,L,J,G]:=(show zG P w H h a (.dT zI) from KI ok e)
 refine#[z,y,xs,r,o,es,ep,h1,h2,L,J,λx v=>?_,G];let all:∀{l:List (List aI×V)}{m:List (List aI×Addr×Value)},KT H l m->∀x∈m,(tupleKind (aE P w)).is h x.1 x.2.1:=by
  intro l m q;induction q with
  |nil=>intro x v;show nomatch v
  |@cons p q ps M B t F=>
   intro x v;rcases qA.mp v with e|v
   .subst e;show EM ok (by rw[<-B.1];show B.2.1)
   .show F x v
 show all r x v
def KS(ok:eE P w H h)(e:H a=some (.dT zI)):zI.length<=sizeLine/\(a==sysModules)=false/\
  ∃xs,KT H zI xs/\h.DictOfH (tupleKind (aE P w)) a xs:=GO ok (.inl e)
def gF(H:Hp)(a:Addr)(y:V)(r:Option V):Prop:=
 (∃zI k,Rd H a (.dK zI)/\y=kV k/\r=cS zI k)\/∃zI k b,Rd H a (.dT zI)/\y=.ref b/\H b=some (.tup (k.map kV))/\r=cS zI k
def mK(H:Hp)(a:Addr)(y v:V)(H':Hp):Prop:=
 (∃zI k,H a=some (.dK zI)/\y=kV k/\zI.length<sizeLine/\H'=upd H a (.dK (cL zI k v)))\/
 ∃zI k b,H a=some (.dT zI)/\y=.ref b/\H b=some (.tup (k.map kV))/\zI.length<sizeLine/\H'=upd H a (.dT (cL zI k v))
def Inv.big(I:Inv X zH Z H s):sysModules<s.heap.objs.size:=by let h:mainGlobals<s.heap.objs.size:=(I.mod.glob.keeps I.bk).lt;show lt_trans ⋯ h
def PQ(M:A.units+1<cLine)(I:Inv X zH Z H s)(g:gF H a y o)(L:zw y u)(h:∀s',Inv X zH Z H s'->Q (.bool (!o.isSome)) s'):
  wpAny (model X.prog X.w) A (compareOp .NotIn u (.ref a)) Q E s:=by
 rcases g with⟨B,k,e,G,l⟩|⟨B,k,b,e,G,O,l⟩
 .subst G;let#[z,F,Y,v,J]:=GM I.hok e;show wpAny_notIn_of (EK L) F J.mapOf ?_;rw[<-(v.val k).isSome_eq,<-l];show h _ (I.tok _)
 .subst G;cases(show u=Value.ref b from L);let#[z,F,xs,v,J]:=GO I.hok e;show wpAny_notIn_heap (tupleKind_room_in1 M) (EM I.hok O) F J ?_;let q:=(v.val k).isSome_eq;rw[isSome_map]at q;rw[<-q,<-l];show h _ (I.tok _)
def FU(I:Inv X zH Z H s)(B:xO (H a))(hs:Heap.SameBut a s.heap h')(F:∃q,h'.get? a=some q)(new:zG X.prog X.w (upd H a v) h' a v):
  Inv X zH Z (upd H a v) {s with heap:=h',toks:=t'}:=
 I.write (x:=a) (e:=a) B (.inl rfl) (λb q G z=>(hs.2 b G).trans z) F new
def IV(z:zI.length<=sizeLine)(B:(a==sysModules)=false)(v:KV zI vs)(F:h'.DictOf (aE P w) a vs):
  zG P w H' h' a (.dK zI):=#[z,B,vs,v,F]
def SY(hu:A.units+1<cLine)(I:Inv X zH Z H s)(g:mK H a y v H')(ry:zw y u)(rv:zw v r)(h:∀s',Inv X zH Z H' s'->Q () s'):
  wpAny (model X.prog X.w) A (setItem (.ref a) u r) Q E s:=by
 rcases g with⟨F,k,e,ey,l,eH⟩|⟨F,k,b,e,ey,eb,l,eH⟩
 .subst ey eH;let#[z,Y,vs,B,dd]:=IJ I.hok e;let L:vs.length<=sizeLine:=by rw[<-B.length];exact z
  let O:(cL F k v).length<=sizeLine:=by let:=Hr F k v;lia
  show wpAny_setItem_pairs (hsz:=L) (EK ry) dd λh' G M=>h _ ?_;let he:∃q,h'.get? a=some q:=let⟨q,_,_,J,_⟩:=G;#[q,J]
  show FU I (by rw[e];show True.intro) M he (IV O Y (B.put k rv) G)
 .subst ey eH;cases(show u=Value.ref b from ry);let#[z,Y,xs,B,dd]:=KS I.hok e;let L:xs.length<=sizeLine:=by rw[<-Paired.length B];exact z
  let O:(cL F k v).length<=sizeLine:=by let:=Hr F k v;lia
  show wpAny_setItem_heap (hsz:=L) (tupleKind_room_in1 hu) (EM I.hok eb) dd λh' G M=>h _ ?_;let#[q,es,ep,J,h2,h3,h4,_,h5]:=G;show FU I (by rw[e];show True.intro) M ⟨q,J⟩ ⟨O,Y,_,(B.put k eb rv).keeps λc ys ec=>?_,q,es,ep,J,h2,h3,h4,h5⟩;rw[Ap (II ec e (λz=>nomatch z))];show ec
def vP(F ty B:TE):TS:=λD Z H=>B Z H λv H1=>F Z H1 λx H2=>ty Z H2 λy G=>∃a z,x=.ref a/\mK G a y v z/\D.nx Z z
def Pz(hu:X.A.units+1<cLine)(ho:PE X o F)(hi:PE X i ty)(hv:PE X value B)(hs:swapsWith value (some (.Subscript o i pos')) pos.line X.env=pure false):
  PS X (.Assign [.Subscript o i pos'] value pos) (vP F ty B):=by
 intro zH s Z H D I h;show wpAny_Assign_Subscript (Am (hv zH s Z H _ I h) λr J⟨v,H1,I1,O,q1⟩=>Am (ho zH J Z H1 _ I1 q1) λu G⟨x,H2,I2,M,q2⟩=>Am (hi zH G Z H2 _ I2 q2) λiv s3 z=>?_) hs;let#[y,H3,I3,L,a,H4,ex,g,Y]:=z;subst ex;obtain rfl:u=Value.ref a:=M;show SY hu I3 g L O λs4 I4=>#[Z,H4,I4,Y]
def Mx(h:Heap)(v:sysModules<h.objs.size):zG P w H (h.push {cls:=.type "dict",data:=.dict #[]}) h.objs.size (.dK []):=
 #[zero_le _,beq_eq_false_iff_ne.mpr (Ne.symm (ne_of_lt v)),[],.nil,Heap.DictOf.new h]
def rN:TE:=λ_ H Q=>∀p,H p=none->Q (.ref p) (upd H p (.dK []))
def Sh:PE X (.Dict [] [] pos) rN:=λzH s Z H Q I h=>wpAny_Dict_empty #[.ref s.heap.objs.size,_,I.laid (a:=s.heap.objs.size) (o:=.dK []) (t':=s.toks) (λ_ _ q=>qc _ q) (q8 _) (Mx s.heap I.big),rfl,h _ (I.hok.fresh (q8 _))]
def iV:List (TE×TE)->St->Hp->(List (V×V)->Hp->Prop)->Prop
 |[],_,H,Q=>Q [] H
 |(tk,tv)::r,Z,H,Q=>tk Z H λx H1=>tv Z H1 λy H2=>iV r Z H2 λps v=>Q ((x,y)::ps) v
abbrev VV:List (V×V)->List (Value×Value)->Prop:=Paired λp q=>zw p.1 q.1/\zw p.2 q.2
def yR(X:Cx)(pos:Pos)(z:List (Option Expr))(v:List Expr)(B:List (TE×TE)):Prop:=
 ∀(zH:List (Addr×Obj))(s:Shared)(Z:St)(H:Hp)(Q:List (V×V)->Hp->Prop),Inv X zH Z H s->iV B Z H Q->
  wpAny (model X.prog X.w) X.A (evalPairs (pairTrees z v X.env pos)) (λF s'=>∃ps H',Inv X zH Z H' s'/\VV ps F/\Q ps H') X.xe s
def QB:yR X pos [] [] []:=λzH s Z H Q I h=>pairTrees_nil_walk #[[],H,I,.nil,h]
def RJ(hk:PE X k tk)(hv:PE X v F)(hr:yR X pos ks vs z):
  yR X pos (some k::ks) (v::vs) ((tk,F)::z):=λzH s Z H Q I h=>
 pairTrees_cons_walk (Am (hk zH s Z H _ I h) λu J⟨x,H1,I1,M,q1⟩=>Am (hv zH J Z H1 _ I1 q1) λw2 G⟨y,H2,I2,L,Y⟩=>Am (hr zH G Z H2 _ I2 Y) λws s3⟨ps,H3,I3,B,O⟩=>#[(x,y)::ps,H3,I3,.cons #[M,L] B,O])
def fM(zI more:List (aI×V)):List (aI×V):=more.foldl (λv z=>cL v z.1 z.2) zI
def KV.merge:∀{more:List (aI×V)}{rs:List (aI×Value)}{zI:List (aI×V)}{vs:List (aI×Value)},KV more rs->KV zI vs->KV (fM zI more) (merged vs rs):=by
 intro more rs zI vs r;induction r generalizing zI vs with
 |nil=>intro q;show q
 |@cons p q ps B h t z=>
  intro v;let e:KV (cL zI p.1 p.2) (stored vs q.1 q.2):=by let:=v.put p.1 h.2;rw[<-h.1];show this
  show z e
def NZ:∀(more zI:List (aI×V)),(fM zI more).length<=zI.length+more.length
 |[],zI=>by show zI.length<=zI.length+0;lia
 |p::r,zI=>by let h1:=NZ r (cL zI p.1 p.2);let h2:=Hr zI p.1 p.2;show(fM (cL zI p.1 p.2) r).length<=_;rw[qt];lia
def MY:∀{zI:List (aI×V)}{v:List (Value×Value)},VV (zI.map λz=>(kV z.1,z.2)) v->∃rs,Carries (aE P w) v rs/\KV zI rs
 |[],_,r=>by rw[map_nil]at r;cases r;show#[[],True.intro,.nil]
 |p::zI,_,r=>by
  cases r with
  |@cons a b G bs h t=>let#[rs,c,q]:=MY (P:=P) (w:=w) t;let#[F,B]:=b;show#[(p.1,B)::rs,#[EK h.1,rfl,c],.cons #[rfl,h.2] q]
def vK(v:List (TE×TE)):TE:=λZ H Q=>∀p,H p=none->iV v Z (upd H p (.dK [])) λps H2=>H2 p=some (.dK [])/\∃zI:List (aI×V),ps=zI.map (λz=>(kV z.1,z.2))/\zI.length<=15/\Q (.ref p) (upd H2 p (.dK (fM [] zI)))
def Re(h:yR X pos keys values G)(B:keys.all (·.isSome)=true)(hl:keys.length=values.length)(h0:keys≠[])
  (L:keys.length<=15):PE X (.Dict keys values pos) (vK G):=by
 intro zH s Z H Q I q;let hn:=I.hok.fresh (q8 s.heap.objs.size);let I1:=I.laid (a:=s.heap.objs.size) (o:=.dK []) (h':=s.heap.push {cls:=.type "dict",data:=.dict #[]}) (t':=s.toks) (λ_ _ q=>qc _ q) (q8 _) (Mx s.heap I.big);show wpAny_Dict_walk (knd:=aE X.prog X.w) B hl h0 L (Am (h zH _ Z _ _ I1 (q _ hn)) λws s2 O=>?_);let#[ps,H2,M,J,e,v,ep,lk,q2]:=O;subst ep;let#[rs,c,rk]:=MY (P:=X.prog) (w:=X.w) J;let#[z,hd,Y,r0,dd]:=IJ M.hok e;cases r0;show#[rs,c,dd,λh' F hs=>#[.ref s.heap.objs.size,_,?_,rfl,q2]];let hz:(fM [] v).length<=sizeLine:=by let h1:=NZ v [];rw[qv]at h1;rw[zf];lia
 let he:∃q,h'.get? s.heap.objs.size=some q:=let⟨q,_,_,hq,_⟩:=F;#[q,hq]
 show FU M (by rw[e];show True.intro) hs he (IV hz hd (rk.merge .nil) F)
structure M2(X:Cx)(o:Expr)(m:Str)(apos:Pos)(e f:Expr)(cpos:Pos):Prop where
 base:attributeBase o m X.env (eval o X.env)=eval o X.env
 few:((backTo cpos (starEach [e,f] X.env)).all (λx=>!x.1)&&(backToKw cpos (keywordEach [] X.env)).all (λx=>x.1.isSome)
  &&decide (([e,f]:List Expr).length+([]:List Keyword).length+(if([]:List Keyword).isEmpty then 0 else 1)<30))=true
 line:(apos.endLine==cpos.line)=true
 trees:backTo cpos (starEach [e,f] X.env)=[(false,eval e X.env),(false,eval f X.env)]
def xW(H:Hp)(a:Addr):Prop:=(∃zI,Rd H a (.dK zI))\/∃zI,Rd H a (.dT zI)
def Ll(I:Inv X zH Z H s)(d:xW H a):
  s.TypeIs (.ref a) "dict"/\(∀b,Value.ref a=.ref b->∃v,s.heap.get? b=some v/\v.dict=none)/\(a==sysModules)=false:=by
 rcases d with⟨B,e⟩|⟨B,e⟩
 .obtain⟨_,F,G,_,z⟩:=GM I.hok e;show#[z.typeIs,λb q=>?_,F];cases q;let#[v,_,_,h1,h2,_]:=z;show#[v,h1,h2.2.1]
 .obtain⟨_,F,xs,_,z⟩:=GO I.hok e;show#[z.typeIs,λb q=>?_,F];cases q;let#[v,_,_,h1,h2,_]:=z;show#[v,h1,h2.2.1]
def Pn(Y:A.units+1<cLine)(I:Inv X zH Z H s)(g:gF H a y o)(M:zw y u)(O:zw d r)(h:∀L s',Inv X zH Z H s'->zw (o.getD d) L->Q L s'):
  wpAny (model X.prog X.w) A (call (.builtin "dict.get") [.ref a,u,r]) Q E s:=by
 rcases g with⟨F,k,e,J,l⟩|⟨F,k,b,e,J,eb,l⟩
 .subst J;let#[z,G,vs,v,B]:=GM I.hok e;show call_meetsIn PySem.F.slot_dict_get B.typeIs PySem.F.entry_dict_get (PySem.F.args_dict_get_3 _ _ _) (meets_dict_get_default (aE X.prog X.w) a (EK M) G r) #[_,B.mapOf,h _ _ (I.tok _) ?_];rw[l];show(v.val k).getD O
 .subst J;cases(show u=Value.ref b from M);let#[z,G,xs,v,B]:=GO I.hok e;show call_meetsIn PySem.F.slot_dict_get B.typeIs PySem.F.entry_dict_get (PySem.F.args_dict_get_3 _ _ _) (meetsH_dict_get_default (tupleKind (aE X.prog X.w)) a b G r) #[tupleKind_room_in1 Y,k,xs,EM I.hok eb,B,h _ _ (I.tok _) ?_];rw[l];show(v.val k).getD O
def rO(B ty tx:TE):TE:=λZ H Q=>B Z H λx H1=>∃a,x=.ref a/\xW H1 a/\ty Z H1 λy H2=>tx Z H2 λz v=>∃o,gF v a y o/\Q (o.getD z) v
def Tg(hu:X.A.units+1<cLine)(ho:PE X o G)(he:PE X e ty)(hf:PE X f tx)(m:M2 X o "get" apos e f cpos):PE X (.Call (.Attribute o "get" apos) [e,f] [] cpos) (rO G ty tx):=by
 intro zH s Z H Q I h;show wpAny_Call_method m.base m.few m.line PySem.F.plainAttrs_dict PySem.F.slot_dict_get PySem.F.type_dict_get (Am (ho zH s Z H _ I h) λu O F=>?_);let#[x,H1,B,rx,a,ex,d,q1]:=F;subst ex;obtain rfl:u=Value.ref a:=rx;let#[L,J,_]:=Ll B d;show#[L,J,?_];rw[m.trees];show Calls.callWith_builtin rfl (Calls.evalArgs_plain (Calls.spliced_cons (Am (he zH O Z H1 _ B q1) λiv M⟨y,H2,I2,ry,q2⟩=>Calls.spliced_cons (Am (hf zH M Z H2 _ I2 q2) λfv s3⟨z,H3,I3,Y,ov,g,q3⟩=>Calls.spliced_nil ?_))))
 show Pn hu I3 g ry Y λw' s4 I4 v=>#[_,H3,I4,v,q3]
end L2
namespace HT
open PySem PyProof.Rows
theorem cat_tup(ht:IsTup s.heap t vs.toArray)(hb:IsTup s.heap b v.toArray)(hv:vs≠[])
  (h1:v=[]->Q (.ref t) s)(h2:v≠[]->Q (.ref s.heap.objs.size) {s with heap:=s.heap.push {cls:=.type "tuple",data:=.seq (vs++v).toArray}})
  (hsz:vs.length+v.length<=sizeLine):wpAny (model prog w) A (binaryOp .Add (.ref t) (.ref b)) Q E s:=by
 let#[#[cls,dd,data,O],J,hc,n,hd]:=id ht;let#[#[h3,F,data2,B],z,M,Y,L]:=id hb;subst hc hd M L;let e:vs.toArray++v.toArray=(vs++v).toArray:=by simp
 by_cases G:v=[]
 .exact concat_meets #[_,J,rfl] #[_,z,rfl] noFill_tuple_add seq_tuple_add PySem.F.slot_tuple_add PySem.F.entry_tuple_add (PySem.F.args_tuple_add_2 _ _)
   (tuple_addW1 t b vs.toArray v.toArray n Y dd F O B ↑hv (by simp[G])) #[J,z,h1 G]
 .refine concat_meets #[_,J,rfl] #[_,z,rfl] noFill_tuple_add seq_tuple_add PySem.F.slot_tuple_add PySem.F.entry_tuple_add (PySem.F.args_tuple_add_2 _ _)
   (tuple_addW2 t b vs.toArray v.toArray n Y dd F O B ↑hv ↑G (by rw[qr];show hsz)) #[J,z,?_]
  rw[e];show h2 G
def sIx(n d:Nat):Option Int->Nat
 |none=>d
 |some v=>if v<0 then(v+(n:Int)).toNat else min v.toNat n
theorem sIx_le(n d:Nat)(B:d<=n)(o:Option Int):sIx n d o<=n:=by
 cases o with
 |none=>show B
 |some v=>
  show(if v<0 then(v+(n:Int)).toNat else min v.toNat n)<=n;by_cases z:v<0
  .rw[q4 z];lia
  .rw[q5 z];show min_le_right _ _
def LB(v:Int)(n d:Nat):(if v<0 then max (v+(n:Int)) 0 else min v (n:Int))=((sIx n d (some v):Nat):Int):=by show(if v<0 then max (v+(n:Int)) 0 else min v (n:Int))=(((if v<0 then(v+(n:Int)).toNat else min v.toNat n):Nat):Int);grind
def Ut(lo hi:Option Int)(n:Nat):Builtin.Slice.sliceAdjust lo hi 1 (n:Int)=(((sIx n 0 lo:Nat):Int),((sIx n n hi:Nat):Int)):=by
 let h1:¬((1:Int)<0):=∅
 unfold Builtin.Slice.sliceAdjust;show Prod.ext ?_ ?_
 .cases lo with
  |none=>rfl
  |some v=>show LB v n 0
 .cases hi with
  |none=>rfl
  |some v=>show LB v n n
def UE(i j:Nat):Builtin.Slice.slicePlaces (i:Int) (j:Int) 1=j-i:=by
 unfold Builtin.Slice.slicePlaces;let h1:(1:Int)>0:=∅
 split<;>lia
def NT(p:IsPart v o)(h:Q o s):wpAny (model prog w) A (Builtin.Slice.slicePartIndex v) Q E s:=by
 cases p with
 |none=>show slicePart_none h
 |int i t=>show slicePart_int h
theorem sliceApplied_gen{lo hi:Option Int}{n:Nat}(hs:s.heap.IsSliceOf G F B .none)(L:IsPart F lo)(J:IsPart B hi)
  (h:Q (((sIx n 0 lo:Nat):Int),1,sIx n n hi-sIx n 0 lo) s):wpAny (model prog w) A (Builtin.Slice.sliceApplied (.ref G) (pure (n:Int))) Q E s:=by
 let#[os,v,M,z]:=id hs;show qa (qa (zc v z (x:=F) rfl (qa (zc v z (x:=B) rfl (qa (zc v z (x:=.none) rfl (qb ?_)))))));show qa (slicePart_none ?_);show qa (NT L (qa (NT J (qa (qb ?_)))));show wpAny _ _ (match Builtin.Slice.sliceAdjust lo hi 1 (n:Int)with|(lo,hi)=>pure (lo,(1:Int),Builtin.Slice.slicePlaces lo hi 1)) _ _ s;rw[Ut lo hi n];show wpAny _ _ (pure (((sIx n 0 lo:Nat):Int),(1:Int),Builtin.Slice.slicePlaces ((sIx n 0 lo:Nat):Int) ((sIx n n hi:Nat):Int) 1)) _ _ s;rw[UE];show qb h
def RW(xs:Array Value)(i k:Nat):((List.range k).filterMap λ(m:Nat)=>xs[((i:Int)+(m:Int)*1).toNat]?).toArray=((xs.toList.drop i).take k).toArray:=by
 have e:(λ(m:Nat)=>xs[((i:Int)+(m:Int)*1).toNat]?)=λm=>xs[i+m]?:=by
  funext m
  let:((i:Int)+(m:Int)*1).toNat=i+m:=∅
  rw[this]
 rw[e];let:=pick_run xs i k;rw[List.filterMap_map]at this;let v:((λx=>xs[x]?)∘λx=>i+x)=λm=>xs[i+m]?:=rfl;rw[v]at this;rw[this]
theorem getItem_tuple_cut{lo hi:Option Int}(z:IsTup s.heap t items)(hs:s.heap.IsSliceOf L O M .none)(pl:IsPart O lo)(Y:IsPart M hi)
  (hw:¬(sIx items.size 0 lo=0/\sIx items.size items.size hi=items.size))
  (h:Q (.ref s.heap.objs.size) {s with heap:=s.heap.push {cls:=.type "tuple",data:=.seq ((items.toList.drop (sIx items.size 0 lo)).take (sIx items.size items.size hi-sIx items.size 0 lo)).toArray}})
  (hsz:items.size<=sizeLine):wpAny (model prog w) A (getItem (.ref t) (.ref L)) Q E s:=by
 let v:sizeOk (.seq ((items.toList.drop (sIx items.size 0 lo)).take (sIx items.size items.size hi-sIx items.size 0 lo)).toArray):=by show((items.toList.drop (sIx items.size 0 lo)).take (sIx items.size items.size hi-sIx items.size 0 lo)).toArray.size<=sizeLine;rw[qr,qH,qG];show le_trans (min_le_right ..) (le_trans (sub_le ..) hsz)
 let#[os,B,G,h1]:=id hs;let J:s.TypeIs (.ref L) "slice":=#[os,B,G]
 unfold getItem;try with_reducible show zg ?_
 first|show qa (qb ?_)|skip
 refine qa (wpAny_sequenceKey z.typeIs ⋯ ?_);refine qa (wpAny_callSpecial?_slot (name:=Str.ofString "__getitem__") z.typeIs PyProof.Rows.slot_tuple_getitem
  (ze PyProof.Rows.slot_tuple_getitem z.typeIs entry_tuple_getitem ?_ (args_tuple_getitem _ _)))
 show wpAny _ _ (Builtin.Tuple.tupleItemsOf (.ref t)>>=_) _ _ s;show qa (tupleItemsOf_ z ?_);show qa (wpAny_typeOf J ?_);show qa (sliceApplied_gen hs pl Y ?_);let F:¬((((sIx items.size 0 lo:Nat):Int)==0&&(1:Int)==1&&(sIx items.size items.size hi-sIx items.size 0 lo)==items.size)=true):=by grind
 show wpAny _ _ (if(((sIx items.size 0 lo:Nat):Int)==0&&(1:Int)==1&&(sIx items.size items.size hi-sIx items.size 0 lo)==items.size)=true then _ else _) _ _ s;rw[q5 F,RW];first
  |show qa (m:=Builtin.Tuple.tupleExact _) (zd (qb ⟨_,rfl,qb h⟩) v)
  |show qa (m:=Builtin.Tuple.tupleExact _) (zd (qa (qb (qb ⟨_,rfl,qb h⟩))) v)
  |show qa (qa (m:=Builtin.Tuple.tupleExact _) (zd (qb (qb ⟨_,rfl,qb h⟩)) v))
  |show qa (qa (m:=Builtin.Tuple.tupleExact _) (zd (qb ⟨_,rfl,qb h⟩) v))
end HT
namespace L2
open PySem PySem.Spec PyProof.Rows
abbrev TO:=St->Hp->(Option Int->Hp->Prop)->Prop
@[inline]def PO(X:Cx)(e:Option Expr)(t:TO):Prop:=
 ∀(zH:List (Addr×Obj))(s:Shared)(Z:St)(H:Hp)(Q:Option Int->Hp->Prop),Inv X zH Z H s->t Z H Q->
  wpAny (model X.prog X.w) X.A (evalPart e X.env) (λu s'=>∃o H',Inv X zH Z H' s'/\IsPart u o/\Q o H') X.xe s
def nI:TO:=λ_ H Q=>Q none H
def vH(t:TE):TO:=λZ H Q=>t Z H λx H1=>∃i,x=.int i/\Q (some i) H1
def Ko:∀{us:List Value},zE (ns.map V.int) us->IntsAre us ns:=by
 induction ns with
 |nil=>intro us r;rw[map_nil]at r;cases r;show .nil
 |cons n ns B=>
  intro us r;cases r with
  |cons z v=>let#[t,e]:=z;subst e;show .cons n t (B v)
section
variable{lo hi:Option Expr}
def MB:PO X none nI:=by intro zH s Z H Q I h;show qb #[none,H,I,.none,h]
def Ih(h:PE X e te):PO X (some e) (vH te):=by intro zH s Z H Q I F;show Am (h zH s Z H _ I F) λu J v=>?_;let#[x,H1,G,z,B]:=v;let#[i,rfl,q]:=B;let#[t,rfl]:=z;show#[some i,H1,G,.int i t,q]
def kT(X:Cx)(r:V->Option Int->Option Int->Hp->VK->Prop):Prop:=
 ∀(zH:List (Addr×Obj))(s:Shared)(Z:St)(H:Hp)(x:V)(v B z:Value)(lo hi:Option Int)(F:Addr)(Q:VK),Inv X zH Z H s->zw x v->s.heap.IsSliceOf F B z .none->IsPart B lo->IsPart z hi->r x lo hi H Q->
  ∃T id,typeLookup (.type T) "__getitem__"=pure (some (.builtin id))/\s.TypeIs v T/\wpAny (model X.prog X.w) X.A (getItem v (.ref F)) (EP X zH Z Q) X.xe s
def kT.or(h:kT X r)(h':kT X O):kT X (λx lo hi H Q=>r x lo hi H Q\/O x lo hi H Q):=by
 intro zH s Z H x v B z lo hi F Q I G M L J q;rcases q with q|q
 .show h zH s Z H x v B z lo hi F Q I G M L J q
 .show h' zH s Z H x v B z lo hi F Q I G M L J q
def ig(r:V->Option Int->Option Int->Hp->VK->Prop)(te:TE)(v z:TO):TE:=λZ H Q=>te Z H λx H1=>v Z H1 λl H2=>z Z H2 λu B=>r x l u B Q
def JB(hr:kT X r)(he:PE X e te)(hl:PO X lo L)(hu:PO X hi M):PE X (.Subscript e (.Slice lo hi none p2) pos) (ig r te L M):=by intro zH s Z H Q I h;show Subscript_ (Am (he zH s Z H _ I h) λv Y B=>?_);let#[x,H1,I1,r1,q1]:=B;show wpAny_Slice (Am (hl zH Y Z H1 _ I1 q1) λG O⟨l,H2,I2,pl,q2⟩=>Am (hu zH O Z H2 _ I2 q2) λF z B=>?_);let#[u,J,I3,pu,q3]:=B;show qb ?_;let I4:Inv X zH Z J {z with heap:=z.heap.push {cls:=.type "slice",data:=.fields [G,F,.none].toArray}}:=I3.kept (t':=z.toks) λb ob q=>qc _ q;let#[T,id,hT,ht,hg]:=hr zH {z with heap:=z.heap.push {cls:=.type "slice",data:=.fields [G,F,.none].toArray}} Z J x v G F l u z.heap.objs.size Q I4 r1 (Heap.IsSliceOf.new ..) pl pu q3;show tail_any (ops:=[.ref z.heap.objs.size,v]) ht hT hg (by with_unfolding_all rfl)
def iH(xs:List V)(lo hi:Option Int):List V:=(xs.drop (HT.sIx xs.length 0 lo)).take (HT.sIx xs.length xs.length hi-HT.sIx xs.length 0 lo)
def NM(xs:List V)(lo hi:Option Int):(iH xs lo hi).length<=xs.length:=by unfold iH;rw[qH,qG];show le_trans (min_le_right ..) (sub_le ..)
def vS(K:W.Frag):V->Option Int->Option Int->Hp->VK->Prop:=λx lo hi H Q=>∃a xs,x=.ref a/\bN K H a xs/\
 ¬(HT.sIx xs.length 0 lo=0/\HT.sIx xs.length xs.length hi=xs.length)/\∀p,H p=none->Q (.ref p) (upd H p (.tup (iH xs lo hi)))
def Os:kT X (vS X.K):=by
 intro zH s Z H x v vl vu lo hi sl Q I J hs M L h;let#[a,xs,rfl,O,Y,q]:=h;cases J;let#[B,r,G,F]:=I.tuple O;let z:B.toArray.size=xs.length:=by rw[qr];show r.length.symm
 show#["tuple",_,PyProof.Rows.slot_tuple_getitem.lookup,G.typeIs,?_];show HT.getItem_tuple_cut G hs M L (by rw[z];show Y) ?_ (by rw[z];show F);rw[z];show#[.ref s.heap.objs.size,_,I.laid (t':=s.toks) (o:=.tup (iH xs lo hi)) (λb ob q=>qc _ q) (q8 _) ?_,rfl,q _ (I.hok.fresh (q8 _))];show#[#[le_trans (NM xs lo hi) F,jI.new rfl (qd _ rfl)],_,(r.drop (HT.sIx xs.length 0 lo)).take (HT.sIx xs.length xs.length hi-HT.sIx xs.length 0 lo),IsTup.new _ _]
def wF(K:W.Frag):R2:=λx y H Q=>∃a b xs ys,x=.ref a/\y=.ref b/\bN K H a xs/\bN K H b ys/\xs≠[]/\xs.length+ys.length<=sizeLine/\
 (ys=[]->Q (.ref a) H)/\(ys≠[]->∀p,H p=none->Q (.ref p) (upd H p (.tup (xs++ys))))
def zE.nil_iff(r:zE xs us):us=[]↔xs=[]:=by
 cases r with
 |nil=>simp
 |cons _ _=>simp
def PJ:OpR X (binaryOp .Add) (wF X.K):=by intro zH s Z H x y v u Q I M L h;let#[a,b,xs,ys,rfl,rfl,ha,hb,hx,J,Y,O]:=h;cases M;cases L;let#[h1,F,p1,_]:=I.tuple ha;let#[G,B,p2,_]:=I.tuple hb;show HT.cat_tup p1 p2 (λz=>hx (F.nil_iff.mp z)) (λz=>#[.ref a,H,I,rfl,Y (B.nil_iff.mp z)]) (λz=>?_) (by rw[<-F.length,<-B.length];show J);show#[.ref s.heap.objs.size,_,I.laid (t':=s.toks) (o:=.tup (xs++ys)) (λb ob q=>qc _ q) (q8 _) ?_,rfl,O (λw=>z (B.nil_iff.mpr w)) _ (I.hok.fresh (q8 _))];show#[#[by rw[qq];show J,jI.new rfl (qd _ rfl)],_,F.append B,IsTup.new _ _]
end
def ixN(n:Nat)(i:Int):Option Nat:=if 0<=i then(if i<n then some i.toNat else none)else if -(n:Int)<=i then some (i+n).toNat else none
def atI{α:Type}(xs:List α)(i:Int):Option α:=(ixN xs.length i).bind λj=>xs[j]?
def Jt(h:ixN n i=some j):seqIndex? i n=some j/\j<n/\-(n:Int)<=i/\i<n:=by
 unfold ixN at h;by_cases v:0<=i
 .rw[q4 v]at h;by_cases h1:i<n
  .rw[q4 h1]at h;let e:i.toNat=j:=qf h;show#[by rw[seqIndex_of v h1,e],∅,∅,h1]
  .rw[q5 h1]at h;cases h
 .rw[q5 v]at h;by_cases h1:-(n:Int)<=i
  .rw[q4 h1]at h;let e:(i+n).toNat=j:=qf h;show#[by rw[seqIndex_neg ∅ h1,e],∅,h1,∅]
  .rw[q5 h1]at h;cases h
def Jo(h:atI xs i=some v):∃j,seqIndex? i xs.length=some j/\xs[j]?=some v/\j<xs.length/\-(xs.length:Int)<=i/\i<xs.length:=by
 unfold atI at h;cases e:ixN xs.length i with
 |none=>rw[e]at h;cases h
 |some j=>rw[e]at h;let#[h1,h2,B,z]:=Jt e;show#[j,h1,h,h2,B,z]
def kL(b:Expr):Prop:=∀o i,subscripted b false o i=operate [o,i] (getItem o i)
def oZ(X:Cx)(r:R2):Prop:=
 ∀(B z:Expr)(zH:List (Addr×Obj))(s:Shared)(Z:St)(H:Hp)(x y:V)(v u:Value)(Q:VK),Inv X zH Z H s->zw x v->zw y u->r x y H Q->
  subscripted z false v u=operate [v,u] (getItem v u)->wpAny (model X.prog X.w) X.A (subscriptTail B z v u) (EP X zH Z Q) X.xe s
def jd(X:Cx)(id:String)(r:V->List V->Hp->VK->Prop):Prop:=
 ∀(zH:List (Addr×Obj))(s:Shared)(Z:St)(H:Hp)(x:V)(xs:List V)(v:Value)(us:List Value)(Q:VK),Inv X zH Z H s->zw x v->zE xs us->r x xs H Q->
  wpAny (model X.prog X.w) X.A (call (.builtin id) (v::us)) (EP X zH Z Q) X.xe s
section
def oZ.or(h:oZ X r)(h':oZ X L):oZ X (λx y H Q=>r x y H Q\/L x y H Q):=by
 intro z B zH s Z H x y v u Q I G F q J;rcases q with q|q
 .show h z B zH s Z H x y v u Q I G F q J
 .show h' z B zH s Z H x y v u Q I G F q J
def Oo(G:oZ X r)(L:PE X a ta)(J:PE X b tb)(hs:kL b):PE X (.Subscript a b pos) (yG r ta tb):=by intro zH s Z H Q I h;show Subscript_ (Gw L J I h λv u z x y H2 M F B q=>G a b zH z Z H2 x y v u Q M F B q (hs _ _))
def vY(K:W.Frag):R2:=λx y H Q=>∃p xs i v,x=.ref p/\y=.int i/\bO K H p xs/\atI xs i=some v/\Q v H
def vW(K:W.Frag):R2:=λx y H Q=>∃p xs i v,x=.ref p/\y=.int i/\bN K H p xs/\atI xs i=some v/\Q v H
def vX:R2:=λx y H Q=>∃z i c,x=.str z/\y=.int i/\z.length<=sizeLine/\atI z.cps.toList i=some c/\Q (.str #[[c].toArray]) H
theorem zkl:oZ X (vY X.K):=by
 intro F G zH s Z H x y v u Q I rx ry h Y;let#[p,xs,i,z,rfl,rfl,hq,he,q]:=h;cases rx;let#[t,rfl]:=ry;let#[M,r,L,hz]:=I.list hq;let#[j,h1,h2,h3,h4,h5]:=Jo he;let#[w,ew,J]:=r.get h2;let hl:=r.length;let hn:=AZ;let B:EP X zH Z Q w s:=#[z,H,I,J,q]
 by_cases h0:0<=i
 .let O:i.toNat=j:=by rw[seqIndex_of h0 h5]at h1;exact qf h1
  show item_listR L.isList h0 ∅ (by rw[O];simpa using ew) B Y
 .have O:(i+(M.toArray.size:Int)).toNat=j:=by rw[seqIndex_neg ∅ h4]at h1;rw[qr,<-hl];exact qf h1
  exact subscriptTail_builtinR (x:=w) L.isList.typeIs slot_list_getitem.lookup
   (wpAny_getItem_list_neg (Q:=λr s'=>r=w/\EP X zH Z Q r s') L.isList ∅ (by rw[qr]<;>lia) ∅ (by rw[O];simpa using ew) #[rfl,B]) Y
theorem zlX:oZ X (vW X.K):=by
 intro B F zH s Z H x y v u Q I O M h hs;let#[p,xs,i,z,rfl,rfl,hq,he,q]:=h;cases O;let#[t,rfl]:=M;let#[Y,r,L,hz]:=I.tuple hq;let#[j,h1,h2,h3,h4,h5]:=Jo he;let#[w,ew,G]:=r.get h2;let hl:=r.length;let hn:=AZ;let J:EP X zH Z Q w s:=#[z,H,I,G,q]
 exact subscriptTail_builtinR (x:=w) L.typeIs slot_tuple_getitem.lookup
  (getItem_tuple (j:=j) (Q:=λr s'=>r=w/\EP X zH Z Q r s') L ∅ ∅ (by rw[qr,<-hl];show h1) ↑ew #[rfl,J]) hs
def Pl:oZ X vX:=by
 intro B F zH s Z H x y v u Q I J G h L;let#[z,i,c,rfl,rfl,hz,O,q]:=h;let#[t,rfl]:=J;let#[t',rfl]:=G;let#[j,h1,h2,h3,h4,Y]:=Jo O;let M:z.cps.toList.length=z.length:=by simp[Str.length]
 rw[M]at h1 h4 Y;let hn:=AZ;show tail_any (typeIs_str s z t) slot_str_getitem.lookup (getItem_str (c:=c) (by let e1:decide (i< -(2^63:Int))=false:=qS ∅;let e2:decide (i≥2^63)=false:=qS ∅;rw[e1,e2,Bool.or_false]) (by rw[h1];simpa using h2) #[.str #[[c].toArray],H,I.tok _,#[_,rfl],q]) L
def yH(K:W.Frag):R2:=λx y H Q=>vY K x y H Q\/vW K x y H Q\/vX x y H Q
def Pk:oZ X (yH X.K):=zkl.or (zlX.or Pl)
def Uu(v:List Value)(n j:Nat)(u:Value):Obj.mapSeq (·.setIfInBounds j u) {cls:=.type "list",data:=.seq v.toArray n}={cls:=.type "list",data:=.seq (v.set j u).toArray n}:=by simp[Obj.mapSeq]
def Inv.lst(I:Inv X zH Z H s)(h:H p=some (.lst xs)):
  ∃(v:List Value)(n:Nat),zE xs v/\s.heap.get? p=some {cls:=.type "list",data:=.seq v.toArray n}/\xs.length<=sizeLine:=by
 let#[z,v,n,r,e]:=I.hok p _ h;show#[v,n,r,e,z]
def Inv.lstUpd{v its':List Value}(I:Inv X zH Z H s)(h:H p=some (.lst xs))
  (F:s.heap.get? p=some {cls:=.type "list",data:=.seq v.toArray n})(B:f {cls:=.type "list",data:=.seq v.toArray n}={cls:=.type "list",data:=.seq its'.toArray z})(r:zE ys its')(hz:ys.length<=sizeLine)(t:Nat):
  Inv X zH Z (upd H p (.lst ys)) {s with heap:=s.heap.update p f,toks:=t}:=by
 let e:(s.heap.update p f).get? p=some {cls:=.type "list",data:=.seq its'.toArray z}:=by rw[za f F (by rw[B]<;>rfl),B]
 show I.write (x:=p) (e:=p) (by rw[h];trivial) (.inl rfl) (λb u G q=>(q9 _ _ (Ne.symm G)).trans q) #[_,e] ?_;show#[hz,its',z,r,e]
def vV:V->V->V->Hp->(Hp->Prop)->Prop:=λo i v H Q=>∃p xs k j,o=.ref p/\i=.int k/\H p=some (.lst xs)/\ixN xs.length k=some j/\Q (upd H p (.lst (xs.set j v)))
def SV:xK X vV:=by
 intro zH s Z H o i v ov iv u Q I ro ri rv h;let#[p,xs,k,j,rfl,rfl,J,hj,q]:=h;cases ro;let#[t,rfl]:=ri;let#[z,n,r,B,hz]:=I.lst J;let#[h1,h2,M,L]:=Jt hj;let F:=r.length;let hn:=AZ;let Y:Inv X zH Z (upd H p (.lst (xs.set j v))) {s with heap:=s.heap.update p (Obj.mapSeq (·.setIfInBounds j u))}:=
  I.lstUpd J B (Uu z n j u) (r.set rv j) (by rw[length_set];show hz) s.toks
 by_cases O:0<=k
 .let G:k.toNat=j:=by rw[seqIndex_of O L]at h1;exact qf h1
  show W.ki_setAt B O ∅ (by rw[qr,<-F];show L) (by rw[G];show#[_,Y,q])
 .let G:(k+(z.toArray.size:Int)).toNat=j:=by rw[seqIndex_neg ∅ M]at h1;rw[qr,<-F];exact qf h1
  show W.ki_setBack B ∅ (by rw[qr,<-F];show M) ∅ (by rw[G];show#[_,Y,q])
def Vo(lo hi:Option Int)(n:Nat):(sliceBounds lo hi none n).1=((HT.sIx n 0 lo:Nat):Int)/\(sliceBounds lo hi none n).2.1=((HT.sIx n n hi:Nat):Int)/\(sliceBounds lo hi none n).2.2=1:=by
 let v:∀(i:Int)(n d:Nat),max 0 (min (if i<0 then i+(n:Int)else i) (n:Int))=((HT.sIx n d (some i):Nat):Int):=λi n _=>FO i n;show#[?_,?_,rfl]
 .cases lo with
  |none=>rfl
  |some i=>show v i n 0
 .cases hi with
  |none=>rfl
  |some i=>show v i n n
def Vk(v:List Value)(lo hi:Option Int):slicePick v.toArray lo hi none=((v.drop (HT.sIx v.length 0 lo)).take (HT.sIx v.length v.length hi-HT.sIx v.length 0 lo)).toArray:=by let#[h1,h2,z]:=Vo lo hi v.toArray.size;unfold slicePick;rw[h1,h2,z];simp only[sliceRange_one,pick_run]<;>rfl
def vU(K:W.Frag):V->Option Int->Option Int->Hp->VK->Prop:=λx lo hi H Q=>∃a xs,x=.ref a/\bO K H a xs/\∀p,H p=none->Q (.ref p) (upd H p (.lst (iH xs lo hi)))
def QO:kT X (vU X.K):=by intro zH s Z H x v vl vu lo hi sl Q I F Y J G h;let#[a,xs,rfl,O,q]:=h;cases F;let#[L,r,B,M]:=I.list O;let z:=r.length;show#["list",_,slot_list_getitem.lookup,B.isList.typeIs,?_];show wpAny_getItem_list_slice B.isList Y J G .none (by simp) ?_ (by rw[qr]<;>lia);rw[Vk,<-z];show#[.ref s.heap.objs.size,_,I.laid (t':=s.toks) (o:=.lst (iH xs lo hi)) (λb ob q=>qc _ q) (q8 _) ?_,rfl,q _ (I.hok.fresh (q8 _))];show#[le_trans (NM xs lo hi) M,_,0,(r.drop (HT.sIx xs.length 0 lo)).take (HT.sIx xs.length xs.length hi-HT.sIx xs.length 0 lo),qd _ rfl]
def Vr:aY X (.builtin "len") (λxs H Q=>∃p ys,xs=[.ref p]/\(bO X.K H p ys\/bN X.K H p ys)/\Q (.int ys.length) H):=by
 intro zH s Z H xs M Q I r h;let#[p,ys,rfl,z,q]:=h;let#[u,rfl,J]:=vals1 r;cases J;let O:=AZ;rcases z with z|z
 .obtain⟨G,B,F,L⟩:=I.list z;let v:=B.length;show Calls.call_len_list F.isList (by simp<;>lia) #[.int ys.length,H,I.tok _,#[s.toks+1,by rw[qr,v]],q]
 .obtain⟨G,B,F,L⟩:=I.tuple z;let v:=B.length;show len_tuple F (by simp<;>lia) #[.int ys.length,H,I.tok _,#[s.toks+1,by rw[qr,v]],q]
def Vp:aY X (.builtin "len") (λxs H Q=>∃z,xs=[.str z]/\z.length<=sizeLine/\Q (.int z.length) H):=by intro zH s Z H xs v Q I r h;let#[z,rfl,B,q]:=h;let#[u,rfl,t,rfl]:=vals1 r;let F:=AZ;show len_str ∅ #[.int z.length,H,I.tok _,#[_,rfl],q]
def Vq:aY X (.type "list") (λxs H Q=>∃p ys,xs=[.ref p]/\(bO X.K H p ys\/bN X.K H p ys)/\∀l,H l=none->Q (.ref l) (upd H l (.lst ys))):=by
 intro zH s Z H xs us Q I r h;let#[p,ys,rfl,J,q]:=h;let#[u,rfl,rx]:=vals1 r;cases rx;let M:∀(v:List Value),zE ys v->ys.length<=sizeLine->∀(h':Heap)(B:Nat),(∀b o',s.heap.get? b=some o'->h'.get? b=some o')->
   h'.get? s.heap.objs.size=some {cls:=.type "list",dict:=none,data:=.seq v.toArray B,slots:=#[]}->EP X zH Z Q (.ref s.heap.objs.size) {s with heap:=h'}:=λv z G h' B F e=>
  #[.ref s.heap.objs.size,_,I.laid (t':=s.toks) F (q8 _) (show zG X.prog X.w _ h' _ (.lst ys) from#[G,v,B,z,e]),rfl,q _ (I.hok.fresh (q8 _))]
 rcases J with J|J
 .obtain⟨v,z,O,G⟩:=I.list J;let L:=z.length;let#[o,Y,hc,n,hd]:=O.isList;show call_list_seq p (.inl rfl) Y hc hd (λh' B F e=>M v z G h' B F e) (by simp<;>lia)
 .obtain⟨v,z,O,G⟩:=I.tuple J;let L:=z.length;let#[o,Y,hc,n,hd]:=O;show call_list_seq p (.inr rfl) Y hc hd (λh' B F e=>M v z G h' B F e) (by simp<;>lia)
def Vm:aY X (.type "tuple") (λxs H Q=>∃p ys,xs=[.ref p]/\((bO X.K H p ys/\∀l,H l=none->Q (.ref l) (upd H l (.tup ys)))\/(bN X.K H p ys/\Q (.ref p) H))):=by
 intro zH s Z H xs us Q I r h;let#[p,ys,rfl,h]:=h;let#[u,rfl,M]:=vals1 r;cases M;rcases h with⟨F,q⟩|⟨F,q⟩
 .obtain⟨v,z,B,G⟩:=I.list F;let J:=z.length;show call_tuple_list B.isList (λh' O=>?_) (by simp<;>lia);let L:Inv X zH Z H {s with heap:=h'}:=I.kept (t':=s.toks) O;let Y:Inv X zH Z (upd H h'.objs.size (.tup ys)) {s with heap:=h'.push {cls:=.type "tuple",data:=.seq v.toArray}}:=
   L.laid (t':=s.toks) (λb o e=>qc _ e) (q8 _) (show zG X.prog X.w _ _ _ (.tup ys) from#[#[G,jI.new rfl (qd _ rfl)],v,z,IsTup.new _ _])
  show#[.ref h'.objs.size,_,Y,rfl,q _ (L.hok.fresh (q8 _))]
 .obtain⟨v,z,B,G⟩:=I.tuple F;show call_tuple_same B #[.ref p,H,I,rfl,q]
def ee(K:W.Frag)(T:String)(x:V)(H:Hp):Prop:=match x with
 |.str _=>T="str"
 |.int _=>T="int"
 |.ref p=>(T="list"/\∃xs,bO K H p xs)\/(T="tuple"/\∃o,K.lookup p=some o/\o.cls=.type "tuple"/\o.dict=none)\/
  (T="dict"/\((∃zI,H p=some (.dK zI))\/∃zI,H p=some (.dT zI)))
 |_=>False
def Pa(I:Inv X zH Z H s)(r:zw x v)(ty:ee X.K T x H):
  s.TypeIs v T/\∀a,v=.ref a->∃L,s.heap.get? a=some L/\L.dict=none:=by
 cases x with
 |str z=>let#[t,rfl]:=r;cases(show T="str" from ty);show#[typeIs_str s z t,λ_ e=>nomatch e]
 |int i=>let#[t,rfl]:=r;cases(show T="int" from ty);show#[typeIs_int s i t,λ_ e=>nomatch e]
 |ref p=>
  cases r;rcases ty with⟨rfl,xs,O⟩|⟨rfl,o,B,Y,G⟩|⟨rfl,B⟩
  .obtain⟨M,_,J,_⟩:=I.list O;show#[J.isList.typeIs,λa e=>?_];cases e;let#[o,n,e,c,G,_]:=J;show#[o,e,G]
  .show#[#[o,I.kIn p o B,Y],λa e=>?_];cases e;show#[o,I.kIn _ o B,G]
  .have z:∃o,s.heap.get? p=some o/\o.ExactDict:=by
    rcases B with⟨F,B⟩|⟨F,B⟩
    .obtain⟨_,_,_,_,o,_,_,e,ex,_⟩:=I.hok p _ B;show#[o,e,ex]
    .obtain⟨_,_,_,_,o,_,_,e,ex,_⟩:=I.hok p _ B;show#[o,e,ex]
   let#[o,e,ex]:=z;show#[#[o,e,ex.1],λa e2=>?_];cases e2;show#[o,e,ex.2.1]
 |_=>show False.elim ty
def ij(K:W.Frag)(T:String)(r:V->List V->Hp->VK->Prop)(v:TE)(t:TA):TE:=λZ H Q=>v Z H λx H1=>ee K T x H1/\t Z H1 λxs H2=>r x xs H2 Q
variable{T id:String}
def GP(pa:PlainAttrs T)(slot:Slot T name id)(J:typeOf (.builtin id)=pure (.type "method_descriptor"))(hm:jd X id r)(ho:PE X o to)(ha:PA X (e::es) t)
  (F:attributeBase o name X.env (eval o X.env)=eval o X.env:=by rfl)
  (G:((backTo cpos (starEach (e::es) X.env)).all (λx=>!x.1)&&(backToKw cpos (keywordEach [] X.env)).all (λx=>x.1.isSome)
   &&decide ((e::es).length+([]:List Keyword).length+(if([]:List Keyword).isEmpty then 0 else 1)<30))=true:=by rfl)
  (B:(apos.endLine==cpos.line)=true:=by rfl)(hs:starEach (e::es) X.env=(false,eval e X.env)::starEach es X.env:=by rfl)(z:(backTo cpos (starEach es X.env)).any (·.1)=false:=by rfl):
  PE X (.Call (.Attribute o name apos) (e::es) [] cpos) (ij X.K T r to t):=by
 intro zH s Z H Q I h;show wpAny_Call_method_late F G B rfl (Am (ho zH s Z H _ I h) λv s1 Y=>?_);let#[x,H1,O,L,ty,q1]:=Y;let#[h1,h2]:=Pa O L ty;show#[T,id,pa,slot,J,h1,h2,?_];let M:=ha cpos zH s1 Z H1 _ O q1;rw[hs]at M⊢;show Calls.callWith_builtin (by show(false||(backTo cpos (starEach es X.env)).any (·.1))=false;rw[z]<;>rfl) (Calls.evalArgs_plain ?_);show Am M λus s2⟨vs,H2,I2,r2,q2⟩=>hm zH s2 Z H2 x vs v us Q I2 L r2 q2
end
def xP(X:Cx)(id:String)(r:V->List V->Hp->VK->Prop):Prop:=
 ∀(zH:List (Addr×Obj))(s:Shared)(Z:St)(H:Hp)(x:V)(xs:List V)(v:Value)(us:List Value)(Q:VK),Inv X zH Z H s->zw x v->zE xs us->r x xs H Q->
  wpAny (model X.prog X.w) X.A (call (.builtin id) (v::us)) (EP X zH Z Q) X.xe s
def zE.one:∀{x:V}{us:List Value},zE [x] us->∃u,us=[u]/\zw x u:=by
 intro x us h;cases h with
 |cons r t=>cases t;show#[_,rfl,r]
def zE.eraseIdx:∀{xs:List V}{us:List Value}(i:Nat),zE xs us->zE (xs.eraseIdx i) (us.eraseIdx i)
 |_,_,_,.nil=>.nil
 |_,_,0,.cons _ t=>t
 |_,_,i+1,.cons r t=>.cons r (zE.eraseIdx i t)
def Nk{α:Type}:∀(l:List α)(i:Nat),(l.eraseIdx i).length<=l.length
 |[],_=>q8 _
 |_::_,0=>le_succ _
 |_::r,i+1=>Nat.succ_le_succ (Nk r i)
def Inv.lset{v its':List Value}(I:Inv X zH Z H s)(J:H l=some (.lst xs))
  (e:s.heap.get? l=some {cls:=.type "list",data:=.seq v.toArray n})(F:f v.toArray=its'.toArray)(z:zE ys its')(hz:ys.length<=sizeLine):
  Inv X zH Z (upd H l (.lst ys)) {s with heap:=s.heap.update l (Obj.mapSeq f),toks:=t'}:=by
 let q:=PySem.IsL.update e f;rw[F]at q;show I.write (x:=l) (e:=l) (by rw[J];show trivial) (.inl rfl) (λL u G B=>(q9 s.heap (Obj.mapSeq f) (Ne.symm G)).trans B) #[_,q] ?_;show#[hz,its',_,z,q]
def Inv.lnew(I:Inv X zH Z H s)(z:zE ys v)(hz:ys.length<=sizeLine):
  Inv X zH Z (upd H s.heap.objs.size (.lst ys)) {s with heap:=s.heap.push {cls:=.type "list",data:=.seq v.toArray},toks:=t'}:=
 I.laid (λ_ _ q=>qc _ q) (q8 _) #[hz,v,0,z,qd _ rfl]
def Inv.fresh(I:Inv X zH Z H s):H s.heap.objs.size=none:=I.hok.fresh (q8 _)
def Inv.lstM(I:Inv X zH Z H s)(B:H l=some (.lst xs)):xs.length<=sizeLine/\∃(v:List Value)(n:Nat),zE xs v/\xs.length=v.length/\s.heap.get? l=some {cls:=.type "list",data:=.seq v.toArray n}:=by let#[z,v,n,r,e]:=I.hok l _ B;show#[z,v,n,r,r.length,e]
def Es(h:n<=sizeLine):Builtin.List.listTooLong n=false:=by grind[Builtin.List.listTooLong]
def nN:V->List V->Hp->VK->Prop:=λx v H Q=>∃l xs y,x=.ref l/\v=[y]/\H l=some (.lst xs)/\xs.length<sizeLine/\Q .non (upd H l (.lst (xs++[y])))
def Ka:xP X "list.append" nN:=by intro zH s Z H x O v Y Q I J L h;let#[l,xs,y,rfl,rfl,G,hz,q]:=h;cases J;let#[u,rfl,M]:=L.one;let#[z,B,n,r,hl,e]:=I.lstM G;show call_meets F.slot_list_append #[_,e,rfl] F.entry_list_append (F.args_list_append_2 _ _) (PySem.list_append l B.toArray n u (by rw[qr];lia)) #[e,?_];show#[.non,_,I.lset (its':=B++[u]) G e (by simp) (r.append (.cons M .nil)) ?_,rfl,q];rw[qq,qB];lia
def nM:V->List V->Hp->VK->Prop:=λx z H Q=>∃l b xs v,x=.ref l/\z=[.ref b]/\H l=some (.lst xs)/\H b=some (.lst v)/\xs.length+v.length<=sizeLine/\Q .non (upd H l (.lst (xs++v)))
def Ug:xP X "list.extend" nM:=by
 intro zH s Z H x vs v us Q I M O h;let#[l,b,xs,zs,rfl,rfl,L,hB,hz,q]:=h;cases M;let#[u,rfl,Y]:=O.one;cases Y;let#[z,G,n,r,hl,e]:=I.lstM L;let#[z2,B,n2,r2,h2,e2]:=I.lstM hB;let h1:G.toArray.size+B.toArray.size<=sizeLine:=by rw[qr,qr];lia
 let J:¬(!G.toArray.isEmpty&&Builtin.List.listTooLong (G.toArray.size+B.toArray.size))=true:=by grind[Es]
 refine call_meets F.slot_list_extend #[_,e,rfl] F.entry_list_extend (F.args_list_extend_2 _ _)
  (AutoSeq1.list_extend_list_list_0 l G.toArray n b B.toArray n2 J (by rw[qr];lia) ∅) #[e,e2,?_]
 show#[.non,_,I.lset (its':=G++B) L e (by simp) (r.append r2) ?_,rfl,q];rw[qq];lia
def sC:V->List V->Hp->VK->Prop:=λx v H Q=>∃l xs i k y,x=.ref l/\v=[.int i]/\H l=some (.lst xs)/\-(2^63)<=i/\i<2^63/\seqIndex? i xs.length=some k/\xs[k]?=some y/\Q y (upd H l (.lst (xs.eraseIdx k)))
def Si:xP X "list.pop" sC:=by
 intro zH s Z H x vs v us Q I L M h;let#[l,xs,i,k,y,rfl,rfl,J,h1,h2,hk,Y,q]:=h;cases L;let#[u,rfl,O]:=M.one;let#[t,rfl]:=O;let#[z,B,n,r,hl,e]:=I.lstM J;let#[w,hw,G]:=r.get Y;refine call_meets F.slot_list_pop #[_,e,rfl] F.entry_list_pop (F.args_list_pop_2 _ _)
  (MeetsSeq.list_pop_at l B.toArray n i t k w (fitsIndex_both h1 h2) (by rw[qr,<-hl];show hk) (by rw[<-qZ];show hw) (by rw[qr];lia)) #[e,?_]
 show#[y,_,I.lset (its':=B.eraseIdx k) J e ?_ (r.eraseIdx k) ?_,G,q]
 .show B.toArray.eraseIdxIfInBounds k=(B.eraseIdx k).toArray;rw[List.eraseIdxIfInBounds_toArray]
 .let:=Nk xs k;lia
end L2
namespace Att
open PySem PySem.W PySem.Calls PyProof.Rows
def Vt:∀(ns:List Int)(vs:List Value),WellAll P h vs (ns.map WData.int)->IntsAre vs ns:=by
 intro ns;induction ns with
 |nil=>intro vs w;cases w;show .nil
 |cons n ns v=>
  intro vs w;cases w with
  |cons a b=>cases a;show .cons _ _ (v _ b)
def Su{l:OpenLaw}(hn:l.most=some n)
  (v:l.row.toRowW.claim.pre args=true)(G:WellAll P h vals args):
  ∃a vs ns,vals=[Value.ref a]/\args=[WData.list (ns.map WData.int)]/\h.get? a=some {cls:=.type "list",data:=.seq vs.toArray}/\IntsAre vs ns/\ns.length<=n:=by
 have J:WShape.hasAll [] args [.list .int]=true:=(pre_splitW v).1;let Y:l.pre.holds [] {args:=args}=true:=(pre_splitW v).2;let#[d,r,rfl,h1,h2]:=hasAllW_cons J;obtain rfl:=hasAllW_nil h2;let#[xs,rfl,h3]:=hasW_list h1;let#[ns,rfl]:=items_int h3;let z:ns.length<=n:=by
  let F:(WTm.not (.lt (.lit (.int (n:Int))) (.len (.arg 0)))).holds [] {args:=[.list (ns.map .int)]}=true:=by let F:=(holds_andW Y).1;rw[hn]at F;show F
  let h5:=condW_of F (w_not (w_lt w_lit (w_len_list (w_arg rfl))));grind
 cases G with
 |cons M L=>
  cases L;cases M with
  |list O B=>show#[_,_,ns,rfl,rfl,O,Vt ns _ B,z]
def Uc(l:OpenLaw)(args:List WData):l.row.toRowW.claim.post args (.bool true) args=true:=
 postW_of (r:=l.row.toRowW) (X:=(true==true))
  (show WShape.has [] (.bool true) .bool=true by first|rfl|decide|simp)
  (show(WTm.eq .res (.lit (.bool true))).value [] {args:=args,res:=some (.bool true),after:=args}=some (.bool (true==true)) from w_eq_bool (w_res rfl) w_lit) rfl
theorem attach_call{l:OpenLaw}
  (hn:l.most=some n)(h6:d.params.defaults=[])
  (call:∀(w:World)(z v:Shared)(mg mb:Str->Option Value)(O:Addr)(o:Obj)(pm cd F:Value)(a:Addr)(vs:List Value)(ns:List Int),
   Ground q loose [] XP w z mg mb v.heap->YP w v.heap->
   v.heap.get? O=some o->o.data=.func (docDef d.name d.params d.body d.scope pm cd F)->v.heap.CodeRec cd d.name->mg d.name=some (.ref O)->
   v.heap.get? a=some {cls:=.type "list",data:=.seq vs.toArray}->IntsAre vs ns->ns.length<=n->v.gens=#[]->
   codeAny (model l.prog w) callerA (.call (.ref O) #[[.ref a],[]]) (λr s'=>r=.ok (.ret (.bool true))/\OldK v.heap s'.heap/\s'.os=v.os/\AllBare s'.gens) v):
  WalkO q loose XP YP l.row.toRowW d [] (λf vs=>PySem.call f vs):=by
 intro w z v mg mb G Y O o pm cd F dV kV ho hd h7 hD h5 hg args h8 as J h9 e1 h1 e2;obtain rfl:dV=.none:=Dflts.none hD h6;obtain rfl:kV=.none:=Dflts.noKw hD;let#[a,vs,ns,rfl,rfl,L,B,M]:=Su hn J h1;show enter_call (codeAny_mono (call w z v mg mb O o pm cd F a vs ns G Y ho (fd_plain hd) h7 h5 L B M hg) λr s' hq=>?_);let#[rfl,h2,h3,h4]:=hq;show#[.inl #[.bool true,.bool true,[],rfl,λ_=>rfl,.bool true,Uc l _,λ_=>#[List.Pairwise.nil,λ_ hm=>(nomatch hm)]],h2,h3,h4]
end Att
namespace L2
open PySem PySem.Spec PyProof.Rows
def GH:∀{vs:List Value}{ns:List Int},IntsAre vs ns->zE (ns.map V.int) vs
 |_,_,.nil=>.nil
 |_,_,.cons n t h=>.cons #[t,rfl] (GH h)
def uM(H:Hp):Prop:=∀b,H b=none\/∃o xs,H b=some (.frz o (.lst xs))
def RN{K:W.Frag}
  (KX:K.In B.heap)(h5:B.heap.Ns mainGlobals mg)(O:B.heap.Ns builtinsNs mb)(e3:∀x:Str,x≠"__name__"->mb x=bootBuiltins x)(h6:B.heap.NoLimit)(hg:B.gens=#[])
  (ha:B.heap.get? a=some {cls:=.type "list",data:=.seq vs.toArray})(hi:IntsAre vs ns)(hl:ns.length<=sizeLine)(hr:bM k callerA)
  (F:∀base:Heap,K.In base->base.Ns mainGlobals mg->eV P w K mg base CX k fa fd [x] sp)(M:∀(s:Shared)(u:Value),BindsTo s fd #[[u],[]] [(x,u)])
  (h9:∀H:Hp,uM H->bO K H a (ns.map V.int)->sp [.ref a] H (λv _=>v=.bl true) λ_ _ _=>False)
  (e4:∀H e s',CX [] H B (λ_ _ _=>False) e s'->False):
  codeAny (model P w) callerA (.call (.ref fa) #[[.ref a],[]]) (λr s'=>r=.ok (.ret (.bool true))/\OldK B.heap s'.heap/\s'.os=B.os/\AllBare s'.gens) B:=by
 let rv:=GH hi;let Y:=hi.length
 --from an abstract heap in which nothing but the script may be tracked
 have L:∀H:Hp,uM H->bO K H a (ns.map V.int)->eE P w H B.heap->(∀b,H b≠none->b=a)->(H a≠none->K.lookup a=none)->
   codeAny (model P w) callerA (.call (.ref fa) #[[.ref a],[]]) (λr s'=>r=.ok (.ret (.bool true))/\OldK B.heap s'.heap/\s'.os=B.os/\AllBare s'.gens) B:=by
  intro H hO hS h4 hA hK;let G:∀{b:Addr}{o:Obj},B.heap.get? b=some o->H b=none->(hW B.heap H).get? b=some o:=λe n=>RT e n;let h8:∀{b:Addr}{o:Obj}{es:Array DictEntry}{ep:Nat},B.heap.get? b=some o->o.data=.dict es ep->H b=none:=λ{b o es ep} e d=>by
   cases q:H b with
   |none=>rfl
   |some u=>grind
  let J:∀{b:Addr}{m:Str->Option Value},B.heap.Ns b m->(hW B.heap H).Ns b m:=λ{b m}⟨o,es,ep,e,d,r⟩=>#[o,es,ep,G e (h8 e d),d,r]
  have h7:K.In (hW B.heap H):=λb o e=>G (KX b o e) (by
   cases q:H b with
   |none=>rfl
   |some u=>have e':b=a:=hA b (by rw[q];simp);subst e';rw[hK (by rw[q];simp)]at e;cases e)
  let hM:Mod K mg (hW B.heap H):=#[h7,J h5,#[mb,J O,e3],let#[mc,h1,h2]:=h6;#[mc,J h1,h2]]
  let e0:pB P w K mg (hW B.heap H) callerA [] B H:=#[rfl,hM,λb o e=>Rp e,Nat.le_of_eq (Tv _ _),trivial,λb O=>absurd (show b∈([]:List Addr) from O) (by simp),h4,.of_eq hg]
  show codeAny_mono ((F _ h7 (J h5)).run callerA [] B H #[[.ref a],[]] [.ref a] [.ref a] _ _ hr e0 (M B (.ref a)) (.cons rfl .nil) (h9 H hO hS)) λr s' h=>?_;cases r with
  |error e=>show(e4 H e s' h).elim
  |ok fl=>
   cases fl with
   |next=>show False.elim h
   |brk=>show False.elim h
   |cont=>show False.elim h
   |ret u=>
    let#[v,H',os,bare,un,h3,r',q]:=h;let q':v=.bl true:=q;subst q';obtain rfl:u=Value.bool true:=r';show#[rfl,OldK.of_keep λb o e=>?_,os,bare];cases q:H b with
    |none=>show un.keep b o e q (by intro z;show absurd (show b∈([]:List Addr) from z) (by simp)) (by simp)
    |some u=>
     rcases hO b with z|⟨ob,xs,z⟩
     .rw[q]at z;cases z
     .let z2:=un.frzs b ob _ z;let#[e1,_]:=h4 b _ z;let#[e2,_]:=h3 b _ z2;rw[e]at e1;cases e1;show e2
 cases hk:K.lookup a with
 |some o=>
  --the script is one of the module's own objects
  let e:=KX a o hk;rw[ha]at e;cases e;show L (λ_=>none) (λ_=>.inl rfl) (.inr #[_,vs.toArray,_,hk,rfl,rfl,rfl,by rw[qr,Y];show hl,rv]) (λb u z=>by let z':(none:Option HO)=some u:=z;cases z') (λb z=>absurd rfl z) λz=>absurd rfl z
 |none=>
  show L (λb=>if b=a then some (.frz {cls:=.type "list",data:=.seq vs.toArray} (.lst (ns.map V.int)))else none) (λb=>?_) (.inl (.inr #[{cls:=.type "list",data:=.seq vs.toArray},q4 rfl])) (λb u z=>?_) (λb z=>?_) λ_=>hk
  .grind
  .by_cases O:b=a
   .let z':=(q4 O).symm.trans z;cases z';subst O;show#[ha,by rw[qo];show hl,vs,_,rv,ha]
   grind
  grind
theorem walk_of{l:W.OpenLaw}{K:Params->W.Frag}{CX:World->xZ}{sp:World->Sp}
  (hn:l.most=some n)(h1:n<=sizeLine)(h3:d.params.defaults=[])(hr:bM k callerA)
  (hY:∀(w:World)(h:Heap),YP w h->(K w.params).In h)
  (F:∀(w:World)(mg:Str->Option Value)(M:Addr)(h:Heap),(K w.params).In h->h.Ns mainGlobals mg->mg d.name=some (.ref M)->
   ∃fd:FuncData,(∀(s:Shared)(u:Value),BindsTo s fd #[[u],[]] [(x,u)])/\
    ∀base:Heap,(K w.params).In base->base.Ns mainGlobals mg->eV l.prog w (K w.params) mg base (CX w) k M fd [x] (sp w))
  (O:∀(w:World)(H:Hp)(a:Addr)(ns:List Int),ns.length<=n->uM H->bO (K w.params) H a (ns.map V.int)->sp w [.ref a] H (λv _=>v=.bl true) λ_ _ _=>False)
  (h4:∀(w:World)(H:Hp)(s:Shared)(e:Value)(s':Shared),CX w [] H s (λ_ _ _=>False) e s'->False):
  W.WalkO q loose XP YP l.row.toRowW d [] (λf vs=>PySem.call f vs):=by
 show Att.attach_call hn h3 λw h5 J mg mb M o pm cd h7 a vs ns G Y ho hd h6 h2 L B z hg=>?_;let KX:=hY w _ Y;let#[fd,hb,hF]:=F w mg M _ KX G.T.g h2;show RN KX G.T.g G.T.b G.T.builtins G.T.nolimit hg L B (le_trans z h1) hr hF hb (λH hO hS=>O w H a ns z hO hS) λH e s'=>h4 w H J e s'
def dI(s:Stmt):Arguments:=match s with
 |.FunctionDef _ a _ _ _ _ _ _ _ _=>a
 |_=>{posonlyargs:=[],args:=[],vararg:=none,kwonlyargs:=[],kw_defaults:=[],kwarg:=none,defaults:=[]}
def cB(s:Stmt):List Stmt:=match s with
 |.FunctionDef _ _ b _ _ _ _ _ _ _=>b
 |_=>[]
def aA(s:Stmt):Scope:=match s with
 |.FunctionDef _ _ _ _ _ _ sc _ _ _=>sc
 |_=>{kind:=.function,names:=[],isGenerator:=false,isCoroutine:=false}
structure uN(K:W.Frag)(x qual:Str)(st:Stmt)(f:Addr)(fd:FuncData):Prop where
 ex:∃(oc:Value)(od:Option Addr)(kV doc pm:Value)(an:Option Addr)(cdv ct:Value)(osl:Array (Option Value)),
  fd=W.fnOf x qual (dI st) (cB st) (aA st) .none kV doc pm an cdv ct/\K.lookup f=some #[oc,od,.func fd,osl]/\W.codeIn K cdv qual=true
 kp:W.keepIn K (.ref f)=true
section
variable{K:W.Frag}
def uN.binds{st:Stmt}(F:uN K x qual st f fd)
  (h:∀(kV v B:Value)(G:Option Addr)(z ct:Value)(us:List Value),us.length=ps.length->bindArgs (W.fnOf x qual (dI st) (cB st) (aA st) .none kV v B G z ct) #[us,[]]=pure (ps.zip us)):Binds K fd ps []:=by
 let#[O,M,kV,v,B,G,z,ct,J,rfl,lk,L]:=F.ex;show .all (h kV v B G z ct)
def OM{st:Stmt}{kV z B v ct:Value}(l:K.lookup f=some #[L,J,.func (W.fnOf x qual (dI st) (cB st) (aA st) .none kV z B G v ct),F])
  (c:W.codeIn K v qual=true)(k:W.keepIn K (.ref f)=true):uN K x qual st f (W.fnOf x qual (dI st) (cB st) (aA st) .none kV z B G v ct):=#[#[L,J,kV,z,B,G,v,ct,F,rfl,l,c],k]
end
def Fu(v:bM k A):A.units+1<cLine:=lt_of_le_of_lt (Nat.add_le_add_left (by decide:1<=64) _) v.units
def zr(H H':Hp):Prop:=∀b o,H b=some o->H' b=some o
def zr.refl(H:Hp):zr H H:=λ_ _ h=>h
def zr.trans(a:zr H H1)(b:zr H1 H2):zr H H2:=λc o h=>b c o (a c o h)
def zG.there(x:zG P w H h a o):∃u,h.get? a=some u:=by
 cases o with
 |lst xs=>let#[_,_,_,_,e]:=x;show#[_,e]
 |tup xs=>let#[_,_,_,u,e,_]:=x;show#[_,e]
 |dK v=>let#[_,_,_,_,o,_,_,e,_]:=x;show#[_,e]
 |dT v=>let#[_,_,_,_,o,_,_,e,_]:=x;show#[_,e]
 |set z=>
  rcases x with⟨_,⟨_,e⟩|⟨_,_,_,_,_,_,_,e,_⟩|⟨_,_,_,_,_,_,_,_,e,_⟩⟩
  .show#[_,e]
  .show#[_,e]
  .show#[_,e]
 |ins C F fs=>let#[_,_,_,e,_]:=x;show#[_,e]
 |own y=>show x
 |xd fs=>let#[_,#[_,_,_,e,_],_]:=x;show#[_,e]
 |rng lo hi=>let#[_,_,_,e]:=x;show#[_,e]
 |frz B u=>show#[_,x.1]
 |tbl ps=>show#[_,(show h.get? a=some _ from x)]
 |met f y=>show#[_,(show h.get? a=some _ from x)]
 |ext φ=>show x.2.1
def uY(X:Cx)(zH:List (Addr×Obj))(H:Hp)(h:Heap)(e:Addr)(cls:Value)(v:Option Addr):Prop:=False
def cX.few(f:cX X zH H b):cX X [] H b:=#[f.1,f.2.1,f.2.2.1,f.2.2.2.1,f.2.2.2.2.1,λp v=>f.2.2.2.2.2 p (qj _ ↑v)]
def uY.few(F:uY X zH H h e cls v):uY X [] H h e cls v:=(show False from F).elim
def Inv.few(I:Inv X zH Z H s):Inv X [] Z H s:=I.pins_of λp v=>I.pin p (qj _ ↑v)
def iN(P:Program)(w:World):xZ:=λ_ _ _ _ _ _=>False
section
variable{K:W.Frag}
def Rt(I:Inv (eT (iN P w) P w K mg base N qual scope f v A outer s H E) [] Z H' s')(F:uY (eT (iN P w) P w K mg base N qual scope f v A outer s H E) [] H' s'.heap e cls z)(q:E cls z H'):
  (eT (iN P w) P w K mg base N qual scope f v A outer s H E).xe (.ref e) s':=(show False from F).elim
end
@[inline]def XW(X:Cx)(Z:St):XK:=λcls v H'=>∀(a:Addr)(s':Shared),Inv X [] Z H' s'->uY X [] H' s'.heap a cls v->X.xe (.ref a) s'
def rP(X:Cx)(sp:Sp)(t:TA):TE:=λZ H Q=>t Z H λv H1=>sp v H1 Q (XW X Z)
def Rz(F:eV X.prog X.w X.K X.mg X.base (iN X.prog X.w) k f fd ps sp)(Y:bM k X.A)(hg:Gl X x)(hm:X.mg x=some (.ref f))(hk:W.keepIn X.K (.ref f)=true)(hb:Binds X.K fd ps [])
  (ha:PA X (e::es) t)(J:(x==("__debug__":Str))=false:=by decide)(he:starEach (e::es) X.env=(false,eval e X.env)::starEach es X.env:=by rfl)(G:(backTo pos (starEach es X.env)).any (·.1)=false:=by rfl):
  PE X (.Call (.Name x p) (e::es) [] pos) (rP X sp t):=by
 intro zH s Z H Q I h;show wpAny_Call_Name_kw (Rm I hg hm ?_ J);show W.callWith_K (h₀:=X.base) I.ok.mod.kin hk (Am (ha pos zH s Z H _ I h) λz L M=>?_) he G;let#[O,H1,B,r,q]:=M;show#[B.kIn,?_];let hl:(z++[]).length=ps.length:=by rw[qz,<-r.length];show F.len _ _ _ _ q
 show wpAny_call (codeAny_mono (F.run X.A X.stack L H1 #[z,[]] z O Q (XW X Z) Y B.env0 (by let:=hb L z B.kIn hl;rwa[qz]at this) r q) λr s' v=>?_);cases r with
 |error e=>show(show False from v).elim
 |ok fl=>
  cases fl with
  |ret u=>show B.after v
  |next=>show False.elim v
  |brk=>show False.elim v
  |cont=>show False.elim v
section
variable{K:W.Frag}
def uN.okX{st:Stmt}(F:uN K x qual st f fd)(S:aJ N ps (aA st))(len:∀vs H Q E,sp vs H Q E->vs.length=ps.length)
  (B:∀(z:Value)(A:Around)(v:List Env)(s:Shared)(H:Hp)(vs:List V)(Q:VK)(E:XK),bM k (A.deeper (envOfC qual (aA st) s.heap.objs.size f z))->sp vs H Q E->
   ∃t,iP (eT (iN P w) P w K mg base N qual (aA st) f z A v s H E) (cB st) t/\t {nx:=λ_ H'=>Q .non H',rt:=Q} (start N vs) H):eV P w K mg base (iN P w) (k+1) f fd ps sp:=by
 let#[oc,od,kV,O,Y,an,z,ct,L,rfl,lk,J]:=F.ex;show Oi lk J S len λA v s H vs Q E M G=>B z A v s H vs Q E M G
end
end L2
namespace FL
open PySem
inductive D where
 |non
 |bl(b:Bool)
 |int(i:Int)
 |str(l:List Nat)
 |tup(l:List D)
 |lst(l:List D)
 |dct(t:Bool)(ks vs:List D)
 |set(l:List D)
 |exc(c:List Nat)(fs:List (List Nat))(vs:List D)
 deriving Inhabited
inductive S where
 |sh(d:D)
 |lst(l:List S)
 |dct(t:Bool)(ks:List D)(vs:List S)
 |set(l:List D)
 deriving Inhabited
mutual
@[inline]def S.toD:S->D
 |.sh d=>d
 |.lst l=>.lst (S.toDs l)
 |.dct t ks vs=>.dct t ks (S.toDs vs)
 |.set l=>.set l
@[inline]def S.toDs:List S->List D
 |[]=>[]
 |s::r=>S.toD s::S.toDs r
end
@[simp] theorem S.toDs_map:∀l:List S,S.toDs l=l.map S.toD
  |[]=>rfl
  |s::r=>by rw[S.toDs,S.toDs_map r,qy]
@[simp] theorem S.toD_sh(d:D):(S.sh d).toD=d:=rfl
@[simp] theorem S.toD_lst(l:List S):(S.lst l).toD=.lst (l.map S.toD):=by rw[<-S.toDs_map];rfl
@[simp] theorem S.toD_dct(t:Bool)(ks:List D)(l:List S):(S.dct t ks l).toD=.dct t ks (l.map S.toD):=by rw[<-S.toDs_map];rfl
@[simp] theorem S.toD_set(l:List D):(S.set l).toD=.set l:=rfl
@[inline]def S.isSh:S->Bool
 |.sh _=>true
 |_=>false
@[inline]def S.flat:S->Bool
 |.sh _=>true
 |.lst l=>l.all S.isSh
 |.dct _ _ vs=>vs.all S.isSh
 |.set _=>false
inductive R where
 |v(s:S)
 |loc(i:Nat)
abbrev Env:=List (Option S)
abbrev WQ:=R->Env->Prop
abbrev WX:=D->Env->Prop
@[inline]def NX:WX:=λ_ _=>False
abbrev WE:=Env->WQ->WX->Prop
abbrev WT:=Env->(Bool->Env->Prop)->WX->Prop
abbrev WA:=Env->(List R->Env->Prop)->WX->Prop
structure Ends where
 nx:Env->Prop
 rt:WQ
 bk:Env->Prop
 ct:Env->Prop
 ex:WX
abbrev WS:=Ends->Env->Prop
def slot(U:Env)(i:Nat):Option S:=match U,i with
 |[],_=>none
 |s::_,0=>s
 |_::r,i+1=>slot r i
@[simp] theorem VC(s:Option S)(r:Env):slot (s::r) 0=s:=rfl
@[simp] theorem VD(s:Option S)(r:Env)(i:Nat):slot (s::r) (i+1)=slot r i:=rfl
def view(r:R)(U:Env):Option D:=match r with
 |.v s=>some s.toD
 |.loc i=>(slot U i).map S.toD
def zD(r:R)(U:Env):Option D:=match r with
 |.v s=>some s.toD
 |.loc i=>match slot U i with
  |some s=>if s.flat then some s.toD else none
  |none=>none
def give(r:R)(U:Env):Option (S×Env):=match r with
 |.v s=>some (s,U)
 |.loc i=>match slot U i with
  |some s=>some (.sh s.toD,U.set i (some (.sh s.toD)))
  |none=>none
def aQ:List R->Env->Option (List S×Env)
 |[],U=>some ([],U)
 |r::rs,U=>match give r U with
  |some (s,U1)=>match aQ rs U1 with
   |some (ss,U2)=>some (s::ss,U2)
   |none=>none
  |none=>none
def ixN(n:Nat)(i:Int):Option Nat:=if 0<=i then(if i<n then some i.toNat else none)else if -(n:Int)<=i then some (i+n).toNat else none
def atI{α:Type}(xs:List α)(i:Int):Option α:=(ixN xs.length i).bind λj=>xs[j]?
def sIx(n d:Nat):Option Int->Nat
 |none=>d
 |some i=>if i<0 then(i+n).toNat else min i.toNat n
def aM{α:Type}(xs:List α)(lo hi:Option Int):List α:=(xs.drop (sIx xs.length 0 lo)).take (sIx xs.length xs.length hi-sIx xs.length 0 lo)
def big:Nat:=1000000
def zp{α:Type}(o:Option α)(k:α->Prop):Prop:=match o with
 |some a=>k a
 |none=>False
@[simp] theorem JM{α:Type}(a:α)(k:α->Prop):zp (some a) k=k a:=rfl
@[simp] theorem VE{α:Type}(k:α->Prop):zp (none:Option α) k=False:=rfl
@[simp] theorem VB{α:Type}{c:Prop}[Decidable c](a:α)(k:α->Prop):zp (if c then some a else none) k=(c/\k a):=by by_cases h:c<;>simp[h]
def zk(i:Nat):WE:=λU Q _=>match slot U i with
 |some (.sh d)=>Q (.v (.sh d)) U
 |some _=>Q (.loc i) U
 |none=>False
def wC(d:D):WE:=λU Q _=>Q (.v (.sh d)) U
def zy(B:D->D->Option S)(a b:WE):WE:=λU Q E=>a U (λx z=>b z (λy v=>zp (zD x v) λp=>zp (zD y v) λq=>zp (B p q) λs=>Q (.v s) v) E) E
def zO(z:D->Option S)(a:WE):WE:=λU Q E=>a U (λx v=>zp (zD x v) λp=>zp (z p) λs=>Q (.v s) v) E
def aU:D->D->Option S
 |.int i,.int j=>some (.sh (.int (i+j)))
 |.str x,.str y=>if x.length+y.length<=big then some (.sh (.str (x++y)))else none
 |.lst x,.lst y=>if x.length+y.length<=big then some (.lst ((x++y).map .sh))else none
 |.tup x,.tup y=>if x.length+y.length<=big then some (.sh (.tup (x++y)))else none
 |_,_=>none
def fZ:D->D->Option S
 |.int i,.int j=>some (.sh (.int (i-j)))
 |_,_=>none
def kA(i j:Int):Bool:=(decide (-(2^64)<i)&&decide (i<2^64))||(decide (-(2^64)<j)&&decide (j<2^64))
def lO:D->D->Option S
 |.int i,.int j=>if kA i j then some (.sh (.int (i*j)))else none
 |_,_=>none
def fJ:D->D->Option S
 |.int i,.int j=>if 0<j/\j<18446744073709551616 then some (.sh (.int (i/j)))else none
 |_,_=>none
def dW:D->D->Option S
 |.int i,.int j=>if 0<j then some (.sh (.int (i %j)))else none
 |_,_=>none
def lN:D->D->Option S
 |.int i,.int j=>if 0<=j/\j<=1000/\i.natAbs<2^64 then some (.sh (.int (i^j.toNat)))else none
 |_,_=>none
def nO:D->Option S
 |.int i=>some (.sh (.int (-i)))
 |_=>none
mutual
def aP:D->D->Bool
 |.tup l,.tup m=>bD l m
 |.lst l,.lst m=>bD l m
 |.int _,.int _=>false
 |.int _,.str _=>false
 |.int _,.non=>false
 |.str _,.int _=>false
 |.str _,.str _=>false
 |.str _,.non=>false
 |.str _,.bl _=>false
 |.bl _,.bl _=>false
 |.bl _,.str _=>false
 |.bl _,.non=>false
 |.non,.int _=>false
 |.non,.str _=>false
 |.non,.bl _=>false
 |.non,.non=>false
 |_,_=>true
def bD:List D->List D->Bool
 |a::l,b::m=>aP a b||bD l m
 |_,_=>false
end
mutual
def dH:D->Nat
 |.tup l=>bC l+1
 |.lst l=>bC l+1
 |_=>0
def bC:List D->Nat
 |[]=>0
 |a::l=>max (dH a) (bC l)
end
open Classical in
def dD(a b:D):Option Bool:=if aP a b||decide (30<dH a)then none else some (decide (a=b))
def eJ(a b:D):Option Bool:=(dD a b).map (!·)
def yK:D->D->Option Bool
 |.int i,.int j=>some (decide (i<j))
 |.str x,.str y=>some (decide (x<y))
 |_,_=>none
def uI(a b:D):Option Bool:=yK a b
def oV(a b:D):Option Bool:=yK b a
def yQ:D->D->Option Bool
 |.int i,.int j=>some (decide (i<=j))
 |.str x,.str y=>some (!decide (y<x))
 |_,_=>none
def uR:D->D->Option Bool
 |.int i,.int j=>some (decide (j<=i))
 |.str x,.str y=>some (!decide (x<y))
 |_,_=>none
def bK:D->Bool
 |.int _=>true
 |.str _=>true
 |_=>false
def aO:Bool->D->Bool
 |true,.tup l=>l.all bK
 |false,d=>bK d
 |_,_=>false
open Classical in
def pS(a:D):D->Option Bool
 |.lst l=>if l.any (λx=>aP x a||decide (30<dH x))then none else some (decide (a∈l))
 |.tup l=>if l.any (λx=>aP x a||decide (30<dH x))then none else some (decide (a∈l))
 |.dct t ks _=>if aO t a then some (decide (a∈ks))else none
 |_=>none
def iD:D->Option Bool
 |.non=>some false
 |.bl b=>some b
 |.int i=>some (decide (i≠0))
 |.str l=>some (!l.isEmpty)
 |.tup l=>some (!l.isEmpty)
 |.lst l=>some (!l.isEmpty)
 |_=>none
def aS(B:D->D->Option Bool)(a b:WE):WT:=λU Q E=>a U (λx z=>b z (λy v=>zp (view x v) λp=>zp (view y v) λq=>zp (B p q) λc=>Q c v) E) E
def lF(a:WE):WT:=λU Q E=>a U (λx v=>zp (view x v) λp=>zp (iD p) λc=>Q c v) E
def dE(a b:WT):WT:=λU Q E=>a U (λc v=>if c then b v Q E else Q false v) E
def iB(t:WT):WE:=λU Q E=>t U (λc v=>Q (.v (.sh (.bl c))) v) E
def zm:WA:=λU Q _=>Q [] U
def zl(a:WE)(b:WA):WA:=λU Q E=>a U (λr z=>b z (λB v=>Q (r::B) v) E) E
def cK(a:WA):WE:=λU Q E=>a U (λz v=>zp (if z.length<=big then aQ z v else none) λp=>Q (.v (.sh (.tup (p.1.map S.toD)))) p.2) E
def cR(a:WA):WE:=λU Q E=>a U (λz v=>zp (if z.length<=big then aQ z v else none) λp=>Q (.v (.lst p.1)) p.2) E
def lH(t:Bool):WE:=λU Q _=>Q (.v (.dct t [] [])) U
open Classical in
def lk{α:Type}:List D->List α->D->Option α
 |k'::ks,v::vs,k=>if k'=k then some v else lk ks vs k
 |_,_,_=>none
def jE:S->D->Option S
 |.sh (.tup l),.int i=>(atI l i).map .sh
 |.sh (.lst l),.int i=>(atI l i).map .sh
 |.sh (.str l),.int i=>(atI l i).map λc=>.sh (.str [c])
 |.lst l,.int i=>atI l i
 |_,_=>none
def eG(a b:WE):WE:=λU Q E=>a U (λx z=>b z (λy v=>zp (view y v) λq=>match x with
 |.v s=>zp (jE s q) λt=>Q (.v t) v
 |.loc i=>match slot v i with
  |some s=>match jE s q with
   |some (.sh d)=>Q (.v (.sh d)) v
   |_=>False
  |none=>False) E) E
def eL(a:Option WE):Env->(Option Int->Env->Prop)->WX->Prop:=match a with
 |none=>λU Q _=>Q none U
 |some a=>λU Q E=>a U (λx v=>match view x v with
  |some (.int i)=>Q (some i) v
  |_=>False) E
def iW(d:D)(lo hi:Option Int):Option S:=match d with
 |.str l=>some (.sh (.str (aM l lo hi)))
 |.tup l=>some (.sh (.tup (aM l lo hi)))
 |.lst l=>some (.lst ((aM l lo hi).map .sh))
 |_=>none
def eX(a:WE)(lo hi:Option WE):WE:=λU Q E=>a U (λx B=>eL lo B (λl z=>eL hi z (λh v=>zp (zD x v) λd=>zp (iW d l h) λs=>Q (.v s) v) E) E) E
abbrev WF:=List S->(S->List S->Prop)->(D->List S->Prop)->Prop
def cD:List Bool->List R->Env->Option (List S×Env)
 |_,[],U=>some ([],U)
 |ms,.v s::rs,U=>match cD ms.tail rs U with
  |some (ss,U1)=>some (s::ss,U1)
  |none=>none
 |ms,.loc i::rs,U=>match slot U i with
  |some s=>if ms.headD false then(match cD ms.tail rs (U.set i none)with
   |some (ss,U1)=>some (s::ss,U1)
   |none=>none)
   else(match cD ms.tail rs (U.set i (some (.sh s.toD)))with
    |some (ss,U1)=>some (.sh s.toD::ss,U1)
    |none=>none)
  |none=>none
def back:List Bool->List R->List S->Env->Env
 |ms,.v _::rs,_::ss,U=>back ms.tail rs ss U
 |ms,.loc i::rs,s::ss,U=>if ms.headD false then back ms.tail rs ss (U.set i (some s))else back ms.tail rs ss U
 |_,_,_,U=>U
def zA(f:WF)(ms:List Bool)(a:WA):WE:=λU Q E=>a U (λB v=>zp (cD ms B v) λp=>f p.1 (λs z=>Q (.v s) (back ms B z p.2)) (λx z=>E x (back ms B z p.2))) E
def wB(f:List D->Option S)(a:WA):WE:=λU Q E=>a U (λz v=>zp (z.mapM λr=>zD r v) λB=>zp (f B) λs=>Q (.v s) v) E
def bP(j:Nat)(e:WE):WE:=λU Q E=>match slot U j with
 |some (.lst _)=>e U (λr v=>zp (give r v) λp=>match slot p.2 j with
  |some (.lst l)=>l.length<big/\Q (.v (.sh .non)) (p.2.set j (some (.lst (l++[p.1]))))
  |_=>False) E
 |_=>False
def aV:List D->Option S
 |[.str l]=>some (.sh (.int l.length))
 |[.tup l]=>some (.sh (.int l.length))
 |[.lst l]=>some (.sh (.int l.length))
 |_=>none
def iJ:List D->Option S
 |[.int i]=>some (.sh (.int i))
 |[.bl b]=>some (.sh (.int (if b then 1 else 0)))
 |_=>none
def cH:List D->Option S
 |[.tup l]=>some (.sh (.tup l))
 |[.lst l]=>some (.sh (.tup l))
 |_=>none
def xB:List D->Option S
 |[.tup l]=>some (.lst (l.map .sh))
 |[.lst l]=>some (.lst (l.map .sh))
 |_=>none
def oX:List D->Option S
 |[.int i,.int j]=>some (.sh (.int (if j>i then j else i)))
 |_=>none
def oW:List D->Option S
 |[.int i,.int j]=>some (.sh (.int (if j<i then j else i)))
 |_=>none
def aX:WS:=λD U=>D.nx U
def zz(a b:WS):WS:=λD U=>a {D with nx:=b D} U
def eI(c:WT)(a b:WS):WS:=λD U=>c U (λk v=>if k then a D v else b D v) D.ex
def bZ(a:WE):WS:=λD U=>a U D.rt D.ex
def wExpr(a:WE):WS:=λD U=>a U (λ_ v=>D.nx v) D.ex
abbrev WG:=S->Env->(Env->Prop)->Prop
def zo(i:Nat):WG:=λs U Q=>Q (U.set i (some s))
def dR:List WG->List D->Env->(Env->Prop)->Prop
 |[],[],U,Q=>Q U
 |g::gs,d::ds,U,Q=>g (.sh d) U λv=>dR gs ds v Q
 |_,_,_,_=>False
def cE(v:List WG):WG:=λs U Q=>match s.toD with
 |.tup ds=>ds.length=v.length/\dR v ds U Q
 |_=>False
def eK(j:Nat)(i e:WE):WS:=λD U=>e U (λr B=>zk j B (λx z=>i z (λy v=>zp (view y v) λq=>zp (give r v) λp=>match x,q,slot p.2 j with
 |.loc k,.int n,some (.lst l)=>k=j/\zp (ixN l.length n) λm=>D.nx (p.2.set j (some (.lst (l.set m p.1))))
 |_,_,_=>False) D.ex) D.ex) D.ex
def zC(g:WG)(a:WE):WS:=λD U=>a U (λr v=>zp (give r v) λp=>g p.1 p.2 D.nx) D.ex
abbrev WI:=Env->(List D->Env->Prop)->WX->Prop
def items:D->Option (List D)
 |.lst l=>some l
 |.tup l=>some l
 |.str l=>some (l.map λc=>.str [c])
 |_=>none
def cM(a:WE):WI:=λU Q E=>a U (λr v=>zp (give r v) λp=>zp (items p.1.toD) λl=>Q l p.2) E
def fromTo(lo:Int)(n:Nat):List D:=(List.range n).map λ(k:Nat)=>.int (lo+(k:Int))
def bJ(a:WE):WI:=λU Q E=>a U (λr v=>match view r v with
 |some (.int j)=>(-big<=j/\j<=big)/\Q (fromTo 0 j.toNat) v
 |_=>False) E
def gX(a b:WE):WI:=λU Q E=>a U (λr z=>b z (λt v=>match view r v,view t v with
 |some (.int i),some (.int j)=>(-big<=i/\i<=big/\-big<=j/\j<=big)/\Q (fromTo i (j-i).toNat) v
 |_,_=>False) E) E
def bW(g:WG)(v:WS):List D->WS
 |[],D,U=>D.nx U
 |x::xs,D,U=>g (.sh x) U λz=>v {D with nx:=bW g v xs D,ct:=bW g v xs D,bk:=D.nx} z
def dU(it:WI)(g:WG)(v:WS):WS:=λD U=>it U (λl z=>bW g v l D z) D.ex
def gW(c:WT)(F:WS):WS:=λD U=>∃J:Nat->Env->Prop,(∃m,J m U)/\∀m U,J m U->c U (λk z=>if k then
 F {D with nx:=λv=>∃B,B<m/\J B v,ct:=λv=>∃B,B<m/\J B v,bk:=D.nx} z else D.nx z) D.ex
abbrev WB:=Env->(Env->Prop)->WX->Prop
def dJ:WT:=λU Q _=>Q true U
def aL(g:WG)(c:WT)(b:WB):List D->WB
 |[],U,Q,_=>Q U
 |x::xs,U,Q,E=>g (.sh x) U λB=>c B (λk v=>if k then b v (λz=>aL g c b xs z Q E) E else aL g c b xs v Q E) E
def kQ(it:WI)(g:WG)(c:WT)(b:WB):WB:=λU Q E=>it U (λl v=>aL g c b l v Q E) E
def bU(n:Nat)(a:WE):WB:=λU Q E=>a U (λr v=>zp (give r v) λp=>match slot p.2 n with
 |some (.lst l)=>l.length<big/\Q (p.2.set n (some (.lst (l++[p.1]))))
 |_=>False) E
def jV(n k:Nat)(it:WI)(g:WG)(c:WT)(b:WB):WE:=λU Q E=>it U (λl z=>aL g c b l (z++some (.lst [])::List.replicate k none) (λv=>zp (slot v n) λs=>Q (.v s) (v.take n)) NX) E
def aC:List S->Env->Option (List S)
 |[],_=>some []
 |.sh d::ss,_::U=>(aC ss U).map (.sh d::·)
 |_::ss,some s::U=>(aC ss U).map (s::·)
 |_,_=>none
def gH(n m:Nat)(ks:List Nat)(z:WS):WF:=λv P PX=>v.length=n/\(∀i s,v[i]?=some s->i∈ks\/s.isSh=true)/\
 z {nx:=λU=>zp (aC v U) λfs=>P (.sh .non) fs
    rt:=λr U=>match r with
     |.v s=>zp (aC v U) λfs=>P s fs
     |.loc i=>zp (slot U i) λs=>if i<n then zp (aC v (U.set i (some (.sh s.toD)))) λfs=>P (.sh s.toD) fs else zp (aC v U) λfs=>P s fs
    bk:=λ_=>False
    ct:=λ_=>False
    ex:=λx U=>zp (aC v U) λfs=>PX x fs} (v.map some++List.replicate (m-n) none)
end FL
namespace FL
open PySem L2
def aG:aI->D
 |.inl i=>.int i
 |.inr x=>.str x.cps.toList
def dk(a C:Addr)(v:Option Addr)(h:Heap):Prop:=∃o vs,h.get? a=some o/\o.cls=.ref C/\o.dict=v/\o.data=.fields vs
def eC:HO->Bool
 |.tup _=>false
 |_=>true
def mF(F:Hp)(v:Option Addr)(fs:List (List Nat))(vs:List D):Prop:=(v=none/\fs=[]/\vs=[])\/∃p f i,v=some p/\fs=[f]/\vs=[.int i]/\F p=some (.xd [((#[f.toArray]:Str),.int i)])
mutual
inductive aN(K:W.Frag)(F:Hp):V->D->Prop
 |non:aN K F .non .non
 |bl (b:Bool):aN K F (.bl b) (.bl b)
 |int (i:Int):aN K F (.int i) (.int i)
 |str {x:Str} {l:List Nat}:x.cps.toList=l->l.length<=16777216->aN K F (.str x) (.str l)
 |tup {a:Addr} {xs:List V} {ds:List D}:F a=some (.tup xs)->zF K F xs ds->aN K F (.ref a) (.tup ds)
 |lst {a:Addr} {xs:List V} {ds:List D}:bO K F a xs->zF K F xs ds->aN K F (.ref a) (.lst ds)
 |dK {a:Addr} {zI:List (aI×V)} {ks vs:List D}:Rd F a (.dK zI)->ks=zI.map (λp=>aG p.1)->zF K F (zI.map (·.2)) vs->aN K F (.ref a) (.dct false ks vs)
 |dT {a:Addr} {zI:List (List aI×V)} {ks vs:List D}:Rd F a (.dT zI)->ks=zI.map (λp=>D.tup (p.1.map aG))->zF K F (zI.map (·.2)) vs->aN K F (.ref a) (.dct true ks vs)
 |st {a:Addr} {xs:List V} {ds:List D}:F a=some (.set xs)->zF K F xs ds->aN K F (.ref a) (.set ds)
 |exc {a C:Addr} {dx:Option Addr} {c:List Nat} {fs:List (List Nat)} {vs:List D}:F a=some (.ext (dk a C dx))->W.nsIn K mainGlobals (⟨c.toArray⟩:Str)=some (some (.ref C))->mF F dx fs vs->aN K F (.ref a) (.exc c fs vs)
inductive zF(K:W.Frag)(F:Hp):List V->List D->Prop
 |nil:zF K F [] []
 |cons {x:V} {d:D} {xs:List V} {ds:List D}:aN K F x d->zF K F xs ds->zF K F (x::xs) (d::ds)
end
mutual
inductive aK(K:W.Frag)(F H:Hp):V->S->List Addr->Prop
 |sh {v:V} {d:D}:aN K F v d->aK K F H v (.sh d) []
 |lst {a:Addr} {xs:List V} {l:List S} {fp:List Addr}:H a=some (.lst xs)->zv K F H xs l fp->aK K F H (.ref a) (.lst l) (a::fp)
 |dK {a:Addr} {zI:List (aI×V)} {ks:List D} {l:List S} {fp:List Addr}:H a=some (.dK zI)->ks=zI.map (λp=>aG p.1)->zv K F H (zI.map (·.2)) l fp->aK K F H (.ref a) (.dct false ks l) (a::fp)
 |dT {a:Addr} {zI:List (List aI×V)} {ks:List D} {l:List S} {fp:List Addr}:H a=some (.dT zI)->ks=zI.map (λp=>D.tup (p.1.map aG))->zv K F H (zI.map (·.2)) l fp->aK K F H (.ref a) (.dct true ks l) (a::fp)
 |st {a:Addr} {xs:List V} {ds:List D}:H a=some (.set xs)->zF K F xs ds->aK K F H (.ref a) (.set ds) [a]
inductive zv(K:W.Frag)(F H:Hp):List V->List S->List Addr->Prop
 |nil:zv K F H [] [] []
 |cons {x:V} {s:S} {xs:List V} {l:List S} {fp fq:List Addr}:aK K F H x s fp->zv K F H xs l fq->zv K F H (x::xs) (s::l) (fp++fq)
end
def Rd.mono(h:zr F F')(r:Rd F a u):Rd F' a u:=by
 rcases r with r|⟨o,r⟩
 .show .inl (h _ _ r)
 .show .inr #[o,h _ _ r]
def bO.mono(h:zr F F')(r:bO K F a xs):bO K F' a xs:=r.elim (λr=>.inl (Rd.mono h r)) .inr
def bN.mono(h:zr F F')(r:bN K F a xs):bN K F' a xs:=r.elim (λr=>.inl (Rd.mono h r)) .inr
def zF.ind{P:List V->List D->Prop}(hn:P [] [])(z:∀{x:V}{d:D}{xs:List V}{ds:List D},aN K F x d->zF K F xs ds->P xs ds->P (x::xs) (d::ds))(r:zF K F xs ds):P xs ds:=
 zF.rec (motive_1:=λ_ _ _=>True) (motive_2:=λxs ds _=>P xs ds) trivial (λ_=>trivial) (λ_=>trivial) (λ_ _=>trivial) (λ_ _ _=>trivial) (λ_ _ _=>trivial) (λ_ _ _ _=>trivial) (λ_ _ _ _=>trivial) (λ_ _ _=>trivial) (λ_ _ _=>trivial) hn (λa b _ v=>z a b v) r
def zv.ind{P:List V->List S->List Addr->Prop}(hn:P [] [] [])(z:∀{x:V}{s:S}{xs:List V}{l:List S}{fp fq:List Addr},aK K F H x s fp->zv K F H xs l fq->P xs l fq->P (x::xs) (s::l) (fp++fq))(r:zv K F H xs l fp):P xs l fp:=
 zv.rec (motive_1:=λ_ _ _ _=>True) (motive_2:=λxs l fp _=>P xs l fp) (λ_=>trivial) (λ_ _ _=>trivial) (λ_ _ _ _=>trivial) (λ_ _ _ _=>trivial) (λ_ _=>trivial) hn (λa b _ v=>z a b v) r
def mF.mono(h:zr F F')(x:mF F J fs vs):mF F' J fs vs:=x.imp id λ⟨p,f,i,G,B,z,v⟩=>#[p,f,i,G,B,z,h _ _ v]
def aN.mono(h:zr F F')(r:aN K F v d):aN K F' v d:=
 aN.rec (motive_1:=λv d _=>aN K F' v d) (motive_2:=λv d _=>zF K F' v d) .non .bl .int (λe z=>.str e z) (λe _ B=>.tup (h _ _ e) B) (λe _ B=>.lst (bO.mono h e) B) (λe k _ B=>.dK (Rd.mono h e) k B) (λe k _ B=>.dT (Rd.mono h e) k B) (λe _ B=>.st (h _ _ e) B) (λe k x=>.exc (h _ _ e) k (x.mono h)) .nil (λ_ _ a b=>.cons a b) r
def zF.mono(h:zr F F')(r:zF K F v d):zF K F' v d:=zF.ind .nil (λa _ z=>.cons (aN.mono h a) z) r
def aK.mono(h:zr F F')(r:aK K F H v s fp):(∀a∈fp,H' a=H a)->aK K F' H' v s fp:=
 aK.rec (motive_1:=λv s fp _=>(∀a∈fp,H' a=H a)->aK K F' H' v s fp) (motive_2:=λv s fp _=>(∀a∈fp,H' a=H a)->zv K F' H' v s fp)
  (λr _=>.sh (aN.mono h r)) (λe _ z k=>.lst ((k _ qm).trans e) (z λa B=>k a (qk _ B)))
  (λe q _ z k=>.dK ((k _ qm).trans e) q (z λa B=>k a (qk _ B))) (λe q _ z k=>.dT ((k _ qm).trans e) q (z λa B=>k a (qk _ B)))
  (λe r k=>.st ((k _ qm).trans e) (zF.mono h r)) (λ_=>.nil) (λ_ _ a b k=>.cons (a λc G=>k c (qj _ G)) (b λc G=>k c (qi _ G))) r
def zv.mono(h:zr F F')(r:zv K F H v s fp):(∀a∈fp,H' a=H a)->zv K F' H' v s fp:=
 zv.ind (P:=λv s fp=>(∀a∈fp,H' a=H a)->zv K F' H' v s fp) (λ_=>.nil) (λa _ b k=>.cons (aK.mono h a λc z=>k c (qj _ z)) (b λc z=>k c (qi _ z))) r
def aK.frz(h:zr F F')(r:aK K F H v s fp):(∀a∈fp,F' a=H a)->aN K F' v s.toD:=
 aK.rec (motive_1:=λv s fp _=>(∀a∈fp,F' a=H a)->aN K F' v s.toD) (motive_2:=λv s fp _=>(∀a∈fp,F' a=H a)->zF K F' v (S.toDs s))
  (λr _=>aN.mono h r) (λe _ z k=>.lst (bO.of ((k _ qm).trans e)) (z λa B=>k a (qk _ B)))
  (λe q _ z k=>.dK (.of ((k _ qm).trans e)) q (z λa B=>k a (qk _ B))) (λe q _ z k=>.dT (.of ((k _ qm).trans e)) q (z λa B=>k a (qk _ B)))
  (λe r k=>.st ((k _ qm).trans e) (zF.mono h r)) (λ_=>.nil) (λ_ _ a b k=>.cons (a λc G=>k c (qj _ G)) (b λc G=>k c (qi _ G))) r
def zv.frz(h:zr F F')(r:zv K F H v s fp):(∀a∈fp,F' a=H a)->zF K F' v (S.toDs s):=
 zv.ind (P:=λv s fp=>(∀a∈fp,F' a=H a)->zF K F' v (S.toDs s)) (λ_=>.nil) (λa _ b k=>.cons (aK.frz h a λc z=>k c (qj _ z)) (b λc z=>k c (qi _ z))) r
def aK.view(h:zr F H)(r:aK K F H v s fp):aN K H v s.toD:=aK.frz h r λ_ _=>rfl
def aK.in_:∀{v:V}{s:S}{fp:List Addr},aK K F H v s fp->∀a∈fp,∃o,H a=some o/\eC o=true:=by
 intro v s fp r;show aK.rec (motive_1:=λv s fp _=>∀a∈fp,∃o,H a=some o/\eC o=true) (motive_2:=λv s fp _=>∀a∈fp,∃o,H a=some o/\eC o=true) ?_ ?_ ?_ ?_ ?_ ?_ ?_ r
 .intro v d r a z;cases z
 .grind[eC]
 .grind[eC]
 .grind[eC]
 .grind[eC]
 .intro a z;cases z
 grind
inductive zu(K:W.Frag)(F H:Hp):Env->St->List Addr->Prop
 |nil:zu K F H [] [] []
 |no {U:Env} {Z:St} {o:Option V} {fp:List Addr}:zu K F H U Z fp->zu K F H (none::U) (o::Z) fp
 |so {U:Env} {Z:St} {v:V} {s:S} {fp fq:List Addr}:aK K F H v s fp->zu K F H U Z fq->zu K F H (some s::U) (some v::Z) (fp++fq)
def zu.len(r:zu K F H U Z fp):U.length=Z.length:=by
 induction r with
 |nil=>rfl
 |no _ v=>show congrArg (·+1) v
 |so _ _ v=>show congrArg (·+1) v
def zu.mono(h:zr F F')(r:zu K F H U Z fp)(k:∀a∈fp,H' a=H a):zu K F' H' U Z fp:=by
 induction r with
 |nil=>show .nil
 |no _ v=>show .no (v k)
 |so a _ v=>show .so (aK.mono h a λc z=>k c (qj _ z)) (v λc z=>k c (qi _ z))
def zu.in_(r:zu K F H U Z fp):∀a∈fp,∃o,H a=some o/\eC o=true:=by
 induction r with
 |nil=>show λa B=>nomatch B
 |no _ v=>show v
 |so q _ v=>show λa B=>(qx.mp B).elim (λz=>aK.in_ q a z) λz=>v a z
def zu.app(r:zu K F H U Z fp)(z:zu K F H U' Z' fq):zu K F H (U++U') (Z++Z') (fp++fq):=by
 induction r with
 |nil=>show z
 |no _ v=>show .no v
 |so a _ v=>rw[qp];show .so a v
inductive xY(K:W.Frag)(F H:Hp)(U:Env)(Z:St)(U':Env)(Z':St)(fp:List Addr):Prop
 |mk (f1 f2:List Addr):fp=f1++f2->zu K F H U Z f1->zu K F H U' Z' f2->xY K F H U Z U' Z' fp
def zu.cut(e:U.length=Z.length)(r:zu K F H (U++U') (Z++Z') fp):xY K F H U Z U' Z' fp:=by
 induction U generalizing Z fp with
 |nil=>cases Z with
  |nil=>show#[[],fp,rfl,.nil,r]
  |cons _ _=>show absurd e.symm (Nat.succ_ne_zero _)
 |cons x U z=>cases Z with
  |nil=>show absurd e (Nat.succ_ne_zero _)
  |cons y Z=>cases r with
   |no r=>let#[B,v,rfl,a,b]:=z (Nat.succ.inj e) r;show#[B,v,rfl,.no a,b]
   |so q r=>let#[B,v,rfl,a,b]:=z (Nat.succ.inj e) r;show#[_,v,(qp ..).symm,.so q a,b]
def gz(K:W.Frag)(F H:Hp)(U:Env)(Z:St)(i:Nat)(z v:List Addr):Prop:=∀{F' H':Hp}{o:Option S}{u:Option V}{fi':List Addr},zr F F'->(∀a∈z++v,H' a=H a)->(zu K F' H' [o] [u] fi')->zu K F' H' (U.set i o) (Z.set i u) (z++(fi'++v))
inductive ia(K:W.Frag)(F H:Hp)(U:Env)(Z:St)(fp:List Addr)(i:Nat)(s:S):Prop
 |mk (v:V) (fa fi fb:List Addr):Z[i]?=some (some v)->fp=fa++(fi++fb)->aK K F H v s fi->gz K F H U Z i fa fb->ia K F H U Z fp i s
inductive xX(K:W.Frag)(F H:Hp)(U:Env)(Z:St)(fp:List Addr)(i:Nat):Prop
 |mk (fa fi fb:List Addr):fp=fa++(fi++fb)->gz K F H U Z i fa fb->xX K F H U Z fp i
def zu.at:∀{U:Env}{Z:St}{fp:List Addr}{i:Nat}{s:S},zu K F H U Z fp->slot U i=some s->ia K F H U Z fp i s
 |_,_,_,_,_,.nil,e=>by simp[slot]at e
 |_,_,_,0,_,.no r,e=>by simp at e
 |_,_,_,0,s,.so (fp:=fp) (fq:=fq) q r,e=>by simp at e;subst e;show#[_,[],fp,fq,rfl,rfl,q,λ{F' H' o u J} h k x=>?_];let r':=zu.mono (H':=H') h r λa B=>k a B;show x.app r'
 |_,_,_,i+1,s,.no r,e=>by let#[v,O,L,M,Y,rfl,q,G]:=zu.at r e;show#[v,O,L,M,Y,rfl,q,λh k x=>.no (G h k x)]
 |_,_,_,i+1,s,.so (fp:=fp) (fq:=fq) p r,e=>by let#[v,O,L,M,Y,rfl,q,G]:=zu.at r e;show#[v,fp++O,L,M,Y,(qp ..).symm,q,λ{F' H' o u J} h k x=>?_];rw[qp];show .so (aK.mono h p λa B=>k a (qj _ (qj _ B))) (G h (λa B=>k a ((qx.mp B).elim (λz=>qj _ (qi _ z)) λz=>qi _ z)) x)
def zu.put:∀{U:Env}{Z:St}{fp:List Addr}{i:Nat},zu K F H U Z fp->i<U.length->xX K F H U Z fp i
 |_,_,_,_,.nil,e=>by simp at e
 |_,_,fp,0,.no r,e=>#[[],[],fp,rfl,λ{O H' o u B} h k x=>x.app (zu.mono (H':=H') h r λa v=>k a v)]
 |_,_,_,0,.so (fp:=fp) (fq:=fq) q r,e=>#[[],fp,fq,rfl,λ{O H' o u B} h k x=>x.app (zu.mono (H':=H') h r λa v=>k a v)]
 |_,_,_,i+1,.no r,e=>by let#[M,J,L,rfl,G]:=zu.put (i:=i) r ↑e;show#[M,J,L,rfl,λh k x=>.no (G h k x)]
 |_,_,_,i+1,.so (fp:=fp) (fq:=fq) p r,e=>by let#[M,J,L,rfl,G]:=zu.put (i:=i) r ↑e;show#[fp++M,J,L,(qp ..).symm,λ{O H' o u B} h k x=>?_];rw[qp];show .so (aK.mono h p λa v=>k a (qj _ (qj _ v))) (G h (λa v=>k a ((qx.mp v).elim (λz=>qj _ (qi _ z)) λz=>qi _ z)) x)
inductive mG(K:W.Frag)(U:Env)(Z:St)(F G H:Hp):Prop
 |mk (fp:List Addr):zu K F H U Z fp->fp.Nodup->(∀a∈fp,F a=none/\G a=none)->mG K U Z F G H
structure Rel(K:W.Frag)(U:Env)(Z:St)(F G H:Hp):Prop where
 fr:zr F H
 gr:∀a o,G a=some o->(H a=some o/\eC o=true)/\F a=none
 en:mG K U Z F G H
def Rel.len(r:Rel K U Z F G H):U.length=Z.length:=let⟨_,e,_,_⟩:=r.en;e.len
def Rel.free(r:Rel K U Z F G H)(h:H p=none):F p=none/\G p=none/\∀fp,zu K F H U Z fp->p∉fp:=by
 show#[?_,?_,λfp e v=>?_]
 .cases q:F p with
  |none=>rfl
  |some o=>rw[r.fr p o q]at h;cases h
 .cases q:G p with
  |none=>rfl
  |some o=>rw[(r.gr p o q).1.1]at h;cases h
 .obtain⟨o,q,_⟩:=e.in_ p v;rw[h]at q;cases q
def zr.upd(h:F p=none):zr F (upd F p o):=λb u e=>by rw[Ap (λz=>by rw[z,h]at e;cases e)];show e
def zr.upd2(h:zr F H):zr (L2.upd F p o) (L2.upd H p o):=λb u e=>by
 by_cases q:b=p
 .subst q;rw[Bl]at e⊢;show e
 .rw[Ap q]at e⊢;show h b u e
def zr.updR(h:zr F H)(n:F p=none):zr F (L2.upd H p o):=λb u e=>by rw[Ap (λz=>by rw[z,n]at e;cases e)];show h b u e
def Rel.newF(r:Rel K U Z F G H)(h:H p=none):Rel K U Z (upd F p o) G (upd H p o):=by
 let#[Y,O,M]:=r.free h;let#[fp,e,L,ap]:=r.en;let B:∀a∈fp,a≠p:=λa v z=>M fp e (z▸v);show#[zr.upd2 r.fr,λa u q=>?_,fp,e.mono (zr.upd Y) λa v=>Ap (B a v),L,λa v=>?_]
 .let J:a≠p:=λz=>by rw[z,O]at q;cases q
  rw[Ap J,Ap J];show r.gr a u q
 .rw[Ap (B a v)];show ap a v
def Rel.newO(r:Rel K U Z F G H)(h:H p=none)(q:aK K F (upd H p o) (.ref p) s [p]):Rel K (U++[some s]) (Z++[some (.ref p)]) F G (upd H p o):=by
 let#[O,M,J]:=r.free h;let#[fp,e,Y,ap]:=r.en;let B:∀a∈fp,a≠p:=λa v z=>J fp e (z▸v);show#[zr.updR r.fr O,λa u q=>?_,fp++([p]++[]),(e.mono (zr.refl F) λa v=>Ap (B a v)).app (.so q .nil),?_,λa v=>?_]
 .let L:a≠p:=λz=>by rw[z,M]at q;cases q
  rw[Ap L];show r.gr a u q
 .grind
 grind
def Rel.drop(r:Rel K (U++U') (Z++Z') F G H)(h:U.length=Z.length):Rel K U Z F G H:=by let#[L,e,v,J]:=r.en;let#[B,M,rfl,a,b]:=e.cut h;show#[r.fr,r.gr,B,a,(qw.mp v).1,λc z=>J c (qj _ z)]
def Rel.hide(r:Rel K (U++U') (Z++Z') F G H)(h:U.length=Z.length):∃G',Rel K U Z F G' H/\zr G G'/\
  ∀{U2:Env}{Z2:St}{L H2:Hp},zr F L->Rel K U2 Z2 L G' H2->Rel K (U2++U') (Z2++Z') L G H2:=by
 classical
 let#[fp,e,nd,ap]:=r.en;let#[f1,J,rfl,a,b]:=e.cut h;let#[n1,n2,h1]:=qw.mp nd;show#[λx=>if x∈J then H x else G x,#[r.fr,λx o q=>?_,f1,a,n1,λx v=>?_],λx o q=>?_,λ{U2 Z2 L H2} O M=>?_]
 .by_cases z:x∈J
  .let:=b.in_ x z;grind
  .simp only[z]at q;show r.gr x o q
 .grind
 .grind
 .obtain⟨B,e2,Y,h2⟩:=M.en;let hk:∀x∈J,H2 x=H x/\L x=none/\x∉B:=λx v=>by let#[o,q,_]:=b.in_ x v;let w:=M.gr x o (by simp only[v];show q);grind
  show#[M.fr,λx o q=>?_,B++J,e2.app (b.mono O λx v=>(hk x v).1),?_,λx v=>?_]
  .let z:x∉J:=λz=>by grind
   show M.gr x o (by simp only[z];show q)
  .grind
  grind
def Rel.weakG(r:Rel K U Z F G' H)(h:zr G G'):Rel K U Z F G H:=by
 let#[J,e,B,z]:=r.en;show#[r.fr,λa o q=>r.gr a o (h a o q),J,e,B,λa v=>#[(z a v).1,?_]];cases q:G a with
 |none=>rfl
 |some o=>have:=(z a v).2;rw[h a o q]at this;cases this
def Rel.swap(h:U.length=Z.length)(h1:U1.length=Z1.length)(r:Rel K (U++(U1++U2)) (Z++(Z1++Z2)) F G H):Rel K (U++(U2++U1)) (Z++(Z2++Z1)) F G H:=by let#[fp,e,J,Y]:=r.en;let#[B,M,rfl,a,b]:=e.cut h;let#[z,v,rfl,O,c]:=b.cut h1;let p:(B++(v++z)).Perm (B++(z++v)):=List.Perm.append_left _ qN;show#[r.fr,r.gr,_,a.app (c.app O),p.nodup_iff.mpr J,λx L=>Y x (p.mem_iff.mp L)]
def Rel.push(r:Rel K U Z F G H)(h:aN K F v d):Rel K (U++[some (.sh d)]) (Z++[some v]) F G H:=by
 let#[J,e,z,L]:=r.en;show#[r.fr,r.gr,J++([]++[]),e.app (.so (.sh h) .nil),?_,λx B=>L x ?_]
 .simpa using z
 .simpa using B
def Rel.pushN(r:Rel K U Z F G H):Rel K (U++[none]) (Z++[u]) F G H:=by
 let#[B,e,v,J]:=r.en;show#[r.fr,r.gr,B++[],e.app (.no .nil),?_,λx z=>J x ?_]
 .simpa using v
 .simpa using z
def Kq(h:slot U i=some s):U[i]?=some (some s):=by
 induction U generalizing i with
 |nil=>simp[slot]at h
 |cons a r v=>cases i with
  |zero=>simp at h;simp[h]
  |succ i=>simp at h;simpa using v h
def GE(h:slot U i=some s):i<U.length:=(qg.mp (Kq h)).1
def Hk(h:i<U.length):slot (U++U') i=slot U i:=by
 induction U generalizing i with
 |nil=>simp at h
 |cons a r v=>cases i with
  |zero=>rfl
  |succ i=>simpa using v ↑h
def Fy:slot (U++o::U') U.length=o:=by
 induction U with
 |nil=>rfl
 |cons a r v=>simpa using v
inductive gx(K:W.Frag)(F H:Hp)(Z:St)(i:Nat)(s:S):Prop
 |mk (v:V) (fp:List Addr):Z[i]?=some (some v)->aK K F H v s fp->gx K F H Z i s
def Rel.at(r:Rel K U Z F G H)(h:slot U i=some s):gx K F H Z i s:=by let#[L,e,J,Y]:=r.en;let#[v,O,z,M,B,_,q,_]:=e.at h;show#[v,z,B,q]
def Rel.give(r:Rel K U Z F G H)(h:slot U i=some s):∃v F',Z[i]?=some (some v)/\zr F F'/\aN K F' v s.toD/\Rel K (U.set i (some (.sh s.toD))) Z F' G H:=by
 classical
 let#[fp,e,nd,ap]:=r.en;let#[v,fa,B,fb,e1,rfl,q,O]:=e.at h;let#[na,Y,h1]:=qw.mp nd;let J:zr F (λx=>if x∈B then H x else F x):=λx o w=>by grind
 let L:aN K (λx=>if x∈B then H x else F x) v s.toD:=q.frz J λx M=>by simp[M,if_true]
 let e2:Z.set i (some v)=Z:=by apply ext_getElem?;grind
 show#[v,_,e1,J,L,λx o w=>?_,λx o w=>?_,fa++([]++fb),?_,?_,λx M=>?_]
 .by_cases z:x∈B
  .simp only[z]at w;show w
  .simp only[z]at w;show r.fr x o w
 .let w2:=r.gr x o w;grind
 .let:=O (F':=λx=>if x∈B then H x else F x) (H':=H) (o:=some (.sh s.toD)) (u:=some v) (fi':=[]) J (λ_ _=>rfl) (.so (.sh L) .nil);rw[e2]at this;show this
 .grind
 grind
def Rel.store(r:Rel K (U++[o]) (Z++[u]) F G H)(h:U.length=Z.length)(hi:i<U.length):Rel K (U.set i o) (Z.set i u) F G H:=by
 let#[fp,e,B,ap]:=r.en;let#[f1,f2,rfl,a,b]:=e.cut h;let#[Y,fi,O,rfl,v]:=a.put hi;let#[M,n2,L]:=qw.mp B;let#[na,z,J]:=qw.mp M;show#[r.fr,r.gr,Y++(f2++O),v (zr.refl F) (λ_ _=>rfl) b,?_,λx hx=>?_]
 .grind
 grind
end FL
namespace FL
open PySem PySem.Spec PyProof.Rows L2
abbrev St:=L2.St
abbrev wp(X:Cx)(pn:List (Addr×Obj))(xe:zj):Cx:={X with pn:=pn,xe:=xe}
def zt:R->Option S
 |.v s=>some s
 |.loc _=>none
@[inline]def RV(Z:St)(v:V):R->Prop
 |.v _=>True
 |.loc i=>Z[i]?=some (some v)
def mO(Z:St):List V->List R->Prop
 |[],[]=>True
 |v::vs,r::rs=>RV Z v r/\mO Z vs rs
 |_,_=>False
def xA(K:W.Frag)(F:Hp)(d:D)(C:Addr)(v:Option Addr):Prop:=∃c fs vs,d=.exc c fs vs/\W.nsIn K mainGlobals (#[c.toArray]:Str)=some (some (.ref C))/\mF F v fs vs
def dn(X:Cx)(F H:Hp)(h:Heap)(u:Value)(d:D):Prop:=∃e C v,u=.ref e/\xA X.K F d C v/\uY X [] H h e (.ref C) v
@[inline]def KP(ks:List Nat)(Z Z':St):Prop:=∀i∈ks,Z'[i]?=Z[i]?
@[inline]def XC(X:Cx)(T:St->Prop)(F G:Hp)(PX:WX):Prop:=∀(d:D)(U':Env)(Z':St)(F' H':Hp)(u:Value)(s':Shared),PX d U'->T Z'->zr F F'->Rel X.K U' Z' F' G H'->Inv X [] Z' H' s'->dn X F' H' s'.heap u d->X.xe u s'
def XC.mono(h:XC X T F G PX)(t:∀Z,T' Z->T Z)(f:zr F F')(g:zr G G'):XC X T' F' G' PX:=
 λd z v J H2 u s' p q B r I x=>h d z v J H2 u s' p (t _ q) (f.trans B) (r.weakG g) I x
def XC.grow(h:XC X T F G PX)(f:zr F F'):XC X T F' G PX:=h.mono (λ_ z=>z) f (zr.refl G)
inductive tW(X:Cx)(w:WE)(Z:St)(H:Hp)(Q:VK):Prop
 |mk (F G:Hp) (U:Env) (P:WQ) (PX:WX) (zJ:Rel X.K U Z F G H) (hw:w U P PX) (hok:∀r U' v F' H',P r U'->zr F F'->Rel X.K (U'++[zt r]) (Z++[some v]) F' G H'->RV Z v r->Q v H') (hx:XC X (·=Z) F G PX):tW X w Z H Q
@[inline]def FE(X:Cx)(e:Expr)(w:WE):Prop:=∀(pn:List (Addr×Obj))(xe:zj),PassesOwn (model X.prog X.w) X.A X.env xe->PE (wp X pn xe) e (tW (wp X pn xe) w)
inductive hU(X:Cx)(w:WT)(Z:St)(H:Hp)(Q:Bool->Hp->Prop):Prop
 |mk (F G:Hp) (U:Env) (P:Bool->Env->Prop) (PX:WX) (zJ:Rel X.K U Z F G H) (hw:w U P PX) (hok:∀b U' F' H',P b U'->zr F F'->Rel X.K U' Z F' G H'->Q b H') (hx:XC X (·=Z) F G PX):hU X w Z H Q
@[inline]def FT(X:Cx)(e:Expr)(w:WT):Prop:=∀(pn:List (Addr×Obj))(xe:zj),PassesOwn (model X.prog X.w) X.A X.env xe->PT (wp X pn xe) e (hU (wp X pn xe) w)
@[inline]def FW(X:Cx)(e:Expr)(w:WT):Prop:=∀(pn:List (Addr×Obj))(xe:zj),PassesOwn (model X.prog X.w) X.A X.env xe->PW (wp X pn xe) e (hU (wp X pn xe) w)
inductive nH(X:Cx)(w:WA)(Z:St)(H:Hp)(Q:List V->Hp->Prop):Prop
 |mk (F G:Hp) (U:Env) (P:List R->Env->Prop) (PX:WX) (zJ:Rel X.K U Z F G H) (hw:w U P PX) (hok:∀rs U' vs F' H',P rs U'->zr F F'->Rel X.K (U'++rs.map zt) (Z++vs.map some) F' G H'->U'.length=Z.length->mO Z vs rs->Q vs H') (hx:XC X (·=Z) F G PX):nH X w Z H Q
@[inline]def FA(X:Cx)(es:List Expr)(w:WA):Prop:=∀(pn:List (Addr×Obj))(xe:zj),PassesOwn (model X.prog X.w) X.A X.env xe->PA (wp X pn xe) es (nH (wp X pn xe) w)
def PE.imp(h:PE X e t)(k:∀Z H Q,t' Z H Q->t Z H Q):PE X e t':=λzH s Z H Q I q=>h zH s Z H Q I (k Z H Q q)
def PT.imp(h:PT X e t)(k:∀Z H Q,t' Z H Q->t Z H Q):PT X e t':=λzH s Z H Q I q=>h zH s Z H Q I (k Z H Q q)
def PW.imp(h:PW X e t)(k:∀Z H Q,t' Z H Q->t Z H Q):PW X e t':=λv zH s Z H Q I q=>h v zH s Z H Q I (k Z H Q q)
def PA.imp(h:PA X e t)(k:∀Z H Q,t' Z H Q->t Z H Q):PA X e t':=λp zH s Z H Q I q=>h p zH s Z H Q I (k Z H Q q)
section
variable{K:W.Frag}
def Rel.mid(r:Rel K (U++o::U') (Z++w::Z') F G H)(h:U.length=Z.length):Rel K (U++U') (Z++Z') F G H:=by let#[fp,e,z,ap]:=r.en;let#[f1,f2,rfl,a,b]:=e.cut h;let#[f2,Y,rfl,b,c]:=zu.cut (U:=[o]) (Z:=[w]) rfl b;let#[M,L,J]:=qw.mp z;let#[n4,B,n6]:=qw.mp L;show#[r.fr,r.gr,f1++Y,a.app c,qw.mpr #[M,B,λx v y O=>J x v y (qi _ O)],λx v=>ap x ?_];grind
def Af(r:Rel K (U++[o]) (Z++[w]) F G H):U.length=Z.length:=by let:=r.len;simpa using this
def Km:(U++o::U').set U.length o'=U++o'::U':=by
 induction U with
 |nil=>rfl
 |cons a r v=>simpa using v
inductive Nd{α:Type}(o:Option α)(k:α->Prop):Prop
 |mk (a:α):o=some a->k a->Nd o k
def Aq(h:zp o k):Nd o k:=by
 cases o with
 |none=>show h.elim
 |some a=>show#[a,rfl,h]
def bE(K:W.Frag)(F H:Hp)(v:V)(d:D):Prop:=aN K F v d\/
 (∃a xs ds,v=.ref a/\d=.lst ds/\H a=some (.lst xs)/\zF K F xs ds)\/
 (∃a zI ks vs,v=.ref a/\d=.dct false ks vs/\H a=some (.dK zI)/\ks=zI.map (λp=>aG p.1)/\zF K F (zI.map (·.2)) vs)\/
 (∃a zI ks vs,v=.ref a/\d=.dct true ks vs/\H a=some (.dT zI)/\ks=zI.map (λp=>D.tup (p.1.map aG))/\zF K F (zI.map (·.2)) vs)
def bE.mono(h:zr F F')(r:bE K F H v d):bE K F' H v d:=by
 rcases r with r|⟨a,xs,O,J,G,B,r⟩|⟨a,z,ks,L,J,G,B,M,r⟩|⟨a,z,ks,L,J,G,B,M,r⟩
 .show .inl (r.mono h)
 .show .inr (.inl #[a,xs,O,J,G,B,r.mono h])
 .show .inr (.inr (.inl #[a,z,ks,L,J,G,B,M,r.mono h]))
 .show .inr (.inr (.inr #[a,z,ks,L,J,G,B,M,r.mono h]))
def zv.sh(r:zv K F H xs l fp):l.all S.isSh=true->zF K F xs (l.map S.toD)/\fp=[]:=
 zv.ind (P:=λxs l fp=>l.all S.isSh=true->zF K F xs (l.map S.toD)/\fp=[]) (λ_=>#[.nil,rfl]) (λa _ v h=>by
  rw[all_cons,and_eq_true]at h;let#[q,e]:=v h.2;cases a with
  |sh r=>show#[.cons r q,e]
  |_=>show absurd h.1 (by simp[S.isSh])) r
def AH(r:Rel K (U++(zt x::U')) (Z++(some v::Z')) F G H)(h:U.length=Z.length)(O:RV Z v x)(e:view x U=some d):aN K H v d:=by
 cases x with
 |v s=>
  let#[u,Y,z,q]:=r.at (i:=U.length) (s:=s) Fy;rw[h,getElem?_append_right (q8 _)]at z;let M:v=u:=↑z
  subst M;let L:s.toD=d:=qf e;rw[<-L];show q.view r.fr
 |loc i=>
  let B:(slot U i).map S.toD=some d:=e;cases q:slot U i with
  |none=>rw[q]at B;cases B
  |some s=>
   rw[q]at B;let L:s.toD=d:=qf B;let hi:=GE q;let#[u,Y,z,w]:=r.at (i:=i) (s:=s) (by rw[Hk hi];show q);rw[getElem?_append_left (h▸hi)]at z;let J:Z[i]?=some (some v):=O;rw[J]at z;let M:v=u:=↑z
   subst M;rw[<-L];show w.view r.fr
inductive gq(K:W.Frag)(U:Env)(Z:St)(F G H:Hp)(v:V)(d:D):Prop
 |mk (F':Hp):zr F F'->bE K F' H v d->Rel K U Z F' G H->gq K U Z F G H v d
def Ba(r:Rel K (U++(zt x::U')) (Z++(some v::Z')) F G H)(h:U.length=Z.length)(rv:RV Z v x)(e:zD x U=some d):
  gq K (U++U') (Z++Z') F G H v d:=by
 cases x with
 |v s=>
  let#[u,F',z,sm,rp,r']:=r.give (i:=U.length) (s:=s) Fy;rw[h,getElem?_append_right (q8 _)]at z;let e2:v=u:=↑z
  subst e2;let e3:s.toD=d:=qf e;rw[show(U++zt (.v s)::U').set U.length (some (S.sh s.toD))=U++some (S.sh s.toD)::U' from Km]at r';show#[F',sm,.inl (e3▸rp),r'.mid h]
 |loc i=>
  let e':(match slot U i with|some s=>if s.flat then some s.toD else none|none=>none)=some d:=e;cases q:slot U i with
  |none=>rw[q]at e';cases e'
  |some s=>
   let hi:=GE q;let#[u,fp,z,w]:=r.at (i:=i) (s:=s) (by rw[Hk hi];show q);rw[getElem?_append_left (h▸hi)]at z;let O:Z[i]?=some (some v):=rv;rw[O]at z;let e2:v=u:=↑z
   subst e2;show#[F,zr.refl F,?_,r.mid h];by_cases M:s.flat=true
   .let e3:s.toD=d:=by grind
    subst e3;cases w with
    |sh r=>show .inl r
    |lst L J=>let#[B,_]:=J.sh M;show .inr (.inl #[_,_,_,rfl,by simp,L,B])
    |dK L Y J=>let#[B,_]:=J.sh M;show .inr (.inr (.inl #[_,_,_,_,rfl,by simp,L,Y,B]))
    |dT L Y J=>let#[B,_]:=J.sh M;show .inr (.inr (.inr #[_,_,_,_,rfl,by simp,L,Y,B]))
    |st _ _=>show absurd M (by simp[S.flat])
   grind
inductive gy(K:W.Frag)(L:Prop)(U:Env)(Z:St)(F G H:Hp):Prop
 |mk (F':Hp):zr F F'->L->Rel K U Z F' G H->gy K L U Z F G H
def AG(r:Rel K (U++(zt x::U')) (Z++(some v::Z')) F G H)(h:U.length=Z.length)(rv:RV Z v x)(e:give x U=some (s,U1)):
  gy K (U1.length=U.length) (U1++(some s::U')) (Z++(some v::Z')) F G H:=by
 cases x with
 |v t=>have z:some (t,U)=some (s,U1):=e;cases z;show#[F,zr.refl F,rfl,r]
 |loc i=>
  let z:(match slot U i with|some s=>some (S.sh s.toD,U.set i (some (.sh s.toD)))|none=>none)=some (s,U1):=e;cases q:slot U i with
  |none=>rw[q]at z;cases z
  |some t=>
   rw[q]at z;cases z;let hi:=GE q;let#[u,O,L,Y,rp,B]:=r.give (i:=i) (s:=t) (by rw[Hk hi];show q);rw[getElem?_append_left (h▸hi)]at L;let J:Z[i]?=some (some v):=rv;rw[J]at L;let e2:v=u:=↑L
   subst e2;rw[List.set_append_left _ _ hi]at B;show#[O,Y,by simp,?_];let#[fp,en,nd,ap]:=B.en;let hl:(U.set i (some (S.sh t.toD))).length=Z.length:=↑h
   let#[f1,M,rfl,a,b]:=en.cut hl;let b':zu K O H (none::U') (some v::Z') M:=b;cases b' with
   |no b=>show#[B.fr,B.gr,f1++([]++M),a.app (.so (.sh rp) b),↑nd,λx hx=>ap x hx]
end
def tW.mono(h:tW X w Z H Q)(k:∀v H',Q v H'->Q' v H'):tW X w Z H Q':=by let#[F,G,U,P,PX,B,M,J,L]:=h;show#[F,G,U,P,PX,B,M,λr z v O H' a b c d=>k _ _ (J r z v O H' a b c d),L]
inductive pT(X:Cx)(Z:St)(k:R->R->Env->WQ->WX->Prop)(Q:VK)(v u:V)(H:Hp):Prop
 |mk (F G:Hp) (U:Env) (x y:R) (P:WQ) (PX:WX) (zJ:Rel X.K (U++[zt x,zt y]) (Z++[some v,some u]) F G H) (hl:U.length=Z.length) (rx:RV Z v x) (ry:RV Z u y) (hk:k x y U P PX) (hok:∀r U' v F' H',P r U'->zr F F'->Rel X.K (U'++[zt r]) (Z++[some v]) F' G H'->RV Z v r->Q v H') (hx:XC X (·=Z) F G PX):pT X Z k Q v u H
def GL(h:tW X (λU Q E=>wa U (λx U1=>wb U1 (λy U2=>k x y U2 Q E) E) E) Z H Q):
  tW X wa Z H λv H1=>tW X wb Z H1 λu H2=>pT X Z k Q v u H2:=by
 let#[F,G,U,P,PX,h3,hw,h6,hx]:=h;show#[F,G,U,_,PX,h3,hw,λx U1 v F1 H1 h5 M r1 Y=>?_,hx];let h1:=Af r1;let#[G1,B,gg,back]:=r1.hide h1;show#[F1,G1,U1,_,PX,B,h5,λy U2 u F2 H2 h4 L r2 O=>?_,hx.mono (λ_ z=>z) M gg];let h2:=Af r2;let r3:=back L r2;rw[qp,qp]at r3;show#[F2,G,U2,x,y,P,PX,Rel.swap (U1:=[zt y]) (Z1:=[some u]) (U2:=[zt x]) (Z2:=[some v]) h2 rfl r3,h2,Y,O,h4,λr J v F' H' a b c d=>h6 r J v F' H' a (M.trans (L.trans b)) c d,hx.grow (M.trans L)]
inductive One(X:Cx)(Z:St)(k:R->Env->WQ->WX->Prop)(Q:VK)(v:V)(H:Hp):Prop
 |mk (F G:Hp) (U:Env) (x:R) (P:WQ) (PX:WX) (zJ:Rel X.K (U++[zt x]) (Z++[some v]) F G H) (hl:U.length=Z.length) (rx:RV Z v x) (hk:k x U P PX) (hok:∀r U' v F' H',P r U'->zr F F'->Rel X.K (U'++[zt r]) (Z++[some v]) F' G H'->RV Z v r->Q v H') (hx:XC X (·=Z) F G PX):One X Z k Q v H
theorem one(h:tW X (λU Q E=>wa U (λx U1=>k x U1 Q E) E) Z H Q):tW X wa Z H λv H1=>One X Z k Q v H1:=by let#[F,G,U,P,PX,J,hw,M,hx]:=h;show#[F,G,U,_,PX,J,hw,λx U1 v F1 H1 L O Y B=>#[F1,G,U1,x,P,PX,Y,Af Y,B,L,λr z v F' H' a b c d=>M r z v F' H' a (O.trans b) c d,hx.grow O],hx]
def Qi(hN:X.N[i]?=some x)(Y:xD X.env.scope x)(hd:(x==("__debug__":Str))=false:=by decide)(M:(x==("__classdict__":Str))=false:=by decide):FE X (.Name x pos) (zk i):=by
 intro pn xe hp;show PE.imp (Pv (X:=wp X pn xe) hN Y hd M) λZ H Q h=>?_;let#[F,G,U,P,PX,z,J,B,hx]:=h;unfold zk at J;cases q:slot U i with
 |none=>rw[q]at J;show J.elim
 |some s=>
  let#[v,fp,L,O]:=z.at q;rw[q]at J;cases s with
  |sh d=>
   cases O with
   |sh r=>show#[v,L,B _ _ v F H J (zr.refl F) (z.push r) trivial]
  |lst l=>show#[v,L,B _ _ v F H J (zr.refl F) z.pushN L]
  |dct t a b=>show#[v,L,B _ _ v F H J (zr.refl F) z.pushN L]
  |set l=>show#[v,L,B _ _ v F H J (zr.refl F) z.pushN L]
def Gs(h:∀X:Cx,PE X e (tC v))(r:∀K F,aN K F v d):FE X e (wC d):=by intro pn xe M;show PE.imp (h _) λZ H Q h=>?_;let#[F,G,U,P,PX,z,J,B,L]:=h;show B _ _ v F H J (zr.refl F) (z.push (r _ _)) trivial
def Ag:FE X (.Constant (.int i) j pos) (wC (.int i)):=Gs (λ_=>OO) λ_ _=>.int i
def HS:FE X (.Constant (.bool b) j pos) (wC (.bl b)):=Gs (λ_=>On) λ_ _=>.bl b
def DX(e:x.cps.toList=l)(z:l.length<=16777216):FE X (.Constant (.str x) j pos) (wC (.str l)):=Gs (λ_=>Pb) λ_ _=>.str e z
def OpR.or(h:OpR X f r)(h':OpR X f G):OpR X f (λx y H Q=>r x y H Q\/G x y H Q):=λzH s Z H x y v u Q I F B q=>q.elim (λz=>h zH s Z H x y v u Q I F B z) λz=>h' zH s Z H x y v u Q I F B z
def gE(K:W.Frag)(r:R2)(z:D->D->Option S):Prop:=∀(Z:St)(U:Env)(F G H:Hp)(x y:V)(p q:D)(s:S)(Q:VK),Rel K U Z F G H->bE K F H x p->bE K F H y q->z p q=some s->
 (∀v F' H',zr F F'->Rel K (U++[some s]) (Z++[some v]) F' G H'->Q v H')->r x y H Q
def FR(ho:∀pn xe,OpR (wp X pn xe) (binaryOp op) r)(hd:gE X.K r o)(ha:FE X a wa)(hb:FE X b wb):FE X (.BinOp a op b pos) (zy o wa wb):=by intro pn xe hp;show PE.imp (Oz (ho pn xe) (ha pn xe hp) (hb pn xe hp)) λZ H Q h=>?_;show(GL (k:=λx y B Q E=>zp (zD x B) λp=>zp (zD y B) λq=>zp (o p q) λs=>Q (.v s) B) h).mono λv H1 h1=>h1.mono λu H2 h2=>?_;let#[F,G,U,x,y,P,PX,M,hl,rx,ry,J,h3,hx]:=h2;let#[p,ep,J]:=Aq J;let#[q,eq,J]:=Aq J;let#[t,et,J]:=Aq J;let#[F1,s1,Y,L]:=Ba M hl rx ep;let#[F2,s2,O,z]:=Ba (U':=[]) (Z':=[]) L hl ry eq;rw[qz,qz]at z;show hd Z U F2 G H2 v u p q t Q z (Y.mono s2) O et λv' F' H' sm r'=>h3 (.v t) U v' F' H' J (s1.trans (s2.trans sm)) r' trivial
def nH.mono(h:nH X w Z H Q)(k:∀v H',Q v H'->Q' v H'):nH X w Z H Q':=by let#[F,G,U,P,PX,B,M,J,L]:=h;show#[F,G,U,P,PX,B,M,λr z v O H' a b c d e=>k _ _ (J r z v O H' a b c d e),L]
inductive xE(X:Cx)(Z:St)(k:R->R->Env->(Bool->Env->Prop)->WX->Prop)(Q:Bool->Hp->Prop)(v u:V)(H:Hp):Prop
 |mk (F G:Hp) (U:Env) (x y:R) (P:Bool->Env->Prop) (PX:WX) (zJ:Rel X.K (U++[zt x,zt y]) (Z++[some v,some u]) F G H) (hl:U.length=Z.length) (rx:RV Z v x) (ry:RV Z u y) (hk:k x y U P PX) (hok:∀r U' F' H',P r U'->zr F F'->Rel X.K U' Z F' G H'->Q r H') (hx:XC X (·=Z) F G PX):xE X Z k Q v u H
def Ks(h:hU X (λU Q E=>wa U (λx U1=>wb U1 (λy U2=>k x y U2 Q E) E) E) Z H Q):
  tW X wa Z H λv H1=>tW X wb Z H1 λu H2=>xE X Z k Q v u H2:=by
 let#[F,G,U,P,PX,h3,hw,h6,hx]:=h;show#[F,G,U,_,PX,h3,hw,λx U1 v F1 H1 h5 M r1 Y=>?_,hx];let h1:=Af r1;let#[G1,B,gg,back]:=r1.hide h1;show#[F1,G1,U1,_,PX,B,h5,λy U2 u F2 H2 h4 L r2 O=>?_,hx.mono (λ_ z=>z) M gg];let h2:=Af r2;let r3:=back L r2;rw[qp,qp]at r3;show#[F2,G,U2,x,y,P,PX,Rel.swap (U1:=[zt y]) (Z1:=[some u]) (U2:=[zt x]) (Z2:=[some v]) h2 rfl r3,h2,Y,O,h4,λr J F' H' a b c=>h6 r J F' H' a (M.trans (L.trans b)) c,hx.grow (M.trans L)]
def dS(K:W.Frag)(r:R2)(v:D->D->Option Bool):Prop:=∀(H:Hp)(x y:V)(p q:D)(k:Bool)(Q:VK),aN K H x p->aN K H y q->v p q=some k->Q (.bl k) H->r x y H Q
def Eu{K:W.Frag}(B:Rel K (U++[zt x,zt y]) (Z++[some v,some u]) F G H)(J:U.length=Z.length)(M:RV Z v x)(L:RV Z u y)(ep:view x U=some p)(O:view y U=some q):
  aN K H v p/\aN K H u q/\Rel K U Z F G H:=by
 let z:Rel K (U++[zt y]) (Z++[some u]) F G H:=B.mid J;show#[AH B J M ep,AH (U':=[]) (Z':=[]) z J L O,z.drop J]
def AV(ho:∀pn xe,OpR (wp X pn xe) (compareOp O) r)(hd:dS X.K r o)(ha:FE X a wa)(hb:FE X b wb)(hm:behindInMarks O b=false):FT X (.Compare a [O] [b] pos) (aS o wa wb):=by intro pn xe Y;show PT.imp (LI (ho pn xe) (ha pn xe Y) (hb pn xe Y) hm) λZ H Q h=>?_;show(Ks (k:=λx y z Q E=>zp (view x z) λp=>zp (view y z) λq=>zp (o p q) λc=>Q c z) h).mono λv H1 h1=>h1.mono λu H2 h2=>?_;let#[F,G,U,x,y,P,PX,L,hl,rx,ry,B,M,hx]:=h2;let#[p,ep,B]:=Aq B;let#[q,eq,B]:=Aq B;let#[t,et,B]:=Aq B;let#[r1,r2,J]:=Eu L hl rx ry ep eq;show hd H2 v u p q t _ r1 r2 et #[t,rfl,M t U F H2 B (zr.refl F) J]
def Gx(ho:∀pn xe,OpR (wp X pn xe) (compareOp O) r)(hd:dS X.K r o)(ha:FE X a wa)(hb:FE X b wb)(hm:behindInMarks O b=false):FE X (.Compare a [O] [b] pos) (iB (aS o wa wb)):=by intro pn xe Y;show PE.imp (Ql (ho pn xe) (ha pn xe Y) (hb pn xe Y) hm) λZ H Q h=>?_;show(GL (k:=λx y z Q E=>zp (view x z) λp=>zp (view y z) λq=>zp (o p q) λc=>Q (.v (.sh (.bl c))) z) h).mono λv H1 h1=>h1.mono λu H2 h2=>?_;let#[F,G,U,x,y,P,PX,L,hl,rx,ry,B,M,hx]:=h2;let#[p,ep,B]:=Aq B;let#[q,eq,B]:=Aq B;let#[t,et,B]:=Aq B;let#[r1,r2,J]:=Eu L hl rx ry ep eq;show hd H2 v u p q t _ r1 r2 et (M _ U (.bl t) F H2 B (zr.refl F) (J.push (.bl t)) trivial)
def PL{K:W.Frag}(r:aN K H v d)(e:iD d=some k):uK K v H k:=by
 cases r with
 |non=>show(qf e).symm
 |bl b=>show(qf e).symm
 |int i=>have B:=(qf e).symm;rw[B];show decide (i≠0)=(i !=0);by_cases h:i=0<;>simp[h]
 |str G z=>
  rename_i x l;let B:=(qf e).symm;let F:x.length=l.length:=by rw[<-G];rfl
  show#[by rw[F];show z,?_];rw[B,F];cases l with
  |nil=>rfl
  |cons a r=>simp;lia
 |tup h r=>show .inr (.inl #[_,bN.of h,?_]);let B:=(qf e).symm;rw[B];cases r<;>rfl
 |lst h r=>show .inl #[_,h,?_];let B:=(qf e).symm;rw[B];cases r<;>rfl
 |dK h k r=>cases e
 |dT h k r=>cases e
 |st h r=>cases e
 |exc h k=>cases e
def Qg(ha:FE X a wa)(he:∀whole,isTrue a X.env whole=(do let v<-whole;standAt a.pos;holding [v] (truthy v)):=by intro _;rfl):FT X a (lF wa):=by intro pn xe hp;show PT.imp (Sf (ha pn xe hp) he) λZ H Q h=>?_;let#[F,G,U,P,PX,zJ,hw,hok,hx]:=h;show#[F,G,U,_,PX,zJ,hw,λx U1 v F1 H1 hk s1 r1 rv1=>?_,hx];let#[p,ep,hk]:=Aq hk;let#[t,et,hk]:=Aq hk;let hl:=Af r1;show#[t,PL (AH (U':=[]) (Z':=[]) r1 hl rv1 ep) et,hok t U1 F1 H1 hk s1 (r1.drop hl)]
def Hu{k:Bool->Env->(Bool->Env->Prop)->WX->Prop}(h:hU X (λU Q E=>ta U (λc U1=>k c U1 Q E) E) Z H Q)
  (Y:∀(c:Bool)(F G:Hp)(U:Env)(P:Bool->Env->Prop)(PX:WX)(H1:Hp),Rel X.K U Z F G H1->k c U P PX->(∀r U' F' H',P r U'->zr F F'->Rel X.K U' Z F' G H'->Q r H')->XC X (·=Z) F G PX->Q' c H1):hU X ta Z H Q':=by
 let#[F,G,U,P,PX,v,M,z,J]:=h;show#[F,G,U,_,PX,v,M,λc U1 F1 H1 O B L=>Y c F1 G U1 P PX H1 L O (λr U' F' H' a b c=>z r U' F' H' a (B.trans b) c) (J.grow B),J]
def FP(h:FW X a ta):FT X a ta:=λpn xe v=>(h pn xe v).pt
def FZ(h:FT X a ta):FW X (.BoolOp .And [a] pos) ta:=λpn xe v=>PV (h pn xe v)
def Fw{rest:List Expr}(h:FT X a ta)(h':FW X (.BoolOp .And (b::rest) pos) tb):FW X (.BoolOp .And (a::b::rest) pos) (dE ta tb):=λpn xe J=>by
 show PW.imp (Oq (h pn xe J) (h' pn xe J)) λZ H Q q=>?_;show Hu (k:=λc v Q E=>if c then tb v Q E else Q false v) q λc F G U P PX H1 z L B M=>?_;cases c with
 |true=>show#[F,G,U,P,PX,z,L,B,M]
 |false=>show B false U F H1 L (zr.refl F) z
def Ab:FA X [] zm:=λpn xe L=>PA.imp OQ λZ H Q q=>by let#[F,G,U,P,PX,v,B,z,J]:=q;show z [] U [] F H B (zr.refl F) ↑v v.len trivial
def Aa(ha:FE X e wa)(hb:FA X es wb)(hs:starEach (e::es) X.env=(false,eval e X.env)::starEach es X.env:=by rfl):FA X (e::es) (zl wa wb):=λpn xe hp=>by
 show PA.imp (Qm (ha pn xe hp) (hb pn xe hp) hs) λZ H Q q=>?_;let#[F,G,U,P,PX,Y,hw,h5,hx]:=q;show#[F,G,U,_,PX,Y,hw,λx U1 v F1 H1 h4 s1 r1 M=>?_,hx];let h1:=Af r1;let#[G1,B,gg,back]:=r1.hide h1;show#[F1,G1,U1,_,PX,B,h4,λO U2 J F2 H2 h3 s2 r2 h2 L=>?_,hx.mono (λ_ z=>z) s1 gg];let r3:=back s2 r2;rw[qp,qp]at r3;let hl:(O.map zt).length=(J.map some).length:=by let:=r2.len;grind
 show h5 (x::O) U2 (v::J) F2 H2 h3 (s1.trans s2) (Rel.swap (U1:=O.map zt) (Z1:=J.map some) (U2:=[zt x]) (Z2:=[some v]) h2 hl r3) h2 #[M,L]
section
variable{K:W.Frag}
def mO.len:∀{vs:List V}{rs:List R},mO Z vs rs->vs.length=rs.length
 |[],[],_=>rfl
 |[],_::_,h=>h.elim
 |_::_,[],h=>h.elim
 |_::vs,_::rs,h=>by simp[mO.len h.2]
def JS:∀{rs:List R}{vs:List V}{U U' U1:Env}{ss:List S}{F:Hp}{Z':St},Rel K (U++(rs.map zt++U')) (Z++(vs.map some++Z')) F G H->U.length=Z.length->mO Z vs rs->aQ rs U=some (ss,U1)->
  ∃F',zr F F'/\U1.length=U.length/\ss.length=rs.length/\Rel K (U1++(ss.map some++U')) (Z++(vs.map some++Z')) F' G H
 |[],[],U,U',U1,ss,F,Z',r,h,_,e=>by let z:some (([]:List S),U)=some (ss,U1):=e;cases z;show#[F,zr.refl F,rfl,rfl,r]
 |[],_::_,_,_,_,_,_,_,_,_,h,_=>h.elim
 |_::_,[],_,_,_,_,_,_,_,_,h,_=>h.elim
 |x::rs,v::vs,U,U',U1,ss,F,Z',r,h,rv,e=>by
  let z:(match give x U with|some (s,U1)=>(match aQ rs U1 with|some (ss,U2)=>some (s::ss,U2)|none=>none)|none=>none)=some (ss,U1):=e;cases q:give x U with
  |none=>rw[q]at z;cases z
  |some p=>
   let#[s,U2]:=p;rw[q]at z;cases B:aQ rs U2 with
   |none=>simp only[B]at z;cases z
   |some p2=>
    let#[L,h1]:=p2;simp only[B]at z;cases z;let#[F1,s1,l1,Y]:=AG (U':=rs.map zt++U') (Z':=vs.map some++Z') r h rv.1 q;let h2:U2.length=Z.length:=l1.trans h;let hl:(rs.map zt++U').length=(vs.map some++Z').length:=by let:=Y.len;rw[qq,qq,qt,qt]at this;lia
    let J:U'.length=Z'.length:=by let:=rv.2.len;simp at hl;lia
    let O:=Rel.swap (U1:=[some s]) (Z1:=[some v]) (U2:=rs.map zt++U') (Z2:=vs.map some++Z') h2 rfl Y;rw[qp,qp]at O;let#[F2,s2,l2,l3,M]:=JS (rs:=rs) (vs:=vs) O h2 rv.2 B;let h3:U1.length=Z.length:=l2.trans h2;rw[<-qp (L.map some),<-qp (vs.map some)]at M;let r4:=Rel.swap (U1:=L.map some++U') (Z1:=vs.map some++Z') (U2:=[some s]) (Z2:=[some v]) h3 (by simp[l3,rv.2.len,J]) M;show#[F2,s1.trans s2,l2.trans l1,by simp[l3],r4]
def Cg:∀{vs:List V}{ss:List S}{fp:List Addr},zu K F H (ss.map some) (vs.map some) fp->zv K F H vs ss fp
 |[],[],_,.nil=>.nil
 |[],_::_,_,h=>nomatch h
 |_::_,[],_,h=>nomatch h
 |v::vs,s::ss,_,.so a b=>.cons a (Cg b)
def Rel.newL(r:Rel K (U++ss.map some) (Z++vs.map some) F G H)(h:U.length=Z.length)(B:H p=none):
  Rel K (U++[some (.lst ss)]) (Z++[some (.ref p)]) F G (upd H p (.lst vs)):=by
 let#[f0,Y,O]:=r.free B;let#[fp,e,nd,ap]:=r.en;let J:∀a∈fp,a≠p:=λa v z=>O fp e (z▸v);let#[f1,f2,rfl,M,L]:=(e.mono (H':=upd H p (.lst vs)) (zr.refl F) λa v=>Ap (J a v)).cut h;show#[zr.updR r.fr f0,λa u q=>?_,f1++((p::f2)++[]),M.app (.so (.lst Bl (Cg L)) .nil),?_,λa v=>?_]
 .let B:a≠p:=λz=>by rw[z,Y]at q;cases q
  rw[Ap B];show r.gr a u q
 .grind
 grind
def Rel.giveD{ss:List S}(r:Rel K (U++ss.map some) (Z++vs.map some) F G H)(h:U.length=Z.length):∃F',zr F F'/\zF K F' vs (ss.map S.toD)/\Rel K U Z F' G H:=by
 classical
 let#[fp,e,M,ap]:=r.en;let#[Y,L,rfl,a,b]:=e.cut h;let#[O,n2,n3]:=qw.mp M;let v:zr F (λx=>if x∈L then H x else F x):=λx o w=>by grind
 let B:=(Cg b).frz v λx J=>by simp[J,if_true]
 rw[S.toDs_map]at B;show#[_,v,B,λx o w=>?_,λx o w=>?_,Y,a.mono v λ_ _=>rfl,O,λx J=>?_]
 .by_cases z:x∈L
  .simp only[z]at w;show w
  .simp only[z]at w;show r.fr x o w
 .let w2:=r.gr x o w;grind
 grind
end
inductive xQ(X:Cx)(Z:St)(k:List R->Env->WQ->WX->Prop)(Q:VK)(vs:List V)(H:Hp):Prop
 |mk (F G:Hp) (U:Env) (rs:List R) (P:WQ) (PX:WX) (zJ:Rel X.K (U++rs.map zt) (Z++vs.map some) F G H) (hl:U.length=Z.length) (rv:mO Z vs rs) (hk:k rs U P PX) (hok:∀r U' v F' H',P r U'->zr F F'->Rel X.K (U'++[zt r]) (Z++[some v]) F' G H'->RV Z v r->Q v H') (hx:XC X (·=Z) F G PX):xQ X Z k Q vs H
theorem many(h:tW X (λU Q E=>wa U (λrs U1=>k rs U1 Q E) E) Z H Q):nH X wa Z H λvs H1=>xQ X Z k Q vs H1:=by let#[F,G,U,P,PX,J,hw,M,Y]:=h;show#[F,G,U,_,PX,J,hw,λrs U1 vs F1 H1 L O r1 h1 B=>#[F1,G,U1,rs,P,PX,r1,h1,B,L,λr z v F' H' a b c d=>M r z v F' H' a (O.trans b) c d,Y.grow O],Y]
def CN(h:FA X es wa):FE X (.List es pos) (cR wa):=λpn xe L=>by
 show PE.imp (OJ (h pn xe L)) λZ H Q q=>?_;show(many (k:=λz v Q E=>zp (if z.length<=big then aQ z v else none) λp=>Q (.v (.lst p.1)) p.2) q).mono λvs H1 h1=>?_;let#[F,G,U,z,P,PX,B,hl,Y,O,M,hx]:=h1;let#[#[ss,v],ep,O]:=Aq O;by_cases J:z.length<=big
 .rw[q4 J]at ep;let#[F1,s1,l1,l2,r1]:=JS (U':=[]) (Z':=[]) ↑B hl Y ep;show#[by rw[Y.len];show le_trans J ⋯,λp L=>M _ v (.ref p) F1 _ O s1 (Rel.newL ↑r1 (l1.trans hl) L) trivial]
 .rw[q5 J]at ep;cases ep
def Ck(h:FA X es wa):FE X (.Tuple es k pos) (cK wa):=λpn xe B=>by
 show PE.imp (Qd (h pn xe B)) λZ H Q q=>?_;show(many (k:=λz v Q E=>zp (if z.length<=big then aQ z v else none) λp=>Q (.v (.sh (.tup (p.1.map S.toD)))) p.2) q).mono λvs H1 h1=>?_;let#[F,G,U,z,P,PX,J,hl,Y,O,M,hx]:=h1;let#[#[ss,v],ep,O]:=Aq O;by_cases L:z.length<=big
 .rw[q4 L]at ep;let#[F1,s1,l1,l2,r1]:=JS (U':=[]) (Z':=[]) ↑J hl Y ep;let#[F2,s2,rp,r2]:=Rel.giveD (U:=v) ↑r1 (l1.trans hl);show#[by rw[Y.len];show le_trans L ⋯,λp B=>?_];let n2:=(r2.free B).1;show M _ v (.ref p) _ _ O (s1.trans (s2.trans (zr.upd n2))) ((r2.newF B).push (.tup Bl (rp.mono (zr.upd n2)))) trivial
 .rw[q5 L]at ep;cases ep
def KP.refl:KP ks Z Z:=λ_ _=>rfl
def KP.trans(a:KP ks Z Z1)(b:KP ks Z1 Z2):KP ks Z Z2:=λi h=>(b i h).trans (a i h)
inductive yF(X:Cx)(ks:List Nat)(w:WS)(D:L2.Ends)(Z:St)(H:Hp):Prop
 |mk (F G:Hp) (U:Env) (E:Ends) (zJ:Rel X.K U Z F G H) (hw:w E U) (n:∀U' Z' F' H',E.nx U'->KP ks Z Z'->zr F F'->Rel X.K U' Z' F' G H'->D.nx Z' H') (b:∀U' Z' F' H',E.bk U'->KP ks Z Z'->zr F F'->Rel X.K U' Z' F' G H'->D.bk Z' H') (c:∀U' Z' F' H',E.ct U'->KP ks Z Z'->zr F F'->Rel X.K U' Z' F' G H'->D.ct Z' H') (r:∀r U' Z' v F' H',E.rt r U'->KP ks Z Z'->zr F F'->Rel X.K (U'++[zt r]) (Z'++[some v]) F' G H'->RV Z' v r->D.rt v H') (hx:XC X (KP ks Z) F G E.ex):yF X ks w D Z H
@[inline]def FS(X:Cx)(ks:List Nat)(st:Stmt)(w:WS):Prop:=∀(pn:List (Addr×Obj))(xe:zj),PassesOwn (model X.prog X.w) X.A X.env xe->PS (wp X pn xe) st (yF (wp X pn xe) ks w)
def mQ(X:Cx)(ks:List Nat)(st:List Stmt)(w:WS):Prop:=∀(pn:List (Addr×Obj))(xe:zj),PassesOwn (model X.prog X.w) X.A X.env xe->iP (wp X pn xe) st (yF (wp X pn xe) ks w)
def PS.imp(h:PS X e t)(k:∀D Z H,t' D Z H->t D Z H):PS X e t':=λzH s Z H D I q=>h zH s Z H D I (k D Z H q)
def iP.imp(h:iP X e t)(k:∀D Z H,t' D Z H->t D Z H):iP X e t':=λzH s Z H D I q=>h zH s Z H D I (k D Z H q)
inductive uP(X:Cx)(ks:List Nat)(g:WG)(v:V)(Z:St)(H:Hp)(Q:St->Hp->Prop):Prop
 |mk (F G:Hp) (U:Env) (s:S) (P:Env->Prop) (zJ:Rel X.K (U++[some s]) (Z++[some v]) F G H) (hw:g s U P) (n:∀U' Z' F' H',P U'->KP ks Z Z'->zr F F'->Rel X.K U' Z' F' G H'->Q Z' H'):uP X ks g v Z H Q
@[inline]def FG(X:Cx)(ks:List Nat)(tg:Expr)(g:WG):Prop:=∀(pn:List (Addr×Obj))(xe:zj),PassesOwn (model X.prog X.w) X.A X.env xe->PG (wp X pn xe) tg (uP (wp X pn xe) ks g)
def PG.imp(h:PG X e t)(k:∀v Z H Q,t' v Z H Q->t v Z H Q):PG X e t':=λzH s Z H v u Q I r q=>h zH s Z H v u Q I r (k v Z H Q q)
section
variable{st:Stmt}{rest:List Stmt}
def BN:mQ X ks [] aX:=λpn xe B=>iP.imp QN λD Z H q=>by let#[F,G,U,E,v,z,n,b,c,r,x]:=q;show n U Z F H z KP.refl (zr.refl F) v
def Aj(h1:FS X ks st w1)(h2:mQ X ks rest w2):mQ X ks (st::rest) (zz w1 w2):=λpn xe O=>iP.imp (So (h1 pn xe O) (h2 pn xe O)) λD Z H q=>by
 obtain⟨F,G,U,E,h3,hw,n,b,c,r,x⟩:=q;show#[F,G,U,{E with nx:=w2 E},h3,hw,λY h5 F1 H1 O k M r1=>?_,b,c,r,x];exact⟨F1,G,Y,E,r1,O,λB z L H' h J s r=>n B z L H' h (k.trans J) (M.trans s) r,λB z L H' h J s r=>b B z L H' h (k.trans J) (M.trans s) r,
  λB z L H' h J s r=>c B z L H' h (k.trans J) (M.trans s) r,λa B z v L H' h J s q rv=>r a B z v L H' h (k.trans J) (M.trans s) q rv,x.mono (λh4 J=>k.trans J) M (zr.refl G)⟩
def Aw(h1:FS X ks st v):mQ X ks [st] v:=λpn xe z=>Ra (h1 pn xe z)
def Fx(h:FE X e Y)(hs:swapsWith e none pos.line X.env=pure false:=by rfl):FS X ks (.Expr e pos) (wExpr Y):=λpn xe L=>PS.imp (QW (h pn xe L) hs) λD Z H q=>by let#[F,G,U,E,J,hw,n,b,c,r,x]:=q;show#[F,G,U,_,_,J,hw,λa B v F1 H1 L s1 M rv=>n B Z F1 H1 L KP.refl s1 (M.drop (Af M)),x.mono (λO z=>by rw[z];show KP.refl) (zr.refl F) (zr.refl G)]
def BL(h:FE X e O):FS X ks (.Return (some e) pos) (bZ O):=λpn xe L=>PS.imp (Ph (h pn xe L)) λD Z H q=>by let#[F,G,U,E,J,hw,n,b,c,r,x]:=q;show#[F,G,U,_,_,J,hw,λa B v F1 H1 L Y r1 rv=>r a B Z v F1 H1 L KP.refl Y r1 rv,x.mono (λM z=>by rw[z];show KP.refl) (zr.refl F) (zr.refl G)]
def BM(hc:FT X c tc)(ha:mQ X ks a w1)(hb:mQ X ks b w2):FS X ks (.If c a b pos) (eI tc w1 w2):=λpn xe O=>PS.imp (Oe (hc pn xe O) (ha pn xe O) (hb pn xe O)) λD Z H q=>by
 obtain⟨F,G,U,E,h1,hw,n,b,c,r,x⟩:=q;show#[F,G,U,_,_,h1,hw,λk Y F1 H1 O s1 r1=>?_,x.mono (λh2 z=>by rw[z];show KP.refl) (zr.refl F) (zr.refl G)];let go:∀w:WS,w E Y->yF (wp X pn xe) ks w D Z H1:=λw hw=>⟨F1,G,Y,E,r1,hw,λJ B M H' h L s r=>n J B M H' h L (s1.trans s) r,λJ B M H' h L s r=>b J B M H' h L (s1.trans s) r,
  λJ B M H' h L s r=>c J B M H' h L (s1.trans s) r,λa J B v M H' h L s q rv=>r a J B v M H' h L (s1.trans s) q rv,x.grow s1⟩
 cases k with
 |true=>show go _ O
 |false=>show go _ O
def Ax(he:FE X e we)(hg:FG X ks tg g)(hs:swapsWithSole [tg] e pos.line X.env=pure false:=by rfl)(M:swappedStores [tg] e X.env=pure none:=by rfl)
  (h1:(assignEach [tg] X.env).map (·.2)=[assign tg X.env]:=by rfl):FS X ks (.Assign [tg] e pos) (zC g we):=λpn xe B=>PS.imp (La (he pn xe B) (hg pn xe B) hs M h1) λD Z H q=>by
 let#[F,G,U,E,L,M,n,b,c,r,x]:=q;show#[F,G,U,_,_,L,M,λa h2 v F1 H1 B s1 O rv=>?_,x.mono (λY z=>by rw[z];show KP.refl) (zr.refl F) (zr.refl G)];let#[#[s,J],eg,hk]:=Aq B;let#[F2,s2,l2,r2]:=AG (U':=[]) (Z':=[]) O (Af O) rv eg;show#[F2,G,J,s,_,r2,hk,λU' Z' F' H' h k' s r=>n U' Z' F' H' h k' (s1.trans (s2.trans s)) r]
end
def Ng(I:Inv X zH Z H s)(hN:∀j,X.N[j]?=some x->j=i)(hi:X.N[i]?=some x)(L:Loc X.env.scope x)(r:zw v u)
  (h:∀s',Inv X zH (Z.set i (some v)) H s'->(∃a,Heap.SameBut a s.heap s'.heap/\(a=X.env.locals\/X.env.cells.lookup x=some a))->Q () s')(hf:X.fn x=true\/X.env.scope.names.lookup x=some .local):wpAny M A (storeName X.env x u) Q E s:=by
 let#[m,hn,hl]:=id I.loc;let h5:(X.env.scope.kind==.class||(X.env.scope.kind==.module&&X.env.locals !=X.env.globals))=false:=by rw[I.ok.kind];rfl
 let h1:i<Z.length:=by rw[I.len];show(qg.mp hi).1
 have cne:=I.cne;let F:∀{a:Addr}{h':Heap},(∃o,s.heap.get? a=some o/\H a=none)->Heap.SameBut a s.heap h'->eE X.prog X.w H h':=λ{a h'} ha B b ob e=>by
  let#[_,_,O]:=ha;show(I.hok b ob e).stay (λc w' J q=>(B.2 c ?_).trans q) (λ_ q=>q) λ_ _ q=>q;rintro rfl;rcases J with rfl|J
  .rw[O]at e;cases e
  .rw[O]at J;cases J
 rcases L with hk|hk
 .refine wpAny_storeName_local hk hn (λh' h9 B=>?_) h5;let#[oL,_,_,h8,_]:=id hn;refine h _ #[I.ok,I.os,I.bare,#[λb o e n hb L=>?_,λb o e n hb L=>?_,I.base.free,λb o e L=>?_,I.base.tups,I.base.frzs,I.base.tbls],#[_,h9,λj y v' G Y e3=>?_],λy c e=>?_,I.free,I.freeC,λp hp=>?_,F #[oL,h8,I.free] B,↑I.len] #[_,B,.inl rfl]
  .show(B.2 b (ne_of_lt (lt_of_lt_of_le (qe e) I.ok.above))).trans (I.base.keep b o e n hb L)
  .obtain⟨sl,G⟩:=I.base.slot b o e n hb L;show#[sl,(B.2 b (ne_of_lt (lt_of_lt_of_le (qe e) I.ok.above))).trans G]
  .obtain⟨o',G⟩:=I.base.there b o e L;show#[o',(B.2 b (ne_of_lt (lt_of_lt_of_le (qe e) I.ok.above))).trans G]
  .by_cases hj:j=i
   .subst hj;rw[hi]at G;cases G;rw[getElem?_set_self h1]at Y;cases Y;show#[u,r,.inl #[hk,by simp]]
   .rw[getElem?_set_ne (Ne.symm hj)]at Y;let#[u',r',q]:=hl j y v' G Y e3;show#[u',r',?_];rcases q with⟨k,e⟩|⟨k,c,e,z⟩
    .show .inl #[k,?_];let:y≠x:=λe=>hj (hN j (e▸G));simp[this,e]
    .show .inr #[k,c,e,z.sameBut B (cne y c e)]
  .obtain⟨w',z⟩:=I.cell y c e;show#[w',z.sameBut B (cne y c e)]
  .obtain⟨e,n,ne,nf,d⟩:=I.pin p hp;show#[(B.2 p.1 ne).trans e,n,ne,nf,d]
 .have h2:X.fn x=true:=by
   rcases hf with z|z
   .show z
   .rw[z]at hk;cases hk
  let#[c,J]:=I.ok.has x (.inl hk);let#[w',z]:=I.cell x c J;show wpAny_storeName_cell I.ok.kind hk J z (λh' h7 B=>?_);let#[oc,h4,h3]:=id z;show h {s with heap:=h'} ⟨I.ok,I.os,I.bare,⟨λb o e n hb L=>?_,λb o e n hb L=>?_,I.base.free,λb o e L=>?_,I.base.tups,I.base.frzs,I.base.tbls⟩,⟨m,hn.sameBut B (Ne.symm (cne x c J)),λj y v' G Y e3=>?_⟩,λy c' e=>?_,I.free,I.freeC,λp hp=>?_,F ⟨oc,h4,I.freeC x c J⟩ B,↑I.len⟩ #[c,B,.inr J]
  .show(B.2 b (ne_of_lt (lt_of_lt_of_le (qe e) (I.ok.cab x c h2 J)))).trans (I.base.keep b o e n hb L)
  .obtain⟨sl,G⟩:=I.base.slot b o e n hb L;show#[sl,(B.2 b (ne_of_lt (lt_of_lt_of_le (qe e) (I.ok.cab x c h2 J)))).trans G]
  .obtain⟨o',G⟩:=I.base.there b o e L;show#[o',(B.2 b (ne_of_lt (lt_of_lt_of_le (qe e) (I.ok.cab x c h2 J)))).trans G]
  .by_cases hj:j=i
   .subst hj;rw[hi]at G;cases G;rw[getElem?_set_self h1]at Y;cases Y;show#[u,r,.inr #[.inl hk,c,J,h7]]
   .rw[getElem?_set_ne (Ne.symm hj)]at Y;let#[u',r',q]:=hl j y v' G Y e3;show#[u',r',?_];rcases q with q|⟨k,c',e,z'⟩
    .show .inl q
    .show .inr #[k,c',e,z'.sameBut B ?_];rintro rfl;show hj (hN j (I.ok.inj _ _ _ e J▸G))
  .by_cases h6:c'=c
   .subst h6;show#[_,h7]
   .obtain⟨w2,z2⟩:=I.cell y c' e;show#[w2,z2.sameBut B h6]
  .obtain⟨e,n,ne,nf,d⟩:=I.pin p hp;show#[(B.2 p.1 ?_).trans e,n,ne,nf,d];intro q;rw[q,h4]at e;let q':oc=p.2:=qf e;show d w' (by rw[<-q'];show h3)
def KP.set(h:i∉ks):KP ks Z (Z.set i u):=λj v=>getElem?_set_ne (λ(z:i=j)=>h (z▸v))
def LH(Y:i∉ks)(hN:∀j,X.N[j]?=some x->j=i)(hi:X.N[i]?=some x)(M:Loc X.env.scope x)(hf:X.fn x=true\/X.env.scope.names.lookup x=some .local):FG X ks (.Name x pos) (zo i):=by
 intro pn xe hp zH s Z H v u Q I L q;let#[F,G,U,t,P,z,O,n]:=q;let J:=Af z;let B:i<U.length:=by rw[J,I.len];show(qg.mp hi).1
 show wpAny_assign_Name (Ng (X:=wp X pn xe) I hN hi M L (λs' I' _=>#[_,H,I',n _ _ F H O (KP.set Y) (zr.refl F) (z.store J B)]) hf)
inductive vF(X:Cx)(ks:List Nat)(gs:List WG)(vs:List V)(Z:St)(H:Hp)(Q:St->Hp->Prop):Prop
 |mk (F G:Hp) (U:Env) (ds:List D) (P:Env->Prop) (zJ:Rel X.K U Z F G H) (rp:zF X.K F vs ds) (hw:dR gs ds U P) (n:∀U' Z' F' H',P U'->KP ks Z Z'->zr F F'->Rel X.K U' Z' F' G H'->Q Z' H'):vF X ks gs vs Z H Q
def yS(X:Cx)(ks:List Nat)(tg:List Expr)(g:List WG):Prop:=∀(pn:List (Addr×Obj))(xe:zj),PassesOwn (model X.prog X.w) X.A X.env xe->xN (wp X pn xe) tg (vF (wp X pn xe) ks g)
def DC:yS X ks [] []:=λpn xe M zH s Z H B J Q I r q=>by
 let#[F,G,U,O,P,v,L,z,n]:=q;show QK zH s Z H B J Q I r ?_;cases L with
 |nil=>show#[rfl,n U Z F H z KP.refl (zr.refl F) v]
 |cons a b=>show z.elim
def AW(h1:FG X ks e g)(h2:yS X ks es gs)
  (hs:(assignEach (e::es) X.env).map (·.2)=assign e X.env::(assignEach es X.env).map (·.2):=by rfl):yS X ks (e::es) (g::gs):=λpn xe v zH s Z H vs us Q I r q=>by
 let#[F,G,U,ds,P,L,rp,O,n]:=q;show RK (X:=wp X pn xe) (h1 pn xe v) (h2 pn xe v) hs zH s Z H vs us Q I r ?_;cases rp with
 |nil=>show O.elim
 |cons a b=>show#[_,_,rfl,F,G,U,_,_,L.push a,O,λB Y F1 H1 v k M r1=>#[F1,G,B,_,P,r1,b.mono M,v,λJ z F' H' h k' s r=>n J z F' H' h (k.trans k') (M.trans s) r]]
def zF.len{K:W.Frag}(r:zF K F xs ds):xs.length=ds.length:=zF.ind (P:=λxs ds=>xs.length=ds.length) rfl (λ_ _ v=>congrArg (·+1) v) r
def DF(hc:X.calm=true)(h:yS X ks es J)(hn:(assignEach es X.env).length=J.length:=by rfl)(O:(assignEach es X.env).findIdx? (·.1)=none:=by rfl):FG X ks (.Tuple es k pos) (cE J):=λpn xe hp=>by
 show PG.imp (OF (X:=wp X pn xe) hc (h pn xe hp) hn O) λv Z H Q q=>?_;let#[F,G,U,s,P,B,hw,n]:=q;let#[F1,s1,rp,Y]:=Rel.giveD (U:=U) (vs:=[v]) (ss:=[s]) B (Af B);cases rp with
 |cons a b=>
  let z:(match s.toD with|.tup ds=>ds.length=J.length/\dR J ds U P|_=>False):=hw;generalize s.toD=d at a z;cases a with
  |tup e r=>show#[_,_,rfl,bN.of (Y.fr _ _ e),by rw[r.len];show z.1,F1,G,U,_,P,Y,r,z.2,λM L F' H' h k' s r=>n M L F' H' h k' (s1.trans s) r]
  |_=>show z.elim
def gD(K:W.Frag)(J:It)(l:List D)(v:Hp):Prop:=∀(i:Nat)(U:Env)(Z:St)(F G H:Hp),zr v F->Rel K U Z F G H->
 (∀d,l[i]?=some d->J.go i H/\∀x H',J.yld i H x H'->∃F',zr F F'/\Rel K U Z F' G H'/\aN K F' x d)/\(l.length<=i->J.stop i H)
inductive eh(X:Cx)(wi:WI)(Z:St)(H:Hp)(R:It->Hp->Prop):Prop
 |mk (F G:Hp) (U:Env) (P:List D->Env->Prop) (PX:WX) (zJ:Rel X.K U Z F G H) (hw:wi U P PX) (hok:∀l U' F' H' J,P l U'->zr F F'->Rel X.K U' Z F' G H'->gD X.K J l F'->R J H') (hx:XC X (·=Z) F G PX):eh X wi Z H R
@[inline]def FI(X:Cx)(tg iter:Expr)(v:WI):Prop:=∀(pn:List (Addr×Obj))(xe:zj),PassesOwn (model X.prog X.w) X.A X.env xe->PI (wp X pn xe) tg iter (eh (wp X pn xe) v)
def PI.imp(h:PI X tg e t)(k:∀Z H R,t' Z H R->t Z H R):PI X tg e t':=λzH s Z H R I q=>h zH s Z H R I (k Z H R q)
def zF.get{K:W.Frag}{i:Nat}(r:zF K F xs ds)(h:ds[i]?=some d):∃x,xs[i]?=some x/\aN K F x d:=
 zF.ind (P:=λxs ds=>∀i d,ds[i]?=some d->∃x,xs[i]?=some x/\aN K F x d) (λ_ _ e=>by cases e) (λa _ v i d e=>by
  cases i with
  |zero=>cases e;show#[_,rfl,a]
  |succ i=>show v i d e) r i d h
section
variable{K:W.Frag}
def MR(e:bO K F0 a xs)(r:zF K F0 xs l):gD K (xU K a) l F0:=λi U Z F G H J v=>by let B:bO K H a xs:=bO.mono (J.trans v.fr) e;show#[λd O=>?_,λh=>#[xs,B,by rw[r.len];show h]];let#[x,L,M]:=r.get O;show#[#[xs,x,B,L],λy H' z=>?_];let#[rfl,z]:=z;let:x=y:=qf (L.symm.trans (z xs B));subst this;show#[F,zr.refl F,v,M.mono J]
def Te(e:bN K F0 a xs)(r:zF K F0 xs l):gD K (dw K a) l F0:=λi U Z F G H J v=>by let B:bN K H a xs:=bN.mono (J.trans v.fr) e;show#[λd O=>?_,λh=>#[xs,B,by rw[r.len];show h]];let#[x,L,M]:=r.get O;show#[#[xs,x,B,L],λy H' z=>?_];let#[rfl,z]:=z;let:x=y:=qf (L.symm.trans (z xs B));subst this;show#[F,zr.refl F,v,M.mono J]
def Uy{lo:Int}(h:(fromTo lo n)[i]?=some d):i<n/\d=.int (lo+i):=by
 unfold fromTo at h;rw[qF]at h;by_cases hi:i<n
 .rw[List.getElem?_range hi]at h;show#[hi,(qf h).symm]
 .rw[qQ ↑hi]at h;cases h
def Nc{lo:Int}:gD K (xT lo n) (fromTo lo n) F0:=λi U Z F G H J v=>by
 show#[λd B=>?_,λh=>?_]
 .obtain⟨hi,rfl⟩:=Uy B;show#[hi,λx H' z=>?_];let#[rfl,rfl]:=z;show#[F,zr.refl F,v,.int _]
 .let:n<=i:=by simpa[fromTo] using h
  show this
end
def uT(x:Str):It:=#[λi _=>i<x.cps.size,λi H v H'=>H'=H/\∃c,x.cps[i]?=some c/\v=.str #[[c].toArray],λi _=>x.cps.size<=i]
def SN{P:Program}{w:World}{K:W.Frag}{tg:Expr}(it:Addr)(x:Str)(t:Tok)(ty:String)(hty:ty="str_ascii_iterator"\/ty="str_iterator"):iK P w K tg (uT x) [it] it (λi h=>h.IsStrIter it ty x t i) where
 mem:=m1
 obj:=λi h st b hb=>by
  let e:b=it:=↑hb
  subst e;let#[o,e,c,d]:=st;show#[o,e,λv z=>by rw[d]at z;cases z]
 keep:=λi h h' st k=>by let#[o,e,r]:=st;show#[o,k it (m1) o e,r]
 item:=by
  intro X hP hw hK hc i zH s Z H E I hf st hg;subst hP hw hK;let#[f0,f1,f2,f3,f4,f5]:=hf it (m1);let W:Walks X.prog X.w X.A it [it] [it] x.cps.size (SignAt x) (λi h=>h.IsStrIter it ty x t i):=by
   rcases hty with rfl|rfl
   .show Walks.strAscii (I.ok.hd hc) it x t
   .show Walks.strWide (I.ok.hd hc) it x t
  show W.item i s _ _ hg st λv h' tk hv st' kk=>?_;let#[c,u,e1,rfl]:=hv;let I1:Inv X zH Z H {s with heap:=h',toks:=tk}:=I.turned (λb o hb e=>kk b o ↑hb e) f0 f1 f3 f4 f5;let#[o,e,cl,d]:=id st';show#[_,rfl,HU (s:={s with heap:=h',toks:=tk}) e cl d (by rcases hty with rfl|rfl<;>decide) ⟨.str ⟨[c].toArray⟩,H,I1,⟨u,rfl⟩,⟨rfl,c,e1,rfl⟩,st',λb hb=>(hf b hb).1⟩]
 done:=by
  intro X hP hw hK hc i zH s Z H E I hf st hg;let#[f0,f1,f2,f3,f4,f5]:=hf it (m1);let hn:x.cps[i]?=none:=by let:x.cps.size<=i:=hg;simp[this]
  rcases hty with rfl|rfl
  .show wpAny_pyNext_ascii_end (I.ok.hd hc) st hn λh' eb=>#[rfl,I.turned (t':=s.toks) (λb o hb e=>eb b o hb e) f0 f1 f3 f4 f5]
  .show wpAny_pyNext_wide_end (I.ok.hd hc) st hn λh' eb=>#[rfl,I.turned (t':=s.toks) (λb o hb e=>eb b o hb e) f0 f1 f3 f4 f5]
 self:=λA i s Q E st h=>by
  rcases hty with rfl|rfl
  .show wpAny_pyIter_striter_ascii st h
  .show wpAny_pyIter_striter_wide st h
def de(K:W.Frag)(z:TE):TI:=λZ H R=>z Z H λv H1=>(∃a,v=.ref a/\(∃xs,bO K H1 a xs)/\R (xU K a) H1)\/(∃a,v=.ref a/\(∃xs,bN K H1 a xs)/\R (dw K a) H1)\/∃x,v=.str x/\R (uT x) H1
def Qf(hl:PE X l tl):PI X tg l (de X.K tl):=by
 intro zH s Z H R I h;show Am (hl zH s Z H _ I h) λv z zq=>?_;let#[y,H1,B,L,q1]:=zq;rcases q1 with⟨a,e,⟨xs,O⟩,q⟩|⟨a,e,⟨xs,O⟩,q⟩|⟨x,e,q⟩
 .subst e;cases L;let#[F,rv,p,hz]:=B.list O;show wpAny_pyIter_list p.isList ?_;show#[z.heap.objs.size,[z.heap.objs.size],_,_,H1,rfl,B.kept (t':=z.toks) λb o e=>qc _ e,US a _,#[_,qd _ rfl,rfl,rfl],λb G=>?_,q];let e:b=z.heap.objs.size:=by simpa using G
  subst e;show B.fpOk (q8 _) (B.hok.fresh (q8 _))
 .subst e;cases L;let#[F,rv,p,hz]:=B.tuple O;show wpAny_pyIter_tuple (show z.heap.IsTuple a F.toArray from p) ?_;show#[z.heap.objs.size,[z.heap.objs.size],_,_,H1,rfl,B.kept (t':=z.toks) λb o e=>qc _ e,UK a _,#[_,qd _ rfl,rfl,rfl],λb G=>?_,q];let e:b=z.heap.objs.size:=by simpa using G
  subst e;show B.fpOk (q8 _) (B.hok.fresh (q8 _))
 .subst e;let#[t,rfl]:=L;let J:∀(ty:String)(o:Obj),(ty="str_ascii_iterator"\/ty="str_iterator")->o.cls=.type ty->o.data=.fields [.str x t,.int 0 0].toArray->o.isFreed=false->xM X zH Z tg R (.ref z.heap.objs.size) {z with heap:=z.heap.push o}:=λty o M hc hd hf=>by
   show#[z.heap.objs.size,[z.heap.objs.size],_,_,H1,rfl,B.kept (t':=z.toks) λb o e=>qc _ e,SN _ x t ty M,#[_,qd _ hf,hc,hd],λb G=>?_,q];let e:b=z.heap.objs.size:=↑G
   subst e;show B.fpOk (q8 _) (B.hok.fresh (q8 _))
  cases Y:x.cps.all (·<128)
  .show wpAny_pyIter_wide Y (J "str_iterator" _ (.inr rfl) rfl rfl rfl)
  .show wpAny_pyIter_ascii Y (J "str_ascii_iterator" _ (.inl rfl) rfl rfl rfl)
section
variable{K:W.Frag}
def Mc(e:x.cps.toList=l):gD K (uT x) (l.map λc=>.str [c]) F0:=λi U Z F G H sm z=>by
 let J:x.cps.size=l.length:=by rw[<-e];simp
 show#[λd v=>?_,λh=>by show x.cps.size<=i;rw[J];simpa using h];rw[qF]at v;cases q:l[i]? with
 |none=>rw[q]at v;cases v
 |some c=>
  rw[q]at v;let B:D.str [c]=d:=qf v;let hi:i<l.length:=(qg.mp q).1;let O:x.cps[i]?=some c:=by rw[<-qZ,e];show q
  show#[by show i<x.cps.size;rw[J];show hi,λy H' M=>?_];let#[rfl,Y,L,rfl]:=M;rw[O]at L;let:c=Y:=qf L;subst this;rw[<-B];show#[F,zr.refl F,z,.str rfl (by show 1<=_;decide)]
def DW(h:FE X e we):FI X tg e (cM we):=λpn xe hp=>by
 show PI.imp (Qf (h pn xe hp)) λZ H R q=>?_;let#[F,G,U,P,PX,h1,hw,L,hx]:=q;show#[F,G,U,_,PX,h1,hw,λr h2 v F1 H1 M s1 r1 rv=>?_,hx];let#[#[s,J],eg,M]:=Aq M;let#[l,el,M]:=Aq M;let#[F2,s2,l2,r2]:=AG (U':=[]) (Z':=[]) r1 (Af r1) rv eg;let#[F3,s3,rp,O]:=Rel.giveD (U:=J) (vs:=[v]) (ss:=[s]) r2 (Af r2);let Y:=s1.trans (s2.trans s3);cases rp with
 |cons a b=>
  let B:items s.toD=some l:=el;generalize s.toD=d at a B;cases a with
  |lst e r=>have:l=_:=(qf B).symm;subst this;show .inl #[_,rfl,#[_,bO.mono O.fr e],L _ J F3 H1 _ M Y O (MR e r)]
  |tup e r=>have:l=_:=(qf B).symm;subst this;show .inr (.inl #[_,rfl,#[_,bN.of (O.fr _ _ e)],L _ J F3 H1 _ M Y O (Te (bN.of e) r)])
  |str e z=>have:l=_:=(qf B).symm;subst this;show .inr (.inr #[_,rfl,L _ J F3 H1 _ M Y O (Mc e)])
  |_=>cases B
def EN(hg:Gl X "range")(hm:X.mg "range"=none)(ha:FE X a we)(hs:starEach [a] X.env=[(false,eval a X.env)]:=by rfl):FI X tg (.Call (.Name "range" p) [a] [] pos) (bJ we):=λpn xe hp=>by
 show PI.imp (TV (X:=wp X pn xe) hg hm (Aa ha Ab hs pn xe hp) hs) λZ H R q=>?_;let#[F,G,U,P,PX,O,hw,Y,hx]:=q;show#[F,G,U,λM B=>match M with|[r]=>(match view r B with|some (.int j)=>(-big<=j/\j<=big)/\P (fromTo 0 j.toNat) B|_=>False)|_=>False,PX,O,hw,λM B vs F1 H1 z s1 L hl J=>?_,hx];match M,vs,J,L,z with
 |[r],[v],J,L,z=>
  dsimp only at z;split at z
  .rename_i j ej;let rp:=AH (U':=[]) (Z':=[]) L hl J.1 ej;cases rp;let#[#[h1,h2],z]:=z;let eb:(big:Int)=1000000:=rfl;show#[j,rfl,∅,∅,Y _ B F1 H1 _ z s1 ((show Rel X.K (B++[zt r]) (Z++[some (.int j)]) F1 G H1 from L).drop hl) Nc]
  .show z.elim
 |[],_,_,_,z=>show z.elim
 |[_],[],J,_,_=>show J.elim
 |[_],_::_::_,J,_,_=>show J.2.elim
 |_::_::_,_,_,_,z=>show z.elim
def TU(hg:Gl X "range")(hm:X.mg "range"=none)(ha:FE X a we)(hb:FE X b wb)(hs:starEach [a,b] X.env=[(false,eval a X.env),(false,eval b X.env)]:=by rfl)(L:starEach [b] X.env=[(false,eval b X.env)]:=by rfl):
  FI X tg (.Call (.Name "range" p) [a,b] [] pos) (gX we wb):=λpn xe hp=>by
 show PI.imp (Ui (X:=wp X pn xe) hg hm (Aa ha (Aa hb Ab L) (by rw[hs,L]) pn xe hp) hs L) λZ H R q=>?_;let#[F,G,U,P,PX,O,hw,h5,hx]:=q;show#[F,G,U,λM B=>match M with|[r,t]=>(match view r B,view t B with|some (.int i),some (.int j)=>(-big<=i/\i<=big/\-big<=j/\j<=big)/\P (fromTo i (j-i).toNat) B|_,_=>False)|_=>False,PX,O,hw,λM B vs F1 H1 z s1 Y hl J=>?_,hx];match M,vs,J,Y,z with
 |[r,t],[v,u],J,Y,z=>
  dsimp only at z;split at z
  .rename_i i j ei ej;let#[rp,rq,r2]:=Eu Y hl J.1 J.2.1 ei ej;cases rp;cases rq;let#[#[h1,h2,h3,h4],z]:=z;let eb:(big:Int)=1000000:=rfl;show#[i,j,rfl,#[∅,∅,∅,∅],h5 _ B F1 H1 _ z s1 r2 Nc]
  .show z.elim
 |[],_,_,_,z=>show z.elim
 |[_],_,_,_,z=>show z.elim
 |[_,_],[],J,_,_=>show J.elim
 |[_,_],[_],J,_,_=>show J.2.elim
 |[_,_],_::_::_::_,J,_,_=>show J.2.2.elim
 |_::_::_::_,_,_,_,z=>show z.elim
end
def DE(hc:X.calm=true)(hi:FI X tg iter wi)(hg:FG X ks tg g)(hb:mQ X ks body wb)(hs:∀x,foldedSetIterable iter X.env x=pure x:=by intro _;rfl):FS X ks (.For tg iter body [] pos) (dU wi g wb):=λpn xe hp=>by
 show PS.imp (Pe (X:=wp X pn xe) hp hc (hi pn xe hp) (hg pn xe hp) (hb pn xe hp) hs) λD Z H q=>?_;let#[F,G,U,E,h9,hw,n,b,c,r,x]:=q;show#[F,G,U,_,_,h9,hw,λl h7 F1 H1 J hk s1 r1 it=>?_,x.mono (λL z=>by rw[z];show KP.refl) (zr.refl F) (zr.refl G)];show#[λi m L H2=>m=l.length-i/\i<=l.length/\∃F2 U2,KP ks Z L/\zr F1 F2/\Rel X.K U2 L F2 G H2/\bW g wb (l.drop i) E U2,#[l.length,rfl,zero_le _,F1,h7,KP.refl,zr.refl F1,r1,hk],?_];rintro i m L H2 ⟨rfl,hi,F2,U2,kp,s2,r2,h1⟩;let#[e2,e1]:=it i U2 L F2 G H2 s2 r2;by_cases h2:i<l.length
 .obtain⟨go,h8⟩:=e2 l[i] (by simp);show .inr #[go,λh3 H3=>i+1<=l.length/\∃F3 h5,KP ks Z h3/\zr F1 F3/\Rel X.K h5 h3 F3 G H3/\bW g wb (l.drop (i+1)) E h5,λh3 H3 h=>#[l.length-(i+1),∅,rfl,h],λy H3 hy=>?_];let#[F3,s3,r3,rp]:=h8 y H3 hy;rw[List.drop_eq_getElem_cons h2]at h1;show#[F3,G,U2,_,_,r3.push rp,h1,λh6 hx F4 H4 e3 k4 s4 r4=>?_];let O:=kp.trans k4;let h4:=s1.trans (s2.trans (s3.trans s4));exact⟨F4,G,h6,_,r4,e3,λB M F' H' h Y s r=>#[h2,F',B,O.trans Y,s2.trans (s3.trans (s4.trans s)),r,h],λB M F' H' h Y s r=>n B M F' H' h (O.trans Y) (h4.trans s) r,
   λB M F' H' h Y s r=>#[h2,F',B,O.trans Y,s2.trans (s3.trans (s4.trans s)),r,h],λa B M v F' H' h Y s q rv=>r a B M v F' H' h (O.trans Y) (h4.trans s) q rv,x.mono (λe4 Y=>O.trans Y) h4 (zr.refl G)⟩
 .let e:i=l.length:=Nat.le_antisymm hi (not_lt.mp h2);subst e;rw[List.drop_length]at h1;show .inl #[e1 (q8 _),n U2 L F2 H2 h1 kp (s1.trans s2) r2]
def SK(hc:FT X c wc)(hb:mQ X ks body wb):FS X ks (.While c body [] pos) (gW wc wb):=λpn xe hp=>by
 show PS.imp (SS (X:=wp X pn xe) hp (hc pn xe hp) (hb pn xe hp)) λD Z H q=>?_;let#[F,G,U,E,h4,#[J,#[m0,j0],step],n,b,c,r,x]:=q;show#[λm O H2=>∃F2 U2,KP ks Z O/\zr F F2/\Rel X.K U2 O F2 G H2/\J m U2,#[m0,F,U,KP.refl,zr.refl F,h4,j0],?_];rintro m O H2 ⟨F2,U2,kp,s2,r2,j2⟩;show#[F2,G,U2,_,_,r2,step m U2 j2,λk h2 F3 H3 hk s3 r3=>?_,x.mono (λh3 z=>by rw[z];show kp) s2 (zr.refl G)];let L:=s2.trans s3;cases k with
 |true=>
  refine#[λh1 H4=>∃m',m'<m/\∃F2 U2,KP ks Z h1/\zr F F2/\Rel X.K U2 h1 F2 G H4/\J m' U2,λh1 H4 h=>h,?_];exact⟨F3,G,h2,_,r3,hk,λB M F' H'⟨m',hm,h⟩ Y s r=>#[m',hm,F',B,kp.trans Y,L.trans s,r,h],λB M F' H' h Y s r=>n B M F' H' h (kp.trans Y) (L.trans s) r,
   λB M F' H'⟨m',hm,h⟩ Y s r=>#[m',hm,F',B,kp.trans Y,L.trans s,r,h],λa B M v F' H' h Y s q rv=>r a B M v F' H' h (kp.trans Y) (L.trans s) q rv,x.mono (λh3 Y=>kp.trans Y) L (zr.refl G)⟩
 |false=>show n h2 O F3 H3 hk kp L r3
inductive eN(K:W.Frag)(f:WF)(n:Nat)(vs:List V)(H:Hp)(Q:VK)(Zq:XK):Prop
 |mk (F G:Hp) (ss:List S) (P:S->List S->Prop) (PX:D->List S->Prop) (hn:vs.length=n) (zJ:Rel K (ss.map some) (vs.map some) F G H) (hw:f ss P PX) (hok:∀s ss' v F' H',P s ss'->zr F F'->ss'.length=ss.length->Rel K (ss'.map some++[some s]) (vs.map some++[some v]) F' G H'->Q v H') (hex:∀d ss' F' H' C dx,PX d ss'->zr F F'->ss'.length=ss.length->Rel K (ss'.map some) (vs.map some) F' G H'->xA K F' d C dx->Zq (.ref C) dx H'):eN K f n vs H Q Zq
section
variable{K:W.Frag}
def Rel.comm(h:U.length=Z.length)(r:Rel K (U++U') (Z++Z') F G H):Rel K (U'++U) (Z'++Z) F G H:=by let:=Rel.swap (U:=[]) (Z:=[]) (U1:=U) (Z1:=Z) (U2:=U') (Z2:=Z') rfl h r;simpa using this
def Rel.lend(r:Rel K (U++(none::U')) (Z++(some v::Z')) F G H)(h:U.length=Z.length)(hs:slot U i=some s)(z:Z[i]?=some (some v)):
  Rel K (U.set i none++(some s::U')) (Z++(some v::Z')) F G H:=by
 let#[fp,e,nd,ap]:=r.en;let#[f1,O,rfl,a,b]:=e.cut h;let#[v',M,B,L,Y,rfl,q,up]:=a.at hs;rw[z]at Y;let e2:v=v':=↑Y
 subst e2;let a2:=up (F':=F) (H':=H) (o:=none) (u:=some v) (fi':=[]) (zr.refl F) (λ_ _=>rfl) (.no .nil);let es:Z.set i (some v)=Z:=by
  apply ext_getElem?;intro j;by_cases J:i=j
  .subst J;rw[getElem?_set_self (qg.mp z).1,z]
  .rw[getElem?_set_ne J]
 rw[es]at a2;cases b with
 |no b=>
  let p:((M++([]++L))++(B++O)).Perm ((M++(B++L))++O):=by simp;show List.Perm.append_left _ ?_;rw[<-qp,<-qp B];show List.Perm.append_right _ qN
  show#[r.fr,r.gr,_,a2.app (.so q b),p.nodup_iff.mpr nd,λx hx=>ap x (p.mem_iff.mp hx)]
def Rel.back1(r:Rel K (U++(some s::U')) (Z++(some v::Z')) F G H)(h:U.length=Z.length)(B:Z[i]?=some (some v)):Rel K (U.set i (some s)++U') (Z++Z') F G H:=by
 let hi:i<Z.length:=(qg.mp B).1;let es:Z.set i (some v)=Z:=by apply ext_getElem?;grind
 let J:U'.length=Z'.length:=by let:=r.len;grind
 let z:=Rel.swap (U1:=[some s]) (Z1:=[some v]) (U2:=U') (Z2:=Z') h rfl r;rw[<-qp,<-qp]at z;let L:=Rel.store (i:=i) z (by simp[h,J]) (by simp;lia);grind
theorem Lw:∀{rs:List R}{vs:List V}{ms:List Bool}{U U' U1:Env}{ss:List S}{F:Hp}{Z':St},Rel K (U++(rs.map zt++U')) (Z++(vs.map some++Z')) F G H->U.length=Z.length->mO Z vs rs->cD ms rs U=some (ss,U1)->
  ∃F',zr F F'/\U1.length=U.length/\ss.length=rs.length/\Rel K (U1++(ss.map some++U')) (Z++(vs.map some++Z')) F' G H
 |[],[],ms,U,U',U1,ss,F,Z',r,h,_,e=>by
  let z:some (([]:List S),U)=some (ss,U1):=by cases ms<;>show e
  cases z;show#[F,zr.refl F,rfl,rfl,r]
 |[],_::_,_,_,_,_,_,_,_,_,_,h,_=>h.elim
 |_::_,[],_,_,_,_,_,_,_,_,_,h,_=>h.elim
 |x::rs,v::vs,ms,U,U',U1,ss,F,Z',r,h,rv,e=>by
  --the first one,as it is handed on
  have first:∃s U2 B M,cD ms.tail rs U2=some (B,U1)/\ss=s::B/\zr F M/\U2.length=U.length/\Rel K (U2++(some s::(rs.map zt++U'))) (Z++(some v::(vs.map some++Z'))) M G H:=by
   cases x with
   |v s=>
    let z:(match cD ms.tail rs U with|some (ss,U1)=>some (s::ss,U1)|none=>none)=some (ss,U1):=by cases ms<;>show e
    cases q:cD ms.tail rs U with
    |none=>rw[q]at z;cases z
    |some p=>let#[B,L]:=p;rw[q]at z;cases z;show#[s,U,B,F,q,rfl,zr.refl F,rfl,r]
   |loc i=>
    have z:(match slot U i with
     |some s=>if ms.headD false then(match cD ms.tail rs (U.set i none)with
      |some (ss,U1)=>some (s::ss,U1)
      |none=>none)
      else(match cD ms.tail rs (U.set i (some (.sh s.toD)))with
       |some (ss,U1)=>some (.sh s.toD::ss,U1)
       |none=>none)
     |none=>none)=some (ss,U1):=by cases ms<;>show e
    cases q:slot U i with
    |none=>rw[q]at z;cases z
    |some s=>
     rw[q]at z;dsimp only at z;by_cases hm:ms.headD false=true
     .rw[q4 hm]at z;cases J:cD ms.tail rs (U.set i none)with
      |none=>rw[J]at z;cases z
      |some p=>let#[B,L]:=p;rw[J]at z;cases z;show#[s,U.set i none,B,F,J,rfl,zr.refl F,by simp,Rel.lend r h q rv.1]
     .rw[q5 hm]at z;cases J:cD ms.tail rs (U.set i (some (.sh s.toD)))with
      |none=>rw[J]at z;cases z
      |some p=>let#[B,L]:=p;rw[J]at z;cases z;let#[M,Y,l1,O]:=AG (x:=.loc i) (s:=.sh s.toD) (U1:=U.set i (some (.sh s.toD))) r h rv.1 (by show(match slot U i with|some s=>some (S.sh s.toD,U.set i (some (.sh s.toD)))|none=>none)=_;rw[q]);show#[_,_,B,M,J,rfl,Y,by simp,O]
  let#[s,U2,B,M,J,rfl,Y,l1,O]:=first
  let h2:U2.length=Z.length:=l1.trans h;let hl:(rs.map zt++U').length=(vs.map some++Z').length:=by let:=O.len;rw[qq,qq,qt,qt]at this;lia
  let h1:U'.length=Z'.length:=by let:=rv.2.len;simp at hl;lia
  let r2:=Rel.swap (U1:=[some s]) (Z1:=[some v]) (U2:=rs.map zt++U') (Z2:=vs.map some++Z') h2 rfl O;rw[qp,qp]at r2;let#[F2,s2,l2,l3,r3]:=Lw (rs:=rs) (vs:=vs) r2 h2 rv.2 J;let h3:U1.length=Z.length:=l2.trans h2;rw[<-qp (B.map some),<-qp (vs.map some)]at r3;let r4:=Rel.swap (U1:=B.map some++U') (Z1:=vs.map some++Z') (U2:=[some s]) (Z2:=[some v]) h3 (by simp[l3,rv.2.len,h1]) r3;show#[F2,Y.trans s2,l2.trans l1,by simp[l3],r4]
def Hd:∀{rs:List R}{vs:List V}{ms:List Bool}{U U':Env}{ss:List S}{Z':St},Rel K (U++(ss.map some++U')) (Z++(vs.map some++Z')) F G H->U.length=Z.length->ss.length=rs.length->mO Z vs rs->
  (back ms rs ss U).length=U.length/\Rel K (back ms rs ss U++U') (Z++Z') F G H
 |[],[],ms,U,U',[],Z',r,h,_,_=>by
  let e:back ms [] [] U=U:=by cases ms<;>rfl
  show#[rfl,r]
 |[],_,_,_,_,_::_,_,_,_,hl,_=>by simp at hl
 |_::_,_,_,_,_,[],_,_,_,hl,_=>by simp at hl
 |[],_::_,_,_,_,_,_,_,_,_,h=>h.elim
 |_::_,[],_,_,_,_,_,_,_,_,h=>h.elim
 |x::rs,v::vs,ms,U,U',s::ss,Z',r,h,hl,rv=>by
  cases x with
  |v t=>
   let e:back ms (.v t::rs) (s::ss) U=back ms.tail rs ss U:=by cases ms<;>rfl
   show Hd (rs:=rs) (vs:=vs) (r.mid h) h ↑hl rv.2
  |loc i=>
   let e:back ms (.loc i::rs) (s::ss) U=if ms.headD false then back ms.tail rs ss (U.set i (some s))else back ms.tail rs ss U:=by cases ms<;>rfl
   rw[e];by_cases z:ms.headD false=true
   .rw[q4 z];let q:=Hd (rs:=rs) (vs:=vs) (ms:=ms.tail) (U:=U.set i (some s)) (Rel.back1 r h rv.1) ↑h ↑hl rv.2;show#[q.1.trans (by simp),q.2]
   .rw[q5 z];show Hd (rs:=rs) (vs:=vs) (r.mid h) h ↑hl rv.2
end
def QP(Fk:eV X.prog X.w X.K X.mg X.base (iN X.prog X.w) k f fd ps (eN X.K wf n))(hr:bM k X.A)(hg:Gl X x)(hm:X.mg x=some (.ref f))(O:W.keepIn X.K (.ref f)=true)(hb:Binds X.K fd ps [])
  (ha:FA X (e::es) wa)(h2:∀ss P PX,wf ss P PX->ss.length=n)(h7:(x==("__debug__":Str))=false:=by decide)(he:starEach (e::es) X.env=(false,eval e X.env)::starEach es X.env:=by rfl)(h5:(backTo pos (starEach es X.env)).any (·.1)=false:=by rfl):
  FE X (.Call (.Name x p) (e::es) [] pos) (zA wf ms wa):=λpn xe hp=>by
 show PE.imp (Rz (X:=wp X pn xe) Fk hr hg hm O hb (ha pn xe hp) h7 he h5) λZ H Q q=>?_;show(many (k:=λrs B Q E=>zp (cD ms rs B) λp=>wf p.1 (λs ss=>Q (.v s) (back ms rs ss p.2)) (λx ss=>E x (back ms rs ss p.2))) q).mono λvs H1 h1=>?_;let#[F,G,U,rs,P,PX,h3,hl,L,O,h6,hx]:=h1;let#[#[ss,B],ep,O]:=Aq O;let#[F1,s1,l1,M,r1]:=Lw (U':=[]) (Z':=[]) ↑h3 hl L ep;let h1:B.length=Z.length:=l1.trans hl;let r2:=Rel.comm (U':=ss.map some) (Z':=vs.map some) h1 ↑r1;let h4:(ss.map some).length=(vs.map some).length:=by simp[M,L.len]
 let#[G',r3,gg,bk]:=r2.hide h4;let hn:=h2 _ _ _ O;show#[F1,G',ss,_,_,by rw[L.len,<-M];show hn,r3,O,λs J v F2 H2 hp Y l3 r4=>?_,λd J F2 H2 C dx hp Y l3 r4 cd a s' I Fl=>?_]
 .let r5:=bk Y r4;let z:(J.map some++[some s]).length=(vs.map some++[some v]).length:=by simp[l3,M,L.len]
  let r6:=Rel.comm z r5;let#[l7,r7]:=Hd (ms:=ms) (rs:=rs) (vs:=vs) (U':=[some s]) (Z':=[some v]) r6 h1 (l3.trans M) L;show h6 _ _ v F2 H2 hp (s1.trans Y) r7 trivial
 .let r5:=bk Y r4;let z:(J.map some).length=(vs.map some).length:=by simp[l3,M,L.len]
  let r6:=Rel.comm z r5;let#[l7,r7]:=Hd (ms:=ms) (rs:=rs) (vs:=vs) (U':=[]) (Z':=[]) ↑r6 h1 (l3.trans M) L;show hx d _ Z F2 H2 (.ref a) s' hp rfl (s1.trans Y) ↑r7 I #[a,C,dx,rfl,cd,Fl]
section
variable{K:W.Frag}
def Rel.pushNs(r:Rel K U Z F G H):∀m:Nat,Rel K (U++List.replicate m none) (Z++List.replicate m none) F G H
 |0=>↑r
 |m+1=>by let:=(Rel.pushNs r m).pushN (u:=none);rw[qp,qp,<-List.replicate_succ',<-List.replicate_succ']at this;show this
@[inline]def Args(K:W.Frag)(F:Hp):List S->List V->St->Prop
 |[],[],_=>True
 |s::ss,v::vs,u::Z=>((∃d,s=.sh d/\aN K F v d)\/(s.isSh=false/\u=some v))/\Args K F ss vs Z
 |_,_,_=>False
def Iz:∀{ss:List S}{vs:List V}{fs:List S}{U U' Ua:Env}{Z Z' Za:St},aC ss U=some fs->Rel K (Ua++(U++U')) (Za++(Z++Z')) F G H->Ua.length=Za.length->U.length=Z.length->Args K F ss vs Z->
  fs.length=ss.length/\vs.length=ss.length/\Rel K (Ua++(fs.map some++U')) (Za++(vs.map some++Z')) F G H
 |[],[],fs,U,U',Ua,Z,Z',Za,e,r,h,h2,_=>by
  let z:some ([]:List S)=some fs:=by cases U<;>show e
  cases z;show#[rfl,rfl,?_];let J:=Rel.swap (U1:=U) (Z1:=Z) (U2:=U') (Z2:=Z') h h2 r;rw[<-qp,<-qp]at J;let hl:(Ua++U').length=(Za++Z').length:=by let:=r.len;simp at this;simp;lia
  simpa using J.drop hl
 |[],_::_,_,_,_,_,_,_,_,_,_,_,_,h=>by cases h
 |_::_,[],_,_,_,_,_,_,_,_,_,_,_,h=>by cases h
 |_::_,_::_,_,_,_,_,[],_,_,_,_,_,_,h=>by cases h
 |_::_,_::_,_,[],_,_,_::_,_,_,_,_,_,h2,_=>by simp at h2
 |s::ss,v::vs,fs,o::U,U',Ua,u::Z,Z',Za,e,r,h,h2,ha=>by
  let M:U.length=Z.length:=↑h2
  let#[h1,L]:=ha;rcases h1 with⟨d,rfl,rp⟩|⟨hs,hu⟩
  .have z:(aC ss U).map (S.sh d::·)=some fs:=e;cases q:aC ss U with
   |none=>rw[q]at z;cases z
   |some B=>
    rw[q]at z;let h3:S.sh d::B=fs:=qf z;subst h3;let J:Rel K (Ua++(U++U')) (Za++(Z++Z')) F G H:=Rel.mid (U:=Ua) (Z:=Za) r h;let#[l1,Y,O]:=Iz q J h M L;let hl:(B.map some++U').length=(vs.map some++Z').length:=by let:=O.len;simp at this;simp;lia
    let r3:=O.push rp;rw[qp Ua,qp Za]at r3;let r4:=Rel.swap (U1:=B.map some++U') (Z1:=vs.map some++Z') (U2:=[some (.sh d)]) (Z2:=[some v]) h hl r3;show#[by simp[l1],by simp[Y],r4]
  .subst hu;let z:∃t B,o=some t/\aC ss U=some B/\fs=t::B:=by
    cases s with
    |sh d=>cases hs
    |_=>
     cases o with
     |none=>cases e
     |some t=>
      let z:(aC ss U).map (t::·)=some fs:=e;cases q:aC ss U with
      |none=>rw[q]at z;cases z
      |some B=>rw[q]at z;show#[t,B,rfl,rfl,(qf z).symm]
   let#[t,B,rfl,q,rfl]:=z;let J:Rel K ((Ua++[some t])++(U++U')) ((Za++[some v])++(Z++Z')) F G H:=↑r
   let#[l1,Y,O]:=Iz q J (by simp[h]) M L;show#[by simp[l1],by simp[Y],↑O]
def Ls{ks:List Nat}:∀{ss:List S}{vs:List V}{Z:St}{j:Nat}{fp:List Addr},zu K F0 H (ss.map some) (vs.map some) fp->zr F0 F->(∀i s,ss[i]?=some s->(j+i)∈ks\/s.isSh=true)->
  (∀i v,vs[i]?=some v->(j+i)∈ks->Z[i]?=some (some v))->vs.length<=Z.length->Args K F ss vs Z
 |[],[],_,_,_,_,_,_,_,_=>trivial
 |[],_::_,_,_,_,r,_,_,_,_=>by cases r
 |_::_,[],_,_,_,r,_,_,_,_=>by cases r
 |_::_,_::_,[],_,_,_,_,_,_,h=>by simp at h
 |s::ss,v::vs,u::Z,j,_,.so a b,sm,hk,hv,hl=>by
  show#[?_,Ls (j:=j+1) b sm (λi t e=>by let:=hk (i+1) t e;rwa[show j+(i+1)=j+1+i by lia]at this) (λi t e z=>by simpa using hv (i+1) t ↑e (by rwa[show j+(i+1)=j+1+i by lia])) ↑hl];cases B:s.isSh with
  |true=>
   cases s with
   |sh d=>cases a with
    |sh r=>show .inl #[d,rfl,r.mono sm]
   |_=>cases B
  |false=>show .inr #[rfl,?_];let:=hk 0 s rfl;rw[B]at this;let z:(j+0)∈ks:=this.resolve_right (by simp);simpa using hv 0 v rfl z
theorem KC{st:Stmt}(Fn:uN K x qual st f fd)(Sc:aJ N ps (aA st))(hn:ps.length=n)(hm:N.length=m)
  (hb:∀(O:Value)(A:Around)(B:List PySem.Env)(s:Shared)(H:Hp)(E:XK),bM k (A.deeper (envOfC qual (aA st) s.heap.objs.size f O))->mQ (eT (iN P w) P w K mg base N qual (aA st) f O A B s H E) ks (cB st) wb):
  eV P w K mg base (iN P w) (k+1) f fd ps (eN K (gH n m ks wb) n):=by
 show Fn.okX Sc (λY H Q E h=>?_) (λO A B s H Y Q E hr h=>?_)
 .obtain⟨F,G,ss,P',PX,hl,_⟩:=h;rw[hl,hn]
 .obtain⟨F,G,ss,P',PX,h6,h3,⟨e3,e2,h2⟩,h9,hex⟩:=h;show#[_,hb O A B s H E hr [] (eT (iN P w) P w K mg base N qual (aA st) f O A B s H E).xe PassesOwn.leaving,?_];let e1:N.length-Y.length=m-n:=by rw[h6,hm]
  let h8:Rel K (ss.map some++List.replicate (m-n) none) (L2.start N Y) F G H:=by unfold L2.start;rw[e1];show h3.pushNs (m-n)
  let h7:∀i v,Y[i]?=some v->(L2.start N Y)[i]?=some (some v):=λi v e=>by unfold L2.start;let hi:i<Y.length:=(qg.mp e).1;rw[getElem?_append_left ↑hi,qF,e];rfl
  --how the arguments are at an end
  have h4:∀{U':Env}{Z':St}{F':Hp}{fs:List S},KP ks (L2.start N Y) Z'->zr F F'->U'.length=Z'.length->aC ss U'=some fs->Args K F' ss Y Z':=by
   intro U' Z' F' fs L J M e;let#[fp,en,_]:=h3.en;let h5:Y.length<=Z'.length:=by
    --aC reads as many slots as there are arguments
    have:∀(ss:List S)(U:Env)(fs:List S),aC ss U=some fs->ss.length<=U.length:=by
     intro ss;induction ss with
     |nil=>intro U fs _;simp
     |cons s ss ih=>
      intro U fs e;cases U with
      |nil=>cases s<;>cases e
      |cons o U=>
       have:∃gs,aC ss U=some gs:=by
        cases q:aC ss U with
        |some gs=>show#[gs,rfl]
        |none=>
         cases s with
         |sh d=>have e':(aC ss U).map (S.sh d::·)=some fs:=e;rw[q]at e';cases e'
         |_=>
          cases o with
          |none=>cases e
          |some t=>have e':(aC ss U).map (t::·)=some fs:=e;rw[q]at e';cases e'
       let#[gs,q]:=this;let:=ih U gs q;simp;show this
    let:=this ss U' fs e;lia
   show Ls (ks:=ks) (F:=F') (Z:=Z') (j:=0) en J (λi s e=>by simpa using e2 i s e) (λi v e z=>by rw[L i ↑z];show h7 i v e) h5
  let h1:∀{U':Env}{Z':St}{F' H':Hp}{t:S}{v:V}{fs:List S},KP ks (L2.start N Y) Z'->zr F F'->Rel K (U'++[some t]) (Z'++[some v]) F' G H'->aC ss U'=some fs->P' t fs->Q v H':=by intro U' Z' F' H' t v fs L J r e hp;let M:U'.length=Z'.length:=Af r;let#[l1,l2,r1]:=Iz (Ua:=[]) (Za:=[]) (U':=[some t]) (Z':=[some v]) e r rfl M (h4 L J M e);show h9 t fs v F' H' hp J l1 r1
  show#[F,G,_,_,h8,h2,λU' Z' F' H' h L J r=>?_,λU' Z' F' H' h=>h.elim,λU' Z' F' H' h=>h.elim,λa U' Z' v F' H' h L J r rv=>?_,λd U' Z' F' H' u s' h L J r I xr=>?_]
  .obtain⟨fs,e,h⟩:=Aq h;show h1 L J (r.push .non) e h
  .cases a with
   |v t=>let#[fs,e,h]:=Aq h;show h1 L J r e h
   |loc i=>
    let#[t,et,h]:=Aq h;let hl:=Af r;by_cases hi:i<n
    .rw[q4 hi]at h;let#[fs,e,h]:=Aq h;let#[F2,s2,_,r2]:=AG (x:=.loc i) (s:=.sh t.toD) (U1:=U'.set i (some (.sh t.toD))) (U':=[]) (Z':=[]) r hl rv (by show(match slot U' i with|some s=>some (S.sh s.toD,U'.set i (some (.sh s.toD)))|none=>none)=_;rw[et]);show h1 L (J.trans s2) r2 e h
    .rw[q5 hi]at h;let#[fs,e,h]:=Aq h;let r2:=Rel.lend (U':=[]) (Z':=[]) r hl et rv;refine h1 L J r2 ?_ h
     --the slot lies behind the parameters
     have:∀(ss:List S)(U:Env)(i:Nat),ss.length<=i->aC ss (U.set i none)=aC ss U:=by
      intro ss;induction ss with
      |nil=>intro U i _;cases U<;>cases i<;>rfl
      |cons s ss ih=>
       intro U i hi;cases U with
       |nil=>rfl
       |cons o U=>
        cases i with
        |zero=>simp at hi
        |succ i=>
         let e:=ih U i ↑hi;cases s with
         |sh d=>show(aC ss (U.set i none)).map _=(aC ss U).map _;rw[e]
         |_=>
          cases o with
          |none=>rfl
          |some t=>show(aC ss (U.set i none)).map _=(aC ss U).map _;rw[e]
     rw[this ss U' i ∅];show e
  .obtain⟨fs,e,h⟩:=Aq h;let#[a,C,dx,rfl,cd,Fl]:=xr;let#[l1,l2,r1]:=Iz (K:=K) (Ua:=[]) (Za:=[]) (U':=[]) (Z':=[]) e (by simpa using(show Rel K U' Z' F' G H' from r)) rfl r.len (h4 L J r.len e);show Rt I Fl (hex d fs F' H' C dx h J l1 ↑r1 cd)
end
end FL
namespace L2
open PySem PySem.Spec PyProof.Rows
def cG(cells:List (Str×Addr)):List (Str×NameKind)->List (Str×Addr)->List (Str×Addr)
 |[],zM=>zM
 |(n,k)::r,zM=>if k==.free then(match cells.lookup n with|some c=>cG cells r ((n,c)::zM)|none=>cG cells r zM)else cG cells r zM
def Kn(f:Str×NameKind->List (Str×Addr)->Sem (ForInStep (List (Str×Addr))))
  (hf:∀n k cs,f (n,k) cs=if k==.free then(do let a<-cellOf env n;pure (.yield ((n,a)::cs)))else pure (.yield cs)):
  ∀(names:List (Str×NameKind))(zM:List (Str×Addr)),(∀x∈names,x.2=.free->∃c,env.cells.lookup x.1=some c)->(forIn names zM f:Sem _)=pure (cG env.cells names zM)
 |[],zM,_=>by rw[List.forIn_nil];rfl
 |(n,k)::r,zM,h=>by
  rw[List.forIn_cons,hf];let hr:∀x∈r,x.2=.free->∃c,env.cells.lookup x.1=some c:=λx hx=>h x (qk _ hx);by_cases hk:(k==.free)=true
  .obtain⟨c,hc⟩:=h (n,k) qm ↑hk;let hc':env.cells.lookup n=some c:=hc;let e:cellOf env n=pure c:=by unfold cellOf;rw[hc']
   rw[q4 hk,e];let ih:=Kn f hf r ((n,c)::zM) hr;unfold cG;rw[q4 hk,hc'];rw[<-ih];simp
  .rw[q5 hk];let ih:=Kn f hf r zM hr;unfold cG;rw[q5 hk,<-ih];simp
def Vl(h:∀x∈scope.names,x.2=.free->∃c,env.cells.lookup x.1=some c):closureFor scope env=pure (cG env.cells scope.names []):=by show(forIn scope.names ([]:List (Str×Addr)) _>>=λv=>pure v)=_;rw[Kn (env:=env) _ (λn k v=>rfl) scope.names [] h];rfl
def Iy:∀{names:List (Str×NameKind)}{v:List (Str×Addr)},(n,c)∈cG cells names v->(n,c)∈v\/((n,NameKind.free)∈names/\cells.lookup n=some c)
 |[],_,h=>.inl h
 |(m,k)::r,v,h=>by
  unfold cG at h;by_cases F:(k==.free)=true
  .rw[q4 F]at h;let B:k=.free:=by simpa using F
   cases q:cells.lookup m with
   |none=>
    rw[q]at h;rcases Iy h with z|⟨z,w⟩
    .show .inl z
    .show .inr #[qk _ z,w]
   |some d=>
    rw[q]at h;rcases Iy h with z|⟨z,w⟩
    .rcases qA.mp z with e|z
     .cases e;show .inr #[by rw[<-B];show qm,q]
     .show .inl z
    .show .inr #[qk _ z,w]
  .rw[q5 F]at h;rcases Iy h with z|⟨z,w⟩
   .show .inl z
   .show .inr #[qk _ z,w]
def Hh(B:cells.lookup n=some c):∀{names:List (Str×NameKind)}{v:List (Str×Addr)},((n,c)∈v\/(n,NameKind.free)∈names)->(n,c)∈cG cells names v
 |[],_,h=>h.elim id λz=>by simp at z
 |(m,k)::r,v,h=>by
  unfold cG;by_cases F:(k==.free)=true
  .rw[q4 F];cases q:cells.lookup m with
   |none=>
    show Hh B ?_;rcases h with z|z
    .show .inl z
    .rcases qA.mp z with e|z
     .cases e;rw[B]at q;cases q
     .show .inr z
   |some d=>
    show Hh B ?_;rcases h with z|z
    .show .inl (qk _ z)
    .rcases qA.mp z with e|z
     .cases e;rw[B]at q;cases q;show .inl qm
     .show .inr z
  .rw[q5 F];show Hh B ?_;rcases h with z|z
   .show .inl z
   .rcases qA.mp z with e|z
    .cases e;show(F ⋯).elim
    .show .inr z
def Oa{α:Type}:∀{l:List (Str×α)}{n:Str}{c:α},(n,c)∈l->(∀v,(n,v)∈l->v=c)->l.lookup n=some c
 |[],_,_,h,_=>by simp at h
 |(m,d)::r,n,c,h,u=>by
  rw[lookup_cons];cases z:n==m with
  |true=>
   let e:n=m:=↑z
   subst e;show congrArg some (u d qm)
  |false=>
   show Oa (l:=r) ?_ λv B=>u v (qk _ B);rcases qA.mp h with e|h
   .cases e;simp at z
   .show h
def Ki:∀{names:List (Str×NameKind)}{n:Nat}{v:List (Str×Addr)}{x:Str}{c:Addr},(x,c)∈cellsFrom n names v->(x,c)∈v\/((x,NameKind.cell)∈names/\n<=c)
 |[],_,_,_,_,h=>.inl h
 |(m,k)::r,n,v,x,c,h=>by
  unfold cellsFrom at h;by_cases F:(k==.cell)=true
  .rw[q4 F]at h;let B:k=.cell:=by simpa using F
   rcases Ki h with z|⟨z,w⟩
   .rcases qA.mp z with e|z
    .cases e;show .inr #[by rw[<-B];show qm,q8 _]
    .show .inl z
   .show .inr #[qk _ z,∅]
  .rw[q5 F]at h;rcases Ki h with z|⟨z,w⟩
   .show .inl z
   .show .inr #[qk _ z,w]
def Hq:∀{names:List (Str×NameKind)}{n:Nat}{v:List (Str×Addr)}{x:Str},((x,NameKind.cell)∈names\/∃c,(x,c)∈v)->∃c,(x,c)∈cellsFrom n names v
 |[],_,_,_,h=>h.elim (λz=>by simp at z) id
 |(m,k)::r,n,v,x,h=>by
  unfold cellsFrom;by_cases B:(k==.cell)=true
  .rw[q4 B];show Hq ?_;rcases h with z|⟨c,z⟩
   .rcases qA.mp z with e|z
    .cases e;show .inr #[n,qm]
    .show .inl z
   .show .inr #[c,qk _ z]
  .rw[q5 B];show Hq ?_;rcases h with z|z
   .rcases qA.mp z with e|z
    .cases e;show(B ⋯).elim
    .show .inl z
   .show .inr z
def IB{α:Type}:∀{l:List (Str×α)}{x:Str},(∃c,(x,c)∈l)->∃c,l.lookup x=some c
 |[],_,⟨_,h⟩=>by simp at h
 |(m,d)::r,x,⟨c,h⟩=>by
  rw[lookup_cons];cases v:x==m with
  |true=>show#[d,rfl]
  |false=>
   show IB (l:=r) #[c,?_];rcases qA.mp h with e|h
   .cases e;simp at v
   .show h
def Kp:∀{names:List (Str×NameKind)}{n:Nat}{v:List (Str×Addr)},(∀p∈v,p.2<n)->(∀p∈v,∀q∈v,p.2=q.2->p.1=q.1)->
  ∀p∈cellsFrom n names v,∀q∈cellsFrom n names v,p.2=q.2->p.1=q.1
 |[],_,_,_,h=>h
 |(m,k)::r,n,v,hb,h=>by
  unfold cellsFrom;by_cases G:(k==.cell)=true
  .rw[q4 G];refine Kp (λp z=>?_) λp z q B e=>?_
   .rcases qA.mp z with rfl|z
    .show lt_succ_self _
    .show lt_succ_of_lt (hb p z)
   .rcases qA.mp z with rfl|z<;>rcases qA.mp B with rfl|B
    .rfl
    .let h1:=hb q B;let F:n=q.2:=e;show absurd h1 (by rw[<-F];show lt_irrefl _)
    .let h1:=hb p z;let F:p.2=n:=e;show absurd h1 (by rw[F];show lt_irrefl _)
    .show h p z q B e
  .rw[q5 G];show Kp hb h
def Vi
  (hQ:∀h':Heap,(∀b o,s.heap.get? b=some o->h'.get? b=some o)->h'.Ns s.heap.objs.size (λ_=>none)->(∀x c,(x,c)∈cellsFrom (s.heap.objs.size+1) scope.names F->(x,c)∈F\/h'.IsCell c none)->
   Q {scope:=scope,locals:=s.heap.objs.size,globals:=globals,cells:=cellsFrom (s.heap.objs.size+1) scope.names F,qual:=qual,func:=none,code:=env.code,frame:=env.frame,builtins:=env.builtins} {s with heap:=h'}):
  wpAny M A (newFunctionEnv scope globals F [] qual none .none (some env)) Q E s:=by
 simp only[newFunctionEnv,isSome_some,if_true];show qa (wpAny_alloc ?_);show qa (wpAny_layCells _ (λJ kind cells=>by cases Y:kind==NameKind.cell<;>simp) _ _ _ _ ?_);rw[show({s with heap:=s.heap.push {cls:=.type "dict",data:=.dict #[]}}:Shared).heap.objs.size=s.heap.objs.size+1 from Heap.size_push ..];show qb (hQ _ (λb o e=>pushCells_keeps _ _ b o (qc _ e)) ((Heap.Ns.new s.heap (.type "dict")).keeps (pushCells_keeps _ _)) λx c h=>?_)
 --the new cells are empty
 have all:∀(names:List (Str×NameKind))(h:Heap)(B:List (Str×Addr)),(∀p∈B,p∈F\/h.IsCell p.2 none)->∀p∈cellsFrom h.objs.size names B,p∈F\/(pushCells h names).IsCell p.2 none:=by
  intro names;induction names with
  |nil=>intro h B G p v;show G p v
  |cons q r L=>
   intro h B G p v;let#[m,k]:=q;unfold cellsFrom at v;unfold pushCells;by_cases O:(k==.cell)=true
   .rw[q4 O]at v⊢;let e:(h.push {cls:=.type "cell",data:=.cell none}).objs.size=h.objs.size+1:=Heap.size_push ..;rw[<-e]at v;show L _ _ (λp v=>?_) p v;rcases qA.mp v with rfl|v
    .show .inr #[_,qd _ rfl,rfl]
    .rcases G p v with z|z
     .show .inl z
     .show .inr (z.keeps λb o e=>qc _ e)
   .rw[q5 O]at v⊢;show L h B G p v
 let:=all scope.names (s.heap.push {cls:=.type "dict",data:=.dict #[]}) F (λp v=>.inl v) (x,c) (by rw[Heap.size_push];show h);show this
def fR(N vars:List Str):List Str:=N.map (λx=>if x∈vars then Str.empty else x)++Str.empty::vars
def aB(X:Cx)(scope:Scope)(vars:List Str)(s:Shared)(H:Hp)(ex:List Addr):Cx where
 prog:=X.prog
 w:=X.w
 K:=X.K
 mg:=X.mg
 base:=X.base
 A:=X.A
 N:=fR X.N vars
 s₀:=s
 H₀:=H
 env:=compEnvC scope (cellsFrom (s.heap.objs.size+1) scope.names (cG X.env.cells scope.names [])) s.heap.objs.size X.env
 outer:=X.stack
 stack:=X.stack
 ex:=ex
 fn:=λx=>decide ((x,NameKind.cell)∈scope.names)
 calm:=X.calm
 pn:=[]
 xe:=λ_ _=>False
structure bS(outer scope:Scope)(N vars:List Str):Prop where
 kind:scope.kind=.function
 fr:∀x∈scope.names,x.2=.free->outer.names.lookup x.1=some .cell\/outer.names.lookup x.1=some .free
 nd:(scope.names.map (·.1)).Nodup
 own:∀x∈N,x∉vars->(x,NameKind.local)∉scope.names/\(x,NameKind.cell)∉scope.names
 emp:scope.names.lookup Str.empty=none
def ID{α:Type}{l:List (Str×α)}{c:α}(v:(l.map (·.1)).Nodup):l.lookup n=some c↔(n,c)∈l:=by
 show#[mem_of_lookup,λh=>Oa h λB h'=>?_];induction l with
 |nil=>simp at h
 |cons p r z=>grind
theorem NW{α β:Type}(g:Str->α->β):∀(l:List (Str×α))(n:Str),(l.map λp=>(p.1,g p.1 p.2)).lookup n=(l.lookup n).map (g n)
 |[],_=>rfl
 |(m,d)::r,n=>by
  rw[qy,lookup_cons,lookup_cons];cases v:n==m with
  |true=>have e:n=m:=by simpa using v
         subst e;rfl
  |false=>show NW g r n
def rl(env:PySem.Env)(n:Str)(k:NameKind):NameKind:=if(k==NameKind.free&&env.scope.kind==.function&&env.kindOf n==some .cell)then NameKind.cell else k
def Vn(scope:Scope)(env:PySem.Env):(relabel scope env).names=scope.names.map λp=>(p.1,rl env p.1 p.2):=by
 show map_congr_left λp _=>?_;let#[n,k]:=p;show(if(k==NameKind.free&&env.scope.kind==.function&&env.kindOf n==some .cell)=true then(n,NameKind.cell)else(n,k))=(n,rl env n k);unfold rl;by_cases h:(k==NameKind.free&&env.scope.kind==.function&&env.kindOf n==some .cell)=true
 .rw[q4 h,q4 h]
 .rw[q5 h,q5 h]
def IC(scope:Scope)(env:PySem.Env)(x:Str):(relabel scope env).names.lookup x=(scope.names.lookup x).map (rl env x):=by rw[Vn,NW]
def GQ(h:k≠.free):rl env x k=k:=by unfold rl;rw[q5];intro z;simp at z;show h z.1.1
def QQ:rl env x .free=.cell\/rl env x .free=.free:=by
 unfold rl;split
 .show .inl rfl
 .show .inr rfl
def SZ(h:(fR N vars)[i]?=some x)(hi:i<N.length):(N[i]?=some x/\x∉vars)\/x=Str.empty:=by
 unfold fR at h;rw[getElem?_append_left ↑hi,qF]at h;cases q:N[i]? with
 |none=>rw[q]at h;cases h
 |some y=>grind
def Inv.comp(I:Inv X zH Z H s)(S:bS X.env.scope scope X.N vars)(hex:∀b∈ex,cX X zH H b/\b<s.heap.objs.size)(kept:∀b o,s.heap.get? b=some o->h'.get? b=some o)(h7:h'.Ns s.heap.objs.size (λ_=>none))
  (h9:∀x c,(x,c)∈cellsFrom (s.heap.objs.size+1) scope.names (cG X.env.cells scope.names [])->(x,c)∈cG X.env.cells scope.names []\/h'.IsCell c none)(hk:vars.length=k)(w0:Option V):
  Inv (aB X scope vars s H ex) [] (Z++w0::List.replicate k none) H {s with heap:=h'}:=by
 have cm:∀{x:Str}{c:Addr},(x,c)∈cG X.env.cells scope.names []->(x,NameKind.free)∈scope.names/\X.env.cells.lookup x=some c:=λ{x c} h=>by
  rcases Iy h with z|z
  .simp at z
  .show z
 let lt:∀{x:Str}{c:Addr},X.env.cells.lookup x=some c->c<s.heap.objs.size:=λ{x c} h=>by let#[v,z]:=I.cell x c h;show z.lt
 have AH:∀{x:Str}{c:Addr},(aB X scope vars s H ex).env.cells.lookup x=some c->(X.env.cells.lookup x=some c/\(x,NameKind.free)∈scope.names)\/((x,NameKind.cell)∈scope.names/\s.heap.objs.size+1<=c):=λ{x c} h=>by
  rcases Ki (mem_of_lookup h)with z|z
  .show .inl #[(cm z).2,(cm z).1]
  .show .inr z
 let uniq:∀{x:Str}{a b:NameKind},(x,a)∈scope.names->(x,b)∈scope.names->a=b:=λ{x a b} h1 h2=>by let e1:=(ID S.nd).mpr h1;let e2:=(ID S.nd).mpr h2;rw[e1]at e2;show qf e2
 --what a visible name is,seen from around
 have h4:∀{x:Str},((relabel scope X.env).names.lookup x=some .cell\/(relabel scope X.env).names.lookup x=some .free)->(x,NameKind.cell)∈scope.names\/(x,NameKind.free)∈scope.names:=λ{x} h=>by
  rw[IC]at h;cases q:scope.names.lookup x with
  |none=>rw[q]at h;rcases h with h|h<;>cases h
  |some k=>
   let L:=mem_of_lookup q;rw[q]at h;let h0:some (rl X.env x k)=some .cell\/some (rl X.env x k)=some .free:=h;cases k with
   |cell=>show .inl L
   |free=>show .inr L
   |«local»=>rw[GQ ⋯]at h0;rcases h0 with h|h<;>cases h
   |globalImplicit=>rw[GQ ⋯]at h0;rcases h0 with h|h<;>cases h
   |globalExplicit=>rw[GQ ⋯]at h0;rcases h0 with h|h<;>cases h
 have ok:(aB X scope vars s H ex).Ok:=by
  show#[I.ok.mod,S.kind,I.ok.glob,I.ok.blt,q8 _,λx y c h1 h2=>?_,λx h=>?_,λx c hf h=>?_,I.ok.hd,I.ok.frames,.inl rfl,λb M=>#[?_,λx c h z=>?_],I.bs,le_trans I.ok.bsz I.sz,λb o e M=>?_,λb M z=>?_,I.stack,I.stkFree]
  .refine Kp (λp hp=>?_) (λp hp q hq e=>?_) (x,c) (mem_of_lookup h1) (y,c) (mem_of_lookup h2) rfl
   .show lt_succ_of_lt (lt (cm (x:=p.1) (c:=p.2) hp).2)
   .show I.ok.inj _ _ _ (cm (x:=p.1) (c:=p.2) hp).2 (e▸(cm (x:=q.1) (c:=q.2) hq).2)
  .rcases h4 h with z|z
   .show IB (Hq (.inl z))
   .obtain⟨c,hc⟩:=I.ok.has x (S.fr (x,.free) z rfl);show IB (Hq (.inr #[c,Hh hc (.inr z)]))
  .let h8:(x,NameKind.cell)∈scope.names:=qU hf;rcases AH h with⟨_,z⟩|⟨_,z⟩
   .cases uniq h8 z
   .show Nat.le_of_succ_le z
  .show ne_of_lt (hex b M).2
  .rcases AH h with⟨w,_⟩|⟨_,w⟩
   .show(hex b M).1.2.2.2.2.1 x c w z
   .let h1:=(hex b M).2;rw[<-z]at h1;show absurd (lt_of_lt_of_le h1 (Nat.le_of_succ_le w)) (lt_irrefl _)
  .obtain⟨_,_,_,h1,_⟩:=(hex b M).1;rcases h1 with z|z
   .show I.ok.noex b o e z
   .rw[(I.ok.bs b o e).1]at z;cases z
  .obtain⟨_,h2,O,_⟩:=(hex b M).1;rcases qA.mp (I.stkSub b z)with w|w
   .show h2 w
   .show O w
 let F:∀{c:Addr}{v:Option Value},s.heap.IsCell c v->h'.IsCell c v:=λz=>z.keeps kept;show#[ok,rfl,I.bare,Un.kept kept,#[_,h7,λi x v h1 h2 O=>?_],λx c h=>?_,I.hok.fresh (q8 _),λx c h=>?_,λp hp=>absurd (show p∈([]:List (Addr×Obj)) from hp) (by simp),I.hok.kept kept,?_]
 ·--a slot of the context
  let h5:¬xD (aB X scope vars s H ex).env.scope Str.empty:=λO=>by let G:(relabel scope X.env).names.lookup Str.empty=some .local\/(relabel scope X.env).names.lookup Str.empty=some .cell\/(relabel scope X.env).names.lookup Str.empty=some .free:=O;rw[IC,S.emp]at G;rcases G with z|z|z<;>cases z
  have hi:i<Z.length:=by
   by_cases hi:i<Z.length
   .show hi
   .exfalso;rw[getElem?_append_right (not_lt.mp hi)]at h2;cases q:i-Z.length with
    |zero=>
     let e:i=X.N.length:=by let:=I.len;lia
     rw[e]at h1;let Y:(fR X.N vars)[X.N.length]?=some x:=h1;unfold fR at Y;simp at Y;subst Y;show h5 O
    |succ j=>rw[q,List.getElem?_cons_succ,List.getElem?_replicate]at h2;split at h2<;>cases h2
  rw[getElem?_append_left hi]at h2;rcases SZ h1 (by rw[<-I.len];show hi)with⟨h1,hx⟩|rfl
  .have own:=S.own x (qM h1) hx;let B:(x,NameKind.free)∈scope.names:=by
    let G:(relabel scope X.env).names.lookup x=some .local\/(relabel scope X.env).names.lookup x=some .cell\/(relabel scope X.env).names.lookup x=some .free:=O;rcases G with z|z
    .rw[IC]at z;cases q:scope.names.lookup x with
     |none=>rw[q]at z;cases z
     |some kk=>
      rw[q]at z;let z0:some (rl X.env x kk)=some .local:=z;let L:=mem_of_lookup q;cases kk with
      |«local»=>show absurd L own.1
      |cell=>show absurd L own.2
      |free=>show L
      |globalImplicit=>rw[GQ ⋯]at z0;cases z0
      |globalExplicit=>rw[GQ ⋯]at z0;cases z0
    .rcases h4 z with w|w
     .show absurd w own.2
     .show w
   let J:=S.fr (x,.free) B rfl;let#[m,L,hl]:=I.loc;let#[u,r,l]:=hl i x v h1 h2 (J.elim (λz=>.inr (.inl z)) λz=>.inr (.inr z));show#[u,r,.inr #[?_,?_]]
   .show(relabel scope X.env).names.lookup x=some .cell\/(relabel scope X.env).names.lookup x=some .free;rw[IC,(ID S.nd).mpr B];show some (rl X.env x .free)=_\/some (rl X.env x .free)=_;rcases QQ (env:=X.env) (x:=x)with e|e<;>rw[e]
    .show .inl rfl
    .show .inr rfl
   .rcases l with⟨z,_⟩|⟨_,c,hc,z⟩
    .let z':X.env.scope.names.lookup x=some .local:=z;rcases J with w|w<;>(have w':X.env.scope.names.lookup x=_:=w;rw[w']at z';cases z')
    .show#[c,?_,F z];let#[c',h6]:=IB (Hq (n:=s.heap.objs.size+1) (names:=scope.names) (.inr #[c,Hh hc (.inr B)]));rcases AH h6 with⟨w,_⟩|⟨w,_⟩
     .rw[hc]at w;cases w;show h6
     .cases uniq B w
  .show absurd O h5
 .rcases h9 x c (mem_of_lookup h)with z|z
  .obtain⟨v,w⟩:=I.cell x c (cm z).2;show#[v,F w]
  .show#[none,z]
 .rcases AH h with⟨w,_⟩|⟨_,w⟩
  .show I.freeC x c w
  .show I.hok.fresh (Nat.le_of_succ_le w)
 .show _=(fR X.N vars).length;unfold fR;simp[I.len,hk]
abbrev TB:=St->Hp->(St->Hp->Prop)->Prop
def kM(X:Cx)(m:Sem Unit)(t:TB):Prop:=∀(zH:List (Addr×Obj))(s:Shared)(Z:St)(H:Hp)(Q:St->Hp->Prop),Inv X zH Z H s->t Z H Q->
 wpAny (model X.prog X.w) X.A m (λ_ s'=>∃Z' H',Inv X zH Z' H' s'/\Q Z' H') (λ_ _=>False) s
def fU(X:Cx)(ifs:List Expr)(t:TT):Prop:=∀(zH:List (Addr×Obj))(s:Shared)(Z:St)(H:Hp)(Q:Bool->Hp->Prop),Inv X zH Z H s->t Z H Q->
 wpAny (model X.prog X.w) X.A (forIn ifs true λc r=>if r=true then do let ok<-isTrue c X.env (eval c X.env);pure (ForInStep.yield ok)else pure (ForInStep.yield r)) (TP X zH Z Q) X.xe s
def Tn:fU X [] (λ_ H Q=>Q true H):=λzH s Z H Q I q=>wpAny_tests_nil #[H,I,q]
def Sm(h:PT X c t):fU X [c] t:=λzH s Z H Q I q=>wpAny_tests_one (h zH s Z H Q I q)
def fE(g:TG)(tc:TT)(tb:TB)(J:It):TB:=λZ H Q=>∃W:Nat->Nat->St->Hp->Prop,(∃m,W 0 m Z H)/\∀i m Z H,W i m Z H->
 (J.stop i H/\Q Z H)\/(J.go i H/\∃N:St->Hp->Prop,(∀Z' H',N Z' H'->∃z,z<m/\W (i+1) z Z' H')/\∀x H',J.yld i H x H'->g x Z H' λv H2=>tc v H2 λb B=>if b=true then tb v B N else N v B)
def gP(X:Cx)(e:Expr)(d:Nat)(v:Value)(tg:Expr)(B:It->TB):Prop:=∀(zH:List (Addr×Obj))(s:Shared)(Z:St)(H:Hp)(J:It)(fp:List Addr)(it:Addr)(z:Nat->Heap->Prop)(Q:St->Hp->Prop),Inv X zH Z H s->
 iK X.prog X.w X.K tg J fp it z->z 0 s.heap->(∀b∈fp,cX X zH H b)->B J Z H Q->
 codeAny (model X.prog X.w) X.A (.compLoop e d (.ref it) v X.env) (λr s'=>∃Z' H',r=.ok .next/\Inv X zH Z' H' s'/\Q Z' H') s
def jH(X:Cx)(m:Sem Fin)(c:Code)(t:TB):Prop:=∀(zH:List (Addr×Obj))(s:Shared)(Z:St)(H:Hp)(Q:St->Hp->Prop),Inv X zH Z H s->t Z H Q->
 wpAny (model X.prog X.w) X.A m (λf s'=>f=.again c/\∃Z' H',Inv X zH Z' H' s'/\Q Z' H') (λ_ _=>False) s
def kM.f(h:kM X m t):jH X (m>>=λ_=>again c) c t:=λzH s Z H Q I q=>qa (zi (h zH s Z H Q I q) (λ_ s' z=>qb #[rfl,z]) λ_ _ z=>z)
def GK{inner:Addr->Sem Fin}(hc:X.calm=true)(hxe:X.xe=λ_ _=>False)(hg:PG X tg g)(ht:fU X ifs tc)(hr:∀it,jH X (inner it) (.compLoop e d (.ref it) zM X.env) tb)
  (hq:∀it,(Code.compLoop e d (.ref it) zM X.env).quiet=true)(hun:∀it,X.A.under (.compLoop e d (.ref it) zM X.env)=X.A)
  (hden:∀it,(model X.prog X.w).den (.compLoop e d (.ref it) zM X.env)=(compTurn e d (.ref it) zM X.env).onRaise (λx=>do noteFrame x X.env;theTreesLotGoes x))
  (heq:∀it,compTurn e d (.ref it) zM X.env=(standAt ipos>>=λ_=>pyNext (.ref it)>>=λr=>match r with
   |none=>pure (.done .next)
   |some v=>letOwnedTupleGo tg (.ref it) v>>=λ_=>assign tg X.env v>>=λ_=>(forIn ifs true λc r=>if r=true then do let ok<-isTrue c X.env (eval c X.env);pure (ForInStep.yield ok)else pure (ForInStep.yield r))>>=λok=>if ok=true then inner it else again (.compLoop e d (.ref it) zM X.env))):
  gP X e d zM tg (fE g tc tb):=by
 intro zH s Z H J fp it tn Q I T st f ⟨W,⟨m0,w0⟩,turn⟩;let stat:∀{H':Hp},(∀b∈fp,H' b=none)->∀b∈fp,cX X zH H' b:=λhn b hb=>#[hn b hb,(f b hb).2]
 let nox:∀{α:Type}{m:Sem α}{Q:α->Shared->Prop}{E:zj}{s:Shared},wpAny (model X.prog X.w) X.A m Q X.xe s->wpAny (model X.prog X.w) X.A m Q E s:=λh=>zi h (λ_ _ q=>q) λ_ _ x=>by rw[hxe]at x;show x.elim
 show codeAny_loop (hq it) (λn s'=>∃i Z' H',Inv X zH Z' H' s'/\tn i s'.heap/\(∀b∈fp,H' b=none)/\W i n Z' H') ?_ m0 #[0,Z,H,I,st,λb hb=>(f b hb).1,w0];rintro n s3 ⟨i,Z3,H3,I3,st3,fr3,w3⟩;rw[hun,hden];show wpAny_noted ?_;rw[heq];show qa (wpAny_standAt (qa ?_));rcases turn i n Z3 H3 w3 with⟨stop,qn⟩|⟨go,N,hN,step⟩
 .show Am (T.done X rfl rfl rfl hc i zH s3 Z3 H3 _ I3 (stat fr3) st3 stop) λr s4⟨hr,I4⟩=>?_;subst hr;show qb #[Z3,H3,rfl,I4,qn]
 .show Am (T.item X rfl rfl rfl hc i zH s3 Z3 H3 _ I3 (stat fr3) st3 go) λr s4 zq=>?_;let#[u,hr',h4]:=zq;subst hr';show qa (Am h4 λ_ s5 zq=>?_);show cps λ_ kk=>?_;let#[x,H5,I5,r5,y5,st5,fr5]:=zq;show kk ?_;let I5':=I5.pinned (stat fr5) (T.obj _ _ st5);show qa (nox (Am (hg _ s5 Z3 H5 x u _ I5' r5 (step x H5 y5)) λ_ s6 zq=>?_));let#[Z6,H6,I6,q6]:=zq;let again:∀{Z7:St}{H7:Hp}{s7:Shared},Inv X (zH++fI fp s5.heap) Z7 H7 s7->N Z7 H7->∃m,m<n/\∃i Z' H',Inv X zH Z' H' s7/\tn i s7.heap/\(∀b∈fp,H' b=none)/\W i m Z' H':=λ{Z7 H7 s7} I7 n7=>by let#[m',hm,w7]:=hN Z7 H7 n7;show#[m',hm,i+1,Z7,H7,I7.unpinned,T.keep _ _ _ st5 λb hb o e=>(I7.pin (b,o) (qi _ (qi _ (Iq hb e)))).1,λb hb=>?_,w7];let#[o,e,d]:=T.obj _ _ st5 b hb;exact(I7.pin (b,o) (qi _ (qi _ (Iq hb e)))).2.1
  show qa (nox (Am (ht _ s6 Z6 H6 _ I6 q6) λb s7 zq=>?_));let#[H7,I7,q7]:=zq;cases b with
  |true=>show zi (hr it _ s7 Z6 H7 _ I7 q7) (λf s8 zq=>?_) λ_ _ z=>z.elim;let#[ef,Z8,H8,I8,n8]:=zq;subst ef;show#[rfl,again I8 n8]
  |false=>show qb #[rfl,again I7 q7]
def MZ(hl:gP X e d zM tg tl)
  (hq:∀it,(Code.compLoop e d (.ref it) zM X.env).quiet=true)(hun:∀it,X.A.under (.compStart e d (.ref it) zM X.env)=X.A)
  (hden:∀it,(model X.prog X.w).den (.compStart e d (.ref it) zM X.env)=(compStart e d (.ref it) zM X.env).onRaise (λx=>do noteFrame x X.env;standAt theWindowsPlace))
  (heq:∀it,∃p,compStart e d (.ref it) zM X.env=(ask>>=λc=>if c.params.followText "comprehension-iter-twice"=true then again (.compLoop e d (.ref it) zM X.env)else
   rule "comprehension.iter-twice">>=λ_=>standAt p>>=λ_=>pyIter (.ref it)>>=λit'=>again (.compLoop e d it' zM X.env)))(I:Inv X zH Z H s)
  (T:iK X.prog X.w X.K tg J fp it tn)(st:tn 0 s.heap)(f:∀b∈fp,cX X zH H b)(q:tl J Z H Q):
  codeAny (model X.prog X.w) X.A (.compStart e d (.ref it) zM X.env) (λr s'=>∃Z' H',r=.ok .next/\Inv X zH Z' H' s'/\Q Z' H') s:=by
 let h0:=hl zH s Z H J fp it tn Q I T st f q;show codeAny_of_tree ?_;rw[hun,hden];show wpAny_notedAt ?_;let#[p,e]:=heq it;rw[e];show qa (wpAny_askSetting (wpAny_ite ?_));split
 .show qb #[hq it,h0]
 .show qa (wpAny_rule (qa (wpAny_standAt (qa (T.self X.A 0 s _ _ st (qb #[hq it,h0]))))))
end L2
namespace FL
open PySem PySem.Spec PyProof.Rows L2
inductive pC(X:Cx)(n:Nat)(D:Addr)(b:WB)(Z:St)(H:Hp)(Q:St->Hp->Prop):Prop
 |mk (F G:Hp) (U:Env) (P:Env->Prop) (zJ:Rel X.K U Z F G H) (hs:Z[n]?=some (some (.ref D))) (hw:b U P NX) (hn:∀U' Z' F' H',P U'->KP (List.range (n+1)) Z Z'->zr F F'->Rel X.K U' Z' F' G H'->Q Z' H'):pC X n D b Z H Q
def IG:XC X T F G NX:=λ_ _ _ _ _ _ _ z=>z.elim
section
variable{K:W.Frag}
def zv.snoc(b:zv K F H xs l fp)(r:aK K F H v s fq):zv K F H (xs++[v]) (l++[s]) (fp++fq):=
 zv.ind (P:=λxs l fp=>zv K F H (xs++[v]) (l++[s]) (fp++fq)) (by let:=zv.cons r .nil;rwa[qz]at this) (λa _ z=>by rw[qp];show .cons a z) b
def zv.len(r:zv K F H xs l fp):xs.length=l.length:=zv.ind (P:=λxs l _=>xs.length=l.length) rfl (λ_ _ v=>congrArg (·+1) v) r
def Rel.append{D:Addr}(r:Rel K (U++[some s]) (Z++[some v]) F G H)(hs:slot U n=some (.lst l))(J:Z[n]?=some (some (.ref D))):
  ∃xs,H D=some (.lst xs)/\xs.length=l.length/\Rel K (U.set n (some (.lst (l++[s])))) Z F G (upd H D (.lst (xs++[v]))):=by
 let hl:=Af r;let#[fp,e,nd,ap]:=r.en;let#[f1,f2,rfl,a,b]:=e.cut hl;let#[v',fa,fi,fb,e1,rfl,q,up]:=a.at hs;rw[J]at e1;let e2:V.ref D=v':=↑e1
 subst e2;cases q with
 |lst hD rl=>
  rename_i xs fl;cases b with
  |so sr nl=>
   cases nl;rename_i fs;show#[xs,hD,rl.len,?_];let es:Z.set n (some (.ref D))=Z:=by
    apply ext_getElem?;intro j;by_cases hj:n=j
    .subst hj;rw[getElem?_set_self (qg.mp J).1,J]
    .rw[getElem?_set_ne hj]
   --D is nobody else's
   let#[n1,n2,Y]:=qw.mp nd;let#[na,B,O]:=qw.mp n1;let#[ni,nb,B]:=qw.mp B;let#[nD,h4]:=qL.mp ni;let h3:D∉fa:=λz=>O D z D (qj _ qm) rfl;let h2:D∉fb:=λz=>B D qm D z rfl;let h1:D∉fs:=λz=>Y D (qi _ (qj _ qm)) D ↑z rfl;let M:=ap D (qj _ (qi _ (qj _ qm)));let ne:∀{l:List Addr},D∉l->∀x∈l,upd H D (.lst (xs++[v])) x=H x:=λh x L=>Ap λz=>h (z▸L);let new:aK K F (upd H D (.lst (xs++[v]))) (.ref D) (.lst (l++[s])) (D::(fl++fs)):=.lst Bl (zv.snoc (rl.mono (zr.refl F) (ne nD)) (sr.mono (zr.refl F) (ne h1)));let a2:=up (F':=F) (H':=upd H D (.lst (xs++[v]))) (o:=some (.lst (l++[s]))) (u:=some (.ref D)) (zr.refl F) (λx L=>Ap λz=>(qx.mp L).elim (λw=>h3 (z▸w)) λw=>h2 (z▸w)) (.so new .nil);rw[es]at a2;let p:(fa++((D::(fl++fs))++[]++fb)).Perm (fa++((D::fl)++fb)++(fs++[])):=by simp;show List.Perm.append_left _ (List.Perm.cons _ (List.Perm.append_left _ qN))
   show#[zr.updR r.fr M.1,λx o w=>?_,_,a2,p.nodup_iff.mpr nd,λx L=>ap x (by simpa using p.mem_iff.mp L)];let L:x≠D:=λz=>by rw[z,M.2]at w;cases w
   rw[Ap L];show r.gr x o w
end
section
variable{D:Addr}
def JZ(L:X.xe=λ_ _=>False)(h:FE X h5 we):kM X (eval h5 X.env>>=λx=>call (.builtin "list.append") [.ref D,x]>>=λ_=>pure ()) (pC X n D (bU n we)):=by
 intro zH s Z H Q I q;let#[F,G,U,P,h2,h3,hw,h4]:=q;let hp:PassesOwn (model X.prog X.w) X.A X.env X.xe:=by rw[L];show PassesOwn.never
 have he:=h X.pn X.xe hp zH s Z H (λv H1=>∃O U1 t l,zr F O/\Rel X.K (U1++[some t]) (Z++[some v]) O G H1/\slot U1 n=some (.lst l)/\l.length<big/\P (U1.set n (some (.lst (l++[t]))))) I
  #[F,G,U,_,NX,h2,hw,λr U1 v O H1 B s1 Y rv=>?_,IG]
 .let J:∀e s',X.xe e s'->False:=λe s' z=>by rw[L]at z;exact z
  show qa (zi he (λu s1 zq=>?_) λe s' z=>J e s' z);show cps λ_ kk=>?_;let#[v,H1,I1,rv,O,U1,t,l,sm,Y,hs,hz,hP]:=zq;let#[xs,hD,M,r2]:=Rel.append Y hs h3;show kk ?_;show qa (zi (Ka zH s1 Z H1 (.ref D) [v] (.ref D) [u] (λw H'=>w=.non/\H'=upd H1 D (.lst (xs++[v]))) I1 rfl (.cons rv .nil) #[D,xs,v,rfl,rfl,hD,by rw[M];show lt_trans hz ⋯,rfl,rfl]) (λw s2 zq=>?_) λe s' z=>J e s' z);let#[w',H2,I2,_,_,e2]:=zq;subst e2;show qb #[Z,_,I2,h4 _ Z O _ hP KP.refl sm r2]
 .obtain⟨⟨t,h1⟩,eg,B⟩:=Aq B;let#[F2,s2,l2,r2]:=AG (U':=[]) (Z':=[]) Y (Af Y) rv eg;split at B
  .rename_i l e;show#[F2,h1,t,l,s1.trans s2,r2,e,B.1,B.2]
  .show B.elim
def ET:fU X [] (hU X dJ):=λzH s Z H Q I q=>Tn zH s Z H Q I (by let#[F,G,U,P,PX,v,B,z,J]:=q;show z true U F H B (zr.refl F) v)
def Ig(v:X.xe=λ_ _=>False)(h:FT X c wc):fU X [c] (hU X wc):=Sm (h X.pn X.xe (by rw[v];show PassesOwn.never))
def Mp(it:gD X.K J l F)(h6:Rel X.K U Z F G H)(h9:Z[n]?=some (some (.ref D)))
  (hw:aL g wc b l U P NX)(e2:∀U' Z' F' H',P U'->KP (List.range (n+1)) Z Z'->zr F F'->Rel X.K U' Z' F' G H'->Q Z' H'):
  fE (uP X (List.range (n+1)) g) (hU X wc) (pC X n D b) J Z H Q:=by
 let h2:∀{Z':St},KP (List.range (n+1)) Z Z'->Z'[n]?=some (some (.ref D)):=λk=>by rw[k n (by simp)];show h9
 show#[λi m v H2=>m=l.length-i/\i<=l.length/\∃F2 U2,KP (List.range (n+1)) Z v/\zr F F2/\Rel X.K U2 v F2 G H2/\aL g wc b (l.drop i) U2 P NX,#[l.length,by simp,zero_le _,F,U,KP.refl,zr.refl F,h6,hw],?_];rintro i m v H2 ⟨rfl,hi,F2,U2,kp,s2,r2,z⟩;let#[h8,h7]:=it i U2 v F2 G H2 s2 r2;by_cases B:i<l.length
 .obtain⟨go,h5⟩:=h8 l[i] (by simp);show .inr #[go,λL H3=>i+1<=l.length/\∃F3 Y,KP (List.range (n+1)) Z L/\zr F F3/\Rel X.K Y L F3 G H3/\aL g wc b (l.drop (i+1)) Y P NX,λL H3 h=>#[l.length-(i+1),∅,rfl,h],λy H3 hy=>?_];let#[F3,s3,r3,rp]:=h5 y H3 hy;rw[List.drop_eq_getElem_cons B]at z;show#[F3,G,U2,_,_,r3.push rp,z,λh4 e3 F4 H4 e1 k4 s4 r4=>?_];let M:=kp.trans k4;let h1:=s2.trans (s3.trans s4);show#[F4,G,h4,_,_,r4,e1,λk O F5 H5 h3 s5 r5=>?_,IG];cases k with
  |true=>show#[F5,G,O,_,r5,h2 M,h3,λU' Z' F' H' h k' s r=>#[B,F',U',M.trans k',h1.trans (s5.trans s),r,h]]
  |false=>show#[B,F5,O,M,h1.trans s5,r5,h3]
 .let e:i=l.length:=Nat.le_antisymm hi (not_lt.mp B);subst e;rw[List.drop_length]at z;show .inl #[h7 (q8 _),e2 U2 v F2 H2 z kp s2 r2]
def MV(hxe:X.xe=λ_ _=>False)(hi:FI X tg iter wi)(hl:gP X e d (.ref D) tg (fE (uP X (List.range (n+1)) g) (hU X wc) (pC X n D b)))
  (hs:∀x,foldedSetIterable iter X.env x=pure x)(hm:X.A.mark none=X.A)
  (hq:∀it,(Code.compLoop e d (.ref it) (.ref D) X.env).quiet=true)(hun:∀it,X.A.under (.compStart e d (.ref it) (.ref D) X.env)=X.A)
  (hden:∀it,(model X.prog X.w).den (.compStart e d (.ref it) (.ref D) X.env)=(compStart e d (.ref it) (.ref D) X.env).onRaise (λx=>do noteFrame x X.env;standAt theWindowsPlace))
  (heq:∀it,∃p,compStart e d (.ref it) (.ref D) X.env=(ask>>=λc=>if c.params.followText "comprehension-iter-twice"=true then again (.compLoop e d (.ref it) (.ref D) X.env)else
   rule "comprehension.iter-twice">>=λ_=>standAt p>>=λ_=>pyIter (.ref it)>>=λit'=>again (.compLoop e d it' (.ref D) X.env))):
  jH X (eval iter X.env>>=λx=>standAt ip>>=λ_=>foldedSetIterable iter X.env x>>=λx=>holding [x] (pyIter x)>>=λit=>runOwn (.compStart e d it (.ref D) X.env) X.env>>=λ_=>again c0) c0 (pC X n D (kQ wi g wc b)):=by
 intro zH s Z H Q I q;let#[F,G,U,P,zJ,hZ,hw,hok]:=q;let hp:PassesOwn (model X.prog X.w) X.A X.env X.xe:=by rw[hxe];show PassesOwn.never
 let xe0:∀e s',X.xe e s'->False:=λe s' z=>by rw[hxe]at z;show z
 have hi':=hi X.pn X.xe hp zH s Z H (λJ H1=>fE (uP X (List.range (n+1)) g) (hU X wc) (pC X n D b) J Z H1 Q) I
  #[F,G,U,_,NX,zJ,hw,λl U1 F1 H1 J hk s1 r1 it=>Mp it r1 hZ hk λU' Z' F' H' a k s r=>hok U' Z' F' H' a k (s1.trans s) r,IG]
 show qa (zi hi' (λx s1 h1=>?_) λe s' z=>xe0 e s' z);show qa (wpAny_standAt (qa (zh (hs x) (qa (zg (zi h1 (λitv s2 h2=>?_) λe s' z=>xe0 e s' z))))));let#[it,fp,tn,J,H2,e1,I2,T,st,f,q2]:=h2;subst e1;show qa (wpAny_runOwn ?_);show codeAny_mono (MZ hl hq hun hden heq I2 T st f q2) λr s3 zq=>?_;let#[Z3,H3,er,I3,q3]:=zq;subst er;show qb #[rfl,Z3,H3,I3,q3]
end
def NN{α:Type}{l:List α}{a:α}(h:l[n]?=some a):l=l.take n++a::l.drop (n+1):=by let#[v,e]:=qg.mp h;rw[<-e,<-List.drop_eq_getElem_cons v,take_append_drop]
section
variable{X:Cx}
def Ii(hmk:∀(A:Around)(E:zj)(s:Shared)(Q:zj),Q (.ref s.heap.objs.size) {s with heap:=s.heap.push {cls:=.type ty,dict:=none,data:=dat}}->wpAny (model X.prog X.w) A mk Q E s)(ho:∀(H:Hp)(h:Heap),sysModules<h.objs.size->zG X.prog X.w H (h.push {cls:=.type ty,dict:=none,data:=dat}) h.objs.size o0)(hs0:∀(F H:Hp)(p:Addr),H p=some o0->aK X.K F H (.ref p) s0 [p])(hcl:clausesOf e=⟨tg,iter,ifs,0⟩::gs)(hs:∀x,foldedSetIterable iter X.env x=pure x)
  (Sc:bS X.env.scope scope X.N vars)(hk:vars.length=k)(hi:FI X tg iter wi)
  (hb:∀(s:Shared)(H:Hp)(ex:List Addr)(D:Addr),gP (aB X scope vars s H ex) e 0 (.ref D) tg (fE (uP (aB X scope vars s H ex) (List.range (X.N.length+1)) g) (hU (aB X scope vars s H ex) wc) (pC (aB X scope vars s H ex) X.N.length D b)))
  (hq:∀it zM env,(Code.compLoop e 0 (.ref it) zM env).quiet=true)(hun:∀it zM env,X.A.under (.compStart e 0 (.ref it) zM env)=X.A)
  (hden:∀it zM env,(model X.prog X.w).den (.compStart e 0 (.ref it) zM env)=(compStart e 0 (.ref it) zM env).onRaise (λx=>do noteFrame x env;standAt theWindowsPlace))
  (heq:∀it zM env,∃p,compStart e 0 (.ref it) zM env=(ask>>=λc=>if c.params.followText "comprehension-iter-twice"=true then again (.compLoop e 0 (.ref it) zM env)else
   rule "comprehension.iter-twice">>=λ_=>standAt p>>=λ_=>pyIter (.ref it)>>=λit'=>again (.compLoop e 0 it' zM env)))(hp:PassesOwn (model X.prog X.w) X.A X.env xe){P:WQ}(I:Inv (wp X pn xe) zH Z H s)
  (zJ:Rel X.K U Z F G H)(hw:wi U (λl U1=>aL g wc b l (U1++some s0::List.replicate k none) (λU2=>zp (slot U2 X.N.length) λs=>P (.v s) (U2.take X.N.length)) NX) PX)(hx:XC (wp X pn xe) (·=Z) F G PX)
  (fin:∀(D C:Addr)(s4:Shared)(H4 F4:Hp)(m:Str->Option Value)(t:S)(U4:Env),s4.heap.Ns C m->Inv (wp X pn xe) zH Z H4 s4->H4 C=none->C≠X.env.locals->X.s₀.heap.objs.size<=C->(∀x c,X.env.cells.lookup x=some c->c≠C)->(∀p∈pn++zH,p.1≠C)->
   P (.v t) U4->zr F F4->Rel X.K (U4++[some t]) (Z++[some (.ref D)]) F4 G H4->compPost (model X.prog X.w) X.A xe use Q' (.ref D) C (.ok .next) s4):
  wpAny (model X.prog X.w) X.A (comprehension e scope X.env cpos mk false (eval iter X.env) use) Q' xe s:=by
 have hi':=hi pn xe hp zH s Z H (λJ H1=>∃F1 U1 l,zr F F1/\Rel X.K U1 Z F1 G H1/\gD X.K J l F1/\
   aL g wc b l (U1++some s0::List.replicate k none) (λU2=>zp (slot U2 X.N.length) λs=>P (.v s) (U2.take X.N.length)) NX) I
  #[F,G,U,_,PX,zJ,hw,λl U1 F1 H1 J hk s1 r1 it=>#[F1,U1,l,s1,r1,it,hk],hx]
 let hfree:∀x∈scope.names,x.2=.free->∃c,X.env.cells.lookup x.1=some c:=λx hx hf=>I.ok.has x.1 (Sc.fr x hx hf);show wpAny_comprehension_free (use:=use) hcl hs (Vl hfree) Sc.kind (λx hx hl=>(ID Sc.nd).mpr (by let#[a,b]:=x;let hl':b=.local:=hl;subst hl';show hx)) (zi hi' (λv s1 h1=>zi h1 (λitv s2 h2=>?_) λ_ _ z=>z) λ_ _ z=>z);show cps λ_ kk=>?_;let#[it,fp,tn,J,H2,e1,I2,T,st,f,F1,U1,l,s1',r1,ito,hk2]:=h2;show kk ?_;subst e1
 --the zM
 show hmk _ _ _ _ ?_;generalize hs3:({s2 with heap:=s2.heap.push {cls:=.type ty,dict:=none,data:=dat}}:Shared)=s3;let k23:∀b o,s2.heap.get? b=some o->s3.heap.get? b=some o:=λb o e=>by rw[<-hs3];show qc _ e
 let sz3:s3.heap.objs.size=s2.heap.objs.size+1:=by rw[<-hs3];show Heap.size_push ..
 let hD:H2 s2.heap.objs.size=none:=I2.hok.fresh (q8 _);let I3:Inv (wp X pn xe) zH Z (upd H2 s2.heap.objs.size o0) s3:=by rw[<-hs3];show I2.laid (t':=s2.toks) (λb o e=>qc _ e) (q8 _) (ho _ _ I2.big)
 let r3:Rel X.K (U1++[some s0]) (Z++[some (.ref s2.heap.objs.size)]) F1 G (upd H2 s2.heap.objs.size o0):=r1.newO hD (hs0 _ _ _ Bl);let fplt:∀b∈fp,b<s2.heap.objs.size:=λb hb=>by let#[o,e,_]:=T.obj _ _ st b hb;show qe e
 let fne:∀b∈fp,b≠s2.heap.objs.size:=λb hb=>ne_of_lt (fplt b hb);let f3:∀b∈fp,cX (wp X pn xe) zH (upd H2 s2.heap.objs.size o0) b:=λb hb=>by let#[h1,h2]:=f b hb;show#[by rw[Ap (fne b hb)];show h1,h2]
 show Vi λh' kept hns hcl'=>?_;let I4:=Inv.comp (X:=wp X pn xe) (ex:=fp) I3 Sc (λb hb=>#[f3 b hb,by rw[sz3];show lt_succ_of_lt (fplt b hb)]) kept hns hcl' hk (some (.ref s2.heap.objs.size));let hZn:(Z++some (.ref s2.heap.objs.size)::List.replicate k none)[X.N.length]?=some (some (.ref s2.heap.objs.size)):=by let hl:X.N.length=Z.length:=I2.len.symm;rw[hl,getElem?_append_right (q8 _),sub_self];rfl
 let r4:Rel X.K (U1++some s0::List.replicate k none) (Z++some (.ref s2.heap.objs.size)::List.replicate k none) F1 G (upd H2 s2.heap.objs.size o0):=by let:=r3.pushNs k;simpa using this
 let st4:tn 0 h':=T.keep _ _ _ st λb hb o e=>kept b o (k23 b o e);let f4:∀b∈fp,cX (aB X scope vars s3 (upd H2 s2.heap.objs.size o0) fp) [] (upd H2 s2.heap.objs.size o0) b:=λb hb=>by let#[h1,h2,h3,h4,h5,h6]:=f3 b hb;let e:=I4.ok.exf b hb;show#[h1,e.1,I4.ok.exfs b hb,.inl hb,e.2,λp hp=>absurd (show p∈([]:List (Addr×Obj)) from hp) (by simp)]
 have go:=MZ (hb s3 (upd H2 s2.heap.objs.size o0) fp s2.heap.objs.size) (λit=>hq it _ _) (λit=>hun it _ _) (λit=>hden it _ _) (λit=>heq it _ _) I4 T st4 f4
  (Q:=λZ' H'=>∃F' U',zp (slot U' X.N.length) (λs=>P (.v s) (U'.take X.N.length))/\KP (List.range (X.N.length+1)) (Z++some (.ref s2.heap.objs.size)::List.replicate k none) Z'/\zr F1 F'/\Rel X.K U' Z' F' G H')
  (Mp ito r4 hZn hk2 λU' Z' F' H' a kp sm r=>#[F',U',a,kp,sm,r])
 show codeAny_mono go λr s4 zq=>?_;show cps λ_ kk=>?_;let#[Z4,H4,er,I5,F4,U4,hn4,kp4,sm4,r5]:=zq;subst er;let#[m,hm,_]:=id I5.loc;show kk ?_;let I6:Inv (wp X pn xe) zH Z H4 s4:=Inv.call' (ch:=fp) I3 I5.os I5.base I5.hok I5.bare λb hb=>by let#[h1,h2,h3,h4,h5,h6]:=f3 b hb;show#[h4,h2,h5,h6]
 --the block's names go
 let#[t,et,hP]:=Aq hn4;let hl:X.N.length=Z.length:=I2.len.symm;let hZ4:Z4[X.N.length]?=some (some (.ref s2.heap.objs.size)):=by rw[kp4 X.N.length (by simp)];show hZn
 have eZ:Z4.take X.N.length=Z:=by
  apply ext_getElem?;intro j;by_cases hj:j<X.N.length
  .rw[List.getElem?_take_of_lt hj,kp4 j (by simp;lia),getElem?_append_left ∅]
  .rw[List.getElem?_take_eq_none (not_lt.mp hj),qQ ∅]
 let e1:=NN (Kq et);let e2:=NN hZ4;rw[e1,e2,eZ]at r5;let r6:Rel X.K ((U4.take X.N.length++[some t])++U4.drop (X.N.length+1)) ((Z++[some (.ref s2.heap.objs.size)])++Z4.drop (X.N.length+1)) F4 G H4:=↑r5
 let hlt:X.N.length<U4.length:=GE et;let ltC:∀{b:Addr}{o:Obj},s3.heap.get? b=some o->b≠s3.heap.objs.size:=λe=>ne_of_lt (qe e);show fin s2.heap.objs.size s3.heap.objs.size s4 H4 F4 m t (U4.take X.N.length) hm I6 I5.free (Ne.symm (ne_of_lt I3.lt)) I3.sz (λx c e z=>?_) (λp hp z=>?_) hP (s1'.trans sm4) (r6.drop (by simp;lia))
 .obtain⟨v,o,ho,_⟩:=I3.cell x c e;show ltC ho z
 .show ltC (I3.pin p hp).1 z
def Jw{P:WQ}(M:∀r U' v F' H',P r U'->zr F F'->Rel X.K (U'++[zt r]) (Z++[some v]) F' G H'->RV Z v r->Q v H'):
  ∀(D C:Addr)(J:Shared)(B L:Hp)(m:Str->Option Value)(t:S)(z:Env),J.heap.Ns C m->Inv (wp X pn xe) zH Z B J->B C=none->C≠X.env.locals->X.s₀.heap.objs.size<=C->(∀x c,X.env.cells.lookup x=some c->c≠C)->(∀p∈pn++zH,p.1≠C)->
   P (.v t) z->zr F L->Rel X.K (z++[some t]) (Z++[some (.ref D)]) L G B->compPost (model X.prog X.w) X.A xe none (EP (wp X pn xe) zH Z Q) (.ref D) C (.ok .next) J:=
 λD C J B L m t z hm I n1 n2 n3 n4 n5 hP O r=>#[m,hm,λh1 Y=>#[.ref D,B,I.turned (t':=J.toks) (λb o hb e=>(Y.2 b hb).trans e) n1 n2 (.inr (Heap.get?_none_of_le n3)) n4 n5,rfl,M (.v t) z _ L B hP O r trivial]]
def PH{P:WQ}{Nx:Env->Prop}(hk:i∉ks)(hN:∀j,X.N[j]?=some y->j=i)(hi:X.N[i]?=some y)(hy:X.env.scope.names.lookup y=some .local)
  (hP:∀s U,P (.v s) U->Nx (U.set i (some s)))(Y:∀U' Z' F' H',Nx U'->KP ks Z Z'->zr F F'->Rel X.K U' Z' F' G H'->DD.nx Z' H'):
  ∀(D C:Addr)(L:Shared)(B M:Hp)(m:Str->Option Value)(t:S)(z:Env),L.heap.Ns C m->Inv (wp X pn xe) zH Z B L->B C=none->C≠X.env.locals->X.s₀.heap.objs.size<=C->(∀x c,X.env.cells.lookup x=some c->c≠C)->(∀p∈pn++zH,p.1≠C)->
   P (.v t) z->zr F M->Rel X.K (z++[some t]) (Z++[some (.ref D)]) M G B->compPost (model X.prog X.w) X.A xe (some (assign (.Name y py) X.env)) (λ_ s'=>SP (wp X pn xe) zH DD .next s') (.ref D) C (.ok .next) L:=
 λD C L B M m t z hm I n1 n2 n3 n4 n5 hp sm r=>by
  let hl:=Af r;let J:i<z.length:=by rw[hl,I.len];show(qg.mp hi).1
  refine wpAny_assign_Name (Ng (X:=wp X pn xe) (v:=.ref D) I hN hi (.inl hy) rfl (λs5 I5 zq=>?_) (.inr hy));let#[a,sb,ha]:=zq;let h1:C≠a:=by
   rcases ha with e|e
   .rw[e];show n2
   .show Ne.symm (n4 y a e)
  show#[m,hm.sameBut sb h1,λh2 O=>#[_,B,I5.turned (t':=s5.toks) (λb o hb e=>(O.2 b hb).trans e) n1 n2 (.inr (Heap.get?_none_of_le n3)) n4 n5,?_]];show Y _ _ M B (hP t z hp) (KP.set hk) sm (r.store hl J)
def Jf(A:Around)(E:zj)(s:Shared)(Q:zj)(h:Q (.ref s.heap.objs.size) {s with heap:=s.heap.push {cls:=.type ty,dict:=none,data:=dat}})(hz:sizeOk dat:=by size_fits):wpAny (model X.prog X.w) A (newObj (.type ty) dat) Q E s:=zd h hz
def Jj(H:Hp)(h:Heap)(_:sysModules<h.objs.size):zG X.prog X.w H (h.push {cls:=.type "list",dict:=none,data:=.seq ([]:List Value).toArray}) h.objs.size (.lst []):=#[zero_le _,[],0,.nil,qd _ rfl]
def IS(F H:Hp)(p:Addr)(e:H p=some (.lst [])):aK X.K F H (.ref p) (.lst []) [p]:=.lst e .nil
def FQ(hn:X.N.length=n)(hc:X.calm=true)(Sc:bS X.env.scope scope X.N vars)(hk:vars.length=k)(hi:FI X tg iter L)
  (hg:∀s H ex,FG (aB X scope vars s H ex) (List.range (n+1)) tg g)(ht:∀s H ex,fU (aB X scope vars s H ex) z (hU (aB X scope vars s H ex) wc))(he:∀s H ex,FE (aB X scope vars s H ex) J M)
  (hs:∀x,foldedSetIterable iter X.env x=pure x:=by intro _;rfl):FE X (.ListComp J [#[tg,iter,z,0]] scope pos) (jV n k L g wc (bU n M)):=by
 subst hn;intro pn xe hp zH s Z H Q I q;let#[F,G,U,P,PX,v,Y,B,O]:=q;show Ii (λA E s Q h=>Jf A E s Q h) (s0:=.lst []) Jj IS rfl hs Sc hk hi (λs H ex D=>?_) (λ_ _ _=>rfl) (λ_ _ _=>rfl) (λ_ _ _=>rfl) (λ_ _ _=>#[_,rfl]) hp I v Y O (Jw B);show GK (X:=aB X scope vars s H ex) hc rfl (hg s H ex [] (λ_ _=>False) PassesOwn.never) (ht s H ex) (λ_=>(JZ (X:=aB X scope vars s H ex) rfl (he s H ex)).f) (λ_=>rfl) (λ_=>rfl) (λ_=>rfl) (λ_=>rfl)
def Nw(O:i∉ks)(hN:∀j,X.N[j]?=some y->j=i)(Y:X.N[i]?=some y)(hy:X.env.scope.names.lookup y=some .local)
  (M:swapsWith (.ListComp J [#[tg,iter,B,0]] scope pos) (some (.Name y py)) spos.line X.env=pure true)
  (hn:X.N.length=n)(hc:X.calm=true)(Sc:bS X.env.scope scope X.N vars)(hk:vars.length=k)(hi:FI X tg iter wi)
  (hg:∀s H ex,FG (aB X scope vars s H ex) (List.range (n+1)) tg g)(ht:∀s H ex,fU (aB X scope vars s H ex) B (hU (aB X scope vars s H ex) wc))(he:∀s H ex,FE (aB X scope vars s H ex) J we)
  (hs:∀x,foldedSetIterable iter X.env x=pure x:=by intro _;rfl):FS X ks (.Assign [.Name y py] (.ListComp J [#[tg,iter,B,0]] scope pos) spos) (zC (zo i) (jV n k wi g wc (bU n we))):=by
 subst hn;intro pn xe hp zH s Z H D I q;rw[exec_Assign_Name_used _ _ _ _ M];show qa (wpAny_standAt (qa ?_));let#[F,G,U,E,L,hw,n,b,c,r,x]:=q;refine qa (zi (Ii (λA E s Q h=>Jf A E s Q h) (s0:=.lst []) (P:=λr v=>zp (give r v) λp=>zo i p.1 p.2 E.nx) (PX:=E.ex) (g:=g) (wc:=wc) (b:=bU X.N.length we) (Q':=λ_ s'=>SP (wp X pn xe) zH D .next s') Jj IS rfl hs Sc hk hi (λs H ex D=>?_) (λ_ _ _=>rfl) (λ_ _ _=>rfl) (λ_ _ _=>rfl) (λ_ _ _=>#[_,rfl]) hp I L hw (x.mono (λh1 z=>by rw[z];show KP.refl) (zr.refl F) (zr.refl G))
  (PH (P:=λr v=>zp (give r v) λp=>zo i p.1 p.2 E.nx) (Nx:=E.nx) O hN Y hy (λs U h=>h) n)) (λ_ s' hq=>qb (qb hq)) λ_ _ e=>e)
 show GK (X:=aB X scope vars s H ex) hc rfl (hg s H ex [] (λ_ _=>False) PassesOwn.never) (ht s H ex) (λ_=>(JZ (X:=aB X scope vars s H ex) rfl (he s H ex)).f) (λ_=>rfl) (λ_=>rfl) (λ_=>rfl) (λ_=>rfl)
set_option maxHeartbeats 4000000 in
def Pw(hn:X.N.length=n)(hm:X.A.mark none=X.A)(hc:X.calm=true)(Sc:bS X.env.scope scope X.N vars)(hk:vars.length=k)(hi:FI X tg iter wi)
  (hg:∀s H ex,FG (aB X scope vars s H ex) (List.range (n+1)) tg g)(ht:∀s H ex,fU (aB X scope vars s H ex) B (hU (aB X scope vars s H ex) wc))
  (uC:∀s H ex,FI (aB X scope vars s H ex) v iter2 L)(h3:∀s H ex,FG (aB X scope vars s H ex) (List.range (n+1)) v g2)(Y:∀s H ex,fU (aB X scope vars s H ex) ifs2 (hU (aB X scope vars s H ex) M))
  (he:∀s H ex,FE (aB X scope vars s H ex) J we)
  (hs:∀x,foldedSetIterable iter X.env x=pure x:=by intro _;rfl)(h1:∀env x,foldedSetIterable iter2 env x=pure x:=by intro _ _;rfl):FE X (.ListComp J [#[tg,iter,B,0],#[v,iter2,ifs2,0]] scope pos) (jV n k wi g wc (kQ L g2 M (bU n we))):=by
 subst hn;intro pn xe hp zH s Z H Q I q;let#[F,G,U,P,PX,O,hw,h2,hx]:=q;show Ii (λA E s Q h=>Jf A E s Q h) (s0:=.lst []) Jj IS rfl hs Sc hk hi (λs H ex D=>?_) (λ_ _ _=>rfl) (λ_ _ _=>rfl) (λ_ _ _=>rfl) (λ_ _ _=>#[_,rfl]) hp I O hw hx (Jw h2);let z:gP (aB X scope vars s H ex) (.ListComp J [#[tg,iter,B,0],#[v,iter2,ifs2,0]] scope pos) 1 (.ref D) v _:=
  GK (X:=aB X scope vars s H ex) hc rfl (h3 s H ex [] (λ_ _=>False) PassesOwn.never) (Y s H ex) (λ_=>(JZ (X:=aB X scope vars s H ex) (n:=X.N.length) rfl (he s H ex)).f) (λ_=>rfl) (λ_=>rfl) (λ_=>rfl) (λ_=>rfl)
 show GK (X:=aB X scope vars s H ex) hc rfl (hg s H ex [] (λ_ _=>False) PassesOwn.never) (ht s H ex) (λ_=>MV (X:=aB X scope vars s H ex) rfl (uC s H ex) z (h1 _) hm (λ_=>rfl) (λ_=>rfl) (λ_=>rfl) (λ_=>#[_,rfl])) (λ_=>rfl) (λ_=>rfl) (λ_=>rfl) (λ_=>rfl)
end
section
variable{K:W.Frag}
def GD{x:Str}(e:x.cps.toList=l):x.length=l.length:=by rw[<-e];rfl
def QC{x y:Str}(e:x.cps.toList=l)(v:y.cps.toList=m):(x++y).cps.toList=l++m:=by show(x.cps++y.cps).toList=_;rw[toList_append,e,v]
def bE.int(h:bE K F H v (.int i)):v=.int i:=by
 rcases h with h|⟨_,_,_,_,h,_⟩|⟨_,_,_,_,_,h,_⟩|⟨_,_,_,_,_,h,_⟩
 .cases h;rfl
 .cases h
 .cases h
 .cases h
def bE.str(h:bE K F H v (.str l)):∃x,v=.str x/\x.cps.toList=l/\l.length<=16777216:=by
 rcases h with h|⟨_,_,_,_,h,_⟩|⟨_,_,_,_,_,h,_⟩|⟨_,_,_,_,_,h,_⟩
 .cases h with
  |str e z=>show#[_,rfl,e,z]
 .cases h
 .cases h
 .cases h
def bE.tup(h:bE K F H v (.tup l)):∃a xs,v=.ref a/\F a=some (.tup xs)/\zF K F xs l:=by
 rcases h with h|⟨_,_,_,_,h,_⟩|⟨_,_,_,_,_,h,_⟩|⟨_,_,_,_,_,h,_⟩
 .cases h with
  |tup e r=>show#[_,_,rfl,e,r]
 .cases h
 .cases h
 .cases h
def bE.lst(z:zr F H)(h:bE K F H v (.lst l)):∃a xs,v=.ref a/\bO K H a xs/\zF K F xs l:=by
 rcases h with h|⟨a,xs,J,G,h,B,r⟩|⟨_,_,_,_,_,h,_⟩|⟨_,_,_,_,_,h,_⟩
 .cases h with
  |lst e r=>show#[_,_,rfl,bO.mono z e,r]
 .cases h;show#[a,xs,G,bO.of B,r]
 .cases h
 .cases h
def zF.append(a:zF K F xs l)(r:zF K F ys m):zF K F (xs++ys) (l++m):=zF.ind (P:=λxs l=>zF K F (xs++ys) (l++m)) r (λa _ v=>.cons a v) a
def Rel.newLD(r:Rel K U Z F G H)(J:H p=none)(z:zF K F xs l):Rel K (U++[some (.lst (l.map .sh))]) (Z++[some (.ref p)]) F G (upd H p (.lst xs)):=by
 have v:∀{xs:List V}{l:List D},zF K F xs l->zv K F (upd H p (.lst xs)) xs (l.map .sh) []:=by
  intro xs l h;generalize upd H p (.lst xs)=H';induction xs generalizing l with
  |nil=>cases h;show .nil
  |cons x xs B=>cases h with
   |cons a b=>have:=zv.cons (aK.sh (H:=H') a) (B b);show this
 show r.newO J (.lst Bl ?_);let:=v z;show this
def pJ(K:W.Frag):R2:=λx y H Q=>∃l b xs v,x=.ref l/\y=.ref b/\bO K H l xs/\bO K H b v/\xs.length+v.length<=sizeLine/\∀p,H p=none->Q (.ref p) (upd H p (.lst (xs++v)))
def Ri:OpR X (binaryOp .Add) (pJ X.K):=by
 intro zH s Z H x y v u Q I rx ry h;let#[l,b,xs,zs,rfl,rfl,hl,hb,hz,q]:=h;cases rx;cases ry;let#[B,r1,#[#[cls,dd,data,sl],n,ho,hc,M,hd],_]:=I.list hl;let#[z,Y,#[#[h1,h2,data2,J],n2,F,O,G,L],_]:=I.list hb;subst hc M hd O G L;show concat_meets #[_,ho,rfl] #[_,F,rfl] noFill_list_add seq_list_add PySem.F.slot_list_add PySem.F.entry_list_add (PySem.F.args_list_add_2 _ _) (list_addW l b B.toArray z.toArray n n2 none none sl J (by rw[qr,qr,<-r1.length,<-Y.length];show hz)) #[ho,F,?_];let ea:B.toArray++z.toArray=(B++z).toArray:=by simp
 rw[ea];show#[.ref _,_,I.lnew (t':=s.toks) (r1.append Y) (by rw[qq];show hz),rfl,q _ I.fresh]
def lM(K:W.Frag):R2:=λx y H Q=>∃a b xs ys,x=.ref a/\y=.ref b/\bN K H a xs/\bN K H b ys/\xs.length+ys.length<=sizeLine/\
 (xs=[]->Q (.ref b) H)/\(xs≠[]->ys=[]->Q (.ref a) H)/\(xs≠[]->ys≠[]->∀p,H p=none->Q (.ref p) (upd H p (.tup (xs++ys))))
def Sd:OpR X (binaryOp .Add) (lM X.K):=by
 intro zH s Z H x y v u Q I rx Y h;let#[a,b,xs,ys,rfl,rfl,ha,hb,hz,q0,q1,q2]:=h;by_cases F:xs=[]
 .cases rx;cases Y;let#[B,r1,p1,_]:=I.tuple ha;let#[z,r2,p2,_]:=I.tuple hb;let#[#[cls,dd,data,sl],ho,hc,n,hd]:=id p1;let#[#[h1,O,data2,J],G,M,n2,L]:=id p2;subst hc hd M L;let hi:B=[]:=r1.nil_iff.mpr F;exact concat_meets #[_,ho,rfl] #[_,G,rfl] noFill_tuple_add seq_tuple_add PySem.F.slot_tuple_add PySem.F.entry_tuple_add (PySem.F.args_tuple_add_2 _ _)
   (tuple_addW0 a b B.toArray z.toArray n n2 dd O sl J (by simp[hi])) #[ho,G,.ref b,H,I,rfl,q0 F]
 .show PJ zH s Z H _ _ v u Q I rx Y #[a,b,xs,ys,rfl,rfl,ha,hb,F,hz,q1 F,q2 F]
def nJ:R2:=λx y H Q=>∃i j,x=.str i/\y=.str j/\i.length+j.length<=sizeLine/\Q (.str (i++j)) H
def jZ(K:W.Frag):R2:=λx y H Q=>nL (λi j=>.int (i+j)) x y H Q\/(nJ x y H Q\/(pJ K x y H Q\/lM K x y H Q))
def Tu:OpR X (binaryOp .Add) (jZ X.K):=OpR.or OS (OpR.or Ur (OpR.or Ri Sd))
def Im(h:n<=big):n<=sizeLine:=by rw[zf];show le_trans h ⋯
def SI:gE K (jZ K) aU:=by
 intro Z U F G H x y p q s Q v ex O e J;unfold aU at e;split at e
 .cases e;let h1:=ex.int;let h2:=O.int;subst h1 h2;show .inl #[_,_,rfl,rfl,J _ F H (zr.refl F) (v.push (.int _))]
 .rename_i a b;split at e
  .rename_i L;cases e;let#[x,rfl,e1,z1]:=ex.str;let#[y,rfl,e2,z2]:=O.str;show .inr (.inl #[_,_,rfl,rfl,by rw[GD e1,GD e2];show Im L,J _ F H (zr.refl F) (v.push (.str (QC e1 e2) (by rw[qq];show le_trans L ⋯)))])
  .cases e
 .rename_i a b;split at e
  .rename_i L;cases e;let#[l,xs,rfl,h1,B]:=ex.lst v.fr;let#[m,ys,rfl,h2,z]:=O.lst v.fr;show .inr (.inr (.inl #[l,m,xs,ys,rfl,rfl,h1,h2,by rw[B.len,z.len];show Im L,λp M=>?_]));show J _ F _ (zr.refl F) (v.newLD M (B.append z))
  .cases e
 .rename_i a b;split at e
  .rename_i L;cases e;let#[l,xs,rfl,h1,B]:=ex.tup;let#[m,ys,rfl,h2,z]:=O.tup;refine .inr (.inr (.inr #[l,m,xs,ys,rfl,rfl,bN.of (v.fr _ _ h1),bN.of (v.fr _ _ h2),by rw[B.len,z.len];show Im L,λhx=>?_,λ_ hy=>?_,λ_ _ p M=>?_]))
   .subst hx;cases B;show J _ F H (zr.refl F) (v.push (.tup h2 z))
   .subst hy;cases z;rw[qz]at J;show J _ F H (zr.refl F) (v.push (.tup h1 B))
   .let Y:=(v.free M).1;show J _ _ _ (zr.upd Y) ((v.newF M).push (.tup Bl ((B.append z).mono (zr.upd Y))))
  .cases e
 .cases e
def Ho{g:Int->Int->Int}(B:∀p q s,o p q=some s->∃i j,p=.int i/\q=.int j/\C i j/\s=.sh (.int (g i j))):gE K (rI C λi j=>.int (g i j)) o:=by intro Z U F G H x y p q s Q v ex L e z;let#[i,j,rfl,rfl,J,rfl]:=B p q s e;let h1:=ex.int;let h2:=L.int;subst h1 h2;show#[i,j,rfl,rfl,J,z _ F H (zr.refl F) (v.push (.int _))]
def RP:gE K (rI (λ_ _=>True) λi j=>.int (i-j)) fZ:=Ho λp q s e=>by
 unfold fZ at e;split at e
 .cases e;show#[_,_,rfl,rfl,trivial,rfl]
 .cases e
def Qq:OpR X (binaryOp .Sub) (rI (λ_ _=>True) λi j=>.int (i-j)):=HA λ_ _ _ _ _ _ _ _ q=>sub_int q
def RA:gE K (rI mL λi j=>.int (i*j)) lO:=Ho λp q s e=>by
 unfold lO at e;split at e
 .rename_i i j;split at e
  .rename_i h;cases e;show#[_,_,rfl,rfl,?_,rfl];simp[kA,or_eq_true,and_eq_true,qT]at h;show h
  .cases e
 .cases e
def Sk:gE K (rI (λ_ j=>0<j) λi j=>.int (i %j)) dW:=Ho λp q s e=>by
 unfold dW at e;split at e
 .split at e
  .rename_i h;cases e;show#[_,_,rfl,rfl,h,rfl]
  .cases e
 .cases e
def RE:gE K (rI yA λi j=>.int (i^j.toNat)) lN:=Ho λp q s e=>by
 unfold lN at e;split at e
 .split at e
  .rename_i h;cases e;show#[_,_,rfl,rfl,#[h.1,∅,h.2.2],rfl]
  .cases e
 .cases e
def pU(i j:Int):Prop:=0<j/\j<18446744073709551616
def RM:OpR X (binaryOp .FloorDiv) (rI pU λi j=>.int (i/j)):=HA λi j _ _ _ _ _ v q=>by
 let h1:(0:Int)<j:=v.1;let h2:j<18446744073709551616:=v.2;show floordiv_int ∅ ?_ (.inl (PyProof.noPylong_of_log2 ?_))
 .rw[Int.fdiv_eq_ediv_of_nonneg _ ∅];show q
 .let z:j.natAbs≠0:=by lia
  let:j.natAbs.log2<64:=(Nat.log2_lt z).mpr ∅;lia
def TX:gE K (rI pU λi j=>.int (i/j)) fJ:=Ho λp q s e=>by
 unfold fJ at e;split at e
 .split at e
  .rename_i h;cases e;show#[_,_,rfl,rfl,h,rfl]
  .cases e
 .cases e
end
def AN(F:FE X a z)(B:FE X b v):FE X (.BinOp a .Add b pos) (zy aU z v):=FR (λ_ _=>Tu) SI F B
def HX(F:FE X a z)(B:FE X b v):FE X (.BinOp a .Sub b pos) (zy fZ z v):=FR (λ_ _=>Qq) RP F B
def Eb(F:FE X a z)(B:FE X b v):FE X (.BinOp a .Mod b pos) (zy dW z v):=FR (λ_ _=>ON) Sk F B
def Jv(F:FE X a z)(B:FE X b v):FE X (.BinOp a .FloorDiv b pos) (zy fJ z v):=FR (λ_ _=>RM) TX F B
def OB(F:FE X a z)(B:FE X b v):FE X (.BinOp a .Pow b pos) (zy lN z v):=FR (λ_ _=>Po) RE F B
section
open PySem.SeqAt
def Tp(h:aP (.tup l) (.tup m)=false):bD l m=false:=h
def Iw:∀{l m:List D}{j:Nat}{a b:D},bD l m=false->l[j]?=some a->m[j]?=some b->aP a b=false
 |[],_,_,_,_,_,h,_=>by simp at h
 |_::_,[],_,_,_,_,_,h=>by simp at h
 |x::l,y::m,0,a,b,h,h1,h2=>by simp at h1 h2;subst h1 h2;let h':(aP x y||bD l m)=false:=h;rw[Bool.or_eq_false_iff]at h';show h'.1
 |x::l,y::m,j+1,a,b,h,h1,h2=>by let h':(aP x y||bD l m)=false:=h;rw[Bool.or_eq_false_iff]at h';show Iw h'.2 h1 ↑h2
def Ia:∀{l:List D}{j:Nat}{a:D},l[j]?=some a->dH a<=bC l
 |[],_,_,h=>by simp at h
 |x::l,0,a,h=>by simp at h;subst h;show dH x<=max (dH x) (bC l);lia
 |x::l,j+1,a,h=>by let:=Ia (l:=l) (j:=j) (a:=a) h;show dH a<=max (dH x) (bC l);lia
open Classical in
def HY{l m:List D}(n:Nat)(hn:n=min l.length m.length):((List.range n).all (λj=>decide (l[j]?=m[j]?))&&(l.length==m.length))=decide (l=m):=by
 by_cases h:l=m
 .subst h;simp
 .rw[qS h];by_cases v:l.length=m.length
  .have:(List.range n).all (λj=>decide (l[j]?=m[j]?))=false:=by
    cases q:(List.range n).all (λj=>decide (l[j]?=m[j]?))with
    |false=>rfl
    |true=>
     exfalso;apply h;apply ext_getElem?;intro j;by_cases z:j<n
     .show qU (qI.mp q j ↑z)
     .rw[qQ ∅,qQ ∅]
   rw[this];rfl
  .let:(l.length==m.length)=false:=by simpa using v
   rw[this,Bool.and_false]
inductive Sc:V->D->Prop
 |non:Sc .non .non
 |bl (b:Bool):Sc (.bl b) (.bl b)
 |int (i:Int):Sc (.int i) (.int i)
 |str {x:Str} {l:List Nat}:x.cps.toList=l->Sc (.str x) (.str l)
def KM{K:W.Frag}(r:aN K H v d)(z:aP d e=false)(h1:∀l,d≠.tup l)(h2:∀l,d≠.lst l):Sc v d:=by
 cases r with
 |tup=>show absurd rfl (h1 _)
 |lst=>show absurd rfl (h2 _)
 |dK=>cases e<;>cases z
 |dT=>cases e<;>cases z
 |st=>cases e<;>cases z
 |exc=>cases e<;>cases z
 |non=>show .non
 |bl=>show .bl _
 |int=>show .int _
 |str e _=>show .str e
def Lo{K:W.Frag}(r:aN K H u e)(s:Sc v d)(z:aP d e=false):Sc u e:=by
 cases r with
 |non=>show .non
 |bl=>show .bl _
 |int=>show .int _
 |str e _=>show .str e
 |_=>cases s<;>cases z
open Classical in
def LO{K:W.Frag}(r1:aN K H v d)(Y:aN K H u e)(F:zw v L)(z:zw u M)(G:aP d e=false)(h1:∀l,d≠.tup l)(h2:∀l,d≠.lst l):
  EqAt A s L M (decide (d=e))/\RcAt A s L M (decide (d=e)):=by
 let O:=KM r1 G h1 h2;let B:=Lo Y O G
 clear r1 Y h1 h2
 cases O with
 |non=>
  cases F;cases B with
  |non=>cases z;simp;show#[EqAt.same _,RcAt.none_none]
  |bl b=>cases z;simp;show#[EqAt.none_bool _,RcAt.none_bool _]
  |int i=>let#[t,rfl]:=z;simp;show#[EqAt.none_int _ _,RcAt.none_int _ _]
  |str e=>let#[t,rfl]:=z;simp;show#[EqAt.none_str _ _,RcAt.none_str _ _]
 |bl a=>
  cases F;cases B with
  |non=>cases z;simp;show#[EqAt.bool_none _,RcAt.bool_none _]
  |bl b=>
   cases z;let e:(decide (D.bl a=D.bl b))=(a==b):=by cases a<;>cases b<;>simp
   rw[e];show#[EqAt.bool_bool _ _,RcAt.bool_bool _ _]
  |str e=>let#[t,rfl]:=z;simp;show#[EqAt.bool_str _ _ _,RcAt.bool_str _ _ _]
  |int=>cases G
 |int i=>
  let#[t,rfl]:=F;cases B with
  |non=>cases z;simp;show#[EqAt.int_none _ _,RcAt.int_none _ _]
  |int j=>
   let#[J,rfl]:=z;let e:(decide (D.int i=D.int j))=(i==j):=by by_cases h:i=j<;>simp[h]
   rw[e];show#[EqAt.int_int _ _ _ _,RcAt.int_int _ _ _ _]
  |str e=>let#[J,rfl]:=z;simp;show#[EqAt.int_str _ _ _ _,RcAt.int_str _ _ _ _]
  |bl=>cases G
 |str e1=>
  let#[t,rfl]:=F;cases B with
  |non=>cases z;simp;show#[EqAt.str_none _ _,RcAt.str_none _ _]
  |bl b=>cases z;simp;show#[EqAt.str_bool _ _ _,RcAt.str_bool _ _ _]
  |int j=>let#[J,rfl]:=z;simp;show#[EqAt.str_int _ _ _ _,RcAt.str_int _ _ _ _]
  |str e2=>
   obtain⟨J,rfl⟩:=z;rename_i x l y m;let e:(decide (D.str l=D.str m))=(x==y):=by
    by_cases h:x=y
    .subst h;rw[<-e1,<-e2];simp
    .let hb:(x==y)=false:=by simpa using h
     rw[hb];show qS λq=>h ?_;let#[#[a]]:=x;let#[#[b]]:=y;let a1:a=l:=e1;let b1:b=m:=e2;rw[a1,b1,D.str.inj q]
   rw[e];show#[EqAt.str_str _ _ _ _,RcAt.str_str _ _ _ _]
def Gb(r:zE xs us)(h:j<us.toArray.size):∃x,xs[j]?=some x/\zw x us.toArray[j]:=by
 let F:=r.length;let G:j<us.length:=h;let B:j<xs.length:=∅
 let#[u,z,v]:=r.get (i:=j) (x:=xs[j]) (by simp);show#[xs[j],by simp,?_];let:us.toArray[j]=u:=by let:=qg.mp z;simpa using this.2
 rw[this];show v
mutual
def aN.uniq(I:Inv X zH Z H s)(r:aN X.K H v d)(q:aN X.K H v e)(z:aP d e=false):d=e:=by
 cases r with
 |non=>cases q;rfl
 |bl _=>cases q;rfl
 |int _=>cases q;rfl
 |str F _=>cases q with|str B _=>rw[<-F,<-B]
 |tup F J=>cases q with
  |tup B G=>cases I.tuple_inj (bN.of F) (bN.of B);rw[zF.uniq I J G z]
  |_=>cases z
 |lst F J=>cases q with
  |lst B G=>cases I.list_inj F B;rw[zF.uniq I J G z]
  |_=>cases z
 |dK=>cases e<;>cases z
 |dT=>cases e<;>cases z
 |st=>cases e<;>cases z
 |exc=>cases e<;>cases z
def zF.uniq(I:Inv X zH Z H s)(r:zF X.K H v d)(q:zF X.K H v e)(z:bD d e=false):d=e:=by
 cases r with
 |nil=>cases q;rfl
 |@cons _ a _ l J F=>cases q with
  |@cons _ b _ m G B=>have h':(aP a b||bD l m)=false:=z;rw[Bool.or_eq_false_iff]at h';rw[aN.uniq I J G h'.1,zF.uniq I F B h'.2]
end
open Classical in
def IH:∀(n:Nat){A:Around}{v u:V}{vv uu:Value}{d e:D},dH d<=n->Inv X zH Z H s->aN X.K H v d->aN X.K H u e->zw v vv->zw u uu->aP d e=false->A.units+n<cLine->
  EqAt A s vv uu (decide (d=e))/\RcAt A s vv uu (decide (d=e)):=by
 intro n;induction n with
 |zero=>intro A v u vv uu d e hd I r1 r2 rv ru hc hu;show LO r1 r2 rv ru hc (λl z=>by subst z;show absurd hd (by show¬bC l+1<=0;lia)) (λl z=>by subst z;show absurd hd (by show¬bC l+1<=0;lia))
 |succ n ih=>
  intro A v u vv uu d e hd I r1 r2 rv ru hc hu;let e4:A.in1.units+n<cLine:=by show A.units+1+n<cLine;lia
  cases r1 with
  |tup e1 q1=>
   cases r2 with
   |tup e2 q2=>
    rename_i a xs l b ys m;cases rv;cases ru;let#[G,w1,p1,_]:=I.tuple (bN.of e1);let#[B,w2,p2,_]:=I.tuple (bN.of e2);let h8:bC l<=n:=by let:bC l+1<=n+1:=hd;lia
    let h4:G.toArray.size=l.length:=by rw[qr,<-w1.length,q1.len]
    let h9:B.toArray.size=m.length:=by rw[qr,<-w2.length,q2.len]
    have items:∀j(h1:j<G.toArray.size)(h2:j<B.toArray.size),EqAt A.in1 s G.toArray[j] B.toArray[j] (decide (l[j]?=m[j]?)):=λj h1 h2=>by
     let#[x,hx,rx]:=Gb w1 h1;let#[y,hy,ry]:=Gb w2 h2;let F:j<l.length:=∅
     let J:j<m.length:=∅
     let#[x',M,h6]:=q1.get (i:=j) (d:=l[j]) (by simp[F]);let#[y',L,h5]:=q2.get (i:=j) (d:=m[j]) (by simp[J]);rw[hx]at M;cases M;rw[hy]at L;cases L;let:=(ih (A:=A.in1) (le_trans (Ia (l:=l) (j:=j) (by simp[F])) h8) I h6 h5 rx ry (Iw (j:=j) (a:=l[j]) (b:=m[j]) (Tp hc) (by simp[F]) (by simp[J])) e4).1;let e:decide (l[j]?=m[j]?)=decide (l[j]=m[j]):=by simp[F,J]
     rw[e];show this
    have O:RcAt A s (.ref a) (.ref b) (decide (D.tup l=D.tup m)):=by
     let:=RcAt.tuples (s:=s) (show s.heap.IsTuple a G.toArray from p1) (show s.heap.IsTuple b B.toArray from p2) ∅ items;rw[h4,h9,HY (l:=l) (m:=m) _ rfl]at this;let e:decide (D.tup l=D.tup m)=decide (l=m):=by by_cases h:l=m<;>simp[h]
     rw[e];show this
    show#[?_,O];by_cases h3:a=b
    .subst h3;let h7:l=m:=by let z:=aN.uniq I (.tup e1 q1) (.tup e2 q2) hc;cases z;rfl
     subst h7;simp;show EqAt.same _
    .show EqAt.of_refs h3 O
   |_=>cases hc
  |lst e1 q1=>
   cases r2 with
   |lst e2 q2=>
    rename_i a xs l b ys m;cases rv;cases ru;let#[G,w1,p1,_]:=I.list e1;let#[B,w2,p2,_]:=I.list e2;let h8:bC l<=n:=by let:bC l+1<=n+1:=hd;lia
    let h4:G.toArray.size=l.length:=by rw[qr,<-w1.length,q1.len]
    let h9:B.toArray.size=m.length:=by rw[qr,<-w2.length,q2.len]
    have items:∀j(h1:j<G.toArray.size)(h2:j<B.toArray.size),EqAt A.in1 s G.toArray[j] B.toArray[j] (decide (l[j]?=m[j]?)):=λj h1 h2=>by
     let#[x,hx,rx]:=Gb w1 h1;let#[y,hy,ry]:=Gb w2 h2;let F:j<l.length:=∅
     let J:j<m.length:=∅
     let#[x',M,h6]:=q1.get (i:=j) (d:=l[j]) (by simp[F]);let#[y',L,h5]:=q2.get (i:=j) (d:=m[j]) (by simp[J]);rw[hx]at M;cases M;rw[hy]at L;cases L;let hk:bD l m=false:=hc;let:=(ih (A:=A.in1) (le_trans (Ia (l:=l) (j:=j) (by simp[F])) h8) I h6 h5 rx ry (Iw (j:=j) (a:=l[j]) (b:=m[j]) hk (by simp[F]) (by simp[J])) e4).1;let e:decide (l[j]?=m[j]?)=decide (l[j]=m[j]):=by simp[F,J]
     rw[e];show this
    have O:RcAt A s (.ref a) (.ref b) (decide (D.lst l=D.lst m)):=by
     let e:decide (D.lst l=D.lst m)=decide (l=m):=by by_cases h:l=m<;>simp[h]
     rw[e];by_cases Y:l.length=m.length
     .let:=RcAt.lists (s:=s) p1.isList p2.isList ∅ ∅ items;rw[h4]at this;let e2:=HY (l:=l) (m:=m) l.length ∅;let e3:(l.length==m.length)=true:=by simpa using Y
      rw[e3,Bool.and_true]at e2;rw[<-e2];show this
     .let:=RcAt.lists_lengths (A:=A) (s:=s) p1.isList p2.isList (by simp only[h4,h9];simpa using Y) ∅;let e2:decide (l=m)=false:=qS λz=>Y (by rw[z]);rw[e2];show this
    show#[?_,O];by_cases h3:a=b
    .subst h3;let h7:l=m:=by let z:=aN.uniq I (.lst e1 q1) (.lst e2 q2) hc;cases z;rfl
     subst h7;simp;show EqAt.same _
    .show EqAt.of_refs h3 O
   |_=>cases hc
  |_=>show LO (by first|show .non|show .bl _|show .int _|(rename_i e z;show .str e z)|(rename_i e k r;show .dK e k r)|(rename_i e k r;show .dT e k r)|(rename_i e r;show .st e r)|(rename_i e k z;show .exc e k z)) r2 rv ru hc (λl z=>by cases z) (λl z=>by cases z)
end
section
variable{K:W.Frag}
open PySem.SeqAt
open Classical in
def wD(K:W.Frag):R2:=λx y H Q=>∃p q,aN K H x p/\aN K H y q/\aP p q=false/\dH p<=30/\Q (.bl (decide (p=q))) H
def CM(O:X.A.units+31<cLine):OpR X (compareOp .Eq) (wD X.K):=by intro zH s Z H x y v u Q I B z h;let#[p,q,G,F,M,L,J]:=h;show(IH 30 L I G F B z M ∅).2 X.prog X.w X.xe _ #[.bl _,H,I,rfl,J]
def Ln(h:dD p q=some k):aP p q=false/\dH p<=30:=by grind[dD]
open Classical in
def MC(h:dD p q=some k):k=decide (p=q):=by
 unfold dD at h;split at h
 .cases h
 .show(qf h).symm
def CL:dS K (wD K) dD:=by intro H x y p q k Q z v e B;let#[h1,h2]:=Ln e;let:=MC e;subst this;show#[p,q,z,v,h1,h2,B]
open Classical in
def sD(K:W.Frag):R2:=λx y H Q=>∃p q,aN K H x p/\aN K H y q/\aP p q=false/\dH p<=30/\Q (.bl (!decide (p=q))) H
def Mz(I:Inv X zH Z H s)(q1:zF X.K H xs l)(Y:zF X.K H ys m)(O:zE xs us)(M:zE ys G)(hc:bD l m=false)(hd:bC l<=30)(hu:A.units+30<cLine):
  ∀j(h1:j<us.toArray.size)(h2:j<G.toArray.size),EqAt A s us.toArray[j] G.toArray[j] (open Classical in decide (l[j]?=m[j]?)):=λj h1 h2=>by
 let#[x,hx,rx]:=Gb O h1;let#[y,hy,ry]:=Gb M h2;let h4:us.toArray.size=l.length:=by rw[qr,<-O.length,q1.len]
 let h3:G.toArray.size=m.length:=by rw[qr,<-M.length,Y.len]
 let F:j<l.length:=∅
 let B:j<m.length:=∅
 let#[x',z,L]:=q1.get (i:=j) (d:=l[j]) (by simp);let#[y',v,J]:=Y.get (i:=j) (d:=m[j]) (by simp);rw[hx]at z;cases z;rw[hy]at v;cases v;let:=(IH 30 (A:=A) (le_trans (Ia (l:=l) (j:=j) (by simp)) hd) I L J rx ry (Iw (j:=j) (a:=l[j]) (b:=m[j]) hc (by simp[F]) (by simp[B])) hu).1;let e:(open Classical in decide (l[j]?=m[j]?))=(open Classical in decide (l[j]=m[j])):=by simp[F,B]
 rw[e];show this
def HL(p:D):(∃l,p=.tup l)\/(∃l,p=.lst l)\/((∀l,p≠.tup l)/\∀l,p≠.lst l):=by
 cases p with
 |tup l=>show .inl #[l,rfl]
 |lst l=>show .inr (.inl #[l,rfl])
 |_=>show .inr (.inr #[λl z=>D.noConfusion z,λl z=>D.noConfusion z])
def Px(h:aP (.tup l) q=false):∃m,q=.tup m:=by
 cases q with
 |tup m=>show#[m,rfl]
 |_=>cases h
def QY(h:aP (.lst l) q=false):∃m,q=.lst m:=by
 cases q with
 |lst m=>show#[m,rfl]
 |_=>cases h
def Qo(J:aN K H x p)(G:aN K H y q)(v:aP p q=false)(h1:∀l,p≠.tup l)(h2:∀l,p≠.lst l):vO x y=true/\(p=q↔x=y):=by
 let F:=KM J v h1 h2;let B:=Lo G F v;cases F with
 |str M=>
  cases B with
  |str L=>
   rename_i x l y m;show#[rfl,λz=>?_,λz=>?_]
   .obtain⟨⟨a⟩⟩:=x;let#[#[b]]:=y;grind
   .cases z;rw[<-M,<-L]
  |_=>show#[rfl,λz=>D.noConfusion z,λz=>V.noConfusion z]
 |_=>cases B<;>first|show⟨rfl,λz=>D.noConfusion z,λz=>V.noConfusion z⟩|show⟨rfl,λz=>by cases z;rfl,λz=>by cases z;rfl⟩|cases v
def EL(hu:X.A.units+32<cLine):OpR X (compareOp .NotEq) (sD X.K):=by
 classical
 intro zH s Z H x y v u Q I rx ry h;let#[p,q,r1,r2,hc,hd,hq]:=h;let B:EP X zH Z Q (.bool (!decide (p=q))) s:=#[.bl _,H,I,rfl,hq]
 let h3:X.A.in1.units+30<cLine:=by show X.A.units+1+30<cLine;lia
 rcases HL p with⟨l,rfl⟩|⟨l,rfl⟩|⟨n1,n2⟩
 .obtain⟨m,rfl⟩:=Px hc;cases r1 with
  |tup e1 q1=>
  cases r2 with
  |tup M q2=>
   rename_i a xs b ys;cases rx;cases ry;let#[J,w1,p1,_]:=I.tuple (bN.of e1);let#[F,w2,p2,_]:=I.tuple (bN.of M);let O:bC l<=30:=by let:bC l+1<=30:=hd;lia
   let L:J.toArray.size=l.length:=by rw[qr,<-w1.length,q1.len]
   let Y:F.toArray.size=m.length:=by rw[qr,<-w2.length,q2.len]
   let:=RcNeAt.tuples (A:=X.A) (s:=s) (show s.heap.IsTuple a J.toArray from p1) (show s.heap.IsTuple b F.toArray from p2) ∅ (Mz I q1 q2 w1 w2 hc O h3);rw[L,Y,HY (l:=l) (m:=m) _ rfl]at this;let e:decide (D.tup l=D.tup m)=decide (l=m):=by by_cases h:l=m<;>simp
   rw[e]at B;show this X.prog X.w X.xe _ B
 .obtain⟨m,rfl⟩:=QY hc;cases r1 with
  |lst e1 q1=>
  cases r2 with
  |lst M q2=>
   cases rx;cases ry;let#[J,w1,p1,_]:=I.list e1;let#[F,w2,p2,_]:=I.list M;let O:bC l<=30:=by let:bC l+1<=30:=hd;lia
   let L:J.toArray.size=l.length:=by rw[qr,<-w1.length,q1.len]
   let Y:F.toArray.size=m.length:=by rw[qr,<-w2.length,q2.len]
   let e:decide (D.lst l=D.lst m)=decide (l=m):=by by_cases h:l=m<;>simp
   rw[e]at B;by_cases G:l.length=m.length
   .let:=RcNeAt.lists (A:=X.A) (s:=s) p1.isList p2.isList ∅ ∅ (Mz I q1 q2 w1 w2 hc O h3);rw[L]at this;let M:=HY (l:=l) (m:=m) l.length ∅;let e3:(l.length==m.length)=true:=by simpa using G
    rw[e3,Bool.and_true]at M;rw[<-M]at B;show this X.prog X.w X.xe _ B
   .let:=RcNeAt.lists_lengths (A:=X.A) (s:=s) p1.isList p2.isList (by simp[L,Y];simpa using G) ∅;let M:decide (l=m)=false:=qS λz=>G (by rw[z]);rw[M]at B;show this X.prog X.w X.xe _ B
 .obtain⟨h1,h2⟩:=Qo r1 r2 hc n1 n2;rw[decide_eq_decide.mpr h2]at hq;show Oj zH s Z H x y v u Q I rx ry #[h1,hq]
def ES:dS K (sD K) eJ:=by
 intro H x y p q k Q B z e F;unfold eJ at e;cases v:dD p q with
 |none=>rw[v]at e;cases e
 |some b=>rw[v]at e;let G:(!b)=k:=qf e;let#[h1,h2]:=Ln v;let:=MC v;subst this;subst G;show#[p,q,B,z,h1,h2,F]
def hV(f:Int->Int->Bool)(g:List Nat->List Nat->Bool):R2:=λx y H Q=>(∃i j,x=.int i/\y=.int j/\Q (.bl (f i j)) H)\/∃i j,x=.str i/\y=.str j/\Q (.bl (g i.cps.toList j.cps.toList)) H
def Ie{g:List Nat->List Nat->Bool}(rule:∀(i j:Str)(t u:Tok)(s:Shared)(Q:zj)(E:zj),Q (.bool (g i.cps.toList j.cps.toList)) s->wpAny (model X.prog X.w) X.A (compareOp G (.str i t) (.str j u)) Q E s):
  OpR X (compareOp G) (λx y H Q=>∃i j,x=.str i/\y=.str j/\Q (.bl (g i.cps.toList j.cps.toList)) H):=by
 intro zH s Z H x y v u Q I F B h;let#[i,j,rfl,rfl,q]:=h;let#[t,rfl]:=F;let#[z,rfl]:=B;show rule i j t z s _ _ #[.bl _,H,I,rfl,q]
def IR:OpR X (compareOp .Lt) (hV (λi j=>decide (i<j)) λl m=>decide (l<m)):=FL.OpR.or Ox (Ie (g:=λl m=>decide (l<m)) λ_ _ _ _ _ _ _ q=>PyProof.Rows.lt_str q)
def Qt:OpR X (compareOp .LtE) (hV (λi j=>decide (i<=j)) λl m=>!decide (m<l)):=FL.OpR.or Ol (Ie (g:=λl m=>!decide (m<l)) λ_ _ _ _ _ _ _ q=>PySem.P.le_str q)
def GW:OpR X (compareOp .Gt) (hV (λi j=>decide (j<i)) λl m=>decide (m<l)):=FL.OpR.or Oh (Ie (g:=λl m=>decide (m<l)) λ_ _ _ _ _ _ _ q=>PySem.P.gt_str q)
def Lm:OpR X (compareOp .GtE) (hV (λi j=>decide (j<=i)) λl m=>!decide (l<m)):=FL.OpR.or Od (Ie (g:=λl m=>!decide (l<m)) λ_ _ _ _ _ _ _ q=>PySem.P.ge_str q)
def Io(h:∀p q k,o p q=some k->(∃i j,p=.int i/\q=.int j/\k=f i j)\/∃l m,p=.str l/\q=.str m/\k=g l m):dS K (hV f g) o:=by
 intro H x y p q k Q z v e B;rcases h p q k e with⟨i,j,rfl,rfl,rfl⟩|⟨l,m,rfl,rfl,rfl⟩
 .cases z;cases v;show .inl #[i,j,rfl,rfl,B]
 .cases z with
  |str G L=>cases v with
   |str F J=>subst G F;show .inr #[_,_,rfl,rfl,B]
def Jp:dS K (hV (λi j=>decide (i<j)) λl m=>decide (l<m)) uI:=Io λp q k e=>by
 unfold uI yK at e;split at e
 .show .inl #[_,_,rfl,rfl,(qf e).symm]
 .show .inr #[_,_,rfl,rfl,(qf e).symm]
 .cases e
def Hc:dS K (hV (λi j=>decide (j<i)) λl m=>decide (m<l)) oV:=Io λp q k e=>by
 unfold oV yK at e;split at e
 .show .inl #[_,_,rfl,rfl,(qf e).symm]
 .show .inr #[_,_,rfl,rfl,(qf e).symm]
 .cases e
def Rq:dS K (hV (λi j=>decide (i<=j)) λl m=>!decide (m<l)) yQ:=Io λp q k e=>by
 unfold yQ at e;split at e
 .show .inl #[_,_,rfl,rfl,(qf e).symm]
 .show .inr #[_,_,rfl,rfl,(qf e).symm]
 .cases e
def LQ:dS K (hV (λi j=>decide (j<=i)) λl m=>!decide (l<m)) uR:=Io λp q k e=>by
 unfold uR at e;split at e
 .show .inl #[_,_,rfl,rfl,(qf e).symm]
 .show .inr #[_,_,rfl,rfl,(qf e).symm]
 .cases e
end
section
open PySem.SeqAt
open Classical in
def wA(K:W.Frag)(neg:Bool):R2:=λx y H Q=>∃p l,aN K H x p/\(aN K H y (.lst l)\/aN K H y (.tup l))/\(∀d∈l,aP d p=false/\dH d<=30)/\Q (.bl (if neg then !decide (p∈l)else decide (p∈l))) H
def Ml(I:Inv X zH Z H s)(rx:zw x v)(r1:aN X.K H x p)(q1:zF X.K H xs l)(w1:zE xs us)(hc:∀d∈l,aP d p=false/\dH d<=30)(hu:A.units+30<cLine):
  ∃e:Value->Bool,(∀y,y∈us.toArray->EqAt A s y v (e y))/\us.toArray.any e=(open Classical in decide (p∈l)):=by
 classical
 have item:∀{y:Value},y∈us->∃z d,zw z y/\aN X.K H z d/\d∈l:=λ{y} O=>by
  let#[j,hj,e]:=getElem_of_mem O;let#[z,hz,G]:=Gb (j:=j) w1 hj;let hl:j<l.length:=by rw[<-q1.len,w1.length];show hj
  let#[Y,M,B]:=q1.get (i:=j) (d:=l[j]) (by simp);rw[hz]at M;cases M;show#[z,l[j],?_,B,by simp];let:us.toArray[j]=y:=e;rw[<-this];show G
 show#[λy=>decide (∃z,zw z y/\aN X.K H z p),λy O=>?_,?_]
 .have h1:y∈us:=by simpa using O
  obtain⟨z,d,G,B,hd⟩:=item h1;let L:=hc d hd;let:=(IH 30 (A:=A) L.2 I B r1 G rx L.1 hu).1;let e:decide (d=p)=decide (∃z,zw z y/\aN X.K H z p):=by
   by_cases h:d=p
   .subst h;rw[qR rfl,qR #[z,G,B]]
   .rw[qS h];show(qS ?_).symm;rintro⟨Y,F,J⟩;let:z=Y:=G.inj F;subst this;show h (aN.uniq I B J L.1)
  show EqAt A s y v (decide (∃z,zw z y/\aN X.K H z p));rw[<-e];show this
 .by_cases h:p∈l
  .rw[qR h];let#[j,hj,e]:=getElem_of_mem h;let#[z,hz,B]:=q1.get (i:=j) (d:=l[j]) (by simp);let#[u,h2,ru]:=w1.get hz;rw[Array.any_eq_true'];show#[u,by simpa using qM h2,qR #[z,ru,e▸B]]
  .rw[qS h];rw[Array.any_eq_false'];intro y O z;let#[Y,F,J]:=qU z;let#[z2,d,G,B,hd]:=item (y:=y) ↑O;let:z2=Y:=G.inj F;subst this;show h (aN.uniq I B J (hc d hd).1▸hd)
def Uo(hu:X.A.units+32<cLine):OpR X (compareOp .NotIn) (wA X.K true):=by
 intro zH s Z H x y v u Q I Y O h;let#[p,l,r1,z,hc,hq]:=h;let F:X.A.in1.units+30<cLine:=by show X.A.units+1+30<cLine;lia
 rcases z with z|z
 .cases z with
  |lst e q=>cases O;let#[B,G,J,_]:=I.list e;let#[f,L,M]:=Ml (A:=X.A.in1) I Y r1 q G hc F;show notIn_listAt f J.isList L #[.bl _,H,I,rfl,by rw[M];show hq]
 .cases z with
  |tup e q=>cases O;let#[B,G,J,_]:=I.tuple (bN.of e);let#[f,L,M]:=Ml (A:=X.A.in1) I Y r1 q G hc F;show notIn_tupleAt f (show s.heap.IsTuple _ B.toArray from J) L #[.bl _,H,I,rfl,by rw[M];show hq]
end
section
variable{K:W.Frag}
def IL(z:xs.length=l.length)(h:atI l i=some d):∃j,ixN l.length i=some j/\l[j]?=some d/\∀x,xs[j]?=some x->L2.atI xs i=some x:=by
 unfold atI at h;cases q:ixN l.length i with
 |none=>rw[q]at h;cases h
 |some j=>
  rw[q]at h;show#[j,rfl,h,λx v=>?_];let e:L2.ixN xs.length i=some j:=by rw[z];show q
  unfold L2.atI;rw[e];show v
def zF.atI(r:zF K F xs l)(h:FL.atI l i=some d):∃x,L2.atI xs i=some x/\aN K F x d:=by let#[j,_,h1,h2]:=IL (xs:=xs) r.len h;let#[x,z,v]:=r.get h1;show#[x,h2 x z,v]
def zv.get{j:Nat}(r:zv K F H xs l fp)(h:l[j]?=some t):∃x B v z,xs[j]?=some x/\aK K F H x t v/\fp=B++(v++z):=
 zv.ind (P:=λxs l fp=>∀j t,l[j]?=some t->∃x B v z,xs[j]?=some x/\aK K F H x t v/\fp=B++(v++z)) (λ_ _ e=>by cases e) (λa _ G j t e=>by
  cases j with
  |zero=>cases e;show#[_,[],_,_,rfl,a,rfl]
  |succ j=>let#[x,B,v,z,h1,h2,rfl]:=G j t e;show#[x,_++B,v,z,h1,h2,(qp ..).symm]) r j t h
def Rel.item{j:Nat}(r:Rel K (U++[some (.lst l)]) (Z++[some (.ref a)]) F G H)(h:l[j]?=some t):∃xs x,H a=some (.lst xs)/\xs.length=l.length/\xs[j]?=some x/\Rel K (U++[some t]) (Z++[some x]) F G H:=by
 let#[fp,e,Y,ap]:=r.en;let#[B,f2,rfl,en,b]:=e.cut (Af r);cases b with
 |so M O=>
  cases O;cases M with
  |lst hD rl=>
   rename_i xs fl;let#[x,L,v,J,h1,h2,rfl]:=rl.get h;show#[xs,x,hD,rl.len,h1,r.fr,r.gr,B++(v++[]),en.app (.so h2 .nil),?_,λy hy=>ap y ?_]
   .let sub:List.Sublist (B++(v++[])) (B++(a::(L++(v++J))++[])):=by show List.Sublist.append (List.Sublist.refl _) ?_;simp;exact(List.Sublist.cons _ ((List.sublist_append_left v J).trans (List.sublist_append_right L _)))
    show sub.nodup Y
   .rcases qx.mp hy with z|z
    .show qj _ z
    .show qi _ ?_;simp only[qz]at z⊢;show qk _ (qi _ (qj _ z))
end
def Qw{K:W.Frag}(e:bN K H c xs)(r:zF K F xs l)(h:atI l i=some d)(B:∀x,aN K F x d->Q x H):yH K (.ref c) (.int i) H Q:=by let#[x,z,v]:=r.atI h;show .inr (.inl #[c,xs,i,x,rfl,rfl,e,z,B x v])
def Rj{K:W.Frag}(e:bO K H c xs)(r:zF K F xs l)(h:atI l i=some d)(B:∀x,aN K F x d->Q x H):yH K (.ref c) (.int i) H Q:=by let#[x,z,v]:=r.atI h;show .inl #[c,xs,i,x,rfl,rfl,e,z,B x v]
def Rg(h:jE s q=some t):(∃l i d,s=.sh (.tup l)/\q=.int i/\atI l i=some d/\t=.sh d)\/(∃l i d,s=.sh (.lst l)/\q=.int i/\atI l i=some d/\t=.sh d)\/
  (∃l i c,s=.sh (.str l)/\q=.int i/\atI l i=some c/\t=.sh (.str [c]))\/∃l i,s=.lst l/\q=.int i/\atI l i=some t:=by
 show cps λ_ kk=>?_;rcases s with d|l|_|_
 .rcases d with _|_|_|l|l|l|_|_|_;case str|tup|lst=>
   rcases q with _|_|i|_|_|_|_|_|_;case int=>let#[d,e,e']:=qY.mp h;first|show kk (.inl ⟨_,_,d,rfl,rfl,e,e'.symm⟩)|show kk (.inr (.inl ⟨_,_,d,rfl,rfl,e,e'.symm⟩))|show kk (.inr (.inr (.inl ⟨_,_,d,rfl,rfl,e,e'.symm⟩)))
   all_goals cases h
  all_goals cases h
 .rcases q with _|_|i|_|_|_|_|_|_;case int=>exact kk (.inr (.inr (.inr #[_,_,rfl,rfl,h])))
  all_goals cases h
 all_goals cases h
def IZ{K:W.Frag}(h:aK K F H v (.sh d) fp):aN K F v d:=by cases h;assumption
def Ms{K:W.Frag}(h:aK K F H v (.lst l) fp):∃a xs fq,v=.ref a/\H a=some (.lst xs)/\zv K F H xs l fq:=by
 cases h with
 |lst h1 h2=>show#[_,_,_,rfl,h1,h2]
def Li{K:W.Frag}(fr:zr F H)(r:aN K F v d)(L:aN K F2 u q)(Y:jE (.sh d) q=some t)(G:∀e x,t=.sh e->aN K F x e->Q x H):yH K v u H Q:=by
 rcases Rg Y with⟨l,i,e,B,rfl,O,rfl⟩|⟨l,i,e,B,rfl,O,rfl⟩|⟨l,i,c,B,rfl,ec,rfl⟩|⟨l,i,B,_⟩
 .injection B with B
  subst B;obtain rfl:=bE.int (H:=H) (.inl L);let#[a,xs,rfl,h1,M]:=bE.tup (H:=H) (.inl r);show Qw (bN.of (fr _ _ h1)) M O λx J=>G _ x rfl J
 .injection B with B
  subst B;obtain rfl:=bE.int (H:=H) (.inl L);let#[a,xs,rfl,h1,M]:=bE.lst (H:=H) fr (.inl r);show Rj h1 M O λx J=>G _ x rfl J
 .injection B with B
  subst B;obtain rfl:=bE.int (H:=H) (.inl L);let#[x,rfl,h1,z]:=bE.str (H:=H) (.inl r);show .inr (.inr #[_,i,c,rfl,rfl,by rw[GD h1];show z,by rw[h1];show ec,G _ _ rfl (.str rfl (by show 1<=_;decide))])
 .cases B
def LV(h:jE (.lst l) q=some t):∃i,q=.int i/\atI l i=some t:=by
 cases q with
 |int i=>show#[i,rfl,h]
 |_=>cases h
def Bm(ha:FE X a wa)(hb:FE X b wb)(hs:kL b:=by intro _ _;rfl):FE X (.Subscript a b pos) (eG wa wb):=λpn xe hp=>by
 refine PE.imp (Oo (Pk (X:=wp X pn xe)) (ha pn xe hp) (hb pn xe hp) hs) λZ H Q q=>?_;refine(GL (k:=λx y U2 Q E=>zp (view y U2) λq=>match x with
  |.v s=>zp (jE s q) λt=>Q (.v t) U2
  |.loc i=>match slot U2 i with
   |some s=>match jE s q with
    |some (.sh d)=>Q (.v (.sh d)) U2
    |_=>False
   |none=>False) q).mono λv H1 h1=>h1.mono λu H2 h2=>?_
 let#[F,G,U,x,y,P,PX,h5,Y,rx,ry,J,h6,hx]:=h2;let#[q,eq,J]:=Aq J;let B:Rel X.K (U++[zt x]) (Z++[some v]) F G H2:=by let:=Rel.swap (U1:=[zt x]) (Z1:=[some v]) (U2:=[zt y]) (Z2:=[some u]) Y rfl h5;show Rel.mid (U:=U) (Z:=Z) this Y
 let h4:Rel X.K (U++[zt y]) (Z++[some u]) F G H2:=h5.mid Y;let ru:=AH (U':=[]) (Z':=[]) h4 Y ry eq;let M:∀{d:D}{x:V},P (.v (.sh d)) U->aN X.K F x d->Q x H2:=λhP r=>h6 _ U _ F H2 hP (zr.refl F) ((B.drop Y).push r) trivial;cases x with
 |v s=>
  let#[t,L,hP]:=Aq J;let#[w,fp,e1,sr]:=B.at (i:=U.length) (s:=s) Fy;rw[Y,getElem?_append_right (q8 _)]at e1;let e2:v=w:=↑e1
  subst e2;cases s with
  |sh d=>show Li B.fr (IZ sr) ru L λe x z rx=>M (by rw[<-z];show hP) rx
  |lst l=>let#[i,rfl,L]:=LV L;obtain rfl:=bE.int (H:=H2) (.inl ru);let#[a,ys,fq,rfl,hD,rl]:=Ms sr;let#[j,_,hj,h3]:=IL rl.len L;let#[xs,x,h7,h9,O,r2]:=Rel.item B hj;rw[hD]at h7;cases h7;show .inl #[_,_,i,x,rfl,rfl,bO.of hD,h3 x O,h6 _ U _ F H2 hP (zr.refl F) r2 trivial]
  |_=>cases q<;>cases L
 |loc k=>
  dsimp only at J;cases qs:slot U k with
  |none=>rw[qs]at J;show J.elim
  |some s=>
   rw[qs]at J;dsimp only at J;split at J
   .rename_i d L;let#[w,fp,e1,sr]:=(B.drop Y).at qs;let h8:Z[k]?=some (some v):=rx;rw[h8]at e1;let e2:v=w:=by simpa using e1
    subst e2;cases s with
    |sh d'=>show Li B.fr (IZ sr) ru L λe x z rx=>M (by injection z with z;rw[<-z];show J) rx
    |lst l=>let#[i,rfl,L]:=LV L;obtain rfl:=bE.int (H:=H2) (.inl ru);let#[a,ys,fq,rfl,hD,rl]:=Ms sr;let#[j,_,hj,h3]:=IL rl.len L;let#[x,fa,fi,fb,O,sx,_]:=rl.get hj;show .inl #[_,_,i,x,rfl,rfl,bO.of hD,h3 x O,M J (IZ sx)]
    |_=>cases q<;>cases L
   .show J.elim
section
variable{K:W.Frag}{Z:St}
def zv.set:∀{xs:List V}{l:List S}{fp:List Addr}{m:Nat},zv K F H xs l fp->m<l.length->∃J M G,fp=J++(M++G)/\
  ∀{H':Hp}{v:V}{s:S}{fq:List Addr},(∀a∈J++G,H' a=H a)->aK K F H' v s fq->zv K F H' (xs.set m v) (l.set m s) (J++(fq++G))
 |_,_,_,_,.nil,h=>by simp at h
 |_,_,_,0,.cons (fp:=fp) (fq:=fq) a b,h=>#[[],fp,fq,rfl,λL r=>by rw[nil_append];show .cons r (b.mono (zr.refl F) λc B=>L c B)]
 |_,_,_,m+1,.cons (fp:=fp) (fq:=fq) a b,h=>by let#[J,M,G,rfl,O]:=zv.set (m:=m) b ↑h;show#[fp++J,M,G,(qp ..).symm,λL r=>?_];rw[qp];show .cons (a.mono (zr.refl F) λc B=>L c (qj _ (qj _ B))) (O (λc B=>L c ((qx.mp B).elim (λz=>qj _ (qi _ z)) λz=>qi _ z)) r)
def Hn(h:Z[n]?=some (some v)):Z.set n (some v)=Z:=by
 apply ext_getElem?;intro j;by_cases z:n=j
 .subst z;rw[getElem?_set_self (qg.mp h).1,h]
 .rw[getElem?_set_ne z]
def Rel.setItem{D:Addr}(r:Rel K (U++[some s]) (Z++[some v]) F G H)(hs:slot U n=some (.lst l))(L:Z[n]?=some (some (.ref D)))(hm:m<l.length):
  ∃xs,H D=some (.lst xs)/\xs.length=l.length/\Rel K (U.set n (some (.lst (l.set m s)))) Z F G (upd H D (.lst (xs.set m v))):=by
 let hl:=Af r;let#[fp,e,nd,ap]:=r.en;let#[f1,f2,rfl,a,b]:=e.cut hl;let#[v',fa,fi,fb,e1,rfl,q,up]:=a.at hs;rw[L]at e1;let e2:V.ref D=v':=↑e1
 subst e2;cases q with
 |lst hD rl=>
  rename_i xs fl;cases b with
  |so sr nl=>
   cases nl;rename_i fs;let#[O,gi,M,rfl,h1]:=rl.set hm;show#[xs,hD,rl.len,?_];let#[n1,n2,h3]:=qw.mp nd;let#[na,B,h2]:=qw.mp n1;let#[ni,nb,B]:=qw.mp B;let#[nD,h8]:=qL.mp ni;let h7:D∉fa:=λz=>h2 D z D (qj _ qm) rfl;let h6:D∉fb:=λz=>B D qm D z rfl;let h4:D∉fs:=λz=>h3 D (qi _ (qj _ qm)) D ↑z rfl;let Y:=ap D (qj _ (qi _ (qj _ qm)));let ne:∀{l:List Addr},D∉l->∀x∈l,upd H D (.lst (xs.set m v)) x=H x:=λh x J=>Ap λz=>h (z▸J);let h5:D∉O++M:=λz=>nD ((qx.mp z).elim (λw=>qj _ w) λw=>qi _ (qi _ w));let new:aK K F (upd H D (.lst (xs.set m v))) (.ref D) (.lst (l.set m s)) (D::(O++(fs++M))):=.lst Bl (h1 (ne h5) (sr.mono (zr.refl F) (ne h4)));let a2:=up (F':=F) (H':=upd H D (.lst (xs.set m v))) (o:=some (.lst (l.set m s))) (u:=some (.ref D)) (zr.refl F) (λx J=>Ap λz=>(qx.mp J).elim (λw=>h7 (z▸w)) λw=>h6 (z▸w)) (.so new .nil);rw[Hn L]at a2;let sub:∃l2,l2.Perm (fa++((D::(O++(gi++M)))++fb)++(fs++[]))/\List.Sublist (fa++((D::(O++(fs++M)))++[]++fb)) l2:=by
    show#[fa++((D::(O++(fs++(gi++M))))++[]++fb),?_,?_]
    .simp;show List.Perm.append_left _ (List.Perm.cons _ (List.Perm.append_left _ ?_));show qN.trans (by simp)
    simp_all
   let#[l2,p,sb]:=sub;show#[zr.updR r.fr Y.1,λx o w=>?_,_,a2,sb.nodup (p.nodup_iff.mpr nd),λx J=>ap x (p.mem_iff.mp (sb.subset J))];let J:x≠D:=λz=>by rw[z,Y.2]at w;cases w
   rw[Ap J];show r.gr x o w
end
theorem JD(ho:FE X o (zk j))(hi:FE X i wi)(he:FE X e we)(hs:swapsWithSole [.Subscript o i tpos] e pos.line X.env=pure false:=by rfl)(hw:swappedStores [.Subscript o i tpos] e X.env=pure none:=by rfl)
  (h1:(assignEach [.Subscript o i tpos] X.env).map (·.2)=[assign (.Subscript o i tpos) X.env]:=by rfl)
  (ha:∀v,assign (.Subscript o i tpos) X.env v=(do
   let ov<-holding [v] (eval o X.env)
   let iv<-holding [v,ov] (eval i X.env)
   standAt tpos
   holding [v,ov,iv] (setItem ov iv v)
   release [v,ov,iv] []):=by intro _;rfl):FS X ks (.Assign [.Subscript o i tpos] e pos) (eK j wi we):=λpn xe hp=>by
 show PS.imp (La (X:=wp X pn xe) (he pn xe hp) (OW (X:=wp X pn xe) (ho pn xe hp) (hi pn xe hp) SV ha) hs hw h1) λD Z H q=>?_;let#[F,G,U,E,zJ,hw,n,b,c,r,x]:=q;let x0:XC (wp X pn xe) (·=Z) F G E.ex:=x.mono (λZ2 z=>by rw[z];show KP.refl) (zr.refl F) (zr.refl G);show#[F,G,U,_,_,zJ,hw,λr U1 v F1 H1 hk s1 r1 rv=>?_,x0];let l1:=Af r1;let#[G1,rel1,gg,back]:=r1.hide l1;show#[F1,G1,U1,_,_,rel1,hk,λy U2 o' F2 H2 hk2 s2 r2 rv2=>?_,x0.mono (λ_ z=>z) s1 gg];let l2:=Af r2;let#[G2,rel2,gg2,back2]:=r2.hide l2;show#[F2,G2,U2,_,_,rel2,hk2,λz U3 i' F3 H3 hk3 s3 r3 rv3=>?_,x0.mono (λ_ z=>z) (s1.trans s2) (gg.trans gg2)];let l3:=Af r3;let#[q,eq,hk3]:=Aq hk3;let#[#[t,U4],eg,hk4]:=Aq hk3
 --all three stand at the end
 let r4:=back (s2.trans s3) (back2 s3 r3);simp only[qp,qO,nil_append]at r4;let ri:=AH (U':=[zt y,zt r]) (Z':=[some o',some v]) r4 l3 rv3 eq;let r5:Rel X.K (U3++[zt r]) (Z++[some v]) F3 G H3:=Rel.mid (U:=U3) (Z:=Z) (Rel.mid (U:=U3) (Z:=Z) r4 l3) l3;let#[F4,s4,l4,r6]:=AG (U':=[]) (Z':=[]) r5 l3 rv eg;cases y with
 |v y0=>show hk4.elim
 |loc k=>
  cases q with
  |int m=>
   cases qs:slot U4 j with
   |none=>simp only[qs]at hk4
   |some sj=>
    cases sj with
    |lst l=>
     simp only[qs]at hk4;let#[rfl,hk4]:=hk4;let#[w,ew,hnx]:=Aq hk4;let hZ:Z[k]?=some (some o'):=rv2;let#[v',fp,e1,sr]:=r6.at (i:=k) (s:=.lst l) (by rw[Hk (GE qs)];show qs);let hkl:k<Z.length:=(qg.mp hZ).1;rw[getElem?_append_left hkl,hZ]at e1;let e2:o'=v':=↑e1
     subst e2;let hw:w<l.length:=by
      unfold ixN at ew;split at ew
      .split at ew
       .let e:=qf ew;lia
       .cases ew
      .split at ew
       .let e:=qf ew;lia
       .cases ew
     cases sr with
     |lst hD rl=>rename_i a xs fl;let#[xs',hD',zK,r7]:=Rel.setItem r6 qs hZ hw;rw[hD]at hD';cases hD';cases ri;show#[a,xs,m,w,rfl,rfl,hD,by rw[zK];show ew,n _ Z F4 _ hnx KP.refl (s1.trans (s2.trans (s3.trans s4))) r7]
    |_=>simp[qs]at hk4
  |_=>show hk4.elim
def GJ(ho:FE X o (zk j))(he:FE X e we)
  (Y:attributeBase o "append" X.env (eval o X.env)=eval o X.env:=by rfl)
  (h3:((backTo cpos (starEach [e] X.env)).all (λx=>!x.1)&&(backToKw cpos (keywordEach [] X.env)).all (λx=>x.1.isSome)
   &&decide ([e].length+([]:List Keyword).length+(if([]:List Keyword).isEmpty then 0 else 1)<30))=true:=by rfl)
  (O:(apos.endLine==cpos.line)=true:=by rfl)(hs:starEach [e] X.env=[(false,eval e X.env)]:=by rfl):FE X (.Call (.Attribute o "append" apos) [e] [] cpos) (bP j we):=λpn xe hp=>by
 refine PE.imp (GP (X:=wp X pn xe) PySem.F.plainAttrs_list PySem.F.slot_list_append PySem.F.type_list_append Ka (ho pn xe hp) (Aa he Ab hs pn xe hp) Y h3 O hs rfl) λZ H Q q=>?_;let#[F,G,U,P,PX,h4,hw,h5,hx]:=q;let J:(match slot U j with
  |some (.lst _)=>we U (λr L=>zp (give r L) λp=>(match slot p.2 j with
   |some (.lst l)=>l.length<big/\P (.v (.sh .non)) (p.2.set j (some (.lst (l++[p.1]))))
   |_=>False)) PX
  |_=>False):=hw
 cases qs:slot U j with
 |none=>rw[qs]at J;show J.elim
 |some s0=>
  cases s0 with
  |lst l0=>
   rw[qs]at J;show#[F,G,U,λy M=>y=.loc j/\M=U,PX,h4,by unfold zk;rw[qs];show#[rfl,rfl],λy M o' F1 H1 B s1 r1 rv=>?_,hx];let#[rfl,rfl]:=B;let l1:=Af r1;let h1:Z[j]?=some (some o'):=rv;let r2:=r1.drop l1;let#[v',fp,e1,sr]:=r2.at qs;rw[h1]at e1;let e2:o'=v':=↑e1
   subst e2;cases sr with
   |lst hD rl=>
    rename_i a xs fl;show#[.inl #[rfl,_,bO.of hD],F1,G,M,λrs L=>match rs with|[r]=>(zp (give r L) λp=>match slot p.2 j with|some (.lst l)=>l.length<big/\P (.v (.sh .non)) (p.2.set j (some (.lst (l++[p.1]))))|_=>False)|_=>False,PX,r2,J,λrs L vs F2 H2 B s2 r3 hl z=>?_,hx.grow s1];match rs,vs,z,r3,B with
    |[r],[v],z,r3,B=>
     let#[#[t,h7],eg,B]:=Aq B;let#[F3,s3,l3,r4]:=AG (U':=[]) (Z':=[]) r3 hl z.1 eg;split at B
     .rename_i l ql;let#[ys,h6,h2,r5]:=Rel.append r4 ql h1;show#[a,ys,v,rfl,rfl,h6,by rw[h2];show lt_trans B.1 ⋯,h5 _ _ .non F3 _ B.2 (s1.trans (s2.trans s3)) (r5.push .non) trivial]
     .show B.elim
    |[],_,_,_,B=>show B.elim
    |[_],[],z,_,_=>show z.elim
    |[_],_::_::_,z,_,_=>show z.2.elim
    |_::_::_,_,_,_,B=>show B.elim
  |_=>rw[qs]at J;show J.elim
section
variable{K:W.Frag}
def gO(K:W.Frag)(F H:Hp):List V->List D->Prop
 |[],[]=>True
 |v::vs,d::ds=>bE K F H v d/\gO K F H vs ds
 |_,_=>False
def BK{b:List D->Option S}(h2:∀x y r,b (x::y::r)=none)(B:b []=none)(z:gO K F H vs ds)(e:b ds=some s):∃d v,ds=[d]/\vs=[v]:=by
 cases ds with
 |nil=>rw[B]at e;cases e
 |cons x ds=>
  cases ds with
  |cons y r=>rw[h2]at e;cases e
  |nil=>
   cases vs with
   |nil=>show z.elim
   |cons v vs=>
    cases vs with
    |nil=>show#[x,v,rfl,rfl]
    |cons u vs=>show z.2.elim
def HQ{b:List D->Option S}(h1:∀x,b [x]=none)(G:∀x y z r,b (x::y::z::r)=none)(J:b []=none)(B:gO K F H vs ds)(e:b ds=some s):∃d L v u,ds=[d,L]/\vs=[v,u]:=by
 cases ds with
 |nil=>rw[J]at e;cases e
 |cons x ds=>
  cases ds with
  |nil=>rw[h1]at e;cases e
  |cons y ds=>
   cases ds with
   |cons z r=>rw[G]at e;cases e
   |nil=>
    cases vs with
    |nil=>show B.elim
    |cons v vs=>
     cases vs with
     |nil=>show B.2.elim
     |cons u vs=>
      cases vs with
      |nil=>show#[x,y,v,u,rfl,rfl]
      |cons u vs=>show B.2.2.elim
def Cd:∀{rs:List R}{vs:List V}{ds:List D}{U U':Env}{F:Hp}{Z':St},Rel K (U++(rs.map zt++U')) (Z++(vs.map some++Z')) F G H->U.length=Z.length->mO Z vs rs->(rs.mapM λr=>zD r U)=some ds->
  ∃F',zr F F'/\gO K F' H vs ds/\Rel K (U++U') (Z++Z') F' G H
 |[],[],ds,U,U',F,Z',r,h,_,e=>by
  let B:ds=[]:=↑e.symm
  subst B;show#[F,zr.refl F,trivial,r]
 |[],_::_,_,_,_,_,_,_,_,h,_=>h.elim
 |_::_,[],_,_,_,_,_,_,_,h,_=>h.elim
 |x::rs,v::vs,ds,U,U',F,Z',r,h,rv,e=>by
  rw[List.mapM_cons]at e;cases q:zD x U with
  |none=>rw[q]at e;cases e
  |some d=>
   rw[q]at e;cases z:(rs.mapM λr=>zD r U)with
   |none=>rw[z]at e;cases e
   |some es=>rw[z]at e;let B:d::es=ds:=qf e;subst B;let#[F1,L,M,Y]:=Ba (U':=rs.map zt++U') (Z':=vs.map some++Z') r h rv.1 q;let#[F2,J,res,O]:=Cd (rs:=rs) (vs:=vs) Y h rv.2 z;show#[F2,L.trans J,#[M.mono J,res],O]
def cJ(K:W.Frag)(r:List V->Hp->VK->Prop)(f:List D->Option S):Prop:=∀(Z:St)(U:Env)(F G H:Hp)(vs:List V)(ds:List D)(s:S)(Q:VK),Rel K U Z F G H->gO K F H vs ds->f ds=some s->
 (∀v F' H',zr F F'->Rel K (U++[some s]) (Z++[some v]) F' G H'->Q v H')->r vs H Q
end
section
variable{id T:String}
def Mk(hd:cJ X.K r f)(Z:St)(H:Hp)(Q:VK)(q:tW (wp X pn xe) (wB f Y) Z H Q):vN r (nH (wp X pn xe) Y) Z H Q:=by show(many (k:=λO z Q E=>zp (O.mapM λr=>zD r z) λM=>zp (f M) λs=>Q (.v s) z) q).mono λvs H1 h1=>?_;let#[F,G,U,O,P,PX,J,hl,rv,B,L,hx]:=h1;let#[M,ed,B]:=Aq B;let#[s,es,B]:=Aq B;let#[F1,s1,re,r1]:=Cd (U':=[]) (Z':=[]) ↑J hl rv ed;show hd Z U F1 G H1 vs M s Q ↑r1 re es λv F' H' sm r'=>L _ U v F' H' B (s1.trans sm) r' trivial
def Hl(Y:∀pn xe,aY (wp X pn xe) (.builtin id) r)(O:cJ X.K r f)(L:Gl X x)(J:X.mg x=none)(F:bootBuiltins x=some (.builtin id))(ha:FA X (e::es) B)(hn:x≠"__name__":=by decide)(z:(x==("__debug__":Str))=false:=by decide)
  (M:starEach (e::es) X.env=(false,eval e X.env)::starEach es X.env:=by rfl)(v:(backTo pos (starEach es X.env)).any (·.1)=false:=by rfl):FE X (.Call (.Name x p) (e::es) [] pos) (wB f B):=λpn xe G=>
 PE.imp (JE (X:=wp X pn xe) (Y pn xe) L J F (ha pn xe G) hn z M v) (Mk O)
def Hj(Y:∀pn xe,aY (wp X pn xe) (.type T) r)(O:cJ X.K r f)(L:Gl X x)(J:X.mg x=none)(F:bootBuiltins x=some (.type T))(ha:FA X (e::es) B)(hn:x≠"__name__":=by decide)(z:(x==("__debug__":Str))=false:=by decide)
  (M:starEach (e::es) X.env=(false,eval e X.env)::starEach es X.env:=by rfl)(v:(backTo pos (starEach es X.env)).any (·.1)=false:=by rfl):FE X (.Call (.Name x p) (e::es) [] pos) (wB f B):=λpn xe G=>
 PE.imp (Uk (X:=wp X pn xe) (Y pn xe) L J F (ha pn xe G) hn z M v) (Mk O)
def sF(K:W.Frag):List V->Hp->VK->Prop:=λxs H Q=>(∃p ys,xs=[.ref p]/\(bO K H p ys\/bN K H p ys)/\Q (.int ys.length) H)\/∃z,xs=[.str z]/\z.length<=sizeLine/\Q (.int z.length) H
def aY.or'{f:Value}(h:aY X f r)(h':aY X f B):aY X f (λx H Q=>r x H Q\/B x H Q):=λzH s Z H xs v Q I z q=>q.elim (h zH s Z H xs v Q I z) (h' zH s Z H xs v Q I z)
def MO:aY X (.builtin "len") (sF X.K):=aY.or' Vr Vp
def MU{K:W.Frag}:cJ K (sF K) aV:=by
 intro Z U F G H Y ds s Q B J e M;let#[d,v,rfl,rfl]:=BK (λx y r=>by cases x<;>rfl) rfl J e;cases d with
 |str l=>cases e;let#[x,rfl,O,z]:=J.1.str;show .inr #[x,rfl,by rw[GD O];show z,by rw[GD O];show M _ F H (zr.refl F) (B.push (.int _))]
 |tup l=>cases e;let#[a,xs,rfl,h1,L]:=J.1.tup;show .inl #[a,xs,rfl,.inr (bN.of (B.fr _ _ h1)),by rw[L.len];show M _ F H (zr.refl F) (B.push (.int _))]
 |lst l=>cases e;let#[a,xs,rfl,h1,L]:=J.1.lst B.fr;show .inl #[a,xs,rfl,.inl h1,by rw[L.len];show M _ F H (zr.refl F) (B.push (.int _))]
 |_=>cases e
def AY(F:Gl X "len")(B:X.mg "len"=none)(J:FA X (e::es) z)(G:starEach (e::es) X.env=(false,eval e X.env)::starEach es X.env:=by rfl)(v:(backTo pos (starEach es X.env)).any (·.1)=false:=by rfl):FE X (.Call (.Name "len" p) (e::es) [] pos) (wB aV z):=
 Hl (λ_ _=>MO) MU F B PySem.boot_len J ⋯ ⋯ G v
end
section
variable{K:W.Frag}
def az:List V->Hp->VK->Prop:=λxs H Q=>(∃i,xs=[.int i]/\Q (.int i) H)\/∃k,xs=[.bl k]/\Q (.int (if k then 1 else 0)) H
def bE.bl(h:bE K F H v (.bl b)):v=.bl b:=by
 rcases h with h|⟨_,_,_,_,h,_⟩|⟨_,_,_,_,_,h,_⟩|⟨_,_,_,_,_,h,_⟩
 .cases h;rfl
 .cases h
 .cases h
 .cases h
def TK:cJ K az iJ:=by
 intro Z U F G H L M s Q z B e J;let#[d,v,rfl,rfl]:=BK (λx y r=>by cases x<;>rfl) rfl B e;cases d with
 |int i=>cases e;let:=B.1.int;subst this;show .inl #[i,rfl,J _ F H (zr.refl F) (z.push (.int _))]
 |bl b=>cases e;let:=B.1.bl;subst this;show .inr #[b,rfl,J _ F H (zr.refl F) (z.push (.int _))]
 |_=>cases e
def GZ(G:Gl X "int")(F:X.mg "int"=none)(B:bootBuiltins "int"=some (.type "int"))(L:FA X (e::es) z)(J:starEach (e::es) X.env=(false,eval e X.env)::starEach es X.env:=by rfl)(v:(backTo pos (starEach es X.env)).any (·.1)=false:=by rfl):FE X (.Call (.Name "int" p) (e::es) [] pos) (wB iJ z):=
 Hj (λ_ _=>Ue) TK G F B L ⋯ ⋯ J v
def rY(K:W.Frag):List V->Hp->VK->Prop:=λxs H Q=>∃p ys,xs=[.ref p]/\((bO K H p ys/\∀l,H l=none->Q (.ref l) (upd H l (.tup ys)))\/(bN K H p ys/\Q (.ref p) H))
def UQ:cJ K (rY K) cH:=by
 intro Z U F G H Y ds s Q z B e M;let#[d,v,rfl,rfl]:=BK (λx y r=>by cases x<;>rfl) rfl B e;cases d with
 |tup l=>cases e;let#[a,xs,rfl,h1,J]:=B.1.tup;show#[a,xs,rfl,.inr #[bN.of (z.fr _ _ h1),M _ F H (zr.refl F) (z.push (.tup h1 J))]]
 |lst l=>cases e;let#[a,xs,rfl,h1,J]:=B.1.lst z.fr;show#[a,xs,rfl,.inl #[h1,λp O=>?_]];let L:=(z.free O).1;show M _ _ _ (zr.upd L) ((z.newF O).push (.tup Bl (J.mono (zr.upd L))))
 |_=>cases e
def FD(G:Gl X "tuple")(F:X.mg "tuple"=none)(B:bootBuiltins "tuple"=some (.type "tuple"))(L:FA X (e::es) z)(J:starEach (e::es) X.env=(false,eval e X.env)::starEach es X.env:=by rfl)(v:(backTo pos (starEach es X.env)).any (·.1)=false:=by rfl):FE X (.Call (.Name "tuple" p) (e::es) [] pos) (wB cH z):=
 Hj (λ_ _=>Vm) UQ G F B L ⋯ ⋯ J v
def pG(K:W.Frag):List V->Hp->VK->Prop:=λxs H Q=>∃p ys,xs=[.ref p]/\(bO K H p ys\/bN K H p ys)/\∀l,H l=none->Q (.ref l) (upd H l (.lst ys))
def ML:cJ K (pG K) xB:=by
 intro Z U F G H O Y s Q z B e M;let#[d,v,rfl,rfl]:=BK (λx y r=>by cases x<;>rfl) rfl B e;cases d with
 |tup l=>cases e;let#[a,xs,rfl,h1,J]:=B.1.tup;show#[a,xs,rfl,.inr (bN.of (z.fr _ _ h1)),λp L=>M _ F _ (zr.refl F) (z.newLD L J)]
 |lst l=>cases e;let#[a,xs,rfl,h1,J]:=B.1.lst z.fr;show#[a,xs,rfl,.inl h1,λp L=>M _ F _ (zr.refl F) (z.newLD L J)]
 |_=>cases e
end
def ER(h:aG a=aG b):a=b:=by
 cases a with
 |inl i=>cases b with
  |inl j=>have h':D.int i=D.int j:=h;cases h';rfl
  |inr y=>have h':D.int i=D.str y.cps.toList:=h;cases h'
 |inr x=>cases b with
  |inl j=>have h':D.str x.cps.toList=D.int j:=h;cases h'
  |inr y=>have h':D.str x.cps.toList=D.str y.cps.toList:=h;let#[#[a]]:=x;first|rfl|assumption|(simp_all;done)
def GI:∀{a b:List aI},a.map aG=b.map aG->a=b
 |[],[],_=>rfl
 |[],_::_,h=>by simp at h
 |_::_,[],h=>by simp at h
 |x::a,y::b,h=>by
  injection h with h1 h2
  rw[ER h1,GI h2]
section
variable{K:W.Frag}
def FV(r:aN K H x d)(h:bK d=true):∃k:aI,x=kV k/\d=aG k:=by
 cases r with
 |int i=>show#[.inl i,rfl,rfl]
 |str e z=>show#[.inr _,rfl,by rw[<-e];rfl]
 |_=>cases h
def FX(r:zF K H xs l):l.all bK=true->∃ks:List aI,xs=ks.map kV/\l=ks.map aG:=
 zF.ind (P:=λxs l=>l.all bK=true->∃ks:List aI,xs=ks.map kV/\l=ks.map aG) (λ_=>#[[],rfl,rfl]) (λa _ v h=>by rw[all_cons,and_eq_true]at h;let#[k,rfl,rfl]:=FV a h.1;let#[ks,rfl,rfl]:=v h.2;show#[k::ks,rfl,rfl]) r
open Classical in
def JQ{κ:Type}[DecidableEq κ](g:κ->D)(v:∀a b,g a=g b->a=b):∀(zI:List (κ×V))(k:κ),(cS zI k).isSome=decide (g k∈zI.map λp=>g p.1)
 |[],k=>by simp[cS]
 |p::r,k=>by
  by_cases e:p.1=k
  .rw[GB e];let:g k∈(p::r).map λp=>g p.1:=by rw[qy,e];exact qm
   show(qR this).symm
  .rw[Gz e,JQ g v r k];let:(g k∈(p::r).map λp=>g p.1)↔(g k∈r.map λp=>g p.1):=by rw[qy,qA];exact#[λz=>z.elim (λw=>absurd (v _ _ w).symm e) id,.inr]
   show(decide_eq_decide.2 this).symm
open Classical in
def Hb{κ:Type}[DecidableEq κ](g:κ->D)(F:∀a b,g a=g b->a=b){α:Type}:∀(zI:List (κ×V))(vs:List α)(k:κ)(P:V->α->Prop),zI.length=vs.length->(∀(i:Nat) x y,(zI.map (·.2))[i]?=some x->vs[i]?=some y->P x y)->
  (lk (zI.map λp=>g p.1) vs (g k)=none/\cS zI k=none)\/∃x y,cS zI k=some x/\lk (zI.map λp=>g p.1) vs (g k)=some y/\P x y
 |[],[],k,P,_,_=>.inl #[rfl,rfl]
 |[],_::_,_,_,h,_=>by simp at h
 |_::_,[],_,_,h,_=>by simp at h
 |p::r,v::vs,k,P,hl,h=>by
  by_cases e:p.1=k
  .show .inr #[p.2,v,GB e,?_,h 0 p.2 v rfl rfl];show(if g p.1=g k then some v else lk (r.map λp=>g p.1) vs (g k))=some v;rw[q4 (by rw[e])]
  .let B:¬g p.1=g k:=λz=>e (F _ _ z);rw[Gz e];let G:lk ((p::r).map λp=>g p.1) (v::vs) (g k)=lk (r.map λp=>g p.1) vs (g k):=by show(if g p.1=g k then some v else lk (r.map λp=>g p.1) vs (g k))=_;rw[q5 B]
   rw[G];show Hb g F r vs k P ↑hl λi x y h1 h2=>h (i+1) x y ↑h1 ↑h2
def PR(O:aN K H x d)(r2:aN K H (.ref a) (.dct t ks vs))(M:aO t d=true):∃o,gF H a x o/\o.isSome=(open Classical in decide (d∈ks))/\
  ((lk ks vs d=none/\o=none)\/∃v e,o=some v/\lk ks vs d=some e/\aN K H v e):=by
 cases r2 with
 |dK e k r=>
  rename_i B;let#[J,rfl,rfl]:=FV O M;show#[_,.inl #[B,J,e,rfl,rfl],?_,?_]
  .rw[k];show JQ aG (λ_ _=>ER) B J
  .rw[k];rcases Hb aG (λ_ _=>ER) B vs J (λv e=>aN K H v e) (by let:=r.len;simpa using this) (λi x y h1 h2=>by let#[Y,G,L]:=r.get h2;rw[h1]at G;cases G;show L)with⟨h1,h2⟩|⟨v,e,h1,h2,h3⟩
   .show .inl #[h1,h2]
   .show .inr #[v,e,h1,h2,h3]
 |dT e k r=>
  rename_i B;cases O with
  |tup e1 q=>
   let#[F,rfl,rfl]:=FX q M;let inj:∀a b:List aI,D.tup (a.map aG)=D.tup (b.map aG)->a=b:=λa b z=>GI (D.tup.inj z);show#[_,.inr #[B,F,_,e,rfl,e1,rfl],?_,?_]
   .rw[k];show JQ (λl=>D.tup (l.map aG)) inj B F
   .rw[k];rcases Hb (λl=>D.tup (l.map aG)) inj B vs F (λv e=>aN K H v e) (by let:=r.len;simpa using this) (λi x y h1 h2=>by let#[Y,G,L]:=r.get h2;rw[h1]at G;cases G;show L)with⟨h1,h2⟩|⟨v,e,h1,h2,h3⟩
    .show .inl #[h1,h2]
    .show .inr #[v,e,h1,h2,h3]
  |_=>cases M
def jY(neg:Bool):R2:=λx y H Q=>∃a o,y=.ref a/\gF H a x o/\Q (.bl (if neg then !o.isSome else o.isSome)) H
def UZ(F:X.A.units+1<cLine):OpR X (compareOp .NotIn) (jY true):=by intro zH s Z H x y v u Q I B z h;let#[a,o,rfl,g,q]:=h;cases z;show PQ F I g B λs' G=>#[.bl _,H,G,rfl,q]
def jA(K:W.Frag)(neg:Bool):R2:=λx y H Q=>wA K neg x y H Q\/jY neg x y H Q
def UX(v:X.A.units+32<cLine):OpR X (compareOp .NotIn) (jA X.K true):=FL.OpR.or (Uo v) (UZ ∅)
open Classical in
def Qb(B:aN K H x p)(z:aN K H y q)(e:pS p q=some k)(F:Q (.bl (if neg then !k else k)) H):jA K neg x y H Q:=by
 unfold pS at e;split at e
 .rename_i l;split at e
  .cases e
  .rename_i h;let v:=qf e;subst v;show .inl #[p,l,B,.inl z,λd J=>?_,F];grind
 .rename_i l;split at e
  .cases e
  .rename_i h;let v:=qf e;subst v;show .inl #[p,l,B,.inr z,λd J=>?_,F];grind
 .rename_i t ks L;split at e
  .rename_i h;let v:=qf e;cases y with
   |ref a=>let#[o,g,G,_]:=PR B z h;show .inr #[a,o,rfl,g,?_];rw[G,v];show F
   |_=>cases z
  .cases e
 .cases e
end
open PySem.Builtin.Str (strSliceIndices)
def Ik(n d:Nat)(o:Option Int):HT.sIx n d o=FL.sIx n d o:=by cases o<;>rfl
def Ma(n d:Nat)(v:d<=n)(o:Option Int):FL.sIx n d o<=n:=by rw[<-Ik];show HT.sIx_le n d v o
def uG(z:Str)(lo hi:Option Int):Str:=#[(aM z.cps.toList lo hi).toArray]
def Ux(lo hi:Option Int)(n:Nat):strSliceIndices lo hi 1 n=(List.range (FL.sIx n n hi-FL.sIx n 0 lo)).map (FL.sIx n 0 lo+·):=by rw[<-sliceRange_one];unfold strSliceIndices;cases lo<;>cases hi<;>simp only[if_true,FL.sIx,FO]<;>rfl
def Uq(x:Str)(lo hi:Option Int):Txt.slice x lo hi=uG x lo hi:=by
 let v:x.length=x.cps.toList.length:=by show x.cps.size=_;rw[qV]
 unfold Txt.slice uG aM;rw[Ux,pick_run,<-v];split
 .rename_i h;simp at h;let h1:=Ma x.length x.length (q8 _) hi;let h2:FL.sIx x.length 0 lo=0\/x.length=0:=by lia
  let B:FL.sIx x.length 0 lo=0:=h2.elim id λz=>by let:=Ma x.length 0 (zero_le _) lo;lia
  rw[h,B,drop_zero,take_of_length_le (by rw[v];show q8 _)]
 .rfl
def vT:V->Option Int->Option Int->Hp->VK->Prop:=λx lo hi H Q=>∃z,x=.str z/\z.length<=sizeLine/\Q (.str (uG z lo hi)) H
def LX(p:IsPart v o):∃l:Option (Int×Tok),v=partValue l/\o=l.map (·.1):=by
 cases p with
 |none=>show#[none,rfl,rfl]
 |int i t=>show#[some (i,t),rfl,rfl]
def Pp:kT X vT:=by
 intro zH s Z H x v Y O lo hi sl Q I B M J G h;let#[z,rfl,L,q]:=h;let#[t,rfl]:=B;let#[l,rfl,rfl]:=LX J;let#[u,rfl,rfl]:=LX G;rw[<-Uq]at q;exact⟨"str",_,F.slot_str_getitem.lookup,typeIs_str _ _ _,wpAny_getItem_str_slice (l:=l) (u:=u) (st:=none) M rfl
  (post_val_or_str #[le_trans (Txt.slice_le z _ _) L,λt' k=>#[.str (Txt.slice z (l.map (·.1)) (u.map (·.1))),H,I.tok _,#[_,rfl],q]])⟩
def vR(K:W.Frag):V->Option Int->Option Int->Hp->VK->Prop:=λx lo hi H Q=>∃a xs,x=.ref a/\bN K H a xs/\
 (HT.sIx xs.length 0 lo=0/\HT.sIx xs.length xs.length hi=xs.length)/\Q (.ref a) H
def Vw{items:Array Value}{lo hi:Option Int}(z:IsTup s.heap t items)(hs:s.heap.IsSliceOf J O M .none)(pl:IsPart O lo)(Y:IsPart M hi)
  (L:HT.sIx items.size 0 lo=0/\HT.sIx items.size items.size hi=items.size)(h:Q (.ref t) s):wpAny (model prog w) A (getItem (.ref t) (.ref J)) Q E s:=by
 let#[os,B,F,h1]:=id hs;let G:s.TypeIs (.ref J) "slice":=#[os,B,F]
 unfold getItem;try with_reducible show zg ?_
 first|show qa (qb ?_)|skip
 refine qa (wpAny_sequenceKey z.typeIs ⋯ ?_);refine qa (wpAny_callSpecial?_slot (name:=Str.ofString "__getitem__") z.typeIs PyProof.Rows.slot_tuple_getitem
  (ze PyProof.Rows.slot_tuple_getitem z.typeIs entry_tuple_getitem ?_ (args_tuple_getitem _ _)))
 show wpAny _ _ (Builtin.Tuple.tupleItemsOf (.ref t)>>=_) _ _ s;show qa (tupleItemsOf_ z ?_);show qa (wpAny_typeOf G ?_);show qa (HT.sliceApplied_gen hs pl Y ?_);let v:(((HT.sIx items.size 0 lo:Nat):Int)==0&&(1:Int)==1&&(HT.sIx items.size items.size hi-HT.sIx items.size 0 lo)==items.size)=true:=by rw[L.1,L.2];simp
 show wpAny _ _ (if(((HT.sIx items.size 0 lo:Nat):Int)==0&&(1:Int)==1&&(HT.sIx items.size items.size hi-HT.sIx items.size 0 lo)==items.size)=true then _ else _) _ _ s;rw[q4 v];show qa (qa (wpAny_typeOf z.typeIs (qb ?_)));first
  |show qa (wpAny_rule (qb ⟨_,rfl,qb h⟩))
  |show qa (qb (qb ⟨_,rfl,qb h⟩))
  |show qb ⟨_,rfl,qb h⟩
def SW:kT X (vR X.K):=by
 intro zH s Z H x v vl vu lo hi sl Q I G Y L J h;let#[a,xs,rfl,M,O,q]:=h;cases G;let#[B,r,F,hz]:=I.tuple M;let z:B.toArray.size=xs.length:=by rw[qr];show r.length.symm
 show#["tuple",_,PyProof.Rows.slot_tuple_getitem.lookup,F.typeIs,?_];show Vw F Y L J (by rw[z];show O) #[.ref a,H,I,rfl,q]
section
variable{K:W.Frag}
def zF.drop:∀{xs:List V}{l:List D}(n:Nat),zF K F xs l->zF K F (xs.drop n) (l.drop n)
 |_,_,0,r=>by rw[drop_zero];show r
 |_,_,n+1,.nil=>by rw[List.drop_nil];show .nil
 |_,_,n+1,.cons a b=>by rw[List.drop_succ_cons];show zF.drop n b
def zF.take:∀{xs:List V}{l:List D}(n:Nat),zF K F xs l->zF K F (xs.take n) (l.take n)
 |_,_,0,r=>by rw[List.take_zero];show .nil
 |_,_,n+1,.nil=>by rw[take_nil];show .nil
 |_,_,n+1,.cons a b=>by rw[List.take_succ_cons];show .cons a (zF.take n b)
def zF.cut{lo hi:Option Int}(r:zF K F xs l):zF K F (iH xs lo hi) (aM l lo hi):=by unfold iH aM;rw[Ik,r.len];show(r.drop _).take _
def ay(K:W.Frag):V->Option Int->Option Int->Hp->VK->Prop:=λx lo hi H Q=>vU K x lo hi H Q\/vS K x lo hi H Q\/vR K x lo hi H Q\/vT x lo hi H Q
def IW:kT X (ay X.K):=kT.or QO (kT.or Os (kT.or SW Pp))
def Rh{lo hi:Option Int}(z:Rel K U Z F G H)(O:bE K F H v d)(e:iW d lo hi=some s)
  (L:∀v F' H',zr F F'->Rel K (U++[some s]) (Z++[some v]) F' G H'->Q v H'):ay K v lo hi H Q:=by
 cases d with
 |str l=>
  cases e;let#[x,rfl,h1,h2]:=O.str;subst h1;show .inr (.inr (.inr #[x,rfl,?_,L _ F H (zr.refl F) (z.push (.str rfl ?_))]))
  .let:x.length=x.cps.toList.length:=by show x.cps.size=_;rw[qV]
   rw[this];show h2
  .show le_trans ?_ h2;unfold aM;rw[qH,qG];lia
 |tup l=>
  cases e;let#[a,xs,rfl,h1,B]:=O.tup;by_cases J:HT.sIx xs.length 0 lo=0/\HT.sIx xs.length xs.length hi=xs.length
  .show .inr (.inr (.inl #[a,xs,rfl,bN.of (z.fr _ _ h1),J,L _ F H (zr.refl F) (z.push ?_)]));let:aM l lo hi=l:=by unfold aM;rw[<-B.len,<-Ik,<-Ik,J.1,J.2,drop_zero,take_of_length_le (by rw[<-B.len];lia)]
   rw[this];show .tup h1 B
  .show .inr (.inl #[a,xs,rfl,bN.of (z.fr _ _ h1),J,λp M=>?_]);let Y:=(z.free M).1;show L _ _ _ (zr.upd Y) ((z.newF M).push (.tup Bl (B.cut.mono (zr.upd Y))))
 |lst l=>cases e;let#[a,xs,rfl,h1,B]:=O.lst z.fr;show .inl #[a,xs,rfl,h1,λp M=>L _ F _ (zr.refl F) (z.newLD M B.cut)]
 |_=>cases e
end
theorem nextOf(r1:Rel X.K (U1++[zt x]) (Z++[some v]) F G H1)(M:RV Z v x)(Y:wb U1 (λy U2=>k x y U2 P PX) PX)
  (h3:∀r U' v F' H',P r U'->zr F F'->Rel X.K (U'++[zt r]) (Z++[some v]) F' G H'->RV Z v r->Q v H')(hx:XC X (·=Z) F G PX):tW X wb Z H1 λu H2=>pT X Z k Q v u H2:=by
 let h1:=Af r1;let#[G1,B,gg,back]:=r1.hide h1;show#[F,G1,U1,_,PX,B,Y,λy U2 u F2 H2 O J r2 L=>?_,hx.mono (λ_ z=>z) (zr.refl F) gg];let h2:=Af r2;let r3:=back J r2;rw[qp,qp]at r3;show#[F2,G,U2,x,y,P,PX,Rel.swap (U1:=[zt y]) (Z1:=[some u]) (U2:=[zt x]) (Z2:=[some v]) h2 rfl r3,h2,M,L,O,λr U' v F' H' a b c d=>h3 r U' v F' H' a (J.trans b) c d,hx.grow J]
def AS{U:Env}{o:Option D}{k:Int->Prop}(h:(match o with|some (.int i)=>k i|_=>False)):∃i,o=some (.int i)/\k i:=by
 split at h
 .show#[_,rfl,h]
 .show h.elim
def IT{K:W.Frag}{U:Env}{Z:St}{F G H:Hp}{x y:R}{v u:V}{lo hi:Option Int}{P:WQ}{Q:VK}{q:D}(J:Rel K (U++[zt x,zt y]) (Z++[some v,some u]) F G H)(M:U.length=Z.length)(rx:RV Z v x)
  (B:zp (zD x U) λd=>zp (iW d lo hi) λs=>P (.v s) U)
  (L:∀r U' v F' H',P r U'->zr F F'->Rel K (U'++[zt r]) (Z++[some v]) F' G H'->RV Z v r->Q v H'):ay K v lo hi H Q:=by
 let#[d,ed,B]:=Aq B;let#[s,es,B]:=Aq B;let z:Rel K (U++[zt x]) (Z++[some v]) F G H:=by let:=Rel.swap (U1:=[zt x]) (Z1:=[some v]) (U2:=[zt y]) (Z2:=[some u]) M rfl J;show Rel.mid (U:=U) (Z:=Z) this M
 let#[F1,Y,re,r1]:=Ba (U':=[]) (Z':=[]) z M rx ed;show Rh (U:=U) (Z:=Z) ↑r1 re es λv F' H' O r'=>L _ U v F' H' B (Y.trans O) r' trivial
def HW(ha:FE X a wa)(hb:FE X b Y):FE X (.Subscript a (.Slice (some b) none none p2) pos) (eX wa (some Y) none):=λpn xe O=>by
 refine PE.imp (JB (IW (X:=wp X pn xe)) (ha pn xe O) (Ih (hb pn xe O)) MB) λZ H Q q=>?_;refine(GL (k:=λx y z Q E=>match view y z with
  |some (.int i)=>zp (zD x z) λd=>zp (iW d (some i) none) λs=>Q (.v s) z
  |_=>False) q).mono λv H1 h1=>h1.mono λu H2 h2=>?_
 let#[F,G,U,x,y,P,PX,B,L,rx,ry,M,J,hx]:=h2;let#[i,ei,M]:=AS (U:=U) (k:=λi=>zp (zD x U) λd=>zp (iW d (some i) none) λs=>P (.v s) U) M;let ru:=AH (U':=[]) (Z':=[]) (B.mid L) L ry ei;cases ru;show#[i,rfl,IT (q:=.non) B L rx M J]
def EV(ha:FE X a wa)(hb:FE X b Y):FE X (.Subscript a (.Slice none (some b) none p2) pos) (eX wa none (some Y)):=λpn xe O=>by
 refine PE.imp (JB (IW (X:=wp X pn xe)) (ha pn xe O) MB (Ih (hb pn xe O))) λZ H Q q=>?_;refine(GL (k:=λx y z Q E=>match view y z with
  |some (.int i)=>zp (zD x z) λd=>zp (iW d none (some i)) λs=>Q (.v s) z
  |_=>False) q).mono λv H1 h1=>h1.mono λu H2 h2=>?_
 let#[F,G,U,x,y,P,PX,B,L,rx,ry,M,J,hx]:=h2;let#[i,ei,M]:=AS (U:=U) (k:=λi=>zp (zD x U) λd=>zp (iW d none (some i)) λs=>P (.v s) U) M;let ru:=AH (U':=[]) (Z':=[]) (B.mid L) L ry ei;cases ru;show#[i,rfl,IT (q:=.non) B L rx M J]
def HZ(ha:FE X a wa)(hb:FE X b wb)(hc:FE X c wc):FE X (.Subscript a (.Slice (some b) (some c) none p2) pos) (eX wa (some wb) (some wc)):=λpn xe hp=>by
 refine PE.imp (JB (IW (X:=wp X pn xe)) (ha pn xe hp) (Ih (hb pn xe hp)) (Ih (hc pn xe hp))) λZ H Q q=>?_;refine(GL (k:=λx y U2 Q E=>match view y U2 with
  |some (.int i)=>wc U2 (λz B=>match view z B with
   |some (.int j)=>zp (zD x B) λd=>zp (iW d (some i) (some j)) λs=>Q (.v s) B
   |_=>False) E
  |_=>False) q).mono λv H1 h1=>h1.mono λu H2 h2=>?_
 obtain⟨F,G,U,x,y,P,PX,J,L,rx,ry,O,M,hx⟩:=h2;let#[i,ei,O]:=AS (U:=U) (k:=λi=>wc U (λz B=>match view z B with
   |some (.int j)=>zp (zD x B) λd=>zp (iW d (some i) (some j)) λs=>P (.v s) B
   |_=>False) PX) O
 let ru:=AH (U':=[]) (Z':=[]) (J.mid L) L ry ei;cases ru;let Y:Rel X.K (U++[zt x]) (Z++[some v]) F G H2:=by let:=Rel.swap (U1:=[zt x]) (Z1:=[some v]) (U2:=[zt y]) (Z2:=[some (.int i)]) L rfl J;show Rel.mid (U:=U) (Z:=Z) this L
 refine⟨i,rfl,(nextOf (X:=wp X pn xe) (k:=λx z B P PX=>match view z B with
   |some (.int j)=>zp (zD x B) λd=>zp (iW d (some i) (some j)) λs=>P (.v s) B
   |_=>False) Y rx O M hx).mono λt H3 h3=>?_⟩
 let#[F,G,U,x,y,P,PX,J,L,rx,ry,O,M,hx]:=h3;let#[j,ej,O]:=AS (U:=U) (k:=λj=>zp (zD x U) λd=>zp (iW d (some i) (some j)) λs=>P (.v s) U) O;let ru:=AH (U':=[]) (Z':=[]) (J.mid L) L ry ej;cases ru;show#[j,rfl,IT (q:=.non) J L rx O M]
end FL
namespace FL
open PySem
def mR(f:List Nat->List D->Option S)(o:WE)(a:WA):WE:=λU Q E=>o U (λx z=>match x with
 |.v (.sh (.str l))=>a z (λB v=>zp (B.mapM λr=>zD r v) λF=>zp (f l F) λs=>Q (.v s) v) E
 |_=>False) E
def cP:List D->Option (List (List Nat))
 |[]=>some []
 |.str x::r=>(cP r).map (x::·)
 |_::_=>none
@[simp] theorem Tw(l:List (List Nat)):cP (l.map .str)=some l:=by
  induction l with
  |nil=>rfl
  |cons a r v=>rw[qy,cP,v];rfl
def dA(v:List Nat):List (List Nat)->List Nat
 |[]=>[]
 |[x]=>x
 |x::r=>x++v++dA v r
def NJ(v:List Nat):∀ys:List (List Nat),(dA v ys).length<=(ys.map List.length).sum+ys.length*v.length
 |[]=>zero_le _
 |[x]=>by simp[dA]
 |x::y::r=>by
  let:=NJ v (y::r);rw[dA,qq,qq,qy,sum_cons,qt (a:=x),succ_mul]
  .lia
  .intro h;cases h
def NB(ys:List (List Nat)):dA [] ys=ys.flatten:=by
 induction ys with
 |nil=>rfl
 |cons x r v=>
  cases r with
  |nil=>simp[dA]
  |cons y r=>rw[dA,v];simp;intro h;cases h
def lY(v:List Nat)(l:List D):Option S:=(cP l).bind λys=>if(ys.map List.length).sum+ys.length*v.length<=big then some (.sh (.str (dA v ys)))else none
def dP(v:List Nat):List D->Option S
 |[.lst l]=>lY v l
 |[.tup l]=>lY v l
 |_=>none
def gY(j:Nat)(e:WE):WE:=λU Q E=>match slot U j with
 |some (.lst _)=>e U (λr v=>match view r v,slot v j with
  |some (.int i),some (.lst l)=>zp (if l.length<=big then ixN l.length i else none) λk=>zp l[k]? λs=>Q (.v s) (v.set j (some (.lst (l.eraseIdx k))))
  |_,_=>False) E
 |_=>False
def mD:List D->Option (List Bool)
 |[]=>some []
 |.bl x::r=>(mD r).map (x::·)
 |_::_=>none
@[simp] theorem VG(l:List Bool):mD (l.map .bl)=some l:=by
  induction l with
  |nil=>rfl
  |cons a r v=>rw[qy,mD,v];rfl
end FL
namespace FL
open PySem PySem.Spec PyProof.Rows L2
section
variable{id:String}
def mJ(K:W.Frag)(r:V->List V->Hp->VK->Prop)(f:List Nat->List D->Option S):Prop:=∀(Z:St)(U:Env)(F G H:Hp)(x:Str)(vs:List V)(ds:List D)(s:S)(Q:VK),Rel K U Z F G H->x.cps.toList.length<=16777216->gO K F H vs ds->f x.cps.toList ds=some s->
 (∀v F' H',zr F F'->Rel K (U++[some s]) (Z++[some v]) F' G H'->Q v H')->r (.str x) vs H Q
def Og(hm:∀pn xe,xP (wp X pn xe) id r)(hd:mJ X.K r f)(slot:Slot "str" name id)(h5:typeOf (.builtin id)=pure (.type "method_descriptor"))(ho:FE X o wo)(ha:FA X (e::es) wa)
  (O:attributeBase o name X.env (eval o X.env)=eval o X.env:=by rfl)
  (h2:((backTo cpos (starEach (e::es) X.env)).all (λx=>!x.1)&&(backToKw cpos (keywordEach [] X.env)).all (λx=>x.1.isSome)
   &&decide ((e::es).length+([]:List Keyword).length+(if([]:List Keyword).isEmpty then 0 else 1)<30))=true:=by rfl)
  (M:(apos.endLine==cpos.line)=true:=by rfl)(hs:starEach (e::es) X.env=(false,eval e X.env)::starEach es X.env:=by rfl)(L:(backTo cpos (starEach es X.env)).any (·.1)=false:=by rfl):
  FE X (.Call (.Attribute o name apos) (e::es) [] cpos) (mR f wo wa):=λpn xe hp=>by
 refine PE.imp (GP (X:=wp X pn xe) PySem.F.plainAttrs_str slot h5 (hm pn xe) (ho pn xe hp) (ha pn xe hp) O h2 M hs L) λZ H Q q=>?_;refine(one (k:=λx h3 Q E=>match x with
  |.v (.sh (.str l))=>wa h3 (λrs B=>zp (rs.mapM λr=>zD r B) λds=>zp (f l ds) λs=>Q (.v s) B) E
  |_=>False) q).mono λv H1 h1=>?_
 let#[F,G,U,x,P,PX,Y,hl,rx,hk,h6,hx]:=h1;split at hk
 .rename_i l;let rp:=AH (U':=[]) (Z':=[]) (x:=.v (.sh (.str l))) Y hl rx rfl;cases rp with
  |str e1 z=>rename_i y;subst e1;show#[rfl,F,G,U,_,PX,Y.drop hl,hk,λrs B vs F2 H2 J s2 r2 h7 h4=>?_,hx];let#[ds,ed,J]:=Aq J;let#[s,es,J]:=Aq J;let#[F3,s3,re,r3]:=Cd (U':=[]) (Z':=[]) ↑r2 h7 h4 ed;show hd Z B F3 G H2 y vs ds s Q ↑r3 z re es λv F' H' sm r'=>h6 _ B v F' H' J (s2.trans (s3.trans sm)) r' trivial
 .show hk.elim
end
section
variable{K:W.Frag}
def LY(r:zF K F xs l)(h:cP l=some ys):∃v:List Str,xs=v.map V.str/\ys=v.map λz=>z.cps.toList:=
 zF.ind (P:=λxs l=>∀ys,cP l=some ys->∃v:List Str,xs=v.map V.str/\ys=v.map λz=>z.cps.toList) (λys h=>by cases h;show#[[],rfl,rfl]) (λa _ G ys h=>by
  cases a with
  |@str x _ e z=>let#[B,h1,rfl]:=qY.mp h;let#[v,rfl,rfl]:=G _ h1;show#[x::v,rfl,by rw[qy,e]]
  |_=>cases h) r ys h
def Mm(v:Str):∀B:List Str,(Str.join v B).cps.toList=dA v.cps.toList (B.map λz=>z.cps.toList)
 |[]=>rfl
 |[x]=>rfl
 |x::y::r=>by show((x++v++Str.join v (y::r):Str)).cps.toList=x.cps.toList++v.cps.toList++dA v.cps.toList ((y::r).map λz=>z.cps.toList);rw[<-Mm v (y::r)];show(x.cps++v.cps++(Str.join v (y::r)).cps).toList=_;rw[toList_append,toList_append]
def Ir:∀{us:List Value},zE (ys.map V.str) us->StrsAre us ys:=by
 induction ys with
 |nil=>intro us r;rw[map_nil]at r;cases r;show .nil
 |cons n F B=>
  intro us r;cases r with
  |cons z v=>let#[t,e]:=z;subst e;show .cons n t (B v)
def lL(K:W.Frag):V->List V->Hp->VK->Prop:=λx v H Q=>∃z a ys,x=.str z/\v=[.ref a]/\(bO K H a (ys.map V.str)\/bN K H a (ys.map V.str))/\(ys.map (·.length)).sum+ys.length*z.length<=16777216/\Q (.str (Str.join z ys)) H
def Rc:xP X "str.join" (lL X.K):=by
 intro zH s Z H x vs v us Q I M O h;let#[z,a,ys,rfl,rfl,B,J,q]:=h;let#[t,rfl]:=M;cases O with
 |cons r1 Y=>
  cases Y;cases r1;let e:Txt.join z ys=Str.join z ys:=StrLaws.glued_eq_join z ys;rcases B with B|B
  .obtain⟨G,r,F,_⟩:=I.list B;show join_list F.isList (Ir r) J λL k=>#[.str (Str.join z ys),H,I.tok _,#[_,by rw[e]],q]
  .obtain⟨G,r,F,_⟩:=I.tuple B;show join_tuple F (Ir r) J λL k=>#[.str (Str.join z ys),H,I.tok _,#[_,by rw[e]],q]
def MN(J:Rel K U Z F G H)(Y:bO K H a xs\/bN K H a xs)(r:zF K F xs l)(e:lY x.cps.toList l=some s)
  (k:∀v F' H',zr F F'->Rel K (U++[some s]) (Z++[some v]) F' G H'->Q v H'):lL K (.str x) [.ref a] H Q:=by
 let#[ys,e1,O]:=Option.bind_eq_some_iff.mp e;let#[B,rfl,rfl]:=LY r e1;split at O
 .rename_i M;cases O;let hl:∀z:Str,z.cps.toList.length=z.length:=λz=>by rw[qV];rfl
  let e3:((B.map λz=>z.cps.toList).map List.length)=B.map (·.length):=by rw[qE];show map_congr_left λz _=>hl z
  let L:=M;rw[e3,qo]at M;show#[x,a,B,rfl,rfl,Y,le_trans M ⋯,k _ F H (zr.refl F) (J.push (.str (Mm x B) ?_))];show le_trans (NJ _ _) (le_trans L ⋯)
 .cases O
def TN:mJ K (lL K) dP:=by
 intro Z U F G H x M Y s Q z O B e L;let#[d,v,rfl,rfl]:=BK (λx y r=>by cases x<;>rfl) rfl B e;cases d with
 |tup l=>let#[a,xs,rfl,h1,J]:=B.1.tup;show MN z (.inr (bN.of (z.fr _ _ h1))) J e L
 |lst l=>let#[a,xs,rfl,h1,J]:=B.1.lst z.fr;show MN z (.inl h1) J e L
 |_=>cases e
end
def He(L:FE X o G)(M:FA X [e] J)
  (B:attributeBase o "join" X.env (eval o X.env)=eval o X.env:=by rfl)
  (F:((backTo cpos (starEach [e] X.env)).all (λx=>!x.1)&&(backToKw cpos (keywordEach [] X.env)).all (λx=>x.1.isSome)
   &&decide ([e].length+([]:List Keyword).length+(if([]:List Keyword).isEmpty then 0 else 1)<30))=true:=by rfl)
  (z:(apos.endLine==cpos.line)=true:=by rfl)(hs:starEach [e] X.env=(false,eval e X.env)::starEach [] X.env:=by rfl)(v:(backTo cpos (starEach [] X.env)).any (·.1)=false:=by rfl):
  FE X (.Call (.Attribute o "join" apos) [e] [] cpos) (mR dP G J):=Og (λ_ _=>Rc) TN PySem.F.slot_str_join PySem.F.type_str_join L M B F z hs v
section
variable{K:W.Frag}
def zv.erase:∀{xs:List V}{l:List S}{fp:List Addr}{m:Nat}{s:S},zv K F H xs l fp->l[m]?=some s->∃y B v z,fp=B++(v++z)/\xs[m]?=some y/\aK K F H y s v/\zv K F H (xs.eraseIdx m) (l.eraseIdx m) (B++z)
 |_,_,_,_,_,.nil,h=>by simp at h
 |_,_,_,0,s,.cons (x:=x) (fp:=fp) (fq:=fq) a b,h=>by let e:=qf h;subst e;show#[x,[],fp,fq,rfl,rfl,a,b]
 |_,_,_,m+1,s,.cons (fp:=fp) (fq:=fq) a b,h=>by let#[y,B,v,z,rfl,h1,h2,G]:=zv.erase (m:=m) b h;show#[y,fp++B,v,z,(qp ..).symm,h1,h2,?_];rw[qp];show .cons a G
def Rel.popItem{D:Addr}(r:Rel K U Z F G H)(hs:slot U n=some (.lst l))(O:Z[n]?=some (some (.ref D)))(hm:l[m]?=some s):
  ∃xs y,H D=some (.lst xs)/\xs.length=l.length/\xs[m]?=some y/\Rel K (U.set n (some (.lst (l.eraseIdx m)))++[some s]) (Z++[some y]) F G (upd H D (.lst (xs.eraseIdx m))):=by
 let#[fp,e,nd,ap]:=r.en;let#[v',fa,fi,M,e1,rfl,q,up]:=e.at hs;rw[O]at e1;let e2:V.ref D=v':=↑e1
 subst e2;cases q with
 |lst hD rl=>
  rename_i xs fl;let#[y,ga,L,J,rfl,hy,sr,h1]:=rl.erase hm;show#[xs,y,hD,rl.len,hy,?_];let#[na,v,h2]:=qw.mp nd;let#[ni,nb,v]:=qw.mp v;let#[nD,h7]:=qL.mp ni;let h6:D∉fa:=λz=>h2 D z D (qj _ qm) rfl;let h5:D∉M:=λz=>v D qm D z rfl;let Y:=ap D (qi _ (qj _ qm));let ne:∀{l:List Addr},D∉l->∀x∈l,upd H D (.lst (xs.eraseIdx m)) x=H x:=λh x B=>Ap λz=>h (z▸B);let h4:D∉ga++J:=λz=>nD ((qx.mp z).elim (λw=>qj _ w) λw=>qi _ (qi _ w));let h3:D∉L:=λz=>nD (qi _ (qj _ z));let new:aK K F (upd H D (.lst (xs.eraseIdx m))) (.ref D) (.lst (l.eraseIdx m)) (D::(ga++J)):=.lst Bl (h1.mono (zr.refl F) (ne h4));let a2:=up (F':=F) (H':=upd H D (.lst (xs.eraseIdx m))) (o:=some (.lst (l.eraseIdx m))) (u:=some (.ref D)) (zr.refl F) (λx B=>Ap λz=>(qx.mp B).elim (λw=>h6 (z▸w)) λw=>h5 (z▸w)) (.so new .nil);rw[Hn O]at a2;let a3:=a2.app (.so (sr.mono (zr.refl F) (ne h3)) .nil);let pm:(fa++((D::(ga++J))++[]++M)++(L++[])).Perm (fa++((D::(ga++(L++J)))++M)):=by simp;show List.Perm.append_left _ (List.Perm.cons _ (List.Perm.append_left _ ?_));rw[<-qp L J M,<-qp J M L];show(qN (l₁:=J++M) (l₂:=L)).trans ?_;rw[qp]
  show#[zr.updR r.fr Y.1,λx o w=>?_,_,a3,pm.nodup_iff.mpr nd,λx B=>ap x (pm.mem_iff.mp B)];let B:x≠D:=λz=>by rw[z,Y.2]at w;cases w
  rw[Ap B];show r.gr x o w
end
def RC(ho:FE X o (zk j))(he:FE X e we)
  (Y:attributeBase o "pop" X.env (eval o X.env)=eval o X.env:=by rfl)
  (h3:((backTo cpos (starEach [e] X.env)).all (λx=>!x.1)&&(backToKw cpos (keywordEach [] X.env)).all (λx=>x.1.isSome)
   &&decide ([e].length+([]:List Keyword).length+(if([]:List Keyword).isEmpty then 0 else 1)<30))=true:=by rfl)
  (O:(apos.endLine==cpos.line)=true:=by rfl)(hs:starEach [e] X.env=[(false,eval e X.env)]:=by rfl):FE X (.Call (.Attribute o "pop" apos) [e] [] cpos) (gY j we):=λpn xe hp=>by
 refine PE.imp (GP (X:=wp X pn xe) PySem.F.plainAttrs_list PySem.F.slot_list_pop PySem.F.type_list_pop Si (ho pn xe hp) (Aa he Ab hs pn xe hp) Y h3 O hs rfl) λZ H Q q=>?_;let#[F,G,U,P,PX,h4,hw,h5,hx]:=q;let L:(match slot U j with
  |some (.lst _)=>we U (λr z=>match view r z,slot z j with
   |some (.int i),some (.lst l)=>zp (if l.length<=big then ixN l.length i else none) λk=>zp l[k]? λs=>P (.v s) (z.set j (some (.lst (l.eraseIdx k))))
   |_,_=>False) PX
  |_=>False):=hw
 cases qs:slot U j with
 |none=>rw[qs]at L;show L.elim
 |some s0=>
  cases s0 with
  |lst l0=>
   rw[qs]at L;show#[F,G,U,λy M=>y=.loc j/\M=U,PX,h4,by unfold zk;rw[qs];show#[rfl,rfl],λy M o' F1 H1 B s1 r1 rv=>?_,hx];let#[rfl,rfl]:=B;let l1:=Af r1;let h1:Z[j]?=some (some o'):=rv;let r2:=r1.drop l1;let#[v',fp,e1,sr]:=r2.at qs;rw[h1]at e1;let e2:o'=v':=↑e1
   subst e2;cases sr with
   |lst hD rl=>
    rename_i a xs fl;show#[.inl #[rfl,_,bO.of hD],F1,G,M,λrs z=>match rs with|[r]=>(match view r z,slot z j with|some (.int i),some (.lst l)=>zp (if l.length<=big then ixN l.length i else none) λk=>zp l[k]? λs=>P (.v s) (z.set j (some (.lst (l.eraseIdx k))))|_,_=>False)|_=>False,PX,r2,L,λrs z vs F2 H2 B s2 r3 hl J=>?_,hx.grow s1];match rs,vs,J,r3,B with
    |[r],[v],J,r3,B=>
     dsimp only at B;split at B
     .rename_i i l ei ql;let#[m,em,B]:=Aq B;let#[s,es,B]:=Aq B;let rp:=AH (U':=[]) (Z':=[]) r3 hl J.1 ei;cases rp;split at em
      .rename_i hz;let r4:=r3.drop hl;let#[ys,y,h6,h2,hy,r5]:=Rel.popItem r4 ql h1 es;rw[<-h2]at em hz;let#[b1,b2,b3,b4]:=Jt em;let hb:ys.length<=1000000:=hz;show#[a,ys,i,m,y,rfl,rfl,h6,∅,∅,b1,hy,h5 _ _ y F2 _ B (s1.trans s2) r5 trivial]
      .cases em
     .show B.elim
    |[],_,_,_,B=>show B.elim
    |[_],[],J,_,_=>show J.elim
    |[_],_::_::_,J,_,_=>show J.2.elim
    |_::_::_,_,_,_,B=>show B.elim
  |_=>rw[qs]at L;show L.elim
section
variable{K:W.Frag}
def Sj:cJ K (λxs H Q=>∃i j,xs=[.int i,.int j]/\Q (.int (if j>i then j else i)) H) oX:=by
 intro Z U F G H O Y s Q B J e L;let#[d,M,v,u,rfl,rfl]:=HQ (λx=>by cases x<;>rfl) (λx y z r=>by cases x<;>first|rfl|(cases y<;>rfl)) rfl J e;cases d with
 |int i=>
  cases M with
  |int j=>cases e;let h1:=J.1.int;let h2:=J.2.1.int;subst h1;subst h2;show#[i,j,rfl,L _ F H (zr.refl F) (B.push (.int _))]
  |_=>cases e
 |_=>cases e
def RQ:cJ K (λxs H Q=>∃i j,xs=[.int i,.int j]/\Q (.int (if j<i then j else i)) H) oW:=by
 intro Z U F G H O Y s Q B J e L;let#[d,M,v,u,rfl,rfl]:=HQ (λx=>by cases x<;>rfl) (λx y z r=>by cases x<;>first|rfl|(cases y<;>rfl)) rfl J e;cases d with
 |int i=>
  cases M with
  |int j=>cases e;let h1:=J.1.int;let h2:=J.2.1.int;subst h1;subst h2;show#[i,j,rfl,L _ F H (zr.refl F) (B.push (.int _))]
  |_=>cases e
 |_=>cases e
def Pm(L:X.calm=true)(G:Gl X "max")(F:X.mg "max"=none)(B:bootBuiltins "max"=some (.builtin "max"))(M:FA X (e::es) z)(J:starEach (e::es) X.env=(false,eval e X.env)::starEach es X.env:=by rfl)(v:(backTo pos (starEach es X.env)).any (·.1)=false:=by rfl):FE X (.Call (.Name "max" p) (e::es) [] pos) (wB oX z):=
 Hl (λ_ _=>Um L) Sj G F B M ⋯ ⋯ J v
def Pg(L:X.calm=true)(G:Gl X "min")(F:X.mg "min"=none)(B:bootBuiltins "min"=some (.builtin "min"))(M:FA X (e::es) z)(J:starEach (e::es) X.env=(false,eval e X.env)::starEach es X.env:=by rfl)(v:(backTo pos (starEach es X.env)).any (·.1)=false:=by rfl):FE X (.Call (.Name "min" p) (e::es) [] pos) (wB oW z):=
 Hl (λ_ _=>Ss L) RQ G F B M ⋯ ⋯ J v
end
end FL
namespace FL
open PySem
mutual
def bR:D->D->Ordering
 |.int i,.int j=>if i<j then .lt else if j<i then .gt else .eq
 |.str x,.str y=>if x<y then .lt else if y<x then .gt else .eq
 |.tup l,.tup m=>aR l m
 |_,_=>.eq
def aR:List D->List D->Ordering
 |[],[]=>.eq
 |[],_::_=>.lt
 |_::_,[]=>.gt
 |a::l,b::m=>match bR a b with
  |.eq=>aR l m
  |o=>o
end
def dQ(a b:D):Bool:=match bR a b with
 |.gt=>false
 |_=>true
@[simp] theorem Qj(i j:Int):dQ (.int i) (.int j)=decide (i<=j):=by
  show(match(if i<j then Ordering.lt else if j<i then .gt else .eq)with|.gt=>false|_=>true)=_;by_cases h:i<j
  .rw[q4 h,qR ∅]
  .rw[q5 h];by_cases h2:j<i
   .rw[q4 h2,qS ∅]
   .rw[q5 h2,qR ∅]
@[simp] theorem MA(x y:List Nat):dQ (.str x) (.str y)=!decide (y<x):=by
  show(match(if x<y then Ordering.lt else if y<x then .gt else .eq)with|.gt=>false|_=>true)=_;by_cases h:x<y
  .rw[q4 h,qS (λh'=>lt_asymm h h')];rfl
  .rw[q5 h];by_cases h2:y<x
   .rw[q4 h2,qR h2];rfl
   .rw[q5 h2,qS h2];rfl
def kO(x:D):List D->List D
 |[]=>[x]
 |y::r=>if dQ x y then x::y::r else y::kO x r
def eB:List D->List D
 |[]=>[]
 |x::r=>kO x (eB r)
def JL(x:D):∀l:List D,(kO x l).Perm (x::l)
 |[]=>.refl _
 |y::r=>by
  unfold kO;split
  .show .refl _
  .show(List.Perm.cons y (JL x r)).trans (.swap x y r)
def Hs:∀l:List D,(eB l).Perm l
 |[]=>.refl _
 |x::r=>(JL x _).trans (.cons x (Hs r))
structure eQ(P:D->Prop):Prop where
 tot:∀a b,P a->P b->dQ a b=true\/dQ b a=true
 tr:∀a b c,P a->P b->P c->dQ a b=true->dQ b c=true->dQ a c=true
 anti:∀a b,P a->P b->dQ a b=true->dQ b a=true->a=b
def NH(o:eQ P)(x:D)(z:P x):∀l:List D,(∀d∈l,P d)->l.Pairwise (dQ · ·=true)->(kO x l).Pairwise (dQ · ·=true)
 |[],_,_=>List.pairwise_singleton _ _
 |y::r,hp,h=>by
  let#[h1,h2]:=pairwise_cons.mp h;let B:=hp y qm;let F:∀d∈r,P d:=λd v=>hp d (qk _ v);unfold kO;split
  .rename_i c;show pairwise_cons.mpr #[λd v=>?_,h];rcases qA.mp v with rfl|v
   .show c
   .show o.tr x y d z B (F d v) c (h1 d v)
  .rename_i c;show pairwise_cons.mpr #[λd v=>?_,NH o x z r F h2];rcases qA.mp ((JL x r).mem_iff.mp v)with rfl|v
   .show(o.tot d y z B).resolve_left c
   .show h1 d v
def Kh(o:eQ P):∀l:List D,(∀d∈l,P d)->(eB l).Pairwise (dQ · ·=true)
 |[],_=>.nil
 |x::r,hp=>NH o x (hp x qm) _ (λd v=>hp d (qk _ ((Hs r).mem_iff.mp v))) (Kh o r λd v=>hp d (qk _ v))
def NY(o:eQ P):∀l m:List D,(∀d∈l,P d)->l.Perm m->l.Pairwise (dQ · ·=true)->m.Pairwise (dQ · ·=true)->l=m
 |[],m,_,p,_,_=>(List.nil_perm.mp p).symm
 |x::r,[],_,p,_,_=>absurd p.length_eq (by simp)
 |x::r,y::t,hp,p,h1,h2=>by
  obtain⟨L,J⟩:=pairwise_cons.mp h1;let#[G,F]:=pairwise_cons.mp h2;let z:=hp x qm;let v:P y:=hp y (p.mem_iff.mpr qm);let e:x=y:=by
   let m1:x∈y::t:=p.mem_iff.mp qm;let m2:y∈x::r:=p.mem_iff.mpr qm;rcases qA.mp m1 with e|m1
   .show e
   .rcases qA.mp m2 with e|m2
    .show e.symm
    .show o.anti x y z v (L y m2) (G x m1)
  subst e;rw[NY o r t (λd B=>hp d (qk _ B)) (List.Perm.cons_inv p) J F]
def GC(o:eQ P)(v:∀d∈l,P d)(p:m.Perm l)(h:m.Pairwise (dQ · ·=true)):eB l=m:=
 NY o _ _ (λd z=>v d ((Hs l).mem_iff.mp z)) ((Hs l).trans p.symm) (Kh o l v) h
def xV:D->Prop
 |.int _=>True
 |_=>False
def mH:D->Prop
 |.str _=>True
 |_=>False
def QX:eQ xV where
 tot
  |.int a,.int b,_,_=>by simp;lia
 tr
  |.int a,.int b,.int c,_,_,_=>by simp;lia
 anti
  |.int a,.int b,_,_=>by simp;intro h1 h2;rw[Int.le_antisymm h1 h2]
def Jh:eQ mH where
 tot
  |.str a,.str b,_,_=>by
   simp;by_cases h:b<a
   .show .inr λh'=>lt_asymm h h'
   .show .inl h
 tr
  |.str a,.str b,.str c,_,_,_=>by simp;intro h1 h2;show λh=>(List.le_trans (l₁:=a) (l₂:=b) (l₃:=c) h1 h2) h
 anti
  |.str a,.str b,_,_=>by simp;intro h1 h2;let:a=b:=List.le_antisymm (as:=a) (bs:=b) h1 h2;rw[this]
def gL:List D->Option (List Int)
 |[]=>some []
 |.int x::r=>(gL r).map (x::·)
 |_::_=>none
@[simp] theorem VF(l:List Int):gL (l.map .int)=some l:=by
  induction l with
  |nil=>rfl
  |cons a r v=>rw[qy,gL,v];rfl
end FL
namespace FL
open PySem PySem.Spec PyProof.Rows L2
section
variable{K:W.Frag}
def QH(r:zF K F xs l)(h:gL l=some ys):xs=ys.map V.int/\l=ys.map D.int:=
 zF.ind (P:=λxs l=>∀ys,gL l=some ys->xs=ys.map V.int/\l=ys.map D.int) (λys h=>by cases h;show#[rfl,rfl]) (λa _ z ys h=>by
  cases a with
  |int c=>let#[v,h1,rfl]:=qY.mp h;let#[G,B]:=z _ h1;rw[G,B];show#[rfl,rfl]
  |_=>cases h) r ys h
def GH:∀{us:List Value}{ns:List Int},IntsAre us ns->zE (ns.map V.int) us
 |_,_,.nil=>.nil
 |_,_,.cons i t r=>.cons #[t,rfl] (GH r)
def JU:∀{us:List Value}{ns:List Str},StrsAre us ns->zE (ns.map V.str) us
 |_,_,.nil=>.nil
 |_,_,.cons i t r=>.cons #[t,rfl] (JU r)
def nK(K:W.Frag):List V->Hp->VK->Prop:=λxs H Q=>∃a,xs=[.ref a]/\
 ((∃ns:List Int,ns.length<64/\bO K H a (ns.map V.int)/\∀z:List Int,z.Perm ns->z.Pairwise (·<=·)->∀q,H q=none->Q (.ref q) (upd H q (.lst (z.map V.int))))\/
  (∃B:List Str,B.length<64/\bO K H a (B.map V.str)/\∀v:List Str,v.Perm B->sortedS v=true->∀q,H q=none->Q (.ref q) (upd H q (.lst (v.map V.str)))))
def NI:aY X (.builtin "sorted") (nK X.K):=by
 intro zH s Z H xs us Q I r h;let#[a,rfl,h]:=h;cases r with
 |cons r1 r2=>
  cases r2;cases r1;rcases h with⟨ns,G,O,q⟩|⟨zs,G,O,q⟩
  .obtain⟨B,r,L,_⟩:=I.list O;let F:B.length=ns.length:=by let:=r.length;rw[qo]at this;exact this.symm
   show sorted_ints L.isList (Ko r) (by rw[F];show G) λz v a1 J a3=>?_;let#[e,Y]:=sortedAll_at s.heap B z;let M:v.length<=sizeLine:=by rw[J.length_eq,zf];lia
   show#[.ref (s.heap.objs.size+1),_,I.laid (t':=s.toks) (o:=.lst (v.map V.int)) (λb ob w=>sortedAll_old w) (le_succ _) ?_,rfl,q v J a3 _ (I.hok.fresh (le_succ _))];show#[by rw[qo];show M,z.toList,e,GH a1,by rw[toArray_toList];show Y]
  .obtain⟨B,r,L,_⟩:=I.list O;let F:B.length=zs.length:=by let:=r.length;rw[qo]at this;exact this.symm
   show sorted_strs L.isList (Ir r) (by rw[F];show G) λz v a1 J a3=>?_;let#[e,Y]:=sortedAll_at s.heap B z;let M:v.length<=sizeLine:=by rw[J.length_eq,zf];lia
   show#[.ref (s.heap.objs.size+1),_,I.laid (t':=s.toks) (o:=.lst (v.map V.str)) (λb ob w=>sortedAll_old w) (le_succ _) ?_,rfl,q v J a3 _ (I.hok.fresh (le_succ _))];show#[by rw[qo];show M,z.toList,e,JU a1,by rw[toArray_toList];show Y]
def JP:∀ns:List Int,zF K F (ns.map V.int) (ns.map D.int)
 |[]=>.nil
 |n::ns=>.cons (.int n) (JP ns)
def NA:∀v:List Str,(∀z∈v,z.cps.toList.length<=16777216)->zF K F (v.map V.str) (v.map λz=>D.str z.cps.toList)
 |[],_=>.nil
 |z::v,h=>.cons (.str rfl (h z qm)) (NA v λy B=>h y (qk _ B))
def NQ:∀{xs:List V}{l:List D}{v:List Str},zF K F xs l->xs=v.map V.str->l=(v.map λz=>D.str z.cps.toList)/\∀z∈v,z.cps.toList.length<=16777216
 |_,_,[],.nil,_=>#[rfl,λ_ h=>by cases h]
 |_,_,_::_,.nil,h=>by simp at h
 |_,_,[],.cons _ _,h=>by simp at h
 |_,_,z::v,.cons a b,h=>by
  injection h with h1 h2
  subst h1;let#[e,k]:=NQ b h2;cases a with
  |str J G=>
   subst J;show#[by rw[e];rfl,λy B=>?_];rcases qA.mp B with rfl|B
   .show G
   .show k y B
def MF:∀(r:List Str)(p:Str),risingS p r=true->((p::r).map λz=>D.str z.cps.toList).Pairwise (dQ · ·=true)
 |[],p,_=>List.pairwise_singleton _ _
 |x::r,p,h=>by
  let h':(!ltCps x.cps.toList p.cps.toList&&risingS x r)=true:=h;rw[and_eq_true,ltCps_eq]at h';let F:=MF r x h'.2;let B:dQ (.str p.cps.toList) (.str x.cps.toList)=true:=by rw[MA];show h'.1
  show pairwise_cons.mpr #[λd v=>?_,F];rcases qA.mp v with rfl|v
  .show B
  .obtain⟨z,_,rfl⟩:=qK.mp v;show Jh.tr _ (.str x.cps.toList) _ trivial trivial trivial B ((pairwise_cons.mp F).1 _ v)
def UB:∀r:List Str,sortedS r=true->(r.map λz=>D.str z.cps.toList).Pairwise (dQ · ·=true)
 |[],_=>.nil
 |x::r,h=>MF r x h
end
mutual
def cO:D->PyData
 |.non=>.none
 |.bl b=>.bool b
 |.int i=>.int i
 |.str l=>.str #[l.toArray]
 |.tup l=>.tuple (cN l)
 |.lst l=>.list (cN l)
 |_=>.none
def cN:List D->List PyData
 |[]=>[]
 |d::r=>cO d::cN r
end
mutual
def iE:D->Bool
 |.non=>true
 |.bl _=>true
 |.int i=>decide (i.natAbs.log2<1920)
 |.str _=>true
 |.tup l=>cT l
 |.lst l=>cT l
 |_=>false
def cT:List D->Bool
 |[]=>true
 |d::r=>iE d&&cT r
end
def wO:D->Bool
 |.tup _=>true
 |.lst _=>true
 |_=>false
mutual
def NP:∀d:D,iE d=true->(cO d).showable=true
 |.non,_=>rfl
 |.bl _,_=>rfl
 |.int i,h=>h
 |.str _,_=>rfl
 |.tup l,h=>Kf l h
 |.lst l,h=>Kf l h
 |.dct _ _ _,h=>by cases h
 |.set _,h=>by cases h
 |.exc _ _ _,h=>by cases h
def Kf:∀l:List D,cT l=true->PyData.showableAll (cN l)=true
 |[],_=>rfl
 |d::r,h=>by rw[cT,and_eq_true]at h;rw[cN,PyData.showableAll,NP d h.1,Kf r h.2];rfl
end
mutual
def Ny:∀d:D,(cO d).hasDict=false
 |.non=>rfl
 |.bl _=>rfl
 |.int i=>rfl
 |.str _=>rfl
 |.tup l=>JR l
 |.lst l=>JR l
 |.dct _ _ _=>rfl
 |.set _=>rfl
 |.exc _ _ _=>rfl
def JR:∀l:List D,PyData.hasDictAll (cN l)=false
 |[]=>rfl
 |d::r=>by rw[cN,PyData.hasDictAll,Ny d,JR r];rfl
end
mutual
def Mt:∀d:D,(cO d).depth<=dH d
 |.non=>q8 _
 |.bl _=>q8 _
 |.int i=>q8 _
 |.str _=>q8 _
 |.tup l=>Nat.succ_le_succ (JN l)
 |.lst l=>Nat.succ_le_succ (JN l)
 |.dct _ _ _=>q8 _
 |.set _=>q8 _
 |.exc _ _ _=>q8 _
def JN:∀l:List D,PyData.depthAll (cN l)<=bC l
 |[]=>q8 _
 |d::r=>by let h1:=Mt d;let h2:=JN r;simp only[cN,PyData.depthAll,bC];lia
end
def Ru(I:Inv X zH Z H s)(q:aN X.K H v d)(r:zw v u)(h:iE d=true):∃as,Reads s.heap u (cO d) as:=by
 show aN.rec (motive_1:=λv d _=>∀u,zw v u->iE d=true->∃as,Reads s.heap u (cO d) as) (motive_2:=λO l _=>∀us,zE O us->cT l=true->∃as,ReadsAll s.heap us (cN l) as) ?_ ?_ ?_ ?_ ?_ ?_ ?_ ?_ ?_ ?_ ?_ ?_ q u r h
 .intro u r _;cases r;show#[[],.none]
 .intro b u r _;cases r;show#[[],.bool b]
 .intro i u r _;let#[t,rfl]:=r;show#[[],.int i t]
 .intro x l e z u r _;let#[t,rfl]:=r;subst e;show#[[],.str _ t]
 .intro a xs M e q J u r h;cases r;let#[G,B,#[o,g,c,n,L],_]:=I.tuple (bN.of e);let#[as,F]:=J _ B h;show#[as,.tuple g c L F]
 .intro a xs M e q J u r h;cases r;let#[G,B,#[o,n,g,c,_,L],_]:=I.list e;let#[as,F]:=J _ B h;show#[_::as,.list g c L F]
 .intro _ _ _ _ _ _ _ _ _ _ h;cases h
 .intro _ _ _ _ _ _ _ _ _ _ h;cases h
 .intro _ _ _ _ _ _ _ _ h;cases h
 .intro _ _ _ _ _ _ _ _ _ _ _ h;cases h
 .intro us r _;cases r;show#[[],.nil]
 .intro x d xs M _ _ i1 i2 us r h;rw[cT,and_eq_true]at h;cases r with
  |cons r1 Y=>let#[as,h1]:=i1 _ r1 h.1;let#[bs,h2]:=i2 _ Y h.2;show#[as++bs,.cons h1 h2]
end FL
namespace FL
open PySem
def xC(l m:List Nat)(i:Nat):Bool:=decide (i+m.length<=l.length)&&decide ((l.drop i).take m.length=m)
def fQ(l m:List Nat):Option Nat:=(List.range (l.length+1)).find? (xC l m)
def iA:List D->Option S
 |[.tup l]=>some (.lst (l.map .sh))
 |[.lst l]=>some (.lst (l.map .sh))
 |[.str l]=>if l.length<=big then some (.lst (l.map λc=>.sh (.str [c])))else none
 |_=>none
theorem find?_first(h:i<n)(v:p i=true)(hn:∀k,k<i->p k=false):(List.range n).find? p=some i:=by first|rfl|assumption|(simp_all;done)
theorem find?_not(hn:∀k,p k=false):(List.range n).find? p=none:=by grind
end FL
namespace FL
open PySem PySem.Spec PyProof.Rows L2
section
variable{K:W.Frag}
theorem zi9:StrLaws.At x y x.length i↔xC x.cps.toList y.cps.toList i=true:=by
 let h1:x.length=x.cps.toList.length:=by show x.cps.size=_;rw[qV]
 let h2:y.length=y.cps.toList.length:=by show y.cps.size=_;rw[qV]
 unfold StrLaws.At xC Builtin.Str.subAt;rw[and_eq_true,qT,qT,h2,beq_iff_eq];show and_congr_right λ_=>?_;rw[<-Array.toList_inj,toList_extract,extract_eq_take_drop];let:i+y.cps.toList.length-i=y.cps.toList.length:=∅
 rw[this]
def QZ(x y:Str):Txt.find x y=(match fQ x.cps.toList y.cps.toList with|some i=>(i:Int)|none=>-1):=by
 have v:∀{i},¬StrLaws.At x y x.length i->xC x.cps.toList y.cps.toList i=false:=λ{i} h=>by
  cases q:xC x.cps.toList y.cps.toList i with
  |false=>rfl
  |true=>show absurd (zi9.mpr q) h
 rcases find_whole x y with⟨e,h⟩|⟨i,e,hi,h⟩
 .rw[e];unfold fQ;rw[find?_not λk=>v (h k)]
 .rw[e];unfold fQ;let B:=hi.1;let h1:x.length=x.cps.toList.length:=by show x.cps.size=_;rw[qV]
  rw[find?_first (i:=i) (by rw[<-h1];lia) (zi9.mp hi) λk z=>v (h k z)]
def lK:List V->Hp->VK->Prop:=λxs H Q=>∃x:Str,xs=[.str x]/\x.length<=sizeLine/\∀l,H l=none->Q (.ref l) (upd H l (.lst (x.cps.toList.map λc=>.str #[[c].toArray])))
def NK:∀{xs:List V}{us:List Value},xs.length=us.length->(∀(j:Nat) x u,xs[j]?=some x->us[j]?=some u->zw x u)->zE xs us
 |[],[],_,_=>.nil
 |[],_::_,h,_=>by simp at h
 |_::_,[],h,_=>by simp at h
 |x::xs,u::us,h,k=>.cons (k 0 x u rfl rfl) (NK ↑h λj v z h1 h2=>k (j+1) v z h1 ↑h2)
def Vu(F:X.calm=true):aY X (.type "list") lK:=by
 intro zH s Z H xs us Q I r h;let#[x,rfl,J,q]:=h;let#[u,rfl,L]:=vals1 r;let#[t,rfl]:=L;show call_list_str (I.ok.hd F) x t (hn:=J) λh' tk B Y O G z=>?_;let M:zE (x.cps.toList.map λc=>V.str #[[c].toArray]) B.toList:=NK (by rw[qo,qV,qV,z.1]) λj y v h1 h2=>by let#[c,u,F,rfl]:=z.2 j v (by rw[<-qZ];show h2);rw[qF,qZ,F]at h1;cases h1;show#[u,rfl]
 show#[.ref s.heap.objs.size,_,I.laid (t':=tk) O (q8 _) (show zG X.prog X.w _ h' _ (.lst (x.cps.toList.map λc=>V.str #[[c].toArray])) from#[?_,B.toList,Y,M,G]),rfl,q _ (I.hok.fresh (q8 _))];rw[qo];show J
def sE(K:W.Frag):List V->Hp->VK->Prop:=λxs H Q=>pG K xs H Q\/lK xs H Q
def NU:∀l:List Nat,zF K F (l.map λc=>V.str #[[c].toArray]) (l.map λc=>D.str [c])
 |[]=>.nil
 |c::l=>.cons (.str rfl (by show 1<=16777216;decide)) (NU l)
def UG:cJ K (sE K) iA:=by
 intro Z U F G H vs ds s Q B J e L;let#[d,v,rfl,rfl]:=BK (λx y r=>by cases x<;>rfl) rfl J e;cases d with
 |tup l=>show .inl (ML Z U F G H [v] [.tup l] s Q B J e L)
 |lst l=>show .inl (ML Z U F G H [v] [.lst l] s Q B J e L)
 |str l=>
  let#[x,rfl,M,z]:=J.1.str;let e:(if l.length<=big then some (S.lst (l.map λc=>S.sh (.str [c])))else none)=some s:=e;split at e
  .rename_i Y;cases e;show .inr #[x,rfl,by rw[GD M];show Im Y,λp O=>?_];rw[M];let h:=B.newLD O (NU l);rw[qE]at h;show L (.ref p) F (upd H p (.lst (l.map λc=>V.str #[[c].toArray]))) (zr.refl F) h
  .cases e
 |_=>cases e
def Tj(L:X.calm=true)(G:Gl X "list")(F:X.mg "list"=none)(B:bootBuiltins "list"=some (.type "list"))(M:FA X (e::es) z)(J:starEach (e::es) X.env=(false,eval e X.env)::starEach es X.env:=by rfl)(v:(backTo pos (starEach es X.env)).any (·.1)=false:=by rfl):FE X (.Call (.Name "list" p) (e::es) [] pos) (wB iA z):=
 Hj (λpn xe=>aY.or' Vq (Vu (X:=wp X pn xe) L)) UG G F B M ⋯ ⋯ J v
end
def GY:bootBuiltins "int"=some (.type "int"):=by decide+kernel
def FC:bootBuiltins "tuple"=some (.type "tuple"):=by decide+kernel
def Rb:bootBuiltins "list"=some (.type "list"):=by decide+kernel
def OP:bootBuiltins "max"=some (.builtin "max"):=by decide+kernel
def Qe:bootBuiltins "min"=some (.builtin "min"):=by decide+kernel
def GG:bootBuiltins "sorted"=some (.builtin "sorted"):=by decide+kernel
def DH(v:bM k A):A.units+32<cLine:=by let:=v.units;lia
def CO(v:bM k A):A.units+31<cLine:=by let:=v.units;lia
theorem uq{N:List Str}(h:(N.zipIdx.all λp=>!(p.1==x)||p.2==i)=true):∀j,N[j]?=some x->j=i:=by intro j v;let:=qI.mp h (x,j) (by rw[List.mem_zipIdx_iff_getElem?];simpa using v);simpa using this
instance(outer scope:Scope)(N vars:List Str):Decidable (scope.kind=.function/\(∀x∈scope.names,x.2=.free->outer.names.lookup x.1=some .cell\/outer.names.lookup x.1=some .free)/\(scope.names.map (·.1)).Nodup/\
  (∀x∈N,x∉vars->(x,NameKind.local)∉scope.names/\(x,NameKind.cell)∉scope.names)/\scope.names.lookup Str.empty=none):=inferInstance
def uH(v scope:Scope)(N vars:List Str):Bool:=decide (scope.kind=.function/\(∀x∈scope.names,x.2=.free->v.names.lookup x.1=some .cell\/v.names.lookup x.1=some .free)/\(scope.names.map (·.1)).Nodup/\
    (∀x∈N,x∉vars->(x,NameKind.local)∉scope.names/\(x,NameKind.cell)∉scope.names)/\scope.names.lookup Str.empty=none)
def AD(h:uH outer scope N vars=true):bS outer scope N vars:=
 let⟨a,b,c,d,e⟩:=qU h
 #[a,b,c,d,e]
def RX{K:W.Frag}(r:aK K F H v (.sh (.bl true)) fp):v=.bl true:=by
 cases r with
 |sh r=>cases r;rfl
def OT{K:W.Frag}(h:∀ns:List Int,ns.length<=63->L [.sh (.lst (ns.map .int))] (λs _=>s=.sh (.bl true)) λ_ _=>False)(H:Hp)(a:Addr)(ns:List Int)(O:ns.length<=63)(hS:bO K H a (ns.map V.int)):
  eN K L 1 [.ref a] H (λv _=>v=.bl true) λ_ _ _=>False:=by
 show#[H,λ_=>none,[.sh (.lst (ns.map .int))],_,_,rfl,#[zr.refl H,λ_ _ z=>(nomatch z),[]++[],.so (.sh (.lst hS (JP ns))) .nil,List.nodup_nil,λ_ z=>(nomatch z)],h ns O,λs B v F' H' M Y F r=>?_,λ_ _ _ _ _ _ z=>z.elim];subst M;let#[u,fp,J,q]:=r.at (i:=B.length) (s:=.sh (.bl true)) (by let:=Fy (U:=B.map some) (o:=some (.sh (.bl true))) (U':=[]);simpa using this)
 let G:B.length=1:=F;rw[G]at J;let:u=v:=↑J.symm
 rw[<-this];show RX q
end FL
namespace FL
def fB(j:Nat)(e:WE):WE:=λU Q E=>match slot U j with
 |some (.lst _)=>e U (λr v=>match r,slot v j with
  |.v (.lst m),some (.lst l)=>l.length+m.length<=big/\Q (.v (.sh .non)) (v.set j (some (.lst (l++m))))
  |_,_=>False) E
 |_=>False
end FL
namespace FL
open PySem PySem.Spec PyProof.Rows L2
def OD(ha:FE X a O):FE X (.UnaryOp .USub a pos) (zO nO O):=λpn xe hp=>by
 show PE.imp (Ow Ot (ha pn xe hp)) λZ H Q q=>?_;show(one (k:=λx z Q E=>zp (zD x z) λp=>zp (nO p) λs=>Q (.v s) z) q).mono λv H1 h1=>?_;let#[F,G,U,x,P,PX,J,hl,rx,B,L,hx]:=h1;let#[p,ep,B]:=Aq B;let#[s,es,B]:=Aq B;let#[M,Y,re,r1]:=Ba (U':=[]) (Z':=[]) J hl rx ep;cases p with
 |int i=>have e:=re.int;subst e;show#[i,rfl,L _ U _ M H1 B Y ((show Rel _ U Z M G H1 by simpa using r1).push (.int _)) trivial]
 |_=>cases es
section
variable{K:W.Frag}
def zv.app:∀{xs ys:List V}{l m:List S}{fp fq:List Addr},zv K F H xs l fp->zv K F H ys m fq->zv K F H (xs++ys) (l++m) (fp++fq)
 |_,_,_,_,_,_,.nil,r=>r
 |_,_,_,_,_,_,.cons a b,r=>by rw[qp];show .cons a (zv.app b r)
def Rel.extend{D B:Addr}(r:Rel K (U++[some (.lst m)]) (Z++[some (.ref B)]) F G H)(hs:slot U n=some (.lst l))(Y:Z[n]?=some (some (.ref D))):
  ∃xs ys,H D=some (.lst xs)/\H B=some (.lst ys)/\xs.length=l.length/\ys.length=m.length/\Rel K (U.set n (some (.lst (l++m)))) Z F G (upd H D (.lst (xs++ys))):=by
 let hl:=Af r;let#[fp,e,nd,ap]:=r.en;let#[f1,f2,rfl,a,b]:=e.cut hl;let#[v',O,fi,M,e1,rfl,q,up]:=a.at hs;rw[Y]at e1;let e2:V.ref D=v':=↑e1
 subst e2;cases q with
 |lst hD rl=>
  rename_i xs L;cases b with
  |so sr nl=>
   cases nl;cases sr with
   |lst hB rm=>
    rename_i ys fs;show#[xs,ys,hD,hB,rl.len,rm.len,?_];let es:Z.set n (some (.ref D))=Z:=Hn Y;let#[n1,n2,h5]:=qw.mp nd;let#[na,v,h4]:=qw.mp n1;let#[ni,nb,v]:=qw.mp v;let#[nD,h9]:=qL.mp ni;let h8:D∉O:=λz=>h4 D z D (qj _ qm) rfl;let h7:D∉M:=λz=>v D qm D z rfl;let h6:D∉fs:=λz=>h5 D (qi _ (qj _ qm)) D (by simpa using .inr z) rfl;let h2:=ap D (qj _ (qi _ (qj _ qm)));let ne:∀{l:List Addr},D∉l->∀x∈l,upd H D (.lst (xs++ys)) x=H x:=λh x J=>Ap λz=>h (z▸J);let new:aK K F (upd H D (.lst (xs++ys))) (.ref D) (.lst (l++m)) (D::(L++fs)):=.lst Bl (zv.app (rl.mono (zr.refl F) (ne nD)) (rm.mono (zr.refl F) (ne h6)));let a2:=up (F':=F) (H':=upd H D (.lst (xs++ys))) (o:=some (.lst (l++m))) (u:=some (.ref D)) (zr.refl F) (λx J=>Ap λz=>(qx.mp J).elim (λw=>h8 (z▸w)) λw=>h7 (z▸w)) (.so new .nil);rw[es]at a2;let p:(B::(O++((D::(L++fs))++[]++M))).Perm (O++((D::L)++M)++(B::fs++[])):=by
     simp;show(List.Perm.cons _ (List.Perm.append_left _ (List.Perm.cons _ (List.Perm.append_left _ qN)))).trans ?_;let h1:(O++D::(L++(M++B::fs))).Perm (B::(O++D::(L++(M++fs)))):=by let:=perm_middle (a:=B) (l₁:=O++D::(L++M)) (l₂:=fs);simpa using this
     show h1.symm
    let h3:=p.nodup_iff.mpr nd;show#[zr.updR r.fr h2.1,λx o w=>?_,_,a2,(qL.mp h3).2,λx J=>ap x (p.mem_iff.mp (qk _ J))];let J:x≠D:=λz=>by rw[z,h2.2]at w;cases w
    rw[Ap J];show r.gr x o w
end
def TF(ho:FE X o (zk j))(he:FE X e we)
  (h2:attributeBase o "extend" X.env (eval o X.env)=eval o X.env:=by rfl)
  (h5:((backTo cpos (starEach [e] X.env)).all (λx=>!x.1)&&(backToKw cpos (keywordEach [] X.env)).all (λx=>x.1.isSome)
   &&decide ([e].length+([]:List Keyword).length+(if([]:List Keyword).isEmpty then 0 else 1)<30))=true:=by rfl)
  (Y:(apos.endLine==cpos.line)=true:=by rfl)(hs:starEach [e] X.env=[(false,eval e X.env)]:=by rfl):FE X (.Call (.Attribute o "extend" apos) [e] [] cpos) (fB j we):=λpn xe hp=>by
 refine PE.imp (GP (X:=wp X pn xe) PySem.F.plainAttrs_list PySem.F.slot_list_extend PySem.F.type_list_extend Ug (ho pn xe hp) (Aa he Ab hs pn xe hp) h2 h5 Y hs rfl) λZ H Q q=>?_;let#[F,G,U,P,PX,h7,hw,h8,hx]:=q;let L:(match slot U j with
  |some (.lst _)=>we U (λr z=>match r,slot z j with
   |.v (.lst m),some (.lst l)=>l.length+m.length<=big/\P (.v (.sh .non)) (z.set j (some (.lst (l++m))))
   |_,_=>False) PX
  |_=>False):=hw
 cases qs:slot U j with
 |none=>rw[qs]at L;show L.elim
 |some s0=>
  cases s0 with
  |lst l0=>
   rw[qs]at L;show#[F,G,U,λy O=>y=.loc j/\O=U,PX,h7,by unfold zk;rw[qs];show#[rfl,rfl],λy O o' F1 H1 M s1 r1 rv=>?_,hx];let#[rfl,rfl]:=M;let l1:=Af r1;let h3:Z[j]?=some (some o'):=rv;let r2:=r1.drop l1;let#[v',fp,e1,sr]:=r2.at qs;rw[h3]at e1;let e2:o'=v':=↑e1
   subst e2;cases sr with
   |lst hD rl=>
    rename_i a xs fl;show#[.inl #[rfl,_,bO.of hD],F1,G,O,λrs z=>match rs with|[r]=>(match r,slot z j with|.v (.lst m),some (.lst l)=>l.length+m.length<=big/\P (.v (.sh .non)) (z.set j (some (.lst (l++m))))|_,_=>False)|_=>False,PX,r2,L,λrs z vs F2 H2 M s2 r3 hl J=>?_,hx.grow s1];match rs,vs,J,r3,M with
    |[r],[v],J,r3,M=>
     dsimp only at M;split at M
     .rename_i m l ql;let#[u,fq,eu,su]:=r3.at (i:=z.length) (s:=.lst m) Fy;rw[hl,getElem?_append_right (q8 _)]at eu;let e3:v=u:=by simpa using eu
      subst e3;cases su with
      |@lst b zs _ _ hB rb=>let#[ys,h6,h9,e4,h4,h1,r5]:=Rel.extend (B:=b) r3 ql h3;show#[a,b,ys,h6,rfl,rfl,h9,e4,by rw[h4,h1];show le_trans M.1 ⋯,h8 _ _ .non F2 _ M.2 (s1.trans s2) (r5.push .non) trivial]
     .show M.elim
    |[],_,_,_,M=>show M.elim
    |[_],[],J,_,_=>show J.elim
    |[_],_::_::_,J,_,_=>show J.2.elim
    |_::_::_,_,_,_,M=>show M.elim
  |_=>rw[qs]at L;show L.elim
open AutoSeq1 (wpAny_loadPart')
def OC(J:s.heap.IsTupleIter u z n)(hz:s.heap.IsTuple z xs)(L:xs[n]?=some v)(k:∀h',h'.IsTupleIter u z (n+1)->Heap.SameBut u s.heap h'->Q v {s with heap:=h'}):
  wpAny (model prog w) A (Builtin.SmallTypes.nextOf (.ref u)) Q E s:=by
 let#[ob,G,Y,B]:=id J;let#[zb,O,_,zn,M]:=hz;apply qa;show wpAny_callSpecial?_slot (name:=Str.ofString "__next__") J.typeIs F.slot_tuple_iterator_next (ze F.slot_tuple_iterator_next J.typeIs F.entry_tuple_iterator_next ?_ (F.args_tuple_iterator_next_1 _));show wpAny _ _ (field (.ref u) 0>>=_) _ _ _;apply qa;show zc G B (x:=.ref z) rfl ?_;apply qa;show zc G B (x:=.int n 0) rfl ?_;apply qa;show wpAny_seqItems O M ?_;simp[qW,L];apply qa;show wpAny_setField G B (by simp) (qb #[v,rfl,qb (k _ #[_,za _ G (Obj.isFreed_of_fields (Obj.data_mapFields B _)),(Obj.cls_mapFields ..).trans Y,?_] (Heap.SameBut.update ..))]);rw[Obj.data_mapFields B];simp[rawInt]
def NR(J:A.handled=none)(v:s.heap.IsTupleIter u z n)(hz:s.heap.IsTuple z xs)(L:xs[n]?=none)
  (k:∀h' e,Heap.ExtBut u s.heap h'->(∃o,h'.get? e=some o/\o.cls=.type "StopIteration")->E (.ref e) {s with heap:=h'}):wpAny (model prog w) A (Builtin.SmallTypes.nextOf (.ref u)) Q E s:=by
 let#[ob,G,e1,B]:=id v;let#[zb,O,_,Y,M]:=hz;apply qa;show wpAny_callSpecial?_slot (name:=Str.ofString "__next__") v.typeIs F.slot_tuple_iterator_next (ze F.slot_tuple_iterator_next v.typeIs F.entry_tuple_iterator_next ?_ (F.args_tuple_iterator_next_1 _));show wpAny _ _ (field (.ref u) 0>>=_) _ _ _;apply qa;show zc G B (x:=.ref z) rfl ?_;apply qa;show zc G B (x:=.int n 0) rfl ?_;apply qa;show wpAny_seqItems O M ?_;simp[qW,L];apply qa;apply wpAny_rule;apply qa;show wpAny_setField G B (by simp) ?_;apply qa;apply qa;show zd ?_ (by size_fits);show qa (m:=firstArgMember _ _) (zh (a:=Value.none) (by first|rfl|(simp;rfl)) (zd ?_ (by size_fits)));apply qa;show wpAny_handled ?_;first|rw[show A.in1.handled=none from J]|rw[J]
 show qa (qb (wpAny_throw (k _ _ (((Heap.SameBut.update ..).extBut.push _).push _) #[_,qd _ rfl,rfl])))
def Tz{prog:Program}{w:World}{A:Around}(hh:A.handled=none)(u z:Addr)(hne:z≠u)(xs:Array Value):
  Draws prog w A u [u,z] xs.size (λi v=>xs[i]?=some v) (λi h=>h.IsTupleIter u z i/\h.IsTuple z xs) where
 live:=λ_ _ st=>let#[o,e,_]:=st.1;#[o,e]
 frame:=λ_ _ _ st k=>#[st.1.at λo e=>k u (by simp) o e,by let#[o,e,r]:=st.2;show#[o,k z (by simp) o e,r]]
 item:=λi s Q E hi st k=>OC st.1 st.2 (v:=xs[i]) (by simp) λh' a b=>k _ h' s.toks (by simp[hi]) #[a,by let#[o,e,r]:=st.2;show#[o,b.extBut _ _ hne e,r]] b
 done:=λs Q E st k=>NR hh st.1 st.2 (by simp) k
inductive SrcI(P:Program)(w:World)(A:Around)(it:Addr)(J:It)(tn:Nat->Heap->Prop)(i:Nat)(s:Shared)(H:Hp):Prop
 |mk (fp:List Addr) (n:Nat) (Pr:Nat->Value->Prop) (Sx:Nat->Heap->Prop):Draws P w A it fp n Pr Sx->Sx i s.heap->i<n->it∈fp->(∀b∈fp,b=it\/(H b≠none/\∃o,s.heap.get? b=some o/\o.cls=.type "tuple")\/∃o,s.heap.get? b=some o/\o.cls=.type "list")->(∀v,Pr i v->∃x,zw x v/\J.yld i H x H)->(∀h',Sx (i+1) h'->tn (i+1) h')->SrcI P w A it J tn i s H
structure xI(P:Program)(w:World)(K:W.Frag)(J:It)(it:Addr)(tn:Nat->Heap->Prop):Prop where
 live:∀i h,tn i h->∃o,h.get? it=some o/\(∀v,o.data≠.cell v)/\o.cls≠.type "enumerate"/\o.cls≠.type "zip"/\o.cls≠.type "tuple"/\o.cls≠.type "list"
 keep:∀i h h',tn i h->(∀o,h.get? it=some o->h'.get? it=some o)->tn i h'
 yl:∀i H x H',J.yld i H x H'->H'=H
 item:∀(X:Cx),X.prog=P->X.w=w->X.K=K->∀(i:Nat)(zH:List (Addr×Obj))(s:Shared)(Z:St)(H:Hp)(A:Around),A.handled=none->Inv X zH Z H s->tn i s.heap->H it=none->J.go i H->
  SrcI P w A it J tn i s H
 done:∀(X:Cx),X.prog=P->X.w=w->X.K=K->∀(i:Nat)(zH:List (Addr×Obj))(s:Shared)(Z:St)(H:Hp)(A:Around),A.handled=none->Inv X zH Z H s->tn i s.heap->J.stop i H->∀(Q:zj)(E:zj),
  (∀h' e,Heap.ExtBut it s.heap h'->(∃o,h'.get? e=some o/\o.cls=.type "StopIteration")->E (.ref e) {s with heap:=h'})->wpAny (model P w) A (Builtin.SmallTypes.nextOf (.ref it)) Q E s
def SJ{P:Program}{w:World}{K:W.Frag}(a it:Addr):xI P w K (xU K a) it (λi h=>h.IsListIter it a i) where
 live:=λi h st=>by let#[o,e,c,d]:=st;show#[o,e,λv z=>by(rw[d]at z;cases z),by rw[c];decide,by rw[c];decide,by rw[c];decide,by rw[c];decide]
 keep:=λi h h' st k=>st.at k
 yl:=λi H x H' h=>h.1
 item:=by
  intro X hP hw hK i zH s Z H A hh I st hn hg;subst hP hw hK;let#[xs,x,hq,hx]:=hg;let#[zL,rv,p,hz]:=I.list hq;let#[lo,l1,l2,l3]:=id p.isList;let hne:a≠it:=λz=>by let#[o,e,c,d]:=id st;rw[<-z,l1]at e;cases e;rw[l2]at c;show absurd c ⋯
  let hl:=rv.length;let hi:i<zL.toArray.size:=by let:=(qg.mp hx).1;rw[qr];lia
  show#[_,_,_,_,Draws.list hh it a hne zL.toArray,#[st,p.isList],hi,m1,λb hb=>?_,λv hv=>?_,λh' z=>z.1]
  .simp at hb;rcases hb with rfl|rfl
   .show .inl rfl
   .show .inr (.inr #[lo,l1,l2])
  .obtain⟨u,hu,ru⟩:=rv.get hx;let:u=v:=by
    let hv':zL[i]?=some v:=↑hv
    rw[hu]at hv';show qf hv'
   subst this;show#[x,ru,rfl,λys hy=>by rw[I.list_inj hy hq];show hx]
 done:=by intro X hP hw hK i zH s Z H A hh I st hg Q E k;subst hP hw hK;let#[xs,hq,hx]:=hg;let#[zL,rv,p,hz]:=I.list hq;let hl:=rv.length;show wpAny_nextOf_list_end hh st p.isList (by simp;lia) k
def dv(a:Addr):It:=#[λi H=>∃xs x,H a=some (.tup xs)/\xs[i]?=some x,λi H x H'=>H'=H/\∀xs,H a=some (.tup xs)->xs[i]?=some x,λi H=>∃xs,H a=some (.tup xs)/\xs.length<=i]
def PM{P:Program}{w:World}{K:W.Frag}(a it:Addr):xI P w K (dv a) it (λi h=>h.IsTupleIter it a i) where
 live:=λi h st=>by let#[o,e,c,d]:=st;show#[o,e,λv z=>by(rw[d]at z;cases z),by rw[c];decide,by rw[c];decide,by rw[c];decide,by rw[c];decide]
 keep:=λi h h' st k=>st.at k
 yl:=λi H x H' h=>h.1
 item:=by
  intro X hP hw hK i zH s Z H A hh I st hn hg;let#[xs,x,hq,hx]:=hg;let#[zL,rv,p,hz]:=I.tuple (bN.of hq);let#[lo,l1,l2,l3]:=id p;let hne:a≠it:=λz=>by rw[z,hn]at hq;cases hq
  let hl:=rv.length;let hi:i<zL.toArray.size:=by grind
  show#[_,_,_,_,Tz hh it a hne zL.toArray,#[st,p],hi,m1,λb hb=>?_,λv hv=>?_,λh' z=>z.1]
  .grind
  .obtain⟨u,hu,ru⟩:=rv.get hx;let:u=v:=by grind
   subst this;show#[x,ru,rfl,λys hy=>by rw[hq]at hy;cases hy;show hx]
 done:=by intro X hP hw hK i zH s Z H A hh I st hg Q E k;let#[xs,hq,hx]:=hg;let#[zL,rv,p,hz]:=I.tuple (bN.of hq);let hl:=rv.length;show NR hh st p (by simp;lia) k
def QM{P:Program}{w:World}{K:W.Frag}(it:Addr)(x:Str)(t:Tok):xI P w K (uT x) it (λi h=>h.IsStrIter it (strIterType x) x t i) where
 live:=λi h st=>by
  obtain⟨o,e,c,d⟩:=st;let hc:o.cls=.type "str_ascii_iterator"\/o.cls=.type "str_iterator":=by
   rw[c];unfold strIterType;split
   .show .inl rfl
   .show .inr rfl
  grind
 keep:=λi h h' st k=>by let#[o,e,r]:=st;show#[o,k o e,r]
 yl:=λi H x H' h=>h.1
 item:=by
  intro X hP hw hK i zH s Z H A hh I st hn hg;let fin:∀v:Value,(∃c u,x.cps[i]?=some c/\v=.str #[[c].toArray] u)->∃y,zw y v/\(uT x).yld i H y H:=λv⟨c,u,e,ev⟩=>#[.str #[[c].toArray],by rw[ev];show#[u,rfl],rfl,c,e,rfl]
  cases ha:x.cps.all (·<128)
  .let e:strIterType x="str_iterator":=by unfold strIterType;rw[ha];rfl
   rw[e]at st⊢;show#[_,_,_,_,Draws.strWide hh it x t,st,hg,m1,λb hb=>.inl ↑hb,fin,λ_ z=>z]
  .let e:strIterType x="str_ascii_iterator":=by unfold strIterType;rw[ha];rfl
   rw[e]at st⊢;show#[_,_,_,_,Draws.strAscii hh it x t,st,hg,m1,λb hb=>.inl ↑hb,fin,λ_ z=>z]
 done:=by
  intro X hP hw hK i zH s Z H A hh I st hg Q E k;let hn:x.cps[i]?=none:=by let:x.cps.size<=i:=hg;simp[this]
  cases ha:x.cps.all (·<128)
  .let e:strIterType x="str_iterator":=by unfold strIterType;rw[ha];rfl
   rw[e]at st;show wpAny_nextOf_wide_end hh st hn k
  .let e:strIterType x="str_ascii_iterator":=by unfold strIterType;rw[ha];rfl
   rw[e]at st;show wpAny_nextOf_ascii_end hh st hn k
end FL
namespace FL
def cF(k:Nat):List D->List D
 |[]=>[]
 |d::l=>.tup [.int k,d]::cF (k+1) l
def iC(a:WE):WI:=λU Q E=>a U (λr v=>zp (give r v) λp=>zp (items p.1.toD) λl=>Q (cF 0 l) p.2) E
def Nf:∀(l:List D)(k i:Nat)(d:D),(cF k l)[i]?=some d->∃e,l[i]?=some e/\d=.tup [.int ((k+i:Nat):Int),e]
 |[],_,_,_,h=>by simp[cF]at h
 |e::l,k,0,d,h=>by simp[cF]at h;show#[e,rfl,↑h.symm]
 |e::l,k,i+1,d,h=>by let#[v,h1,h2]:=Nf l (k+1) i d (by simpa[cF] using h);show#[v,↑h1,by rw[h2];congr 4;lia]
def MJ:∀(l:List D)(k:Nat),(cF k l).length=l.length
 |[],_=>rfl
 |_::l,k=>by simp[cF,MJ l]
end FL
namespace FL
open PySem PySem.Spec PyProof.Rows L2
open AutoSeq1 (wpAny_loadPart')
def Nh{ch:List Addr}(I:Inv X zH Z H s)(F:∀b∈ch,cX X zH H b)(k:∀b o,b∉ch->s.heap.get? b=some o->h'.get? b=some o):Inv X zH Z H {s with heap:=h',toks:=t'}:=by
 let G:∀b u,H b=some u->b∉ch:=λb u e z=>by rw[(F b z).1]at e;cases e
 refine I.step (g':=s.gens) (d':=s.drawn) (ch:=ch) (λb M=>?_) (λb o _ _ B e _=>k b o B e) (λb o _ _ B e _=>#[o.slots,k b o B e]) (λ_ _ _ _ n=>n)
  (λb o B e=>#[o,k b o B e]) (λ_ _ e=>e) (λ_ _ _ e=>e) (λb ps e=>#[#[],by rw[e];simp]) (λm L=>?_) (λb u e=>?_) I.bare
 .obtain⟨f0,f1,f2,f3,Y,O⟩:=F b M;show#[f3,f1,Y,O]
 .obtain⟨o,es,ep,J,r⟩:=L;show#[o,es,ep,k _ o (λz=>(F _ z).2.1 rfl) J,r]
 .show(I.hok b u e).stay (λc v B q=>k c v ?_ q) (λ_ q=>q) λ_ _ q=>q;grind
def Th(f:cX X zH H b)(h:b≠T):cX X zH (L2.upd H T o) b:=#[by rw[Ap h];show f.1,f.2]
def UV{ch:List Addr}(I:Inv X zH Z H s)(M:∀b∈ch,cX X zH H b)(L:∀b∈ch,b<s.heap.objs.size)(hz:xs.length<=sizeLine)(F:zE xs us)
  (O:∃o,h'.get? s.heap.objs.size=some o/\o.cls=.type "tuple"/\o.dict=none/\∃n,o.data=.seq us.toArray n)(k:∀b o,b∉ch->s.heap.get? b=some o->h'.get? b=some o):
  Inv X zH Z (L2.upd H s.heap.objs.size (.tup xs)) {s with heap:=h',toks:=t'}:=by
 let#[o,e,c,J,n,d]:=O;let v:o.isFreed=false:=by let#[oc,od,B,G]:=o;let Y:B=.seq us.toArray n:=d;subst Y;rfl
 have I1:Inv X zH Z (L2.upd H s.heap.objs.size (.tup xs)) {s with heap:=s.heap.push o}:=I.laid (t':=s.toks) (λb u q=>qc _ q) (q8 _) #[#[hz,λo' q=>by rw[qd _ v]at q;cases q;show J],us,F,#[o,qd _ v,c,n,d]];let I2:=Nh I1 (h':=h') (t':=t') (ch:=ch) (λb z=>Th (M b z) (ne_of_lt (L b z))) λb u z q=>by
  rcases Heap.get?_push_cases q with⟨rfl,rfl⟩|q
  .show e
  .show k b u z q
 show I2
def uU(J:It):It:=#[J.go,λi H x H'=>∃p y,H p=none/\J.yld i H y H/\x=.ref p/\H'=upd H p (.tup [.int i,y]),J.stop]
def Rx(G:IsEnum s.heap e it i J)(M:∀(Q:zj)(E:zj),(∀h' x,Heap.ExtBut it s.heap h'->(∃o,h'.get? x=some o/\o.cls=.type "StopIteration")->E (.ref x) {s with heap:=h'})->wpAny (model prog w) A.in1 (Builtin.SmallTypes.nextOf (.ref it)) Q E s)
  (Y:∀h',Heap.ExtBut it s.heap h'->Q none {s with heap:=h'}):wpAny (model prog w) A (pyNext (.ref e)) Q E s:=by
 let B:s.TypeIs (.ref e) "enumerate":=#[_,G,rfl]
 apply qa;apply wpAny_attempt;show wpAny_callSpecial?_slot (name:=Str.ofString "__next__") B F.slot_enumerate_next (ze F.slot_enumerate_next B F.entry_enumerate_next ?_ (F.args_enumerate_next_1 _));show wpAny _ _ (field (.ref e) 2>>=_) _ _ _;apply qa;show zc G rfl (x:=.ref it) rfl (qa (M _ _ λh' x z v=>?_));let#[o,L,O]:=v;show qa (wpAny_isInstance (T:="StopIteration") (b:=true) #[o,L,O] isSubtype_stop (qb (Y _ z)))
def TR{P:Program}{w:World}{K:W.Frag}{J:It}{it e:Addr}{tn:Nat->Heap->Prop}{elts:List Expr}{k:Nat}{pos:Pos}(S:xI P w K J it tn)(hei:e≠it):
  iK P w K (.Tuple elts k pos) (uU J) [e,it] e (λi h=>(∃old,IsEnum h e it i old)/\tn i h) where
 mem:=m1
 obj:=λi h st b hb=>by
  simp at hb;rcases hb with rfl|rfl
  .obtain⟨old,q⟩:=st.1;show#[_,q,λv z=>by cases z]
  .obtain⟨o,h1,h2,_⟩:=S.live i h st.2;show#[o,h1,h2]
 keep:=λi h h' st kk=>by let#[#[old,q],t]:=st;show#[#[old,kk e (m1) _ q],S.keep i h h' t λo q=>kk it (m2) o q]
 item:=by
  intro X hP hw hK hc i zH s Z H E I hf st hg;let#[#[old,he],ht]:=st;let hh:X.A.in1.handled=none:=I.ok.hd hc;let#[fp,n,Pr,Sx,D,hS,hin,hif,hfp,hv,hs]:=S.item X hP hw hK i zH s Z H X.A.in1 hh I ht (hf it (m2)).1 hg;let hef:e∉fp:=λz=>by grind
  have hel:e<s.heap.objs.size:=qe he;let#[oi,hoi,_]:=S.live i _ ht;let hil:it<s.heap.objs.size:=qe hoi;show wpAny_pyNext_enum_itemD (A:=X.A) D he hS hin hei hef λx h1 tk hPx ho hS1 hT hsz hk=>?_;let#[y,ry,hy]:=hv x hPx;show#[_,rfl,wpAny_letOwnedTupleGo_enum ho λh2 he2 sb=>?_];let ne:s.heap.objs.size≠e:=ne_of_gt hel;let I2:Inv X zH Z (upd H s.heap.objs.size (.tup [.int i,y])) {s with heap:=h2,toks:=tk+1}:=UV I (ch:=[e,it]) (us:=[.int i tk,x]) hf (λb hb=>by
    simp at hb;rcases hb with rfl|rfl
    .show hel
    .show hil) (by show 2<=_;decide) (.cons #[_,rfl] (.cons ry .nil)) #[_,sb.extBut _ _ ne hT,rfl,rfl,_,rfl] λb o hb q=>by
   simp at hb;show sb.extBut _ _ hb.1 (hk b o hb.1 hb.2 q)
  show#[.ref s.heap.objs.size,_,I2,rfl,#[s.heap.objs.size,y,I.hok.fresh (q8 _),hy,rfl,rfl],#[#[x,he2],S.keep _ _ _ (hs _ hS1) λo q=>sb.extBut _ _ (Ne.symm hei) q],λb hb=>?_];simp at hb;rcases hb with rfl|rfl
  .rw[Ap (ne_of_lt hel)];show(hf _ (m1)).1
  .rw[Ap (ne_of_lt hil)];show(hf _ (m2)).1
 done:=by intro X hP hw hK hc i zH s Z H E I hf st hg;let#[#[old,he],ht]:=st;let hh:X.A.in1.handled=none:=I.ok.hd hc;show Rx he (S.done X hP hw hK i zH s Z H X.A.in1 hh I ht hg) λh' hx=>#[rfl,Nh I (t':=s.toks) (ch:=[it]) (λb hb=>hf b (by simp at hb;simp[hb])) λb o hb q=>hx b o ↑hb q]
 self:=λA i s Q E st h=>by let#[#[old,he],_]:=st;show wpAny_pyIter_enum he h
abbrev mC(h:Heap)(z:Addr):Heap:=(h.push {cls:=.type "tuple_iterator",data:=.fields [.ref z,.int 0 0].toArray}).push {cls:=.type "enumerate",data:=.fields [.none,.bool false,.ref h.objs.size,rawInt 0,.none,.none].toArray}
set_option maxHeartbeats 1000000 in
def UT(z:Addr)(xs:Array Value)(n:Nat)(Y:Option Addr)(L:Array (Option Value)):Meets (Builtin.«enumerate.__new__» #[[.type "enumerate",.ref z],[]]) (λ_ R s=>s.heap.get? z=some {cls:=.type "tuple",dict:=Y,data:=.seq xs n,slots:=L}/\
  R (.ok (.ret (.ref (s.heap.objs.size+1)))) {s with heap:=mC s.heap z}):=
 .of_wp λprog w A R s G=>by
  let#[B,g,d,tk,os]:=s;let#[F,O]:=G;let ss:=sub_enumerate;let M:(B.push {cls:=.type "tuple_iterator",data:=.fields [.ref z,.int 0 0].toArray}).objs.size=B.objs.size+1:=Heap.size_push ..;let v:R (.ok (.ret (.ref (B.push {cls:=.type "tuple_iterator",data:=.fields [.ref z,.int 0 0].toArray}).objs.size))) {heap:=mC B z,gens:=g,drawn:=d,toks:=tk,os:=os}:=by rw[M];show O
  let J:Heap.IsTuple (Shared.heap #[B,g,d,tk,os]) z xs:=#[_,F,rfl,n,rfl]
  wp_walk using wpAny_loadPart' F
  show wpAny_stack_any λst=>qb ?_;split
  .rename_i c _ _ _ _ _;cases(c==Value.type "enumerate")<;>(wp_walk using wpAny_loadPart' F,wpAny_pyIter_tuple J;show#[_,rfl,v])
  .wp_walk using wpAny_loadPart' F,wpAny_pyIter_tuple J
   show#[_,rfl,v]
def SR(Y:s.heap.IsTuple z xs)
  (k:∀h',IsEnum h' (s.heap.objs.size+1) s.heap.objs.size 0 .none->h'.IsTupleIter s.heap.objs.size z 0->(∀b o,s.heap.get? b=some o->h'.get? b=some o)->Q (.ref (s.heap.objs.size+1)) {s with heap:=h'}):
  wpAny (model prog w) A (call (.type "enumerate") [.ref z]) Q E s:=by
 let#[#[c,dd,dt,G],L,O,n,M]:=Y;let e1:c=.type "tuple":=O;let e2:dt=.seq xs n:=M;subst e1 e2;show callType_new F.called_enumerate ⋯ (F.typeCall_enumerate_1 _) (F.newCall_enumerate_1 _) (λv=>F.args_object_init_2 v _) F.entry_enumerate_new (UT z xs n dd G) #[L,?_];let J:(s.heap.push {cls:=.type "tuple_iterator",data:=.fields [.ref z,.int 0 0].toArray}).objs.size=s.heap.objs.size+1:=Heap.size_push ..;let B:IsEnum (mC s.heap z) (s.heap.objs.size+1) s.heap.objs.size 0 .none:=by let:=qd (s.heap.push {cls:=.type "tuple_iterator",data:=.fields [.ref z,.int 0 0].toArray}) (o:={cls:=.type "enumerate",data:=.fields [.none,.bool false,.ref s.heap.objs.size,rawInt 0,.none,.none].toArray}) rfl;rw[J]at this;show this
 show#[#[_,B,rfl],k _ B #[_,qc _ (qd _ rfl),rfl,rfl] λb o x=>qc _ (qc _ x)]
def wU(K:W.Frag)(z:TA):TI:=λZ H R=>z Z H λv H1=>(∃a,v=[.ref a]/\(∃xs,bO K H1 a xs)/\R (uU (xU K a)) H1)\/(∃a,v=[.ref a]/\(∃xs,H1 a=some (.tup xs))/\R (uU (dv a)) H1)\/∃x,v=[.str x]/\R (uU (uT x)) H1
def PU(hc:X.calm=true)(hg:Gl X "enumerate")(hm:X.mg "enumerate"=none)(hv:bootBuiltins "enumerate"=some (.type "enumerate"))(hl:PA X [a] tl)
  (hs:starEach [a] X.env=[(false,eval a X.env)]:=by rfl):PI X (.Tuple elts kk tpos) (.Call (.Name "enumerate" p) [a] [] pos) (wU X.K tl):=by
 intro zH s Z H R I h;show wpAny_Call_Name_kw (GX I hg hm hv ?_ ⋯ ⋯);show PyProof.Rows.callWith_type1 (Am (hl pos zH s Z H _ I h) λus v zq=>?_) hs rfl;let#[vs,H1,G,O,q1]:=zq;let F:∀{J:It}{M:Nat->Heap->Prop}{h':Heap},xI X.prog X.w X.K J v.heap.objs.size M->R (uU J) H1->IsEnum h' (v.heap.objs.size+1) v.heap.objs.size 0 .none->M 0 h'->(∀b o,v.heap.get? b=some o->h'.get? b=some o)->
   wpAny (model X.prog X.w) X.A (pyIter (.ref (v.heap.objs.size+1))) (xM X zH Z (.Tuple elts kk tpos) R) X.xe {v with heap:=h'}:=λ{J M h'} S hR z ht B=>by
  show wpAny_pyIter_enum (s:={v with heap:=h'}) z ?_;show#[v.heap.objs.size+1,[v.heap.objs.size+1,v.heap.objs.size],_,_,H1,rfl,G.kept (t':=v.toks) B,TR S (Nat.succ_ne_self _),#[#[_,z],ht],λb hb=>?_,hR];simp at hb;rcases hb with rfl|rfl
  .show G.fpOk (le_succ _) (G.hok.fresh (le_succ _))
  .show G.fpOk (q8 _) (G.hok.fresh (q8 _))
 rcases q1 with⟨b,e,⟨xs,hq⟩,q⟩|⟨b,e,⟨xs,hq⟩,q⟩|⟨x,e,q⟩
 .subst e;let#[u,rfl,L]:=vals1 O;cases L;let#[h1,rv,Y,hz]:=G.list hq;show call_enumerate_list Y.isList λh' z hi _ B=>F (SJ b _) q z hi B
 .subst e;let#[u,rfl,L]:=vals1 O;cases L;let#[h1,rv,Y,hz]:=G.tuple (bN.of hq);show SR Y λh' z hi B=>F (PM b _) q z hi B
 .subst e;let#[u,rfl,L]:=vals1 O;let#[t,rfl]:=L;show call_enumerate_str λh' z hi _ B=>F (QM _ x t) q z hi B
def JX{K:W.Frag}(hy:∀i H x H',J.yld i H x H'->H'=H)(h:gD K J l F0):gD K (uU J) (cF 0 l) F0:=λi U Z F G H sm v=>by let#[h1,h2]:=h i U Z F G H sm v;show#[λd hd=>?_,λM=>h2 (by rw[MJ]at M;show M)];let#[e,he,rfl]:=Nf l 0 i d hd;let#[g1,g2]:=h1 e he;show#[g1,λx H' zq=>?_];let#[p,y,L,z,ex,eH]:=zq;subst ex eH;let#[Y,s1,B,rp]:=g2 y H z;let#[O,_,_]:=B.free L;show#[upd Y p (.tup [.int i,y]),s1.trans (zr.upd O),B.newF L,?_];let:=aN.tup (K:=K) (F:=upd Y p (.tup [.int i,y])) (a:=p) (xs:=[.int i,y]) (ds:=[.int i,e]) Bl (.cons (.int i) (.cons (rp.mono (zr.upd O)) .nil));simpa using this
def Rw{K:W.Frag}{a:Addr}(e:F0 a=some (.tup xs))(r:zF K F0 xs l):gD K (dv a) l F0:=λi U Z F G H J v=>by let B:H a=some (.tup xs):=(J.trans v.fr) _ _ e;show#[λd O=>?_,λh=>#[xs,B,by rw[r.len];show h]];let#[x,L,M]:=r.get O;show#[#[xs,x,B,L],λy H' z=>?_];let#[rfl,z]:=z;let:x=y:=qf (L.symm.trans (z xs B));subst this;show#[F,zr.refl F,v,M.mono J]
def Kc:bootBuiltins "enumerate"=some (.type "enumerate"):=by decide+kernel
def Je(hc:X.calm=true)(hg:Gl X "enumerate")(hm:X.mg "enumerate"=none)(hv:bootBuiltins "enumerate"=some (.type "enumerate"))(ha:FE X a we)(hs:starEach [a] X.env=[(false,eval a X.env)]:=by rfl):
  FI X (.Tuple elts kk tpos) (.Call (.Name "enumerate" p) [a] [] pos) (iC we):=λpn xe hp=>by
 show PI.imp (PU (X:=wp X pn xe) hc hg hm hv (Aa ha Ab hs pn xe hp) hs) λZ H R q=>?_;let#[F,G,U,P,PX,h2,hw,O,hx]:=q;show#[F,G,U,λrs h1=>match rs with|[r]=>(zp (give r h1) λp=>zp (items p.1.toD) λl=>P (cF 0 l) p.2)|_=>False,PX,h2,hw,λrs h1 vs F1 H1 B s1 r1 hl M=>?_,hx];match rs,vs,M,r1,B with
 |[r],[v],M,r1,B=>
  let#[#[s,L],eg,B]:=Aq B;let#[l,el,B]:=Aq B;let#[F2,s2,l2,r2]:=AG (U':=[]) (Z':=[]) r1 hl M.1 eg;let#[F3,s3,rp,r3]:=Rel.giveD (U:=L) (vs:=[v]) (ss:=[s]) r2 (l2.trans hl);let sm:=s1.trans (s2.trans s3);cases rp with
  |cons a0 b0=>
   let J:items s.toD=some l:=el;generalize s.toD=d at a0 J;cases a0 with
   |lst Y r0=>cases J;show .inl #[_,rfl,#[_,bO.mono r3.fr Y],O _ L F3 H1 _ B sm r3 (JX (λ_ _ _ _ z=>z.1) (MR Y r0))]
   |tup Y r0=>cases J;show .inr (.inl #[_,rfl,#[_,r3.fr _ _ Y],O _ L F3 H1 _ B sm r3 (JX (λ_ _ _ _ z=>z.1) (Rw Y r0))])
   |str Y z0=>cases J;show .inr (.inr #[_,rfl,O _ L F3 H1 _ B sm r3 (JX (λ_ _ _ _ z=>z.1) (Mc Y))])
   |_=>cases J
 |[],_,_,_,B=>show B.elim
 |[_],[],M,_,_=>show M.elim
 |[_],_::_::_,M,_,_=>show M.2.elim
 |_::_::_,_,_,_,B=>show B.elim
end FL
namespace FL
open PySem PySem.Spec PyProof.Rows L2
def MM(v:bM k A):A.mark none=A:=by first|rfl|assumption|(simp_all;done)
end FL
namespace FL
open Classical in
def fX(ks:List D)(k:D):Option Nat:=ks.findIdx? λx=>decide (x=k)
def dG(t:Bool)(ks:List D)(l:List S)(k:D)(s:S):S:=match fX ks k with
 |some i=>.dct t ks (l.set i s)
 |none=>.dct t (ks++[k]) (l++[s])
def lG(j:Nat)(i e:WE):WS:=λD U=>e U (λr B=>zk j B (λx z=>i z (λy v=>zp (view y v) λq=>zp (give r v) λp=>match x,slot p.2 j with
 |.loc k,some (.dct t ks l)=>k=j/\aO t q=true/\ks.Nodup/\ks.length<big/\D.nx (p.2.set j (some (dG t ks l q p.1)))
 |_,_=>False) D.ex) D.ex) D.ex
end FL
namespace FL
open PySem PySem.Spec PyProof.Rows L2
def Qn:FE X (.Dict [] [] pos) (lH false):=λpn xe B=>by show PE.imp Sh λZ H Q q=>?_;let#[F,G,U,P,PX,v,J,z,L]:=q;intro p B;let:=Rel.newO (s:=.dct false [] []) v B (.dK (zI:=[]) Bl rfl .nil);show z _ U _ F _ J (zr.refl F) this trivial
def JF(h:fX ks k=some i):ks[i]?=some k:=by unfold fX at h;rw[List.findIdx?_eq_some_iff_getElem]at h;let#[hi,h1,_]:=h;rw[qh hi];congr 1;simpa using h1
def Tc(h:fX ks k=none):k∉ks:=by unfold fX at h;grind
section
variable{κ:Type}[DecidableEq κ]{kd:κ->D}(inj:∀a b,kd a=kd b->a=b)
include inj
def RR{zI:List (κ×V)}{k:κ}{v:V}{i:Nat}(hn:(zI.map λp=>kd p.1).Nodup)(h:(zI.map λp=>kd p.1)[i]?=some (kd k)):cL zI k v=zI.set i (k,v):=by
 let hi:i<zI.length:=by let:=(qg.mp h).1;simpa using this
 let J:zI[i].1=k:=by rw[qF,qh hi]at h;show inj _ _ (qf h)
 let B:(zI.any λL=>decide (L.1=k))=true:=any_eq_true.mpr #[zI[i],getElem_mem hi,by simp[J]];unfold cL;rw[q4 B];apply ext_getElem?;intro j;rw[qF,getElem?_set];by_cases G:i=j
 .subst G;rw[qh hi];simp[J];show hi
 .rw[q5 G];cases q:zI[j]? with
  |none=>rfl
  |some p=>
   have F:¬p.1=k:=λz=>by
    apply G;let h2:(zI.map λp=>kd p.1)[j]?=some (kd k):=by rw[qF,q,<-z];rfl
    show(List.getElem?_inj ↑hi hn).mp (h.trans h2.symm)
   simp[F]
omit inj in
def RD{zI:List (κ×V)}{k:κ}{v:V}(h:kd k∉zI.map λp=>kd p.1):cL zI k v=zI++[(k,v)]:=by unfold cL;grind
def Ly{zI:List (κ×V)}{k:κ}{v:V}{ks:List D}(B:ks=zI.map λp=>kd p.1)(hn:ks.Nodup):
  (∀m,fX ks (kd k)=some m->ks=(cL zI k v).map (λp=>kd p.1)/\(zI.map (·.2)).set m v=(cL zI k v).map (·.2))/\(fX ks (kd k)=none->ks++[kd k]=(cL zI k v).map (λp=>kd p.1)/\zI.map (·.2)++[v]=(cL zI k v).map (·.2)):=by
 subst B;show#[λm z=>?_,λz=>?_]
 .let h:=JF z;rw[RR inj hn h,map_set,map_set];show#[?_,rfl];apply ext_getElem?;intro j;rw[getElem?_set];by_cases F:m=j
  .subst F;rw[q4 rfl,q4 (qg.mp h).1,h]
  .rw[q5 F]
 .rw[RD (Tc z),map_append,map_append];show#[rfl,rfl]
end
inductive iM(ks:List D)(xs:List V):Bool->HO->Prop
 |k {zI:List (aI×V)}:ks=zI.map (λp=>aG p.1)->xs=zI.map (·.2)->iM ks xs false (.dK zI)
 |t {zI:List (List aI×V)}:ks=zI.map (λp=>D.tup (p.1.map aG))->xs=zI.map (·.2)->iM ks xs true (.dT zI)
section
variable{K:W.Frag}
def Ge(r:aK K F H v (.dct t ks l) fp):∃a o xs z,v=.ref a/\fp=a::z/\H a=some o/\iM ks xs t o/\zv K F H xs l z:=by
 cases r with
 |dK e q r=>show#[_,_,_,_,rfl,rfl,e,.k q rfl,r]
 |dT e q r=>show#[_,_,_,_,rfl,rfl,e,.t q rfl,r]
def iM.mk{a:Addr}{o:HO}{t:Bool}{ks:List D}{xs:List V}{l:List S}{v:List Addr}(d:iM ks xs t o)(e:H a=some o)(r:zv K F H xs l v):aK K F H (.ref a) (.dct t ks l) (a::v):=by
 cases d with
 |k q z=>subst z;show .dK e q r
 |t q z=>subst z;show .dT e q r
def iM.len{o:HO}{t:Bool}{ks:List D}{xs:List V}(d:iM ks xs t o):ks.length=xs.length:=by
 cases d with
 |k q z=>subst z;subst q;simp
 |t q z=>subst z;subst q;simp
def iM.put{a:Addr}{o:HO}{t:Bool}{ks:List D}{xs:List V}{y v:V}{q:D}(d:iM ks xs t o)(e:H a=some o)(r:aN K H y q)(Y:aO t q=true)(hn:ks.Nodup)(O:ks.length<sizeLine):
  ∃o',mK H a y v (upd H a o')/\(∀m,fX ks q=some m->iM ks (xs.set m v) t o')/\(fX ks q=none->iM (ks++[q]) (xs++[v]) t o'):=by
 cases d with
 |@k G h1 h2=>subst h2;let#[M,rfl,rfl]:=FV r Y;let#[L,J]:=Ly (λ_ _=>ER) (k:=M) (v:=v) h1 hn;show#[_,.inl #[G,M,e,rfl,by rw[h1,qo]at O;show O,rfl],λm B=>.k (L m B).1 (L m B).2,λB=>.k (J B).1 (J B).2]
 |@t G h1 h2=>
  subst h2;cases r with
  |tup e1 q=>let#[F,rfl,rfl]:=FX q Y;let#[L,J]:=Ly (kd:=λl:List aI=>D.tup (l.map aG)) (λa b z=>GI (D.tup.inj z)) (k:=F) (v:=v) h1 hn;show#[_,.inr #[G,F,_,e,rfl,e1,by rw[h1,qo]at O;show O,rfl],λm B=>.t (L m B).1 (L m B).2,λB=>.t (J B).1 (J B).2]
  |_=>cases Y
def Rel.dct{D:Addr}(r:Rel K (U++[some s]) (Z++[some v]) F G H)(hs:slot U n=some (.dct t ks l))(M:Z[n]?=some (some (.ref D)))(hD:H D=some o)(ho:iM ks xs t o)(h7:iM ks' h3 t o')
  (h8:∀(H':Hp)(fl fs:List Addr),zv K F H' xs l fl->aK K F H' v s fs->∃B rest,zv K F H' h3 l' B/\(B++rest).Perm (fl++fs)):
  Rel K (U.set n (some (.dct t ks' l'))) Z F G (upd H D o'):=by
 let hl:=Af r;let#[fp,e,nd,ap]:=r.en;let#[f1,f2,rfl,a,b]:=e.cut hl;let#[v',fa,fi,fb,e1,rfl,q,up]:=a.at hs;rw[M]at e1;let e2:V.ref D=v':=↑e1
 subst e2;let#[a',o2,h2,fl,z1,rfl,Y,O,rl]:=Ge q;cases z1;rw[hD]at Y;cases Y;let ex:h2=xs:=by
  cases ho with
  |k _ z=>cases O with|k _ z'=>rw[z,z']
  |t _ z=>cases O with|t _ z'=>rw[z,z']
 subst ex;cases b with
 |so sr nl=>
  cases nl;rename_i fs;let#[n1,n2,h6]:=qw.mp nd;let#[na,J,h5]:=qw.mp n1;let#[ni,nb,J]:=qw.mp J;let#[nD,hk]:=qL.mp ni;let e4:D∉fa:=λz=>h5 D z D (qj _ qm) rfl;let e3:D∉fb:=λz=>J D qm D z rfl;let h9:D∉fs:=λz=>h6 D (qi _ (qj _ qm)) D ↑z rfl;let h1:=ap D (qj _ (qi _ (qj _ qm)));let ne:∀{l:List Addr},D∉l->∀x∈l,upd H D o' x=H x:=λh x L=>Ap λz=>h (z▸L);let#[B,rest,h4,pm]:=h8 (upd H D o') fl fs (rl.mono (zr.refl F) (ne nD)) (sr.mono (zr.refl F) (ne h9));let a2:=up (F':=F) (H':=upd H D o') (o:=some (.dct t ks' l')) (u:=some (.ref D)) (zr.refl F) (λx L=>Ap λz=>(qx.mp L).elim (λw=>e4 (z▸w)) λw=>e3 (z▸w)) (.so (h7.mk Bl h4) .nil);rw[Hn M]at a2;let p:(fa++((D::(B++rest))++[]++fb)).Perm (fa++((D::fl)++fb)++(fs++[])):=by show(List.Perm.append_left _ (List.Perm.append_right _ (List.Perm.append_right _ (List.Perm.cons _ pm)))).trans ?_;simp;show List.Perm.append_left _ (List.Perm.cons _ (List.Perm.append_left _ qN))
  let sb:List.Sublist (fa++((D::B)++[]++fb)) (fa++((D::(B++rest))++[]++fb)):=by simp only[qp,qO];show List.Sublist.append (List.Sublist.refl _) (List.Sublist.cons_cons _ (List.Sublist.append (List.Sublist.refl _) (List.sublist_append_right _ _)))
  show#[zr.updR r.fr h1.1,λx o w=>?_,_,a2,sb.nodup (p.nodup_iff.mpr nd),λx L=>ap x (p.mem_iff.mp (sb.subset L))];let L:x≠D:=λz=>by rw[z,h1.2]at w;cases w
  rw[Ap L];show r.gr x o w
def Rel.dput{D:Addr}(r:Rel K (U++[some s]) (Z++[some v]) F G H)(hs:slot U n=some (.dct t ks l))(z:Z[n]?=some (some (.ref D)))(ry:aN K H y q)(hk:aO t q=true)(hn:ks.Nodup)(hb:ks.length<big):
  ∃H',mK H D y v H'/\Rel K (U.set n (some (dG t ks l q s))) Z F G H':=by
 show cps λ_ kk=>?_;let#[v',fp,e1,B]:=(r.drop (Af r)).at hs;rw[z]at e1;let e2:V.ref D=v':=↑e1
 subst e2;let#[a',o,xs,fl,z1,_,Y,L,rl]:=Ge B;cases z1;let h3:=L.len;let h4:=rl.len;let#[o',dp,h1,h2]:=L.put (v:=v) Y ry hk hn (by rw[zf];show lt_trans hb ⋯);show kk ?_;show#[_,dp,?_];cases J:fX ks q with
 |some m=>
  let ed:dG t ks l q s=.dct t ks (l.set m s):=by unfold dG;rw[J]
  rw[ed];let O:m<l.length:=by let:=(qg.mp (JF J)).1;lia
  show r.dct hs z Y L (h1 m J) λH' fl fs rl B=>?_;let#[ga,gi,gb,rfl,M]:=rl.set O;show#[_,gi,M (λ_ _=>rfl) B,?_];simp;show List.Perm.append_left _ ((List.Perm.append_left _ qN).trans (qN.trans (by simp)))
 |none=>
  let ed:dG t ks l q s=.dct t (ks++[q]) (l++[s]):=by unfold dG;rw[J]
  rw[ed];show r.dct hs z Y L (h2 J) λH' fl fs rl B=>#[fl++fs,[],zv.snoc rl B,by simp]
end
def Rl(hu:X.A.units+1<cLine)(ho:FE X o (zk j))(hi:FE X i wi)(he:FE X e we)(hs:swapsWith e (some (.Subscript o i tpos)) pos.line X.env=pure false:=by rfl):FS X ks (.Assign [.Subscript o i tpos] e pos) (lG j wi we):=λpn xe hp=>by
 show PS.imp (Pz (X:=wp X pn xe) hu (ho pn xe hp) (hi pn xe hp) (he pn xe hp) hs) λD Z H q=>?_;let#[F,G,U,E,h8,hw,n,b,c,r,x]:=q;let x0:XC (wp X pn xe) (·=Z) F G E.ex:=x.mono (λhx z=>by rw[z];show KP.refl) (zr.refl F) (zr.refl G);show#[F,G,U,_,_,h8,hw,λr h5 v F1 H1 hk s1 r1 rv=>?_,x0];let l1:=Af r1;let#[G1,h2,gg,back]:=r1.hide l1;show#[F1,G1,h5,_,_,h2,hk,λy h4 o' F2 H2 e3 s2 r2 h7=>?_,x0.mono (λ_ z=>z) s1 gg];let l2:=Af r2;let#[G2,h1,e4,Y]:=r2.hide l2;show#[F2,G2,h4,_,_,h1,e3,λz J i' F3 H3 O s3 r3 h6=>?_,x0.mono (λ_ z=>z) (s1.trans s2) (gg.trans e4)];let l3:=Af r3;let#[q,eq,O]:=Aq O;let#[#[t,h3],eg,B]:=Aq O;let r4:=back (s2.trans s3) (Y s3 r3);simp at r4;let ri:=AH (U':=[zt y,zt r]) (Z':=[some o',some v]) r4 l3 h6 eq;let r5:Rel X.K (J++[zt r]) (Z++[some v]) F3 G H3:=Rel.mid (U:=J) (Z:=Z) (Rel.mid (U:=J) (Z:=Z) r4 l3) l3;let#[F4,s4,l4,r6]:=AG (U':=[]) (Z':=[]) r5 l3 rv eg;cases y with
 |v y0=>show B.elim
 |loc k=>
  cases L:slot h3 j with
  |none=>simp[L]at B
  |some sj=>
   rw[L]at B;match sj,L,B with
   |.dct t kk l,L,⟨ekj,hkey,hnd,hbig,hnx⟩=>
    subst ekj;let M:Z[k]?=some (some o'):=h7;let#[v',fp,e1,sr]:=r6.at (i:=k) (s:=.dct t kk l) (by rw[Hk (GE L)];show L);let h9:k<Z.length:=(qg.mp M).1;rw[getElem?_append_left h9,M]at e1;let e2:o'=v':=↑e1
    subst e2;let#[a,o2,xs,fl,rfl,_,_,_,_]:=Ge sr;let#[H',dp,r7]:=Rel.dput r6 L M ri hkey hnd hbig;show#[a,_,rfl,dp,n _ Z F4 _ hnx KP.refl (s1.trans (s2.trans (s3.trans s4))) r7]
end FL
namespace FL
def iU(k v:WE):WE:=λU Q E=>k U (λx B=>v B (λy z=>zp (view x z) λq=>zp (give y z) λp=>bK q=true/\Q (.v (.dct false [q] [p.1])) p.2) E) E
end FL
namespace FL
open PySem PySem.Spec PyProof.Rows L2
def SL(hk:FE X k wk)(hv:FE X v wv):FE X (.Dict [some k] [v] pos) (iU wk wv):=λpn xe hp=>by
 show PE.imp (Re (X:=wp X pn xe) (RJ (hk pn xe hp) (hv pn xe hp) QB) rfl rfl (by simp) (by show 1<=15;decide)) λZ H Q q=>?_;let#[F,G,U,P,PX,h8,hw,e3,hx]:=q;intro p hp;let r0:=Rel.newO (s:=.dct false [] []) h8 hp (.dK (zI:=[]) Bl rfl .nil);let#[G0,h2,g0,O]:=r0.hide (Af r0);show#[F,G0,U,_,PX,h2,hw,λrx U1 vx F1 H1 hc s1 r1 h7=>?_,hx.mono (λ_ z=>z) (zr.refl F) g0];let l1:=Af r1;let#[G1,h1,g1,back1]:=r1.hide l1;show#[F1,G1,U1,_,PX,h1,hc,λry U2 Y F2 H2 hb s2 r2 h6=>?_,hx.mono (λ_ z=>z) s1 (g0.trans g1)];let l2:=Af r2;let#[q,eq,hi]:=Aq hb;let#[#[t,B],eg,h5,e4]:=Aq hi;let r3:=O (s1.trans s2) (back1 s2 r2);simp only[qp,qO,nil_append]at r3
 --y,x,the dict
 let#[F3,s3,l3,r4]:=AG (U':=[zt rx,some (.dct false [] [])]) (Z':=[some vx,some (.ref p)]) r3 l2 h6 eg;let h9:Rel X.K (U2++zt rx::[some (.dct false [] [])]) (Z++some vx::[some (.ref p)]) F2 G H2:=r3.mid l2;let rq:=AH (U':=[some (.dct false [] [])]) (Z':=[some (.ref p)]) h9 l2 h7 eq;let#[J,rfl,rfl]:=FV rq h5;let M:B.length=Z.length:=l3.trans l2;let r5:Rel X.K (B++[some t,some (.dct false [] [])]) (Z++[some Y,some (.ref p)]) F3 G H2:=by let:=Rel.mid (U:=B++[some t]) (Z:=Z++[some Y]) (U':=[some (.dct false [] [])]) (Z':=[some (.ref p)]) (o:=zt rx) (w:=some (kV J)) ↑r4 (by simp[M]);simpa using this
 let r6:=Rel.swap (U1:=[some t]) (Z1:=[some Y]) (U2:=[some (.dct false [] [])]) (Z2:=[some (.ref p)]) M rfl r5;let r7:Rel X.K ((B++[some (.dct false [] [])])++[some t]) ((Z++[some (.ref p)])++[some Y]) F3 G H2:=↑r6
 let h3:slot (B++[some (.dct false [] [])]) B.length=some (.dct false [] []):=Fy (U':=[]);let L:(Z++[some (V.ref p)])[B.length]?=some (some (.ref p)):=by rw[M];simp
 have h4:H2 p=some (.dK []):=by
  let#[v',fp,e1,sr]:=(r7.drop (Af r7)).at h3;rw[L]at e1;let e2:V.ref p=v':=↑e1
  cases sr with
  |@dK _ zI _ _ fl hH hs rl=>simp_all
 let r8:=r7.dct (ks':=[aG J]) (l':=[t]) (o':=.dK [(J,Y)]) h3 L h4 (.k rfl rfl) (.k rfl rfl) λH' fl fs rl sr=>#[fs++[],[],.cons sr .nil,by cases rl;simp]
 show#[h4,[(J,Y)],rfl,by show 1<=15;decide,?_];let e9:(B++[some (S.dct false [] [])]).set B.length (some (.dct false [aG J] [t]))=B++[some (.dct false [aG J] [t])]:=Km (U':=[]);rw[e9]at r8;show e3 _ B _ F3 _ e4 (s1.trans (s2.trans s3)) r8 trivial
section
variable{K:W.Frag}
def Ko:∀{us:List Value},zE (ns.map V.int) us->IntsAre us ns:=by
 induction ns with
 |nil=>intro us r;cases r;show .nil
 |cons n ns B=>
  intro us r;cases r with
  |cons z v=>let#[t,rfl]:=z;show .cons _ t (B v)
end
section
open PySem.W HT
def rest(h₀:Heap)(L:Addr)(h:Heap):List (Addr×Obj):=(List.range h.objs.size).filterMap λb=>if b=L then none else if(h₀.get? b).isSome then none else(h.get? b).map λo=>(b,o)
end
end FL
namespace FL
def tI(ns:List Int):D:=.tup (ns.map .int)
end FL
namespace FL
open PySem PySem.Spec PyProof.Rows L2
def Qx{vs:List Value}(few:vs.length<2):(vs.toArray.zip vs.toArray).map (·.2)=vs.toArray:=by rw[List.zip_toArray,List.map_toArray,List.map_snd_zip (q8 _)]
def Mb(B:s.heap.get? a=some (seqObj "list" vs.toArray n))(few:vs.length<2)
  (k:P (.done (.ret .none)) {s with heap:=sortedHeap s.heap a vs vs.toArray}):wpAny (model prog w) A (Builtin.«list.sort» ⟨[.ref a],[]⟩) P E s:=by
 rw[list_sort_plain];let v:vs.toArray.size<2:=few;let F:∃e,(s.heap.update a (Obj.mapSeq λ_=>#[])).get? a=some (seqObj "list" #[] e):=#[_,get?_update_seq B _]
 obtain⟨e,mid⟩:=F;let z:(((s.heap.update a (Obj.mapSeq λ_=>#[])).push (seqObj "tuple" vs.toArray 0)).push (seqObj "list" #[] 0)).get? a=some (seqObj "list" #[] e):=
  qc _ (qc _ mid)
 show qa (listItems_at B rfl (qa (listUpdate_at B rfl (qa (seqEpoch_at mid rfl (qa (wpAny_newTuple (qa (wpAny_newList (zg ?_))))))))));dsimp only;rw[q4 v,q4 v];show qa (qb (?_:wpAny _ _ _ _ _ _));let G:(arrOf (SortSt.mk' general' (vs.toArray.zip vs.toArray) #[] 7 none)).map (·.2)=vs.toArray:=by show Qx few
 show qa (qb (?_:wpAny _ _ _ _ _ _));rw[G];show qa (seqEpoch_at z rfl (qa (listUpdate_at z rfl ?_ (hsz2:=by rw[zf];lia))));simp;show qb k
def UJ(B:s.heap.IsList l vs.toArray)(few:vs.length<2)
  (k:Q (.ref (s.heap.objs.size+1)) {s with heap:=sortedAll s.heap vs vs.toArray}):wpAny (model prog w) A (call (.builtin "sorted") [.ref l]) Q E s:=by
 show Calls.call_function_entry kind_sorted plain_sorted entry_sorted (args_sorted1 _) (?_:wpAny _ _ _ _ _ _);show qa (m:=checkCount "sorted" 1 1 _) (qb (qa (collect_list B (qa (wpAny_newList ?_)))));generalize v:((s.heap.push (seqObj "list" #[] 0)).update s.heap.objs.size (Obj.mapSeq (·++vs.toArray)))=h1;let z:h1.objs.size=s.heap.objs.size+1:=by rw[<-v,Heap.size_update,size_push']
 let new:(h1.push (seqObj "list" vs.toArray 0)).get? (s.heap.objs.size+1)=some (seqObj "list" vs.toArray 0):=z▸qd _ rfl;rw[z];show qa (zg (ze slot_list_sort #[_,new,rfl] entry_list_sort (Mb new few #[_,rfl,?_]) (args_list_sort _)));subst v;show qb #[_,rfl,k]
section
variable{K:W.Frag}
def rZ(K:W.Frag):List V->Hp->VK->Prop:=λxs H Q=>∃a ys,xs=[.ref a]/\bO K H a ys/\ys.length<2/\∀q,H q=none->Q (.ref q) (upd H q (.lst ys))
def UY:aY X (.builtin "sorted") (rZ X.K):=by
 intro zH s Z H xs L Q I r h;let#[a,ys,rfl,G,h2,q]:=h;cases r with
 |cons B z=>cases z;cases B;let#[v,r,F,_]:=I.list G;show UJ F.isList (by rw[<-r.length];show h2) ?_;let#[e,J]:=sortedAll_at s.heap v v.toArray;show#[.ref (s.heap.objs.size+1),_,I.laid (t':=s.toks) (o:=.lst ys) (λb M w=>sortedAll_old w) (le_succ _) ?_,rfl,q _ (I.hok.fresh (le_succ _))];show#[by rw[zf];lia,v,e,r,J]
end
end FL
namespace FL
def jF(a b:D):Option Bool:=match b with
 |.str l=>match a with
  |.str x=>some (fQ l x).isSome
  |_=>none
 |d=>pS a d
def cW(a b:D):Option Bool:=(jF a b).map (!·)
def fY(a:WE):WE:=λU Q E=>a U (λr v=>zp (give r v) λp=>Q (.v (.sh p.1.toD)) p.2) E
def zP(i:Nat)(w:WS):WS:=λD U=>w {D with nx:=λv=>zp (slot v i) λs=>D.nx (v.set i (some (.sh s.toD)))} U
def sP(d q:D):Option (Option D):=match d with
 |.dct t ks vs=>if aO t q then some (lk ks vs q)else none
 |_=>none
def uA:D->Bool
 |.dct _ _ _=>true
 |_=>false
def gG(o k d:WE):WE:=λU Q E=>o U (λx B=>(zp (zD x B) λG=>uA G=true)/\k B (λy F=>d F (λz v=>
 zp (zD x v) λG=>zp (view y v) λq=>zp (sP G q) λo=>match o with
  |some e=>Q (.v (.sh e)) v
  |none=>Q z v) E) E) E
mutual
def eR:D->Bool
 |.non=>true
 |.bl _=>true
 |.int i=>decide (-1000000000000<i)&&decide (i<1000000000000)
 |.str l=>l.all λc=>decide (c<1114112)
 |.tup l=>cY l
 |.lst l=>cY l
 |_=>false
def cY:List D->Bool
 |[]=>true
 |d::r=>eR d&&cY r
end
mutual
def kX:D->Nat
 |.int _=>41
 |.str l=>l.length
 |.tup l=>gQ l
 |.lst l=>gQ l
 |_=>0
def gQ:List D->Nat
 |[]=>0
 |d::r=>kX d+1+gQ r
end
def bV(d:D):Bool:=eR d&&(decide (dH d<=30)&&decide (kX d<=1000000))
def eY(res:Bool)(a b:WE):WT:=λU Q E=>a U (λx z=>zp (zD x z) λp=>bV p=true/\b z (λy v=>zp (zD y v) λq=>p=q/\Q res v) E) E
def bY(p q:D):Option S:=match p,q with
 |.str x,.int n=>if 0<=n/\n<=1000/\x.length<=500 then some (.sh (.str (List.replicate n.toNat x).flatten))else none
 |p,q=>lO p q
end FL
namespace FL
open PySem PySem.Spec PyProof.Rows L2
section
variable{K:W.Frag}
def Vh(x y:Str):Txt.contains x y=(fQ x.cps.toList y.cps.toList).isSome:=by
 let h:=QZ x y;unfold Txt.find at h;unfold Txt.contains;cases q:Builtin.Str.occurrences x y 0 x.length 1 with
 |nil=>
  rw[q]at h;cases e:fQ x.cps.toList y.cps.toList with
  |none=>rfl
  |some i=>rw[e]at h;let h':(-1:Int)=(i:Int):=h;lia
 |cons i r=>
  rw[q]at h;cases e:fQ x.cps.toList y.cps.toList with
  |none=>rw[e]at h;let h':((i:Nat):Int)=-1:=h;lia
  |some i=>rfl
def vZ(neg:Bool):R2:=λx y H Q=>∃z u,x=.str z/\y=.str u/\Q (.bl (if neg then !(Txt.contains u z)else Txt.contains u z)) H
def Ta:OpR X (compareOp .NotIn) (vZ true):=by intro zH s Z H x y v u Q I F B h;let#[z,t,rfl,rfl,q]:=h;let#[J,rfl]:=F;let#[G,rfl]:=B;show SB.notContains #[.bl _,H,I,rfl,q]
def sG(K:W.Frag)(neg:Bool):R2:=λx y H Q=>jA K neg x y H Q\/vZ neg x y H Q
def JO(v:X.A.units+32<cLine):OpR X (compareOp .NotIn) (sG X.K true):=FL.OpR.or (UX v) Ta
def Sg(z:aN K H x p)(v:aN K H y q)(e:jF p q=some k)(B:Q (.bl (if neg then !k else k)) H):sG K neg x y H Q:=by
 unfold jF at e;split at e
 .split at e
  .cases z with
   |str G L=>cases v with
    |str F J=>show .inr #[_,_,rfl,rfl,?_];rw[Vh,G,F,qf e];show B
  .cases e
 .show .inl (Qb z v e B)
def Kj:dS K (sG K true) cW:=λH x y p q k Q B z e F=>by
 unfold cW at e;cases v:jF p q with
 |none=>rw[v]at e;cases e
 |some b=>rw[v]at e;let G:(!b)=k:=qf e;subst G;show Sg B z v F
inductive gu(K:W.Frag)(F H:Hp)(xs:List V)(l:List S)(fp:List Addr)(m:Nat)(s:S):Prop
 |mk (x:V) (fa fi fb:List Addr):xs[m]?=some x->aK K F H x s fi->fp=fa++(fi++fb)->(∀{H':Hp}{v':V}{s':S}{fq:List Addr},(∀a∈fa++fb,H' a=H a)->aK K F H' v' s' fq->zv K F H' (xs.set m v') (l.set m s') (fa++(fq++fb)))->gu K F H xs l fp m s
def zv.at:∀{xs:List V}{l:List S}{fp:List Addr}{m:Nat}{s:S},zv K F H xs l fp->l[m]?=some s->gu K F H xs l fp m s
 |_,_,_,_,_,.nil,h=>by simp at h
 |_,_,_,0,_,.cons (fp:=fp) (fq:=fq) a b,h=>by simp at h;subst h;show#[_,[],fp,fq,rfl,a,rfl,λB r=>by rw[nil_append];show .cons r (b.mono (zr.refl F) λc v=>B c v)]
 |_,_,_,m+1,_,.cons (fp:=fp) (fq:=fq) a b,h=>by let#[x,M,J,L,h1,h2,rfl,G]:=zv.at (m:=m) b h;show#[x,fp++M,J,L,h1,h2,(qp ..).symm,λB r=>?_];rw[qp];show .cons (a.mono (zr.refl F) λc v=>B c (qj _ (qj _ v))) (G (λc v=>B c ((qx.mp v).elim (λz=>qj _ (qi _ z)) λz=>qi _ z)) r)
def Rel.hide2(r:Rel K (U++[some s]) (Z++[some v]) F G H)(h:U.length=Z.length):∃G' fp,Rel K U Z F G' H/\zr G G'/\aK K F H v s fp/\(∀a∈fp,∃o,G' a=some o/\H a=some o)/\
  ∀{U2:Env}{Z2:St}{L H2:Hp},zr F L->Rel K U2 Z2 L G' H2->Rel K (U2++[some s]) (Z2++[some v]) L G H2:=by
 classical
 show cps λ_ kk=>?_;let#[fp,e,nd,ap]:=r.en;let#[f1,f2,rfl,a,b]:=e.cut h;let#[n1,n2,h2]:=qw.mp nd;show kk ?_;let b':=b;cases b' with
 |@so _ _ _ _ fs fn O nl=>
 cases nl;show#[λx=>if x∈fs++[]then H x else G x,fs,#[r.fr,λx o q=>?_,f1,a,n1,λx B=>?_],λx o q=>?_,O,λx B=>?_,λ{U2 Z2 L H2} Y M=>?_]
 .by_cases z:x∈fs++[]
  .let:=b.in_ x z;grind
  .simp only[z]at q;show r.gr x o q
 .grind
 .grind
 .obtain⟨o,q,_⟩:=b.in_ x (qj _ B);grind
 .obtain⟨J,e2,h1,h3⟩:=M.en;let hk:∀x∈fs++[],H2 x=H x/\L x=none/\x∉J:=λx B=>by let#[o,q,_]:=b.in_ x B;let w:=M.gr x o (by simp only[B];show q);grind
  show#[M.fr,λx o q=>?_,J++(fs++[]),e2.app (b.mono Y λx B=>(hk x B).1),?_,λx B=>?_]
  .let z:x∉fs++[]:=λz=>by grind
   show M.gr x o (by simp only[z];show q)
  .grind
  grind
def Rel.frzEnd(r:Rel K (U++[some s]) (Z++[some v]) F G H)(h:U.length=Z.length):∃F',zr F F'/\Rel K (U++[some (.sh s.toD)]) (Z++[some v]) F' G H:=by let#[u,F',L,B,J,z]:=r.give (i:=U.length) (s:=s) Fy;rw[show(U++[some s]).set U.length (some (S.sh s.toD))=U++[some (S.sh s.toD)] from Km]at z;show#[F',B,z]
end
section
variable{st:Stmt}
def Fv(he:FE X e we):FE X e (fY we):=λpn xe hp=>by show PE.imp (he pn xe hp) λZ H Q q=>?_;let#[F,G,U,P,PX,B,hw,J,hx]:=q;show#[F,G,U,_,PX,B,hw,λr Y v F1 H1 L s1 O rv=>?_,hx];let#[#[s,z],eg,L]:=Aq L;let#[F2,s2,l2,M]:=AG (U':=[]) (Z':=[]) O (Af O) rv eg;let#[F3,s3,r3]:=Rel.frzEnd M (Af M);show J _ z v F3 H1 L (s1.trans (s2.trans s3)) r3 trivial
def Oy(h:FS X ks st w):FS X ks st (zP i w):=λpn xe hp=>by show PS.imp (h pn xe hp) λD Z H q=>?_;let#[F,G,U,E,J,hw,n,b,c,r,x]:=q;show#[F,G,U,_,J,hw,λM B F' H' L kp O z=>?_,b,c,r,x];let#[s,es,L]:=Aq L;let#[v,F2,_,Y,_,r2]:=z.give es;show n _ B F2 H' L kp (O.trans Y) r2
end
section
variable{K:W.Frag}
def PF(h:sP d q=some o):∃t ks vs,d=.dct t ks vs/\aO t q=true/\lk ks vs q=o:=by unfold sP at h;grind
def KB{vs:List α}{P:V->α->Prop}(v:zI.length=vs.length)(h:∀(i:Nat) x y,(zI.map (·.2))[i]?=some x->vs[i]?=some y->P x y):
  (lk (zI.map λp=>aG p.1) vs (aG key)=none/\cS zI key=none)\/∃x y,cS zI key=some x/\lk (zI.map λp=>aG p.1) vs (aG key)=some y/\P x y:=
 Hb aG (λ_ _=>ER) zI vs key P v h
def KA{vs:List α}{key:List aI}{P:V->α->Prop}(v:zI.length=vs.length)(h:∀(i:Nat) x y,(zI.map (·.2))[i]?=some x->vs[i]?=some y->P x y):
  (lk (zI.map λp=>D.tup (p.1.map aG)) vs (D.tup (key.map aG))=none/\cS zI key=none)\/∃x y,cS zI key=some x/\lk (zI.map λp=>D.tup (p.1.map aG)) vs (D.tup (key.map aG))=some y/\P x y:=
 Hb (λl=>D.tup (l.map aG)) (λa b z=>GI (D.tup.inj z)) zI vs key P v h
def QG(L:aN K H x d)(J:aO t d=true)
  (O:(∃zI,t=false/\Rd H a (.dK zI)/\ks=zI.map (λp=>aG p.1)/\zF K F (zI.map (·.2)) vs)\/∃zI,t=true/\Rd H a (.dT zI)/\ks=zI.map (λp=>D.tup (p.1.map aG))/\zF K F (zI.map (·.2)) vs):
  ∃o,gF H a x o/\((lk ks vs d=none/\o=none)\/∃v e,o=some v/\lk ks vs d=some e/\aN K F v e):=by
 rcases O with⟨zI,rfl,e,k,r⟩|⟨zI,rfl,e,k,r⟩
 .obtain⟨key,rfl,rfl⟩:=FV L J;show#[_,.inl #[zI,key,e,rfl,rfl],?_];rw[k];rcases KB (zI:=zI) (vs:=vs) (key:=key) (P:=λv e=>aN K F v e) (by let:=r.len;simpa using this) (λi x y h1 h2=>by let#[M,z,G]:=r.get h2;rw[h1]at z;cases z;show G)with⟨h1,h2⟩|⟨v,e,h1,h2,h3⟩
  .show .inl #[h1,h2]
  .show .inr #[v,e,h1,h2,h3]
 .cases L with
  |tup Y q=>
   let#[B,rfl,rfl]:=FX q J;show#[_,.inr #[zI,B,_,e,rfl,Y,rfl],?_];rw[k];rcases KA (zI:=zI) (vs:=vs) (key:=B) (P:=λv e=>aN K F v e) (by let:=r.len;simpa using this) (λi x y h1 h2=>by let#[M,z,G]:=r.get h2;rw[h1]at z;cases z;show G)with⟨h1,h2⟩|⟨v,e,h1,h2,h3⟩
   .show .inl #[h1,h2]
   .show .inr #[v,e,h1,h2,h3]
  |_=>cases J
def bE.dct(r:bE K F H v (.dct t ks vs))(O:zr F H):∃a,v=.ref a/\((∃zI,t=false/\Rd H a (.dK zI)/\ks=zI.map (λp=>aG p.1)/\zF K F (zI.map (·.2)) vs)\/
  ∃zI,t=true/\Rd H a (.dT zI)/\ks=zI.map (λp=>D.tup (p.1.map aG))/\zF K F (zI.map (·.2)) vs):=by
 rcases r with r|⟨a,xs,Y,G,z,B,r⟩|⟨a,zI,L,J,G,z,B,M,r⟩|⟨a,zI,L,J,G,z,B,M,r⟩
 .cases r with
  |dK e k r=>show#[_,rfl,.inl #[_,rfl,Rd.mono O e,k,r]]
  |dT e k r=>show#[_,rfl,.inr #[_,rfl,Rd.mono O e,k,r]]
 .cases z
 .cases z;show#[a,G,.inl #[zI,rfl,.inl B,M,r]]
 .cases z;show#[a,G,.inr #[zI,rfl,.inl B,M,r]]
end
def Ib(hu:X.A.units+1<cLine)(ho:FE X o wo)(hi:FE X i wi)(hd:FE X d wd)(m:M2 X o "get" apos i d cpos):FE X (.Call (.Attribute o "get" apos) [i,d] [] cpos) (gG wo wi wd):=λpn xe hp=>by
 refine PE.imp (Tg (X:=wp X pn xe) hu (ho pn xe hp) (hi pn xe hp) (hd pn xe hp) #[m.base,m.few,m.line,m.trees]) λZ H Q q=>?_;let#[F,G,U,P,PX,e1,hw,h6,hx]:=q;show#[F,G,U,_,PX,e1,hw,λx U1 o' F1 H1 hk s1 r1 rv=>?_,hx];let#[hD,hk]:=hk;let l1:=Af r1;let#[d0,e0,hD]:=Aq hD;let M:∃a,o'=.ref a/\xW H1 a:=by
  cases d0 with
  |dct t ks vs=>
   let#[hc,hb,e2,h5]:=Ba (U':=[]) (Z':=[]) r1 l1 rv e0;let#[a,ea,h]:=e2.dct h5.fr;rcases h with⟨L,_,h,_⟩|⟨L,_,h,_⟩
   .show#[a,ea,.inl #[L,h]]
   .show#[a,ea,.inr #[L,h]]
  |_=>cases hD
 let#[a,rfl,M]:=M;show#[a,rfl,M,?_];let#[G1,h4,gg,back]:=r1.hide l1;show#[F1,G1,U1,_,PX,h4,hk,λy U2 i' F2 H2 e3 s2 r2 h9=>?_,hx.mono (λ_ z=>z) s1 gg];let l2:=Af r2;let#[G2,h3,e4,O]:=r2.hide l2;show#[F2,G2,U2,_,PX,h3,e3,λz J d' F3 H3 B s3 r3 h8=>?_,hx.mono (λ_ z=>z) (s1.trans s2) (gg.trans e4)];let Y:=Af r3;let#[dd,ed,B]:=Aq B;let#[q,eq,B]:=Aq B;let#[oo,eo,B]:=Aq B;let r4:=back (s2.trans s3) (O s3 r3);simp at r4;let r5:Rel X.K (J++[zt y,zt x]) (Z++[some i',some (.ref a)]) F3 G H3:=Rel.mid (U:=J) (Z:=Z) r4 Y;let ri:=AH (U':=[zt x]) (Z':=[some (.ref a)]) r5 Y h9 eq;let r6:Rel X.K ((J++[zt z])++[zt x]) ((Z++[some d'])++[some (.ref a)]) F3 G H3:=by let:=Rel.mid (U:=J++[zt z]) (Z:=Z++[some d']) (o:=zt y) (w:=some i') (U':=[zt x]) (Z':=[some (.ref a)]) ↑r4 (by simp[Y]);show this
 let r7:=Rel.swap (U1:=[zt z]) (Z1:=[some d']) (U2:=[zt x]) (Z2:=[some (.ref a)]) Y rfl ↑r6;let#[F4,s4,re,r8]:=Ba (U':=[zt z]) (Z':=[some d']) r7 Y rv ed;let#[t,ks,vs,rfl,h7,rfl]:=PF eo;let#[a',ea,hh]:=re.dct r8.fr;cases ea;let#[o2,g,h]:=QG ri h7 hh;show#[o2,g,?_];rcases h with⟨h1,rfl⟩|⟨v,e,rfl,h1,h2⟩
 .rw[h1]at B;show h6 _ J d' F4 H3 B (s1.trans (s2.trans (s3.trans s4))) r8 h8
 .rw[h1]at B;show h6 _ J v F4 H3 B (s1.trans (s2.trans (s3.trans s4))) ((r8.drop Y).push h2) trivial
def Jl(h1:-1000000000000<i)(h2:i<1000000000000):i.natAbs.log2<40:=by
 let:i.natAbs<2^40:=∅
 by_cases v:i.natAbs=0
 .rw[v];decide
 .show(Nat.log2_lt v).mpr this
mutual
def JW:∀d:D,eR d=true->iE d=true
 |.non,_=>rfl
 |.bl _,_=>rfl
 |.int i,h=>by let h':(decide (-1000000000000<i)&&decide (i<1000000000000))=true:=h;rw[and_eq_true,qT,qT]at h';let:=Jl h'.1 h'.2;show decide (i.natAbs.log2<1920)=true;rw[qT];lia
 |.str _,_=>rfl
 |.tup l,h=>Kl l h
 |.lst l,h=>Kl l h
 |.dct _ _ _,h=>by cases h
 |.set _,h=>by cases h
 |.exc _ _ _,h=>by cases h
def Kl:∀l:List D,cY l=true->cT l=true
 |[],_=>rfl
 |d::r,h=>by rw[cY,and_eq_true]at h;rw[cT,JW d h.1,Kl r h.2];rfl
end
mutual
def Iv:∀d:D,eR d=true->(cO d).leavesShort 13=true
 |.non,_=>rfl
 |.bl _,_=>rfl
 |.int i,h=>by let h':(decide (-1000000000000<i)&&decide (i<1000000000000))=true:=h;rw[and_eq_true,qT,qT]at h';let:=int_text_length_le10 (a:=i) (k:=12) ⋯ ∅;simp only[cO,PyData.leavesShort,qT];show(Str.ofString (toString i)).length<=13;rw[PySem.ofString_length];show this
 |.str l,h=>by let h':(l.all λc=>decide (c<1114112))=true:=h;simp only[cO,PyData.leavesShort,qI,qT]at h'⊢;intro c v;let:=h' c ↑v;lia
 |.tup l,h=>by simp only[cO,PyData.leavesShort];show Ke l h
 |.lst l,h=>by simp only[cO,PyData.leavesShort];show Ke l h
 |.dct _ _ _,h=>by cases h
 |.set _,h=>by cases h
 |.exc _ _ _,h=>by cases h
def Ke:∀l:List D,cY l=true->PyData.leavesShortAll 13 (cN l)=true
 |[],_=>rfl
 |d::r,h=>by rw[cY,and_eq_true]at h;simp only[cN,PyData.leavesShortAll,and_eq_true];show#[Iv d h.1,Ke r h.2]
end
mutual
def Iu:∀d:D,eR d=true->(cO d).weight<=kX d
 |.non,_=>q8 _
 |.bl _,_=>q8 _
 |.int i,h=>by let h':(decide (-1000000000000<i)&&decide (i<1000000000000))=true:=h;rw[and_eq_true,qT,qT]at h';let:=Jl h'.1 h'.2;simp only[cO,PyData.weight,kX];split<;>lia
 |.str l,h=>by simp[cO,PyData.weight,kX]
 |.tup l,h=>by simp only[cO,PyData.weight,kX];show Kg l h
 |.lst l,h=>by simp only[cO,PyData.weight,kX];show Kg l h
 |.dct _ _ _,h=>by cases h
 |.set _,h=>by cases h
 |.exc _ _ _,h=>by cases h
def Kg:∀l:List D,cY l=true->PyData.weightAll (cN l)<=gQ l
 |[],_=>q8 _
 |d::r,h=>by rw[cY,and_eq_true]at h;let h1:=Iu d h.1;let h2:=Kg r h.2;simp only[cN,PyData.weightAll,gQ];lia
end
def bE.view{K:W.Frag}(h:bE K F H v d)(z:zr F H):aN K H v d:=by
 rcases h with h|⟨a,xs,J,rfl,rfl,e,r⟩|⟨a,B,ks,G,rfl,rfl,e,k,r⟩|⟨a,B,ks,G,rfl,rfl,e,k,r⟩
 .show h.mono z
 .show .lst (bO.of e) (r.mono z)
 .show .dK (.of e) k (r.mono z)
 .show .dT (.of e) k (r.mono z)
def yE:D->Str
 |.non=>"None"
 |.bl b=>if b then "True" else "False"
 |.int i=>toString i
 |d=>(cO d).shown
def iZ(K:W.Frag):List V->Hp->VK->Prop:=λxs H Q=>∃v d,xs=[v]/\aN K H v d/\bV d=true/\Q (.str (yE d)) H
def Nb(hr:bM k X.A):aY X (.builtin "repr") (iZ X.K):=by
 intro zH s Z H xs us Q I r h;let#[v,d,rfl,Y,G,q]:=h;unfold bV at G;rw[and_eq_true,and_eq_true,qT,qT]at G;let#[F,hd,hw]:=G;let#[u,rfl,L]:=vals1 r;let J:∀a,v=.ref a->wO d=true->wpAny (model X.prog X.w) X.A (call (.builtin "repr") [u]) (EP X zH Z Q) X.xe s:=λa e hq=>by
  subst e;cases L;let#[as,rd]:=Ru I Y rfl (JW d F);let h1:=Mt d;let h2:=hr.units;let O:yE d=(cO d).shown:=by cases d<;>first|rfl|cases hq
  rw[O]at q;show repr_of_reads' (h₀:=s.heap) rd (NP d (JW d F)) (λh=>by rw[Ny]at h;cases h) hr.gd ∅ (λ_ _ z=>z) (λh' u tk hk=>#[.str _,H,I.kept hk,#[u,rfl],q]) ?_;let M:=Iu d F;show PyData.shown_fits (B:=13) ⋯ ⋯ (Iv d F) ∅
 cases Y with
 |non=>cases L;show P.repr_of_none #[.str _,H,I.kept λ_ _ z=>z,#[_,rfl],q]
 |bl b=>cases L;show P.repr_of_bool #[.str _,H,I.kept λ_ _ z=>z,#[_,rfl],q]
 |int i=>let#[t,rfl]:=L;let h':(decide (-1000000000000<i)&&decide (i<1000000000000))=true:=F;rw[and_eq_true,qT,qT]at h';let:=Jl h'.1 h'.2;show P.repr_of_int ∅ #[.str _,H,I.kept λ_ _ z=>z,#[_,rfl],q]
 |@str x l e z=>
  let#[t,rfl]:=L;let ex:x=#[l.toArray]:=by let#[#[a]]:=x;let e':a=l:=e;rw[e']
  subst ex;let M:=Iu (.str l) F;show P.repr_of_str #[.str _,H,I.kept λ_ _ z=>z,#[_,rfl],q] (PyData.shown_fits (d:=cO (.str l)) (B:=13) ⋯ ⋯ (Iv _ F) ∅)
 |tup e r=>show J _ rfl rfl
 |lst e r=>show J _ rfl rfl
 |dK e k r=>cases F
 |dT e k r=>cases F
 |st e r=>cases F
 |exc e k=>cases F
def QD(hs:bV d=true):(yE d).cps.toList.length<=16777216:=by
 unfold bV at hs;rw[and_eq_true,and_eq_true,qT,qT]at hs;let#[hs,F,z]:=hs;let v:=Iu d hs;let h:=PyData.shown_fits (d:=cO d) (B:=13) ⋯ ⋯ (Iv _ hs) ∅;let e:yE d=(cO d).shown:=by
  cases d with
  |non=>rfl
  |bl b=>rfl
  |int i=>rfl
  |str l=>rfl
  |tup l=>rfl
  |lst l=>rfl
  |_=>cases hs
 rw[e,qV];show h
def Uz{a b:Expr}{wa wb:WE}{res:Bool}{X':Cx}{Z:St}{H:Hp}{Q:Bool->Hp->Prop}{C:V->V->Hp->Prop}(hC:∀(z:Str) H2,z.cps.toList.length<=16777216->Q res H2->C (.str z) (.str z) H2)(q:hU X' (eY res wa wb) Z H Q):
  vN (iZ X'.K) (nH X' (zl wa zm)) Z H λv H1=>vN (iZ X'.K) (nH X' (zl wb zm)) Z H1 λu H2=>C v u H2:=by
 let#[F,G,U,P,PX,h2,hw,h4,hx]:=q;show#[F,G,U,λrs O=>match rs with|[r]=>(zp (zD r O) λp=>bV p=true/\wb O (λy B=>zp (zD y B) λq=>p=q/\P res B) PX)|_=>False,PX,h2,hw,λrs O vs F1 H1 J s1 r1 hl L=>?_,hx];match rs,vs,L,r1,J with
 |[r],[v],L,r1,J=>
  let#[d,ed,h1,J]:=Aq J;let#[F2,s2,re,r2]:=Ba (U':=[]) (Z':=[]) r1 hl L.1 ed;rw[qz,qz]at r2;show#[v,d,rfl,re.view r2.fr,h1,F2,G,O,λrs B=>match rs with|[r]=>(zp (zD r B) λq=>d=q/\P res B)|_=>False,PX,r2,J,λrs B us F3 H3 M s3 r3 h5 Y=>?_,hx.grow (s1.trans s2)];match rs,us,Y,r3,M with
  |[r],[u],Y,r3,M=>let#[d2,h6,h7,M]:=Aq M;subst h7;let#[F4,s4,h3,r4]:=Ba (U':=[]) (Z':=[]) r3 h5 Y.1 h6;rw[qz,qz]at r4;show#[u,d,rfl,h3.view r4.fr,h1,hC _ _ (QD h1) (h4 _ B F4 H3 M (s1.trans (s2.trans (s3.trans s4))) r4)]
  |[],_,_,_,J=>show J.elim
  |[_],[],L,_,_=>show L.elim
  |[_],_::_::_,L,_,_=>show L.2.elim
  |_::_::_,_,_,_,J=>show J.elim
 |[],_,_,_,J=>show J.elim
 |[_],[],L,_,_=>show L.elim
 |[_],_::_::_,L,_,_=>show L.2.elim
 |_::_::_,_,_,_,J=>show J.elim
def Mi:bootBuiltins "repr"=some (.builtin "repr"):=by decide+kernel
def TM(F:bM k X.A)(M:Gl X "repr")(L:X.mg "repr"=none)(ha:FE X a Y)(hb:FE X b O)(hs:starEach [a] X.env=[(false,eval a X.env)]:=by rfl)(B:starEach [b] X.env=[(false,eval b X.env)]:=by rfl):
  FT X (.Compare (.Call (.Name "repr" p) [a] [] pos1) [.NotEq] [.Call (.Name "repr" p2) [b] [] pos2] pos) (eY false Y O):=λpn xe J=>by
 show PT.imp (LI (EL (X:=wp X pn xe) (DH F)) (JE (X:=wp X pn xe) (Nb (X:=wp X pn xe) F) M L Mi (Aa ha Ab hs pn xe J) ⋯ ⋯ hs (by rfl)) (JE (X:=wp X pn xe) (Nb (X:=wp X pn xe) F) M L Mi (Aa hb Ab B pn xe J) ⋯ ⋯ B (by rfl)) (Ac _)) λZ H Q q=>?_;show Uz (a:=a) (b:=b) (C:=λv u H2=>sD X.K v u H2 λz H3=>∃c,z=.bl c/\Q c H3) (λz H2 G hq=>?_) q;show#[.str z.cps.toList,.str z.cps.toList,.str rfl G,.str rfl G,rfl,zero_le _,false,by simp,hq]
section
variable{K:W.Frag}
def ND(a:Array Nat):∀(n:Nat)(b:Array Nat),((List.replicate n a).foldl (·++·) b).toList=b.toList++(List.replicate n a.toList).flatten
 |0,b=>by simp
 |n+1,b=>by rw[List.replicate_succ,foldl_cons,ND a n,List.replicate_succ,List.flatten_cons,toList_append,qp]
def OU(v:0<=n):(Txt.mul x n).cps.toList=(List.replicate n.toNat x.cps.toList).flatten:=by
 unfold Txt.mul;by_cases h1:n<1
 .rw[show n=0 by lia];rfl
 .rw[q5 h1];by_cases h2:(n==1||x.length==0)=true
  .rw[q4 h2];rw[or_eq_true,beq_iff_eq,beq_iff_eq]at h2;rcases h2 with h2|h2
   .subst h2;simp
   .let:x.cps.toList=[]:=by let e:x.cps.size=0:=h2;rw[<-length_eq_zero_iff];exact e
    rw[this];simp
  .rw[q5 h2];rw[ND];simp
def pF:R2:=λx y H Q=>∃z n,x=.str z/\y=.int n/\0<=n/\n<=1000/\z.length<=500/\Q (.str (Txt.mul z n)) H
def Qa:OpR X (binaryOp .Mult) pF:=by
 intro zH s Z H x y v u Q I F B h;let#[z,n,rfl,rfl,Y,h1,G,q]:=h;let#[t,rfl]:=F;let#[L,rfl]:=B;show SB.mul #[?_,λh _=>?_,λh _=>?_] λJ k=>#[.str _,H,I.kept λ_ _ z=>z,#[_,rfl],q]
 .grind
 .let O:(9223372036854775807:Int)/1000<=(2^63-1)/n:=by rw[Int.le_ediv_iff_mul_le ∅];grind
  grind
 .let M:z.length*n.toNat<=500*1000:=mul_le_mul G ∅;simp only[Builtin.Str.tooLong,zf];lia
def TZ:gE K (λx y H Q=>(rI mL λi j=>.int (i*j)) x y H Q\/pF x y H Q) bY:=by
 intro Z U F G H x y p q s Q v J B e L;unfold bY at e;split at e
 .rename_i l n;split at e
  .rename_i hc;cases e;let#[M,h1,hz]:=hc;let#[z,rfl,O,_]:=J.str;let ey:y=.int n:=by
    rcases B with B|⟨_,_,_,_,e,_⟩|⟨_,_,_,_,_,e,_⟩|⟨_,_,_,_,_,e,_⟩
    .cases B;rfl
    .cases e
    .cases e
    .cases e
   subst ey;let Y:z.length=l.length:=by rw[<-O];rfl
   show .inr #[z,n,rfl,rfl,M,h1,∅,?_];show L _ F H (zr.refl F) (v.push (.str ?_ ?_))
   .rw[OU M,O]
   .let h4:n.toNat*l.length<=1000*500:=mul_le_mul ∅ hz;let e5:∀m,((List.replicate m l).flatten).length=m*l.length:=λm=>by simp
    rw[e5];lia
  .cases e
 .show .inl (RA Z U F G H x y _ _ s Q v J B e L)
def Ea(F:FE X a z)(B:FE X b v):FE X (.BinOp a .Mult b pos) (zy bY z v):=FR (λ_ _=>OpR.or Ov Qa) TZ F B
end
end FL
namespace FL
def zQ(s0:S)(n k:Nat)(it:WI)(g:WG)(c:WT)(b:WB):WE:=λU Q E=>it U (λl z=>aL g c b l (z++some s0::List.replicate k none) (λv=>zp (slot v n) λs=>Q (.v s) (v.take n)) NX) E
end FL
namespace FL
open PySem PySem.Spec PyProof.Rows L2
def dO(K:W.Frag)(f:Addr):FuncData:=match K.lookup f with
 |some ⟨_,_,.func d,_⟩=>d
 |_=>default
def KJ{K:W.Frag}(l:K.lookup f=some #[B,z,.func d,v]):dO K f=d:=by unfold dO;rw[l]
inductive Lk(K:W.Frag)(n:Str)(st:Stmt)(f:Addr):Prop
 |mk {oc kV dc pm cd ct:Value} {od an:Option Addr} {sl:Array (Option Value)} (a:W.nsIn K mainGlobals n=some (some (.ref f))) (l:K.lookup f=some ⟨oc,od,.func (W.fnOf n n (dI st) (cB st) (aA st) .none kV dc pm an cd ct),sl⟩)
  (c:W.codeIn K cd n=true) (k:W.keepIn K (.ref f)=true):Lk K n st f
structure Tx(K:W.Frag)(mg:Str->Option Value)(f:Addr)(n:Str)(st:Stmt)(ps:List Str):Prop where
 F:uN K n n st f (dO K f)
 m:mg n=some (.ref f)
 k:W.keepIn K (.ref f)=true
 b:Binds K (dO K f) ps []
def ib(n:Str)(st:Stmt)(ps:List Str):Prop:=∀(kV v B:Value)(F:Option Addr)(z ct:Value)(us:List Value),us.length=ps.length->bindArgs (W.fnOf n n (dI st) (cB st) (aA st) .none kV v B F z ct) #[us,[]]=pure (ps.zip us)
section
variable{K:W.Frag}{st:Stmt}
def Lk.mm(t:Lk K n st f)(X:K.In h)(G:h.Ns mainGlobals mg):mg n=some (.ref f):=by let#[a,l,c,k]:=t;show W.mg_of X G a
def Lk.tx(t:Lk K n st f)(X:K.In h)(G:h.Ns mainGlobals mg)(b:ib n st ps:=by intro _ _ _ _ _ _ us v;first|(let#[_,rfl]:=Ec (l:=us) v;rfl)|(let#[_,_,rfl]:=FH (l:=us) v;rfl)|(let#[_,_,_,rfl]:=FF (l:=us) v;rfl)|(let#[_,_,_,_,rfl]:=Ht (l:=us) v;rfl)|(let#[_,_,_,_,_,rfl]:=vlen5 (l:=us) v;rfl)):Tx K mg f n st ps:=by
 let#[a,l,c,k]:=t;let e:=KJ l;let F:=OM l c k;show#[?_,W.mg_of X G a,k,?_]
 .rw[e];show F
 .rw[e];show F.binds b
def Lk.bt(t:Lk K n st f)(s:Shared)(v:Value)(b:ib n st [x]:=by intro _ _ _ _ _ _ us z;let#[_,rfl]:=Ec (l:=us) z;rfl):BindsTo s (dO K f) #[[v],[]] [(x,v)]:=by let#[a,l,c,k]:=t;let e:=KJ l;rw[e];show .of_eq (b _ _ _ _ _ _ [v] rfl)
end
def CA{N P:List Str}{v:Scope}(a:v.kind=.function:=by rfl)(b:v.isCoroutine=false:=by rfl)(c:v.isGenerator=false:=by rfl)(d:N.Nodup:=by decide+kernel)(e:N.take P.length=P:=by rfl)(f:∀x∈P,v.names.lookup x=some .local\/v.names.lookup x=some .cell:=by decide+kernel)(g:∀y∈v.names,y.2≠.free:=by decide+kernel):aJ N P v:=#[a,b,c,d,e,f,g]
abbrev iL(P:Program)(w:World)(K:W.Frag)(mg:Str->Option Value)(base:Heap)(af:Nat->Addr)(k i:Nat)(ps:List Str)(sp:Sp):Prop:=eV P w K mg base (iN P w) k (af i) (dO K (af i)) ps sp
def CI{K:W.Frag}{st:Stmt}(t:Tx K mg f x st ps)(Sc:aJ N ps (aA st))
  (G:∀(z:Value)(A:Around)(v:List PySem.Env)(s:Shared)(H:Hp)(E:XK),bM k (A.deeper (envOfC x (aA st) s.heap.objs.size f z))->mQ (eT (iN P w) P w K mg base N x (aA st) f z A v s H E) ks (cB st) B)(hn:ps.length=n:=by rfl)(F:N.length=m:=by rfl):
  eV P w K mg base (iN P w) (k+1) f (dO K f) ps (eN K (gH n m ks B) n):=KC t.F Sc hn F G
section
theorem fw(i:Nat)(F:X.N[i]?=some x:=by rfl)(z:xD X.env.scope x:=by first|show Or.inl rfl|show Or.inr (Or.inl rfl)|show Or.inr (Or.inr rfl))(B:(x==("__debug__":Str))=false:=by decide)
  (v:(x==("__classdict__":Str))=false:=by decide):FE X (.Name x pos) (zk i):=Qi F z B v
def Ah(i:Nat)(v:X.N.Nodup)(B:i∉ks:=by decide)(hi:X.N[i]?=some x:=by rfl)(z:Loc X.env.scope x:=by first|show Or.inl rfl|show Or.inr rfl)(G:X.fn x=true\/X.env.scope.names.lookup x=some .local:=by show Or.inl rfl):FG X ks (.Name x pos) (FL.zo i):=LH B (λj F=>Jz v F hi) hi z G
def CP(i:Nat)(B:i∉ks:=by decide)(z:(X.N.zipIdx.all λp=>!(p.1==x)||p.2==i)=true:=by kernel_rfl)(hi:X.N[i]?=some x:=by rfl)(v:Loc X.env.scope x:=by first|show Or.inl rfl|show Or.inr rfl)(F:X.fn x=true\/X.env.scope.names.lookup x=some .local:=by first|show Or.inr rfl|show Or.inl rfl):FG X ks (.Name x pos) (FL.zo i):=LH B (uq z) hi v F
variable{st:Stmt}
def AF(ms:List Bool)(t:Tx X.K X.mg f x st ps)(Fk:eV X.prog X.w X.K X.mg X.base (iN X.prog X.w) k f (dO X.K f) ps (eN X.K F n))(J:bM j X.A)(Y:FA X (e::es) G)(L:k<=j:=by decide)(M:Gl X x:=by rfl)(v:∀ss P PX,F ss P PX->ss.length=n:=by show λ_ _ _ h=>h.1)
  (B:(x==("__debug__":Str))=false:=by decide)(O:starEach (e::es) X.env=(false,eval e X.env)::starEach es X.env:=by rfl)(z:(backTo pos (starEach es X.env)).any (·.1)=false:=by rfl):
  FE X (.Call (.Name x p) (e::es) [] pos) (zA F ms G):=QP Fk (J.mono L) M t.m t.k t.b Y v B O z
end
end FL
namespace FL
def bX(l:List D):Bool:=l.all bK||l.all (aO true)
open Classical in
def cI(l:List D)(d:D):List D:=if d∈l then l else l++[d]
def aH(l:List D):List D:=l.foldl cI []
def mE(n:Nat)(e:WE):WB:=λU Q E=>e U (λr v=>zp (give r v) λp=>match slot p.2 n with
 |some (.set l)=>bX (p.1.toD::l)=true/\l.length<=150/\Q (p.2.set n (some (.set (cI l p.1.toD))))
 |_=>False) E
def newS(l:List D):Option S:=if bX l=true/\l.length<=150 then some (.set (aH l))else none
def jG:List D->Option S
 |[.lst l]=>newS l
 |[.tup l]=>newS l
 |_=>none
def iI:List D->Option S
 |[.set l]=>some (.sh (.int l.length))
 |ds=>aV ds
def dY:List Bool->List D->Prop
 |[],[]=>True
 |false::sh,.int _::r=>dY sh r
 |true::sh,.str _::r=>dY sh r
 |_,_=>False
def eP(sh:List Bool):D->Prop
 |.tup l=>dY sh l
 |_=>False
@[inline]def Kd:D->D->Prop:=λa b=>(∃i j,a=.int i/\b=.int j)\/∃x y,a=.str x/\b=.str y
def Hf(i j:Int):bR (.int i) (.int j)=if i<j then .lt else if j<i then .gt else .eq:=by rw[bR]
def Ij(x y:List Nat):bR (.str x) (.str y)=if x<y then .lt else if y<x then .gt else .eq:=by rw[bR]
def SD(x y:List Nat):x<y\/y<x\/x=y:=by grind
def IA(h:Kd a b):(bR a b=.lt/\bR b a=.gt)\/(bR a b=.gt/\bR b a=.lt)\/(a=b/\bR a b=.eq):=by
 rcases h with⟨i,j,rfl,rfl⟩|⟨x,y,rfl,rfl⟩
 .grind[Hf]
 .rw[Ij,Ij];grind
def OK(h:Kd a b)(h':Kd b c)(e:bR a b=.lt)(F:bR b c=.lt):bR a c=.lt:=by
 rcases h with⟨i,j,rfl,rfl⟩|⟨x,y,rfl,rfl⟩
 .rcases h' with⟨v,k,h1,rfl⟩|⟨x,y,h1,rfl⟩
  .grind[Hf,Int.lt_trans]
  .cases h1
 .rcases h' with⟨v,k,h1,rfl⟩|⟨B,z,h1,rfl⟩
  .cases h1
  grind[Ij,List.lt_trans]
def Ip(h:dY sh (a::l))(h':dY sh (b::m)):Kd a b/\∃v,dY v l/\dY v m:=by
 cases sh with
 |nil=>show h.elim
 |cons t sh=>
  cases t
  .cases a<;>first|exact h.elim|skip
   cases b<;>first|show h'.elim|skip
   show#[.inl #[_,_,rfl,rfl],sh,h,h']
  .cases a<;>first|exact h.elim|skip
   cases b<;>first|show h'.elim|skip
   show#[.inr #[_,_,rfl,rfl],sh,h,h']
def FY(h:dY sh [])(h':dY sh m):m=[]:=by
 cases sh with
 |nil=>cases m with
  |nil=>rfl
  |cons _ _=>show h'.elim
 |cons t _=>cases t<;>show h.elim
def RI{sh v:List Bool}{l m:List D}(h:dY sh l)(h':dY v l):sh=v:=by
 induction l generalizing sh v with
 |nil=>
  cases sh with
  |nil=>cases v with
   |nil=>rfl
   |cons t _=>cases t<;>show h'.elim
  |cons t _=>cases t<;>show h.elim
 |cons a l B=>
  cases sh with
  |nil=>show h.elim
  |cons t sh=>cases v with
   |nil=>show h'.elim
   |cons z v=>cases t<;>cases z<;>cases a<;>first|show h.elim|show h'.elim|rw[B h h']
def JV(a b:D)(l m:List D):aR (a::l) (b::m)=match bR a b with|.eq=>aR l m|o=>o:=by rw[aR];first|done|(cases bR a b<;>rfl)
def Gd:∀{sh:List Bool}{l m:List D},dY sh l->dY sh m->(aR l m=.lt/\aR m l=.gt)\/(aR l m=.gt/\aR m l=.lt)\/(l=m/\aR l m=.eq)
 |sh,[],m,h,h'=>by rw[FY h h'];show .inr (.inr #[rfl,by rw[aR]])
 |sh,a::l,[],h,h'=>by cases FY h' h
 |sh,a::l,b::m,h,h'=>by
  let#[k,G,L,J]:=Ip h h';rw[JV,JV];rcases IA k with⟨z,F⟩|⟨z,F⟩|⟨rfl,z⟩
  .rw[z,F];show .inl #[rfl,rfl]
  .rw[z,F];show .inr (.inl #[rfl,rfl])
  .rw[z];rcases Gd L J with⟨v,B⟩|⟨v,B⟩|⟨rfl,v⟩
   .show .inl #[v,B]
   .show .inr (.inl #[v,B])
   .show .inr (.inr #[rfl,v])
def LA:∀{sh:List Bool}{l m n:List D},dY sh l->dY sh m->dY sh n->aR l m=.lt->aR m n=.lt->aR l n=.lt
 |sh,[],m,n,h,h',h'',e,_=>by rw[FY h h']at e;cases e
 |sh,a::l,[],n,h,h',h'',e,_=>by cases FY h' h
 |sh,a::l,b::m,[],h,h',h'',e,_=>by cases FY h'' h
 |sh,a::l,b::m,c::n,h,h',h'',e,e'=>by
  let#[k,F,O,M]:=Ip h h';let#[G,B,J,L]:=Ip h' h'';let es:F=B:=RI (m:=[]) M J;subst es;rw[JV]at e e'⊢;rcases IA k with⟨z,_⟩|⟨z,_⟩|⟨rfl,z⟩
  .rw[z]at e;rcases IA G with⟨v,_⟩|⟨v,_⟩|⟨rfl,v⟩
   .rw[OK k G z v]
   .rw[v]at e';cases e'
   .rw[z]
  .rw[z]at e;cases e
  .rw[z]at e;rcases IA G with⟨v,_⟩|⟨v,_⟩|⟨rfl,v⟩
   .rw[v]
   .rw[v]at e';cases e'
   .rw[z]at e';rw[z];show LA O J L e e'
def EW(h:dY sh l)(h':dY sh m):dQ (.tup l) (.tup m)=!(aR m l==.lt):=by
 unfold dQ;rw[show bR (.tup l) (.tup m)=aR l m by rw[bR]];rcases Gd h h' with⟨v,z⟩|⟨v,z⟩|⟨rfl,v⟩
 .rw[v,z];rfl
 .rw[v,z];rfl
 .rw[v];rfl
def GT(sh:List Bool):eQ (eP sh) where
 tot a b ha hb:=by
  cases a<;>first|show ha.elim|skip
  cases b<;>first|show hb.elim|skip
  rw[EW ha hb,EW hb ha];rcases Gd ha hb with⟨f1,f2⟩|⟨f1,f2⟩|⟨_,f1⟩
  .show .inl (by rw[f2];rfl)
  .show .inr (by rw[f1];rfl)
  .show .inr (by rw[f1];rfl)
 tr a b c ha hb hc:=by
  cases a<;>first|show ha.elim|skip
  cases b<;>first|show hb.elim|skip
  cases c<;>first|show hc.elim|skip
  rw[EW ha hb,EW hb hc,EW ha hc];intro h1 h2;rcases Gd ha hb with⟨f1,f2⟩|⟨f1,f2⟩|⟨rfl,f1⟩
  .rcases Gd hb hc with⟨g1,g2⟩|⟨g1,g2⟩|⟨rfl,g1⟩
   .rcases Gd ha hc with⟨k1,k2⟩|⟨k1,k2⟩|⟨rfl,k1⟩
    .rw[k2];rfl
    .rw[LA ha hb hc f1 g1]at k1;cases k1
    .rw[k1];rfl
   .rw[g2]at h2;cases h2
   .show h1
  .rw[f2]at h1;cases h1
  .show h2
 anti a b ha hb:=by
  cases a<;>first|show ha.elim|skip
  cases b<;>first|show hb.elim|skip
  rw[EW ha hb,EW hb ha];intro h1 h2;rcases Gd ha hb with⟨f1,f2⟩|⟨f1,f2⟩|⟨rfl,f1⟩
  .rw[f1]at h2;cases h2
  .rw[f2]at h1;cases h1
  .rfl
section
variable{ι κ:Type}[DecidableEq κ](g:ι->κ)
def bG(l:List ι)(i:ι):List ι:=if g i∈l.map g then l else l++[i]
def fW(l:List ι):List ι:=l.foldl (bG g) []
def Td{f:ι->D}(h:∀i j,f i=f j↔g i=g j)(l:List ι)(i:ι):cI (l.map f) (f i)=(bG g l i).map f:=by unfold cI bG;grind
def Jg{f:ι->D}(h:∀i j,f i=f j↔g i=g j)(l:List ι):aH (l.map f)=(fW g l).map f:=by
 suffices ∀v:List ι,(l.map f).foldl cI (v.map f)=(l.foldl (bG g) v).map f from this []
 induction l with
 |nil=>show λ_=>rfl
 |cons i l z=>intro v;rw[qy,foldl_cons,Td g h];show z _
def JC{l:List ι}{k:Nat}(h:k<l.length):fW g (l.take (k+1))=bG g (fW g (l.take k)) l[k]:=by unfold fW;rw[List.take_add_one,qh h,List.foldl_append];rfl
def GF:∀{l v:List ι}{i:ι},i∈l.foldl (bG g) v->i∈v\/i∈l
 |[],_,_,h=>.inl h
 |j::l,v,i,h=>by
  rw[foldl_cons]at h;rcases GF h with z|z
  .unfold bG at z;split at z
   .show .inl z
   .rcases qx.mp z with z|z
    .show .inl z
    .show .inr (qA.mpr (.inl (qu.mp z)))
  .show .inr (qk _ z)
def Ga:∀(l v:List ι),(l.foldl (bG g) v).length<=v.length+l.length
 |[],_=>q8 _
 |j::l,v=>by
  rw[foldl_cons];let h1:=Ga l (bG g v j);let h2:(bG g v j).length<=v.length+1:=by
   unfold bG;split
   .lia
   .rw[qq];show q8 _
  rw[qt];lia
end
def RF:x∈cI l d↔x∈l\/x=d:=by
 unfold cI;split
 .rename_i h;show#[.inl,λz=>z.elim id λe=>e▸h]
 .rw[qx,qu]
theorem zaA:x∈aH l↔x∈l:=by
 suffices ∀v:List D,x∈l.foldl cI v↔x∈v\/x∈l from(this []).trans (by simp)
 induction l with
 |nil=>show λ_=>by simp
 |cons i l z=>intro v;rw[foldl_cons,z,RF,qA,or_assoc]
def UM(h:l.Nodup):(cI l d).Nodup:=by
 unfold cI;split
 .show h
 .rename_i z;show qw.mpr #[h,by simp,λa B b v=>by rw[qu.mp v];show λe=>z (e▸B)]
def Kk(l:List D):(aH l).Nodup:=by
 suffices ∀v:List D,v.Nodup->(l.foldl cI v).Nodup from this [] .nil
 induction l with
 |nil=>show λ_ h=>h
 |cons i l z=>show λv h=>z _ (UM h)
def RY(l:List D)(d:D):(cI l d).length<=l.length+1:=by
 unfold cI;split
 .lia
 .rw[qq];show q8 _
def MK(l:List D):(aH l).length<=l.length:=by
 unfold aH
 suffices ∀v:List D,(l.foldl cI v).length<=v.length+l.length by simpa using this []
 induction l with
 |nil=>show λ_=>q8 _
 |cons i l z=>grind[foldl_cons,length_cons,cI,RY]
def bB(ks:List D)(l:List S)(q:D):List D×List S×Nat:=match fX ks q with
 |some m=>(ks,l,m)
 |none=>(ks++[q],l++[.lst []],ks.length)
def eA(j:Nat)(k e:WE):WE:=λU Q E=>match slot U j with
 |some (.dct _ _ _)=>k U (λy v=>match view y v,slot v j with
  |some q,some (.dct t ks l)=>aO t q=true/\ks.Nodup/\ks.length<big/\(match(bB ks l q).2.1[(bB ks l q).2.2]? with
   |some (.lst l')=>e (v.set j none) (λr z=>zp (give r z) λp=>l'.length<big/\Q (.v (.sh .non)) (p.2.set j (some (.dct t (bB ks l q).1 ((bB ks l q).2.1.set (bB ks l q).2.2 (.lst (l'++[p.1]))))))) E
   |_=>False)
  |_,_=>False) E
 |_=>False
end FL
namespace FL
open PySem PySem.Spec PyProof.Rows L2
def GV(h:kV a=kV b):a=b:=by cases a<;>cases b<;>cases h<;>rfl
def Ha:∀{a b:List aI},a.map kV=b.map kV->a=b
 |[],[],_=>rfl
 |[],_::_,h=>by cases h
 |_::_,[],h=>by cases h
 |x::a,y::b,h=>by
  injection h with h1 h2
  rw[GV h1,Ha h2]
def Jc(h:zw (kV k) u):u.scannable=true:=by
 cases k with
 |inl i=>let#[t,rfl]:=h;rfl
 |inr x=>let#[t,rfl]:=h;rfl
def NO{α β:Type}{f:α->β}(z:∀a b,f a=f b->a=b){l m:List α}(h:(l.map f).Perm (m.map f)):l.Perm m:=by
 induction l generalizing m with
 |nil=>simp_all
 |cons a l v=>let#[b,B,e]:=qK.mp (h.mem_iff.mp (by simp:f a∈(a::l).map f));let:=z _ _ e;subst this;let#[m1,m2,rfl]:=append_of_mem B;show(List.Perm.cons b (v ?_)).trans perm_middle.symm;rw[map_append];rw[map_append,qy]at h;show(h.trans perm_middle).cons_inv
def uL(H:Hp)(vs:List V)(y:V)(b:Bool):Prop:=
 (∃(ks:List aI)(k:aI),vs=ks.map kV/\y=kV k/\(b=true↔k∈ks))\/
 ∃(ps:List (List aI×Addr))(k:List aI)(c:Addr),vs=ps.map (λp=>V.ref p.2)/\(∀p∈ps,H p.2=some (.tup (p.1.map kV)))/\y=.ref c/\H c=some (.tup (k.map kV))/\(b=true↔k∈ps.map (·.1))
def Hi(I:Inv X zH Z H s)(e:H a=some (.set vs)):s.TypeIs (.ref a) "set":=by
 rcases I.hok a _ e with⟨_,⟨_,h1⟩|⟨_,_,_,o,_,_,_,h1,h2,_⟩|⟨_,_,_,_,o,_,_,_,h1,h2,_⟩⟩
 .show#[_,h1,rfl]
 .show#[o,h1,h2.1]
 .show#[o,h1,h2.1]
def PY(I:Inv X zH Z H s){ks:List aI}(e:H a=some (.set vs))(B:vs=ks.map kV):∃xs:List (aI×Value),ks.Perm (xs.map (·.1))/\ST.VSet (ST.ldOf X.w) (aE X.prog X.w) s.heap a xs:=by
 rcases I.hok a _ e with⟨_,⟨F,h1⟩|⟨_,xs,p,V⟩|⟨z,xs,p,_,_⟩⟩
 .let:ks=[]:=by rw[F]at B;simpa using B.symm
  subst this;show#[[],.refl _,ST.vset_new h1]
 .show#[xs,NO (λ_ _=>GV) ?_,V];rw[B]at p;rw[qE];show p
 .exfalso;cases vs with
  |nil=>show z rfl
  |cons v vs=>grind[mem_map,mem_cons_self,kV]
def Jq(I:Inv X zH Z H s){ps:List (List aI×Addr)}(e:H a=some (.set vs))(B:vs=ps.map (λp=>V.ref p.2))(G:∀p∈ps,H p.2=some (.tup (p.1.map kV))):∃xs,ps.Perm xs/\ST.TSet (ST.ldOf X.w) (tupleKind (aE X.prog X.w)) s.heap a xs:=by
 rcases I.hok a _ e with⟨_,⟨h0,h1⟩|⟨J,xs,p,_⟩|⟨_,xs,p,L,T⟩⟩
 .let:ps=[]:=by rw[h0]at B;simpa using B.symm
  subst this;show#[[],.refl _,ST.tset_new h1]
 .exfalso;cases vs with
  |nil=>show J rfl
  |cons v vs=>
   let#[q,_,O]:=qK.mp (p.mem_iff.mp qm);let h1:v∈ps.map (λp=>V.ref p.2):=by rw[<-B];show qm
   let#[k,_,M]:=qK.mp h1;rw[<-O]at M;cases q with
   |mk q _=>cases q<;>cases M
 .show#[xs,?_,T.full λx F=>EM I.hok (L x F)];rw[B]at p
  --an address tells zL tuple
  let q:(ps.map (·.2)).Perm (xs.map (·.2)):=NO (f:=V.ref) (λ_ _ h=>by cases h;rfl) (by rw[qE,qE];show p)
  letI f:Addr->List aI×Addr:=λb=>(Classical.epsilon λks:List aI=>H b=some (HO.tup (ks.map kV)),b)
  let Y:∀p:List aI×Addr,H p.2=some (.tup (p.1.map kV))->f p.2=p:=λp h=>by let e:H p.2=some (.tup ((Classical.epsilon λks:List aI=>H p.2=some (HO.tup (ks.map kV))).map kV)):=Classical.epsilon_spec (p:=λks:List aI=>H p.2=some (HO.tup (ks.map kV))) #[p.1,h];grind[Prod.ext,Ha]
  let z:∀l:List (List aI×Addr),(∀p∈l,H p.2=some (.tup (p.1.map kV)))->(l.map (·.2)).map f=l:=λl h=>by rw[qE];show(map_congr_left λp G=>Y p (h p G)).trans (map_id _)
  let:=q.map f;rwa[z ps G,z xs L]at this
def Of(hu:A.units<cLine)(I:Inv X zH Z H s)(e:H a=some (.set vs))(hz:vs.length<=150)(g:uL H vs y b)(Y:zw y u)
  (h:∀s' r,Inv X zH Z (if b then H else upd H a (.set (vs++[y]))) s'->Q r s'):wpAny (model X.prog X.w) A (setAdd a u) Q E s:=by
 rcases g with⟨ks,k,F,rfl,J⟩|⟨ps,k,c,F,hp,rfl,hc,J⟩
 .obtain⟨xs,v,S⟩:=PY I e F;let hl:xs.length<=150:=by let:=v.length_eq;rw[qo]at this;rw[F,qo]at hz;lia
  show ST.setAddV (EK Y) (Jc Y) S hl (λB r=>h _ r ?_) λB h' ys O M L r=>h _ r ?_
  .rw[q4 (J.mpr (v.mem_iff.mpr B))];show I.kept λ_ _ z=>z
  .rw[q5 λz=>B (v.mem_iff.mp (J.mp z))];show FU I (by rw[e];show True.intro) O (let⟨o,_,_,_,ho,_⟩:=L;#[o,ho]) #[by rw[qq];show Nat.add_le_add_right hz 1,.inr (.inl #[by simp,ys,?_,L])];rw[F];let p1:=M.map (λp:aI×Value=>kV p.1);show(qN.trans ?_).trans p1.symm;show List.Perm.cons _ ?_;let:=v.map kV;rw[qE]at this;show this
 .cases(show u=Value.ref c from Y);let#[xs,v,S]:=Jq I e F hp;let hl:xs.length<=150:=by let:=v.length_eq;rw[F,qo]at hz;lia
  show ST.setAddT hu (EM I.hok hc) S hl (λB tk r _=>h _ r ?_) λB h' ys tk r O M L _=>h _ r ?_
  .rw[q4 (J.mpr ((v.map _).mem_iff.mpr B))];show I.kept λ_ _ z=>z
  .rw[q5 λz=>B ((v.map _).mem_iff.mp (J.mp z))];let G:∀d xs,H d=some (.tup xs)->upd H a (.set (vs++[V.ref c])) d=some (.tup xs):=λd xs z=>by rw[Ap (II z e (λw=>nomatch w))];exact z
   show FU I (by rw[e];show True.intro) O (let⟨o,_,_,_,ho,_⟩:=L;#[o,ho]) #[by rw[qq];show Nat.add_le_add_right hz 1,.inr (.inr #[by simp,ys,?_,λp h1=>?_,L.raw])]
   .rw[F];let p1:=M.map (λp:List aI×Addr=>V.ref p.2);show(qN.trans ?_).trans p1.symm;show List.Perm.cons _ (v.map _)
   .rcases qA.mp (M.mem_iff.mp h1)with rfl|z
    .show G _ _ hc
    .show G _ _ (hp p (v.mem_iff.mpr z))
section
variable{K:W.Frag}
def tK(p:List aI×Addr):D:=.tup (p.1.map aG)
theorem zbQ{a b:List aI}:D.tup (a.map aG)=D.tup (b.map aG)↔a=b:=#[λh=>by injection h with h;show GI h,λh=>by rw[h]]
def LK(r:aN K F x d)(h:aO true d=true):∃p:List aI×Addr,x=.ref p.2/\d=tK p/\F p.2=some (.tup (p.1.map kV)):=by
 cases r with
 |tup e r=>let#[ks,rfl,rfl]:=FX r h;show#[(ks,_),rfl,rfl,e]
 |_=>cases h
def Il(r:zF K F xs l):l.all (aO true)=true->∃ps:List (List aI×Addr),xs=ps.map (λp=>V.ref p.2)/\l=ps.map tK/\∀p∈ps,F p.2=some (.tup (p.1.map kV)):=
 zF.ind (P:=λxs l=>l.all (aO true)=true->∃ps:List (List aI×Addr),xs=ps.map (λp=>V.ref p.2)/\l=ps.map tK/\∀p∈ps,F p.2=some (.tup (p.1.map kV))) (λ_=>#[[],rfl,rfl,λ_ z=>nomatch z]) (λa _ v h=>by
  rw[all_cons,and_eq_true]at h;let#[p,rfl,rfl,e]:=LK a h.1;let#[ps,rfl,rfl,es]:=v h.2;show#[p::ps,rfl,rfl,λq B=>?_];rcases qA.mp B with rfl|z
  .show e
  .show es q z) r
def MS(h:slot U n=some s):U.set n (some s)=U:=by
 let h':=Kq h;apply ext_getElem?;intro j;by_cases v:n=j
 .subst v;rw[getElem?_set_self (qg.mp h').1,h']
 .rw[getElem?_set_ne v]
def PD(O:zr F H)(r:zF K F vs l)(Y:aN K F v d)(J:bX (d::l)=true):∃b,uL H vs v b/\cI l d=if b then l else l++[d]:=by
 unfold bX at J;rw[or_eq_true,all_cons,all_cons,and_eq_true,and_eq_true]at J;let B:∀p:Prop,(d∈l↔p)->∃b,(b=true↔p)/\cI l d=if b then l else l++[d]:=λp h=>by
  unfold cI;by_cases q:p
  .simp_all
  simp_all
 rcases J with⟨h1,h2⟩|⟨h1,h2⟩
 .obtain⟨k,rfl,rfl⟩:=FV Y h1;let#[ks,rfl,rfl]:=FX r h2;let#[b,L,e]:=B (k∈ks) (by rw[qK];show#[λ⟨j,G,z⟩=>ER z▸G,λz=>#[k,z,rfl]])
  show#[b,.inl #[ks,k,rfl,rfl,L],e]
 .obtain⟨p,rfl,rfl,ep⟩:=LK Y h1;let#[ps,rfl,rfl,M]:=Il r h2;let#[b,L,e]:=B (p.1∈ps.map (·.1)) (by rw[qK,qK];show#[λ⟨j,G,z⟩=>#[j,G,zbQ.mp z],λ⟨j,G,z⟩=>#[j,G,zbQ.mpr z]])
  show#[b,.inr #[ps,p.1,p.2,rfl,λq hq=>O _ _ (M q hq),rfl,O _ _ ep,L],e]
def Rel.sadd{D:Addr}(r:Rel K (U++[some s]) (Z++[some v]) F G H)(hs:slot U n=some (.set l))(J:Z[n]?=some (some (.ref D)))(M:bX (s.toD::l)=true):
  ∃vs b,H D=some (.set vs)/\vs.length=l.length/\uL H vs v b/\Rel K (U.set n (some (.set (cI l s.toD)))) Z F G (if b then H else upd H D (.set (vs++[v]))):=by
 let hl:=Af r;let rd:=r.drop hl;let#[fp,e,nd,ap]:=r.en;let#[f1,f2,rfl,a,b]:=e.cut hl;let#[v',fa,fi,fb,e1,rfl,q,up]:=a.at hs;rw[J]at e1;let e2:V.ref D=v':=↑e1
 subst e2;let sh:∃d,s=.sh d:=by
  cases s with
  |sh d=>show#[d,rfl]
  |lst l=>simp[bX,bK,aO]at M
  |dct t ks vs=>simp[bX,bK,aO]at M
  |set l=>simp[bX,bK,aO]at M
 let#[d,rfl]:=sh;rw[S.toD_sh]at M⊢;cases q with
 |st hD rl=>
  rename_i xs;cases b with
  |so sr nl=>
   cases nl;cases sr with
   |sh rv=>
    let#[b,sa,ea]:=PD r.fr rl rv M;show#[xs,b,hD,rl.len,sa,?_];rw[ea];cases b with
    |true=>simp;rw[MS hs];show rd
    |false=>
     simp;let B:(fa++([D]++fb)).Nodup:=↑nd
     let#[na,Y,h1]:=qw.mp B;let#[nD,nb]:=qL.mp Y;let h2:D∉fa:=λz=>h1 D z D qm rfl;let O:=ap D (by simp);let new:aK K F (upd H D (.set (xs++[v]))) (.ref D) (.set (l++[d])) [D]:=.st Bl (rl.append (.cons rv .nil));let a2:=up (F':=F) (H':=upd H D (.set (xs++[v]))) (o:=some (.set (l++[d]))) (u:=some (.ref D)) (zr.refl F) (λx L=>Ap λz=>(qx.mp L).elim (λw=>h2 (z▸w)) λw=>nD (z▸w)) (.so new .nil);rw[Hn J]at a2;show#[zr.updR r.fr O.1,λx o w=>?_,_,a2,B,λx L=>ap x ↑L];let L:x≠D:=λz=>by rw[z,O.2]at w;cases w
     rw[Ap L];show r.gr x o w
end
section
variable{D:Addr}
def SU(J:X.xe=λ_ _=>False)(hu:X.A.units+1<cLine)(h:FE X h4 we):kM X (eval h4 X.env>>=λv=>standAt p>>=λ_=>call (.builtin "set.add") [.ref D,v]>>=λ_=>pure ()) (pC X n D (mE n we)):=by
 intro zH s Z H Q I q;let#[F,G,U,P,h1,h2,hw,h3]:=q;let hp:PassesOwn (model X.prog X.w) X.A X.env X.xe:=by rw[J];show PassesOwn.never
 let Y:∀e s',X.xe e s'->False:=λe s' z=>by rw[J]at z;show z
 have he:=h X.pn X.xe hp zH s Z H (λv H1=>∃L U1 t l,zr F L/\Rel X.K (U1++[some t]) (Z++[some v]) L G H1/\slot U1 n=some (.set l)/\bX (t.toD::l)=true/\l.length<=150/\P (U1.set n (some (.set (cI l t.toD))))) I
  #[F,G,U,_,NX,h1,hw,λr U1 v L H1 B s1 M rv=>?_,IG]
 .show qa (zi he (λu s1 zq=>?_) λe s' z=>Y e s' z);let#[v,H1,I1,rv,L,U1,t,l,sm,M,hs,B,hz,hP]:=zq;let#[vs,b,hD,h5,sa,r2]:=Rel.sadd M hs h2 B;show qa (wpAny_standAt (qa (ST.call_add_of (Hi I1 hD) (Of hu I1 hD ∅ sa rv λs' _ I'=>?_))));show qb #[Z,_,I',h3 _ Z L _ hP KP.refl sm r2]
 .obtain⟨⟨t,O⟩,eg,B⟩:=Aq B;let#[F2,s2,l2,r2]:=AG (U':=[]) (Z':=[]) M (Af M) rv eg;split at B
  .rename_i l e;show#[F2,O,t,l,s1.trans s2,r2,e,B.1,B.2.1,B.2.2]
  .show B.elim
end
section
variable{X:Cx}
def QL(H:Hp)(h:Heap)(_:sysModules<h.objs.size):zG X.prog X.w H (h.push (ST.freshSet (ST.ldOf X.w))) h.objs.size (.set []):=#[zero_le _,.inl #[rfl,qd _ rfl]]
def Ou(F H:Hp)(p:Addr)(e:H p=some (.set [])):aK X.K F H (.ref p) (.set []) [p]:=.st e .nil
set_option maxHeartbeats 4000000 in
def OE(hn:X.N.length=n)(hu:X.A.units+1<cLine)(hm:X.A.mark none=X.A)(hc:X.calm=true)(Sc:bS X.env.scope scope X.N vars)(hk:vars.length=k)(hi:FI X tg iter wi)
  (hg:∀s H ex,FG (aB X scope vars s H ex) (List.range (n+1)) tg g)(ht:∀s H ex,fU (aB X scope vars s H ex) B (hU (aB X scope vars s H ex) wc))
  (uC:∀s H ex,FI (aB X scope vars s H ex) v iter2 L)(h3:∀s H ex,FG (aB X scope vars s H ex) (List.range (n+1)) v g2)(Y:∀s H ex,fU (aB X scope vars s H ex) ifs2 (hU (aB X scope vars s H ex) M))
  (he:∀s H ex,FE (aB X scope vars s H ex) J we)
  (hs:∀x,foldedSetIterable iter X.env x=pure x:=by intro _;rfl)(h1:∀env x,foldedSetIterable iter2 env x=pure x:=by intro _ _;rfl):FE X (.SetComp J [#[tg,iter,B,0],#[v,iter2,ifs2,0]] scope pos) (zQ (.set []) n k wi g wc (kQ L g2 M (mE n we))):=by
 subst hn;intro pn xe hp zH s Z H Q I q;let#[F,G,U,P,PX,O,hw,h2,hx]:=q;show Ii (ty:="set") (dat:=.set #[] 0 (.fresh 0 0 (ST.ldOf X.w))) (λA E s Q h=>ST.newSet_ok h) (s0:=.set []) (o0:=.set []) QL Ou rfl hs Sc hk hi (λs H ex D=>?_) (λ_ _ _=>rfl) (λ_ _ _=>rfl) (λ_ _ _=>rfl) (λ_ _ _=>#[_,rfl]) hp I O hw hx (Jw h2);let z:gP (aB X scope vars s H ex) (.SetComp J [#[tg,iter,B,0],#[v,iter2,ifs2,0]] scope pos) 1 (.ref D) v _:=
  GK (X:=aB X scope vars s H ex) hc rfl (h3 s H ex [] (λ_ _=>False) PassesOwn.never) (Y s H ex) (λ_=>(SU (X:=aB X scope vars s H ex) (n:=X.N.length) rfl hu (he s H ex)).f) (λ_=>rfl) (λ_=>rfl) (λ_=>rfl) (λ_=>rfl)
 show GK (X:=aB X scope vars s H ex) hc rfl (hg s H ex [] (λ_ _=>False) PassesOwn.never) (ht s H ex) (λ_=>MV (X:=aB X scope vars s H ex) rfl (uC s H ex) z (h1 _) hm (λ_=>rfl) (λ_=>rfl) (λ_=>rfl) (λ_=>#[_,rfl])) (λ_=>rfl) (λ_=>rfl) (λ_=>rfl) (λ_=>rfl)
end
def kf(p:List aI×Addr):List aI:=p.1
section
variable(X:Cx)(s:Shared)
@[inline]def JK(ks:List aI)(i:Nat)(h:Heap):Prop:=(∀b o,s.heap.get? b=some o->h.get? b=some o)/\∃xs:List (aI×Value),(fW id (ks.take i)).Perm (xs.map (·.1))/\ST.VSet (ST.ldOf X.w) (aE X.prog X.w) h s.heap.objs.size xs/\(i=0->h.get? s.heap.objs.size=some (ST.freshSet (ST.ldOf X.w)))
@[inline]def JT(ps:List (List aI×Addr))(i:Nat)(h:Heap):Prop:=(∀b o,s.heap.get? b=some o->h.get? b=some o)/\∃xs:List (List aI×Addr),(fW kf (ps.take i)).Perm xs/\ST.TRaw (ST.ldOf X.w) (tupleKind (aE X.prog X.w)) h s.heap.objs.size xs/\(i=0->h.get? s.heap.objs.size=some (ST.freshSet (ST.ldOf X.w)))
def JK.stay{ks:List aI}{i:Nat}{h h':Heap}(x:JK X s ks i h)(v:∀b o,b≠s.heap.objs.size+1->h.get? b=some o->h'.get? b=some o):JK X s ks i h':=by let#[k,xs,p,#[o,es,ep,t,G,r],z]:=x;let B:s.heap.objs.size≠s.heap.objs.size+1:=ne_of_lt (lt_succ_self _);show#[λb o e=>v b o (ne_of_lt (lt_succ_of_lt (ST.lt_of_get e))) (k b o e),xs,p,#[o,es,ep,t,v _ _ B G,r],λF=>v _ _ B (z F)]
def JT.stay{ps:List (List aI×Addr)}{i:Nat}{h h':Heap}(x:JT X s ps i h)(v:∀b o,b≠s.heap.objs.size+1->h.get? b=some o->h'.get? b=some o):JT X s ps i h':=by let#[k,xs,p,#[o,es,ep,t,G,r],z]:=x;let B:s.heap.objs.size≠s.heap.objs.size+1:=ne_of_lt (lt_succ_self _);show#[λb o e=>v b o (ne_of_lt (lt_succ_of_lt (ST.lt_of_get e))) (k b o e),xs,p,#[o,es,ep,t,v _ _ B G,r],λF=>v _ _ B (z F)]
end
def GR:bootBuiltins "set"=some (.type "set"):=by decide+kernel
def Va:isSubtype (.type "tuple") (.type "set")=pure false:=by rw[isSubtype_type];kernel_rfl
def UW:isSubtype (.type "tuple") (.type "frozenset")=pure false:=by rw[isSubtype_type];kernel_rfl
theorem TL(hh:A.handled=none)(hu:A.units+20<cLine)(I:Inv X zH Z H s)(hT:s.TypeIs x T)(h3:isSubtype (.type T) (.type "set")=pure false)(h2:isSubtype (.type T) (.type "frozenset")=pure false)(h4:(Value.type T==Value.type "dict")=false)
  (W:ST.WalkOk X.prog X.w s x F.toArray.size (λi v=>F.toArray[i]?=some v))(rv:zE (ks.map kV) F)(hz:ks.length<=150)
  (h:∀s',Inv X zH Z (upd H s.heap.objs.size (.set ((fW id ks).map kV))) s'->Q (.ref s.heap.objs.size) s'):wpAny (model X.prog X.w) A (call (.type "set") [x]) Q E s:=by
 let hl:F.toArray.size=ks.length:=by rw[qr,<-rv.length,qo]
 refine ST.call_set (B:=A.units+20) (J:=JK X s ks) hh hT h3 h2 h4 W (λh e k=>#[k,[],.refl _,ST.vset_new e,λ_=>e]) (λi h h' hi x hk=>JK.stay X s x hk)
  (λA i v s' Q E hi hP⟨O,xs,p,S,z⟩ hQ hA=>?_) (q8 _) λh' tk⟨O,xs,p,S,z⟩ _ ht=>h _ ?_
 .rw[hl]at hi;let#[u,h6,ru]:=rv.get (i:=i) (x:=kV ks[i]) (by rw[qF,qh hi];rfl);let hv:v=u:=by grind
  subst hv;let h5:xs.length<=150:=by let h1:=p.length_eq;grind[Ga,length_map,fW,bG,length_take,length_nil]
  let Y:∀{h':Heap},Heap.SameBut s.heap.objs.size s'.heap h'->∀b o,s.heap.get? b=some o->h'.get? b=some o:=λM b o e=>(M.2 b (ne_of_lt (ST.lt_of_get e))).trans (O b o e);let L:=JC (id:aI->aI) hi;show ST.setAddV (EK ru) (Jc ru) S h5 (λhm r=>hQ s'.heap _ r (le_succ _) (Heap.SameBut.refl _ _) #[O,xs,?_,S,λz=>nomatch z]) λhm h' ys M pm S' r=>hQ h' _ r (le_succ _) M #[Y M,ys,?_,S',λz=>nomatch z]
  .rw[L];unfold bG;grind
  .rw[L];unfold bG;rw[map_id,q5 (show¬id ks[i]∈fW id (ks.take i) from λz=>hm (p.mem_iff.mp z))];show(qN.trans (List.Perm.cons _ p)).trans (pm.map (·.1)).symm
 .rw[hl,take_length]at p;refine I.laid (t':=tk) O (q8 _) #[?_,?_]
  .grind[length_map,Ga,fW,bG,length_nil]
  .cases ks with
   |nil=>show .inl #[rfl,z hl]
   |cons y ks=>
    show .inr (.inl #[λe=>?_,xs,?_,S])
    .have h1:∀(l G:List aI),G≠[]->l.foldl (bG id) G≠[]:=λl=>by
      induction l with
      |nil=>show λ_ h=>h
      |cons i l ih=>
       show λG h=>ih _ ?_;unfold bG;split
       .show h
       .simp
     show h1 ks (bG id [] y) (by unfold bG;simp) (map_eq_nil_iff.mp e)
    .let:=p.map kV;rw[qE]at this;show this
theorem SE(hh:A.handled=none)(hu:A.units+20<cLine)(I:Inv X zH Z H s)(hT:s.TypeIs x T)(h9:isSubtype (.type T) (.type "set")=pure false)(h8:isSubtype (.type T) (.type "frozenset")=pure false)(e1:(Value.type T==Value.type "dict")=false)
  (W:ST.WalkOk X.prog X.w s x F.toArray.size (λi v=>F.toArray[i]?=some v))(rv:zE (ps.map λp=>V.ref p.2) F)(hp:∀p∈ps,H p.2=some (.tup (p.1.map kV)))(hz:ps.length<=150)
  (h:∀s',Inv X zH Z (upd H s.heap.objs.size (.set ((fW kf ps).map λp=>V.ref p.2))) s'->Q (.ref s.heap.objs.size) s'):wpAny (model X.prog X.w) A (call (.type "set") [x]) Q E s:=by
 let hl:F.toArray.size=ps.length:=by rw[qr,<-rv.length,qo]
 let M:∀{h:Heap},(∀b o,s.heap.get? b=some o->h.get? b=some o)->∀p∈ps,IsTupleKey (aE X.prog X.w) h p.1 p.2:=λk p O=>by let#[o,F,n,h1,r]:=EM I.hok (hp p O);show#[o,F,n,k _ _ h1,r]
 have h6:∀{h:Heap}{i:Nat}{xs:List (List aI×Addr)},(∀b o,s.heap.get? b=some o->h.get? b=some o)->(fW kf (ps.take i)).Perm xs->∀p∈xs,IsTupleKey (aE X.prog X.w) h p.1 p.2:=λk pm p O=>by
  rcases GF kf (pm.mem_iff.mpr O)with z|z
  .cases z
  .show M k p (mem_of_mem_take z)
 refine ST.call_set (B:=A.units+20) (J:=JT X s ps) hh hT h9 h8 e1 W (λh e k=>#[k,[],.refl _,(ST.tset_new e).raw,λ_=>e]) (λi h h' hi x hk=>JT.stay X s x hk)
  (λA i v s' Q E hi hP⟨L,xs,p,S,z⟩ hQ hA=>?_) (q8 _) λh' tk⟨L,xs,p,S,z⟩ _ ht=>h _ ?_
 .rw[hl]at hi;let#[u,h7,ru]:=rv.get (i:=i) (x:=V.ref ps[i].2) (by rw[qF,qh hi];rfl);let hv:v=u:=by rw[List.getElem?_toArray,h7]at hP;exact(qf hP).symm
  subst hv;cases(show v=Value.ref ps[i].2 from ru);let e2:xs.length<=150:=by let h1:=p.length_eq;let h2:=Ga kf (ps.take i) [];let h3:(fW kf (ps.take i)).length=((ps.take i).foldl (bG kf) []).length:=rfl;rw[qH,qv]at h2;lia
  let h5:∀{h':Heap},Heap.SameBut s.heap.objs.size s'.heap h'->∀b o,s.heap.get? b=some o->h'.get? b=some o:=λsb b o e=>(sb.2 b (ne_of_lt (ST.lt_of_get e))).trans (L b o e);let h4:=JC kf hi;show ST.setAddT ∅ (M L ps[i] (getElem_mem hi)) (S.full (h6 L p)) e2 (λhm tk r ht=>hQ s'.heap _ r ht (Heap.SameBut.refl _ _) #[L,xs,?_,S,λz=>nomatch z]) λhm h' ys tk r sb pm S' ht=>hQ h' _ r ht sb #[h5 sb,ys,?_,S'.raw,λz=>nomatch z]
  .rw[h4];unfold bG;rw[q4 (show kf ps[i]∈_ from(p.map kf).mem_iff.mpr hm)];show p
  .rw[h4];unfold bG;rw[q5 (show¬kf ps[i]∈_ from λz=>hm ((p.map kf).mem_iff.mp z))];show(qN.trans (List.Perm.cons _ p)).trans pm.symm
 .rw[hl,take_length]at p;let Y:∀d xs,H d=some (HO.tup xs)->upd H s.heap.objs.size (.set ((fW kf ps).map λp=>V.ref p.2)) d=some (.tup xs):=λd xs z=>by rw[Ap (DZ z I.fresh)];exact z
  show I.laid (t':=tk) L (q8 _) #[?_,?_]
  .rw[qo];let:=Ga kf ps [];let h3:(fW kf ps).length=(ps.foldl (bG kf) []).length:=rfl;rw[qv]at this;lia
  .cases ps with
   |nil=>show .inl #[rfl,z hl]
   |cons y ps=>
    show .inr (.inr #[λe=>?_,xs,p.map _,λq O=>?_,S])
    .have h1:∀(l G:List (List aI×Addr)),G≠[]->l.foldl (bG kf) G≠[]:=λl=>by
      induction l with
      |nil=>show λ_ h=>h
      |cons i l ih=>
       show λG h=>ih _ ?_;unfold bG;split
       .show h
       .simp
     show h1 ps (bG kf [] y) (by unfold bG;simp) (map_eq_nil_iff.mp e)
    .rcases GF kf (p.mem_iff.mpr O)with z|z
     .cases z
     .show Y _ _ (hp q z)
def sA(K:W.Frag):List V->Hp->VK->Prop:=λxs H Q=>∃a vs,xs=[.ref a]/\(bO K H a vs\/bN K H a vs)/\vs.length<=150/\
 ((∃ks:List aI,vs=ks.map kV/\∀p,H p=none->Q (.ref p) (upd H p (.set ((fW id ks).map kV))))\/
  ∃ps:List (List aI×Addr),vs=ps.map (λp=>V.ref p.2)/\(∀p∈ps,H p.2=some (.tup (p.1.map kV)))/\∀p,H p=none->Q (.ref p) (upd H p (.set ((fW kf ps).map λp=>V.ref p.2))))
def TC(J:bM k X.A):aY X (.type "set") (sA X.K):=by
 intro zH s Z H xs us Q I r h;let#[a,vs,rfl,G,O,h]:=h;let Y:X.A.units+20<cLine:=by let:=J.units;lia
 cases r with
 |cons r1 r2=>
  cases r2;cases r1;let go:∀{T:String}{z:List Value},s.TypeIs (.ref a) T->isSubtype (.type T) (.type "set")=pure false->isSubtype (.type T) (.type "frozenset")=pure false->(Value.type T==Value.type "dict")=false->ST.WalkOk X.prog X.w s (.ref a) z.toArray.size (λi v=>z.toArray[i]?=some v)->zE vs z->
    wpAny (model X.prog X.w) X.A (call (.type "set") [.ref a]) (EP X zH Z Q) X.xe s:=λ{T z} hT h1 h2 h3 W B=>by
   rcases h with⟨ks,rfl,q⟩|⟨ps,rfl,hp,q⟩
   .show TL J.hd Y I hT h1 h2 h3 W B ↑O λs' L=>#[.ref _,_,L,rfl,q _ I.fresh]
   .show SE J.hd Y I hT h1 h2 h3 W B hp ↑O λs' L=>#[.ref _,_,L,rfl,q _ I.fresh]
  rcases G with G|G
  .obtain⟨z,B,M,_⟩:=I.list G;show go M.isList.typeIs F.sub_list_set F.sub_list_frozenset ⋯ (ST.walk_list M.isList) B
  .obtain⟨z,B,⟨o,e,c,n,d⟩,_⟩:=I.tuple G;let ht:s.heap.IsTuple a z.toArray:=#[o,e,c,n,d]
   show go #[o,e,c] Va UW ⋯ (ST.walk_tuple ht) B
section
variable{K:W.Frag}
def zF.of_all{ι:Type}{v:ι->V}{z:ι->D}:∀{l:List ι},(∀i∈l,aN K F (v i) (z i))->zF K F (l.map v) (l.map z)
 |[],_=>.nil
 |i::l,h=>.cons (h i qm) (zF.of_all λj B=>h j (qk _ B))
def zF.to_all{ι:Type}{v:ι->V}{B:ι->D}:∀{l:List ι},zF K F (l.map v) (l.map B)->∀i∈l,aN K F (v i) (B i)
 |[],_,_,h=>nomatch h
 |j::l,.cons a b,i,h=>by
  rcases qA.mp h with rfl|z
  .show a
  .show zF.to_all b i z
def Rel.newS{p:Addr}(v:Rel K U Z F G H)(z:H p=none)(r:zF K F vs l):Rel K (U++[some (.set l)]) (Z++[some (.ref p)]) F G (upd H p (.set vs)):=v.newO z (.st Bl r)
def RZ:cJ K (sA K) jG:=by
 intro Z U F G H vs ds s Q B Y e O;let#[d,v,rfl,rfl]:=BK (λx y r=>by cases x<;>rfl) rfl Y e;let J:∀{a:Addr}{xs:List V}{l:List D},(bO K H a xs\/bN K H a xs)->zF K F xs l->newS l=some s->sA K [.ref a] H Q:=λ{a xs l} h2 r e=>by
  unfold newS at e;split at e
  .rename_i hc;cases e;show#[a,xs,rfl,h2,by rw[r.len];show hc.2,?_];let L:=hc.1;unfold bX at L;rw[or_eq_true]at L;rcases L with L|L
   .obtain⟨ks,rfl,rfl⟩:=FX r L;show .inl #[ks,rfl,λp M=>?_];rw[Jg id (f:=aG) λi j=>#[ER,λz=>by rw[show i=j from z]]]at O;show O _ F _ (zr.refl F) (B.newS M (zF.of_all λi hi=>zF.to_all r i ?_));rcases GF id hi with z|z
    .cases z
    .show z
   .obtain⟨ps,rfl,rfl,hf⟩:=Il r L;show .inr #[ps,rfl,λp M=>B.fr _ _ (hf p M),λp M=>?_];rw[Jg kf (f:=tK) λi j=>zbQ]at O;show O _ F _ (zr.refl F) (B.newS M (zF.of_all λi hi=>zF.to_all r i ?_));rcases GF kf hi with z|z
    .cases z
    .show z
  .cases e
 cases d with
 |lst l=>let#[a,xs,rfl,h1,r1]:=Y.1.lst B.fr;show J (.inl h1) r1 e
 |tup l=>let#[a,xs,rfl,h1,r1]:=Y.1.tup;show J (.inr (bN.of (B.fr _ _ h1))) r1 e
 |_=>cases e
def Jn(F:bM k X.A)(J:Gl X "set")(G:X.mg "set"=none)(B:bootBuiltins "set"=some (.type "set"))(M:FA X (e::es) z)(L:starEach (e::es) X.env=(false,eval e X.env)::starEach es X.env:=by rfl)(v:(backTo pos (starEach es X.env)).any (·.1)=false:=by rfl):FE X (.Call (.Name "set" p) (e::es) [] pos) (wB jG z):=
 Hj (λpn xe=>TC (X:=wp X pn xe) F) RZ J G B M ⋯ ⋯ L v
def pH(K:W.Frag):List V->Hp->VK->Prop:=λxs H Q=>(∃a vs,xs=[.ref a]/\H a=some (.set vs)/\Q (.int vs.length) H)\/sF K xs H Q
def Tq:aY X (.builtin "len") (pH X.K):=λzH s Z H xs G Q I r h=>by
 rcases h with⟨a,F,rfl,e,q⟩|h
 .cases r with
  |cons L J=>
   cases J;cases L;let v:∀n:Nat,n=F.length->∀t,EP X zH Z Q (.int n t) {s with toks:=s.toks+1+1}:=λn M t=>#[.int n,H,I.kept λ_ _ z=>z,#[t,rfl],by rw[M];show q]
   rcases I.hok a _ e with⟨Y,⟨O,h1⟩|⟨_,xs,p,S⟩|⟨_,xs,p,_,S⟩⟩
   .show ST.VSet.len (K:=aI) (knd:=aE X.prog X.w) (ST.vset_new h1) (zero_le _) (v 0 (by rw[O];rfl) _)
   .let B:=p.length_eq;rw[qo]at B;show ST.VSet.len S ∅ (v _ B.symm _)
   .let B:=p.length_eq;rw[qo]at B;show ST.TRaw.len S ∅ (v _ B.symm _)
 .show MO zH s Z H xs G Q I r h
def bE.set(r:bE K F H v (.set l)):∃a xs,v=.ref a/\F a=some (.set xs)/\zF K F xs l:=by
 rcases r with r|⟨_,_,_,_,e,_⟩|⟨_,_,_,_,_,e,_⟩|⟨_,_,_,_,_,e,_⟩
 .cases r with
  |st e r=>show#[_,_,rfl,e,r]
 .cases e
 .cases e
 .cases e
def Us:cJ K (pH K) iI:=by
 intro Z U F G H M O s Q z B e J;let#[d,v,rfl,rfl]:=BK (λx y r=>by cases x<;>rfl) rfl B e;cases d with
 |set l=>cases e;let#[a,xs,rfl,h1,L]:=bE.set B.1;show .inl #[a,xs,rfl,z.fr _ _ h1,by rw[L.len];show J _ F H (zr.refl F) (z.push (.int _))]
 |_=>show .inr (MU Z U F G H [v] _ s Q z B e J)
def LL(F:Gl X "len")(B:X.mg "len"=none)(J:FA X (e::es) z)(G:starEach (e::es) X.env=(false,eval e X.env)::starEach es X.env:=by rfl)(v:(backTo pos (starEach es X.env)).any (·.1)=false:=by rfl):FE X (.Call (.Name "len" p) (e::es) [] pos) (wB iI z):=
 Hl (λ_ _=>Tq) Us F B PySem.boot_len J ⋯ ⋯ G v
end
def Jk:∀l:List Nat,(∀x∈l,p x=true->q x=true)->l.countP p<=l.countP q
 |[],_=>q8 _
 |a::l,h=>by
  rw[countP_cons,countP_cons];let:=Jk l λx v=>h x (qk _ v);cases e:p a with
  |true=>rw[h a qm e];lia
  |false=>simp;lia
def LP:∀l:List Nat,(∀x∈l,p x=true->q x=true)->(∃x,x∈l/\q x=true/\p x=false)->l.countP p<l.countP q
 |[],_,z=>by let#[_,z,_]:=z;cases z
 |a::l,h,z=>by
  rw[countP_cons,countP_cons];let#[x,v,B,F]:=z;by_cases e:x=a
  .subst e;let:=Jk l λx v=>h x (qk _ v);rw[B];lia
  .let:=LP l (λx v=>h x (qk _ v)) #[x,(qA.mp v).resolve_left e,B,F];cases e:p a with
   |true=>rw[h a qm e];lia
   |false=>simp;lia
def vQ(l:List D)(i:Nat):Int:=((List.range l.length).countP λj=>!dQ (l.getD i .non) (l.getD j .non):Nat)
def Pj(o:eQ P)(O:∀d∈l,P d)(hi:i<l.length)(M:j<l.length):decide (vQ l i<vQ l j)=!dQ (l.getD j .non) (l.getD i .non):=by
 let v:∀k,k<l.length->P (l.getD k .non):=λk G=>by grind
 let B:=v i hi;let L:=v j M;unfold vQ;cases e:dQ (l.getD j .non) (l.getD i .non)with
 |false=>
  show qR (Int.ofNat_lt.mpr (LP _ (λk G h=>?_) #[i,qJ.mpr hi,by rw[e];rfl,?_]))
  .have J:=v k (qJ.mp G);cases q:dQ (l.getD j .non) (l.getD k .non)with
   |false=>rfl
   |true=>
    let F:dQ (l.getD i .non) (l.getD k .non)=false:=↑h
    rcases o.tot _ _ B L with z|z
    .rw[o.tr _ _ _ B L J z q]at F;cases F
    .rw[z]at e;cases e
  .rcases o.tot _ _ B B with z|z<;>rw[z]<;>rfl
 |true=>
  refine qS λh=>?_;let:=Jk (p:=λk=>!dQ (l.getD j .non) (l.getD k .non)) (q:=λk=>!dQ (l.getD i .non) (l.getD k .non)) (List.range l.length) λk G h=>by
   let J:=v k (qJ.mp G);cases q:dQ (l.getD i .non) (l.getD k .non)with
   |false=>rfl
   |true=>rw[o.tr _ _ _ L B J e q]at h;cases h
  lia
section
open PySem.W HT
theorem Vf{ks F:List aI}(i:Nat)(r:zE (ks.map kV) us)(L:zE (F.map kV) vs)(h:dY sh (ks.map aG))(h':dY sh (F.map aG))(B:Q (aR (ks.map aG) (F.map aG)==.lt) s):KatLex prog w A b (decide (ks.length<F.length)) Q (us.zip vs) i s:=by
 induction ks generalizing us vs F i sh with
 |nil=>
  let e:F=[]:=by simpa using FY h h'
  subst e;cases r;show kat_nil B
 |cons k ks O=>cases F with
  |nil=>have e:=FY (m:=(k::ks).map aG) h' h;cases e
  |cons j F=>
   rw[qy,qy]at B;let#[kd,h3,h1,h2]:=Ip h h';let e:decide ((k::ks).length<(j::F).length)=decide (ks.length<F.length):=decide_eq_decide.2 Nat.succ_lt_succ_iff;rw[e];cases r with
   |@cons _ u _ us M r=>
    cases L with
    |@cons _ v _ vs J L=>
     cases k with
     |inl n=>
      let#[t,rfl]:=M;cases j with
      |inr y=>rcases kd with⟨_,_,_,z⟩|⟨_,_,z,_⟩<;>cases z
      |inl m=>
       let#[Y,rfl]:=J;show kat_cons (wpAny_eqBool_int ?_);let B:Q ((match bR (D.int n) (D.int m)with|.eq=>aR (ks.map aG) (F.map aG)|o=>o)==.lt) s:=B;rw[Hf]at B;by_cases nm:n=m
       .subst nm;rw[q5 (Int.lt_irrefl n),q5 (Int.lt_irrefl n)]at B;rw[show(n==n)=true by simp];show kat_yes (O (i+1) r L h1 h2 B)
       .rw[show(n==m)=false by simp[nm]];let G:Q (decide (n<m)) s:=by
         by_cases z:n<m
         .rw[q4 z]at B;rw[qR z];show B
         .rw[q5 z,q4 ∅]at B;rw[qS z];show B
        show kat_no ?_;cases(b&&i==0)with
        |true=>show oneLt_int G
        |false=>show kat_one _ _ (PyProof.Rows.lt_int G)
     |inr x=>
      let#[t,rfl]:=M;cases j with
      |inl y=>rcases kd with⟨_,_,z,_⟩|⟨_,_,_,z⟩<;>cases z
      |inr y=>
       let#[Y,rfl]:=J;show kat_cons (wpAny_eqBool_str ?_);let B:Q ((match bR (D.str x.cps.toList) (D.str y.cps.toList)with|.eq=>aR (ks.map aG) (F.map aG)|o=>o)==.lt) s:=B;rw[Ij]at B;by_cases nm:x=y
       .subst nm;rw[q5 (List.lt_irrefl _),q5 (List.lt_irrefl _)]at B;rw[qR rfl];show kat_yes (O (i+1) r L h1 h2 B)
       .rw[qS nm];let G:Q (decide (x.cps.toList<y.cps.toList)) s:=by
         rcases SD x.cps.toList y.cps.toList with z|z|z
         .rw[q4 z]at B;rw[qR z];show B
         .rw[q5 (lt_asymm z),q4 z]at B;rw[qS (lt_asymm z)];show B
         .show absurd (ER (a:=.inr x) (b:=.inr y) (by show D.str _=D.str _;rw[z])) (λe=>nm (by cases e;rfl))
        show kat_no ?_;cases(b&&i==0)with
        |true=>show oneLt_str G
        |false=>show kat_one _ _ (PyProof.Rows.lt_str G)
def kS(h:Heap)(b:Addr)(ks:List aI):Prop:=∃us,zE (ks.map kV) us/\IsTup h b us.toArray
def CH:∀{ps:List (List aI×Addr)},(∀p∈ps,kS h p.2 p.1/\dY (t::sh) (p.1.map aG))->∃fs:List Value,KatTups h (ps.map λp=>Value.ref p.2) fs/\fs.length=ps.length/\∀v∈fs,if t then∃z u,v=Value.str z u else∃z u,v=Value.int z u
 |[],_=>#[[],.nil,rfl,λ_ z=>nomatch z]
 |(ks,b)::ps,hp=>by
  let#[fs,M,L,J]:=CH (ps:=ps) λp Y=>hp p (qk _ Y);let#[#[G,r,o,e,c,n,d],B]:=hp (ks,b) qm;cases ks with
  |nil=>cases t<;>show B.elim
  |cons k ks=>
   cases r with
   |@cons _ u _ G F r=>
    show#[u::fs,.cons e c d rfl M,by simp[L],λv O=>?_];rcases qA.mp O with z|z
    .subst z;cases t
     .cases k with
      |inl i=>let#[tk,rfl]:=F;show#[_,_,rfl]
      |inr x=>show B.elim
     .cases k with
      |inl i=>show B.elim
      |inr x=>let#[tk,rfl]:=F;show#[_,_,rfl]
    .show J v z
end
def Inv.laidD(I:Inv X zH Z H s)(hn:∀m,s.heap.Ns X.env.locals m->h'.Ns X.env.locals m)(k:∀b u,b≠X.env.locals->s.heap.get? b=some u->h'.get? b=some u)
  (L:s.heap.get? a=none)(new:zG X.prog X.w (upd H a o) h' a o):Inv X zH Z (upd H a o) {s with heap:=h',toks:=t',drawn:=d'}:=by
 have F:H a=none:=by
  cases e:H a with
  |none=>rfl
  |some u=>let#[v,z]:=zG.there (I.hok a u e);rw[L]at z;cases z
 refine I.step (g':=s.gens) (d':=d') (ch:=[]) (λ_ z=>nomatch z) (λb B J _ _ e _=>k b B J e) (λb B J _ _ e _=>#[B.slots,k b B J e]) (λb B _ e n=>by rw[Ap (λz=>by rw[z,L]at e;cases e)];show n)
  (λb B _ e=>?_) (λb xs q=>by rw[Ap (DZ q F)];show q) (λb u xs q=>by rw[Ap (DZ q F)];show q) (λb ps q=>#[#[],by rw[Ap (DZ q F),q];simp]) hn (λb B e=>?_) I.bare
 .by_cases G:b=X.env.locals
  .obtain⟨m,x,_⟩:=I.loc;let#[o',_,_,O,_]:=hn m x;show#[o',by rw[G];show O]
  .show#[B,k b B G e]
 .by_cases G:b=a
  .grind[Bl]
  .rw[Ap G]at e;show(I.hok b B e).stay (λc v M q=>k c v (λz=>?_) q) (λc q=>by rw[Ap (DZ q F)];show q) λc xs q=>by rw[Ap (DZ q F)];exact q
   rw[z]at M;rcases M with r|r
   .rw[<-r,I.free]at e;cases e
   .rw[I.free]at r;cases r
def Rf(h:fO k v=true):zw (kV k) v:=by
 rcases EO h with⟨i,t,rfl,rfl⟩|⟨x,t,rfl,rfl⟩
 .show#[t,rfl]
 .show#[t,rfl]
def Nt(r:zE xs ys)(p:z.Perm ys):∃us,us.Perm xs/\zE us z:=by
 induction p generalizing xs with
 |nil=>cases r;show#[[],.refl _,.nil]
 |cons x _ J=>
  cases r with
  |cons v r=>let#[us,p,q]:=J r;show#[_::us,.cons _ p,.cons v q]
 |swap x y l=>
  cases r with
  |cons v r=>
   cases r with
   |cons B r=>show#[_,.swap _ _ _,.cons B (.cons v r)]
 |trans _ _ G F=>grind
def xJ(X:Cx)(s:Shared)(a:Addr)(vs:List V):Prop:=∃es ep t us,ST.SetAt s.heap a es ep t/\ST.Rising t.place/\t.place.size=es.size/\(X.w.params.followText "set-order"=false->t.led=true)/\us.Perm vs/\zE us (es.toList.map (·.2))/\es.size=vs.length
def Lb(I:Inv X zH Z H s)(e:H a=some (.set vs)):xJ X s a vs:=by
 let led:∀{t:SetTable},t.led=ST.ldOf X.w->X.w.params.followText "set-order"=false->t.led=true:=λe h=>by rw[e];unfold ST.ldOf;rw[h];rfl
 have L:∀{xs:List (aI×Value)},ST.VSet (ST.ldOf X.w) (aE X.prog X.w) s.heap a xs->vs.Perm (xs.map λp=>kV p.1)->xJ X s a vs:=λ{xs} S p=>by
  let#[es,ep,t,h1,h2,J,G,v]:=S.at;let z:∀p∈xs,(aE X.prog X.w).is p.1 p.2=true/\p.2.scannable=true:=let⟨_,_,_,_,_,_,_,_,_,z,_⟩:=S;z
  have O:zE (xs.map λp=>kV p.1) (es.toList.map (·.2)):=by
   rw[v]
   clear v p S
   induction xs with
   |nil=>show .nil
   |cons x xs B=>show .cons (Rf (z x qm).1) (B λq Y=>z q (qk _ Y))
  let hl:es.size=vs.length:=by let:=congrArg List.length v;rw[qo,qo,qV]at this;rw[p.length_eq,qo,this]
  show#[es,ep,t,_,h1,h2,J,led G,p.symm,O,hl]
 rcases I.hok a _ e with⟨hz,⟨h0,h1⟩|⟨_,xs,p,S⟩|⟨_,xs,p,M,S⟩⟩
 .show L (xs:=[]) (ST.vset_new h1) (by rw[h0];show .refl _)
 .show L S p
 .obtain⟨es,ep,t,h1,h2,J,G,v⟩:=(S.full λx F=>EM I.hok (M x F)).at;refine#[es,ep,t,xs.map λp=>V.ref p.2,h1,h2,J,led G,p.symm,?_,?_]
  .rw[v]
   clear v p S M
   induction xs with
   |nil=>show .nil
   |cons x xs B=>show .cons rfl B
  .let:=congrArg List.length v;rw[qo,qo,qV]at this;rw[p.length_eq,qo,this]
def Sn{α:Type}{l m:List α}(p:l.Perm m)(h:m.length<2):l=m:=by
 match m,h with
 |[],_=>show p.eq_nil
 |[a],_=>show p.eq_singleton
def Hm{ι β:Type}{f:ι->β}{us:List β}{ns:List ι}(p:us.Perm (ns.map f)):∃ms:List ι,us=ms.map f/\ms.Perm ns:=by
 induction us generalizing ns with
 |nil=>simp_all
 |cons u us B=>let#[n,F,rfl]:=qK.mp (p.mem_iff.mp qm);let#[z,v,rfl]:=append_of_mem F;rw[map_append]at p;let#[ms,rfl,q]:=B (ns:=z++v) (by rw[map_append];show(p.trans perm_middle).cons_inv);show#[n::ms,rfl,(List.Perm.cons n q).trans perm_middle.symm]
def Ja:∀{ps:List (List aI×Addr)}{v:List Value},zE (ps.map λp=>V.ref p.2) v->v=ps.map λp=>Value.ref p.2
 |[],_,.nil=>rfl
 |p::ps,_,.cons r t=>by let e:_=Value.ref p.2:=r;rw[e,Ja t];rfl
def Jm:∀ps:List (List aI×Addr),zE (ps.map λp=>V.ref p.2) (ps.map λp=>Value.ref p.2)
 |[]=>.nil
 |_::ps=>.cons rfl (Jm ps)
section
variable{K:W.Frag}
def MD(I:Inv X zH Z H s)(k:∀b u,b≠X.env.locals->s.heap.get? b=some u->h'.get? b=some u){p:List aI×Addr}(e:H p.2=some (.tup (p.1.map kV))):kS h' p.2 p.1:=by let#[v,r,#[o,e,c,n,d],_]:=I.tuple (bN.of e);show#[v,r,o,k p.2 o (λz=>?_) e,c,n,d];let#[m,#[o',es,ep,B,F,_],_]:=I.loc;grind
def TJ(h:l.length<2):eB l=l:=by
 match l,h with
 |[],_=>rfl
 |[_],_=>rfl
def LJ:∀{sh:List Bool}{l:List D},dY sh l->l.all bK=true
 |[],[],_=>rfl
 |[],_::_,h=>h.elim
 |t::_,[],h=>by cases t<;>show h.elim
 |t::sh,a::l,h=>by cases t<;>cases a<;>first|show h.elim|show LJ (sh:=sh) (l:=l) h
end
def Rv{K:Type}[DecidableEq K]{knd:KeyKind prog w K}{d:Addr}{zI:List (K×Value)}{k:K}{key v:Value}{Q:zj}(B:knd.is k key=true)(hm:s.heap.DictOf knd d zI)(L:valueAt zI k=none)(hsz:zI.length<=sizeLine)
  (hQ:∀h',h'.DictOf knd d (stored zI k v)->Heap.SameBut d s.heap h'->Q v {s with heap:=h',toks:=s.toks+1}):wpAny (model prog w) A (dictSetDefault d key v) Q E s:=by
 let#[o,es,ep,ho,hc,O,hk,Y,hn]:=hm;let h5:es.size<=sizeLine:=by let e1:=Y.length;rw[qV]at e1;lia
 let G:∀F∈zI,¬F.1=k:=λF h4 e=>by unfold valueAt at L;rw[Option.map_eq_none_iff,List.find?_eq_none]at L;show L F h4 (qR e)
 let J:¬(zI.any λF=>decide (F.1=k))=true:=λz=>by let#[F,h1,h2]:=any_eq_true.mp z;show G F h1 (qU h2)
 have M:(es.findIdx? λe=>knd.is k e.key)=none:=by
  let h1:(es.findIdx? λe=>knd.is k e.key)=zI.findIdx? λF=>decide (F.1=k):=by rw[<-Y.findIdx k];let#[l]:=es;simp
  rw[h1,List.findIdx?_eq_none_iff];show λF h=>qS (G F h)
 refine zg (qa (knd.pyHash B (qa (wpAny_dictFind_of (s:={s with toks:=s.toks+1}) B ho O hk ?_))));rw[M];refine qa (wpAny_rule (qa (wpAny_updateDictKeys (hz:=h5) (s:={s with toks:=s.toks+1}) ho O (qb (hQ _ ⟨_,_,ep+1,za _ ho (Obj.isFreed_of_dict (Obj.data_mapDictKeys O _)),
  hc.mapDictKeys _,Obj.data_mapDictKeys O _,hk.push B _,?_,?_⟩ (Heap.SameBut.update ..))))))
 .rw[stored,q5 J];let:=Y.append B (knd.hash k) v;simpa using this
 .rw[stored,q5 J,map_append];exact qw.mpr ⟨hn,by simp,λa ha b hb e=>by
   let#[F,h1,h2]:=qK.mp ha;let h3:b=k:=↑hb
   show G F h1 (h2.trans (e.trans h3))⟩
def LZ{K:Type}[DecidableEq K]{knd:HeapKind prog w K}{d a:Addr}{xs:List (K×Addr×Value)}{k:K}{v:Value}{Q:zj}(hu:knd.room A)(F:knd.is s.heap k a)(hm:s.heap.DictOfH knd d xs)(hsz:xs.length<=sizeLine)
  (h1:∀p,atKey xs k=some p->Q p.2 {s with toks:=s.toks+knd.draws k})
  (h2:atKey xs k=none->∀h',h'.DictOfH knd d (storedH xs k a v)->Heap.SameBut d s.heap h'->Q v {s with heap:=h',toks:=s.toks+knd.draws k}):wpAny (model prog w) A (dictSetDefault d (.ref a) v) Q E s:=by
 let#[o,es,ep,J,hc,G,O,M,hn]:=hm;show zg (qa (knd.pyHash hu F (qa (wpAny_dictFind_heap (s:={s with toks:=s.toks+knd.draws k}) hu F J G O M hn (λB=>?_) λj p hj=>?_))))
 .have L:k∉xs.map (·.1):=not_mem_keys_of_get B;refine qa (wpAny_rule (qa (wpAny_updateDictKeys (hz:=by let e:=size_of_entries O;lia) (s:={s with toks:=s.toks+knd.draws k}) J G (qb (h2 (atKey_none_of_get B) _ ⟨_,_,ep+1,za _ J (Obj.isFreed_of_dict (Obj.data_mapDictKeys G _)),
   hc.mapDictKeys _,Obj.data_mapDictKeys G _,?_,?_,?_⟩ (Heap.SameBut.update ..))))))
  .rw[storedH_new (atKey_none_of_get B)];simp[O,entryOfKey]
  .rw[storedH_new (atKey_none_of_get B)];intro x Y;rcases qx.mp Y with z|z
   .show knd.keeps (M x z) J G (Heap.SameBut.update ..)
   .rw[qu.mp z];show knd.keeps F J G (Heap.SameBut.update ..)
  .rw[storedH_new (atKey_none_of_get B),map_append];exact qw.mpr ⟨hn,by simp,λx Y y hy e=>by
    let h3:y=k:=↑hy
    show L (h3▸e▸Y)⟩
 .show qa (wpAny_dictEntries (s:={s with toks:=s.toks+knd.draws k}) J G ?_);rw[entry_at O j,hj];show qa (wpAny_rule (qb (h1 p (atKey_of_get hn hj))))
def Ic(B:s.TypeIs (.ref d) "dict")(F:(d==sysModules)=false)(h:wpAny (model prog w) A.in1 (dictSetDefault d u r) Q E s):wpAny (model prog w) A (call (.builtin "dict.setdefault") [.ref d,u,r]) Q E s:=by show ze PySem.F.slot_dict_setdefault B PySem.F.entry_dict_setdefault ?_ (PySem.F.args_dict_setdefault_3 _ _ _);show qa (qa (wpAny_notOrdered_dict B ?_));show qb ?_;show wpAny _ _ (if(d==sysModules)=true then _ else(dictSetDefault d u r>>=_)) _ _ s;rw[q5 (by rw[F];show qX)];show qa (zi h (λv s' q=>qb #[v,rfl,q]) λ_ _ z=>z)
def uO(H:Hp)(a:Addr)(y d:V)(v:V)(H':Hp):Prop:=(gF H a y (some v)/\H'=H)\/(gF H a y none/\v=d/\mK H a y d H')
def KD(hu:A.units+1<cLine)(I:Inv X zH Z H s)(g:uO H a y d v H')(ry:zw y u)(rd:zw d r)(h:∀w' s',Inv X zH Z H' s'->zw v w'->Q w' s'):
  wpAny (model X.prog X.w) A (call (.builtin "dict.setdefault") [.ref a,u,r]) Q E s:=by
 rcases g with⟨⟨L,k,e,ey,l⟩|⟨L,k,b,e,ey,eb,l⟩,rfl⟩|⟨g,rfl,⟨L,k,e,ey,hl,eH⟩|⟨L,k,b,e,ey,eb,hl,eH⟩⟩
 .subst ey;let#[z,M,vs,B,J]:=GM I.hok e;let#[w',hw,h6]:=eD.some_of (v:=v) (o:=valueAt vs k) (by rw[l];show B.val k);refine Ic J.typeIs M (wpAny_dictSetDefault_of (EK ry) J.mapOf (λv' hv=>?_) (λhn=>absurd (hn.symm.trans hw) (λz=>nomatch z)) (λo es ep h1 h2=>?_))
  .rw[hw]at hv;cases hv;show h _ _ (I.tok _) h6
  .obtain⟨o',h9,e3,g1,_,g2,_,g3,_⟩:=J;rw[g1]at h1;cases h1;rw[g2]at h2;let e1:=g3.length;let e2:=B.length;rw[qV]at e1;lia
 .subst ey;cases(show u=Value.ref b from ry);let#[z,M,xs,B,J]:=GO I.hok e;let#[w',hw,h6]:=eD.some_of (v:=v) (o:=(atKey xs k).map (·.2)) (by rw[l];show B.val k);refine Ic J.typeIs M (LZ (tupleKind_room_in1 hu) (EM I.hok eb) J (by rw[<-Paired.length B];show z) (λp hp=>?_) λhn=>?_)
  .rw[hp]at hw;cases hw;show h _ _ (I.tok _) h6
  .rw[hn]at hw;cases hw
 .subst ey eH;let#[z,M,vs,B,J]:=IJ I.hok e;let h7:valueAt vs k=none:=by
   rcases g with⟨h8,k',G,F,l'⟩|⟨_,_,_,_,F,_⟩
   .have ek:=GV F;subst ek;rcases G with G|⟨o',G⟩
    .rw[e]at G;cases G;let:=B.val k;rw[<-l']at this;cases q:valueAt vs k with
     |none=>rfl
     |some x=>rw[q]at this;show this.elim
    .rw[e]at G;cases G
   .cases k<;>cases F
  show Ic J.typeIs M (Rv (EK ry) J h7 (by rw[<-B.length];show z) λh' Y hs=>h _ _ ?_ rd);show FU I (by rw[e];show True.intro) hs (let⟨q,_,_,hq,_⟩:=Y;#[q,hq]) (IV (by let:=Hr L k v;lia) M (B.put k rd) Y)
 .subst ey eH;cases(show u=Value.ref b from ry);let#[z,M,xs,B,J]:=KS I.hok e;let h7:∀p,atKey xs k=some p->False:=λp hp=>by
   rcases g with⟨_,k',_,F,_⟩|⟨h8,k',b',G,F,O,l'⟩
   .cases k'<;>cases F
   .cases F;rw[eb]at O;let ek:k=k':=Ha (by injection O with O;injection O);subst ek;rcases G with G|⟨o',G⟩
    .rw[e]at G;cases G;let:=B.val k;rw[<-l',hp]at this;show this
    .rw[e]at G;cases G
  show Ic J.typeIs M (LZ (tupleKind_room_in1 hu) (EM I.hok eb) J (by rw[<-Paired.length B];show z) (λp hp=>(h7 p hp).elim) λ_ h' Y hs=>h _ _ ?_ rd);let#[q,es,ep,hq,h2,h3,h4,_,h5]:=Y;show FU I (by rw[e];show True.intro) hs ⟨q,hq⟩ ⟨by let:=Hr L k v;lia,M,_,(B.put k eb rd).keeps λc ys ec=>?_,q,es,ep,hq,h2,h3,h4,h5⟩;rw[Ap (II ec e (λz=>nomatch z))];show ec
def vL(F ty tx:TE):TE:=λZ H Q=>F Z H λx H1=>∃a,x=.ref a/\xW H1 a/\ty Z H1 λy H2=>tx Z H2 λz G=>∃v B,uO G a y z v B/\Q v B
def Qv(hu:X.A.units+1<cLine)(ho:PE X o J)(he:PE X e ty)(hf:PE X f tx)(m:M2 X o "setdefault" apos e f cpos):PE X (.Call (.Attribute o "setdefault" apos) [e,f] [] cpos) (vL J ty tx):=by
 intro zH s Z H Q I h;show wpAny_Call_method m.base m.few m.line PySem.F.plainAttrs_dict PySem.F.slot_dict_setdefault PySem.F.type_dict_setdefault (Am (ho zH s Z H _ I h) λu Y G=>?_);let#[x,H1,F,rx,a,ex,d,q1]:=G;subst ex;obtain rfl:u=Value.ref a:=rx;let#[M,L,_]:=Ll F d;show#[M,L,?_];rw[m.trees];show Calls.callWith_builtin rfl (Calls.evalArgs_plain (Calls.spliced_cons (Am (he zH Y Z H1 _ F q1) λiv O⟨y,H2,I2,ry,q2⟩=>Calls.spliced_cons (Am (hf zH O Z H2 _ I2 q2) λfv s3⟨z,H3,I3,rz,v,H4,g,q3⟩=>Calls.spliced_nil ?_))))
 show KD hu I3 g ry rz λw' s4 I4 B=>#[_,H4,I4,B,q3]
section
variable{K:W.Frag}
def RL:fX (x::l) k=(open Classical in if x=k then some 0 else(fX l k).map (·+1)):=by grind[fX,List.findIdx]
def Js{κ:Type}[DecidableEq κ]{g:κ->D}(v:∀a b,g a=g b->a=b):∀(zI:List (κ×V))(k:κ),cS zI k=(fX (zI.map λp=>g p.1) (g k)).bind λm=>(zI.map (·.2))[m]?
 |[],k=>rfl
 |p::r,k=>by
  rw[qy,RL];by_cases e:p.1=k
  .rw[GB e,q4 (by rw[e])];rfl
  .rw[Gz e,q5 λz=>e (v _ _ z),Js v r k];cases fX (r.map λp=>g p.1) (g k)with
   |none=>rfl
   |some m=>rfl
def iM.get{a:Addr}{o:HO}{t:Bool}{ks:List D}{xs:List V}{y:V}{q:D}(d:iM ks xs t o)(e:H a=some o)(r:aN K H y q)(G:aO t q=true):gF H a y ((fX ks q).bind λm=>xs[m]?):=by
 cases d with
 |@k v h1 h2=>subst h1 h2;let#[F,rfl,rfl]:=FV r G;show .inl #[v,F,.inl e,rfl,(Js (λ_ _=>ER) v F).symm]
 |@t v h1 h2=>
  subst h1 h2;cases r with
  |tup J q=>let#[B,rfl,rfl]:=FX q G;show .inr #[v,B,_,.inl e,rfl,J,(Js (g:=λl:List aI=>D.tup (l.map aG)) (λa b z=>GI (D.tup.inj z)) v B).symm]
  |_=>cases G
def Rel.sdefR{p D:Addr}(r:Rel K (U++[some (.lst [])]) (Z++[some (.ref p)]) F G H)(hs:slot U n=some (.dct t ks l))(J:Z[n]?=some (some (.ref D)))(ry:aN K H y q)(hk:aO t q=true)(hn:ks.Nodup)(hb:ks.length<big):
  ∃v H',uO H D y (.ref p) v H'/\Rel K (U.set n (some (.dct t (bB ks l q).1 (bB ks l q).2.1))) Z F G H'/\∃o xs,H' D=some o/\iM (bB ks l q).1 xs t o/\xs[(bB ks l q).2.2]?=some v:=by
 let rd:=r.drop (Af r);let#[v',fp,e1,sr]:=rd.at hs;rw[J]at e1;let e2:V.ref D=v':=↑e1
 subst e2;let#[a',o,xs,fl,z1,_,Y,L,rl]:=Ge sr;cases z1;let O:=L.len;let z:=L.get Y ry hk;cases B:fX ks q with
 |some m=>
  let es:bB ks l q=(ks,l,m):=by unfold bB;rw[B]
  let M:m<xs.length:=by let:=(qg.mp (JF B)).1;lia
  rw[B]at z;let z:gF H D y xs[m]?:=z;rw[qh M]at z;rw[es];show#[xs[m],H,.inl #[z,rfl],by rw[MS hs];show rd,o,xs,Y,L,qh M]
 |none=>
  let es:bB ks l q=(ks++[q],l++[.lst []],ks.length):=by unfold bB;rw[B]
  rw[B]at z;let#[o',dp,h1,h2]:=L.put (v:=.ref p) Y ry hk hn (by rw[zf];show lt_trans hb ⋯);rw[es];show#[.ref p,_,.inr #[z,rfl,dp],r.dct hs J Y L (h2 B) λH' fl fs rl sr=>#[fl++fs,[],zv.snoc rl sr,by simp],o',_,Bl,h2 B,?_];rw[O,getElem?_append_right (q8 _),sub_self];rfl
def Rel.appendAtD{D b:Addr}(r:Rel K (U++[some t,some (.dct tb ks l)]) (Z++[some v,some (.ref D)]) F G H)(h:U.length=Z.length)(hm:l[m]?=some (.lst l'))
  (hD:H D=some o)(ho:iM ks xs tb o)(hb:xs[m]?=some (.ref b))(hy:H b=some (.lst ys)):
  ys.length=l'.length/\Rel K (U++[some (.dct tb ks (l.set m (.lst (l'++[t]))))]) (Z++[some (.ref D)]) F G (upd H b (.lst (ys++[v]))):=by
 let#[fp,e,nd,ap]:=r.en;let#[f1,f2,rfl,a,c]:=e.cut h;cases c with
 |@so _ _ _ _ M f3 st c=>
 cases c with
 |@so _ _ _ _ fD fn sd nl=>
 cases nl;let#[a',o2,Y,fl,z1,rfl,h6,h4,rl]:=Ge sd;cases z1;rw[hD]at h6;cases h6;let ex:Y=xs:=by
  cases ho with
  |k _ z=>cases h4 with|k _ z'=>rw[z,z']
  |t _ z=>cases h4 with|t _ z'=>rw[z,z']
 subst ex;let#[x,O,fi,L,J,sx,rfl,up]:=rl.at hm;rw[hb]at J;cases J;cases sx with
 |@lst _ e1 _ B h5 ry=>
 rw[hy]at h5;cases h5;show#[ry.len,?_];let hp:(f1++(M++(D::(O++(b::B++L))++[]))).Perm (b::(f1++(M++(D::(O++(B++L)))))):=by let h1:(O++b::(B++L)).Perm (b::(O++(B++L))):=perm_middle;show((h1.cons D).append_left (f1++M)|>.trans ?_|>λz=>↑z);let h2:(D::b::(O++(B++L))).Perm (b::D::(O++(B++L))):=List.Perm.swap ..;show(h2.append_left (f1++M)).trans ?_;show perm_middle.trans (by rw[qp])
 let h8:=hp.nodup_iff.mp nd;let#[nb,_]:=qL.mp h8;let ne:∀{w:List Addr},(∀x∈w,x∈f1++(M++(D::(O++(B++L)))))->∀x∈w,upd H b (.lst (ys++[v])) x=H x:=λhw x J=>Ap λz=>nb (z▸hw x J);let h7:=ap b (hp.mem_iff.mpr qm);let new:aK K F (upd H b (.lst (ys++[v]))) (.ref b) (.lst (l'++[t])) (b::(B++M)):=.lst Bl (zv.snoc (ry.mono (zr.refl F) (ne λx J=>by simp[J])) (st.mono (zr.refl F) (ne λx J=>by simp[J])));let r2:=up (H':=upd H b (.lst (ys++[v]))) (ne λx J=>by rcases qx.mp J with z|z<;>simp[z]) new
 have e2:Y.set m (.ref b)=Y:=by
  apply ext_getElem?;intro j;by_cases hj:m=j
  .subst hj;rw[getElem?_set_self (qg.mp hb).1,hb]
  .rw[getElem?_set_ne hj]
 rw[e2]at r2;let h9:D≠b:=λz=>nb (by simp[z]);let top:aK K F (upd H b (.lst (ys++[v]))) (.ref D) (.dct tb ks (l.set m (.lst (l'++[t])))) (D::(O++((b::(B++M))++L))):=h4.mk ((Ap h9).trans hD) r2;let p:(f1++((D::(O++((b::(B++M))++L)))++[])).Perm (f1++(M++(D::(O++(b::B++L))++[]))):=by
  show List.Perm.append_left _ ?_;simp;let h1:(B++(M++L)).Perm (M++(B++L)):=by rw[<-qp,<-qp];show List.Perm.append_right _ qN
  let h2:(O++b::(B++(M++L))).Perm (M++(O++b::(B++L))):=by show((h1.cons b).append_left O).trans ?_;let h3:(b::(M++(B++L))).Perm (M++(b::(B++L))):=perm_middle.symm;show(h3.append_left O).trans ?_;rw[<-qp,<-qp];show List.Perm.append_right _ qN
  show(h2.cons D).trans ?_;show perm_middle.symm
 show#[zr.updR r.fr h7.1,λx o w=>?_,_,(a.mono (zr.refl F) (ne λx J=>by simp[J])).app (.so top .nil),p.nodup_iff.mpr nd,λx J=>ap x (p.mem_iff.mp J)];let J:x≠b:=λz=>by rw[z,h7.2]at w;cases w
 rw[Ap J];show r.gr x o w
end
theorem set_set{U:Env}:(U.set n a).set n b=U.set n b:=List.set_set ..
def Sl(h:slot U n=some s):slot (U.set n (some s')) n=some s':=by
 induction U generalizing n with
 |nil=>cases h
 |cons a U v=>cases n with
  |zero=>rfl
  |succ n=>show v h
def UU(hu:X.A.units+1<cLine)(ho:FE X o (zk j))(hi:FE X i wi)(he:FE X e we)(m2:M2 X o "setdefault" h5 i (.List [] lp) h4)
  (e3:attributeBase (.Call (.Attribute o "setdefault" h5) [i,.List [] lp] [] h4) "append" X.env (eval (.Call (.Attribute o "setdefault" h5) [i,.List [] lp] [] h4) X.env)=eval (.Call (.Attribute o "setdefault" h5) [i,.List [] lp] [] h4) X.env:=by rfl)
  (k2:((backTo cpos (starEach [e] X.env)).all (λx=>!x.1)&&(backToKw cpos (keywordEach [] X.env)).all (λx=>x.1.isSome)
   &&decide ([e].length+([]:List Keyword).length+(if([]:List Keyword).isEmpty then 0 else 1)<30))=true:=by rfl)
  (h9:(apos.endLine==cpos.line)=true:=by rfl)(hs:starEach [e] X.env=[(false,eval e X.env)]:=by rfl):FE X (.Call (.Attribute (.Call (.Attribute o "setdefault" h5) [i,.List [] lp] [] h4) "append" apos) [e] [] cpos) (eA j wi we):=λpn xe hp=>by
 show PE.imp (GP (X:=wp X pn xe) PySem.F.plainAttrs_list PySem.F.slot_list_append PySem.F.type_list_append Ka (Qv (X:=wp X pn xe) hu (ho pn xe hp) (hi pn xe hp) (CN Ab pn xe hp) #[m2.base,m2.few,m2.line,m2.trees]) (Aa he Ab hs pn xe hp) e3 k2 h9 hs rfl) λZ H Q q=>?_;let#[F,G,U,P,PX,zJ,hw,hok,hx]:=q;unfold eA at hw;cases qs:slot U j with
 |none=>rw[qs]at hw;show hw.elim
 |some s0=>
  cases s0 with
  |dct t0 ks0 l0=>
   rw[qs]at hw;dsimp only at hw;show#[F,G,U,λy U1=>y=.loc j/\U1=U,PX,zJ,by unfold zk;rw[qs];show#[rfl,rfl],λy U1 o' F1 H1 M s1 r1 rv=>?_,hx];let#[rfl,rfl]:=M;let l1:=Af r1;let Y:Z[j]?=some (some o'):=rv;let r2:=r1.drop l1;let h8:∃D,o'=.ref D/\xW H1 D:=by
    let#[v',fp,e1,sr]:=r2.at qs;rw[Y]at e1;let e2:o'=v':=↑e1
    subst e2;let#[a',o,xs,fl,z1,_,hD,h3,rl]:=Ge sr;subst z1;cases h3 with
    |k _ _=>show#[a',rfl,.inl #[_,.inl hD]]
    |t _ _=>show#[a',rfl,.inr #[_,.inl hD]]
   let#[D,rfl,h8]:=h8;show#[D,rfl,h8,?_];show#[F1,G,U1,_,PX,r2,hw,λz U2 i' F2 H2 L s2 r3 rv2=>?_,hx.grow s1];let l2:=Af r3;split at L
   .rename_i q t ks l eq ql;let#[k1,hnd,k3,L]:=L;split at L
    .rename_i l' el;let#[G3,hd,gg,e4]:=r3.hide l2;show#[F2,G3,U2,λw B=>w=.v (.lst [])/\B=U2,PX,hd,#[rfl,rfl],λw B d' F3 H3 hk3 s3 r4 rv4=>?_,hx.mono (λ_ z=>z) (s1.trans s2) gg];let#[rfl,rfl]:=hk3;let r5:=e4 s3 r4;rw[qp,qp]at r5;let r6:Rel X.K (B++[zt z,some (.lst [])]) (Z++[some i',some d']) F3 G H3:=Rel.swap (U1:=[some (.lst [])]) (Z1:=[some d']) (U2:=[zt z]) (Z2:=[some i']) l2 rfl r5;let ri:=AH (U':=[some (.lst [])]) (Z':=[some d']) r6 l2 rv2 eq;let r7:Rel X.K (B++[some (.lst [])]) (Z++[some d']) F3 G H3:=Rel.mid r6 l2;let hd':∃p,d'=.ref p:=by
      let#[u,fp,e1,sr]:=r7.at (i:=B.length) (s:=.lst []) Fy;rw[l2,getElem?_append_right (q8 _),sub_self]at e1;let e2:d'=u:=↑e1
      subst e2;cases sr with
      |lst _ _=>show#[_,rfl]
     let#[p,rfl]:=hd';let#[v,H4,ds,r8,ob,xs,hD,h3,hv]:=Rel.sdefR r7 ql Y ri k1 hnd k3;let hql:=Sl (s':=.dct t (bB ks l q).1 (bB ks l q).2.1) ql;let l8:(B.set j (some (.dct t (bB ks l q).1 (bB ks l q).2.1))).length=Z.length:=↑l2
     let r9:=Rel.lend (U':=[]) (Z':=[]) (r8.pushN (u:=some (.ref D))) l8 hql Y;rw[set_set]at r9;let l5:(B.set j none).length=Z.length:=↑l2
     obtain⟨G2,fq,r10,gg2,sq,hG,back⟩:=r9.hide2 l5;let#[a',o2,xs',fl,z1,efq,hD',h6,rl]:=Ge sq;cases z1;rw[hD]at hD';cases hD';let ex:xs'=xs:=by
      cases h3 with
      |k _ z=>cases h6 with|k _ z'=>rw[z,z']
      |t _ z=>cases h6 with|t _ z'=>rw[z,z']
     subst ex;let#[x,fa,fi,fb,hq,sx,efl,_]:=rl.at el;rw[hv]at hq;cases hq;cases sx with
     |@lst b ys _ fy hy ry=>
     show#[_,H4,ds,.inl #[rfl,_,bO.of hy],F3,G2,B.set j none,λrs h7=>match rs with|[r]=>(zp (give r h7) λp=>l'.length<big/\P (.v (.sh .non)) (p.2.set j (some (.dct t (bB ks l q).1 ((bB ks l q).2.1.set (bB ks l q).2.2 (.lst (l'++[p.1])))))))|_=>False,PX,r10,L,λrs h7 vs F4 H5 M s4 O hl J=>?_,hx.mono (λ_ z=>z) (s1.trans (s2.trans s3)) gg2];match rs,vs,J,O,M with
     |[r],[v],J,O,M=>
      dsimp only at M;let#[#[t',U5],eg,M]:=Aq M;let hr:=back s4 O;simp only[qy,map_nil,qp,qO,nil_append]at hr;let l3:h7.length=Z.length:=hl;let#[F5,s5,l4,r13]:=AG (U':=[some (.dct t (bB ks l q).1 (bB ks l q).2.1)]) (Z':=[some (.ref D)]) hr l3 J.1 eg;let kept:∀c∈D::fl,H5 c=H4 c:=λc hc=>by let#[o,h1,h2]:=hG c (efq▸hc);rw[(O.gr c o h1).1.1,h2]
      let hb:b∈D::fl:=qk _ (by rw[efl];simp);let#[ha,r14]:=Rel.appendAtD r13 (l4.trans l3) el ((kept D qm).trans hD) h3 hv ((kept b hb).trans hy);let hm:=Rel.back1 (U':=[]) (Z':=[]) (i:=j) r14 (l4.trans l3) Y;rw[qz,qz]at hm;show#[b,ys,v,rfl,rfl,(kept b hb).trans hy,by rw[ha,zf];show lt_trans M.1 ⋯,hok _ _ .non F5 _ M.2 (s1.trans (s2.trans (s3.trans (s4.trans s5)))) (hm.push .non) trivial]
     |[],_,_,_,M=>show M.elim
     |[_],[],J,_,_=>show J.elim
     |[_],_::_::_,J,_,_=>show J.2.elim
     |_::_::_,_,_,_,M=>show M.elim
    .show L.elim
   .show L.elim
  |_=>rw[qs]at hw;show hw.elim
end FL
namespace FL
open Classical in
def gI(l:List D):Option S:=if l.length<128/\(l.length<2\/∃sh,sh≠[]/\∀d∈l,eP sh d)then some (.lst ((eB l).map .sh))else none
def uJ:List D->Option S
 |[.lst l]=>gI l
 |[.set l]=>gI l
 |_=>none
open Classical in
def cC(l:List D):Option S:=if(l.length<64/\((gL l).isSome=true\/(cP l).isSome=true))\/l.length<128/\(l.length<2\/∃sh,sh≠[]/\∀d∈l,eP sh d)then some (.lst ((eB l).map .sh))else none
def bQ:List D->Option S
 |[.lst l]=>cC l
 |[.set l]=>cC l
 |_=>none
end FL
namespace TS
open PySem PyProof.Rows
def cV:Bool->Keyed->Array Keyed->Nat->Nat->Nat->StateT SortSt Sem (Option Nat):=sortPriv%PySem.Builtin.gallop
def ask(left:Bool)(key:Keyed)(arr:Array Keyed)(i:Nat):StateT SortSt Sem (Option Bool):=do
 let x<-elem' arr i
 if left then lt' x key else return(<-lt' key x).map (!·)
def uD(left:Bool)(key:Keyed)(arr:Array Keyed)(base n u0 v0:Nat):StateT SortSt Sem (Option Nat):=do
 let mut u:=u0
 let mut v:=v0
 for _ in[0:n] do
  if u≥v then break
  let m:=u+(v-u)/2
  let some y<-ask left key arr (base+m)|return none
  if y then u:=m+1 else v:=m
 return some v
structure Cmp(M:Model)(A:Around)(E:zj)(s:Shared)(κ:SortKind)(ok:Keyed->Prop)(rk:Keyed->Int):Prop where
 lt:∀(x y:Keyed)(Q:Option Bool->SortSt->Prop)(st:SortSt),kindOf st=κ->ok x->ok y->Q (some (decide (rk x<rk y))) st->wpS M A E s (lt' x y) Q st
def Ad{v:Array Keyed}{i:Nat}{Q:Keyed->SortSt->Prop}{st:SortSt}(h:i<v.size)(z:Q v[i] st):wpS M A E s (elem' v i) Q st:=by rw[elem'_eq,getElem?_eq_getElem h];show wpS_pure z
def aW(rk:Keyed->Int)(xs:Array Keyed)(i:Nat):Int:=(xs[i]?).elim 0 rk
def dN(rk:Keyed->Int)(left:Bool)(key:Keyed)(v:Array Keyed)(i:Nat):Bool:=if left then decide (aW rk v i<rk key)else decide (aW rk v i<=rk key)
def Ae{v:Array Keyed}{i:Nat}(h:i<v.size):aW rk v i=rk v[i]:=by unfold aW;rw[getElem?_eq_getElem h];rfl
def Bo(C:Cmp M A E s κ ok rk){left:Bool}{key:Keyed}{v:Array Keyed}(F:ok key)(G:∀i(h:i<v.size),ok v[i]){i:Nat}(hi:i<v.size){Q:Option Bool->SortSt->Prop}{st:SortSt}(z:kindOf st=κ)
  (B:Q (some (dN rk left key v i)) st):wpS M A E s (ask left key v i) Q st:=by
 show wpS_bind (Ad hi ?_);unfold dN at B;rw[Ae hi]at B;cases left
 .show wpS_bind (C.lt _ _ _ _ z F (G _ hi) (wpS_pure ?_));rw[show decide (rk v[i]<=rk key)=!decide (rk key<rk v[i]) by simp[<-Int.not_lt]]at B;show B
 .show C.lt _ _ _ _ z (G _ hi) F B
@[inline]def Up(rk:Keyed->Int)(xs:Array Keyed)(lo hi:Nat):Prop:=∀i j,lo<=i->i<=j->j<hi->aW rk xs i<=aW rk xs j
def AO{left:Bool}{key:Keyed}{v:Array Keyed}{base n:Nat}(z:Up rk v base (base+n)){i j:Nat}(B:i<=j)(F:j<n)(h:dN rk left key v (base+j)=true):dN rk left key v (base+i)=true:=by let:=z (base+i) (base+j) ∅ ∅ ∅;unfold dN at h⊢;cases left<;>simp_all<;>lia
def kU(rk:Keyed->Int)(left:Bool)(key:Keyed)(z:Array Keyed)(base n u v:Nat):Prop:=u<=v/\v<=n/\(∀i,i<u->dN rk left key z (base+i)=true)/\∀i,v<=i->i<n->dN rk left key z (base+i)=false
def Br(C:Cmp M A E s κ ok rk){left:Bool}{key:Keyed}{arr:Array Keyed}{base n u v:Nat}{Q:Option Nat->SortSt->Prop}{st:SortSt}(hk:ok key)(ha:∀i(h:i<arr.size),ok arr[i])(hn:base+n<=arr.size)(hu:Up rk arr base (base+n))(hst:kindOf st=κ)(hc:kU rk left key arr base n u v)
  (h:∀k,kU rk left key arr base n k k->Q (some k) st):wpS M A E s (uD left key arr base n u v) Q st:=by
 have no_up:∀{i j:Nat},i<=j->j<n->dN rk left key arr (base+i)=false->dN rk left key arr (base+j)=false:=λ{i j} hij hj hb=>by
  cases q:dN rk left key arr (base+j)with
  |false=>rfl
  |true=>rw[AO hu hij hj q]at hb;cases hb
 refine wpS_bind (wpS_mono (wpS_forRange (I:=λx c st'=>st'=st/\c.1=none/\kU rk left key arr base n c.2.1 c.2.2/\c.2.2-c.2.1<=n-x)
  (Q:=λc st'=>st'=st/\c.1=none/\kU rk left key arr base n c.2.2 c.2.2) ?step ?fin #[rfl,rfl,hc,by let:=hc.2.1;simp only;lia]) ?post)
 case fin=>
  rintro⟨r,l,u⟩ st' ⟨rfl,hr,⟨g1,g2,g3,g4⟩,g5⟩;obtain rfl:l=u:=∅
  show#[rfl,hr,g1,g2,g3,g4]
 case step=>
  rintro x ⟨r,l,u⟩ st' _ hx ⟨rfl,hr,⟨g1,g2,g3,g4⟩,g5⟩;by_cases hlu:l≥u
  .rw[q4 hlu];obtain rfl:l=u:=by lia
   show wpS_pure #[rfl,rfl,g1,g2,g3,g4]
  .rw[q5 hlu];show wpS_bind (Bo C hk ha ∅ hst ?_);cases q:dN rk left key arr (base+(l+(u-l)/2))with
   |true=>show wpS_pure #[rfl,rfl,#[by simp only;lia,g2,λi hi=>AO hu (show i<=l+(u-l)/2 by simp only at hi;lia) ∅ q,g4],by simp only;lia]
   |false=>show wpS_pure #[rfl,rfl,#[by simp only;lia,by simp only;lia,g3,λi hi hin=>no_up (show l+(u-l)/2<=i from hi) hin q],by simp only;lia]
 case post=>rintro⟨r,l,u⟩ st' ⟨rfl,hr,g⟩;subst hr;show wpS_pure (h u g)
def Ar(C:Cmp M A E s κ ok rk){left:Bool}{key:Keyed}{arr:Array Keyed}{base n hint:Nat}{Q:Option Nat->SortSt->Prop}{st:SortSt}(hk:ok key)(ha:∀i(h:i<arr.size),ok arr[i])(hn:base+n<=arr.size)(hh:hint<n)(hu:Up rk arr base (base+n))(hst:kindOf st=κ)
  (h:∀k,kU rk left key arr base n k k->Q (some k) st):wpS M A E s (cV left key arr base n hint) Q st:=by
 have no_up:∀{i j:Nat},i<=j->j<n->dN rk left key arr (base+i)=false->dN rk left key arr (base+j)=false:=λ{i j} hij hj hb=>by
  cases q:dN rk left key arr (base+j)with
  |false=>rfl
  |true=>rw[AO hu hij hj q]at hb;cases hb
 show wpS_bind (Bo C hk ha ∅ hst ?_);cases q:dN rk left key arr (base+hint)with
 |true=>
  refine wpS_bind (wpS_mono (wpS_forRange (I:=λx c st'=>st'=st/\c.1=none/\c.2.1<c.2.2/\x<c.2.2/\hint+c.2.1<n/\dN rk left key arr (base+(hint+c.2.1))=true)
   (Q:=λc st'=>st'=st/\c.1=none/\c.2.1<c.2.2/\hint+c.2.1<n/\dN rk left key arr (base+(hint+c.2.1))=true/\(n<=hint+c.2.2\/dN rk left key arr (base+(hint+c.2.2))=false)) ?step ?fin #[rfl,rfl,⋯,⋯,hh,↑q]) ?post)
  case fin=>rintro⟨r,l,u⟩ st' ⟨rfl,hr,g1,g2,g3,g4⟩;show#[rfl,hr,g1,g3,g4,.inl (by simp only at g2⊢;lia)]
  case step=>
   rintro x ⟨r,l,u⟩ st' _ hx ⟨rfl,hr,g1,g2,g3,g4⟩;by_cases hlu:u≥n-hint
   .rw[q4 hlu];show wpS_pure #[rfl,rfl,g1,g3,g4,.inl (by simp only;lia)]
   .rw[q5 hlu];show wpS_bind (Bo C hk ha ∅ hst ?_);cases q2:dN rk left key arr (base+(hint+u))with
    |true=>show wpS_pure #[rfl,rfl,by simp only;lia,by simp only;lia,by simp only;lia,q2]
    |false=>show wpS_pure #[rfl,rfl,g1,g3,g4,.inr q2]
  case post=>
   rintro⟨r,l,u⟩ st1 ⟨rfl,hr,g1,g3,g4,g5⟩;subst hr;show Br C hk ha hn hu hst #[∅,∅,λi hi=>AO hu (show i<=hint+l by lia) g3 g4,λi hi hin=>?_] h;rcases g5 with g5|g5
   .lia
   .show no_up (show hint+u<=i by lia) hin g5
 |false=>
  refine wpS_bind (wpS_mono (wpS_forRange (I:=λx c st'=>st'=st/\c.1=none/\c.2.1<c.2.2/\x<c.2.2/\c.2.1<=hint/\dN rk left key arr (base+(hint-c.2.1))=false)
   (Q:=λc st'=>st'=st/\c.1=none/\c.2.1<c.2.2/\c.2.1<=hint/\dN rk left key arr (base+(hint-c.2.1))=false/\(hint<c.2.2\/dN rk left key arr (base+(hint-c.2.2))=true)) ?step ?fin #[rfl,rfl,⋯,⋯,by simp,by show q]) ?post)
  case fin=>rintro⟨r,l,u⟩ st' ⟨rfl,hr,g1,g2,g3,g4⟩;show#[rfl,hr,g1,g3,g4,.inl (by simp only at g2⊢;lia)]
  case step=>
   rintro x ⟨r,l,u⟩ st' _ hx ⟨rfl,hr,g1,g2,g3,g4⟩;by_cases hlu:u≥hint+1
   .rw[q4 hlu];show wpS_pure #[rfl,rfl,g1,g3,g4,.inl (by simp only;lia)]
   .rw[q5 hlu];show wpS_bind (Bo C hk ha ∅ hst ?_);cases q2:dN rk left key arr (base+(hint-u))with
    |true=>show wpS_pure #[rfl,rfl,g1,g3,g4,.inr q2]
    |false=>show wpS_pure #[rfl,rfl,by simp only;lia,by simp only;lia,by simp only;lia,q2]
  case post=>
   rintro⟨r,l,u⟩ st1 ⟨rfl,hr,g1,g3,g4,g5⟩;subst hr;show Br C hk ha hn hu hst #[∅,∅,λi hi=>?_,λi hi hin=>no_up (show hint-l<=i by lia) hin g4] h;rcases g5 with g5|g5
   .lia
   .show AO hu (show i<=hint-u by lia) ∅ g5
def fF(g:Nat):StateT SortSt Sem Unit:=modify λs=>SortSt.mk' (kindOf s) (arrOf s) (pendingOf s) g (failedOf s)
def fL:Array Keyed->Array Keyed->StateT SortSt Sem (Array Keyed):=sortPriv%PySem.Builtin.mergeLo
def gA(a b o:Array Keyed)(i j:Nat):Array Keyed:=o++a.extract i a.size++b.extract j b.size
def fin2(a b o:Array Keyed)(i j:Nat):Array Keyed:=o++b.extract j b.size++a.extract i a.size
abbrev Mo:=Array Keyed×Nat×Nat×Nat×Nat×Nat
abbrev LS(α:Type):=ForInStep (Option (Array Keyed)×α)
def ck(a b:Array Keyed)(g c d i:Nat)(o:Array Keyed)(j:Nat):StateT SortSt Sem (LS Mo):=do
 let x<-elem' a i
 if i+1+1==a.size then return .done (some (fin2 a b (o.push x) (i+1) j),o.push x,i+1,j,g,c,d)
 if c<7&&d<7 then return .done (none,o.push x,i+1,j,g,c,d)
 return .yield (none,o.push x,i+1,j,g,c,d)
def cn(a b:Array Keyed)(g c d j:Nat)(o:Array Keyed)(i:Nat):StateT SortSt Sem (LS Mo):=do
 let x<-elem' b j
 if j+1==b.size then return .done (some (gA a b (o.push x) i (j+1)),o.push x,i,j+1,g,c,d)
 match<-cV true (<-elem' a i) b (j+1) (b.size-(j+1)) 0 with
 |some k=>
  if k>0 then
   if j+1+k==b.size then return .done (some (gA a b (o.push x++b.extract (j+1) (j+1+k)) i (j+1+k)),o.push x++b.extract (j+1) (j+1+k),i,j+1+k,g,c,k)
   ck a b g c k i (o.push x++b.extract (j+1) (j+1+k)) (j+1+k)
  else ck a b g c k i (o.push x) (j+1)
 |_=>return .done (some (gA a b (o.push x) i (j+1)),o.push x,i,j+1,g,c,d)
def lo1(a b o:Array Keyed)(i j c d g:Nat):StateT SortSt Sem (LS Mo):=do
 fF g
 match<-cV false (<-elem' b j) a i (a.size-i) 0 with
 |some k=>
  if k>0 then
   if i+k+1==a.size then return .done (some (fin2 a b (o++a.extract i (i+k)) (i+k) j),o++a.extract i (i+k),i+k,j,g,k,d)
   if i+k==a.size then return .done (some (gA a b (o++a.extract i (i+k)) (i+k) j),o++a.extract i (i+k),i+k,j,g,k,d)
   cn a b g k d j (o++a.extract i (i+k)) (i+k)
  else cn a b g k d j o i
 |_=>return .done (some (gA a b o i j),o,i,j,g,c,d)
def ff(a b:Array Keyed)(g:Nat)(s:Option (Array Keyed)×Array Keyed×Nat×Nat×Nat×Nat):StateT SortSt Sem (LS (Array Keyed×Nat×Nat×Nat×Nat)):=do
 match<-lt' (<-elem' b s.2.2.2.1) (<-elem' a s.2.2.1)with
 |some y=>
  if y then
   let x<-elem' b s.2.2.2.1
   if s.2.2.2.1+1==b.size then return .done (some (gA a b (s.2.1.push x) s.2.2.1 (s.2.2.2.1+1)),s.2.1.push x,s.2.2.1,s.2.2.2.1+1,0,s.2.2.2.2.2+1)
   if s.2.2.2.2.2+1≥g then return .done (none,s.2.1.push x,s.2.2.1,s.2.2.2.1+1,0,s.2.2.2.2.2+1)
   return .yield (none,s.2.1.push x,s.2.2.1,s.2.2.2.1+1,0,s.2.2.2.2.2+1)
  else
   let x<-elem' a s.2.2.1
   if s.2.2.1+1+1==a.size then return .done (some (fin2 a b (s.2.1.push x) (s.2.2.1+1) s.2.2.2.1),s.2.1.push x,s.2.2.1+1,s.2.2.2.1,s.2.2.2.2.1+1,0)
   if s.2.2.2.2.1+1≥g then return .done (none,s.2.1.push x,s.2.2.1+1,s.2.2.2.1,s.2.2.2.2.1+1,0)
   return .yield (none,s.2.1.push x,s.2.2.1+1,s.2.2.2.1,s.2.2.2.2.1+1,0)
 |_=>return .done (some (gA a b s.2.1 s.2.2.1 s.2.2.2.1),s.2.1,s.2.2.1,s.2.2.2.1,s.2.2.2.2.1,s.2.2.2.2.2)
def yL(a b:Array Keyed)(s:Option (Array Keyed)×Mo):StateT SortSt Sem (LS Mo):=lo1 a b s.2.1 s.2.2.1 s.2.2.2.1 s.2.2.2.2.2.1 s.2.2.2.2.2.2 (if s.2.2.2.2.1>1 then s.2.2.2.2.1-1 else s.2.2.2.2.1)
def cj(a b:Array Keyed)(t:Nat)(s:Option (Array Keyed)×Array Keyed×Nat×Nat×Nat):StateT SortSt Sem (LS (Array Keyed×Nat×Nat×Nat)):=
 (forIn [:t] (none,s.2.1,s.2.2.1,s.2.2.2.1,0,0) λ_=>ff a b s.2.2.2.2)>>=λr=>Break.runK.match_1 (λ_=>StateT SortSt Sem (LS (Array Keyed×Nat×Nat×Nat))) r.1 (λx=>pure (.done (some x,r.2.1,r.2.2.1,r.2.2.2.1,s.2.2.2.2))) λ_=>do
  rule "list.sort.gallop"
  (forIn [:t] (none,r.2.1,r.2.2.1,r.2.2.2.1,s.2.2.2.2+1,r.2.2.2.2) λ_=>yL a b)>>=λq=>Break.runK.match_1 (λ_=>StateT SortSt Sem (LS (Array Keyed×Nat×Nat×Nat))) q.1 (λx=>pure (.done (some x,q.2.1,q.2.2.1,q.2.2.2.1,q.2.2.2.2.1))) λ_=>do
   fF (q.2.2.2.2.1+1)
   return .yield (none,q.2.1,q.2.2.1,q.2.2.2.1,q.2.2.2.2.1+1)
def CB(a b:Array Keyed):fL a b=(do
 rule "list.sort.merge-lo"
 let x<-elem' b 0
 if 1==b.size then return gA a b [x].toArray 0 1
 if 0+1==a.size then return fin2 a b [x].toArray 0 1
 let s<-get
 (forIn [:a.size+b.size] (none,[x].toArray,0,1,gallopOf s) λ_=>cj a b (a.size+b.size))>>=λr=>Break.runK.match_1 (λ_=>StateT SortSt Sem (Array Keyed)) r.1 (λr=>pure r) λ_=>unsupported "internal:list.sort.merge-bound"):=by
 let e:∀(s:Option (Array Keyed)×Mo),yL a b s=(if s.2.2.2.2.1>1 then lo1 a b s.2.1 s.2.2.1 s.2.2.2.1 s.2.2.2.2.2.1 s.2.2.2.2.2.2 (s.2.2.2.2.1-1)else lo1 a b s.2.1 s.2.2.1 s.2.2.2.1 s.2.2.2.2.2.1 s.2.2.2.2.2.2 s.2.2.2.2.1):=λs=>by unfold yL;by_cases hg:s.2.2.2.2.1>1<;>simp[hg,if_true,if_false]
 unfold cj;rw[show yL a b=_ from funext e];rfl
def fT(rk:Keyed->Int)(l:List Keyed):Prop:=l.Pairwise λx y=>rk x<=rk y
@[inline]def Below(rk:Keyed->Int)(l m:List Keyed):Prop:=∀x∈l,∀y∈m,rk x<=rk y
structure MG(rk:Keyed->Int)(all l ra rb:List Keyed):Prop where
 perm:(l++(ra++rb)).Perm all
 sl:fT rk l
 sa:fT rk ra
 sb:fT rk rb
 la:Below rk l ra
 lb:Below rk l rb
def MG.swap(m:MG rk all l z v):MG rk all l v z:=#[((qN (l₁:=v)).append_left l).trans m.perm,m.sl,m.sb,m.sa,m.lb,m.la]
def MG.takeA(m:MG rk all l (p++G) F)(h:Below rk p F):MG rk all (l++p) G F:=by
 let#[h1,h2,J]:=pairwise_append.mp m.sa;show#[↑m.perm,pairwise_append.mpr #[m.sl,h1,λx B y v=>m.la x B y (qj _ v)],h2,m.sb,λx B y v=>?_,λx B y v=>?_]
 .show(qx.mp B).elim (λz=>m.la x z y (qi _ v)) λz=>J x z y v
 .show(qx.mp B).elim (λz=>m.lb x z y v) λz=>h x z y v
def MG.takeB(m:MG rk all l v (p++z))(h:Below rk p v):MG rk all (l++p) v z:=(m.swap.takeA h).swap
def MG.end(m:MG rk all l z v)(h:Below rk v z):(l++v++z).Perm all/\fT rk (l++v++z):=by rw[qp];show#[((qN (l₁:=v)).append_left l).trans m.perm,pairwise_append.mpr #[m.sl,pairwise_append.mpr #[m.sb,m.sa,h],λx B y F=>(qx.mp F).elim (m.lb x B y) (m.la x B y)]]
def AI{x y:Keyed}(h:rk x<=rk y)(hs:fT rk (y::l)):∀z∈y::l,rk x<=rk z:=λz v=>by
 rcases qA.mp v with rfl|v
 .show h
 .show Int.le_trans h ((pairwise_cons.mp hs).1 z v)
def Al{α:Type}{a:Array α}{i:Nat}(h:i<a.size):a.toList.drop i=a[i]::a.toList.drop (i+1):=by rw[List.drop_eq_getElem_cons h];simp
def CT{a:Array Keyed}{i n:Nat}(h:fT rk (a.toList.drop i))(hn:i+n<=a.size):Up rk a i (i+n):=λj k h1 h2 v=>by
 rw[Ae (show j<a.size by lia),Ae (show k<a.size by lia)];by_cases e:j=k
 .subst e;show Int.le_refl _
 .let:=pairwise_iff_getElem.mp h (j-i) (k-i) (by simp;lia) (by simp;lia) ∅;simpa[show i+(j-i)=j by lia,show i+(k-i)=k by lia] using this
def BG{left:Bool}{a:Array Keyed}{i n k:Nat}{key:Keyed}(v:kU rk left key a i n k k)(hn:i+n<=a.size)(hs:fT rk (key::l)):Below rk ((a.toList.drop i).take k) (key::l):=λx z=>by let#[j,B,rfl]:=List.mem_iff_getElem.mp z;let F:=v.2.1;rw[qH,qG,qV]at B;let h1:=v.2.2.1 j ∅;unfold dN at h1;rw[Ae (show i+j<a.size by lia)]at h1;show AI ?_ hs;simp;cases left<;>simp at h1<;>lia
def AC{Z:Type}{name:String}{Q:PUnit->Z->Prop}{st:Z}(h:Q ⟨⟩ st):wpS M A E s (liftM (rule name):StateT Z Sem PUnit) Q st:=wpS_lift (wpAny_rule #[rfl,h])
def bH(st v:SortSt):Prop:=kindOf v=kindOf st/\arrOf v=arrOf st/\pendingOf v=pendingOf st/\failedOf v=failedOf st
def bH.trans{st z v:SortSt}(h:bH st z)(k:bH z v):bH st v:=#[k.1.trans h.1,k.2.1.trans h.2.1,k.2.2.1.trans h.2.2.1,k.2.2.2.trans h.2.2.2]
def AJ{g:Nat}{Q:PUnit->SortSt->Prop}{st:SortSt}(h:∀v,bH st v->Q ⟨⟩ v):wpS M A E s (fF g) Q st:=wpS_modify (h _ #[rfl,rfl,rfl,rfl])
def gC(rk:Keyed->Int)(a b r:Array Keyed):Prop:=r.toList.Perm (a.toList++b.toList)/\fT rk r.toList
structure Go(rk:Keyed->Int)(a b o:Array Keyed)(i j:Nat):Prop where
 m:MG rk (a.toList++b.toList) o.toList (a.toList.drop i) (b.toList.drop j)
 i:i+1<a.size
 j:j<b.size
section
variable{a b o:Array Keyed}
def Fd(m:MG rk (a.toList++b.toList) o.toList (a.toList.drop i) (b.toList.drop j))(h:j=b.size):gC rk a b (gA a b o i j):=by
 let v:b.toList.drop j=[]:=by simp[h]
 rw[v]at m;let:=m.end λx z=>nomatch z
 unfold gC gA;simpa[v,take_of_length_le,h] using this
def Fc(m:MG rk (a.toList++b.toList) o.toList (a.toList.drop i) (b.toList.drop j))(h:i+1=a.size)(B:∀y∈b.toList,rk y<aW rk a (a.size-1)):gC rk a b (fin2 a b o i j):=by
 let:=m.end λx z y v=>by rw[Al (show i<a.size by lia),drop_of_length_le (by simp;lia),qu]at v;let h1:=B x (List.mem_of_mem_drop z);rw[show a.size-1=i by lia,Ae (show i<a.size by lia),<-v]at h1;show Int.le_of_lt h1
 unfold gC fin2;simpa[take_of_length_le] using this
def En(m:MG rk (a.toList++b.toList) o.toList (a.toList.drop i) (b.toList.drop j))(hi:i<a.size)(B:j<b.size)(h:rk b[j]<=rk a[i]):MG rk (a.toList++b.toList) (o.push b[j]).toList (a.toList.drop i) (b.toList.drop (j+1)):=by rw[Al B]at m;rw[toList_push];let v:=m.sa;rw[Al hi]at v;show MG.takeB (p:=[b[j]]) m λx z=>?_;rw[qu.mp z,Al hi];show AI h v
def FJ(m:MG rk (a.toList++b.toList) o.toList (a.toList.drop i) (b.toList.drop j))(hi:i<a.size)(z:j<b.size)(h:rk a[i]<=rk b[j]):MG rk (a.toList++b.toList) (o.push a[i]).toList (a.toList.drop (i+1)) (b.toList.drop j):=by rw[Al hi]at m;rw[toList_push];let v:=m.sb;rw[Al z]at v;show MG.takeA (p:=[a[i]]) m λx B=>?_;rw[qu.mp B,Al z];show AI h v
def Gv(m:MG rk (a.toList++b.toList) o.toList (a.toList.drop i) (b.toList.drop j))(hi:i<=a.size)(z:j<b.size)(B:kU rk false b[j] a i (a.size-i) k k):MG rk (a.toList++b.toList) (o++a.extract i (i+k)).toList (a.toList.drop (i+k)) (b.toList.drop j):=by let v:=m.sb;rw[Al z]at v;rw[<-take_append_drop k (a.toList.drop i),drop_drop]at m;rw[toList_append,toList_extract,extract_eq_take_drop,show i+k-i=k by lia];show MG.takeA m ?_;rw[Al z];show BG B ∅ v
def Gu(m:MG rk (a.toList++b.toList) o.toList (a.toList.drop i) (b.toList.drop j))(hi:i<a.size)(B:j<=b.size)(z:kU rk true a[i] b j (b.size-j) k k):MG rk (a.toList++b.toList) (o++b.extract j (j+k)).toList (a.toList.drop i) (b.toList.drop (j+k)):=by let v:=m.sa;rw[Al hi]at v;rw[<-take_append_drop k (b.toList.drop j),drop_drop]at m;rw[toList_append,toList_extract,extract_eq_take_drop,show j+k-j=k by lia];show MG.takeB m ?_;rw[Al hi];show BG z ∅ v
def gN{α:Type}(rk:Keyed->Int)(a b:Array Keyed)(n:Nat)(r:ForInStep (Option (Array Keyed)×Array Keyed×Nat×Nat×α)):Prop:=match r with
 |.done (some r,_)=>gC rk a b r
 |.done (none,o,i,j,_)=>Go rk a b o i j/\n<o.size
 |.yield (q,o,i,j,_)=>q=none/\Go rk a b o i j/\n<o.size
structure uV(C:Cmp M A E s κ ok rk)(a b:Array Keyed):Prop where
 oa:∀i(h:i<a.size),ok a[i]
 ob:∀i(h:i<b.size),ok b[i]
 hl:∀y∈b.toList,rk y<aW rk a (a.size-1)
def Gn{C:Cmp M A E s κ ok rk}(H:uV C a b){st:SortSt}(F:kindOf st=κ)(G:Go rk a b o i j)(r:Option (Array Keyed)):wpS M A E s (ff a b g (r,o,i,j,c,d)) (λr B=>B=st/\gN rk a b o.size r) st:=by
 let hi:i<a.size:=by let:=G.i;lia
 let J:=G.j;show wpS_bind (Ad G.j ?_);show wpS_bind (Ad hi ?_);show wpS_bind (C.lt _ _ _ _ F (H.ob _ G.j) (H.oa _ hi) ?_);by_cases v:rk b[j]<rk a[i]
 .rw[qR v];show wpS_bind (Ad G.j ?_);let m:=En G.m hi G.j (Int.le_of_lt v);let sz:o.size<(o.push b[j]).size:=by simp
  by_cases h1:j+1=b.size
  .simp only[h1,beq_self_eq_true];show wpS_pure #[rfl,h1▸Fd m h1]
  .simp[beq_eq_false_iff_ne.mpr h1,false_eq_true,if_false];let z:Go rk a b (o.push b[j]) i (j+1):=#[m,G.i,by let:=G.j;lia]
   split
   .show wpS_pure #[rfl,z,sz]
   .show wpS_pure #[rfl,rfl,z,sz]
 .rw[qS v];show wpS_bind (Ad hi ?_);let m:=FJ G.m hi G.j ∅;let sz:o.size<(o.push a[i]).size:=by simp
  by_cases h1:i+1+1=a.size
  .simp only[h1,beq_self_eq_true];show wpS_pure #[rfl,Fc m h1 H.hl]
  .simp[beq_eq_false_iff_ne.mpr h1,false_eq_true,if_false];let z:Go rk a b (o.push a[i]) (i+1) j:=#[m,by let:=G.i;lia,G.j]
   split
   .show wpS_pure #[rfl,z,sz]
   .show wpS_pure #[rfl,rfl,z,sz]
def Dg{left:Bool}{key:Keyed}{v:Array Keyed}{base:Nat}(B:kU rk left key v base n k k)(z:k<n)(hn:base+n<=v.size):rk key<=rk (v[base+k]'∅):=by let:=B.2.2.2 k (q8 _) z;unfold dN at this;rw[Ae (show base+k<v.size by lia)]at this;cases left<;>simp at this<;>lia
def Ew{C:Cmp M A E s κ ok rk}(H:uV C a b){st:SortSt}(m:MG rk (a.toList++b.toList) o.toList (a.toList.drop i) (b.toList.drop j))(hi:i+1<a.size)(z:j<b.size)(h:rk a[i]<=rk b[j])(hn:n<=o.size):wpS M A E s (ck a b g c d i o j) (λr v=>v=st/\gN rk a b n r) st:=by
 show wpS_bind (Ad (show i<a.size by lia) ?_);let m:=FJ m (show i<a.size by lia) z h;let sz:n<(o.push a[i]).size:=by simp;lia
 by_cases h1:i+1+1=a.size
 .simp only[h1,beq_self_eq_true];show wpS_pure #[rfl,Fc m h1 H.hl]
 .simp[beq_eq_false_iff_ne.mpr h1,false_eq_true,if_false];let B:Go rk a b (o.push a[i]) (i+1) j:=#[m,∅,z]
  split
  .show wpS_pure #[rfl,B,sz]
  .show wpS_pure #[rfl,rfl,B,sz]
def Ex{C:Cmp M A E s κ ok rk}(H:uV C a b){st:SortSt}(B:kindOf st=κ)(m:MG rk (a.toList++b.toList) o.toList (a.toList.drop i) (b.toList.drop j))(hi:i+1<a.size)(F:j<b.size)(h:rk b[j]<=rk a[i])(hn:n<=o.size):wpS M A E s (cn a b g c d j o i) (λr z=>z=st/\gN rk a b n r) st:=by
 show wpS_bind (Ad F ?_);let m:=En m (show i<a.size by lia) F h;let sz:n<=(o.push b[j]).size:=by simp;lia
 by_cases h1:j+1=b.size
 .simp only[h1,beq_self_eq_true];show wpS_pure #[rfl,h1▸Fd m h1]
 .simp only[beq_eq_false_iff_ne.mpr h1,if_false];show wpS_bind (Ad (show i<a.size by lia) ?_);show wpS_bind (Ar C (H.oa _ _) H.ob ∅ ∅ (CT m.sb ∅) B λk v=>?_);let J:=v.2.1;by_cases G:k>0
  .simp only[G];let m2:=Gu m (show i<a.size by lia) ∅ v;by_cases h2:j+1+k=b.size
   .simp only[h2,beq_self_eq_true];show wpS_pure #[rfl,h2▸Fd m2 h2]
   .simp only[beq_eq_false_iff_ne.mpr h2,if_false];show Ew H m2 hi ∅ (Dg v ∅ ∅) (by simp;lia)
  .simp;obtain rfl:k=0:=by lia
   show Ew H m hi ∅ (Dg v ∅ ∅) sz
def Gm{C:Cmp M A E s κ ok rk}(H:uV C a b){st:SortSt}(B:kindOf st=κ)(G:Go rk a b o i j):wpS M A E s (lo1 a b o i j c d g) (λr v=>bH st v/\gN rk a b o.size r) st:=by
 have hi:=G.i;let J:=G.j;show wpS_bind (AJ λY ks=>?_);show wpS_bind (Ad J ?_);show wpS_bind (Ar C (H.ob _ _) H.oa ∅ ∅ (CT G.m.sa ∅) (ks.1.trans B) λk O=>?_);let L:i+k<a.size:=by
  rcases lt_or_ge (i+k) a.size with h|h
  .show h
  .let h1:=O.2.2.1 (a.size-1-i) ∅;let h2:=H.hl b[j] (by simp);unfold dN at h1;rw[show i+(a.size-1-i)=a.size-1 by lia]at h1;lia
 let F:=Dg O ∅ ∅;by_cases k0:k>0
 .simp only[k0];let m2:=Gv G.m ∅ J O;by_cases h1:i+k+1=a.size
  .simp only[h1,beq_self_eq_true];show wpS_pure #[ks,Fc m2 h1 H.hl]
  .simp only[beq_eq_false_iff_ne.mpr h1,beq_eq_false_iff_ne.mpr (show i+k≠a.size by lia),if_false];show wpS_mono (Ex (n:=o.size) H (ks.1.trans B) m2 ∅ J F (by simp)) λr v z=>#[z.1▸ks,z.2]
 .simp;obtain rfl:k=0:=by lia
  show wpS_mono (Ex (n:=o.size) H (ks.1.trans B) G.m ∅ J F (q8 _)) λr v z=>#[z.1▸ks,z.2]
def xH{α:Type}(rk:Keyed->Int)(a b:Array Keyed)(n:Nat)(r:ForInStep (Option (Array Keyed)×Array Keyed×Nat×Nat×α)):Prop:=match r with
 |.done c=>∃r,c.1=some r/\gC rk a b r
 |.yield c=>c.1=none/\Go rk a b c.2.1 c.2.2.1 c.2.2.2.1/\n<c.2.1.size
def Gk{C:Cmp M A E s κ ok rk}(H:uV C a b){st st':SortSt}(hst:kindOf st=κ)(ks:bH st st')(G:Go rk a b o i j)(ht:0<t)(q:Option (Array Keyed)):wpS M A E s (cj a b t (q,o,i,j,g)) (λr st'=>bH st st'/\xH rk a b o.size r) st':=by
 refine wpS_bind (wpS_mono (wpS_forRange (I:=λ_ c st1=>c.1=none/\st1=st'/\Go rk a b c.2.1 c.2.2.1 c.2.2.2.1/\o.size<=c.2.1.size)
  (Q:=λc st1=>st1=st'/\((∃r,c.1=some r/\gC rk a b r)\/c.1=none/\Go rk a b c.2.1 c.2.2.1 c.2.2.2.1/\o.size<=c.2.1.size)) ?step1 (λc st1⟨h1,h2,h3,h4⟩=>#[h2,.inr #[h1,h3,h4]]) #[rfl,rfl,G,q8 _]) ?post1)
 case step1=>
  rintro y ⟨q,o1,i1,j1,c1,d1⟩ st1 _ _ ⟨_,rfl,G1,ho1⟩;show wpS_mono (Gn (g:=g) (c:=c1) (d:=d1) H (ks.1.trans hst) G1 q) λr st2⟨e,z⟩=>?_;subst e;unfold gN at z;split at z
  .show#[rfl,.inl #[_,rfl,z]]
  .show#[rfl,.inr #[rfl,z.1,le_of_lt (lt_of_le_of_lt ho1 z.2)]]
  .show#[z.1,rfl,z.2.1,le_of_lt (lt_of_le_of_lt ho1 z.2.2)]
 rintro⟨q,o1,i1,j1,c1,d1⟩ st1 ⟨rfl,⟨r,hq,hr⟩|⟨hq,G1,ho1⟩⟩
 .cases hq;show wpS_pure #[ks,r,rfl,hr]
 cases hq;show wpS_bind (AC ?_);refine wpS_bind (wpS_mono (wpS_forRange (I:=λy c st2=>c.1=none/\bH st st2/\Go rk a b c.2.1 c.2.2.1 c.2.2.2.1/\o.size<=c.2.1.size/\(0<y->o.size<c.2.1.size))
  (Q:=λc st2=>bH st st2/\((∃r,c.1=some r/\gC rk a b r)\/c.1=none/\Go rk a b c.2.1 c.2.2.1 c.2.2.2.1/\o.size<c.2.1.size)) ?step2 (λc st2⟨h1,h2,h3,_,h5⟩=>#[h2,.inr #[h1,h3,h5 ∅]]) #[rfl,ks,G1,ho1,λz=>absurd z (lt_irrefl 0)]) ?post2)
 case step2=>
  rintro y ⟨q,o2,i2,j2,g2,c2,d2⟩ st2 _ _ ⟨_,k2,G2,ho2,_⟩;show wpS_mono (Gm (c:=c2) (d:=d2) H (k2.1.trans hst) G2) λr st3⟨k3,z⟩=>?_;let k3:=k2.trans k3;unfold gN at z;split at z
  .show#[k3,.inl #[_,rfl,z]]
  .show#[k3,.inr #[rfl,z.1,lt_of_le_of_lt ho2 z.2]]
  .show#[z.1,k3,z.2.1,le_of_lt (lt_of_le_of_lt ho2 z.2.2),λ_=>lt_of_le_of_lt ho2 z.2.2]
 rintro⟨q,o2,i2,j2,g2,c2,d2⟩ st2 ⟨k2,⟨r,hq,hr⟩|⟨hq,G2,ho2⟩⟩
 .cases hq;show wpS_pure #[k2,r,rfl,hr]
 cases hq;show wpS_bind (AJ λst3 k3=>wpS_pure #[k2.trans k3,rfl,G2,ho2])
def Co{C:Cmp M A E s κ ok rk}(H:uV C a b)(sa:fT rk a.toList)(sb:fT rk b.toList)(ha:0<a.size)(hb:0<b.size)(h0:rk b[0]<=rk a[0])
  {Q:Array Keyed->SortSt->Prop}{st:SortSt}(hst:kindOf st=κ)(h:∀r st',gC rk a b r->bH st st'->Q r st'):wpS M A E s (fL a b) Q st:=by
 have m0:MG rk (a.toList++b.toList) [b[0]].toArray.toList (a.toList.drop 0) (b.toList.drop 1):=by
  let m:MG rk (a.toList++b.toList) (#[]:Array Keyed).toList (a.toList.drop 0) (b.toList.drop 0):=#[by simp,List.Pairwise.nil,sa,sb,(λ_ z=>nomatch z),λ_ z=>nomatch z]
  show En m ha hb h0
 rw[CB];show wpS_bind (AC ?_);show wpS_bind (Ad hb ?_);by_cases h1:1=b.size
 .rw[q4 (by rw[h1];show beq_self_eq_true _)];show wpS_pure (h _ _ (Fd m0 h1) #[rfl,rfl,rfl,rfl])
 rw[q5 ↑h1];by_cases h2:0+1=a.size
 .rw[q4 (by rw[h2];show beq_self_eq_true _)];show wpS_pure (h _ _ (Fc m0 h2 H.hl) #[rfl,rfl,rfl,rfl])
 rw[q5 ↑h2];show wpS_bind (wpS_get ?_);refine wpS_bind (wpS_mono (wpS_forRange (I:=λx c st'=>c.1=none/\bH st st'/\Go rk a b c.2.1 c.2.2.1 c.2.2.2.1/\x<c.2.1.size)
  (Q:=λc st'=>bH st st'/\∃r,c.1=some r/\gC rk a b r) ?step ?fin #[rfl,#[rfl,rfl,rfl,rfl],#[m0,∅,∅],by simp]) ?post)
 case fin=>rintro⟨r,o,i,j,g⟩ st' ⟨_,_,G,hx⟩;let h1:=G.m.perm.length_eq;simp at h1 hx h2;lia
 case post=>rintro⟨q,o,i,j,g⟩ st' ⟨ks,r,e,hr⟩;cases e;show wpS_pure (h r st' hr ks)
 case step=>
  rintro x ⟨q,o,i,j,g⟩ st' _ hx ⟨_,ks,G,ho⟩;show wpS_mono (Gk H hst ks G ∅ q) λr st2⟨k,z⟩=>?_;cases r with
  |done c=>show#[k,z]
  |yield c=>show#[z.1,k,z.2.1,lt_of_le_of_lt ho z.2.2]
end
def fN:Array Keyed->Array Keyed->StateT SortSt Sem (Array Keyed):=sortPriv%PySem.Builtin.mergeHi
def mB(a b o:Array Keyed)(i j:Nat):Array Keyed:=a.extract 0 i++b.extract 0 j++o.reverse
def uE(a b o:Array Keyed)(i j:Nat):Array Keyed:=b.extract 0 j++a.extract 0 i++o.reverse
abbrev Mh:=Nat×Nat×Array Keyed×Nat×Nat×Nat
def dg(a b:Array Keyed)(g c d i j:Nat)(o:Array Keyed):StateT SortSt Sem (LS Mh):=do
 let x<-elem' a (i-1)
 if i-1==0 then return .done (some (mB a b (o.push x) (i-1) j),i-1,j,o.push x,g,c,d)
 if c<7&&d<7 then return .done (none,i-1,j,o.push x,g,c,d)
 return .yield (none,i-1,j,o.push x,g,c,d)
def uC(a b:Array Keyed)(g c d j i:Nat)(o:Array Keyed):StateT SortSt Sem (LS Mh):=do
 let x<-elem' b (j-1)
 if j-1==1 then return .done (some (uE a b (o.push x) i (j-1)),i,j-1,o.push x,g,c,d)
 match<-cV true (<-elem' a (i-1)) b 0 (j-1) (j-1-1)with
 |some p=>
  if j-1-p>0 then
   if p==1 then return .done (some (uE a b (o.push x++(b.extract p (j-1)).reverse) i p),i,p,o.push x++(b.extract p (j-1)).reverse,g,c,j-1-p)
   if p==0 then return .done (some (mB a b (o.push x++(b.extract p (j-1)).reverse) i p),i,p,o.push x++(b.extract p (j-1)).reverse,g,c,j-1-p)
   dg a b g c (j-1-p) i p (o.push x++(b.extract p (j-1)).reverse)
  else dg a b g c (j-1-p) i (j-1) (o.push x)
 |_=>return .done (some (mB a b (o.push x) i (j-1)),i,j-1,o.push x,g,c,d)
def yO(a b:Array Keyed)(i j:Nat)(o:Array Keyed)(c d g:Nat):StateT SortSt Sem (LS Mh):=do
 fF g
 match<-cV false (<-elem' b (j-1)) a 0 i (i-1)with
 |some p=>
  if i-p>0 then
   if p==0 then return .done (some (mB a b (o++(a.extract p i).reverse) p j),p,j,o++(a.extract p i).reverse,g,i-p,d)
   uC a b g (i-p) d j p (o++(a.extract p i).reverse)
  else uC a b g (i-p) d j i o
 |_=>return .done (some (mB a b o i j),i,j,o,g,c,d)
def gk(a b:Array Keyed)(g:Nat)(s:Option (Array Keyed)×Nat×Nat×Array Keyed×Nat×Nat):StateT SortSt Sem (LS (Nat×Nat×Array Keyed×Nat×Nat)):=do
 match<-lt' (<-elem' b (s.2.2.1-1)) (<-elem' a (s.2.1-1))with
 |some y=>
  if y then
   let x<-elem' a (s.2.1-1)
   if s.2.1-1==0 then return .done (some (mB a b (s.2.2.2.1.push x) (s.2.1-1) s.2.2.1),s.2.1-1,s.2.2.1,s.2.2.2.1.push x,s.2.2.2.2.1+1,0)
   if s.2.2.2.2.1+1≥g then return .done (none,s.2.1-1,s.2.2.1,s.2.2.2.1.push x,s.2.2.2.2.1+1,0)
   return .yield (none,s.2.1-1,s.2.2.1,s.2.2.2.1.push x,s.2.2.2.2.1+1,0)
  else
   let x<-elem' b (s.2.2.1-1)
   if s.2.2.1-1==1 then return .done (some (uE a b (s.2.2.2.1.push x) s.2.1 (s.2.2.1-1)),s.2.1,s.2.2.1-1,s.2.2.2.1.push x,0,s.2.2.2.2.2+1)
   if s.2.2.2.2.2+1≥g then return .done (none,s.2.1,s.2.2.1-1,s.2.2.2.1.push x,0,s.2.2.2.2.2+1)
   return .yield (none,s.2.1,s.2.2.1-1,s.2.2.2.1.push x,0,s.2.2.2.2.2+1)
 |_=>return .done (some (mB a b s.2.2.2.1 s.2.1 s.2.2.1),s.2.1,s.2.2.1,s.2.2.2.1,s.2.2.2.2.1,s.2.2.2.2.2)
def yN(a b:Array Keyed)(s:Option (Array Keyed)×Mh):StateT SortSt Sem (LS Mh):=yO a b s.2.1 s.2.2.1 s.2.2.2.1 s.2.2.2.2.2.1 s.2.2.2.2.2.2 (if s.2.2.2.2.1>1 then s.2.2.2.2.1-1 else s.2.2.2.2.1)
def df(a b:Array Keyed)(t:Nat)(s:Option (Array Keyed)×Nat×Nat×Array Keyed×Nat):StateT SortSt Sem (LS (Nat×Nat×Array Keyed×Nat)):=
 (forIn [:t] (none,s.2.1,s.2.2.1,s.2.2.2.1,0,0) λ_=>gk a b s.2.2.2.2)>>=λr=>Break.runK.match_1 (λ_=>StateT SortSt Sem (LS (Nat×Nat×Array Keyed×Nat))) r.1 (λx=>pure (.done (some x,r.2.1,r.2.2.1,r.2.2.2.1,s.2.2.2.2))) λ_=>do
  rule "list.sort.gallop"
  (forIn [:t] (none,r.2.1,r.2.2.1,r.2.2.2.1,s.2.2.2.2+1,r.2.2.2.2) λ_=>yN a b)>>=λq=>Break.runK.match_1 (λ_=>StateT SortSt Sem (LS (Nat×Nat×Array Keyed×Nat))) q.1 (λx=>pure (.done (some x,q.2.1,q.2.2.1,q.2.2.2.1,q.2.2.2.2.1))) λ_=>do
   fF (q.2.2.2.2.1+1)
   return .yield (none,q.2.1,q.2.2.1,q.2.2.2.1,q.2.2.2.2.1+1)
def CC(a b:Array Keyed):fN a b=(do
 rule "list.sort.merge-hi"
 let x<-elem' a (a.size-1)
 if a.size-1==0 then return mB a b [x].toArray (a.size-1) b.size
 if b.size==1 then return uE a b [x].toArray (a.size-1) b.size
 let s<-get
 (forIn [:a.size+b.size] (none,a.size-1,b.size,[x].toArray,gallopOf s) λ_=>df a b (a.size+b.size))>>=λr=>Break.runK.match_1 (λ_=>StateT SortSt Sem (Array Keyed)) r.1 (λr=>pure r) λ_=>unsupported "internal:list.sort.merge-bound"):=by
 let e:∀(s:Option (Array Keyed)×Mh),yN a b s=(if s.2.2.2.2.1>1 then yO a b s.2.1 s.2.2.1 s.2.2.2.1 s.2.2.2.2.2.1 s.2.2.2.2.2.2 (s.2.2.2.2.1-1)else yO a b s.2.1 s.2.2.1 s.2.2.2.1 s.2.2.2.2.2.1 s.2.2.2.2.2.2 s.2.2.2.2.1):=λs=>by unfold yN;by_cases hg:s.2.2.2.2.1>1<;>simp[hg,if_true,if_false]
 unfold df;rw[show yN a b=_ from funext e];rfl
def ng(rk:Keyed->Int)(x:Keyed):Int:=-rk x
@[inline]def MH(rk:Keyed->Int)(a b o:Array Keyed)(i j:Nat):Prop:=MG (ng rk) (a.toList++b.toList) o.toList (a.toList.take i).reverse (b.toList.take j).reverse
def Ak{α:Type}{a:Array α}{i:Nat}(v:0<i)(h:i<=a.size):(a.toList.take i).reverse=a[i-1]::(a.toList.take (i-1)).reverse:=by
 obtain⟨m,rfl⟩:∃m,i=m+1:=#[i-1,∅]
 rw[List.take_succ_eq_append_getElem (by simp;lia)];simp
def Ce{l:List Keyed}(h:fT (ng rk) l):fT rk l.reverse:=by unfold fT at*;rw[List.pairwise_reverse];show h.imp λ{x y} z=>by unfold ng at z;lia
def Dt(m:MH rk a b o i j)(h:i=0):gC rk a b (mB a b o i j):=by
 let#[p,q]:=MG.end m λx z y v=>by subst h;simp at v
 let e:(mB a b o i j).toList=(o.toList++(b.toList.take j).reverse++(a.toList.take i).reverse).reverse:=by unfold mB;simp
 unfold gC;rw[e];show#[(reverse_perm _).trans p,Ce q]
def Ds(m:MH rk a b o i j)(B:0<b.size)(h:j=1)(F:∀x∈a.toList,rk b[0]<rk x):gC rk a b (uE a b o i j):=by
 obtain⟨p,q⟩:=MG.end (MG.swap m) λx z y v=>by
  subst h;rw[Ak ⋯ B]at v;obtain rfl:y=b[0]:=↑v
  let:=F x (mem_of_mem_take (List.mem_reverse.mp z));unfold ng;lia
 let e:(uE a b o i j).toList=(o.toList++(a.toList.take i).reverse++(b.toList.take j).reverse).reverse:=by unfold uE;simp
 unfold gC;rw[e];show#[(reverse_perm _).trans p,Ce q]
def Dc(m:MH rk a b o i j)(F:0<i)(hi:i<=a.size)(z:0<j)(B:j<=b.size)(h:rk b[j-1]<=rk a[i-1]):MH rk a b (o.push a[i-1]) (i-1) j:=by unfold MH at*;let v:=m.sb;rw[Ak z B]at v;rw[Ak F hi]at m;rw[toList_push];show MG.takeA (p:=[a[i-1]]) m λx G=>?_;rw[qu.mp G,Ak z B];show AI (by unfold ng;lia) v
def ED(m:MH rk a b o i j)(z:0<i)(hi:i<=a.size)(B:0<j)(G:j<=b.size)(h:rk a[i-1]<=rk b[j-1]):MH rk a b (o.push b[j-1]) i (j-1):=by unfold MH at*;let v:=m.sa;rw[Ak z hi]at v;rw[Ak B G]at m;rw[toList_push];show MG.takeB (p:=[b[j-1]]) m λx F=>?_;rw[qu.mp F,Ak z hi];show AI (by unfold ng;lia) v
def BW{α:Type}{a:Array α}{p i:Nat}(v:p<=i):(a.toList.take i).reverse=(a.extract p i).reverse.toList++(a.toList.take p).reverse:=by
 let:a.toList.take i=a.toList.take p++(a.toList.drop p).take (i-p):=by rw[<-List.take_add,show p+(i-p)=i by lia]
 simp_all
def Dl{a:Array Keyed}{i:Nat}(h:fT (ng rk) (a.toList.take i).reverse)(hi:i<=a.size):Up rk a 0 (0+i):=λx y h1 h2 v=>by
 rw[Ae (show x<a.size by lia),Ae (show y<a.size by lia)];by_cases e:x=y
 .subst e;show Int.le_refl _
 .let:=pairwise_iff_getElem.mp (Ce h) x y (by simp;lia) (by simp;lia) ∅;simpa using this
def Bt{left:Bool}{a:Array Keyed}{p i:Nat}{key:Keyed}{l:List Keyed}(F:kU rk left key a 0 i p p)(hi:i<=a.size)(hs:fT (ng rk) (key::l)):Below (ng rk) (a.extract p i).reverse.toList (key::l):=λx B=>by
 let v:x∈(a.toList.drop p).take (i-p):=by simpa[extract_eq_take_drop] using B
 let#[y,z,rfl]:=List.mem_iff_getElem.mp v;rw[qH,qG]at z;let h1:=F.2.2.2 (p+y) ∅ ∅;unfold dN at h1;rw[zero_add,Ae (show p+y<a.size by lia)]at h1;show AI ?_ hs;simp;unfold ng;cases left<;>simp at h1<;>lia
def Cj{left:Bool}{key:Keyed}{v:Array Keyed}{p n:Nat}(z:kU rk left key v 0 n p p)(B:0<p)(hn:n<=v.size):rk (v[p-1]'(by let:=z.2.1;lia))<=rk key:=by let F:=z.2.1;let:=z.2.2.1 (p-1) ∅;unfold dN at this;rw[zero_add,Ae (show p-1<v.size by lia)]at this;cases left<;>simp at this<;>lia
def Fj(m:MH rk a b o i j)(hi:i<=a.size)(z:0<j)(B:j<=b.size){p:Nat}(F:kU rk false b[j-1] a 0 i p p):MH rk a b (o++(a.extract p i).reverse) p j:=by unfold MH at*;let v:=m.sb;rw[Ak z B]at v;rw[BW F.2.1]at m;rw[toList_append];show MG.takeA m ?_;rw[Ak z B];show Bt F hi v
def Fi(m:MH rk a b o i j)(z:0<i)(hi:i<=a.size)(F:j<=b.size){p:Nat}(B:kU rk true a[i-1] b 0 j p p):MH rk a b (o++(b.extract p j).reverse) i p:=by unfold MH at*;let v:=m.sa;rw[Ak z hi]at v;rw[BW B.2.1]at m;rw[toList_append];show MG.takeB m ?_;rw[Ak z hi];show Bt B F v
structure Gh(rk:Keyed->Int)(a b o:Array Keyed)(i j:Nat):Prop where
 m:MH rk a b o i j
 i0:0<i
 i:i<=a.size
 j0:1<j
 j:j<=b.size
def gM{α:Type}(rk:Keyed->Int)(a b:Array Keyed)(n:Nat)(r:ForInStep (Option (Array Keyed)×Nat×Nat×Array Keyed×α)):Prop:=match r with
 |.done (some r,_)=>gC rk a b r
 |.done (none,i,j,o,_)=>Gh rk a b o i j/\n<o.size
 |.yield (q,i,j,o,_)=>q=none/\Gh rk a b o i j/\n<o.size
structure uW(C:Cmp M A E s κ ok rk)(a b:Array Keyed):Prop where
 oa:∀i(h:i<a.size),ok a[i]
 ob:∀i(h:i<b.size),ok b[i]
 b0:0<b.size
 h0:∀x∈a.toList,rk b[0]<rk x
def Gr{C:Cmp M A E s κ ok rk}(H:uW C a b){st:SortSt}(J:kindOf st=κ)(G:Gh rk a b o i j)(r:Option (Array Keyed)):wpS M A E s (gk a b g (r,i,j,o,c,d)) (λr B=>B=st/\gM rk a b o.size r) st:=by
 let#[m,F,hi,O,L]:=G;show wpS_bind (Ad (show j-1<b.size by lia) ?_);show wpS_bind (Ad (show i-1<a.size by lia) ?_);show wpS_bind (C.lt _ _ _ _ J (H.ob _ _) (H.oa _ _) ?_);by_cases v:rk b[j-1]<rk a[i-1]
 .rw[qR v];show wpS_bind (Ad (show i-1<a.size by lia) ?_);let m:=Dc m F hi ∅ L (Int.le_of_lt v);let sz:o.size<(o.push a[i-1]).size:=by simp
  by_cases h1:i-1=0
  .rw[q4 (by simp[h1])];show wpS_pure #[rfl,Dt m h1]
  .rw[q5 ↑h1];let z:Gh rk a b (o.push a[i-1]) (i-1) j:=#[m,∅,∅,O,L]
   split
   .show wpS_pure #[rfl,z,sz]
   .show wpS_pure #[rfl,rfl,z,sz]
 .rw[qS v];show wpS_bind (Ad (show j-1<b.size by lia) ?_);let m:=ED m F hi ∅ L ∅;let sz:o.size<(o.push b[j-1]).size:=by simp
  by_cases h1:j-1=1
  .rw[q4 (by simp[h1])];show wpS_pure #[rfl,Ds m H.b0 h1 H.h0]
  .rw[q5 ↑h1];let z:Gh rk a b (o.push b[j-1]) i (j-1):=#[m,F,hi,∅,∅]
   split
   .show wpS_pure #[rfl,z,sz]
   .show wpS_pure #[rfl,rfl,z,sz]
def EE{C:Cmp M A E s κ ok rk}(H:uW C a b){st:SortSt}(m:MH rk a b o i j)(G:0<i)(hi:i<=a.size)(F:1<j)(z:j<=b.size)(h:rk b[j-1]<=rk a[i-1])(hn:n<=o.size):wpS M A E s (dg a b g c d i j o) (λr v=>v=st/\gM rk a b n r) st:=by
 show wpS_bind (Ad (show i-1<a.size by lia) ?_);let m:=Dc m G hi ∅ z h;let sz:n<(o.push a[i-1]).size:=by simp;lia
 by_cases h1:i-1=0
 .rw[q4 (by simp[h1])];show wpS_pure #[rfl,Dt m h1]
 .rw[q5 ↑h1];let B:Gh rk a b (o.push a[i-1]) (i-1) j:=#[m,∅,∅,F,z]
  split
  .show wpS_pure #[rfl,B,sz]
  .show wpS_pure #[rfl,rfl,B,sz]
def EF{C:Cmp M A E s κ ok rk}(H:uW C a b){st:SortSt}(G:kindOf st=κ)(m:MH rk a b o i j)(v:0<i)(hi:i<=a.size)(j0:1<j)(Y:j<=b.size)(h:rk a[i-1]<=rk b[j-1])(hn:n<=o.size):wpS M A E s (uC a b g c d j i o) (λr F=>F=st/\gM rk a b n r) st:=by
 show wpS_bind (Ad (show j-1<b.size by lia) ?_);let m:=ED m v hi ∅ Y h;let sz:n<=(o.push b[j-1]).size:=by simp;lia
 by_cases h1:j-1=1
 .rw[q4 (by simp[h1])];show wpS_pure #[rfl,Ds m H.b0 h1 H.h0]
 .rw[q5 ↑h1];show wpS_bind (Ad (show i-1<a.size by lia) ?_);show wpS_bind (Ar C (H.oa _ _) H.ob ∅ ∅ (Dl m.sb ∅) G λp B=>?_);let hp:=B.2.1;let O:0<p:=by
   rcases Nat.eq_zero_or_pos p with z|z
   .let h2:=B.2.2.2 0 ∅ ∅;let h3:=H.h0 a[i-1] (by simp);unfold dN at h2;rw[Ae (show 0+0<b.size by lia)]at h2;lia
   .show z
  let L:=Cj B O ∅;by_cases J:j-1-p>0
  .simp only[J,if_true];let m2:=Fi m v hi ∅ B;by_cases h2:p=1
   .rw[q4 (by simp[h2])];show wpS_pure #[rfl,Ds m2 H.b0 h2 H.h0]
   .rw[q5 ↑h2,q5 (by simp;lia)];show EE H m2 v hi ∅ ∅ L (by simp;lia)
  .simp only[J];obtain rfl:p=j-1:=by lia
   show EE H m v hi ∅ ∅ L sz
def Gq{C:Cmp M A E s κ ok rk}(H:uW C a b){st:SortSt}(B:kindOf st=κ)(G:Gh rk a b o i j):wpS M A E s (yO a b i j o c d g) (λr v=>bH st v/\gM rk a b o.size r) st:=by
 let#[m,Y,hi,O,J]:=G;show wpS_bind (AJ λh2 ks=>?_);show wpS_bind (Ad (show j-1<b.size by lia) ?_);show wpS_bind (Ar C (H.ob _ _) H.oa ∅ ∅ (Dl m.sa hi) (ks.1.trans B) λp F=>?_);let hp:=F.2.1;by_cases L:i-p>0
 .simp[L,if_true];let m2:=Fj m hi ∅ J F;by_cases h1:p=0
  .rw[q4 (by simp[h1])];show wpS_pure #[ks,Dt m2 h1]
  .rw[q5 ↑h1];show wpS_mono (EF (n:=o.size) H (ks.1.trans B) m2 ∅ ∅ O J (Cj F ∅ hi) (by simp)) λr v z=>#[z.1▸ks,z.2]
 .simp only[L];obtain rfl:p=i:=by lia
  show wpS_mono (EF (n:=o.size) H (ks.1.trans B) m Y hi O J (Cj F Y hi) (q8 _)) λr v z=>#[z.1▸ks,z.2]
def xG{α:Type}(rk:Keyed->Int)(a b:Array Keyed)(n:Nat)(r:ForInStep (Option (Array Keyed)×Nat×Nat×Array Keyed×α)):Prop:=match r with
 |.done c=>∃r,c.1=some r/\gC rk a b r
 |.yield c=>c.1=none/\Gh rk a b c.2.2.2.1 c.2.1 c.2.2.1/\n<c.2.2.2.1.size
def Gp{C:Cmp M A E s κ ok rk}(H:uW C a b){st st':SortSt}(hst:kindOf st=κ)(ks:bH st st')(G:Gh rk a b o i j)(ht:0<t)(q:Option (Array Keyed)):wpS M A E s (df a b t (q,i,j,o,g)) (λr st'=>bH st st'/\xG rk a b o.size r) st':=by
 refine wpS_bind (wpS_mono (wpS_forRange (I:=λ_ c st1=>c.1=none/\st1=st'/\Gh rk a b c.2.2.2.1 c.2.1 c.2.2.1/\o.size<=c.2.2.2.1.size)
  (Q:=λc st1=>st1=st'/\((∃r,c.1=some r/\gC rk a b r)\/c.1=none/\Gh rk a b c.2.2.2.1 c.2.1 c.2.2.1/\o.size<=c.2.2.2.1.size)) ?step1 (λc st1⟨h1,h2,h3,h4⟩=>#[h2,.inr #[h1,h3,h4]]) #[rfl,rfl,G,q8 _]) ?post1)
 case step1=>
  rintro y ⟨q,i1,j1,o1,c1,d1⟩ st1 _ _ ⟨_,rfl,G1,ho1⟩;show wpS_mono (Gr (g:=g) (c:=c1) (d:=d1) H (ks.1.trans hst) G1 q) λr st2⟨e,z⟩=>?_;subst e;unfold gM at z;split at z
  .show#[rfl,.inl #[_,rfl,z]]
  .show#[rfl,.inr #[rfl,z.1,le_of_lt (lt_of_le_of_lt ho1 z.2)]]
  .show#[z.1,rfl,z.2.1,le_of_lt (lt_of_le_of_lt ho1 z.2.2)]
 rintro⟨q,i1,j1,o1,c1,d1⟩ st1 ⟨rfl,⟨r,hq,hr⟩|⟨hq,G1,ho1⟩⟩
 .cases hq;show wpS_pure #[ks,r,rfl,hr]
 cases hq;show wpS_bind (AC ?_);refine wpS_bind (wpS_mono (wpS_forRange (I:=λy c st2=>c.1=none/\bH st st2/\Gh rk a b c.2.2.2.1 c.2.1 c.2.2.1/\o.size<=c.2.2.2.1.size/\(0<y->o.size<c.2.2.2.1.size))
  (Q:=λc st2=>bH st st2/\((∃r,c.1=some r/\gC rk a b r)\/c.1=none/\Gh rk a b c.2.2.2.1 c.2.1 c.2.2.1/\o.size<c.2.2.2.1.size)) ?step2 (λc st2⟨h1,h2,h3,_,h5⟩=>#[h2,.inr #[h1,h3,h5 ∅]]) #[rfl,ks,G1,ho1,λz=>absurd z (lt_irrefl 0)]) ?post2)
 case step2=>
  rintro y ⟨q,i2,j2,o2,g2,c2,d2⟩ st2 _ _ ⟨_,k2,G2,ho2,_⟩;show wpS_mono (Gq (c:=c2) (d:=d2) H (k2.1.trans hst) G2) λr st3⟨k3,z⟩=>?_;let k3:=k2.trans k3;unfold gM at z;split at z
  .show#[k3,.inl #[_,rfl,z]]
  .show#[k3,.inr #[rfl,z.1,lt_of_le_of_lt ho2 z.2]]
  .show#[z.1,k3,z.2.1,le_of_lt (lt_of_le_of_lt ho2 z.2.2),λ_=>lt_of_le_of_lt ho2 z.2.2]
 rintro⟨q,i2,j2,o2,g2,c2,d2⟩ st2 ⟨k2,⟨r,hq,hr⟩|⟨hq,G2,ho2⟩⟩
 .cases hq;show wpS_pure #[k2,r,rfl,hr]
 cases hq;show wpS_bind (AJ λst3 k3=>wpS_pure #[k2.trans k3,rfl,G2,ho2])
def Cp{C:Cmp M A E s κ ok rk}(H:uW C a b)(sa:fT rk a.toList)(sb:fT rk b.toList)(ha:0<a.size)(hl:∀y∈b.toList,rk y<=rk (a[a.size-1]))
  {Q:Array Keyed->SortSt->Prop}{st:SortSt}(hst:kindOf st=κ)(h:∀r st',gC rk a b r->bH st st'->Q r st'):wpS M A E s (fN a b) Q st:=by
 let b0:=H.b0;let dual:∀{l:List Keyed},fT rk l->fT (ng rk) l.reverse:=λ{l} z=>by unfold fT at*;rw[List.pairwise_reverse];show z.imp λ{x y} z=>by unfold ng;lia
 have m0:MH rk a b [a[a.size-1]].toArray (a.size-1) b.size:=by
  let ta:∀a:Array Keyed,a.toList.take a.size=a.toList:=λa=>take_of_length_le (by simp);let m:MH rk a b #[] a.size b.size:=by unfold MH;rw[ta,ta];show#[by rw[nil_append];show List.Perm.append (reverse_perm _) (reverse_perm _),List.Pairwise.nil,dual sa,dual sb,(λ_ z=>nomatch z),λ_ z=>nomatch z]
  show Dc m ha (q8 _) b0 (q8 _) (hl _ (by simp))
 rw[CC];show wpS_bind (AC ?_);show wpS_bind (Ad (show a.size-1<a.size by lia) ?_);by_cases h1:a.size-1=0
 .rw[q4 (by simp[h1])];show wpS_pure (h _ _ (Dt m0 h1) #[rfl,rfl,rfl,rfl])
 rw[q5 ↑h1];by_cases h2:b.size=1
 .rw[q4 (by simp[h2])];show wpS_pure (h _ _ (Ds m0 b0 h2 H.h0) #[rfl,rfl,rfl,rfl])
 rw[q5 ↑h2];show wpS_bind (wpS_get ?_);refine wpS_bind (wpS_mono (wpS_forRange (I:=λx c st'=>c.1=none/\bH st st'/\Gh rk a b c.2.2.2.1 c.2.1 c.2.2.1/\x<c.2.2.2.1.size)
  (Q:=λc st'=>bH st st'/\∃r,c.1=some r/\gC rk a b r) ?step ?fin #[rfl,#[rfl,rfl,rfl,rfl],#[m0,∅,∅,∅,q8 _],by simp]) ?post)
 case fin=>rintro⟨r,i,j,o,g⟩ st' ⟨_,_,G,hx⟩;let h1:=G.m.perm.length_eq;let h3:=G.i;simp at h1 h2 h3 hx;lia
 case post=>rintro⟨q,i,j,o,g⟩ st' ⟨ks,r,e,hr⟩;cases e;show wpS_pure (h r st' hr ks)
 case step=>
  rintro x ⟨q,i,j,o,g⟩ st' _ hx ⟨_,ks,G,ho⟩;show wpS_mono (Gp H hst ks G ∅ q) λr st2⟨k,z⟩=>?_;cases r with
  |done c=>show#[k,z]
  |yield c=>show#[z.1,k,z.2.1,lt_of_le_of_lt ho z.2.2]
def lJ(lo n m:Nat):StateT SortSt Sem (Option Nat):=do
 reverseSlice' lo (lo+n)
 let u<-forIn [n:m] ((none,n):Option (Option Nat)×Nat) λ_ v=>do
  match<-ltAt' (lo+v.2) (lo+v.2-1)with
  |some y=>if y=true then pure (ForInStep.done (none,v.2))else pure (ForInStep.yield (none,v.2+1))
  |_=>pure (ForInStep.done (some none,v.2))
 Break.runK.match_1 (λ_=>StateT SortSt Sem (Option Nat)) u.1 (λr=>pure r) λ_=>pure (some u.2)
def wY(lo n m:Nat):StateT SortSt Sem (Option Nat):=do
 rule "list.sort.descending-run"
 let u<-forIn [n+1:m] ((none,n+1,0):Option (Option Nat)×Nat×Nat) λ_ v=>do
  match<-ltAt' (lo+v.2.1) (lo+v.2.1-1)with
  |some y=>
   if y=true then
    if v.2.2>0 then do
     reverseSlice' (lo+v.2.1-(v.2.2+1)) (lo+v.2.1)
     pure (ForInStep.yield (none,v.2.1+1,0))
    else pure (ForInStep.yield (none,v.2.1+1,0))
   else
    match<-ltAt' (lo+v.2.1-1) (lo+v.2.1)with
    |some z=>if z=true then pure (ForInStep.done (none,v.2.1,v.2.2))else pure (ForInStep.yield (none,v.2.1+1,v.2.2+1))
    |_=>pure (ForInStep.done (some none,v.2.1,v.2.2))
  |_=>pure (ForInStep.done (some none,v.2.1,v.2.2))
 Break.runK.match_1 (λ_=>StateT SortSt Sem (Option Nat)) u.1 (λr=>pure r) λ_=>if u.2.2>0 then reverseSlice' (lo+u.2.1-(u.2.2+1)) (lo+u.2.1)>>=λ_=>lJ lo u.2.1 m else lJ lo u.2.1 m
structure Sb(ok:Keyed->Prop)(lo:Nat)(st st':SortSt):Prop where
 perm:(arrOf st').Perm (arrOf st)
 pre:∀k,k<lo->(arrOf st')[k]?=(arrOf st)[k]?
 rest:kindOf st'=kindOf st/\pendingOf st'=pendingOf st/\failedOf st'=failedOf st
def Sb.refl{lo:Nat}{st:SortSt}:Sb ok lo st st:=#[.refl _,λ_ _=>rfl,rfl,rfl,rfl]
def Sb.size{lo:Nat}{st v:SortSt}(h:Sb ok lo st v):(arrOf v).size=(arrOf st).size:=h.perm.size_eq
def Sb.oks{lo:Nat}{st v:SortSt}(h:Sb ok lo st v)(o:∀x∈(arrOf st).toList,ok x):∀i(hi:i<(arrOf v).size),ok (arrOf v)[i]:=λi hi=>o _ ((perm_iff_toList_perm.mp h.perm).mem_iff.mp (by simp))
def Bf(C:Cmp M A E s κ ok rk){st:SortSt}(v:kindOf st=κ)(o:∀i(h:i<(arrOf st).size),ok (arrOf st)[i]){i j:Nat}(hi:i<(arrOf st).size)(z:j<(arrOf st).size){Q:Option Bool->SortSt->Prop}
  (h:Q (some (decide (aW rk (arrOf st) i<aW rk (arrOf st) j))) st):wpS M A E s (ltAt' i j) Q st:=by
 show wpS_bind (wpS_get ?_);show wpS_bind (Ad hi ?_);show wpS_bind (Ad z ?_);rw[Ae hi,Ae z]at h;show C.lt _ _ _ _ v (o _ _) (o _ _) h
def DN{xs:Array Keyed}{i j:Nat}(v:j<=xs.size)(k:Nat):aW rk (mirror xs i j ((j-i)/2)) k=if i<=k/\k<j then aW rk xs (i+j-1-k)else aW rk xs k:=by unfold aW;rw[getElem?_mirror_all v];split<;>rfl
def Bn{lo i j:Nat}{st v:SortSt}(h:Sb ok lo st v)(hi:lo<=i)(B:j<=(arrOf st).size){Q:Unit->SortSt->Prop}
  (G:∀z,Sb ok lo st z->(∀k,aW rk (arrOf z) k=if i<=k/\k<j then aW rk (arrOf v) (i+j-1-k)else aW rk (arrOf v) k)->Q () z):wpS M A E s (reverseSlice' i j) Q v:=by
 rw[reverseSlice'_eq];show wpS_modify (G _ #[(mirror_perm _ _ _ _).trans h.perm,λk F=>?_,h.rest] λk=>DN (by rw[h.size];show B) k);rw[getElem?_mirror_all (by rw[h.size];show B),q5 ∅];show h.pre k F
@[inline]def Dn(rk:Keyed->Int)(xs:Array Keyed)(lo hi:Nat):Prop:=∀i j,lo<=i->i<=j->j<hi->aW rk xs j<=aW rk xs i
def Dm{xs:Array Keyed}{lo x:Nat}(G:1<=x)(v:Up rk xs lo (lo+x))(J:¬aW rk xs (lo+x)<aW rk xs (lo+x-1)):Up rk xs lo (lo+(x+1)):=λy z h1 h2 L=>by
 by_cases B:z<lo+x
 .show v y z h1 h2 B
 .obtain rfl:z=lo+x:=by lia
  by_cases F:y=lo+x
  .rw[F];show Int.le_refl _
  .let:=v y (lo+x-1) h1 ∅ ∅;lia
def Bq{xs:Array Keyed}{lo x:Nat}(G:1<=x)(v:Dn rk xs lo (lo+x))(J:aW rk xs (lo+x)<=aW rk xs (lo+x-1)):Dn rk xs lo (lo+(x+1)):=λy z h1 h2 L=>by
 by_cases B:z<lo+x
 .show v y z h1 h2 B
 .obtain rfl:z=lo+x:=by lia
  by_cases F:y=lo+x
  .rw[F];show Int.le_refl _
  .let:=v y (lo+x-1) h1 ∅ ∅;lia
def Do(C:Cmp M A E s κ ok rk){lo n m:Nat}{st st':SortSt}(hst:kindOf st=κ)(o:∀x∈(arrOf st).toList,ok x)(n1:1<=n)(nm:n<=m)(hs:lo+m=(arrOf st).size)(hb:Sb ok lo st st')(hd:Dn rk (arrOf st') lo (lo+n)){Q:Option Nat->SortSt->Prop}
  (h:∀n st',1<=n->n<=m->Sb ok lo st st'->Up rk (arrOf st') lo (lo+n)->Q (some n) st'):wpS M A E s (lJ lo n m) Q st':=by
 show wpS_bind (Bn (rk:=rk) hb (q8 _) ∅ λst2 hb2 hr=>?_);let hu:Up rk (arrOf st2) lo (lo+n):=λx y h1 h2 h3=>by rw[hr,hr,q4 #[h1,∅],q4 #[∅,h3]];show hd _ _ ∅ ∅ ∅
 refine wpS_bind (wpS_mono (wpS_forRange (I:=λx c st'=>st'=st2/\c=(none,x)/\Up rk (arrOf st2) lo (lo+x))
  (Q:=λc st'=>st'=st2/\∃k,c=(none,k)/\1<=k/\k<=m/\Up rk (arrOf st2) lo (lo+k)) ?step ?fin #[rfl,rfl,hu]) ?post)
 case fin=>rintro c st' ⟨rfl,rfl,hu⟩;rw[show max n m=m by lia]at hu⊢;show#[rfl,m,rfl,∅,q8 _,hu]
 case step=>
  rintro x c st' hx1 hx ⟨rfl,rfl,hu⟩;let sz:=hb2.size;show wpS_bind (Bf C (hb2.rest.1.trans hst) (hb2.oks o) (by simp only;lia) (by simp only;lia) ?_);by_cases hl:aW rk (arrOf st') (lo+x)<aW rk (arrOf st') (lo+x-1)
  .rw[qR hl];show wpS_pure #[rfl,x,rfl,∅,∅,hu]
  .rw[qS hl];show wpS_pure #[rfl,rfl,Dm ∅ hu hl]
 case post=>rintro c st' ⟨rfl,k,rfl,k1,km,hu⟩;show wpS_pure (h k st' k1 km hb2 hu)
def Bx{xs ys:Array Keyed}{i j:Nat}(v:∀k,i<=k->k<j->aW rk xs k=aW rk xs (j-1))(z:∀k,aW rk ys k=if i<=k/\k<j then aW rk xs (i+j-1-k)else aW rk xs k)(k:Nat):aW rk ys k=aW rk xs k:=by
 rw[z];split
 .rw[v _ ∅ ∅,v k ∅ ∅]
 .rfl
def DA(C:Cmp M A E s κ ok rk){lo n m:Nat}{st st':SortSt}(hst:kindOf st=κ)(o:∀x∈(arrOf st).toList,ok x)(n1:1<=n)(nm:n<m)(hs:lo+m=(arrOf st).size)(hb:Sb ok lo st st')(hd:Dn rk (arrOf st') lo (lo+(n+1))){Q:Option Nat->SortSt->Prop}
  (h:∀n st',1<=n->n<=m->Sb ok lo st st'->Up rk (arrOf st') lo (lo+n)->Q (some n) st'):wpS M A E s (wY lo n m) Q st':=by
 refine wpS_bind (AC ?_);refine wpS_bind (wpS_mono (wpS_forRange (I:=λx c st2=>∃q,c=(none,x,q)/\Sb ok lo st st2/\Dn rk (arrOf st2) lo (lo+x)/\q+1<=x/\∀k,lo+x-(q+1)<=k->k<lo+x->aW rk (arrOf st2) k=aW rk (arrOf st2) (lo+x-1))
  (Q:=λc st2=>∃x q,c=(none,x,q)/\n+1<=x/\x<=m/\Sb ok lo st st2/\Dn rk (arrOf st2) lo (lo+x)/\q+1<=x/\∀k,lo+x-(q+1)<=k->k<lo+x->aW rk (arrOf st2) k=aW rk (arrOf st2) (lo+x-1)) ?step ?fin #[0,rfl,hb,hd,∅,λk h1 h2=>by rw[show k=lo+(n+1)-1 by lia]]) ?post)
 case fin=>rintro c st2 ⟨q,rfl,hb,hd,hq,he⟩;rw[show max (n+1) m=m by lia]at hd hq he⊢;show#[m,q,rfl,nm,q8 _,hb,hd,hq,he]
 case step=>
  rintro x c st2 hx1 hx ⟨q,rfl,hb,hd,hq,he⟩;let sz:=hb.size;let hst2:=hb.rest.1.trans hst;show wpS_bind (Bf C hst2 (hb.oks o) (by simp only;lia) (by simp only;lia) ?_);by_cases hl:aW rk (arrOf st2) (lo+x)<aW rk (arrOf st2) (lo+x-1)
  .rw[qR hl];let hd2:=Bq ∅ hd (Int.le_of_lt hl);by_cases q0:q>0
   .rw[q4 q0];show wpS_bind (Bn (rk:=rk) hb ∅ ∅ λst3 hb3 hr=>?_);let er:=Bx he hr;show wpS_pure #[0,rfl,hb3,λy z h1 h2 h3=>by rw[er,er];show hd2 y z h1 h2 h3,∅,λk h1 h2=>by rw[show k=lo+(x+1)-1 by lia]]
   .rw[q5 q0];show wpS_pure #[0,rfl,hb,hd2,∅,λk h1 h2=>by rw[show k=lo+(x+1)-1 by lia]]
  .rw[qS hl];show wpS_bind (Bf C hst2 (hb.oks o) ∅ ∅ ?_);by_cases hg:aW rk (arrOf st2) (lo+x-1)<aW rk (arrOf st2) (lo+x)
   .rw[qR hg];show wpS_pure #[x,q,rfl,hx1,∅,hb,hd,hq,he]
   .rw[qS hg];show wpS_pure #[q+1,rfl,hb,Bq ∅ hd ∅,∅,λk h1 h2=>?_];rw[show lo+(x+1)-1=lo+x by lia];by_cases hk:k=lo+x
    .rw[hk]
    .rw[he k ∅ ∅];lia
 case post=>
  rintro c st2 ⟨x,q,rfl,hx1,hx,hb,hd,hq,he⟩;by_cases q0:q>0
  .rw[q4 q0];show wpS_bind (Bn (rk:=rk) hb ∅ ∅ λst3 hb3 hr=>?_);let er:=Bx he hr;show Do C hst o ∅ hx hs hb3 (λy z h1 h2 h3=>by rw[er,er];show hd y z h1 h2 h3) h
  .rw[q5 q0];show Do C hst o ∅ hx hs hb hd h
def BO(C:Cmp M A E s κ ok rk){lo m:Nat}{st:SortSt}(hst:kindOf st=κ)(o:∀x∈(arrOf st).toList,ok x)(hm:0<m)(hs:lo+m=(arrOf st).size){Q:Option Nat->SortSt->Prop}
  (h:∀n st',1<=n->n<=m->Sb ok lo st st'->Up rk (arrOf st') lo (lo+n)->Q (some n) st'):wpS M A E s (countRun' lo m) Q st:=by
 have up1:∀xs:Array Keyed,Up rk xs lo (lo+1):=λxs x y h1 h2 h3=>by
  obtain rfl:x=y:=∅
  show Int.le_refl _
 refine wpS_bind (wpS_mono (wpS_forRange (I:=λx c st'=>st'=st/\c=(none,x)/\Up rk (arrOf st) lo (lo+x))
  (Q:=λc st'=>st'=st/\∃n,c=(none,n)/\1<=n/\n<=m/\Up rk (arrOf st) lo (lo+n)/\(n=m\/aW rk (arrOf st) (lo+n)<aW rk (arrOf st) (lo+n-1))) ?step ?fin #[rfl,rfl,up1 _]) ?post)
 case fin=>rintro c st' ⟨rfl,rfl,hu⟩;rw[show max 1 m=m by lia]at hu⊢;show#[rfl,m,rfl,hm,q8 _,hu,.inl rfl]
 case step=>
  rintro x c st' hx1 hx ⟨rfl,rfl,hu⟩;show wpS_bind (Bf C hst (Sb.refl.oks (lo:=lo) o) (by simp only;lia) (by simp only;lia) ?_);by_cases hl:aW rk (arrOf st') (lo+x)<aW rk (arrOf st') (lo+x-1)
  .rw[qR hl];show wpS_pure #[rfl,x,rfl,hx1,∅,hu,.inr hl]
  .rw[qS hl];show wpS_pure #[rfl,rfl,Dm hx1 hu hl]
 case post=>
  rintro c st' ⟨rfl,n,rfl,n1,nm,hu,he⟩;simp only;by_cases e:n=m
  .rw[q4 (by simp[e])];show wpS_pure (h n st' n1 nm Sb.refl hu)
  .rw[q5 ↑e];let he:=he.resolve_left e;by_cases n2:n>1
   .rw[q4 n2];show wpS_bind (Bf C hst (Sb.refl.oks (lo:=lo) o) ∅ ∅ ?_);by_cases hl:aW rk (arrOf st') lo<aW rk (arrOf st') (lo+n-1)
    .rw[qR hl];show wpS_pure (h n st' n1 nm Sb.refl hu)
    .rw[qS hl];let he2:∀k,lo<=k->k<lo+n->aW rk (arrOf st') k=aW rk (arrOf st') (lo+n-1):=λk h1 h2=>by let:=hu lo k (q8 _) h1 h2;let:=hu k (lo+n-1) h1 ∅ ∅;lia
     show wpS_bind (Bn (rk:=rk) (Sb.refl (ok:=ok)) (q8 _) ∅ λst3 hb3 hr=>?_);let er:=Bx he2 hr;show DA C hst o n1 ∅ hs hb3 (Bq n1 (λy z h1 h2 h3=>?_) (by rw[er,er];show Int.le_of_lt he)) h;rw[er,er,he2 y h1 ∅,he2 z ∅ h3];show Int.le_refl _
   .rw[q5 n2];obtain rfl:n=1:=by lia
    show DA C hst o n1 ∅ hs Sb.refl (Bq n1 (λy z h1 h2 h3=>?_) (Int.le_of_lt he)) h;obtain rfl:y=z:=∅
    show Int.le_refl _
def BV{xs:Array Keyed}{v d:Nat}(hs:v<xs.size)(z:d<=v)(k:Nat):aW rk (bubble xs v d) k=if k=v-d then aW rk xs v else if v-d<k/\k<=v then aW rk xs (k-1)else aW rk xs k:=by
 unfold aW;rw[getElem?_bubble hs d z k];split
 .rfl
 .split<;>rfl
theorem Cr(C:Cmp M A E s κ ok rk){lo n m:Nat}{st st':SortSt}(hst:kindOf st=κ)(o:∀x∈(arrOf st).toList,ok x)(hm:m<=n)(hs:lo+n<=(arrOf st).size)(hb:Sb ok lo st st')(hu:Up rk (arrOf st') lo (lo+m)){Q:Bool->SortSt->Prop}
  (h:∀st',Sb ok lo st st'->Up rk (arrOf st') lo (lo+n)->Q true st'):wpS M A E s (binarySort' lo n m) Q st':=by
 rw[binarySort'_eq];show wpS_bind (wpS_mono (wpS_forRange (I:=λk c st2=>c=(none,())/\Sb ok lo st st2/\Up rk (arrOf st2) lo (lo+min k n)) (Q:=λc st2=>c=(none,())/\Sb ok lo st st2/\Up rk (arrOf st2) lo (lo+n)) ?step ?fin ?init) ?post);case post=>rintro c st2 ⟨rfl,hb2,hu2⟩;show wpS_pure (h st2 hb2 hu2)
 case init=>
  show#[rfl,hb,λx y h1 h2 h3=>?_];by_cases e:m=0
  .obtain rfl:x=y:=by omega
   show Int.le_refl _
  .show hu x y h1 h2 (by omega)
 case fin=>rintro c st2 ⟨hc,hb2,hu2⟩;rw[show min (max (max m 1) n) n=n by omega]at hu2;show#[hc,hb2,hu2]
 case step=>
  rintro k c st2 hk1 hk ⟨rfl,hb2,hu2⟩;let sz:=hb2.size;refine wpS_bind (wpS_mono (wpS_forRange (I:=λx c st3=>st3=st2/\∃l r,c=(none,l,r)/\l<=r/\r<=k/\r-l<=k-x/\(∀i,i<l->aW rk (arrOf st2) (lo+i)<=aW rk (arrOf st2) (lo+k))/\∀i,r<=i->i<k->aW rk (arrOf st2) (lo+k)<aW rk (arrOf st2) (lo+i))
   (Q:=λc st3=>st3=st2/\∃l r,c=(none,l,r)/\l<=k/\(∀i,i<l->aW rk (arrOf st2) (lo+i)<=aW rk (arrOf st2) (lo+k))/\∀i,l<=i->i<k->aW rk (arrOf st2) (lo+k)<aW rk (arrOf st2) (lo+i)) ?istep ?ifin ?iinit) ?ipost)
  case iinit=>show#[rfl,0,k,rfl,by omega,by omega,by omega,λi hi=>by omega,λi h1 h2=>by omega]
  case ifin=>
   rintro c st3 ⟨rfl,l,r,rfl,h1,h2,h3,h4,h5⟩;obtain rfl:l=r:=by omega
   show#[rfl,l,l,rfl,h2,h4,h5]
  case istep=>
   rintro x c st3 _ hx ⟨rfl,l,r,rfl,h1,h2,h3,h4,h5⟩;simp only;by_cases e:l≥r
   .rw[q4 e];obtain rfl:l=r:=by omega
    show wpS_pure #[rfl,l,l,rfl,h2,h4,h5]
   .rw[q5 e];show wpS_bind (Bf C (hb2.rest.1.trans hst) (hb2.oks o) (by omega) (by omega) ?_);by_cases hl:aW rk (arrOf st3) (lo+k)<aW rk (arrOf st3) (lo+(l+r)/2)
    .rw[qR hl];show wpS_pure #[rfl,l,(l+r)/2,rfl,by omega,by omega,by omega,h4,λi a1 a2=>?_];let:=hu2 (lo+(l+r)/2) (lo+i) (by omega) (by omega) (by omega);omega
    .rw[qS hl];show wpS_pure #[rfl,(l+r)/2+1,r,rfl,by omega,h2,by omega,λi a1=>?_,h5];let:=hu2 (lo+i) (lo+(l+r)/2) (by omega) (by omega) (by omega);omega
  case ipost=>
   rintro c st3 ⟨rfl,l,r,rfl,h2,h4,h5⟩;simp only;show wpS_bind (wpS_modify (wpS_pure #[rfl,#[(bubble_perm _ _ _).trans hb2.perm,λi hi=>?_,hb2.rest],λx y a1 a2 a3=>?_]))
   .show(bubble (arrOf st3) (lo+k) (lo+k-(lo+l)))[i]?=_;rw[getElem?_bubble (by omega) _ (by omega),q5 (by omega),q5 (by omega)];show hb2.pre i hi
   .show aW rk (bubble (arrOf st3) (lo+k) (lo+k-(lo+l))) x<=aW rk (bubble (arrOf st3) (lo+k) (lo+k-(lo+l))) y;rw[show min (k+1) n=k+1 by omega]at a3;rw[BV (by omega) (by omega),BV (by omega) (by omega)];let g4:=h4 (x-lo);let g5:=h5 (y-1-lo);rw[show lo+(x-lo)=x by omega]at g4;let u1:=hu2 x y;let u2:=hu2 x (y-1);let u3:=hu2 (x-1) (y-1);by_cases e1:x=lo+k-(lo+k-(lo+l))
    .rw[q4 e1];split
     .show Int.le_refl _
     .split
      .rw[show lo+(y-1-lo)=y-1 by omega]at g5;show Int.le_of_lt (g5 (by omega) (by omega))
      .omega
    .rw[q5 e1];split
     .split
      .omega
      .split
       .show u3 (by omega) (by omega) (by omega)
       .omega
     .split
      .show g4 (by omega)
      .split
       .show u2 (by omega) (by omega) (by omega)
       .show u1 (by omega) (by omega) (by omega)
def putAt(a:Array Keyed)(i:Nat)(l:List Keyed):Array Keyed:=l.zipIdx.foldl (λa(p,j)=>a.setIfInBounds (i+j) p) a
def CD(i:Nat):mergeAt' i=(do
 let u<-get
 let(some (p,n,q),some (r,m,_)):=((pendingOf u)[i]?,(pendingOf u)[i+1]?)|unsupported "internal:list.sort.pending"
 set (setPending u (((pendingOf u).setIfInBounds i (p,n+m,q)).eraseIdxIfInBounds (i+1)))
 let some k<-cV false (<-elem' (arrOf u) r) (arrOf u) p n 0|return false
 let(p,n):=(p+k,n-k)
 if n==0 then return true
 let some m<-cV true (<-elem' (arrOf u) (p+n-1)) (arrOf u) r m (m-1)|return false
 if m==0 then return true
 let x:=(arrOf u).extract p r
 let y:=(arrOf u).extract r (r+m)
 let z<-if n<=m then fL x y else fN x y
 modify λs=>setArr s (putAt (arrOf s) p z.toList)
 return(failedOf (<-get)).isNone):=rfl
def Em(l:List Keyed):∀(a:Array Keyed)(i c:Nat),i+c+l.length<=a.size->((l.zipIdx c).foldl (λa(p,j)=>a.setIfInBounds (i+j) p) a).toList=a.toList.take (i+c)++l++a.toList.drop (i+c+l.length):=by
 induction l with
 |nil=>intro a i c h;simp
 |cons x l z=>
  intro a i c h;rw[qt]at h;let e:(a.setIfInBounds (i+c) x).toList=(a.toList.take (i+c)++[x])++a.toList.drop (i+c+1):=by rw[Array.toList_setIfInBounds,List.set_eq_take_append_cons_drop,q4 (by simp;lia)];simp
  let v:(a.toList.take (i+c)++[x]).length=i+(c+1):=by simp;lia
  rw[List.zipIdx_cons,foldl_cons,z _ _ _ (by simp;lia)];rw[e,List.take_left' v,<-drop_drop,List.drop_left' v];simp[Nat.add_comm,Nat.add_left_comm]
def Bs{xs:Array Keyed}{lo hi:Nat}(F:Up rk xs lo hi)(G:hi<=xs.size):fT rk (xs.extract lo hi).toList:=by unfold fT;rw[pairwise_iff_getElem];intro x y B v z;simp at B v;let:=F (lo+x) (lo+y) ∅ ∅ ∅;rw[Ae (show lo+x<xs.size by lia),Ae (show lo+y<xs.size by lia)]at this;simpa[extract_eq_take_drop] using this
def Bp{xs:Array Keyed}{lo hi:Nat}{x:Keyed}(z:hi<=xs.size)(h:x∈(xs.extract lo hi).toList):∃k,lo<=k/\k<hi/\rk x=aW rk xs k:=by let#[y,v,rfl]:=List.mem_iff_getElem.mp h;simp at v;show#[lo+y,∅,∅,by rw[Ae (show lo+y<xs.size by lia)];simp]
def BI{a:Array Keyed}{i j l:Nat}(h1:i<=j)(h2:j<=l):(a.extract i j).toList++(a.extract j l).toList=(a.extract i l).toList:=by rw[toList_extract,toList_extract,toList_extract,extract_eq_take_drop,extract_eq_take_drop,extract_eq_take_drop,show l-i=(j-i)+(l-j) by lia,List.take_add,drop_drop,show i+(j-i)=j by lia]
def EZ{x:SortSt}{Q:PUnit->SortSt->Prop}{st:SortSt}(h:Q ⟨⟩ x):wpS M A E s (set x:StateT SortSt Sem PUnit) Q st:=wpS_modify (f:=λ_=>x) h
def Cq(C:Cmp M A E s κ ok rk){n m q q':Nat}{st:SortSt}(O:kindOf st=κ)(o:∀x∈(arrOf st).toList,ok x)(hp:pendingOf st=[(0,n,q),(n,m,q')].toArray)(n0:0<n)(m0:0<m)(hs:n+m=(arrOf st).size)(hf:failedOf st=none)(u1:Up rk (arrOf st) 0 (0+n))(u2:Up rk (arrOf st) n (n+m)){Q:Bool->SortSt->Prop}
  (h:∀F,(arrOf F).Perm (arrOf st)->pendingOf F=[(0,n+m,q)].toArray->failedOf F=none->Up rk (arrOf F) 0 (arrOf st).size->Q true F):wpS M A E s (mergeAt' 0) Q st:=by
 let oks:∀i(hi:i<(arrOf st).size),ok (arrOf st)[i]:=λi hi=>o _ (by simp);rw[CD];show wpS_bind (wpS_get ?_);rw[hp];let ep:(([(0,n,q),(n,m,q')].toArray:Array (Nat×Nat×Nat)).setIfInBounds 0 (0,n+m,q)).eraseIdxIfInBounds (0+1)=[(0,n+m,q)].toArray:=by simp[Array.setIfInBounds,Array.eraseIdxIfInBounds,Array.eraseIdx]
 show wpS_bind (EZ ?_);rw[ep];let nS:n<(arrOf st).size:=∅
 show wpS_bind (Ad nS ?_);show wpS_bind (Ar (st:=setPending st [(0,n+m,q)].toArray) C (oks _ nS) oks ∅ n0 u1 O λk hc=>?_);let kn:=hc.2.1;let e1:∀x,x<k->aW rk (arrOf st) x<=aW rk (arrOf st) n:=λx v=>by let:=hc.2.2.1 x v;unfold dN at this;rw[Ae nS];simpa using this
 let hm:∀x,k<=x->x<n->aW rk (arrOf st) n<aW rk (arrOf st) x:=λx h1 h2=>by let:=hc.2.2.2 x h1 h2;unfold dN at this;rw[Ae nS];simpa using this
 simp only;by_cases e:n-k=0
 .rw[q4 (by simp[e])];show wpS_pure (h _ (.refl _) rfl hf λx y h1 h2 Y=>?_);let a1:=u1 x y h1 h2;let a2:=u2 x y;let a3:=u2 n y (q8 _);let a4:=e1 x;by_cases L:y<n
  .show a1 ∅
  .by_cases v:x<n
   .show Int.le_trans (a4 ∅) (a3 ∅ ∅)
   .show a2 ∅ h2 ∅
 rw[q5 ↑e];let J:0+k+(n-k)-1<(arrOf st).size:=∅
 show wpS_bind (Ad J ?_);show wpS_bind (Ar (st:=setPending st [(0,n+m,q)].toArray) C (oks _ J) oks ∅ ∅ u2 O λm2 hd=>?_);let r1:=hd.2.1;let en:0+k+(n-k)-1=n-1:=∅
 let h9:∀x,n<=x->x<n+m2->aW rk (arrOf st) x<aW rk (arrOf st) (n-1):=λx h1 h2=>by let:=hd.2.2.1 (x-n) ∅;unfold dN at this;rw[show n+(x-n)=x by lia,<-Ae (rk:=rk) J,en]at this;simpa using this
 let hl:∀x,n+m2<=x->x<n+m->aW rk (arrOf st) (n-1)<=aW rk (arrOf st) x:=λx h1 h2=>by let:=hd.2.2.2 (x-n) ∅ ∅;unfold dN at this;rw[show n+(x-n)=x by lia,<-Ae (rk:=rk) J,en]at this;simpa using this
 simp only;by_cases e2:m2=0
 .rw[q4 (by simp[e2])];show wpS_pure (h _ (.refl _) rfl hf λx y h1 h2 Y=>?_);by_cases L:y<n
  .show u1 x y h1 h2 ∅
  .by_cases v:x<n
   .show Int.le_trans (u1 x (n-1) h1 ∅ ∅) (hl y ∅ ∅)
   .show u2 x y ∅ h2 ∅
 rw[q5 ↑e2,zero_add];let sz:=hs;let h7:∀x∈((arrOf st).extract k n).toList,∃c,k<=c/\c<n/\rk x=aW rk (arrOf st) c:=λx v=>Bp ∅ v;let h6:∀x∈((arrOf st).extract n (n+m2)).toList,∃c,n<=c/\c<n+m2/\rk x=aW rk (arrOf st) c:=λx v=>Bp ∅ v;let G:∀(c d i:Nat)(hi:i<((arrOf st).extract c d).size),ok ((arrOf st).extract c d)[i]:=λc d i hi=>o _ (by rw[getElem_extract];simp);let hq:∀(z:Array Keyed)(B:SortSt),gC rk ((arrOf st).extract k n) ((arrOf st).extract n (n+m2)) z->bH (setPending st [(0,n+m,q)].toArray) B->wpS M A E s (modify (λs=>setArr s (putAt (arrOf s) k z.toList))>>=λ_=>get>>=λu=>pure (failedOf u).isNone) Q B:=λz B hr ks=>by
  let ea:arrOf B=arrOf st:=ks.2.1;let hz:z.toList.length=n-k+m2:=by rw[hr.1.length_eq,qq,qV,qV,size_extract,size_extract];lia
  let el:(putAt (arrOf B) k z.toList).toList=((arrOf st).extract 0 k).toList++z.toList++((arrOf st).extract (n+m2) (n+m)).toList:=by let:=Em z.toList (arrOf st) k 0 ∅;rw[ea];rw[Nat.add_zero,hz,show k+(n-k+m2)=n+m2 by lia]at this;rw[show(putAt (arrOf st) k z.toList).toList=_ from this,toList_extract,toList_extract,extract_eq_take_drop,extract_eq_take_drop,drop_zero,sub_zero];congr 1;rw[take_of_length_le (by simp;lia)]
  show wpS_bind (wpS_modify (wpS_bind (wpS_get ?_)));let ef:(failedOf (setArr B (putAt (arrOf B) k z.toList))).isNone=true:=by show(failedOf B).isNone=true;rw[ks.2.2.2];show(failedOf st).isNone=true;rw[hf];rfl
  rw[ef];let h5:∀x∈z.toList,(∃c,k<=c/\c<n/\rk x=aW rk (arrOf st) c)\/∃c,n<=c/\c<n+m2/\rk x=aW rk (arrOf st) c:=λx v=>(qx.mp (hr.1.mem_iff.mp v)).imp (h7 x) (h6 x);let h8:∀x∈((arrOf st).extract 0 k).toList,∃c,0<=c/\c<k/\rk x=aW rk (arrOf st) c:=λx v=>Bp ∅ v;let e4:∀x∈((arrOf st).extract (n+m2) (n+m)).toList,∃c,n+m2<=c/\c<n+m/\rk x=aW rk (arrOf st) c:=λx v=>Bp ∅ v;let ha:fT rk (putAt (arrOf B) k z.toList).toList:=by
   rw[el];let s1:=Bs (rk:=rk) (xs:=arrOf st) (lo:=0) (hi:=k) (λx y h1 h2 Y=>u1 x y h1 h2 ∅) ∅;let s2:=Bs (rk:=rk) (xs:=arrOf st) (lo:=n+m2) (hi:=n+m) (λx y h1 h2 Y=>u2 x y ∅ h2 Y) ∅;show pairwise_append.mpr #[pairwise_append.mpr #[s1,hr.2,λx v y L=>?_],s2,λx v y L=>?_]
   .obtain⟨c,_,hc,ex⟩:=h8 x v;let a1:=e1 c hc;rcases h5 y L with⟨d,h1,h2,ey⟩|⟨d,h1,h2,ey⟩
    .let a2:=hm d h1 h2;lia
    .let a2:=u2 n d (q8 _) h1 ∅;lia
   .obtain⟨d,h1,h2,ey⟩:=e4 y L;let a2:=hl d h1 h2;rcases qx.mp v with v|v
    .obtain⟨c,_,hc,ex⟩:=h8 x v;let a1:=u1 c (n-1) ∅ ∅ ∅;lia
    .rcases h5 x v with⟨c,Y,h4,ex⟩|⟨c,Y,h4,ex⟩
     .let a1:=u1 c (n-1) ∅ ∅ ∅;lia
     .let a1:=h9 c Y h4;lia
  have pm:(putAt (arrOf B) k z.toList).Perm (arrOf st):=by
   rw[perm_iff_toList_perm,el];show((hr.1.append_left _).append_right _).trans ?_;let:(arrOf st).toList=((arrOf st).extract 0 k).toList++(((arrOf st).extract k n).toList++((arrOf st).extract n (n+m2)).toList)++((arrOf st).extract (n+m2) (n+m)).toList:=by rw[BI ∅ ∅,BI ∅ ∅,BI ∅ ∅,toList_extract,extract_eq_take_drop,drop_zero,take_of_length_le (by simp;lia)]
   rw[<-this]
  show wpS_pure (h _ pm ks.2.2.1 (ks.2.2.2.trans hf) ?_);let:=CT (i:=0) (n:=(arrOf st).size) ha (by rw[zero_add,<-pm.size_eq];show q8 _);rwa[zero_add]at this
 let sx:=Bs (rk:=rk) (xs:=arrOf st) (lo:=k) (hi:=n) (λx y h1 h2 Y=>u1 x y ∅ h2 ∅) ∅;let sy:=Bs (rk:=rk) (xs:=arrOf st) (lo:=n) (hi:=n+m2) (λx y h1 h2 Y=>u2 x y h1 h2 ∅) ∅;let zX:((arrOf st).extract k n).size=n-k:=by rw[size_extract];lia
 let zY:((arrOf st).extract n (n+m2)).size=m2:=by rw[size_extract];lia
 let e3:aW rk ((arrOf st).extract k n) (((arrOf st).extract k n).size-1)=aW rk (arrOf st) (n-1):=by rw[Ae ∅,Ae (show n-1<(arrOf st).size by lia),getElem_extract];congr 2;lia
 let y0:rk (((arrOf st).extract n (n+m2))[0]'∅)=aW rk (arrOf st) n:=by rw[Ae nS,getElem_extract];rfl
 let hb:∀y∈((arrOf st).extract n (n+m2)).toList,rk y<aW rk ((arrOf st).extract k n) (((arrOf st).extract k n).size-1):=λy L=>by let#[c,h1,h2,e]:=h6 y L;rw[e3,e];show h9 c h1 h2
 let h0:∀x∈((arrOf st).extract k n).toList,rk (((arrOf st).extract n (n+m2))[0]'∅)<rk x:=λx v=>by let#[c,h1,h2,e]:=h7 x v;rw[y0,e];show hm c h1 h2
 by_cases hk:n-k<=m2
 .rw[q4 hk];show wpS_bind (Co (C:=C) #[G _ _,G _ _,hb] sx sy ∅ ∅ (Int.le_of_lt (h0 _ (by rw[mem_toList_iff];show Array.getElem_mem _))) O hq)
 .rw[q5 hk];show wpS_bind (Cp (C:=C) #[G _ _,G _ _,∅,h0] sx sy ∅ (λy L=>by rw[<-Ae (rk:=rk)];show Int.le_of_lt (hb y L)) O hq)
def Fg{n:Nat}(h2:2<=n)(h:n<128):minRun' n n 0<=n/\n<=2*minRun' n n 0:=by
 obtain⟨f,rfl⟩:∃f,n=f+1+1:=#[n-2,∅]
 rw[minRun'_succ];split
 .lia
 .rw[minRun'_succ];lia
structure Rn(st st':SortSt):Prop where
 perm:(arrOf st').Perm (arrOf st)
 kind:kindOf st'=kindOf st
 failed:failedOf st'=none
@[inline]def One(rk:Keyed->Int)(n:Nat)(st:SortSt):Prop:=pendingOf st=[(0,n,0)].toArray/\Up rk (arrOf st) 0 (0+n)
def pT(rk:Keyed->Int)(n:Nat)(st:SortSt):Prop:=∃k q,0<k/\k<n/\pendingOf st=[(0,k,q),(k,n-k,0)].toArray/\Up rk (arrOf st) 0 (0+k)/\Up rk (arrOf st) k (k+(n-k))
def Cc(C:Cmp M A E s κ ok rk){n:Nat}{st:SortSt}(hst:kindOf st=κ)(o:∀x∈(arrOf st).toList,ok x)(hp:pendingOf st=#[])(hf:failedOf st=none)(hn:(arrOf st).size=n)(h2:2<=n)(h128:n<128){Q:Unit->SortSt->Prop}
  (h:∀st',(arrOf st').Perm (arrOf st)->failedOf st'=none->Up rk (arrOf st') 0 n->Q () st'):wpS M A E s sortRuns' Q st:=by
 obtain⟨r1,r2⟩:=Fg h2 h128;let oR:∀st',Rn st st'->∀x∈(arrOf st').toList,ok x:=λst' R x hx=>o x ((perm_iff_toList_perm.mp R.perm).mem_iff.mp hx);let zR:∀st',Rn st st'->(arrOf st').size=n:=λst' R=>R.perm.size_eq.trans hn;rw[sortRuns'_eq];show wpS_bind (wpS_get ?_);rw[hn];generalize hmr:minRun' n n 0=mr at r1 r2;refine wpS_bind (wpS_mono (wpS_forRange
  (I:=λx c st'=>(x=0/\c=(none,0)/\st'=st)\/(x=1/\∃k,c=(none,k)/\mr<=k/\k<n/\Rn st st'/\One rk k st')\/(1<=x/\c=(none,n)/\Rn st st'/\(One rk n st'\/pT rk n st')))
  (Q:=λc st'=>c=(none,n)/\Rn st st'/\(One rk n st'\/pT rk n st')) ?step ?fin (.inl #[rfl,rfl,rfl])) ?post)
 case fin=>
  rintro c st' (⟨hx,_⟩|⟨hx,_⟩|⟨_,z⟩)
  .lia
  .lia
  .show z
 case step=>
  rintro x c st' _ hx (⟨rfl,rfl,rfl⟩|⟨rfl,k,rfl,hk,kn,R,hpd,hu⟩|⟨hx1,rfl,z⟩)
  .simp only[hmr];rw[q5 ∅];let go:∀k st3,mr<=k->k<=n->Sb ok 0 st' st3->Up rk (arrOf st3) 0 (0+k)->(True/\∃k',((none,0+k):Option Unit×Nat)=(none,k')/\mr<=k'/\k'<n/\Rn st' (setPending st3 (#[].push (0,k,0)))/\One rk k' (setPending st3 (#[].push (0,k,0))))\/1<=0+1/\((none,0+k):Option Unit×Nat)=(none,n)/\Rn st' (setPending st3 (#[].push (0,k,0)))/\(One rk n (setPending st3 (#[].push (0,k,0)))\/pT rk n (setPending st3 (#[].push (0,k,0)))):=λk st3 h1 h3 hb hu=>by
    let R:Rn st' (setPending st3 (#[].push (0,k,0))):=#[hb.perm,hb.rest.1,hb.rest.2.2.trans hf]
    rw[zero_add k];by_cases e:k=n
    .subst e;show .inr #[∅,rfl,R,.inl #[rfl,hu]]
    .show .inl #[trivial,k,rfl,h1,∅,R,rfl,hu]
   show wpS_bind (BO C hst o ∅ ∅ λk st2 k1 km hb hu=>?_);simp only;by_cases hlt:k<mr
   .rw[q4 hlt];show wpS_bind (AC ?_);show wpS_bind (Cr C hst o ∅ ∅ hb hu λst3 hb3 hu3=>?_);show wpS_bind (wpS_get ?_);rw[show pendingOf st3=#[] from hb3.rest.2.1.trans hp];show wpS_bind (wpS_modify (wpS_pure (.inr ?_)));rw[show pendingOf st3=#[] from hb3.rest.2.1.trans hp];show go _ st3 ∅ ∅ hb3 hu3
   .rw[q5 hlt];show wpS_bind (wpS_get ?_);rw[show pendingOf st2=#[] from hb.rest.2.1.trans hp];show wpS_bind (wpS_modify (wpS_pure (.inr ?_)));rw[show pendingOf st2=#[] from hb.rest.2.1.trans hp];show go _ st2 ∅ ∅ hb hu
  .simp only[hmr];rw[q5 ∅];let zs:=zR _ R;show wpS_bind (BO C (R.kind.trans hst) (oR _ R) ∅ ∅ λk2 st2 k1 km hb hu2=>?_);simp only;let go:∀q st3 st4,arrOf st4=arrOf st3->kindOf st4=kindOf st3->failedOf st4=failedOf st3->pendingOf st4=[(0,k,q),(k,n-k,0)].toArray->Sb ok k st' st3->Up rk (arrOf st3) k (k+(n-k))->Rn st st4/\(One rk n st4\/pT rk n st4):=λq st3 st4 e1 e2 e3 e hb hu3=>by show#[#[by rw[e1];show hb.perm.trans R.perm,e2.trans (hb.rest.1.trans R.kind),e3.trans (hb.rest.2.2.trans R.failed)],.inr #[k,q,∅,kn,e,λi j h1 h2 h3=>?_,by rw[e1];show hu3]];rw[e1];let:=hu i j h1 h2 h3;show((arrOf st3)[i]?).elim 0 rk<=((arrOf st3)[j]?).elim 0 rk;rw[hb.pre i ∅,hb.pre j ∅];exact this
   by_cases hlt:k2<mr
   .rw[q4 hlt];show wpS_bind (AC ?_);show wpS_bind (Cr C (R.kind.trans hst) (oR _ R) ∅ ∅ hb hu2 λst3 hb3 hu3=>?_);rw[show min (n-k) mr=n-k by lia]at hu3⊢;show wpS_bind (wpS_get ?_);rw[show pendingOf st3=[(0,k,0)].toArray from hb3.rest.2.1.trans hpd];show wpS_bind (wpS_mono (wpS_forRange (I:=λx c st4=>x=0/\c=(none,())/\st4=st3) (Q:=λc st4=>c=(none,())/\st4=st3) ?s2 ?f2 #[rfl,rfl,rfl]) ?p2);case f2=>rintro c st4 ⟨e,_⟩;lia
    case s2=>rintro x c st4 _ _ ⟨rfl,rfl,e⟩;show wpS_bind (wpS_get ?_);rw[e,show pendingOf st3=[(0,k,0)].toArray from hb3.rest.2.1.trans hpd];show wpS_pure #[rfl,rfl]
    case p2=>rintro c st4 ⟨rfl,e⟩;rw[e];show wpS_bind (wpS_modify (wpS_bind (wpS_modify (wpS_pure (.inr (.inr #[∅,by rw[show k+(n-k)=n by lia],go (power' n (2*0+k) (2*0+k+k+(n-k)) n) st3 _ rfl rfl rfl ?_ hb3 hu3]))))));rw[show pendingOf st3=[(0,k,0)].toArray from hb3.rest.2.1.trans hpd];rfl
   .rw[q5 hlt];obtain rfl:k2=n-k:=by lia
    show wpS_bind (wpS_get ?_);rw[show pendingOf st2=[(0,k,0)].toArray from hb.rest.2.1.trans hpd];show wpS_bind (wpS_mono (wpS_forRange (I:=λx c st4=>x=0/\c=(none,())/\st4=st2) (Q:=λc st4=>c=(none,())/\st4=st2) ?s2 ?f2 #[rfl,rfl,rfl]) ?p2);case f2=>rintro c st4 ⟨e,_⟩;lia
    case s2=>rintro x c st4 _ _ ⟨rfl,rfl,e⟩;show wpS_bind (wpS_get ?_);rw[e,show pendingOf st2=[(0,k,0)].toArray from hb.rest.2.1.trans hpd];show wpS_pure #[rfl,rfl]
    case p2=>rintro c st4 ⟨rfl,e⟩;rw[e];show wpS_bind (wpS_modify (wpS_bind (wpS_modify (wpS_pure (.inr (.inr #[∅,by rw[show k+(n-k)=n by lia],go (power' n (2*0+k) (2*0+k+k+(n-k)) n) st2 _ rfl rfl rfl ?_ hb hu2]))))));rw[show pendingOf st2=[(0,k,0)].toArray from hb.rest.2.1.trans hpd];rfl
  .simp only;rw[q4 (q8 _)];show wpS_pure #[rfl,z]
 case post=>
  rintro c st' ⟨rfl,R,z⟩;show wpS_bind (wpS_mono (wpS_forRange (I:=λx c st4=>c=(none,())/\((x=0/\st4=st')\/(1<=x/\(arrOf st4).Perm (arrOf st)/\failedOf st4=none/\Up rk (arrOf st4) 0 n/\(pendingOf st4).size=1))) (Q:=λc st4=>c=(none,())/\(arrOf st4).Perm (arrOf st)/\failedOf st4=none/\Up rk (arrOf st4) 0 n) ?step2 ?fin2 #[rfl,.inl #[rfl,rfl]]) ?post2);case post2=>rintro _ st4 ⟨rfl,h3,h4,h5⟩;show wpS_pure (h st4 h3 h4 h5)
  case fin2=>
   rintro c st4 ⟨e,⟨hx,_⟩|⟨_,h3,h4,h5,_⟩⟩
   .lia
   .show#[e,h3,h4,h5]
  case step2=>
   rintro x _ st4 _ _ ⟨rfl,⟨rfl,rfl⟩|⟨_,h3,h4,h5,h6⟩⟩
   .show wpS_bind (wpS_get ?_);rcases z with⟨hp1,hu⟩|⟨k,q,k0,kn,hp2,u1,u2⟩
    .rw[hp1];show wpS_pure #[rfl,R.perm,R.failed,by rwa[zero_add]at hu]
    .rw[hp2];show wpS_bind (Cq C (R.kind.trans hst) (oR _ R) hp2 k0 ∅ (by rw[zR _ R];lia) R.failed u1 u2 λst5 p5 d5 f5 u5=>?_);rw[zR _ R]at u5;show wpS_pure #[rfl,.inr #[∅,p5.trans R.perm,f5,u5,by rw[d5];rfl]]
   .show wpS_bind (wpS_get ?_);rw[q4 ∅];show wpS_pure #[rfl,h3,h4,h5]
def Cm:∀vs:List Value,vs.zip vs=vs.map λv=>(v,v)
 |[]=>rfl
 |v::r=>by show(v,v)::r.zip r=_;rw[Cm r];rfl
theorem list_sort128{a:Addr}{vs:List Value}{n:Nat}{P:Fin->Shared->Prop}(ho:s.heap.get? a=some (seqObj "list" vs.toArray n))(h2:2<=vs.length)(Y:vs.length<128)
  (hk:∀h':Heap,(∀b o,b≠a->s.heap.get? b=some o->h'.get? b=some o)->(∀Q:SortKind->Shared->Prop,Q κ {s with heap:=h'}->wpAny (model prog w) A (keyKind' vs.toArray) Q E {s with heap:=h'})/\Cmp (model prog w) A E {s with heap:=h'} κ ok rk)
  (h1:∀v∈vs,ok (v,v))
  (h:∀F:List Value,F.Perm vs->F.Pairwise (λu v=>rk (u,u)<=rk (v,v))->P (.done (.ret .none)) {s with heap:=sortedHeap s.heap a vs F.toArray}):
  wpAny (model prog w) A (Builtin.«list.sort» #[[.ref a],[]]) P E s:=by
 let ha:a<s.heap.objs.size:=qe ho;rw[list_sort_plain];show qa (listItems_at ho rfl ?_);show qa (listUpdate_at ho rfl ?_ (by rw[qr,zf];lia) (zero_le _));obtain⟨e1,M⟩:∃e1,(s.heap.update a (Obj.mapSeq λ_=>#[])).get? a=some (seqObj "list" #[] e1):=#[_,get?_update_seq ho (λ_=>#[])]
 show qa (seqEpoch_at M rfl ?_);show qa (wpAny_newTuple ?_ (by show vs.length<=_;rw[zf];lia));show qa (wpAny_newList ?_ (zero_le _));show zg ?_;let L:(((s.heap.update a (Obj.mapSeq λ_=>#[])).push (seqObj "tuple" vs.toArray 0)).push (seqObj "list" #[] 0)).get? a=some (seqObj "list" #[] e1):=by rw[Heap.get?_push_ne _ _ _ (by rw[size_push',Heap.size_update];show ne_of_lt (lt_succ_of_lt ha)),Heap.get?_push_ne _ _ _ (by rw[Heap.size_update];show ne_of_lt ha)];show M
 let#[k1,C]:=hk (((s.heap.update a (Obj.mapSeq λ_=>#[])).push (seqObj "tuple" vs.toArray 0)).push (seqObj "list" #[] 0)) λb o hb e=>qc _ (qc _ (by rw[Heap.get?_update_ne _ _ _ _ hb];show e));let O:¬vs.toArray.size<2:=by rw[qr];lia
 rw[q5 O,q5 O];show qa (k1 _ ?_);let J:(vs.toArray.zip vs.toArray).size=vs.length:=by rw[Array.size_zip];show Nat.min_self _
 let hz:(vs.toArray.zip vs.toArray).toList=vs.map λv=>(v,v):=by rw[Array.toList_zip];show Cm vs
 refine qa (zi (Cc C (st:=SortSt.mk' κ (vs.toArray.zip vs.toArray) #[] 7 none) (n:=vs.length)
   (Q:=λ_ z=>(arrOf z).Perm (vs.toArray.zip vs.toArray)/\failedOf z=none/\Up rk (arrOf z) 0 vs.length) rfl
   (λx hx=>?_) rfl rfl J h2 Y λz a1 a2 a3=>#[a1,a2,a3]) ?_ λ_ _ e=>e)
 .rw[show(arrOf (SortSt.mk' κ (vs.toArray.zip vs.toArray) #[] 7 none)).toList=vs.map λv=>(v,v) from hz]at hx;let#[v,hv,rfl]:=qK.mp hx;show h1 v hv
 .rintro⟨⟨⟩,z⟩ s' ⟨rfl,hp,hf,hs⟩;let G:(arrOf z).toList.Perm (vs.map λv=>(v,v)):=by rw[<-hz];exact perm_iff_toList_perm.mp hp
  let B:(arrOf z).size=vs.length:=hp.size_eq.trans J;let h3:(arrOf z).map (·.2)=((arrOf z).toList.map (·.2)).toArray:=Array.toList_inj.mp Array.toList_map;show qa (seqEpoch_at L rfl ?_);show qa (listUpdate_at L rfl ?_ (hsz2:=by rw[Array.size_map,zf];lia));rw[hf];simp;rw[h3];let pv:((arrOf z).toList.map (·.2)).Perm vs:=by let:=G.map (λx:Keyed=>x.2);rwa[qE,show((λx:Keyed=>x.2)∘λv=>(v,v))=id from rfl,map_id]at this
  show qb (h _ pv ?_);let sq:=Bs hs (by rw[B];show q8 _);rw[show(arrOf z).extract 0 vs.length=arrOf z by rw[<-B];show Array.extract_size ..]at sq;rw[pairwise_map];show List.Pairwise.imp_of_mem (λ{x y} hx hy r=>?_) sq;let#[v,_,rfl]:=qK.mp (G.mem_iff.mp hx);let#[u,_,rfl]:=qK.mp (G.mem_iff.mp hy);show r
theorem sorted128{l:Addr}{vs:List Value}{Q:zj}(O:s.heap.IsList l vs.toArray)(h2:2<=vs.length)(J:vs.length<128)
  (Y:∀h':Heap,(∀b o,s.heap.get? b=some o->h'.get? b=some o)->(∀Q:SortKind->Shared->Prop,Q κ {s with heap:=h'}->wpAny (model prog w) A.in1.in1 (keyKind' vs.toArray) Q E {s with heap:=h'})/\Cmp (model prog w) A.in1.in1 E {s with heap:=h'} κ ok rk)
  (L:∀v∈vs,ok (v,v))
  (h:∀z:List Value,z.Perm vs->z.Pairwise (λu v=>rk (u,u)<=rk (v,v))->Q (.ref (s.heap.objs.size+1)) {s with heap:=sortedAll s.heap vs z.toArray}):
  wpAny (model prog w) A (call (.builtin "sorted") [.ref l]) Q E s:=by
 show Calls.call_function_entry kind_sorted plain_sorted entry_sorted (args_sorted1 _) ?_;show qa (m:=checkCount "sorted" 1 1 _) (qb ?_);show qa (collect_list O ?_ (by rw[zf];lia));show qa (wpAny_newList ?_ (by rw[zf];lia));let B:((s.heap.push (seqObj "list" #[] 0)).update s.heap.objs.size (Obj.mapSeq (·++vs.toArray))).objs.size=s.heap.objs.size+1:=by rw[Heap.size_update,size_push']
 let G:(((s.heap.push (seqObj "list" #[] 0)).update s.heap.objs.size (Obj.mapSeq (·++vs.toArray))).push (seqObj "list" vs.toArray 0)).get? (s.heap.objs.size+1)=some (seqObj "list" vs.toArray 0):=by rw[<-B];show qd _ rfl
 rw[B];show qa (zg (ze slot_list_sort #[_,G,rfl] entry_list_sort (list_sort128 G h2 J (λh' M=>Y h' λb o e=>M b o ?_ ?_) L λz a1 a2=>#[_,rfl,?_]) (args_list_sort _)))
 .show ne_of_lt (lt_succ_of_lt (qe e))
 .let F:b<s.heap.objs.size:=qe e;rw[Heap.get?_push_ne _ _ _ (by rw[B];show ne_of_lt (lt_succ_of_lt F)),Heap.get?_update_ne _ _ _ _ (ne_of_lt F),Heap.get?_push_ne _ _ _ (ne_of_lt F)];show e
 .show qb #[_,rfl,h z a1 a2]
end TS
namespace FL
open PySem PySem.Spec PyProof.Rows L2 PySem.W
section
variable{ps:List (List aI×Addr)}
def pD(ps:List (List aI×Addr))(x:Keyed):Int:=match x.1 with
 |.ref b=>vQ (ps.map tK) (ps.findIdx λp=>p.2==b)
 |_=>0
def Lj(G:∀p∈ps,∀q∈ps,p.2=q.2->p.1=q.1){p:List aI×Addr}(B:p∈ps):∃i,∃h:i<ps.length,ps[i]=p/\∀v,pD ps (.ref p.2,v)=vQ (ps.map tK) i:=by
 let z:ps.findIdx (λq=>q.2==p.2)<ps.length:=List.findIdx_lt_length_of_exists #[p,B,by simp];let e:=List.findIdx_getElem (p:=λq:List aI×Addr=>q.2==p.2) (w:=z);let F:ps[ps.findIdx (λq=>q.2==p.2)].2=p.2:=↑e
 show#[_,z,Prod.ext (G _ (getElem_mem z) _ B F) F,λ_=>rfl]
def Lg(B:∀p∈ps,∀q∈ps,p.2=q.2->p.1=q.1)(hs:∀p∈ps,dY sh (p.1.map aG)){p q:List aI×Addr}(z:p∈ps)(L:q∈ps){u v:Value}:decide (pD ps (.ref p.2,u)<pD ps (.ref q.2,v))=!dQ (tK q) (tK p):=by
 let#[i,hi,ei,J]:=Lj B z;let#[j,F,Y,G]:=Lj B L;let M:∀d∈ps.map tK,eP sh d:=λd O=>by let#[p,z,rfl]:=qK.mp O;show hs p z
 let:=Pj (GT sh) M (i:=i) (j:=j) (by rw[qo];show hi) (by rw[qo];show F);rw[J,G,this];simp[hi,F,ei,Y]
def Ni{b:Bool}(B:∀p∈ps,kS s.heap p.2 p.1/\dY sh (p.1.map aG))(hu:∀p∈ps,∀q∈ps,p.2=q.2->p.1=q.1):TS.Cmp (model prog w) A E s (tuples' b) (λx=>∃p∈ps,x=(.ref p.2,.ref p.2)) (pD ps):=by
 show#[λx y Q st F⟨p,v,ex⟩⟨q,M,ey⟩ h=>?_];subst ex ey;rw[Lg hu (λp v=>(B p v).2) v M]at h;rw[lt'_eq];show wpS_bind (wpS_get ?_);rw[F];let#[#[O,r,o,e,c,n,d],L]:=B _ v;let#[#[z,G,o',e',c',n',d'],J]:=B _ M;rw[show dQ (tK q) (tK p)=_ from EW J L,Bool.not_not]at h;show wpS_bind (wpS_lift (wpAny_attempt (kat_lt e d e' d' ?_)));let l1:O.toArray.size=p.1.length:=by rw[qr,<-r.length,qo]
 let Y:z.toArray.size=q.1.length:=by rw[qr,<-G.length,qo]
 rw[l1,Y];show Vf 0 r G L J #[rfl,wpS_pure h]
def MX{t:Bool}(J:∀p∈ps,kS s.heap p.2 p.1/\dY (t::sh) (p.1.map aG))(h2:2<=ps.length){Q:SortKind->Shared->Prop}(h:Q (tuples' true) s):wpAny (model prog w) A (keyKind' (ps.map λp=>Value.ref p.2).toArray) Q E s:=by
 let#[fs,G,L,F]:=CH J;cases t
 .show kat_kind (T:=.type "int") G ∅ (λv B=>?_) (by rfl) h;let#[z,u,rfl]:=F v B;show Looks.of_pure rfl
 .show kat_kind (T:=.type "str") G ∅ (λv B=>?_) (by rfl) h;let#[z,u,rfl]:=F v B;show Looks.of_pure rfl
def Np(L:∀p∈ps,dY sh (p.1.map aG))(J:∀p∈ps,∀q∈ps,p.2=q.2->p.1=q.1){z:List Value}(M:z.Perm (ps.map λp=>Value.ref p.2))(G:z.Pairwise λu v=>pD ps (u,u)<=pD ps (v,v)):
  ∃B:List (List aI×Addr),z=(B.map λp=>Value.ref p.2)/\B.Perm ps/\(B.map tK).Pairwise (dQ · ·=true):=by
 let#[B,rfl,F]:=Hm M;show#[B,rfl,F,?_];rw[pairwise_map]at G⊢;show G.imp_of_mem λ{p q} h1 h2 r=>?_;let:=Lg J L (F.mem_iff.mp h2) (F.mem_iff.mp h1) (u:=.ref q.2) (v:=.ref p.2);rw[qS ∅]at this;simpa using this.symm
def LM:∀v∈ps.map (λp=>Value.ref p.2),∃p∈ps,(v,v)=(Value.ref p.2,Value.ref p.2):=λv z=>by let#[p,B,rfl]:=qK.mp z;show#[p,B,rfl]
end
section
variable{K:W.Frag}
def fG(K:W.Frag):List V->Hp->VK->Prop:=λxs H Q=>∃a vs,xs=[.ref a]/\(bO K H a vs\/H a=some (.set vs))/\
 ((vs.length<2/\∀q,H q=none->Q (.ref q) (upd H q (.lst vs)))\/
 ∃(ps:List (List aI×Addr))(sh:List Bool),vs=ps.map (λp=>V.ref p.2)/\2<=ps.length/\ps.length<128/\(∀p∈ps,H p.2=some (.tup (p.1.map kV))/\dY sh (p.1.map aG))/\sh≠[]/\∀v:List (List aI×Addr),v.Perm ps->(v.map tK).Pairwise (dQ · ·=true)->∀q,H q=none->Q (.ref q) (upd H q (.lst (v.map λp=>V.ref p.2))))
def NS:∀{l m:List aI},l.map kV=m.map kV->l=m
 |[],[],_=>rfl
 |[],_::_,h=>nomatch h
 |_::_,[],h=>nomatch h
 |a::l,b::m,h=>by let#[h1,h2]:=List.cons.inj h;rw[NS h2];cases a<;>cases b<;>first|cases h1;rfl|nomatch h1
def LW{H:Hp}{ps:List (List aI×Addr)}(F:∀p∈ps,H p.2=some (.tup (p.1.map kV))):∀p∈ps,∀q∈ps,p.2=q.2->p.1=q.1:=λp B q v e=>by let z:=F p B;rw[e,F q v]at z;show(NS (HO.tup.inj (qf z))).symm
def Jy(I:Inv X zH Z H s){F:Shared}{D:Addr}{B:Array Value}{e:Nat}{J:List V}(O:zE J B.toList)(hw:J.length<=1000)(hD:F.heap.get? D=some (seqObj "list" B e))(G:s.heap.get? D=none)(L:∀b o,s.heap.get? b=some o->F.heap.get? b=some o)(hg:F.gens=s.gens)(Y:F.os=s.os)(q:∀q,H q=none->Q (.ref q) (upd H q (.lst J))):EP X zH Z Q (.ref D) F:=by
 let#[h2,g2,d2,M,o2]:=F;subst hg Y;show#[.ref D,_,Inv.laidD (s:=s) (t':=M) (d':=d2) (o:=.lst J) I (λm x=>x.at' λo e=>L _ o e) (λb u _ e=>L b u e) G ?_,rfl,q D ?_]
 .show#[by rw[zf];lia,B.toList,e,O,by rw[toArray_toList];show hD]
 .cases e:H D with
  |none=>rfl
  |some u=>let#[v,z]:=zG.there (I.hok D u e);rw[G]at z;cases z
def UO(hh:X.A.handled=none):aY X (.builtin "sorted") (fG X.K):=by
 intro zH s Z H xs us Q I r h;let#[a,vs,rfl,z,h]:=h;cases r with
 |cons r1 r2=>
  cases r2;cases r1;let h8:=λ{s2 D h5 e ws}=>@Jy X zH Z H s Q I s2 D h5 e ws;let h9:∀{h':Heap},(∀b o,s.heap.get? b=some o->h'.get? b=some o)->∀b u,b≠X.env.locals->s.heap.get? b=some u->h'.get? b=some u:=λk b u _ e=>k b u e;rcases z with z|z
  .rcases h with⟨h2,q⟩|⟨ps,sh,rfl,h2,J,hp,h7,q⟩
   .show UY zH s Z H [.ref a] [.ref a] Q I (.cons rfl .nil) #[a,vs,rfl,z,h2,q]
   .obtain⟨e3,rv,pl,_⟩:=I.list z;let hv:=Ja rv;subst hv;let hu:=LW λp h=>(hp p h).1;let#[t,O,rfl]:=List.exists_cons_of_ne_nil h7;refine TS.sorted128 (ok:=λx=>∃p∈ps,x=(.ref p.2,.ref p.2)) (rk:=pD ps) (κ:=tuples' true) pl.isList (by rw[qo];show h2) (by rw[qo];show J) (λh' k=>?_) LM λh5 a1 a2=>?_
    .let ht:∀p∈ps,kS h' p.2 p.1/\dY (t::O) (p.1.map aG):=λp v=>#[MD I (h9 k) (hp p v).1,(hp p v).2]
     show#[λQ hQ=>MX (s:={s with heap:=h'}) ht h2 hQ,Ni (s:={s with heap:=h'}) ht hu]
    .obtain⟨Y,rfl,pq,pw⟩:=Np (λp v=>(hp p v).2) hu a1 a2;let#[e,he]:=sortedAll_at s.heap (ps.map λp=>Value.ref p.2) (Y.map λp=>Value.ref p.2).toArray;show h8 (Jm Y) (by rw[qo,pq.length_eq];lia) he (Heap.get?_none_of_le (le_succ _)) (λb o w=>sortedAll_old w) rfl rfl (q Y pq pw)
  .obtain⟨es,ep,t,us,h1,h2,h3,h4,pu,hv,hl⟩:=Lb I z;let none_of:∀{L:Shared},(∀b o,s.heap.get? b=some o->L.heap.get? b=some o)->s.heap.get? L.heap.objs.size=none:=λ{L} F=>by
    cases q:s.heap.get? L.heap.objs.size with
    |none=>rfl
    |some o=>show absurd (ST.lt_of_get (F _ _ q)) (lt_irrefl _)
   rcases h with⟨G,q⟩|⟨ps,sh,rfl,G,J,hp,h7,q⟩
   .show ST.sorted_set hh (Hi I z) h1 h2 h3 h4 ∅ λL ord h6 F hg ho ht new=>?_;let#[ws,pw,M]:=Nt hv (h6.map (·.2));let ew:ws=vs:=Sn (pw.trans pu) G;subst ew;let e2:(ord.map (·.2)).length<2:=by rw[<-M.length];exact G
    show Mb new e2 #[_,rfl,?_];let#[e,he]:=ST.sortedHeap_at new (ord.map (·.2)).toArray;show h8 M ∅ he (none_of F) (λb o e=>ST.sortedHeap_old (ne_of_lt (ST.lt_of_get (F b o e))) (qc _ (F b o e)) _) hg ho q
   .rw[qo]at hl;show ST.sorted_set hh (Hi I z) h1 h2 h3 h4 ∅ λL ord h6 F hg ho ht new=>?_;let#[ws,pw,M]:=Nt hv (h6.map (·.2));let#[B,rfl,pp]:=Hm (pw.trans pu);let e1:=Ja M;rw[e1]at new⊢;let v:∀p∈B,H p.2=some (.tup (p.1.map kV))/\dY sh (p.1.map aG):=λp h=>hp p (pp.mem_iff.mp h);let hu:=LW λp h=>(v p h).1;let#[t,O,rfl]:=List.exists_cons_of_ne_nil h7;refine TS.list_sort128 (s:={L with heap:=L.heap.push (seqObj "list" (B.map λp=>Value.ref p.2).toArray 0)}) (ok:=λx=>∃p∈B,x=(.ref p.2,.ref p.2)) (rk:=pD B) (κ:=tuples' true) new (by rw[qo,pp.length_eq];show G) (by rw[qo,pp.length_eq];show J) (λh' k=>?_) LM λh5 a1 a2=>#[_,rfl,?_]
    .let ht:∀p∈B,kS h' p.2 p.1/\dY (t::O) (p.1.map aG):=λp z=>#[MD I (λb u _ e=>k b u (ne_of_lt (ST.lt_of_get (F b u e))) (qc _ (F b u e))) (v p z).1,(v p z).2]
     show#[λQ hQ=>MX (s:={L with heap:=h'}) ht (by rw[pp.length_eq];show G) hQ,Ni (s:={L with heap:=h'}) ht hu]
    .obtain⟨Y,rfl,pq,pw⟩:=Np (λp z=>(v p z).2) hu a1 a2;let#[e,he]:=ST.sortedHeap_at new (Y.map λp=>Value.ref p.2).toArray;show h8 (Jm Y) (by rw[qo,pq.length_eq,pp.length_eq];lia) he (none_of F) (λb o e=>ST.sortedHeap_old (ne_of_lt (ST.lt_of_get (F b o e))) (qc _ (F b o e)) _) hg ho (q Y (pq.trans pp) pw)
def MW:cJ K (fG K) uJ:=by
 intro Z U F G H vs ds s Q z Y e O;let#[d,v,rfl,rfl]:=BK (λx y r=>by cases x<;>rfl) rfl Y e;let B:∀{a:Addr}{xs:List V}{l:List D},(bO K H a xs\/H a=some (.set xs))->zF K F xs l->gI l=some s->fG K [.ref a] H Q:=λ{a xs l} h3 r e=>by
  unfold gI at e;split at e
  .rename_i hc;cases e;show#[a,xs,rfl,h3,?_];let#[J,hc]:=hc;let h5:=r.len;by_cases h2:l.length<2
   .show .inl #[∅,λq hn=>?_];rw[TJ h2]at O;show O _ F _ (zr.refl F) (z.newLD hn r)
   .obtain⟨sh,h4,L⟩:=hc.resolve_left h2;let M:l.all (aO true)=true:=qI.mpr λd hd=>by let:=L d hd;cases d<;>first|exact this.elim|exact LJ this
    let#[ps,rfl,rfl,hf]:=Il r M;rw[qo]at J h2;show .inr #[ps,sh,rfl,∅,J,λp hp=>#[z.fr _ _ (hf p hp),L (tK p) (qK.mpr #[p,hp,rfl])],h4,λqs pq pw q hn=>?_];rw[GC (GT sh) L (pq.map tK) pw]at O;show O _ F _ (zr.refl F) (z.newLD hn (zF.of_all λi hi=>zF.to_all r i (pq.mem_iff.mp hi)))
  .cases e
 cases d with
 |lst l=>let#[a,xs,rfl,h1,r1]:=Y.1.lst z.fr;show B (.inl h1) r1 e
 |set l=>let#[a,xs,rfl,h1,r1]:=bE.set Y.1;show B (.inr (z.fr _ _ h1)) r1 e
 |_=>cases e
def iY(K:W.Frag):List V->Hp->VK->Prop:=λxs H Q=>fG K xs H Q\/∃a vs,xs=[.ref a]/\(bO K H a vs\/H a=some (.set vs))/\((∃ns:List Int,vs=ns.map V.int/\ns.length<64/\∀z:List Int,z.Perm ns->z.Pairwise (·<=·)->∀q,H q=none->Q (.ref q) (upd H q (.lst (z.map V.int))))\/
 ∃B:List Str,vs=B.map V.str/\B.length<64/\∀v:List Str,v.Perm B->sortedS v=true->∀q,H q=none->Q (.ref q) (upd H q (.lst (v.map V.str))))
def UD(Y:X.A.handled=none):aY X (.builtin "sorted") (iY X.K):=by
 intro zH s Z H xs us Q I r h;rcases h with h|⟨a,vs,rfl,z,h⟩
 .show UO Y zH s Z H xs us Q I r h
 .cases r with
  |cons r1 r2=>
   cases r2;cases r1;rcases z with z|z
   .rcases h with⟨ns,rfl,v,q⟩|⟨zs,rfl,v,q⟩
    .show NI zH s Z H [.ref a] [.ref a] Q I (.cons rfl .nil) #[a,rfl,.inl #[ns,v,z,q]]
    .show NI zH s Z H [.ref a] [.ref a] Q I (.cons rfl .nil) #[a,rfl,.inr #[zs,v,z,q]]
   .obtain⟨es,ep,t,us,h1,h2,h3,h4,pu,hv,hl⟩:=Lb I z;rcases h with⟨ns,rfl,v,q⟩|⟨zs,rfl,v,q⟩
    .obtain⟨ms,rfl,G⟩:=Hm pu;rw[qo]at hl;show ST.sorted_set_ints Y (Hi I z) h1 h2 h3 h4 ∅ (Ko hv) λs2 D L e B a1 J a3 hD F O hg M ht=>Jy I (GH a1) (by rw[qo,J.length_eq,G.length_eq];lia) hD F O hg M (q B (J.trans G) a3)
    .obtain⟨ms,rfl,G⟩:=Hm pu;rw[qo]at hl;show ST.sorted_set_strs Y (Hi I z) h1 h2 h3 h4 ∅ (Ir hv) λs2 D L e B a1 J a3 hD F O hg M ht=>Jy I (JU a1) (by rw[qo,J.length_eq,G.length_eq];lia) hD F O hg M (q B (J.trans G) a3)
def UN:cJ K (iY K) bQ:=by
 intro Z U F G H vs ds s Q B O e M;let#[d,v,rfl,rfl]:=BK (λx y r=>by cases x<;>rfl) rfl O e;let J:∀{a:Addr}{xs:List V}{l:List D},(bO K H a xs\/H a=some (.set xs))->zF K F xs l->cC l=some s->(gI l=some s->fG K [.ref a] H Q)->iY K [.ref a] H Q:=λ{a xs l} h2 r e h8=>by
  unfold cC at e;split at e
  .rename_i hc;rcases hc with⟨h3,hi|hs⟩|h
   .cases e;let#[ns,q1]:=isSome_iff_exists.mp hi;let#[e1,e2]:=QH r q1;subst e1 e2;show .inr #[a,_,rfl,h2,.inl #[ns,rfl,by rwa[qo]at h3,λY p pw q hn=>?_]];rw[GC QX (m:=Y.map D.int) (λd hd=>by let#[z,_,rfl]:=qK.mp hd;trivial) (p.map _) (pairwise_map.mpr (pw.imp λ{a b} h=>by rw[Qj];show qR h))]at M;show M _ F _ (zr.refl F) (B.newLD hn (JP Y))
   .cases e;let#[ys,q2]:=isSome_iff_exists.mp hs;let#[zs,e1,e2]:=LY r q2;subst e1;let#[e3,sm]:=NQ r rfl;subst e3;show .inr #[a,_,rfl,h2,.inr #[zs,rfl,by rwa[qo]at h3,λL p pw q hn=>?_]];rw[GC Jh (m:=L.map λz=>D.str z.cps.toList) (λd hd=>by let#[z,_,rfl]:=qK.mp hd;trivial) (p.map _) (UB L pw)]at M;show M _ F _ (zr.refl F) (B.newLD hn (NA L λz hz=>sm z (p.mem_iff.mp hz)))
   .show .inl (h8 (by unfold gI;rw[q4 h];show e))
  .cases e
 cases d with
 |lst l=>let#[a,xs,rfl,h1,r1]:=O.1.lst B.fr;show J (.inl h1) r1 e λe8=>MW Z U F G H _ [.lst l] s Q B O e8 M
 |set l=>let#[a,xs,rfl,h1,r1]:=bE.set O.1;show J (.inr (B.fr _ _ h1)) r1 e λe8=>MW Z U F G H _ [.set l] s Q B O e8 M
 |_=>cases e
def GA{k:Nat}(F:bM k X.A)(J:Gl X "sorted")(G:X.mg "sorted"=none)(B:bootBuiltins "sorted"=some (.builtin "sorted"))(M:FA X (e::es) z)(L:starEach (e::es) X.env=(false,eval e X.env)::starEach es X.env:=by rfl)(v:(backTo pos (starEach es X.env)).any (·.1)=false:=by rfl):FE X (.Call (.Name "sorted" p) (e::es) [] pos) (wB bQ z):=
 Hl (λpn xe=>UD (X:=wp X pn xe) F.hd) UN J G B M ⋯ ⋯ L v
end
end FL
namespace FL
def fS:List D->Option S
 |[.str l]=>if l.length<=150 then some (.set (aH (l.map λc=>.str [c])))else none
 |_=>none
end FL
namespace FL
open PySem PySem.Spec PyProof.Rows L2
theorem Sz(hh:A.handled=none)(hu:A.units+20<cLine)(I:Inv X zH Z H s)(hT:s.TypeIs x T)(h2:isSubtype (.type T) (.type "set")=pure false)(Y:isSubtype (.type T) (.type "frozenset")=pure false)(h3:(Value.type T==Value.type "dict")=false)
  (W:ST.WalkOk X.prog X.w s x n P)(hl:n=ks.length)(hP:∀i v(hi:i<ks.length),P i v->zw (kV ks[i]) v)(hz:ks.length<=150)
  (h:∀s',Inv X zH Z (upd H s.heap.objs.size (.set ((fW id ks).map kV))) s'->Q (.ref s.heap.objs.size) s'):wpAny (model X.prog X.w) A (call (.type "set") [x]) Q E s:=by
 refine ST.call_set (B:=A.units+20) (J:=JK X s ks) hh hT h2 Y h3 W (λh e k=>#[k,[],.refl _,ST.vset_new e,λ_=>e]) (λi h h' hi x hk=>JK.stay X s x hk)
  (λA i v s' Q E hi h5⟨M,xs,p,S,z⟩ hQ hA=>?_) (q8 _) λh' tk⟨M,xs,p,S,z⟩ _ ht=>h _ ?_
 .rw[hl]at hi;let ru:=hP i v hi h5;let h4:xs.length<=150:=by let h1:=p.length_eq;grind[Ga,length_map,fW,bG,length_take,length_nil]
  let O:∀{h':Heap},Heap.SameBut s.heap.objs.size s'.heap h'->∀b o,s.heap.get? b=some o->h'.get? b=some o:=λL b o e=>(L.2 b (ne_of_lt (ST.lt_of_get e))).trans (M b o e);let G:=JC (id:aI->aI) hi;show ST.setAddV (EK ru) (Jc ru) S h4 (λhm r=>hQ s'.heap _ r (le_succ _) (Heap.SameBut.refl _ _) #[M,xs,?_,S,λz=>nomatch z]) λhm h' ys L pm S' r=>hQ h' _ r (le_succ _) L #[O L,ys,?_,S',λz=>nomatch z]
  .rw[G];unfold bG;grind
  .rw[G];unfold bG;rw[map_id,q5 (show¬id ks[i]∈fW id (ks.take i) from λz=>hm (p.mem_iff.mp z))];show(qN.trans (List.Perm.cons _ p)).trans (pm.map (·.1)).symm
 .rw[hl,take_length]at p;refine I.laid (t':=tk) M (q8 _) #[?_,?_]
  .grind[length_map,Ga,fW,bG,length_nil]
  .cases ks with
   |nil=>show .inl #[rfl,z hl]
   |cons y ks=>
    show .inr (.inl #[λe=>?_,xs,?_,S])
    .have h1:∀(l F:List aI),F≠[]->l.foldl (bG id) F≠[]:=λl=>by
      induction l with
      |nil=>show λ_ h=>h
      |cons i l ih=>
       show λF h=>ih _ ?_;unfold bG;split
       .show h
       .simp
     show h1 ks (bG id [] y) (by unfold bG;simp) (map_eq_nil_iff.mp e)
    .let:=p.map kV;rw[qE]at this;show this
section
variable{K:W.Frag}
def pE:List V->Hp->VK->Prop:=λxs H Q=>∃x:Str,xs=[.str x]/\x.cps.size<=150/\∀p,H p=none->Q (.ref p) (upd H p (.set ((fW id (x.cps.toList.map λc=>(Sum.inr #[[c].toArray]:aI))).map kV)))
def Ve:isSubtype (.type "str") (.type "set")=pure false:=by rw[isSubtype_type];kernel_rfl
def Vc:isSubtype (.type "str") (.type "frozenset")=pure false:=by rw[isSubtype_type];kernel_rfl
def Ub(z:bM k X.A):aY X (.type "set") pE:=by
 intro zH s Z H xs O Q I r h;let#[x,rfl,F,q]:=h;let G:X.A.units+20<cLine:=by let:=z.units;lia
 let#[u,rfl,B]:=vals1 r;let#[t,rfl]:=B;show Sz (T:="str") (ks:=x.cps.toList.map λc=>(Sum.inr #[[c].toArray]:aI)) z.hd G I rfl Ve Vc ⋯ (ST.walk_str x t) (by simp) (λi v hi L=>?_) ↑F λs' M=>#[.ref _,_,M,rfl,q _ I.fresh]
 let#[c,u,J,rfl]:=L;let:x.cps.toList[i]?=some c:=by rw[qZ];show J
 rw[getElem_map,(qg.mp this).2];show#[u,rfl]
def SF:cJ K pE fS:=by
 intro Z U F G H vs ds s Q B J e L;let#[d,v,rfl,rfl]:=BK (λx y r=>by cases x<;>rfl) rfl J e;cases d with
 |str l=>
  let e:(if l.length<=150 then some (S.set (aH (l.map λc=>.str [c])))else none)=some s:=e;split at e
  .rename_i O;cases e;let#[x,rfl,e1,z]:=J.1.str;subst e1;show#[x,rfl,O,λp M=>?_];let Y:(x.cps.toList.map λc=>D.str [c])=(x.cps.toList.map λc=>(Sum.inr #[[c].toArray]:aI)).map aG:=by rw[qE];rfl
   rw[Y,Jg id (f:=aG) λi j=>#[ER,λz=>by rw[show i=j from z]]]at L;show L _ F _ (zr.refl F) (B.newS M (zF.of_all λi hi=>?_));rcases GF id hi with z|z
   .cases z
   .obtain⟨c,_,rfl⟩:=qK.mp z;show .str rfl (by show 1<=16777216;decide)
  .cases e
 |_=>cases e
def LF(F:bM k X.A)(J:Gl X "set")(G:X.mg "set"=none)(B:bootBuiltins "set"=some (.type "set"))(M:FA X (e::es) z)(L:starEach (e::es) X.env=(false,eval e X.env)::starEach es X.env:=by rfl)(v:(backTo pos (starEach es X.env)).any (·.1)=false:=by rfl):FE X (.Call (.Name "set" p) (e::es) [] pos) (wB fS z):=
 Hj (λpn xe=>Ub (X:=wp X pn xe) F) SF J G B M ⋯ ⋯ L v
end
end FL
namespace FL
mutual
def nP:D->D->Bool
 |.int _,.int _=>true
 |.tup l,.tup m=>eO l m
 |_,_=>false
def eO:List D->List D->Bool
 |a::l,b::m=>nP a b&&eO l m
 |_,_=>true
end
def yJ:D->D->Option S
 |.set l,.set m=>if l.all (aO true)=true/\m.all (aO true)=true/\l.length+m.length<=150 then some (.set (aH (l++m)))else none
 |_,_=>none
end FL
namespace FL
open PySem PySem.Spec PyProof.Rows L2
open PySem.SeqAt AutoSeq1
def wZ:bR (.int i) (.int j)=if i<j then .lt else if j<i then .gt else .eq:=rfl
mutual
def SM:∀(d:D),nP d d=true->bR d d=.eq
 |.int i,_=>by rw[wZ,q5 (Int.lt_irrefl i),q5 (Int.lt_irrefl i)]
 |.tup l,h=>MI l h
 |.non,h|.bl _,h|.str _,h|.lst _,h|.dct ..,h|.set _,h|.exc ..,h=>by cases h
def MI:∀(l:List D),eO l l=true->aR l l=.eq
 |[],_=>by rw[aR]
 |d::l,h=>by rw[eO,and_eq_true]at h;rw[aR,SM d h.1];show MI l h.2
end
mutual
def OR:∀(d e:D),nP d e=true->bR d e=.eq->d=e
 |.int i,e,h,c=>by
  cases e with
  |int j=>
   rw[wZ]at c;split at c
   .cases c
   .split at c
    .cases c
    .rw[show i=j by lia]
  |_=>cases h
 |.tup l,e,h,c=>by
  cases e with
  |tup m=>rw[Lx l m h c]
  |_=>cases h
 |.non,_,h,_|.bl _,_,h,_|.str _,_,h,_|.lst _,_,h,_|.dct ..,_,h,_|.set _,_,h,_|.exc ..,_,h,_=>by cases h
def Lx:∀(l m:List D),eO l m=true->aR l m=.eq->l=m
 |[],[],_,_=>rfl
 |[],_::_,_,c=>by rw[aR]at c;cases c
 |_::_,[],_,c=>by rw[aR]at c;cases c
 |d::l,e::m,h,c=>by
  rw[eO,and_eq_true]at h;rw[aR]at c;cases q:bR d e with
  |eq=>rw[q]at c;rw[OR d e h.1 q,Lx l m h.2 c]
  |lt=>rw[q]at c;cases c
  |gt=>rw[q]at c;cases c
end
mutual
def Uv:∀(d e:D),nP d e=true->aP d e=false
 |.int i,e,h=>by cases e<;>first|rfl|cases h
 |.tup l,e,h=>by
  cases e with
  |tup m=>show NF l m h
  |_=>cases h
 |.non,_,h|.bl _,_,h|.str _,_,h|.lst _,_,h|.dct ..,_,h|.set _,_,h|.exc ..,_,h=>by cases h
def NF:∀(l m:List D),eO l m=true->bD l m=false
 |[],[],_=>rfl
 |[],_::_,_=>rfl
 |_::_,[],_=>rfl
 |d::l,e::m,h=>by rw[eO,and_eq_true]at h;show(aP d e||bD l m)=false;rw[Uv d e h.1,NF l m h.2];rfl
end
end FL
namespace FL
open PySem PySem.Spec PyProof.Rows L2
section
variable{K:W.Frag}
abbrev kR(p:List aI×Addr):V:=V.ref p.2
def fe:R2:=λx y H Q=>∃a b,∃ps v:List (List aI×Addr),x=.ref a/\y=.ref b/\H a=some (.set (ps.map kR))/\H b=some (.set (v.map kR))/\(∀p∈ps,H p.2=some (.tup (p.1.map kV)))/\(∀p∈v,H p.2=some (.tup (p.1.map kV)))/\ps.length+v.length<=150/\
 ∀rs:List (List aI×Addr),(∀r∈rs,r∈ps\/r∈v)->(∀k∈ps.map (·.1),k∈rs.map (·.1))->(∀k∈v.map (·.1),k∈rs.map (·.1))->(rs.map (·.1)).Nodup->∃z:List (List aI×Addr),z.Perm rs/\∀n,H n=none->Q (.ref n) (upd H n (.set (z.map kR)))
def Se(I:Inv X zH Z H s):Inv X zH Z H {s with drawn:=d'}:=
 I.step (g':=s.gens) (d':=d') (ch:=[]) (λ_ z=>nomatch z) (λ_ _ _ _ _ e _=>e) (λ_ o _ _ _ e _=>#[o.slots,e]) (λ_ _ _ _ n=>n) (λ_ o _ e=>#[o,e]) (λ_ _ e=>e) (λ_ _ _ e=>e) (λ_ _ e=>#[#[],by rw[e];simp]) (λ_ m=>m) I.hok I.bare
def KL(hu:X.A.units+1<cLine):OpR X (binaryOp .BitOr) fe:=by
 intro zH s Z H x y v u Q I rx ry h;let#[a,b,ps,qs,rfl,rfl,ha,hb,hp,hq,hl,q]:=h;cases rx;cases ry;let#[xs,O,SA]:=Jq I ha rfl hp;let#[ys,M,SB]:=Jq I hb rfl hq;show ST.or_op hu SA SB rfl (by rw[<-O.length_eq,<-M.length_eq];show hl) λh' B d k T lz c1 c2 c3 c4=>?_;let T':=T;let#[_,_,_,_,_,_,_,_,_,_,_,_,Y]:=T';let G:∀z∈B,z∈ps\/z∈qs:=λz J=>(c1 z J).imp O.mem_iff.mpr M.mem_iff.mpr;let#[F,pt,g]:=q B G (λk hk=>c2 k ((O.map _).mem_iff.mp hk)) (λk hk=>c3 k ((M.map _).mem_iff.mp hk)) Y;let L:∀d xs,H d=some (HO.tup xs)->upd H s.heap.objs.size (.set (F.map kR)) d=some (.tup xs):=λd xs z=>by rw[Ap (DZ z I.fresh)];show z
 have hc:(F.map kR=[]/\h'.get? s.heap.objs.size=some (ST.freshSet (ST.ldOf X.w)))\/F.map kR≠[]:=by
  by_cases z:F=[]
  .subst z;let J:B=[]:=length_eq_zero_iff.mp pt.length_eq.symm;let nil:∀{l:List (List aI×Addr)},(∀k∈l.map (·.1),k∈B.map (·.1))->l=[]:=λ{l} g=>by
    cases l with
    |nil=>rfl
    |cons r l=>have:=g r.1 (by simp);rw[J]at this;cases this
   show .inl #[rfl,c4 (nil c2) (nil c3)]
  .show .inr λe=>z (map_eq_nil_iff.mp e)
 let I2:=Se (d':=d) (I.laid (h':=h') (t':=s.toks) (a:=s.heap.objs.size) (o:=.set (F.map kR)) k (q8 _) #[by rw[qo,pt.length_eq];rw[<-O.length_eq,<-M.length_eq]at lz;lia,hc.imp id λht=>.inr #[ht,B,pt.map _,λz J=>L _ _ ((G z J).elim (hp z) (hq z)),T.raw]]);show#[.ref _,_,I2,rfl,g _ I.fresh]
def Nj:∀{ps:List (List aI×Addr)},zF K F (ps.map kR) (ps.map tK)->∀p∈ps,aN K F (kR p) (tK p)
 |p::ps,r,q,hq=>by
  cases r with
  |cons a b=>
   rcases qA.mp hq with rfl|z
   .show a
   .show Nj b q z
def MT:∀{v:List (List aI×Addr)},(∀t∈v,aN K F (kR t) (tK t))->zF K F (v.map kR) (v.map tK)
 |[],_=>.nil
 |t::v,h=>.cons (h t qm) (MT λu z=>h u (qk _ z))
def KZ(v:zr F H)(r:bE K F H x (.set l))(B:l.all (aO true)=true):∃a,∃ps:List (List aI×Addr),x=.ref a/\H a=some (.set (ps.map kR))/\l=ps.map tK/\(∀p∈ps,aN K F (kR p) (tK p))/\∀p∈ps,H p.2=some (.tup (p.1.map kV)):=by
 rcases r with r|⟨_,_,_,_,h,_⟩|⟨_,_,_,_,_,h,_⟩|⟨_,_,_,_,_,h,_⟩
 .cases r with
  |st e r=>let#[ps,rfl,rfl,h]:=Il r B;show#[_,ps,rfl,v _ _ e,rfl,Nj r,λp z=>v _ _ (h p z)]
 .cases h
 .cases h
 .cases h
def QU:gE K fe yJ:=by
 intro Z U F G H x y p q s Q v ex ey e hq;cases p<;>first|(cases e;done)|skip
 rename_i l;cases q<;>first|(cases e;done)|skip
 rename_i m;let O:(if l.all (aO true)=true/\m.all (aO true)=true/\l.length+m.length<=150 then some (S.set (aH (l++m)))else none)=some s:=e;split at O
 .rename_i hc;cases O;let#[h1,h2,h3]:=hc;let#[a,ps,rfl,ea,rfl,fp,B]:=KZ v.fr ex h1;let#[b,Y,rfl,eb,rfl,fq,M]:=KZ v.fr ey h2;show#[a,b,ps,Y,rfl,rfl,ea,eb,B,M,↑h3,λrs J c1 c2 nd=>?_];let pm:(rs.map tK).Perm (aH (ps.map tK++Y.map tK)):=by
   show(perm_ext_iff_of_nodup ?_ (Kk _)).mpr λd=>?_
   .show pairwise_map.mpr ((pairwise_map.mp nd).imp λ{a b} h z=>h (zbQ.mp z))
   .rw[zaA,qx,qK,qK,qK];let go:∀p:List aI×Addr,p.1∈rs.map (·.1)->∃r∈rs,tK r=tK p:=λp B=>by let#[r,L,e]:=qK.mp B;exact#[r,L,by unfold tK;rw[e]]
    constructor
    .rintro⟨r,L,rfl⟩;show(J r L).imp (λz=>#[r,z,rfl]) λz=>#[r,z,rfl]
    .rintro(⟨p,B,rfl⟩|⟨p,B,rfl⟩)
     .show go p (c1 _ (qK.mpr #[p,B,rfl]))
     .show go p (c2 _ (qK.mpr #[p,B,rfl]))
  let#[ts,et,pt]:=Hm pm.symm;show#[ts,pt,λn hn=>hq _ F _ (zr.refl F) ?_];rw[et];show v.newO hn (.st Bl ?_);show MT λt ht=>(J t (pt.mem_iff.mp ht)).elim (fp t) (fq t)
 .cases O
def Qh(B:X.A.units+1<cLine)(G:FE X a z)(F:FE X b v):FE X (.BinOp a .BitOr b pos) (zy yJ z v):=FR (λ_ _=>KL B) QU G F
end
end FL
namespace FL
def e_C:wC d U Q E=Q (.v (.sh d)) U:=rfl
def kV(o:Option S)(Q:WQ)(U:Env):Prop:=zp o λs=>Q (.v s) U
def e_V:kV (some s) Q U=Q (.v s) U:=rfl
def kK(o:D->D->Option S)(x y:Option D)(Q:WQ)(U:Env):Prop:=zp x λp=>zp y λq=>kV (o p q) Q U
def iG(o:D->D->Option S)(x:R)(Q:WQ):WQ:=λy v=>kK o (zD x v) (zD y v) Q v
def pQ(o:D->D->Option S)(b:WE)(Q:WQ)(E:WX):WQ:=λx v=>b v (iG o x Q) E
def zpq:zy o a b U Q E=a U (pQ o b Q E) E:=rfl
def zlq:pQ o b Q E x U=b U (iG o x Q) E:=rfl
def ic:iG o x Q y U=kK o (zD x U) (zD y U) Q U:=rfl
def zlB:kK o (some p) (some q) Q U=kV (o p q) Q U:=rfl
def sR(o:D->Option S)(x:Option D)(Q:WQ)(U:Env):Prop:=zp x λp=>kV (o p) Q U
def fj(o:D->Option S)(Q:WQ):WQ:=λx U=>sR o (zD x U) Q U
def e_Un{o:D->Option S}:zO o a U Q E=a U (fj o Q) E:=rfl
def zoi{o:D->Option S}:fj o Q x U=sR o (zD x U) Q U:=rfl
def zoz{o:D->Option S}:sR o (some p) Q U=kV (o p) Q U:=rfl
def kC(o:Option Bool)(Q:Bool->Env->Prop)(U:Env):Prop:=zp o λc=>Q c U
def e_Ck{c:Bool}:kC (some c) QT U=QT c U:=rfl
def gK(o:D->D->Option Bool)(x y:Option D)(Q:Bool->Env->Prop)(U:Env):Prop:=zp x λp=>zp y λq=>kC (o p q) Q U
def fP(o:D->D->Option Bool)(x:R)(Q:Bool->Env->Prop):WQ:=λy v=>gK o (view x v) (view y v) Q v
def pO(o:D->D->Option Bool)(b:WE)(Q:Bool->Env->Prop)(E:WX):WQ:=λx v=>b v (fP o x Q) E
def zpe:aS v a b U QT E=a U (pO v b QT E) E:=rfl
def zm9:pO v b QT E x U=b U (fP v x QT) E:=rfl
def zk6:gK v (some p) (some q) QT U=kC (v p q) QT U:=rfl
def jB(x:Option D)(Q:Bool->Env->Prop)(U:Env):Prop:=zp x λp=>kC (iD p) Q U
def pM(Q:Bool->Env->Prop):WQ:=λx U=>jB (view x U) Q U
def zlV:lF a U QT E=a U (pM QT) E:=rfl
def zjz:pM QT x U=jB (view x U) QT U:=rfl
def zjs:jB (some p) QT U=kC (iD p) QT U:=rfl
def tZ(b:WT)(Q:Bool->Env->Prop)(E:WX):Bool->Env->Prop:=λc v=>if c then b v Q E else Q false v
def zpS:dE t u U QT E=t U (tZ u QT E) E:=rfl
def zl2:tZ u QT E true U=u U QT E:=rfl
def zlQ:tZ u QT E false U=QT false U:=rfl
def wH(Q:WQ):Bool->Env->Prop:=λc v=>Q (.v (.sh (.bl c))) v
def zoX:iB t U Q E=t U (wH Q) E:=rfl
def zmn{c:Bool}:wH Q c U=Q (.v (.sh (.bl c))) U:=rfl
def zoe:zm U QA E=QA [] U:=rfl
def jC(r:R)(Q:List R->Env->Prop):List R->Env->Prop:=λv U=>Q (r::v) U
def lW(b:WA)(Q:List R->Env->Prop)(E:WX):WQ:=λr v=>b v (jC r Q) E
def zmT:zl a v U QA E=a U (lW v QA E) E:=rfl
def zj1:lW v QA E r U=v U (jC r QA) E:=rfl
def zj5:jC r QA rs U=QA (r::rs) U:=rfl
def wW(s:S):Option (List S×Env)->Option (List S×Env)
 |some (ss,U)=>some (s::ss,U)
 |none=>none
def dj(rs:List R):Option (S×Env)->Option (List S×Env)
 |some (s,U)=>wW s (aQ rs U)
 |none=>none
def zpI:aQ [] U=some ([],U):=rfl
theorem e_gA:aQ (r::rs) U=dj rs (give r U):=by
 rw[aQ];unfold dj;cases give r U with
 |none=>rfl
 |some z=>let#[s,v]:=z;show(match aQ rs v with|some (ss,U2)=>some (s::ss,U2)|none=>none)=wW s (aQ rs v);unfold wW;rfl
def zqc:dj rs (some (s,U))=wW s (aQ rs U):=rfl
def zn7:wW s (some (ss,U))=some (s::ss,U):=rfl
def gv(i:Nat)(U:Env):Option S->Option (S×Env)
 |some s=>some (.sh s.toD,U.set i (some (.sh s.toD)))
 |none=>none
def e_gv:give (.v s) U=some (s,U):=rfl
theorem e_gl:give (.loc i) U=gv i U (slot U i):=by unfold give gv;rfl
def zqe:gv i U (some s)=some (.sh s.toD,U.set i (some (.sh s.toD))):=rfl
def kD(l:Bool)(x:Option (List S×Env))(Q:WQ):Prop:=zp (if l then x else none) λp=>Q (.v (.sh (.tup (p.1.map S.toD)))) p.2
def kJ(l:Bool)(x:Option (List S×Env))(Q:WQ):Prop:=zp (if l then x else none) λp=>Q (.v (.lst p.1)) p.2
def cZ(rs:List R):Bool:=decide (rs.length<=big)
def sS(Q:WQ):List R->Env->Prop:=λv U=>kD (cZ v) (aQ v U) Q
def tJ(Q:WQ):List R->Env->Prop:=λv U=>kJ (cZ v) (aQ v U) Q
theorem zps:cK v U Q E=v U (sS Q) E:=by unfold cK sS kD cZ;simp
def zlu:sS Q rs U=kD (cZ rs) (aQ rs U) Q:=rfl
def zl4:kD true (some (ss,U)) Q=Q (.v (.sh (.tup (ss.map S.toD)))) U:=rfl
theorem zn0:cR v U Q E=v U (tJ Q) E:=by unfold cR tJ kJ cZ;simp
def zmA:tJ Q rs U=kJ (cZ rs) (aQ rs U) Q:=rfl
def zmU:kJ true (some (ss,U)) Q=Q (.v (.lst ss)) U:=rfl
def e_l0:cZ []=true:=rfl
def e_l1:cZ [v]=true:=rfl
def e_l2:cZ [z,v]=true:=rfl
def e_l3:cZ [B,z,v]=true:=rfl
def e_l4:cZ [F,B,z,v]=true:=rfl
def e_l5:cZ [G,F,B,z,v]=true:=rfl
def e_vv:view (.v s) U=some s.toD:=rfl
def e_vl:view (.loc i) U=(slot U i).map S.toD:=rfl
def e_cv:zD (.v s) U=some s.toD:=rfl
def vC:Option S->Option D
 |some s=>if s.flat then some s.toD else none
 |none=>none
theorem e_cl:zD (.loc i) U=vC (slot U i):=by unfold zD vC;rfl
theorem zmL(h:l.all S.isSh=true):vC (some (.lst l))=some (.lst (l.map S.toD)):=by show(if l.all S.isSh=true then some (S.toD (.lst l))else none)=_;rw[q4 h,S.toD_lst]
theorem e_sh{l:List D}:(l.map S.sh).all S.isSh=true:=by simp[S.isSh]
theorem zas{l:List D}:(l.map S.sh).map S.toD=l:=by rw[qE];show map_id l
theorem zpr:vC (some (.lst (l.map S.sh)))=some (.lst l):=by rw[zmL e_sh,zas]
def oC(o:Option S)(Q:WQ)(U:Env):Prop:=match o with|some (.sh d)=>Q (.v (.sh d)) U|_=>False
def oD(o:Option S)(q:D)(Q:WQ)(U:Env):Prop:=match o with|some s=>oC (jE s q) Q U|none=>False
def lS(x:R)(o:Option D)(Q:WQ)(U:Env):Prop:=zp o λq=>match x with|.v s=>kV (jE s q) Q U|.loc i=>oD (slot U i) q Q U
def oE(x:R)(Q:WQ):WQ:=λy v=>lS x (view y v) Q v
def tL(b:WE)(Q:WQ)(E:WX):WQ:=λx v=>b v (oE x Q) E
theorem e_Ix:eG a b U Q E=a U (tL b Q E) E:=by unfold eG tL oE lS oD oC kV;rfl
def zpy:tL b Q E x U=b U (oE x Q) E:=rfl
def zo6:oE x Q y U=lS x (view y U) Q U:=rfl
def znc:lS (.v s) (some q) Q U=kV (jE s q) Q U:=rfl
def zkL:lS (.loc i) (some q) Q U=oD (slot U i) q Q U:=rfl
def zn4:oD (some s) q Q U=oC (jE s q) Q U:=rfl
def zog:oC (some (.sh d)) Q U=Q (.v (.sh d)) U:=rfl
def zoa:jE (.sh (.tup l)) (.int z)=(atI l z).map S.sh:=rfl
def znI:jE (.sh (.lst l)) (.int z)=(atI l z).map S.sh:=rfl
def zpL:jE (.sh (.str l)) (.int z)=(atI l z).map λc=>S.sh (.str [c]):=rfl
def zp0:jE (.lst l) (.int z)=atI l z:=rfl
def EU(B:0<=z)(h:l[z.toNat]?=some v):atI l z=some v:=by let:z.toNat<l.length:=(qg.mp h).1;unfold atI ixN;rw[q4 B,q4 ∅];show h
theorem zpE:atI (v::l) 0=some v:=EU ⋯ rfl
theorem zoA:atI (z::v::l) 1=some v:=EU ⋯ rfl
theorem zoq:atI (B::z::v::l) 2=some v:=EU ⋯ rfl
theorem zp9:atI (F::B::z::v::l) 3=some v:=EU ⋯ rfl
theorem zol:atI (G::F::B::z::v::l) 4=some v:=EU ⋯ rfl
def pA(s:S):Option (List S×Env)->Option (List S×Env)
 |some (ss,U)=>some (s::ss,U)
 |none=>none
theorem e_p0:cD ms [] U=some ([],U):=by cases ms<;>rfl
theorem e_pv:cD (h::ms) (.v s::rs) U=pA s (cD ms rs U):=by rw[cD];unfold pA;rfl
def pL(i:Nat)(o:Option S)(ms:List Bool)(rs:List R)(U:Env):Option (List S×Env):=match o with
 |some s=>pA s (cD ms rs (U.set i none))
 |none=>none
theorem e_pl:cD (true::ms) (.loc i::rs) U=pL i (slot U i) ms rs U:=by rw[cD];unfold pL pA;cases slot U i<;>rfl
def zpV:pL i (some s) ms rs U=pA s (cD ms rs (U.set i none)):=rfl
def e_pA:pA s (some (ss,U))=some (s::ss,U):=rfl
def e_b0:back ms [] ss U=U:=rfl
def e_bv{s t:S}:back (h::ms) (.v s::rs) (t::ss) U=back ms rs ss U:=rfl
def e_bl{t:S}:back (true::ms) (.loc i::rs) (t::ss) U=back ms rs ss (U.set i (some t)):=rfl
def lV(ms:List Bool)(rs:List R)(U:Env)(Q:WQ):S->List S->Prop:=λs v=>Q (.v s) (back ms rs v U)
def wM(ms:List Bool)(rs:List R)(U:Env)(E:WX):D->List S->Prop:=λx v=>E x (back ms rs v U)
def jD(f:WF)(ms:List Bool)(rs:List R)(o:Option (List S×Env))(Q:WQ)(E:WX):Prop:=zp o λp=>f p.1 (lV ms rs p.2 Q) (wM ms rs p.2 E)
def pP(f:WF)(ms:List Bool)(Q:WQ)(E:WX):List R->Env->Prop:=λv U=>jD f ms v (cD ms v U) Q E
def zna:zA f ms v U Q E=v U (pP f ms Q E) E:=rfl
def zkp:pP f ms Q E rs U=jD f ms rs (cD ms rs U) Q E:=rfl
def zjB:jD f ms rs (some (ss,U)) Q E=f ss (lV ms rs U Q) (wM ms rs U E):=rfl
def zlz:lV ms rs U Q s ss=Q (.v s) (back ms rs ss U):=rfl
def vA:Option D->Option (List D)->Option (List D)
 |some d,some ds=>some (d::ds)
 |_,_=>none
def fC(rs:List R)(U:Env):Option (List D):=match rs with
 |[]=>some []
 |r::rs=>vA (zD r U) (fC rs U)
def Jb:∀rs:List R,(rs.mapM λr=>zD r U)=fC rs U
 |[]=>rfl
 |r::rs=>by
  rw[List.mapM_cons,Jb rs,fC];cases zD r U with
  |none=>rfl
  |some d=>cases fC rs U<;>rfl
def znw:fC [] U=some []:=rfl
def e_vA:fC (r::rs) U=vA (zD r U) (fC rs U):=rfl
def zoZ:vA (some d) (some ds)=some (d::ds):=rfl
def tY(f:List D->Option S)(o:Option (List D))(Q:WQ)(U:Env):Prop:=zp o λv=>kV (f v) Q U
def kB(f:List D->Option S)(Q:WQ):List R->Env->Prop:=λv U=>tY f (fC v U) Q U
theorem e_B:wB f v U Q E=v U (kB f Q) E:=by unfold wB kB tY kV;simp only[Jb]
def e_B1:kB f Q rs U=tY f (fC rs U) Q U:=rfl
def e_B2:tY f (some ds) Q U=kV (f ds) Q U:=rfl
def oA(f:List Nat->List D->Option S)(l:List Nat)(Q:WQ):List R->Env->Prop:=λv U=>tY (f l) (fC v U) Q U
def cw(f:List Nat->List D->Option S)(v:WA)(Q:WQ)(E:WX):WQ:=λx U=>match x with
 |.v (.sh (.str l))=>v U (oA f l Q) E
 |_=>False
theorem e_MS:mR f a v U Q E=a U (cw f v Q E) E:=by unfold mR cw oA tY kV;simp only[Jb];all_goals rfl
def zo1:cw f v Q E (.v (.sh (.str l))) U=v U (oA f l Q) E:=rfl
def zpN:oA f l Q rs U=tY (f l) (fC rs U) Q U:=rfl
def oN(j:Nat)(s:S)(o:Option S)(U:Env)(Q:WQ):Prop:=match o with
 |some (.lst l)=>l.length<big/\Q (.v (.sh .non)) (U.set j (some (.lst (l++[s]))))
 |_=>False
def oO(j:Nat)(o:Option (S×Env))(Q:WQ):Prop:=zp o λp=>oN j p.1 (slot p.2 j) p.2 Q
def oP(j:Nat)(Q:WQ):WQ:=λr U=>oO j (give r U) Q
def cz(j:Nat)(o:Option S)(a:WE)(U:Env)(Q:WQ)(E:WX):Prop:=match o with
 |some (.lst _)=>a U (oP j Q) E
 |_=>False
theorem e_Ap:bP j a U Q E=cz j (slot U j) a U Q E:=by unfold bP cz oP oO oN;rfl
def zov:cz j (some (.lst l)) a U Q E=a U (oP j Q) E:=rfl
def zo8:oP j Q r U=oO j (give r U) Q:=rfl
def zpb:oO j (some (s,U)) Q=oN j s (slot U j) U Q:=rfl
def zpQ:oN j s (some (.lst l)) U Q=(l.length<big/\Q (.v (.sh .non)) (U.set j (some (.lst (l++[s]))))):=rfl
def kH(j:Nat)(o:Option D)(p:Option S)(U:Env)(Q:WQ):Prop:=match o,p with
 |some (.int i),some (.lst l)=>zp (if l.length<=big then ixN l.length i else none) λk=>zp l[k]? λs=>Q (.v s) (U.set j (some (.lst (l.eraseIdx k))))
 |_,_=>False
def kI(j:Nat)(Q:WQ):WQ:=λr U=>kH j (view r U) (slot U j) U Q
def tH(j:Nat)(o:Option S)(a:WE)(U:Env)(Q:WQ)(E:WX):Prop:=match o with
 |some (.lst _)=>a U (kI j Q) E
 |_=>False
theorem zod:gY j a U Q E=tH j (slot U j) a U Q E:=by unfold gY tH kI kH;rfl
def zmQ:tH j (some (.lst l)) a U Q E=a U (kI j Q) E:=rfl
def zma:kI j Q r U=kH j (view r U) (slot U j) U Q:=rfl
def Qs(F:0<=z)(B:l.length<=big)(h:l[z.toNat]?=some s)(v:Q (.v s) (U.set j (some (.lst (l.eraseIdx z.toNat))))):kH j (some (.int z)) (some (.lst l)) U Q:=by
 let:z.toNat<l.length:=(qg.mp h).1;let e:(if l.length<=big then ixN l.length z else none)=some z.toNat:=by unfold ixN;rw[q4 B,q4 F,q4 ∅]
 show zp (if l.length<=big then ixN l.length z else none) _;rw[e,JM,h];show v
def nT(j:Nat)(r:R)(o:Option S)(U:Env)(Q:WQ):Prop:=match r,o with
 |.v (.lst m),some (.lst l)=>l.length+m.length<=big/\Q (.v (.sh .non)) (U.set j (some (.lst (l++m))))
 |_,_=>False
def nU(j:Nat)(Q:WQ):WQ:=λr U=>nT j r (slot U j) U Q
def cq(j:Nat)(o:Option S)(a:WE)(U:Env)(Q:WQ)(E:WX):Prop:=match o with
 |some (.lst _)=>a U (nU j Q) E
 |_=>False
theorem e_Xt:fB j a U Q E=cq j (slot U j) a U Q E:=by unfold fB cq nU nT;rfl
def zoH:cq j (some (.lst l)) a U Q E=a U (nU j Q) E:=rfl
def zoE:nU j Q r U=nT j r (slot U j) U Q:=rfl
def znn{l m:List S}:nT j (.v (.lst m)) (some (.lst l)) U Q=(l.length+m.length<=big/\Q (.v (.sh .non)) (U.set j (some (.lst (l++m))))):=rfl
def zkO{t:Bool}:lH t U Q E=Q (.v (.dct t [] [])) U:=rfl
def tV(o:Option D)(p:Option (S×Env))(Q:WQ):Prop:=zp o λq=>zp p λp=>bK q=true/\Q (.v (.dct false [q] [p.1])) p.2
def tX(x:R)(Q:WQ):WQ:=λy U=>tV (view x U) (give y U) Q
def wL(v:WE)(Q:WQ)(E:WX):WQ:=λx U=>v U (tX x Q) E
def e_Di:iU a b U Q E=a U (wL b Q E) E:=rfl
def zny:wL b Q E x U=b U (tX x Q) E:=rfl
def znA:tX x Q y U=tV (view x U) (give y U) Q:=rfl
def znU:tV (some q) (some (s,U)) Q=(bK q=true/\Q (.v (.dct false [q] [s])) U):=rfl
def zmt:bK (.int z)=true:=rfl
def tG(o:Option D)(Q:Option Int->Env->Prop)(U:Env):Prop:=match o with|some (.int i)=>Q (some i) U|_=>False
def ft(Q:Option Int->Env->Prop):WQ:=λx U=>tG (view x U) Q U
def znR{Q:Option Int->Env->Prop}:eL none U Q E=Q none U:=rfl
def e_Pt{Q:Option Int->Env->Prop}:eL (some a) U Q E=a U (ft Q) E:=rfl
def zqd{Q:Option Int->Env->Prop}:ft Q x U=tG (view x U) Q U:=rfl
def zo7{Q:Option Int->Env->Prop}:tG (some (.int z)) Q U=Q (some z) U:=rfl
def sT(o:Option D)(l h:Option Int)(Q:WQ)(U:Env):Prop:=zp o λd=>kV (iW d l h) Q U
def sU(x:R)(l:Option Int)(Q:WQ):Option Int->Env->Prop:=λh U=>sT (zD x U) l h Q U
def sV(x:R)(hi:Option WE)(Q:WQ)(E:WX):Option Int->Env->Prop:=λl U=>eL hi U (sU x l Q) E
def fk(lo hi:Option WE)(Q:WQ)(E:WX):WQ:=λx U=>eL lo U (sV x hi Q E) E
def e_Sl:eX a lo hi U Q E=a U (fk lo hi Q E) E:=rfl
def zp5:fk lo hi Q E x U=eL lo U (sV x hi Q E) E:=rfl
def zpK:sV x hi Q E l U=eL hi U (sU x l Q) E:=rfl
def zom:sU x l Q h U=sT (zD x U) l h Q U:=rfl
def zpO:sT (some d) l h Q U=kV (iW d l h) Q U:=rfl
def vD(D:Ends)(k:Env->Prop):Ends:={D with nx:=k}
def e_nx:(vD D' K).nx=K:=rfl
def e_rt:(vD D' K).rt=D'.rt:=rfl
def e_ex:(vD D' K).ex=D'.ex:=rfl
def zmw:aX D' U=D'.nx U:=rfl
def znY:zz v w D' U=v (vD D' (w D')) U:=rfl
def cx(a b:WS)(D:Ends):Bool->Env->Prop:=λk U=>if k then a D U else b D U
def e_If:eI t v w D' U=t U (cx v w D') D'.ex:=rfl
def zo9:cx v w D' true U=v D' U:=rfl
def zpv:cx v w D' false U=w D' U:=rfl
def znJ:bZ a D' U=a U D'.rt D'.ex:=rfl
def gf(D:Ends):WQ:=λ_ U=>D.nx U
def zl0:wExpr a D' U=a U (gf D') D'.ex:=rfl
def zjP:gf D' r U=D'.nx U:=rfl
def lX(g:WG)(D:Ends)(o:Option (S×Env)):Prop:=zp o λp=>g p.1 p.2 D.nx
def wN(g:WG)(D:Ends):WQ:=λr U=>lX g D (give r U)
def zoV:zC g a D' U=a U (wN g D') D'.ex:=rfl
def zlC:wN g D' r U=lX g D' (give r U):=rfl
def zl9:lX g D' (some (s,U))=g s U D'.nx:=rfl
def e_gN:zo i s U K=K (U.set i (some s)):=rfl
def fz(v:List WG)(d:D)(U:Env)(Q:Env->Prop):Prop:=match d with|.tup ds=>ds.length=v.length/\dR v ds U Q|_=>False
def e_gT:cE v s U K=fz v s.toD U K:=rfl
def znE:fz v (.tup ds) U K=(ds.length=v.length/\dR v ds U K):=rfl
def wJ(v:List WG)(ds:List D)(Q:Env->Prop):Env->Prop:=λU=>dR v ds U Q
def zoR:dR [] [] U K=K U:=rfl
def zoh:dR (g::v) (d::ds) U K=g (.sh d) U (wJ v ds K):=rfl
def zn1:wJ v ds K U=dR v ds U K:=rfl
def gJ(j:Nat)(D:Ends)(x:R)(q:FL.D)(s:S)(o:Option S)(U:Env):Prop:=match x,q,o with
 |.loc k,.int n,some (.lst l)=>k=j/\zp (ixN l.length n) λm=>D.nx (U.set j (some (.lst (l.set m s))))
 |_,_,_=>False
def kE(j:Nat)(D:Ends)(x:R)(o:Option FL.D)(p:Option (S×Env)):Prop:=zp o λq=>zp p λp=>gJ j D x q p.1 (slot p.2 j) p.2
def kF(j:Nat)(D:Ends)(r x:R):WQ:=λy U=>kE j D x (view y U) (give r U)
def kG(j:Nat)(i:WE)(D:Ends)(r:R):WQ:=λx U=>i U (kF j D r x) D.ex
def lP(j:Nat)(i:WE)(D:Ends):WQ:=λr U=>zk j U (kG j i D r) D.ex
theorem zpW:eK j a b D' U=b U (lP j a D') D'.ex:=by unfold eK lP kG kF kE gJ;rfl
def zmX:lP j a D' r U=zk j U (kG j a D' r) D'.ex:=rfl
def zkQ:kG j a D' r x U=a U (kF j D' r x) D'.ex:=rfl
def zmv:kF j D' r x y U=kE j D' x (view y U) (give r U):=rfl
def zlT:kE j D' x (some q) (some (s,U))=gJ j D' x q s (slot U j) U:=rfl
def IY(v:0<=z)(h1:z<l.length):gJ j D' (.loc j) (.int z) s (some (.lst l)) U=D'.nx (U.set j (some (.lst (l.set z.toNat s)))):=by show(j=j/\zp (ixN l.length z) _)=_;unfold ixN;rw[q4 v,q4 h1,JM];simp
theorem zkH:gJ j D' (.loc j) (.int 0) s (some (.lst [s0,v])) U=D'.nx (U.set j (some (.lst [s,v]))):=IY ⋯ (by show(0:Int)<2;decide)
theorem zkt:gJ j D' (.loc j) (.int 1) s (some (.lst [s0,v])) U=D'.nx (U.set j (some (.lst [s0,s]))):=IY ⋯ (by show(1:Int)<2;decide)
def oH(j:Nat)(D:Ends)(q:FL.D)(s:S)(o:Option S)(U:Env):Prop:=match o with
 |some (.dct t ks l)=>aO t q=true/\ks.Nodup/\ks.length<big/\D.nx (U.set j (some (dG t ks l q s)))
 |_=>False
def oI(j:Nat)(D:Ends)(x:R)(o:Option FL.D)(p:Option (S×Env)):Prop:=zp o λq=>zp p λp=>match x with
 |.loc k=>k=j/\oH j D q p.1 (slot p.2 j) p.2
 |_=>False
def oJ(j:Nat)(D:Ends)(r x:R):WQ:=λy U=>oI j D x (view y U) (give r U)
def oK(j:Nat)(i:WE)(D:Ends)(r:R):WQ:=λx U=>i U (oJ j D r x) D.ex
def oM(j:Nat)(i:WE)(D:Ends):WQ:=λr U=>zk j U (oK j i D r) D.ex
theorem e_Dp:lG j a b D' U=b U (oM j a D') D'.ex:=by
 have e:(λ(r:R)(G:Env)=>zk j G (λx F=>a F (λy B=>zp (view y B) λq=>zp (give r B) λp=>match x,slot p.2 j with
  |.loc k,some (.dct t ks l)=>k=j/\aO t q=true/\ks.Nodup/\ks.length<big/\D'.nx (p.2.set j (some (dG t ks l q p.1)))
  |_,_=>False) D'.ex) D'.ex)=oM j a D':=by
  funext r G
  unfold oM oK oJ oI oH;congr 1
  funext x F
  congr 1
  funext y B
  cases view y B with
  |none=>rfl
  |some q=>
   cases give r B with
   |none=>rfl
   |some p=>
    simp only[JM];cases x with
    |v s=>cases slot p.2 j<;>rfl
    |loc k=>
     cases slot p.2 j with
     |none=>simp
     |some s=>
      cases s with
      |dct t ks l=>simp
      |_=>simp
 show congrArg (λz=>b U z D'.ex) e
def zoS:oM j a D' r U=zk j U (oK j a D' r) D'.ex:=rfl
def znk:oK j a D' r x U=a U (oJ j D' r x) D'.ex:=rfl
def zpf:oJ j D' r x y U=oI j D' x (view y U) (give r U):=rfl
theorem zpF:oI j D' (.loc j) (some q) (some (s,U))=oH j D' q s (slot U j) U:=by show(j=j/\_)=_;simp
def zpi:oH j D' q s (some (.dct false ks l)) U=(bK q=true/\ks.Nodup/\ks.length<big/\D'.nx (U.set j (some (dG false ks l q s)))):=rfl
def tM(o:Option (List D))(U:Env)(Q:List D->Env->Prop):Prop:=zp o λl=>Q l U
def tN(o:Option (S×Env))(Q:List D->Env->Prop):Prop:=zp o λp=>tM (items p.1.toD) p.2 Q
def fx(Q:List D->Env->Prop):WQ:=λr U=>tN (give r U) Q
def e_It:cM a U QI E=a U (fx QI) E:=rfl
def zqa:fx QI r U=tN (give r U) QI:=rfl
def zoK:tN (some (s,U)) QI=tM (items s.toD) U QI:=rfl
def znF:tM (some l) U QI=QI l U:=rfl
def znu:items (.lst l)=some l:=rfl
def zpj:items (.tup l)=some l:=rfl
def tT(o:Option (List D))(U:Env)(Q:List D->Env->Prop):Prop:=zp o λl=>Q (cF 0 l) U
def tU(o:Option (S×Env))(Q:List D->Env->Prop):Prop:=zp o λp=>tT (items p.1.toD) p.2 Q
def gh(Q:List D->Env->Prop):WQ:=λr U=>tU (give r U) Q
def e_En:iC a U QI E=a U (gh QI) E:=rfl
def zpw:gh QI r U=tU (give r U) QI:=rfl
def znz:tU (some (s,U)) QI=tT (items s.toD) U QI:=rfl
def znK:tT (some l) U QI=QI (cF 0 l) U:=rfl
def tF(o:Option D)(Q:List D->Env->Prop)(U:Env):Prop:=match o with|some (.int j)=>(-big<=j/\j<=big)/\Q (fromTo 0 j.toNat) U|_=>False
def fo(Q:List D->Env->Prop):WQ:=λr U=>tF (view r U) Q U
def e_R1:bJ a U QI E=a U (fo QI) E:=rfl
def zpp:fo QI r U=tF (view r U) QI U:=rfl
def zoY:tF (some (.int z)) QI U=((-big<=z/\z<=big)/\QI (fromTo 0 z.toNat) U):=rfl
def tB(o p:Option D)(Q:List D->Env->Prop)(U:Env):Prop:=match o,p with|some (.int i),some (.int j)=>(-big<=i/\i<=big/\-big<=j/\j<=big)/\Q (fromTo i (j-i).toNat) U|_,_=>False
def tE(r:R)(Q:List D->Env->Prop):WQ:=λt U=>tB (view r U) (view t U) Q U
def fm(b:WE)(Q:List D->Env->Prop)(E:WX):WQ:=λr U=>b U (tE r Q) E
def e_R2:gX a b U QI E=a U (fm b QI E) E:=rfl
def zpa:fm b QI E r U=b U (tE r QI) E:=rfl
def zoM:tE r QI x U=tB (view r U) (view x U) QI U:=rfl
def zpg:tB (some (.int z)) (some (.int v)) QI U=((-big<=z/\z<=big/\-big<=v/\v<=big)/\QI (fromTo z (v-z).toNat) U):=rfl
def kFor(g:WG)(b:WS)(D:Ends):List FL.D->Env->Prop:=λl U=>bW g b l D U
def zpM:dU it g v D' U=it U (kFor g v D') D'.ex:=rfl
def zk0:kFor g v D' l U=bW g v l D' U:=rfl
def jc(g:WG)(b:WS)(xs:List FL.D)(D:Ends):Ends:={D with nx:=bW g b xs D,ct:=bW g b xs D,bk:=D.nx}
def lQ(n:Nat)(o:Option S)(U:Env)(Q:WQ):Prop:=zp o λs=>Q (.v s) (U.take n)
def lR(n:Nat)(Q:WQ):Env->Prop:=λU=>lQ n (slot U n) U Q
def oB(n:Nat)(E:WX):WX:=NX
def fu(n k:Nat)(g:WG)(c:WT)(b:WB)(Q:WQ)(E:WX):List D->Env->Prop:=λl U=>aL g c b l (U++some (.lst [])::List.replicate k none) (lR n Q) (oB n E)
def e_LC:jV n m it g c v U Q E=it U (fu n m g c v Q E) E:=rfl
def zpd:fu n m g c v Q E l U=aL g c v l (U++some (.lst [])::List.replicate m none) (lR n Q) (oB n E):=rfl
def zoJ:lR n Q U=lQ n (slot U n) U Q:=rfl
def zlj:lQ n (some s) U Q=Q (.v s) (U.take n):=rfl
def nR(g:WG)(c:WT)(b:WB)(xs:List D)(Q:Env->Prop)(E:WX):Env->Prop:=λU=>aL g c b xs U Q E
def sQ(g:WG)(c:WT)(b:WB)(xs:List D)(Q:Env->Prop)(E:WX):Bool->Env->Prop:=λk U=>if k then b U (nR g c b xs Q E) E else aL g c b xs U Q E
def fg(g:WG)(c:WT)(b:WB)(xs:List D)(Q:Env->Prop)(E:WX):Env->Prop:=λU=>c U (sQ g c b xs Q E) E
def zph:aL g c v [] U QE E=QE U:=rfl
def wX:aL g c v (d::xs) U QE E=g (.sh d) U (fg g c v xs QE E):=rfl
def zof:fg g c v xs QE E U=c U (sQ g c v xs QE E) E:=rfl
def zkP:sQ g c v xs QE E true U=v U (nR g c v xs QE E) E:=rfl
def zoO:nR g c v xs QE E U=aL g c v xs U QE E:=rfl
def oF(n:Nat)(s:S)(o:Option S)(U:Env)(Q:Env->Prop):Prop:=match o with
 |some (.lst l)=>l.length<big/\Q (U.set n (some (.lst (l++[s]))))
 |_=>False
def oG(n:Nat)(o:Option (S×Env))(Q:Env->Prop):Prop:=zp o λp=>oF n p.1 (slot p.2 n) p.2 Q
def cy(n:Nat)(Q:Env->Prop):WQ:=λr U=>oG n (give r U) Q
theorem e_Em:bU n a U QE E=a U (cy n QE) E:=by unfold bU cy oG oF;rfl
def znQ:cy n QE r U=oG n (give r U) QE:=rfl
def zoT:oG n (some (s,U)) QE=oF n s (slot U n) U QE:=rfl
def zpo:oF n s (some (.lst l)) U QE=(l.length<big/\QE (U.set n (some (.lst (l++[s]))))):=rfl
def fh(g:WG)(c:WT)(b:WB)(Q:Env->Prop)(E:WX):List D->Env->Prop:=λl U=>aL g c b l U Q E
def e_bF:kQ it g c v U QE E=it U (fh g c v QE E) E:=rfl
def zp8:fh g c v QE E l U=aL g c v l U QE E:=rfl
def znp:dJ U QT E=QT true U:=rfl
def tS(o:Option (List S))(P:S->List S->Prop)(s:S):Prop:=zp o λfs=>P s fs
def sW(n:Nat)(ss:List S)(P:S->List S->Prop)(i:Nat)(o:Option S)(U:Env):Prop:=zp o λs=>if i<n then tS (aC ss (U.set i (some (.sh s.toD)))) P (.sh s.toD)else tS (aC ss U) P s
def yM(n:Nat)(ss:List S)(P:S->List S->Prop):WQ:=λr U=>match r with
 |.v s=>tS (aC ss U) P s
 |.loc i=>sW n ss P i (slot U i) U
def gm(n:Nat)(ss:List S)(P:S->List S->Prop)(PX:D->List S->Prop):Ends where
 nx:=λU=>tS (aC ss U) P (.sh .non)
 rt:=yM n ss P
 bk:=λ_=>False
 ct:=λ_=>False
 ex:=λx U=>zp (aC ss U) λfs=>PX x fs
def Cn(z:ss.length=n)(B:((List.range ss.length).all λi=>decide (i∈ks))=true)(h:v (gm n ss P PX) (ss.map some++List.replicate (m-n) none)):gH n m ks v ss P PX:=by show#[z,λi s hi=>?_,h];let:=(qg.mp hi).1;show .inl (by simpa using qI.mp B i ↑this)
def zo3:(gm n ss P PX).rt=yM n ss P:=rfl
def e_Rt:yM n ss P (.v s) U=tS (aC ss U) P s:=rfl
def znP:yM n ss P (.loc i) U=sW n ss P i (slot U i) U:=rfl
theorem zoo(h:¬i<n):sW n ss P i (some s) U=tS (aC ss U) P s:=by show(if i<n then _ else _)=_;rw[q5 h]
def e_Fn:tS (some fs) P s=P s fs:=rfl
def fA(s:S):Option (List S)->Option (List S)
 |some fs=>some (s::fs)
 |none=>none
theorem e_f0:aC [] U=some []:=by cases U<;>rfl
theorem e_fs:aC (.sh d::ss) (o::U)=fA (.sh d) (aC ss U):=by show(aC ss U).map _=_;cases aC ss U<;>rfl
theorem e_fl:aC (.lst l::ss) (some s::U)=fA s (aC ss U):=by show(aC ss U).map _=_;cases aC ss U<;>rfl
def e_fA:fA s (some fs)=some (s::fs):=rfl
def zow:aU (.int i) (.int j)=some (.sh (.int (i+j))):=rfl
theorem zmo(h:x.length+y.length<=big):aU (.str x) (.str y)=some (.sh (.str (x++y))):=q4 h
theorem zmK(h:l.length+m.length<=big):aU (.lst l) (.lst m)=some (.lst ((l++m).map .sh)):=q4 h
def zoI:fZ (.int i) (.int j)=some (.sh (.int (i-j))):=rfl
theorem zll(h:-(2^64)<i/\i<2^64):lO (.int i) (.int j)=some (.sh (.int (i*j))):=by show(if kA i j=true then _ else none)=_;rw[q4 (by simp only[kA,h.1,h.2,decide_true,Bool.and_self,Bool.true_or])]
theorem znH(h:0<j):dW (.int i) (.int j)=some (.sh (.int (i %j))):=q4 h
theorem zlx(h:0<j)(h2:j<18446744073709551616):fJ (.int i) (.int j)=some (.sh (.int (i/j))):=q4 #[h,h2]
theorem zos(h:0<=j/\j<=1000/\i.natAbs<2^64):lN (.int i) (.int j)=some (.sh (.int (i^j.toNat))):=q4 h
def zno:nO (.int i)=some (.sh (.int (-i))):=rfl
def e_lt:uI (.int i) (.int j)=some (decide (i<j)):=rfl
def e_gt:oV (.int i) (.int j)=some (decide (j<i)):=rfl
def e_le:yQ (.int i) (.int j)=some (decide (i<=j)):=rfl
def e_ge:uR (.int i) (.int j)=some (decide (j<=i)):=rfl
theorem zp6:dD (.int i) (.int j)=some (decide (i=j)):=by unfold dD;rw[q5 (by show λz=>Bool.noConfusion (show false=true from z))];simp
theorem zmx:dD (.str x) (.str y)=some (decide (x=y)):=by unfold dD;rw[q5 (by show λz=>Bool.noConfusion (show false=true from z))];simp
theorem zp7:eJ (.str x) (.str y)=some (!decide (x=y)):=by unfold eJ;rw[zmx];rfl
def zqb:iD (.bl b)=some b:=rfl
def zkN:aV [.str x]=some (.sh (.int x.length)):=rfl
def zmD:aV [.tup l]=some (.sh (.int l.length)):=rfl
def zk7:aV [.lst l]=some (.sh (.int l.length)):=rfl
def zkK:iJ [.bl b]=some (.sh (.int (if b then 1 else 0))):=rfl
def zlf:cH [.lst l]=some (.sh (.tup l)):=rfl
theorem zm6(h:x.length<=big):iA [.str x]=some (.lst (x.map λc=>.sh (.str [c]))):=q4 h
def zoG:oX [.int i,.int j]=some (.sh (.int (if j>i then j else i))):=rfl
def znB:oW [.int i,.int j]=some (.sh (.int (if j<i then j else i))):=rfl
def zo0:iW (.str x) a b=some (.sh (.str (aM x a b))):=rfl
def zpX:iW (.lst l) a b=some (.lst ((aM l a b).map .sh)):=rfl
def zoy:zk 0 (some (.sh d)::U) Q E=Q (.v (.sh d)) (some (.sh d)::U):=rfl
def zo5:zk 0 (some (.lst l)::U) Q E=Q (.loc 0) (some (.lst l)::U):=rfl
def zoU:slot (v::U) 0=v:=rfl
def znT:List.set (u::U) 0 v=v::U:=rfl
def zpz:zk 1 (s0::some (.sh d)::U) Q E=Q (.v (.sh d)) (s0::some (.sh d)::U):=rfl
def znr:zk 1 (s0::some (.lst l)::U) Q E=Q (.loc 1) (s0::some (.lst l)::U):=rfl
def zpt:slot (s0::v::U) 1=v:=rfl
def zot:List.set (s0::u::U) 1 v=s0::v::U:=rfl
def zpl:zk 2 (s0::v::some (.sh d)::U) Q E=Q (.v (.sh d)) (s0::v::some (.sh d)::U):=rfl
def zob:zk 2 (s0::v::some (.lst l)::U) Q E=Q (.loc 2) (s0::v::some (.lst l)::U):=rfl
def zoD:slot (s0::z::v::U) 2=v:=rfl
def zpB:List.set (s0::z::u::U) 2 v=s0::z::v::U:=rfl
def zn3:zk 3 (s0::z::v::some (.sh d)::U) Q E=Q (.v (.sh d)) (s0::z::v::some (.sh d)::U):=rfl
def zpU:zk 3 (s0::z::v::some (.lst l)::U) Q E=Q (.loc 3) (s0::z::v::some (.lst l)::U):=rfl
def zp4:slot (s0::B::z::v::U) 3=v:=rfl
def zpA:List.set (s0::B::z::u::U) 3 v=s0::B::z::v::U:=rfl
def zn5:zk 4 (s0::B::z::v::some (.sh d)::U) Q E=Q (.v (.sh d)) (s0::B::z::v::some (.sh d)::U):=rfl
def znS:zk 4 (s0::B::z::v::some (.lst l)::U) Q E=Q (.loc 4) (s0::B::z::v::some (.lst l)::U):=rfl
def znX:zk 4 (s0::B::z::v::some (.dct t ks l)::U) Q E=Q (.loc 4) (s0::B::z::v::some (.dct t ks l)::U):=rfl
def zpC:slot (s0::F::B::z::v::U) 4=v:=rfl
def zoN:List.set (s0::F::B::z::u::U) 4 v=s0::F::B::z::v::U:=rfl
def zou:zk 5 (s0::F::B::z::v::some (.sh d)::U) Q E=Q (.v (.sh d)) (s0::F::B::z::v::some (.sh d)::U):=rfl
def zpZ:List.set (s0::G::F::B::z::u::U) 5 v=s0::G::F::B::z::v::U:=rfl
def zpx:zk 6 (s0::G::F::B::z::v::some (.sh d)::U) Q E=Q (.v (.sh d)) (s0::G::F::B::z::v::some (.sh d)::U):=rfl
def zpY:zk 6 (s0::G::F::B::z::v::some (.lst l)::U) Q E=Q (.loc 6) (s0::G::F::B::z::v::some (.lst l)::U):=rfl
def zns:slot (s0::J::G::F::B::z::v::U) 6=v:=rfl
def zo4:List.set (s0::J::G::F::B::z::u::U) 6 v=s0::J::G::F::B::z::v::U:=rfl
def znm:zk 7 (s0::J::G::F::B::z::v::some (.sh d)::U) Q E=Q (.v (.sh d)) (s0::J::G::F::B::z::v::some (.sh d)::U):=rfl
def znq:slot (s0::L::J::G::F::B::z::v::U) 7=v:=rfl
def zpT:List.set (s0::L::J::G::F::B::z::u::U) 7 v=s0::L::J::G::F::B::z::v::U:=rfl
def zpP:zk 8 (s0::L::J::G::F::B::z::v::some (.sh d)::U) Q E=Q (.v (.sh d)) (s0::L::J::G::F::B::z::v::some (.sh d)::U):=rfl
def znt:zk 8 (s0::L::J::G::F::B::z::v::some (.lst l)::U) Q E=Q (.loc 8) (s0::L::J::G::F::B::z::v::some (.lst l)::U):=rfl
def znV:slot (s0::M::L::J::G::F::B::z::v::U) 8=v:=rfl
def zo2:List.set (s0::M::L::J::G::F::B::z::u::U) 8 v=s0::M::L::J::G::F::B::z::v::U:=rfl
def zp2:zk 9 (s0::M::L::J::G::F::B::z::v::some (.sh d)::U) Q E=Q (.v (.sh d)) (s0::M::L::J::G::F::B::z::v::some (.sh d)::U):=rfl
def zon:slot (s0::O::M::L::J::G::F::B::z::v::U) 9=v:=rfl
def zn8:List.set (s0::O::M::L::J::G::F::B::z::u::U) 9 v=s0::O::M::L::J::G::F::B::z::v::U:=rfl
def zk4:zk 10 (s0::O::M::L::J::G::F::B::z::v::some (.sh d)::U) Q E=Q (.v (.sh d)) (s0::O::M::L::J::G::F::B::z::v::some (.sh d)::U):=rfl
def zln:List.set (s0::Y::O::M::L::J::G::F::B::z::u::U) 10 v=s0::Y::O::M::L::J::G::F::B::z::v::U:=rfl
def zmp:zk 11 (s0::Y::O::M::L::J::G::F::B::z::v::some (.sh d)::U) Q E=Q (.v (.sh d)) (s0::Y::O::M::L::J::G::F::B::z::v::some (.sh d)::U):=rfl
def zk1:slot (s0::s1::Y::O::M::L::J::G::F::B::z::v::U) 11=v:=rfl
def zm2:List.set (s0::s1::Y::O::M::L::J::G::F::B::z::u::U) 11 v=s0::s1::Y::O::M::L::J::G::F::B::z::v::U:=rfl
def zlH:zk 12 (s0::s1::Y::O::M::L::J::G::F::B::z::v::some (.sh d)::U) Q E=Q (.v (.sh d)) (s0::s1::Y::O::M::L::J::G::F::B::z::v::some (.sh d)::U):=rfl
def zlJ:List.set (s0::s1::s2::Y::O::M::L::J::G::F::B::z::u::U) 12 v=s0::s1::s2::Y::O::M::L::J::G::F::B::z::v::U:=rfl
def znb:zk 13 (s0::s1::s2::Y::O::M::L::J::G::F::B::z::v::some (.sh d)::U) Q E=Q (.v (.sh d)) (s0::s1::s2::Y::O::M::L::J::G::F::B::z::v::some (.sh d)::U):=rfl
def zlN:List.set (s0::s1::s2::s3::Y::O::M::L::J::G::F::B::z::u::U) 13 v=s0::s1::s2::s3::Y::O::M::L::J::G::F::B::z::v::U:=rfl
def zle:zk 14 (s0::s1::s2::s3::Y::O::M::L::J::G::F::B::z::v::some (.sh d)::U) Q E=Q (.v (.sh d)) (s0::s1::s2::s3::Y::O::M::L::J::G::F::B::z::v::some (.sh d)::U):=rfl
def zkT:slot (s0::s1::s2::s3::s4::Y::O::M::L::J::G::F::B::z::v::U) 14=v:=rfl
def zkV:List.set (s0::s1::s2::s3::s4::Y::O::M::L::J::G::F::B::z::u::U) 14 v=s0::s1::s2::s3::s4::Y::O::M::L::J::G::F::B::z::v::U:=rfl
def zly:iG o (.v (.sh p)) Q (.v (.sh q)) U=kV (o p q) Q U:=rfl
def zm5:fP v (.v (.sh p)) QT (.v (.sh q)) U=kC (v p q) QT U:=rfl
def zk5:fP v (.v (.sh p)) QT (.v (.lst m)) U=gK v (some p) (some (S.lst m).toD) QT U:=rfl
def zmB:fP v (.v (.sh p)) QT (.loc k) U=gK v (some p) (view (.loc k) U) QT U:=rfl
def zl1:iG o (.v (.lst l)) Q (.v (.lst m)) U=kK o (some (S.lst l).toD) (some (S.lst m).toD) Q U:=rfl
def zlk:fP v (.v (.lst l)) QT (.v (.lst m)) U=gK v (some (S.lst l).toD) (some (S.lst m).toD) QT U:=rfl
def zmS:fP v (.loc j) QT (.v (.lst m)) U=gK v (view (.loc j) U) (some (S.lst m).toD) QT U:=rfl
def zoW:jF d (.lst l)=pS d (.lst l):=rfl
def zpk:jF d (.tup l)=pS d (.tup l):=rfl
def zmN:cW p q=(jF p q).map (!·):=rfl
def tR(Q:WQ)(o:Option (S×Env)):Prop:=zp o λp=>Q (.v (.sh p.1.toD)) p.2
def gc(Q:WQ):WQ:=λr U=>tR Q (give r U)
def zoP:fY a U Q E=a U (gc Q) E:=rfl
def zm0:gc Q r U=tR Q (give r U):=rfl
def zlF:tR Q (some (s,U))=Q (.v (.sh s.toD)) U:=rfl
def lU(i:Nat)(D:Ends)(o:Option S)(U:Env):Prop:=zp o λs=>D.nx (U.set i (some (.sh s.toD)))
def wK(i:Nat)(D:Ends):Env->Prop:=λU=>lU i D (slot U i) U
def zp3:zP i v D' U=v (vD D' (wK i D')) U:=rfl
def zmy:wK i D' U=lU i D' (slot U i) U:=rfl
def zms:lU i D' (some s) U=D'.nx (U.set i (some (.sh s.toD))):=rfl
def lT(o:Option (Option D))(z:R)(U:Env)(Q:WQ):Prop:=zp o λo=>match o with
 |some e=>Q (.v (.sh e)) U
 |none=>Q z U
def tO(o p:Option D)(z:R)(U:Env)(Q:WQ):Prop:=zp o λv=>zp p λq=>lT (sP v q) z U Q
def tP(x y:R)(Q:WQ):WQ:=λz U=>tO (zD x U) (view y U) z U Q
def tQ(x:R)(d:WE)(Q:WQ)(E:WX):WQ:=λy U=>d U (tP x y Q) E
def oT(o:Option D):Prop:=zp o λv=>uA v=true
def wI(k d:WE)(Q:WQ)(E:WX):WQ:=λx U=>oT (zD x U)/\k U (tQ x d Q E) E
def e_Ge:gG a b c U Q E=a U (wI b c Q E) E:=rfl
def znD:wI b c Q E x U=(oT (zD x U)/\b U (tQ x c Q E) E):=rfl
theorem ziG:oT (some (.dct t ks vs))=True:=by simp[oT,uA]
def zoQ:tQ x c Q E y U=c U (tP x y Q) E:=rfl
def zoB:tP x y Q z U=tO (zD x U) (view y U) z U Q:=rfl
def zn2:tO (some p) (some q) z U Q=lT (sP p q) z U Q:=rfl
def zls:lT (some (some d)) z U Q=Q (.v (.sh d)) U:=rfl
def zlU:lT (some none) z U Q=Q z U:=rfl
def znx{z:Int}:sP (.dct false ks vs) (.int z)=some (lk ks vs (.int z)):=rfl
def sX(res:Bool)(p:D)(o:Option D)(Q:Bool->Env->Prop)(U:Env):Prop:=zp o λq=>p=q/\Q res U
def sY(res:Bool)(p:D)(Q:Bool->Env->Prop):WQ:=λy U=>sX res p (zD y U) Q U
def sZ(res:Bool)(b:WE)(o:Option D)(Q:Bool->Env->Prop)(E:WX)(U:Env):Prop:=zp o λp=>bV p=true/\b U (sY res p Q) E
def wG(res:Bool)(b:WE)(Q:Bool->Env->Prop)(E:WX):WQ:=λx U=>sZ res b (zD x U) Q E U
def e_Re:eY res a b U QT E=a U (wG res b QT E) E:=rfl
def zpm:wG res b QT E x U=sZ res b (zD x U) QT E U:=rfl
def zpH:sZ res b (some p) QT E U=(bV p=true/\b U (sY res p QT) E):=rfl
def znN:sY res p QT y U=sX res p (zD y U) QT U:=rfl
def zor:sX res p (some q) QT U=(p=q/\QT res U):=rfl
def zm8{z v:Int}:bY (.int z) (.int v)=lO (.int z) (.int v):=rfl
theorem uB{w v:WB}(h:w=v)(U:Env)(Q:Env->Prop)(E:WX):w U Q E=v U Q E:=by rw[h]
theorem uS{w v:WS}(h:w=v)(D':Ends)(U:Env):w D' U=v D' U:=by rw[h]
def gj(s0:S)(n k:Nat)(g:WG)(c:WT)(b:WB)(Q:WQ)(E:WX):List D->Env->Prop:=λl U=>aL g c b l (U++some s0::List.replicate k none) (lR n Q) (oB n E)
def e_CM:zQ s0 n m it g c v U Q E=it U (gj s0 n m g c v Q E) E:=rfl
def zoc:gj s0 n m g c v Q E l U=aL g c v l (U++some s0::List.replicate m none) (lR n Q) (oB n E):=rfl
section
variable{U:Env}{Q:WQ}{QE:Env->Prop}{E:WX}{a b:WE}{x y r:R}{s:S}{q d:D}{n m j:Nat}{l:List D}
def oQ(n:Nat)(s:S)(o:Option S)(U:Env)(Q:Env->Prop):Prop:=match o with
 |some (.set l)=>bX (s.toD::l)=true/\l.length<=150/\Q (U.set n (some (.set (cI l s.toD))))
 |_=>False
def oS(n:Nat)(p:Option (S×Env))(Q:Env->Prop):Prop:=zp p λp=>oQ n p.1 (slot p.2 n) p.2 Q
def da(n:Nat)(Q:Env->Prop):WQ:=λr U=>oS n (give r U) Q
theorem e_Ad:mE n a U QE E=a U (da n QE) E:=by unfold mE da oS oQ;rfl
def zoj:da n QE r U=oS n (give r U) QE:=rfl
def zoL:oS n (some (s,U)) QE=oQ n s (slot U n) U QE:=rfl
def zn9:oQ n s (some (.set l)) U QE=(bX (s.toD::l)=true/\l.length<=150/\QE (U.set n (some (.set (cI l s.toD))))):=rfl
def zne:(S.set l).toD=.set l:=rfl
def zmh:iI [.set l]=some (.sh (.int l.length)):=rfl
def zkR:bQ [.lst l]=cC l:=rfl
def zpD:jG [.lst l]=newS l:=rfl
def znv:jG [.tup l]=newS l:=rfl
def nV(j:Nat)(t:Bool)(z:List D×List S×Nat)(l':List S)(Q:WQ)(o:Option (S×Env)):Prop:=zp o λp=>l'.length<big/\Q (.v (.sh .non)) (p.2.set j (some (.dct t z.1 (z.2.1.set z.2.2 (.lst (l'++[p.1]))))))
def nW(j:Nat)(t:Bool)(z:List D×List S×Nat)(l':List S)(Q:WQ):WQ:=λr U=>nV j t z l' Q (give r U)
def nX(j:Nat)(t:Bool)(z:List D×List S×Nat)(e:WE)(o:Option S)(U:Env)(Q:WQ)(E:WX):Prop:=match o with
 |some (.lst l')=>e (U.set j none) (nW j t z l' Q) E
 |_=>False
def nY(j:Nat)(e:WE)(o:Option D)(p:Option S)(U:Env)(Q:WQ)(E:WX):Prop:=match o,p with
 |some q,some (.dct t ks l)=>aO t q=true/\ks.Nodup/\ks.length<big/\nX j t (bB ks l q) e (bB ks l q).2.1[(bB ks l q).2.2]? U Q E
 |_,_=>False
def nZ(j:Nat)(e:WE)(Q:WQ)(E:WX):WQ:=λy U=>nY j e (view y U) (slot U j) U Q E
def cv(j:Nat)(o:Option S)(k e:WE)(U:Env)(Q:WQ)(E:WX):Prop:=match o with
 |some (.dct _ _ _)=>k U (nZ j e Q E) E
 |_=>False
theorem e_SA:eA j a b U Q E=cv j (slot U j) a b U Q E:=by unfold eA cv nZ nY nX nW nV;rfl
def znZ{t:Bool}{ks:List D}{l:List S}:cv j (some (.dct t ks l)) a b U Q E=a U (nZ j b Q E) E:=rfl
def zn6:nZ j b Q E y U=nY j b (view y U) (slot U j) U Q E:=rfl
def znO{t:Bool}{ks:List D}{l:List S}:nY j b (some q) (some (.dct t ks l)) U Q E=(aO t q=true/\ks.Nodup/\ks.length<big/\nX j t (bB ks l q) b (bB ks l q).2.1[(bB ks l q).2.2]? U Q E):=rfl
def QJ{t:Bool}{z:List D×List S×Nat}{l':List S}(h:z.2.1[z.2.2]?=some (.lst l')):nX j t z b z.2.1[z.2.2]? U Q E=b (U.set j none) (nW j t z l' Q) E:=by rw[h];rfl
def zok{t:Bool}{z:List D×List S×Nat}{l':List S}:nW j t z l' Q r U=nV j t z l' Q (give r U):=rfl
def zpJ{t:Bool}{z:List D×List S×Nat}{l':List S}:nV j t z l' Q (some (s,U))=(l'.length<big/\Q (.v (.sh .non)) (U.set j (some (.dct t z.1 (z.2.1.set z.2.2 (.lst (l'++[s]))))))):=rfl
variable{fr:D->Option S}
variable{c:WE}{QI:List D->Env->Prop}
end
section
variable{U:Env}{Q:WQ}{E:WX}{a:WE}{r:R}{j:Nat}{d:D}{l:List D}{x:List Nat}{s:S}{o:Option S}
theorem zhx{l:List Nat}(h:l.length<=150):fS [.str l]=some (.set (aH (l.map λc=>.str [c]))):=q4 h
def zk3{s0 s1 s2 s3 s4 Y O M L J G F B z v:Option S}{U:Env}{Q:WQ}{E:WX}{d:D}:zk 15 (s0::s1::s2::s3::s4::Y::O::M::L::J::G::F::B::z::v::some (.sh d)::U) Q E=Q (.v (.sh d)) (s0::s1::s2::s3::s4::Y::O::M::L::J::G::F::B::z::v::some (.sh d)::U):=rfl
def zlp{s0 s1 s2 s3 s4 s5 Y O M L J G F B z:Option S}{u v:Option S}{U:Env}:List.set (s0::s1::s2::s3::s4::s5::Y::O::M::L::J::G::F::B::z::u::U) 15 v=s0::s1::s2::s3::s4::s5::Y::O::M::L::J::G::F::B::z::v::U:=rfl
def zmc{s0 s1 s2 s3 s4 s5 Y O M L J G F B z v:Option S}{U:Env}{Q:WQ}{E:WX}{d:D}:zk 16 (s0::s1::s2::s3::s4::s5::Y::O::M::L::J::G::F::B::z::v::some (.sh d)::U) Q E=Q (.v (.sh d)) (s0::s1::s2::s3::s4::s5::Y::O::M::L::J::G::F::B::z::v::some (.sh d)::U):=rfl
def zlP{s0 s1 s2 s3 s4 s5 s6 Y O M L J G F B z:Option S}{v:Option S}{U:Env}:slot (s0::s1::s2::s3::s4::s5::s6::Y::O::M::L::J::G::F::B::z::v::U) 16=v:=rfl
def zl8{s0 s1 s2 s3 s4 s5 s6 Y O M L J G F B z:Option S}{u v:Option S}{U:Env}:List.set (s0::s1::s2::s3::s4::s5::s6::Y::O::M::L::J::G::F::B::z::u::U) 16 v=s0::s1::s2::s3::s4::s5::s6::Y::O::M::L::J::G::F::B::z::v::U:=rfl
end
theorem zlw(h:l.all (aO true)=true/\m.all (aO true)=true/\l.length+m.length<=150):yJ (.set l) (.set m)=some (.set (aH (l++m))):=q4 h
def sg(c:Nat):D:=.str [c]
def LD(l:List Nat):cP (l.map sg)=some (l.map λc=>[c]):=by let:=Tw (l.map λc=>[c]);rw[qE]at this;show this
def Me:∀l:List Nat,((l.map λc=>[c]).map List.length).sum=l.length
 |[]=>rfl
 |c::l=>by let:=Me l;simp at this⊢;lia
def MP:∀l:List Nat,(l.map λc=>[c]).flatten=l
 |[]=>rfl
 |c::l=>by let:=MP l;simp;rw[this]
def Lr(h:l.length<=big):dP [] [.lst (l.map sg)]=some (.sh (.str l)):=by show(cP (l.map sg)).bind _=_;grind[LD,List.length,big,dA,Me,NB,MP]
def mS:D->Nat
 |.str [c]=>c
 |_=>0
def PP(h:l.Perm (A.map sg)):∃v:List Nat,v.Perm A/\l=v.map sg:=by
 show#[l.map mS,?_,?_]
 .let:=h.map mS;rw[qE]at this;let e:(mS∘sg)=id:=funext λc=>rfl;rw[e,map_id]at this;show this
 .rw[qE];let:∀d∈l,(sg∘mS) d=id d:=λd z=>by let#[c,_,rfl]:=qK.mp (h.mem_iff.mp z);rfl
  rw[map_congr_left this,map_id]
def cQ:big=1000000:=rfl
def Gc:(fromTo lo n).length=n:=by simp[fromTo]
def UP{l:List D}{k:Nat}(h:l[k]?=some d):(l.map S.sh)[k]?=some (.sh d):=by rw[qF,h];rfl
def Hg{α β:Type}{f:α->β}{l:List α}{z:Int}(F:0<=z)(h1:z<l.length):∃v,v∈l/\l[z.toNat]?=some v/\atI (l.map f) z=some (f v):=by
 let B:z.toNat<l.length:=∅
 show#[l[z.toNat],getElem_mem B,qh B,EU F (by rw[qF,qh B];rfl)]
def GU(F:0<=z)(h1:z<l.length):∃v,v∈l/\l[z.toNat]?=some v/\atI l z=some v:=by
 let B:z.toNat<l.length:=∅
 show#[l[z.toNat],getElem_mem B,qh B,EU F (qh B)]
def JI{α β:Type}{f:α->β}:∀(l:List α)(k:Nat),(l.map f).eraseIdx k=(l.eraseIdx k).map f
 |[],_=>rfl
 |_::_,0=>rfl
 |x::l,k+1=>by show f x::(l.map f).eraseIdx k=f x::(l.eraseIdx k).map f;rw[JI l k]
def Md(f:α->β)(l:List α)(a b:Option Int):aM (l.map f) a b=(aM l a b).map f:=by unfold aM;simp_all
def Fz(l:List α)(a b:Option Int):(aM l a b).length<=l.length:=by unfold aM;rw[qH,qG];show le_trans (min_le_right ..) (sub_le ..)
def FB(h:x∈aM l a b):x∈l:=by show List.mem_of_mem_drop (mem_of_mem_take h)
def LR(l:List α){k:Int}(v:0<=k)(h1:k<=l.length):aM l none (some k)=l.take k.toNat:=by unfold aM sIx;grind
def Nz(l:List α)(v:0<=k):aM l (some k) none=l.drop k.toNat:=by
 unfold aM sIx;let:¬k<0:=∅
 simp[q5 this];by_cases h:k.toNat<=l.length
 .rw[min_eq_left h,take_of_length_le];rw[qG];lia
 .let h2:l.length<=k.toNat:=by lia
  rw[Nat.min_eq_right h2,drop_of_length_le (q8 _),drop_of_length_le h2,take_nil]
def Nv:∀l:List Int,bC (l.map D.int)=0
 |[]=>rfl
 |z::l=>by show max (dH (.int z)) (bC (l.map D.int))=0;rw[Nv l];rfl
def NV{α:Type}:∀(l:List α)(i:Nat)(h:i<l.length),(l[i]::l.eraseIdx i).Perm l
 |x::l,0,_=>List.Perm.refl _
 |x::l,i+1,h=>by
  let hi:i<l.length:=↑h
  show(List.Perm.swap x l[i] _).trans (List.Perm.cons x (NV l i hi))
def nQ(b:WB)(K:Env->Prop)(E:WX):Bool->Env->Prop:=λk U=>if k then b U K E else K U
def mN(c:WT)(b:WB)(K:Env->Prop)(E:WX):Env->Prop:=λU=>c U (nQ b K E) E
def dZ:mN c b K E U=c U (nQ b K E) E:=rfl
def mM:nQ b K E true U=b U K E:=rfl
def yB:nQ b K E false U=K U:=rfl
def HV{α:Type}{toD:α->D}(I:List α->Env->Prop)(xs:List α)
  (step:∀(z:List α)(x:α)(v:List α)(K:Env->Prop)(U:Env),z++x::v=xs->I z U->(∀U',I (z++[x]) U'->K U')->g (.sh (toD x)) U (mN c b K E))
  (F:∀U,I xs U->Q U)(J:I [] U):aL g c b (xs.map toD) U Q E:=by
 have B:∀(v z:List α)(U:Env),z++v=xs->I z U->aL g c b (v.map toD) U Q E:=by
  intro v;induction v with
  |nil=>intro z U e h;rw[qz]at e;subst e;show F U h
  |cons x v G=>intro z U e h;show step z x v (nR g c b (v.map toD) Q E) U e h λU' h'=>G (z++[x]) U' (by rw[<-e];simp) h'
 show B xs [] U rfl J
def DY{α:Type}{toD:α->D}(I:List α->Env->Prop)(xs:List α)
  (step:∀(z:List α)(x:α)(v:List α)(B:Ends)(U:Env),z++x::v=xs->I z U->(∀U',I (z++[x]) U'->B.nx U')->(∀U',I (z++[x]) U'->B.ct U')->B.rt=D'.rt->B.bk=D'.nx->g (.sh (toD x)) U (λU=>b B U))
  (G:∀U,I xs U->D'.nx U)(L:I [] U):bW g b (xs.map toD) D' U:=by
 have F:∀(v z:List α)(U:Env),z++v=xs->I z U->bW g b (v.map toD) D' U:=by
  intro v;induction v with
  |nil=>intro z U e h;rw[qz]at e;subst e;show G U h
  |cons x v J=>intro z U e h;let k:=λU' h'=>J (z++[x]) U' (by rw[<-e];simp) h';show step z x v (jc g b (v.map toD) D') U e h k k rfl rfl
 show F xs [] U rfl L
def IU{α:Type}{toD:α->D}(I:List α->List S->Env->Prop)(xs:List α)
  (step:∀(z:List α)(x:α)(B:List α)(l:List S)(U:Env)(vs:List (Option S))(K:Env->Prop),z++x::B=xs->vs.length=k->I z l U->(∀l' U1 v,v.length=k->I (z++[x]) l' U1->K (U1++some (.lst l')::v))->g (.sh (toD x)) (U++some (.lst l)::vs) (mN c b K E))
  (M:∀l U vs,vs.length=k->I xs l U->Q (U++some (.lst l)::vs))(O:vs.length=k)(h0:I [] [] U):aL g c b (xs.map toD) (U++some (.lst [])::vs) Q E:=by
 show HV (λz F=>∃l U1 v,v.length=k/\I z l U1/\F=U1++some (.lst l)::v) xs (λz x B K F e L Y=>?_) (λF L=>?_) #[[],U,vs,O,h0,rfl]
 .obtain⟨l,U1,v,h1,h2,rfl⟩:=L;show step z x B l U1 v K e h1 h2 λl' G J h3 h4=>Y _ #[l',G,J,h3,h4,rfl]
 .obtain⟨l,U1,v,h1,h2,rfl⟩:=L;show M l U1 v h1 h2
def Lq{α:Type}{toD:α->D}(xs:List α)(h:α->Option S)
  (step:∀x∈xs,∀(l:List S)(vs:List (Option S))(K:Env->Prop),vs.length=k->l.length<xs.length->(∀v,v.length=k->K (U++some (.lst (l++(h x).toList))::v))->g (.sh (toD x)) (U++some (.lst l)::vs) (mN c b K E))
  (F:∀vs,vs.length=k->Q (U++some (.lst (xs.filterMap h))::vs))(J:vs.length=k):aL g c b (xs.map toD) (U++some (.lst [])::vs) Q E:=by
 show IU (λz l B=>B=U/\l=z.filterMap h) xs (λz x G l B vs K e h1 h2 M=>?_) (λl B vs h1 h2=>?_) J #[rfl,rfl]
 .obtain⟨rfl,rfl⟩:=h2;let L:(z.filterMap h).length<xs.length:=by let:=List.length_filterMap_le h z;rw[<-e];simp;lia
  show step x (by rw[<-e];simp) _ vs K h1 L λv O=>M _ _ v O #[rfl,?_];cases q:h x<;>simp[q]
 .obtain⟨rfl,rfl⟩:=h2;show F vs h1
def Dv{vs:List (Option S)}(h:vs.length=1):∃a,vs=[a]:=by
 match vs,h with
 |[a],_=>show#[a,rfl]
def FN{vs:List (Option S)}(h:vs.length=2):∃a b,vs=[a,b]:=by
 match vs,h with
 |[a,b],_=>show#[a,b,rfl]
def FM{vs:List (Option S)}(h:vs.length=3):∃a b c,vs=[a,b,c]:=by
 match vs,h with
 |[a,b,c],_=>show#[a,b,c,rfl]
section
variable{α:Type}
def KF(xs:List α)(h:α->Option S)
  (step:∀x∈xs,∀(l:List S)(o:Option S)(K:Env->Prop),l.length<xs.length->(∀o,K (U.take n++[some (.lst (l++(h x).toList)),o]))->zo (n+1) (.sh (toD x)) (U.take n++[some (.lst l),o]) (mN c b K E))
  (z:∀o,Q (U.take n++[some (.lst (xs.filterMap h)),o]))(e:U=U.take n++[some (.lst []),o0]:=by rfl):aL (zo (n+1)) c b (xs.map toD) U Q E:=by
 rw[e];show Lq (k:=1) xs h (λx F l B K v G J=>?_) (λB v=>?_) rfl
 .obtain⟨a,rfl⟩:=Dv v;show step x F l a K G λo=>J [o] rfl
 .obtain⟨a,rfl⟩:=Dv v;show z a
def Vy(xs:List α)(h:α->Option S)
  (step:∀x∈xs,∀(l:List S)(o o':Option S)(K:Env->Prop),l.length<xs.length->(∀o o',K (U.take n++[some (.lst (l++(h x).toList)),o,o']))->cE [zo (n+1),zo (n+2)] (.sh (toD x)) (U.take n++[some (.lst l),o,o']) (mN c b K E))
  (z:∀o o',Q (U.take n++[some (.lst (xs.filterMap h)),o,o']))(e:U=U.take n++[some (.lst []),o0,M]:=by rfl):aL (cE [zo (n+1),zo (n+2)]) c b (xs.map toD) U Q E:=by
 rw[e];show Lq (k:=2) xs h (λx G l F K v J L=>?_) (λF v=>?_) rfl
 .obtain⟨a,B,rfl⟩:=FN v;show step x G l a B K J λo o'=>L [o,o'] rfl
 .obtain⟨a,B,rfl⟩:=FN v;show z a B
def KE(xs:List α)(h:α->S)
  (step:∀x∈xs,∀(l:List S)(o:Option S)(K:Env->Prop),l.length<xs.length->(∀o,K (U.take n++[some (.lst (l++[h x])),o]))->zo (n+1) (.sh (toD x)) (U.take n++[some (.lst l),o]) (mN c b K E))
  (v:∀o,Q (U.take n++[some (.lst (xs.map h)),o]))(e:U=U.take n++[some (.lst []),o0]:=by rfl):aL (zo (n+1)) c b (xs.map toD) U Q E:=
 KF xs (λx=>some (h x)) step (λo=>by rw[show(xs.filterMap λx=>some (h x))=xs.map h from List.filterMap_eq_map▸rfl];show v o) e
end
def VA{β:Type}(v:β->S)(xs:List D)(I:Env->Prop)(P:β->Prop)
  (step:∀x∈xs,∀(U:Env)(A:List β)(o:Option S)(K:Env->Prop),I U->A.length<xs.length->(∀U1 y G,I U1->P y->K (U1++[some (.lst (A.map v++[v y])),G]))->zo (n+1) (.sh x) (U++[some (.lst (A.map v)),o]) (mN c b K E))
  (h5:∀U(A:List β) o,I U->A.length=xs.length->(∀y∈A,P y)->Q (U++[some (.lst (A.map v)),o]))(h0:I (U.take n))(e:U=U.take n++[some (.lst []),o0]:=by rfl):aL (zo (n+1)) c b xs U Q E:=by
 rw[e];let:=IU (toD:=λx:D=>x) (k:=1) (g:=zo (n+1)) (c:=c) (b:=b) (E:=E) (Q:=Q) (λF l B=>I B/\∃A:List β,l=A.map v/\A.length=F.length/\∀y∈A,P y) xs (λF x J l B vs K e h1 h2 O=>?_) (λl B vs h1 h2=>?_) (U:=U.take n) (vs:=[o0]) rfl #[h0,[],rfl,rfl,λy M=>nomatch M]
 .rwa[List.map_id']at this
 .obtain⟨Y,A,rfl,L,hP⟩:=h2;let#[a,rfl]:=Dv h1;show step x (by rw[<-e];simp) B A a K Y (by rw[L,<-e];simp only[qq,qt];lia) λU1 y G h3 h4=>O _ U1 [G] rfl #[h3,A++[y],by simp,by simp[L],λz hz=>?_];grind
 grind[Dv]
def Ob(I:Nat->Env->Prop)(xs:List D)
  (step:∀(k:Nat)(x:D),xs[k]?=some x->∀(z:Ends)(U:Env),I k U->(∀U',I (k+1) U'->z.nx U')->(∀U',I (k+1) U'->z.ct U')->z.rt=D'.rt->z.bk=D'.nx->g (.sh x) U (λU=>b z U))
  (L:∀U,I xs.length U->D'.nx U)(Y:I 0 U):bW g b xs D' U:=by
 let:=DY (toD:=λx:D=>x) (g:=g) (b:=b) (D':=D') (λv U=>I v.length U) xs (λv x M z U e O F G B J=>step v.length x (by rw[<-e];simp) z U O (λU' h=>F U' ↑h) (λU' h=>G U' ↑h) B J) L Y;rwa[List.map_id']at this
theorem bf{α:Type}{toD:α->D}(xs:List α)(h:α->List S)
  (step:∀x∈xs,∀(l:List S)(vs:List (Option S))(K:Env->Prop),vs.length=k->l.length+(h x).length<=(xs.flatMap h).length->(∀v,v.length=k->K (U.take n++some (.lst (l++h x))::v))->g (.sh (toD x)) (U.take n++some (.lst l)::vs) (mN c b K E))
  (F:∀vs,vs.length=k->Q (U.take n++some (.lst (xs.flatMap h))::vs))(e:U=U.take n++some (.lst [])::vs:=by rfl)(J:vs.length=k:=by rfl):aL g c b (xs.map toD) U Q E:=by
 rw[e];show IU (λB l z=>z=U.take n/\l=B.flatMap h) xs (λB x G l z vs K e h1 h2 M=>?_) (λl z vs h1 h2=>?_) J #[rfl,rfl]
 .obtain⟨rfl,rfl⟩:=h2;let L:(B.flatMap h).length+(h x).length<=(xs.flatMap h).length:=by rw[<-e,flatMap_append,flatMap_cons,qq,qq];lia
  show step x (by rw[<-e];simp) _ vs K h1 L λv O=>M _ _ v O #[rfl,by rw[flatMap_append];simp]
 .obtain⟨rfl,rfl⟩:=h2;show F vs h1
section
variable{α:Type}
def Vz(F:List S->Option S->Option S->Env)(xs:List α)(h:α->Option S)
  (step:∀x∈xs,∀(l:List S)(o o':Option S)(K:Env->Prop),l.length+(h x).toList.length<=B.length+(xs.filterMap h).length->(∀o o',K (F (l++(h x).toList) o o'))->g (.sh (toD x)) (F l o o') (mN c b K E))
  (J:∀o o',Q (F (B++xs.filterMap h) o o')):aL g c b (xs.map toD) (F B o0 M) Q E:=by
 show HV (λz v=>∃o o',v=F (B++z.filterMap h) o o') xs (λz x L K v e G O=>?_) (λv G=>?_) #[o0,M,by simp]
 .obtain⟨o,o',rfl⟩:=G;refine step x (by rw[<-e];simp) _ o o' K ?_ λo o'=>O _ #[o,o',?_]
  .rw[<-e,List.filterMap_append,qq];cases q:h x<;>simp[q]<;>lia
  .rw[List.filterMap_append];cases q:h x<;>simp[q]
 .obtain⟨o,o',rfl⟩:=G;show J o o'
end
def Mn:∀l:List (List Nat),∀d∈l.map D.str,mH d:=λl d v=>by let#[x,_,rfl]:=qK.mp v;trivial
def OL:([a]:List Nat)<[b]↔a<b:=by simp[qC]
def TH{l:List Nat}(h:l.Pairwise (·<=·))(hn:l.Nodup):l.Pairwise (·<·):=by let:=h.and hn;show this.imp λ⟨h1,h2⟩=>∅
def OY(h:mH x):(aP x (.str z)||decide (30<dH x))=false:=by
 cases x with
 |str i=>rfl
 |_=>show h.elim
def Vg{ns:List (List Nat)}:(if(ns.map D.str).any (λx=>aP x (.str z)||decide (30<dH x))then none else some (open Classical in decide (D.str z∈ns.map D.str)))=some (decide (z∈ns)):=by grind[mem_map,any_eq_true.mp,OY,Mn]
def RS{ns:List (List Nat)}:pS (.str z) (.lst (ns.map D.str))=some (decide (z∈ns)):=Vg
def KU{α β:Type}(p:α->Bool)(f:α->β):∀l:List α,(l.filterMap λx=>if p x=true then some (f x)else none)=(l.filter p).map f
 |[]=>rfl
 |x::l=>by let v:=KU p f l;cases q:p x<;>simp[q,v]
def JH:∀l:List (List Nat),bC (l.map D.str)=0
 |[]=>rfl
 |z::l=>by show max (dH (.str z)) (bC (l.map D.str))=0;rw[JH l];rfl
def Tf:eJ (.lst (l.map D.str)) (.lst [])=some (!decide (l=[])):=by
 unfold eJ dD;rw[q5 (by
  let:dH (.lst (l.map D.str))=1:=by show bC (l.map D.str)+1=1;rw[JH]
  rw[this];cases l<;>show λz=>Bool.noConfusion (show false=true from z))]
 simp
def RH:eJ (.tup (l.map D.str)) (.tup [])=some (!decide (l=[])):=by
 unfold eJ dD;rw[q5 (by
  let:dH (.tup (l.map D.str))=1:=by show bC (l.map D.str)+1=1;rw[JH]
  rw[this];cases l<;>show λz=>Bool.noConfusion (show false=true from z))]
 simp
def Jr:∀l:List D,(∀d∈l,dH d<=n)->bC l<=n
 |[],_=>zero_le _
 |d::l,h=>by show max (dH d) (bC l)<=n;let h1:=h d (by simp);let h2:=Jr l λx v=>h x (by simp[v]);lia
def Py(h:bC l<=29):eJ (.lst l) (.lst [])=some (!l.isEmpty):=by
 unfold eJ dD;rw[q5 (by
  let:dH (.lst l)=bC l+1:=rfl;cases l with
  |nil=>show λz=>Bool.noConfusion (show false=true from z)
  |cons x l=>show λz=>absurd (qU (show decide (30<bC (x::l)+1)=true from z)) ∅)]
 cases l<;>simp
def Dk{α:Type}{l:List α}(h:l.length=n+1):∃a r,l=a::r/\r.length=n:=by
 cases l with
 |nil=>cases h
 |cons a r=>show#[a,r,rfl,Nat.succ.inj h]
def Kr{α:Type}{l:List α}(h:l.length=0):l=[]:=length_eq_zero_iff.mp h
def Ec{α:Type}{l:List α}(h:l.length=1):∃a,l=[a]:=by let#[a,r,rfl,k]:=Dk h;obtain rfl:=Kr k;show#[a,rfl]
def FH{α:Type}{l:List α}(h:l.length=2):∃z v,l=[z,v]:=by let#[z,r,rfl,k]:=Dk h;let#[v,rfl]:=Ec k;show#[z,v,rfl]
def FF{α:Type}{l:List α}(h:l.length=3):∃B z v,l=[B,z,v]:=by let#[B,r,rfl,k]:=Dk h;let#[z,v,rfl]:=FH k;show#[B,z,v,rfl]
def Ht{α:Type}{l:List α}(h:l.length=4):∃F B z v,l=[F,B,z,v]:=by let#[F,r,rfl,k]:=Dk h;let#[B,z,v,rfl]:=FF k;show#[F,B,z,v,rfl]
theorem NL:∀l m:List Int,aR (l.map D.int) (m.map D.int)=if l<m then .lt else if m<l then .gt else .eq
 |[],[]=>by simp[aR]
 |[],b::m=>by simp[aR]
 |a::l,[]=>by simp[aR]
 |a::l,b::m=>by
  let v:=NL l m;rw[qy,qy,aR];rw[show bR (.int a) (.int b)=if a<b then .lt else if b<a then .gt else .eq from rfl];by_cases h1:a<b
  .rw[q4 h1,q4 (qC.mpr (.inl h1))]
  .rw[q5 h1];by_cases h2:b<a
   .rw[q4 h2,q5 (by rw[qC];rintro(h|⟨h,_⟩)<;>lia),q4 (qC.mpr (.inl h2))]
   .have e:a=b:=by lia
    subst e;rw[q5 h2];rw[v]
    have B:(a::l<a::m)↔l<m:=by rw[qC];constructor
                               .rintro(h|⟨_,h⟩)
                                .lia
                                .show h
                               .intro h;show .inr #[rfl,h]
    have z:(a::m<a::l)↔m<l:=by rw[qC];constructor
                               .rintro(h|⟨_,h⟩)
                                .lia
                                .show h
                               .intro h;show .inr #[rfl,h]
    simp
def Pt(l m:List Int):dQ (tI l) (tI m)=!decide (m<l):=by
 show(match aR (l.map D.int) (m.map D.int)with|.gt=>false|_=>true)=_;rw[NL];by_cases h:m<l
 .rw[q5 (lt_asymm h),q4 h,qR h];rfl
 .rw[q5 h,qS h];by_cases h2:l<m
  .rw[q4 h2];rfl
  .rw[q5 h2];rfl
abbrev Wd:=List Nat
def dX(w:Wd)(i j:Nat):Wd:=(w.drop i).take (j-i)
def RU(l:List α)(i j:Nat):aM l (some (i:Int)) (some (j:Int))=(l.drop i).take (j-i):=by
 unfold aM sIx;let h1:¬(i:Int)<0:=∅
 let h2:¬(j:Int)<0:=∅
 simp[q5 h1,q5 h2,qW];by_cases hi:i<=l.length
 .rw[min_eq_left hi];by_cases v:j<=l.length
  .rw[min_eq_left v]
  .rw[take_of_length_le (by rw[qG];lia),take_of_length_le (by rw[qG];lia)]
 .rw[Nat.min_eq_right (a:=i) ∅,drop_of_length_le (i:=l.length) (q8 _),drop_of_length_le (i:=i) ∅,take_nil,take_nil]
def LN(w:Wd)(i j:Nat):aM w (some (i:Int)) (some (j:Int))=dX w i j:=RU w i j
def Qy(h1:i<=j)(h2:j<=w.length):(dX w i j).length=j-i:=by unfold dX;rw[qH,qG];lia
def lI(B:List Wd)(w:Wd)(i j:Nat):Bool:=decide (i<j)&&(decide (j<=w.length)&&decide (dX w i j∈B))
theorem zaX:lI B w i j=true↔i<j/\j<=w.length/\dX w i j∈B:=by unfold lI;simp
abbrev Tr:=Nat×Nat×Nat
def kN(B:List Wd)(w:Wd)(i:Nat):List Tr:=(List.range (w.length+1)).filterMap λj=>if lI B w i j=true then some (i,j,B.idxOf (dX w i j))else none
def aZ(B:List Wd)(w:Wd):List Tr:=(List.range w.length).flatMap (kN B w)
def dM(B:List Wd)(w:Wd)(i:Nat):List Tr:=(List.range B.length).filterMap λk=>if decide (dX w i (i+((B[k]?).getD []).length)=(B[k]?).getD [])=true then some (i,i+((B[k]?).getD []).length,k)else none
theorem zbX:t∈kN B w i↔t.1=i/\lI B w i t.2.1=true/\t.2.2=B.idxOf (dX w i t.2.1):=by
 unfold kN;rw[mem_filterMap];constructor
 .rintro⟨j,_,h⟩;split at h
  .rename_i v;cases h;show#[rfl,v,rfl]
  .cases h
 .rintro⟨h1,h2,z⟩;refine#[t.2.1,?_,?_]
  .rw[qJ];let:=zaX.mp h2;lia
  .subst h1;rw[q4 h2,<-z]
theorem zcj:t∈aZ B w↔lI B w t.1 t.2.1=true/\t.2.2=B.idxOf (dX w t.1 t.2.1):=by
 unfold aZ;rw[mem_flatMap];constructor
 .grind[zbX]
 .rintro⟨h1,h2⟩;show#[t.1,?_,zbX.mpr #[rfl,h1,h2]];rw[qJ];let:=zaX.mp h1;lia
theorem zcC:(kN B w i).Pairwise λt u=>t.1=u.1/\t.2.1<u.2.1:=by
 unfold kN;rw[List.pairwise_filterMap];show pairwise_lt_range.imp λ{a b} F=>?_;intro x z y v;split at z
 .split at v
  .cases z;cases v;show#[rfl,F]
  .cases v
 .cases z
theorem zcX:(aZ B w).Pairwise λt u=>t.1<u.1\/(t.1=u.1/\t.2.1<u.2.1):=by
 unfold aZ;rw[List.pairwise_flatMap];show#[λi _=>zcC.imp λh=>.inr h,pairwise_lt_range.imp λ{a b} F=>?_];intro x z y v;let h1:=(zbX.mp z).1;let h2:=(zbX.mp v).1
 left;lia
def SH:t∈dM B w i↔t.1=i/\∃o,B[t.2.2]?=some o/\t.2.1=i+o.length/\dX w i (i+o.length)=o:=by
 unfold dM;rw[mem_filterMap];show#[λ⟨k,v,e⟩=>?_,λ⟨h1,o,h2,F,z⟩=>#[t.2.2,qJ.mpr (qg.mp h2).1,?_]]
 .rw[qh (qJ.mp v)]at e;split at e
  .cases e;show#[rfl,_,qh (qJ.mp v),rfl,qU ‹_›]
  .cases e
 .rw[h2];show(q4 (qR z)).trans ?_;show some (i,i+o.length,t.2.2)=some t;rw[<-F,<-h1]
def Sa(hB:B.Nodup)(G:∀x∈B,x≠[])(hi:i<=w.length):(kN B w i).Perm (dM B w i):=by
 show(perm_ext_iff_of_nodup ?_ ?_).mpr λt=>?_
 .show zcC.imp λ⟨_,h⟩ e=>by rw[e]at h;lia
 .unfold dM;rw[List.Nodup,List.pairwise_filterMap];show nodup_range.imp λ{a b} J x F y v e=>?_;subst e;split at F
  .split at v
   .cases F;injection v with v
    injection v with _ v
    injection v with _ v
    show J v.symm
   .cases v
  .cases F
 .rw[zbX,SH];constructor
  .rintro⟨h1,h2,z⟩;let#[a1,a2,a3]:=zaX.mp h2;let Y:=Qy (w:=w) (i:=i) (j:=t.2.1) ∅ a2;show#[h1,dX w i t.2.1,?_,by rw[Y];lia,by rw[Y];congr 1;lia];rw[z];rw[qh (List.idxOf_lt_length_of_mem a3),List.getElem_idxOf]
  .rintro⟨h1,o,h2,z,L⟩;let O:o∈B:=qM h2;let ho:=G o O;let M:0<o.length:=qP.mpr ho;let h5:i+o.length<=w.length:=by let:=congrArg List.length L;unfold dX at this;rw[qH,qG]at this;lia
   show#[h1,zaX.mpr #[∅,∅,by rw[z,L];show O],?_];rw[z,L];let#[hk,e]:=qg.mp h2;rw[<-e];show(hB.idxOf_getElem _ hk).symm
def Nr{α β:Type}{f g:α->List β}:∀l:List α,(∀x∈l,(f x).Perm (g x))->(l.flatMap f).Perm (l.flatMap g)
 |[],_=>.refl _
 |x::l,h=>by show(h x (by simp)).append (Nr l λy v=>h y (by simp[v]))
def SC(z:B.Nodup)(v:∀x∈B,x≠[]):(aZ B w).Perm ((List.range w.length).flatMap (dM B w)):=
 Nr _ λi hi=>Sa z v (by rw[qJ]at hi;lia)
def vE(t:Tr):List Int:=[(t.1:Int),(t.2.1:Int),(t.2.2:Int)]
def iO(t:Tr):D:=tI (vE t)
def dy(t:Tr):iO t=.tup [.int t.1,.int t.2.1,.int t.2.2]:=rfl
def Mr{α:Type}(f:α->D):∀(B:List α)(k:Nat),cF k (B.map f)=(List.range B.length).map λi=>D.tup [.int ((k+i:Nat):Int),(B[i]?).elim .non f]
 |[],k=>rfl
 |b::B,k=>by rw[qy,cF,Mr f B (k+1),qt,List.range_succ_eq_map,qy,qE];congr 1;show map_congr_left λi _=>?_;rw[show k+1+i=k+(i+1) by lia];rfl
def JY(B:List Wd):cF 0 (B.map D.str)=(List.range B.length).map λ(k:Nat)=>D.tup [.int (k:Int),.str ((B[k]?).getD [])]:=by rw[Mr];simp_all
def Dy{z:Int}{n:Nat}(h:z=n):fromTo 0 z.toNat=(List.range n).map λ(k:Nat)=>D.int (k:Int):=by subst h;show map_congr_left λk _=>?_;rw[Int.zero_add]
def HM{i z:Int}{a n:Nat}(hi:i=a)(h:z=n):fromTo i (z-i).toNat=(List.range' a (n-a)).map λ(k:Nat)=>D.int (k:Int):=by subst hi;subst h;unfold fromTo;rw[List.range'_eq_map_range,qE];first|rfl|assumption|(simp_all;done)
def Jx{α β:Type}{f g:α->Option β}:∀{l:List α},(∀x∈l,f x=g x)->l.filterMap f=l.filterMap g
 |[],_=>rfl
 |x::l,h=>by rw[filterMap_cons,filterMap_cons,h x (by simp),Jx λy v=>h y (by simp[v])]
def Kb(h:v++i::post=List.range n):v.length=i/\i<n:=by
 let h1:(List.range n)[v.length]?=some i:=by rw[<-h];simp
 let#[h2,z]:=qg.mp h1;rw[List.getElem_range]at z;rw[qD]at h2;lia
def NG:∀l m:List Int,bD (l.map D.int) (m.map D.int)=false
 |[],_=>by cases‹List Int›<;>rfl
 |_::_,[]=>rfl
 |a::l,b::m=>by show(aP (.int a) (.int b)||bD (l.map D.int) (m.map D.int))=false;rw[NG l m];rfl
def ME:∀{l m:List Int},l.map D.int=m.map D.int->l=m
 |[],[],_=>rfl
 |[],_::_,h=>nomatch h
 |_::_,[],h=>nomatch h
 |a::l,b::m,h=>by
  simp only[qy,List.cons.injEq]at h;rw[ME h.2];injection h.1 with e
  rw[e]
def RO{l m:List Int}:dD (.lst (l.map D.int)) (.lst (m.map D.int))=some (decide (l=m)):=by
 unfold dD;rw[q5 (by
  let:dH (.lst (l.map D.int))=1:=by show bC (l.map D.int)+1=1;rw[Nv]
  rw[this,show aP (.lst (l.map D.int)) (.lst (m.map D.int))=bD (l.map D.int) (m.map D.int) from rfl,NG];decide)]
 by_cases h:l=m
 .subst h;simp
 .let v:¬(D.lst (l.map D.int)=D.lst (m.map D.int)):=λz=>h (ME (by injection z));simp[h,v]
def SO{l m:List Int}:eJ (.lst (l.map D.int)) (.lst (m.map D.int))=some (!decide (l=m)):=by unfold eJ;rw[RO];rfl
def OX(l:List (List Nat)):cP (l.map D.str)=some l:=by
 induction l with
 |nil=>rfl
 |cons a l v=>show(cP (l.map D.str)).map (a::·)=_;rw[v];rfl
def Tt{l:List (List Nat)}(h:(l.map List.length).sum<=big):dP [] [.lst (l.map D.str)]=some (.sh (.str l.flatten)):=by show(cP (l.map D.str)).bind _=_;rw[OX];show(if(l.map List.length).sum+l.length*[].length<=big then some (S.sh (.str (dA [] l)))else none)=_;rw[q4 (by show h),NB]
def dz(D':Ends)(m:Nat)(J:Nat->Env->Prop):Ends:={D' with nx:=λv=>∃z,z<m/\J z v,ct:=λv=>∃z,z<m/\J z v,bk:=D'.nx}
def cu(b:WS)(D':Ends)(m:Nat)(J:Nat->Env->Prop)(k:Bool)(U:Env):Prop:=if k then b (dz D' m J) U else D'.nx U
def yT:cu b D' m J true U=b (dz D' m J) U:=rfl
def yU:cu b D' m J false U=D'.nx U:=rfl
def Om(J:Nat->Env->Prop)(m:Nat)(z:J m U)(h:∀m U,J m U->c U (cu b D' m J) D'.ex):gW c b D' U:=#[J,#[m,z],λm U v=>h m U v]
def Nn:∀l:List D,(∀d∈l,eR d=true)->cY l=true
 |[],_=>rfl
 |a::l,h=>by show(eR a&&cY l)=true;rw[h a (by simp),Nn l λd v=>h d (by simp[v])];rfl
def Lz:∀l:List D,(∀d∈l,kX d<=n)->gQ l<=l.length*(n+1)
 |[],_=>by simp[gQ]
 |a::l,h=>by show kX a+1+gQ l<=_;let h1:=h a (by simp);let h2:=Lz l λd v=>h d (by simp[v]);rw[qt];lia
def Sq(h:∀d∈l,eR d=true/\dH d<=m/\kX d<=n)(z:m<=29)(B:l.length*(n+1)<=1000000):bV (.lst l)=true/\bV (.tup l)=true:=by let h1:=Nn l λd v=>(h d v).1;let h2:=Jr (n:=m) l λd v=>(h d v).2.1;let F:=Lz (n:=n) l λd v=>(h d v).2.2;grind[bV,eR,cY,dH,bC,kX,gQ]
end FL
noncomputable section
namespace Law
open FL
def lE:WB:=bU 2 (cK (zl (zk 3) (zl (zy aU (zk 3) (wB aV (zl (zk 5) zm))) (zl (zk 4) zm))))
def rL:=uB lE.eq_1
def lD:WB:=kQ (iC (zk 0)) (cE [zo 4,zo 5]) (aS dD (eX (zk 1) (some (zk 3)) (some (zy aU (zk 3) (wB aV (zl (zk 5) zm))))) (zk 5)) lE
def rK:=uB lD.eq_1
def zN:WF:=gH 2 2 [0,1]
 (bZ (wB bQ (zl (jV 2 3 (bJ (wB aV (zl (zk 1) zm))) (zo 3) dJ lD) zm)))
def lB:WS:=wExpr (eA 1 (zk 2) (zk 3))
def rJ:=uS lB.eq_1
def yZ:WF:=gH 1 4 [0]
 (zz (zC (zo 1) (lH false))
  (zz (dU (cM (zk 0)) (cE [zo 2,zo 3]) lB)
  (bZ (zk 1))))
def yC:WF:=gH 2 4 [0,1]
 (zz (zC (zo 2) (zy aU (zy bY (wC (.int 7919)) (zk 1)) (wC (.int 11))))
  (zz (eI (aS uI (zk 1) (wB aV (zl (zk 0) zm))) (zC (zo 2) (eG (zk 0) (zk 1))) (eI (aS oV (wB aV (zl (zk 0) zm)) (wC (.int 0))) (zC (zo 2) (zy aU (zk 2) (zy bY (zy dW (eG (zk 0) (zy dW (zk 1) (wB aV (zl (zk 0) zm)))) (wC (.int 2147483629))) (wC (.int 69623))))) aX))
  (zz (zC (zo 3) (zy aU (zy dW (zy aU (zy bY (zy dW (zk 2) (wC (.int 2147483629))) (wC (.int 48271))) (zy bY (wC (.int 40692)) (zk 1))) (wC (.int 2147483629))) (wC (.int 1))))
  (bZ (cR (zl (eG (cR (zl (wC (.int 0)) (zl (zk 2) zm))) (wB iJ (zl (iB (aS uR (zk 2) (zy lN (wC (.int 10)) (wC (.int 18))))) zm))) (zl (zk 3) zm)))))))
def eF:WF:=gH 2 4 [0,1]
 (zz (eI (aS oV (eG (zk 0) (wC (.int 0))) (wC (.int 0))) (zz (zC (zo 2) (zy dW (eG (zk 0) (wC (.int 0))) (zk 1)))
  (zz (eK 0 (wC (.int 0)) (zy fJ (eG (zk 0) (wC (.int 0))) (zk 1)))
  (bZ (zk 2)))) aX)
  (zz (zC (zo 3) (zy dW (zy bY (eG (zk 0) (wC (.int 1))) (wC (.int 69623))) (wC (.int 2147483647))))
  (zz (eK 0 (wC (.int 1)) (zy aU (zy dW (zy aU (zy bY (zk 3) (wC (.int 48271))) (wC (.int 30103))) (wC (.int 2147483629))) (wC (.int 1))))
  (bZ (zy dW (zy fJ (zy aU (zy bY (zk 3) (wC (.int 2147483647))) (eG (zk 0) (wC (.int 1)))) (wC (.int 8191))) (zk 1))))))
def jU:WS:=zz (eI (dE (aS dD (eX (zk 1) (some (zk 2)) (some (zy aU (zk 2) (wB aV (zl (zk 5) zm))))) (eX (zk 5) none (some (zy fZ (wB aV (zl (zk 1) zm)) (zk 2))))) (aS yQ (zy aU (zk 2) (wB aV (zl (zk 5) zm))) (zk 3))) (wExpr (bP 4 (cK (zl (zk 5) (zl (zy aU (zk 2) (wB aV (zl (zk 5) zm))) zm))))) aX)
  (eI (dE (aS uR (zk 2) (wB aV (zl (zk 5) zm))) (aS dD (eX (zk 1) (some (zy fZ (zk 2) (wB aV (zl (zk 5) zm)))) (some (zk 2))) (zk 5))) (wExpr (bP 4 (cK (zl (zk 5) (zl (zy fZ (zk 2) (wB aV (zl (zk 5) zm))) zm))))) aX)
def nG:=uS jU.eq_1
def rA:WF:=gH 4 6 [0,1,2,3]
 (zz (zC (zo 4) (cR zm))
  (zz (dU (cM (zk 0)) (zo 5) jU)
  (bZ (zk 4))))
def gU:WS:=eI (dE (aS dD (zk 12) (zk 9)) (aS cW (cK (zl (zy aU (zk 8) (wB aV (zl (zk 11) zm))) (zl (zk 13) zm))) (zk 6))) (wExpr (bP 6 (cK (zl (zy aU (zk 8) (wB aV (zl (zk 11) zm))) (zl (zk 13) zm))))) aX
def gZ:=uS gU.eq_1
def gT:WS:=eI (aS dD (eX (zk 3) (some (zk 8)) (some (zy aU (zk 8) (wB aV (zl (zk 11) zm))))) (zk 11)) (dU (cM (eG (zk 2) (zk 10))) (cE [zo 12,zo 13]) gU) aX
def jW:=uS gT.eq_1
def gR:WS:=zz (zC (cE [zo 8,zo 9]) (eG (zk 6) (zk 7)))
  (zz (dU (iC (zk 1)) (cE [zo 10,zo 11]) gT)
  (zC (zo 7) (zy aU (zk 7) (wC (.int 1)))))
def mZ:=uS gR.eq_1
def jO:WB:=bU 14 (cK (zl (zk 5) (zl (zk 16) zm)))
def mX:=uB jO.eq_1
def jP:WS:=zz (zC (zo 6) (cR (zl (cK (zl (wC (.int 0)) (zl (zk 5) zm))) zm)))
  (zz (zC (zo 7) (wC (.int 0)))
  (zz (gW (aS uI (zk 7) (wB aV (zl (zk 6) zm))) gR)
  (wExpr (fB 4 (wB bQ (zl (jV 14 2 (cM (zk 6)) (cE [zo 15,zo 16]) (aS dD (zk 15) (wB aV (zl (zk 3) zm))) jO) zm))))))
def mY:=uS jP.eq_1
def pV:WF:=gH 4 14 [0,1,2,3]
 (zz (zC (zo 4) (cR zm))
  (zz (dU (bJ (zk 0)) (zo 5) jP)
  (bZ (wB cH (zl (zk 4) zm)))))
def iT:WB:=mE 3 (cK (zl (zk 4) (zl (zk 6) zm)))
def rH:=uB iT.eq_1
def iS:WB:=kQ (cM (gG (zk 2) (zk 5) (cR zm))) (zo 6) dJ iT
def rG:=uB iS.eq_1
def yY:WF:=gH 2 3 [0,1]
 (zz (zC (zo 2) (fY (zA yZ [true] (zl (zk 1) zm))))
  (bZ (wB cH (zl (wB bQ (zl (zQ (.set []) 3 3 (cM (zk 0)) (cE [zo 4,zo 5]) dJ iS) zm)) zm))))
def iR:WB:=bU 3 (fY (gY 2 (zA eF [true,true] (zl (zk 0) (zl (wB aV (zl (zk 2) zm)) zm)))))
def rD:=uB iR.eq_1
def yX:WF:=gH 2 3 [0,1]
 (zz (zC (zo 2) (wB iA (zl (wC (.str [97,98,99,100,101,102,103,104,105,106,107,108,109,110,111,112,113,114,115,116,117,118,119,120,121,122])) zm)))
  (bZ (mR dP (wC (.str [])) (zl (wB bQ (zl (jV 3 1 (bJ (zk 1)) (zo 4) dJ iR) zm)) zm))))
def iQ:WB:=bU 4 (eG (zk 1) (zA eF [true,true] (zl (zk 0) (zl (wB aV (zl (zk 1) zm)) zm))))
def rC:=uB iQ.eq_1
def uZ:WF:=gH 3 4 [0,1,2]
 (zz (zC (zo 3) (zy bY (zA eF [true,true] (zl (zk 0) (zl (zy aU (zk 2) (wC (.int 1))) zm))) (wB iJ (zl (iB (aS eJ (zk 1) (wC (.str [])))) zm))))
  (bZ (mR dP (wC (.str [])) (zl (jV 4 1 (bJ (zk 3)) (zo 5) dJ iQ) zm))))
def yW:WF:=gH 3 7 [0,1,2]
 (zz (zC (zo 3) (eG (zk 2) (zA eF [true,true] (zl (zk 0) (zl (wB aV (zl (zk 2) zm)) zm)))))
  (zz (zC (zo 4) (zA eF [true,true] (zl (zk 0) (zl (wC (.int 5)) zm))))
  (zz (zC (zo 5) (eG (zk 1) (zA eF [true,true] (zl (zk 0) (zl (wB aV (zl (zk 1) zm)) zm)))))
  (zz (zC (zo 6) (zA eF [true,true] (zl (zk 0) (zl (wB aV (zl (zk 3) zm)) zm))))
  (bZ (eG (cR (zl (eX (zk 3) none (some (zy aU (zk 6) (wC (.int 1))))) (zl (eX (zk 3) (some (zk 6)) none) (zl (zy aU (zk 5) (zk 3)) (zl (zy aU (zk 3) (zk 5)) (zl (zy aU (zk 3) (zk 3)) zm)))))) (zk 4)))))))
def jS:WB:=bU 11 (zk 12)
def jX:=uB jS.eq_1
def jT:WS:=zz (zC (zo 7) (fY (zA rA [true,true,true,true] (zl (zk 1) (zl (zk 4) (zl (zk 5) (zl (zk 3) zm)))))))
  (zz (eI (aS oV (zk 6) (wC (.int 4))) (zP 7 (zC (zo 7) (jV 11 1 (cM (zk 7)) (zo 12) (aS oV (eG (zk 12) (wC (.int 1))) (zk 5)) jS))) aX)
  (eI (aS eJ (zk 7) (cR zm)) (zz (zC (cE [zo 8,zo 9]) (eG (zk 7) (zA eF [true,true] (zl (zk 0) (zl (wB aV (zl (zk 7) zm)) zm)))))
  (zz (eI (aS oV (zk 9) (zk 5)) (zC (zo 4) (zy aU (zy aU (eX (zk 4) none (some (zk 5))) (zk 8)) (eX (zk 4) (some (zk 9)) none))) aX)
  (zC (zo 5) (zk 9)))) aX))
def nF:=uS jT.eq_1
def pZ:WF:=gH 4 11 [0,1,2,3]
 (zz (zC (cE [zo 4,zo 5]) (cK (zl (wC (.str [])) (zl (wC (.int 0)) zm))))
  (zz (dU (bJ (zy aU (wC (.int 1)) (zA eF [true,true] (zl (zk 0) (zl (wC (.int 9)) zm))))) (zo 6) jT)
  (zz (eI (dE (aS eJ (zk 4) (wC (.str []))) (aS dD (zA eF [true,true] (zl (zk 0) (zl (wC (.int 5)) zm))) (wC (.int 0)))) (zz (zC (zo 10) (zA eF [true,true] (zl (zk 0) (zl (wB aV (zl (zk 4) zm)) zm))))
  (zC (zo 4) (zy aU (zy aU (eX (zk 4) none (some (zk 10))) (eG (zk 2) (zA eF [true,true] (zl (zk 0) (zl (wB aV (zl (zk 2) zm)) zm))))) (eX (zk 4) (some (zy aU (zk 10) (wC (.int 1)))) none)))) aX)
  (bZ (zk 4)))))
def jR:WB:=bU 9 (zA eF [true,true] (zl (zk 0) (zl (zy bY (zk 1) (zk 1)) zm)))
def nC:=uB jR.eq_1
def gV:WB:=bU 9 (cK (zl (zy fJ (zk 10) (zk 1)) (zl (zy dW (zk 10) (zk 1)) zm)))
def nB:=uB gV.eq_1
def eW:WS:=zz (zC (zo 8) (jV 9 1 (bJ (zA eF [true,true] (zl (zk 0) (zl (zy aU (zk 4) (wC (.int 1))) zm)))) (zo 10) dJ jR))
  (zz (eI (dE (lF (zk 5)) (aS eJ (zk 8) (cR zm))) (zz (eK 8 (wC (.int 0)) (zy aU (zy bY (zk 6) (zk 1)) (zy dW (eG (zk 8) (wC (.int 0))) (zk 1))))
  (zC (zo 6) (zy dW (eG (zk 8) (wC (.int 0))) (zk 1)))) aX)
  (wExpr (bP 3 (wB cH (zl (wB bQ (zl (wB jG (zl (jV 9 1 (cM (zk 8)) (zo 10) dJ gV) zm)) zm)) zm)))))
def nE:=uS eW.eq_1
def pX:WF:=gH 3 9 [0,1,2]
 (zz (zC (zo 3) (cR zm))
  (zz (zC (zo 4) (eG (cR (zl (wC (.int 6)) (zl (wC (.int 3)) zm))) (wB iJ (zl (iB (aS dD (wB iI (zl (wB fS (zl (mR dP (wC (.str [])) (zl (zk 2) zm)) zm)) zm)) (wC (.int 1)))) zm))))
  (zz (eI (dE (aS dD (zA eF [true,true] (zl (zk 0) (zl (wC (.int 6)) zm))) (wC (.int 0))) (dE (aS uI (wB aV (zl (mR dP (wC (.str [])) (zl (zk 2) zm)) zm)) (wC (.int 13))) (aS dD (zk 4) (wC (.int 6))))) (zC (zo 4) (wC (.int 12))) aX)
  (zz (zC (zo 5) (iB (aS dD (zA eF [true,true] (zl (zk 0) (zl (wC (.int 3)) zm))) (wC (.int 0)))))
  (zz (zC (zo 6) (wC (.int 0)))
  (zz (dU (cM (zk 2)) (zo 7) eW)
  (bZ (wB cH (zl (zk 3) zm)))))))))
def kZ:WB:=bU 9 (cK (zl (zk 10) (zl (zk 10) zm)))
def rE:=uB kZ.eq_1
def lA:WS:=zz (zC (zo 8) (fY (zA yY [true,true] (zl (gG (zk 4) (zk 5) (cK zm)) (zl (eG (zk 2) (zk 7)) zm)))))
  (lG 4 (zk 6) (wB cH (zl (wB bQ (zl (zy yJ (wB jG (zl (zk 8) zm)) (wB jG (zl (gG (zk 4) (zk 6) (cK zm)) zm))) zm)) zm)))
def rF:=uS lA.eq_1
def vB:WF:=gH 4 9 [0,1,2,3]
 (zz (zC (zo 4) (iU (wC (.int 0)) (wB cH (zl (jV 9 1 (bJ (zk 0)) (zo 10) dJ kZ) zm))))
  (zz (dU (cM (zA zN [true,true] (zl (zk 1) (zl (zk 3) zm)))) (cE [zo 5,zo 6,zo 7]) lA)
  (bZ (gG (zk 4) (wB aV (zl (zk 3) zm)) (cK zm)))))
def kY:WS:=zz (zC (zo 6) (zy aU (eG (zk 1) (zA eF [true,true] (zl (zk 0) (zl (wB aV (zl (zk 1) zm)) zm)))) (zA uZ [true,true,true] (zl (zk 0) (zl (zk 1) (zl (zy fZ (zk 3) (wC (.int 1))) zm))))))
  (zz (eI (dE (aS eJ (zk 4) (cR zm)) (aS dD (zA eF [true,true] (zl (zk 0) (zl (wC (.int 2)) zm))) (wC (.int 0)))) (zC (zo 6) (eX (zA yW [true,true,true] (zl (zk 0) (zl (zk 1) (zl (zk 4) zm)))) none (some (zk 3)))) aX)
  (eI (aS cW (zk 6) (zk 4)) (wExpr (bP 4 (zk 6))) aX))
def rB:=uS kY.eq_1
def yV:WF:=gH 4 7 [0,1,2,3]
 (zz (zC (zo 4) (cR zm))
  (zz (dU (bJ (zy bY (zA eF [true,true] (zl (zk 0) (zl (zy aU (zk 2) (wC (.int 1))) zm))) (wB iJ (zl (iB (aS eJ (zk 1) (wC (.str [])))) zm)))) (zo 5) kY)
  (bZ (wB cH (zl (zk 4) zm)))))
def pY:WF:=gH 4 6 [0,1,2,3]
 (zz (zC (zo 4) (zA eF [true,true] (zl (zk 0) (zl (wC (.int 4)) zm))))
  (zz (eI (aS dD (zk 4) (wC (.int 0))) (bZ (zA uZ [true,true,true] (zl (zk 0) (zl (zk 2) (zl (zk 3) zm))))) aX)
  (zz (zC (zo 5) (fY (zA pZ [true,true,true,true] (zl (zk 0) (zl (zk 1) (zl (zk 2) (zl (zk 3) zm)))))))
  (zz (eI (aS dD (zk 4) (wC (.int 1))) (zC (zo 5) (eX (zy aU (zk 5) (zA uZ [true,true,true] (zl (zk 0) (zl (zk 2) (zl (zk 3) zm))))) none (some (zk 3)))) aX)
  (bZ (zk 5))))))
def jQ:WS:=zC (zo 4) (zy aU (zk 4) (eG (zk 3) (zA eF [true,true] (zl (zk 0) (zl (wB aV (zl (zk 3) zm)) zm)))))
def nA:=uS jQ.eq_1
def pW:WF:=gH 2 6 [0,1]
 (zz (zC (zo 2) (zy aU (wC (.int 1)) (zA eF [true,true] (zl (zk 0) (zl (wC (.int 8)) zm)))))
  (zz (zC (zo 3) (fY (zA yV [true,true,true,true] (zl (zk 0) (zl (zk 1) (zl (wC (.int 6)) (zl (wC (.int 6)) zm)))))))
  (zz (zC (zo 4) (wC (.str [])))
  (zz (dU (bJ (zy bY (zA eF [true,true] (zl (zk 0) (zl (wC (.int 6)) zm))) (wB iJ (zl (iB (aS eJ (zk 3) (cK zm))) zm)))) (zo 5) jQ)
  (zz (zC (zo 4) (eX (zk 4) none (some (wC (.int 12)))))
  (zz (eI (aS dD (zA eF [true,true] (zl (zk 0) (zl (wC (.int 5)) zm))) (wC (.int 0))) (zC (zo 4) (fY (zA pY [true,true,true,true] (zl (zk 0) (zl (zk 3) (zl (zk 1) (zl (wC (.int 12)) zm))))))) aX)
  (zz (eI (aS dD (wB iI (zl (wB fS (zl (mR dP (wC (.str [])) (zl (zk 3) zm)) zm)) zm)) (wC (.int 1))) (zC (zo 4) (eX (zk 4) none (some (wC (.int 6))))) aX)
  (bZ (cK (zl (zk 2) (zl (zk 3) (zl (zA pX [true,true,true] (zl (zk 0) (zl (zk 2) (zl (zk 3) zm)))) (zl (zk 4) zm)))))))))))))
def jN:WS:=eI (eY false (zA vB [true,true,true,true] (zl (zk 9) (zl (zk 10) (zl (zk 11) (zl (zk 12) zm))))) (zk 13)) (bZ (wC (.bl false))) aX
def mW:=uS jN.eq_1
def jK:WB:=bU 16 (zk 17)
def yD:=uB jK.eq_1
def jM:WS:=zz (zC (zo 15) (fY (zA vB [true,true,true,true] (zl (zk 5) (zl (zk 6) (zl (zk 7) (zl (zk 10) zm)))))))
  (eI (aS eJ (jV 16 1 (cM (eG (zk 7) (zk 14))) (zo 17) (aS cW (zk 17) (zk 15)) jK) (cR zm)) (bZ (wC (.bl false))) aX)
def mV:=uS jM.eq_1
def jJ:WB:=bU 16 (cK (zl (zk 17) (zl (zk 17) zm)))
def mT:=uB jJ.eq_1
def jL:WS:=zz (zC (cE [zo 5,zo 6,zo 7,zo 8]) (zA pW [true,true] (zl (zA yC [true,true] (zl (zk 0) (zl (zk 4) zm))) (zl (zk 2) zm))))
  (zz (wExpr (bP 3 (cK (zl (zk 5) (zl (zk 6) (zl (zk 7) (zl (zk 8) (zl (zA pV [true,true,true,true] (zl (zk 5) (zl (zk 6) (zl (zk 7) (zl (zk 8) zm))))) zm))))))))
  (zz (dU (cM (zy aU (eX (zk 3) (some (zO nO (wC (.int 2)))) none) (eX (zk 3) none (some (wC (.int 1)))))) (cE [zo 9,zo 10,zo 11,zo 12,zo 13]) jN)
  (zz (dU (iC (zk 6)) (cE [zo 14,zo 10]) jM)
  (eI (aS eJ (zA vB [true,true,true,true] (zl (zk 5) (zl (zk 6) (zl (zk 7) (zl (wC (.str [])) zm))))) (wB cH (zl (jV 16 1 (bJ (zk 5)) (zo 17) dJ jJ) zm))) (bZ (wC (.bl false))) aX))))
def mU:=uS jL.eq_1
def lC:WF:=gH 1 16 [0]
 (zz (zC (zo 1) (zA yC [true,true] (zl (zk 0) (zl (wC (.int 0)) zm))))
  (zz (zC (zo 2) (zA yX [true,true] (zl (zk 1) (zl (zy aU (wC (.int 1)) (zA eF [true,true] (zl (zk 1) (zl (wC (.int 4)) zm)))) zm))))
  (zz (zC (zo 3) (cR zm))
  (zz (dU (gX (wC (.int 1)) (wB oX (zl (wC (.int 3)) (zl (wB oW (zl (wC (.int 6)) (zl (wB aV (zl (zk 0) zm)) zm))) zm)))) (zo 4) jL)
  (bZ (wC (.bl true)))))))
end Law
end
end
namespace Law
open FL
variable{P:S->List S->Prop}{PX:D->List S->Prop}
set_option hygiene false in
local macro_rules
 |`(tactic|simp! [$xs,*] $[$l:location]?)=>do
  let ls<-("e_C e_V zpq zlq zlB e_Un zoi zoz e_Ck zpe zm9 zk6 zlV zjz zjs zpS zl2 zlQ zoX zmn zoe zmT zj1 zj5 zpI e_gA zqc zn7 e_gv e_gl zqe zps zlu zl4 zn0 zmA zmU e_l0 e_l1 e_l2 e_l3 e_l4 e_l5 e_vv e_vl e_cv e_cl zmL e_sh zas zpr e_Ix zpy zo6 znc zkL zn4 zog zoa znI zpL zp0 zpE zoA zoq zp9 zol e_p0 e_pv e_pl zpV e_pA e_b0 e_bv e_bl zna zkp zjB zlz znw e_vA zoZ e_B e_B1 e_B2 e_MS zo1 zpN e_Ap zov zo8 zpb zpQ zod zmQ zma e_Xt zoH zoE znn zkO e_Di zny znA znU zmt znR e_Pt zqd zo7 e_Sl zp5 zpK zom zpO e_nx e_rt e_ex zmw znY e_If zo9 zpv znJ zl0 zjP zoV zlC zl9 e_gN e_gT znE zoR zoh zn1 zpW zmX zkQ zmv zlT zkH zkt e_Dp zoS znk zpf zpF zpi e_It zqa zoK znF znu zpj e_En zpw znz znK e_R1 zpp zoY e_R2 zpa zoM zpg zpM zk0 e_LC zpd zoJ zlj zph zof zkP zoO e_Em znQ zoT zpo e_bF zp8 znp zo3 e_Rt znP zoo e_Fn e_f0 e_fs e_fl e_fA zow zmo zmK zoI zll znH zlx zos zno e_lt e_gt e_le e_ge zp6 zmx zp7 zqb zkN zmD zk7 zkK zlf zm6 zoG znB zo0 zpX zoy zo5 zoU znT zpz znr zpt zot zpl zob zoD zpB zn3 zpU zp4 zpA zn5 znS znX zpC zoN zou zpZ zpx zpY zns zo4 znm znq zpT zpP znt znV zo2 zp2 zon zn8 zk4 zln zmp zk1 zm2 zlH zlJ znb zlN zle zkT zkV zly zm5 zk5 zmB zl1 zlk zmS zoW zpk zmN zoP zm0 zlF zp3 zmy zms e_Ge znD ziG zoQ zoB zn2 zls zlU znx e_Re zpm zpH znN zor zm8 e_CM zoc e_Ad zoj zoL zn9 zne zmh zkR zpD znv e_SA znZ zn6 znO zok zpJ zhx zk3 zlp zmc zlP zl8 zlw map_some S.toD_sh S.toD_lst qy map_nil qO nil_append List.replicate_succ List.replicate_zero Nat.reduceSub Nat.reduceAdd qz List.take_succ_cons List.take_zero true_and S.toDs_map S.toD_dct Int.reduceEq Int.reduceLT Int.reduceLE decide_true decide_false Bool.not_true Bool.not_false".splitOn " ").toArray.mapM λn=>`(Lean.Parser.Tactic.simpLemma|$(Lean.mkIdent n.toName):ident)
  let ls:=ls++xs.getElems
  `(tactic|simp -implicitDefEqProofs (disch:=first|omega|decide|rfl|(simp only[qo,qq,qt,qv,qD,cQ];omega)|(simp only[qo,qq,qt,qv,qD,cQ];done)) only[$ls,*] $[$l:location]?)
noncomputable section pu
def aF(a s:Int):S:=.lst [.sh (.int a),.sh (.int s)]
def Be{a s m:Int}(B:0<=a)(hs:1<=s)(v:s<=2147483629)(z:0<m)(G:m<18446744073709551616)
  (h:∀r F s',0<=r->r<m->0<=F->1<=s'->s'<=2147483629->P (.sh (.int r)) [aF F s',.sh (.int m)]):eF [aF a s,.sh (.int m)] P PX:=by
 show Cn rfl rfl ?_;simp! [aF];cases J:decide (0<a)
 .simp! [e_C];show h _ _ _ (emod_nonneg _ ∅) (emod_lt_of_pos _ z) B ∅ ∅
 .simp! [e_C];show h _ _ _ (emod_nonneg _ ∅) (emod_lt_of_pos _ z) (Int.ediv_nonneg B ∅) hs v
def Mu{ns:List Int}{k:Int}(L:0<=k)
  (h:∀a s,0<=a->1<=s->s<=2147483629->P (aF a s) [.sh (.lst (ns.map .int)),.sh (.int k)]):yC [.sh (.lst (ns.map .int)),.sh (.int k)] P PX:=by
 show Cn rfl rfl ?_;simp! [length_map];by_cases h1:k<ns.length
 .obtain⟨v,J,_,e⟩:=Hg (f:=D.int) L h1;simp! [length_map,h1,decide_true,e];cases F:decide ((10:Int)^(18:Int).toNat<=v)
  .simp! [if_true,false_eq_true,if_false];show h _ _ ⋯ ∅ ∅
  .simp! [if_true];let:(0:Int)<=v:=by
    let:=qU F;let e:(10:Int)^(18:Int).toNat=1000000000000000000:=⋯
    lia
   show h _ _ this ∅ ∅
 .by_cases h2:0<ns.length
  .have G:(0:Int)<ns.length:=by lia
   let#[v,J,_,e]:=Hg (f:=D.int) (l:=ns) (z:=k %ns.length) (emod_nonneg _ ∅) (emod_lt_of_pos _ G);simp! [length_map,h1,G,decide_true,decide_false,e];generalize 7919*k+11+v %2147483629*69623=B;cases F:decide ((10:Int)^(18:Int).toNat<=B)
   .simp! [if_true,false_eq_true,if_false];show h _ _ ⋯ ∅ ∅
   .simp! [if_true];let:(0:Int)<=B:=by
     let:=qU F;let e:(10:Int)^(18:Int).toNat=1000000000000000000:=⋯
     lia
    show h _ _ this ∅ ∅
  .have G:¬(0:Int)<ns.length:=by lia
   simp! [length_map,h1,G,decide_true,decide_false];generalize 7919*k+11=B;cases F:decide ((10:Int)^(18:Int).toNat<=B)
   .simp! [if_true,false_eq_true,if_false];show h _ _ ⋯ ∅ ∅
   .simp! [if_true];let:(0:Int)<=B:=by
     let:=qU F;let e:(10:Int)^(18:Int).toNat=1000000000000000000:=⋯
     lia
    show h _ _ this ∅ ∅
def RB{l:List D}(h:(cP l).isSome=true)(v:l.length<64):cC l=some (.lst ((eB l).map .sh)):=by unfold cC;rw[q4 (.inl #[v,.inr h])]
def To{A:List Nat}(h:A.length<64):∃v:List Nat,v.Perm A/\v.Pairwise (·<=·)/\cC (A.map sg)=some (.lst ((v.map sg).map .sh)):=by
 let e:A.map sg=(A.map λc=>[c]).map D.str:=by rw[qE];rfl
 let#[v,F,B]:=PP (Hs (A.map sg));show#[v,F,?_,?_]
 .let z:=Kh Jh (A.map sg) (by rw[e];show Mn _);rw[B,pairwise_map]at z;show z.imp λ{a b} h=>?_;let h':(!decide (([b]:List Nat)<[a]))=true:=by rw[<-MA];exact h
  let h2:¬([b]:List Nat)<[a]:=↑h'
  rw[OL]at h2;lia
 .rw[RB (by rw[LD];rfl) ↑h,B]
def letters:List Nat:=[97,98,99,100,101,102,103,104,105,106,107,108,109,110,111,112,113,114,115,116,117,118,119,120,121,122]
def RG{Q:Env->Prop}{E:WX}{m:Int}:∀(xs:List D)(a s:Int)(L A:List Nat)(o:Option S),xs.length<=L.length->0<=a->1<=s->s<=2147483629->(A++L).Perm letters->
  (∀O s'(Y M:List Nat) o',0<=O->1<=s'->s'<=2147483629->M.length=A.length+xs.length->(M++Y).Perm letters->Q [some (aF O s'),some (.sh (.int m)),some (.lst ((Y.map sg).map .sh)),some (.lst ((M.map sg).map .sh)),o'])->
  aL (zo 4) dJ iR xs [some (aF a s),some (.sh (.int m)),some (.lst ((L.map sg).map .sh)),some (.lst ((A.map sg).map .sh)),o] Q E:=by
 intro xs;induction xs with
 |nil=>intro a s L A o h1 ha hs z v h;show h a s L A o ha hs z (by simp) v
 |cons x xs ih=>
  intro a s L A o h1 ha hs z v h;let J:=v.length_eq;let h6:letters.length=26:=rfl;simp only[qt,qq]at h1 h J;rw[wX];simp! [rD,e_sh,zas,aF,length_map];show Be ha hs z ?_ ?_ λr O s' hr h3 h5 h2 G=>?_
  .lia
  .lia
  simp! [e_sh,zas,aF,length_map];let#[c,hc,hg,_]:=GU (l:=L) hr h3;show Qs hr (by simp only[qo,cQ];lia) (UP (d:=sg c) (by rw[qF,hg];rfl)) ?_;simp! [e_sh,zas,aF,length_map];show#[by simp only[cQ];lia,?_];let e1:((L.map sg).map S.sh).eraseIdx r.toNat=((L.eraseIdx r.toNat).map sg).map S.sh:=by rw[JI,JI]
  let e2:((A.map sg).map S.sh)++[S.sh (sg c)]=(((A++[c]).map sg).map S.sh):=by simp
  rw[e1,e2];let F:r.toNat<L.length:=∅
  let hl:(L.eraseIdx r.toNat).length=L.length-1:=List.length_eraseIdx_of_lt F;let h4:L[r.toNat]=c:=by rw[qh F]at hg;show qf hg
  let B:(A++[c]++L.eraseIdx r.toNat).Perm (A++L):=by rw[qp];show List.Perm.append_left A ?_;let:=NV L r.toNat F;rw[h4]at this;show this
  show ih O s' _ _ _ ∅ h5 h2 G (B.trans v) λa2 s2 Y M o' x1 x2 x3 x4 x5=>h a2 s2 Y M o' x1 x2 x3 (by rw[x4];simp only[qq,qB];lia) x5
def Vs{a s m:Int}(ha:0<=a)(hs:1<=s)(J:s<=2147483629)(hm:0<=m)(h3:m<=26)
  (h:∀(l:List Nat) F s',l.length=m.toNat->l.Pairwise (·<·)->(∀c∈l,97<=c/\c<=122)->0<=F->1<=s'->s'<=2147483629->P (.sh (.str l)) [aF F s',.sh (.int m)]):yX [aF a s,.sh (.int m)] P PX:=by
 refine Cn rfl rfl ?_;simp! [aF,e_sh,zas];show#[by simp only[cQ];lia,?_];let hf:(fromTo 0 m.toNat).length=m.toNat:=Gc;let h2:letters.length=26:=rfl;refine RG (fromTo 0 m.toNat) a s letters [] none (by rw[hf,h2];lia) ha hs J (List.Perm.refl _)
  λF s' L' A' o' h1 L v hA z=>?_
 rw[hf,qv,zero_add]at hA;let O:A'.Nodup:=(qw.mp (z.nodup_iff.mpr ⋯)).1;let Y:∀c∈A',97<=c/\c<=122:=λc hc=>by
  let:c∈letters:=z.mem_iff.mp (qj _ hc);let B:∀c∈letters,97<=c/\c<=122:=⋯
  show B c this
 let#[A2,M,G,e]:=To (A:=A') ∅;let hl:A2.length=m.toNat:=M.length_eq.trans hA;simp! [aF,e_sh,zas,e,Lr (show A2.length<=big by simp only[cQ];lia)];show h A2 F s' hl (TH G (M.nodup_iff.mpr O)) (λc hc=>Y c (M.mem_iff.mp hc)) h1 L v
def Uj{Q:Env->Prop}{E:WX}{m many:Int}{v:List Nat}(hc:0<v.length)(h4:v.length<=26):∀(xs:List D)(a s:Int)(A:List Nat)(o:Option S),0<=a->1<=s->s<=2147483629->A.length+xs.length<=1000->
  (∀J s'(G:List Nat) o',0<=J->1<=s'->s'<=2147483629->G.length=A.length+xs.length->(∀z∈G,z∈A\/z∈v)->Q [some (aF J s'),some (.sh (.str v)),some (.sh (.int m)),some (.sh (.int many)),some (.lst ((G.map sg).map .sh)),o'])->
  aL (zo 5) dJ iQ xs [some (aF a s),some (.sh (.str v)),some (.sh (.int m)),some (.sh (.int many)),some (.lst ((A.map sg).map .sh)),o] Q E:=by
 intro xs;induction xs with
 |nil=>intro a s A o ha O B h3 h;show h a s A o ha O B (by simp) λz L=>.inl L
 |cons x xs ih=>
  intro a s A o ha O B h3 h;simp only[qt]at h3 h;rw[wX];simp! [rC,e_sh,zas,aF,length_map];show Be ha O B ∅ ∅ λr J s' hr Y h2 M F=>?_;let#[c,h1,_,e]:=GU (l:=v) hr Y;simp! [e,e_sh,zas,aF,length_map];show#[by simp only[cQ];lia,?_];let e2:((A.map sg).map S.sh)++[S.sh (.str [c])]=(((A++[c]).map sg).map S.sh):=by simp[sg]
  rw[e2];show ih J s' _ _ h2 M F (by simp only[qq,qB];lia) λa2 s2 G o' x1 x2 x3 x4 x5=>h a2 s2 G o' x1 x2 x3 (by rw[x4];simp only[qq,qB];lia) λz L=>?_;rcases x5 z L with q|q
  .rcases qx.mp q with q|q
   .show .inl q
   .rw[qu.mp q];show .inr h1
  .show .inr q
def JJ{a s m:Int}{v:List Nat}(ha:0<=a)(hs:1<=s)(J:s<=2147483629)(hm:0<=m)(h4:m<=900)(hc:0<v.length)(Y:v.length<=26)
  (h:∀(l:List Nat) G s',l.length<=m.toNat->(∀z∈l,z∈v)->0<=G->1<=s'->s'<=2147483629->P (.sh (.str l)) [aF G s',.sh (.str v),.sh (.int m)]):uZ [aF a s,.sh (.str v),.sh (.int m)] P PX:=by
 show Cn rfl rfl ?_;simp! [aF,e_sh,zas];show Be ha hs J ∅ ∅ λr a1 s1 hr h3 h1 L B=>?_;let O:(decide (v=[]))=false:=by simp;intro z;rw[z]at hc;simp at hc
 simp! [aF,e_sh,zas,O,Bool.not_false,if_true,mul_one];show#[by simp only[cQ];lia,?_];let hf:(fromTo 0 r.toNat).length=r.toNat:=Gc;show Uj (A:=[]) hc Y _ a1 s1 none h1 L B (by rw[hf];simp only[qv];lia) λG s' A' o' h2 M F hA hg=>?_;rw[hf,qv,zero_add]at hA;simp! [aF,e_sh,zas];rw[Lr (by simp only[cQ];lia)];simp! [aF,e_sh,zas];show h A' G s' ∅ (λz hz=>(hg z hz).resolve_left (by simp)) h2 M F
def SX{a s:Int}{F:List Nat}{B:List Wd}(ha:0<=a)(hs:1<=s)(O:s<=2147483629)(hc:0<F.length)(hq:F.length<=26)(hB:0<B.length)(r1:B.length<=1000)(hw:∀w∈B,w≠[]/\w.length<=1000/\∀c∈w,c∈F)
  (h:∀(w:Wd) a' s',w≠[]->w.length<=2000->(∀c∈w,c∈F)->0<=a'->1<=s'->s'<=2147483629->P (.sh (.str w)) [aF a' s',.sh (.str F),.lst ((B.map D.str).map .sh)]):yW [aF a s,.sh (.str F),.lst ((B.map D.str).map .sh)] P PX:=by
 show Cn rfl rfl ?_;simp! [aF,e_sh,zas,length_map];show Be ha hs O ∅ ∅ λr a1 s1 hr e1 hp h8 h3=>?_;let#[w,h6,_,e]:=Hg (f:=λz=>S.sh (D.str z)) (l:=B) hr e1;let e':atI ((B.map D.str).map S.sh) r=some (S.sh (.str w)):=by rw[qE];show e
 let#[Y,hb,J]:=hw w h6;let hi:0<w.length:=qP.mpr Y;simp! [aF,e'];show Be hp h8 h3 ⋯ ⋯ λkd a2 s2 hm hd hk O h2=>?_;simp! [aF];show Be hk O h2 ∅ ∅ λr3 a3 s3 h9 h4 e4 h7 h1=>?_;let#[c,h5,_,ec]:=GU (l:=F) h9 h4;simp! [aF,ec];show Be e4 h7 h1 ∅ ∅ λp a4 s4 e2 hl M L v=>?_;simp! [aF];rw[LR w ∅ ∅,Nz w e2];let e3:kd=0\/kd=1\/kd=2\/kd=3\/kd=4:=∅
 rcases e3 with rfl|rfl|rfl|rfl|rfl
 .simp! [aF];refine h _ _ _ ?_ ?_ (λc hc=>J c (mem_of_mem_take hc)) M L v
  .intro z;let:=congrArg List.length z;rw[qH,qv]at this;lia
  .rw[qH];lia
 .simp! [aF];refine h _ _ _ ?_ ?_ (λc hc=>J c (List.mem_of_mem_drop hc)) M L v
  .intro z;let:=congrArg List.length z;rw[qG,qv]at this;lia
  .rw[qG];lia
 .simp! [aF];show h _ _ _ (by simp) (by simp;lia) (λx G=>?_) M L v;rcases qA.mp G with rfl|G
  .show h5
  .show J x G
 .simp! [aF];show h _ _ _ (by simp) (by simp;lia) (λx G=>?_) M L v;rcases qx.mp G with G|G
  .show J x G
  .rw[qu.mp G];show h5
 .simp! [aF];show h _ _ _ (by simp[Y]) (by simp;lia) (λx G=>?_) M L v;rcases qx.mp G with G|G<;>show J x G
def lZ(z:List Nat)(many v:Nat)(B:List Wd):Prop:=B.length<=many/\B.Nodup/\∀w∈B,w≠[]/\w.length<=v/\∀c∈w,c∈z
def zx(B:List Wd):D:=.tup (B.map D.str)
def UL{a s many v:Int}{G:List Nat}(Y:0<=a)(hs:1<=s)(J:s<=2147483629)(hc:0<G.length)(e2:G.length<=26)(hm:0<=many)(hm2:many<=500)(ho:1<=v)(ho2:v<=500)
  (h:∀(B:List Wd) a' s',lZ G many.toNat v.toNat B->0<=a'->1<=s'->s'<=2147483629->P (.sh (zx B)) [aF a' s',.sh (.str G),.sh (.int many),.sh (.int v)]):yV [aF a s,.sh (.str G),.sh (.int many),.sh (.int v)] P PX:=by
 show Cn rfl rfl ?_;simp! [aF];show Be Y hs J ∅ ∅ λr a1 s1 hr hr2 ha1 hd h8=>?_;let r1:(decide (G=[]))=false:=by simp;intro z;rw[z]at hc;simp at hc
 simp! [aF,r1,if_true,mul_one];show#[by simp only[cQ];lia,?_];show Ob (λk U=>∃(a s:Int)(B:List Wd)(o5 o6:Option S),0<=a/\1<=s/\s<=2147483629/\lZ G k v.toNat B/\U=[some (aF a s),some (.sh (.str G)),some (.sh (.int many)),some (.sh (.int v)),some (.lst ((B.map D.str).map .sh)),o5,o6]) _ (λk x hk D2 U hI e1 hct hrt hbk=>?_) (λU hI=>?_) #[a1,s1,[],none,none,ha1,hd,h8,#[by simp,by simp,by simp],rfl]
 .obtain⟨a,s,B,o5,o6,Y,hs,J,hB,rfl⟩:=hI;let k1:=(qg.mp hk).1;rw[Gc]at k1;let#[hB1,hp,L]:=hB;simp! [aF,rB];show Be Y hs J ∅ ∅ λr3 a2 s2 hq h9 ha2 J h7=>?_;let#[c,k2,_,ec]:=GU (l:=G) hq h9;simp! [aF,ec];refine JJ ha2 J h7 ∅ ∅ hc e2 λw a3 s3 hw1 hi e4 h5 O=>?_
  --what is done with a word
  have put:∀(w:Wd)(a s:Int),0<=a->1<=s->s<=2147483629->w≠[]->w.length<=v.toNat->(∀c∈w,c∈G)->
    (eI (aS cW (zk 6) (zk 4)) (wExpr (bP 4 (zk 6))) aX) D2 [some (aF a s),some (.sh (.str G)),some (.sh (.int many)),some (.sh (.int v)),some (.lst ((B.map D.str).map .sh)),some (.sh x),some (.sh (.str w))]:=λw a s Y hs J h1 h2 h3=>by
   simp! [aF,zas,RS];cases q:decide (w∈B)
   .simp! [length_map];rw[show((B.map D.str).map S.sh)++[S.sh (.str w)]=((B++[w]).map D.str).map S.sh by simp];refine#[by simp only[cQ];lia,e1 _ #[a,s,_,_,_,Y,hs,J,#[by simp only[qq,qB];lia,?_,λx hx=>?_],rfl]]
    .show qw.mpr #[hp,by simp,λx hx y hy e=>?_];rw[qu.mp hy]at e;subst e;let:=of_decide_eq_false q;show this hx
    .rcases qx.mp hx with z|z
     .show L x z
     .rw[qu.mp z];show#[h1,h2,h3]
   .simp! [e_C];show e1 _ #[a,s,B,_,_,Y,hs,J,#[∅,hp,L],rfl]
  have F:([c]++w)≠[]/\([c]++w).length<=v.toNat/\∀x∈[c]++w,x∈G:=by
   show#[by simp,by simp;lia,λx hx=>?_];rcases qx.mp hx with z|z
   .rw[qu.mp z];show k2
   .show hi x z
  simp! [aF,zas,Tf,length_cons,length_nil];cases q:decide (B=[])
  .simp! [aF];show Be e4 h5 O ⋯ ⋯ λr4 a4 s4 hr4 hr42 e3 h4 M=>?_;simp! [aF];cases q2:decide (r4=0)
   .simp! [e_C];let:=put _ a4 s4 e3 h4 M F.1 F.2.1 F.2.2;simp! [aF]at this;show this
   .simp! [aF];show SX e3 h4 M hc e2 (qP.mpr (of_decide_eq_false q)) ∅ (λw hw=>#[(L w hw).1,by let:=(L w hw).2.1;lia,(L w hw).2.2]) λw2 a5 s5 hn hl r2 k3 hb h6=>?_;simp! [aF];let hw2l:0<w2.length:=qP.mpr hn;let:=put (aM w2 none (some v)) a5 s5 k3 hb h6 (λz=>?_) ?_ λc hc=>r2 c (FB hc)
    .simp! [aF]at this;show this
    .let z2:=congrArg List.length z;unfold aM sIx at z2;let:¬v<0:=by lia
     simp only[q5 this,drop_zero,sub_zero,qH,qv]at z2;lia
    .unfold aM sIx;let:¬v<0:=by lia
     simp only[q5 this,drop_zero,sub_zero,qH];lia
  .simp! [e_C];let:=put _ a3 s3 e4 h5 O F.1 F.2.1 F.2.2;simp! [aF]at this;show this
 .obtain⟨a,s,B,o5,o6,Y,hs,J,hB,rfl⟩:=hI;rw[Gc]at hB;simp! [aF,zas];show h B a s #[by let:=hB.1;lia,hB.2] Y hs J
abbrev Mv:=Wd×Int
def fK(m:Mv):D:=.tup [.str m.1,.int m.2]
def Ro(l:List Mv):bC (l.map fK)<=29:=Jr _ λd v=>by let#[m,_,rfl]:=qK.mp v;show 1<=29;decide
def OA{l:List Mv}:eJ (.lst (l.map fK)) (.lst [])=some (!l.isEmpty):=by rw[Py (Ro l),List.isEmpty_map]
def UC{B:List Wd}{t:Wd}{p v:Int}(hB:B.length<=1000)(ht:t.length<=1000)(hp:0<=p)(h7:p<=v)
  (h:∀ms:List Mv,ms.length<=2000->(∀m∈ms,m.1∈B/\0<=m.2/\m.2<=v/\(m.2=p+m.1.length\/m.2<=p))->P (.lst ((ms.map fK).map .sh)) [.sh (zx B),.sh (.str t),.sh (.int p),.sh (.int v)]):rA [.sh (zx B),.sh (.str t),.sh (.int p),.sh (.int v)] P PX:=by
 show Cn rfl rfl ?_;simp! [zx];show DY (λG U=>∃(ms:List Mv)(o:Option S),ms.length<=2*G.length/\(∀m∈ms,m.1∈B/\0<=m.2/\m.2<=v/\(m.2=p+m.1.length\/m.2<=p))/\U=[some (.sh (zx B)),some (.sh (.str t)),some (.sh (.int p)),some (.sh (.int v)),some (.lst ((ms.map fK).map .sh)),o]) B (λG w h3 D2 U e hI h1 h8 h6 h9=>?_) (λU hI=>?_) #[[],none,by simp,by simp,rfl]
 .obtain⟨ms,o,hl,O,rfl⟩:=hI;let h4:G.length+1<=B.length:=by rw[<-e];simp only[qq,qt];lia
  let Y:w∈B:=by rw[<-e];simp
  have snd:∀ms:List Mv,ms.length<=2*G.length+1->(∀m∈ms,m.1∈B/\0<=m.2/\m.2<=v/\(m.2=p+m.1.length\/m.2<=p))->
    (eI (dE (aS uR (zk 2) (wB aV (zl (zk 5) zm))) (aS dD (eX (zk 1) (some (zy fZ (zk 2) (wB aV (zl (zk 5) zm)))) (some (zk 2))) (zk 5))) (wExpr (bP 4 (cK (zl (zk 5) (zl (zy fZ (zk 2) (wB aV (zl (zk 5) zm))) zm))))) aX) D2 [some (.sh (zx B)),some (.sh (.str t)),some (.sh (.int p)),some (.sh (.int v)),some (.lst ((ms.map fK).map .sh)),some (.sh (.str w))]:=λms hl O=>by
   let J:D2.nx [some (.sh (zx B)),some (.sh (.str t)),some (.sh (.int p)),some (.sh (.int v)),some (.lst ((ms.map fK).map .sh)),some (.sh (.str w))]:=h1 _ #[ms,_,by simp only[qq,qB];lia,O,rfl];simp! [zx];cases q1:decide ((w.length:Int)<=p)
   .simp! [e_C];show J
   let h5:=qU q1;simp! [zx];cases q2:decide (aM t (some (p-(w.length:Int))) (some p)=w)
   .simp! [e_C];show J
   simp! [length_map];rw[show((ms.map fK).map S.sh)++[S.sh (.tup [.str w,.int (p-w.length)])]=((ms++[(w,p-w.length)]).map fK).map S.sh by simp[fK]];show#[by simp only[cQ];lia,h1 _ #[_,_,by simp only[qq,qB];lia,λm M=>?_,rfl]];rcases qx.mp M with z|z
   .show O m z
   .rw[qu.mp z];show#[Y,by show 0<=p-w.length;lia,by show p-(w.length:Int)<=v;lia,.inr (by show p-(w.length:Int)<=p;lia)]
  simp! [nG,zx];let F:=snd ms ∅ O;simp! [zx]at F;cases q1:decide (aM t (some p) (some (p+(w.length:Int)))=aM w none (some ((t.length:Int)-p)))
  .simp! [e_C];show F
  simp! [e_C];cases q2:decide (p+(w.length:Int)<=v)
  .simp! [e_C];show F
  have h2:=qU q2;simp! [length_map];rw[show((ms.map fK).map S.sh)++[S.sh (.tup [.str w,.int (p+w.length)])]=((ms++[(w,p+w.length)]).map fK).map S.sh by simp[fK]];show#[by simp only[cQ];lia,?_];let L:=snd (ms++[(w,p+w.length)]) (by simp only[qq,qB];lia) λm M=>by
   rcases qx.mp M with z|z
   .show O m z
   .rw[qu.mp z];show#[Y,by show 0<=p+(w.length:Int);lia,h2,.inl rfl]
  simp! [zx]at L;show L
 .obtain⟨ms,o,hl,O,rfl⟩:=hI;simp! [zx];show h ms ∅ O
def HN{t w:Wd}{p g:Int}(z:0<=p)(v:p<=t.length)(B:g=p+w.length):((aM t none (some p)++w)++aM t (some g) none).length=max g.toNat t.length:=by let#[k,rfl]:=Int.eq_ofNat_of_zero_le z;let F:k<=t.length:=ofNat_le.mp v;rw[<-natCast_add]at B;subst B;rw[LR t z v,Nz t (Int.natCast_nonneg _)];simp only[qq,qH,qG,qW];rw[min_eq_left F,Nat.add_comm,Nat.sub_add_eq_max,Nat.max_comm]
def SQ{a s v:Int}{G:List Nat}{B:List Wd}(ha:0<=a)(hs:1<=s)(L:s<=2147483629)(hc:0<G.length)(hc2:G.length<=26)(hm:0<=v)(hm2:v<=500)(hB:B.length<=1000)(hw:∀w∈B,w.length<=1000/\∀c∈w,c∈G)
  (h:∀(t:Wd) a' s',t.length<=v.toNat->(∀c∈t,c∈G)->0<=a'->1<=s'->s'<=2147483629->P (.sh (.str t)) [aF a' s',.sh (zx B),.sh (.str G),.sh (.int v)]):pZ [aF a s,.sh (zx B),.sh (.str G),.sh (.int v)] P PX:=by
 show Cn rfl rfl ?_;simp! [aF,length_cons,length_nil];show Be ha hs L ⋯ ⋯ λr a1 s1 hr h3 O M F=>?_;simp! [aF];show#[by simp only[cQ];lia,?_];show DY (toD:=λk:Nat=>D.int (0+(k:Int))) (λe4 U=>∃(a s:Int)(t:Wd)(p:Int)(o6 o7 o8 o9 Y:Option S),0<=a/\1<=s/\s<=2147483629/\t.length<=v.toNat/\(∀c∈t,c∈G)/\0<=p/\p<=t.length/\U=[some (aF a s),some (.sh (zx B)),some (.sh (.str G)),some (.sh (.int v)),some (.sh (.str t)),some (.sh (.int p)),o6,o7,o8,o9,Y]) (List.range _) (λe4 k k2 D2 U e hI h5 hct hrt hbk=>?_) (λU hI=>?_) #[a1,s1,[],0,none,none,none,none,none,O,M,F,by simp,by simp,⋯,by simp,rfl]
 .obtain⟨a,s,t,p,o6,o7,o8,o9,Y,ha,hs,L,ht,J,hp,h4,rfl⟩:=hI;simp! [aF,nF];refine UC hB ∅ hp ∅ λms h6 hm=>?_
  --the choice among some moves
  have h2:∀ms:List Mv,ms.length<=2000->(∀m∈ms,m.1∈B/\0<=m.2/\m.2<=v/\(m.2=p+m.1.length\/m.2<=p))->
    (eI (aS eJ (zk 7) (cR zm)) (zz (zC (cE [zo 8,zo 9]) (eG (zk 7) (zA eF [true,true] (zl (zk 0) (zl (wB aV (zl (zk 7) zm)) zm)))))
  (zz (eI (aS oV (zk 9) (zk 5)) (zC (zo 4) (zy aU (zy aU (eX (zk 4) none (some (zk 5))) (zk 8)) (eX (zk 4) (some (zk 9)) none))) aX)
  (zC (zo 5) (zk 9)))) aX) D2 [some (aF a s),some (.sh (zx B)),some (.sh (.str G)),some (.sh (.int v)),some (.sh (.str t)),some (.sh (.int p)),some (.sh (.int (0+(k:Int)))),some (.sh (.lst (ms.map fK))),o8,o9,Y]:=λms h6 hm=>by
   simp! [aF,OA];cases q:ms.isEmpty
   .simp! [aF,length_map];let e1:0<ms.length:=by
     cases ms with
     |nil=>cases q
     |cons _ _=>simp
    show Be ha hs L ∅ ∅ λr a1 s1 hr h3 O M F=>?_;let#[m,h1,_,em]:=Hg (f:=fK) hr h3;let#[hd,e3,hg1,hg2]:=hm m h1;let#[hw1,hx]:=hw m.1 hd;simp! [aF,em,fK,length_cons,length_nil];cases q2:decide (p<m.2)
    .simp! [e_C];let:=of_decide_eq_false q2;show h5 _ #[a1,s1,t,m.2,_,_,_,_,_,O,M,F,ht,J,e3,∅,rfl]
    .have k3:=qU q2;let hq:m.2=p+m.1.length:=by lia
     let e2:=HN hp h4 hq;let l1:(aM t none (some p)).length<=1000:=le_trans (Fz _ _ _) ∅;let l2:(aM t (some m.2) none).length<=1000:=le_trans (Fz _ _ _) ∅;simp! [length_append];show h5 _ #[a1,s1,(aM t none (some p)++m.1)++aM t (some m.2) none,m.2,_,_,_,_,_,O,M,F,by rw[e2];lia,λc hc=>?_,e3,by rw[e2];lia,rfl];rcases qx.mp hc with z|z
     .rcases qx.mp z with z|z
      .show J c (FB z)
      .show hx c z
     .show J c (FB z)
   .simp! [e_C];show h5 _ #[a,s,t,p,_,_,_,_,_,ha,hs,L,ht,J,hp,h4,rfl]
  simp! [aF,zas];cases q:decide ((4:Int)<0+(k:Int))
  .simp! [e_C];let:=h2 ms h6 hm;simp! [aF]at this;show this
  .simp! [e_C];refine KF (n:=11) (toD:=fK) ms (λm=>if decide (p<m.2)=true then some (.sh (fK m))else none) (λm h1 l o K hl hK=>?_) λo=>?_
   .cases q3:decide (p<m.2)
    .simp! [dZ,yB,jX,fK,q3];rw[q3]at hK;let:=hK (some (.sh (fK m)));rw[q5 ⋯,toList_none,qz]at this;show this
    .simp! [dZ,mM,jX,fK,q3];rw[q3]at hK;show#[by simp only[cQ];lia,hK _]
   .rw[KU (λm:Mv=>decide (p<m.2)) (λm=>S.sh (fK m)),show((ms.filter λm:Mv=>decide (p<m.2)).map λm=>S.sh (fK m))=((ms.filter λm:Mv=>decide (p<m.2)).map fK).map S.sh by rw[qE];rfl];simp! [zas];let:=h2 (ms.filter λm:Mv=>decide (p<m.2)) (le_trans (length_filter_le _ _) h6) λm h1=>hm m (mem_filter.mp h1).1;simp! [aF]at this;show this
 .obtain⟨a,s,t,p,o6,o7,o8,o9,Y,ha,hs,L,ht,J,hp,h4,rfl⟩:=hI;simp! [aF];cases q:decide (t=[])
  .have e1:0<t.length:=qP.mpr (of_decide_eq_false q);simp! [aF];show Be ha hs L ⋯ ⋯ λr a1 s1 hr h3 O M F=>?_;simp! [aF];cases q2:decide (r=0)
   .simp! [e_C];show h t a1 s1 ht J O M F
   .simp! [aF];show Be O M F ∅ ∅ λx a2 s2 hk hx1 k1 L h8=>?_;simp! [aF];show Be k1 L h8 ∅ ∅ λr3 a3 s3 hb h9 r2 hi h7=>?_;let#[c,r1,_,ec]:=GU (l:=G) hb h9;let l1:(aM t none (some x)).length<=1000:=le_trans (Fz _ _ _) ∅;let l2:(aM t (some (x+1)) none).length<=1000:=le_trans (Fz _ _ _) ∅;let l3:=HN (t:=t) (w:=[c]) (p:=x) (g:=x+1) hk ∅ (by simp);simp! [aF,ec,length_append,length_cons,length_nil];show h _ a3 s3 (by rw[l3];lia) (λy hy=>?_) r2 hi h7;rcases qx.mp hy with z|z
    .rcases qx.mp z with z|z
     .show J y (FB z)
     .rw[qu.mp z];show r1
    .show J y (FB z)
  .simp! [e_C];show h t a s ht J ha hs L
def Uw{B:List Wd}{w:Wd}{l:List Tr}(F:(aZ B w).Perm l)(J:l.length<128):cC (l.map iO)=some (.lst (((aZ B w).map iO).map .sh)):=by
 let e:∀l:List Tr,l.map iO=(l.map vE).map tI:=λl=>by rw[qE];rfl
 let v:∀d∈l.map iO,eP [false,false,false] d:=λd G=>by let#[t,_,rfl]:=qK.mp G;trivial
 unfold cC;rw[q4 (.inr #[by rw[qo];lia,.inr #[[false,false,false],(λz=>nomatch z),v]]),GC (GT _) (m:=(aZ B w).map iO) v (F.map _)];show pairwise_map.mpr (zcX.imp λ{t u} h=>?_);show dQ (tI (vE t)) (tI (vE u))=true;rw[Pt];grind[vE,cons_lt_cons_iff]
structure mP(B:List Wd)(w:Wd):Prop where
 nd:B.Nodup
 ne:∀x∈B,x≠[]
 le:∀x∈B,x.length<=1000
 six:B.length<=7
 tw:w.length<=12
def Qz{B:List Wd}{w:Wd}(v:mP B w):((List.range w.length).flatMap (dM B w)).length<128:=by
 have G:=v.six;let F:=v.tw;let:∀l:List Nat,(l.flatMap (dM B w)).length<=l.length*7:=λl=>by
  induction l with
  |nil=>simp
  |cons a l z=>
   let h1:(dM B w a).length<=B.length:=by unfold dM;show le_trans (List.length_filterMap_le _ _) (by simp)
   rw[flatMap_cons,qq,qt];lia
 let h:=this (List.range w.length);rw[qD]at h;lia
def Vv{B:List Wd}{w:Wd}(F:mP B w)
  (h:P (.lst (((aZ B w).map iO).map .sh)) [.sh (zx B),.sh (.str w)]):zN [.sh (zx B),.sh (.str w)] P PX:=by
 let h1:=F.tw;let h6:=F.six;let z:=Qz F;let M:(List.range w.length).flatMap (λi=>(dM B w i).map λt=>S.sh (iO t))=(((List.range w.length).flatMap (dM B w)).map iO).map S.sh:=by simp[List.map_flatMap,Function.comp_def]
 show Cn rfl rfl ?_;simp! [e_C];show#[by simp only[cQ];lia,?_];rw[Dy rfl];show bf (n:=2) (k:=3) (List.range w.length) (λi=>(dM B w i).map λt=>S.sh (iO t)) (λi hi l Y K J hl hK=>?_) (λY J=>?_)
 .obtain⟨a,b,c,rfl⟩:=FM J;rw[M,qo,qo,qo]at hl;simp! [dZ,mM,rK,zx,JY];refine Vz (λl o o'=>[some (.sh (zx B)),some (.sh (.str w)),some (.lst l),some (.sh (.int (i:Int))),o,o']) (List.range B.length) (λk=>if decide (dX w i (i+((B[k]?).getD []).length)=(B[k]?).getD [])=true then some (S.sh (iO (i,i+((B[k]?).getD []).length,k)))else none) (λk hk l2 o o' K2 v G=>?_) λo o'=>?_
  .let L:(List.range B.length).filterMap (λk=>if decide (dX w i (i+((B[k]?).getD []).length)=(B[k]?).getD [])=true then some (S.sh (iO (i,i+((B[k]?).getD []).length,k)))else none)=(dM B w i).map λt=>S.sh (iO t):=by unfold dM;rw[List.map_filterMap];show Jx λx _=>?_;split<;>rfl
   rw[L,qo]at v;let O:aM w (some (i:Int)) (some ((i:Int)+((((B[k]?).getD []).length:Nat):Int)))=dX w i (i+((B[k]?).getD []).length):=by rw[<-natCast_add];show LN w _ _
   cases q:decide (dX w i (i+((B[k]?).getD []).length)=(B[k]?).getD [])
   .simp! [dZ,zx,length_cons,length_nil,O,q,yB];let:=G (some (.sh (.int (k:Int)))) (some (.sh (.str ((B[k]?).getD []))));rw[q,q5 ⋯,toList_none,qz]at this;show this
   .simp! [dZ,zx,length_cons,length_nil,O,q,mM,rL];let:=G (some (.sh (.int (k:Int)))) (some (.sh (.str ((B[k]?).getD []))));rw[q,q4 rfl,toList_some]at this v;simp only[qB]at v;show#[by simp only[cQ];lia,?_];rw[dy,natCast_add]at this;show this
  .let L:(List.range B.length).filterMap (λk=>if decide (dX w i (i+((B[k]?).getD []).length)=(B[k]?).getD [])=true then some (S.sh (iO (i,i+((B[k]?).getD []).length,k)))else none)=(dM B w i).map λt=>S.sh (iO t):=by unfold dM;rw[List.map_filterMap];show Jx λx _=>?_;split<;>rfl
   rw[L];show hK _ rfl
 .obtain⟨a,b,c,rfl⟩:=FM J;rw[M];simp! [zas,Uw (SC F.nd F.ne) z];show h
def Ud{a s:Int}{F:List Nat}{B:List Wd}(ha:0<=a)(hs:1<=s)(h4:s<=2147483629)(hc:0<F.length)(M:F.length<=26)(hB:B.length<=1000)(hw:∀w∈B,w.length<=1000/\∀c∈w,c∈F)
  (h:∀(t:Wd) a' s',t.length<=12->(∀c∈t,c∈F)->0<=a'->1<=s'->s'<=2147483629->P (.sh (.str t)) [aF a' s',.sh (zx B),.sh (.str F),.sh (.int 12)]):pY [aF a s,.sh (zx B),.sh (.str F),.sh (.int 12)] P PX:=by
 show Cn rfl rfl ?_;simp! [aF,length_cons,length_nil];show Be ha hs h4 ∅ ∅ λr a1 s1 hr h6 h2 h1 J=>?_;simp! [aF];cases q:decide (r=0)
 .simp! [e_C];show SQ h2 h1 J hc M ⋯ ⋯ hB hw λt a2 s2 ht O G z v=>?_;let ht:t.length<=12:=by simpa using ht
  simp! [aF,zas];cases q1:decide (r=1)
  .simp! [aF];show h t a2 s2 ht O G z v
  .simp! [aF];show JJ G z v ⋯ ⋯ hc M λl a3 s3 hl L h5 h3 Y=>?_;let hl:l.length<=12:=by simpa using hl
   simp! [aF,zas];show h _ a3 s3 ?_ (λc hc=>?_) h5 h3 Y
   .unfold aM sIx;simp;lia
   .show(qx.mp (FB hc)).elim (O c) (L c)
 .simp! [e_C];show JJ h2 h1 J ⋯ ⋯ hc M λl a2 s2 hl L G z v=>?_;simp! [aF];show h l a2 s2 ↑hl L G z v
def nD(n:Nat):D:=.int (n:Int)
def EX{a b:Nat}(h:nD a=nD b):a=b:=by
 unfold nD at h;injection h with h
 lia
def bL(v:List (Nat×Nat))(k:Nat):List Nat:=(v.filter λt=>decide (t.1=k)).map (·.2)
def IE(v:List (Nat×Nat))(t:Nat×Nat)(k:Nat):bL (v++[t]) k=bL v k++(if t.1=k then[t.2]else[]):=by
 unfold bL;rw[List.filter_append,map_append];congr 1;by_cases h:t.1=k
 .rw[q4 h,List.filter_cons_of_pos (by show qR h)];rfl
 .rw[q5 h,List.filter_cons_of_neg (by rw[qT];show h)];rfl
structure mI(G:List (Nat×List Nat))(pre:List (Nat×Nat)):Prop where
 nd:(G.map (·.1)).Nodup
 val:∀p∈G,p.2=bL pre p.1
 all:∀t∈pre,t.1∈G.map (·.1)
 len:G.length<=pre.length
def dB(G:List (Nat×List Nat)):List D:=G.map λp=>nD p.1
def hX(G:List (Nat×List Nat)):List S:=G.map λp=>S.lst ((p.2.map nD).map S.sh)
def kP(G:List (Nat×List Nat)):List D:=G.map λp=>D.lst (p.2.map nD)
def gS(G:List (Nat×List Nat)):S:=.dct false (dB G) (hX G)
def Qu(G:List (Nat×List Nat)):(gS G).toD=.dct false (dB G) (kP G):=by unfold gS hX kP;rw[S.toD_dct,qE];congr 1;show map_congr_left λp _=>?_;simp[Function.comp_def]
def Pc{G:List (Nat×List Nat)}{k:Nat}:(∃m p,fX (dB G) (nD k)=some m/\G[m]?=some p/\p.1=k)\/(fX (dB G) (nD k)=none/\k∉G.map (·.1)):=by
 unfold fX dB;cases q:(G.map λp=>nD p.1).findIdx? (λx=>open Classical in decide (x=nD k))with
 |some m=>let#[h1,h2,_]:=List.findIdx?_eq_some_iff_getElem.mp q;rw[qo]at h1;show .inl #[m,G[m],rfl,qh h1,?_];rw[getElem_map]at h2;show EX ↑h2
 |none=>show .inr #[rfl,λz=>?_];let#[p,v,rfl]:=qK.mp z;let:=List.findIdx?_eq_none_iff.mp q (nD p.1) (qK.mpr #[p,v,rfl]);simp at this
def Qp{G:List (Nat×List Nat)}{B:List (Nat×Nat)}(h:mI G B)(t:Nat×Nat):∃(G':List (Nat×List Nat))(l':List Nat),mI G' (B++[t])/\l'.length<=B.length/\
  (bB (dB G) (hX G) (nD t.1)).2.1[(bB (dB G) (hX G) (nD t.1)).2.2]?=some (.lst ((l'.map nD).map .sh))/\
  S.dct false (bB (dB G) (hX G) (nD t.1)).1 ((bB (dB G) (hX G) (nD t.1)).2.1.set (bB (dB G) (hX G) (nD t.1)).2.2 (.lst ((l'.map nD).map .sh++[.sh (nD t.2)])))=gS G':=by
 let Y:∀k,(bL B k).length<=B.length:=λk=>by unfold bL;rw[qo];show length_filter_le ..
 rcases Pc (G:=G) (k:=t.1)with⟨m,p,e1,J,e3⟩|⟨e1,J⟩
 .have hm:=(qg.mp J).1;let hp:p∈G:=qM J;let es:bB (dB G) (hX G) (nD t.1)=(dB G,hX G,m):=by unfold bB;rw[e1]
  let L:∀j,j<G.length->(G[j]?.map (·.1))=some t.1->j=m:=λj v z=>by show(List.getElem?_inj (l:=G.map (·.1)) (by rw[qo];show v) h.nd).mp ?_;rw[qF,qF,z,J];show _=some p.1;rw[e3]
  show#[G.set m (p.1,p.2++[t.2]),p.2,#[?_,λq M=>?_,λu h1=>?_,by rw[length_set,qq];let:=h.len;lia],by rw[h.val p hp];show Y _,?_,?_]
  .have:(G.set m (p.1,p.2++[t.2])).map (·.1)=G.map (·.1):=by
    rw[map_set];apply ext_getElem?;intro j;rw[getElem?_set];by_cases v:m=j
    .subst v;rw[q4 rfl,q4 (by rw[qo];show hm),qF,J];rfl
    .rw[q5 v]
   rw[this];show h.nd
  .obtain⟨j,v,rfl⟩:=getElem_of_mem M;rw[length_set]at v;rw[List.getElem_set];by_cases F:m=j
   .rw[q4 F];show p.2++[t.2]=bL (B++[t]) p.1;rw[IE,e3,q4 rfl,h.val p hp,e3]
   .rw[q5 F,IE,q5 λz=>F (L j v (by rw[qh v,z];rfl)).symm,qz];show h.val _ (getElem_mem v)
  .have hk:∀k∈G.map (·.1),k∈(G.set m (p.1,p.2++[t.2])).map (·.1):=λk hk=>by
    let#[q,M,rfl]:=qK.mp hk;let#[j,v,rfl]:=getElem_of_mem M;by_cases F:m=j
    .subst F;show qK.mpr #[(p.1,p.2++[t.2]),List.mem_set v _,?_];rw[qh v]at J;cases J;rfl
    .show qK.mpr #[G[j],?_,rfl];let:(G.set m (p.1,p.2++[t.2]))[j]?=some G[j]:=by rw[getElem?_set_ne F,qh v]
     show qM this
   rcases qx.mp h1 with z|z
   .show hk _ (h.all u z)
   .rw[qu.mp z];show hk _ (qK.mpr #[p,hp,e3])
  .rw[es];show(hX G)[m]?=_;unfold hX;rw[qF,J];rfl
  .rw[es];unfold gS dB hX;show S.dct false (G.map λp=>nD p.1) ((G.map λp=>S.lst ((p.2.map nD).map S.sh)).set m _)=_;congr 1
   .rw[map_set];apply ext_getElem?;intro j;rw[getElem?_set];by_cases v:m=j
    .subst v;rw[q4 rfl,q4 (by rw[qo];show hm),qF,J];rfl
    .rw[q5 v]
   .rw[map_set];congr 2;simp
 .have es:bB (dB G) (hX G) (nD t.1)=(dB G++[nD t.1],hX G++[.lst []],(dB G).length):=by unfold bB;rw[e1]
  let hl:(dB G).length=(hX G).length:=by unfold dB hX;simp
  let O:bL B t.1=[]:=by unfold bL;rw[map_eq_nil_iff,List.filter_eq_nil_iff];intro u L z;rw[qT]at z;show J (z▸h.all u L)
  show#[G++[(t.1,[t.2])],[],#[?_,λq M=>?_,λu L=>?_,by rw[qq,qq];let:=h.len;simp only[qB];lia],zero_le _,?_,?_]
  .rw[map_append];show qw.mpr #[h.nd,by simp,λa ha b hb e=>by rw[qy,map_nil,qu]at hb;let h3:b=t.1:=hb;rw[e,h3]at ha;show J ha]
  .rcases qx.mp M with z|z
   .rw[IE,q5 λy=>J (qK.mpr #[q,z,y.symm]),qz];show h.val q z
   .rw[qu.mp z,IE,q4 rfl,O];rfl
  .rw[map_append];rcases qx.mp L with z|z
   .show qj _ (h.all u z)
   .rw[qu.mp z];show qi _ (by simp)
  .rw[es];show(hX G++[S.lst []])[(dB G).length]?=_;rw[hl,getElem?_append_right (q8 _),sub_self];rfl
  .rw[es];show S.dct false (dB G++[nD t.1]) ((hX G++[S.lst []]).set (dB G).length _)=_;rw[hl,List.set_append_right _ _ (q8 _),sub_self];unfold gS dB hX;rw[map_append,map_append];rfl
def KR{f:Nat->List Nat}{k:Nat}:∀{G:List (Nat×List Nat)},(∀p∈G,p.2=f p.1)->lk (dB G) (kP G) (nD k)=some (.lst ((f k).map nD))\/(lk (dB G) (kP G) (nD k)=none/\k∉G.map (·.1))
 |[],_=>.inr #[rfl,λz=>nomatch z]
 |p::G,h=>by
  let e:lk (dB (p::G)) (kP (p::G)) (nD k)=(open Classical in if nD p.1=nD k then some (D.lst (p.2.map nD))else lk (dB G) (kP G) (nD k)):=rfl;by_cases v:p.1=k
  .left
   rw[e,q4 (by rw[v]),h p qm,v]
  .rw[e,q5 λz=>v (EX z)];rcases KR (G:=G) (f:=f) (k:=k) λq B=>h q (qk _ B)with z|⟨z,y⟩
   .show .inl z
   .show .inr #[z,λw=>?_];rw[qy,qA]at w;rcases w with w|w
    .show v w.symm
    .show y w
def GS:∀{l m:List D},l.Nodup->(∀d∈l,d∈m)->l.length<=m.length
 |[],_,_,_=>zero_le _
 |d::l,m,h,hs=>by
  obtain⟨m1,m2,rfl⟩:=append_of_mem (hs d qm);let#[h1,h2]:=qL.mp h;let:=GS (l:=l) (m:=m1++m2) h2 λe v=>by
   rcases qx.mp (hs e (qk _ v))with z|z
   .show qj _ z
   .rcases qA.mp z with rfl|z
    .show absurd v h1
    .show qi _ z
  simp only[qq,qt]at this⊢;lia
def UH(l:List D)(d:D):aH (l++[d])=cI (aH l) d:=by unfold aH;rw[List.foldl_append];rfl
def fH(m:Nat)(f:Nat->Nat->Bool):List (Nat×Nat):=(List.range m).flatMap λx=>((List.range m).filter (f x)).map λy=>(x,y)
def pN(p:Nat×Nat):D:=.tup [nD p.1,nD p.2]
def tD(m:Nat)(f:Nat->Nat->Bool):List D:=(fH m f).map pN
def Gy{a b:Nat×Nat}(h:pN a=pN b):a=b:=by
 unfold pN at h;injection h with h
 injection h with h1 h2
 injection h2 with h2 _
 show Prod.ext (EX h1) (EX h2)
theorem zat{m:Nat}{f:Nat->Nat->Bool}{p:Nat×Nat}:p∈fH m f↔p.1<m/\p.2<m/\f p.1 p.2=true:=by
 unfold fH;simp only[mem_flatMap,qK,mem_filter,qJ];constructor
 .rintro⟨x,z,y,⟨v,B⟩,rfl⟩;show#[z,v,B]
 .rintro⟨h1,h2,F⟩;show#[p.1,h1,p.2,#[h2,F],rfl]
def Le(m:Nat)(f:Nat->Nat->Bool):(fH m f).Pairwise λp q=>p.1<q.1\/p.1=q.1/\p.2<q.2:=by
 unfold fH;rw[List.pairwise_flatMap];show#[λx _=>?_,pairwise_lt_range.imp λ{a b} h x z y v=>?_]
 .rw[pairwise_map];show(pairwise_lt_range.sublist List.filter_sublist).imp λ{a b} h=>.inr #[rfl,h]
 .obtain⟨_,_,rfl⟩:=qK.mp z;let#[_,_,rfl]:=qK.mp v;show .inl h
def NC{m:Nat}{f g:Nat->Nat->Bool}(h:∀x y,x<m->y<m->f x y=g x y):tD m f=tD m g:=by unfold tD fH;rw[flatMap_def,flatMap_def];show congrArg (λl=>List.map pN (List.flatten l)) (map_congr_left λx z=>?_);rw[List.filter_congr λy v=>h x y (qJ.mp z) (qJ.mp v)]
def Ti(m:Nat)(f:Nat->Nat->Bool):(tD m f).Nodup:=by unfold tD;show pairwise_map.mpr ((Le m f).imp λ{a b} h z=>?_);obtain rfl:=Gy z;lia
def EY(m:Nat)(f:Nat->Nat->Bool):(tD m f).length<=m*m:=by
 unfold tD fH;rw[qo,List.length_flatMap];let:∀l:List Nat,(l.map λx=>(((List.range m).filter (f x)).map λy=>(x,y)).length).sum<=l.length*m:=λl=>by
  induction l with
  |nil=>simp
  |cons x l v=>have h1:=length_filter_le (f x) (List.range m);rw[qD]at h1;rw[qy,sum_cons,qt,succ_mul,qo];lia
 let h:=this (List.range m);rwa[qD]at h
def GN(p:Nat×Nat):eP [false,false] (pN p):=by show True;trivial
def KW{p q:Nat×Nat}(h:p.1<q.1\/p.1=q.1/\p.2<q.2):dQ (pN p) (pN q)=true:=by
 rw[show dQ (pN p) (pN q)=_ from EW (GN p) (GN q)];show(!((match bR (.int q.1) (.int p.1)with|.eq=>(match bR (.int q.2) (.int p.2)with|.eq=>Ordering.eq|o=>o)|o=>o)==.lt))=true;rw[Hf,Hf];by_cases e:(q.1:Int)=p.1
 .rw[q5 ∅,q5 ∅,q5 ∅,q4 ∅];rfl
 .rw[q5 ∅,q4 ∅];rfl
def QF{m:Nat}{f:Nat->Nat->Bool}{l:List (Nat×Nat)}(h:∀p,p∈l↔p∈fH m f):eB (aH (l.map pN))=tD m f:=by
 show GC (GT [false,false]) (λd z=>?_) ?_ ?_
 .obtain⟨p,_,rfl⟩:=qK.mp (zaA.mp z);show GN p
 .show(perm_ext_iff_of_nodup (Ti m f) (Kk _)).mpr λd=>?_;rw[zaA];unfold tD;simp only[qK];show#[λ⟨p,v,e⟩=>#[p,(h p).mpr v,e],λ⟨p,v,e⟩=>#[p,(h p).mp v,e]]
 .unfold tD;show pairwise_map.mpr ((Le m f).imp KW)
def Lv{m:Nat}{l:List (Nat×Nat)}(h:∀p∈l,p.1<m/\p.2<m):(aH (l.map pN)).length<=m*m:=by
 let h1:=GS (l:=aH (l.map pN)) (m:=tD m λ_ _=>true) (Kk _) λd z=>by let#[p,v,rfl]:=qK.mp (zaA.mp z);show qK.mpr #[p,zat.mpr #[(h p v).1,(h p v).2,rfl],rfl]
 show le_trans h1 (EY m _)
def Jd{m:Nat}{f:Nat->Nat->Bool}{l:List (Nat×Nat)}(v:m<=8)(h:∀p,p∈l↔p∈fH m f):bQ [.set (aH (l.map pN))]=some (.lst ((tD m f).map .sh)):=by
 show cC _=_;let h1:=Lv (m:=m) (l:=l) λp F=>by let:=zat.mp ((h p).mp F);show#[this.1,this.2.1]
 let h2:m*m<=8*8:=mul_le_mul v v;unfold cC;let B:∀d∈aH (l.map pN),eP [false,false] d:=λd G=>by let#[p,_,rfl]:=qK.mp (zaA.mp G);show GN p
 rw[q4 (.inr #[∅,.inr #[[false,false],λz=>(nomatch z),B]]),QF h]
def QS{p:Nat×Nat}{l:List (Nat×Nat)}:bX (pN p::aH (l.map pN))=true:=by
 unfold bX;rw[or_eq_true];show .inr (qI.mpr λd v=>?_);rcases qA.mp v with rfl|z
 .rfl
 .obtain⟨j,_,rfl⟩:=qK.mp (zaA.mp z);rfl
def Vd{ps:List (Nat×Nat)}(hl:ps.length<=64)(h:∀G,mI G ps->P (gS G) [.sh (.tup (ps.map pN))]):yZ [.sh (.tup (ps.map pN))] P PX:=by
 show Cn rfl rfl ?_;simp! [e_C];show DY (toD:=pN) (λv U=>∃(G:List (Nat×List Nat))(J F:Option S),mI G v/\U=[some (.sh (.tup (ps.map pN))),some (gS G),J,F]) ps (λv t h2 D2 U e Y L h7 h3 h8=>?_) (λU Y=>?_) #[[],none,none,#[.nil,λ_ z=>(nomatch z),λ_ z=>(nomatch z),q8 _],rfl]
 .obtain⟨G,J,F,B,rfl⟩:=Y;let h4:v.length<=ps.length:=by rw[<-e];simp
  let#[G',l',h1,h5,e1,e2]:=Qp B t;let M:(dB G).Nodup:=by unfold dB;let:=B.nd;rw[show(G.map λp=>nD p.1)=(G.map (·.1)).map nD by rw[qE];rfl];show List.Pairwise.map _ (λa b O z=>O (EX z)) this
  let h6:(dB G).length<=64:=by let:=B.len;unfold dB;rw[qo];lia
  simp! [rJ,pN,length_cons,length_nil,gS];show#[rfl,M,by simp only[cQ];lia,?_];rw[QJ e1];simp! [length_map];show#[by simp only[cQ];lia,?_];rw[e2];show L _ #[G',_,_,h1,rfl]
 .obtain⟨G,J,F,B,rfl⟩:=Y;simp! [e_C];show h G B
def cps(v one:List (Nat×Nat)):List (Nat×Nat):=one.flatMap λp=>(bL v p.2).map λz=>(p.1,z)
theorem zhE{v one:List (Nat×Nat)}{p:Nat×Nat}:p∈cps v one↔∃y,(p.1,y)∈one/\(y,p.2)∈v:=by
 unfold cps bL;simp only[mem_flatMap,qK,mem_filter,qT];constructor
 .rintro⟨q,F,z,⟨r,⟨B,e⟩,rfl⟩,rfl⟩;show#[q.2,F,by rw[<-e];show B]
 .rintro⟨y,h1,h2⟩;show#[(p.1,y),h1,p.2,#[(y,p.2),#[h2,rfl],rfl],rfl]
def Ts{Q:Env->Prop}{E:WX}{G:List (Nat×List Nat)}{m:Nat}{one v:List (Nat×Nat)}{s0 s1 O M B:Option S}(hm:m<=8)(hG:mI G v)(h1:∀p∈one,p.1<m)(h2:∀p∈v,p.2<m)
  (h6:∀O M B,Q [s0,s1,some (.sh (.dct false (dB G) (kP G))),some (.set (aH ((cps v one).map pN))),O,M,B]):
  aL (cE [zo 4,zo 5]) dJ iS (one.map pN) [s0,s1,some (.sh (.dct false (dB G) (kP G))),some (.set []),O,M,B] Q E:=by
 show HV (λF U=>∃O M B,U=[s0,s1,some (.sh (.dct false (dB G) (kP G))),some (.set (aH ((cps v F).map pN))),O,M,B]) one (λF r h7 K U e hI hK=>?_) (λU hI=>?_) #[O,M,B,rfl]
 .obtain⟨O,M,B,rfl⟩:=hI;let hr:r∈one:=by rw[<-e];simp
  let eb:cps v (F++[r])=cps v F++(bL v r.2).map λz=>(r.1,z):=by unfold cps;rw[flatMap_append];simp
  let h4:∀q∈cps v one,q.1<m/\q.2<m:=λq hq=>by let#[y,z1,z2]:=zhE.mp hq;show#[h1 (q.1,y) z1,h2 (y,q.2) z2]
  have L:∀(xs:List Nat)(B:Option S),xs=bL v r.2->aL (zo 6) dJ iT (xs.map nD) [s0,s1,some (.sh (.dct false (dB G) (kP G))),some (.set (aH ((cps v F).map pN))),some (.sh (nD r.1)),some (.sh (nD r.2)),B] K E:=λxs B ex=>by
   show HV (λJ U=>∃B,U=[s0,s1,some (.sh (.dct false (dB G) (kP G))),some (.set (aH ((cps v F++J.map λz=>(r.1,z)).map pN))),some (.sh (nD r.1)),some (.sh (nD r.2)),B]) xs (λJ z h3 K2 U e2 Y h5=>?_) (λU Y=>?_) #[B,by simp]
   .obtain⟨B,rfl⟩:=Y;let hb:=Lv (m:=m) (l:=cps v F++J.map λz=>(r.1,z)) λq hq=>h4 q (by
     rw[<-e];unfold cps;rw[flatMap_append,qx];rcases qx.mp hq with y|y
     .show .inl y
     .show .inr (mem_flatMap.mpr #[r,qm,?_]);rw[<-ex,<-e2,map_append];show qj _ y)
    let h8:m*m<=8*8:=mul_le_mul hm hm;simp! [dZ,mM,rH];show#[QS (p:=(r.1,z)),∅,?_];rw[show D.tup [nD r.1,nD z]=pN (r.1,z) from rfl,<-UH];show h5 _ #[some (.sh (nD z)),by simp]
   .obtain⟨B,rfl⟩:=Y;rw[ex,<-eb];show hK _ #[_,_,_,rfl]
  simp! [dZ,mM,rG,pN,length_cons,length_nil];let el:sP (.dct false (dB G) (kP G)) (nD r.2)=some (lk (dB G) (kP G) (nD r.2)):=rfl;rcases KR (k:=r.2) hG.val with z|⟨z,y⟩
  .simp! [el,z];show L _ _ rfl
  .have hn:[]=bL v r.2:=by
    unfold bL
    symm
    rw[map_eq_nil_iff,List.filter_eq_nil_iff];intro u hu w;rw[qT]at w;show y (w▸hG.all u hu)
   simp! [el,z];show L [] _ hn
 .obtain⟨O,M,B,rfl⟩:=hI;show h6 O M B
def gB(m:Nat)(f g:Nat->Nat->Bool)(x z:Nat):Bool:=(List.range m).any λy=>f x y&&g y z
def Qr{m:Nat}{f g:Nat->Nat->Bool}(p:Nat×Nat):p∈cps (fH m g) (fH m f)↔p∈fH m (gB m f g):=by
 rw[zhE,zat];unfold gB;simp only[zat,any_eq_true,qJ,and_eq_true];constructor
 .rintro⟨y,⟨h1,h2,B⟩,F,z,v⟩;show#[h1,z,y,h2,B,v]
 .rintro⟨h1,z,y,h2,B,v⟩;show#[y,#[h1,h2,B],h2,z,v]
def TQ{m:Nat}{f g:Nat->Nat->Bool}(v:m<=8)(h:P (.sh (.tup (tD m (gB m f g)))) [.sh (.tup (tD m f)),.sh (.tup (tD m g))]):yY [.sh (.tup (tD m f)),.sh (.tup (tD m g))] P PX:=by
 let J:m*m<=8*8:=mul_le_mul v v;let B:∀f,(fH m f).length<=m*m:=λf=>by let:=EY m f;unfold tD at this;rwa[qo]at this
 let Y:=B g;let hc:=EY m (gB m f g);show Cn rfl rfl ?_;simp! [e_C];unfold tD at h⊢;show Vd (ps:=fH m g) ∅ λG F=>?_;simp! [Qu];show Ts v F (λp z=>(zat.mp z).1) (λp z=>(zat.mp z).2.1) λO M L=>?_;simp! [Jd v Qr,zas];show h
def iX(m:Nat)(f:Nat->Nat->Bool)(v:List Nat):List (Nat×Nat):=v.flatMap λx=>((List.range m).filter (f x)).map λy=>(x,y)
def Sw{m:Nat}{f:Nat->Nat->Bool}{v:List Nat}{x:Nat}:iX m f (v++[x])=iX m f v++((List.range m).filter (f x)).map λy=>(x,y):=by unfold iX;rw[flatMap_append];simp
def Mw{m:Nat}{f:Nat->Nat->Bool}:∀v:List Nat,(iX m f v).length<=v.length*m
 |[]=>by simp[iX]
 |x::l=>by let h1:=length_filter_le (f x) (List.range m);let z:=Mw (m:=m) (f:=f) l;rw[qD]at h1;unfold iX at z⊢;rw[flatMap_cons,qq,qt,succ_mul,qo];lia
inductive Sp(m:Nat)(g:Nat->Nat->Nat->Bool)(L:List Tr)(x:Nat):Nat->Nat->Prop
 |nil:Sp m g L x 0 x
 |step {t:Tr} {y z:Nat}:t∈L->Sp m g L x t.1 y->z<m->g t.2.2 y z=true->Sp m g L x t.2.1 z
def Lu{m:Nat}{g:Nat->Nat->Nat->Bool}{L v:List Tr}{x p y:Nat}(h:∀t∈L,t∈v)(k:Sp m g L x p y):Sp m g v x p y:=by
 induction k with
 |nil=>show .nil
 |step a _ b c z=>show .step (h _ a) z b c
def Lp{m:Nat}{g:Nat->Nat->Nat->Bool}{x p y:Nat}(k:Sp m g [] x p y):p=0/\y=x:=by
 induction k with
 |nil=>show#[rfl,rfl]
 |step a=>cases a
def HR{m:Nat}{g:Nat->Nat->Nat->Bool}{L:List Tr}{x p y:Nat}(v:x<m)(k:Sp m g L x p y):y<m:=by
 cases k with
 |nil=>show v
 |step _ _ b _=>show b
def LU{m:Nat}{g:Nat->Nat->Nat->Bool}{L:List Tr}{t:Tr}{x p y:Nat}(hs:∀u∈L,u.1<=t.1)(G:t.1<t.2.1):Sp m g (L++[t]) x p y↔Sp m g L x p y\/(p=t.2.1/\∃z,Sp m g L x t.1 z/\y<m/\g t.2.2 z y=true):=by
 constructor
 .intro k;induction k with
  |nil=>show .inl .nil
  |@step u v z a _ b c F=>
   have B:u.1<=t.1:=by
    rcases qx.mp a with q|q
    .show hs u q
    .rw[qu.mp q];show q8 _
   rcases F with h|⟨e,_⟩
   .rcases qx.mp a with q|q
    .show .inl (.step q h b c)
    .rw[qu.mp q]at h c⊢;show .inr #[rfl,v,h,b,c]
   .lia
 .rintro(k|⟨rfl,z,k,b,c⟩)
  .show Lu (λu B=>qj _ B) k
  .show .step (qi _ qm) (Lu (λu B=>qj _ B) k) b c
open Classical in
def dC(m:Nat)(g:Nat->Nat->Nat->Bool)(L:List Tr)(p x y:Nat):Bool:=decide (Sp m g L x p y)
open Classical in
theorem zaP{m:Nat}{g:Nat->Nat->Nat->Bool}{L:List Tr}{p x y:Nat}:dC m g L p x y=true↔Sp m g L x p y:=by unfold dC;show decide_eq_true_iff
def yI(f g:Nat->Nat->Bool)(x y:Nat):Bool:=f x y||g x y
def JA{m:Nat}{g:Nat->Nat->Nat->Bool}{L:List Tr}{t:Tr}{p x y:Nat}(F:x<m)(B:y<m)(hs:∀u∈L,u.1<=t.1)(v:t.1<t.2.1):
  dC m g (L++[t]) p x y=if p=t.2.1 then yI (gB m (dC m g L t.1) (g t.2.2)) (dC m g L p) x y else dC m g L p x y:=by
 rw[Bool.eq_iff_iff];by_cases e:p=t.2.1
 .rw[q4 e,zaP,LU hs v];unfold yI gB;rw[or_eq_true,any_eq_true,zaP];constructor
  .rintro(k|⟨_,z,k,_,c⟩)
   .show .inr k
   .show .inl #[z,qJ.mpr (HR F k),by rw[zaP.mpr k,c];rfl]
  .rintro(⟨z,_,q⟩|k)
   .rw[and_eq_true,zaP]at q;show .inr #[e,z,q.1,B,q.2]
   .show .inl k
 .rw[q5 e,zaP,zaP,LU hs v];show#[λk=>k.elim id λz=>absurd z.1 e,.inl]
def oU(m:Nat)(G:Nat->Nat->Nat->Bool)(ks:List Nat):List S:=ks.map λk=>S.sh (.tup (tD m (G k)))
def uF(m:Nat)(G:Nat->Nat->Nat->Bool)(ks:List Nat):List D:=ks.map λk=>D.tup (tD m (G k))
open Classical in
def KH{m:Nat}{G:Nat->Nat->Nat->Bool}{k:Nat}:∀{ks:List Nat},(k∈ks/\lk (ks.map nD) (uF m G ks) (nD k)=some (.tup (tD m (G k))))\/(k∉ks/\lk (ks.map nD) (uF m G ks) (nD k)=none)
 |[]=>.inr #[(λh=>nomatch h),rfl]
 |a::ks=>by
  show(_/\(if nD a=nD k then some (D.tup (tD m (G a)))else lk (ks.map nD) (uF m G ks) (nD k))=_)\/(_/\(if nD a=nD k then some (D.tup (tD m (G a)))else lk (ks.map nD) (uF m G ks) (nD k))=_);by_cases e:a=k
  .subst e;show .inl #[qm,q4 rfl]
  .rw[q5 λz=>e (EX z)];rcases KH (k:=k) (ks:=ks)with⟨v,b⟩|⟨v,b⟩
   .show .inl #[qk _ v,b]
   .show .inr #[λz=>(qA.mp z).elim (λz=>e z.symm) v,b]
def Pd{m:Nat}{G G':Nat->Nat->Nat->Bool}{k:Nat}{ks:List Nat}(hn:ks.Nodup)(J:∀p,p≠k->tD m (G' p)=tD m (G p)):
  ∃ks',(∀p,p∈ks'↔p∈ks\/p=k)/\ks'.Nodup/\dG false (ks.map nD) (oU m G ks) (nD k) (.sh (.tup (tD m (G' k))))=.dct false (ks'.map nD) (oU m G' ks'):=by
 unfold dG fX oU;cases q:(ks.map nD).findIdx? (λx=>open Classical in decide (x=nD k))with
 |some i=>
  let#[h1,h2,_]:=List.findIdx?_eq_some_iff_getElem.mp q;rw[qo]at h1;rw[getElem_map]at h2;let e:ks[i]=k:=EX ↑h2;show#[ks,λp=>#[.inl,λz=>z.elim id λz=>by rw[z,<-e];show getElem_mem h1],hn,?_];show S.dct false _ _=_;congr 1;apply ext_getElem?;intro j;rw[getElem?_set,qo,qF,qF];by_cases B:i=j
  .subst B;rw[q4 rfl,q4 h1,qh h1,e];rfl
  .rw[q5 B];cases r:ks[j]? with
   |none=>rfl
   |some v=>
    let L:v≠k:=λz=>by let#[b1,b2]:=qg.mp r;show B ((List.getElem_inj hn).mp (by rw[e,b2,z]))
    show some (S.sh _)=some (S.sh _);rw[J v L]
 |none=>
  let F:k∉ks:=λz=>by let:=List.findIdx?_eq_none_iff.mp q (nD k) (qK.mpr #[k,z,rfl]);simp at this
  show#[ks++[k],λp=>by simp,qw.mpr #[hn,by simp,λa Y b O e=>F (by rw[qu.mp O]at e;show e▸Y)],?_];show S.dct false _ _=_;rw[map_append,map_append];congr 2;show map_congr_left λp M=>by rw[J p λz=>F (z▸M)]
def QR{m:Nat}{f:Nat->Nat->Bool}(h:∀x y,x<m->y<m->f x y=false):tD m f=[]:=by unfold tD;rw[map_eq_nil_iff,List.eq_nil_iff_forall_not_mem];intro p v;let#[a,b,c]:=zat.mp v;rw[h _ _ a b]at c;cases c
def aT(m:Nat)(fs:List (Nat->Nat->Bool)):List D:=fs.map λf=>.tup (tD m f)
def eqT(x y:Nat):Bool:=decide (x=y)
def bT(fs:List (Nat->Nat->Bool))(k:Nat):Nat->Nat->Bool:=fs.getD k eqT
def Ju{m k:Nat}{fs:List (Nat->Nat->Bool)}(h:k<fs.length):atI (aT m fs) (k:Int)=some (.tup (tD m (bT fs k))):=by show EU ∅ ?_;unfold aT bT;rw[qF,show(k:Int).toNat=k by lia,List.getD_eq_getElem?_getD,qh h];rfl
def LG{x:Nat}:∀m,(List.range m).filter (eqT x)=if x<m then[x]else[]
 |0=>rfl
 |m+1=>by
  rw[List.range_succ,List.filter_append,LG m];by_cases h:x=m
  .subst h;rw[q5 ∅,q4 ∅,List.filter_cons_of_pos (by simp[eqT])];rfl
  .rw[List.filter_cons_of_neg (by simpa[eqT] using h)];by_cases h2:x<m
   .rw[q4 h2,q4 ∅];rfl
   .rw[q5 h2,q5 ∅];rfl
def Qc{m:Nat}:((List.range m).map λx=>(x,x))=fH m eqT:=by
 unfold fH;rw[flatMap_def,map_congr_left (g:=λx=>[(x,x)]) λx z=>by rw[LG,q4 (qJ.mp z)];rfl];induction List.range m with
 |nil=>rfl
 |cons a l v=>rw[qy,qy,List.flatten_cons,<-v];rfl
def KQ{m:Nat}:((List.range m).map λx=>pN (x,x))=tD m eqT:=by unfold tD;rw[<-Qc,qE];rfl
def Mq:∀{L:List D},(∀d∈L,∃p,d=pN p)->∃l:List (Nat×Nat),L=l.map pN
 |[],_=>#[[],rfl]
 |d::L,h=>by let#[p,rfl]:=h d qm;let#[l,rfl]:=Mq (L:=L) λe v=>h e (qk _ v);show#[p::l,rfl]
def Qk{m:Nat}{f:Nat->Nat->Bool}{L:List D}(B:m<=8)(h:∀d,d∈L↔d∈tD m f):bQ [.set (aH L)]=some (.lst ((tD m f).map .sh)):=by
 let#[l,rfl]:=Mq (L:=L) λd F=>by let#[p,_,rfl]:=qK.mp ((h d).mp F);show#[p,rfl]
 show Jd B λp=>?_;let:=h (pN p);unfold tD at this;rw[qK,qK]at this;constructor
 .intro z;let#[q,v,e]:=this.mp #[p,z,rfl];rw[<-Gy e];show v
 .intro z;let#[q,v,e]:=this.mpr #[p,z,rfl];rw[<-Gy e];show v
def IM(m:Nat)(f:Nat->Nat->Bool):(tD m f).all (aO true)=true:=qI.mpr λd v=>by let#[p,_,rfl]:=qK.mp v;rfl
def KY{L:List D}(h:L.all (aO true)=true):(aH L).all (aO true)=true:=qI.mpr λd v=>qI.mp h d (zaA.mp v)
def IK{m:Nat}{G:Nat->Nat->Nat->Bool}{ks:List Nat}:vC (some (.dct false (ks.map nD) (oU m G ks)))=some (.dct false (ks.map nD) (uF m G ks)):=by show(if(oU m G ks).all S.isSh=true then some (S.toD (.dct false (ks.map nD) (oU m G ks)))else none)=_;rw[q4 (by unfold oU;simp[S.isSh]),S.toD_dct];unfold oU uF;rw[qE];rfl
def IQ{m k:Nat}{G:Nat->Nat->Nat->Bool}{ks:List Nat}{Q:WQ}{U:Env}(h:k∉ks->tD m (G k)=[]):lT (some (lk (ks.map nD) (uF m G ks) (.int (k:Int)))) (.v (.sh (.tup []))) U Q=Q (.v (.sh (.tup (tD m (G k))))) U:=by
 rcases KH (m:=m) (G:=G) (k:=k) (ks:=ks)with⟨_,b⟩|⟨a,b⟩
 .rw[show D.int (k:Int)=nD k from rfl,b];rfl
 .rw[show D.int (k:Int)=nD k from rfl,b,h a];rfl
def IX{m:Nat}{f:Nat->Nat->Bool}{d:D}:d∈tD m f↔∃p,p∈fH m f/\pN p=d:=qK
def Oc{m:Nat}{g:Nat->Nat->Nat->Bool}:tD m (dC m g [] 0)=tD m eqT:=NC λx y _ _=>by rw[Bool.eq_iff_iff,zaP,eqT,qT];show#[λz=>(Lp z).2.symm,λz=>z▸.nil]
def JG{m:Nat}{fs:List (Nat->Nat->Bool)}{B:List Wd}{w:Wd}(hm:m<=8)(hf:mP B w)(e3:fs.length=B.length)
  (h:P (.sh (.tup (tD m (dC m (bT fs) (aZ B w) w.length)))) [.sh (.int (m:Int)),.sh (zx B),.sh (.tup (aT m fs)),.sh (.str w)]):vB [.sh (.int (m:Int)),.sh (zx B),.sh (.tup (aT m fs)),.sh (.str w)] P PX:=by
 let ha:m*m<=8*8:=mul_le_mul hm hm;let r1:=hf.tw;show Cn rfl rfl ?_;simp! [e_C];show#[by simp only[cQ];lia,?_];rw[Dy (n:=m) rfl];show KE (n:=9) (toD:=nD) (List.range m) (λx=>S.sh (pN (x,x))) (λx hx l o K hl hK=>?_) λo=>?_
 .rw[qD]at hl;simp! [dZ,mM,rE,length_cons,length_nil];show#[by simp only[cQ];lia,hK _]
 .rw[show((List.range m).map λx=>S.sh (pN (x,x)))=(tD m eqT).map S.sh by rw[<-KQ,qE];rfl];simp! [zas];show Vv hf ?_;simp! [e_C];refine DY (toD:=iO) (λv U=>∃(ks:List Nat)(o5 o6 o7 o8:Option S),ks.Nodup/\(∀p∈ks,p<=12)/\(∀p,p∉ks->tD m (dC m (bT fs) v p)=[])/\U=[some (.sh (.int (m:Int))),some (.sh (zx B)),some (.sh (.tup (aT m fs))),some (.sh (.str w)),some (.dct false (ks.map nD) (oU m (dC m (bT fs) v) ks)),o5,o6,o7,o8]) (aZ B w) (λv t e4 D2 U e hI h9 hr hi hq=>?_) (λU hI=>?_) #[[0],none,none,none,none,by simp,by simp,λp F=>QR λx y _ _=>?_,?_]
  .obtain⟨ks,o5,o6,o7,o8,hn,M,J,rfl⟩:=hI;let#[h7,h6]:=zcj.mp (show t∈aZ B w by rw[<-e];simp);let#[O,hb,e2]:=zaX.mp h7;let hk:t.2.2<fs.length:=by rw[e3,h6];exact List.idxOf_lt_length_iff.mpr e2
   let hs:∀u∈v,u.1<=t.1:=λu hu=>by let:=zcX (B:=B) (w:=w);rw[<-e,pairwise_append]at this;let:=this.2.2 u hu t qm;lia
   simp! [rF,dy,length_cons,length_nil,IK,ziG,IQ (J t.1),Ju hk];show TQ hm ?_;let l1:=EY m (gB m (dC m (bT fs) v t.1) (bT fs t.2.2));let l2:=EY m (dC m (bT fs) v t.2.1);let k1:=MK (tD m (gB m (dC m (bT fs) v t.1) (bT fs t.2.2)));let k2:=MK (tD m (dC m (bT fs) v t.2.1));let h2:∀f,newS (tD m f)=some (.set (aH (tD m f))):=λf=>q4 #[by unfold bX;rw[or_eq_true];show .inr (IM m f),by let:=EY m f;lia]
   have h4:=zlw (l:=aH (tD m (gB m (dC m (bT fs) v t.1) (bT fs t.2.2)))) (m:=aH (tD m (dC m (bT fs) v t.2.1))) #[KY (IM _ _),KY (IM _ _),∅];let h8:=Qk (m:=m) (f:=dC m (bT fs) (v++[t]) t.2.1) (L:=aH (tD m (gB m (dC m (bT fs) v t.1) (bT fs t.2.2)))++aH (tD m (dC m (bT fs) v t.2.1))) hm λd=>by
    rw[qx,zaA,zaA,IX,IX,IX];constructor
    .rintro(⟨p,F,rfl⟩|⟨p,F,rfl⟩);all_goals
      let#[a1,a2,a3]:=zat.mp F;show#[p,zat.mpr #[a1,a2,?_],rfl];rw[JA a1 a2 hs O,q4 rfl];unfold yI;rw[a3];simp
    .rintro⟨p,F,rfl⟩;let#[a1,a2,a3]:=zat.mp F;rw[JA a1 a2 hs O,q4 rfl]at a3;unfold yI at a3;rw[or_eq_true]at a3;show a3.imp (λz=>#[p,zat.mpr #[a1,a2,z],rfl]) λz=>#[p,zat.mpr #[a1,a2,z],rfl]
   simp! [ic,IK,ziG,IQ (J t.2.1),h2,h4,h8,zas];let hG:∀p,p≠t.2.1->tD m (dC m (bT fs) (v++[t]) p)=tD m (dC m (bT fs) v p):=λp F=>NC λx y hx hy=>by rw[JA hx hy hs O,q5 F]
   obtain⟨h5,Y,e1,ed⟩:=Pd (m:=m) (G:=dC m (bT fs) v) (G':=dC m (bT fs) (v++[t])) (k:=t.2.1) hn hG;rw[show D.int (t.2.1:Int)=nD t.2.1 from rfl,ed];let hc:ks.length<=13:=by
    let:=GS (l:=ks.map nD) (m:=(List.range 13).map nD) (List.Pairwise.map _ (λa b h1 z=>h1 (EX z)) hn) λd hd=>by let#[p,F,rfl]:=qK.mp hd;show qK.mpr #[p,qJ.mpr (by let:=M p F;lia),rfl]
    rwa[qo,qo,qD]at this
   show#[List.Pairwise.map _ (λa b h1 z=>h1 (EX z)) hn,by rw[qo];simp only[cQ];lia,h9 _ #[h5,_,_,_,_,e1,λp F=>?_,λp F=>?_,rfl]]
   .rcases(Y p).mp F with z|z
    .show M p z
    .lia
   .let h3:p∉ks/\p≠t.2.1:=#[λz=>F ((Y p).mpr (.inl z)),λz=>F ((Y p).mpr (.inr z))]
    rw[hG p h3.2];show J p h3.1
  .obtain⟨ks,o5,o6,o7,o8,hn,M,J,rfl⟩:=hI;simp! [IK,ziG,IQ (J w.length)];show h
  .cases q:dC m (bT fs) [] p x y
   .rfl
   .show absurd (by rw[(Lp (zaP.mp q)).1];show qm) F
  .show _=[some (S.sh (.int (m:Int))),some (S.sh (zx B)),some (S.sh (.tup (aT m fs))),some (S.sh (.str w)),some (S.dct false [nD 0] [S.sh (.tup (tD m (dC m (bT fs) [] 0)))]),none,none,none,none];rw[Oc];rfl
def Lh{B:List Wd}{w:Wd}{p k:Nat}(G:mP B w)(v:k<B.length)(h:dX w p (p+((B[k]?).getD []).length)=(B[k]?).getD []):(p,p+((B[k]?).getD []).length,k)∈aZ B w:=by
 rw[qh v,getD_some]at h⊢;let z:=getElem_mem v;let J:=qP.mpr (G.ne _ z);let F:=congrArg List.length h;unfold dX at F;rw[qH,qG]at F;show zcj.mpr #[zaX.mpr #[by show p<_;lia,by show _<=w.length;lia,?_],?_]
 .show dX w p _∈B;rw[h];show z
 .show k=B.idxOf (dX w p _);rw[h];show(G.nd.idxOf_getElem k v).symm
def IP{B:List Wd}{w:Wd}{t:Tr}(h:t∈aZ B w):t.2.2<B.length/\t.2.1=t.1+((B[t.2.2]?).getD []).length/\dX w t.1 t.2.1=(B[t.2.2]?).getD []:=by
 let#[h1,h2]:=zcj.mp h;let#[a,b,c]:=zaX.mp h1;let v:t.2.2<B.length:=by rw[h2];show List.idxOf_lt_length_iff.mpr c
 have e:(B[t.2.2]?).getD []=dX w t.1 t.2.1:=by
  rw[qh v,getD_some];let:∀k(v:k<B.length),k=B.idxOf (dX w t.1 t.2.1)->B[k]=dX w t.1 t.2.1:=λk v e=>by subst e;show List.getElem_idxOf v
  show this _ v h2
 show#[v,?_,e.symm];rw[e];unfold dX;rw[qH,qG];lia
open Classical in
def Ld{s:Nat×Nat}{L:List (Nat×Nat)}:pS (.tup [.int (s.1:Int),.int (s.2:Int)]) (.lst (L.map pN))=some (decide (s∈L)):=by
 show(if(L.map pN).any (λd=>aP d (.tup [.int (s.1:Int),.int (s.2:Int)])||decide (30<dH d))then none else some (decide (pN s∈L.map pN)))=_;rw[q5]
 .congr 1;show decide_eq_decide.mpr #[λz=>?_,λz=>qK.mpr #[s,z,rfl]];let#[p,v,e]:=qK.mp z;show Gy e▸v
 .intro h;let#[d,B,e]:=any_eq_true.mp h;let#[p,_,rfl]:=qK.mp B;cases e
structure Ok(m:Nat)(g:Nat->Nat->Nat->Bool)(T:List Tr)(x:Nat)(L:List (Nat×Nat)):Prop where
 nd:L.Nodup
 sp:∀s∈L,Sp m g T x s.1 s.2
 st:(0,x)∈L
def Ok.len{m x:Nat}{fs:List (Nat->Nat->Bool)}{B:List Wd}{w:Wd}{L:List (Nat×Nat)}(h:Ok m (bT fs) (aZ B w) x L)(J:w.length<=12)(M:m<=8)(v:x<m):L.length<=169:=by
 have:=GS (l:=L.map pN) (m:=tD 13 λ_ _=>true) (pairwise_map.mpr (h.nd.imp λ{a b} k z=>k (Gy z))) λd G=>by
  obtain⟨s,F,rfl⟩:=qK.mp G;let k:=h.sp s F;let h1:=HR v k;let h2:s.1<=w.length:=by
   generalize s.1=p at k;cases k with
   |nil=>lia
   |step a=>show(zaX.mp (zcj.mp a).1).2.1
  show qK.mpr #[s,zat.mpr #[∅,∅,rfl],rfl]
 let h2:=EY 13 λ_ _=>true;rw[qo]at this;lia
def uX(m:Nat)(g:Nat->Nat->Nat->Bool)(T:List Tr)(L:List (Nat×Nat))(s:Nat×Nat):Prop:=∀t∈T,t.1=s.1->∀z,z<m->g t.2.2 s.2 z=true->(t.2.1,z)∈L
def Pu{m x:Nat}{g:Nat->Nat->Nat->Bool}{T:List Tr}{L:List (Nat×Nat)}(h:Ok m g T x L)(B:∀s∈L,uX m g T L s){p y:Nat}:(p,y)∈L↔Sp m g T x p y:=by
 show#[h.sp _,λk=>?_];induction k with
 |nil=>show h.st
 |@step t y z a _ b c v=>show B _ v t a rfl z b c
def hS(L:List (Nat×Nat)):S:=.lst ((L.map pN).map .sh)
def OZ{D':Ends}{m x p y k q:Nat}{one:Wd}{fs:List (Nat->Nat->Bool)}{B:List Wd}{w:Wd}{L0:List (Nat×Nat)}{s0 s1 s2 s3 s4 s5 s7 O F v:Option S}(hw:w.length<=12)(hm:m<=8)(hx:x<m)(hq:(p:Int)+(one.length:Int)=(q:Int))(ht:(p,q,k)∈aZ B w)(h0:Ok m (bT fs) (aZ B w) x L0)(hs:(p,y)∈L0)
  (h5:∀L F v,Ok m (bT fs) (aZ B w) x L->(∃E,L=L0++E)->(∀z,z<m->bT fs k y z=true->(q,z)∈L)->D'.nx [s0,s1,s2,s3,s4,s5,some (hS L),s7,some (.sh (.int (p:Int))),some (.sh (.int (y:Int))),O,some (.sh (.str one)),F,v]):
  bW (cE [zo 12,zo 13]) gU (tD m (bT fs k)) D' [s0,s1,s2,s3,s4,s5,some (hS L0),s7,some (.sh (.int (p:Int))),some (.sh (.int (y:Int))),O,some (.sh (.str one)),F,v]:=by
 show DY (toD:=pN) (λY U=>∃L F v,Ok m (bT fs) (aZ B w) x L/\(∃E,L=L0++E)/\(∀r∈Y,r.1=y->(q,r.2)∈L)/\U=[s0,s1,s2,s3,s4,s5,some (hS L),s7,some (.sh (.int (p:Int))),some (.sh (.int (y:Int))),O,some (.sh (.str one)),F,v]) (fH m (bT fs k)) (λY r h6 D2 U e hI h3 h8 h7 h9=>?_) (λU hI=>?_) #[L0,F,v,h0,#[[],by simp],λ_ z=>(nomatch z),rfl]
 .obtain⟨L,F,v,M,⟨E,hE⟩,G,rfl⟩:=hI;let#[r1,r2,r3]:=zat.mp (show r∈fH m (bT fs k) by rw[<-e];simp);let hl:=M.len hw hm hx;let J:∀L':List (Nat×Nat),(∀z∈L,z∈L')->((r.1=y)->(q,r.2)∈L')->∀u∈Y++[r],u.1=y->(q,u.2)∈L':=λL' h1 h2 u hu hy=>by
   rcases qx.mp hu with z|z
   .show h1 _ (G u z hy)
   .rw[qu.mp z]at hy⊢;show h2 hy
  cases q1:decide ((r.1:Int)=(y:Int))
  .let hn:r.1≠y:=by let:=of_decide_eq_false q1;lia
   simp! [gZ,pN,nD,length_cons,length_nil,q1];show h3 _ #[L,_,_,M,#[E,hE],J L (λ_ z=>z) λz=>absurd z hn,rfl]
  .have hy:r.1=y:=by let:=qU q1;lia
   cases q2:decide ((q,r.2)∈L)
   .have h4:=of_decide_eq_false q2;simp! [gZ,pN,nD,length_cons,length_nil,q1,hq,hS,zas,Ld (s:=(q,r.2)),q2,length_map];show#[by simp only[cQ];lia,?_];refine h3 _ #[L++[(q,r.2)],some (.sh (.int (r.1:Int))),some (.sh (.int (r.2:Int))),#[?_,λu hu=>?_,qj _ M.st],#[E++[(q,r.2)],by rw[hE];simp],J _ (λ_ z=>qj _ z) λ_=>qi _ qm,?_]
    .show qw.mpr #[M.nd,by simp,λa ha b hb e=>h4 (by rw[qu.mp hb]at e;show e▸ha)]
    .rcases qx.mp hu with z|z
     .show M.sp u z
     .rw[qu.mp z];show Sp.step (t:=(p,q,k)) ht (M.sp (p,y) (by rw[hE];show qj _ hs)) r2 (by rw[<-hy];show r3)
    .simp[hS,pN,nD]
   .simp! [gZ,pN,nD,length_cons,length_nil,q1,hq,hS,zas,Ld (s:=(q,r.2)),q2,length_map];show h3 _ #[L,_,_,M,#[E,hE],J L (λ_ z=>z) λ_=>qU q2,rfl]
 .obtain⟨L,F,v,M,hE,G,rfl⟩:=hI;show h5 L F v M hE λz hz hg=>(G (y,z) (zat.mpr #[HR hx (h0.sp _ hs),hz,hg]) rfl)
def PN{D':Ends}{m x p y:Nat}{fs:List (Nat->Nat->Bool)}{B:List Wd}{w:Wd}{L0:List (Nat×Nat)}{s0 s1 s4 s5 s7 M J G F:Option S}(hf:mP B w)(h8:fs.length=B.length)(hm:m<=8)(hx:x<m)(h0:Ok m (bT fs) (aZ B w) x L0)(hs:(p,y)∈L0)
  (h5:∀L M J G F,Ok m (bT fs) (aZ B w) x L->(∃E,L=L0++E)->uX m (bT fs) (aZ B w) L (p,y)->D'.nx [s0,s1,some (.sh (.tup (aT m fs))),some (.sh (.str w)),s4,s5,some (hS L),s7,some (.sh (.int (p:Int))),some (.sh (.int (y:Int))),M,J,G,F]):
  bW (cE [zo 10,zo 11]) gT ((List.range B.length).map λ(k:Nat)=>D.tup [.int (k:Int),.str ((B[k]?).getD [])]) D' [s0,s1,some (.sh (.tup (aT m fs))),some (.sh (.str w)),s4,s5,some (hS L0),s7,some (.sh (.int (p:Int))),some (.sh (.int (y:Int))),M,J,G,F]:=by
 show DY (λh2 U=>∃L M J G F,Ok m (bT fs) (aZ B w) x L/\(∃E,L=L0++E)/\(∀t∈aZ B w,t.1=p->t.2.2∈h2->∀z,z<m->bT fs t.2.2 y z=true->(t.2.1,z)∈L)/\U=[s0,s1,some (.sh (.tup (aT m fs))),some (.sh (.str w)),s4,s5,some (hS L),s7,some (.sh (.int (p:Int))),some (.sh (.int (y:Int))),M,J,G,F]) (List.range B.length) (λh2 k h6 D2 U e hI h3 h9 h7 e1=>?_) (λU hI=>?_) #[L0,M,J,G,F,h0,#[[],by simp],λ_ _ _ z=>(nomatch z),rfl]
 .obtain⟨L,M,J,G,F,hO,⟨E,hE⟩,O,rfl⟩:=hI;let hk:k<B.length:=(Kb e).2;let ec:aM w (some (p:Int)) (some ((p:Int)+((((B[k]?).getD []).length:Nat):Int)))=dX w p (p+((B[k]?).getD []).length):=by rw[<-natCast_add];exact LN w _ _
  cases q:decide (dX w p (p+((B[k]?).getD []).length)=(B[k]?).getD [])
  .let hn:=of_decide_eq_false q;simp! [jW,length_cons,length_nil,ec,q];show h3 _ #[L,_,_,_,_,hO,#[E,hE],λt ht hp h1=>?_,rfl];rcases qx.mp h1 with z|z
   .show O t ht hp z
   .obtain⟨_,a2,a3⟩:=IP ht;rw[qu.mp z,hp]at a2;rw[qu.mp z,hp,a2]at a3;show absurd a3 hn
  .let hy:=qU q;simp! [jW,length_cons,length_nil,ec,q,Ju (m:=m) (show k<fs.length by lia)];show OZ (q:=p+((B[k]?).getD []).length) hf.tw hm hx ∅ (Lh hf hk hy) hO (by rw[hE];show qj _ hs) λL' G F h4 Y hz=>?_;let#[E',Y]:=Y;show h3 _ #[L',_,_,_,_,h4,#[E++E',by rw[Y,hE,qp]],λt ht hp h1=>?_,rfl];rcases qx.mp h1 with z|z
   .intro v hv hg;rw[Y];show qj _ (O t ht hp z v hv hg)
   .obtain⟨_,a2,_⟩:=IP ht;rw[qu.mp z,hp]at a2;rw[qu.mp z,a2];show hz
 .obtain⟨L,M,J,G,F,hO,hE,O,rfl⟩:=hI;show h5 L M J G F hO hE λt ht hp=>O t ht hp (qJ.mpr (IP ht).1)
def uX.mono{m:Nat}{g:Nat->Nat->Nat->Bool}{T:List Tr}{L E:List (Nat×Nat)}{s:Nat×Nat}(h:uX m g T L s):uX m g T (L++E) s:=λt B F z v G=>qj _ (h t B F z v G)
def Ul{D':Ends}{m x:Nat}{fs:List (Nat->Nat->Bool)}{B:List Wd}{w:Wd}{s0 s4 s5 Y O J G F v:Option S}(hf:mP B w)(h2:fs.length=B.length)(hm:m<=8)(hx:x<m)
  (h4:∀L o7 Y O J G F v,Ok m (bT fs) (aZ B w) x L->(∀p y,(p,y)∈L↔Sp m (bT fs) (aZ B w) x p y)->D'.nx [s0,some (.sh (zx B)),some (.sh (.tup (aT m fs))),some (.sh (.str w)),s4,s5,some (hS L),o7,Y,O,J,G,F,v]):
  gW (aS uI (zk 7) (wB aV (zl (zk 6) zm))) gR D' [s0,some (.sh (zx B)),some (.sh (.tup (aT m fs))),some (.sh (.str w)),s4,s5,some (hS [(0,x)]),some (.sh (.int 0)),Y,O,J,G,F,v]:=by
 show Om (λn U=>∃(L:List (Nat×Nat))(i:Nat)(Y O J G F v:Option S),Ok m (bT fs) (aZ B w) x L/\i<=L.length/\n=200-i/\(∀j s,j<i->L[j]?=some s->uX m (bT fs) (aZ B w) L s)/\U=[s0,some (.sh (zx B)),some (.sh (.tup (aT m fs))),some (.sh (.str w)),s4,s5,some (hS L),some (.sh (.int (i:Int))),Y,O,J,G,F,v]) 200 #[[(0,x)],0,_,_,_,_,_,_,#[by simp,λs hs=>by rw[qu.mp hs];show .nil,qm],by simp,rfl,λ_ _ z=>(nomatch z),rfl] λn U hJ=>?_;let#[L,i,Y,O,J,G,F,v,hO,hi,rfl,hF,rfl]:=hJ;let hl:=hO.len hf.tw hm hx;simp! [hS,zas,length_map];cases q:decide ((i:Int)<(L.length:Int))
 .let hn:=of_decide_eq_false q;simp! [yU];show h4 L _ _ _ _ _ _ _ hO λp y=>Pu hO λs hs=>?_;let#[j,hj,rfl]:=getElem_of_mem hs;show hF j _ ∅ (qh hj)
 .have M:i<L.length:=by let:=qU q;lia
  let ea:atI ((L.map pN).map S.sh) (i:Int)=some (.sh (pN L[i])):=EU ∅ (by rw[qW,qF,qF,qh M];rfl);simp! [yT,mZ,ea,pN,nD,length_cons,length_nil,zx,JY];show PN (L0:=L) (p:=L[i].1) (y:=L[i].2) hf h2 hm hx hO (getElem_mem M) λL' J G F v h3 hE h1=>?_;let#[E,rfl]:=hE;simp! [hS];show#[200-(i+1),∅,L++E,i+1,_,_,_,_,_,_,h3,by rw[qq];lia,rfl,λj s hj e=>?_,rfl];rcases lt_or_ge j i with z|z
  .rw[getElem?_append_left ∅]at e;show(hF j s z e).mono
  .let:j=i:=by lia
   subst this;rw[getElem?_append_left M,qh M]at e;cases e;show h1
def Rr{m x:Nat}{f:Nat->Bool}{l:List Nat}(L:m<=8)(hn:l.Nodup)(h:∀y,y∈l↔y<m/\f y=true):cC (l.map λy=>pN (x,y))=some (.lst ((((List.range m).filter f).map λy=>pN (x,y)).map .sh)):=by
 let inj:∀a b:Nat,pN (x,a)=pN (x,b)->a=b:=λa b e=>(Prod.mk.inj (Gy e)).2;let B:(l.map λy=>pN (x,y)).Nodup:=pairwise_map.mpr (hn.imp λ{a b} k z=>k (inj _ _ z));let J:=GS (l:=l.map λy=>pN (x,y)) (m:=(List.range m).map λy=>pN (x,y)) B λd v=>by let#[y,G,rfl]:=qK.mp v;show qK.mpr #[y,qJ.mpr ((h y).mp G).1,rfl]
 rw[qo,qo,qD]at J;let F:∀d∈l.map λy=>pN (x,y),eP [false,false] d:=λd v=>by let#[y,_,rfl]:=qK.mp v;show GN _
 unfold cC;rw[q4 (.inr #[by rw[qo];lia,.inr #[[false,false],λz=>(nomatch z),F]]),GC (GT [false,false]) (m:=((List.range m).filter f).map λy=>pN (x,y)) F]
 .show(perm_ext_iff_of_nodup (pairwise_map.mpr ((nodup_range.sublist List.filter_sublist).imp λ{a b} k z=>k (inj _ _ z))) B).mpr λd=>?_;simp only[qK,mem_filter,qJ,h]
 .show pairwise_map.mpr ((pairwise_lt_range.sublist List.filter_sublist).imp λ{a b} k=>KW (p:=(x,a)) (q:=(x,b)) (.inr #[rfl,k]))
def SG{m:Nat}{fs:List (Nat->Nat->Bool)}{B:List Wd}{w:Wd}(hm:m<=8)(hf:mP B w)(h5:fs.length=B.length)
  (h:P (.sh (.tup (tD m (dC m (bT fs) (aZ B w) w.length)))) [.sh (.int (m:Int)),.sh (zx B),.sh (.tup (aT m fs)),.sh (.str w)]):pV [.sh (.int (m:Int)),.sh (zx B),.sh (.tup (aT m fs)),.sh (.str w)] P PX:=by
 show Cn rfl rfl ?_;simp! [e_C];show#[by simp only[cQ];lia,?_];rw[Dy (n:=m) rfl];show DY (toD:=nD) (λv U=>∃o5 o6 o7 Y O M J G F:Option S,U=[some (.sh (.int (m:Int))),some (.sh (zx B)),some (.sh (.tup (aT m fs))),some (.sh (.str w)),some (.lst (((iX m (dC m (bT fs) (aZ B w) w.length) v).map pN).map .sh)),o5,o6,o7,Y,O,M,J,G,F]) (List.range m) (λv x h8 D2 U e hI h4 e3 h9 e4=>?_) (λU hI=>?_) #[_,_,_,_,_,_,_,_,_,rfl]
 .obtain⟨o5,o6,o7,Y,O,M,J,G,F,rfl⟩:=hI;let#[hk,hx]:=Kb e;let hr:=Mw (m:=m) (f:=dC m (bT fs) (aZ B w) w.length) v;let hp:v.length*m<=8*8:=mul_le_mul ∅ hm;simp! [mY,length_cons,length_nil,nD];show Ul hf h5 hm hx λL o7 Y O M J G F hO hL=>?_;let hl:=hO.len hf.tw hm hx;simp! [hS,zas];refine Vy (n:=14) (toD:=pN) L (λs=>if decide ((s.1:Int)=(w.length:Int))=true then some (S.sh (pN (x,s.2)))else none) (λs hs l o o' K e2 hK=>?_) λo o'=>?_
  .let:=hK (some (.sh (nD s.1))) (some (.sh (nD s.2)));cases q:decide ((s.1:Int)=(w.length:Int))
   .simp! [dZ,yB,pN,nD,length_cons,length_nil,q];rw[q,q5 ⋯,toList_none,qz]at this;show this
   .simp! [dZ,mM,mX,pN,nD,length_cons,length_nil,q];rw[q,q4 rfl,toList_some]at this;show#[by simp only[cQ];lia,this]
  .have h7:(L.filterMap λs=>if decide ((s.1:Int)=(w.length:Int))=true then some (S.sh (pN (x,s.2)))else none)=((((L.filter λs=>decide (s.1=w.length)).map (·.2)).map λy=>pN (x,y)).map S.sh):=by
    rw[qE,qE]
    clear hL hO hl
    induction L with
    |nil=>rfl
    |cons s L ih=>
     let e1:decide ((s.1:Int)=(w.length:Int))=decide (s.1=w.length):=decide_eq_decide.mpr ∅;cases q:decide (s.1=w.length)
     .rw[List.filterMap_cons_none (by rw[e1,q];rfl),ih,List.filter_cons_of_neg (by rw[q];decide)]
     .rw[List.filterMap_cons_some (b:=S.sh (pN (x,s.2))) (by rw[e1,q];rfl),ih,List.filter_cons_of_pos (by show q)];rfl
   rw[h7];let h3:=Rr (m:=m) (x:=x) (f:=dC m (bT fs) (aZ B w) w.length x) (l:=(L.filter λs=>decide (s.1=w.length)).map (·.2)) hm (pairwise_map.mpr ((List.pairwise_filter.mpr (hO.nd.imp λ{a b} k=>λha hb z=>k (Prod.ext (by rw[qU ha,qU hb]) z))))) λy=>by
    simp only[qK,mem_filter,qT];constructor
    .rintro⟨⟨p,y'⟩,⟨h1,h2⟩,rfl⟩;let h2:p=w.length:=h2;subst h2;show#[HR hx ((hL _ _).mp h1),zaP.mpr ((hL _ _).mp h1)]
    .rintro⟨_,h2⟩;show#[(w.length,y),#[(hL _ _).mpr (zaP.mp h2),rfl],rfl]
   let h6:=length_filter_le (dC m (bT fs) (aZ B w) w.length x) (List.range m);rw[qD]at h6;simp! [zas,show∀l,bQ [.lst l]=cC l from λ_=>rfl,h3,qo];rw[show∀A:List S,A++(((List.range m).filter (dC m (bT fs) (aZ B w) w.length x)).map λy=>pN (x,y)).map S.sh=A++((((List.range m).filter (dC m (bT fs) (aZ B w) w.length x)).map λy=>(x,y)).map pN).map S.sh from λA=>by rw[qE (g:=pN)];rfl,<-map_append,<-map_append,<-Sw];show#[by simp only[cQ];lia,h4 _ #[_,_,_,_,_,_,_,_,_,rfl]]
 .obtain⟨o5,o6,o7,Y,O,M,J,G,F,rfl⟩:=hI;simp! [zas];show h
def Lf{l:List Wd}(h:(l.map List.length).sum<=big):dP [] [.tup (l.map D.str)]=some (.sh (.str l.flatten)):=Tt h
def Ji{n:Nat}:∀l:List Wd,(∀x∈l,x.length<=n)->(l.map List.length).sum<=l.length*n
 |[],_=>by simp
 |a::l,h=>by let h1:=h a (by simp);let h2:=Ji l λx v=>h x (by simp[v]);simp only[qy,sum_cons,qt,Nat.add_mul];lia
def pI(m:Nat)(r:Int):Nat×Nat:=((r/(m:Int)).toNat,(r %(m:Int)).toNat)
def KO{m:Nat}{r:Int}(z:0<=r)(h1:r<(m:Int)*m):(pI m r).1<m/\(pI m r).2<m/\D.tup [.int (r/(m:Int)),.int (r %(m:Int))]=pN (pI m r):=by
 have v:0<(m:Int):=by
  rcases Nat.eq_zero_or_pos m with e|e
  .subst e;simp at h1;lia
  .lia
 let a:=emod_nonneg r (Int.ne_of_gt v);let b:=emod_lt_of_pos r v;let c:0<=r/(m:Int):=Int.ediv_nonneg z ∅;let d:r/(m:Int)<m:=Int.ediv_lt_of_lt_mul v h1;show#[by unfold pI;lia,by unfold pI;lia,?_];unfold pN pI nD;rw[show(((r/(m:Int)).toNat:Nat):Int)=r/(m:Int) by lia,show(((r %(m:Int)).toNat:Nat):Int)=r %(m:Int) by lia]
def uQ(l:List (Nat×Nat))(x y:Nat):Bool:=decide ((x,y)∈l)
def QV{m:Nat}{l:List (Nat×Nat)}(h:∀p∈l,p.1<m/\p.2<m)(p:Nat×Nat):p∈l↔p∈fH m (uQ l):=by rw[zat];unfold uQ;rw[qT];show#[λz=>#[(h p z).1,(h p z).2,z],λz=>z.2.2]
def KN:eJ (.lst []) (.lst [])=some false:=by unfold eJ dD;rw[q5 (by rw[show aP (.lst []) (.lst [])=false from rfl,show dH (.lst [])=1 from rfl];simp)];simp
def Sv{D':Ends}{m:Nat}{a s M:Int}{c:Bool}{B:List Wd}{o7 J:Option S}(ha:0<=a)(hs:1<=s)(F:s<=2147483629)(hm0:0<m)(hm:m<=8)(h6:B.length<=6)(hM:0<=M)(hM2:M<=12)
  (k3:∀(fs:List (Nat->Nat->Bool)) a s o6 o7 J,fs.length=B.length->0<=a->1<=s->s<=2147483629->D'.nx [some (aF a s),some (.sh (.int (m:Int))),some (.sh (zx B)),some (.lst ((aT m fs).map .sh)),some (.sh (.int M)),some (.sh (.bl c)),o6,o7,J]):
  bW (zo 7) eW (B.map D.str) D' [some (aF a s),some (.sh (.int (m:Int))),some (.sh (zx B)),some (.lst []),some (.sh (.int M)),some (.sh (.bl c)),some (.sh (.int 0)),o7,J]:=by
 let hmm:(m:Int)*m<=64:=by let:m*m<=8*8:=mul_le_mul hm hm;let e:((m*m:Nat):Int)=(m:Int)*m:=Int.natCast_mul m m;lia
 let hmm0:0<(m:Int)*m:=Int.mul_pos ∅ ∅;show DY (λh8 U=>∃(fs:List (Nat->Nat->Bool))(a s v:Int)(o7 J:Option S),fs.length=h8.length/\0<=a/\1<=s/\s<=2147483629/\0<=v/\v<m/\U=[some (aF a s),some (.sh (.int (m:Int))),some (.sh (zx B)),some (.lst ((aT m fs).map .sh)),some (.sh (.int M)),some (.sh (.bl c)),some (.sh (.int v)),o7,J]) B (λh8 one post D2 U e hI r1 hct hrt hbk=>?_) (λU hI=>?_) #[[],a,s,0,o7,J,rfl,ha,hs,F,Int.le_refl _,∅,rfl]
 .obtain⟨fs,a,s,v,o7,J,h5,ha,hs,F,L,O,rfl⟩:=hI;let hpl:fs.length<6:=by let:=congrArg List.length e;rw[qq,qt]at this;lia
  let h3:(aT m fs).length=fs.length:=by unfold aT;rw[qo]
  simp! [nE,aF];show Be ha hs F ∅ ∅ λr a1 s1 hr hi k2 hc e4=>?_;simp! [aF];show#[by simp only[cQ];lia,?_];show VA (n:=9) (λr:Int=>S.sh (.int r)) _ (λU=>∃a s,0<=a/\1<=s/\s<=2147483629/\U=[some (aF a s),some (.sh (.int (m:Int))),some (.sh (zx B)),some (.lst ((aT m fs).map .sh)),some (.sh (.int M)),some (.sh (.bl c)),some (.sh (.int v)),some (.sh (.str one)),J]) (λr=>0<=r/\r<(m:Int)*m) (λx hx U A o K hI hA hK=>?_) (λU A o hI hA G=>?_) #[a1,s1,k2,hc,e4,rfl]
  .obtain⟨a,s,ha,hs,F,rfl⟩:=hI;rw[Gc]at hA;simp! [dZ,mM,nC,aF];show Be ha hs F ∅ ∅ λr2 a2 s2 hi hk k1 F h9=>?_;simp! [length_map];show#[by simp only[cQ];lia,hK _ _ _ #[a2,s2,k1,F,h9,rfl] #[hi,hk]]
  .obtain⟨a,s,ha,hs,F,rfl⟩:=hI;rw[Gc]at hA;rw[show(A.map λr:Int=>S.sh (.int r))=(A.map D.int).map S.sh by rw[qE];rfl];let h1:A.length<=12:=by lia
   have tail:∀(A:List Int)(v:Int){Q:Env->Prop}{E:WX}{o:Option S},A.length<=12->(∀r∈A,0<=r/\r<(m:Int)*m)->(∀o,Q [some (aF a s),some (.sh (.int (m:Int))),some (.sh (zx B)),some (.lst ((aT m fs).map .sh)),some (.sh (.int M)),some (.sh (.bl c)),some (.sh (.int v)),some (.sh (.str one)),some (.sh (.lst (A.map D.int))),some (.lst (((A.map (pI m)).map pN).map .sh)),o])->aL (zo 10) dJ gV (A.map D.int) [some (aF a s),some (.sh (.int (m:Int))),some (.sh (zx B)),some (.lst ((aT m fs).map .sh)),some (.sh (.int M)),some (.sh (.bl c)),some (.sh (.int v)),some (.sh (.str one)),some (.sh (.lst (A.map D.int))),some (.lst []),o] Q E:=λA v{Q E o} hA G hQ=>by
    show KE (n:=9) A (λr=>S.sh (pN (pI m r))) (λr hr l o K hl hK=>?_) λo=>?_
    .obtain⟨_,_,e3⟩:=KO (G r hr).1 (G r hr).2;simp! [dZ,mM,nB,length_cons,length_nil,e3];show#[by simp only[cQ];lia,hK _]
    .let:=hQ o;rw[qE,qE]at this;show this
   let h2:∀(A:List Int)(v:Int)(J:Option S),(∀r∈A,0<=r/\r<(m:Int)*m)->0<=v->v<m->D2.nx [some (aF a s),some (.sh (.int (m:Int))),some (.sh (zx B)),some (.lst ((aT m fs).map .sh++[.sh (.tup (tD m (uQ (A.map (pI m)))))])),some (.sh (.int M)),some (.sh (.bl c)),some (.sh (.int v)),some (.sh (.str one)),J]:=λA v J G L O=>by show r1 _ #[fs++[uQ (A.map (pI m))],a,s,v,some (.sh (.str one)),J,by rw[qq,qq,h5];rfl,ha,hs,F,L,O,?_];unfold aT;rw[map_append,map_append];rfl
   let Y:∀A:List Int,A.length<=12->newS ((A.map (pI m)).map pN)=some (.set (aH ((A.map (pI m)).map pN))):=λA hA=>q4 #[by unfold bX;rw[or_eq_true];show .inr (qI.mpr λd hd=>?_);let#[p,_,rfl]:=qK.mp hd;rfl,by rw[qo,qo];lia]
   let h4:∀A:List Int,(∀r∈A,0<=r/\r<(m:Int)*m)->bQ [.set (aH ((A.map (pI m)).map pN))]=some (.lst ((tD m (uQ (A.map (pI m)))).map .sh)):=λA G=>Jd hm (QV λp hp=>by let#[r,hr,rfl]:=qK.mp hp;let#[e1,e2,_]:=KO (G r hr).1 (G r hr).2;show#[e1,e2])
   cases c
   .simp! [e_C];show tail A v h1 G λo=>?_;simp! [zas,Y A h1,h4 A G,length_map,h3];show#[by simp only[cQ];lia,h2 A v _ G L O]
   .cases A with
    |nil=>have s0:newS []=some (.set (aH [])):=Y [] (by simp);let o0:bQ [.set (aH [])]=some (.lst ((tD m (uQ [])).map .sh)):=h4 [] G;simp! [KN,s0,o0,zas,length_map,h3];show#[by simp only[cQ];lia,h2 [] v _ G L O]
    |cons r A=>
     let r3:eJ (.lst (D.int r::A.map D.int)) (.lst [])=some true:=by let:=SO (l:=r::A) (m:=[]);simpa using this
     have hr:=G r qm;simp! [r3,IY (show(0:Int)<=0 by decide) (show(0:Int)<((S.sh (D.int r)::(A.map D.int).map S.sh).length:Nat) by rw[length_cons];lia)];let q0:=emod_nonneg r (show(m:Int)≠0 by lia);let q1:=emod_lt_of_pos r (show(0:Int)<m by lia);let hq:0<=v*(m:Int)+r %(m:Int)/\v*(m:Int)+r %(m:Int)<(m:Int)*m:=by
      let a1:0<=v*(m:Int):=Int.mul_nonneg L ∅;let a2:v*(m:Int)+(m:Int)<=(m:Int)*m:=by let:=Int.mul_le_mul_of_nonneg_right (show v+1<=(m:Int) by lia) (show(0:Int)<=m by lia);rw[Int.add_mul,Int.one_mul]at this;show this
      show#[∅,∅]
     rw[show(S.sh (D.int r)::(A.map D.int).map S.sh).set (Int.toNat 0) (S.sh (D.int (v*(m:Int)+r %(m:Int))))=(((v*(m:Int)+r %(m:Int))::A).map D.int).map S.sh from rfl];generalize v*(m:Int)+r %(m:Int)=z at hq;let h7:∀u∈z::A,0<=u/\u<(m:Int)*m:=λu hu=>(qA.mp hu).elim (λe=>e▸hq) λk=>G u (qk _ k);let z0:=emod_nonneg z (show(m:Int)≠0 by lia);let z1:=emod_lt_of_pos z (show(0:Int)<m by lia);let hb:(z::A).length<=12:=h1;simp! [e_C];show tail (z::A) (z %(m:Int)) hb h7 λo=>?_;let s1:=Y (z::A) hb;let o1:=h4 (z::A) h7;simp only[qy]at s1 o1;simp! [zas,s1,o1,length_map,h3];show#[by simp only[cQ];lia,h2 (z::A) _ _ h7 z0 z1]
 .obtain⟨fs,a,s,v,o7,J,h5,ha,hs,F,L,O,rfl⟩:=hI;show k3 fs a s _ _ _ h5 ha hs F
def IF{m:Nat}{a s:Int}{B:List Wd}(ha:0<=a)(hs:1<=s)(F:s<=2147483629)(hx:0<m)(hm:m<=8)(h6:B.length<=6)(hB:∀x∈B,x.length<=6)
  (h:∀(fs:List (Nat->Nat->Bool)) a' s',fs.length=B.length->0<=a'->1<=s'->s'<=2147483629->P (.sh (.tup (aT m fs))) [aF a' s',.sh (.int (m:Int)),.sh (zx B)]):pX [aF a s,.sh (.int (m:Int)),.sh (zx B)] P PX:=by
 let hc:=Ji B hB;let hi:B.flatten.length<=36:=by rw[List.length_flatten];lia
 let hb:(m:Int)*m<=64:=by let:m*m<=8*8:=mul_le_mul hm hm;let e:((m*m:Nat):Int)=(m:Int)*m:=Int.natCast_mul m m;lia
 have hp:0<(m:Int)*m:=Int.mul_pos ∅ ∅;let hj:=Lf (l:=B) (by simp only[cQ];lia);let hk:fS [.str B.flatten]=some (.set (aH (B.flatten.map λc=>.str [c]))):=zhx ∅;show Cn rfl rfl ?_;simp! [aF,zx,hj,hk,length_cons,length_nil];obtain⟨M,e4,e3,eM⟩:∃M:Int,0<=M/\M<=12/\atI [S.sh (D.int 6),S.sh (D.int 3)] (if decide ((((aH (B.flatten.map λc=>D.str [c])).length:Nat):Int)=1)=true then 1 else 0)=some (.sh (.int M)):=by
  split
  .show#[3,⋯,⋯,rfl]
  .show#[6,⋯,⋯,rfl]
 simp! [eM];show Be ha hs F ⋯ ⋯ λr a1 s1 hr e1 e2 h9 h7=>?_;let Y:∀(M:Int)(c:Bool)(a s:Int){o7 o8:Option S}{D':Ends},0<=M->M<=12->0<=a->1<=s->s<=2147483629->(∀(fs:List (Nat->Nat->Bool)) a s o6 o7 o8,fs.length=B.length->0<=a->1<=s->s<=2147483629->D'.nx [some (aF a s),some (.sh (.int (m:Int))),some (.sh (zx B)),some (.lst ((aT m fs).map .sh)),some (.sh (.int M)),some (.sh (.bl c)),o6,o7,o8])->bW (zo 7) eW (B.map D.str) D' [some (aF a s),some (.sh (.int (m:Int))),some (.sh (zx B)),some (.lst []),some (.sh (.int M)),some (.sh (.bl c)),some (.sh (.int 0)),o7,o8]:=λM c a s{o7 o8 D'} h1 h2 h3 h4 h5 k=>Sv h3 h4 h5 hx hm h6 h1 h2 k;simp! [aF];cases q:decide (r=0)
 .simp! [aF];show Be e2 h9 h7 ⋯ ⋯ λr2 a2 s2 e1 h8 O F z=>?_;simp! [aF];show Y M _ a2 s2 e4 e3 O F z λfs a3 s3 o6 o7 o8 J L G v=>?_;simp! [zas];show h fs a3 s3 J L G v
 .simp! [hj];cases q2:decide ((B.flatten.length:Int)<13)
  .simp! [aF];show Be e2 h9 h7 ⋯ ⋯ λr2 a2 s2 e1 h8 O F z=>?_;simp! [aF];show Y M _ a2 s2 e4 e3 O F z λfs a3 s3 o6 o7 o8 J L G v=>?_;simp! [zas];show h fs a3 s3 J L G v
  .simp! [e_C];cases q3:decide (M=6)
   .simp! [aF];show Be e2 h9 h7 ⋯ ⋯ λr2 a2 s2 e1 h8 O F z=>?_;simp! [aF];show Y M _ a2 s2 e4 e3 O F z λfs a3 s3 o6 o7 o8 J L G v=>?_;simp! [zas];show h fs a3 s3 J L G v
   .simp! [aF];show Be e2 h9 h7 ⋯ ⋯ λr2 a2 s2 e1 h8 O F z=>?_;simp! [aF];show Y 12 _ a2 s2 ⋯ ⋯ O F z λfs a3 s3 o6 o7 o8 J L G v=>?_;simp! [zas];show h fs a3 s3 J L G v
structure Cs where
 m:Nat
 B:List Wd
 fs:List (Nat->Nat->Bool)
 w:Wd
structure Cs.ok(c:Cs):Prop where
 m0:0<c.m
 m8:c.m<=8
 f:mP c.B c.w
 l:c.fs.length=c.B.length
 b:∀x∈c.B,x.length<=12
def yP(c:Cs):List D:=[.int (c.m:Int),zx c.B,.tup (aT c.m c.fs),.str c.w]
def Uh{a s:Int}{O:List Nat}(ha:0<=a)(hs:1<=s)(h8:s<=2147483629)(hc:0<O.length)(hd:O.length<=26)
  (h:∀(c:Cs) a' s',c.ok->0<=a'->1<=s'->s'<=2147483629->P (.sh (.tup (yP c))) [aF a' s',.sh (.str O)]):pW [aF a s,.sh (.str O)] P PX:=by
 show Cn rfl rfl ?_;simp! [aF];show Be ha hs h8 ⋯ ⋯ λr a1 s1 hr hr2 ha1 k1 hp=>?_;obtain⟨m,em⟩:∃m:Nat,1+r=(m:Int):=#[(1+r).toNat,∅]
 simp! [aF,em];show UL ha1 k1 hp hc hd ⋯ ⋯ ⋯ ⋯ λB a2 s2 hB ha2 hi e4=>?_;let h2:lZ O 6 6 B:=hB;let h6:=h2.1;let v:∀x∈B,x.length<=6:=λx G=>(h2.2.2 x G).2.1;let hf:∀w:Wd,w.length<=12->mP B w:=λw hw=>#[h2.2.1,λx G=>(h2.2.2 x G).1,λx G=>by let:=v x G;lia,∅,hw]
 let hfl:=Ji B v;let hfl2:B.flatten.length<=36:=by rw[List.length_flatten];lia
 have hj:=Lf (l:=B) (by simp only[cQ];lia);let h3:fS [.str B.flatten]=some (.set (aH (B.flatten.map λc=>.str [c]))):=zhx ∅;simp! [aF];show Be ha2 hi e4 ⋯ ⋯ λr3 a3 s3 hr3 hr32 ha3 r2 e3=>?_;simp! [aF,zx,RH];obtain⟨z,ez,z0,z5,zB⟩:∃z:Int,(r3*if(!decide (B=[]))=true then 1 else 0)=z/\0<=z/\z<=5/\(B=[]->z=0):=by
  by_cases e:B=[]
  .show#[0,by simp[e],⋯,⋯,λ_=>rfl]
  .show#[r3,by simp[e],∅,∅,λk=>absurd k e]
 rw[ez];show#[by simp only[cQ];lia,?_];show Ob (λk U=>∃(a s:Int)(t:Wd)(o5:Option S),0<=a/\1<=s/\s<=2147483629/\t.length<=6*k/\U=[some (aF a s),some (.sh (.str O)),some (.sh (.int (m:Int))),some (.sh (zx B)),some (.sh (.str t)),o5]) _ (λk x G D2 U hI k3 hl hrt hbk=>?_) (λU hI=>?_) #[a3,s3,[],none,ha3,r2,e3,by simp,rfl]
 .obtain⟨a,s,t,o5,ha,hs,h8,hq,rfl⟩:=hI;let hk:=(qg.mp G).1;rw[Gc]at hk;let hBl:0<B.length:=qP.mpr λe=>by let:=zB e;lia
  simp! [nA,aF,zx,length_map];show Be ha hs h8 ∅ ∅ λr4 a4 s4 k2 hb e1 h7 h1=>?_;let#[y,hy,_,ey]:=Hg (f:=D.str) (l:=B) k2 hb;let:=v y hy;simp! [aF,ey];show k3 _ #[a4,s4,t++y,_,e1,h7,h1,by rw[qq];lia,rfl]
 .obtain⟨a4,s4,t,o5,e1,h7,h1,hq,rfl⟩:=hI;let hl:(aM t none (some 12)).length<=12:=by unfold aM sIx;simp;lia
  simp! [aF];show Be e1 h7 h1 ⋯ ⋯ λr5 a5 s5 hr5 hr52 h9 h5 Y=>?_;simp! [aF];cases q:decide (r5=0)
  .simp! [aF,zx,hj,h3];cases q2:decide ((((aH (B.flatten.map λc=>D.str [c])).length:Nat):Int)=1)
   .simp! [aF,zx];show IF h9 h5 Y ∅ ∅ h6 v λfs a7 s7 L M J F=>?_;simp! [aF,length_cons,length_nil,zx];show h #[m,B,fs,aM t none (some 12)] a7 s7 #[by show 0<m;lia,by show m<=8;lia,hf _ (hl),L,λx G=>by let:=v x G;lia] M J F
   .simp! [aF,zx];show IF h9 h5 Y ∅ ∅ h6 v λfs a7 s7 L M J F=>?_;simp! [aF,length_cons,length_nil,zx];show h #[m,B,fs,aM (aM t none (some 12)) none (some 6)] a7 s7 #[by show 0<m;lia,by show m<=8;lia,hf _ (by let:=Fz (aM t none (some 12)) none (some 6);lia),L,λx G=>by let:=v x G;lia] M J F
  .simp! [aF,zx];show Ud h9 h5 Y hc hd ∅ (λw hw=>#[by let:=v w hw;lia,(h2.2.2 w hw).2.2]) λt6 a6 s6 r1 htc6 hm e2 h4=>?_;simp! [aF,zx,hj,h3];cases q2:decide ((((aH (B.flatten.map λc=>D.str [c])).length:Nat):Int)=1)
   .simp! [aF,zx];show IF hm e2 h4 ∅ ∅ h6 v λfs a7 s7 L M J F=>?_;simp! [aF,length_cons,length_nil,zx];show h #[m,B,fs,t6] a7 s7 #[by show 0<m;lia,by show m<=8;lia,hf _ (r1),L,λx G=>by let:=v x G;lia] M J F
   .simp! [aF,zx];show IF hm e2 h4 ∅ ∅ h6 v λfs a7 s7 L M J F=>?_;simp! [aF,length_cons,length_nil,zx];show h #[m,B,fs,aM t6 none (some 6)] a7 s7 #[by show 0<m;lia,by show m<=8;lia,hf _ (by let:=Fz (t6) none (some 6);lia),L,λx G=>by let:=v x G;lia] M J F
def LC:∀ps:List (Nat×Nat),bC (ps.map pN)<=1
 |[]=>zero_le _
 |p::ps=>by show max (dH (pN p)) (bC (ps.map pN))<=1;let:=LC ps;let h:dH (pN p)=1:=rfl;lia
def Mg:∀ps:List (Nat×Nat),bD (ps.map pN) (ps.map pN)=false
 |[]=>rfl
 |p::ps=>by show(aP (pN p) (pN p)||bD (ps.map pN) (ps.map pN))=false;rw[Mg ps];rfl
def PK(m:Nat)(f:Nat->Nat->Bool):dD (.tup (tD m f)) (.tup (tD m f))=some true:=by unfold dD;let h1:aP (.tup (tD m f)) (.tup (tD m f))=false:=Mg (fH m f);let h2:dH (.tup (tD m f))=bC (tD m f)+1:=rfl;let v:bC (tD m f)<=1:=LC (fH m f);rw[h1,h2,q5 (by simp;lia)];simp
def PB(m:Nat)(f:Nat->Nat->Bool):eJ (.tup (tD m f)) (.tup (tD m f))=some false:=by unfold eJ;rw[PK];rfl
def Ry{m:Nat}{f:Nat->Nat->Bool}(z:m<=8):bV (.tup (tD m f))=true:=by
 let G:m*m<=8*8:=mul_le_mul z z;let L:=EY m f;show(Sq (n:=100) (m:=1) (λd F=>?_) ⋯ ∅).2;let#[p,B,rfl]:=qK.mp F;let#[h1,h2,_]:=zat.mp B;let v:∀n:Nat,n<m->eR (nD n)=true:=λn J=>by show(decide (-1000000000000<(n:Int))&&decide ((n:Int)<1000000000000))=true;rw[qR ∅,qR ∅];rfl
 show#[?_,q8 _,by show 41+1+(41+1+0)<=100;decide];show(eR (nD p.1)&&(eR (nD p.2)&&true))=true;rw[v _ h1,v _ h2];rfl
def Lc{α β:Type}{h:α->Option β}:∀{l:List α},(∀x∈l,h x=none)->l.filterMap h=[]
 |[],_=>rfl
 |x::l,e=>by rw[List.filterMap_cons_none (e x qm),Lc λy v=>e y (qk _ v)]
open Classical in
def OV{m:Nat}{s:Nat×Nat}{f:Nat->Nat->Bool}(h1:s.1<m)(h2:s.2<m)(z:f s.1 s.2=true):pS (.tup [.int (s.1:Int),.int (s.2:Int)]) (.tup (tD m f))=some true:=by
 show(if(tD m f).any (λd=>aP d (.tup [.int (s.1:Int),.int (s.2:Int)])||decide (30<dH d))then none else some (decide (pN s∈tD m f)))=_;rw[q5]
 .congr 1;show qR (qK.mpr #[s,zat.mpr #[h1,h2,z],rfl])
 .intro h;let#[d,v,e]:=any_eq_true.mp h;let#[p,_,rfl]:=qK.mp v;cases e
def gn(c:Cs):Nat->Nat->Bool:=dC c.m (bT c.fs) (aZ c.B c.w) c.w.length
def pK(c:Cs):D:=.tup (yP c++[.tup (tD c.m (gn c))])
def gp{s0 s1 s2 s3 s4 s5 s6 Y O M L J G F B z v:Option S}{U:Env}{Q:WQ}{E:WX}{d:D}:zk 17 (s0::s1::s2::s3::s4::s5::s6::Y::O::M::L::J::G::F::B::z::v::some (.sh d)::U) Q E=Q (.v (.sh d)) (s0::s1::s2::s3::s4::s5::s6::Y::O::M::L::J::G::F::B::z::v::some (.sh d)::U):=rfl
def fc{s0 s1 s2 s3 s4 s5 s6 s7 Y O M L J G F B z u v:Option S}{U:Env}:List.set (s0::s1::s2::s3::s4::s5::s6::s7::Y::O::M::L::J::G::F::B::z::u::U) 17 v=s0::s1::s2::s3::s4::s5::s6::s7::Y::O::M::L::J::G::F::B::z::v::U:=rfl
def Eo:∀ns:List Int,ns.length<=63->lC [.sh (.lst (ns.map .int))] (λs _=>s=.sh (.bl true)) λ_ _=>False:=by
 intro ns hl;show Cn rfl rfl ?_;simp! [length_map];show Mu (k:=0) ∅ λa s ha hs hi=>?_;simp! [aF];show Be ha hs hi ⋯ ⋯ λr a1 s1 hr hr2 ha1 hs1 hp=>?_;simp! [aF];show Vs ha1 hs1 hp ∅ ∅ λh7 a2 s2 hcol hso hle ha2 hi hs22=>?_;let hc0:0<h7.length:=∅
 let r3:h7.length<=26:=∅
 simp! [length_map];obtain⟨n,en,hn3,hn6⟩:∃n:Nat,(if(if(ns.length:Int)<6 then(ns.length:Int)else 6)>3 then if(ns.length:Int)<6 then(ns.length:Int)else 6 else 3)=(n:Int)/\3<=n/\n<=6:=by
  by_cases h6:(ns.length:Int)<6
  .rw[q4 h6];by_cases h3:(ns.length:Int)>3
   .show#[ns.length,q4 h3,∅,∅]
   .show#[3,q5 h3,⋯,⋯]
  .show#[6,by rw[q5 h6];rfl,⋯,⋯]
 rw[en];show#[by simp only[cQ];lia,?_];rw[show fromTo 1 ((n:Int)-1).toNat=(List.range' 1 (n-1)).map λ(k:Nat)=>D.int (k:Int) from HM (a:=1) (n:=n) rfl rfl];show DY (λh8 U=>∃(O:List Cs)(o4 o5 o6 o7 o8 Y G F B v M L:Option S),(∀c∈O,c.ok)/\O.length=h8.length/\U=[some (.sh (.lst (ns.map .int))),some (aF a2 s2),some (.sh (.str h7)),some (.lst ((O.map pK).map .sh)),o4,o5,o6,o7,o8,Y,G,F,B,v,M,L]) (List.range' 1 (n-1)) (λh8 i post D2 U e hI hnx hct hrt hbk=>?_) (λU hI=>?_) #[[],_,_,_,_,_,_,_,_,_,_,_,_,λ_ z=>(nomatch z),rfl,rfl]
 .obtain⟨O,o4,o5,o6,o7,o8,Y,G,F,B,v,M,L,r1,r2,rfl⟩:=hI;let hpl:h8.length<6:=by let:=congrArg List.length e;rw[qq,qt,List.length_range']at this;lia
  simp! [mU];show Mu (k:=(i:Int)) ∅ λa3 s3 ha3 k3 e4=>?_;simp! [aF];show Uh ha3 k3 e4 hc0 r3 λc a4 s4 J ha4 hs4 hs24=>?_;simp! [yP,length_cons,length_nil];show SG J.m8 J.f J.l ?_;simp! [length_cons,length_nil,length_map];show#[by simp only[cQ];lia,?_];rw[show(O.map pK).map S.sh++[S.sh (D.tup [.int (c.m:Int),zx c.B,.tup (aT c.m c.fs),.str c.w,.tup (tD c.m (dC c.m (bT c.fs) (aZ c.B c.w) c.w.length))])]=((O++[c]).map pK).map S.sh by rw[map_append,map_append];rfl];let c1:=Fz ((O++[c]).map pK) (some (-2)) none;let c2:=Fz ((O++[c]).map pK) none (some 1);rw[qo,qq,qB]at c1 c2;simp! [zas];let h5:∀x∈O++[c],x.ok:=λx hx=>(qx.mp hx).elim (r1 x) λz=>qu.mp z▸J;rw[Md,Md,<-map_append];let hC:∀x∈aM (O++[c]) (some (-2)) none++aM (O++[c]) none (some 1),x.ok:=λx hx=>(qx.mp hx).elim (λz=>h5 x (FB z)) λz=>h5 x (FB z);generalize aM (O++[c]) (some (-2)) none++aM (O++[c]) none (some 1)=C at hC;show DY (λ_ U=>∃Y G F B v:Option S,U=[some (.sh (.lst (ns.map .int))),some (aF a2 s2),some (.sh (.str h7)),some (.lst (((O++[c]).map pK).map .sh)),some (.sh (.int (i:Int))),some (.sh (.int (c.m:Int))),some (.sh (zx c.B)),some (.sh (.tup (aT c.m c.fs))),some (.sh (.str c.w)),Y,G,F,B,v,M,L]) C (λe1 x h9 D3 U e2 hI h4 hq hb k1=>?_) (λU hI=>?_) #[_,_,_,_,_,rfl]
  .obtain⟨Y,G,F,B,v,rfl⟩:=hI;let hx:=hC x (by rw[<-e2];simp);simp! [mW,pK,yP,length_cons,length_nil];show JG hx.m8 hx.f hx.l ?_;simp! [Ry hx.m8,gn];show h4 _ #[_,_,_,_,_,rfl]
  .obtain⟨Y,G,F,B,v,rfl⟩:=hI;simp! [zx,JY];refine DY (λ_ U=>∃Y G F B v M L:Option S,U=[some (.sh (.lst (ns.map .int))),some (aF a2 s2),some (.sh (.str h7)),some (.lst (((O++[c]).map pK).map .sh)),some (.sh (.int (i:Int))),some (.sh (.int (c.m:Int))),some (.sh (zx c.B)),some (.sh (.tup (aT c.m c.fs))),some (.sh (.str c.w)),Y,G,F,B,v,M,L]) (List.range c.B.length) (λe1 k h9 D3 U e2 hI h4 hq hb k1=>?_) (λU hI=>?_) #[_,_,_,_,_,_,_,rfl]
   .obtain⟨Y,G,F,B,v,M,L,rfl⟩:=hI;let hk:k<c.B.length:=(Kb e2).2;let hd:((c.B[k]?).getD [])∈c.B:=by rw[qh hk];exact getElem_mem hk
    let hm:mP c.B ((c.B[k]?).getD []):=#[J.f.nd,J.f.ne,J.f.le,J.f.six,J.b _ hd]
    let e3:dX ((c.B[k]?).getD []) 0 (0+((c.B[k]?).getD []).length)=(c.B[k]?).getD []:=by unfold dX;simp
    simp! [mV,length_cons,length_nil];show JG J.m8 hm J.l ?_;simp! [Ju (m:=c.m) (show k<c.fs.length by rw[J.l];show hk)];show KF (n:=16) (toD:=pN) (fH c.m (bT c.fs k)) (λ_=>none) (λt ht l o K hl2 hK=>?_) λo=>?_
    .obtain⟨h1,h2,h3⟩:=zat.mp ht;let k2:dC c.m (bT c.fs) (aZ c.B ((c.B[k]?).getD [])) ((c.B[k]?).getD []).length t.1 t.2=true:=zaP.mpr (by let:=Sp.step (m:=c.m) (g:=bT c.fs) (x:=t.1) (t:=(0,0+((c.B[k]?).getD []).length,k)) (Lh hm hk e3) .nil h2 h3;rw[zero_add]at this;show this)
     simp! [gp,fc,dZ,yB,pN,nD,OV (s:=t) h1 h2 k2];let:=hK (some (.sh (pN t)));simp only[Option.toList,qz]at this;show this
    .rw[Lc λ_ _=>rfl];simp! [KN];show h4 _ #[_,_,_,_,_,_,_,rfl]
   .obtain⟨Y,G,F,B,v,M,L,rfl⟩:=hI;simp! [e_C];show JG J.m8 #[J.f.nd,J.f.ne,J.f.le,J.f.six,by simp] J.l ?_;simp! [e_C];show#[by let:=J.m8;simp only[cQ];lia,?_];rw[Dy (n:=c.m) rfl];refine KE (n:=16) (toD:=nD) (List.range c.m) (λx=>S.sh (pN (x,x))) (λx hx l o K hl hK=>?_) λo=>?_
    .rw[qD]at hl;let:=J.m8;simp! [gp,fc,dZ,mM,mT,length_cons,length_nil];show#[by simp only[cQ];lia,hK _]
    .rw[show((List.range c.m).map λx=>S.sh (pN (x,x)))=(tD c.m eqT).map S.sh by rw[<-KQ,qE];rfl];let h64:c.m*c.m<=8*8:=mul_le_mul J.m8 J.m8;let hl:=EY c.m eqT;rw[show aZ c.B []=[] from rfl,show tD c.m (dC c.m (bT c.fs) [] (List.length (α:=Nat) []))=tD c.m eqT from Oc];simp! [zas,PB];show hnx _ #[O++[c],_,_,_,_,_,_,_,_,_,_,_,_,h5,by rw[qq,qq,r2];rfl,rfl]
 .obtain⟨O,o4,o5,o6,o7,o8,Y,G,F,B,v,M,L,r1,r2,rfl⟩:=hI;simp! [e_C]
end pu
end Law
section
set_option maxHeartbeats 4000000
namespace Law
open PySem PySem.Spec PyProof.Rows L2 FL
local macro_rules
 |`(tactic|trivial)=>`(tactic|first|exact Or.inl rfl|exact Or.inr rfl)
@[inline]def top(i:Nat):Stmt:=PySem.Challenge.pw_walktold_k17_sure_pairs.main.body.getD i (.Pass #[0,0,0,0])
abbrev ax:Stmt:=top 1
def jb:List Str:=["board","word"]
abbrev br:List Str:=["board","word"]
def Kt:aJ jb br (aA ax):=CA
abbrev aw:Stmt:=top 3
def ja:List Str:=["pairs","ends","begin","end"]
abbrev bq:List Str:=["pairs"]
def Fb:aJ ja bq (aA aw):=CA
abbrev av:Stmt:=top 4
def iz:List Str:=["one","other","ends"]
abbrev bp:List Str:=["one","other"]
def Hx:aJ iz bp (aA av):=CA
abbrev au:Stmt:=top 6
def iy:List Str:=["many","board","tables","word","told","i","j","k","led"]
abbrev bo:List Str:=["many","board","tables","word"]
def DL:aJ iy bo (aA au):=CA
abbrev ar:Stmt:=top 8
def ix:List Str:=["_law_script","_law_k","_law_cell","_law_seed"]
abbrev bj:List Str:=["_law_script","_law_k"]
def Ej:aJ ix bj (aA ar):=CA
abbrev aq:Stmt:=top 9
def iw:List Str:=["_law_box_here","_law_many","_law_digit","_law_one"]
abbrev bh:List Str:=["_law_box_here","_law_many"]
def Gg:aJ iw bh (aA aq):=CA
abbrev ao:Stmt:=top 10
def iu:List Str:=["_law_box_here","_law_many","_law_left"]
abbrev bg:List Str:=["_law_box_here","_law_many"]
def Hw:aJ iu bg (aA ao):=CA
abbrev ak:Stmt:=top 11
def ir:List Str:=["_law_box_here","_law_colours_here","_law_most","_law_many"]
abbrev bc:List Str:=["_law_box_here","_law_colours_here","_law_most"]
def Hv:aJ ir bc (aA ak):=CA
abbrev aj:Stmt:=top 12
def iq:List Str:=["_law_box_here","_law_colours_here","_law_board_here","_law_one","_law_kind","_law_colour","_law_at"]
abbrev bb:List Str:=["_law_box_here","_law_colours_here","_law_board_here"]
def Ei:aJ iq bb (aA aj):=CA
abbrev ai:Stmt:=top 13
def il:List Str:=["_law_box_here","_law_colours_here","_law_many","_law_most","_law_found","_law_k","_law_word_here"]
abbrev ba:List Str:=["_law_box_here","_law_colours_here","_law_many","_law_most"]
def Eh:aJ il ba (aA ai):=CA
abbrev rX:Stmt:=top 14
def cg:List Str:=["_law_board_here","_law_text","_law_p","_law_most","_law_found","_law_one"]
abbrev sO:List Str:=["_law_board_here","_law_text","_law_p","_law_most"]
def Ek:aJ cg sO (aA rX):=CA
abbrev rW:Stmt:=top 15
def cf:List Str:=["_law_box_here","_law_board_here","_law_colours_here","_law_most","_law_text","_law_p","_law_turn","_law_some","_law_one","_law_goal","_law_at"]
abbrev sN:List Str:=["_law_box_here","_law_board_here","_law_colours_here","_law_most"]
def AM:aJ cf sN (aA rW):=CA
abbrev rV:Stmt:=top 16
def cc:List Str:=["_law_box_here","_law_board_here","_law_colours_here","_law_most","_law_kind","_law_found"]
abbrev sM:List Str:=["_law_box_here","_law_board_here","_law_colours_here","_law_most"]
def Dq:aJ cc sM (aA rV):=CA
abbrev rT:Stmt:=top 17
def cb:List Str:=["_law_box_here","_law_many","_law_board_here","_law_found","_law_most","_law_chained","_law_last","_law_one","_law_some"]
abbrev sL:List Str:=["_law_box_here","_law_many","_law_board_here"]
def Bd:aJ cb sL (aA rT):=CA
abbrev rS:Stmt:=top 18
def bz:List Str:=["_law_box_here","_law_colours_here","_law_many","_law_board_here","_law_word_here","_law_turn"]
abbrev sJ:List Str:=["_law_box_here","_law_colours_here"]
def Bc:aJ bz sJ (aA rS):=CA
abbrev rR:Stmt:=top 19
def bx:List Str:=["_law_many","_law_board_here","_law_tables_here","_law_word_here","_law_found","_law_x","_law_here","_law_at","_law_p","_law_room","_law_k","_law_one","_law_a","_law_b"]
abbrev sI:List Str:=["_law_many","_law_board_here","_law_tables_here","_law_word_here"]
def AL:aJ bx sI (aA rR):=CA
abbrev rQ:Stmt:=top 20
def bw:List Str:=["_law_script","_law_box_here","_law_colours_here","_law_met","_law_k","_law_many","_law_board_here","_law_tables_here","_law_word_here","_law_rooms","_law_one","_law_pairs","_law_text","_law_due_here","_law_at","_law_told"]
abbrev sH:List Str:=["_law_script"]
def Ay:aJ bw sH (aA rQ):=CA
structure Txt(K:W.Frag)(mg:Str->Option Value)(af:Nat->Addr):Prop where
 t_0:Tx K mg (af 0) "stretches" ax br
 t_1:Tx K mg (af 1) "ends_by_begin" aw bq
 t_2:Tx K mg (af 2) "over" av bp
 t_3:Tx K mg (af 3) "sure" au bo
 t_4:Tx K mg (af 4) "_law_box" ar bj
 t_5:Tx K mg (af 5) "_law_take" aq bh
 t_6:Tx K mg (af 6) "_law_colours" ao bg
 t_7:Tx K mg (af 7) "_law_word" ak bc
 t_8:Tx K mg (af 8) "_law_near" aj bb
 t_9:Tx K mg (af 9) "_law_board" ai ba
 t_10:Tx K mg (af 10) "_law_moves" rX sO
 t_11:Tx K mg (af 11) "_law_led" rW sN
 t_12:Tx K mg (af 12) "_law_any_word" rV sM
 t_13:Tx K mg (af 13) "_law_tables" rT sL
 t_14:Tx K mg (af 14) "_law_case" rS sJ
 t_15:Tx K mg (af 15) "_law_due" rR sI
 t_16:Tx K mg (af 16) "law" rQ sH
 n_enumerate:mg "enumerate"=none
 n_int:mg "int"=none
 n_len:mg "len"=none
 n_list:mg "list"=none
 n_max:mg "max"=none
 n_min:mg "min"=none
 n_range:mg "range"=none
 n_repr:mg "repr"=none
 n_set:mg "set"=none
 n_sorted:mg "sorted"=none
 n_tuple:mg "tuple"=none
section
variable{P:Program}{w:World}{K:W.Frag}{mg:Str->Option Value}{base:Heap}{af:Nat->Addr}
def Kz(T:Txt K mg af):iL P w K mg base af 1 0 br (eN K zN 2):=CI T.t_0 Kt λ_ _ _ _ _ _ v=>Aw (BL (GA v (by rfl) T.n_sorted GG (Aa (Pw (vars:=["i","k","one"]) rfl (MM v) (by rfl) (AD (by kernel_rfl)) rfl (EN (by rfl) T.n_range (AY (by rfl) T.n_len (Aa (fw 1) Ab))) (λ_ _ _=>CP 3) (λ_ _ _=>ET) (λ_ _ _=>Je (by rfl) (by rfl) T.n_enumerate Kc (fw 0)) (λ_ _ _=>DF (by rfl) (AW (CP 4) (AW (CP 5) DC))) (λ_ _ _=>Ig rfl (AV (λ_ _=>CM (CO v)) CL (HZ (fw 1) (fw 3) (AN (fw 3) (AY (by rfl) T.n_len (Aa (fw 5) Ab)))) (fw 5) (Ac _))) (λ_ _ _=>Ck (Aa (fw 3) (Aa (AN (fw 3) (AY (by rfl) T.n_len (Aa (fw 5) Ab))) (Aa (fw 4) Ab))))) Ab)))
def Ky(T:Txt K mg af):iL P w K mg base af 1 1 bq (eN K yZ 1):=CI T.t_1 Fb λ_ _ _ _ _ _ v=>Aj (Ax Qn (Ah 1 Fb.nd))
  (Aj (DE (by rfl) (DW (fw 0)) (DF (by rfl) (AW (Ah 2 Fb.nd) (AW (Ah 3 Fb.nd) DC))) (Aw (Fx (UU (j:=1) (Fu v) (fw 1) (fw 2) (fw 3) #[rfl,rfl,rfl,rfl]))))
  (Aw (BL (fw 1))))
def HB(T:Txt K mg af):iL P w K mg base af 1 4 bj (eN K yC 2):=CI T.t_4 Ej λ_ _ _ _ _ _ v=>Aj (Ax (AN (Ea Ag (fw 1)) Ag) (Ah 2 Ej.nd))
  (Aj (BM (AV (λ_ _=>IR) Jp (fw 1) (AY (by rfl) T.n_len (Aa (fw 0) Ab)) (Ac _)) (Aw (Ax (Bm (fw 0) (fw 1)) (Ah 2 Ej.nd))) (Aw (BM (AV (λ_ _=>GW) Hc (AY (by rfl) T.n_len (Aa (fw 0) Ab)) Ag (Ac _)) (Aw (Ax (AN (fw 2) (Ea (Eb (Bm (fw 0) (Eb (fw 1) (AY (by rfl) T.n_len (Aa (fw 0) Ab)))) Ag) Ag)) (Ah 2 Ej.nd))) BN)))
  (Aj (Ax (AN (Eb (AN (Ea (Eb (fw 2) Ag) Ag) (Ea Ag (fw 1))) Ag) Ag) (Ah 3 Ej.nd))
  (Aw (BL (CN (Aa (Bm (CN (Aa Ag (Aa (fw 2) Ab))) (GZ (by rfl) T.n_int GY (Aa (Gx (λ_ _=>Lm) LQ (fw 2) (OB Ag Ag) (Ac _)) Ab))) (Aa (fw 3) Ab)))))))
def Az(T:Txt K mg af):iL P w K mg base af 1 5 bh (eN K eF 2):=CI T.t_5 Gg λ_ _ _ _ _ _ v=>Aj (BM (AV (λ_ _=>GW) Hc (Bm (fw 0) Ag) Ag (Ac _)) (Aj (Ax (Eb (Bm (fw 0) Ag) (fw 1)) (Ah 2 Gg.nd))
  (Aj (JD (j:=0) (fw 0) Ag (Jv (Bm (fw 0) Ag) (fw 1)))
  (Aw (BL (fw 2))))) BN)
  (Aj (Ax (Eb (Ea (Bm (fw 0) Ag) Ag) Ag) (Ah 3 Gg.nd))
  (Aj (JD (j:=0) (fw 0) Ag (AN (Eb (AN (Ea (fw 3) Ag) Ag) Ag) Ag))
  (Aw (BL (Eb (Jv (AN (Ea (fw 3) Ag) (Bm (fw 0) Ag)) Ag) (fw 1))))))
def HI(T:Txt K mg af):iL P w K mg base af 1 10 sO (eN K rA 4):=CI T.t_10 Ek λ_ _ _ _ _ _ v=>Aj (Ax (CN Ab) (Ah 4 Ek.nd))
  (Aj (DE (by rfl) (DW (fw 0)) (Ah 5 Ek.nd) (Aj (BM (FP (Fw (AV (λ_ _=>CM (CO v)) CL (HZ (fw 1) (fw 2) (AN (fw 2) (AY (by rfl) T.n_len (Aa (fw 5) Ab)))) (EV (fw 5) (HX (AY (by rfl) T.n_len (Aa (fw 1) Ab)) (fw 2))) (Ac _)) (FZ (AV (λ_ _=>Qt) Rq (AN (fw 2) (AY (by rfl) T.n_len (Aa (fw 5) Ab))) (fw 3) (Ac _))))) (Aw (Fx (GJ (j:=4) (fw 4) (Ck (Aa (fw 5) (Aa (AN (fw 2) (AY (by rfl) T.n_len (Aa (fw 5) Ab))) Ab)))))) BN)
  (Aw (BM (FP (Fw (AV (λ_ _=>Lm) LQ (fw 2) (AY (by rfl) T.n_len (Aa (fw 5) Ab)) (Ac _)) (FZ (AV (λ_ _=>CM (CO v)) CL (HZ (fw 1) (HX (fw 2) (AY (by rfl) T.n_len (Aa (fw 5) Ab))) (fw 2)) (fw 5) (Ac _))))) (Aw (Fx (GJ (j:=4) (fw 4) (Ck (Aa (fw 5) (Aa (HX (fw 2) (AY (by rfl) T.n_len (Aa (fw 5) Ab))) Ab)))))) BN))))
  (Aw (BL (fw 4))))
def HD(T:Txt K mg af):iL P w K mg base af 1 15 sI (eN K pV 4):=CI T.t_15 AL λ_ _ _ _ _ _ v=>Aj (Ax (CN Ab) (Ah 4 AL.nd))
  (Aj (DE (by rfl) (EN (by rfl) T.n_range (fw 0)) (Ah 5 AL.nd) (Aj (Ax (CN (Aa (Ck (Aa Ag (Aa (fw 5) Ab))) Ab)) (Ah 6 AL.nd))
  (Aj (Ax Ag (Ah 7 AL.nd))
  (Aj (SK (AV (λ_ _=>IR) Jp (fw 7) (AY (by rfl) T.n_len (Aa (fw 6) Ab)) (Ac _)) (Aj (Ax (Bm (fw 6) (fw 7)) (DF (by rfl) (AW (Ah 8 AL.nd) (AW (Ah 9 AL.nd) DC))))
  (Aj (DE (by rfl) (Je (by rfl) (by rfl) T.n_enumerate Kc (fw 1)) (DF (by rfl) (AW (Ah 10 AL.nd) (AW (Ah 11 AL.nd) DC))) (Aw (BM (AV (λ_ _=>CM (CO v)) CL (HZ (fw 3) (fw 8) (AN (fw 8) (AY (by rfl) T.n_len (Aa (fw 11) Ab)))) (fw 11) (Ac _)) (Aw (DE (by rfl) (DW (Bm (fw 2) (fw 10))) (DF (by rfl) (AW (Ah 12 AL.nd) (AW (Ah 13 AL.nd) DC))) (Aw (BM (FP (Fw (AV (λ_ _=>CM (CO v)) CL (fw 12) (fw 9) (Ac _)) (FZ (AV (λ_ _=>JO (DH v)) Kj (Ck (Aa (AN (fw 8) (AY (by rfl) T.n_len (Aa (fw 11) Ab))) (Aa (fw 13) Ab))) (fw 6) (by with_unfolding_all rfl))))) (Aw (Fx (GJ (j:=6) (fw 6) (Ck (Aa (AN (fw 8) (AY (by rfl) T.n_len (Aa (fw 11) Ab))) (Aa (fw 13) Ab)))))) BN)))) BN)))
  (Aw (Ax (AN (fw 7) Ag) (Ah 7 AL.nd))))))
  (Aw (Fx (TF (j:=4) (fw 4) (GA v (by rfl) T.n_sorted GG (Aa (FQ (vars:=["_law_p","_law_room"]) rfl (by rfl) (AD (by kernel_rfl)) rfl (DW (fw 6)) (λ_ _ _=>DF (by rfl) (AW (CP 15) (AW (CP 16) DC))) (λ_ _ _=>Ig rfl (AV (λ_ _=>CM (CO v)) CL (fw 15) (AY (by rfl) T.n_len (Aa (fw 3) Ab)) (Ac _))) (λ_ _ _=>Ck (Aa (fw 5) (Aa (fw 16) Ab)))) Ab)))))))))
  (Aw (BL (FD (by rfl) T.n_tuple FC (Aa (fw 4) Ab)))))
def Kx(T:Txt K mg af):iL P w K mg base af 2 2 bp (eN K yY 2):=CI T.t_2 Hx λ_ _ _ _ _ _ v=>Aj (Ax (Fv (AF [true] T.t_1 (Ky T) v (Aa (fw 1) Ab))) (Ah 2 Hx.nd))
  (Aw (BL (FD (by rfl) T.n_tuple FC (Aa (GA v (by rfl) T.n_sorted GG (Aa (OE (vars:=["x","y","z"]) rfl (Fu v) (MM v) (by rfl) (AD (by kernel_rfl)) rfl (DW (fw 0)) (λ_ _ _=>DF (by rfl) (AW (CP 4) (AW (CP 5) DC))) (λ_ _ _=>ET) (λ_ _ _=>DW (Ib (Fu v) (fw 2) (fw 5) (CN Ab) #[rfl,rfl,rfl,rfl])) (λ_ _ _=>CP 6) (λ_ _ _=>ET) (λ_ _ _=>Ck (Aa (fw 4) (Aa (fw 6) Ab)))) Ab)) Ab))))
def Kw(T:Txt K mg af):iL P w K mg base af 2 6 bg (eN K yX 2):=CI T.t_6 Hw λ_ _ _ _ _ _ v=>Aj (Ax (Tj (by rfl) (by rfl) T.n_list Rb (Aa (DX (by rfl) ⋯) Ab)) (Ah 2 Hw.nd))
  (Aw (BL (He (DX (by rfl) ⋯) (Aa (GA v (by rfl) T.n_sorted GG (Aa (FQ (vars:=["_law_k"]) rfl (by rfl) (AD (by kernel_rfl)) rfl (EN (by rfl) T.n_range (fw 1)) (λ_ _ _=>CP 4) (λ_ _ _=>ET) (λ_ _ _=>Fv (RC (j:=2) (fw 2) (AF [true,true] T.t_5 (Az T) v (Aa (fw 0) (Aa (AY (by rfl) T.n_len (Aa (fw 2) Ab)) Ab)))))) Ab)) Ab))))
def Gi(T:Txt K mg af):iL P w K mg base af 2 7 bc (eN K uZ 3):=CI T.t_7 Hv λ_ _ _ _ _ _ v=>Aj (Ax (Ea (AF [true,true] T.t_5 (Az T) v (Aa (fw 0) (Aa (AN (fw 2) Ag) Ab))) (GZ (by rfl) T.n_int GY (Aa (Gx (λ_ _=>EL (DH v)) ES (fw 1) (DX (by rfl) ⋯) (Ac _)) Ab))) (Ah 3 Hv.nd))
  (Aw (BL (He (DX (by rfl) ⋯) (Aa (FQ (vars:=["_law_k"]) rfl (by rfl) (AD (by kernel_rfl)) rfl (EN (by rfl) T.n_range (fw 3)) (λ_ _ _=>CP 5) (λ_ _ _=>ET) (λ_ _ _=>Bm (fw 1) (AF [true,true] T.t_5 (Az T) v (Aa (fw 0) (Aa (AY (by rfl) T.n_len (Aa (fw 1) Ab)) Ab))))) Ab))))
def Kv(T:Txt K mg af):iL P w K mg base af 2 8 bb (eN K yW 3):=CI T.t_8 Ei λ_ _ _ _ _ _ v=>Aj (Ax (Bm (fw 2) (AF [true,true] T.t_5 (Az T) v (Aa (fw 0) (Aa (AY (by rfl) T.n_len (Aa (fw 2) Ab)) Ab)))) (Ah 3 Ei.nd))
  (Aj (Ax (AF [true,true] T.t_5 (Az T) v (Aa (fw 0) (Aa Ag Ab))) (Ah 4 Ei.nd))
  (Aj (Ax (Bm (fw 1) (AF [true,true] T.t_5 (Az T) v (Aa (fw 0) (Aa (AY (by rfl) T.n_len (Aa (fw 1) Ab)) Ab)))) (Ah 5 Ei.nd))
  (Aj (Ax (AF [true,true] T.t_5 (Az T) v (Aa (fw 0) (Aa (AY (by rfl) T.n_len (Aa (fw 3) Ab)) Ab))) (Ah 6 Ei.nd))
  (Aw (BL (Bm (CN (Aa (EV (fw 3) (AN (fw 6) Ag)) (Aa (HW (fw 3) (fw 6)) (Aa (AN (fw 5) (fw 3)) (Aa (AN (fw 3) (fw 5)) (Aa (AN (fw 3) (fw 3)) Ab)))))) (fw 4)))))))
def HH(T:Txt K mg af):iL P w K mg base af 2 11 sN (eN K pZ 4):=CI T.t_11 AM λ_ _ _ _ _ _ v=>Aj (Ax (Ck (Aa (DX (by rfl) ⋯) (Aa Ag Ab))) (DF (by rfl) (AW (Ah 4 AM.nd) (AW (Ah 5 AM.nd) DC))))
  (Aj (DE (by rfl) (EN (by rfl) T.n_range (AN Ag (AF [true,true] T.t_5 (Az T) v (Aa (fw 0) (Aa Ag Ab))))) (Ah 6 AM.nd) (Aj (Ax (Fv (AF [true,true,true,true] T.t_10 (HI T) v (Aa (fw 1) (Aa (fw 4) (Aa (fw 5) (Aa (fw 3) Ab)))))) (Ah 7 AM.nd))
  (Aj (BM (AV (λ_ _=>GW) Hc (fw 6) Ag (Ac _)) (Aw (Oy (Nw (i:=7) ⋯ (λj z=>Jz AM.nd z rfl) rfl (by rfl) (by rfl) (vars:=["_law_move"]) rfl (by rfl) (AD (by kernel_rfl)) rfl (DW (fw 7)) (λ_ _ _=>CP 12) (λ_ _ _=>Ig rfl (AV (λ_ _=>GW) Hc (Bm (fw 12) Ag) (fw 5) (Ac _))) (λ_ _ _=>fw 12)))) BN)
  (Aw (BM (AV (λ_ _=>EL (DH v)) ES (fw 7) (CN Ab) (Ac _)) (Aj (Ax (Bm (fw 7) (AF [true,true] T.t_5 (Az T) v (Aa (fw 0) (Aa (AY (by rfl) T.n_len (Aa (fw 7) Ab)) Ab)))) (DF (by rfl) (AW (Ah 8 AM.nd) (AW (Ah 9 AM.nd) DC))))
  (Aj (BM (AV (λ_ _=>GW) Hc (fw 9) (fw 5) (Ac _)) (Aw (Ax (AN (AN (EV (fw 4) (fw 5)) (fw 8)) (HW (fw 4) (fw 9))) (Ah 4 AM.nd))) BN)
  (Aw (Ax (fw 9) (Ah 5 AM.nd))))) BN)))))
  (Aj (BM (FP (Fw (AV (λ_ _=>EL (DH v)) ES (fw 4) (DX (by rfl) ⋯) (Ac _)) (FZ (AV (λ_ _=>CM (CO v)) CL (AF [true,true] T.t_5 (Az T) v (Aa (fw 0) (Aa Ag Ab))) Ag (Ac _))))) (Aj (Ax (AF [true,true] T.t_5 (Az T) v (Aa (fw 0) (Aa (AY (by rfl) T.n_len (Aa (fw 4) Ab)) Ab))) (Ah 10 AM.nd))
  (Aw (Ax (AN (AN (EV (fw 4) (fw 10)) (Bm (fw 2) (AF [true,true] T.t_5 (Az T) v (Aa (fw 0) (Aa (AY (by rfl) T.n_len (Aa (fw 2) Ab)) Ab))))) (HW (fw 4) (AN (fw 10) Ag))) (Ah 4 AM.nd)))) BN)
  (Aw (BL (fw 4)))))
def HF(T:Txt K mg af):iL P w K mg base af 2 13 sL (eN K pX 3):=CI T.t_13 Bd λ_ _ _ _ _ _ v=>Aj (Ax (CN Ab) (Ah 3 Bd.nd))
  (Aj (Ax (Bm (CN (Aa Ag (Aa Ag Ab))) (GZ (by rfl) T.n_int GY (Aa (Gx (λ_ _=>CM (CO v)) CL (LL (by rfl) T.n_len (Aa (LF v (by rfl) T.n_set GR (Aa (He (DX (by rfl) ⋯) (Aa (fw 2) Ab)) Ab)) Ab)) Ag (Ac _)) Ab))) (Ah 4 Bd.nd))
  (Aj (BM (FP (Fw (AV (λ_ _=>CM (CO v)) CL (AF [true,true] T.t_5 (Az T) v (Aa (fw 0) (Aa Ag Ab))) Ag (Ac _)) (Fw (AV (λ_ _=>IR) Jp (AY (by rfl) T.n_len (Aa (He (DX (by rfl) ⋯) (Aa (fw 2) Ab)) Ab)) Ag (Ac _)) (FZ (AV (λ_ _=>CM (CO v)) CL (fw 4) Ag (Ac _)))))) (Aw (Ax Ag (Ah 4 Bd.nd))) BN)
  (Aj (Ax (Gx (λ_ _=>CM (CO v)) CL (AF [true,true] T.t_5 (Az T) v (Aa (fw 0) (Aa Ag Ab))) Ag (Ac _)) (Ah 5 Bd.nd))
  (Aj (Ax Ag (Ah 6 Bd.nd))
  (Aj (DE (by rfl) (DW (fw 2)) (Ah 7 Bd.nd) (Aj (Nw (i:=8) ⋯ (λj z=>Jz Bd.nd z rfl) rfl (by rfl) (by rfl) (vars:=["_law_k"]) rfl (by rfl) (AD (by kernel_rfl)) rfl (EN (by rfl) T.n_range (AF [true,true] T.t_5 (Az T) v (Aa (fw 0) (Aa (AN (fw 4) Ag) Ab)))) (λ_ _ _=>CP 10) (λ_ _ _=>ET) (λ_ _ _=>AF [true,true] T.t_5 (Az T) v (Aa (fw 0) (Aa (Ea (fw 1) (fw 1)) Ab))))
  (Aj (BM (FP (Fw (Qg (fw 5)) (FZ (AV (λ_ _=>EL (DH v)) ES (fw 8) (CN Ab) (Ac _))))) (Aj (JD (j:=8) (fw 8) Ag (AN (Ea (fw 6) (fw 1)) (Eb (Bm (fw 8) Ag) (fw 1))))
  (Aw (Ax (Eb (Bm (fw 8) Ag) (fw 1)) (Ah 6 Bd.nd)))) BN)
  (Aw (Fx (GJ (j:=3) (fw 3) (FD (by rfl) T.n_tuple FC (Aa (GA v (by rfl) T.n_sorted GG (Aa (Jn v (by rfl) T.n_set GR (Aa (FQ (vars:=["_law_x"]) rfl (by rfl) (AD (by kernel_rfl)) rfl (DW (fw 8)) (λ_ _ _=>CP 10) (λ_ _ _=>ET) (λ_ _ _=>Ck (Aa (Jv (fw 10) (fw 1)) (Aa (Eb (fw 10) (fw 1)) Ab)))) Ab)) Ab)) Ab))))))))
  (Aw (BL (FD (by rfl) T.n_tuple FC (Aa (fw 3) Ab)))))))))
def Gj(T:Txt K mg af):iL P w K mg base af 3 3 bo (eN K vB 4):=CI T.t_3 DL λ_ _ _ _ _ _ v=>Aj (Ax (SL Ag (FD (by rfl) T.n_tuple FC (Aa (FQ (vars:=["room"]) rfl (by rfl) (AD (by kernel_rfl)) rfl (EN (by rfl) T.n_range (fw 0)) (λ_ _ _=>CP 10) (λ_ _ _=>ET) (λ_ _ _=>Ck (Aa (fw 10) (Aa (fw 10) Ab)))) Ab))) (Ah 4 DL.nd))
  (Aj (DE (by rfl) (DW (AF [true,true] T.t_0 (Kz T) v (Aa (fw 1) (Aa (fw 3) Ab)))) (DF (by rfl) (AW (Ah 5 DL.nd) (AW (Ah 6 DL.nd) (AW (Ah 7 DL.nd) DC)))) (Aj (Ax (Fv (AF [true,true] T.t_2 (Kx T) v (Aa (Ib (Fu v) (fw 4) (fw 5) (Ck Ab) #[rfl,rfl,rfl,rfl]) (Aa (Bm (fw 2) (fw 7)) Ab)))) (Ah 8 DL.nd))
  (Aw (Rl (j:=4) (Fu v) (fw 4) (fw 6) (FD (by rfl) T.n_tuple FC (Aa (GA v (by rfl) T.n_sorted GG (Aa (Qh (Fu v) (Jn v (by rfl) T.n_set GR (Aa (fw 8) Ab)) (Jn v (by rfl) T.n_set GR (Aa (Ib (Fu v) (fw 4) (fw 6) (Ck Ab) #[rfl,rfl,rfl,rfl]) Ab))) Ab)) Ab))))))
  (Aw (BL (Ib (Fu v) (fw 4) (AY (by rfl) T.n_len (Aa (fw 3) Ab)) (Ck Ab) #[rfl,rfl,rfl,rfl]))))
def Ku(T:Txt K mg af):iL P w K mg base af 3 9 ba (eN K yV 4):=CI T.t_9 Eh λ_ _ _ _ _ _ v=>Aj (Ax (CN Ab) (Ah 4 Eh.nd))
  (Aj (DE (by rfl) (EN (by rfl) T.n_range (Ea (AF [true,true] T.t_5 (Az T) v (Aa (fw 0) (Aa (AN (fw 2) Ag) Ab))) (GZ (by rfl) T.n_int GY (Aa (Gx (λ_ _=>EL (DH v)) ES (fw 1) (DX (by rfl) ⋯) (Ac _)) Ab)))) (Ah 5 Eh.nd) (Aj (Ax (AN (Bm (fw 1) (AF [true,true] T.t_5 (Az T) v (Aa (fw 0) (Aa (AY (by rfl) T.n_len (Aa (fw 1) Ab)) Ab)))) (AF [true,true,true] T.t_7 (Gi T) v (Aa (fw 0) (Aa (fw 1) (Aa (HX (fw 3) Ag) Ab))))) (Ah 6 Eh.nd))
  (Aj (BM (FP (Fw (AV (λ_ _=>EL (DH v)) ES (fw 4) (CN Ab) (Ac _)) (FZ (AV (λ_ _=>CM (CO v)) CL (AF [true,true] T.t_5 (Az T) v (Aa (fw 0) (Aa Ag Ab))) Ag (Ac _))))) (Aw (Ax (EV (AF [true,true,true] T.t_8 (Kv T) v (Aa (fw 0) (Aa (fw 1) (Aa (fw 4) Ab)))) (fw 3)) (Ah 6 Eh.nd))) BN)
  (Aw (BM (AV (λ_ _=>JO (DH v)) Kj (fw 6) (fw 4) (by with_unfolding_all rfl)) (Aw (Fx (GJ (j:=4) (fw 4) (fw 6)))) BN)))))
  (Aw (BL (FD (by rfl) T.n_tuple FC (Aa (fw 4) Ab)))))
def HG(T:Txt K mg af):iL P w K mg base af 3 12 sM (eN K pY 4):=CI T.t_12 Dq λ_ _ _ _ _ _ v=>Aj (Ax (AF [true,true] T.t_5 (Az T) v (Aa (fw 0) (Aa Ag Ab))) (Ah 4 Dq.nd))
  (Aj (BM (AV (λ_ _=>CM (CO v)) CL (fw 4) Ag (Ac _)) (Aw (BL (AF [true,true,true] T.t_7 (Gi T) v (Aa (fw 0) (Aa (fw 2) (Aa (fw 3) Ab)))))) BN)
  (Aj (Ax (Fv (AF [true,true,true,true] T.t_11 (HH T) v (Aa (fw 0) (Aa (fw 1) (Aa (fw 2) (Aa (fw 3) Ab)))))) (Ah 5 Dq.nd))
  (Aj (BM (AV (λ_ _=>CM (CO v)) CL (fw 4) Ag (Ac _)) (Aw (Ax (EV (AN (fw 5) (AF [true,true,true] T.t_7 (Gi T) v (Aa (fw 0) (Aa (fw 2) (Aa (fw 3) Ab))))) (fw 3)) (Ah 5 Dq.nd))) BN)
  (Aw (BL (fw 5))))))
def HE(T:Txt K mg af):iL P w K mg base af 4 14 sJ (eN K pW 2):=CI T.t_14 Bc λ_ _ _ _ _ _ v=>Aj (Ax (AN Ag (AF [true,true] T.t_5 (Az T) v (Aa (fw 0) (Aa Ag Ab)))) (Ah 2 Bc.nd))
  (Aj (Ax (Fv (AF [true,true,true,true] T.t_9 (Ku T) v (Aa (fw 0) (Aa (fw 1) (Aa Ag (Aa Ag Ab)))))) (Ah 3 Bc.nd))
  (Aj (Ax (DX (by rfl) ⋯) (Ah 4 Bc.nd))
  (Aj (DE (by rfl) (EN (by rfl) T.n_range (Ea (AF [true,true] T.t_5 (Az T) v (Aa (fw 0) (Aa Ag Ab))) (GZ (by rfl) T.n_int GY (Aa (Gx (λ_ _=>EL (DH v)) ES (fw 3) (Ck Ab) (Ac _)) Ab)))) (Ah 5 Bc.nd) (Aw (Ax (AN (fw 4) (Bm (fw 3) (AF [true,true] T.t_5 (Az T) v (Aa (fw 0) (Aa (AY (by rfl) T.n_len (Aa (fw 3) Ab)) Ab))))) (Ah 4 Bc.nd))))
  (Aj (Ax (EV (fw 4) Ag) (Ah 4 Bc.nd))
  (Aj (BM (AV (λ_ _=>CM (CO v)) CL (AF [true,true] T.t_5 (Az T) v (Aa (fw 0) (Aa Ag Ab))) Ag (Ac _)) (Aw (Ax (Fv (AF [true,true,true,true] T.t_12 (HG T) v (Aa (fw 0) (Aa (fw 3) (Aa (fw 1) (Aa Ag Ab)))))) (Ah 4 Bc.nd))) BN)
  (Aj (BM (AV (λ_ _=>CM (CO v)) CL (LL (by rfl) T.n_len (Aa (LF v (by rfl) T.n_set GR (Aa (He (DX (by rfl) ⋯) (Aa (fw 3) Ab)) Ab)) Ab)) Ag (Ac _)) (Aw (Ax (EV (fw 4) Ag) (Ah 4 Bc.nd))) BN)
  (Aw (BL (Ck (Aa (fw 2) (Aa (fw 3) (Aa (AF [true,true,true] T.t_13 (HF T) v (Aa (fw 0) (Aa (fw 2) (Aa (fw 3) Ab)))) (Aa (fw 4) Ab)))))))))))))
def HC(T:Txt K mg af):iL P w K mg base af 5 16 sH (eN K lC 1):=CI T.t_16 Ay λ_ _ _ _ _ _ v=>Aj (Ax (AF [true,true] T.t_4 (HB T) v (Aa (fw 0) (Aa Ag Ab))) (Ah 1 Ay.nd))
  (Aj (Ax (AF [true,true] T.t_6 (Kw T) v (Aa (fw 1) (Aa (AN Ag (AF [true,true] T.t_5 (Az T) v (Aa (fw 1) (Aa Ag Ab)))) Ab))) (Ah 2 Ay.nd))
  (Aj (Ax (CN Ab) (Ah 3 Ay.nd))
  (Aj (DE (by rfl) (TU (by rfl) T.n_range Ag (Pm (by rfl) (by rfl) T.n_max OP (Aa Ag (Aa (Pg (by rfl) (by rfl) T.n_min Qe (Aa Ag (Aa (AY (by rfl) T.n_len (Aa (fw 0) Ab)) Ab))) Ab)))) (Ah 4 Ay.nd) (Aj (Ax (AF [true,true] T.t_14 (HE T) v (Aa (AF [true,true] T.t_4 (HB T) v (Aa (fw 0) (Aa (fw 4) Ab))) (Aa (fw 2) Ab))) (DF (by rfl) (AW (Ah 5 Ay.nd) (AW (Ah 6 Ay.nd) (AW (Ah 7 Ay.nd) (AW (Ah 8 Ay.nd) DC))))))
  (Aj (Fx (GJ (j:=3) (fw 3) (Ck (Aa (fw 5) (Aa (fw 6) (Aa (fw 7) (Aa (fw 8) (Aa (AF [true,true,true,true] T.t_15 (HD T) v (Aa (fw 5) (Aa (fw 6) (Aa (fw 7) (Aa (fw 8) Ab))))) Ab))))))))
  (Aj (DE (by rfl) (DW (AN (HW (fw 3) (OD Ag)) (EV (fw 3) Ag))) (DF (by rfl) (AW (Ah 9 Ay.nd) (AW (Ah 10 Ay.nd) (AW (Ah 11 Ay.nd) (AW (Ah 12 Ay.nd) (AW (Ah 13 Ay.nd) DC)))))) (Aw (BM (TM v (by rfl) T.n_repr (AF [true,true,true,true] T.t_3 (Gj T) v (Aa (fw 9) (Aa (fw 10) (Aa (fw 11) (Aa (fw 12) Ab))))) (fw 13)) (Aw (BL HS)) BN)))
  (Aj (DE (by rfl) (Je (by rfl) (by rfl) T.n_enumerate Kc (fw 6)) (DF (by rfl) (AW (Ah 14 Ay.nd) (AW (Ah 10 Ay.nd) DC))) (Aj (Ax (Fv (AF [true,true,true,true] T.t_3 (Gj T) v (Aa (fw 5) (Aa (fw 6) (Aa (fw 7) (Aa (fw 10) Ab)))))) (Ah 15 Ay.nd))
  (Aw (BM (AV (λ_ _=>EL (DH v)) ES (FQ (vars:=["_law_pair"]) rfl (by rfl) (AD (by kernel_rfl)) rfl (DW (Bm (fw 7) (fw 14))) (λ_ _ _=>CP 17) (λ_ _ _=>Ig rfl (AV (λ_ _=>JO (DH v)) Kj (fw 17) (fw 15) (by with_unfolding_all rfl))) (λ_ _ _=>fw 17)) (CN Ab) (Ac _)) (Aw (BL HS)) BN))))
  (Aw (BM (AV (λ_ _=>EL (DH v)) ES (AF [true,true,true,true] T.t_3 (Gj T) v (Aa (fw 5) (Aa (fw 6) (Aa (fw 7) (Aa (DX (by rfl) ⋯) Ab))))) (FD (by rfl) T.n_tuple FC (Aa (FQ (vars:=["_law_x"]) rfl (by rfl) (AD (by kernel_rfl)) rfl (EN (by rfl) T.n_range (fw 5)) (λ_ _ _=>CP 17) (λ_ _ _=>ET) (λ_ _ _=>Ck (Aa (fw 17) (Aa (fw 17) Ab)))) Ab)) (Ac _)) (Aw (BL HS)) BN)))))))
  (Aw (BL HS)))))
end
theorem all_mk{l:W.OpenLaw}{w:World}{K:W.Frag}{h:Heap}{mg:Str->Option Value}{fa:Addr}(X:K.In h)(G:h.Ns mainGlobals mg)(hfa:mg "law"=some (.ref fa))
  {f_0 f_1 f_2 f_3 f_4 f_5 f_6 f_7 f_8 f_9 f_10 f_11 f_12 f_13 f_14 f_15 f_16:Addr}
  (h_0:Lk K "stretches" ax f_0)
  (h_1:Lk K "ends_by_begin" aw f_1)
  (h_2:Lk K "over" av f_2)
  (h_3:Lk K "sure" au f_3)
  (h_4:Lk K "_law_box" ar f_4)
  (h_5:Lk K "_law_take" aq f_5)
  (h_6:Lk K "_law_colours" ao f_6)
  (h_7:Lk K "_law_word" ak f_7)
  (h_8:Lk K "_law_near" aj f_8)
  (h_9:Lk K "_law_board" ai f_9)
  (h_10:Lk K "_law_moves" rX f_10)
  (h_11:Lk K "_law_led" rW f_11)
  (h_12:Lk K "_law_any_word" rV f_12)
  (h_13:Lk K "_law_tables" rT f_13)
  (h_14:Lk K "_law_case" rS f_14)
  (h_15:Lk K "_law_due" rR f_15)
  (h_16:Lk K "law" rQ f_16)
  (z_enumerate:W.nsIn K mainGlobals "enumerate"=some none)
  (z_int:W.nsIn K mainGlobals "int"=some none)
  (z_len:W.nsIn K mainGlobals "len"=some none)
  (z_list:W.nsIn K mainGlobals "list"=some none)
  (z_max:W.nsIn K mainGlobals "max"=some none)
  (z_min:W.nsIn K mainGlobals "min"=some none)
  (z_range:W.nsIn K mainGlobals "range"=some none)
  (z_repr:W.nsIn K mainGlobals "repr"=some none)
  (z_set:W.nsIn K mainGlobals "set"=some none)
  (z_sorted:W.nsIn K mainGlobals "sorted"=some none)
  (z_tuple:W.nsIn K mainGlobals "tuple"=some none):
  ∃fd:FuncData,(∀(s:Shared)(v:Value),BindsTo s fd #[[v],[]] [("_law_script",v)])/\∀base:Heap,K.In base->base.Ns mainGlobals mg->eV l.prog w K mg base (iN l.prog w) 5 fa fd ["_law_script"] (eN K lC 1):=by
 let e:=hfa.symm.trans (h_16.mm X G);cases e;let T:Txt K mg (λn=>[f_0,f_1,f_2,f_3,f_4,f_5,f_6,f_7,f_8,f_9,f_10,f_11,f_12,f_13,f_14,f_15,fa].getD n 0):=#[h_0.tx X G,h_1.tx X G,h_2.tx X G,h_3.tx X G,h_4.tx X G,h_5.tx X G,h_6.tx X G,h_7.tx X G,h_8.tx X G,h_9.tx X G,h_10.tx X G,h_11.tx X G,h_12.tx X G,h_13.tx X G,h_14.tx X G,h_15.tx X G,h_16.tx X G,W.mg_none_of X G z_enumerate,W.mg_none_of X G z_int,W.mg_none_of X G z_len,W.mg_none_of X G z_list,W.mg_none_of X G z_max,W.mg_none_of X G z_min,W.mg_none_of X G z_range,W.mg_none_of X G z_repr,W.mg_none_of X G z_set,W.mg_none_of X G z_sorted,W.mg_none_of X G z_tuple]
 show#[_,λs v=>h_16.bt s v,λbase _ _=>HC T]
theorem walk{l:W.OpenLaw}{q:Program}{v:List Str}{O:(Str->Option Value)->Heap->Prop}{G:World->Heap->Prop}{d:DefRec}{K:Params->W.Frag}(hn:l.most=some 63)(z:d.params.defaults=[])
  (M:∀(w:World)(h:Heap),G w h->(K w.params).In h)
  (F:∀(w:World)(mg:Str->Option Value)(B:Addr)(h:Heap),(K w.params).In h->h.Ns mainGlobals mg->mg d.name=some (.ref B)->
   ∃fd:FuncData,(∀(s:Shared)(u:Value),BindsTo s fd #[[u],[]] [("_law_script",u)])/\∀base:Heap,(K w.params).In base->base.Ns mainGlobals mg->eV l.prog w (K w.params) mg base (iN l.prog w) 5 B fd ["_law_script"] (eN (K w.params) lC 1)):
  W.WalkO q v O G l.row.toRowW d [] (λf vs=>PySem.call f vs):=
 L2.walk_of (n:=63) (k:=5) (x:="_law_script") (CX:=λw=>iN l.prog w) (sp:=λw=>eN (K w.params) lC 1) hn ⋯ z #[rfl,⋯,⋯,rfl] M F (λ_ H a J L _ hS=>OT Eo H a J L hS) λ_ _ _ _ _ h=>(show False from h).elim
end Law
end
end
open PySem PySem.W PyProof.Rows
namespace PySem.W.Fast
def tw15942661265559022310:=0
def tw2677637528647231851:=0
def tw1213851092077157081:=0
def tw7773910711811101991:=0
def tw4542156998315224962:=0
def tw11438781815404501857:=0
def tw6231039918291240136:=0
def tw1531541553743755539:=0
def tw5925509924808624051:=0
def tw13036445507580388715:=0
def tw17915472597038062394:=0
def tw17130027509629627614:=0
def tw6168904205115829979:=0
def tw5271062944895809619:=0
def tw6184475892447498682:=0
def tw17002020907669535491:=0
def tw3255643170077506602:=0
def tw5485706733471655305:=0
def tw1849846805745042682:=0
def tw2393882599503923549:=0
def tw13863221010014053761:=0
def tw13863873796110672482:=0
def tw11968572106200486817:=0
def tw10098537101794903707:=0
def tw260864051858617087:=0
def tw5478806537222978322:=0
def tw342729782310312490:=0
def tw7040175703879292687:=0
def tw14239228249149787597:=0
def tw2809421243301329568:=0
def tw3730960202689883134:=0
def tw13120718870574178930:=0
def tw1512052388514560384:=0
def tw9872546066919923981:=0
def tw2102491649533912147:=0
def tw6019788982258065494:=0
def tw17973827080144678665:=0
def tw15540456620804170149:=0
def tw15469666903934400936:=0
def tw6611914653133807998:=0
def tw2335047937301874584:=0
def tw6076822330013842130:=0
def tw17456905341736802420:=0
def tw1353690094737284797:=0
def tw17419659002209495698:=0
def tw8023157635733882006:=0
def tw2358582080790236010:=0
def tw16166782895379830966:=0
def tw10314046687467018356:=0
def tw1499045731583605139:=0
def tw9237885841962638861:=0
def tw5672809375588235933:=0
def tw3198231625905027150:=0
def tw7100763079144260057:=0
def tw5252128982798593399:=0
def tw15547638971760988006:=0
def tw14368335353076347417:=0
def tw3174798547566174218:=0
def tw11905773939914054246:=0
def tw16894966543972086590:=0
def tw12489433836106216283:=0
def tw2006829196666417358:=0
def tw9550290968274648523:=0
def tw1482404301822022523:=0
def tw411385322351461453:=0
def tw10442989378040478126:=0
def tw5418761542567981339:=0
def tw15765798613766787542:=0
def tw15933982766825057677:=0
def tw14339371999116549788:=0
def tw15440498004442968294:=0
def tw6516813438975907849:=0
def tw7326985150518941433:=0
def tw17177565153011862054:=0
def tw6559022886669159520:=0
end PySem.W.Fast
set_option maxRecDepth 100000 in
set_option maxHeartbeats 0 in
theorem PySem.Challenge.cw_walktold_k17_sure_pairs_holds : PySem.Challenge.rw_walktold_k17_sure_pairs.Holds := by
 w_on; o_law; k_head; (case hw=>w_witness2)
 k_fill
 refine Law.walk (l:=PySem.Challenge.rw_walktold_k17_sure_pairs) rfl rfl (fun w h Y=>PySem.W.kIn_of Y) ?F
 case F=>
  intro w mg fa h KX G hmg
  refine' Law.all_mk KX G hmg ..
  all_goals try first | k_is | (refine' ⟨?_,?_,?_,?_⟩ <;> try k_is)
