import PyProof.Rows.All
import Wide.All
import OpenK.AllK
import Wide.FinOn
import PySem.Challenge.RW_walktold_k15_whole_words_joined
set_option Elab.async false
set_option linter.all false
set_option maxRecDepth 100000
set_option compiler.extract_closed false
set_option bootstrap.genMatcherCode false
open Array (getElem?_eq_getElem getElem?_toList getElem_extract getElem_mem_toList getElem_toList length_toList mem_toList_iff perm_iff_toList_perm size_extract toArray_toList toList_append toList_extract toList_push)
open Bool (and_eq_true false_eq_true or_eq_true)
open Int (mul_one toNat_natCast)
open List (all_cons all_eq_true any_cons any_eq_true append_assoc append_nil append_of_mem cons_append countP_cons drop_drop drop_zero ext_getElem? extract_eq_take_drop filterMap_cons filter_eq_nil_iff findIdx?_eq_none_iff flatMap_append flatMap_def foldl_append foldl_cons getElem?_append_left getElem?_append_right getElem?_eq_none getElem?_inj getElem?_map getElem?_reverse getElem?_set getElem?_set_ne getElem?_set_self getElem_map getElem_mem getElem_of_mem length_append length_cons length_drop length_filter_le length_map length_nil length_pos_iff length_range length_reverse length_set length_singleton length_take lookup_cons lt_asymm map_append map_congr_left map_cons map_eq_nil_iff map_id map_map map_nil map_set mem_append mem_cons mem_cons_self mem_filter mem_flatMap mem_map mem_of_getElem? mem_of_mem_take mem_range mem_set mem_singleton nil_append nodup_append nodup_cons nodup_range of_mem_zip pairwise_append pairwise_cons pairwise_iff_getElem pairwise_lt_range pairwise_map perm_append_comm perm_ext_iff_of_nodup perm_middle range_succ reverse_cons reverse_perm set_comm size_toArray take_append_drop take_of_length_le)
open Nat (le_of_lt le_refl le_succ le_trans lt_irrefl lt_of_le_of_lt lt_of_lt_of_le lt_or_ge lt_succ_of_lt lt_succ_self lt_trans min_le_right mod_lt mul_le_mul ne_of_gt ne_of_lt not_lt sub_le sub_self sub_zero succ_mul zero_add zero_le)
open Option (isSome_iff_exists isSome_map isSome_some map_eq_some_iff map_some)
def qa:=@PySem.wpAny_bind
def qb:=@PySem.wpAny_pure
def qc:=@PySem.Heap.get?_push_of_some
def qd:=@PySem.Heap.get?_push_size
def qe:=@PySem.Heap.lt_size
def qf.{u}:=@Option.some.inj.{u}
def qg.{u}:=@List.getElem?_eq_some_iff.{u}
def qh.{u}:=@List.getElem?_eq_getElem.{u}
def qi.{u}:=@List.mem_append_right.{u}
def qj.{u}:=@List.mem_append_left.{u}
def qk.{u}:=@List.mem_cons_of_mem.{u}
def qm.{u}:=@List.mem_cons_self.{u}
def qo:=@List.length_map
def qp:=@List.append_assoc
def qq:=@List.length_append
def qr:=@List.size_toArray
def qt:=@List.length_cons
def qu:=@List.mem_singleton
def qv:=@List.length_nil
def qw:=@List.nodup_append
def qx:=@List.mem_append
def qy:=@List.map_cons
def qz:=@List.append_nil
def qA:=@List.mem_cons
def qB:=@List.length_singleton
def qC:=@List.length_range
def qD:=@List.map_map
def qE:=@List.getElem?_map
def qF:=@List.length_drop
def qG:=@List.length_take
def qH:=@List.all_eq_true
def qI:=@List.mem_range
def qJ:=@List.mem_map
def qK:=@List.nodup_cons
def qL:=@List.mem_of_getElem?
def qM:=@List.perm_append_comm
def qN:=@List.cons_append
def qO:=@List.length_pos_iff
def qP:=@List.getElem?_eq_none
def qQ:=@decide_eq_true
def qR:=@decide_eq_false
def qS:=@decide_eq_true_eq
def qT:=@of_decide_eq_true
def qU:=@Array.length_toList
def qV:=@Int.toNat_natCast
def qW:=Bool.false_ne_true
def qX:=@Option.map_eq_some_iff
def qY:=@Array.getElem?_toList
def qZ:=@if_pos
def q4:=@if_neg
def q5:=@Nat.le_refl
def q8:=@PySem.Heap.get?_update_other
def q9:=@PySem.Heap.get?_update_self
def za:=@PySem.wpAny_field
def zc:=@PySem.wpAny_newObj_type
def zd:=@PySem.wpAny_call_entry
def ze:=@PySem.sizeLine_eq
def zf:=@PySem.wpAny_holding
def zg:=@PySem.wpAny_of_eq
def zh:=@PySem.wpAny_mono
abbrev zi:=PySem.Value->PySem.Shared->Prop
theorem cpsZ9{A:Prop}(h:∀G:Prop,(A->G)->G):A:=h A id
section
set_option hygiene false in
open Lean Parser.Tactic in
local macro_rules
|`($m:declModifiers def $i:declId $s:optDeclSig $v:declVal)=>do
 if m.raw.getArgs.any (!·.isNone) then Macro.throwUnsupported
 match i.raw[0].getId with
 |.str p n=>if n.front.isUpper||!p.isAnonymous then `(command|theorem $i:declId $(⟨mkNode ``Parser.Command.declSig #[s.raw[0],s.raw[1][0]]⟩):declSig $v:declVal) else `(command|noncomputable def $i:declId $s:optDeclSig $v:declVal)
 |_=>Macro.throwUnsupported
|`(#[$x,*])=>if x.getElems.isEmpty then Macro.throwUnsupported else `(⟨$x,*⟩)
|`(∅)=>`((by lia))
|`(⋯)=>`((by decide))
|`(↑$x)=>`((by simpa using $x))
|`(tactic|lia)=>`(tactic|first|assumption|exact Nat.le_refl _|exact Nat.le_of_lt ‹_›|exact Nat.succ_pos _|exact Nat.not_lt.1 ‹_›|exact Nat.lt_of_lt_of_le ‹_› ‹_›|exact Nat.lt_of_le_of_lt ‹_› ‹_›|exact Nat.le_trans ‹_› ‹_›|exact Nat.lt_trans ‹_› ‹_›|exact Nat.ne_of_lt ‹_›|exact Nat.ne_of_gt ‹_›|exact Nat.lt_succ_of_le ‹_›|exact Nat.le_add_right _ _|exact Nat.sub_le _ _|exact Nat.le_of_lt_succ ‹_›|exact absurd ‹_› (Nat.not_lt_zero _)|exact absurd ‹_ < _› (Nat.not_lt.2 ‹_›)|exact Nat.lt_of_le_of_ne ‹_› ‹_›|exact Nat.pos_of_ne_zero ‹_›|exact Nat.le_trans ‹_› (Nat.le_add_right _ _)|exact Nat.le_trans (Nat.sub_le _ _) ‹_›|exact Int.le_of_lt ‹_›|lia -verbose)
|`(tactic|show $e:term)=>`(tactic|first|refine $e|fail)
|`(tactic|let #[$x,*]:=$e)=>do
 let rec go:Nat->Syntax->MacroM (TSyntax ``rcasesPatLo)
  |n+1,t=>do match t with
   |`(#[$y,*])=>let z<-y.getElems.mapM (go n ·.raw);`(rcasesPatLo|⟨$[$z],*⟩)
   |`(_)=>`(rcasesPatLo|_)
   |_=>`(rcasesPatLo|$(⟨t⟩):ident)
  |_,_=>Macro.throwUnsupported
 let z<-x.getElems.mapM (go 9 ·.raw)
 if z.size>3 then `(tactic|(refine _root_.cpsZ9 fun gZ kZ=>?_;rcases $e:term with ⟨$[$z],*⟩;refine kZ ?_;clear kZ gZ)) else `(tactic|obtain ⟨$[$z],*⟩:=$e)
|`(tactic|let $d:letDecl)=>`(tactic|have $d:letDecl)
noncomputable section
namespace ST
open PySem PySem.SetTable
@[inline]def Rising(xs:Array Nat):Prop:=∀i j(hi:i<xs.size)(v:j<xs.size),i<j->xs[i]<xs[j]
def EO{xs:Array Nat}(h:i<xs.size):xs.getD i d=xs[i]:=by simp[Array.getD,h]
def EN(Y:Rising xs):∀(v lo hi:Nat),hi<=xs.size->lo<=hi->hi-lo<=v->(∀i(h:i<xs.size),i<lo->xs[i]<j)->(∀i(h:i<xs.size),hi<=i->j<=xs[i])->
  below.go xs j v lo hi<=xs.size/\(∀i(h:i<xs.size),i<below.go xs j v lo hi->xs[i]<j)/\∀i(h:i<xs.size),below.go xs j v lo hi<=i->j<=xs[i]:=by
 intro v;induction v with
 |zero=>
  intro lo hi h1 h2 h3 G F;let:lo=hi:=∅
  subst this;show#[by show lo<=_;lia,λi h z=>G i h z,λi h z=>F i h z]
 |succ v O=>
  intro lo hi h1 h2 h3 G F;unfold below.go;by_cases B:lo<hi
  .rw[qZ B];let J:(lo+hi)/2<xs.size:=by lia
   dsimp only;rw[EO J];by_cases M:xs[(lo+hi)/2]<j
   .rw[qZ M];show O _ _ h1 ∅ ∅ (λi h z=>?_) F;by_cases L:i=(lo+hi)/2
    .subst L;show M
    .let:=Y i ((lo+hi)/2) h J ∅;lia
   .rw[q4 M];show O _ _ ∅ ∅ ∅ G λi h z=>?_;by_cases L:i=(lo+hi)/2
    .subst L;lia
    .let:=Y ((lo+hi)/2) i J h ∅;lia
  .rw[q4 B];let:lo=hi:=by lia
   subst this;show#[∅,λi h z=>G i h z,λi h z=>F i h z]
def Ay(v:Rising xs):below xs j<=xs.size/\(∀i(h:i<xs.size),i<below xs j->xs[i]<j)/\∀i(h:i<xs.size),below xs j<=i->j<=xs[i]:=
 EN v xs.size 0 xs.size (q5 _) (zero_le _) ∅ (λi h z=>by lia) λi h z=>∅
def Eo(z:Rising xs)(h:i<xs.size)(e:xs[i]=j):below xs j=i:=by
 let#[h1,h2,B]:=Ay (j:=j) z;rcases Nat.lt_trichotomy (below xs j) i with v|v|v
 .let F:=B (below xs j) ∅ (q5 _);let:=z (below xs j) i ∅ h v;lia
 .show v
 .let:=h2 i h v;lia
def BF{t:SetTable}(v:Rising t.place)(h:i<t.place.size)(e:t.place[i]=j):t.slot j=.live i:=by
 unfold slot;dsimp only;rw[Eo v h e];let:t.place[i]?=some j:=by rw[getElem?_eq_getElem h,e]
 rw[this];simp
def BG{t:SetTable}(z:t.dummies=#[])(h:∀i(hi:i<t.place.size),t.place[i]≠j):t.slot j=.empty:=by
 unfold slot;dsimp only;let h1:(t.place[below t.place j]?==some j)=false:=by
  cases q:t.place[below t.place j]? with
  |none=>rfl
  |some v=>let#[hi,e]:=Array.getElem?_eq_some_iff.mp q;let:=h _ hi;rw[e]at this;simpa using this
 rw[h1,z];rfl
def As{t:SetTable}(v:Rising t.place)(z:t.dummies=#[])(j:Nat):(t.slot j=.empty/\∀i(hi:i<t.place.size),t.place[i]≠j)\/∃i,∃hi:i<t.place.size,t.place[i]=j/\t.slot j=.live i:=by
 by_cases h:∃i,∃hi:i<t.place.size,t.place[i]=j
 .obtain⟨i,hi,e⟩:=h;show .inr #[i,hi,e,BF v hi e]
 .let h':∀i(hi:i<t.place.size),t.place[i]≠j:=λi hi e=>h #[i,hi,e];show .inl #[BG z h',h']
def aD(t:SetTable)(p:Probe):Nat->Probe
 |0=>p
 |n+1=>aD t (t.advance p) n
def AY(t:SetTable):∀(n:Nat)(p:Probe),aD t p (n+1)=t.advance (aD t p n)
 |0,_=>rfl
 |n+1,p=>AY t n (t.advance p)
def Ag(t:SetTable):∀(m n:Nat)(p:Probe),aD t p (m+n)=aD t (aD t p m) n
 |0,n,p=>by rw[zero_add];rfl
 |m+1,n,p=>by rw[Nat.add_right_comm];show Ag t m n (t.advance p)
def DX(hr:Rising t.place)(hd:t.dummies=#[]):∀(v n:Nat)(p:Probe),p.dummy=none->t.slot (aD t p n).j=.empty->(∀m,m<n->t.slot (aD t p m).j≠.empty)->n<v->
  (probe.go t hashAt h v p=some (.empty (aD t p n).j none)/\∀m,m<n->∀i,t.slot (aD t p m).j=.live i->hashAt i≠h)\/
  ∃m i,m<n/\t.slot (aD t p m).j=.live i/\hashAt i=h/\probe.go t hashAt h v p=some (.candidate (aD t p m).j i (aD t p (m+1)))/\∀B,B<m->∀F,t.slot (aD t p B).j=.live F->hashAt F≠h:=by
 intro v;induction v with
 |zero=>intro n p _ _ _ h;lia
 |succ v ih=>
  intro n p G he L hf;cases n with
  |zero=>show .inl #[?_,λm hm=>∅];unfold probe.go;let h6:t.slot p.j=.empty:=he;rw[h6];rw[G];rfl
  |succ n=>
   rcases As hr hd p.j with⟨O,_⟩|⟨i,hi,ei,hl⟩
   .show absurd O (L 0 ∅)
   .by_cases hh:hashAt i=h
    .show .inr #[0,i,∅,hl,hh,?_,λB h5=>∅];unfold probe.go;rw[hl];show(if(hashAt i==h)=true then _ else _)=_;rw[qZ (by rw[hh];simp)];rfl
    .have M:probe.go t hashAt h (v+1) p=probe.go t hashAt h v (t.advance p):=by
      conv=>lhs;unfold probe.go
      grind
     have Y:(t.advance p).dummy=none:=by
      unfold advance;split
      .show G
      .show G
     rcases ih n (t.advance p) Y he (λm hm=>L (m+1) ∅) ∅with⟨h1,h2⟩|⟨m,F,hm,h1,h2,h3,h4⟩
     .show .inl #[by rw[M,h1];rfl,λm hm F z=>?_];cases m with
      |zero=>have:t.slot p.j=.live F:=z;rw[hl]at this;cases this;show hh
      |succ m=>show h2 m ∅ F z
     .show .inr #[m+1,F,∅,h1,h2,by rw[M,h3];rfl,λB h5 J z=>?_];cases B with
      |zero=>have:t.slot p.j=.live J:=z;rw[hl]at this;cases this;show hh
      |succ B=>show h4 B ∅ J z
def aZ(mask:Nat)(b:Nat):Nat->Nat×Nat
 |0=>(b %(mask+1),b)
 |k+1=>leap mask (aZ mask b k).1 (aZ mask b k).2
def aT(mask:Nat)(p:Nat×Nat):Probe:={j:=p.1,more:=runEnd mask p.1-p.1,i:=p.1,perturb:=p.2,dummy:=none}
def EI(mask i:Nat):runEnd mask i-i<=9:=by unfold runEnd;split<;>lia
def Bq:∀m,m<=runEnd t.mask p.1-p.1->aD t (aT t.mask p) m={aT t.mask p with j:=p.1+m,more:=runEnd t.mask p.1-p.1-m}
 |0,_=>rfl
 |m+1,h=>by rw[AY,Bq m ∅];unfold advance;rw[qZ (by show runEnd t.mask p.1-p.1-m>0;lia)];rfl
def BJ:aD t (aT t.mask p) (runEnd t.mask p.1-p.1+1)=aT t.mask (leap t.mask p.1 p.2):=by rw[AY,Bq _ (q5 _)];unfold advance;rw[q4 (by show¬(runEnd t.mask p.1-p.1-(runEnd t.mask p.1-p.1)>0);lia)];rfl
def Br:∀k,∃n,n<=10*k/\aD t (t.probeStart h) n=aT t.mask (aZ t.mask (bits h) k)
 |0=>#[0,∅,rfl]
 |k+1=>by let#[n,v,e]:=Br (t:=t) (h:=h) k;let:=EI t.mask (aZ t.mask (bits h) k).1;show#[n+(runEnd t.mask (aZ t.mask (bits h) k).1-(aZ t.mask (bits h) k).1+1),∅,?_];rw[Ag,e,BJ];rfl
def ET(h:Int):bits h<2^64:=by unfold bits;grind
def Bt(mask b:Nat):∀k,(aZ mask b k).2=b/32^k
 |0=>by simp[aZ]
 |k+1=>by show(aZ mask b k).2/32=_;rw[Bt mask b k,Nat.div_div_eq_div_mul,Nat.pow_succ]
def CM{mask:Nat}(v:13<=k):(aZ mask (bits h) k).2=0:=by
 rw[Bt];show Nat.div_eq_of_lt (lt_of_lt_of_le (ET h) ?_)
 calc 2^64<=32^13:=by decide
  _<=32^k:=Nat.pow_le_pow_right ⋯ v
def nB(M i:Nat):Nat:=(i*5+1) %M
def it(M:Nat):Nat->Nat->Nat
 |0,i=>i
 |k+1,i=>it M k (nB M i)
def Bv(M:Nat):∀a b i,it M (a+b) i=it M b (it M a i)
 |0,b,i=>by rw[zero_add];rfl
 |a+1,b,i=>by rw[Nat.add_right_comm];show Bv M a b (nB M i)
def Bu{mask:Nat}:∀k,(aZ mask (bits h) (13+k)).1=it (mask+1) k (aZ mask (bits h) 13).1
 |0=>rfl
 |k+1=>by rw[Bv (mask+1) k 1,<-Bu k];show(leap mask (aZ mask (bits h) (13+k)).1 (aZ mask (bits h) (13+k)).2).1=_;rw[CM ∅];rfl
def hit(M e:Nat):Nat->Nat->Bool
 |0,_=>false
 |n+1,i=>bif Nat.beq i e then true else hit M e n (nB M i)
def CO:∀{n i:Nat},hit M e n i=true->∃k,k<n/\it M k i=e
 |0,_,h=>by cases h
 |n+1,i,h=>by
  unfold hit at h;cases q:Nat.beq i e with
  |true=>show#[0,∅,Nat.eq_of_beq_eq_true q]
  |false=>rw[q]at h;let#[k,z,v]:=CO (n:=n) h;show#[k+1,∅,v]
def bP(mask:Nat):Prop:=mask=7\/mask=15\/mask=31\/mask=63\/mask=127\/mask=255\/mask=511
def EU{mask:Nat}(h:bP mask):(List.range (mask+1)).all (λe=>hit (mask+1) e (mask+1) 0)=true/\it (mask+1) (mask+1) 0=0:=by rcases h with rfl|rfl|rfl|rfl|rfl|rfl|rfl<;>show⟨by decide+kernel,by decide+kernel⟩
def Hw{mask s e:Nat}(h:bP mask)(hs:s<=mask)(F:e<=mask):∃k,k<=mask/\it (mask+1) k s=e:=by
 let#[h1,h2]:=EU h;rw[qH]at h1;let#[a,J,z]:=CO (h1 s (qI.mpr ∅));let#[b,G,v]:=CO (h1 e (qI.mpr ∅));by_cases B:a<=b
 .show#[b-a,∅,by rw[<-z,<-Bv,show a+(b-a)=b by lia,v]]
 .show#[mask+1-a+b,∅,?_];rw[<-z,<-Bv,show a+(mask+1-a+b)=mask+1+b by lia,Bv,h2,v]
def CJ(z:bP t.mask)(B:e<=t.mask):∃n,n<10*turns t.mask/\(aD t (t.probeStart h) n).j=e:=by
 let v:(aZ t.mask (bits h) 13).1<=t.mask:=by let:(aZ t.mask (bits h) 13).1<t.mask+1:=mod_lt _ ∅;lia
 let#[k,J,F]:=Hw z v B;let#[n,G,en]:=Br (t:=t) (h:=h) (13+k);show#[n,by unfold turns;lia,?_];rw[en];show(aZ t.mask (bits h) (13+k)).1=e;rw[Bu,F]
def Hs{P:Nat->Prop}[DecidablePred P]:∀n,P n->∃m,m<=n/\P m/\∀k,k<m->¬P k:=by
 intro n;induction n using Nat.strongRecOn with
 |ind n B=>
  intro F;by_cases h:∃k,k<n/\P k
  .obtain⟨k,z,v⟩:=h;let#[m,h1,h2,G]:=B k z v;show#[m,∅,h2,G]
  .show#[n,q5 _,F,λk z v=>h #[k,z,v]]
structure gI(t:SetTable)(hs:List Int):Prop where
 ris:Rising t.place
 dum:t.dummies=#[]
 mask:bP t.mask
 size:t.place.size=hs.length
 le:∀i(hi:i<t.place.size),t.place[i]<=t.mask
 few:hs.length<=t.mask
 reach:∀i(hi:i<t.place.size)(h:Int),hs[i]?=some h->∃n,(aD t (t.probeStart h) n).j=t.place[i]/\∀m,m<n->t.slot (aD t (t.probeStart h) m).j≠.empty
def Fg:∀(l m:List Nat),l.Nodup->(∀x∈l,x∈m)->l.length<=m.length
 |[],m,_,_=>by simp
 |x::l,m,hn,hs=>by
  let#[h1,h2]:=qK.mp hn;let B:x∈m:=hs x (by simp);let:=Fg l (m.erase x) h2 λy v=>by show(List.mem_erase_of_ne ?_).mpr (hs y (by simp[v]));intro z;subst z;show h1 v
  rw[List.length_erase_of_mem B]at this;let F:=List.length_pos_of_mem B;rw[qt];lia
def DY:∀(m:Nat)(l:List Nat),l.Nodup->(∀x∈l,x<m)->l.length<m->∃e,e<m/\e∉l:=by
 intro m l B z F;by_cases h:∃e,e<m/\e∉l
 .show h
 .exfalso;let:∀e∈List.range m,e∈l:=λe v=>by
   by_cases q:e∈l
   .show q
   .show absurd #[e,qI.mp v,q] h
  let:=Fg (List.range m) l nodup_range this;rw[qC]at this;lia
def gI.free(T:gI t hs)(h:Int):∃n,n<10*turns t.mask/\t.slot (aD t (t.probeStart h) n).j=.empty/\∀m,m<n->t.slot (aD t (t.probeStart h) m).j≠.empty:=by
 obtain⟨e,O,B⟩:=DY (t.mask+1) t.place.toList (by
  rw[List.Nodup,pairwise_iff_getElem];intro i j hi J F;let:=T.ris i j hi ↑J F;simp;lia) (λx G=>by
   let#[i,hi,e]:=getElem_of_mem G;let:=T.le i hi;rw[getElem_toList]at e;lia) (by
   let:=T.few;let:=T.size;rw[qU];lia)
 let#[n,M,en]:=CJ (h:=h) T.mask (show e<=t.mask by lia);let v:t.slot (aD t (t.probeStart h) n).j=.empty:=by rw[en];show BG T.dum λi hi z=>B ?_;rw[<-z];show getElem_mem_toList hi
 let#[m,h1,h2,L]:=Hs (P:=λn=>t.slot (aD t (t.probeStart h) n).j=.empty) n v;show#[m,∅,h2,L]
theorem ris_list:Rising xs↔xs.toList.Pairwise (·<·):=by rw[pairwise_iff_getElem];first|rfl|assumption|(simp_all;done)
def Bw(G:Rising xs)(hn:∀i(hi:i<xs.size),xs[i]≠j):Rising (insertAt xs (below xs j) j):=by
 let#[h1,h2,Y]:=Ay (j:=j) G;rw[ris_list,toList_insertAt];let J:=ris_list.mp G;rw[<-take_append_drop (below xs j) xs.toList]at J;let#[O,M,L]:=pairwise_append.mp J;show pairwise_append.mpr #[O,pairwise_cons.mpr #[λy z=>?_,M],λx F y z=>?_]
 .obtain⟨i,hi,e⟩:=getElem_of_mem z;rw[List.getElem_drop,getElem_toList]at e;let v:below xs j+i<xs.size:=by simp at hi;lia
  let a:=Y (below xs j+i) v ∅;let b:=hn (below xs j+i) v;lia
 .have B:x<j:=by
   let#[i,hi,e]:=getElem_of_mem F;rw[List.getElem_take,getElem_toList]at e;let v:i<xs.size/\i<below xs j:=by simp at hi;lia
   let:=h2 i v.1 v.2;lia
  rcases qA.mp z with rfl|z
  .show B
  .show L x F y z
theorem mem_insert:x∈(insertAt xs p j).toList↔x=j\/x∈xs.toList:=by rw[toList_insertAt,qx];grind[take_append_drop,mem_append]
def Au(h:t'.mask=t.mask):∀(n:Nat)(p:Probe),aD t' p n=aD t p n
 |0,_=>rfl
 |n+1,p=>by
  let e:t'.advance p=t.advance p:=by unfold advance;rw[h]
  show aD t' (t'.advance p) n=aD t (t.advance p) n;rw[e,Au h n]
def Ar{t t':SetTable}(h:t'.mask=t.mask)(b:Int):t'.probeStart b=t.probeStart b:=by unfold probeStart;rw[h]
def Bs{t:SetTable}(v:Rising t.place)(G:t.dummies=#[])(j:Nat):t.slot j≠.empty↔j∈t.place.toList:=by
 rcases As v G j with⟨h,B⟩|⟨i,hi,e,h⟩
 .show#[λz=>absurd h z,λF=>?_];let#[i,hi,e]:=getElem_of_mem F;show absurd e (B i hi)
 .show#[λ_=>?_,λ_=>by rw[h];show nofun];rw[<-e];show getElem_mem_toList hi
def AW{t:SetTable}(v:t.dummies=#[]):(t.put j).1.place=insertAt t.place (below t.place j) j/\(t.put j).1.mask=t.mask/\(t.put j).1.dummies=#[]/\(t.put j).2=below t.place j:=by unfold put;show#[rfl,rfl,?_,rfl];rw[v];rfl
def gI.put(T:gI t hs)(he:t.slot (aD t (t.probeStart h) n).j=.empty)(h4:∀m,m<n->t.slot (aD t (t.probeStart h) m).j≠.empty)(hj:(aD t (t.probeStart h) n).j<=t.mask)(hf:hs.length+1<=t.mask):
  gI (t.put (aD t (t.probeStart h) n).j).1 (hs.take (t.put (aD t (t.probeStart h) n).j).2++h::hs.drop (t.put (aD t (t.probeStart h) n).j).2):=by
 generalize h5:(aD t (t.probeStart h) n).j=j at*;let h3:∀i(hi:i<t.place.size),t.place[i]≠j:=by
  rcases As T.ris T.dum j with⟨_,hn⟩|⟨i,hi,e,L⟩
  .show hn
  .rw[L]at he;cases he
 let#[Y,J,e3,e4]:=AW (t:=t) (j:=j) T.dum;let M:=Bw T.ris h3;let#[b1,b2,b3]:=Ay (j:=j) T.ris;let h2:(insertAt t.place (below t.place j) j).size=t.place.size+1:=by rw[<-qU,toList_insertAt,qq,qt,qG,qF,qU];lia
 let more:∀k,t.slot k≠.empty->(t.put j).1.slot k≠.empty:=λk B=>by rw[Bs (by rw[Y];show M) e3,Y,mem_insert];show .inr ((Bs T.ris T.dum k).mp B)
 show#[by rw[Y];show M,e3,by rw[J];show T.mask,?_,λi hi=>?_,?_,λi hi g O=>?_]
 .rw[Y,h2,qq,qt,qG,qF,e4,T.size];let:=T.size;lia
 .let hm:(t.put j).1.place[i]∈(insertAt t.place (below t.place j) j).toList:=by rw[<-Y];exact getElem_mem_toList hi
  rw[J];rcases mem_insert.mp hm with z|z
  .rw[z];show hj
  .obtain⟨k,B,e⟩:=getElem_of_mem z;rw[<-e];show T.le k ↑B
 .rw[J,qq,qt,qG,qF];lia
 .rw[e4]at O;let v:(t.put j).1.place[i]?=(t.place.toList.take (below t.place j)++j::t.place.toList.drop (below t.place j))[i]?:=by rw[Y,<-qY,toList_insertAt]
  rw[getElem?_eq_getElem hi]at v;let F:(t.place.toList.take (below t.place j)).length=below t.place j:=by rw[qG,qU];lia
  let G:(hs.take (below t.place j)).length=below t.place j:=by let:=T.size;rw[qG];lia
  let h1:∀k(B:k<t.place.size),hs[k]?=some g->(t.put j).1.place[i]=t.place[k]->∃n,(aD (t.put j).1 ((t.put j).1.probeStart g) n).j=(t.put j).1.place[i]/\∀m,m<n->(t.put j).1.slot (aD (t.put j).1 ((t.put j).1.probeStart g) m).j≠.empty:=λk B h6 e=>by let#[n',a,b]:=T.reach k B g h6;show#[n',by rw[Au J,Ar J,a,e],λm hm=>?_];rw[Au J,Ar J];show more _ (b m hm)
  rcases Nat.lt_trichotomy i (below t.place j)with L|L|L
  .rw[getElem?_append_left (by rw[F];show L),List.getElem?_take_of_lt L]at v;rw[getElem?_append_left (by rw[G];show L),List.getElem?_take_of_lt L]at O;let B:i<t.place.size:=by lia
   rw[qY,getElem?_eq_getElem B]at v;show h1 i B O (qf v)
  .subst L;rw[getElem?_append_right (by rw[F];show q5 _),F,sub_self,List.getElem?_cons_zero]at v;rw[getElem?_append_right (by rw[G];show q5 _),G,sub_self,List.getElem?_cons_zero]at O;let eg:=qf O;subst eg;show#[n,by rw[Au J,Ar J,h5,qf v],λm hm=>?_];rw[Au J,Ar J];show more _ (h4 m hm)
  .obtain⟨k,rfl⟩:∃k,i=k+1:=#[i-1,∅]
   rw[getElem?_append_right (by rw[F];lia),F,show k+1-below t.place j=(k-below t.place j)+1 by lia,List.getElem?_cons_succ,List.getElem?_drop,show below t.place j+(k-below t.place j)=k by lia]at v;rw[getElem?_append_right (by rw[G];lia),G,show k+1-below t.place j=(k-below t.place j)+1 by lia,List.getElem?_cons_succ,List.getElem?_drop,show below t.place j+(k-below t.place j)=k by lia]at O;let B:k<t.place.size:=by let:=hi;simp only[Y,h2]at this;lia
   rw[qY,getElem?_eq_getElem B]at v;show h1 k B O (qf v)
def dC(o:Array (Option Nat))(j:Nat):Bool:=(o.getD j (some 0)).isNone
def bare(mask:Nat):SetTable:={fresh 0 0 true with mask:=mask}
def Dy{mask:Nat}:∀(v:Nat)(p:Nat×Nat)(K:Nat),K<v->(∃q,dC o q.1=true/\q=(Nat.repeat (λx:Nat×Nat=>leap mask x.1 x.2) K p))->
  ∃j n,layClean.free mask o v p.1 p.2=some j/\(aD (bare mask) (aT mask p) n).j=j/\dC o j=true/\∀m,m<n->dC o (aD (bare mask) (aT mask p) m).j=false:=by
 intro v;induction v with
 |zero=>intro p K h;lia
 |succ v L=>
  intro p K hK Y;let run:∀m,m<=runEnd mask p.1-p.1->(aD (bare mask) (aT mask p) m).j=p.1+m:=λm B=>by let:=Bq (t:=bare mask) (p:=p) m B;let e:(aD (bare mask) (aT mask p) m).j=({aT mask p with j:=p.1+m,more:=runEnd mask p.1-p.1-m}:Probe).j:=congrArg Probe.j this;show e
  let h4:p.1<=runEnd mask p.1:=by unfold runEnd;split<;>lia
  unfold layClean.free;cases G:(List.range (runEnd mask p.1+1-p.1)).find? (λk=>(o.getD (p.1+k) (some 0)).isNone)with
  |some k=>rw[List.find?_range_eq_some]at G;let#[h1,h2,O]:=G;rw[qI]at h2;show#[p.1+k,k,rfl,run k ∅,h1,λm B=>?_];rw[run m ∅];let:=O m B;simpa[dC] using this
  |none=>
   rw[List.find?_range_eq_none]at G;let z:∀m,m<=runEnd mask p.1-p.1->dC o (aD (bare mask) (aT mask p) m).j=false:=λm B=>by rw[run m B];let:=G m ∅;simpa[dC] using this
   cases K with
   |zero=>let#[q,h1,h2]:=Y;let O:q=p:=h2;let:=z 0 ∅;let e:(aD (bare mask) (aT mask p) 0).j=p.1:=rfl;rw[e,<-O,h1]at this;cases this
   |succ K=>
    obtain⟨q,h1,h2⟩:=Y;let J:∀(K:Nat)(p:Nat×Nat),Nat.repeat (λx:Nat×Nat=>leap mask x.1 x.2) (K+1) p=Nat.repeat (λx:Nat×Nat=>leap mask x.1 x.2) K (leap mask p.1 p.2):=by
     intro K;induction K with
     |zero=>intro p;rfl
     |succ K L=>intro p;show leap mask (Nat.repeat (λx:Nat×Nat=>leap mask x.1 x.2) (K+1) p).1 (Nat.repeat (λx:Nat×Nat=>leap mask x.1 x.2) (K+1) p).2=leap mask (Nat.repeat (λx:Nat×Nat=>leap mask x.1 x.2) K (leap mask p.1 p.2)).1 (Nat.repeat (λx:Nat×Nat=>leap mask x.1 x.2) K (leap mask p.1 p.2)).2;rw[L p]
    let#[j,n,a1,a2,a3,a4]:=L (leap mask p.1 p.2) K ∅ #[q,h1,by rw[h2,J]];let pl:=BJ (t:=bare mask) (p:=p);let F:aD (bare mask) (aT mask p) (runEnd mask p.1-p.1+1)=aT mask (leap mask p.1 p.2):=pl;show#[j,runEnd mask p.1-p.1+1+n,a1,by rw[Ag,F];show a2,a3,λm B=>?_];by_cases M:m<=runEnd mask p.1-p.1
    .show z m M
    .obtain⟨k,rfl⟩:∃k,m=runEnd mask p.1-p.1+1+k:=#[m-(runEnd mask p.1-p.1+1),∅]
     rw[Ag,F];show a4 k ∅
def BK(mask b:Nat):∀k,aZ mask b k=Nat.repeat (λx:Nat×Nat=>leap mask x.1 x.2) k (b %(mask+1),b)
 |0=>rfl
 |k+1=>by show leap mask (aZ mask b k).1 (aZ mask b k).2=_;rw[BK mask b k];rfl
structure mV(mask:Nat)(o:Array (Option Nat))(hs:List Int)(ps:List Nat):Prop where
 size:o.size=mask+1
 len:ps.length=hs.length
 nd:ps.Nodup
 le:∀j∈ps,j<=mask
 own:∀(j i:Nat),o.getD j none=some i↔ps[i]?=some j
 reach:∀(i:Nat)(h:Int)(j:Nat),hs[i]?=some h->ps[i]?=some j->∃n,(aD (bare mask) ((bare mask).probeStart h) n).j=j/\∀m,m<n->(aD (bare mask) ((bare mask).probeStart h) m).j∈ps
def By{mask:Nat}(O:mV mask o hs ps)(J:j<=mask):dC o j=true↔j∉ps:=by
 let v:j<o.size:=by rw[O.size];lia
 unfold dC;let G:o.getD j (some 0)=o[j]:=by simp[v]
 let z:o.getD j none=o[j]:=by simp[v]
 rw[G];constructor
 .intro h F;let#[i,hi,e]:=getElem_of_mem F;let:=(O.own j i).mpr (by rw[qh hi,e]);rw[z]at this;rw[this]at h;cases h
 .intro B;cases q:o[j]with
  |none=>rfl
  |some i=>have:=(O.own j i).mp (by rw[z,q]);show absurd (qL this) B
def BP(F:bP t.mask):∀n,(aD t (t.probeStart h) n).j<=t.mask:=by
 have v:∀n(p:Probe),(p.j+p.more<=t.mask)->(aD t p n).j+(aD t p n).more<=t.mask:=by
  intro n;induction n with
  |zero=>intro p z;show z
  |succ n B=>
   intro p z;show B (t.advance p) ?_;unfold advance;split
   .show p.j+1+(p.more-1)<=t.mask;lia
   .let hi:(p.i*5+1+p.perturb/32) %(t.mask+1)<=t.mask:=by let:=mod_lt (p.i*5+1+p.perturb/32) (show 0<t.mask+1 by lia);lia
    show(p.i*5+1+p.perturb/32) %(t.mask+1)+(runEnd t.mask ((p.i*5+1+p.perturb/32) %(t.mask+1))-(p.i*5+1+p.perturb/32) %(t.mask+1))<=t.mask;unfold runEnd;split<;>lia
 intro n;let:=v n (t.probeStart h) (by
  let hi:bits h %(t.mask+1)<=t.mask:=by let:=mod_lt (bits h) (show 0<t.mask+1 by lia);lia
  show bits h %(t.mask+1)+(runEnd t.mask (bits h %(t.mask+1))-bits h %(t.mask+1))<=t.mask;unfold runEnd;split<;>lia)
 lia
def mV.step{mask:Nat}(B:bP mask)(O:mV mask o hs ps)(hf:hs.length<mask+1):
  ∃j,layClean.free mask o (turns mask) (bits h %(mask+1)) (bits h)=some j/\mV mask (o.setIfInBounds j (some hs.length)) (hs++[h]) (ps++[j]):=by
 let#[e,he,h1]:=DY (mask+1) ps O.nd (λx v=>by let:=O.le x v;lia) (by rw[O.len];show hf);let Y:(aZ mask (bits h) 13).1<=mask:=by let:(aZ mask (bits h) 13).1<mask+1:=mod_lt _ ∅;lia
 let#[k,hk,ek]:=Hw B Y (show e<=mask by lia);let#[j,n,a1,a2,a3,a4]:=Dy (o:=o) (turns mask) (bits h %(mask+1),bits h) (13+k) (by unfold turns;lia) #[aZ mask (bits h) (13+k),by rw[Bu,ek];show(By O ∅).mpr h1,BK _ _ _];let M:aT mask (bits h %(mask+1),bits h)=(bare mask).probeStart h:=rfl;rw[M]at a2 a4;let L:j<=mask:=by rw[<-a2];show BP (t:=bare mask) B n
 let J:j∉ps:=(By O L).mp a3;let h3:j<o.size:=by rw[O.size];lia
 show#[j,a1,?_,?_,?_,?_,?_,?_]
 .rw[Array.size_setIfInBounds,O.size]
 .rw[qq,qq,O.len];rfl
 .show qw.mpr #[O.nd,by simp,λa ha b hb e=>?_];rw[qu.mp hb]at e;show J (e▸ha)
 .intro x v;rcases qx.mp v with z|z
  .show O.le x z
  .rw[qu.mp z];show L
 .intro x i;let G:(o.setIfInBounds j (some hs.length)).getD x none=if x=j then some hs.length else o.getD x none:=by
   simp[Array.getD_eq_getD_getElem?,Array.getElem?_setIfInBounds];by_cases v:j=x
   .subst v;simp[h3]
   .rw[q4 v,q4 (Ne.symm v)]
  rw[G];by_cases v:x=j
  .subst v;rw[qZ rfl];constructor
   .intro z;let:=qf z;subst this;rw[<-O.len,getElem?_append_right (q5 _),sub_self];rfl
   .intro z;by_cases hi:i<ps.length
    .rw[getElem?_append_left hi]at z;show absurd (qL z) J
    .let F:=(qg.mp z).1;rw[qq,qB]at F;rw[show i=hs.length by rw[<-O.len];lia]
  .rw[q4 v,O.own x i];by_cases hi:i<ps.length
   .rw[getElem?_append_left hi]
   .rw[qP ∅];constructor
    .intro z;cases z
    .intro z;rw[getElem?_append_right ∅]at z;let:i-ps.length=0:=by let:=(qg.mp z).1;simp at this;lia
     rw[this]at z;show absurd (qf z).symm v
 .intro i g x G v;by_cases hi:i<ps.length
  .rw[getElem?_append_left hi]at v;rw[getElem?_append_left (by rw[<-O.len];show hi)]at G;let#[n',b1,b2]:=O.reach i g x G v;show#[n',b1,λm hm=>qj _ (b2 m hm)]
  .let F:=(qg.mp v).1;rw[qq,qB]at F;let h4:i=ps.length:=by lia
   subst h4;rw[getElem?_append_right (q5 _),sub_self]at v;rw[getElem?_append_right (by rw[O.len];show q5 _),O.len,sub_self]at G;let e1:j=x:=qf v;let e2:h=g:=qf G;subst e1 e2;show#[n,a2,λm hm=>qj _ ?_];let:=a4 m hm;cases q:decide ((aD (bare mask) ((bare mask).probeStart h) m).j∈ps)with
   |true=>show qT q
   |false=>have h2:=(By O (BP (t:=bare mask) B m)).mpr (of_decide_eq_false q);rw[h2]at this;cases this
def Cu{mask:Nat}(hmk:bP mask):∀(hs2 hs1:List Int)(o:Array (Option Nat))(ps:List Nat),mV mask o hs1 ps->(hs1++hs2).length<=mask->
  ∃o' ps',List.foldl (λ(zK:Option (Array (Option Nat)×Nat))(h:Int)=>do
   let(owner,k)<-zK
   let j<-layClean.free mask owner (turns mask) (bits h %(mask+1)) (bits h)
   pure (owner.setIfInBounds j (some k),k+1)) (some (o,hs1.length)) hs2=some (o',(hs1++hs2).length)/\mV mask o' (hs1++hs2) ps'
 |[],hs1,o,ps,O,_=>#[o,ps,by simp,↑O]
 |h::hs2,hs1,o,ps,O,hl=>by
  obtain⟨j,e,O'⟩:=O.step (h:=h) hmk (by rw[qq,qt]at hl;lia);let#[o',ps',e',O'']:=Cu hmk hs2 (hs1++[h]) _ _ O' ↑hl;show#[o',ps',?_,↑O''];rw[foldl_cons];let:(do
   let(owner,k)<-(some (o,hs1.length):Option (Array (Option Nat)×Nat))
   let j<-layClean.free mask owner (turns mask) (bits h %(mask+1)) (bits h)
   pure (owner.setIfInBounds j (some k),k+1))=some (o.setIfInBounds j (some hs1.length),(hs1++[h]).length):=by
   show(do
    let j<-layClean.free mask o (turns mask) (bits h %(mask+1)) (bits h)
    pure (o.setIfInBounds j (some hs1.length),hs1.length+1))=_
   rw[e,qq];rfl
  rw[this];simpa using e'
def Ef{mask:Nat}(v:bP mask)(B:hs.size<=mask):∃o ps,layClean mask hs=some o/\mV mask o hs.toList ps:=by
 let G:mV mask (Array.replicate (mask+1) none) [] []:=#[by simp,rfl,by simp,by simp,λj i=>by by_cases h:j<mask+1<;>simp[h],λi h j F=>by simp at F]
 let#[o,ps,e,O]:=Cu v hs.toList [] _ _ G B;show#[o,ps,?_,O];unfold layClean;rw[<-Array.foldl_toList];let z:=e;simp only[qv]at z;rw[z];rfl
def En{α β:Type}{f:α->Option β}:∀(l:List α),(∀x∈l,(f x).isSome=true)->∀k:Nat,(l.filterMap f)[k]?=l[k]?.bind f
 |[],_,k=>by simp
 |x::l,h,k=>by
  let#[y,v]:=isSome_iff_exists.mp (h x (by simp));rw[filterMap_cons,v];cases k with
  |zero=>simp[v]
  |succ k=>show En l (λz B=>h z (by simp[B])) k
def Eg{α:Type}{mask finger moves:Nat}{led plain:Bool}{es:Array (Int×α)}(h8:bP mask)(hl:es.size<=mask):
  ∃t z,laid mask finger moves led plain (es.map (·.1))=some (t,z)/\(z.filterMap (es[·]?)).toList.Perm es.toList/\gI t ((z.filterMap (es[·]?)).toList.map (·.1))/\t.mask=mask/\t.led=led/\t.plain=plain:=by
 let#[o,ps,e,O]:=Ef h8 (hs:=es.map (·.1)) ↑hl;let hk:ps.length=es.size:=by rw[O.len];simp
 generalize h5:((List.range (mask+1)).filterMap λj=>(o.getD j none).map (j,·))=v;let F:∀x:Nat×Nat,x∈v↔ps[x.2]?=some x.1:=λx=>by
  rw[<-h5,List.mem_filterMap];constructor
  .rintro⟨j,hj,hx⟩;let#[i,hi,rfl]:=qX.mp hx;show(O.own j i).mp hi
  .intro h;show#[x.1,qI.mpr (by let:=O.le x.1 (qL h);lia),?_];rw[(O.own x.1 x.2).mpr h];rfl
 let L:(v.map (·.1)).Pairwise (·<·):=by rw[<-h5,pairwise_map,List.pairwise_filterMap];show pairwise_lt_range.imp λ{a b} e2 x hx y hy=>?_;let#[_,_,rfl]:=qX.mp hx;let#[_,_,rfl]:=qX.mp hy;show e2
 have Y:∀j,j∈v.map (·.1)↔j∈ps:=λj=>by
  rw[qJ];constructor
  .rintro⟨x,hx,rfl⟩;show qL ((F x).mp hx)
  .intro hj;let#[i,hi,ei]:=getElem_of_mem hj;show#[(j,i),(F (j,i)).mpr (by rw[qh hi,ei]),rfl]
 let h7:(v.map (·.2)).Nodup:=by rw[List.Nodup,pairwise_map];let h2:v.Pairwise λa b=>a.1<b.1:=pairwise_map.mp L;show List.Pairwise.imp_of_mem (λ{a b} ha hb e2 e=>?_) h2;let h3:=(F a).mp ha;let h4:=(F b).mp hb;rw[e,h4]at h3;lia
 have M:∀i,i∈v.map (·.2)↔i<es.size:=λi=>by
  rw[qJ];constructor
  .rintro⟨x,hx,rfl⟩;let:=(qg.mp ((F x).mp hx)).1;lia
  simp_all
 let B:(v.map (·.2)).Perm (List.range es.size):=(perm_ext_iff_of_nodup h7 nodup_range).mpr λi=>by rw[M,qI]
 let e4:v.length=es.size:=by let:=B.length_eq;rw[qo,qC]at this;show this
 show#[{mask,place:=(v.map (·.1)).toArray,dummies:=#[],finger,led,moves,plain},(v.map (·.2)).toArray,?_,?_,?_,rfl,rfl,rfl]
 .unfold laid;rw[e];show some _=some _;rw[<-h5]
 .rw[Array.toList_filterMap];let:=B.filterMap (es[·]?);rw[filterMap_getElem?_range]at this;show this
 .have h1:∀i∈v.map (·.2),(es[i]?).isSome=true:=λi hi=>by rw[getElem?_eq_getElem ((M i).mp hi)];rfl
  have e1:∀k:Nat,(((v.map (·.2)).toArray.filterMap (es[·]?)).toList.map (·.1))[k]?=(v[k]?).bind λ(x:Nat×Nat)=>(es.map (·.1)).toList[x.2]?:=λk=>by
   rw[Array.toList_filterMap,qE,En _ h1,qE];cases v[k]? with
   |none=>rfl
   |some x=>simp
  let G:Rising (v.map (·.1)).toArray:=by rw[ris_list];show L
  let J:(((v.map (·.2)).toArray.filterMap (es[·]?)).toList.map (·.1)).length=es.size:=by rw[qo];let:=(B.filterMap (es[·]?)).length_eq;rw[filterMap_getElem?_range]at this;rw[Array.toList_filterMap];show this
  let h6:∀n p,aD {mask,place:=(v.map (·.1)).toArray,dummies:=#[],finger,led,moves,plain} p n=aD (bare mask) p n:=Au rfl;let e3:∀b,SetTable.probeStart {mask,place:=(v.map (·.1)).toArray,dummies:=#[],finger,led,moves,plain} b=(bare mask).probeStart b:=Ar rfl;show#[G,rfl,h8,?_,λi hi=>?_,?_,λi hi h hh=>?_]
  .rw[J,qr,qo,e4]
  .let:(v.map (·.1)).toArray[i]∈v.map (·.1):=getElem_mem_toList hi;show O.le _ ((Y _).mp this)
  .rw[J];show hl
  .let h9:i<v.length:=by simpa using hi
   rw[e1,qh h9]at hh;let#[n,a,b]:=O.reach v[i].2 h v[i].1 hh ((F v[i]).mp (getElem_mem h9));show#[n,?_,λm hm=>?_]
   .rw[h6,e3,a];simp
   .rw[Bs G rfl,h6];show(Y _).mpr (b m hm)
def gI.fits(T:gI t hs)(hn:hs.length=n):t.fits n=true:=by unfold SetTable.fits;rw[T.size,hn,and_eq_true,beq_iff_eq];show#[rfl,?_];unfold fill;rw[T.size,T.dum];let:=T.few;simp;lia
def gI.odd(T:gI t hs):t.gaveWay=false:=by unfold SetTable.gaveWay;rcases T.mask with h|h|h|h|h|h|h<;>rw[h]<;>rfl
def CI(n:Nat):(aD t (t.probeStart h) n).dummy=none:=by
 have z:∀n(p:Probe),p.dummy=none->(aD t p n).dummy=none:=by
  intro n;induction n with
  |zero=>intro p v;show v
  |succ n B=>intro p v;show B _ ?_;unfold advance;split<;>show v
 show z n _ rfl
section
variable{prog:Program}{w:World}{K:Type}[DecidableEq K](knd:HeapKind prog w K)
def eF(xs:List (K×Addr)):List (Int×Value):=xs.map λp=>(knd.hash p.1,Value.ref p.2)
variable{knd}
def FB(B:∀{k:K}{b:Addr}{Q:Bool->Shared->Prop},knd.is s.heap k b->Q false s->wpAny (model prog w) A (ofAClassStatement 8 (.ref b)) Q E s){stored:List Value}(L:knd.is s.heap k b)
  (G:∀v∈stored,∃z c,v=.ref c/\knd.is s.heap z c)(h:Q false s):wpAny (model prog w) A (searchCouldBeSeen (.ref b) stored) Q E s:=by
 show qa ?_;show wpAny_forIn_list _ (λrest r s'=>s'=s/\r=(none,())/\∀v∈rest,∃z c,v=.ref c/\knd.is s.heap z c) _ ?_ ?_ _ _ #[rfl,rfl,G]
 .rintro x rest r s' ⟨rfl,rfl,J⟩;let#[z,c,rfl,M]:=J x qm;let F:∀v∈rest,∃z c,v=.ref c/\knd.is s'.heap z c:=λv O=>J v (qk _ O);dsimp only;split
  .show qb #[rfl,rfl,F]
  .show qa (knd.quiet L ?_);show qa (knd.quiet M ?_);show qa (B L ?_);show qa (B M ?_);show qb #[rfl,rfl,F]
 .rintro r s' ⟨rfl,rfl,_⟩;show qb h
theorem Cj(hcl:∀{k:K}{b:Addr}{Q:Bool->Shared->Prop},knd.is s.heap k b->Q false s->wpAny (model prog w) A (ofAClassStatement 8 (.ref b)) Q E s)
  (hu:knd.room A)(hk:knd.is s.heap k b)(ho:s.heap.get? a=some o)(hd:o.data=.set es ep t)(he:es.toList=eF knd xs)(his:∀x∈xs,knd.is s.heap x.1 x.2)(T:gI t (es.toList.map (·.1)))
  (hf:n<10*turns t.mask)(hemp:t.slot (aD t (t.probeStart (knd.hash k)) n).j=.empty)(hne:∀m,m<n->t.slot (aD t (t.probeStart (knd.hash k)) m).j≠.empty)
  (h1:k∈xs.map (·.1)->Q (.there none) s)(h2:k∉xs.map (·.1)->Q (.free (aD t (t.probeStart (knd.hash k)) n).j false) s):
  ∀(r n0:Nat)(stand:Option Probe),n0<=n->n-n0<r->stand.getD (t.probeStart (knd.hash k))=aD t (t.probeStart (knd.hash k)) n0->
   (∀m,m<n0->∀i,t.slot (aD t (t.probeStart (knd.hash k)) m).j=.live i->(xs[i]?).map (·.1)≠some k)->wpAny (model prog w) A (setSearchFrom a (.ref b) (knd.hash k) true r stand) Q E s:=by
 let hsz:t.fits es.size=true:=T.fits (by simp);let zI:es.size=xs.length:=by rw[<-qU,he];simp[eF]
 let hent:∀i:Nat,es[i]?=(xs[i]?).map λp=>(knd.hash p.1,Value.ref p.2):=λi=>by rw[<-qY,he];simp[eF]
 intro r;induction r with
 |zero=>intro n0 stand _ h;lia
 |succ r ih=>
  intro n0 stand hn0 hr hst hsofar;show qa (wpAny_setState_of ho hd hsz ?_);dsimp only;rw[T.odd];simp only[false_eq_true,if_false];let hgo:=DX (t:=t) (hashAt:=λi=>(es[i]?.map (·.1)).getD 0) (h:=knd.hash k) T.ris T.dum (10*turns t.mask) (n-n0) (aD t (t.probeStart (knd.hash k)) n0) (CI n0)
   (by rw[<-Ag,show n0+(n-n0)=n by lia];show hemp) (λm hm=>by rw[<-Ag];show hne _ ∅) ∅
  rw[hst];rcases hgo with⟨g1,g2⟩|⟨m,i,g1,g2,g3,g4,g5⟩
  .have e:t.probe (λi=>(es[i]?.map (·.1)).getD 0) (knd.hash k) (aD t (t.probeStart (knd.hash k)) n0)=some (.empty (aD t (t.probeStart (knd.hash k)) n).j none):=by unfold probe;rw[g1,<-Ag,show n0+(n-n0)=n by lia]
   have none_hit:k∉xs.map (·.1):=λhmem=>by
    let#[x,hx,hxk]:=qJ.mp hmem;let#[i,hi,ei]:=getElem_of_mem hx;let hip:i<t.place.size:=by rw[T.size];simp;lia
    let hh:(es.toList.map (·.1))[i]?=some (knd.hash k):=by rw[qE,qY,hent,qh hi,ei,<-hxk];rfl
    let#[q,q1,q2]:=T.reach i hip _ hh;let hql:t.slot (aD t (t.probeStart (knd.hash k)) q).j=.live i:=by rw[q1];show BF T.ris hip rfl
    have hqn:q<n:=by
     rcases Nat.lt_trichotomy q n with z|z|z
     .show z
     .subst z;rw[hql]at hemp;cases hemp
     .show absurd hemp (q2 n z)
    by_cases hq0:q<n0
    .show hsofar q hq0 i hql (by rw[qh hi,ei,<-hxk];rfl)
    .let:=g2 (q-n0) ∅ i (by rw[<-Ag,show n0+(q-n0)=q by lia];show hql);apply this;rw[hent,qh hi,ei,<-hxk];rfl
   split
   .rename_i met heq;let h3:t.probe (λi=>(es[i]?.map (·.1)).getD 0) (knd.hash k) (aD t (t.probeStart (knd.hash k)) n0)=some met:=heq;rw[e]at h3;cases h3;show qb (h2 none_hit)
   .rename_i heq;show absurd e (heq _)
  .have e:t.probe (λi=>(es[i]?.map (·.1)).getD 0) (knd.hash k) (aD t (t.probeStart (knd.hash k)) n0)=some (.candidate (aD t (t.probeStart (knd.hash k)) (n0+m)).j i (aD t (t.probeStart (knd.hash k)) (n0+m+1))):=by unfold probe;rw[g4,<-Ag,<-Ag];rfl
   rw[<-Ag]at g2;let hip:∃hi:i<t.place.size,t.place[i]=(aD t (t.probeStart (knd.hash k)) (n0+m)).j:=by
    rcases As T.ris T.dum (aD t (t.probeStart (knd.hash k)) (n0+m)).j with⟨h,_⟩|⟨i',hi',ei',hl'⟩
    .rw[h]at g2;cases g2
    .rw[hl']at g2;cases g2;show#[hi',ei']
   let#[hip,_]:=hip;let hix:i<xs.length:=by rw[T.size]at hip;simp at hip;lia
   let hei:es[i]?=some (knd.hash xs[i].1,Value.ref xs[i].2):=by rw[hent,qh hix];rfl
   have hxi:=his xs[i] (getElem_mem hix);let body:wpAny (model prog w) A (match es[i]? with
     |some (_,y)=>do
      let equal<-holding [y] (eqBool y (Value.ref b))
      let __x<-setState a
      if(true&&equal)=true then pure (SetFound.there none)
       else
        match __x.2.snd.sameMemory t.moves t.mask with
        |some same=>
         match if same=true then __x.2.snd.slot (aD t (t.probeStart (knd.hash k)) (n0+m)).j else Slot.empty with
         |Slot.live i'=>
          match __x.fst[i']? with
          |some (_,y')=>do
           let __do_lift<-isSame y' y
           let still<-pure (if __do_lift=true then some i' else none)
           match still with
            |none=>do
             rule "set.search.anew"
             setSearchFrom a (Value.ref b) (knd.hash k) true r none
            |some i'=>
             if equal=true then pure (SetFound.there (some i'))
             else setSearchFrom a (Value.ref b) (knd.hash k) true r (some (aD t (t.probeStart (knd.hash k)) (n0+m+1)))
          |none=>do
           let still<-pure none
           match still with
            |none=>do
             rule "set.search.anew"
             setSearchFrom a (Value.ref b) (knd.hash k) true r none
            |some i'=>
             if equal=true then pure (SetFound.there (some i'))
             else setSearchFrom a (Value.ref b) (knd.hash k) true r (some (aD t (t.probeStart (knd.hash k)) (n0+m+1)))
         |x=>do
          let still<-pure none
          match still with
           |none=>do
            rule "set.search.anew"
            setSearchFrom a (Value.ref b) (knd.hash k) true r none
           |some i'=>
            if equal=true then pure (SetFound.there (some i'))
            else setSearchFrom a (Value.ref b) (knd.hash k) true r (some (aD t (t.probeStart (knd.hash k)) (n0+m+1)))
        |x=>unsupported "set.changed-during-lookup:is-the-new-block-at-the-old-address"
     |x=>unsupported "internal:set-entry") Q E s:=by
    rw[hei];show qa (zf (knd.eqBool hu hxi hk ?_));show qa (wpAny_setState_of ho hd hsz ?_);by_cases hkk:xs[i].1=k
    .rw[qQ hkk];show qb (h1 (qJ.mpr #[xs[i],getElem_mem hix,hkk]))
    .rw[qR hkk];let hsm:t.sameMemory t.moves t.mask=some true:=by unfold sameMemory;simp
     rw[hsm];dsimp only;rw[qZ rfl,g2];dsimp only;rw[hei];show qa (wpAny_isSame_ref_self ?_);rw[qZ rfl];show qa (qb ?_);show ih (n0+m+1) _ ∅ ∅ rfl λq hq i' hl'=>?_;rcases lt_or_ge q n0 with z|z
     .show hsofar q z i' hl'
     .rcases lt_or_ge q (n0+m)with z2|z2
      .intro hc;show g5 (q-n0) ∅ i' (by rw[<-Ag,show n0+(q-n0)=q by lia];show hl') ?_;rw[hent];cases hx:xs[i']? with
       |none=>rw[hx]at hc;cases hc
       |some x=>rw[hx]at hc;let:x.1=k:=qf hc;rw[<-this];rfl
      .let:q=n0+m:=by lia
       subst this;rw[g2]at hl';cases hl';rw[qh hix];show λz=>hkk (qf z)
   split
   .rename_i met heq;let h3:t.probe (λi=>(es[i]?.map (·.1)).getD 0) (knd.hash k) (aD t (t.probeStart (knd.hash k)) n0)=some met:=heq;rw[e]at h3;cases h3;dsimp only;split
    .refine qa (FB hcl hk (λv hv=>?_) ?_)
     .obtain⟨p,hp,rfl⟩:=qJ.mp hv;let hp2:p∈es.toList:=by let:=mem_toList_iff.mp hp;exact mem_toList_iff.mpr (Array.mem_filter.mp this).1
      rw[he]at hp2;let#[x,hx,rfl]:=qJ.mp hp2;show#[x.1,x.2,rfl,his x hx]
     .simp;show body
    .show body
   .rename_i heq;show absurd e (heq _)
def eN(t:SetTable)(n:Nat):Prop:=n*5<t.mask*3
@[inline]def TSet(ld:Bool)(knd:HeapKind prog w K)(h:Heap)(a:Addr)(xs:List (K×Addr)):Prop:=∃o es ep t,h.get? a=some o/\o.ExactSet/\o.data=.set es ep t/\t.led=ld/\gI t (es.toList.map (·.1))/\eN t es.size/\es.toList=eF knd xs/\(∀x∈xs,knd.is h x.1 x.2)/\(xs.map (·.1)).Nodup
def Ds(T:gI t hs):gI {t with plain:=p} hs:=by let F:∀n q,aD {t with plain:=p} q n=aD t q n:=Au rfl;let B:∀b,SetTable.probeStart {t with plain:=p} b=t.probeStart b:=Ar rfl;let z:∀j,SetTable.slot {t with plain:=p} j=t.slot j:=λj=>rfl;show#[T.ris,T.dum,T.mask,T.size,T.le,T.few,λi hi h v=>?_];let#[n,a,b]:=T.reach i hi h v;grind
def Ci(h:n<=1000):n<=sizeLine:=by rw[ze];lia
def AL{h:Heap}(z:h.get? a=some o)(v:o.data=.set es ep t):(h.update a (Obj.putSet es' t')).get? a=some {o with data:=.set es' (ep+1) t'}:=by let:=q9 (Obj.putSet es' t') z (by rw[putSet_of es' t' v];rfl);rw[putSet_of es' t' v]at this;show this
def DT(O:s.heap.get? a=some o)(Y:o.data=.set es ep t)(T:gI t (es.toList.map (·.1)))(hn:es.size=n)(J:bP (sizeAbove B-1))(hr:n*5<(sizeAbove B-1)*3)
  (h:∀es' t',es'.toList.Perm es.toList->gI t' (es'.toList.map (·.1))->t'.mask=sizeAbove B-1->t'.led=t.led->Q () {s with heap:=s.heap.update a (Obj.putSet es' t')}):wpAny (model prog w) A (setRelay a B) Q E s:=by
 let hm:sizeAbove B-1<=511:=by rcases J with z|z|z|z|z|z|z<;>lia
 let L:es.size<=sizeAbove B-1:=∅
 let#[t',v,e1,e2,e3,e4,e5,e6]:=Eg (finger:=t.finger) (moves:=t.movedTo (sizeAbove B-1)) (led:=t.led) (plain:=t.plain) J L;let G:(v.filterMap (es[·]?)).size=es.size:=by rw[<-qU,e2.length_eq,qU]
 show qa (wpAny_setState_of O Y (T.fits (by simp)) ?_);dsimp only;let F:¬(sizeAbove B>sizeLine):=by rw[ze];lia
 rw[q4 F];let M:t.relaid (es.map (·.1)) B=some (t',v):=e1;rw[M];show qa ?_;show wpAny (model prog w) A (if((v.filterMap (es[·]?)).size !=es.size)=true then _ else _) _ E s;rw[G];simp;show qb ?_;show wpAny_storeSet_of O Y (h _ t' e2 e3 e4 e5) (Ci (by rw[G];lia))
def EK(h:bP m):7<=m/\m<=511:=by rcases h with z|z|z|z|z|z|z<;>lia
def Dz(h:l.Perm (eF knd xs)):∃ys,ys.Perm xs/\l=eF knd ys:=by
 unfold eF at h;induction l generalizing xs with
 |nil=>
  let:=h.length_eq;let v:xs=[]:=↑this.symm
  subst v;show#[[],.refl _,rfl]
 |cons e l F=>
  let G:e∈xs.map λp=>(knd.hash p.1,Value.ref p.2):=h.mem_iff.mp (by simp);let#[x,v,rfl]:=qJ.mp G;let#[B,z,rfl]:=append_of_mem v;let h2:l.Perm ((B++z).map λp=>(knd.hash p.1,Value.ref p.2)):=by grind
  let#[ys,p,rfl]:=F h2;show#[x::ys,(List.Perm.cons x p).trans perm_middle.symm,rfl]
theorem FX(hcl:∀{k:K}{b:Addr}{Q:Bool->Shared->Prop},knd.is s.heap k b->Q false s->wpAny (model prog w) A (ofAClassStatement 8 (.ref b)) Q E s)(hbv:∀{k:K}{b:Addr}{Q:Bool->Shared->Prop},knd.is s.heap k b->(∀r,Q r s)->wpAny (model prog w) A (hashByValue 8 (.ref b)) Q E s)
  (hkp:∀{h h':Heap}{k:K}{c:Addr}{o:Obj}{es:Array (Int×Value)}{ep:Nat}{t:SetTable},knd.is h k c->h.get? a=some o->o.data=.set es ep t->Heap.SameBut a h h'->knd.is h' k c)
  (hu:knd.room A)(hk:knd.is s.heap k b)(hS:TSet ld knd s.heap a xs)(hroom:xs.length<=150)
  (h1:k∈xs.map (·.1)->Q false s)(h2:k∉xs.map (·.1)->∀h' ys,Heap.SameBut a s.heap h'->ys.Perm ((k,b)::xs)->TSet ld knd h' a ys->Q true {s with heap:=h'}):
  wpAny (model prog w) A (setAddHashed a (.ref b) (knd.hash k)) Q E s:=by
 let#[o,es,ep,t,ho,hex,hd,hld,T,hrm,he,his,hnd]:=hS;let hsz:t.fits es.size=true:=T.fits (by simp);let zI:es.size=xs.length:=by rw[<-qU,he];simp[eF]
 let#[n,hf,hemp,hne]:=T.free (knd.hash k);let hmk:t.mask<=511:=by rcases T.mask with z|z|z|z|z|z|z<;>lia
 show zf (qa (wpAny_setState_of ho hd hsz ?_));dsimp only;let hbs:byScan (.ref b) es=false:=by simp[byScan,Value.scannable]
 rw[hbs];show qa ?_;show Cj hcl hu hk ho hd he his T hf hemp hne (λhm=>?_) (λhm=>?_) 100000 0 none (zero_le _) (by unfold turns at hf;lia) rfl (λm hm=>by lia)
 .show qb (h1 hm)
 .dsimp only;show qa (wpAny_setState_of ho hd hsz ?_);let hjm:=BP (t:=t) (h:=knd.hash k) T.mask n;let hfew:(es.toList.map (·.1)).length+1<=t.mask:=by grind[length_map,length_toList,EK,eN]
  let TP:=T.put hemp hne hjm hfew;generalize hj:(aD t (t.probeStart (knd.hash k)) n).j=j at*;let#[e1,e2,e3,e4]:=AW (t:=t) (j:=j) T.dum;let epl:(t.put j).1.led=t.led:=by unfold SetTable.put;first|rfl|(split<;>rfl)
  generalize hp:t.put j=tp at*;let#[t1,p]:=tp
  --the things behind it
  let hel:(insertAt es p (knd.hash k,Value.ref b)).toList=es.toList.take p++(knd.hash k,Value.ref b)::es.toList.drop p:=toList_insertAt ..;let TP':gI t1 ((insertAt es p (knd.hash k,Value.ref b)).toList.map (·.1)):=by simp_all
  let hys:(insertAt es p (knd.hash k,Value.ref b)).toList=eF knd (xs.take p++(k,b)::xs.drop p):=by rw[hel,he];unfold eF;simp_all
  let hyp:(xs.take p++(k,b)::xs.drop p).Perm ((k,b)::xs):=by grind[perm_middle.trans,take_append_drop]
  let hsz1:(insertAt es p (knd.hash k,Value.ref b)).size=es.size+1:=by rw[<-qU,hys];grind
  let all:∀{h':Heap}{ys:List (K×Addr)},Heap.SameBut a s.heap h'->ys.Perm ((k,b)::xs)->(∀x∈ys,knd.is h' x.1 x.2)/\(ys.map (·.1)).Nodup:=λ{h' ys} sb pm=>by grind
  have tail:∀t2:SetTable,gI t2 ((insertAt es p (knd.hash k,Value.ref b)).toList.map (·.1))->t2.mask=t.mask->t2.led=t.led->wpAny (model prog w) A (do
    storeSet a (insertAt es p (knd.hash k,Value.ref b)) t2
    if(!false&&t2.tooFull)=true then do
       setRelay a (grown (es.size+1))
       pure true
     else pure true) Q E s:=λt2 T2 em el=>by
   show qa (wpAny_storeSet_of ho hd ?_ (Ci ∅));let ho1:=AL (es':=insertAt es p (knd.hash k,Value.ref b)) (t':=t2) ho hd;let hsb1:=Heap.SameBut.update s.heap a (Obj.putSet (insertAt es p (knd.hash k,Value.ref b)) t2);let hfill:t2.fill=es.size+1:=by unfold fill;rw[T2.size,T2.dum,qo,qU,hsz1];rfl
   by_cases hfull:t2.tooFull=true
   .rw[hfull];let hn5:bP (sizeAbove (grown (es.size+1))-1)/\(es.size+1)*5<(sizeAbove (grown (es.size+1))-1)*3:=by
     unfold tooFull at hfull;unfold eN at hrm;rcases T.mask with z|z|z|z|z|z|z
     .rw[show es.size+1=5 by lia];show#[.inr (.inr (.inl ⋯)),⋯]
     .rw[show es.size+1=9 by lia];show#[.inr (.inr (.inr (.inl ⋯))),⋯]
     .rw[show es.size+1=19 by lia];show#[.inr (.inr (.inr (.inr (.inl ⋯)))),⋯]
     .rw[show es.size+1=38 by lia];show#[.inr (.inr (.inr (.inr (.inr (.inl ⋯))))),⋯]
     .rw[show es.size+1=77 by lia];show#[.inr (.inr (.inr (.inr (.inr (.inr ⋯))))),⋯]
     .lia
     .lia
    show qa (DT (s:={s with heap:=s.heap.update a (Obj.putSet (insertAt es p (knd.hash k,Value.ref b)) t2)}) ho1 rfl T2 hsz1 hn5.1 hn5.2 λes' t' pm T' rm rl=>qb ?_);rw[hys]at pm;let#[ys,pm2,ey]:=Dz pm;let sb2:=hsb1.trans (Heap.SameBut.update (s.heap.update a (Obj.putSet (insertAt es p (knd.hash k,Value.ref b)) t2)) a (Obj.putSet es' t'));let hz':es'.size=es.size+1:=by rw[<-qU,ey];let:=(pm2.trans hyp).length_eq;grind[eF,length_map,length_cons]
    let#[i1,i2]:=all sb2 (pm2.trans hyp);show h2 hm _ ys sb2 (pm2.trans hyp) #[_,es',_,t',AL ho1 rfl,hex,rfl,rl.trans (el.trans hld),T',by unfold eN;rw[hz',rm];show hn5.2,ey,i1,i2]
   .rw[Bool.not_eq_true]at hfull;rw[hfull];let#[i1,i2]:=all hsb1 hyp;show qb (h2 hm _ _ hsb1 hyp #[_,_,_,t2,ho1,hex,rfl,el.trans hld,T2,?_,hys,i1,i2]);unfold tooFull at hfull;grind[eN]
  split
  .show qa (hbv hk λr=>?_);cases r with
   |true=>show tail t1 TP' e2 epl
   |false=>show tail {t1 with plain:=false} (Ds TP') e2 epl
  grind
end
end ST
namespace ST
open PySem
section
variable{prog:Program}{w:World}{K:Type}[DecidableEq K]{knd:KeyKind prog w K}{A:Around}{E:zi}{s:Shared}{ks:List K}{b:Addr}
def DB(h:carriedByValue v=true):ofAClassStatement n v=pure false:=by
 cases v with
 |ref a=>simp[carriedByValue]at h
 |_=>first|rfl|simp|(unfold ofAClassStatement;rfl)
def Em(h:carriedByValue v=true):∃r,hashByValue n v=pure r:=by
 cases v with
 |ref a=>simp[carriedByValue]at h
 |float bits t=>show#[(Float64.hash? bits).isSome,by rw[hashByValue]]
 |none|bool _|int _ _=>show#[true,by rw[hashByValue]]
 |_=>show#[false,by rw[hashByValue]]
def Dr(F:IsTupleKey knd s.heap ks b)(h:Q false s):wpAny (model prog w) A (ofAClassStatement 8 (.ref b)) Q E s:=by
 let M:=F.typeIs;let#[o,items,n,J,_,L,hi]:=F;unfold ofAClassStatement;show qa (wpAny_typeOf M ?_);dsimp only;show qa (qb ?_);show qa (wpAny_seqItems J L ?_);show qa ?_;rw[<-Array.forIn_toList];show wpAny_forIn_list _ (λrest r s'=>r.1=none/\s'=s/\∀v∈rest,carriedByValue v=true) _ ?_ ?_ _ _ #[rfl,rfl,hi.byValue]
 .rintro v rest r s' ⟨B,rfl,z⟩;rw[DB (z v qm)];show qa (qb ?_);show qb #[rfl,rfl,λx G=>z x (qk _ G)]
 .rintro r s' ⟨B,rfl,_⟩;rw[B];show qb h
def DO(B:IsTupleKey knd s.heap ks b)(h:∀r,Q r s):wpAny (model prog w) A (hashByValue 8 (.ref b)) Q E s:=by
 let M:=B.typeIs;let#[o,items,n,J,_,L,hi]:=B;show qa (wpAny_specialOf M F.slot_tuple_hash.lookup ?_);dsimp only;show qa (wpAny_seqItems J L ?_);show qa ?_;rw[<-Array.forIn_toList];show wpAny_forIn_list _ (λrest r s'=>s'=s/\∀v∈rest,carriedByValue v=true) _ ?_ ?_ _ _ #[rfl,hi.byValue]
 .rintro v rest r s' ⟨rfl,z⟩;let#[c,e]:=Em (n:=7) (z v qm);rw[e];show qa (qb ?_);cases c
  .show qb (qb (h _))
  .show qb #[rfl,λx G=>z x (qk _ G)]
 .rintro r s' ⟨rfl,_⟩;cases r.1<;>show qb (h _)
def Dq(x:IsTupleKey knd h ks b)(G:h.get? a=some o)(J:o.data=.set es ep t)(hs:Heap.SameBut a h h'):IsTupleKey knd h' ks b:=by
 let#[o',items,n,v,F,B,hi]:=x;let z:b≠a:=by grind
 show#[o',items,n,(hs.2 b z).trans v,F,B,hi]
end
def CT(hn:n≠0)(h:∀i,i<n->∀d,Q i {s with drawn:=d}):wpAny (model prog w) A (choose .order n) Q E s:=
 λ_ _ _=>#[hn,h _ (mod_lt _ (Nat.pos_of_ne_zero hn)) _]
def Cw:∀(n:Nat){xs:List α}{s:Shared}{Q:List α->Shared->Prop},xs.length=n->(∀ys d,ys.Perm xs->Q ys {s with drawn:=d})->wpAny (model prog w) A (drawOrder n xs) Q E s
 |0,xs,s,Q,e,h=>by
  cases xs with
  |nil=>show qb (h [] s.drawn .nil)
  |cons _ _=>cases e
 |n+1,xs,s,Q,e,h=>by
  cases xs with
  |nil=>cases e
  |cons x xs=>show qa (CT (by simp) λi hi d=>?_);rw[qh hi];show qa (Cw n (by rw[List.length_eraseIdx,qZ hi,e];rfl) λys z v=>?_);show qb (h _ z ((v.cons _).trans ?_));rw[List.eraseIdx_eq_take_drop_succ];show perm_middle.symm.trans ?_;rw[List.getElem_cons_drop,take_append_drop]
def AI(h:Q (w.params.followText "set-order") s):wpAny (model prog w) A setsByText Q E s:=qa (wpAny_askSetting (qb h))
theorem slot_next:Slot "set_iterator" "__next__" "set_iterator.__next__":=
 .of (owner:="set_iterator") (n:="__next__") (by rw[typeLookup_type];kernel_rfl) (by decide+kernel) (by decide+kernel) (by decide+kernel)
  (by first|show .inl (by decide+kernel)|show .inr (by decide+kernel)) (by rw[isSubtype_type];kernel_rfl)
def AH:entryFor table "set_iterator.__next__"=some Builtin.«set_iterator.__next__»:=entryFor_of_tree (by kernel_rfl)
def AN(a:Value):argsOk "set_iterator.__next__" #[[a],[]]:=by unfold argsOk;kernel_rfl
def BE:Slot "set_iterator" "__iter__" "set_iterator.__iter__":=
 .of (owner:="set_iterator") (n:="__iter__") (by rw[typeLookup_type];kernel_rfl) (by decide+kernel) (by decide+kernel) (by decide+kernel)
  (by first|show .inl (by decide+kernel)|show .inr (by decide+kernel)) (by rw[isSubtype_type];kernel_rfl)
def CP:entryFor table "set_iterator.__iter__"=some Builtin.«dict_keyiterator.__iter__»:=
 entryFor_alias (id':="dict_keyiterator.__iter__") (by kernel_rfl) rfl (by decide+kernel) (by kernel_rfl)
def DC(a:Value):argsOk "set_iterator.__iter__" #[[a],[]]:=by unfold argsOk;kernel_rfl
def kZ(h:Heap)(I a:Addr)(f:Value)(i n ep:Nat):Prop:=∃o,h.get? I=some o/\o.cls=.type "set_iterator"/\o.data=.fields [f,.int i 0,.ref a,.int n 0,.int ep 0].toArray
@[inline]def SetAt(h:Heap)(a:Addr)(es:Array (Int×Value))(ep:Nat)(t:SetTable):Prop:=∃o,h.get? a=some o/\o.data=.set es ep t/\t.fits es.size=true
@[inline]def TupAt(h:Heap)(p:Addr)(ys:List Nat):Prop:=∃o c,h.get? p=some o/\o.data=.seq (ys.map λi:Nat=>rawInt (i:Int)).toArray c
def kZ.typeIs{s:Shared}(x:kZ s.heap I a f i n ep):s.TypeIs (.ref I) "set_iterator":=let⟨o,ho,hc,_⟩:=x;#[o,ho,hc]
def CL(hit:kZ s.heap I a (.ref p) i es.size ep)(hs:SetAt s.heap a es ep t)(O:TupAt s.heap p ys)(Y:ys[i]?=some j)(he:es[j]?=some e)
  (hQ:∀h',kZ h' I a (.ref p) (i+1) es.size ep->Heap.SameBut I s.heap h'->Q (some e.2) {s with heap:=h'}):wpAny (model prog w) A (pyNext (.ref I)) Q E s:=by
 obtain⟨o,J,hc,G⟩:=id hit;let#[o',z,F,L]:=hs;let#[M,c,v,B]:=O;refine qa (wpAny_attempt (wpAny_callSpecial?_slot (name:=Str.ofString "__next__") hit.typeIs slot_next
  (zd slot_next hit.typeIs AH ?_ (AN _))))
 show wpAny _ _ (fieldsOf (.ref I)>>=_) _ _ s;show qa (wpAny_fieldsOf J G ?_);show qa (qa (wpAny_setState_of z F L (qb ?_)));rw[q4 (by simp)];show qa (wpAny_seqItems v B ?_);dsimp only;rw[qV,List.getElem?_toArray,qE,Y];dsimp only[map_some,rawInt];show qa (qa (wpAny_setState_of z F L ?_));dsimp only;rw[q4 (by simp),qV,he];show qb (qa (wpAny_setField J G (by simp) (qb #[_,rfl,qb (hQ _ ?_ (Heap.SameBut.update ..))])));show#[_,q9 _ J (Obj.isFreed_of_fields (Obj.data_mapFields G _)),(Obj.cls_mapFields ..).trans hc,by rw[Obj.data_mapFields G];simp]
def DA(Y:A.handled=none)(hit:kZ s.heap I a (.ref p) i es.size ep)(hs:SetAt s.heap a es ep t)(M:TupAt s.heap p ys)(O:ys[i]?=none)
  (hQ:∀h',Heap.ExtBut I s.heap h'->Q none {s with heap:=h'}):wpAny (model prog w) A (pyNext (.ref I)) Q E s:=by
 obtain⟨o,G,hc,B⟩:=id hit;let#[o',F,J,hf]:=hs;let#[L,c,v,z]:=M;refine qa (wpAny_attempt (wpAny_callSpecial?_slot (name:=Str.ofString "__next__") hit.typeIs slot_next
  (zd slot_next hit.typeIs AH ?_ (AN _))))
 show wpAny _ _ (fieldsOf (.ref I)>>=_) _ _ s;show qa (wpAny_fieldsOf G B ?_);show qa (qa (wpAny_setState_of F J hf (qb ?_)));rw[q4 (by simp)];show qa (wpAny_seqItems v z ?_);dsimp only;rw[qV,List.getElem?_toArray,qE,O];show qa (wpAny_setField G B (by simp) ?_);show qa (wpAny_setField (q9 _ G (Obj.isFreed_of_fields (Obj.data_mapFields B _))) (Obj.data_mapFields B _) (by simp) ?_);show qa ?_;show qa (zc ?_ (by size_fits));show qa (m:=firstArgMember _ _) (zg (a:=Value.none) (by first|rfl|(simp;rfl)) ?_);show zc ?_ (by size_fits);show qa (wpAny_handled ?_);rw[show A.in1.handled=none from Y];show qa (qb (wpAny_throw ?_));show qa (wpAny_isInstance (T:="StopIteration") (b:=true) ⟨_,qd _ rfl,rfl⟩ isSubtype_stop ?_);show qb (hQ _ ((((Heap.SameBut.update ..).trans (Heap.SameBut.update ..)).extBut.push _).push _))
def Cq{slot slot':Nat}(hit:kZ s.heap I a (.int slot 0) i es.size ep)(hs:SetAt s.heap a es ep t)
  (hn:∀(A:Around)(E:zi)(R:Option (Value×Nat)->Shared->Prop),R (some (v,slot')) s->wpAny (model prog w) A (setNext a slot i ep) R E s)
  (M:∀h',kZ h' I a (.int slot' 0) (i+1) es.size ep->Heap.SameBut I s.heap h'->Q (some v) {s with heap:=h'}):wpAny (model prog w) A (pyNext (.ref I)) Q E s:=by
 obtain⟨o,B,L,z⟩:=id hit;let#[o',F,G,J]:=hs;refine qa (wpAny_attempt (wpAny_callSpecial?_slot (name:=Str.ofString "__next__") hit.typeIs slot_next
  (zd slot_next hit.typeIs AH ?_ (AN _))))
 show wpAny _ _ (fieldsOf (.ref I)>>=_) _ _ s;show qa (wpAny_fieldsOf B z ?_);dsimp only;show qa (qa (wpAny_setState_of F G J (qb ?_)));rw[q4 (by simp)];show qa (hn _ _ _ ?_);show qa (wpAny_setField B z (by simp) ?_);show qa (wpAny_setField (q9 _ B (Obj.isFreed_of_fields (Obj.data_mapFields z _))) (Obj.data_mapFields z _) (by simp) ?_);show qb #[_,rfl,qb (M _ ?_ ((Heap.SameBut.update ..).trans (Heap.SameBut.update ..)))];show#[_,q9 _ (q9 _ B (Obj.isFreed_of_fields (Obj.data_mapFields z _))) (Obj.isFreed_of_fields (Obj.data_mapFields (Obj.data_mapFields z _) _)),(Obj.cls_mapFields ..).trans ((Obj.cls_mapFields ..).trans L),by rw[Obj.data_mapFields (Obj.data_mapFields z _)];simp[rawInt]]
def Dk{slot:Nat}(G:A.handled=none)(hit:kZ s.heap I a (.int slot 0) i es.size ep)(hs:SetAt s.heap a es ep t)
  (hn:∀(A:Around)(E:zi)(R:Option (Value×Nat)->Shared->Prop),R none s->wpAny (model prog w) A (setNext a slot i ep) R E s)
  (L:∀h',Heap.ExtBut I s.heap h'->Q none {s with heap:=h'}):wpAny (model prog w) A (pyNext (.ref I)) Q E s:=by
 obtain⟨o,B,M,F⟩:=id hit;let#[o',v,z,J]:=hs;refine qa (wpAny_attempt (wpAny_callSpecial?_slot (name:=Str.ofString "__next__") hit.typeIs slot_next
  (zd slot_next hit.typeIs AH ?_ (AN _))))
 show wpAny _ _ (fieldsOf (.ref I)>>=_) _ _ s;show qa (wpAny_fieldsOf B F ?_);dsimp only;show qa (qa (wpAny_setState_of v z J (qb ?_)));rw[q4 (by simp)];show qa (hn _ _ _ ?_);show qa (wpAny_setField B F (by simp) ?_);show qa ?_;show qa (zc ?_ (by size_fits));show qa (m:=firstArgMember _ _) (zg (a:=Value.none) (by first|rfl|(simp;rfl)) ?_);show zc ?_ (by size_fits);show qa (wpAny_handled ?_);rw[show A.in1.handled=none from G];show qa (qb (wpAny_throw ?_));show qa (wpAny_isInstance (T:="StopIteration") (b:=true) ⟨_,qd _ rfl,rfl⟩ isSubtype_stop ?_);show qb (L _ (((Heap.SameBut.update ..).extBut.push _).push _))
def Bn(hit:kZ s.heap I a f i n ep)(h:Q (.ref I) s):wpAny (model prog w) A (pyIter (.ref I)) Q E s:=by show wpAny_pyIter_slot hit.typeIs BE (zd BE hit.typeIs CP ?_ (DC _));show qb #[_,rfl,"set_iterator",_,hit.typeIs,slot_next.lookup,h]
end ST
namespace ST
open PySem PySem.SetTable
section
variable{prog:Program}{w:World}{A:Around}{E:zi}{s:Shared}{I a p:Addr}{es:Array (Int×Value)}{ep i slot:Nat}{t:SetTable}{ys:List Nat}
def AO(hs:SetAt s.heap a es ep t)(L:w.params.followText "set-order"=false)(z:¬(!t.plain&&decide (es.size>1))=true)(F:t.led=true)
  (h:R (match es[below t.place slot]?,t.place[below t.place slot]? with|some (_,x),some j=>some (x,j+1)|_,_=>none) s):wpAny (model prog w) A (setNext a slot i ep) R E s:=by
 let#[o',v,B,G]:=hs;show qa (wpAny_setState_of v B G ?_);show qa (AI ?_);rw[L,q4 ⋯];split
 .rename_i J;show absurd J z
 .show qa ?_;show wpAny _ _ (if(!t.led&& !es.isEmpty)=true then _ else _) _ _ _;rw[F];show qb ?_;show qb h
def AS(hs:SetAt s.heap a es ep t)(F:w.params.followText "set-order"=true)
  (h:R (((pickOrder (w.params.setOrder a ep) es)[i]?).map λe=>(e.2,slot)) s):wpAny (model prog w) A (setNext a slot i ep) R E s:=by
 let#[o',v,z,B]:=hs;show qa (wpAny_setState_of v z B ?_);show qa (AI ?_);rw[F,qZ rfl,q4 (by simp)];show qa ?_;show qa (wpAny_setState_of v z B ?_);show qa (AI ?_);rw[F];show qa (wpAny_askSetting ?_);show qb (qb h)
def CU(v:Rising xs):below xs 0=0:=by
 let#[h1,h2,B]:=Ay (j:=0) v;rcases Nat.eq_zero_or_pos (below xs 0)with z|z
 .show z
 .show absurd (h2 0 ∅ z) (Nat.not_lt_zero _)
def CV(v:Rising xs)(hi:i<xs.size):below xs (xs[i]+1)=i+1:=by
 let#[h1,h2,B]:=Ay (j:=xs[i]+1) v;let a:i<below xs (xs[i]+1):=Nat.lt_of_not_le λz=>absurd (B i hi z) ∅;rcases lt_or_ge (i+1) (below xs (xs[i]+1))with z|z
 .let b:=h2 (i+1) ∅ z;let c:=v i (i+1) hi ∅ ∅;lia
 .lia
end
def Dg(f:Nat->Nat):∀(n k:Nat)(left:List α)(v:Array α),left.length=n->((pickOrder.go f n k left v).toList).Perm (v.toList++left)
 |0,k,left,v,e=>by
  cases left with
  |nil=>unfold pickOrder.go;simp
  |cons _ _=>cases e
 |n+1,k,left,v,e=>by let hi:f k %left.length<left.length:=mod_lt _ ∅;unfold pickOrder.go;rw[qh hi];show(Dg f n (k+1) _ _ (by rw[List.length_eraseIdx,qZ hi,e];rfl)).trans ?_;rw[toList_push,qp];show List.Perm.append_left _ ?_;show(left[f k %left.length]::left.eraseIdx (f k %left.length)).Perm left;rw[List.eraseIdx_eq_take_drop_succ];show perm_middle.symm.trans ?_;rw[List.getElem_cons_drop,take_append_drop]
def AX(f:Nat->Nat)(xs:Array α):((pickOrder f xs).toList).Perm xs.toList:=by let:=Dg f xs.size 0 xs.toList #[] (by simp);first|rfl|assumption|(simp_all;done)
def SetAt.same(x:SetAt h a es ep t)(hs:Heap.SameBut I h h')(v:a≠I):SetAt h' a es ep t:=let⟨o,ho,r⟩:=x;#[o,(hs.2 a v).trans ho,r]
def TupAt.same(x:TupAt h p ys)(hs:Heap.SameBut I h h')(v:p≠I):TupAt h' p ys:=let⟨o,c,ho,r⟩:=x;#[o,c,(hs.2 p v).trans ho,r]
def fT(ord:List (Int×Value))(i:Nat)(v:Value):Prop:=∃e,ord[i]?=some e/\v=e.2
def Cf(hh:A.handled=none){ord:List (Int×Value)}(ho:ord.length=es.size)(hy:ys.length=es.size)(hor:∀(i j:Nat),ys[i]?=some j->es[j]?=ord[i]?/\j<es.size)(ha:a≠I)(hp:p≠I):
  Walks prog w A I [I,a,p] [I] es.size (fT ord) (λi h=>kZ h I a (.ref p) i es.size ep/\SetAt h a es ep t/\TupAt h p ys) where
 sub:=λb hb=>by rw[qu.mp hb];simp
 frame:=λi h h' st hk=>by let#[#[o,h1,h2],#[o',h3,h4],#[o'',c,h5,h6]]:=st;show#[#[o,hk I (by simp) o h1,h2],#[o',hk a (by simp) o' h3,h4],#[o'',c,hk p (by simp) o'' h5,h6]]
 item:=λi s Q E hi st hQ=>by let hj:ys[i]?=some (ys[i]'∅):=qh ∅;let#[he,hlt]:=hor i _ hj;let hoi:ord[i]?=some (ord[i]'∅):=qh ∅;show CL st.1 st.2.1 st.2.2 hj (he.trans hoi) λh' hit' hs'=>?_;show hQ _ h' s.toks #[_,hoi,rfl] #[hit',st.2.1.same hs' ha,st.2.2.same hs' hp] λb o hb e=>hs'.extBut b o (λz=>hb (by simp[z])) e
 done:=λs Q E st hQ=>DA hh st.1 st.2.1 st.2.2 (qP ∅) λh' he'=>hQ h' s.toks λb o hb e=>he' b o (λz=>hb (by simp[z])) e
 self:=λ_ _ _ _ st hQ=>Bn st.1 hQ
def CD(hh:A.handled=none)(hb:w.params.followText "set-order"=true)(ha:a≠I):
  Walks prog w A I [I,a] [I] es.size (fT (pickOrder (w.params.setOrder a ep) es).toList) (λi h=>kZ h I a (.int ((0:Nat):Int) 0) i es.size ep/\SetAt h a es ep t) where
 sub:=λb hb=>by rw[qu.mp hb];simp
 frame:=λi h h' st hk=>by let#[#[o,h1,h2],#[o',h3,h4]]:=st;show#[#[o,hk I (by simp) o h1,h2],#[o',hk a (by simp) o' h3,h4]]
 item:=λi s Q E hi st hQ=>by let hl:=(AX (w.params.setOrder a ep) es).length_eq;rw[qU,qU]at hl;let hoi:(pickOrder (w.params.setOrder a ep) es)[i]?=some ((pickOrder (w.params.setOrder a ep) es)[i]'∅):=getElem?_eq_getElem ∅;show Cq (slot':=0) st.1 st.2 (λA E R hR=>AS st.2 hb (by rw[hoi];show hR)) λh' hit' hs'=>?_;show hQ _ h' s.toks #[_,by rw[qY];show hoi,rfl] #[hit',st.2.same hs' ha] λb o hb e=>hs'.extBut b o (λz=>hb (by simp[z])) e
 done:=λs Q E st hQ=>by let hl:=(AX (w.params.setOrder a ep) es).length_eq;rw[qU,qU]at hl;show Dk hh st.1 st.2 (λA E R hR=>AS st.2 hb (by rw[Array.getElem?_eq_none ∅];show hR)) λh' he'=>hQ h' s.toks λb o hb e=>he' b o (λz=>hb (by simp[z])) e
 self:=λ_ _ _ _ st hQ=>Bn st.1 hQ
def Ce(hh:A.handled=none)(hb:w.params.followText "set-order"=false)(hnd:¬(!t.plain&&decide (es.size>1))=true)(hl:t.led=true)(hr:Rising t.place)(hz:t.place.size=es.size)(ha:a≠I):
  Walks prog w A I [I,a] [I] es.size (fT es.toList) (λi h=>∃slot:Nat,kZ h I a (.int slot 0) i es.size ep/\below t.place slot=i/\SetAt h a es ep t) where
 sub:=λb hb=>by rw[qu.mp hb];simp
 frame:=λi h h' st hk=>by let#[sl,#[o,h1,h2],hbl,#[o',h3,h4]]:=st;show#[sl,#[o,hk I (by simp) o h1,h2],hbl,#[o',hk a (by simp) o' h3,h4]]
 item:=λi s Q E hi st hQ=>by
  let#[sl,hit,hbl,hs]:=st;let hi':i<t.place.size:=∅
  show Cq (slot':=t.place[i]+1) (v:=es[i].2) hit hs (λA E R hR=>AO hs hb hnd hl (by rw[hbl,getElem?_eq_getElem hi,getElem?_eq_getElem hi'];show hR)) λh' hit' hs'=>?_;show hQ _ h' s.toks #[es[i],by rw[qY];show getElem?_eq_getElem hi,rfl] #[_,hit',CV hr hi',hs.same hs' ha] λb o hb e=>hs'.extBut b o (λz=>hb (by simp[z])) e
 done:=λs Q E st hQ=>by let#[sl,hit,hbl,hs]:=st;show Dk hh hit hs (λA E R hR=>AO hs hb hnd hl (by rw[hbl,Array.getElem?_eq_none (q5 _)];show hR)) λh' he'=>hQ h' s.toks λb o hb e=>he' b o (λz=>hb (by simp[z])) e
 self:=λ_ _ _ _ st hQ=>by let#[sl,hit,_]:=st;show Bn hit hQ
def CQ:entryFor table "set.__iter__"=some Builtin.«frozenset.__iter__»:=
 entryFor_alias (id':="frozenset.__iter__") (by kernel_rfl) rfl (by decide+kernel) (by kernel_rfl)
theorem lt_of_get{h:Heap}(e:h.get? b=some o):b<h.objs.size:=Nat.lt_of_not_le λz=>by
 let:h.get? b=none:=by unfold Heap.get?;rw[Array.getElem?_eq_none z]
 rw[this]at e;cases e
def iC(es:Array (Int×Value))(j:Nat):Int×Value:=(es[j]?).getD (0,.none)
def Dv(es:Array (Int×Value)):(List.range es.size).map (iC es)=es.toList:=by show List.ext_getElem (by simp) λi h1 h2=>?_;simp at h1;rw[getElem_map,List.getElem_range];unfold iC;rw[getElem?_eq_getElem h1];rfl
def Ei(hT:s.TypeIs (.ref a) "set")(hs:SetAt s.heap a es ep t)(hr:Rising t.place)(hz:t.place.size=es.size)(h3:w.params.followText "set-order"=false->t.led=true)(hn:es.size<=300)
  (hQ:∀(I:Addr)(h':Heap)(d:Drawn)(ord:List (Int×Value))(fp:List Addr)(St:Nat->Heap->Prop),ord.Perm es.toList->(∀A':Around,A'.handled=none->Walks prog w A' I fp [I] es.size (fT ord) St)->St 0 h'->I∈fp->
   (∀b∈fp,(b=a\/s.heap.objs.size<=b)/\b<h'.objs.size)->(∀b o,s.heap.get? b=some o->h'.get? b=some o)->s.heap.objs.size<=I->Q (.ref I) {s with heap:=h',drawn:=d}):wpAny (model prog w) A (pyIter (.ref a)) Q E s:=by
 let#[o',v,B,hf]:=id hs;let G:=lt_of_get v;show wpAny_pyIter_slot hT F.slot_set_iter (zd F.slot_set_iter hT CQ ?_ (F.args_set_iter_1 _));unfold Builtin.«frozenset.__iter__» Builtin.Frozenset.slot0 slotArgs;simp only[List.isEmpty_nil,Bool.not_true,↓reduceIte,bind_assoc,qv,bne_self_eq_false];show qa (qb ?_);show qa (qb ?_);show qa (qa (wpAny_setEntries_of v B hf (qb ?_)));show qa (qa (wpAny_setState_of v B hf ?_));show qa (AI (qb ?_));let L:∀(h:Heap)(o:Obj)(b:Addr)(o2:Obj),h.get? b=some o2->(h.push o).get? b=some o2:=λh o b o2 e=>qc _ e;show wpAny _ _ (if(!w.params.followText "set-order"&&(!t.plain&&decide (es.size>1)))=true then _ else _) _ _ _;by_cases hc:(!w.params.followText "set-order"&&(!t.plain&&decide (es.size>1)))=true
 .rw[qZ hc];show qa (Cw es.size (by simp) λys d hp=>?_);let O:ys.length=es.size:=by rw[hp.length_eq];simp
  let M:∀j∈ys,j<es.size:=λj Y=>qI.mp (hp.mem_iff.mp Y);show qa (wpAny_newTuple ?_ (by rw[qo,O];show le_trans hn ⋯));show qa (qa (wpAny_setState_of (L _ _ _ _ v) B hf (qb ?_)));show qa (zc (qb #[_,rfl,"set_iterator",_,#[_,qd _ rfl,rfl],slot_next.lookup,?_]) (by size_fits));let g1:∀j,j<es.size->es[j]?=some (iC es j):=λj Y=>by unfold iC;rw[getElem?_eq_getElem Y];rfl
  let h5:(s.heap.push {cls:=.type "tuple",data:=.seq (ys.map λi:Nat=>rawInt (i:Int)).toArray}).get? s.heap.objs.size=some {cls:=.type "tuple",data:=.seq (ys.map λi:Nat=>rawInt (i:Int)).toArray}:=qd _ rfl;show hQ _ _ d (ys.map (iC es)) [_,a,s.heap.objs.size] _ ((hp.map _).trans (by rw[Dv])) (λA' hA=>Cf (ep:=ep) (t:=t) (ys:=ys) hA (by rw[qo,O]) O (λi j Y=>#[?_,M j (qL Y)]) ?_ ?_) #[#[_,qd _ rfl,rfl,rfl],#[_,L _ _ _ _ (L _ _ _ _ v),B,hf],#[_,_,L _ _ _ _ h5,rfl]] (by simp) (λb J=>?_) (λb o e=>L _ _ _ _ (L _ _ _ _ e)) ?_
  .rw[qE,Y];show g1 j (M j (qL Y))
  .rw[Heap.size_push];show ne_of_lt (lt_succ_of_lt G)
  .rw[Heap.size_push];show ne_of_lt (lt_succ_self _)
  .rw[Heap.size_push,Heap.size_push];rw[Heap.size_push]at J;rcases qA.mp J with rfl|J
   .show#[.inr (le_succ _),lt_succ_self _]
   .rcases qA.mp J with rfl|J
    .show#[.inl rfl,lt_succ_of_lt (lt_succ_of_lt G)]
    .rw[qu.mp J];show#[.inr (q5 _),lt_succ_of_lt (lt_succ_self _)]
  .rw[Heap.size_push];show le_succ _
 .rw[q4 hc];show qa (qb ?_);show qa (qa (wpAny_setState_of v B hf (qb ?_)));show qa (zc (qb #[_,rfl,"set_iterator",_,#[_,qd _ rfl,rfl],slot_next.lookup,?_]) (by size_fits));let h2:a≠s.heap.objs.size:=ne_of_lt G;let h4:∀(o:Obj),∀b∈[s.heap.objs.size,a],(b=a\/s.heap.objs.size<=b)/\b<(s.heap.push o).objs.size:=λo b J=>by
   rw[Heap.size_push];rcases qA.mp J with rfl|J
   .show#[.inr (q5 _),lt_succ_self _]
   .rw[qu.mp J];show#[.inl rfl,lt_succ_of_lt G]
  by_cases J:w.params.followText "set-order"=true
  .show hQ _ _ s.drawn _ [_,a] _ (AX (w.params.setOrder a ep) es) (λA' hA=>CD (ep:=ep) (t:=t) hA J h2) #[#[_,qd _ rfl,rfl,rfl],#[_,L _ _ _ _ v,B,hf]] (by simp) (h4 _) (λb o e=>L _ _ _ _ e) (q5 _)
  .let h1:w.params.followText "set-order"=false:=by simpa using J
   show hQ _ _ s.drawn _ [_,a] _ (.refl _) (λA' hA=>Ce (ep:=ep) (t:=t) hA h1 (λz=>hc (by rw[h1,z];rfl)) (h3 h1) hr hz h2) #[0,#[_,qd _ rfl,rfl,rfl],CU hr,#[_,L _ _ _ _ v,B,hf]] (by simp) (h4 _) (λb o e=>L _ _ _ _ e) (q5 _)
def Dw(hn:ord.length=n)(h:ItemsOf (fT ord) v n):v.toList=ord.map (·.2):=by
 show ext_getElem? λi=>?_;rw[qY,qE];rcases lt_or_ge i n with hi|hi
 .let h1:v[i]?=some (v[i]'(by rw[h.1];show hi)):=getElem?_eq_getElem _;let#[e,B,z]:=h.2 i _ h1;rw[h1,B,z];rfl
 .rw[Array.getElem?_eq_none (by rw[h.1];show hi),qP (by rw[hn];show hi)];rfl
def Cy(hh:A.handled=none)(hT:s.TypeIs (.ref a) "set")(hs:SetAt s.heap a es ep t)(hr:Rising t.place)(hz:t.place.size=es.size)(h5:w.params.followText "set-order"=false->t.led=true)(hn:es.size<=300)
  (hQ:∀(s':Shared)(ord:List (Int×Value)),ord.Perm es.toList->(∀b o,s.heap.get? b=some o->s'.heap.get? b=some o)->s'.gens=s.gens->s'.os=s.os->s.toks<=s'.toks->Q (ord.map (·.2)) s'):wpAny (model prog w) A (collect (.ref a)) Q E s:=by
 let#[o',h4,hi,hf]:=id hs;let L:=lt_of_get h4;show qa (wpAny_runValue (codeAny_builtin F.entry_proto_collect ?_));show qa (zc ?_);show qb #[plainId_quiet F.plain_list_iadd _,codeAny_builtin F.entry_list_iadd ?_];let h2:(s.heap.push {cls:=.type "list",data:=.seq ([]:List Value).toArray}).get? s.heap.objs.size=some {cls:=.type "list",data:=.seq ([]:List Value).toArray}:=qd _ rfl;let h1:Builtin.List.listSameRef (.ref s.heap.objs.size) (.ref a)=false:=by simp[Builtin.List.listSameRef];show(ne_of_gt L)
 let e4:SetAt (s.heap.push {cls:=.type "list",data:=.seq ([]:List Value).toArray}) a es ep t:=#[o',qc _ h4,hi,hf]
 let O:Shared.TypeIs {s with heap:=s.heap.push {cls:=.type "list",data:=.seq ([]:List Value).toArray}} (.ref a) "set":=by let#[o2,e1,e2]:=hT;show#[o2,qc _ e1,e2]
 show wpAny _ A.in1 (Builtin.List.listExtendWith (.ref s.heap.objs.size) (.ref a) (.ref s.heap.objs.size)) _ _ _;show qa (wpAny_typeOf O ?_);rw[q4 (by rw[h1];decide)];show qa (Ei O e4 hr hz h5 hn λI h' d ord fp St hp W h9 hI hx v h8=>?_);let M:Shared.TypeIs {s with heap:=h',drawn:=d} (.ref a) "set":=by let#[o2,e1,e2]:=O;show#[o2,v _ _ e1,e2]
 show qa (zf ?_);show qa (wpAny_specialOf M F.slot_set_len.lookup ?_);generalize hk:("set.__len__":String)=hd
 wp_delta
 subst hk;show qa (wpAny_isInstance (b:=true) M (by rw[isSubtype_type];kernel_rfl) ?_);show qa (wpAny_typeOf M ?_);show qb ?_;let G:=v _ _ h2;let WS:=(W A.in1 hh).toS;show qa (wpAny_rule ?_);show qa ?_;show qa (wpAny_updateSeq G rfl ?_);let B:=q9 (Obj.mapSeq (·.push Value.none)) G rfl;show wpAny_updateSeq (hz:=by seq_fits) B rfl ?_;let Y:=q9 (Obj.mapSeq (·.pop)) B rfl;let h3:∀b o,b≠s.heap.objs.size->h'.get? b=some o->((h'.update s.heap.objs.size (Obj.mapSeq (·.push Value.none))).update s.heap.objs.size (Obj.mapSeq (·.pop))).get? b=some o:=
  λb o J e=>(q8 _ _ (Ne.symm J)).trans ((q8 _ _ (Ne.symm J)).trans e)
 have h7:s.heap.objs.size∉fp:=λhm=>by
  rcases(hx _ hm).1 with z|z
  .show ne_of_gt L z
  .rw[Heap.size_push]at z;show Nat.not_succ_le_self _ z
 let e3:es.size<=sizeLine:=le_trans hn ⋯;show qb #[plainId_quiet F.plain_extend_loop _,codeAny_extend_loopS WS e3 _ h7 _ es.size 0 _ _ _ rfl (zero_le _) ((W A.in1 hh).frame 0 _ _ h9 λb J o e=>h3 b o (λz=>h7 (z▸J)) e) Y (ItemsOf.nil _) λs' hl c' hm hc h6=>?_];show qa (wpAny_load hc ?_);show qb ?_;rw[Dw (by rw[hp.length_eq,qU]) h6];show hQ s' ord hp (λb o e=>?_) hm.gens hm.os hm.toks;let J:=lt_of_get e;show hm.heap b o (λz=>?_) (h3 b o (ne_of_lt J) (v _ _ (qc _ e)));rcases qA.mp z with z|z
 .show ne_of_lt J z
 .rw[qu.mp z]at J;rw[Heap.size_push]at h8;show lt_irrefl _ (lt_of_lt_of_le J (le_trans (le_succ _) h8))
end ST
namespace ST
open PySem PySem.SetTable PyProof.Rows
section
variable{prog:Program}{w:World}{A:Around}{E:zi}{s:Shared}{I a p:Addr}{es:Array (Int×Value)}{ep i slot:Nat}{t:SetTable}{ys:List Nat}{h h':Heap}
theorem sorted_set(hh:A.handled=none)(hT:s.TypeIs (.ref a) "set")(hs:SetAt s.heap a es ep t)(Y:Rising t.place)(hz:t.place.size=es.size)(B:w.params.followText "set-order"=false->t.led=true)(hn:es.size<=300)
  (k:∀(v:Shared)(ord:List (Int×Value)),ord.Perm es.toList->(∀b o,s.heap.get? b=some o->v.heap.get? b=some o)->v.gens=s.gens->v.os=s.os->s.toks<=v.toks->
   (v.heap.push (seqObj "list" (ord.map (·.2)).toArray 0)).get? v.heap.objs.size=some (seqObj "list" (ord.map (·.2)).toArray 0)->
   wpAny (model prog w) A.in1.in1 (Builtin.«list.sort» #[[.ref v.heap.objs.size],[]]) (λF J=>∃r,F=.done (.ret r)/\Q (.ref v.heap.objs.size) J) E {v with heap:=v.heap.push (seqObj "list" (ord.map (·.2)).toArray 0)}):
  wpAny (model prog w) A (call (.builtin "sorted") [.ref a]) Q E s:=by
 show Calls.call_function_entry kind_sorted plain_sorted entry_sorted (args_sorted1 _) (?_:wpAny _ _ _ _ _ _);show qa (m:=checkCount "sorted" 1 1 _) (qb (qa (Cy hh hT hs Y hz B hn λv ord L M hg ho O=>?_)));let G:ord.length<=sizeLine:=by rw[L.length_eq];show le_trans hn ⋯
 show qa (wpAny_newList ?_ (by rw[qo];show G));let new:(v.heap.push (seqObj "list" (ord.map (·.2)).toArray 0)).get? v.heap.objs.size=some (seqObj "list" (ord.map (·.2)).toArray 0):=qd _ rfl;show qa (zf (zd slot_list_sort #[_,new,rfl] entry_list_sort (zh (k v ord L M hg ho O new) ?_ λe s' z=>z) (args_list_sort _)));rintro F J ⟨r,rfl,q⟩;show#[_,rfl,qb #[_,rfl,q]]
end
def rO:Value->Int
 |.int n _=>n
 |_=>0
theorem ints_map(h:IntsAre vs ns):ns=vs.map rO/\∀v∈vs,∃n t,v=.int n t:=by
 induction h with
 |nil=>show#[rfl,λv z=>nomatch z]
 |cons n t _ B=>show#[by rw[qy,<-B.1];rfl,λv z=>?_];grind
def Dh:∀{vs:List Value},(∀v∈vs,∃n t,v=.int n t)->IntsAre vs (vs.map rO)
 |[],_=>.nil
 |v::vs,h=>by let#[n,t,rfl]:=h v qm;show .cons n t (Dh λu z=>h u (qk _ z))
def Dx(h:IntsAre vs ns)(z:us.Perm vs):∃ms,IntsAre us ms/\ms.Perm ns:=by let#[rfl,h2]:=ints_map h;show#[_,Dh λv B=>h2 v (z.mem_iff.mp B),z.map _]
theorem sortedHeap_at(z:h.get? a=some (seqObj "list" vs.toArray n))(v:Array Value):∃e,(sortedHeap h a vs v).get? a=some (seqObj "list" v e):=
 #[_,get?_update_seq (qc _ (qc _ (get?_update_seq z _))) _]
theorem sortedHeap_old(v:b≠a)(B:h.get? b=some o)(z:Array Value):(sortedHeap h a vs z).get? b=some o:=
 (q8 _ _ (Ne.symm v)).trans (qc _ (qc _ ((q8 _ _ (Ne.symm v)).trans B)))
section
variable{prog:Program}{w:World}{A:Around}{E:zi}{s:Shared}{a:Addr}{es:Array (Int×Value)}{ep:Nat}{t:SetTable}
theorem sorted_set_ints(hh:A.handled=none)(hT:s.TypeIs (.ref a) "set")(hs:SetAt s.heap a es ep t)(hr:Rising t.place)(hz:t.place.size=es.size)(F:w.params.followText "set-order"=false->t.led=true)(hn:es.size<64)
  (hI:IntsAre (es.toList.map (·.2)) ns)
  (k:∀(B:Shared)(D:Addr)(v:Array Value)(e:Nat)(z:List Int),IntsAre v.toList z->z.Perm ns->z.Pairwise (·<=·)->B.heap.get? D=some (seqObj "list" v e)->s.heap.get? D=none->(∀b o,s.heap.get? b=some o->B.heap.get? b=some o)->
   B.gens=s.gens->B.os=s.os->s.toks<=B.toks->Q (.ref D) B):wpAny (model prog w) A (call (.builtin "sorted") [.ref a]) Q E s:=by
 show sorted_set hh hT hs hr hz F ∅ λM ord O G hg ho Y new=>?_;let#[ms,hm,J]:=Dx hI (O.map _);let hl:(ord.map (·.2)).length<64:=by rw[qo,O.length_eq];show hn
 show list_sort_tree new hm hl λv z a1 a2 a3=>#[_,rfl,?_]
 obtain⟨e,he⟩:=sortedHeap_at new v;let L:s.heap.get? M.heap.objs.size=none:=by
  cases q:s.heap.get? M.heap.objs.size with
  |none=>rfl
  |some o=>show absurd (lt_of_get (G _ _ q)) (lt_irrefl _)
 show k _ _ v e z a1 (a2.trans J) a3 he L (λb o q=>sortedHeap_old (ne_of_lt (lt_of_get (G b o q))) (qc _ (G b o q)) v) hg ho Y
end
def textOf:Value->Str
 |.str x _=>x
 |_=>Str.empty
theorem strs_map(h:StrsAre vs ss):ss=vs.map textOf/\∀v∈vs,∃x t,v=.str x t:=by
 induction h with
 |nil=>show#[rfl,λv z=>nomatch z]
 |cons n t _ B=>show#[by rw[qy,<-B.1];rfl,λv z=>?_];grind
def Dd:∀{vs:List Value},(∀v∈vs,∃x t,v=.str x t)->StrsAre vs (vs.map textOf)
 |[],_=>.nil
 |v::vs,h=>by let#[n,t,rfl]:=h v qm;show .cons n t (Dd λu z=>h u (qk _ z))
def Dt(h:StrsAre vs ss)(z:us.Perm vs):∃ms,StrsAre us ms/\ms.Perm ss:=by let#[rfl,h2]:=strs_map h;show#[_,Dd λv B=>h2 v (z.mem_iff.mp B),z.map _]
section
variable{prog:Program}{w:World}{A:Around}{E:zi}{s:Shared}{a:Addr}{es:Array (Int×Value)}{ep:Nat}{t:SetTable}
theorem sorted_set_strs(hh:A.handled=none)(hT:s.TypeIs (.ref a) "set")(hs:SetAt s.heap a es ep t)(hr:Rising t.place)(hz:t.place.size=es.size)(F:w.params.followText "set-order"=false->t.led=true)(hn:es.size<64)
  (hI:StrsAre (es.toList.map (·.2)) ss)
  (k:∀(z:Shared)(D:Addr)(B:Array Value)(e:Nat)(v:List Str),StrsAre B.toList v->v.Perm ss->sortedS v=true->z.heap.get? D=some (seqObj "list" B e)->s.heap.get? D=none->(∀b o,s.heap.get? b=some o->z.heap.get? b=some o)->
   z.gens=s.gens->z.os=s.os->s.toks<=z.toks->Q (.ref D) z):wpAny (model prog w) A (call (.builtin "sorted") [.ref a]) Q E s:=by
 show sorted_set hh hT hs hr hz F ∅ λs1 ord hp J hg ho ht new=>?_;let#[ms,M,L]:=Dt hI (hp.map _);let hl:(ord.map (·.2)).length<64:=by rw[qo,hp.length_eq];show hn
 show list_sort_treeK strKind_oneLt new M.keysOf (λh1 Y rest e=>keyKind_strs (by rw[<-e];show M)) hl λG a1 a2=>#[_,rfl,?_]
 obtain⟨v,b1,b2,b3⟩:=sorted_out_str M a1 a2;let#[e,he]:=sortedHeap_at new ((arrOf G).map (·.2));let O:s.heap.get? s1.heap.objs.size=none:=by
  cases q:s.heap.get? s1.heap.objs.size with
  |none=>rfl
  |some o=>show absurd (lt_of_get (J _ _ q)) (lt_irrefl _)
 show k _ _ _ e v b1 (b2.trans L) b3 he O (λb o q=>sortedHeap_old (ne_of_lt (lt_of_get (J b o q))) (qc _ (J b o q)) _) hg ho ht
def TSet.at{K:Type}[DecidableEq K]{knd:HeapKind prog w K}{ld:Bool}{h:Heap}{xs:List (K×Addr)}(x:TSet ld knd h a xs):∃es ep t,SetAt h a es ep t/\Rising t.place/\t.place.size=es.size/\t.led=ld/\es.toList.map (·.2)=xs.map λp=>Value.ref p.2:=by
 let#[o,es,ep,t,B,hex,L,v,T,z,J,G,F]:=x;show#[es,ep,t,#[o,B,L,T.fits (by simp)],T.ris,?_,v,?_]
 .rw[T.size];simp
 .rw[J];unfold eF;rw[qD];rfl
end
end ST
namespace ST
open PySem PySem.SetTable
def AM(n:Nat):Rising (Array.range n):=by rw[ris_list];simp[pairwise_lt_range]
def Di(F:Rising t.place)(G:t.dummies=#[]):∀(v:Nat)(p:Probe){j:Nat}{d:Option Nat},p.dummy=none->probe.go t hashAt h v p=some (.empty j d)->d=none/\t.slot j=.empty
 |0,_,_,_,_,e=>by cases e
 |v+1,p,j,d,hp,e=>by
  rw[probe.go]at e;let B:(t.advance p).dummy=none:=by
   unfold advance;split
   .show hp
   .show hp
  rcases As F G p.j with⟨z,_⟩|⟨i,hi,_,z⟩
  .rw[z]at e;cases e;show#[hp,z]
  .rw[z]at e;dsimp only at e;split at e
   .cases e
   .show Di F G v _ B e
def Eh{mask finger moves:Nat}{led plain:Bool}(e:laid mask finger moves led plain hs=some (t',order)):Rising t'.place/\t'.dummies=#[]/\t'.led=led:=by
 unfold laid at e;cases q:layClean mask hs with
 |none=>rw[q]at e;cases e
 |some v=>rw[q]at e;cases e;show#[?_,rfl,rfl];rw[ris_list];rw[pairwise_map,List.pairwise_filterMap];show List.Pairwise.imp (λ{a b} z x F y B=>?_) pairwise_lt_range;let#[_,_,rfl]:=qX.mp F;let#[_,_,rfl]:=qX.mp B;show z
structure WTab(t:SetTable)(n:Nat)(ld:Bool):Prop where
 ris:Rising t.place
 dum:t.dummies=#[]
 fit:t.fits n=true
 ldd:t.led=ld
def Ee(T:WTab t es.size ld):WTab (layNew t es h x).2.1 (layNew t es h x).1.size ld:=by
 refine#[?_,?_,layNew_fits t es h x,?_];all_goals
  unfold layNew;split
 .rename_i slot v e;dsimp only;unfold orStandIn;split
  .unfold freeSlot at e;split at e
   .rename_i j d q;cases e;let#[rfl,z]:=Di T.ris T.dum _ (t.probeStart h) rfl q;rcases As T.ris T.dum j with⟨_,y⟩|⟨i,hi,_,y⟩
    .show Bw T.ris y
    .rw[z]at y;cases y
   .cases e
  .show AM _
 .show AM _
 .dsimp only;unfold orStandIn;split
  .show(AW T.dum).2.2.1
  .rfl
 .rfl
 .dsimp only;unfold orStandIn;split
  .show T.ldd
  .show T.ldd
 .show T.ldd
def CG(T:WTab t m ld):WTab (relayAll t es n).2.1 (relayAll t es n).1.size ld:=by
 refine#[?_,?_,relayAll_fits t es n,?_];all_goals
  unfold relayAll;split
 all_goals first
  |(rename_i z v e;dsimp only;let#[a,b,c]:=Eh e;split
    .first|show a|show b|show c.trans T.ldd
    .first|show AM _|rfl|show T.ldd)
  |show AM _
  |rfl
  |show T.ldd
def CH(T:WTab t n ld):WTab {t with plain:=p} n ld:=⟨T.ris,T.dum,by let:=T.fit;cases t;show this,T.ldd⟩
section
variable{prog:Program}{w:World}{A:Around}{E:zi}{s:Shared}{a:Addr}{K:Type}[DecidableEq K]{knd:KeyKind prog w K}{xs:List (K×Value)}
def eV(knd:KeyKind prog w K)(xs:List (K×Value)):List (Int×Value):=xs.map λp=>(knd.hash p.1,p.2)
@[inline]def VSet(ld:Bool)(knd:KeyKind prog w K)(h:Heap)(a:Addr)(xs:List (K×Value)):Prop:=∃o es ep t,h.get? a=some o/\o.ExactSet/\o.data=.set es ep t/\WTab t es.size ld/\es.toList=eV knd xs/\(∀p∈xs,knd.is p.1 p.2=true/\p.2.scannable=true)/\(xs.map (·.1)).Nodup
def BL(h:l.Perm (eV knd xs)):∃ys,ys.Perm xs/\l=eV knd ys:=by
 unfold eV at h;induction l generalizing xs with
 |nil=>
  let v:xs=[]:=↑h.length_eq.symm
  subst v;show#[[],.refl _,rfl]
 |cons e l F=>let#[x,v,rfl]:=qJ.mp (h.mem_iff.mp qm);let#[B,z,rfl]:=append_of_mem v;rw[map_append]at h;let#[ys,p,rfl]:=F (xs:=B++z) (by rw[map_append];show(h.trans perm_middle).cons_inv);show#[x::ys,(List.Perm.cons x p).trans perm_middle.symm,rfl]
def ES{es:Array (Int×Value)}(F:es.toList=eV knd xs)(B:∀p∈xs,knd.is p.1 p.2=true/\p.2.scannable=true):ElemsOf knd es.toList:=λe z=>by rw[F]at z;let#[p,v,rfl]:=qJ.mp z;show#[#[p.1,(B p v).1,rfl],(B p v).2]
theorem Cz{g:Bool->Sem Unit}(hg:∀(b:Bool)(s₁:Shared)(Q':Unit->Shared->Prop),Q' () s₁->wpAny (model prog w) A (g b) Q' E s₁)(ho:s.heap.get? a=some o)(hex:o.ExactSet)(hd:o.data=.set es ep t)
  (T:WTab t2 es1.size ld)(he:es1.toList=eV knd ys)(hk:∀p∈ys,knd.is p.1 p.2=true/\p.2.scannable=true)(hnd:(ys.map (·.1)).Nodup)(hz:ys.length<=1000)
  (h:∀h' zs,Heap.SameBut a s.heap h'->zs.Perm ys->VSet ld knd h' a zs->R (some true) {s with heap:=h'}):
  wpAny (model prog w) A (do
    storeSet a es1 t2
    if(!wd&&t2.tooFull)=true then do
       g (relayAll t2 es1 (grown es1.size)).2.2
       storeSet a (relayAll t2 es1 (grown es1.size)).1 (relayAll t2 es1 (grown es1.size)).2.1
       pure (some true)
     else pure (some true)) R E s:=by
 let hz1:es1.size<=sizeLine:=by rw[<-qU,he];unfold eV;rw[qo,ze];lia
 show qa (wpAny_storeSet_of ho hd ?_ hz1);let ho1:=AL (es':=es1) (t':=t2) ho hd;let sb1:=Heap.SameBut.update s.heap a (Obj.putSet es1 t2);split
 .let hp:=relayAll_perm t2 es1 (grown es1.size);let T2:=CG (es:=es1) (n:=grown es1.size) T;generalize relayAll t2 es1 (grown es1.size)=R3 at hp T2⊢;let#[es2,t3,gave]:=R3;rw[he]at hp;let#[zs,pz,ez]:=BL hp;let hz2:es2.size<=sizeLine:=by rw[<-qU,ez];unfold eV;rw[qo,pz.length_eq,ze];lia
  show qa (hg _ _ _ (qa (wpAny_storeSet_of ho1 rfl (qb ?_) hz2)));show h _ zs (sb1.trans (Heap.SameBut.update _ a _)) pz #[_,es2,_,t3,AL ho1 rfl,hex,rfl,T2,ez,λp hp=>hk p (pz.mem_iff.mp hp),(pz.map _).nodup_iff.mpr hnd]
 .show qb (h _ ys sb1 (.refl _) #[_,es1,_,t2,ho1,hex,rfl,T,he,hk,hnd])
def Kh(J:knd.is k x=true)(M:x.scannable=true)(hS:VSet ld knd s.heap a xs)(e2:xs.length<=150)
  (h1:k∈xs.map (·.1)->Q false s)(h2:k∉xs.map (·.1)->∀h' ys,Heap.SameBut a s.heap h'->ys.Perm ((k,x)::xs)->VSet ld knd h' a ys->Q true {s with heap:=h'}):
  wpAny (model prog w) A (setAddHashed a x (knd.hash k)) Q E s:=by
 let#[o,es,ep,t,ho,hex,hd,T,he,hk,e3]:=hS;let h8:=ES he hk;let e4:es.size=xs.length:=by rw[<-qU,he];simp[eV]
 let hb:es.size<scanBound:=by show es.size<4096;lia
 show zf (qa (wpAny_setState_of ho hd T.fit ?_));dsimp only;rw[byScan_of M hb h8];show qa (qa (wpAny_rule (qa (wpAny_setScan_of J ho hd T.fit h8 ?_))));let h3:∀p∈xs,knd.is k p.2=true↔p.1=k:=λp F=>#[λz=>(knd.inj p.2 k p.1 z (hk p F).1).symm,λz=>z▸(hk p F).1]
 cases hr:List.findIdx? (λe=>knd.is k e.2) es.toList with
 |some j=>let#[hj,h5,_]:=List.findIdx?_eq_some_iff_getElem.mp hr;let hm:=getElem_mem hj;generalize es.toList[j]=e at hm h5;rw[he]at hm;let#[p,F,rfl]:=qJ.mp hm;show qb (qb (h1 (qJ.mpr #[p,F,(h3 p F).mp h5])))
 |none=>
  let hn:k∉xs.map (·.1):=λz=>by let#[p,F,e]:=qJ.mp z;let q:=findIdx?_eq_none_iff.mp hr (knd.hash p.1,p.2) (by rw[he];show qJ.mpr #[p,F,rfl]);rw[(h3 p F).mpr e]at q;cases q
  have v:=layNew_perm t es (knd.hash k) x;let T1:=Ee (es:=es) (h:=knd.hash k) (x:=x) T;generalize layNew t es (knd.hash k) x=L at v T1⊢;let#[es1,t1,wd,h9]:=L;rw[toList_push,he]at v;let#[ys,py,ey]:=BL (knd:=knd) (xs:=(k,x)::xs) (v.trans (qM.trans (by unfold eV;show .refl _)));let h7:∀p∈ys,knd.is p.1 p.2=true/\p.2.scannable=true:=λp F=>by
   rcases qA.mp (py.mem_iff.mp F)with rfl|z
   .show#[J,M]
   .show hk p z
  let h6:(ys.map (·.1)).Nodup:=(py.map _).nodup_iff.mpr (qK.mpr #[hn,e3]);let h4:ys.length<=1000:=by rw[py.length_eq,qt];lia
  have gw:∀(b:Bool)(B:Shared)(Q':Unit->Shared->Prop),Q' () B->wpAny (model prog w) A (match b with|true=>rule "set.scan.the-table-gave-way"|false=>pure ()) Q' E B:=λb B Q' q=>by
   cases b
   .show qb q
   .show wpAny_rule q
  let e1:∀h' G,Heap.SameBut a s.heap h'->G.Perm ys->VSet ld knd h' a G->Q true {s with heap:=h'}:=λh' G O Y V=>h2 hn h' G O (Y.trans py) V;show qa (gw h9 _ _ ?_);split
  .show qa ?_;rw[hashByValue_scannable 8 M];show qb (Cz gw ho hex hd (es1:=es1) (t2:=_) ?_ ey h7 h6 h4 λh' G O Y V=>qb (e1 h' G O Y V));split
   .show T1
   .show CH T1
  .show qa (qb ?_);show Cz gw ho hex hd T1 ey h7 h6 h4 λh' G O Y V=>qb (e1 h' G O Y V)
theorem setAddV(v:knd.is k x=true)(B:x.scannable=true)(L:VSet ld knd s.heap a xs)(z:xs.length<=150)
  (h1:k∈xs.map (·.1)->∀r,Q r {s with toks:=s.toks+1})(h2:k∉xs.map (·.1)->∀h' ys,Heap.SameBut a s.heap h'->ys.Perm ((k,x)::xs)->VSet ld knd h' a ys->∀r,Q r {s with heap:=h',toks:=s.toks+1}):
  wpAny (model prog w) A (setAdd a x) Q E s:=by
 show zf (qa (knd.pyHash v ?_));show Kh (s:={s with toks:=s.toks+1}) v B L z (λF=>h1 F _) λF h' ys G J T=>h2 F h' ys G J T _
def VSet.at(x:VSet ld knd h a xs):∃es ep t,SetAt h a es ep t/\Rising t.place/\t.place.size=es.size/\t.led=ld/\es.toList.map (·.2)=xs.map (·.2):=by
 let#[o,es,ep,t,v,hex,B,T,z,_]:=x;show#[es,ep,t,#[o,v,B,T.fit],T.ris,?_,T.ldd,?_]
 .let:=T.fit;unfold fits at this;grind
 .rw[z];unfold eV;rw[qD];rfl
end
end ST
namespace ST
open PySem PySem.SetTable PyProof.Rows
def freshSet(ld:Bool):Obj:={cls:=.type "set",dict:=none,data:=.set #[] 0 (.fresh 0 0 ld)}
def ldOf(w:World):Bool:=!w.params.followText "set-order"
theorem newSet_ok(h:Q (.ref s.heap.objs.size) {s with heap:=s.heap.push (freshSet (ldOf w))}):wpAny (model prog w) A (newSet (.type "set")) Q E s:=by show qa (qa (wpAny_askSetting (qb ?_)));show qa (wpAny_alloc (qb h))
def BD(ld:Bool):gI (.fresh 0 0 ld) []:=by
 let v:∀{i:Nat},i<(SetTable.fresh 0 0 ld).place.size->False:=λh=>by simp[SetTable.fresh]at h
 show#[λi j hi _ _=>(v hi).elim,rfl,.inl rfl,rfl,λi hi=>(v hi).elim,by simp,λi hi=>(v hi).elim]
theorem vset_new{K:Type}[DecidableEq K]{knd:KeyKind prog w K}{ld:Bool}{h:Heap}{a:Addr}(e:h.get? a=some (freshSet ld)):VSet ld knd h a []:=
 #[_,#[],0,_,e,#[rfl,rfl,rfl],rfl,#[(BD ld).ris,rfl,rfl,rfl],rfl,λ_ z=>(nomatch z),.nil]
theorem tset_new{K:Type}[DecidableEq K]{knd:HeapKind prog w K}{ld:Bool}{h:Heap}{a:Addr}(e:h.get? a=some (freshSet ld)):TSet ld knd h a []:=
 #[_,#[],0,_,e,#[rfl,rfl,rfl],rfl,rfl,BD ld,(by show 0*5<7*3;decide),rfl,λ_ z=>(nomatch z),.nil]
def DN{St:Nat->Shared->Prop}(W:WalksS prog w A.in1 I fp wr G n P St)(S:Addr)(h3:S∉fp){J:Nat->Heap->Prop}
  (stay:∀i h h',i<=n->J i h->(∀b o,b∉wr->h.get? b=some o->h'.get? b=some o)->J i h')
  (step:∀i v(s:Shared)(Q:Bool->Shared->Prop)(E:zi),i<n->P i v->J i s.heap->(∀h' tk r,s.toks<=tk->Heap.SameBut S s.heap h'->J (i+1) h'->Q r {s with heap:=h',toks:=tk})->wpAny (model prog w) A.in1 (setAdd S v) Q E s):
  ∀(k i:Nat)(s:Shared),n-i=k->i<=n->St i s->J i s.heap->(∀s',Moved (S::wr) G s s'->J n s'.heap->R (.ok (.ret .none)) s')->
   codeAny (model prog w) A (.builtin "set.update.loop" #[[.ref S,.ref I],[]]) R s:=by
 intro k;induction k with
 |zero=>
  intro i s hk hi st hJ hR;let e:i=n:=∅
  subst e;show codeAny_builtin F.entry_set_update_loop ?_;show qa (W.done s _ _ st λs' O=>?_);show qb (hR s' (O.mono λb L=>qk _ L) (stay _ _ _ (q5 _) hJ O.heap))
 |succ k ih=>
  intro i s hk hi st hJ hR;let B:i<n:=∅
  show codeAny_builtin F.entry_set_update_loop ?_;show qa (W.item i s _ _ B st λv s' hP h1 O=>?_);show qa (zf (step i v s' _ _ B hP (stay _ _ _ hi hJ O.heap) λh' tk r ht sb h4=>?_));show qb #[plainId_quiet F.plain_set_update_loop _,ih (i+1) _ ∅ B (W.frame _ s' _ _ h1 ht λb L o e=>?_) h4 λh2 M Y=>?_]
  .rw[sb.2 b (λz=>h3 (z▸L))];show e
  .show hR h2 (Moved.trans W.gtrans ((O.mono λb L=>qk _ L).then_heap ht λb o L e=>?_) M) Y;rw[sb.2 b (λz=>L (z▸qm))];show e
def DQ(x:Value)(h:Q (.ref s.heap.objs.size) {s with heap:=s.heap.push (freshSet (ldOf w))}):
  codeAny (model prog w) A (.call (.builtin "set.__new__") #[[.type "set",x],[]]) (wants Q E) s:=by
 show codeAny_of_tree ?_;show qa (zg (F.newCall_set_1 x) (qb #[plainId_quiet F.plain_set_new _,codeAny_builtin F.entry_set_new ?_]));unfold Builtin.«set.__new__» Builtin.Frozenset.newClass;let v:=sub_set_self
 wp_walk
 show wpAny_askSetting (qb ?_);show qa (wpAny_alloc (qb ?_));show qb h
@[inline]def WalkOk(prog:Program)(w:World)(s:Shared)(x:Value)(n:Nat)(P:Nat->Value->Prop):Prop:=∀(A:Around)(E:zi)(v:Shared)(Q:zi),(∀b o,s.heap.get? b=some o->v.heap.get? b=some o)->
 (∀(o:Obj)(fp:List Addr)(St:Nat->Heap->Prop),(∀A:Around,A.handled=none->Walks prog w A v.heap.objs.size fp [v.heap.objs.size] n P St)->St 0 (v.heap.push o)->(∀b∈fp,b=v.heap.objs.size\/b<s.heap.objs.size)->Q (.ref v.heap.objs.size) {v with heap:=v.heap.push o})->
 wpAny (model prog w) A (pyIter x) Q E v
def Hr(B:s.TypeIs x T)(z:isSubtype (.type T) (.type "set")=pure false)(v:isSubtype (.type T) (.type "frozenset")=pure false)(h:Q false s):wpAny (model prog w) A (Builtin.Frozenset.isAnySet x) Q E s:=by show qa (wpAny_isInstance B z ?_);show wpAny_isInstance B v h
set_option maxHeartbeats 3200000 in
theorem call_set{J:Nat->Heap->Prop}(hh:A.handled=none)(hT:s.TypeIs x T)(e2:isSubtype (.type T) (.type "set")=pure false)(e1:isSubtype (.type T) (.type "frozenset")=pure false)(e3:(Value.type T==Value.type "dict")=false)
  (W:WalkOk prog w s x n P)(h0:∀h,h.get? s.heap.objs.size=some (freshSet (ldOf w))->(∀b o,s.heap.get? b=some o->h.get? b=some o)->J 0 h)
  (stay:∀i h h',i<=n->J i h->(∀b o,b≠s.heap.objs.size+1->h.get? b=some o->h'.get? b=some o)->J i h')
  (step:∀(A:Around) i v(s':Shared)(Q:Bool->Shared->Prop)(E:zi),i<n->P i v->J i s'.heap->(∀h' tk r,s'.toks<=tk->Heap.SameBut s.heap.objs.size s'.heap h'->J (i+1) h'->Q r {s' with heap:=h',toks:=tk})->A.units<=B->wpAny (model prog w) A (setAdd s.heap.objs.size v) Q E s')
  (hB:A.units+20<=B)
  (h:∀(h':Heap)(tk:Nat),J n h'->(∀b o,s.heap.get? b=some o->h'.get? b=some o)->s.toks<=tk->Q (.ref s.heap.objs.size) {s with heap:=h',toks:=tk}):
  wpAny (model prog w) A (call (.type "set") [x]) Q E s:=by
 let#[c,tl,hl]:=F.called_set.mro;let e4:=F.called_set.made;let hs:=F.called_set.sub;show wpAny_call (codeAny_of_tree ?_);show wpAny _ _ (callAny (.type "set") _) _ _ _;show qb #[Code.quiet_builtin _ (by decide+kernel),codeAny_builtin F.entry_type_call ?_];rw[Around.under_plain (weight_type_call_type "set" [x] []) rfl];let h1:=F.called_set.notType;let h2:=F.called_set.canCreate;let hq:=F.typeCall_set_1 x
 repeat (any_goals (first|assumption|wp_step))
 show codeAny_mono (DQ x (E:=E) (Q:=λh5 M=>h5=.ref s.heap.objs.size/\M={s with heap:=s.heap.push (freshSet (ldOf w))}) #[rfl,rfl]) λr M hr=>?_;cases r with
 |error e=>show hr
 |ok fl=>
  cases fl with
  |ret h5=>
   let#[rfl,rfl]:=hr;let hS:(s.heap.push (freshSet (ldOf w))).get? s.heap.objs.size=some (freshSet (ldOf w)):=qd _ rfl;let h6:Shared.TypeIs {s with heap:=s.heap.push (freshSet (ldOf w))} (.ref s.heap.objs.size) "set":=⟨_,hS,rfl⟩
   let hd:=F.called_set.init.lookup;let ha:=F.called_set.init.bind (.ref s.heap.objs.size)
   repeat (any_goals (first|assumption|wp_step))
   show codeAny_mono (codeAny_call_builtin (R:=wants (λr L=>r=.none/\∃h' tk,L={s with heap:=h',toks:=tk}/\J n h'/\(∀b o,s.heap.get? b=some o->h'.get? b=some o)/\s.toks<=tk) E) F.called_set.init.plain F.entry_set_init (check_set_init_1 h6 ?_)) λh4 L G=>?_
   .have O:Shared.TypeIs {s with heap:=s.heap.push (freshSet (ldOf w))} x T:=by
     cases x with
     |ref l=>let#[o,e,q]:=hT;show#[o,qc _ e,q]
     |_=>show hT
    unfold Builtin.«set.__init__» noKeywords;generalize hp:Builtin.Frozenset.updateFrom=UF;unfold freshSet at hS h6 O⊢
    wp_walk
    subst hp;unfold Builtin.Frozenset.updateFrom;show qa (Hr O e2 e1 ?_);simp only[false_eq_true,if_false];show qa (wpAny_typeOf O ?_);rw[e3];simp only[false_eq_true,if_false];show qa (W _ _ _ _ (λb o e=>qc _ e) λo fp St wk h8 hx=>?_);let hz:(s.heap.push (freshSet (ldOf w))).objs.size=s.heap.objs.size+1:=Heap.size_push ..;let hc:s.heap.objs.size∉fp:=λz=>by
     rcases hx _ z with y|y
     .rw[show s.heap.objs.size=(s.heap.push (freshSet (ldOf w))).objs.size from y]at hz;show absurd hz (ne_of_lt (lt_succ_self _))
     .show lt_irrefl _ y
    refine qa (wpAny_runValue ?_);refine DN (wk A.in1.in1.in1 hh).toS s.heap.objs.size hc (J:=J) (λi h h' hi Y hk=>stay i h h' hi Y λb o hb e=>hk b o (λz=>hb (by rw[<-hz];show qu.mp z)) e)
     (λi v s' Q E hi hP Y hk=>step _ i v s' Q E hi hP Y hk (by show A.units+1+1+1<=B;lia)) (n-0) 0 _ rfl (zero_le _) h8 (h0 _ (qc _ hS) λb o e=>qc _ (qc _ e)) λs' hm Y=>?_
    let#[h',g',d',h7,h9]:=s';let eg:g'=s.gens:=hm.gens;let ed:d'=s.drawn:=hm.drawn;let eo:h9=s.os:=hm.os;subst eg ed eo;show qb ?_;show wpAny _ _ (ret Value.none) _ _ _;show qb #[rfl,h',h7,rfl,Y,λb o e=>?_,hm.toks];let hb:=lt_of_get e;show hm.heap b o (λz=>?_) (qc _ (qc _ e));rcases qA.mp z with z|z
    .show ne_of_lt hb z
    .let:=qu.mp z;rw[this]at hb;show absurd hb (by show¬(s.heap.push (freshSet (ldOf w))).objs.size<_;rw[hz];show not_lt.mpr (le_succ _))
   .cases h4 with
    |error e=>show G
    |ok h3=>
     cases h3 with
     |ret r=>
      let#[rfl,h',tk,rfl,Y,hk,ht]:=G
      repeat (any_goals (first|assumption|wp_step))
      show h _ _ Y hk ht
     |_=>show G.elim
  |_=>show hr.elim
theorem walk_list(M:s.heap.IsList l items):WalkOk prog w s (.ref l) items.size (λi v=>items[i]?=some v):=λA E J Q L h=>by
 let#[o,e,r]:=M;let F:J.heap.IsList l items:=#[o,L _ _ e,r]
 have G:=lt_of_get e;let B:=lt_of_get (L _ _ e);exact wpAny_pyIter_list F (h _ [J.heap.objs.size,l] _ (λA Y=>Walks.list Y _ l (ne_of_lt B) items) #[#[_,qd _ rfl,rfl,rfl],F.push _] λb O=>by
  rcases qA.mp O with z|z
  .show .inl z
  .show .inr (by rw[qu.mp z];show G))
theorem walk_tuple(M:s.heap.IsTuple l items):WalkOk prog w s (.ref l) items.size (λi v=>items[i]?=some v):=λA E J Q L h=>by
 let#[o,e,r]:=M;let F:J.heap.IsTuple l items:=#[o,L _ _ e,r]
 have G:=lt_of_get e;let B:=lt_of_get (L _ _ e);exact wpAny_pyIter_tuple F (h _ [J.heap.objs.size,l] _ (λA Y=>Walks.tuple Y _ l (ne_of_lt B) items) #[#[_,qd _ rfl,rfl,rfl],let#[o,e,r]:=F;#[o,qc _ e,r]] λb O=>by
  rcases qA.mp O with z|z
  .show .inl z
  .show .inr (by rw[qu.mp z];show G))
end ST
theorem m1{α:Type}{a:α}{l:List α}:a∈a::l:=.head _
theorem m2{α:Type}{a b:α}{l:List α}:b∈a::b::l:=.tail _ m1
def Fo(i:Int)(n:Nat):max 0 (min (if i<0 then i+(n:Int)else i) (n:Int))=(((if i<0 then(i+(n:Int)).toNat else min i.toNat n):Nat):Int):=by
 by_cases h:i<0
 .rw[qZ h,qZ h,Int.min_eq_left ∅,Int.ofNat_toNat,Int.max_comm]
 .rw[q4 h,q4 h];let#[k,rfl]:=Int.eq_ofNat_of_zero_le (Int.not_lt.mp h);rw[qV];rcases Nat.le_total k n with q|q
  .rw[Nat.min_eq_left q,Int.min_eq_left (Int.ofNat_le.mpr q),Int.max_eq_right (Int.natCast_nonneg k)]
  .rw[Nat.min_eq_right q,Int.min_eq_right (Int.ofNat_le.mpr q),Int.max_eq_right (Int.natCast_nonneg n)]
theorem cps{A:Prop}(h:∀G:Prop,(A->G)->G):A:=h A id
namespace ST
open PySem PySem.SetTable
section
variable{prog:Program}{w:World}{A:Around}{E:zi}{s:Shared}{a b:Addr}{K:Type}[DecidableEq K]{knd:KeyKind prog w K}{ks:List K}{ld:Bool}{xs:List (List K×Addr)}
theorem setAddT(F:A.units<cLine)(v:IsTupleKey knd s.heap ks b)(Y:TSet ld (tupleKind knd) s.heap a xs)(z:xs.length<=150)
  (h1:ks∈xs.map (·.1)->∀tk r,s.toks<=tk->Q r {s with toks:=tk})
  (h2:ks∉xs.map (·.1)->∀h' ys tk r,Heap.SameBut a s.heap h'->ys.Perm ((ks,b)::xs)->TSet ld (tupleKind knd) h' a ys->s.toks<=tk->Q r {s with heap:=h',toks:=tk}):
  wpAny (model prog w) A (setAdd a (.ref b)) Q E s:=by
 show zf (qa ((tupleKind knd).pyHash F v ?_));show FX (s:={s with toks:=s.toks+(tupleKind knd).draws ks}) (knd:=tupleKind knd) (λv q=>Dr v q) (λv q=>DO v q) (λv M O L=>Dq v M O L) F v Y z (λB=>h1 B _ _ (Nat.le_add_right _ _)) λB h' ys G J T=>h2 B h' ys _ _ G J T (Nat.le_add_right _ _)
theorem call_add_of(B:s.TypeIs (.ref a) "set")(h:wpAny (model prog w) A.in1 (setAdd a v) (λ_ s'=>Q .none s') E s):wpAny (model prog w) A (call (.builtin "set.add") [.ref a,v]) Q E s:=by show zd F.slot_set_add B F.entry_set_add ?_ (F.args_set_add_2 _ _);unfold Builtin.«set.add» Builtin.Frozenset.oneOther;simp only[List.isEmpty_nil,bind_assoc];show qa (qb ?_);show qa (qb ?_);show qa (zh h (λr s' q=>qb #[_,rfl,q]) λ_ _ z=>z)
@[inline]def TRaw(ld:Bool)(knd:HeapKind prog w K)(h:Heap)(a:Addr)(xs:List (K×Addr)):Prop:=∃o es ep t,h.get? a=some o/\o.ExactSet/\o.data=.set es ep t/\t.led=ld/\gI t (es.toList.map (·.1))/\eN t es.size/\es.toList=eF knd xs/\(xs.map (·.1)).Nodup
def TRaw.full{knd:HeapKind prog w K}{xs:List (K×Addr)}(x:TRaw ld knd h a xs)(k:∀x∈xs,knd.is h x.1 x.2):TSet ld knd h a xs:=by let#[o,es,ep,t,h1,h2,J,G,F,B,z,v]:=x;show#[o,es,ep,t,h1,h2,J,G,F,B,z,k,v]
def TSet.raw{knd:HeapKind prog w K}{xs:List (K×Addr)}(x:TSet ld knd h a xs):TRaw ld knd h a xs:=by let#[o,es,ep,t,h1,h2,J,G,F,B,z,k,v]:=x;show#[o,es,ep,t,h1,h2,J,G,F,B,z,v]
def VSet.len{xs:List (K×Value)}(x:VSet ld knd s.heap a xs)(hz:xs.length<=1000)(h:Q (.int xs.length (s.toks+1)) {s with toks:=s.toks+1+1}):wpAny (model prog w) A (call (.builtin "len") [.ref a]) Q E s:=by
 let#[o,es,ep,t,z,hex,F,T,B,_]:=x;let v:es.size=xs.length:=by rw[<-qU,B];simp[eV]
 show call_len_set z hex F T.fit (by rw[v];lia) (by rw[v];show h)
def TRaw.len{knd:HeapKind prog w K}{xs:List (K×Addr)}(x:TRaw ld knd s.heap a xs)(hz:xs.length<=1000)(h:Q (.int xs.length (s.toks+1)) {s with toks:=s.toks+1+1}):wpAny (model prog w) A (call (.builtin "len") [.ref a]) Q E s:=by
 let#[o,es,ep,t,z,hex,F,_,T,_,B,_]:=x;let v:es.size=xs.length:=by rw[<-qU,B];simp[eF]
 show call_len_set z hex F (T.fits (by simp)) (by rw[v];lia) (by rw[v];show h)
end
instance okDec(m:Nat):Decidable (bP m):=by unfold bP;infer_instance
end ST
namespace L2
open PySem PySem.Spec PyProof.Rows
abbrev aL:=Sum Int Str
def fP:aL->Value->Bool
 |.inl k,v=>Value.isInt k v
 |.inr x,v=>Value.isStrOf x v
def fg(w:World):aL->Int
 |.inl k=>hashInt k
 |.inr x=>hashStr w x
def Et:∀{k:aL}{v:Value},fP k v=true->(∃i t,k=Sum.inl i/\v=Value.int i t)\/(∃x t,k=Sum.inr x/\v=Value.str x t)
 |.inl i,v,h=>by let#[t,e]:=Value.isInt_shape (k:=i) (v:=v) h;show .inl #[i,t,rfl,e]
 |.inr x,v,h=>by let#[t,e]:=Value.isStrOf_shape (x:=x) (v:=v) h;show .inr #[x,t,rfl,e]
def Uk(i:Int)(t:Tok):fP (.inl i) (.int i t)=true:=by simp[fP,Value.isInt]
def Uv(x:Str)(t:Tok):fP (.inr x) (.str x t)=true:=by simp[fP,Value.isStrOf]
def Pc(a b:Int):decide ((Sum.inl a:aL)=Sum.inl b)=(a==b):=by grind
def PR(a b:Str):decide ((Sum.inr a:aL)=Sum.inr b)=decide (a=b):=by grind
def Pg(a:Int)(b:Str):decide ((Sum.inl a:aL)=Sum.inr b)=false:=qR (λq=>nomatch q)
def Ph(a:Str)(b:Int):decide ((Sum.inr a:aL)=Sum.inl b)=false:=qR (λq=>nomatch q)
def aF(prog:Program)(w:World):PySem.KeyKind prog w aL where
 is:=fP
 hash:=fg w
 inj:=λv a b ha hb=>by
  rcases Et ha with⟨i,t,rfl,rfl⟩|⟨x,t,rfl,rfl⟩
  .rcases Et hb with⟨j,u,rfl,e⟩|⟨y,u,rfl,e⟩
   .injection e with e1 _;rw[e1]
   .show nomatch e
  .rcases Et hb with⟨j,u,rfl,e⟩|⟨y,u,rfl,e⟩
   .show nomatch e
   .injection e with e1 _;rw[e1]
 byValue:=λk v h=>by rcases Et h with⟨i,t,rfl,rfl⟩|⟨x,t,rfl,rfl⟩<;>rfl
 pyHash:=λhv h=>by
  rcases Et hv with⟨i,t,rfl,rfl⟩|⟨x,t,rfl,rfl⟩
  .show wpAny_pyHash_int h
  .show wpAny_pyHash_str h
 eqBool:=λhu hv h=>by
  rcases Et hu with⟨i,t,rfl,rfl⟩|⟨x,t,rfl,rfl⟩
  .rcases Et hv with⟨j,u,rfl,rfl⟩|⟨y,u,rfl,rfl⟩
   .rw[Pc]at h;show wpAny_eqBool_int h
   .rw[Pg]at h;show SeqAt.EqAt.int_str i t y u _ _ _ _ h
  .rcases Et hv with⟨j,u,rfl,rfl⟩|⟨y,u,rfl,rfl⟩
   .rw[Ph]at h;show SeqAt.EqAt.str_int x t j u _ _ _ _ h
   .rw[PR]at h;show wpAny_eqBool_str h
 «strs»:=λk x t v h=>by
  rcases Et h with⟨i,u,rfl,e⟩|⟨y,u,rfl,e⟩
  .show nomatch e
  .injection e with e1 _
   subst e1;cases v<;>rfl
def VB(prog:Program)(w:World)(i:Int)(t:Tok):(aF prog w).is (.inl i) (.int i t)=true:=Uk i t
def VE(prog:Program)(w:World)(x:Str)(t:Tok):(aF prog w).is (.inr x) (.str x t)=true:=Uv x t
inductive V where
 |non|bl(b:Bool)|int(i:Int)|str(x:Str)|byt(b:Array UInt8)|flt(b:UInt64)|ref(a:Addr)|ty(n:String)
 deriving DecidableEq
def zv:V->Value->Prop
 |.non,u=>u=Value.none
 |.bl b,u=>u=Value.bool b
 |.int i,u=>∃t,u=Value.int i t
 |.str x,u=>∃t,u=Value.str x t
 |.byt b,u=>∃t,u=Value.bytes b t
 |.flt b,u=>∃t,u=Value.float b t
 |.ref a,u=>u=Value.ref a
 |.ty n,u=>u=Value.type n
abbrev zC:List V->List Value->Prop:=Paired zv
def zC.length(r:zC xs us):xs.length=us.length:=Paired.length r
def zC.get:∀{xs:List V}{us:List Value}{i:Nat}{x:V},zC xs us->xs[i]?=some x->∃u,us[i]?=some u/\zv x u
 |_,_,_,_,.nil,e=>by simp at e
 |_,_,0,_,.cons r _,e=>by simp at e;subst e;show#[_,rfl,r]
 |_,_,i+1,x,.cons _ t,e=>by let#[u,h1,h2]:=zC.get (i:=i) (x:=x) t ↑e;show#[u,↑h1,h2]
def zC.set(r:zv x u):∀{xs:List V}{us:List Value}(i:Nat),zC xs us->zC (xs.set i x) (us.set i u)
 |_,_,_,.nil=>.nil
 |_,_,0,.cons _ t=>.cons r t
 |_,_,i+1,.cons q t=>.cons q (zC.set r i t)
def zC.append:∀{xs ys:List V}{us v:List Value},zC xs us->zC ys v->zC (xs++ys) (us++v):=by
 intro xs ys us v r s;induction r with
 |nil=>show s
 |cons r _ z=>show .cons r z
def zC.take:∀{xs:List V}{us:List Value}(n:Nat),zC xs us->zC (xs.take n) (us.take n)
 |_,_,0,_=>.nil
 |_,_,_+1,.nil=>.nil
 |_,_,n+1,.cons r t=>.cons r (zC.take n t)
def zC.drop:∀{xs:List V}{us:List Value}(n:Nat),zC xs us->zC (xs.drop n) (us.drop n)
 |_,_,0,r=>r
 |_,_,_+1,.nil=>.nil
 |_,_,n+1,.cons _ t=>zC.drop n t
def zC.none_of:∀{xs:List V}{us:List Value}{i:Nat},zC xs us->xs[i]?=none->us[i]?=none:=λ{xs us i} r e=>by let h1:=r.length;let h2:xs.length<=i:=List.getElem?_eq_none_iff.mp e;show List.getElem?_eq_none_iff.mpr ∅
def eJ:Option V->Option Value->Prop
 |some v,some u=>zv v u
 |none,none=>True
 |_,_=>False
@[inline]def KV{κ:Type}:List (κ×V)->List (κ×Value)->Prop:=Paired λ(p:κ×V)(q:κ×Value)=>p.1=q.1/\zv p.2 q.2
def kV:aL->V
 |.inl i=>.int i
 |.inr x=>.str x
inductive HO where
 |lst(xs:List V)
 |tup(xs:List V)
 |dK(zG:List (aL×V))|dT(zG:List (List aL×V))
 |set(vs:List V)
 |ins(C dx:Addr)(fs:List (Str×V))
 |own(x:Addr)
 |xd(fs:List (Str×V))
 |met(f x:Addr)
 |rng(lo hi:Int)
 |frz(o:Obj)(u:HO)
 |tbl(ps:Array Value)
 |ext(φ:Heap->Prop)
abbrev Hp:=Addr->Option HO
def upd(H:Hp)(a:Addr)(o:HO):Hp:=λb=>if b=a then some o else H b
def Bc:upd H a o a=some o:=by unfold upd;rw[qZ rfl]
def Ao(h:b≠a):upd H a o b=H b:=by unfold upd;rw[q4 h]
def Iv{H:Hp}(h:H a=some o)(h':H b=some u)(d:o≠u):a≠b:=by grind
def DK{H:Hp}(h:H a=some o)(h':H b=none):a≠b:=by intro e;subst e;rw[h]at h';cases h'
section
variable(P:Program)(w:World)
def jJ(h:Heap)(a:Addr):Prop:=∀o,h.get? a=some o->o.dict=none
def jJ.new{h:Heap}{c:Value}{x:Data}{n:Addr}(e:n=h.objs.size)(v:(h.push {cls:=c,data:=x}).get? h.objs.size=some {cls:=c,data:=x}):jJ (h.push {cls:=c,data:=x}) n:=λo q=>by subst e;rw[v]at q;cases q;rfl
def zE(H:Hp)(h:Heap)(a:Addr):HO->Prop
 |.lst xs=>xs.length<=sizeLine/\∃(z:List Value)(n:Nat),zC xs z/\h.get? a=some {cls:=.type "list",data:=.seq z.toArray n}
 |.tup xs=>(xs.length<=sizeLine/\jJ h a)/\∃z:List Value,zC xs z/\IsTup h a z.toArray
 |.dK zG=>zG.length<=sizeLine/\(a==sysModules)=false/\∃vs,KV zG vs/\h.DictOf (aF P w) a vs
 |.dT zG=>zG.length<=sizeLine/\(a==sysModules)=false/\∃xs:List (List aL×Addr×Value),
  Paired (λ(p:List aL×V)(q:List aL×Addr×Value)=>p.1=q.1/\H q.2.1=some (.tup (p.1.map kV))/\zv p.2 q.2.2) zG xs/\
  ∃o es ep,h.get? a=some o/\o.ExactDict/\o.data=.dict es ep/\es.toList=xs.map (entryOfKey (tupleKind (aF P w)))/\(xs.map (·.1)).Nodup
 |.set vs=>vs.length<=151/\((vs=[]/\h.get? a=some (ST.freshSet (ST.ldOf w)))\/(vs≠[]/\∃xs:List (aL×Value),vs.Perm (xs.map λp=>kV p.1)/\ST.VSet (ST.ldOf w) (aF P w) h a xs)\/vs≠[]/\∃xs:List (List aL×Addr),vs.Perm (xs.map λp=>V.ref p.2)/\(∀p∈xs,H p.2=some (.tup (p.1.map kV)))/\ST.TRaw (ST.ldOf w) (tupleKind (aF P w)) h a xs)
 |.ins C dx fs=>H dx=some (.own a)/\fs.length<=1000/\dx≠a/\h.get? a=some (W.instObj C dx)/\
  ∃B,h.Ns1 dx B/\(∀f,eJ (fs.lookup f) (B f))/\PySem.Within B (fs.map (·.1))
 |.own _=>∃o,h.get? a=some o
 |.xd fs=>∃B,h.Ns1 a B/\∀f,eJ (fs.lookup f) (B f)
 |.rng lo hi=>∃t u v,h.get? a=some {cls:=.type "range",data:=.fields [.int lo t,.int hi u,.int 1 v].toArray}
 |.frz o u=>h.get? a=some o/\zE H h a u
 |.tbl ps=>h.get? a=some {cls:=.none,data:=.fields ps}
 |.met f x=>h.get? a=some (W.methodObj (.ref f) (.ref x))
 |.ext φ=>φ h/\(∃o,h.get? a=some o)/\∀h1 h2:Heap,φ h1->(∀o,h1.get? a=some o->h2.get? a=some o)->φ h2
def dY(H:Hp)(h:Heap):Prop:=∀a o,H a=some o->zE P w H h a o
end
section
variable{P:Program}{w:World}{H H':Hp}{h h':Heap}{a:Addr}{o:HO}
def zE.lt(x:zE P w H h a o):a<h.objs.size:=by
 cases o with
 |lst xs=>let#[_,_,_,_,e]:=x;show qe e
 |tup xs=>let#[_,_,_,p]:=x;show p.lt
 |dK v=>let#[_,_,_,_,o,_,_,e,_]:=x;show qe e
 |dT v=>let#[_,_,_,_,o,_,_,e,_]:=x;show qe e
 |set z=>
  rcases x with⟨_,⟨_,e⟩|⟨_,_,_,_,_,_,_,e,_⟩|⟨_,_,_,_,_,_,_,_,e,_⟩⟩
  .show qe e
  .show qe e
  .show qe e
 |ins C F fs=>let#[_,_,_,e,_]:=x;show qe e
 |own y=>let#[_,e]:=x;show qe e
 |xd fs=>let#[_,#[_,_,_,e,_],_]:=x;show qe e
 |rng lo hi=>let#[_,_,_,e]:=x;show qe e
 |frz B u=>let#[e,_]:=x;show qe e
 |tbl ps=>show qe (show h.get? a=some _ from x)
 |met f y=>show qe (show h.get? a=some _ from x)
 |ext φ=>let#[_,#[_,e],_]:=x;show qe e
def Paired.mapP:∀{l₁:List α}{l₂:List β},Paired F l₁ l₂->(∀a b,F a b->G a b)->Paired G l₁ l₂
 |_,_,.nil,_=>.nil
 |_,_,.cons r t,f=>.cons (f _ _ r) (Paired.mapP t f)
def zE.stay(x:zE P w H h a o)(k:∀b u,(b=a\/H b=some (.own a))->h.get? b=some u->h'.get? b=some u)
  (ho:∀b,H b=some (.own a)->H' b=some (.own a))(O:∀b xs,H b=some (.tup xs)->H' b=some (.tup xs)):zE P w H' h' a o:=by
 induction o with
 |lst xs=>let#[z,F,n,r,e]:=x;show#[z,F,n,r,k _ _ (.inl rfl) e]
 |tup xs=>let#[#[z,nd],F,r,B,e,c]:=x;show#[#[z,λo q=>by rw[k _ _ (.inl rfl) e]at q;cases q;show nd _ e],F,r,B,k _ _ (.inl rfl) e,c]
 |dK L=>let#[z,y,M,r,B,es,ep,e,c]:=x;show#[z,y,M,r,B,es,ep,k _ _ (.inl rfl) e,c]
 |dT L=>let#[z,y,xs,r,B,es,ep,e,c]:=x;show#[z,y,xs,Paired.mapP r λp q z=>#[z.1,O _ _ z.2.1,z.2.2],B,es,ep,k _ _ (.inl rfl) e,c]
 |set M=>
  rcases x with⟨z,⟨n,e⟩|⟨n,xs,p,B,es,ep,t,e,c⟩|⟨n,xs,p,hx,B,es,ep,t,e,c⟩⟩
  .show#[z,.inl #[n,k _ _ (.inl rfl) e]]
  .show#[z,.inr (.inl #[n,xs,p,B,es,ep,t,k _ _ (.inl rfl) e,c])]
  .show#[z,.inr (.inr #[n,xs,p,λq hq=>O _ _ (hx q hq),B,es,ep,t,k _ _ (.inl rfl) e,c])]
 |ins C dx fs=>let#[d,z,Y,e,J,#[G,es,ep,e2,c],r]:=x;show#[ho _ d,z,Y,k _ _ (.inl rfl) e,J,#[G,es,ep,k _ _ (.inr d) e2,c],r]
 |own y=>let#[B,e]:=x;show#[B,k _ _ (.inl rfl) e]
 |xd fs=>let#[J,#[G,es,ep,e,c],r]:=x;show#[J,#[G,es,ep,k _ _ (.inl rfl) e,c],r]
 |rng lo hi=>let#[t,u,v,e]:=x;show#[t,u,v,k _ _ (.inl rfl) e]
 |frz B u ih=>let#[e,q]:=x;show#[k _ _ (.inl rfl) e,ih q]
 |tbl ps=>have e:h.get? a=some {cls:=.none,data:=.fields ps}:=x;show h'.get? a=some {cls:=.none,data:=.fields ps};show k a _ (.inl rfl) e
 |met f y=>have e:h.get? a=some (W.methodObj (.ref f) (.ref y)):=x;show h'.get? a=some (W.methodObj (.ref f) (.ref y));show k a _ (.inl rfl) e
 |ext φ=>let#[p,#[o,e],st]:=x;show#[st _ _ p λo q=>k _ _ (.inl rfl) q,#[o,k _ _ (.inl rfl) e],st]
def dY.lt(x:dY P w H h)(e:H a=some o):a<h.objs.size:=(x a o e).lt
def dY.fresh(x:dY P w H h)(e:h.objs.size<=a):H a=none:=by
 cases q:H a with
 |none=>rfl
 |some u=>show absurd (lt_of_lt_of_le (x.lt q) e) (lt_irrefl _)
def dY.kept(x:dY P w H h)(k:∀b u,h.get? b=some u->h'.get? b=some u):dY P w H h':=λa o e=>(x a o e).stay (λb u _ q=>k b u q) (λ_ q=>q) λ_ _ q=>q
def dY.laid(x:dY P w H h)(k:∀b u,h.get? b=some u->h'.get? b=some u)(F:h.objs.size<=a)(new:zE P w (upd H a o) h' a o):dY P w (upd H a o) h':=λb u e=>by
 let z:=x.fresh F;by_cases B:b=a
 .subst B;rw[Bc]at e;cases e;show new
 .rw[Ao B]at e;show(x b u e).stay (λc v _ q=>k c v q) (λc q=>by rw[Ao (DK q z)];show q) λc xs q=>by rw[Ao (DK q z)];show q
end
@[inline]def Rd(H:Hp)(a:Addr)(u:HO):Prop:=H a=some u\/∃o,H a=some (.frz o u)
def Rd.of(h:H a=some u):Rd H a u:=.inl h
def Rd.ok(r:Rd H a u)(x:dY P w H h):zE P w H h a u:=by
 rcases r with r|⟨o,r⟩
 .show x a u r
 .obtain⟨_,q⟩:=x a _ r;show q
def yY:Option HO->Prop
 |some (.lst _)=>True
 |some (.dK _)=>True
 |some (.dT _)=>True
 |some (.set _)=>True
 |some (.ins _ _ _)=>True
 |some (.ext _)=>True
 |_=>False
section
variable{P:Program}{w:World}{H:Hp}{h h':Heap}{x e:Addr}{o':HO}
def dY.write(ok:dY P w H h)(G:yY (H x))(he:e=x\/H e=some (.own x))(k:∀b u,b≠e->h.get? b=some u->h'.get? b=some u)(J:∃u,h'.get? e=some u)
  (new:zE P w (upd H x o') h' x o'):dY P w (upd H x o') h':=λb u q=>by
 let F:∀c y,H c=some (.own y)->c≠x:=λc y r z=>by subst z;rw[r]at G;show G
 let B:∀c xs,H c=some (.tup xs)->c≠x:=λc xs r z=>by subst z;rw[r]at G;show G
 by_cases O:b=x
 .subst O;rw[Bc]at q;cases q;show new
 .rw[Ao O]at q;by_cases L:b=e
  .let M:H b=some (.own x):=by grind
   rw[q]at M;cases M;let#[v,Y]:=J;show#[v,by rw[L];show Y]
  .show(ok b u q).stay (λc v hc r=>k c v ?_ r) (λc r=>by rw[Ao (F c b r)];show r) λc xs r=>by rw[Ao (B c xs r)];exact r
   grind
end
structure Un(fs ex:List Addr)(H H':Hp)(h h':Heap):Prop where
 keep:∀b o,h.get? b=some o->H b=none->b∉fs->b∉ex->h'.get? b=some o
 slot:∀b o,h.get? b=some o->H b=none->b∈fs->b∉ex->∃sl,h'.get? b=some {o with slots:=sl}
 free:∀b o,h.get? b=some o->H b=none->b∉ex->H' b=none
 there:∀b o,h.get? b=some o->b∉ex->∃o',h'.get? b=some o'
 tups:∀b xs,H b=some (.tup xs)->H' b=some (.tup xs)
 frzs:∀b o u,H b=some (.frz o u)->H' b=some (.frz o u)
 tbls:∀b ps,H b=some (.tbl ps)->∃more,H' b=some (.tbl (ps++more))
section
variable{fs fs' ex ex':List Addr}{H H1 H2:Hp}{h h1 h2 h':Heap}{a x e:Addr}{o:HO}
def Un.any(u:Un fs ex H H1 h h1)(q:h.get? b=some v)(n:H b=none)(z:b∉ex):∃F,h1.get? b=some {v with slots:=F}:=by
 by_cases B:b∈fs
 .show u.slot b v q n B z
 .show#[v.slots,u.keep b v q n B z]
def Un.kept(k:∀b u,h.get? b=some u->h'.get? b=some u):Un fs ex H H h h':=
 #[λb v q _ _ _=>k b v q,λb v q _ _ _=>#[v.slots,k b v q],λ_ _ _ n _=>n,λb v q _=>#[v,k b v q],λ_ _ q=>q,λ_ _ _ q=>q,λ_ ps q=>#[#[],by rw[q];simp]]
def Un.refl:Un fs ex H H h h:=Un.kept λ_ _ q=>q
def Un.laid(k:∀b u,h.get? b=some u->h'.get? b=some u)(hp:h.objs.size<=a)(hn:H a=none):Un fs ex H (upd H a o) h h' where
 keep:=λb u q _ _ _=>k b u q
 slot:=λb u q _ _ _=>#[u.slots,k b u q]
 free:=λb u q n _=>by rw[Ao (ne_of_lt (lt_of_lt_of_le (qe q) hp))];show n
 there:=λb u q _=>#[u,k b u q]
 tups:=λb xs q=>by rw[Ao (DK q hn)];show q
 frzs:=λb u xs q=>by rw[Ao (DK q hn)];show q
 tbls:=λb ps q=>#[#[],by rw[Ao (DK q hn),q];simp]
def Un.write(v:yY (H x))(L:e=x\/H e=some (.own x))(k:∀b u,b≠e->h.get? b=some u->h'.get? b=some u)(J:∃u,h'.get? e=some u):Un fs ex H (upd H x o) h h':=by
 let G:∀b,H b=none->b≠x:=λb n z=>by subst z;rw[n]at v;show v
 let F:∀b,H b=none->b≠e:=λb n z=>by grind
 let B:∀b u,H b=some u->¬yY (some u)->b≠x:=λb u q nm z=>by subst z;rw[q]at v;show nm v
 refine⟨λb u q n _ _=>k b u (F b n) q,λb u q n _ _=>#[u.slots,k b u (F b n) q],λb u q n _=>by rw[Ao (G b n)];exact n,λb u q _=>?_,
  λb xs q=>by rw[Ao (B b _ q λz=>z)];show q,λb u xs q=>by rw[Ao (B b _ q λz=>z)];show q,λb ps q=>#[#[],by rw[Ao (B b _ q λz=>z),q];simp]⟩
 grind
end
def bf(h:Heap)(H:Hp):List Addr:=(List.range h.objs.size).filter λa=>(H a).isSome
def gU(h:Heap)(H:Hp):Heap:=W.hideAll h (bf h H)
def UJ(h:Heap)(H:Hp):(gU h H).objs.size=h.objs.size:=W.hideAll_size _ _
def Rj(e:h.get? b=some o)(n:H b=none):(gU h H).get? b=some o:=
 W.hideAll_get _ e λv=>by let q:(H b).isSome=true:=(mem_filter.mp v).2;rw[n]at q;simp at q
def QR(e:(gU h H).get? b=some o):h.get? b=some o/\H b=none:=by
 let v:h.get? b=some o:=W.of_hideAll (bf h H) e;show#[v,?_];cases q:H b with
 |none=>rfl
 |some x=>grind[bf,mem_filter,mem_range,Heap.lt_size,gU,W.hideAll_none]
def pW(g h:Heap)(L:Addr):List (Addr×Obj):=(List.range h.objs.size).filterMap λa=>if a=L\/(g.get? a).isSome=true then none else(h.get? a).map λo=>(a,o)
def rest(g h:Heap)(L d:Addr):List (Addr×Obj):=(pW g h L).filter λp=>decide (p.1≠d)
structure Mod(K:W.Frag)(mg:Str->Option Value)(base:Heap):Prop where
 kin:K.In base
 glob:base.Ns mainGlobals mg
 blt:∃mb,base.Ns builtinsNs mb/\∀x:Str,x≠"__name__"->mb x=bootBuiltins x
 nolimit:base.NoLimit
structure Cx where
 prog:Program
 w:World
 K:W.Frag
 mg:Str->Option Value
 base:Heap
 A:Around
 N:List Str
 s₀:Shared
 H₀:Hp
 env:Env
 outer:List Env
 stack:List Env
 ex:List Addr
 fn:Str->Bool
 calm:Bool
 pn:List (Addr×Obj)
 xe:zi
def mN(l:List Env):List Addr:=l.filterMap (·.frame)
abbrev Cx.fs(X:Cx):List Addr:=mN X.outer
def yO(v:Scope)(x:Str):Prop:=v.names.lookup x=some .local\/v.names.lookup x=some .cell\/v.names.lookup x=some .free
@[inline]def Loc(v:Scope)(x:Str):Prop:=v.names.lookup x=some .local\/v.names.lookup x=some .cell
@[inline]def Look(env:Env)(h:Heap)(m:Str->Option Value)(x:Str)(u:Value):Prop:=
 (env.kindOf x=some .local/\m x=some u)\/((env.kindOf x=some .cell\/env.kindOf x=some .free)/\∃c,env.cells.lookup x=some c/\h.IsCell c (some u))
structure Cx.Ok(X:Cx):Prop where
 mod:Mod X.K X.mg X.base
 kind:X.env.scope.kind=.function
 glob:X.env.globals=mainGlobals
 blt:X.env.builtins=builtinsNs
 above:X.s₀.heap.objs.size<=X.env.locals
 inj:∀x y c,X.env.cells.lookup x=some c->X.env.cells.lookup y=some c->x=y
 has:∀x,(X.env.kindOf x=some .cell\/X.env.kindOf x=some .free)->∃c,X.env.cells.lookup x=some c
 cab:∀x c,X.fn x=true->X.env.cells.lookup x=some c->X.s₀.heap.objs.size<=c
 hd:X.calm=true->X.A.handled=none
 frames:X.A.frames=some X.stack
 stk:X.stack=X.outer\/(X.stack=X.env::X.outer/\X.env.frame=some X.env.locals)
 exf:∀b∈X.ex,b≠X.env.locals/\∀x c,X.env.cells.lookup x=some c->c≠b
 bs:∀b o,X.base.get? b=some o->X.s₀.heap.get? b=some o/\X.H₀ b=none
 bsz:X.base.objs.size<=X.s₀.heap.objs.size
 noex:∀b o,X.base.get? b=some o->b∉X.ex
 exfs:∀b∈X.ex,b∉X.fs
 funs:X.s₀.heap.FunFrames X.base X.outer
 frf:∀b∈X.fs,X.H₀ b=none
structure Inv(X:Cx)(zF:List (Addr×Obj))(Z:List (Option V))(H:Hp)(s:Shared):Prop where
 ok:X.Ok
 os:s.os=X.s₀.os
 bare:AllBare s.gens
 base:Un X.fs X.ex X.H₀ H X.s₀.heap s.heap
 loc:∃m,s.heap.Ns X.env.locals m/\∀(i:Nat)(x:Str)(v:V),X.N[i]?=some x->Z[i]?=some (some v)->yO X.env.scope x->∃u,zv v u/\Look X.env s.heap m x u
 cell:∀x c,X.env.cells.lookup x=some c->∃v,s.heap.IsCell c v
 free:H X.env.locals=none
 freeC:∀x c,X.env.cells.lookup x=some c->H c=none
 pin:∀p∈X.pn++zF,s.heap.get? p.1=some p.2/\H p.1=none/\p.1≠X.env.locals/\p.1∉X.fs/\∀v,p.2.data≠.cell v
 hok:dY X.prog X.w H s.heap
 len:Z.length=X.N.length
section
variable{X:Cx}{zF:List (Addr×Obj)}{Z:List (Option V)}{H H':Hp}{s:Shared}{h':Heap}
def Cx.Ok.nofr(ok:X.Ok)(e:X.base.get? b=some o):b∉X.fs:=λv=>by let:=(ok.funs.mem v).1;rw[e]at this;cases this
def Inv.bs(I:Inv X zF Z H s):∀b o,X.base.get? b=some o->s.heap.get? b=some o/\H b=none:=λb o e=>#[I.base.keep b o (I.ok.bs b o e).1 (I.ok.bs b o e).2 (I.ok.nofr e) (I.ok.noex b o e),I.base.free b o (I.ok.bs b o e).1 (I.ok.bs b o e).2 (I.ok.noex b o e)]
def Inv.bk(I:Inv X zF Z H s):∀b o,X.base.get? b=some o->s.heap.get? b=some o:=λb o e=>(I.bs b o e).1
def Inv.mod(I:Inv X zF Z H s):Mod X.K X.mg X.base:=I.ok.mod
def Inv.kIn(I:Inv X zF Z H s):X.K.In s.heap:=I.ok.mod.kin.keeps I.bk
def Inv.lt(I:Inv X zF Z H s):X.env.locals<s.heap.objs.size:=let⟨_,hn,_⟩:=I.loc;hn.lt
def Inv.sz(I:Inv X zF Z H s):X.s₀.heap.objs.size<=s.heap.objs.size:=le_trans I.ok.above (le_of_lt I.lt)
def Inv.nofs(I:Inv X zF Z H s)(h:s.heap.objs.size<=a):a∉X.fs:=λz=>by let#[_,o,v,_]:=I.ok.funs.mem z;show absurd (lt_of_lt_of_le (qe v) (le_trans I.sz h)) (lt_irrefl _)
def Inv.cne(I:Inv X zF Z H s):∀x c,X.env.cells.lookup x=some c->c≠X.env.locals:=λx c e z=>by let#[v,o,G,J]:=I.cell x c e;let#[m,#[o',es,ep,B,F,_],_]:=I.loc;rw[z,B]at G;cases G;rw[F]at J;cases J
def Inv.funs(I:Inv X zF Z H s):s.heap.FunFrames X.base X.outer:=by
 have all:∀(l:List Env),(∀b∈mN l,b∈X.fs)->X.s₀.heap.FunFrames X.base l->s.heap.FunFrames X.base l:=by
  intro l;induction l with
  |nil=>intro _ _;trivial
  |cons h1 r J=>intro G hl;let#[hk,#[L,o,v,Y,O,hd],M]:=hl;let F:L∈X.fs:=G L (by unfold mN;rw[filterMap_cons,v];show qm);let#[sl,e]:=I.base.slot L o O (I.ok.frf L F) F λz=>I.ok.exfs L z F;show#[hk,#[L,_,v,Y,e,hd],J (λb B=>G b (by unfold mN;rw[filterMap_cons,v];show qk _ B)) M]
 show all X.outer (λ_ B=>B) I.ok.funs
def Inv.stack(I:Inv X zF Z H s):s.heap.FunFrames X.base X.stack:=by
 rcases I.ok.stk with e|⟨e,z⟩
 .rw[e];show I.funs
 .rw[e];let#[m,v,_]:=I.loc;show .cons (by rw[I.ok.kind];decide) z v ?_ I.funs;show Heap.get?_none_of_le (le_trans I.ok.bsz I.ok.above)
def Inv.stkSub(I:Inv X zF Z H s):∀b∈mN X.stack,b∈X.env.locals::X.fs:=λb v=>by
 rcases I.ok.stk with e|⟨e,z⟩
 .rw[e]at v;show qk _ v
 .rw[e]at v;unfold mN at v;rw[filterMap_cons,z]at v;show v
def Inv.stkFree(I:Inv X zF Z H s):∀b∈mN X.stack,H b=none:=λb v=>by
 rcases qA.mp (I.stkSub b v)with e|v
 .rw[e];show I.free
 .obtain⟨_,o,B,_⟩:=I.ok.funs.mem v;show I.base.free b o B (I.ok.frf b v) λz=>I.ok.exfs b z v
def Inv.step{ch:List Addr}(I:Inv X zF Z H s)
  (J:∀b∈ch,(b∈X.ex\/X.s₀.heap.get? b=none)/\b≠X.env.locals/\(∀x c,X.env.cells.lookup x=some c->c≠b)/\∀p∈X.pn++zF,p.1≠b)
  (G:∀b o,b≠X.env.locals->b∉X.fs->b∉ch->s.heap.get? b=some o->H b=none->h'.get? b=some o)
  (slot:∀b o,b≠X.env.locals->b∈X.fs->b∉ch->s.heap.get? b=some o->H b=none->∃sl,h'.get? b=some {o with slots:=sl})(free:∀b o,b∉ch->s.heap.get? b=some o->H b=none->H' b=none)
  (there:∀b o,b∉ch->s.heap.get? b=some o->∃o',h'.get? b=some o')
  (h1:∀b xs,H b=some (.tup xs)->H' b=some (.tup xs))(h4:∀b o u,H b=some (.frz o u)->H' b=some (.frz o u))(h2:∀b ps,H b=some (.tbl ps)->∃more,H' b=some (.tbl (ps++more)))
  (ns:∀m,s.heap.Ns X.env.locals m->h'.Ns X.env.locals m)(h6:dY X.prog X.w H' h')(hg:AllBare g'):
  Inv X zF Z H' {s with heap:=h',gens:=g',drawn:=d',toks:=t'}:=by
 have h3:∀b o,X.s₀.heap.get? b=some o->b≠X.env.locals:=λb o e=>ne_of_lt (lt_of_lt_of_le (qe e) I.ok.above);let M:∀b o,X.s₀.heap.get? b=some o->b∉X.ex->b∉ch:=λb o e B Y=>by
  rcases(J b Y).1 with z|z
  .show B z
  .rw[z]at e;cases e
 have L:∀x c,X.env.cells.lookup x=some c->∀v,s.heap.IsCell c v->h'.IsCell c v:=λx c e v⟨o,ho,hd⟩=>by
  let F:c∉ch:=λz=>(J c z).2.2.1 x c e rfl;by_cases hc:c∈X.fs
  .obtain⟨sl,q⟩:=slot c o (I.cne x c e) hc F ho (I.freeC x c e);show#[_,q,hd]
  .show#[o,G c o (I.cne x c e) hc F ho (I.freeC x c e),hd]
 show#[I.ok,I.os,hg,#[λb o e n Y B=>?_,λb o e n Y B=>?_,λb o e n B=>?_,λb o e B=>?_,λb xs e=>h1 b xs (I.base.tups b xs e),λb o xs e=>h4 b o xs (I.base.frzs b o xs e),λb ps e=>?_],?_,λx c e=>?_,?_,λx c e=>?_,λp hp=>?_,h6,I.len]
 .show G b o (h3 b o e) Y (M b o e B) (I.base.keep b o e n Y B) (I.base.free b o e n B)
 .obtain⟨sl,O⟩:=I.base.slot b o e n Y B;let#[h5,e2]:=slot b _ (h3 b o e) Y (M b o e B) O (I.base.free b o e n B);show#[h5,e2]
 .obtain⟨o',O⟩:=I.base.there b o e B;show free b o' (M b o e B) O (I.base.free b o e n B)
 .obtain⟨o',O⟩:=I.base.there b o e B;show there b o' (M b o e B) O
 .obtain⟨m1,O⟩:=I.base.tbls b ps e;let#[m2,e2]:=h2 b _ O;show#[m1++m2,by rw[e2,Array.append_assoc]]
 .obtain⟨m,hn,hl⟩:=I.loc;show#[m,ns m hn,λi x v O e2 e3=>?_];let#[u,r,l]:=hl i x v O e2 e3;show#[u,r,?_];rcases l with l|⟨k,c,e,z⟩
  .show .inl l
  .show .inr #[k,c,e,L x c e _ z]
 .obtain⟨v,z⟩:=I.cell x c e;show#[v,L x c e v z]
 .obtain⟨m,⟨o,_,_,ho,_⟩,_⟩:=I.loc;show free _ o (λz=>(J _ z).2.1 rfl) ho I.free
 .obtain⟨v,o,ho,hd⟩:=I.cell x c e;show free c o (λz=>(J c z).2.2.1 x c e rfl) ho (I.freeC x c e)
 .obtain⟨e,n,ne,nf,d⟩:=I.pin p hp;let F:p.1∉ch:=λz=>(J p.1 z).2.2.2 p hp rfl;show#[G p.1 p.2 ne nf F e n,free p.1 p.2 F e n,ne,nf,d]
def Inv.un(I:Inv X zF Z H s)(u:Un X.fs [] H H' s.heap h')(B:dY X.prog X.w H' h'):Inv X zF Z H' {s with heap:=h',toks:=t'}:=by let#[m,#[o,es,ep,L,r],_]:=id I.loc;let#[sl,Y]:=u.any L I.free (by simp);show I.step (g':=s.gens) (d':=s.drawn) (ch:=[]) (λ_ z=>nomatch z) (λb o _ F _ e n=>u.keep b o e n F (by simp)) (λb o _ F _ e n=>u.slot b o e n F (by simp)) (λb o _ e n=>u.free b o e n (by simp)) (λb o _ e=>u.there b o e (by simp)) u.tups u.frzs u.tbls (λm' O=>by let#[o',G,J,v,M]:=O;rw[L]at v;cases v;show#[_,G,J,Y,M]) B I.bare
def Inv.call(I:Inv X zF Z H s)(u:Un (mN X.stack) ch H H' s.heap h')(G:dY X.prog X.w H' h')(hg:AllBare g')
  (F:∀b∈ch,(b∈X.ex\/X.s₀.heap.get? b=none)/\b≠X.env.locals/\(∀x c,X.env.cells.lookup x=some c->c≠b)/\∀p∈X.pn++zF,p.1≠b):
  Inv X zF Z H' {s with heap:=h',gens:=g',drawn:=d',toks:=t'}:=by
 let#[m,#[o,es,ep,O,r],_]:=id I.loc;let#[sl,J]:=u.any O I.free λz=>(F _ z).2.1 rfl;show I.step (ch:=ch) F (λb o J hb v e n=>u.keep b o e n (λz=>(qA.mp (I.stkSub b z)).elim J hb) v) (λb o _ _ v e n=>u.any e n v) (λb o v e n=>u.free b o e n v) (λb o v e=>u.there b o e v) u.tups u.frzs u.tbls (λm' hm=>by let#[o',L,M,B,Y]:=hm;rw[O]at B;cases B;show#[_,L,M,J,Y]) G hg
def Inv.turned(I:Inv X zF Z H s)(k:∀b o,b≠it->s.heap.get? b=some o->h'.get? b=some o)(hn:H it=none)(G:it≠X.env.locals)
  (h1:it∈X.ex\/X.s₀.heap.get? it=none)(h2:∀x c,X.env.cells.lookup x=some c->c≠it)(O:∀p∈X.pn++zF,p.1≠it):Inv X zF Z H {s with heap:=h',toks:=t'}:=by
 let F:∀b u,H b=some u->b≠it:=λb u e z=>by rw[z,hn]at e;cases e
 refine I.step (g':=s.gens) (d':=s.drawn) (ch:=[it]) (λb M=>?_) (λb o _ _ B e _=>k b o (λz=>B (by simp[z])) e) (λb o _ _ B e _=>#[o.slots,k b o (λz=>B (by simp[z])) e]) (λ_ _ _ _ n=>n)
  (λb o B e=>#[o,k b o (λz=>B (by simp[z])) e]) (λ_ _ e=>e) (λ_ _ _ e=>e) (λb ps e=>#[#[],by rw[e];simp]) (λm L=>?_) (λb u e=>?_) I.bare
 .let e:b=it:=by simpa using M
  subst e;show#[h1,G,h2,O]
 .obtain⟨o,es,ep,J,r⟩:=L;show#[o,es,ep,k _ o (Ne.symm G) J,r]
 .show(I.hok b u e).stay (λc v B q=>k c v ?_ q) (λ_ q=>q) λ_ _ q=>q;rcases B with z|z
  .rw[z];show F b u e
  .show F c _ z
def Inv.tok(I:Inv X zF Z H s)(t:Nat):Inv X zF Z H {s with toks:=t}:=I.un (h':=s.heap) (t':=t) Un.refl I.hok
def Inv.kept(I:Inv X zF Z H s)(k:∀b u,s.heap.get? b=some u->h'.get? b=some u):Inv X zF Z H {s with heap:=h',toks:=t'}:=I.un (Un.kept k) (I.hok.kept k)
def Inv.laid(I:Inv X zF Z H s)(k:∀b u,s.heap.get? b=some u->h'.get? b=some u)(v:s.heap.objs.size<=a)(new:zE X.prog X.w (upd H a o) h' a o):
  Inv X zF Z (upd H a o) {s with heap:=h',toks:=t'}:=I.un (Un.laid k v (I.hok.fresh v)) (I.hok.laid k v new)
def Inv.write(I:Inv X zF Z H s)(z:yY (H x))(B:e=x\/H e=some (.own x))(k:∀b u,b≠e->s.heap.get? b=some u->h'.get? b=some u)(v:∃u,h'.get? e=some u)
  (new:zE X.prog X.w (upd H x o) h' x o):Inv X zF Z (upd H x o) {s with heap:=h',toks:=t'}:=I.un (Un.write z B k v) (I.hok.write z B k v new)
def Inv.pins_of(I:Inv X zF Z H s)(h:∀p∈pins',s.heap.get? p.1=some p.2/\H p.1=none/\p.1≠X.env.locals/\p.1∉X.fs/\∀v,p.2.data≠.cell v):Inv X pins' Z H s:=
 #[I.ok,I.os,I.bare,I.base,I.loc,I.cell,I.free,I.freeC,λp B=>(qx.mp B).elim (λz=>I.pin p (qj _ z)) (h p),I.hok,I.len]
def HV{N:List Str}(v:N.Nodup){i j:Nat}(a:N[i]?=some x)(b:N[j]?=some x):i=j:=by let#[h1,B]:=qg.mp a;let#[h2,z]:=qg.mp b;show(List.getElem_inj v).mp (B.trans z.symm)
def Uu(I:Inv X zF Z H s)(hN:X.N.Nodup)(hi:X.N[i]?=some x)(L:Loc X.env.scope x)(r:zv v u)
  (h:∀s',Inv X zF (Z.set i (some v)) H s'->(∃a,Heap.SameBut a s.heap s'.heap/\(a=X.env.locals\/X.env.cells.lookup x=some a))->Q () s')(hf:X.fn x=true\/X.env.scope.names.lookup x=some .local:=by first|show .inl rfl|show .inr rfl|assumption):wpAny M A (storeName X.env x u) Q E s:=by
 let#[m,hn,hl]:=id I.loc;let h5:(X.env.scope.kind==.class||(X.env.scope.kind==.module&&X.env.locals !=X.env.globals))=false:=by rw[I.ok.kind];rfl
 let h1:i<Z.length:=by rw[I.len];show(qg.mp hi).1
 have cne:=I.cne;let F:∀{a:Addr}{h':Heap},(∃o,s.heap.get? a=some o/\H a=none)->Heap.SameBut a s.heap h'->dY X.prog X.w H h':=λ{a h'} ha B b ob e=>by
  let#[_,_,O]:=ha;show(I.hok b ob e).stay (λc w' J q=>(B.2 c ?_).trans q) (λ_ q=>q) λ_ _ q=>q;rintro rfl;rcases J with rfl|J
  .rw[O]at e;cases e
  .rw[O]at J;cases J
 rcases L with hk|hk
 .refine wpAny_storeName_local hk hn (λh' h9 B=>?_) h5;let#[oL,_,_,h8,_]:=id hn;refine h _ #[I.ok,I.os,I.bare,#[λb o e n hb L=>?_,λb o e n hb L=>?_,I.base.free,λb o e L=>?_,I.base.tups,I.base.frzs,I.base.tbls],#[_,h9,λj y v' G Y e3=>?_],λy c e=>?_,I.free,I.freeC,λp hp=>?_,F #[oL,h8,I.free] B,↑I.len] #[_,B,.inl rfl]
  .show(B.2 b (ne_of_lt (lt_of_lt_of_le (qe e) I.ok.above))).trans (I.base.keep b o e n hb L)
  .obtain⟨sl,G⟩:=I.base.slot b o e n hb L;show#[sl,(B.2 b (ne_of_lt (lt_of_lt_of_le (qe e) I.ok.above))).trans G]
  .obtain⟨o',G⟩:=I.base.there b o e L;show#[o',(B.2 b (ne_of_lt (lt_of_lt_of_le (qe e) I.ok.above))).trans G]
  .by_cases hj:j=i
   .subst hj;rw[hi]at G;cases G;rw[getElem?_set_self h1]at Y;cases Y;show#[u,r,.inl #[hk,by simp]]
   .rw[getElem?_set_ne (Ne.symm hj)]at Y;let#[u',r',q]:=hl j y v' G Y e3;show#[u',r',?_];rcases q with⟨k,e⟩|⟨k,c,e,z⟩
    .show .inl #[k,?_];let:y≠x:=λe=>hj (HV hN G (e▸hi));simp[this,e]
    .show .inr #[k,c,e,z.sameBut B (cne y c e)]
  .obtain⟨w',z⟩:=I.cell y c e;show#[w',z.sameBut B (cne y c e)]
  .obtain⟨e,n,ne,nf,d⟩:=I.pin p hp;show#[(B.2 p.1 ne).trans e,n,ne,nf,d]
 .have h2:X.fn x=true:=by
   rcases hf with z|z
   .show z
   .rw[z]at hk;cases hk
  let#[c,J]:=I.ok.has x (.inl hk);let#[w',z]:=I.cell x c J;show wpAny_storeName_cell I.ok.kind hk J z (λh' h7 B=>?_);let#[oc,h4,h3]:=id z;show h {s with heap:=h'} ⟨I.ok,I.os,I.bare,⟨λb o e n hb L=>?_,λb o e n hb L=>?_,I.base.free,λb o e L=>?_,I.base.tups,I.base.frzs,I.base.tbls⟩,⟨m,hn.sameBut B (Ne.symm (cne x c J)),λj y v' G Y e3=>?_⟩,λy c' e=>?_,I.free,I.freeC,λp hp=>?_,F ⟨oc,h4,I.freeC x c J⟩ B,↑I.len⟩ #[c,B,.inr J]
  .show(B.2 b (ne_of_lt (lt_of_lt_of_le (qe e) (I.ok.cab x c h2 J)))).trans (I.base.keep b o e n hb L)
  .obtain⟨sl,G⟩:=I.base.slot b o e n hb L;show#[sl,(B.2 b (ne_of_lt (lt_of_lt_of_le (qe e) (I.ok.cab x c h2 J)))).trans G]
  .obtain⟨o',G⟩:=I.base.there b o e L;show#[o',(B.2 b (ne_of_lt (lt_of_lt_of_le (qe e) (I.ok.cab x c h2 J)))).trans G]
  .by_cases hj:j=i
   .subst hj;rw[hi]at G;cases G;rw[getElem?_set_self h1]at Y;cases Y;show#[u,r,.inr #[.inl hk,c,J,h7]]
   .rw[getElem?_set_ne (Ne.symm hj)]at Y;let#[u',r',q]:=hl j y v' G Y e3;show#[u',r',?_];rcases q with q|⟨k,c',e,z'⟩
    .show .inl q
    .show .inr #[k,c',e,z'.sameBut B ?_];rintro rfl;show hj (HV hN G (I.ok.inj _ _ _ e J▸hi))
  .by_cases h6:c'=c
   .subst h6;show#[_,h7]
   .obtain⟨w2,z2⟩:=I.cell y c' e;show#[w2,z2.sameBut B h6]
  .obtain⟨e,n,ne,nf,d⟩:=I.pin p hp;show#[(B.2 p.1 ?_).trans e,n,ne,nf,d];intro q;rw[q,h4]at e;let q':oc=p.2:=qf e;show d w' (by rw[<-q'];show h3)
def Ma(I:Inv X zF Z H s)(F:X.N.Nodup)(hi:X.N[i]?=some x)(z:Loc X.env.scope x)(r:zv v u)
  (h:∀s',Inv X zF (Z.set i (some v)) H s'->Q () s')(B:X.fn x=true\/X.env.scope.names.lookup x=some .local:=by first|show .inl rfl|show .inr rfl|assumption):wpAny M A (storeName X.env x u) Q E s:=
 Uu I F hi z r (λs' G _=>h s' G) B
def Inv.call'(I:Inv X zF Z H s)(B:s'.os=s.os)(u:Un (mN X.stack) ch H H' s.heap s'.heap)(v:dY X.prog X.w H' s'.heap)(F:AllBare s'.gens)
  (z:∀b∈ch,(b∈X.ex\/X.s₀.heap.get? b=none)/\b≠X.env.locals/\(∀x c,X.env.cells.lookup x=some c->c≠b)/\∀p∈X.pn++zF,p.1≠b):Inv X zF Z H' s':=by
 let#[h',g',d',t',o']:=s';let e:o'=s.os:=B;subst e;show I.call (g':=g') (t':=t') (d':=d') u v F z
end
abbrev XK:=Value->Option Addr->Hp->Prop
abbrev St:=List (Option V)
abbrev VK:=V->Hp->Prop
abbrev TE:=St->Hp->VK->Prop
abbrev TT:=St->Hp->(Bool->Hp->Prop)->Prop
abbrev TA:=St->Hp->(List V->Hp->Prop)->Prop
structure Ends where
 nx:St->Hp->Prop
 rt:VK
 bk:St->Hp->Prop:=λ_ _=>False
 ct:St->Hp->Prop:=λ_ _=>False
abbrev TS:=Ends->St->Hp->Prop
inductive EP(X:Cx)(zF:List (Addr×Obj))(Z:St)(Q:VK)(u:Value)(s':Shared):Prop
 |mk (v:V) (H':Hp):Inv X zF Z H' s'->zv v u->Q v H'->EP X zF Z Q u s'
inductive TP(X:Cx)(zF:List (Addr×Obj))(Z:St)(Q:Bool->Hp->Prop)(b:Bool)(s':Shared):Prop
 |mk (H':Hp):Inv X zF Z H' s'->Q b H'->TP X zF Z Q b s'
inductive AP(X:Cx)(zF:List (Addr×Obj))(Z:St)(Q:List V->Hp->Prop)(us:List Value)(s':Shared):Prop
 |mk (vs:List V) (H':Hp):Inv X zF Z H' s'->zC vs us->Q vs H'->AP X zF Z Q us s'
@[inline]def SP(X:Cx)(zF:List (Addr×Obj))(D:Ends)(f:Flow)(s':Shared):Prop:=
 match f with
 |.next=>∃Z' H',Inv X zF Z' H' s'/\D.nx Z' H'
 |.brk=>∃Z' H',Inv X zF Z' H' s'/\D.bk Z' H'
 |.cont=>∃Z' H',Inv X zF Z' H' s'/\D.ct Z' H'
 |.ret u=>∃v Z' H',Inv X zF Z' H' s'/\zv v u/\D.rt v H'
@[inline]def PE(X:Cx)(e:Expr)(t:TE):Prop:=
 ∀(zF:List (Addr×Obj))(s:Shared)(Z:St)(H:Hp)(Q:VK),Inv X zF Z H s->t Z H Q->wpAny (model X.prog X.w) X.A (eval e X.env) (EP X zF Z Q) X.xe s
@[inline]def PT(X:Cx)(e:Expr)(t:TT):Prop:=
 ∀(zF:List (Addr×Obj))(s:Shared)(Z:St)(H:Hp)(Q:Bool->Hp->Prop),Inv X zF Z H s->t Z H Q->wpAny (model X.prog X.w) X.A (isTrue e X.env (eval e X.env)) (TP X zF Z Q) X.xe s
@[inline]def PW(X:Cx)(e:Expr)(t:TT):Prop:=
 ∀(v:Sem Value)(zF:List (Addr×Obj))(s:Shared)(Z:St)(H:Hp)(Q:Bool->Hp->Prop),Inv X zF Z H s->t Z H Q->wpAny (model X.prog X.w) X.A (isTrue e X.env v) (TP X zF Z Q) X.xe s
def PW.pt(h:PW X e t):PT X e t:=h _
@[inline]def PA(X:Cx)(es:List Expr)(t:TA):Prop:=
 ∀(pos:Pos)(zF:List (Addr×Obj))(s:Shared)(Z:St)(H:Hp)(Q:List V->Hp->Prop),Inv X zF Z H s->t Z H Q->wpAny (model X.prog X.w) X.A (spliced (backTo pos (starEach es X.env))) (AP X zF Z Q) X.xe s
@[inline]def PS(X:Cx)(st:Stmt)(t:TS):Prop:=
 ∀(zF:List (Addr×Obj))(s:Shared)(Z:St)(H:Hp)(D:Ends),Inv X zF Z H s->t D Z H->wpAny (model X.prog X.w) X.A (exec st X.env) (SP X zF D) X.xe s
def iO(X:Cx)(st:List Stmt)(t:TS):Prop:=
 ∀(zF:List (Addr×Obj))(s:Shared)(Z:St)(H:Hp)(D:Ends),Inv X zF Z H s->t D Z H->wpAny (model X.prog X.w) X.A (execs st X.env) (SP X zF D) X.xe s
def Al(h:wpAny M A t Q E s)(v:∀a s,Q a s->Q' a s):wpAny M A t Q' E s:=zh h v λ_ _ x=>x
section
variable{X:Cx}
def bg(i:Nat):TE:=λZ H Q=>∃v,Z[i]?=some (some v)/\Q v H
def tC(v:V):TE:=λ_ H Q=>Q v H
def Pk(hN:X.N[i]?=some x)(M:yO X.env.scope x)(G:(x==("__debug__":Str))=false:=by decide)(J:(x==("__classdict__":Str))=false:=by decide):PE X (.Name x pos) (bg i):=by
 intro zF s Z H Q I h;let#[v,e,h]:=h;let#[m,O,hl]:=I.loc;let#[u,r,l]:=hl i x v hN e M;let F:EP X zF Z Q u s:=#[v,H,I,r,h]
 rcases l with⟨B,Y⟩|⟨B,c,L,z⟩
 .show wpAny_Name (wpAny_loadName_local I.ok.kind B O Y F) G
 .rcases B with B|B
  .show wpAny_Name (wpAny_loadName_cell I.ok.kind B L z F) G
  .show wpAny_Name (wpAny_loadName_free I.ok.kind B L z F J) G
def Ow:PE X (.Constant (.int i) j pos) (tC (.int i)):=λ_ _ _ H _ I h=>wpAny_Constant_int #[.int i,H,I.tok _,#[_,rfl],h]
def Od:PE X (.Constant (.bool b) j pos) (tC (.bl b)):=λ_ _ _ H _ I h=>Constant_bool #[.bl b,H,I,rfl,h]
def Pe:PE X (.Constant .none j pos) (tC .non):=λ_ _ _ H _ I h=>Constant_none #[.non,H,I,rfl,h]
def PL:PE X (.Constant (.str x) j pos) (tC (.str x)):=λ_ _ _ H _ I h=>Calls.Constant_str #[.str x,H,I.tok _,#[_,rfl],h]
@[inline]def Gl(X:Cx)(x:Str):Prop:=X.env.kindOf x=some .globalImplicit
def QP(I:Inv X zF Z H s)(z:Gl X x)(v:X.mg x=some u)(h:Q u s)
  (B:(x==("__debug__":Str))=false:=by decide):wpAny (model X.prog X.w) X.A (eval (.Name x pos) X.env) Q E s:=
 Calls.Name_function_global I.ok.kind z (Calls.loadGlobal_global (by rw[I.ok.glob];show I.mod.glob.keeps I.bk) v h) B
def Gb(I:Inv X zF Z H s)(B:Gl X x)(z:X.mg x=none)(v:bootBuiltins x=some u)(h:Q u s)
  (hn:x≠"__name__":=by decide)(F:(x==("__debug__":Str))=false:=by decide):wpAny (model X.prog X.w) X.A (eval (.Name x pos) X.env) Q E s:=by
 let#[G,h1,h2]:=I.mod.blt;show Calls.Name_function_global I.ok.kind B (Calls.loadGlobal_builtin (by rw[I.ok.glob];show I.mod.glob.keeps I.bk) z (by rw[I.ok.blt];show h1.keeps I.bk) ((h2 x hn).trans v) h) F
variable{a b:Expr}{ta tb:TE}{pos:Pos}
def Eb(b:Expr)(h:v≠.In)(h2:v≠.NotIn):behindInMarks v b=false:=by
 let B:(v==CmpOp.In)=false:=by cases v<;>first|rfl|show absurd rfl h
 let z:(v==CmpOp.NotIn)=false:=by cases v<;>first|rfl|show absurd rfl h2
 cases b<;>first|rfl|(show(_&&(v==.In||v==.NotIn)&&_)=false;rw[B,z,Bool.or_false,Bool.and_false];rfl)
variable{tA tB':TT}{rest:List Expr}
def cc(t u:TT):TT:=λZ H Q=>t Z H λc H1=>if c=true then u Z H1 Q else Q false H1
def ju(t u:TT):TT:=λZ H Q=>t Z H λc H1=>if c=true then Q true H1 else u Z H1 Q
def bq(t:TT):TT:=λZ H Q=>t Z H λc H1=>Q (!c) H1
def QH(v:PT X a tA):PW X (.BoolOp .And [a] pos) tA:=by
 intro z zF s Z H Q I h;show isTrue_and (Al (v zF s Z H Q I h) λc B e=>?_);cases c with
 |true=>show isTrue_and_nil e
 |false=>show e
def Os(v:PT X a tA):PW X (.BoolOp .Or [a] pos) tA:=by
 intro z zF s Z H Q I h;show isTrue_or (Al (v zF s Z H Q I h) λc B e=>?_);cases c with
 |false=>show isTrue_or_nil e
 |true=>show e
def OF(L:PT X a tA)(J:PW X (.BoolOp .And (b::rest) pos) tB'):PW X (.BoolOp .And (a::b::rest) pos) (cc tA tB'):=by
 intro F zF s Z H Q I h;show isTrue_and (Al (L zF s Z H _ I h) λc G B=>?_);let#[H1,z,v]:=B;cases c with
 |true=>show J F zF G Z H1 Q z v
 |false=>show#[H1,z,v]
def Oe(L:PT X a tA)(J:PW X (.BoolOp .Or (b::rest) pos) tB'):PW X (.BoolOp .Or (a::b::rest) pos) (ju tA tB'):=by
 intro F zF s Z H Q I h;show isTrue_or (Al (L zF s Z H _ I h) λc G B=>?_);let#[H1,z,v]:=B;cases c with
 |true=>show#[H1,z,v]
 |false=>show J F zF G Z H1 Q z v
def OW(B:PT X a tA):PT X (.UnaryOp .Not a pos) (bq tA):=by intro zF s Z H Q I h;show isTrue_not (Al (B zF s Z H (λc H1=>Q (!c) H1) I h) λc G z=>by let#[H1,F,v]:=z;show#[H1,F,v])
end
def bL(K:W.Frag)(H:Hp)(a:Addr)(xs:List V):Prop:=
 Rd H a (.lst xs)\/
  ∃(o:Obj)(v:Array Value)(n:Nat),K.lookup a=some o/\o.cls=.type "list"/\o.dict=none/\o.data=.seq v n/\v.size<=sizeLine/\zC xs v.toList
def bK(K:W.Frag)(H:Hp)(a:Addr)(xs:List V):Prop:=
 Rd H a (.tup xs)\/
  ∃(o:Obj)(v:Array Value)(n:Nat),K.lookup a=some o/\o.cls=.type "tuple"/\o.data=.seq v n/\v.size<=sizeLine/\zC xs v.toList
def gq:Value->Option V
 |.none=>some .non
 |.bool b=>some (.bl b)
 |.int i _=>some (.int i)
 |.str x _=>some (.str x)
 |.bytes b _=>some (.byt b)
 |.float b _=>some (.flt b)
 |.ref a=>some (.ref a)
 |.type n=>some (.ty n)
 |_=>none
def zv.abs(r:zv x u):gq u=some x:=by
 cases x with
 |non=>cases r;rfl
 |bl _=>cases r;rfl
 |int _=>let#[t,rfl]:=r;rfl
 |str _=>let#[t,rfl]:=r;rfl
 |byt _=>let#[t,rfl]:=r;rfl
 |flt _=>let#[t,rfl]:=r;rfl
 |ref _=>cases r;rfl
 |ty _=>cases r;rfl
def zv.inj(r:zv x u)(q:zv y u):x=y:=qf (r.abs.symm.trans q.abs)
def zC.inj:∀{xs ys:List V}{us:List Value},zC xs us->zC ys us->xs=ys:=by
 intro xs ys us r q;induction r generalizing ys with
 |nil=>cases q;rfl
 |cons r _ B=>cases q with
  |cons z v=>rw[r.inj z,B v]
inductive zN(xs:List V)(h:Heap)(a:Addr):Prop
 |mk (zJ:List Value):zC xs zJ->PlainL h a zJ.toArray->xs.length<=sizeLine->zN xs h a
inductive zM(xs:List V)(h:Heap)(a:Addr):Prop
 |mk (zJ:List Value):zC xs zJ->IsTup h a zJ.toArray->xs.length<=sizeLine->zM xs h a
section
variable{X:Cx}{zF:List (Addr×Obj)}{Z:St}{H:Hp}{s:Shared}{a:Addr}{xs ys:List V}
def bL.of{K:W.Frag}(h:H a=some (.lst xs)):bL K H a xs:=.inl (.inl h)
def bK.of{K:W.Frag}(h:H a=some (.tup xs)):bK K H a xs:=.inl (.inl h)
def Inv.list(I:Inv X zF Z H s)(h:bL X.K H a xs):zN xs s.heap a:=by
 rcases h with h|⟨o,v,n,F,J,G,B,L,r⟩
 .obtain⟨z,v,n,r,e⟩:=h.ok I.hok;show#[v,r,#[_,n,e,rfl,rfl,rfl],z]
 .show#[v.toList,r,#[o,n,I.kIn a o F,J,G,↑B],?_];let e:=r.length;simp only[qU]at e;lia
def Inv.tuple(I:Inv X zF Z H s)(h:bK X.K H a xs):zM xs s.heap a:=by
 rcases h with h|⟨o,v,n,F,G,B,J,r⟩
 .obtain⟨z,v,r,p⟩:=h.ok I.hok;show#[v,r,p,z.1]
 .show#[v.toList,r,#[o,I.kIn a o F,G,n,↑B],?_];let e:=r.length;simp only[qU]at e;lia
def Inv.list_inj(I:Inv X zF Z H s)(h:bL X.K H a xs)(h':bL X.K H a ys):xs=ys:=by
 let#[z,r,#[o,n,e,_,_,d],_]:=I.list h;let#[v,G,#[o',J,B,_,_,F],_]:=I.list h';rw[e]at B;cases B;rw[d]at F;injection F with d1 _
 let:z=v:=by simpa using congrArg Array.toList d1
 subst this;show r.inj G
def Inv.tuple_inj(I:Inv X zF Z H s)(h:bK X.K H a xs)(h':bK X.K H a ys):xs=ys:=by
 let#[z,r,#[o,e,_,n,d],_]:=I.tuple h;let#[v,G,#[o',B,_,J,F],_]:=I.tuple h';rw[e]at B;cases B;rw[d]at F;injection F with d1 _
 let:z=v:=by simpa using congrArg Array.toList d1
 subst this;show r.inj G
end
section
variable{X:Cx}{st:Stmt}{rest:List Stmt}{t u:TS}{e:Expr}{te:TE}{pos:Pos}
def wV:TS:=λD Z H=>D.nx Z H
def bj(t u:TS):TS:=λD Z H=>t {D with nx:=u D} Z H
def QW:iO X [] wV:=λ_ _ Z H _ I h=>wpAny_execs_nil #[Z,H,I,h]
def Td(h1:PS X st t)(h2:iO X rest u):iO X (st::rest) (bj t u):=by
 intro zF s Z H D I h;show wpAny_execs_cons (Al (h1 zF s Z H {D with nx:=u D} I h) λf B q=>?_);cases f with
 |next=>let#[z,H',F,q]:=q;show h2 zF B z H' D F q
 |ret v=>show q
 |brk=>show q
 |cont=>show q
def Qi(h1:PS X st t):iO X [st] t:=by
 intro zF s Z H D I h;show wpAny_execs_cons (Al (h1 zF s Z H D I h) λf z q=>?_);cases f with
 |next=>show wpAny_execs_nil q
 |ret v=>show q
 |brk=>show q
 |cont=>show q
def Inv.quiet(I:Inv X zF Z H s):interactive X.env=false:=by simp[interactive,I.ok.kind]
def wW(te:TE):TS:=λD Z H=>te Z H λ_ H1=>D.nx Z H1
def Qf(B:PE X e te)(hs:swapsWith e none pos.line X.env=pure false:=by rfl):PS X (.Expr e pos) (wW te):=by intro zF s Z H D I h;show wpAny_Expr_any (Al (B zF s Z H _ I h) λv G⟨x,H1,F,J,z⟩=>#[Z,H1,F,z]) I.quiet hs
def bo(te:TE):TS:=λD Z H=>te Z H D.rt
def Pm(F:PE X e te):PS X (.Return (some e) pos) (bo te):=by intro zF s Z H D I h;show wpAny_Return_some (Al (F zF s Z H _ I h) λv J⟨x,H1,G,z,B⟩=>#[x,Z,H1,G,z,B])
def bw(c:TT)(t u:TS):TS:=λD Z H=>c Z H λb H1=>if b=true then t D Z H1 else u D Z H1
def Oh(G:PT X c tc)(L:iO X a t)(J:iO X b u):PS X (.If c a b pos) (bw tc t u):=by
 intro zF s Z H D I h;show wpAny_If (Al (G zF s Z H _ I h) λd v F=>?_);let#[H1,B,z]:=F;cases d with
 |true=>show L zF v Z H1 D B z
 |false=>show J zF v Z H1 D B z
end
abbrev TG:=V->St->Hp->(St->Hp->Prop)->Prop
abbrev yQ:=List V->St->Hp->(St->Hp->Prop)->Prop
@[inline]def PG(X:Cx)(z:Expr)(t:TG):Prop:=
 ∀(zF:List (Addr×Obj))(s:Shared)(Z:St)(H:Hp)(v:V)(u:Value)(Q:St->Hp->Prop),Inv X zF Z H s->zv v u->t v Z H Q->
  wpAny (model X.prog X.w) X.A (assign z X.env u) (λ_ s'=>∃Z' H',Inv X zF Z' H' s'/\Q Z' H') X.xe s
def yX(X:Cx)(v:List Expr)(t:yQ):Prop:=
 ∀(zF:List (Addr×Obj))(s:Shared)(Z:St)(H:Hp)(vs:List V)(us:List Value)(Q:St->Hp->Prop),Inv X zF Z H s->zC vs us->t vs Z H Q->
  wpAny (model X.prog X.w) X.A (assignInOrder ((assignEach v X.env).map (·.2)) us) (λ_ s'=>∃Z' H',Inv X zF Z' H' s'/\Q Z' H') X.xe s
abbrev TSet:=V->V->V->Hp->(Hp->Prop)->Prop
def yV(X:Cx)(t:TSet):Prop:=
 ∀(zF:List (Addr×Obj))(s:Shared)(Z:St)(H:Hp)(o i v:V)(z B u:Value)(Q:Hp->Prop),Inv X zF Z H s->zv o z->zv i B->zv v u->t o i v H Q->
  wpAny (model X.prog X.w) X.A (setItem z B u) (λ_ s'=>∃H',Inv X zF Z H' s'/\Q H') X.xe s
section
variable{X:Cx}{pos:Pos}
def gm:yQ:=λv Z H Q=>v=[]/\Q Z H
def yE(t:TG)(u:yQ):yQ:=λB Z H Q=>∃v r,B=v::r/\t v Z H λz H'=>u r z H' Q
def RH:yX X [] gm:=by intro zF s Z H v z Q I r h;let#[e,h]:=h;subst e;cases r;show assignInOrder_nil #[Z,H,I,h]
def SQ(h1:PG X e t)(h2:yX X es u)
  (hs:(assignEach (e::es) X.env).map (·.2)=assign e X.env::(assignEach es X.env).map (·.2):=by rfl):yX X (e::es) (yE t u):=by
 intro zF s Z H O us Q I r h;let#[v,Y,L,h]:=h;subst L;cases r with
 |cons r G=>rw[hs];show assignInOrder_cons (Al (h1 zF s Z H _ _ _ I r h) λ_ F B=>?_);let#[z,H1,M,J]:=B;show h2 zF F z H1 _ _ Q M G J
def cB(K:W.Frag)(n:Nat)(t:yQ):TG:=λv Z H Q=>∃a xs,v=.ref a/\bK K H a xs/\xs.length=n/\t xs Z H Q
def Pd(Y:X.calm=true)(h:yX X es t)
  (hn:(assignEach es X.env).length=n:=by rfl)(B:(assignEach es X.env).findIdx? (·.1)=none:=by rfl):PG X (.Tuple es k pos) (cB X.K n t):=by
 intro zF s Z H v u Q I r z;let#[a,xs,e1,M,O,z]:=z;subst e1;cases r;let#[G,F,L,hz]:=I.tuple M;show assign_Tuple_tuple (I.ok.hd Y) L (by simp[hn,<-O,F.length]) B λh' J=>?_;let I1:Inv X zF Z H {s with heap:=h'}:=I.kept (t':=s.toks) λb o e=>J b o (ne_of_lt (qe e)) e;show h zF _ Z H xs _ Q I1 ↑F z
def gk(z B:TE)(t:TSet):TG:=λv Z H Q=>z Z H λo H1=>B Z H1 λi H2=>t o i v H2 λF=>Q Z F
def OL(ho:PE X o to)(hi:PE X i ti)(hs:yV X t)
  (ha:∀v,assign (.Subscript o i pos) X.env v=(do
   let ov<-holding [v] (eval o X.env)
   let iv<-holding [v,ov] (eval i X.env)
   standAt pos
   holding [v,ov,iv] (setItem ov iv v)
   release [v,ov,iv] []):=by intro _;rfl):PG X (.Subscript o i pos) (gk to ti t):=by
 intro zF s Z H v u Q I r h;rw[ha];show qa (zf (Al (ho zF s Z H _ I h) λov s1 zq=>?_));let#[x,H1,I1,r1,q1]:=zq;show qa (zf (Al (hi zF s1 Z H1 _ I1 q1) λiv s2 zq=>?_));let#[y,H2,I2,r2,q2]:=zq;show qa (wpAny_standAt (qa (zf (Al (hs zF s2 Z H2 x y v ov iv u _ I2 r1 r2 r q2) λ_ s3 zq=>?_))));let#[H3,I3,q3]:=zq;show wpAny_release #[Z,H3,I3,q3]
def cb(te:TE)(g:TG):TS:=λD Z H=>te Z H λx H1=>g x Z H1 D.nx
def KD(M:PE X e te)(L:PG X tg g)(hs:swapsWithSole [tg] e pos.line X.env=pure false:=by rfl)(J:swappedStores [tg] e X.env=pure none:=by rfl)
  (h1:(assignEach [tg] X.env).map (·.2)=[assign tg X.env]:=by rfl):PS X (.Assign [tg] e pos) (cb te g):=by
 intro zF s Z H D I h;show wpAny_Assign_stores (Al (M zF s Z H _ I h) λv B z=>?_) hs J;let#[x,H1,O,F,G]:=z;rw[h1];show Al (L zF B Z H1 x v _ O F G) λ_ Y q=>q
def bp(i j:Nat)(ta:TA):TS:=λD Z H=>ta Z H λz H1=>∃v w,z=[v,w]/\D.nx ((Z.set i (some v)).set j (some w)) H1
def OD(hc:X.calm=true)(hN:X.N.Nodup)(hi:X.N[i]?=some x)(hj:X.N[j]?=some y)(hij:i≠j)
  (hx:X.env.scope.names.lookup x=some .local)(hy:X.env.scope.names.lookup y=some .local)(ha:PA X [a,b] ta)
  (hw:swappedStores [.Tuple [.Name x px,.Name y py] kt pt] (.Tuple [a,b] k2 pt2) X.env=pure (some [x,y]))
  (hs:swapsWithSole [.Tuple [.Name x px,.Name y py] kt pt] (.Tuple [a,b] k2 pt2) pos.line X.env=pure false:=by rfl):
  PS X (.Assign [.Tuple [.Name x px,.Name y py] kt pt] (.Tuple [a,b] k2 pt2) pos) (bp i j ta):=by
 intro zF s Z H D I h;rw[exec_Assign_arm];show qa (wpAny_standAt ?_);rw[hs];show qa (qb ?_);rw[q4 ⋯];show qa (Tuple_ (Al (ha _ zF s Z H _ I h) λus s1 zq=>?_));let#[vs,H1,I1,r1,q1]:=zq;let#[v,w,e1,q1]:=q1;subst e1;obtain⟨u1,u2,rfl,rv,rw'⟩:∃u1 u2,us=[u1,u2]/\zv v u1/\zv w u2:=by
  cases r1 with
  |cons p q=>
   cases q with
   |cons p' q'=>cases q';show#[_,_,rfl,p,p']
 show zc ?_ (by show 2<=sizeLine;decide);let I2:Inv X zF Z H1 {s1 with heap:=s1.heap.push {cls:=.type "tuple",data:=.seq [u1,u2].toArray}}:=I1.kept (t':=s1.toks) λb o e=>qc _ e;rw[hw];show qa (qb ?_);show wpAny (model X.prog X.w) X.A (do rule "assign.swapped-stores";let items<-unpackItems (.ref s1.heap.objs.size) 2 none;assignInOrder [λv=>bindName X.env y v,λv=>bindName X.env x v] items.reverse;pure Flow.next) _ _ _;show qa (wpAny_rule (qa (unpackItems_tuple (items:=[u1,u2].toArray) (I.ok.hd hc) (IsTup.new s1.heap _) λh' hx'=>?_)));let I3:=I2.kept (h':=h') (t':=s1.toks) λb o e=>hx' b o (ne_of_lt (qe e)) e;show wpAny _ _ (assignInOrder [λv=>bindName X.env y v,λv=>bindName X.env x v] [u2,u1]>>=λ_=>pure Flow.next) _ _ _;show qa (assignInOrder_cons (wpAny_bindName (Ma I3 hN hj (.inl hy) rw' (λs2 I4=>?_) (.inr hy))));show assignInOrder_cons (wpAny_bindName (Ma I4 hN hi (.inl hx) rv (λs3 I5=>assignInOrder_nil (qb ?_)) (.inr hx)));rw[set_comm _ _ (Ne.symm hij)]at I5;show#[_,H1,I5,q1]
def sS(c:TT)(tb:TS):TS:=λD Z H=>∃W:Nat->St->Hp->Prop,(∃m,W m Z H)/\∀m Z H,W m Z H->
 c Z H λb H1=>if b=true then∃N:St->Hp->Prop,(∀Z' H',N Z' H'->∃v,v<m/\W v Z' H')/\tb {D with nx:=N,ct:=N,bk:=D.nx} Z H1 else D.nx Z H1
def Ss(hp:PassesOwn (model X.prog X.w) X.A X.env X.xe)(hc:PT X c tc)(hb:iO X body tb):PS X (.While c body [] pos) (sS tc tb):=by
 intro zF s Z H D I h;let#[W,#[m0,w0],F]:=h;show wpAny_While (codeAny_whileLoop (λn s'=>∃Z' H',Inv X zF Z' H' s'/\W n Z' H') ?_ m0 #[Z,H,I,w0]);rintro n s1 ⟨B,H1,I1,w1⟩;show wpAny_passesOwn hp (Al (hc zF s1 B H1 _ I1 (F n B H1 w1)) λb s2 zq=>?_);let#[H2,I2,L]:=zq;cases b with
 |true=>
  let#[N,hN,L]:=L;rw[qZ rfl];show wpAny_passesOwn hp (Al (hb zF s2 B H2 _ I2 L) λf s3 J=>?_);cases f with
  |next=>let#[z,G,I3,O]:=J;let#[Y,hm,M]:=hN z G O;show#[Y,hm,z,G,I3,M]
  |cont=>let#[z,G,I3,O]:=J;let#[Y,hm,M]:=hN z G O;show#[Y,hm,z,G,I3,M]
  |brk=>show J
  |ret v=>show J
 |false=>rw[q4 qW];show wpAny_execs_nil #[B,H2,I2,L]
end
structure It where
 go:Nat->Hp->Prop
 yld:Nat->Hp->V->Hp->Prop
 stop:Nat->Hp->Prop
def cW(X:Cx)(zF:List (Addr×Obj))(H:Hp)(b:Addr):Prop:=
 H b=none/\b≠X.env.locals/\b∉X.fs/\(b∈X.ex\/X.s₀.heap.get? b=none)/\(∀x c,X.env.cells.lookup x=some c->c≠b)/\∀p∈X.pn++zF,p.1≠b
def Inv.fpOk(I:Inv X zF Z H s)(B:s.heap.objs.size<=b)(hn:H' b=none):cW X zF H' b:=by
 show#[hn,ne_of_gt (lt_of_lt_of_le I.lt B),I.nofs B,.inr (Heap.get?_none_of_le (le_trans I.sz B)),λx c e z=>?_,λp F z=>?_]
 .obtain⟨v,q⟩:=I.cell x c e;show absurd (lt_of_lt_of_le q.lt (by rw[z];show B)) (lt_irrefl _)
 .show absurd (lt_of_lt_of_le (qe (I.pin p F).1) (by rw[z];show B)) (lt_irrefl _)
structure gY(P:Program)(w:World)(K:W.Frag)(tg:Expr)(J:It)(fp:List Addr)(it:Addr)(tn:Nat->Heap->Prop):Prop where
 mem:it∈fp
 obj:∀i h,tn i h->∀b∈fp,∃o,h.get? b=some o/\∀v,o.data≠.cell v
 keep:∀i h h',tn i h->(∀b∈fp,∀o,h.get? b=some o->h'.get? b=some o)->tn i h'
 item:∀(X:Cx),X.prog=P->X.w=w->X.K=K->X.calm=true->∀(i:Nat)(zF:List (Addr×Obj))(s:Shared)(Z:St)(H:Hp)(E:zi),Inv X zF Z H s->(∀b∈fp,cW X zF H b)->tn i s.heap->J.go i H->
  wpAny (model P w) X.A (pyNext (.ref it)) (λr s1=>∃u,r=some u/\
   wpAny (model P w) X.A (letOwnedTupleGo tg (.ref it) u) (λ_ s2=>∃x H',Inv X zF Z H' s2/\zv x u/\J.yld i H x H'/\tn (i+1) s2.heap/\∀b∈fp,H' b=none) E s1) E s
 done:∀(X:Cx),X.prog=P->X.w=w->X.K=K->X.calm=true->∀(i:Nat)(zF:List (Addr×Obj))(s:Shared)(Z:St)(H:Hp)(E:zi),Inv X zF Z H s->(∀b∈fp,cW X zF H b)->tn i s.heap->J.stop i H->
  wpAny (model P w) X.A (pyNext (.ref it)) (λr s1=>r=none/\Inv X zF Z H s1) E s
 self:∀(A:Around)(i:Nat)(s:Shared)(Q:zi)(E:zi),tn i s.heap->Q (.ref it) s->wpAny (model P w) A (pyIter (.ref it)) Q E s
abbrev TI:=St->Hp->(It->Hp->Prop)->Prop
inductive yW(X:Cx)(zF:List (Addr×Obj))(Z:St)(tg:Expr)(R:It->Hp->Prop)(itv:Value)(s2:Shared):Prop
 |mk (it:Addr) (fp:List Addr) (tn:Nat->Heap->Prop) (J:It) (H':Hp):itv=.ref it->Inv X zF Z H' s2->gY X.prog X.w X.K tg J fp it tn->tn 0 s2.heap->(∀b∈fp,cW X zF H' b)->R J H'->yW X zF Z tg R itv s2
@[inline]def PI(X:Cx)(tg iter:Expr)(z:TI):Prop:=
 ∀(zF:List (Addr×Obj))(s:Shared)(Z:St)(H:Hp)(R:It->Hp->Prop),Inv X zF Z H s->z Z H R->
  wpAny (model X.prog X.w) X.A (eval iter X.env) (λv B=>wpAny (model X.prog X.w) X.A (pyIter v) (yW X zF Z tg R) X.xe B) X.xe s
def Gz(z:s.heap.get? it=some o)(F:o.cls=.type n)(B:o.data=.fields vs)
  (hn:["enumerate","zip","dict_itemiterator","dict_reverseitemiterator","odict_iterator","itertools.zip_longest","itertools.pairwise"].contains n=false)(v:Q () s):wpAny M A (letOwnedTupleGo tg (.ref it) u) Q E s:=by
 unfold letOwnedTupleGo;cases tg<;>first
  |show qb v
  |(cases u<;>first
   |show qb v
   |(show qa (wpAny_load z ?_);rw[F,B];show wpAny M A (if(["enumerate","zip","dict_itemiterator","dict_reverseitemiterator","odict_iterator","itertools.zip_longest","itertools.pairwise"].contains n&&vs[0]?==some (rawInt _))=true then _ else _) Q E s;rw[q4 (by intro h;rw[hn,Bool.false_and]at h;cases h)];show qb v))
def zO(K:W.Frag)(a:Addr):It:=
 #[λi H=>∃xs x,bL K H a xs/\xs[i]?=some x,λi H x H'=>H'=H/\∀xs,bL K H a xs->xs[i]?=some x,λi H=>∃xs,bL K H a xs/\xs.length<=i]
def gz(K:W.Frag)(a:Addr):It:=
 #[λi H=>∃xs x,bK K H a xs/\xs[i]?=some x,λi H x H'=>H'=H/\∀xs,bK K H a xs->xs[i]?=some x,λi H=>∃xs,bK K H a xs/\xs.length<=i]
def ar(lo:Int)(n:Nat):It:=#[λi _=>i<n,λi H x H'=>H'=H/\x=.int (lo+i),λi _=>n<=i]
def Um{P:Program}{w:World}{K:W.Frag}{tg:Expr}(a it:Addr):gY P w K tg (zO K a) [it] it (λi h=>h.IsListIter it a i) where
 mem:=by simp
 obj:=λi h st b hb=>by
  let e:b=it:=↑hb
  subst e;let#[o,e,c,d]:=st;show#[o,e,λv z=>by rw[d]at z;cases z]
 keep:=λi h h' st k=>st.at λo e=>k it (by simp) o e
 item:=by intro X hP hw hK hc i zF s Z H E I hf st hg;subst hP hw hK;let#[xs,x,hq,hx]:=hg;let#[zJ,rv,p,hz]:=I.list hq;let#[u,hu,ru]:=rv.get hx;let#[f0,f1,f2,f3,f4,f5]:=hf it (by simp);show wpAny_pyNext_list_item st p.isList (x:=u) ↑hu λh' st' sb=>?_;let I1:Inv X zF Z H {s with heap:=h'}:=I.turned (t':=s.toks) (λb o hb e=>(sb.2 b hb).trans e) f0 f1 f3 f4 f5;let#[o,e,c,d]:=id st';show#[u,rfl,Gz (s:={s with heap:=h'}) e c d ⋯ #[x,H,I1,ru,#[rfl,λys hy=>by rw[I.list_inj hy hq];show hx],st',λb hb=>(hf b hb).1]]
 done:=by intro X hP hw hK hc i zF s Z H E I hf st hg;subst hP hw hK;let#[xs,hq,hx]:=hg;let#[zJ,rv,p,hz]:=I.list hq;let#[f0,f1,f2,f3,f4,f5]:=hf it (by simp);let hl:=rv.length;show wpAny_pyNext_list_end (I.ok.hd hc) st p.isList (by simp;lia -verbose) λh' eb=>#[rfl,I.turned (t':=s.toks) (λb o hb e=>eb b o hb e) f0 f1 f3 f4 f5]
 self:=λ_ _ _ _ _ st h=>wpAny_pyIter_listiter st h
def Vm{P:Program}{w:World}{K:W.Frag}{tg:Expr}(a it:Addr):gY P w K tg (gz K a) [it] it (λi h=>h.IsTupleIter it a i) where
 mem:=by simp
 obj:=λi h st b hb=>by
  let e:b=it:=↑hb
  subst e;let#[o,e,c,d]:=st;show#[o,e,λv z=>by rw[d]at z;cases z]
 keep:=λi h h' st k=>st.at λo e=>k it (by simp) o e
 item:=by intro X hP hw hK hc i zF s Z H E I hf st hg;subst hP hw hK;let#[xs,x,hq,hx]:=hg;let#[zJ,rv,p,hz]:=I.tuple hq;let#[u,hu,ru]:=rv.get hx;let#[f0,f1,f2,f3,f4,f5]:=hf it (by simp);show wpAny_pyNext_tuple_item st (show s.heap.IsTuple a zJ.toArray from p) (x:=u) ↑hu λh' st' sb=>?_;let I1:Inv X zF Z H {s with heap:=h'}:=I.turned (t':=s.toks) (λb o hb e=>(sb.2 b hb).trans e) f0 f1 f3 f4 f5;let#[o,e,c,d]:=id st';show#[u,rfl,Gz (s:={s with heap:=h'}) e c d ⋯ #[x,H,I1,ru,#[rfl,λys hy=>by rw[I.tuple_inj hy hq];show hx],st',λb hb=>(hf b hb).1]]
 done:=by intro X hP hw hK hc i zF s Z H E I hf st hg;subst hP hw hK;let#[xs,hq,hx]:=hg;let#[zJ,rv,p,hz]:=I.tuple hq;let#[f0,f1,f2,f3,f4,f5]:=hf it (by simp);let hl:=rv.length;show wpAny_pyNext_tuple_end (I.ok.hd hc) st (show s.heap.IsTuple a zJ.toArray from p) (by simp;lia -verbose) λh' eb=>#[rfl,I.turned (t':=s.toks) (λb o hb e=>eb b o hb e) f0 f1 f3 f4 f5]
 self:=λ_ _ _ _ _ st h=>wpAny_pyIter_tupleiter st h
def Vk{P:Program}{w:World}{K:W.Frag}{tg:Expr}(it:Addr)(lo:Int)(n:Nat):gY P w K tg (ar lo n) [it] it (λi h=>IsRangeIter h it (lo+(i:Nat)*1) ((n:Int)-(i:Nat)) 1) where
 mem:=by simp
 obj:=λi h st b hb=>by
  let e:b=it:=↑hb
  subst e;show#[_,st,λv z=>by let z':Data.fields _=Data.cell v:=z;cases z']
 keep:=λi h h' st k=>k it (by simp) _ st
 item:=by intro X hP hw hK hc i zF s Z H E I hf st hg;subst hP hw hK;let#[f0,f1,f2,f3,f4,f5]:=hf it (by simp);let W:=Walks.range (prog:=X.prog) (w:=X.w) (I.ok.hd hc) it lo 1 n;show W.item i s _ _ hg st λv h' tk hv st' kk=>?_;let#[t,rfl]:=hv;let I1:Inv X zF Z H {s with heap:=h',toks:=tk}:=I.turned (λb o hb e=>kk b o ↑hb e) f0 f1 f3 f4 f5;show#[_,rfl,Gz (s:={s with heap:=h',toks:=tk}) (n:="range_iterator") st' rfl rfl ⋯ #[.int (lo+i),H,I1,#[t,?_],#[rfl,rfl],st',λb hb=>(hf b hb).1]];rw[mul_one]
 done:=by intro X hP hw hK hc i zF s Z H E I hf st hg;subst hP hw hK;let#[f0,f1,f2,f3,f4,f5]:=hf it (by simp);show wpAny_pyNext_range_end (I.ok.hd hc) st (by let:n<=i:=hg;lia) λh' eb=>#[rfl,I.turned (t':=s.toks) (λb o hb e=>eb b o hb e) f0 f1 f3 f4 f5]
 self:=λ_ _ _ _ _ st h=>wpAny_pyIter_rangeiter st h
section
variable{X:Cx}{tg:Expr}
def Ta{lo hi:Int}(I:Inv X zF Z H s)(h1:-(2^62)<=lo)(h2:lo<2^62)(G:-(2^62)<=hi)(F:hi<2^62)
  (q:R (ar lo (hi-lo).toNat) H):wpAny (model X.prog X.w) X.A (pyIter (.ref s.heap.objs.size)) (yW X zF Z tg R) E {s with heap:=s.heap.push {cls:=.type "range",data:=.fields [.int lo t,.int hi u,.int 1 v].toArray},toks:=tk}:=by
 refine wpAny_pyIter_range (IsRange.new ..) (small_one h1 h2 G F) ?_;let z:Inv X zF Z H {s with heap:=s.heap.push {cls:=.type "range",data:=.fields [.int lo t,.int hi u,.int 1 v].toArray},toks:=tk}:=I.kept λb o e=>qc _ e;refine⟨(s.heap.push {cls:=.type "range",data:=.fields [.int lo t,.int hi u,.int 1 v].toArray}).objs.size,[(s.heap.push {cls:=.type "range",data:=.fields [.int lo t,.int hi u,.int 1 v].toArray}).objs.size],_,_,H,rfl,
  z.kept (t':=tk) λb o e=>qc _ e,Vk _ lo (hi-lo).toNat,?_,λb B=>?_,q⟩
 .let L:lo+((0:Nat):Int)*1=lo:=by simp
  let J:(((hi-lo).toNat:Nat):Int)-((0:Nat):Int)=Builtin.Range.rangeSize lo hi 1:=by rw[rangeSize_one];split<;>lia
  show IsRangeIter _ _ (lo+((0:Nat):Int)*1) ((((hi-lo).toNat:Nat):Int)-((0:Nat):Int)) 1;rw[L,J];show qd _ rfl
 .let e:b=(s.heap.push {cls:=.type "range",data:=.fields [.int lo t,.int hi u,.int 1 v].toArray}).objs.size:=by simpa using B
  subst e;show z.fpOk (q5 _) (z.hok.fresh (q5 _))
def yA(ta:TA):TI:=λZ H R=>ta Z H λv H1=>∃j:Int,v=[.int j]/\-(2^62)<=j/\j<2^62/\R (ar 0 j.toNat) H1
def UQ(L:Gl X "range")(J:X.mg "range"=none)(M:PA X [a] ta)(hs:starEach [a] X.env=[(false,eval a X.env)]:=by rfl):PI X tg (.Call (.Name "range" p) [a] [] pos) (yA ta):=by
 intro zF s Z H R I h;show Call_ (Gb I L J boot_range (PyProof.Rows.callWith_type1 (Al (M pos zF s Z H _ I h) λus s1 z=>?_) hs rfl));let#[Y,H1,O,F,v]:=z;let#[j,e,v,G,q]:=v;subst e;cases F with
 |cons r B=>cases B;let#[t,rfl]:=r;show call_range_1 (Ta O ∅ ∅ v G ↑q)
def bx(B:TI)(g:TG)(tb:TS):TS:=λD Z H=>B Z H λJ H1=>∃W:Nat->Nat->St->Hp->Prop,(∃m,W 0 m Z H1)/\∀i m Z H,W i m Z H->
 (J.stop i H/\D.nx Z H)\/(J.go i H/\∃N:St->Hp->Prop,(∀Z' H',N Z' H'->∃z,z<m/\W (i+1) z Z' H')/\∀x H',J.yld i H x H'->g x Z H' λv H2=>tb {D with nx:=N,ct:=N,bk:=D.nx} v H2)
def fL(fp:List Addr)(h:Heap):List (Addr×Obj):=fp.filterMap λb=>(h.get? b).map λo=>(b,o)
def Ib(v:b∈fp)(e:h.get? b=some o):(b,o)∈fL fp h:=List.mem_filterMap.mpr #[b,v,by rw[e];rfl]
def TU(v:p∈fL fp h):p.1∈fp/\h.get? p.1=some p.2:=by
 let#[b,z,e]:=List.mem_filterMap.mp v;cases q:h.get? b with
 |none=>rw[q]at e;cases e
 |some o=>grind
def Inv.pinned(I:Inv X zF Z H s)(L:∀b∈fp,cW X zF H b)(J:∀b∈fp,∃o,s.heap.get? b=some o/\∀v,o.data≠.cell v):Inv X (zF++fL fp s.heap) Z H s:=
 I.pins_of λp G=>(qx.mp G).elim (λz=>I.pin p (qi _ z)) λz=>by let#[B,e]:=TU z;let#[Y,O,M,_]:=L p.1 B;let#[o,F,d]:=J p.1 B;rw[e]at F;cases F;show#[e,Y,O,M,d]
def Inv.unpinned(I:Inv X (zF++z) Z H s):Inv X zF Z H s:=I.pins_of λp v=>I.pin p (qi _ (qj _ v))
def PP(hp:PassesOwn (model X.prog X.w) X.A X.env X.xe)(hc:X.calm=true)(hi:PI X tg iter wi)(hg:PG X tg g)(G:iO X body tb)
  (hs:∀x,foldedSetIterable iter X.env x=pure x:=by intro _;rfl):PS X (.For tg iter body [] pos) (bx wi g tb):=by
 intro zF s Z H D I h;show wpAny_For (Al (hi zF s Z H _ I h) λv s1 h1=>Al h1 λe3 s2 h2=>?_) hs;let#[it,fp,tn,J,H2,e,I2,T,h9,f2,W,#[m0,w0],h3]:=h2;subst e
 --what stays true of the iterator's objects through the loop
 let F:∀{H':Hp},(∀b∈fp,H' b=none)->∀b∈fp,cW X zF H' b:=λhn b G=>#[hn b G,(f2 b G).2]
 show codeAny_forLoop_any (λn s'=>∃i Z' H',Inv X zF Z' H' s'/\tn i s'.heap/\(∀b∈fp,H' b=none)/\W i n Z' H') ?_ m0 #[0,Z,H2,I2,h9,λb G=>(f2 b G).1,w0];rintro n s3 ⟨i,B,H3,I3,h6,h7,w3⟩;rcases h3 i n B H3 w3 with⟨h5,qn⟩|⟨go,N,hN,step⟩
 .show wpAny_passesOwn hp (Al (T.done X rfl rfl rfl hc i zF s3 B H3 X.xe I3 (F h7) h6 h5) λr s4⟨hr,I4⟩=>?_);subst hr;show wpAny_execs_nil #[B,H3,I4,qn]
 .show wpAny_passesOwn hp (Al (T.item X rfl rfl rfl hc i zF s3 B H3 X.xe I3 (F h7) h6 go) λr s4 zq=>?_);let#[u,hr,h4]:=zq;subst hr;show wpAny_passesOwn hp (Al h4 λ_ s5 zq=>?_);let#[x,H5,I5,r5,y5,Y,e1]:=zq;let e2:=I5.pinned (F e1) (T.obj _ _ Y);show wpAny_passesOwn hp (Al (hg _ s5 B H5 x u _ e2 r5 (step x H5 y5)) λ_ s6 zq=>?_);let#[h8,H6,I6,q6]:=zq;show wpAny_passesOwn hp (Al (G _ s6 h8 H6 _ I6 q6) λf s7 O=>?_);let again:∀{z:St}{M:Hp},Inv X (zF++fL fp s5.heap) z M s7->N z M->∃m,m<n/\∃i Z' H',Inv X zF Z' H' s7/\tn i s7.heap/\(∀b∈fp,H' b=none)/\W i m Z' H':=λ{z M} L n7=>by let#[m',hm,w7]:=hN z M n7;show#[m',hm,i+1,z,M,L.unpinned,T.keep _ _ _ Y λb G o e=>(L.pin (b,o) (qi _ (qi _ (Ib G e)))).1,λb G=>?_,w7];let#[o,e,d]:=T.obj _ _ Y b G;exact(L.pin (b,o) (qi _ (qi _ (Ib G e)))).2.1
  cases f with
  |next=>let#[z,M,L,n7]:=O;show again L n7
  |cont=>let#[z,M,L,n7]:=O;show again L n7
  |brk=>let#[z,M,L,O]:=O;show#[z,M,L.unpinned,O]
  |ret v=>let#[x7,z,M,L,r7,O]:=O;show#[x7,z,M,L.unpinned,r7,O]
end
abbrev R2:=V->V->Hp->VK->Prop
@[inline]def OpR(X:Cx)(f:Value->Value->Sem Value)(r:R2):Prop:=
 ∀(zF:List (Addr×Obj))(s:Shared)(Z:St)(H:Hp)(x y:V)(v u:Value)(Q:VK),Inv X zF Z H s->zv x v->zv y u->r x y H Q->
  wpAny (model X.prog X.w) X.A (f v u) (EP X zF Z Q) X.xe s
def gv(X:Cx)(f:Value->Sem Value)(r:V->Hp->VK->Prop):Prop:=
 ∀(zF:List (Addr×Obj))(s:Shared)(Z:St)(H:Hp)(x:V)(v:Value)(Q:VK),Inv X zF Z H s->zv x v->r x H Q->
  wpAny (model X.prog X.w) X.A (f v) (EP X zF Z Q) X.xe s
def aR(X:Cx)(f:Value)(r:List V->Hp->VK->Prop):Prop:=
 ∀(zF:List (Addr×Obj))(s:Shared)(Z:St)(H:Hp)(xs:List V)(us:List Value)(Q:VK),Inv X zF Z H s->zC xs us->r xs H Q->
  wpAny (model X.prog X.w) X.A (call f us) (EP X zF Z Q) X.xe s
def gx(X:Cx)(r:V->Hp->(Bool->Hp->Prop)->Prop):Prop:=
 ∀(zF:List (Addr×Obj))(s:Shared)(Z:St)(H:Hp)(x:V)(v:Value)(Q:Bool->Hp->Prop),Inv X zF Z H s->zv x v->r x H Q->
  wpAny (model X.prog X.w) X.A (truthy v) (TP X zF Z Q) X.xe s
def aa(r:R2)(ta tb:TE):TE:=λZ H Q=>ta Z H λx H1=>tb Z H1 λy H2=>r x y H2 Q
def js(r:V->Hp->VK->Prop)(ta:TE):TE:=λZ H Q=>ta Z H λx H1=>r x H1 Q
def rI(C:Int->Int->Prop)(g:Int->Int->V):R2:=λx y H Q=>∃i j,x=.int i/\y=.int j/\C i j/\Q (g i j) H
def tU(g:Int->Int->V):R2:=λx y H Q=>∃i j,x=.int i/\y=.int j/\Q (g i j) H
def rU(g:Int->V):V->Hp->VK->Prop:=λx H Q=>∃i,x=.int i/\Q (g i) H
section
variable{X:Cx}{a b c:Expr}{ta tb tc:TE}{pos:Pos}
def FU(ha:PE X a ta)(hb:PE X b tb){R:V->V->Hp->Prop}(I:Inv X zF Z H s)
  (h:ta Z H λx H1=>tb Z H1 λy H2=>R x y H2){f:Value->Value->Sem Value}
  (hf:∀v u F x y H2,Inv X zF Z H2 F->zv x v->zv y u->R x y H2->wpAny (model X.prog X.w) X.A (f v u) Q X.xe F):
  wpAny (model X.prog X.w) X.A (eval a X.env) (λv B=>wpAny (model X.prog X.w) X.A (eval b X.env) (λu z=>wpAny (model X.prog X.w) X.A (f v u) Q X.xe z) X.xe B) X.xe s:=by
 show Al (ha zF s Z H _ I h) λv J G=>?_;let#[x,H1,I1,M,Y]:=G;show Al (hb zF J Z H1 _ I1 Y) λu F G=>?_;let#[y,H2,I2,L,O]:=G;show hf v u F x y H2 I2 M L O
def Ol(J:OpR X (binaryOp G) r)(M:PE X a ta)(L:PE X b tb):PE X (.BinOp a G b pos) (aa r ta tb):=by intro zF s Z H Q I h;show wpAny_BinOp (FU M L I h λv u z x y H2 O F B q=>J zF z Z H2 x y v u Q O F B q)
def Oi(J:gv X (unaryOp G) r)(L:PE X a ta):PE X (.UnaryOp G a pos) (js r ta):=by intro zF s Z H Q I h;show UnaryOp_ (Al (L zF s Z H _ I h) λv z⟨x,H1,M,B,F⟩=>J zF z Z H1 x v Q M B F)
def Hi{g:Int->Int->Int}
  (rule:∀(i j:Int)(t u:Tok)(s:Shared)(Q:zi)(E:zi),C i j->Q (.int (g i j) s.toks) {s with toks:=s.toks+1}->wpAny (model X.prog X.w) X.A (f (.int i t) (.int j u)) Q E s):
  OpR X f (rI C λi j=>.int (g i j)):=by
 intro zF s Z H x y v u Q I F B h;let#[i,j,rfl,rfl,G,q]:=h;let#[t,rfl]:=F;let#[z,rfl]:=B;show rule i j t z s _ _ G #[.int (g i j),H,I.tok _,#[_,rfl],q]
def JP{g:Int->Int->Int}
  (rule:∀(i j:Int)(t u:Tok)(s:Shared)(Q:zi)(E:zi),Q (.int (g i j) s.toks) {s with toks:=s.toks+1}->wpAny (model X.prog X.w) X.A (f (.int i t) (.int j u)) Q E s):
  OpR X f (tU λi j=>.int (g i j)):=by
 intro zF s Z H x y v u Q I F B h;let#[i,j,rfl,rfl,q]:=h;let#[t,rfl]:=F;let#[z,rfl]:=B;show rule i j t z s _ _ #[.int (g i j),H,I.tok _,#[_,rfl],q]
def FD{g:Int->Int->Bool}
  (rule:∀(i j:Int)(t u:Tok)(s:Shared)(Q:zi)(E:zi),Q (.bool (g i j)) s->wpAny (model X.prog X.w) X.A (f (.int i t) (.int j u)) Q E s):
  OpR X f (tU λi j=>.bl (g i j)):=by
 intro zF s Z H x y v u Q I F B h;let#[i,j,rfl,rfl,q]:=h;let#[t,rfl]:=F;let#[z,rfl]:=B;show rule i j t z s _ _ #[.bl (g i j),H,I,rfl,q]
def zU(i j:Int):Prop:=0<=j/\j<=1000000/\i.natAbs<2^64
def nA(i j:Int):Prop:=(-(2^64)<i/\i<2^64)\/(-(2^64)<j/\j<2^64)
def nA.ok(h:nA i j):IntMulOk i j:=by
 rcases h with⟨h1,h2⟩|⟨h1,h2⟩
 .show .of_left (intBits_le_64 h1 h2)
 .show .of_right (intBits_le_64 h1 h2)
def OA:OpR X (binaryOp .Add) (tU λi j=>.int (i+j)):=JP λ_ _ _ _ _ _ _ q=>add_int q
def OJ:OpR X (binaryOp .Mult) (rI nA λi j=>.int (i*j)):=Hi λ_ _ _ _ _ _ _ v q=>mul_int q v.ok
def Ov:OpR X (binaryOp .Mod) (rI (λ_ j=>0<j) λi j=>.int (i %j)):=Hi λi j _ _ _ _ _ v q=>by let h1:(0:Int)<j:=v;show mod_int' ∅ (by rw[Int.fmod_eq_emod_of_nonneg i ∅];show q)
def OY:OpR X (binaryOp .Pow) (rI zU λi j=>.int (i^j.toNat)):=Hi λ_ _ _ _ _ _ _ v q=>pow_int_small v.1 v.2.1 v.2.2 q
theorem zW{g:Int->Int}
  (rule:∀(i:Int)(t:Tok)(s:Shared)(Q:zi)(E:zi),Q (.int (g i) s.toks) {s with toks:=s.toks+1}->wpAny (model X.prog X.w) X.A (f (.int i t)) Q E s):
  gv X f (rU λi=>.int (g i)):=by
 intro zF s Z H x v Q I z h;let#[i,rfl,q]:=h;let#[t,rfl]:=z;show rule i t s _ _ #[.int (g i),H,I.tok _,#[_,rfl],q]
def OH:gv X (unaryOp .USub) (rU λi=>.int (-i)):=zW λ_ _ _ _ _ q=>neg_int q
end
def xA:V->V->Bool
 |.non,.non=>true|.non,.int _=>true|.int _,.non=>true|.non,.bl _=>true|.bl _,.non=>true|.non,.str _=>true|.str _,.non=>true
 |.int _,.int _=>true|.bl _,.bl _=>true|.str _,.str _=>true|.byt _,.byt _=>true
 |.int _,.str _=>true|.str _,.int _=>true|.bl _,.str _=>true|.str _,.bl _=>true
 |_,_=>false
def jw:R2:=λx y H Q=>xA x y=true/\Q (.bl (!decide (x=y))) H
def QK:decide (V.int i=V.int j)=(i==j):=by rw[Bool.eq_iff_iff];simp
def OP:decide (V.bl i=V.bl j)=(i==j):=by rw[Bool.eq_iff_iff];simp
def QO:decide (V.str i=V.str j)=(i==j):=by rw[Bool.eq_iff_iff];simp
def QY:decide (V.byt i=V.byt j)=(i.toList==j.toList):=by rw[Bool.eq_iff_iff];cases i;cases j;simp
section
variable{X:Cx}{a b c:Expr}{ta tb tc:TE}{pos:Pos}
def CA(I:Inv X zF Z H s)(q:Q (.bl k) H)(e:k=v):EP X zF Z Q (.bool v) s:=by subst e;show#[.bl k,H,I,rfl,q]
def Om:OpR X (compareOp .NotEq) jw:=by
 intro zF s Z H x y v u Q I G z h;let#[F,q]:=h;cases x with
 |non=>
  cases G;cases y with
  |non=>cases z;show PySem.EqNone.ne_none_none (CA I q (by simp))
  |bl j=>cases z;show PySem.EqNone.ne_none_bool (CA I q (by simp))
  |int j=>let#[B,rfl]:=z;show PySem.EqNone.ne_none_int (CA I q (by simp))
  |str j=>let#[B,rfl]:=z;show PySem.EqNone.ne_none_str (CA I q (by simp))
  |_=>show absurd (show false=true from F) qW
 |bl i=>
  cases G;cases y with
  |non=>cases z;show PySem.EqNone.ne_bool_none (CA I q (by simp))
  |bl j=>cases z;show ne_bool (CA I q (congrArg not OP))
  |str j=>let#[B,rfl]:=z;show PySem.EqMixed.ne_bool_str (CA I q (by simp))
  |_=>show absurd (show false=true from F) qW
 |int i=>
  let#[t,rfl]:=G;cases y with
  |non=>cases z;show PySem.EqNone.ne_int_none (CA I q (by simp))
  |int j=>let#[B,rfl]:=z;show ne_int (CA I q (congrArg not QK))
  |str j=>let#[B,rfl]:=z;show PySem.EqMixed.ne_int_str (CA I q (by simp))
  |_=>show absurd (show false=true from F) qW
 |str i=>
  let#[t,rfl]:=G;cases y with
  |non=>cases z;show PySem.EqNone.ne_str_none (CA I q (by simp))
  |bl j=>cases z;show PySem.EqMixed.ne_str_bool (CA I q (by simp))
  |int j=>let#[B,rfl]:=z;show PySem.EqMixed.ne_str_int (CA I q (by simp))
  |str j=>let#[B,rfl]:=z;show ne_str (CA I q (congrArg not QO))
  |_=>show absurd (show false=true from F) qW
 |byt i=>
  let#[t,rfl]:=G;cases y with
  |byt j=>let#[B,rfl]:=z;show W.ne_bytes (CA I q (congrArg not QY))
  |_=>show absurd (show false=true from F) qW
 |_=>cases y<;>show absurd (show false=true from F) qW
def Oj:OpR X (compareOp .Lt) (tU λi j=>.bl (decide (i<j))):=FD λ_ _ _ _ _ _ _ q=>lt_int q
def NZ:OpR X (compareOp .Gt) (tU λi j=>.bl (decide (j<i))):=FD λ_ _ _ _ _ _ _ q=>gt_int q
def Og:OpR X (compareOp .GtE) (tU λi j=>.bl (decide (j<=i))):=FD λ_ _ _ _ _ _ _ q=>ge_int q
def RK:OpR X (compareOp .IsNot) (λx y H Q=>y=.non/\Q (.bl (!decide (x=.non))) H):=by
 intro zF s Z H x y v u Q I z B h;let#[rfl,q]:=h;cases B;show isnot_none_gen (CA I q ?_);cases x<;>first
  |(cases z;rfl)
  |(let#[t,rfl]:=z;rfl)
def Ae(b:Expr)(h:v≠.In:=by decide)(h2:v≠.NotIn:=by decide):behindInMarks v b=false:=Eb b h h2
def Pw(J:OpR X (compareOp z) r)(O:PE X a ta)(M:PE X b tb)(L:behindInMarks z b=false):PE X (.Compare a [z] [b] pos) (aa r ta tb):=by intro zF s Z H Q I h;show wpAny_Compare1 (FU O M I h λv u B x y H2 Y G F q=>J zF B Z H2 x y v u Q Y G F q) L
def wO(t:TE):TT:=λZ H Q=>t Z H λx H'=>∃k,x=.bl k/\Q k H'
def Qr(ho:OpR X (compareOp B) r)(ha:PE X a ta)(hb:PE X b tb)(hm:behindInMarks B b=false):PT X (.Compare a [B] [b] pos) (wO (aa r ta tb)):=by
 intro zF s Z H Q I h;show wpAny_isTrue_Compare1 (Al (ha zF s Z H _ I h) λv G⟨x,H1,I1,M,q1⟩=>Al (hb zF G Z H1 _ I1 q1) λu F⟨y,H2,I2,L,Y⟩=>Al (ho zF F Z H2 x y v u _ I2 M L Y) λc s3⟨z,H3,I3,J,k,e,O⟩=>?_) hm
 subst e;cases J;show wpAny_truthy_bool #[H3,I3,O]
def vP(K:W.Frag)(x:V)(H:Hp)(k:Bool):Prop:=
 match x with
 |.non=>k=false
 |.bl b=>k=b
 |.int i=>k=(i !=0)
 |.str y=>y.length<=sizeLine/\k=((y.length:Int) !=0)
 |.byt y=>y.size<=sizeLine/\k=((y.size:Int) !=0)
 |.ref p=>(∃xs,bL K H p xs/\k=!xs.isEmpty)\/(∃xs,bK K H p xs/\k=!xs.isEmpty)\/∃zG,H p=some (.dK zG)/\k=!zG.isEmpty
 |_=>False
def Vd(r:KV zG vs):(!vs.isEmpty)=!zG.isEmpty:=by cases r<;>rfl
def NJ(r:zC xs v):(!v.toArray.isEmpty)=!xs.isEmpty:=by cases r<;>simp
def AR:(sizeLine:Nat)<2^63:=by rw[ze];decide
def Pi:gx X (λx H Q=>∃k,vP X.K x H k/\Q k H):=by
 intro zF s Z H x v Q I F h;let#[k,e,q]:=h;let hl:=AR;let hs:sizeLine=16777216:=ze;cases x with
 |non=>cases F;let z:k=false:=e;subst z;show truthy_none #[H,I,q]
 |bl b=>cases F;let z:k=b:=e;subst z;show wpAny_truthy_bool #[H,I,q]
 |int i=>let#[t,rfl]:=F;let z:k=(i !=0):=e;subst z;show PySem.P.truthy_int #[H,I,q]
 |str y=>let#[t,rfl]:=F;obtain⟨O,z⟩:y.length<=sizeLine/\k=((y.length:Int) !=0):=e;subst z;show PySem.P.truthy_str ∅ #[H,I.tok _,q]
 |byt y=>let#[t,rfl]:=F;obtain⟨O,z⟩:y.size<=sizeLine/\k=((y.size:Int) !=0):=e;subst z;show W.truthy_bytes ∅ #[H,I.tok _,q]
 |ref p=>
  cases F;let z:(∃xs,bL X.K H p xs/\k=!xs.isEmpty)\/(∃xs,bK X.K H p xs/\k=!xs.isEmpty)\/∃zG,H p=some (.dK zG)/\k=!zG.isEmpty:=e;rcases z with⟨xs,G,z⟩|⟨xs,G,z⟩|⟨zG,G,z⟩
  .subst z;let#[L,r,J,M]:=I.list G;let B:=r.length;show wpAny_truthy_list J.isList (by simp only[qr];lia) #[H,I.tok _,by rw[NJ r];show q]
  .subst z;let#[L,r,J,M]:=I.tuple G;let B:=r.length;show truthy_tuple J (by simp only[qr];lia) #[H,I.tok _,by rw[NJ r];show q]
  .subst z;obtain⟨M,Y,vs,r,m⟩:zG.length<=sizeLine/\(p==sysModules)=false/\∃vs,KV zG vs/\s.heap.DictOf (aF X.prog X.w) p vs:=I.hok p _ G;let B:zG.length=vs.length:=Paired.length r;show wpAny_truthy_dict Y m ∅ #[H,I.tok _,by rw[Vd r];show q]
 |_=>show(show False from e).elim
def Rv(ha:PE X a ta)(he:∀whole,isTrue a X.env whole=(do let v<-whole;standAt a.pos;holding [v] (truthy v))):
  PT X a (λZ H Q=>ta Z H λx H'=>∃k,vP X.K x H' k/\Q k H'):=by
 intro zF s Z H Q I h;show isTrue_plain (Al (ha zF s Z H _ I h) λv s1⟨x,H1,I1,r1,q1⟩=>Pi zF s1 Z H1 x v Q I1 r1 q1) (he _)
def US:OpR X (binaryOp .Add) (λx y H Q=>∃i j,x=.str i/\y=.str j/\i.length+j.length<=sizeLine/\Q (.str (i++j)) H):=by intro zF s Z H x y v u Q I F B h;let#[i,j,rfl,rfl,G,q]:=h;let#[t,rfl]:=F;let#[z,rfl]:=B;show add_str (λz tk=>#[.str (i++j),H,I.tok _,#[_,rfl],q]) G
theorem vals1(r:zC [x] us):∃u,us=[u]/\zv x u:=by
 cases r with
 |cons z v=>cases v;show#[_,rfl,z]
def UB:aR X (.type "int") (λxs H Q=>(∃i,xs=[.int i]/\Q (.int i) H)\/∃k,xs=[.bl k]/\Q (.int (if k then 1 else 0)) H):=by
 intro zF s Z H xs z Q I r h;rcases h with⟨i,rfl,q⟩|⟨k,rfl,q⟩
 .obtain⟨u,rfl,t,rfl⟩:=vals1 r;show call_int_int #[.int i,H,I,#[_,rfl],q]
 .obtain⟨u,rfl,v⟩:=vals1 r;cases v;show call_int_bool #[.int (if k then 1 else 0),H,I.tok _,#[_,rfl],q]
end
def eJ.some_of(r:eJ (some v) o):∃u,o=some u/\zv v u:=by
 cases o with
 |none=>show(show False from r).elim
 |some u=>show#[u,rfl,r]
def eJ.none_of(r:eJ none o):o=none:=by
 cases o with
 |none=>rfl
 |some u=>show(show False from r).elim
structure bR(k:Nat)(A:Around):Prop where
 hd:A.handled=none
 dp:A.depth+3*k+5<recursionLimit
 un:A.units+16*k+200<cLine
 gd:A.guards=some []
def bR.mono(r:bR k A)(h:j<=k):bR j A:=#[r.hd,by let:=r.dp;lia,by let:=r.un;lia,r.gd]
def bR.deeper(r:bR (k+1) A)(env:Env):bR k (A.deeper env):=
 #[r.hd,by let:=r.dp;show A.depth+1+3*k+5<_;lia,by let:=r.un;show A.units+3+16*k+200<_;lia,r.gd]
def bR.depth(r:bR k A):A.depth<recursionLimit:=by let:=r.dp;lia
def bR.units(r:bR k A):A.units+64<cLine:=by let:=r.un;lia
def br:TA:=λ_ H Q=>Q [] H
def wZ(ta:TE)(v:TA):TA:=λZ H Q=>ta Z H λx H1=>v Z H1 λxs H2=>Q (x::xs) H2
section
variable{X:Cx}{e:Expr}{es:List Expr}{te:TE}{t:TA}{pos:Pos}
def KI:PA X [] br:=λ_ _ _ _ H Q I h=>Calls.spliced_nil #[[],H,I,.nil,h]
def Lv(M:PE X e te)(L:PA X es t)(hs:starEach (e::es) X.env=(false,eval e X.env)::starEach es X.env:=by rfl):PA X (e::es) (wZ te t):=by intro pos zF s Z H Q I h;rw[hs];show wpAny _ _ (spliced ((false,eval e X.env)::backTo pos (starEach es X.env))) _ _ s;show Calls.spliced_cons (Al (M zF s Z H _ I h) λu z v=>?_);let#[x,H1,Y,F,J]:=v;show Al (L pos zF z Z H1 _ Y J) λus s2⟨xs,H2,O,B,G⟩=>#[x::xs,H2,O,.cons F B,G]
def bh(t:TA):TE:=λZ H Q=>t Z H λxs H1=>xs.length<=sizeLine/\∀p,H1 p=none->Q (.ref p) (upd H1 p (.tup xs))
def bu(t:TA):TE:=λZ H Q=>t Z H λxs H1=>xs.length<=sizeLine/\∀p,H1 p=none->Q (.ref p) (upd H1 p (.lst xs))
def PZ(h:PA X es t):PE X (.Tuple es L pos) (bh t):=by intro zF s Z H Q I G;show wpAny_Tuple_spliced (Al (h pos zF s Z H _ I G) λF v⟨xs,H1,B,r,z,q⟩=>#[by rw[<-r.length];show z,?_]);let J:H1 v.heap.objs.size=none:=B.hok.fresh (q5 _);show#[.ref v.heap.objs.size,upd H1 v.heap.objs.size (.tup xs),B.laid (t':=v.toks) (λb u e=>qc _ e) (q5 _) ?_,rfl,q _ J];show#[#[z,jJ.new rfl (qd _ rfl)],F,r,#[_,qd _ rfl,rfl,_,rfl]]
def Pj(h:PA X es t):PE X (.List es pos) (bu t):=by intro zF s Z H Q I G;show wpAny_List_spliced (Al (h pos zF s Z H _ I G) λF v⟨xs,H1,B,r,z,q⟩=>#[by rw[<-r.length];show z,?_]);let J:H1 v.heap.objs.size=none:=B.hok.fresh (q5 _);show#[.ref v.heap.objs.size,upd H1 v.heap.objs.size (.lst xs),B.laid (t':=v.toks) (λb u e=>qc _ e) (q5 _) ?_,rfl,q _ J];show#[z,F,0,r,qd _ rfl]
end
abbrev Sp:=List V->Hp->VK->XK->Prop
abbrev zT:=List Env->Hp->Shared->XK->Value->Shared->Prop
structure pZ(P:Program)(w:World)(K:W.Frag)(mg:Str->Option Value)(base:Heap)(A:Around)(outer:List Env)(s:Shared)(H:Hp):Prop where
 frames:A.frames=some outer
 mod:Mod K mg base
 bs:∀b o,base.get? b=some o->s.heap.get? b=some o/\H b=none
 bsz:base.objs.size<=s.heap.objs.size
 funs:s.heap.FunFrames base outer
 frf:∀b∈mN outer,H b=none
 hok:dY P w H s.heap
 bare:AllBare s.gens
@[inline]def CE(z:List Env)(P:Program)(w:World)(H:Hp)(s:Shared)(Q:VK)(u:Value)(s':Shared):Prop:=
 ∃v H',s'.os=s.os/\AllBare s'.gens/\Un (mN z) [] H H' s.heap s'.heap/\dY P w H' s'.heap/\zv v u/\Q v H'
@[inline]def CR(CX:zT)(v:List Env)(P:Program)(w:World)(H:Hp)(s:Shared)(Q:VK)(E:XK)(r:Result)(s':Shared):Prop:=
 match r with
 |.ok (.ret u)=>CE v P w H s Q u s'
 |.ok _=>False
 |.error e=>CX v H s E e s'
structure eY(P:Program)(w:World)(K:W.Frag)(mg:Str->Option Value)(base:Heap)(CX:zT)(k:Nat)(f:Addr)(fd:FuncData)(ps:List Str)(sp:Sp):Prop where
 len:∀vs H Q E,sp vs H Q E->vs.length=ps.length
 run:∀(A:Around)(outer:List Env)(s:Shared)(H:Hp)(args:Args)(us:List Value)(vs:List V)(Q:VK)(E:XK),bR k A->pZ P w K mg base A outer s H->BindsTo s fd args (ps.zip us)->zC vs us->sp vs H Q E->
  codeAny (model P w) A (.call (.ref f) args) (CR CX outer P w H s Q E) s
section
variable{X:Cx}{zF:List (Addr×Obj)}{Z:St}{H:Hp}{s s':Shared}
def Inv.env0(I:Inv X zF Z H s):pZ X.prog X.w X.K X.mg X.base X.A X.stack s H:=
 #[I.ok.frames,I.ok.mod,I.bs,le_trans I.ok.bsz I.sz,I.stack,I.stkFree,I.hok,I.bare]
def Inv.after(I:Inv X zF Z H s)(h:CE X.stack X.prog X.w H s Q u s'):EP X zF Z Q u s':=by let#[v,H',os,bare,un,F,r,q]:=h;let#[G,g,d,t,B]:=s';obtain rfl:B=s.os:=os;show#[v,H',I.call (h':=G) (g':=g) (d':=d) (t':=t) (ch:=[]) un F bare (λb z=>absurd z (by simp)),r,q]
end
@[inline]def Binds(K:W.Frag)(fd:FuncData)(ps:List Str)(ds:List Value):Prop:=
 ∀(s:Shared)(us:List Value),K.In s.heap->(us++ds).length=ps.length->BindsTo s fd #[us,[]] (ps.zip (us++ds))
def Binds.all{K:W.Frag}(h:∀us:List Value,us.length=ps.length->bindArgs fd #[us,[]]=pure (ps.zip us)):Binds K fd ps []:=λs us _ v=>by rw[qz]at v⊢;show .of_eq (h us v)
structure aH(N P:List Str)(sc:Scope):Prop where
 kind:sc.kind=.function
 co:sc.isCoroutine=false
 gen:sc.isGenerator=false
 nd:N.Nodup
 pre:N.take P.length=P
 par:∀x∈P,sc.names.lookup x=some .local\/sc.names.lookup x=some .cell
 nofree:∀y∈sc.names,y.2≠.free
def Nb{kindOf:Str->Option NameKind}:∀{binds:List (Str×Value)}{m:Str->Option Value},(∀v,(x,v)∉binds)->bindL kindOf binds m x=m x
 |[],_,_=>rfl
 |(n,v)::r,m,h=>by
  unfold bindL;rw[Nb λw z=>h w (qk _ z)];split
  .let:x≠n:=by rintro rfl;exact h v qm
   simp[this]
  .rfl
def MK{kindOf:Str->Option NameKind}:∀{binds:List (Str×Value)}{m:Str->Option Value},(∀v,(x,v)∉binds)->bindC kindOf binds m x=m x
 |[],_,_=>rfl
 |(n,v)::r,m,h=>by
  unfold bindC;rw[MK λw z=>h w (qk _ z)];split
  .rfl
  .let:x≠n:=by rintro rfl;exact h v qm
   simp[this]
def MZ{kindOf:Str->Option NameKind}:∀{P:List Str}{vs:List Value}{i:Nat}{m:Str->Option Value},P.Nodup->P[i]?=some x->vs[i]?=some v->kindOf x=some .local->
  bindL kindOf (P.zip vs) m x=some v
 |[],_,_,_,_,h,_,_=>by simp at h
 |_::_,[],_,_,_,_,h,_=>by simp at h
 |p::P,w::vs,0,m,nd,h1,h2,hk=>by simp at h1 h2;subst h1;subst h2;show bindL kindOf ((p,w)::P.zip vs) m p=_;unfold bindL;rw[Nb λv z=>(qK.mp nd).1 (of_mem_zip z).1,qZ hk];simp
 |p::P,w::vs,i+1,m,nd,h1,h2,hk=>by show bindL kindOf ((p,w)::P.zip vs) m x=_;unfold bindL;show MZ (i:=i) (qK.mp nd).2 ↑h1 ↑h2 hk
def Nj{kindOf:Str->Option NameKind}:∀{P:List Str}{vs:List Value}{i:Nat}{m:Str->Option Value},P.Nodup->P[i]?=some x->vs[i]?=some v->kindOf x≠some .local->
  bindC kindOf (P.zip vs) m x=some v
 |[],_,_,_,_,h,_,_=>by simp at h
 |_::_,[],_,_,_,_,h,_=>by simp at h
 |p::P,w::vs,0,m,nd,h1,h2,hk=>by simp at h1 h2;subst h1;subst h2;show bindC kindOf ((p,w)::P.zip vs) m p=_;unfold bindC;rw[MK λv z=>(qK.mp nd).1 (of_mem_zip z).1,q4 hk];simp
 |p::P,w::vs,i+1,m,nd,h1,h2,hk=>by show bindC kindOf ((p,w)::P.zip vs) m x=_;unfold bindC;show Nj (i:=i) (qK.mp nd).2 ↑h1 ↑h2 hk
def start(N:List Str)(vs:List V):St:=vs.map some++List.replicate (N.length-vs.length) none
def eW(CX:zT)(P:Program)(w:World)(K:W.Frag)(mg:Str->Option Value)(base:Heap)(N:List Str)(qual:Str)(scope:Scope)(f:Addr)(cd:Value)(A:Around)(outer:List Env)(s:Shared)(H:Hp)(E:XK):Cx where
 prog:=P
 w:=w
 K:=K
 mg:=mg
 base:=base
 A:=A.deeper (envOfC qual scope s.heap.objs.size f cd)
 N:=N
 s₀:=s
 H₀:=H
 env:=envOfC qual scope s.heap.objs.size f cd
 outer:=outer
 stack:=envOfC qual scope s.heap.objs.size f cd::outer
 ex:=[]
 calm:=true
 fn:=λ_=>true
 pn:=[]
 xe:=λe s'=>wpAny (model P w) (A.deeper (envOfC qual scope s.heap.objs.size f cd)) (leaving (envOfC qual scope s.heap.objs.size f cd) e) (λ_ s''=>CX outer H s E e s'') (λe' s''=>CX outer H s E e' s'') s'
def Mz{v:Scope}(h:v.names.lookup x=some .cell):∃c,(cellsFrom n v.names []).lookup x=some c:=by let q:=W.cellsFrom_some v.names n [] (.inl h);show isSome_iff_exists.mp q
def TN{K:W.Frag}
  (S:aH N ps scope)(hd:A.handled=none)(B:pZ P w K mg base A outer s H)(hl:vs.length=ps.length)(r:zC vs us)
  (x:InCallC s s.heap.objs.size (bindL (envOfC qual scope s.heap.objs.size f M).kindOf (ps.zip us) λ_=>none) (cellsFrom (s.heap.objs.size+1) scope.names []) (bindC (envOfC qual scope s.heap.objs.size f M).kindOf (ps.zip us) λ_=>none) s1):
  Inv (eW CX P w K mg base N qual scope f M A outer s H E) [] (start N vs) H s1:=by
 let h4:ps.length<=N.length:=by let:=congrArg List.length S.pre;rw[qG]at this;lia
 obtain⟨h1,tk,rfl,Y⟩:=x.done;let F:∀b:Addr,b∉(eW CX P w K mg base N qual scope f M A outer s H E).ex:=λb z=>absurd (show b∈([]:List Addr) from z) (by simp);refine⟨#[B.mod,S.kind,rfl,rfl,q5 _,λy z c h1 h2=>?_,λy G=>?_,λy c _ h=>?_,λ_=>hd,Around.frames_deeper B.frames,.inr #[rfl,rfl],λb z=>absurd z (F b),B.bs,B.bsz,λb _ _=>F b,λb z=>absurd z (F b),B.funs,B.frf],
  rfl,B.bare,Un.kept Y,#[_,x.toInCall.ns,λi y v h1 h2 h3=>?_],λy c h=>#[_,x.cell y c h],B.hok.fresh (q5 _),λy c h=>?_,λp L=>absurd (show p∈([]:List (Addr×Obj)) from L) (by simp),B.hok.kept Y,?_⟩
 .show name_of_addr x.apart (PySem.mem_of_lookup h1) (PySem.mem_of_lookup h2)
 .let G:scope.names.lookup y=some .cell\/scope.names.lookup y=some .free:=G;rcases G with G|G
  .show Mz G
  .show absurd rfl (S.nofree _ (PySem.mem_of_lookup G))
 .show le_of_lt (x.above y c (PySem.mem_of_lookup h))
 .have hi:i<vs.length:=by
   unfold start at h2;by_cases hi:i<vs.length
   .show hi
   .rw[getElem?_append_right ↑hi]at h2;rw[List.getElem?_replicate]at h2;split at h2<;>cases h2
  have ha:vs[i]?=some v:=by
   unfold start at h2;rw[getElem?_append_left ↑hi,qE]at h2;cases e:vs[i]? with
   |none=>rw[e]at h2;cases h2
   |some a=>rw[e]at h2;cases h2;rfl
  let#[u,O,rv]:=r.get ha;let L:ps[i]?=some y:=by rw[<-S.pre,List.getElem?_take_of_lt ∅];show h1
  let J:ps.Nodup:=by rw[<-S.pre];show S.nd.sublist (List.take_sublist _ _)
  show#[u,rv,?_];rcases S.par y (qL L)with k|k
  .show .inl #[k,MZ J L O k]
  .obtain⟨c,e⟩:=Mz (n:=s.heap.objs.size+1) k;show .inr #[.inl k,c,e,?_];let q:=x.cell y c e;rw[Nj J L O (by show scope.names.lookup y≠_;rw[k];decide)]at q;show q
 .show B.hok.fresh (le_of_lt (x.above y c (PySem.mem_of_lookup h)))
 .unfold start;show _=N.length;rw[qq,qo,List.length_replicate];lia
def Ob{K:W.Frag}{dV kV h1 pm B ct oc:Value}(lk:K.lookup f=some #[oc,od,.func (W.fnOf name qual params body scope dV kV h1 pm an B ct),h4])(h3:W.codeIn K B qual=true)(S:aH N ps scope)
  (len:∀vs H Q E,sp vs H Q E->vs.length=ps.length)
  (G:∀(A:Around)(z:List Env)(s:Shared)(H:Hp)(vs:List V)(Q:VK)(E:XK),bR k (A.deeper (envOfC qual scope s.heap.objs.size f B))->sp vs H Q E->
   ∃t,iO (eW CX P w K mg base N qual scope f B A z s H E) body t/\t {nx:=λ_ H'=>Q .non H',rt:=Q} (start N vs) H):
  eY P w K mg base CX (k+1) f (W.fnOf name qual params body scope dV kV h1 pm an B ct) ps sp:=by
 refine#[len,λA z s H args us vs Q E hr Y hb r M=>?_];let hl:=len _ _ _ _ M;let KX:K.In s.heap:=Y.mod.kin.keeps λb o e=>(Y.bs b o e).1;let h2:s.heap.NoLimit:=Y.mod.nolimit.keeps λb o e=>(Y.bs b o e).1;let F:∀y∈ps.zip us,scope.names.lookup y.1=some .local\/(scope.names.lookup y.1=some .cell/\((cellsFrom (s.heap.objs.size+1) scope.names []).lookup y.1).isSome=true):=λ⟨n,v⟩ hy=>by
  rcases S.par n (of_mem_zip hy).1 with q|q
  .show .inl q
  .show .inr #[q,W.cellsFrom_some _ _ _ (.inl q)]
 refine codeAny_call_function hr.depth (KX _ _ lk) rfl S.co S.gen rfl (W.codeRec_of KX h3) (hb _ _ _ _ ?_);show wpAny_newFunctionEnv_cells S.kind F λh5 he s1 x=>?_;subst he;show#[h2.keeps x.toInCall.keep,codeAny_func ?_];let#[t,ht,hq]:=G A z s H vs Q E (hr.deeper _) M;let I:Inv (eW CX P w K mg base N qual scope f B A z s H E) [] (start N vs) H s1:=TN S hr.hd Y hl r x;show zh (ht [] s1 (start N vs) H _ I hq) (λfl s' L=>?_) λe s' L=>L;let O:∀{Z':St}{H':Hp}{v:V}{u:Value},Inv (eW CX P w K mg base N qual scope f B A z s H E) [] Z' H' s'->zv v u->Q v H'->CE z P w H s Q u s':=
  λ{Z' H' v u} J rv q=>#[v,H',J.os,J.bare,J.base,J.hok,rv,q]
 cases fl with
 |ret u=>let#[v,Z',H',J,rv,q]:=L;show O J rv q
 |next=>let#[Z',H',J,q]:=L;show O (v:=V.non) (u:=Value.none) J rfl q
 |brk=>let#[_,_,_,q]:=L;show False.elim q
 |cont=>let#[_,_,_,q]:=L;show False.elim q
section
variable{X:Cx}{x:Str}{p pos:Pos}{e:Expr}{es:List Expr}{t:TA}{id T:String}{r:List V->Hp->VK->Prop}
def bz(r:List V->Hp->VK->Prop)(t:TA):TE:=λZ H Q=>t Z H λv H1=>r v H1 Q
def Rr(hc:aR X (.builtin id) r)(Y:Gl X x)(O:X.mg x=none)(M:bootBuiltins x=some (.builtin id))(ha:PA X (e::es) t)(hn:x≠"__name__":=by decide)(z:(x==("__debug__":Str))=false:=by decide)
  (he:starEach (e::es) X.env=(false,eval e X.env)::starEach es X.env:=by rfl)(v:(backTo pos (starEach es X.env)).any (·.1)=false:=by rfl):PE X (.Call (.Name x p) (e::es) [] pos) (bz r t):=by
 intro zF s Z H Q I h;show wpAny_Call_Name_kw (Gb I Y O M ?_ hn z);show PyProof.Rows.callWith_builtin1 (Al (ha pos zF s Z H _ I h) λF G⟨B,H1,I1,J,L⟩=>hc zF G Z H1 B F Q I1 J L) he v
def Nk(hc:aR X (.type T) r)(Y:Gl X x)(O:X.mg x=none)(M:bootBuiltins x=some (.type T))(ha:PA X (e::es) t)(hn:x≠"__name__":=by decide)(z:(x==("__debug__":Str))=false:=by decide)
  (he:starEach (e::es) X.env=(false,eval e X.env)::starEach es X.env:=by rfl)(v:(backTo pos (starEach es X.env)).any (·.1)=false:=by rfl):PE X (.Call (.Name x p) (e::es) [] pos) (bz r t):=by
 intro zF s Z H Q I h;show wpAny_Call_Name_kw (Gb I Y O M ?_ hn z);show PyProof.Rows.callWith_type1 (Al (ha pos zF s Z H _ I h) λF G⟨B,H1,I1,J,L⟩=>hc zF G Z H1 B F Q I1 J L) he v
end
section
variable{κ:Type}[DecidableEq κ]
def cS(zG:List (κ×V))(k:κ):Option V:=(zG.find? λv=>decide (v.1=k)).map (·.2)
@[inline]def AB(zG:List (κ×V))(k:κ)(v:V):List (κ×V):=
 if(zG.any λz=>decide (z.1=k))=true then zG.map (λz=>if z.1=k then(z.1,v)else z)else zG++[(k,v)]
def Gi{p:κ×V}{r:List (κ×V)}{k:κ}(e:p.1=k):cS (p::r) k=some p.2:=by simp[cS,List.find?_cons,e]
def Ge{p:κ×V}{r:List (κ×V)}{k:κ}(e:¬p.1=k):cS (p::r) k=cS r k:=by simp[cS,List.find?_cons,e]
def LX(k:κ):∀zG:List (κ×V),(zG.any λv=>decide (v.1=k))=(cS zG k).isSome
 |[]=>rfl
 |p::r=>by
  rw[any_cons];by_cases e:p.1=k
  .simp[Gi e,qQ e,Bool.true_or,isSome_some]
  .rw[Ge e,qR e];show LX k r
def Ha(zG:List (κ×V))(k:κ)(v:V):(AB zG k v).length<=zG.length+1:=by unfold AB;grind
def eJ.isSome_eq(r:eJ o u):o.isSome=u.isSome:=by
 cases o with
 |none=>cases u with
  |none=>rfl
  |some _=>show(show False from r).elim
 |some _=>cases u with
  |none=>show(show False from r).elim
  |some _=>rfl
def eJ.getD(r:eJ o u)(v:zv d d'):zv (o.getD d) (u.getD d'):=by
 cases o with
 |none=>cases u with
  |none=>show v
  |some _=>show(show False from r).elim
 |some _=>cases u with
  |none=>show(show False from r).elim
  |some _=>show r
def KV.val{zG:List (κ×V)}{vs:List (κ×Value)}(r:KV zG vs)(k:κ):eJ (cS zG k) (valueAt vs k):=by
 induction r with
 |nil=>show True.intro
 |@cons p q ps v h t F=>
  let#[h1,h2]:=h;by_cases e:p.1=k
  .let B:q.1=k:=h1.symm.trans e;let b:valueAt (q::v) k=some q.2:=by simp[valueAt,B]
   rw[Gi e,b];show h2
  .let B:¬q.1=k:=λz=>e (h1.trans z);let b:valueAt (q::v) k=valueAt v k:=by simp[valueAt,B]
   rw[Ge e,b];show F
def KV.any(r:KV zG vs)(k:κ):(zG.any λv=>decide (v.1=k))=vs.any λv=>decide (v.1=k):=by
 induction r with
 |nil=>rfl
 |cons h t z=>rw[any_cons,any_cons,z,h.1]
def KV.repl(r:KV zG vs)(k:κ)(B:zv y u):
  KV (zG.map λv=>if v.1=k then(v.1,y)else v) (vs.map λv=>if v.1=k then(v.1,u)else v):=by
 induction r with
 |nil=>show .nil
 |@cons p q ps F h t z=>show .cons ?_ z;grind
def KV.put(r:KV zG vs)(k:κ)(v:zv y u):KV (AB zG k y) (stored vs k u):=by
 unfold AB stored;rw[r.any k];by_cases e:(vs.any λz=>decide (z.1=k))=true
 .rw[qZ e,qZ e];show r.repl k v
 .rw[q4 e,q4 e];show Paired.snoc r #[rfl,v]
def KV.length(r:KV zG vs):zG.length=vs.length:=Paired.length r
end
def Ep(r:zv (kV k) u):(aF P w).is k u=true:=by
 cases k with
 |inl i=>let#[t,e]:=(show∃t,u=Value.int i t from r);subst e;show VB P w i t
 |inr x=>let#[t,e]:=(show∃t,u=Value.str x t from r);subst e;show VE P w x t
def GI(e:kV a=kV b):a=b:=by
 cases a with
 |inl i=>cases b with
  |inl j=>have v:V.int i=V.int j:=e;injection v with v;rw[v]
  |inr y=>show nomatch (show V.int i=V.str y from e)
 |inr x=>cases b with
  |inl j=>show nomatch (show V.str x=V.int j from e)
  |inr y=>have v:V.str x=V.str y:=e;injection v with v;rw[v]
def GP:∀{a b:List aL},a.map kV=b.map kV->a=b
 |[],[],_=>rfl
 |[],_::_,e=>by simp at e
 |_::_,[],e=>by simp at e
 |x::xs,y::ys,e=>by
  injection e with e1 e2
  rw[GI e1,GP e2]
def MW:∀{ks:List aL}{us:List Value},zC (ks.map kV) us->ItemsAre (aF P w) ks us
 |[],_,r=>by rw[map_nil]at r;cases r;show .nil
 |k::ks,_,r=>by
  cases r with
  |cons h t=>show .cons (Ep h) (MW t)
abbrev KT(H:Hp):List (List aL×V)->List (List aL×Addr×Value)->Prop:=Paired λp q=>p.1=q.1/\H q.2.1=some (.tup (p.1.map kV))/\zv p.2 q.2.2
def KT.val{H:Hp}{zG:List (List aL×V)}{xs:List (List aL×Addr×Value)}(r:KT H zG xs)(k:List aL):eJ (cS zG k) ((atKey xs k).map (·.2)):=by
 induction r with
 |nil=>show True.intro
 |@cons p q ps v h t F=>
  let#[h1,_,h2]:=h;by_cases e:p.1=k
  .let B:q.1=k:=h1.symm.trans e;let b:atKey (q::v) k=some q.2:=by simp[atKey,B]
   rw[Gi e,b];show h2
  .let B:¬q.1=k:=λz=>e (h1.trans z);let b:atKey (q::v) k=atKey v k:=by simp[atKey,B]
   rw[Ge e,b];show F
def KT.repl(r:KT H zG xs)(k:List aL)(B:zv y u):
  KT H (zG.map λv=>if v.1=k then(v.1,y)else v) (xs.map (putAt k u)):=by
 induction r with
 |nil=>show .nil
 |@cons p q ps J h t F=>
  rw[qy];show .cons ?_ F;let#[h1,h2,G]:=h;unfold putAt;by_cases e:p.1=k
  .rw[qZ e,qZ (h1.symm.trans e)];show#[h1,h2,B]
  .rw[q4 e,q4 (λz=>e (h1.trans z))];show#[h1,h2,G]
def KT.put(r:KT H zG xs)(k:List aL)(B:H b=some (.tup (k.map kV)))(v:zv y u):
  KT H (AB zG k y) (storedH xs k b u):=by
 let e:(zG.any λz=>decide (z.1=k))=(atKey xs k).isSome:=by rw[LX,(r.val k).isSome_eq,isSome_map]
 unfold AB storedH;rw[e];by_cases q:(atKey xs k).isSome=true
 .rw[qZ q,qZ q];show r.repl k v
 .rw[q4 q,q4 q];show Paired.snoc r #[rfl,B,v]
def KT.keeps(r:KT H zG xs)(v:∀b ys,H b=some (.tup ys)->H' b=some (.tup ys)):KT H' zG xs:=
 Paired.mapP r λ_ _ z=>#[z.1,v _ _ z.2.1,z.2.2]
def Kn(ok:dY P w H h)(e:Rd H a u):zE P w H h a u:=e.ok ok
def FY(ok:dY P w H h)(e:Rd H a (.dK zG)):zG.length<=sizeLine/\(a==sysModules)=false/\∃vs,KV zG vs/\h.DictOf (aF P w) a vs:=
 show zE P w H h a (.dK zG) from Kn ok e
def Iw(ok:dY P w H h)(e:H a=some (.dK zG)):zG.length<=sizeLine/\(a==sysModules)=false/\∃vs,KV zG vs/\h.DictOf (aF P w) a vs:=FY ok (.inl e)
def DI(ok:dY P w H h)(e:H a=some (.tup (ks.map kV))):(tupleKind (aF P w)).is h ks a:=by
 let#[_,v,r,o,h1,h2,n,z]:=(show zE P w H h a (.tup (ks.map kV)) from ok a _ e)
 show#[o,v.toArray,n,h1,h2,z,MW r]
def FZ(ok:dY P w H h)(e:Rd H a (.dT zG)):zG.length<=sizeLine/\(a==sysModules)=false/\
  ∃xs,KT H zG xs/\h.DictOfH (tupleKind (aF P w)) a xs:=by
 let#[z,y,xs,r,o,es,ep,h1,h2,L,J,G]:=(show zE P w H h a (.dT zG) from Kn ok e)
 refine#[z,y,xs,r,o,es,ep,h1,h2,L,J,λx v=>?_,G];let all:∀{l:List (List aL×V)}{m:List (List aL×Addr×Value)},KT H l m->∀x∈m,(tupleKind (aF P w)).is h x.1 x.2.1:=by
  intro l m q;induction q with
  |nil=>intro x v;show nomatch v
  |@cons p q ps M B t F=>
   intro x v;rcases qA.mp v with e|v
   .subst e;show DI ok (by rw[<-B.1];show B.2.1)
   .show F x v
 show all r x v
def Ku(ok:dY P w H h)(e:H a=some (.dT zG)):zG.length<=sizeLine/\(a==sysModules)=false/\
  ∃xs,KT H zG xs/\h.DictOfH (tupleKind (aF P w)) a xs:=FZ ok (.inl e)
def fV(H:Hp)(a:Addr)(y:V)(r:Option V):Prop:=
 (∃zG k,Rd H a (.dK zG)/\y=kV k/\r=cS zG k)\/∃zG k b,Rd H a (.dT zG)/\y=.ref b/\H b=some (.tup (k.map kV))/\r=cS zG k
def rA(H:Hp)(a:Addr)(y v:V)(H':Hp):Prop:=
 (∃zG k,H a=some (.dK zG)/\y=kV k/\zG.length<sizeLine/\H'=upd H a (.dK (AB zG k v)))\/
 ∃zG k b,H a=some (.dT zG)/\y=.ref b/\H b=some (.tup (k.map kV))/\zG.length<sizeLine/\H'=upd H a (.dT (AB zG k v))
def Inv.big(I:Inv X zF Z H s):sysModules<s.heap.objs.size:=by let h:mainGlobals<s.heap.objs.size:=(I.mod.glob.keeps I.bk).lt;show lt_trans ⋯ h
def Kg(M:A.units+1<cLine)(I:Inv X zF Z H s)(g:fV H a y o)(L:zv y u)(h:∀s',Inv X zF Z H s'->Q (.bool o.isSome) s'):
  wpAny (model X.prog X.w) A (compareOp .In u (.ref a)) Q E s:=by
 rcases g with⟨B,k,e,G,l⟩|⟨B,k,b,e,G,O,l⟩
 .subst G;let#[z,F,Y,v,J]:=FY I.hok e;show wpAny_in_of (Ep L) F J.mapOf ?_;rw[<-(v.val k).isSome_eq,<-l];show h _ (I.tok _)
 .subst G;cases(show u=Value.ref b from L);let#[z,F,xs,v,J]:=FZ I.hok e;show wpAny_in_heap (tupleKind_room_in1 M) (DI I.hok O) F J ?_;let q:=(v.val k).isSome_eq;rw[isSome_map]at q;rw[<-q,<-l];show h _ (I.tok _)
def QB(M:A.units+1<cLine)(I:Inv X zF Z H s)(g:fV H a y o)(L:zv y u)(h:∀s',Inv X zF Z H s'->Q (.bool (!o.isSome)) s'):
  wpAny (model X.prog X.w) A (compareOp .NotIn u (.ref a)) Q E s:=by
 rcases g with⟨B,k,e,G,l⟩|⟨B,k,b,e,G,O,l⟩
 .subst G;let#[z,F,Y,v,J]:=FY I.hok e;show wpAny_notIn_of (Ep L) F J.mapOf ?_;rw[<-(v.val k).isSome_eq,<-l];show h _ (I.tok _)
 .subst G;cases(show u=Value.ref b from L);let#[z,F,xs,v,J]:=FZ I.hok e;show wpAny_notIn_heap (tupleKind_room_in1 M) (DI I.hok O) F J ?_;let q:=(v.val k).isSome_eq;rw[isSome_map]at q;rw[<-q,<-l];show h _ (I.tok _)
def Fq(I:Inv X zF Z H s)(B:yY (H a))(hs:Heap.SameBut a s.heap h')(F:∃q,h'.get? a=some q)(new:zE X.prog X.w (upd H a v) h' a v):
  Inv X zF Z (upd H a v) {s with heap:=h',toks:=t'}:=
 I.write (x:=a) (e:=a) B (.inl rfl) (λb q G z=>(hs.2 b G).trans z) F new
def ID(z:zG.length<=sizeLine)(B:(a==sysModules)=false)(v:KV zG vs)(F:h'.DictOf (aF P w) a vs):
  zE P w H' h' a (.dK zG):=#[z,B,vs,v,F]
def Jk(h:Heap)(v:sysModules<h.objs.size):zE P w H (h.push {cls:=.type "dict",data:=.dict #[]}) h.objs.size (.dK []):=
 #[zero_le _,beq_eq_false_iff_ne.mpr (Ne.symm (ne_of_lt v)),[],.nil,Heap.DictOf.new h]
def ME(h:Heap)(v:sysModules<h.objs.size):zE P w H (h.push {cls:=.type "dict",data:=.dict #[]}) h.objs.size (.dT []):=
 #[zero_le _,beq_eq_false_iff_ne.mpr (Ne.symm (ne_of_lt v)),[],.nil,_,#[],0,qd _ rfl,#[rfl,rfl,rfl],rfl,rfl,List.nodup_nil]
def sW:TE:=λ_ H Q=>∀p,H p=none->Q (.ref p) (upd H p (.dK []))
def sV:TE:=λ_ H Q=>∀p,H p=none->Q (.ref p) (upd H p (.dT []))
def Rw:PE X (.Dict [] [] pos) sW:=λzF s Z H Q I h=>wpAny_Dict_empty #[.ref s.heap.objs.size,_,I.laid (a:=s.heap.objs.size) (o:=.dK []) (t':=s.toks) (λ_ _ q=>qc _ q) (q5 _) (Jk s.heap I.big),rfl,h _ (I.hok.fresh (q5 _))]
def Rz:PE X (.Dict [] [] pos) sV:=λzF s Z H Q I h=>wpAny_Dict_empty #[.ref s.heap.objs.size,_,I.laid (a:=s.heap.objs.size) (o:=.dT []) (t':=s.toks) (λ_ _ q=>qc _ q) (q5 _) (ME s.heap I.big),rfl,h _ (I.hok.fresh (q5 _))]
def iX:List (TE×TE)->St->Hp->(List (V×V)->Hp->Prop)->Prop
 |[],_,H,Q=>Q [] H
 |(tk,tv)::r,Z,H,Q=>tk Z H λx H1=>tv Z H1 λy H2=>iX r Z H2 λps v=>Q ((x,y)::ps) v
abbrev VV:List (V×V)->List (Value×Value)->Prop:=Paired λp q=>zv p.1 q.1/\zv p.2 q.2
def aq(X:Cx)(pos:Pos)(z:List (Option Expr))(v:List Expr)(B:List (TE×TE)):Prop:=
 ∀(zF:List (Addr×Obj))(s:Shared)(Z:St)(H:Hp)(Q:List (V×V)->Hp->Prop),Inv X zF Z H s->iX B Z H Q->
  wpAny (model X.prog X.w) X.A (evalPairs (pairTrees z v X.env pos)) (λF s'=>∃ps H',Inv X zF Z H' s'/\VV ps F/\Q ps H') X.xe s
def RQ:aq X pos [] [] []:=λzF s Z H Q I h=>pairTrees_nil_walk #[[],H,I,.nil,h]
def SN(hk:PE X k tk)(hv:PE X v F)(hr:aq X pos ks vs z):
  aq X pos (some k::ks) (v::vs) ((tk,F)::z):=λzF s Z H Q I h=>
 pairTrees_cons_walk (Al (hk zF s Z H _ I h) λu J⟨x,H1,I1,M,q1⟩=>Al (hv zF J Z H1 _ I1 q1) λw2 G⟨y,H2,I2,L,Y⟩=>Al (hr zF G Z H2 _ I2 Y) λws s3⟨ps,H3,I3,B,O⟩=>#[(x,y)::ps,H3,I3,.cons #[M,L] B,O])
def fN(zG more:List (aL×V)):List (aL×V):=more.foldl (λv z=>AB v z.1 z.2) zG
def KV.merge:∀{more:List (aL×V)}{rs:List (aL×Value)}{zG:List (aL×V)}{vs:List (aL×Value)},KV more rs->KV zG vs->KV (fN zG more) (merged vs rs):=by
 intro more rs zG vs r;induction r generalizing zG vs with
 |nil=>intro q;show q
 |@cons p q ps B h t z=>
  intro v;let e:KV (AB zG p.1 p.2) (stored vs q.1 q.2):=by let:=v.put p.1 h.2;rw[<-h.1];show this
  show z e
def NO:∀(more zG:List (aL×V)),(fN zG more).length<=zG.length+more.length
 |[],zG=>by show zG.length<=zG.length+0;lia
 |p::r,zG=>by let h1:=NO r (AB zG p.1 p.2);let h2:=Ha zG p.1 p.2;show(fN (AB zG p.1 p.2) r).length<=_;rw[qt];lia
def NH:∀{zG:List (aL×V)}{v:List (Value×Value)},VV (zG.map λz=>(kV z.1,z.2)) v->∃rs,Carries (aF P w) v rs/\KV zG rs
 |[],_,r=>by rw[map_nil]at r;cases r;show#[[],True.intro,.nil]
 |p::zG,_,r=>by
  cases r with
  |@cons a b G bs h t=>let#[rs,c,q]:=NH (P:=P) (w:=w) t;let#[F,B]:=b;show#[(p.1,B)::rs,#[Ep h.1,rfl,c],.cons #[rfl,h.2] q]
def wX(v:List (TE×TE)):TE:=λZ H Q=>∀p,H p=none->iX v Z (upd H p (.dK [])) λps H2=>H2 p=some (.dK [])/\∃zG:List (aL×V),ps=zG.map (λz=>(kV z.1,z.2))/\zG.length<=15/\Q (.ref p) (upd H2 p (.dK (fN [] zG)))
def Ql(h:aq X pos keys values G)(B:keys.all (·.isSome)=true)(hl:keys.length=values.length)(h0:keys≠[])
  (L:keys.length<=15):PE X (.Dict keys values pos) (wX G):=by
 intro zF s Z H Q I q;let hn:=I.hok.fresh (q5 s.heap.objs.size);let I1:=I.laid (a:=s.heap.objs.size) (o:=.dK []) (h':=s.heap.push {cls:=.type "dict",data:=.dict #[]}) (t':=s.toks) (λ_ _ q=>qc _ q) (q5 _) (Jk s.heap I.big);show wpAny_Dict_walk (knd:=aF X.prog X.w) B hl h0 L (Al (h zF _ Z _ _ I1 (q _ hn)) λws s2 O=>?_);let#[ps,H2,M,J,e,v,ep,lk,q2]:=O;subst ep;let#[rs,c,rk]:=NH (P:=X.prog) (w:=X.w) J;let#[z,hd,Y,r0,dd]:=Iw M.hok e;cases r0;show#[rs,c,dd,λh' F hs=>#[.ref s.heap.objs.size,_,?_,rfl,q2]];let hz:(fN [] v).length<=sizeLine:=by let h1:=NO v [];rw[qv]at h1;rw[ze];lia
 let he:∃q,h'.get? s.heap.objs.size=some q:=let⟨q,_,_,hq,_⟩:=F;#[q,hq]
 show Fq M (by rw[e];show True.intro) hs he (ID hz hd (rk.merge .nil) F)
structure M2(X:Cx)(o:Expr)(m:Str)(apos:Pos)(e f:Expr)(cpos:Pos):Prop where
 base:attributeBase o m X.env (eval o X.env)=eval o X.env
 few:((backTo cpos (starEach [e,f] X.env)).all (λx=>!x.1)&&(backToKw cpos (keywordEach [] X.env)).all (λx=>x.1.isSome)
  &&decide (([e,f]:List Expr).length+([]:List Keyword).length+(if([]:List Keyword).isEmpty then 0 else 1)<30))=true
 line:(apos.endLine==cpos.line)=true
 trees:backTo cpos (starEach [e,f] X.env)=[(false,eval e X.env),(false,eval f X.env)]
def zP(H:Hp)(a:Addr):Prop:=(∃zG,Rd H a (.dK zG))\/∃zG,Rd H a (.dT zG)
def KS(I:Inv X zF Z H s)(d:zP H a):
  s.TypeIs (.ref a) "dict"/\(∀b,Value.ref a=.ref b->∃v,s.heap.get? b=some v/\v.dict=none)/\(a==sysModules)=false:=by
 rcases d with⟨B,e⟩|⟨B,e⟩
 .obtain⟨_,F,G,_,z⟩:=FY I.hok e;show#[z.typeIs,λb q=>?_,F];cases q;let#[v,_,_,h1,h2,_]:=z;show#[v,h1,h2.2.1]
 .obtain⟨_,F,xs,_,z⟩:=FZ I.hok e;show#[z.typeIs,λb q=>?_,F];cases q;let#[v,_,_,h1,h2,_]:=z;show#[v,h1,h2.2.1]
def OX(Y:A.units+1<cLine)(I:Inv X zF Z H s)(g:fV H a y o)(M:zv y u)(O:zv d r)(h:∀L s',Inv X zF Z H s'->zv (o.getD d) L->Q L s'):
  wpAny (model X.prog X.w) A (call (.builtin "dict.get") [.ref a,u,r]) Q E s:=by
 rcases g with⟨F,k,e,J,l⟩|⟨F,k,b,e,J,eb,l⟩
 .subst J;let#[z,G,vs,v,B]:=FY I.hok e;show call_meetsIn PySem.F.slot_dict_get B.typeIs PySem.F.entry_dict_get (PySem.F.args_dict_get_3 _ _ _) (meets_dict_get_default (aF X.prog X.w) a (Ep M) G r) #[_,B.mapOf,h _ _ (I.tok _) ?_];rw[l];show(v.val k).getD O
 .subst J;cases(show u=Value.ref b from M);let#[z,G,xs,v,B]:=FZ I.hok e;show call_meetsIn PySem.F.slot_dict_get B.typeIs PySem.F.entry_dict_get (PySem.F.args_dict_get_3 _ _ _) (meetsH_dict_get_default (tupleKind (aF X.prog X.w)) a b G r) #[tupleKind_room_in1 Y,k,xs,DI I.hok eb,B,h _ _ (I.tok _) ?_];rw[l];show(v.val k).getD O
def sX(B ty tx:TE):TE:=λZ H Q=>B Z H λx H1=>∃a,x=.ref a/\zP H1 a/\ty Z H1 λy H2=>tx Z H2 λz v=>∃o,fV v a y o/\Q (o.getD z) v
def RZ(hu:X.A.units+1<cLine)(ho:PE X o G)(he:PE X e ty)(hf:PE X f tx)(m:M2 X o "get" apos e f cpos):PE X (.Call (.Attribute o "get" apos) [e,f] [] cpos) (sX G ty tx):=by
 intro zF s Z H Q I h;show wpAny_Call_method m.base m.few m.line PySem.F.plainAttrs_dict PySem.F.slot_dict_get PySem.F.type_dict_get (Al (ho zF s Z H _ I h) λu O F=>?_);let#[x,H1,B,rx,a,ex,d,q1]:=F;subst ex;obtain rfl:u=Value.ref a:=rx;let#[L,J,_]:=KS B d;show#[L,J,?_];rw[m.trees];show Calls.callWith_builtin rfl (Calls.evalArgs_plain (Calls.spliced_cons (Al (he zF O Z H1 _ B q1) λiv M⟨y,H2,I2,ry,q2⟩=>Calls.spliced_cons (Al (hf zF M Z H2 _ I2 q2) λfv s3⟨z,H3,I3,Y,ov,g,q3⟩=>Calls.spliced_nil ?_))))
 show OX hu I3 g ry Y λw' s4 I4 v=>#[_,H3,I4,v,q3]
end L2
namespace HT
open PySem PyProof.Rows
theorem cat_tup(ht:IsTup s.heap t vs.toArray)(hb:IsTup s.heap b v.toArray)(hv:vs≠[])
  (h1:v=[]->Q (.ref t) s)(h2:v≠[]->Q (.ref s.heap.objs.size) {s with heap:=s.heap.push {cls:=.type "tuple",data:=.seq (vs++v).toArray}})
  (hsz:vs.length+v.length<=sizeLine):wpAny (model prog w) A (binaryOp .Add (.ref t) (.ref b)) Q E s:=by
 let#[#[cls,dd,data,O],J,hc,n,hd]:=id ht;let#[#[h3,F,data2,B],z,M,Y,L]:=id hb;subst hc hd M L;let e:vs.toArray++v.toArray=(vs++v).toArray:=by simp
 by_cases G:v=[]
 .exact concat_meets #[_,J,rfl] #[_,z,rfl] noFill_tuple_add seq_tuple_add PySem.F.slot_tuple_add PySem.F.entry_tuple_add (PySem.F.args_tuple_add_2 _ _)
   (tuple_addW1 t b vs.toArray v.toArray n Y dd F O B ↑hv (by simp[G])) #[J,z,h1 G]
 .refine concat_meets #[_,J,rfl] #[_,z,rfl] noFill_tuple_add seq_tuple_add PySem.F.slot_tuple_add PySem.F.entry_tuple_add (PySem.F.args_tuple_add_2 _ _)
   (tuple_addW2 t b vs.toArray v.toArray n Y dd F O B ↑hv ↑G (by rw[qr];show hsz)) #[J,z,?_]
  rw[e];show h2 G
def sIx(n d:Nat):Option Int->Nat
 |none=>d
 |some v=>if v<0 then(v+(n:Int)).toNat else min v.toNat n
theorem sIx_le(n d:Nat)(B:d<=n)(o:Option Int):sIx n d o<=n:=by
 cases o with
 |none=>show B
 |some v=>
  show(if v<0 then(v+(n:Int)).toNat else min v.toNat n)<=n;by_cases z:v<0
  .rw[qZ z];lia
  .rw[q4 z];show min_le_right _ _
def La(v:Int)(n d:Nat):(if v<0 then max (v+(n:Int)) 0 else min v (n:Int))=((sIx n d (some v):Nat):Int):=by show(if v<0 then max (v+(n:Int)) 0 else min v (n:Int))=(((if v<0 then(v+(n:Int)).toNat else min v.toNat n):Nat):Int);grind
def UU(lo hi:Option Int)(n:Nat):Builtin.Slice.sliceAdjust lo hi 1 (n:Int)=(((sIx n 0 lo:Nat):Int),((sIx n n hi:Nat):Int)):=by
 let h1:¬((1:Int)<0):=∅
 unfold Builtin.Slice.sliceAdjust;show Prod.ext ?_ ?_
 .cases lo with
  |none=>rfl
  |some v=>show La v n 0
 .cases hi with
  |none=>rfl
  |some v=>show La v n n
def Vg(i j:Nat):Builtin.Slice.slicePlaces (i:Int) (j:Int) 1=j-i:=by
 unfold Builtin.Slice.slicePlaces;let h1:(1:Int)>0:=∅
 split<;>lia
def Nv(p:IsPart v o)(h:Q o s):wpAny (model prog w) A (Builtin.Slice.slicePartIndex v) Q E s:=by
 cases p with
 |none=>show slicePart_none h
 |int i t=>show slicePart_int h
theorem sliceApplied_gen{lo hi:Option Int}{n:Nat}(hs:s.heap.IsSliceOf G F B .none)(L:IsPart F lo)(J:IsPart B hi)
  (h:Q (((sIx n 0 lo:Nat):Int),1,sIx n n hi-sIx n 0 lo) s):wpAny (model prog w) A (Builtin.Slice.sliceApplied (.ref G) (pure (n:Int))) Q E s:=by
 let#[os,v,M,z]:=id hs;show qa (qa (za v z (x:=F) rfl (qa (za v z (x:=B) rfl (qa (za v z (x:=.none) rfl (qb ?_)))))));show qa (slicePart_none ?_);show qa (Nv L (qa (Nv J (qa (qb ?_)))));show wpAny _ _ (match Builtin.Slice.sliceAdjust lo hi 1 (n:Int)with|(lo,hi)=>pure (lo,(1:Int),Builtin.Slice.slicePlaces lo hi 1)) _ _ s;rw[UU lo hi n];show wpAny _ _ (pure (((sIx n 0 lo:Nat):Int),(1:Int),Builtin.Slice.slicePlaces ((sIx n 0 lo:Nat):Int) ((sIx n n hi:Nat):Int) 1)) _ _ s;rw[Vg];show qb h
def Rk(xs:Array Value)(i k:Nat):((List.range k).filterMap λ(m:Nat)=>xs[((i:Int)+(m:Int)*1).toNat]?).toArray=((xs.toList.drop i).take k).toArray:=by
 have e:(λ(m:Nat)=>xs[((i:Int)+(m:Int)*1).toNat]?)=λm=>xs[i+m]?:=by
  funext m
  let:((i:Int)+(m:Int)*1).toNat=i+m:=∅
  rw[this]
 rw[e];let:=pick_run xs i k;rw[List.filterMap_map]at this;let v:((λx=>xs[x]?)∘λx=>i+x)=λm=>xs[i+m]?:=rfl;rw[v]at this;rw[this]
theorem getItem_tuple_cut{lo hi:Option Int}(z:IsTup s.heap t items)(hs:s.heap.IsSliceOf L O M .none)(pl:IsPart O lo)(Y:IsPart M hi)
  (hw:¬(sIx items.size 0 lo=0/\sIx items.size items.size hi=items.size))
  (h:Q (.ref s.heap.objs.size) {s with heap:=s.heap.push {cls:=.type "tuple",data:=.seq ((items.toList.drop (sIx items.size 0 lo)).take (sIx items.size items.size hi-sIx items.size 0 lo)).toArray}})
  (hsz:items.size<=sizeLine):wpAny (model prog w) A (getItem (.ref t) (.ref L)) Q E s:=by
 let v:sizeOk (.seq ((items.toList.drop (sIx items.size 0 lo)).take (sIx items.size items.size hi-sIx items.size 0 lo)).toArray):=by show((items.toList.drop (sIx items.size 0 lo)).take (sIx items.size items.size hi-sIx items.size 0 lo)).toArray.size<=sizeLine;rw[qr,qG,qF];show le_trans (min_le_right ..) (le_trans (sub_le ..) hsz)
 let#[os,B,G,h1]:=id hs;let J:s.TypeIs (.ref L) "slice":=#[os,B,G]
 unfold getItem;try with_reducible show zf ?_
 first|show qa (qb ?_)|skip
 refine qa (wpAny_sequenceKey z.typeIs ⋯ ?_);refine qa (wpAny_callSpecial?_slot (name:=Str.ofString "__getitem__") z.typeIs PyProof.Rows.slot_tuple_getitem
  (zd PyProof.Rows.slot_tuple_getitem z.typeIs entry_tuple_getitem ?_ (args_tuple_getitem _ _)))
 show wpAny _ _ (Builtin.Tuple.tupleItemsOf (.ref t)>>=_) _ _ s;show qa (tupleItemsOf_ z ?_);show qa (wpAny_typeOf J ?_);show qa (sliceApplied_gen hs pl Y ?_);let F:¬((((sIx items.size 0 lo:Nat):Int)==0&&(1:Int)==1&&(sIx items.size items.size hi-sIx items.size 0 lo)==items.size)=true):=by grind
 show wpAny _ _ (if(((sIx items.size 0 lo:Nat):Int)==0&&(1:Int)==1&&(sIx items.size items.size hi-sIx items.size 0 lo)==items.size)=true then _ else _) _ _ s;rw[q4 F,Rk];first
  |show qa (m:=Builtin.Tuple.tupleExact _) (zc (qb ⟨_,rfl,qb h⟩) v)
  |show qa (m:=Builtin.Tuple.tupleExact _) (zc (qa (qb (qb ⟨_,rfl,qb h⟩))) v)
  |show qa (qa (m:=Builtin.Tuple.tupleExact _) (zc (qb (qb ⟨_,rfl,qb h⟩)) v))
  |show qa (qa (m:=Builtin.Tuple.tupleExact _) (zc (qb ⟨_,rfl,qb h⟩) v))
end HT
namespace L2
open PySem PySem.Spec PyProof.Rows
abbrev TO:=St->Hp->(Option Int->Hp->Prop)->Prop
@[inline]def PO(X:Cx)(e:Option Expr)(t:TO):Prop:=
 ∀(zF:List (Addr×Obj))(s:Shared)(Z:St)(H:Hp)(Q:Option Int->Hp->Prop),Inv X zF Z H s->t Z H Q->
  wpAny (model X.prog X.w) X.A (evalPart e X.env) (λu s'=>∃o H',Inv X zF Z H' s'/\IsPart u o/\Q o H') X.xe s
def oC:TO:=λ_ H Q=>Q none H
def wU(t:TE):TO:=λZ H Q=>t Z H λx H1=>∃i,x=.int i/\Q (some i) H1
def Ie:∀{us:List Value},zC (ns.map V.int) us->IntsAre us ns:=by
 induction ns with
 |nil=>intro us r;rw[map_nil]at r;cases r;show .nil
 |cons n ns B=>
  intro us r;cases r with
  |cons z v=>let#[t,e]:=z;subst e;show .cons n t (B v)
section
variable{lo hi:Option Expr}
def Ms:PO X none oC:=by intro zF s Z H Q I h;show qb #[none,H,I,.none,h]
def HZ(h:PE X e te):PO X (some e) (wU te):=by intro zF s Z H Q I F;show Al (h zF s Z H _ I F) λu J v=>?_;let#[x,H1,G,z,B]:=v;let#[i,rfl,q]:=B;let#[t,rfl]:=z;show#[some i,H1,G,.int i t,q]
def kW(X:Cx)(r:V->Option Int->Option Int->Hp->VK->Prop):Prop:=
 ∀(zF:List (Addr×Obj))(s:Shared)(Z:St)(H:Hp)(x:V)(v B z:Value)(lo hi:Option Int)(F:Addr)(Q:VK),Inv X zF Z H s->zv x v->s.heap.IsSliceOf F B z .none->IsPart B lo->IsPart z hi->r x lo hi H Q->
  ∃T id,typeLookup (.type T) "__getitem__"=pure (some (.builtin id))/\s.TypeIs v T/\wpAny (model X.prog X.w) X.A (getItem v (.ref F)) (EP X zF Z Q) X.xe s
def kW.or(h:kW X r)(h':kW X O):kW X (λx lo hi H Q=>r x lo hi H Q\/O x lo hi H Q):=by
 intro zF s Z H x v B z lo hi F Q I G M L J q;rcases q with q|q
 .show h zF s Z H x v B z lo hi F Q I G M L J q
 .show h' zF s Z H x v B z lo hi F Q I G M L J q
def jt(r:V->Option Int->Option Int->Hp->VK->Prop)(te:TE)(v z:TO):TE:=λZ H Q=>te Z H λx H1=>v Z H1 λl H2=>z Z H2 λu B=>r x l u B Q
def Jl(hr:kW X r)(he:PE X e te)(hl:PO X lo L)(hu:PO X hi M):PE X (.Subscript e (.Slice lo hi none p2) pos) (jt r te L M):=by intro zF s Z H Q I h;show Subscript_ (Al (he zF s Z H _ I h) λv Y B=>?_);let#[x,H1,I1,r1,q1]:=B;show wpAny_Slice (Al (hl zF Y Z H1 _ I1 q1) λG O⟨l,H2,I2,pl,q2⟩=>Al (hu zF O Z H2 _ I2 q2) λF z B=>?_);let#[u,J,I3,pu,q3]:=B;show qb ?_;let I4:Inv X zF Z J {z with heap:=z.heap.push {cls:=.type "slice",data:=.fields [G,F,.none].toArray}}:=I3.kept (t':=z.toks) λb ob q=>qc _ q;let#[T,id,hT,ht,hg]:=hr zF {z with heap:=z.heap.push {cls:=.type "slice",data:=.fields [G,F,.none].toArray}} Z J x v G F l u z.heap.objs.size Q I4 r1 (Heap.IsSliceOf.new ..) pl pu q3;show tail_any (ops:=[.ref z.heap.objs.size,v]) ht hT hg (by with_unfolding_all rfl)
def iH(xs:List V)(lo hi:Option Int):List V:=(xs.drop (HT.sIx xs.length 0 lo)).take (HT.sIx xs.length xs.length hi-HT.sIx xs.length 0 lo)
def Nz(xs:List V)(lo hi:Option Int):(iH xs lo hi).length<=xs.length:=by unfold iH;rw[qG,qF];show le_trans (min_le_right ..) (sub_le ..)
def xD(K:W.Frag):V->Option Int->Option Int->Hp->VK->Prop:=λx lo hi H Q=>∃a xs,x=.ref a/\bK K H a xs/\
 ¬(HT.sIx xs.length 0 lo=0/\HT.sIx xs.length xs.length hi=xs.length)/\∀p,H p=none->Q (.ref p) (upd H p (.tup (iH xs lo hi)))
def OG:kW X (xD X.K):=by
 intro zF s Z H x v vl vu lo hi sl Q I J hs M L h;let#[a,xs,rfl,O,Y,q]:=h;cases J;let#[B,r,G,F]:=I.tuple O;let z:B.toArray.size=xs.length:=by rw[qr];show r.length.symm
 show#["tuple",_,PyProof.Rows.slot_tuple_getitem.lookup,G.typeIs,?_];show HT.getItem_tuple_cut G hs M L (by rw[z];show Y) ?_ (by rw[z];show F);rw[z];show#[.ref s.heap.objs.size,_,I.laid (t':=s.toks) (o:=.tup (iH xs lo hi)) (λb ob q=>qc _ q) (q5 _) ?_,rfl,q _ (I.hok.fresh (q5 _))];show#[#[le_trans (Nz xs lo hi) F,jJ.new rfl (qd _ rfl)],_,(r.drop (HT.sIx xs.length 0 lo)).take (HT.sIx xs.length xs.length hi-HT.sIx xs.length 0 lo),IsTup.new _ _]
def xN(K:W.Frag):R2:=λx y H Q=>∃a b xs ys,x=.ref a/\y=.ref b/\bK K H a xs/\bK K H b ys/\xs≠[]/\xs.length+ys.length<=sizeLine/\
 (ys=[]->Q (.ref a) H)/\(ys≠[]->∀p,H p=none->Q (.ref p) (upd H p (.tup (xs++ys))))
def zC.nil_iff(r:zC xs us):us=[]↔xs=[]:=by
 cases r with
 |nil=>simp
 |cons _ _=>simp
def Rg:OpR X (binaryOp .Add) (xN X.K):=by intro zF s Z H x y v u Q I M L h;let#[a,b,xs,ys,rfl,rfl,ha,hb,hx,J,Y,O]:=h;cases M;cases L;let#[h1,F,p1,_]:=I.tuple ha;let#[G,B,p2,_]:=I.tuple hb;show HT.cat_tup p1 p2 (λz=>hx (F.nil_iff.mp z)) (λz=>#[.ref a,H,I,rfl,Y (B.nil_iff.mp z)]) (λz=>?_) (by rw[<-F.length,<-B.length];show J);show#[.ref s.heap.objs.size,_,I.laid (t':=s.toks) (o:=.tup (xs++ys)) (λb ob q=>qc _ q) (q5 _) ?_,rfl,O (λw=>z (B.nil_iff.mpr w)) _ (I.hok.fresh (q5 _))];show#[#[by rw[qq];show J,jJ.new rfl (qd _ rfl)],_,F.append B,IsTup.new _ _]
end
def ixN(n:Nat)(i:Int):Option Nat:=if 0<=i then(if i<n then some i.toNat else none)else if -(n:Int)<=i then some (i+n).toNat else none
def atI{α:Type}(xs:List α)(i:Int):Option α:=(ixN xs.length i).bind λj=>xs[j]?
def IR(h:ixN n i=some j):seqIndex? i n=some j/\j<n/\-(n:Int)<=i/\i<n:=by
 unfold ixN at h;by_cases v:0<=i
 .rw[qZ v]at h;by_cases h1:i<n
  .rw[qZ h1]at h;let e:i.toNat=j:=qf h;show#[by rw[seqIndex_of v h1,e],∅,∅,h1]
  .rw[q4 h1]at h;cases h
 .rw[q4 v]at h;by_cases h1:-(n:Int)<=i
  .rw[qZ h1]at h;let e:(i+n).toNat=j:=qf h;show#[by rw[seqIndex_neg ∅ h1,e],∅,h1,∅]
  .rw[q4 h1]at h;cases h
def Jf(h:atI xs i=some v):∃j,seqIndex? i xs.length=some j/\xs[j]?=some v/\j<xs.length/\-(xs.length:Int)<=i/\i<xs.length:=by
 unfold atI at h;cases e:ixN xs.length i with
 |none=>rw[e]at h;cases h
 |some j=>rw[e]at h;let#[h1,h2,B,z]:=IR e;show#[j,h1,h,h2,B,z]
theorem atI_last(xs:List α)(v:α):atI (xs++[v]) (-1)=some v:=by
 let z:(xs++[v]).length=xs.length+1:=by simp
 let e:ixN (xs++[v]).length (-1)=some xs.length:=by unfold ixN;rw[z,q4 ⋯,qZ ∅];congr 1;lia
 unfold atI;rw[e];simp
def kN(b:Expr):Prop:=∀o i,subscripted b false o i=operate [o,i] (getItem o i)
def pX(X:Cx)(r:R2):Prop:=
 ∀(B z:Expr)(zF:List (Addr×Obj))(s:Shared)(Z:St)(H:Hp)(x y:V)(v u:Value)(Q:VK),Inv X zF Z H s->zv x v->zv y u->r x y H Q->
  subscripted z false v u=operate [v,u] (getItem v u)->wpAny (model X.prog X.w) X.A (subscriptTail B z v u) (EP X zF Z Q) X.xe s
def kj(X:Cx)(id:String)(r:V->List V->Hp->VK->Prop):Prop:=
 ∀(zF:List (Addr×Obj))(s:Shared)(Z:St)(H:Hp)(x:V)(xs:List V)(v:Value)(us:List Value)(Q:VK),Inv X zF Z H s->zv x v->zC xs us->r x xs H Q->
  wpAny (model X.prog X.w) X.A (call (.builtin id) (v::us)) (EP X zF Z Q) X.xe s
section
def pX.or(h:pX X r)(h':pX X L):pX X (λx y H Q=>r x y H Q\/L x y H Q):=by
 intro z B zF s Z H x y v u Q I G F q J;rcases q with q|q
 .show h z B zF s Z H x y v u Q I G F q J
 .show h' z B zF s Z H x y v u Q I G F q J
def OE(G:pX X r)(L:PE X a ta)(J:PE X b tb)(hs:kN b):PE X (.Subscript a b pos) (aa r ta tb):=by intro zF s Z H Q I h;show Subscript_ (FU L J I h λv u z x y H2 M F B q=>G a b zF z Z H2 x y v u Q M F B q (hs _ _))
def xK(K:W.Frag):R2:=λx y H Q=>∃p xs i v,x=.ref p/\y=.int i/\bL K H p xs/\atI xs i=some v/\Q v H
def xI(K:W.Frag):R2:=λx y H Q=>∃p xs i v,x=.ref p/\y=.int i/\bK K H p xs/\atI xs i=some v/\Q v H
def xJ:R2:=λx y H Q=>∃z i c,x=.str z/\y=.int i/\z.length<=sizeLine/\atI z.cps.toList i=some c/\Q (.str #[[c].toArray]) H
theorem zkX:pX X (xK X.K):=by
 intro F G zF s Z H x y v u Q I rx ry h Y;let#[p,xs,i,z,rfl,rfl,hq,he,q]:=h;cases rx;let#[t,rfl]:=ry;let#[M,r,L,hz]:=I.list hq;let#[j,h1,h2,h3,h4,h5]:=Jf he;let#[w,ew,J]:=r.get h2;let hl:=r.length;let hn:=AR;let B:EP X zF Z Q w s:=#[z,H,I,J,q]
 by_cases h0:0<=i
 .let O:i.toNat=j:=by rw[seqIndex_of h0 h5]at h1;exact qf h1
  show item_listR L.isList h0 ∅ (by rw[O];simpa using ew) B Y
 .have O:(i+(M.toArray.size:Int)).toNat=j:=by rw[seqIndex_neg ∅ h4]at h1;rw[qr,<-hl];exact qf h1
  exact subscriptTail_builtinR (x:=w) L.isList.typeIs slot_list_getitem.lookup
   (wpAny_getItem_list_neg (Q:=λr s'=>r=w/\EP X zF Z Q r s') L.isList ∅ (by rw[qr]<;>lia) ∅ (by rw[O];simpa using ew) #[rfl,B]) Y
theorem zmz:pX X (xI X.K):=by
 intro B F zF s Z H x y v u Q I O M h hs;let#[p,xs,i,z,rfl,rfl,hq,he,q]:=h;cases O;let#[t,rfl]:=M;let#[Y,r,L,hz]:=I.tuple hq;let#[j,h1,h2,h3,h4,h5]:=Jf he;let#[w,ew,G]:=r.get h2;let hl:=r.length;let hn:=AR;let J:EP X zF Z Q w s:=#[z,H,I,G,q]
 exact subscriptTail_builtinR (x:=w) L.typeIs slot_tuple_getitem.lookup
  (getItem_tuple (j:=j) (Q:=λr s'=>r=w/\EP X zF Z Q r s') L ∅ ∅ (by rw[qr,<-hl];show h1) ↑ew #[rfl,J]) hs
def OV:pX X xJ:=by
 intro B F zF s Z H x y v u Q I J G h L;let#[z,i,c,rfl,rfl,hz,O,q]:=h;let#[t,rfl]:=J;let#[t',rfl]:=G;let#[j,h1,h2,h3,h4,Y]:=Jf O;let M:z.cps.toList.length=z.length:=by simp[Str.length]
 rw[M]at h1 h4 Y;let hn:=AR;show tail_any (typeIs_str s z t) slot_str_getitem.lookup (getItem_str (c:=c) (by let e1:decide (i< -(2^63:Int))=false:=qR ∅;let e2:decide (i≥2^63)=false:=qR ∅;rw[e1,e2,Bool.or_false]) (by rw[h1];simpa using h2) #[.str #[[c].toArray],H,I.tok _,#[_,rfl],q]) L
def ab(K:W.Frag):R2:=λx y H Q=>xK K x y H Q\/xI K x y H Q\/xJ x y H Q
def OU:pX X (ab X.K):=zkX.or (zmz.or OV)
def UW(v:List Value)(n j:Nat)(u:Value):Obj.mapSeq (·.setIfInBounds j u) {cls:=.type "list",data:=.seq v.toArray n}={cls:=.type "list",data:=.seq (v.set j u).toArray n}:=by simp[Obj.mapSeq]
def Inv.lst(I:Inv X zF Z H s)(h:H p=some (.lst xs)):
  ∃(v:List Value)(n:Nat),zC xs v/\s.heap.get? p=some {cls:=.type "list",data:=.seq v.toArray n}/\xs.length<=sizeLine:=by
 let#[z,v,n,r,e]:=I.hok p _ h;show#[v,n,r,e,z]
def Inv.lstUpd{v its':List Value}(I:Inv X zF Z H s)(h:H p=some (.lst xs))
  (F:s.heap.get? p=some {cls:=.type "list",data:=.seq v.toArray n})(B:f {cls:=.type "list",data:=.seq v.toArray n}={cls:=.type "list",data:=.seq its'.toArray z})(r:zC ys its')(hz:ys.length<=sizeLine)(t:Nat):
  Inv X zF Z (upd H p (.lst ys)) {s with heap:=s.heap.update p f,toks:=t}:=by
 let e:(s.heap.update p f).get? p=some {cls:=.type "list",data:=.seq its'.toArray z}:=by rw[q9 f F (by rw[B]<;>rfl),B]
 show I.write (x:=p) (e:=p) (by rw[h];trivial) (.inl rfl) (λb u G q=>(q8 _ _ (Ne.symm G)).trans q) #[_,e] ?_;show#[hz,its',z,r,e]
def xG:V->V->V->Hp->(Hp->Prop)->Prop:=λo i v H Q=>∃p xs k j,o=.ref p/\i=.int k/\H p=some (.lst xs)/\ixN xs.length k=some j/\Q (upd H p (.lst (xs.set j v)))
def TX:yV X xG:=by
 intro zF s Z H o i v ov iv u Q I ro ri rv h;let#[p,xs,k,j,rfl,rfl,J,hj,q]:=h;cases ro;let#[t,rfl]:=ri;let#[z,n,r,B,hz]:=I.lst J;let#[h1,h2,M,L]:=IR hj;let F:=r.length;let hn:=AR;let Y:Inv X zF Z (upd H p (.lst (xs.set j v))) {s with heap:=s.heap.update p (Obj.mapSeq (·.setIfInBounds j u))}:=
  I.lstUpd J B (UW z n j u) (r.set rv j) (by rw[length_set];show hz) s.toks
 by_cases O:0<=k
 .let G:k.toNat=j:=by rw[seqIndex_of O L]at h1;exact qf h1
  show W.ki_setAt B O ∅ (by rw[qr,<-F];show L) (by rw[G];show#[_,Y,q])
 .let G:(k+(z.toArray.size:Int)).toNat=j:=by rw[seqIndex_neg ∅ M]at h1;rw[qr,<-F];exact qf h1
  show W.ki_setBack B ∅ (by rw[qr,<-F];show M) ∅ (by rw[G];show#[_,Y,q])
def VU(lo hi:Option Int)(n:Nat):(sliceBounds lo hi none n).1=((HT.sIx n 0 lo:Nat):Int)/\(sliceBounds lo hi none n).2.1=((HT.sIx n n hi:Nat):Int)/\(sliceBounds lo hi none n).2.2=1:=by
 let v:∀(i:Int)(n d:Nat),max 0 (min (if i<0 then i+(n:Int)else i) (n:Int))=((HT.sIx n d (some i):Nat):Int):=λi n _=>Fo i n;show#[?_,?_,rfl]
 .cases lo with
  |none=>rfl
  |some i=>show v i n 0
 .cases hi with
  |none=>rfl
  |some i=>show v i n n
def VO(v:List Value)(lo hi:Option Int):slicePick v.toArray lo hi none=((v.drop (HT.sIx v.length 0 lo)).take (HT.sIx v.length v.length hi-HT.sIx v.length 0 lo)).toArray:=by let#[h1,h2,z]:=VU lo hi v.toArray.size;unfold slicePick;rw[h1,h2,z];simp only[sliceRange_one,pick_run]<;>rfl
def xF(K:W.Frag):V->Option Int->Option Int->Hp->VK->Prop:=λx lo hi H Q=>∃a xs,x=.ref a/\bL K H a xs/\∀p,H p=none->Q (.ref p) (upd H p (.lst (iH xs lo hi)))
def QX:kW X (xF X.K):=by intro zF s Z H x v vl vu lo hi sl Q I F Y J G h;let#[a,xs,rfl,O,q]:=h;cases F;let#[L,r,B,M]:=I.list O;let z:=r.length;show#["list",_,slot_list_getitem.lookup,B.isList.typeIs,?_];show wpAny_getItem_list_slice B.isList Y J G .none (by simp) ?_ (by rw[qr]<;>lia);rw[VO,<-z];show#[.ref s.heap.objs.size,_,I.laid (t':=s.toks) (o:=.lst (iH xs lo hi)) (λb ob q=>qc _ q) (q5 _) ?_,rfl,q _ (I.hok.fresh (q5 _))];show#[le_trans (Nz xs lo hi) M,_,0,(r.drop (HT.sIx xs.length 0 lo)).take (HT.sIx xs.length xs.length hi-HT.sIx xs.length 0 lo),qd _ rfl]
def VZ:aR X (.builtin "len") (λxs H Q=>∃p ys,xs=[.ref p]/\(bL X.K H p ys\/bK X.K H p ys)/\Q (.int ys.length) H):=by
 intro zF s Z H xs M Q I r h;let#[p,ys,rfl,z,q]:=h;let#[u,rfl,J]:=vals1 r;cases J;let O:=AR;rcases z with z|z
 .obtain⟨G,B,F,L⟩:=I.list z;let v:=B.length;show Calls.call_len_list F.isList (by simp<;>lia) #[.int ys.length,H,I.tok _,#[s.toks+1,by rw[qr,v]],q]
 .obtain⟨G,B,F,L⟩:=I.tuple z;let v:=B.length;show len_tuple F (by simp<;>lia) #[.int ys.length,H,I.tok _,#[s.toks+1,by rw[qr,v]],q]
def VW:aR X (.builtin "len") (λxs H Q=>∃z,xs=[.str z]/\z.length<=sizeLine/\Q (.int z.length) H):=by intro zF s Z H xs v Q I r h;let#[z,rfl,B,q]:=h;let#[u,rfl,t,rfl]:=vals1 r;let F:=AR;show len_str ∅ #[.int z.length,H,I.tok _,#[_,rfl],q]
def VX:aR X (.type "list") (λxs H Q=>∃p ys,xs=[.ref p]/\(bL X.K H p ys\/bK X.K H p ys)/\∀l,H l=none->Q (.ref l) (upd H l (.lst ys))):=by
 intro zF s Z H xs us Q I r h;let#[p,ys,rfl,J,q]:=h;let#[u,rfl,rx]:=vals1 r;cases rx;let M:∀(v:List Value),zC ys v->ys.length<=sizeLine->∀(h':Heap)(B:Nat),(∀b o',s.heap.get? b=some o'->h'.get? b=some o')->
   h'.get? s.heap.objs.size=some {cls:=.type "list",dict:=none,data:=.seq v.toArray B,slots:=#[]}->EP X zF Z Q (.ref s.heap.objs.size) {s with heap:=h'}:=λv z G h' B F e=>
  #[.ref s.heap.objs.size,_,I.laid (t':=s.toks) F (q5 _) (show zE X.prog X.w _ h' _ (.lst ys) from#[G,v,B,z,e]),rfl,q _ (I.hok.fresh (q5 _))]
 rcases J with J|J
 .obtain⟨v,z,O,G⟩:=I.list J;let L:=z.length;let#[o,Y,hc,n,hd]:=O.isList;show call_list_seq p (.inl rfl) Y hc hd (λh' B F e=>M v z G h' B F e) (by simp<;>lia)
 .obtain⟨v,z,O,G⟩:=I.tuple J;let L:=z.length;let#[o,Y,hc,n,hd]:=O;show call_list_seq p (.inr rfl) Y hc hd (λh' B F e=>M v z G h' B F e) (by simp<;>lia)
def VR:aR X (.type "tuple") (λxs H Q=>∃p ys,xs=[.ref p]/\((bL X.K H p ys/\∀l,H l=none->Q (.ref l) (upd H l (.tup ys)))\/(bK X.K H p ys/\Q (.ref p) H))):=by
 intro zF s Z H xs us Q I r h;let#[p,ys,rfl,h]:=h;let#[u,rfl,M]:=vals1 r;cases M;rcases h with⟨F,q⟩|⟨F,q⟩
 .obtain⟨v,z,B,G⟩:=I.list F;let J:=z.length;show call_tuple_list B.isList (λh' O=>?_) (by simp<;>lia);let L:Inv X zF Z H {s with heap:=h'}:=I.kept (t':=s.toks) O;let Y:Inv X zF Z (upd H h'.objs.size (.tup ys)) {s with heap:=h'.push {cls:=.type "tuple",data:=.seq v.toArray}}:=
   L.laid (t':=s.toks) (λb o e=>qc _ e) (q5 _) (show zE X.prog X.w _ _ _ (.tup ys) from#[#[G,jJ.new rfl (qd _ rfl)],v,z,IsTup.new _ _])
  show#[.ref h'.objs.size,_,Y,rfl,q _ (L.hok.fresh (q5 _))]
 .obtain⟨v,z,B,G⟩:=I.tuple F;show call_tuple_same B #[.ref p,H,I,rfl,q]
def ie(K:W.Frag)(T:String)(x:V)(H:Hp):Prop:=match x with
 |.str _=>T="str"
 |.int _=>T="int"
 |.ref p=>(T="list"/\∃xs,bL K H p xs)\/(T="tuple"/\∃o,K.lookup p=some o/\o.cls=.type "tuple"/\o.dict=none)\/
  (T="dict"/\((∃zG,H p=some (.dK zG))\/∃zG,H p=some (.dT zG)))
 |_=>False
def Qb(I:Inv X zF Z H s)(r:zv x v)(ty:ie X.K T x H):
  s.TypeIs v T/\∀a,v=.ref a->∃L,s.heap.get? a=some L/\L.dict=none:=by
 cases x with
 |str z=>let#[t,rfl]:=r;cases(show T="str" from ty);show#[typeIs_str s z t,λ_ e=>nomatch e]
 |int i=>let#[t,rfl]:=r;cases(show T="int" from ty);show#[typeIs_int s i t,λ_ e=>nomatch e]
 |ref p=>
  cases r;rcases ty with⟨rfl,xs,O⟩|⟨rfl,o,B,Y,G⟩|⟨rfl,B⟩
  .obtain⟨M,_,J,_⟩:=I.list O;show#[J.isList.typeIs,λa e=>?_];cases e;let#[o,n,e,c,G,_]:=J;show#[o,e,G]
  .show#[#[o,I.kIn p o B,Y],λa e=>?_];cases e;show#[o,I.kIn _ o B,G]
  .have z:∃o,s.heap.get? p=some o/\o.ExactDict:=by
    rcases B with⟨F,B⟩|⟨F,B⟩
    .obtain⟨_,_,_,_,o,_,_,e,ex,_⟩:=I.hok p _ B;show#[o,e,ex]
    .obtain⟨_,_,_,_,o,_,_,e,ex,_⟩:=I.hok p _ B;show#[o,e,ex]
   let#[o,e,ex]:=z;show#[#[o,e,ex.1],λa e2=>?_];cases e2;show#[o,e,ex.2.1]
 |_=>show False.elim ty
def jv(K:W.Frag)(T:String)(r:V->List V->Hp->VK->Prop)(v:TE)(t:TA):TE:=λZ H Q=>v Z H λx H1=>ie K T x H1/\t Z H1 λxs H2=>r x xs H2 Q
variable{T id:String}
def GA(pa:PlainAttrs T)(slot:Slot T name id)(J:typeOf (.builtin id)=pure (.type "method_descriptor"))(hm:kj X id r)(ho:PE X o to)(ha:PA X (e::es) t)
  (F:attributeBase o name X.env (eval o X.env)=eval o X.env:=by rfl)
  (G:((backTo cpos (starEach (e::es) X.env)).all (λx=>!x.1)&&(backToKw cpos (keywordEach [] X.env)).all (λx=>x.1.isSome)
   &&decide ((e::es).length+([]:List Keyword).length+(if([]:List Keyword).isEmpty then 0 else 1)<30))=true:=by rfl)
  (B:(apos.endLine==cpos.line)=true:=by rfl)(hs:starEach (e::es) X.env=(false,eval e X.env)::starEach es X.env:=by rfl)(z:(backTo cpos (starEach es X.env)).any (·.1)=false:=by rfl):
  PE X (.Call (.Attribute o name apos) (e::es) [] cpos) (jv X.K T r to t):=by
 intro zF s Z H Q I h;show wpAny_Call_method_late F G B rfl (Al (ho zF s Z H _ I h) λv s1 Y=>?_);let#[x,H1,O,L,ty,q1]:=Y;let#[h1,h2]:=Qb O L ty;show#[T,id,pa,slot,J,h1,h2,?_];let M:=ha cpos zF s1 Z H1 _ O q1;rw[hs]at M⊢;show Calls.callWith_builtin (by show(false||(backTo cpos (starEach es X.env)).any (·.1))=false;rw[z]<;>rfl) (Calls.evalArgs_plain ?_);show Al M λus s2⟨vs,H2,I2,r2,q2⟩=>hm zF s2 Z H2 x vs v us Q I2 L r2 q2
end
def yZ(X:Cx)(id:String)(r:V->List V->Hp->VK->Prop):Prop:=
 ∀(zF:List (Addr×Obj))(s:Shared)(Z:St)(H:Hp)(x:V)(xs:List V)(v:Value)(us:List Value)(Q:VK),Inv X zF Z H s->zv x v->zC xs us->r x xs H Q->
  wpAny (model X.prog X.w) X.A (call (.builtin id) (v::us)) (EP X zF Z Q) X.xe s
def zC.one:∀{x:V}{us:List Value},zC [x] us->∃u,us=[u]/\zv x u:=by
 intro x us h;cases h with
 |cons r t=>cases t;show#[_,rfl,r]
def zC.eraseIdx:∀{xs:List V}{us:List Value}(i:Nat),zC xs us->zC (xs.eraseIdx i) (us.eraseIdx i)
 |_,_,_,.nil=>.nil
 |_,_,0,.cons _ t=>t
 |_,_,i+1,.cons r t=>.cons r (zC.eraseIdx i t)
def MV{α:Type}:∀(l:List α)(i:Nat),(l.eraseIdx i).length<=l.length
 |[],_=>q5 _
 |_::_,0=>le_succ _
 |_::r,i+1=>Nat.succ_le_succ (MV r i)
def Inv.lset{v its':List Value}(I:Inv X zF Z H s)(J:H l=some (.lst xs))
  (e:s.heap.get? l=some {cls:=.type "list",data:=.seq v.toArray n})(F:f v.toArray=its'.toArray)(z:zC ys its')(hz:ys.length<=sizeLine):
  Inv X zF Z (upd H l (.lst ys)) {s with heap:=s.heap.update l (Obj.mapSeq f),toks:=t'}:=by
 let q:=PySem.IsL.update e f;rw[F]at q;show I.write (x:=l) (e:=l) (by rw[J];show trivial) (.inl rfl) (λL u G B=>(q8 s.heap (Obj.mapSeq f) (Ne.symm G)).trans B) #[_,q] ?_;show#[hz,its',_,z,q]
def Inv.lnew(I:Inv X zF Z H s)(z:zC ys v)(hz:ys.length<=sizeLine):
  Inv X zF Z (upd H s.heap.objs.size (.lst ys)) {s with heap:=s.heap.push {cls:=.type "list",data:=.seq v.toArray},toks:=t'}:=
 I.laid (λ_ _ q=>qc _ q) (q5 _) #[hz,v,0,z,qd _ rfl]
def Inv.fresh(I:Inv X zF Z H s):H s.heap.objs.size=none:=I.hok.fresh (q5 _)
def Inv.lstM(I:Inv X zF Z H s)(B:H l=some (.lst xs)):xs.length<=sizeLine/\∃(v:List Value)(n:Nat),zC xs v/\xs.length=v.length/\s.heap.get? l=some {cls:=.type "list",data:=.seq v.toArray n}:=by let#[z,v,n,r,e]:=I.hok l _ B;show#[z,v,n,r,r.length,e]
def Ea(h:n<=sizeLine):Builtin.List.listTooLong n=false:=by grind[Builtin.List.listTooLong]
def oH:V->List V->Hp->VK->Prop:=λx v H Q=>∃l xs y,x=.ref l/\v=[y]/\H l=some (.lst xs)/\xs.length<sizeLine/\Q .non (upd H l (.lst (xs++[y])))
def Jx:yZ X "list.append" oH:=by intro zF s Z H x O v Y Q I J L h;let#[l,xs,y,rfl,rfl,G,hz,q]:=h;cases J;let#[u,rfl,M]:=L.one;let#[z,B,n,r,hl,e]:=I.lstM G;show call_meets F.slot_list_append #[_,e,rfl] F.entry_list_append (F.args_list_append_2 _ _) (PySem.list_append l B.toArray n u (by rw[qr];lia)) #[e,?_];show#[.non,_,I.lset (its':=B++[u]) G e (by simp) (r.append (.cons M .nil)) ?_,rfl,q];rw[qq,qB];lia
def oG:V->List V->Hp->VK->Prop:=λx z H Q=>∃l b xs v,x=.ref l/\z=[.ref b]/\H l=some (.lst xs)/\H b=some (.lst v)/\xs.length+v.length<=sizeLine/\Q .non (upd H l (.lst (xs++v)))
def UC:yZ X "list.extend" oG:=by
 intro zF s Z H x vs v us Q I M O h;let#[l,b,xs,zs,rfl,rfl,L,hB,hz,q]:=h;cases M;let#[u,rfl,Y]:=O.one;cases Y;let#[z,G,n,r,hl,e]:=I.lstM L;let#[z2,B,n2,r2,h2,e2]:=I.lstM hB;let h1:G.toArray.size+B.toArray.size<=sizeLine:=by rw[qr,qr];lia
 let J:¬(!G.toArray.isEmpty&&Builtin.List.listTooLong (G.toArray.size+B.toArray.size))=true:=by grind[Ea]
 refine call_meets F.slot_list_extend #[_,e,rfl] F.entry_list_extend (F.args_list_extend_2 _ _)
  (AutoSeq1.list_extend_list_list_0 l G.toArray n b B.toArray n2 J (by rw[qr];lia) ∅) #[e,e2,?_]
 show#[.non,_,I.lset (its':=G++B) L e (by simp) (r.append r2) ?_,rfl,q];rw[qq];lia
def tO:V->List V->Hp->VK->Prop:=λx v H Q=>∃l xs i k y,x=.ref l/\v=[.int i]/\H l=some (.lst xs)/\-(2^63)<=i/\i<2^63/\seqIndex? i xs.length=some k/\xs[k]?=some y/\Q y (upd H l (.lst (xs.eraseIdx k)))
def Rx:yZ X "list.pop" tO:=by
 intro zF s Z H x vs v us Q I L M h;let#[l,xs,i,k,y,rfl,rfl,J,h1,h2,hk,Y,q]:=h;cases L;let#[u,rfl,O]:=M.one;let#[t,rfl]:=O;let#[z,B,n,r,hl,e]:=I.lstM J;let#[w,hw,G]:=r.get Y;refine call_meets F.slot_list_pop #[_,e,rfl] F.entry_list_pop (F.args_list_pop_2 _ _)
  (MeetsSeq.list_pop_at l B.toArray n i t k w (fitsIndex_both h1 h2) (by rw[qr,<-hl];show hk) (by rw[<-qY];show hw) (by rw[qr];lia)) #[e,?_]
 show#[y,_,I.lset (its':=B.eraseIdx k) J e ?_ (r.eraseIdx k) ?_,G,q]
 .show B.toArray.eraseIdxIfInBounds k=(B.eraseIdx k).toArray;rw[List.eraseIdxIfInBounds_toArray]
 .let:=MV xs k;lia
end L2
namespace Att
open PySem PySem.W PySem.Calls PyProof.Rows
def Wa:∀(ns:List Int)(vs:List Value),WellAll P h vs (ns.map WData.int)->IntsAre vs ns:=by
 intro ns;induction ns with
 |nil=>intro vs w;cases w;show .nil
 |cons n ns v=>
  intro vs w;cases w with
  |cons a b=>cases a;show .cons _ _ (v _ b)
def TQ{l:OpenLaw}(hn:l.most=some n)
  (v:l.row.toRowW.claim.pre args=true)(G:WellAll P h vals args):
  ∃a vs ns,vals=[Value.ref a]/\args=[WData.list (ns.map WData.int)]/\h.get? a=some {cls:=.type "list",data:=.seq vs.toArray}/\IntsAre vs ns/\ns.length<=n:=by
 have J:WShape.hasAll [] args [.list .int]=true:=(pre_splitW v).1;let Y:l.pre.holds [] {args:=args}=true:=(pre_splitW v).2;let#[d,r,rfl,h1,h2]:=hasAllW_cons J;obtain rfl:=hasAllW_nil h2;let#[xs,rfl,h3]:=hasW_list h1;let#[ns,rfl]:=items_int h3;let z:ns.length<=n:=by
  let F:(WTm.not (.lt (.lit (.int (n:Int))) (.len (.arg 0)))).holds [] {args:=[.list (ns.map .int)]}=true:=by let F:=(holds_andW Y).1;rw[hn]at F;show F
  let h5:=condW_of F (w_not (w_lt w_lit (w_len_list (w_arg rfl))));grind
 cases G with
 |cons M L=>
  cases L;cases M with
  |list O B=>show#[_,_,ns,rfl,rfl,O,Wa ns _ B,z]
def Uz(l:OpenLaw)(args:List WData):l.row.toRowW.claim.post args (.bool true) args=true:=
 postW_of (r:=l.row.toRowW) (X:=(true==true))
  (show WShape.has [] (.bool true) .bool=true by first|rfl|decide|simp)
  (show(WTm.eq .res (.lit (.bool true))).value [] {args:=args,res:=some (.bool true),after:=args}=some (.bool (true==true)) from w_eq_bool (w_res rfl) w_lit) rfl
theorem attach_call{l:OpenLaw}
  (hn:l.most=some n)(h6:d.params.defaults=[])
  (call:∀(w:World)(z v:Shared)(mg mb:Str->Option Value)(O:Addr)(o:Obj)(pm cd F:Value)(a:Addr)(vs:List Value)(ns:List Int),
   Ground q loose [] XP w z mg mb v.heap->YP w v.heap->
   v.heap.get? O=some o->o.data=.func (docDef d.name d.params d.body d.scope pm cd F)->v.heap.CodeRec cd d.name->mg d.name=some (.ref O)->
   v.heap.get? a=some {cls:=.type "list",data:=.seq vs.toArray}->IntsAre vs ns->ns.length<=n->v.gens=#[]->
   codeAny (model l.prog w) callerA (.call (.ref O) #[[.ref a],[]]) (λr s'=>r=.ok (.ret (.bool true))/\OldK v.heap s'.heap/\s'.os=v.os/\AllBare s'.gens) v):
  WalkO q loose XP YP l.row.toRowW d [] (λf vs=>PySem.call f vs):=by
 intro w z v mg mb G Y O o pm cd F dV kV ho hd h7 hD h5 hg args h8 as J h9 e1 h1 e2;obtain rfl:dV=.none:=Dflts.none hD h6;obtain rfl:kV=.none:=Dflts.noKw hD;let#[a,vs,ns,rfl,rfl,L,B,M]:=TQ hn J h1;show enter_call (codeAny_mono (call w z v mg mb O o pm cd F a vs ns G Y ho (fd_plain hd) h7 h5 L B M hg) λr s' hq=>?_);let#[rfl,h2,h3,h4]:=hq;show#[.inl #[.bool true,.bool true,[],rfl,λ_=>rfl,.bool true,Uz l _,λ_=>#[List.Pairwise.nil,λ_ hm=>(nomatch hm)]],h2,h3,h4]
end Att
namespace L2
open PySem PySem.Spec PyProof.Rows
def Gv:∀{vs:List Value}{ns:List Int},IntsAre vs ns->zC (ns.map V.int) vs
 |_,_,.nil=>.nil
 |_,_,.cons n t h=>.cons #[t,rfl] (Gv h)
def vR(H:Hp):Prop:=∀b,H b=none\/∃o xs,H b=some (.frz o (.lst xs))
def SY{K:W.Frag}
  (KX:K.In B.heap)(h5:B.heap.Ns mainGlobals mg)(O:B.heap.Ns builtinsNs mb)(e3:∀x:Str,x≠"__name__"->mb x=bootBuiltins x)(h6:B.heap.NoLimit)(hg:B.gens=#[])
  (ha:B.heap.get? a=some {cls:=.type "list",data:=.seq vs.toArray})(hi:IntsAre vs ns)(hl:ns.length<=sizeLine)(hr:bR k callerA)
  (F:∀base:Heap,K.In base->base.Ns mainGlobals mg->eY P w K mg base CX k fa fd [x] sp)(M:∀(s:Shared)(u:Value),BindsTo s fd #[[u],[]] [(x,u)])
  (h9:∀H:Hp,vR H->bL K H a (ns.map V.int)->sp [.ref a] H (λv _=>v=.bl true) λ_ _ _=>False)
  (e4:∀H e s',CX [] H B (λ_ _ _=>False) e s'->False):
  codeAny (model P w) callerA (.call (.ref fa) #[[.ref a],[]]) (λr s'=>r=.ok (.ret (.bool true))/\OldK B.heap s'.heap/\s'.os=B.os/\AllBare s'.gens) B:=by
 let rv:=Gv hi;let Y:=hi.length
 --from an abstract heap in which nothing but the script may be tracked
 have L:∀H:Hp,vR H->bL K H a (ns.map V.int)->dY P w H B.heap->(∀b,H b≠none->b=a)->(H a≠none->K.lookup a=none)->
   codeAny (model P w) callerA (.call (.ref fa) #[[.ref a],[]]) (λr s'=>r=.ok (.ret (.bool true))/\OldK B.heap s'.heap/\s'.os=B.os/\AllBare s'.gens) B:=by
  intro H hO hS h4 hA hK;let G:∀{b:Addr}{o:Obj},B.heap.get? b=some o->H b=none->(gU B.heap H).get? b=some o:=λe n=>Rj e n;let h8:∀{b:Addr}{o:Obj}{es:Array DictEntry}{ep:Nat},B.heap.get? b=some o->o.data=.dict es ep->H b=none:=λ{b o es ep} e d=>by
   cases q:H b with
   |none=>rfl
   |some u=>grind
  let J:∀{b:Addr}{m:Str->Option Value},B.heap.Ns b m->(gU B.heap H).Ns b m:=λ{b m}⟨o,es,ep,e,d,r⟩=>#[o,es,ep,G e (h8 e d),d,r]
  have h7:K.In (gU B.heap H):=λb o e=>G (KX b o e) (by
   cases q:H b with
   |none=>rfl
   |some u=>have e':b=a:=hA b (by rw[q];simp);subst e';rw[hK (by rw[q];simp)]at e;cases e)
  let hM:Mod K mg (gU B.heap H):=#[h7,J h5,#[mb,J O,e3],let#[mc,h1,h2]:=h6;#[mc,J h1,h2]]
  let e0:pZ P w K mg (gU B.heap H) callerA [] B H:=#[rfl,hM,λb o e=>QR e,Nat.le_of_eq (UJ _ _),trivial,λb O=>absurd (show b∈([]:List Addr) from O) (by simp),h4,.of_eq hg]
  show codeAny_mono ((F _ h7 (J h5)).run callerA [] B H #[[.ref a],[]] [.ref a] [.ref a] _ _ hr e0 (M B (.ref a)) (.cons rfl .nil) (h9 H hO hS)) λr s' h=>?_;cases r with
  |error e=>show(e4 H e s' h).elim
  |ok fl=>
   cases fl with
   |next=>show False.elim h
   |brk=>show False.elim h
   |cont=>show False.elim h
   |ret u=>
    let#[v,H',os,bare,un,h3,r',q]:=h;let q':v=.bl true:=q;subst q';obtain rfl:u=Value.bool true:=r';show#[rfl,OldK.of_keep λb o e=>?_,os,bare];cases q:H b with
    |none=>show un.keep b o e q (by intro z;show absurd (show b∈([]:List Addr) from z) (by simp)) (by simp)
    |some u=>
     rcases hO b with z|⟨ob,xs,z⟩
     .rw[q]at z;cases z
     .let z2:=un.frzs b ob _ z;let#[e1,_]:=h4 b _ z;let#[e2,_]:=h3 b _ z2;rw[e]at e1;cases e1;show e2
 cases hk:K.lookup a with
 |some o=>
  --the script is one of the module's own objects
  let e:=KX a o hk;rw[ha]at e;cases e;show L (λ_=>none) (λ_=>.inl rfl) (.inr #[_,vs.toArray,_,hk,rfl,rfl,rfl,by rw[qr,Y];show hl,rv]) (λb u z=>by let z':(none:Option HO)=some u:=z;cases z') (λb z=>absurd rfl z) λz=>absurd rfl z
 |none=>
  show L (λb=>if b=a then some (.frz {cls:=.type "list",data:=.seq vs.toArray} (.lst (ns.map V.int)))else none) (λb=>?_) (.inl (.inr #[{cls:=.type "list",data:=.seq vs.toArray},qZ rfl])) (λb u z=>?_) (λb z=>?_) λ_=>hk
  .grind
  .by_cases O:b=a
   .let z':=(qZ O).symm.trans z;cases z';subst O;show#[ha,by rw[qo];show hl,vs,_,rv,ha]
   grind
  grind
theorem walk_of{l:W.OpenLaw}{K:Params->W.Frag}{CX:World->zT}{sp:World->Sp}
  (hn:l.most=some n)(h1:n<=sizeLine)(h3:d.params.defaults=[])(hr:bR k callerA)
  (hY:∀(w:World)(h:Heap),YP w h->(K w.params).In h)
  (F:∀(w:World)(mg:Str->Option Value)(M:Addr)(h:Heap),(K w.params).In h->h.Ns mainGlobals mg->mg d.name=some (.ref M)->
   ∃fd:FuncData,(∀(s:Shared)(u:Value),BindsTo s fd #[[u],[]] [(x,u)])/\
    ∀base:Heap,(K w.params).In base->base.Ns mainGlobals mg->eY l.prog w (K w.params) mg base (CX w) k M fd [x] (sp w))
  (O:∀(w:World)(H:Hp)(a:Addr)(ns:List Int),ns.length<=n->vR H->bL (K w.params) H a (ns.map V.int)->sp w [.ref a] H (λv _=>v=.bl true) λ_ _ _=>False)
  (h4:∀(w:World)(H:Hp)(s:Shared)(e:Value)(s':Shared),CX w [] H s (λ_ _ _=>False) e s'->False):
  W.WalkO q loose XP YP l.row.toRowW d [] (λf vs=>PySem.call f vs):=by
 show Att.attach_call hn h3 λw h5 J mg mb M o pm cd h7 a vs ns G Y ho hd h6 h2 L B z hg=>?_;let KX:=hY w _ Y;let#[fd,hb,hF]:=F w mg M _ KX G.T.g h2;show SY KX G.T.g G.T.b G.T.builtins G.T.nolimit hg L B (le_trans z h1) hr hF hb (λH hO hS=>O w H a ns z hO hS) λH e s'=>h4 w H J e s'
def dH(s:Stmt):Arguments:=match s with
 |.FunctionDef _ a _ _ _ _ _ _ _ _=>a
 |_=>{posonlyargs:=[],args:=[],vararg:=none,kwonlyargs:=[],kw_defaults:=[],kwarg:=none,defaults:=[]}
def cE(s:Stmt):List Stmt:=match s with
 |.FunctionDef _ _ b _ _ _ _ _ _ _=>b
 |_=>[]
def aA(s:Stmt):Scope:=match s with
 |.FunctionDef _ _ _ _ _ _ sc _ _ _=>sc
 |_=>{kind:=.function,names:=[],isGenerator:=false,isCoroutine:=false}
structure vS(K:W.Frag)(x qual:Str)(st:Stmt)(f:Addr)(fd:FuncData):Prop where
 ex:∃(oc:Value)(od:Option Addr)(kV doc pm:Value)(an:Option Addr)(cdv ct:Value)(osl:Array (Option Value)),
  fd=W.fnOf x qual (dH st) (cE st) (aA st) .none kV doc pm an cdv ct/\K.lookup f=some #[oc,od,.func fd,osl]/\W.codeIn K cdv qual=true
 kp:W.keepIn K (.ref f)=true
section
variable{K:W.Frag}
def vS.binds{st:Stmt}(F:vS K x qual st f fd)
  (h:∀(kV v B:Value)(G:Option Addr)(z ct:Value)(us:List Value),us.length=ps.length->bindArgs (W.fnOf x qual (dH st) (cE st) (aA st) .none kV v B G z ct) #[us,[]]=pure (ps.zip us)):Binds K fd ps []:=by
 let#[O,M,kV,v,B,G,z,ct,J,rfl,lk,L]:=F.ex;show .all (h kV v B G z ct)
def Ou{st:Stmt}{kV z B v ct:Value}(l:K.lookup f=some #[L,J,.func (W.fnOf x qual (dH st) (cE st) (aA st) .none kV z B G v ct),F])
  (c:W.codeIn K v qual=true)(k:W.keepIn K (.ref f)=true):vS K x qual st f (W.fnOf x qual (dH st) (cE st) (aA st) .none kV z B G v ct):=#[#[L,J,kV,z,B,G,v,ct,F,rfl,l,c],k]
end
def Fp(v:bR k A):A.units+1<cLine:=lt_of_le_of_lt (Nat.add_le_add_left (by decide:1<=64) _) v.units
def zp(H H':Hp):Prop:=∀b o,H b=some o->H' b=some o
def zp.refl(H:Hp):zp H H:=λ_ _ h=>h
def zp.trans(a:zp H H1)(b:zp H1 H2):zp H H2:=λc o h=>b c o (a c o h)
def zE.there(x:zE P w H h a o):∃u,h.get? a=some u:=by
 cases o with
 |lst xs=>let#[_,_,_,_,e]:=x;show#[_,e]
 |tup xs=>let#[_,_,_,u,e,_]:=x;show#[_,e]
 |dK v=>let#[_,_,_,_,o,_,_,e,_]:=x;show#[_,e]
 |dT v=>let#[_,_,_,_,o,_,_,e,_]:=x;show#[_,e]
 |set z=>
  rcases x with⟨_,⟨_,e⟩|⟨_,_,_,_,_,_,_,e,_⟩|⟨_,_,_,_,_,_,_,_,e,_⟩⟩
  .show#[_,e]
  .show#[_,e]
  .show#[_,e]
 |ins C F fs=>let#[_,_,_,e,_]:=x;show#[_,e]
 |own y=>show x
 |xd fs=>let#[_,#[_,_,_,e,_],_]:=x;show#[_,e]
 |rng lo hi=>let#[_,_,_,e]:=x;show#[_,e]
 |frz B u=>show#[_,x.1]
 |tbl ps=>show#[_,(show h.get? a=some _ from x)]
 |met f y=>show#[_,(show h.get? a=some _ from x)]
 |ext φ=>show x.2.1
def wH(X:Cx)(zF:List (Addr×Obj))(H:Hp)(h:Heap)(e:Addr)(cls:Value)(v:Option Addr):Prop:=False
def cW.few(f:cW X zF H b):cW X [] H b:=#[f.1,f.2.1,f.2.2.1,f.2.2.2.1,f.2.2.2.2.1,λp v=>f.2.2.2.2.2 p (qj _ ↑v)]
def wH.few(F:wH X zF H h e cls v):wH X [] H h e cls v:=(show False from F).elim
def Inv.few(I:Inv X zF Z H s):Inv X [] Z H s:=I.pins_of λp v=>I.pin p (qj _ ↑v)
def iN(P:Program)(w:World):zT:=λ_ _ _ _ _ _=>False
section
variable{K:W.Frag}
def Tg(I:Inv (eW (iN P w) P w K mg base N qual scope f v A outer s H E) [] Z H' s')(F:wH (eW (iN P w) P w K mg base N qual scope f v A outer s H E) [] H' s'.heap e cls z)(q:E cls z H'):
  (eW (iN P w) P w K mg base N qual scope f v A outer s H E).xe (.ref e) s':=(show False from F).elim
end
@[inline]def XW(X:Cx)(Z:St):XK:=λcls v H'=>∀(a:Addr)(s':Shared),Inv X [] Z H' s'->wH X [] H' s'.heap a cls v->X.xe (.ref a) s'
def sY(X:Cx)(sp:Sp)(t:TA):TE:=λZ H Q=>t Z H λv H1=>sp v H1 Q (XW X Z)
def Sw(F:eY X.prog X.w X.K X.mg X.base (iN X.prog X.w) k f fd ps sp)(Y:bR k X.A)(hg:Gl X x)(hm:X.mg x=some (.ref f))(hk:W.keepIn X.K (.ref f)=true)(hb:Binds X.K fd ps [])
  (ha:PA X (e::es) t)(J:(x==("__debug__":Str))=false:=by decide)(he:starEach (e::es) X.env=(false,eval e X.env)::starEach es X.env:=by rfl)(G:(backTo pos (starEach es X.env)).any (·.1)=false:=by rfl):
  PE X (.Call (.Name x p) (e::es) [] pos) (sY X sp t):=by
 intro zF s Z H Q I h;show wpAny_Call_Name_kw (QP I hg hm ?_ J);show W.callWith_K (h₀:=X.base) I.ok.mod.kin hk (Al (ha pos zF s Z H _ I h) λz L M=>?_) he G;let#[O,H1,B,r,q]:=M;show#[B.kIn,?_];let hl:(z++[]).length=ps.length:=by rw[qz,<-r.length];show F.len _ _ _ _ q
 show wpAny_call (codeAny_mono (F.run X.A X.stack L H1 #[z,[]] z O Q (XW X Z) Y B.env0 (by let:=hb L z B.kIn hl;rwa[qz]at this) r q) λr s' v=>?_);cases r with
 |error e=>show(show False from v).elim
 |ok fl=>
  cases fl with
  |ret u=>show B.after v
  |next=>show False.elim v
  |brk=>show False.elim v
  |cont=>show False.elim v
section
variable{K:W.Frag}
def vS.okX{st:Stmt}(F:vS K x qual st f fd)(S:aH N ps (aA st))(len:∀vs H Q E,sp vs H Q E->vs.length=ps.length)
  (B:∀(z:Value)(A:Around)(v:List Env)(s:Shared)(H:Hp)(vs:List V)(Q:VK)(E:XK),bR k (A.deeper (envOfC qual (aA st) s.heap.objs.size f z))->sp vs H Q E->
   ∃t,iO (eW (iN P w) P w K mg base N qual (aA st) f z A v s H E) (cE st) t/\t {nx:=λ_ H'=>Q .non H',rt:=Q} (start N vs) H):eY P w K mg base (iN P w) (k+1) f fd ps sp:=by
 let#[oc,od,kV,O,Y,an,z,ct,L,rfl,lk,J]:=F.ex;show Ob lk J S len λA v s H vs Q E M G=>B z A v s H vs Q E M G
end
end L2
namespace FL
open PySem
inductive D where
 |non
 |bl(b:Bool)
 |int(i:Int)
 |str(l:List Nat)
 |tup(l:List D)
 |lst(l:List D)
 |dct(t:Bool)(ks vs:List D)
 |set(l:List D)
 |exc(c:List Nat)(fs:List (List Nat))(vs:List D)
 deriving Inhabited
inductive S where
 |sh(d:D)
 |lst(l:List S)
 |dct(t:Bool)(ks:List D)(vs:List S)
 |set(l:List D)
 deriving Inhabited
mutual
@[inline]def S.toD:S->D
 |.sh d=>d
 |.lst l=>.lst (S.toDs l)
 |.dct t ks vs=>.dct t ks (S.toDs vs)
 |.set l=>.set l
@[inline]def S.toDs:List S->List D
 |[]=>[]
 |s::r=>S.toD s::S.toDs r
end
@[simp] theorem S.toDs_map:∀l:List S,S.toDs l=l.map S.toD
  |[]=>rfl
  |s::r=>by rw[S.toDs,S.toDs_map r,qy]
@[simp] theorem S.toD_sh(d:D):(S.sh d).toD=d:=rfl
@[simp] theorem S.toD_lst(l:List S):(S.lst l).toD=.lst (l.map S.toD):=by rw[<-S.toDs_map];rfl
@[simp] theorem S.toD_dct(t:Bool)(ks:List D)(l:List S):(S.dct t ks l).toD=.dct t ks (l.map S.toD):=by rw[<-S.toDs_map];rfl
@[simp] theorem S.toD_set(l:List D):(S.set l).toD=.set l:=rfl
@[inline]def S.isSh:S->Bool
 |.sh _=>true
 |_=>false
@[inline]def S.flat:S->Bool
 |.sh _=>true
 |.lst l=>l.all S.isSh
 |.dct _ _ vs=>vs.all S.isSh
 |.set _=>false
inductive R where
 |v(s:S)
 |loc(i:Nat)
abbrev Env:=List (Option S)
abbrev WQ:=R->Env->Prop
abbrev WX:=D->Env->Prop
@[inline]def NX:WX:=λ_ _=>False
abbrev WE:=Env->WQ->WX->Prop
abbrev WT:=Env->(Bool->Env->Prop)->WX->Prop
abbrev WA:=Env->(List R->Env->Prop)->WX->Prop
structure Ends where
 nx:Env->Prop
 rt:WQ
 bk:Env->Prop
 ct:Env->Prop
 ex:WX
abbrev WS:=Ends->Env->Prop
def slot(U:Env)(i:Nat):Option S:=match U,i with
 |[],_=>none
 |s::_,0=>s
 |_::r,i+1=>slot r i
@[simp] theorem Wp(s:Option S)(r:Env):slot (s::r) 0=s:=rfl
@[simp] theorem Wm(s:Option S)(r:Env)(i:Nat):slot (s::r) (i+1)=slot r i:=rfl
def view(r:R)(U:Env):Option D:=match r with
 |.v s=>some s.toD
 |.loc i=>(slot U i).map S.toD
def zB(r:R)(U:Env):Option D:=match r with
 |.v s=>some s.toD
 |.loc i=>match slot U i with
  |some s=>if s.flat then some s.toD else none
  |none=>none
def give(r:R)(U:Env):Option (S×Env):=match r with
 |.v s=>some (s,U)
 |.loc i=>match slot U i with
  |some s=>some (.sh s.toD,U.set i (some (.sh s.toD)))
  |none=>none
def aK:List R->Env->Option (List S×Env)
 |[],U=>some ([],U)
 |r::rs,U=>match give r U with
  |some (s,U1)=>match aK rs U1 with
   |some (ss,U2)=>some (s::ss,U2)
   |none=>none
  |none=>none
def ixN(n:Nat)(i:Int):Option Nat:=if 0<=i then(if i<n then some i.toNat else none)else if -(n:Int)<=i then some (i+n).toNat else none
def atI{α:Type}(xs:List α)(i:Int):Option α:=(ixN xs.length i).bind λj=>xs[j]?
def sIx(n d:Nat):Option Int->Nat
 |none=>d
 |some i=>if i<0 then(i+n).toNat else min i.toNat n
def cK{α:Type}(xs:List α)(lo hi:Option Int):List α:=(xs.drop (sIx xs.length 0 lo)).take (sIx xs.length xs.length hi-sIx xs.length 0 lo)
def big:Nat:=1000000
def zo{α:Type}(o:Option α)(k:α->Prop):Prop:=match o with
 |some a=>k a
 |none=>False
@[simp] theorem MX{α:Type}(a:α)(k:α->Prop):zo (some a) k=k a:=rfl
@[simp] theorem Wq{α:Type}(k:α->Prop):zo (none:Option α) k=False:=rfl
@[simp] theorem Wo{α:Type}{c:Prop}[Decidable c](a:α)(k:α->Prop):zo (if c then some a else none) k=(c/\k a):=by by_cases h:c<;>simp[h]
def zj(i:Nat):WE:=λU Q _=>match slot U i with
 |some (.sh d)=>Q (.v (.sh d)) U
 |some _=>Q (.loc i) U
 |none=>False
def wC(d:D):WE:=λU Q _=>Q (.v (.sh d)) U
def zx(B:D->D->Option S)(a b:WE):WE:=λU Q E=>a U (λx z=>b z (λy v=>zo (zB x v) λp=>zo (zB y v) λq=>zo (B p q) λs=>Q (.v s) v) E) E
def wL(z:D->Option S)(a:WE):WE:=λU Q E=>a U (λx v=>zo (zB x v) λp=>zo (z p) λs=>Q (.v s) v) E
def bE:D->D->Option S
 |.int i,.int j=>some (.sh (.int (i+j)))
 |.str x,.str y=>if x.length+y.length<=big then some (.sh (.str (x++y)))else none
 |.lst x,.lst y=>if x.length+y.length<=big then some (.lst ((x++y).map .sh))else none
 |.tup x,.tup y=>if x.length+y.length<=big then some (.sh (.tup (x++y)))else none
 |_,_=>none
def lY:D->D->Option S
 |.int i,.int j=>some (.sh (.int (i-j)))
 |_,_=>none
def kD(i j:Int):Bool:=(decide (-(2^64)<i)&&decide (i<2^64))||(decide (-(2^64)<j)&&decide (j<2^64))
def mA:D->D->Option S
 |.int i,.int j=>if kD i j then some (.sh (.int (i*j)))else none
 |_,_=>none
def gF:D->D->Option S
 |.int i,.int j=>if 0<j/\j<18446744073709551616 then some (.sh (.int (i/j)))else none
 |_,_=>none
def eU:D->D->Option S
 |.int i,.int j=>if 0<j then some (.sh (.int (i %j)))else none
 |_,_=>none
def lZ:D->D->Option S
 |.int i,.int j=>if 0<=j/\j<=1000/\i.natAbs<2^64 then some (.sh (.int (i^j.toNat)))else none
 |_,_=>none
def kO:D->Option S
 |.int i=>some (.sh (.int (-i)))
 |_=>none
mutual
def aO:D->D->Bool
 |.tup l,.tup m=>bH l m
 |.lst l,.lst m=>bH l m
 |.int _,.int _=>false
 |.int _,.str _=>false
 |.int _,.non=>false
 |.str _,.int _=>false
 |.str _,.str _=>false
 |.str _,.non=>false
 |.str _,.bl _=>false
 |.bl _,.bl _=>false
 |.bl _,.str _=>false
 |.bl _,.non=>false
 |.non,.int _=>false
 |.non,.str _=>false
 |.non,.bl _=>false
 |.non,.non=>false
 |_,_=>true
def bH:List D->List D->Bool
 |a::l,b::m=>aO a b||bH l m
 |_,_=>false
end
mutual
def eG:D->Nat
 |.tup l=>bG l+1
 |.lst l=>bG l+1
 |_=>0
def bG:List D->Nat
 |[]=>0
 |a::l=>max (eG a) (bG l)
end
open Classical in
def fC(a b:D):Option Bool:=if aO a b||decide (30<eG a)then none else some (decide (a=b))
def eI(a b:D):Option Bool:=(fC a b).map (!·)
def ae:D->D->Option Bool
 |.int i,.int j=>some (decide (i<j))
 |.str x,.str y=>some (decide (x<y))
 |_,_=>none
def ak(a b:D):Option Bool:=ae a b
def pV(a b:D):Option Bool:=ae b a
def ao:D->D->Option Bool
 |.int i,.int j=>some (decide (j<=i))
 |.str x,.str y=>some (!decide (x<y))
 |_,_=>none
def bQ:D->Bool
 |.int _=>true
 |.str _=>true
 |_=>false
def aV:Bool->D->Bool
 |true,.tup l=>l.all bQ
 |false,d=>bQ d
 |_,_=>false
open Classical in
def pU(a:D):D->Option Bool
 |.lst l=>if l.any (λx=>aO x a||decide (30<eG x))then none else some (decide (a∈l))
 |.tup l=>if l.any (λx=>aO x a||decide (30<eG x))then none else some (decide (a∈l))
 |.dct t ks _=>if aV t a then some (decide (a∈ks))else none
 |_=>none
open Classical in
def yK(a:D):D->Option Bool
 |.non=>some (decide (a=.non))
 |.bl b=>some (decide (a=.bl b))
 |_=>none
def dE(a b:D):Option Bool:=(yK a b).map (!·)
def hW:D->Option Bool
 |.non=>some false
 |.bl b=>some b
 |.int i=>some (decide (i≠0))
 |.str l=>some (!l.isEmpty)
 |.tup l=>some (!l.isEmpty)
 |.lst l=>some (!l.isEmpty)
 |_=>none
def aW(B:D->D->Option Bool)(a b:WE):WT:=λU Q E=>a U (λx z=>b z (λy v=>zo (view x v) λp=>zo (view y v) λq=>zo (B p q) λc=>Q c v) E) E
def gD(a:WE):WT:=λU Q E=>a U (λx v=>zo (view x v) λp=>zo (hW p) λc=>Q c v) E
def gC(a b:WT):WT:=λU Q E=>a U (λc v=>if c then b v Q E else Q false v) E
def lA(a b:WT):WT:=λU Q E=>a U (λc v=>if c then Q true v else b v Q E) E
def gB(a:WT):WT:=λU Q E=>a U (λc v=>Q (!c) v) E
def fG(t:WT):WE:=λU Q E=>t U (λc v=>Q (.v (.sh (.bl c))) v) E
def zl:WA:=λU Q _=>Q [] U
def zk(a:WE)(b:WA):WA:=λU Q E=>a U (λr z=>b z (λB v=>Q (r::B) v) E) E
def dJ(a:WA):WE:=λU Q E=>a U (λz v=>zo (if z.length<=big then aK z v else none) λp=>Q (.v (.sh (.tup (p.1.map S.toD)))) p.2) E
def cZ(a:WA):WE:=λU Q E=>a U (λz v=>zo (if z.length<=big then aK z v else none) λp=>Q (.v (.lst p.1)) p.2) E
def hV(t:Bool):WE:=λU Q _=>Q (.v (.dct t [] [])) U
open Classical in
def lk{α:Type}:List D->List α->D->Option α
 |k'::ks,v::vs,k=>if k'=k then some v else lk ks vs k
 |_,_,_=>none
def jE:S->D->Option S
 |.sh (.tup l),.int i=>(atI l i).map .sh
 |.sh (.lst l),.int i=>(atI l i).map .sh
 |.sh (.str l),.int i=>(atI l i).map λc=>.sh (.str [c])
 |.lst l,.int i=>atI l i
 |_,_=>none
def cX(a b:WE):WE:=λU Q E=>a U (λx z=>b z (λy v=>zo (view y v) λq=>match x with
 |.v s=>zo (jE s q) λt=>Q (.v t) v
 |.loc i=>match slot v i with
  |some s=>match jE s q with
   |some (.sh d)=>Q (.v (.sh d)) v
   |_=>False
  |none=>False) E) E
def eO(a:Option WE):Env->(Option Int->Env->Prop)->WX->Prop:=match a with
 |none=>λU Q _=>Q none U
 |some a=>λU Q E=>a U (λx v=>match view x v with
  |some (.int i)=>Q (some i) v
  |_=>False) E
def iY(d:D)(lo hi:Option Int):Option S:=match d with
 |.str l=>some (.sh (.str (cK l lo hi)))
 |.tup l=>some (.sh (.tup (cK l lo hi)))
 |.lst l=>some (.lst ((cK l lo hi).map .sh))
 |_=>none
def rB(a:WE)(lo hi:Option WE):WE:=λU Q E=>a U (λx B=>eO lo B (λl z=>eO hi z (λh v=>zo (zB x v) λd=>zo (iY d l h) λs=>Q (.v s) v) E) E) E
abbrev WF:=List S->(S->List S->Prop)->(D->List S->Prop)->Prop
def cF:List Bool->List R->Env->Option (List S×Env)
 |_,[],U=>some ([],U)
 |ms,.v s::rs,U=>match cF ms.tail rs U with
  |some (ss,U1)=>some (s::ss,U1)
  |none=>none
 |ms,.loc i::rs,U=>match slot U i with
  |some s=>if ms.headD false then(match cF ms.tail rs (U.set i none)with
   |some (ss,U1)=>some (s::ss,U1)
   |none=>none)
   else(match cF ms.tail rs (U.set i (some (.sh s.toD)))with
    |some (ss,U1)=>some (.sh s.toD::ss,U1)
    |none=>none)
  |none=>none
def back:List Bool->List R->List S->Env->Env
 |ms,.v _::rs,_::ss,U=>back ms.tail rs ss U
 |ms,.loc i::rs,s::ss,U=>if ms.headD false then back ms.tail rs ss (U.set i (some s))else back ms.tail rs ss U
 |_,_,_,U=>U
def zz(f:WF)(ms:List Bool)(a:WA):WE:=λU Q E=>a U (λB v=>zo (cF ms B v) λp=>f p.1 (λs z=>Q (.v s) (back ms B z p.2)) (λx z=>E x (back ms B z p.2))) E
def wB(f:List D->Option S)(a:WA):WE:=λU Q E=>a U (λz v=>zo (z.mapM λr=>zB r v) λB=>zo (f B) λs=>Q (.v s) v) E
def bX(j:Nat)(e:WE):WE:=λU Q E=>match slot U j with
 |some (.lst _)=>e U (λr v=>zo (give r v) λp=>match slot p.2 j with
  |some (.lst l)=>l.length<big/\Q (.v (.sh .non)) (p.2.set j (some (.lst (l++[p.1]))))
  |_=>False) E
 |_=>False
def cN:List D->Option S
 |[.str l]=>some (.sh (.int l.length))
 |[.tup l]=>some (.sh (.int l.length))
 |[.lst l]=>some (.sh (.int l.length))
 |_=>none
def jH:List D->Option S
 |[.int i]=>some (.sh (.int i))
 |[.bl b]=>some (.sh (.int (if b then 1 else 0)))
 |_=>none
def bU:List D->Option S
 |[.tup l]=>some (.sh (.tup l))
 |[.lst l]=>some (.sh (.tup l))
 |_=>none
def yL:List D->Option S
 |[.tup l]=>some (.lst (l.map .sh))
 |[.lst l]=>some (.lst (l.map .sh))
 |_=>none
def cC:WS:=λD U=>D.nx U
def zy(a b:WS):WS:=λD U=>a {D with nx:=b D} U
def hU(c:WT)(a b:WS):WS:=λD U=>c U (λk v=>if k then a D v else b D v) D.ex
def bM(a:WE):WS:=λD U=>a U D.rt D.ex
def wExpr(a:WE):WS:=λD U=>a U (λ_ v=>D.nx v) D.ex
abbrev WG:=S->Env->(Env->Prop)->Prop
def zm(i:Nat):WG:=λs U Q=>Q (U.set i (some s))
def dQ:List WG->List D->Env->(Env->Prop)->Prop
 |[],[],U,Q=>Q U
 |g::gs,d::ds,U,Q=>g (.sh d) U λv=>dQ gs ds v Q
 |_,_,_,_=>False
def cB(v:List WG):WG:=λs U Q=>match s.toD with
 |.tup ds=>ds.length=v.length/\dQ v ds U Q
 |_=>False
def fF(j:Nat)(i e:WE):WS:=λD U=>e U (λr B=>zj j B (λx z=>i z (λy v=>zo (view y v) λq=>zo (give r v) λp=>match x,q,slot p.2 j with
 |.loc k,.int n,some (.lst l)=>k=j/\zo (ixN l.length n) λm=>D.nx (p.2.set j (some (.lst (l.set m p.1))))
 |_,_,_=>False) D.ex) D.ex) D.ex
def zA(g:WG)(a:WE):WS:=λD U=>a U (λr v=>zo (give r v) λp=>g p.1 p.2 D.nx) D.ex
abbrev WI:=Env->(List D->Env->Prop)->WX->Prop
def items:D->Option (List D)
 |.lst l=>some l
 |.tup l=>some l
 |.str l=>some (l.map λc=>.str [c])
 |_=>none
def bI(a:WE):WI:=λU Q E=>a U (λr v=>zo (give r v) λp=>zo (items p.1.toD) λl=>Q l p.2) E
def fromTo(lo:Int)(n:Nat):List D:=(List.range n).map λ(k:Nat)=>.int (lo+(k:Int))
def aX(a:WE):WI:=λU Q E=>a U (λr v=>match view r v with
 |some (.int j)=>(-big<=j/\j<=big)/\Q (fromTo 0 j.toNat) v
 |_=>False) E
def bY(g:WG)(v:WS):List D->WS
 |[],D,U=>D.nx U
 |x::xs,D,U=>g (.sh x) U λz=>v {D with nx:=bY g v xs D,ct:=bY g v xs D,bk:=D.nx} z
def dU(it:WI)(g:WG)(v:WS):WS:=λD U=>it U (λl z=>bY g v l D z) D.ex
def fE(c:WT)(F:WS):WS:=λD U=>∃J:Nat->Env->Prop,(∃m,J m U)/\∀m U,J m U->c U (λk z=>if k then
 F {D with nx:=λv=>∃B,B<m/\J B v,ct:=λv=>∃B,B<m/\J B v,bk:=D.nx} z else D.nx z) D.ex
abbrev WB:=Env->(Env->Prop)->WX->Prop
def cJ:WT:=λU Q _=>Q true U
def aI(g:WG)(c:WT)(b:WB):List D->WB
 |[],U,Q,_=>Q U
 |x::xs,U,Q,E=>g (.sh x) U λB=>c B (λk v=>if k then b v (λz=>aI g c b xs z Q E) E else aI g c b xs v Q E) E
def mR(it:WI)(g:WG)(c:WT)(b:WB):WB:=λU Q E=>it U (λl v=>aI g c b l v Q E) E
def bS(n:Nat)(a:WE):WB:=λU Q E=>a U (λr v=>zo (give r v) λp=>match slot p.2 n with
 |some (.lst l)=>l.length<big/\Q (p.2.set n (some (.lst (l++[p.1]))))
 |_=>False) E
def iV(n k:Nat)(it:WI)(g:WG)(c:WT)(b:WB):WE:=λU Q E=>it U (λl z=>aI g c b l (z++some (.lst [])::List.replicate k none) (λv=>zo (slot v n) λs=>Q (.v s) (v.take n)) NX) E
def aB:List S->Env->Option (List S)
 |[],_=>some []
 |.sh d::ss,_::U=>(aB ss U).map (.sh d::·)
 |_::ss,some s::U=>(aB ss U).map (s::·)
 |_,_=>none
def fW(n m:Nat)(ks:List Nat)(z:WS):WF:=λv P PX=>v.length=n/\(∀i s,v[i]?=some s->i∈ks\/s.isSh=true)/\
 z {nx:=λU=>zo (aB v U) λfs=>P (.sh .non) fs
    rt:=λr U=>match r with
     |.v s=>zo (aB v U) λfs=>P s fs
     |.loc i=>zo (slot U i) λs=>if i<n then zo (aB v (U.set i (some (.sh s.toD)))) λfs=>P (.sh s.toD) fs else zo (aB v U) λfs=>P s fs
    bk:=λ_=>False
    ct:=λ_=>False
    ex:=λx U=>zo (aB v U) λfs=>PX x fs} (v.map some++List.replicate (m-n) none)
end FL
namespace FL
open PySem L2
def aG:aL->D
 |.inl i=>.int i
 |.inr x=>.str x.cps.toList
def gp(a C:Addr)(v:Option Addr)(h:Heap):Prop:=∃o vs,h.get? a=some o/\o.cls=.ref C/\o.dict=v/\o.data=.fields vs
def eB:HO->Bool
 |.tup _=>false
 |_=>true
def mU(F:Hp)(v:Option Addr)(fs:List (List Nat))(vs:List D):Prop:=(v=none/\fs=[]/\vs=[])\/∃p f i,v=some p/\fs=[f]/\vs=[.int i]/\F p=some (.xd [((#[f.toArray]:Str),.int i)])
mutual
inductive aN(K:W.Frag)(F:Hp):V->D->Prop
 |non:aN K F .non .non
 |bl (b:Bool):aN K F (.bl b) (.bl b)
 |int (i:Int):aN K F (.int i) (.int i)
 |str {x:Str} {l:List Nat}:x.cps.toList=l->l.length<=16777216->aN K F (.str x) (.str l)
 |tup {a:Addr} {xs:List V} {ds:List D}:F a=some (.tup xs)->zD K F xs ds->aN K F (.ref a) (.tup ds)
 |lst {a:Addr} {xs:List V} {ds:List D}:bL K F a xs->zD K F xs ds->aN K F (.ref a) (.lst ds)
 |dK {a:Addr} {zG:List (aL×V)} {ks vs:List D}:Rd F a (.dK zG)->ks=zG.map (λp=>aG p.1)->zD K F (zG.map (·.2)) vs->aN K F (.ref a) (.dct false ks vs)
 |dT {a:Addr} {zG:List (List aL×V)} {ks vs:List D}:Rd F a (.dT zG)->ks=zG.map (λp=>D.tup (p.1.map aG))->zD K F (zG.map (·.2)) vs->aN K F (.ref a) (.dct true ks vs)
 |st {a:Addr} {xs:List V} {ds:List D}:F a=some (.set xs)->zD K F xs ds->aN K F (.ref a) (.set ds)
 |exc {a C:Addr} {dx:Option Addr} {c:List Nat} {fs:List (List Nat)} {vs:List D}:F a=some (.ext (gp a C dx))->W.nsIn K mainGlobals (⟨c.toArray⟩:Str)=some (some (.ref C))->mU F dx fs vs->aN K F (.ref a) (.exc c fs vs)
inductive zD(K:W.Frag)(F:Hp):List V->List D->Prop
 |nil:zD K F [] []
 |cons {x:V} {d:D} {xs:List V} {ds:List D}:aN K F x d->zD K F xs ds->zD K F (x::xs) (d::ds)
end
mutual
inductive aJ(K:W.Frag)(F H:Hp):V->S->List Addr->Prop
 |sh {v:V} {d:D}:aN K F v d->aJ K F H v (.sh d) []
 |lst {a:Addr} {xs:List V} {l:List S} {fp:List Addr}:H a=some (.lst xs)->zu K F H xs l fp->aJ K F H (.ref a) (.lst l) (a::fp)
 |dK {a:Addr} {zG:List (aL×V)} {ks:List D} {l:List S} {fp:List Addr}:H a=some (.dK zG)->ks=zG.map (λp=>aG p.1)->zu K F H (zG.map (·.2)) l fp->aJ K F H (.ref a) (.dct false ks l) (a::fp)
 |dT {a:Addr} {zG:List (List aL×V)} {ks:List D} {l:List S} {fp:List Addr}:H a=some (.dT zG)->ks=zG.map (λp=>D.tup (p.1.map aG))->zu K F H (zG.map (·.2)) l fp->aJ K F H (.ref a) (.dct true ks l) (a::fp)
 |st {a:Addr} {xs:List V} {ds:List D}:H a=some (.set xs)->zD K F xs ds->aJ K F H (.ref a) (.set ds) [a]
inductive zu(K:W.Frag)(F H:Hp):List V->List S->List Addr->Prop
 |nil:zu K F H [] [] []
 |cons {x:V} {s:S} {xs:List V} {l:List S} {fp fq:List Addr}:aJ K F H x s fp->zu K F H xs l fq->zu K F H (x::xs) (s::l) (fp++fq)
end
def Rd.mono(h:zp F F')(r:Rd F a u):Rd F' a u:=by
 rcases r with r|⟨o,r⟩
 .show .inl (h _ _ r)
 .show .inr #[o,h _ _ r]
def bL.mono(h:zp F F')(r:bL K F a xs):bL K F' a xs:=r.elim (λr=>.inl (Rd.mono h r)) .inr
def bK.mono(h:zp F F')(r:bK K F a xs):bK K F' a xs:=r.elim (λr=>.inl (Rd.mono h r)) .inr
def zD.ind{P:List V->List D->Prop}(hn:P [] [])(z:∀{x:V}{d:D}{xs:List V}{ds:List D},aN K F x d->zD K F xs ds->P xs ds->P (x::xs) (d::ds))(r:zD K F xs ds):P xs ds:=
 zD.rec (motive_1:=λ_ _ _=>True) (motive_2:=λxs ds _=>P xs ds) trivial (λ_=>trivial) (λ_=>trivial) (λ_ _=>trivial) (λ_ _ _=>trivial) (λ_ _ _=>trivial) (λ_ _ _ _=>trivial) (λ_ _ _ _=>trivial) (λ_ _ _=>trivial) (λ_ _ _=>trivial) hn (λa b _ v=>z a b v) r
def zu.ind{P:List V->List S->List Addr->Prop}(hn:P [] [] [])(z:∀{x:V}{s:S}{xs:List V}{l:List S}{fp fq:List Addr},aJ K F H x s fp->zu K F H xs l fq->P xs l fq->P (x::xs) (s::l) (fp++fq))(r:zu K F H xs l fp):P xs l fp:=
 zu.rec (motive_1:=λ_ _ _ _=>True) (motive_2:=λxs l fp _=>P xs l fp) (λ_=>trivial) (λ_ _ _=>trivial) (λ_ _ _ _=>trivial) (λ_ _ _ _=>trivial) (λ_ _=>trivial) hn (λa b _ v=>z a b v) r
def mU.mono(h:zp F F')(x:mU F J fs vs):mU F' J fs vs:=x.imp id λ⟨p,f,i,G,B,z,v⟩=>#[p,f,i,G,B,z,h _ _ v]
def aN.mono(h:zp F F')(r:aN K F v d):aN K F' v d:=
 aN.rec (motive_1:=λv d _=>aN K F' v d) (motive_2:=λv d _=>zD K F' v d) .non .bl .int (λe z=>.str e z) (λe _ B=>.tup (h _ _ e) B) (λe _ B=>.lst (bL.mono h e) B) (λe k _ B=>.dK (Rd.mono h e) k B) (λe k _ B=>.dT (Rd.mono h e) k B) (λe _ B=>.st (h _ _ e) B) (λe k x=>.exc (h _ _ e) k (x.mono h)) .nil (λ_ _ a b=>.cons a b) r
def zD.mono(h:zp F F')(r:zD K F v d):zD K F' v d:=zD.ind .nil (λa _ z=>.cons (aN.mono h a) z) r
def aJ.mono(h:zp F F')(r:aJ K F H v s fp):(∀a∈fp,H' a=H a)->aJ K F' H' v s fp:=
 aJ.rec (motive_1:=λv s fp _=>(∀a∈fp,H' a=H a)->aJ K F' H' v s fp) (motive_2:=λv s fp _=>(∀a∈fp,H' a=H a)->zu K F' H' v s fp)
  (λr _=>.sh (aN.mono h r)) (λe _ z k=>.lst ((k _ qm).trans e) (z λa B=>k a (qk _ B)))
  (λe q _ z k=>.dK ((k _ qm).trans e) q (z λa B=>k a (qk _ B))) (λe q _ z k=>.dT ((k _ qm).trans e) q (z λa B=>k a (qk _ B)))
  (λe r k=>.st ((k _ qm).trans e) (zD.mono h r)) (λ_=>.nil) (λ_ _ a b k=>.cons (a λc G=>k c (qj _ G)) (b λc G=>k c (qi _ G))) r
def zu.mono(h:zp F F')(r:zu K F H v s fp):(∀a∈fp,H' a=H a)->zu K F' H' v s fp:=
 zu.ind (P:=λv s fp=>(∀a∈fp,H' a=H a)->zu K F' H' v s fp) (λ_=>.nil) (λa _ b k=>.cons (aJ.mono h a λc z=>k c (qj _ z)) (b λc z=>k c (qi _ z))) r
def aJ.frz(h:zp F F')(r:aJ K F H v s fp):(∀a∈fp,F' a=H a)->aN K F' v s.toD:=
 aJ.rec (motive_1:=λv s fp _=>(∀a∈fp,F' a=H a)->aN K F' v s.toD) (motive_2:=λv s fp _=>(∀a∈fp,F' a=H a)->zD K F' v (S.toDs s))
  (λr _=>aN.mono h r) (λe _ z k=>.lst (bL.of ((k _ qm).trans e)) (z λa B=>k a (qk _ B)))
  (λe q _ z k=>.dK (.of ((k _ qm).trans e)) q (z λa B=>k a (qk _ B))) (λe q _ z k=>.dT (.of ((k _ qm).trans e)) q (z λa B=>k a (qk _ B)))
  (λe r k=>.st ((k _ qm).trans e) (zD.mono h r)) (λ_=>.nil) (λ_ _ a b k=>.cons (a λc G=>k c (qj _ G)) (b λc G=>k c (qi _ G))) r
def zu.frz(h:zp F F')(r:zu K F H v s fp):(∀a∈fp,F' a=H a)->zD K F' v (S.toDs s):=
 zu.ind (P:=λv s fp=>(∀a∈fp,F' a=H a)->zD K F' v (S.toDs s)) (λ_=>.nil) (λa _ b k=>.cons (aJ.frz h a λc z=>k c (qj _ z)) (b λc z=>k c (qi _ z))) r
def aJ.view(h:zp F H)(r:aJ K F H v s fp):aN K H v s.toD:=aJ.frz h r λ_ _=>rfl
def aJ.in_:∀{v:V}{s:S}{fp:List Addr},aJ K F H v s fp->∀a∈fp,∃o,H a=some o/\eB o=true:=by
 intro v s fp r;show aJ.rec (motive_1:=λv s fp _=>∀a∈fp,∃o,H a=some o/\eB o=true) (motive_2:=λv s fp _=>∀a∈fp,∃o,H a=some o/\eB o=true) ?_ ?_ ?_ ?_ ?_ ?_ ?_ r
 .intro v d r a z;cases z
 .grind[eB]
 .grind[eB]
 .grind[eB]
 .grind[eB]
 .intro a z;cases z
 grind
inductive zt(K:W.Frag)(F H:Hp):Env->St->List Addr->Prop
 |nil:zt K F H [] [] []
 |no {U:Env} {Z:St} {o:Option V} {fp:List Addr}:zt K F H U Z fp->zt K F H (none::U) (o::Z) fp
 |so {U:Env} {Z:St} {v:V} {s:S} {fp fq:List Addr}:aJ K F H v s fp->zt K F H U Z fq->zt K F H (some s::U) (some v::Z) (fp++fq)
def zt.len(r:zt K F H U Z fp):U.length=Z.length:=by
 induction r with
 |nil=>rfl
 |no _ v=>show congrArg (·+1) v
 |so _ _ v=>show congrArg (·+1) v
def zt.mono(h:zp F F')(r:zt K F H U Z fp)(k:∀a∈fp,H' a=H a):zt K F' H' U Z fp:=by
 induction r with
 |nil=>show .nil
 |no _ v=>show .no (v k)
 |so a _ v=>show .so (aJ.mono h a λc z=>k c (qj _ z)) (v λc z=>k c (qi _ z))
def zt.in_(r:zt K F H U Z fp):∀a∈fp,∃o,H a=some o/\eB o=true:=by
 induction r with
 |nil=>show λa B=>nomatch B
 |no _ v=>show v
 |so q _ v=>show λa B=>(qx.mp B).elim (λz=>aJ.in_ q a z) λz=>v a z
def zt.app(r:zt K F H U Z fp)(z:zt K F H U' Z' fq):zt K F H (U++U') (Z++Z') (fp++fq):=by
 induction r with
 |nil=>show z
 |no _ v=>show .no v
 |so a _ v=>rw[qp];show .so a v
inductive zS(K:W.Frag)(F H:Hp)(U:Env)(Z:St)(U':Env)(Z':St)(fp:List Addr):Prop
 |mk (f1 f2:List Addr):fp=f1++f2->zt K F H U Z f1->zt K F H U' Z' f2->zS K F H U Z U' Z' fp
def zt.cut(e:U.length=Z.length)(r:zt K F H (U++U') (Z++Z') fp):zS K F H U Z U' Z' fp:=by
 induction U generalizing Z fp with
 |nil=>cases Z with
  |nil=>show#[[],fp,rfl,.nil,r]
  |cons _ _=>show absurd e.symm (Nat.succ_ne_zero _)
 |cons x U z=>cases Z with
  |nil=>show absurd e (Nat.succ_ne_zero _)
  |cons y Z=>cases r with
   |no r=>let#[B,v,rfl,a,b]:=z (Nat.succ.inj e) r;show#[B,v,rfl,.no a,b]
   |so q r=>let#[B,v,rfl,a,b]:=z (Nat.succ.inj e) r;show#[_,v,(qp ..).symm,.so q a,b]
def jo(K:W.Frag)(F H:Hp)(U:Env)(Z:St)(i:Nat)(z v:List Addr):Prop:=∀{F' H':Hp}{o:Option S}{u:Option V}{fi':List Addr},zp F F'->(∀a∈z++v,H' a=H a)->(zt K F' H' [o] [u] fi')->zt K F' H' (U.set i o) (Z.set i u) (z++(fi'++v))
inductive jq(K:W.Frag)(F H:Hp)(U:Env)(Z:St)(fp:List Addr)(i:Nat)(s:S):Prop
 |mk (v:V) (fa fi fb:List Addr):Z[i]?=some (some v)->fp=fa++(fi++fb)->aJ K F H v s fi->jo K F H U Z i fa fb->jq K F H U Z fp i s
inductive zQ(K:W.Frag)(F H:Hp)(U:Env)(Z:St)(fp:List Addr)(i:Nat):Prop
 |mk (fa fi fb:List Addr):fp=fa++(fi++fb)->jo K F H U Z i fa fb->zQ K F H U Z fp i
def zt.at:∀{U:Env}{Z:St}{fp:List Addr}{i:Nat}{s:S},zt K F H U Z fp->slot U i=some s->jq K F H U Z fp i s
 |_,_,_,_,_,.nil,e=>by simp[slot]at e
 |_,_,_,0,_,.no r,e=>by simp at e
 |_,_,_,0,s,.so (fp:=fp) (fq:=fq) q r,e=>by simp at e;subst e;show#[_,[],fp,fq,rfl,rfl,q,λ{F' H' o u J} h k x=>?_];let r':=zt.mono (H':=H') h r λa B=>k a B;show x.app r'
 |_,_,_,i+1,s,.no r,e=>by let#[v,O,L,M,Y,rfl,q,G]:=zt.at r e;show#[v,O,L,M,Y,rfl,q,λh k x=>.no (G h k x)]
 |_,_,_,i+1,s,.so (fp:=fp) (fq:=fq) p r,e=>by let#[v,O,L,M,Y,rfl,q,G]:=zt.at r e;show#[v,fp++O,L,M,Y,(qp ..).symm,q,λ{F' H' o u J} h k x=>?_];rw[qp];show .so (aJ.mono h p λa B=>k a (qj _ (qj _ B))) (G h (λa B=>k a ((qx.mp B).elim (λz=>qj _ (qi _ z)) λz=>qi _ z)) x)
def zt.put:∀{U:Env}{Z:St}{fp:List Addr}{i:Nat},zt K F H U Z fp->i<U.length->zQ K F H U Z fp i
 |_,_,_,_,.nil,e=>by simp at e
 |_,_,fp,0,.no r,e=>#[[],[],fp,rfl,λ{O H' o u B} h k x=>x.app (zt.mono (H':=H') h r λa v=>k a v)]
 |_,_,_,0,.so (fp:=fp) (fq:=fq) q r,e=>#[[],fp,fq,rfl,λ{O H' o u B} h k x=>x.app (zt.mono (H':=H') h r λa v=>k a v)]
 |_,_,_,i+1,.no r,e=>by let#[M,J,L,rfl,G]:=zt.put (i:=i) r ↑e;show#[M,J,L,rfl,λh k x=>.no (G h k x)]
 |_,_,_,i+1,.so (fp:=fp) (fq:=fq) p r,e=>by let#[M,J,L,rfl,G]:=zt.put (i:=i) r ↑e;show#[fp++M,J,L,(qp ..).symm,λ{O H' o u B} h k x=>?_];rw[qp];show .so (aJ.mono h p λa v=>k a (qj _ (qj _ v))) (G h (λa v=>k a ((qx.mp v).elim (λz=>qj _ (qi _ z)) λz=>qi _ z)) x)
inductive mV(K:W.Frag)(U:Env)(Z:St)(F G H:Hp):Prop
 |mk (fp:List Addr):zt K F H U Z fp->fp.Nodup->(∀a∈fp,F a=none/\G a=none)->mV K U Z F G H
structure Rel(K:W.Frag)(U:Env)(Z:St)(F G H:Hp):Prop where
 fr:zp F H
 gr:∀a o,G a=some o->(H a=some o/\eB o=true)/\F a=none
 en:mV K U Z F G H
def Rel.len(r:Rel K U Z F G H):U.length=Z.length:=let⟨_,e,_,_⟩:=r.en;e.len
def Rel.free(r:Rel K U Z F G H)(h:H p=none):F p=none/\G p=none/\∀fp,zt K F H U Z fp->p∉fp:=by
 show#[?_,?_,λfp e v=>?_]
 .cases q:F p with
  |none=>rfl
  |some o=>rw[r.fr p o q]at h;cases h
 .cases q:G p with
  |none=>rfl
  |some o=>rw[(r.gr p o q).1.1]at h;cases h
 .obtain⟨o,q,_⟩:=e.in_ p v;rw[h]at q;cases q
def zp.upd(h:F p=none):zp F (upd F p o):=λb u e=>by rw[Ao (λz=>by rw[z,h]at e;cases e)];show e
def zp.upd2(h:zp F H):zp (L2.upd F p o) (L2.upd H p o):=λb u e=>by
 by_cases q:b=p
 .subst q;rw[Bc]at e⊢;show e
 .rw[Ao q]at e⊢;show h b u e
def zp.updR(h:zp F H)(n:F p=none):zp F (L2.upd H p o):=λb u e=>by rw[Ao (λz=>by rw[z,n]at e;cases e)];show h b u e
def Rel.newF(r:Rel K U Z F G H)(h:H p=none):Rel K U Z (upd F p o) G (upd H p o):=by
 let#[Y,O,M]:=r.free h;let#[fp,e,L,ap]:=r.en;let B:∀a∈fp,a≠p:=λa v z=>M fp e (z▸v);show#[zp.upd2 r.fr,λa u q=>?_,fp,e.mono (zp.upd Y) λa v=>Ao (B a v),L,λa v=>?_]
 .let J:a≠p:=λz=>by rw[z,O]at q;cases q
  rw[Ao J,Ao J];show r.gr a u q
 .rw[Ao (B a v)];show ap a v
def Rel.newO(r:Rel K U Z F G H)(h:H p=none)(q:aJ K F (upd H p o) (.ref p) s [p]):Rel K (U++[some s]) (Z++[some (.ref p)]) F G (upd H p o):=by
 let#[O,M,J]:=r.free h;let#[fp,e,Y,ap]:=r.en;let B:∀a∈fp,a≠p:=λa v z=>J fp e (z▸v);show#[zp.updR r.fr O,λa u q=>?_,fp++([p]++[]),(e.mono (zp.refl F) λa v=>Ao (B a v)).app (.so q .nil),?_,λa v=>?_]
 .let L:a≠p:=λz=>by rw[z,M]at q;cases q
  rw[Ao L];show r.gr a u q
 .grind
 grind
def Rel.drop(r:Rel K (U++U') (Z++Z') F G H)(h:U.length=Z.length):Rel K U Z F G H:=by let#[L,e,v,J]:=r.en;let#[B,M,rfl,a,b]:=e.cut h;show#[r.fr,r.gr,B,a,(qw.mp v).1,λc z=>J c (qj _ z)]
def Rel.hide(r:Rel K (U++U') (Z++Z') F G H)(h:U.length=Z.length):∃O,Rel K U Z F O H/\zp G O/\
  ∀{U2:Env}{Z2:St}{L H2:Hp},zp F L->Rel K U2 Z2 L O H2->Rel K (U2++U') (Z2++Z') L G H2:=by
 classical
 let#[fp,e,nd,ap]:=r.en;let#[f1,J,rfl,a,b]:=e.cut h;let#[n1,n2,h2]:=qw.mp nd;show#[λx=>if x∈J then H x else G x,#[r.fr,λx o q=>?_,f1,a,n1,λx v=>?_],λx o q=>?_,λ{U2 Z2 L H2} Y M=>?_]
 .by_cases z:x∈J
  .let:=b.in_ x z;grind
  .simp only[z]at q;show r.gr x o q
 .grind
 .grind
 .obtain⟨B,e2,h1,h3⟩:=M.en;let hk:∀x∈J,H2 x=H x/\L x=none/\x∉B:=λx v=>by let#[o,q,_]:=b.in_ x v;let w:=M.gr x o (by simp only[v];show q);grind
  show#[M.fr,λx o q=>?_,B++J,e2.app (b.mono Y λx v=>(hk x v).1),?_,λx v=>?_]
  .let z:x∉J:=λz=>by grind
   show M.gr x o (by simp only[z];show q)
  .grind
  grind
def Rel.weakG(r:Rel K U Z F G' H)(h:zp G G'):Rel K U Z F G H:=by
 let#[J,e,B,z]:=r.en;show#[r.fr,λa o q=>r.gr a o (h a o q),J,e,B,λa v=>#[(z a v).1,?_]];cases q:G a with
 |none=>rfl
 |some o=>have:=(z a v).2;rw[h a o q]at this;cases this
def Rel.swap(h:U.length=Z.length)(h1:U1.length=Z1.length)(r:Rel K (U++(U1++U2)) (Z++(Z1++Z2)) F G H):Rel K (U++(U2++U1)) (Z++(Z2++Z1)) F G H:=by let#[fp,e,J,Y]:=r.en;let#[B,M,rfl,a,b]:=e.cut h;let#[z,v,rfl,O,c]:=b.cut h1;let p:(B++(v++z)).Perm (B++(z++v)):=List.Perm.append_left _ qM;show#[r.fr,r.gr,_,a.app (c.app O),p.nodup_iff.mpr J,λx L=>Y x (p.mem_iff.mp L)]
def Rel.push(r:Rel K U Z F G H)(h:aN K F v d):Rel K (U++[some (.sh d)]) (Z++[some v]) F G H:=by
 let#[J,e,z,L]:=r.en;show#[r.fr,r.gr,J++([]++[]),e.app (.so (.sh h) .nil),?_,λx B=>L x ?_]
 .simpa using z
 .simpa using B
def Rel.pushN(r:Rel K U Z F G H):Rel K (U++[none]) (Z++[u]) F G H:=by
 let#[B,e,v,J]:=r.en;show#[r.fr,r.gr,B++[],e.app (.no .nil),?_,λx z=>J x ?_]
 .simpa using v
 .simpa using z
def JJ(h:slot U i=some s):U[i]?=some (some s):=by
 induction U generalizing i with
 |nil=>simp[slot]at h
 |cons a r v=>cases i with
  |zero=>simp at h;simp[h]
  |succ i=>simp at h;simpa using v h
def GL(h:slot U i=some s):i<U.length:=(qg.mp (JJ h)).1
def HU(h:i<U.length):slot (U++U') i=slot U i:=by
 induction U generalizing i with
 |nil=>simp at h
 |cons a r v=>cases i with
  |zero=>rfl
  |succ i=>simpa using v ↑h
def EX:slot (U++o::U') U.length=o:=by
 induction U with
 |nil=>rfl
 |cons a r v=>simpa using v
inductive jm(K:W.Frag)(F H:Hp)(Z:St)(i:Nat)(s:S):Prop
 |mk (v:V) (fp:List Addr):Z[i]?=some (some v)->aJ K F H v s fp->jm K F H Z i s
def Rel.at(r:Rel K U Z F G H)(h:slot U i=some s):jm K F H Z i s:=by let#[L,e,J,Y]:=r.en;let#[v,O,z,M,B,_,q,_]:=e.at h;show#[v,z,B,q]
def Rel.give(r:Rel K U Z F G H)(h:slot U i=some s):∃v F',Z[i]?=some (some v)/\zp F F'/\aN K F' v s.toD/\Rel K (U.set i (some (.sh s.toD))) Z F' G H:=by
 classical
 let#[fp,e,nd,ap]:=r.en;let#[v,fa,B,fb,e1,rfl,q,O]:=e.at h;let#[na,Y,h1]:=qw.mp nd;let J:zp F (λx=>if x∈B then H x else F x):=λx o w=>by grind
 let L:aN K (λx=>if x∈B then H x else F x) v s.toD:=q.frz J λx M=>by simp[M,if_true]
 let e2:Z.set i (some v)=Z:=by apply ext_getElem?;grind
 show#[v,_,e1,J,L,λx o w=>?_,λx o w=>?_,fa++([]++fb),?_,?_,λx M=>?_]
 .by_cases z:x∈B
  .simp only[z]at w;show w
  .simp only[z]at w;show r.fr x o w
 .let w2:=r.gr x o w;grind
 .let:=O (F':=λx=>if x∈B then H x else F x) (H':=H) (o:=some (.sh s.toD)) (u:=some v) (fi':=[]) J (λ_ _=>rfl) (.so (.sh L) .nil);rw[e2]at this;show this
 .grind
 grind
def Rel.store(r:Rel K (U++[o]) (Z++[u]) F G H)(h:U.length=Z.length)(hi:i<U.length):Rel K (U.set i o) (Z.set i u) F G H:=by
 let#[fp,e,B,ap]:=r.en;let#[f1,f2,rfl,a,b]:=e.cut h;let#[Y,fi,O,rfl,v]:=a.put hi;let#[M,n2,L]:=qw.mp B;let#[na,z,J]:=qw.mp M;show#[r.fr,r.gr,Y++(f2++O),v (zp.refl F) (λ_ _=>rfl) b,?_,λx hx=>?_]
 .grind
 grind
end FL
namespace FL
open PySem PySem.Spec PyProof.Rows L2
abbrev St:=L2.St
abbrev wp(X:Cx)(pn:List (Addr×Obj))(xe:zi):Cx:={X with pn:=pn,xe:=xe}
def zr:R->Option S
 |.v s=>some s
 |.loc _=>none
@[inline]def RV(Z:St)(v:V):R->Prop
 |.v _=>True
 |.loc i=>Z[i]?=some (some v)
def nE(Z:St):List V->List R->Prop
 |[],[]=>True
 |v::vs,r::rs=>RV Z v r/\nE Z vs rs
 |_,_=>False
def yJ(K:W.Frag)(F:Hp)(d:D)(C:Addr)(v:Option Addr):Prop:=∃c fs vs,d=.exc c fs vs/\W.nsIn K mainGlobals (#[c.toArray]:Str)=some (some (.ref C))/\mU F v fs vs
def gu(X:Cx)(F H:Hp)(h:Heap)(u:Value)(d:D):Prop:=∃e C v,u=.ref e/\yJ X.K F d C v/\wH X [] H h e (.ref C) v
@[inline]def KP(ks:List Nat)(Z Z':St):Prop:=∀i∈ks,Z'[i]?=Z[i]?
@[inline]def XC(X:Cx)(T:St->Prop)(F G:Hp)(PX:WX):Prop:=∀(d:D)(U':Env)(Z':St)(F' H':Hp)(u:Value)(s':Shared),PX d U'->T Z'->zp F F'->Rel X.K U' Z' F' G H'->Inv X [] Z' H' s'->gu X F' H' s'.heap u d->X.xe u s'
def XC.mono(h:XC X T F G PX)(t:∀Z,T' Z->T Z)(f:zp F F')(g:zp G G'):XC X T' F' G' PX:=
 λd z v J H2 u s' p q B r I x=>h d z v J H2 u s' p (t _ q) (f.trans B) (r.weakG g) I x
def XC.grow(h:XC X T F G PX)(f:zp F F'):XC X T F' G PX:=h.mono (λ_ z=>z) f (zp.refl G)
inductive tW(X:Cx)(w:WE)(Z:St)(H:Hp)(Q:VK):Prop
 |mk (F G:Hp) (U:Env) (P:WQ) (PX:WX) (zH:Rel X.K U Z F G H) (hw:w U P PX) (hok:∀r U' v F' H',P r U'->zp F F'->Rel X.K (U'++[zr r]) (Z++[some v]) F' G H'->RV Z v r->Q v H') (hx:XC X (·=Z) F G PX):tW X w Z H Q
@[inline]def FE(X:Cx)(e:Expr)(w:WE):Prop:=∀(pn:List (Addr×Obj))(xe:zi),PassesOwn (model X.prog X.w) X.A X.env xe->PE (wp X pn xe) e (tW (wp X pn xe) w)
inductive iA(X:Cx)(w:WT)(Z:St)(H:Hp)(Q:Bool->Hp->Prop):Prop
 |mk (F G:Hp) (U:Env) (P:Bool->Env->Prop) (PX:WX) (zH:Rel X.K U Z F G H) (hw:w U P PX) (hok:∀b U' F' H',P b U'->zp F F'->Rel X.K U' Z F' G H'->Q b H') (hx:XC X (·=Z) F G PX):iA X w Z H Q
@[inline]def FT(X:Cx)(e:Expr)(w:WT):Prop:=∀(pn:List (Addr×Obj))(xe:zi),PassesOwn (model X.prog X.w) X.A X.env xe->PT (wp X pn xe) e (iA (wp X pn xe) w)
@[inline]def FW(X:Cx)(e:Expr)(w:WT):Prop:=∀(pn:List (Addr×Obj))(xe:zi),PassesOwn (model X.prog X.w) X.A X.env xe->PW (wp X pn xe) e (iA (wp X pn xe) w)
inductive sU(X:Cx)(w:WA)(Z:St)(H:Hp)(Q:List V->Hp->Prop):Prop
 |mk (F G:Hp) (U:Env) (P:List R->Env->Prop) (PX:WX) (zH:Rel X.K U Z F G H) (hw:w U P PX) (hok:∀rs U' vs F' H',P rs U'->zp F F'->Rel X.K (U'++rs.map zr) (Z++vs.map some) F' G H'->U'.length=Z.length->nE Z vs rs->Q vs H') (hx:XC X (·=Z) F G PX):sU X w Z H Q
@[inline]def FA(X:Cx)(es:List Expr)(w:WA):Prop:=∀(pn:List (Addr×Obj))(xe:zi),PassesOwn (model X.prog X.w) X.A X.env xe->PA (wp X pn xe) es (sU (wp X pn xe) w)
def PE.imp(h:PE X e t)(k:∀Z H Q,t' Z H Q->t Z H Q):PE X e t':=λzF s Z H Q I q=>h zF s Z H Q I (k Z H Q q)
def PT.imp(h:PT X e t)(k:∀Z H Q,t' Z H Q->t Z H Q):PT X e t':=λzF s Z H Q I q=>h zF s Z H Q I (k Z H Q q)
def PW.imp(h:PW X e t)(k:∀Z H Q,t' Z H Q->t Z H Q):PW X e t':=λv zF s Z H Q I q=>h v zF s Z H Q I (k Z H Q q)
def PA.imp(h:PA X e t)(k:∀Z H Q,t' Z H Q->t Z H Q):PA X e t':=λp zF s Z H Q I q=>h p zF s Z H Q I (k Z H Q q)
section
variable{K:W.Frag}
def Rel.mid(r:Rel K (U++o::U') (Z++w::Z') F G H)(h:U.length=Z.length):Rel K (U++U') (Z++Z') F G H:=by let#[fp,e,z,ap]:=r.en;let#[f1,f2,rfl,a,b]:=e.cut h;let#[f2,Y,rfl,b,c]:=zt.cut (U:=[o]) (Z:=[w]) rfl b;let#[M,L,J]:=qw.mp z;let#[n4,B,n6]:=qw.mp L;show#[r.fr,r.gr,f1++Y,a.app c,qw.mpr #[M,B,λx v y O=>J x v y (qi _ O)],λx v=>ap x ?_];grind
def Af(r:Rel K (U++[o]) (Z++[w]) F G H):U.length=Z.length:=by let:=r.len;simpa using this
def JG:(U++o::U').set U.length o'=U++o'::U':=by
 induction U with
 |nil=>rfl
 |cons a r v=>simpa using v
inductive Nd{α:Type}(o:Option α)(k:α->Prop):Prop
 |mk (a:α):o=some a->k a->Nd o k
def Ap(h:zo o k):Nd o k:=by
 cases o with
 |none=>show h.elim
 |some a=>show#[a,rfl,h]
def bC(K:W.Frag)(F H:Hp)(v:V)(d:D):Prop:=aN K F v d\/
 (∃a xs ds,v=.ref a/\d=.lst ds/\H a=some (.lst xs)/\zD K F xs ds)\/
 (∃a zG ks vs,v=.ref a/\d=.dct false ks vs/\H a=some (.dK zG)/\ks=zG.map (λp=>aG p.1)/\zD K F (zG.map (·.2)) vs)\/
 (∃a zG ks vs,v=.ref a/\d=.dct true ks vs/\H a=some (.dT zG)/\ks=zG.map (λp=>D.tup (p.1.map aG))/\zD K F (zG.map (·.2)) vs)
def bC.mono(h:zp F F')(r:bC K F H v d):bC K F' H v d:=by
 rcases r with r|⟨a,xs,O,J,G,B,r⟩|⟨a,z,ks,L,J,G,B,M,r⟩|⟨a,z,ks,L,J,G,B,M,r⟩
 .show .inl (r.mono h)
 .show .inr (.inl #[a,xs,O,J,G,B,r.mono h])
 .show .inr (.inr (.inl #[a,z,ks,L,J,G,B,M,r.mono h]))
 .show .inr (.inr (.inr #[a,z,ks,L,J,G,B,M,r.mono h]))
def zu.sh(r:zu K F H xs l fp):l.all S.isSh=true->zD K F xs (l.map S.toD)/\fp=[]:=
 zu.ind (P:=λxs l fp=>l.all S.isSh=true->zD K F xs (l.map S.toD)/\fp=[]) (λ_=>#[.nil,rfl]) (λa _ v h=>by
  rw[all_cons,and_eq_true]at h;let#[q,e]:=v h.2;cases a with
  |sh r=>show#[.cons r q,e]
  |_=>show absurd h.1 (by simp[S.isSh])) r
def Av(r:Rel K (U++(zr x::U')) (Z++(some v::Z')) F G H)(h:U.length=Z.length)(O:RV Z v x)(e:view x U=some d):aN K H v d:=by
 cases x with
 |v s=>
  let#[u,Y,z,q]:=r.at (i:=U.length) (s:=s) EX;rw[h,getElem?_append_right (q5 _)]at z;let M:v=u:=↑z
  subst M;let L:s.toD=d:=qf e;rw[<-L];show q.view r.fr
 |loc i=>
  let B:(slot U i).map S.toD=some d:=e;cases q:slot U i with
  |none=>rw[q]at B;cases B
  |some s=>
   rw[q]at B;let L:s.toD=d:=qf B;let hi:=GL q;let#[u,Y,z,w]:=r.at (i:=i) (s:=s) (by rw[HU hi];show q);rw[getElem?_append_left (h▸hi)]at z;let J:Z[i]?=some (some v):=O;rw[J]at z;let M:v=u:=↑z
   subst M;rw[<-L];show w.view r.fr
inductive jk(K:W.Frag)(U:Env)(Z:St)(F G H:Hp)(v:V)(d:D):Prop
 |mk (F':Hp):zp F F'->bC K F' H v d->Rel K U Z F' G H->jk K U Z F G H v d
def Ba(r:Rel K (U++(zr x::U')) (Z++(some v::Z')) F G H)(h:U.length=Z.length)(rv:RV Z v x)(e:zB x U=some d):
  jk K (U++U') (Z++Z') F G H v d:=by
 cases x with
 |v s=>
  let#[u,F',z,sm,rp,r']:=r.give (i:=U.length) (s:=s) EX;rw[h,getElem?_append_right (q5 _)]at z;let e2:v=u:=↑z
  subst e2;let e3:s.toD=d:=qf e;rw[show(U++zr (.v s)::U').set U.length (some (S.sh s.toD))=U++some (S.sh s.toD)::U' from JG]at r';show#[F',sm,.inl (e3▸rp),r'.mid h]
 |loc i=>
  let e':(match slot U i with|some s=>if s.flat then some s.toD else none|none=>none)=some d:=e;cases q:slot U i with
  |none=>rw[q]at e';cases e'
  |some s=>
   let hi:=GL q;let#[u,fp,z,w]:=r.at (i:=i) (s:=s) (by rw[HU hi];show q);rw[getElem?_append_left (h▸hi)]at z;let O:Z[i]?=some (some v):=rv;rw[O]at z;let e2:v=u:=↑z
   subst e2;show#[F,zp.refl F,?_,r.mid h];by_cases M:s.flat=true
   .let e3:s.toD=d:=by grind
    subst e3;cases w with
    |sh r=>show .inl r
    |lst L J=>let#[B,_]:=J.sh M;show .inr (.inl #[_,_,_,rfl,by simp,L,B])
    |dK L Y J=>let#[B,_]:=J.sh M;show .inr (.inr (.inl #[_,_,_,_,rfl,by simp,L,Y,B]))
    |dT L Y J=>let#[B,_]:=J.sh M;show .inr (.inr (.inr #[_,_,_,_,rfl,by simp,L,Y,B]))
    |st _ _=>show absurd M (by simp[S.flat])
   grind
inductive jn(K:W.Frag)(L:Prop)(U:Env)(Z:St)(F G H:Hp):Prop
 |mk (F':Hp):zp F F'->L->Rel K U Z F' G H->jn K L U Z F G H
def AD(r:Rel K (U++(zr x::U')) (Z++(some v::Z')) F G H)(h:U.length=Z.length)(rv:RV Z v x)(e:give x U=some (s,U1)):
  jn K (U1.length=U.length) (U1++(some s::U')) (Z++(some v::Z')) F G H:=by
 cases x with
 |v t=>have z:some (t,U)=some (s,U1):=e;cases z;show#[F,zp.refl F,rfl,r]
 |loc i=>
  let z:(match slot U i with|some s=>some (S.sh s.toD,U.set i (some (.sh s.toD)))|none=>none)=some (s,U1):=e;cases q:slot U i with
  |none=>rw[q]at z;cases z
  |some t=>
   rw[q]at z;cases z;let hi:=GL q;let#[u,O,L,Y,rp,B]:=r.give (i:=i) (s:=t) (by rw[HU hi];show q);rw[getElem?_append_left (h▸hi)]at L;let J:Z[i]?=some (some v):=rv;rw[J]at L;let e2:v=u:=↑L
   subst e2;rw[List.set_append_left _ _ hi]at B;show#[O,Y,by simp,?_];let#[fp,en,nd,ap]:=B.en;let hl:(U.set i (some (S.sh t.toD))).length=Z.length:=↑h
   let#[f1,M,rfl,a,b]:=en.cut hl;let b':zt K O H (none::U') (some v::Z') M:=b;cases b' with
   |no b=>show#[B.fr,B.gr,f1++([]++M),a.app (.so (.sh rp) b),↑nd,λx hx=>ap x hx]
end
def tW.mono(h:tW X w Z H Q)(k:∀v H',Q v H'->Q' v H'):tW X w Z H Q':=by let#[F,G,U,P,PX,B,M,J,L]:=h;show#[F,G,U,P,PX,B,M,λr z v O H' a b c d=>k _ _ (J r z v O H' a b c d),L]
inductive rS(X:Cx)(Z:St)(k:R->R->Env->WQ->WX->Prop)(Q:VK)(v u:V)(H:Hp):Prop
 |mk (F G:Hp) (U:Env) (x y:R) (P:WQ) (PX:WX) (zH:Rel X.K (U++[zr x,zr y]) (Z++[some v,some u]) F G H) (hl:U.length=Z.length) (rx:RV Z v x) (ry:RV Z u y) (hk:k x y U P PX) (hok:∀r U' v F' H',P r U'->zp F F'->Rel X.K (U'++[zr r]) (Z++[some v]) F' G H'->RV Z v r->Q v H') (hx:XC X (·=Z) F G PX):rS X Z k Q v u H
def Fd(h:tW X (λU Q E=>wa U (λx U1=>wb U1 (λy U2=>k x y U2 Q E) E) E) Z H Q):
  tW X wa Z H λv H1=>tW X wb Z H1 λu H2=>rS X Z k Q v u H2:=by
 let#[F,G,U,P,PX,h3,hw,h6,hx]:=h;show#[F,G,U,_,PX,h3,hw,λx U1 v F1 H1 h5 M r1 Y=>?_,hx];let h1:=Af r1;let#[G1,B,gg,back]:=r1.hide h1;show#[F1,G1,U1,_,PX,B,h5,λy U2 u F2 H2 h4 L r2 O=>?_,hx.mono (λ_ z=>z) M gg];let h2:=Af r2;let r3:=back L r2;rw[qp,qp]at r3;show#[F2,G,U2,x,y,P,PX,Rel.swap (U1:=[zr y]) (Z1:=[some u]) (U2:=[zr x]) (Z2:=[some v]) h2 rfl r3,h2,Y,O,h4,λr J v F' H' a b c d=>h6 r J v F' H' a (M.trans (L.trans b)) c d,hx.grow (M.trans L)]
inductive One(X:Cx)(Z:St)(k:R->Env->WQ->WX->Prop)(Q:VK)(v:V)(H:Hp):Prop
 |mk (F G:Hp) (U:Env) (x:R) (P:WQ) (PX:WX) (zH:Rel X.K (U++[zr x]) (Z++[some v]) F G H) (hl:U.length=Z.length) (rx:RV Z v x) (hk:k x U P PX) (hok:∀r U' v F' H',P r U'->zp F F'->Rel X.K (U'++[zr r]) (Z++[some v]) F' G H'->RV Z v r->Q v H') (hx:XC X (·=Z) F G PX):One X Z k Q v H
theorem one(h:tW X (λU Q E=>wa U (λx U1=>k x U1 Q E) E) Z H Q):tW X wa Z H λv H1=>One X Z k Q v H1:=by let#[F,G,U,P,PX,J,hw,M,hx]:=h;show#[F,G,U,_,PX,J,hw,λx U1 v F1 H1 L O Y B=>#[F1,G,U1,x,P,PX,Y,Af Y,B,L,λr z v F' H' a b c d=>M r z v F' H' a (O.trans b) c d,hx.grow O],hx]
def Pu(hN:X.N[i]?=some x)(Y:yO X.env.scope x)(hd:(x==("__debug__":Str))=false:=by decide)(M:(x==("__classdict__":Str))=false:=by decide):FE X (.Name x pos) (zj i):=by
 intro pn xe hp;show PE.imp (Pk (X:=wp X pn xe) hN Y hd M) λZ H Q h=>?_;let#[F,G,U,P,PX,z,J,B,hx]:=h;unfold zj at J;cases q:slot U i with
 |none=>rw[q]at J;show J.elim
 |some s=>
  let#[v,fp,L,O]:=z.at q;rw[q]at J;cases s with
  |sh d=>
   cases O with
   |sh r=>show#[v,L,B _ _ v F H J (zp.refl F) (z.push r) trivial]
  |lst l=>show#[v,L,B _ _ v F H J (zp.refl F) z.pushN L]
  |dct t a b=>show#[v,L,B _ _ v F H J (zp.refl F) z.pushN L]
  |set l=>show#[v,L,B _ _ v F H J (zp.refl F) z.pushN L]
def ER(h:∀X:Cx,PE X e (tC v))(r:∀K F,aN K F v d):FE X e (wC d):=by intro pn xe M;show PE.imp (h _) λZ H Q h=>?_;let#[F,G,U,P,PX,z,J,B,L]:=h;show B _ _ v F H J (zp.refl F) (z.push (r _ _)) trivial
def Aj:FE X (.Constant (.int i) j pos) (wC (.int i)):=ER (λ_=>Ow) λ_ _=>.int i
def DF:FE X (.Constant (.bool b) j pos) (wC (.bl b)):=ER (λ_=>Od) λ_ _=>.bl b
def IM:FE X (.Constant .none j pos) (wC .non):=ER (λ_=>Pe) λ_ _=>.non
def Gc(e:x.cps.toList=l)(z:l.length<=16777216):FE X (.Constant (.str x) j pos) (wC (.str l)):=ER (λ_=>PL) λ_ _=>.str e z
def OpR.or(h:OpR X f r)(h':OpR X f G):OpR X f (λx y H Q=>r x y H Q\/G x y H Q):=λzF s Z H x y v u Q I F B q=>q.elim (λz=>h zF s Z H x y v u Q I F B z) λz=>h' zF s Z H x y v u Q I F B z
def gZ(K:W.Frag)(r:R2)(z:D->D->Option S):Prop:=∀(Z:St)(U:Env)(F G H:Hp)(x y:V)(p q:D)(s:S)(Q:VK),Rel K U Z F G H->bC K F H x p->bC K F H y q->z p q=some s->
 (∀v F' H',zp F F'->Rel K (U++[some s]) (Z++[some v]) F' G H'->Q v H')->r x y H Q
def Ga(ho:∀pn xe,OpR (wp X pn xe) (binaryOp op) r)(hd:gZ X.K r o)(ha:FE X a wa)(hb:FE X b wb):FE X (.BinOp a op b pos) (zx o wa wb):=by intro pn xe hp;show PE.imp (Ol (ho pn xe) (ha pn xe hp) (hb pn xe hp)) λZ H Q h=>?_;show(Fd (k:=λx y B Q E=>zo (zB x B) λp=>zo (zB y B) λq=>zo (o p q) λs=>Q (.v s) B) h).mono λv H1 h1=>h1.mono λu H2 h2=>?_;let#[F,G,U,x,y,P,PX,M,hl,rx,ry,J,h3,hx]:=h2;let#[p,ep,J]:=Ap J;let#[q,eq,J]:=Ap J;let#[t,et,J]:=Ap J;let#[F1,s1,Y,L]:=Ba M hl rx ep;let#[F2,s2,O,z]:=Ba (U':=[]) (Z':=[]) L hl ry eq;rw[qz,qz]at z;show hd Z U F2 G H2 v u p q t Q z (Y.mono s2) O et λv' F' H' sm r'=>h3 (.v t) U v' F' H' J (s1.trans (s2.trans sm)) r' trivial
def sU.mono(h:sU X w Z H Q)(k:∀v H',Q v H'->Q' v H'):sU X w Z H Q':=by let#[F,G,U,P,PX,B,M,J,L]:=h;show#[F,G,U,P,PX,B,M,λr z v O H' a b c d e=>k _ _ (J r z v O H' a b c d e),L]
inductive yP(X:Cx)(Z:St)(k:R->R->Env->(Bool->Env->Prop)->WX->Prop)(Q:Bool->Hp->Prop)(v u:V)(H:Hp):Prop
 |mk (F G:Hp) (U:Env) (x y:R) (P:Bool->Env->Prop) (PX:WX) (zH:Rel X.K (U++[zr x,zr y]) (Z++[some v,some u]) F G H) (hl:U.length=Z.length) (rx:RV Z v x) (ry:RV Z u y) (hk:k x y U P PX) (hok:∀r U' F' H',P r U'->zp F F'->Rel X.K U' Z F' G H'->Q r H') (hx:XC X (·=Z) F G PX):yP X Z k Q v u H
def JM(h:iA X (λU Q E=>wa U (λx U1=>wb U1 (λy U2=>k x y U2 Q E) E) E) Z H Q):
  tW X wa Z H λv H1=>tW X wb Z H1 λu H2=>yP X Z k Q v u H2:=by
 let#[F,G,U,P,PX,h3,hw,h6,hx]:=h;show#[F,G,U,_,PX,h3,hw,λx U1 v F1 H1 h5 M r1 Y=>?_,hx];let h1:=Af r1;let#[G1,B,gg,back]:=r1.hide h1;show#[F1,G1,U1,_,PX,B,h5,λy U2 u F2 H2 h4 L r2 O=>?_,hx.mono (λ_ z=>z) M gg];let h2:=Af r2;let r3:=back L r2;rw[qp,qp]at r3;show#[F2,G,U2,x,y,P,PX,Rel.swap (U1:=[zr y]) (Z1:=[some u]) (U2:=[zr x]) (Z2:=[some v]) h2 rfl r3,h2,Y,O,h4,λr J F' H' a b c=>h6 r J F' H' a (M.trans (L.trans b)) c,hx.grow (M.trans L)]
def dF(K:W.Frag)(r:R2)(v:D->D->Option Bool):Prop:=∀(H:Hp)(x y:V)(p q:D)(k:Bool)(Q:VK),aN K H x p->aN K H y q->v p q=some k->Q (.bl k) H->r x y H Q
def Fh{K:W.Frag}(B:Rel K (U++[zr x,zr y]) (Z++[some v,some u]) F G H)(J:U.length=Z.length)(M:RV Z v x)(L:RV Z u y)(ep:view x U=some p)(O:view y U=some q):
  aN K H v p/\aN K H u q/\Rel K U Z F G H:=by
 let z:Rel K (U++[zr y]) (Z++[some u]) F G H:=B.mid J;show#[Av B J M ep,Av (U':=[]) (Z':=[]) z J L O,z.drop J]
def BA(ho:∀pn xe,OpR (wp X pn xe) (compareOp O) r)(hd:dF X.K r o)(ha:FE X a wa)(hb:FE X b wb)(hm:behindInMarks O b=false):FT X (.Compare a [O] [b] pos) (aW o wa wb):=by intro pn xe Y;show PT.imp (Qr (ho pn xe) (ha pn xe Y) (hb pn xe Y) hm) λZ H Q h=>?_;show(JM (k:=λx y z Q E=>zo (view x z) λp=>zo (view y z) λq=>zo (o p q) λc=>Q c z) h).mono λv H1 h1=>h1.mono λu H2 h2=>?_;let#[F,G,U,x,y,P,PX,L,hl,rx,ry,B,M,hx]:=h2;let#[p,ep,B]:=Ap B;let#[q,eq,B]:=Ap B;let#[t,et,B]:=Ap B;let#[r1,r2,J]:=Fh L hl rx ry ep eq;show hd H2 v u p q t _ r1 r2 et #[t,rfl,M t U F H2 B (zp.refl F) J]
def Ez(ho:∀pn xe,OpR (wp X pn xe) (compareOp O) r)(hd:dF X.K r o)(ha:FE X a wa)(hb:FE X b wb)(hm:behindInMarks O b=false):FE X (.Compare a [O] [b] pos) (fG (aW o wa wb)):=by intro pn xe Y;show PE.imp (Pw (ho pn xe) (ha pn xe Y) (hb pn xe Y) hm) λZ H Q h=>?_;show(Fd (k:=λx y z Q E=>zo (view x z) λp=>zo (view y z) λq=>zo (o p q) λc=>Q (.v (.sh (.bl c))) z) h).mono λv H1 h1=>h1.mono λu H2 h2=>?_;let#[F,G,U,x,y,P,PX,L,hl,rx,ry,B,M,hx]:=h2;let#[p,ep,B]:=Ap B;let#[q,eq,B]:=Ap B;let#[t,et,B]:=Ap B;let#[r1,r2,J]:=Fh L hl rx ry ep eq;show hd H2 v u p q t _ r1 r2 et (M _ U (.bl t) F H2 B (zp.refl F) (J.push (.bl t)) trivial)
def Qx{K:W.Frag}(r:aN K H v d)(e:hW d=some k):vP K v H k:=by
 cases r with
 |non=>show(qf e).symm
 |bl b=>show(qf e).symm
 |int i=>have B:=(qf e).symm;rw[B];show decide (i≠0)=(i !=0);by_cases h:i=0<;>simp[h]
 |str G z=>
  rename_i x l;let B:=(qf e).symm;let F:x.length=l.length:=by rw[<-G];rfl
  show#[by rw[F];show z,?_];rw[B,F];cases l with
  |nil=>rfl
  |cons a r=>simp;lia
 |tup h r=>show .inr (.inl #[_,bK.of h,?_]);let B:=(qf e).symm;rw[B];cases r<;>rfl
 |lst h r=>show .inl #[_,h,?_];let B:=(qf e).symm;rw[B];cases r<;>rfl
 |dK h k r=>cases e
 |dT h k r=>cases e
 |st h r=>cases e
 |exc h k=>cases e
def HE(ha:FE X a wa)(he:∀whole,isTrue a X.env whole=(do let v<-whole;standAt a.pos;holding [v] (truthy v)):=by intro _;rfl):FT X a (gD wa):=by intro pn xe hp;show PT.imp (Rv (ha pn xe hp) he) λZ H Q h=>?_;let#[F,G,U,P,PX,zH,hw,hok,hx]:=h;show#[F,G,U,_,PX,zH,hw,λx U1 v F1 H1 hk s1 r1 rv1=>?_,hx];let#[p,ep,hk]:=Ap hk;let#[t,et,hk]:=Ap hk;let hl:=Af r1;show#[t,Qx (Av (U':=[]) (Z':=[]) r1 hl rv1 ep) et,hok t U1 F1 H1 hk s1 (r1.drop hl)]
def DP{k:Bool->Env->(Bool->Env->Prop)->WX->Prop}(h:iA X (λU Q E=>ta U (λc U1=>k c U1 Q E) E) Z H Q)
  (Y:∀(c:Bool)(F G:Hp)(U:Env)(P:Bool->Env->Prop)(PX:WX)(H1:Hp),Rel X.K U Z F G H1->k c U P PX->(∀r U' F' H',P r U'->zp F F'->Rel X.K U' Z F' G H'->Q r H')->XC X (·=Z) F G PX->Q' c H1):iA X ta Z H Q':=by
 let#[F,G,U,P,PX,v,M,z,J]:=h;show#[F,G,U,_,PX,v,M,λc U1 F1 H1 O B L=>Y c F1 G U1 P PX H1 L O (λr U' F' H' a b c=>z r U' F' H' a (B.trans b) c) (J.grow B),J]
def Gw(h:FW X a ta):FT X a ta:=λpn xe v=>(h pn xe v).pt
def IQ(h:FT X a ta):FW X (.BoolOp .And [a] pos) ta:=λpn xe v=>QH (h pn xe v)
def KL(h:FT X a ta):FW X (.BoolOp .Or [a] pos) ta:=λpn xe v=>Os (h pn xe v)
def HD{rest:List Expr}(h:FT X a ta)(h':FW X (.BoolOp .And (b::rest) pos) tb):FW X (.BoolOp .And (a::b::rest) pos) (gC ta tb):=λpn xe J=>by
 show PW.imp (OF (h pn xe J) (h' pn xe J)) λZ H Q q=>?_;show DP (k:=λc v Q E=>if c then tb v Q E else Q false v) q λc F G U P PX H1 z L B M=>?_;cases c with
 |true=>show#[F,G,U,P,PX,z,L,B,M]
 |false=>show B false U F H1 L (zp.refl F) z
def Iz{rest:List Expr}(h:FT X a ta)(h':FW X (.BoolOp .Or (b::rest) pos) tb):FW X (.BoolOp .Or (a::b::rest) pos) (lA ta tb):=λpn xe J=>by
 show PW.imp (Oe (h pn xe J) (h' pn xe J)) λZ H Q q=>?_;show DP (k:=λc v Q E=>if c then Q true v else tb v Q E) q λc F G U P PX H1 z L B M=>?_;cases c with
 |false=>show#[F,G,U,P,PX,z,L,B,M]
 |true=>show B true U F H1 L (zp.refl F) z
def HA(h:FT X a ta):FT X (.UnaryOp .Not a pos) (gB ta):=λpn xe J=>by show PT.imp (OW (h pn xe J)) λZ H Q q=>?_;show DP (k:=λc v Q E=>Q (!c) v) q λc F G U P PX H1 z L B M=>B _ U F H1 L (zp.refl F) z
def Ac:FA X [] zl:=λpn xe L=>PA.imp KI λZ H Q q=>by let#[F,G,U,P,PX,v,B,z,J]:=q;show z [] U [] F H B (zp.refl F) ↑v v.len trivial
def Aa(ha:FE X e wa)(hb:FA X es wb)(hs:starEach (e::es) X.env=(false,eval e X.env)::starEach es X.env:=by rfl):FA X (e::es) (zk wa wb):=λpn xe hp=>by
 show PA.imp (Lv (ha pn xe hp) (hb pn xe hp) hs) λZ H Q q=>?_;let#[F,G,U,P,PX,Y,hw,h5,hx]:=q;show#[F,G,U,_,PX,Y,hw,λx U1 v F1 H1 h4 s1 r1 M=>?_,hx];let h1:=Af r1;let#[G1,B,gg,back]:=r1.hide h1;show#[F1,G1,U1,_,PX,B,h4,λO U2 J F2 H2 h3 s2 r2 h2 L=>?_,hx.mono (λ_ z=>z) s1 gg];let r3:=back s2 r2;rw[qp,qp]at r3;let hl:(O.map zr).length=(J.map some).length:=by let:=r2.len;grind
 show h5 (x::O) U2 (v::J) F2 H2 h3 (s1.trans s2) (Rel.swap (U1:=O.map zr) (Z1:=J.map some) (U2:=[zr x]) (Z2:=[some v]) h2 hl r3) h2 #[M,L]
section
variable{K:W.Frag}
def nE.len:∀{vs:List V}{rs:List R},nE Z vs rs->vs.length=rs.length
 |[],[],_=>rfl
 |[],_::_,h=>h.elim
 |_::_,[],h=>h.elim
 |_::vs,_::rs,h=>by simp[nE.len h.2]
def Ia:∀{rs:List R}{vs:List V}{U U' U1:Env}{ss:List S}{F:Hp}{Z':St},Rel K (U++(rs.map zr++U')) (Z++(vs.map some++Z')) F G H->U.length=Z.length->nE Z vs rs->aK rs U=some (ss,U1)->
  ∃F',zp F F'/\U1.length=U.length/\ss.length=rs.length/\Rel K (U1++(ss.map some++U')) (Z++(vs.map some++Z')) F' G H
 |[],[],U,U',U1,ss,F,Z',r,h,_,e=>by let z:some (([]:List S),U)=some (ss,U1):=e;cases z;show#[F,zp.refl F,rfl,rfl,r]
 |[],_::_,_,_,_,_,_,_,_,_,h,_=>h.elim
 |_::_,[],_,_,_,_,_,_,_,_,h,_=>h.elim
 |x::rs,v::vs,U,U',U1,ss,F,Z',r,h,rv,e=>by
  let z:(match give x U with|some (s,U1)=>(match aK rs U1 with|some (ss,U2)=>some (s::ss,U2)|none=>none)|none=>none)=some (ss,U1):=e;cases q:give x U with
  |none=>rw[q]at z;cases z
  |some p=>
   let#[s,U2]:=p;rw[q]at z;cases B:aK rs U2 with
   |none=>simp only[B]at z;cases z
   |some p2=>
    let#[L,h1]:=p2;simp only[B]at z;cases z;let#[F1,s1,l1,Y]:=AD (U':=rs.map zr++U') (Z':=vs.map some++Z') r h rv.1 q;let h2:U2.length=Z.length:=l1.trans h;let hl:(rs.map zr++U').length=(vs.map some++Z').length:=by let:=Y.len;rw[qq,qq,qt,qt]at this;lia
    let J:U'.length=Z'.length:=by let:=rv.2.len;simp at hl;lia
    let O:=Rel.swap (U1:=[some s]) (Z1:=[some v]) (U2:=rs.map zr++U') (Z2:=vs.map some++Z') h2 rfl Y;rw[qp,qp]at O;let#[F2,s2,l2,l3,M]:=Ia (rs:=rs) (vs:=vs) O h2 rv.2 B;let h3:U1.length=Z.length:=l2.trans h2;rw[<-qp (L.map some),<-qp (vs.map some)]at M;let r4:=Rel.swap (U1:=L.map some++U') (Z1:=vs.map some++Z') (U2:=[some s]) (Z2:=[some v]) h3 (by simp[l3,rv.2.len,J]) M;show#[F2,s1.trans s2,l2.trans l1,by simp[l3],r4]
def BQ:∀{vs:List V}{ss:List S}{fp:List Addr},zt K F H (ss.map some) (vs.map some) fp->zu K F H vs ss fp
 |[],[],_,.nil=>.nil
 |[],_::_,_,h=>nomatch h
 |_::_,[],_,h=>nomatch h
 |v::vs,s::ss,_,.so a b=>.cons a (BQ b)
def Rel.newL(r:Rel K (U++ss.map some) (Z++vs.map some) F G H)(h:U.length=Z.length)(B:H p=none):
  Rel K (U++[some (.lst ss)]) (Z++[some (.ref p)]) F G (upd H p (.lst vs)):=by
 let#[f0,Y,O]:=r.free B;let#[fp,e,nd,ap]:=r.en;let J:∀a∈fp,a≠p:=λa v z=>O fp e (z▸v);let#[f1,f2,rfl,M,L]:=(e.mono (H':=upd H p (.lst vs)) (zp.refl F) λa v=>Ao (J a v)).cut h;show#[zp.updR r.fr f0,λa u q=>?_,f1++((p::f2)++[]),M.app (.so (.lst Bc (BQ L)) .nil),?_,λa v=>?_]
 .let B:a≠p:=λz=>by rw[z,Y]at q;cases q
  rw[Ao B];show r.gr a u q
 .grind
 grind
def Rel.giveD{ss:List S}(r:Rel K (U++ss.map some) (Z++vs.map some) F G H)(h:U.length=Z.length):∃F',zp F F'/\zD K F' vs (ss.map S.toD)/\Rel K U Z F' G H:=by
 classical
 let#[fp,e,M,ap]:=r.en;let#[Y,L,rfl,a,b]:=e.cut h;let#[O,n2,n3]:=qw.mp M;let v:zp F (λx=>if x∈L then H x else F x):=λx o w=>by grind
 let B:=(BQ b).frz v λx J=>by simp[J,if_true]
 rw[S.toDs_map]at B;show#[_,v,B,λx o w=>?_,λx o w=>?_,Y,a.mono v λ_ _=>rfl,O,λx J=>?_]
 .by_cases z:x∈L
  .simp only[z]at w;show w
  .simp only[z]at w;show r.fr x o w
 .let w2:=r.gr x o w;grind
 grind
end
inductive zL(X:Cx)(Z:St)(k:List R->Env->WQ->WX->Prop)(Q:VK)(vs:List V)(H:Hp):Prop
 |mk (F G:Hp) (U:Env) (rs:List R) (P:WQ) (PX:WX) (zH:Rel X.K (U++rs.map zr) (Z++vs.map some) F G H) (hl:U.length=Z.length) (rv:nE Z vs rs) (hk:k rs U P PX) (hok:∀r U' v F' H',P r U'->zp F F'->Rel X.K (U'++[zr r]) (Z++[some v]) F' G H'->RV Z v r->Q v H') (hx:XC X (·=Z) F G PX):zL X Z k Q vs H
theorem many(h:tW X (λU Q E=>wa U (λrs U1=>k rs U1 Q E) E) Z H Q):sU X wa Z H λvs H1=>zL X Z k Q vs H1:=by let#[F,G,U,P,PX,J,hw,M,Y]:=h;show#[F,G,U,_,PX,J,hw,λrs U1 vs F1 H1 L O r1 h1 B=>#[F1,G,U1,rs,P,PX,r1,h1,B,L,λr z v F' H' a b c d=>M r z v F' H' a (O.trans b) c d,Y.grow O],Y]
def CC(h:FA X es wa):FE X (.List es pos) (cZ wa):=λpn xe L=>by
 show PE.imp (Pj (h pn xe L)) λZ H Q q=>?_;show(many (k:=λz v Q E=>zo (if z.length<=big then aK z v else none) λp=>Q (.v (.lst p.1)) p.2) q).mono λvs H1 h1=>?_;let#[F,G,U,z,P,PX,B,hl,Y,O,M,hx]:=h1;let#[#[ss,v],ep,O]:=Ap O;by_cases J:z.length<=big
 .rw[qZ J]at ep;let#[F1,s1,l1,l2,r1]:=Ia (U':=[]) (Z':=[]) ↑B hl Y ep;show#[by rw[Y.len];show le_trans J ⋯,λp L=>M _ v (.ref p) F1 _ O s1 (Rel.newL ↑r1 (l1.trans hl) L) trivial]
 .rw[q4 J]at ep;cases ep
def Do(h:FA X es wa):FE X (.Tuple es k pos) (dJ wa):=λpn xe B=>by
 show PE.imp (PZ (h pn xe B)) λZ H Q q=>?_;show(many (k:=λz v Q E=>zo (if z.length<=big then aK z v else none) λp=>Q (.v (.sh (.tup (p.1.map S.toD)))) p.2) q).mono λvs H1 h1=>?_;let#[F,G,U,z,P,PX,J,hl,Y,O,M,hx]:=h1;let#[#[ss,v],ep,O]:=Ap O;by_cases L:z.length<=big
 .rw[qZ L]at ep;let#[F1,s1,l1,l2,r1]:=Ia (U':=[]) (Z':=[]) ↑J hl Y ep;let#[F2,s2,rp,r2]:=Rel.giveD (U:=v) ↑r1 (l1.trans hl);show#[by rw[Y.len];show le_trans L ⋯,λp B=>?_];let n2:=(r2.free B).1;show M _ v (.ref p) _ _ O (s1.trans (s2.trans (zp.upd n2))) ((r2.newF B).push (.tup Bc (rp.mono (zp.upd n2)))) trivial
 .rw[q4 L]at ep;cases ep
def KP.refl:KP ks Z Z:=λ_ _=>rfl
def KP.trans(a:KP ks Z Z1)(b:KP ks Z1 Z2):KP ks Z Z2:=λi h=>(b i h).trans (a i h)
inductive zZ(X:Cx)(ks:List Nat)(w:WS)(D:L2.Ends)(Z:St)(H:Hp):Prop
 |mk (F G:Hp) (U:Env) (E:Ends) (zH:Rel X.K U Z F G H) (hw:w E U) (n:∀U' Z' F' H',E.nx U'->KP ks Z Z'->zp F F'->Rel X.K U' Z' F' G H'->D.nx Z' H') (b:∀U' Z' F' H',E.bk U'->KP ks Z Z'->zp F F'->Rel X.K U' Z' F' G H'->D.bk Z' H') (c:∀U' Z' F' H',E.ct U'->KP ks Z Z'->zp F F'->Rel X.K U' Z' F' G H'->D.ct Z' H') (r:∀r U' Z' v F' H',E.rt r U'->KP ks Z Z'->zp F F'->Rel X.K (U'++[zr r]) (Z'++[some v]) F' G H'->RV Z' v r->D.rt v H') (hx:XC X (KP ks Z) F G E.ex):zZ X ks w D Z H
@[inline]def FS(X:Cx)(ks:List Nat)(st:Stmt)(w:WS):Prop:=∀(pn:List (Addr×Obj))(xe:zi),PassesOwn (model X.prog X.w) X.A X.env xe->PS (wp X pn xe) st (zZ (wp X pn xe) ks w)
def nF(X:Cx)(ks:List Nat)(st:List Stmt)(w:WS):Prop:=∀(pn:List (Addr×Obj))(xe:zi),PassesOwn (model X.prog X.w) X.A X.env xe->iO (wp X pn xe) st (zZ (wp X pn xe) ks w)
def PS.imp(h:PS X e t)(k:∀D Z H,t' D Z H->t D Z H):PS X e t':=λzF s Z H D I q=>h zF s Z H D I (k D Z H q)
def iO.imp(h:iO X e t)(k:∀D Z H,t' D Z H->t D Z H):iO X e t':=λzF s Z H D I q=>h zF s Z H D I (k D Z H q)
inductive vX(X:Cx)(ks:List Nat)(g:WG)(v:V)(Z:St)(H:Hp)(Q:St->Hp->Prop):Prop
 |mk (F G:Hp) (U:Env) (s:S) (P:Env->Prop) (zH:Rel X.K (U++[some s]) (Z++[some v]) F G H) (hw:g s U P) (n:∀U' Z' F' H',P U'->KP ks Z Z'->zp F F'->Rel X.K U' Z' F' G H'->Q Z' H'):vX X ks g v Z H Q
@[inline]def FG(X:Cx)(ks:List Nat)(tg:Expr)(g:WG):Prop:=∀(pn:List (Addr×Obj))(xe:zi),PassesOwn (model X.prog X.w) X.A X.env xe->PG (wp X pn xe) tg (vX (wp X pn xe) ks g)
def PG.imp(h:PG X e t)(k:∀v Z H Q,t' v Z H Q->t v Z H Q):PG X e t':=λzF s Z H v u Q I r q=>h zF s Z H v u Q I r (k v Z H Q q)
section
variable{st:Stmt}{rest:List Stmt}
def Dm:nF X ks [] cC:=λpn xe B=>iO.imp QW λD Z H q=>by let#[F,G,U,E,v,z,n,b,c,r,x]:=q;show n U Z F H z KP.refl (zp.refl F) v
def Ak(h1:FS X ks st w1)(h2:nF X ks rest w2):nF X ks (st::rest) (zy w1 w2):=λpn xe O=>iO.imp (Td (h1 pn xe O) (h2 pn xe O)) λD Z H q=>by
 obtain⟨F,G,U,E,h3,hw,n,b,c,r,x⟩:=q;show#[F,G,U,{E with nx:=w2 E},h3,hw,λY h5 F1 H1 O k M r1=>?_,b,c,r,x];exact⟨F1,G,Y,E,r1,O,λB z L H' h J s r=>n B z L H' h (k.trans J) (M.trans s) r,λB z L H' h J s r=>b B z L H' h (k.trans J) (M.trans s) r,
  λB z L H' h J s r=>c B z L H' h (k.trans J) (M.trans s) r,λa B z v L H' h J s q rv=>r a B z v L H' h (k.trans J) (M.trans s) q rv,x.mono (λh4 J=>k.trans J) M (zp.refl G)⟩
def Aw(h1:FS X ks st v):nF X ks [st] v:=λpn xe z=>Qi (h1 pn xe z)
def Eu(h:FE X e Y)(hs:swapsWith e none pos.line X.env=pure false:=by rfl):FS X ks (.Expr e pos) (wExpr Y):=λpn xe L=>PS.imp (Qf (h pn xe L) hs) λD Z H q=>by let#[F,G,U,E,J,hw,n,b,c,r,x]:=q;show#[F,G,U,_,_,J,hw,λa B v F1 H1 L s1 M rv=>n B Z F1 H1 L KP.refl s1 (M.drop (Af M)),x.mono (λO z=>by rw[z];show KP.refl) (zp.refl F) (zp.refl G)]
def AU(h:FE X e O):FS X ks (.Return (some e) pos) (bM O):=λpn xe L=>PS.imp (Pm (h pn xe L)) λD Z H q=>by let#[F,G,U,E,J,hw,n,b,c,r,x]:=q;show#[F,G,U,_,_,J,hw,λa B v F1 H1 L Y r1 rv=>r a B Z v F1 H1 L KP.refl Y r1 rv,x.mono (λM z=>by rw[z];show KP.refl) (zp.refl F) (zp.refl G)]
def CW(hc:FT X c tc)(ha:nF X ks a w1)(hb:nF X ks b w2):FS X ks (.If c a b pos) (hU tc w1 w2):=λpn xe O=>PS.imp (Oh (hc pn xe O) (ha pn xe O) (hb pn xe O)) λD Z H q=>by
 obtain⟨F,G,U,E,h1,hw,n,b,c,r,x⟩:=q;show#[F,G,U,_,_,h1,hw,λk Y F1 H1 O s1 r1=>?_,x.mono (λh2 z=>by rw[z];show KP.refl) (zp.refl F) (zp.refl G)];let go:∀w:WS,w E Y->zZ (wp X pn xe) ks w D Z H1:=λw hw=>⟨F1,G,Y,E,r1,hw,λJ B M H' h L s r=>n J B M H' h L (s1.trans s) r,λJ B M H' h L s r=>b J B M H' h L (s1.trans s) r,
  λJ B M H' h L s r=>c J B M H' h L (s1.trans s) r,λa J B v M H' h L s q rv=>r a J B v M H' h L (s1.trans s) q rv,x.grow s1⟩
 cases k with
 |true=>show go _ O
 |false=>show go _ O
def AA(he:FE X e we)(hg:FG X ks tg g)(hs:swapsWithSole [tg] e pos.line X.env=pure false:=by rfl)(M:swappedStores [tg] e X.env=pure none:=by rfl)
  (h1:(assignEach [tg] X.env).map (·.2)=[assign tg X.env]:=by rfl):FS X ks (.Assign [tg] e pos) (zA g we):=λpn xe B=>PS.imp (KD (he pn xe B) (hg pn xe B) hs M h1) λD Z H q=>by
 let#[F,G,U,E,L,M,n,b,c,r,x]:=q;show#[F,G,U,_,_,L,M,λa h2 v F1 H1 B s1 O rv=>?_,x.mono (λY z=>by rw[z];show KP.refl) (zp.refl F) (zp.refl G)];let#[#[s,J],eg,hk]:=Ap B;let#[F2,s2,l2,r2]:=AD (U':=[]) (Z':=[]) O (Af O) rv eg;show#[F2,G,J,s,_,r2,hk,λU' Z' F' H' h k' s r=>n U' Z' F' H' h k' (s1.trans (s2.trans s)) r]
end
def MS(I:Inv X zF Z H s)(hN:∀j,X.N[j]?=some x->j=i)(hi:X.N[i]?=some x)(L:Loc X.env.scope x)(r:zv v u)
  (h:∀s',Inv X zF (Z.set i (some v)) H s'->(∃a,Heap.SameBut a s.heap s'.heap/\(a=X.env.locals\/X.env.cells.lookup x=some a))->Q () s')(hf:X.fn x=true\/X.env.scope.names.lookup x=some .local):wpAny M A (storeName X.env x u) Q E s:=by
 let#[m,hn,hl]:=id I.loc;let h5:(X.env.scope.kind==.class||(X.env.scope.kind==.module&&X.env.locals !=X.env.globals))=false:=by rw[I.ok.kind];rfl
 let h1:i<Z.length:=by rw[I.len];show(qg.mp hi).1
 have cne:=I.cne;let F:∀{a:Addr}{h':Heap},(∃o,s.heap.get? a=some o/\H a=none)->Heap.SameBut a s.heap h'->dY X.prog X.w H h':=λ{a h'} ha B b ob e=>by
  let#[_,_,O]:=ha;show(I.hok b ob e).stay (λc w' J q=>(B.2 c ?_).trans q) (λ_ q=>q) λ_ _ q=>q;rintro rfl;rcases J with rfl|J
  .rw[O]at e;cases e
  .rw[O]at J;cases J
 rcases L with hk|hk
 .refine wpAny_storeName_local hk hn (λh' h9 B=>?_) h5;let#[oL,_,_,h8,_]:=id hn;refine h _ #[I.ok,I.os,I.bare,#[λb o e n hb L=>?_,λb o e n hb L=>?_,I.base.free,λb o e L=>?_,I.base.tups,I.base.frzs,I.base.tbls],#[_,h9,λj y v' G Y e3=>?_],λy c e=>?_,I.free,I.freeC,λp hp=>?_,F #[oL,h8,I.free] B,↑I.len] #[_,B,.inl rfl]
  .show(B.2 b (ne_of_lt (lt_of_lt_of_le (qe e) I.ok.above))).trans (I.base.keep b o e n hb L)
  .obtain⟨sl,G⟩:=I.base.slot b o e n hb L;show#[sl,(B.2 b (ne_of_lt (lt_of_lt_of_le (qe e) I.ok.above))).trans G]
  .obtain⟨o',G⟩:=I.base.there b o e L;show#[o',(B.2 b (ne_of_lt (lt_of_lt_of_le (qe e) I.ok.above))).trans G]
  .by_cases hj:j=i
   .subst hj;rw[hi]at G;cases G;rw[getElem?_set_self h1]at Y;cases Y;show#[u,r,.inl #[hk,by simp]]
   .rw[getElem?_set_ne (Ne.symm hj)]at Y;let#[u',r',q]:=hl j y v' G Y e3;show#[u',r',?_];rcases q with⟨k,e⟩|⟨k,c,e,z⟩
    .show .inl #[k,?_];let:y≠x:=λe=>hj (hN j (e▸G));simp[this,e]
    .show .inr #[k,c,e,z.sameBut B (cne y c e)]
  .obtain⟨w',z⟩:=I.cell y c e;show#[w',z.sameBut B (cne y c e)]
  .obtain⟨e,n,ne,nf,d⟩:=I.pin p hp;show#[(B.2 p.1 ne).trans e,n,ne,nf,d]
 .have h2:X.fn x=true:=by
   rcases hf with z|z
   .show z
   .rw[z]at hk;cases hk
  let#[c,J]:=I.ok.has x (.inl hk);let#[w',z]:=I.cell x c J;show wpAny_storeName_cell I.ok.kind hk J z (λh' h7 B=>?_);let#[oc,h4,h3]:=id z;show h {s with heap:=h'} ⟨I.ok,I.os,I.bare,⟨λb o e n hb L=>?_,λb o e n hb L=>?_,I.base.free,λb o e L=>?_,I.base.tups,I.base.frzs,I.base.tbls⟩,⟨m,hn.sameBut B (Ne.symm (cne x c J)),λj y v' G Y e3=>?_⟩,λy c' e=>?_,I.free,I.freeC,λp hp=>?_,F ⟨oc,h4,I.freeC x c J⟩ B,↑I.len⟩ #[c,B,.inr J]
  .show(B.2 b (ne_of_lt (lt_of_lt_of_le (qe e) (I.ok.cab x c h2 J)))).trans (I.base.keep b o e n hb L)
  .obtain⟨sl,G⟩:=I.base.slot b o e n hb L;show#[sl,(B.2 b (ne_of_lt (lt_of_lt_of_le (qe e) (I.ok.cab x c h2 J)))).trans G]
  .obtain⟨o',G⟩:=I.base.there b o e L;show#[o',(B.2 b (ne_of_lt (lt_of_lt_of_le (qe e) (I.ok.cab x c h2 J)))).trans G]
  .by_cases hj:j=i
   .subst hj;rw[hi]at G;cases G;rw[getElem?_set_self h1]at Y;cases Y;show#[u,r,.inr #[.inl hk,c,J,h7]]
   .rw[getElem?_set_ne (Ne.symm hj)]at Y;let#[u',r',q]:=hl j y v' G Y e3;show#[u',r',?_];rcases q with q|⟨k,c',e,z'⟩
    .show .inl q
    .show .inr #[k,c',e,z'.sameBut B ?_];rintro rfl;show hj (hN j (I.ok.inj _ _ _ e J▸G))
  .by_cases h6:c'=c
   .subst h6;show#[_,h7]
   .obtain⟨w2,z2⟩:=I.cell y c' e;show#[w2,z2.sameBut B h6]
  .obtain⟨e,n,ne,nf,d⟩:=I.pin p hp;show#[(B.2 p.1 ?_).trans e,n,ne,nf,d];intro q;rw[q,h4]at e;let q':oc=p.2:=qf e;show d w' (by rw[<-q'];show h3)
def KP.set(h:i∉ks):KP ks Z (Z.set i u):=λj v=>getElem?_set_ne (λ(z:i=j)=>h (z▸v))
def LN(Y:i∉ks)(hN:∀j,X.N[j]?=some x->j=i)(hi:X.N[i]?=some x)(M:Loc X.env.scope x)(hf:X.fn x=true\/X.env.scope.names.lookup x=some .local):FG X ks (.Name x pos) (zm i):=by
 intro pn xe hp zF s Z H v u Q I L q;let#[F,G,U,t,P,z,O,n]:=q;let J:=Af z;let B:i<U.length:=by rw[J,I.len];show(qg.mp hi).1
 show wpAny_assign_Name (MS (X:=wp X pn xe) I hN hi M L (λs' I' _=>#[_,H,I',n _ _ F H O (KP.set Y) (zp.refl F) (z.store J B)]) hf)
inductive wN(X:Cx)(ks:List Nat)(gs:List WG)(vs:List V)(Z:St)(H:Hp)(Q:St->Hp->Prop):Prop
 |mk (F G:Hp) (U:Env) (ds:List D) (P:Env->Prop) (zH:Rel X.K U Z F G H) (rp:zD X.K F vs ds) (hw:dQ gs ds U P) (n:∀U' Z' F' H',P U'->KP ks Z Z'->zp F F'->Rel X.K U' Z' F' G H'->Q Z' H'):wN X ks gs vs Z H Q
def au(X:Cx)(ks:List Nat)(tg:List Expr)(g:List WG):Prop:=∀(pn:List (Addr×Obj))(xe:zi),PassesOwn (model X.prog X.w) X.A X.env xe->yX (wp X pn xe) tg (wN (wp X pn xe) ks g)
def Ex:au X ks [] []:=λpn xe M zF s Z H B J Q I r q=>by
 let#[F,G,U,O,P,v,L,z,n]:=q;show RH zF s Z H B J Q I r ?_;cases L with
 |nil=>show#[rfl,n U Z F H z KP.refl (zp.refl F) v]
 |cons a b=>show z.elim
def Bf(h1:FG X ks e g)(h2:au X ks es gs)
  (hs:(assignEach (e::es) X.env).map (·.2)=assign e X.env::(assignEach es X.env).map (·.2):=by rfl):au X ks (e::es) (g::gs):=λpn xe v zF s Z H vs us Q I r q=>by
 let#[F,G,U,ds,P,L,rp,O,n]:=q;show SQ (X:=wp X pn xe) (h1 pn xe v) (h2 pn xe v) hs zF s Z H vs us Q I r ?_;cases rp with
 |nil=>show O.elim
 |cons a b=>show#[_,_,rfl,F,G,U,_,_,L.push a,O,λB Y F1 H1 v k M r1=>#[F1,G,B,_,P,r1,b.mono M,v,λJ z F' H' h k' s r=>n J z F' H' h (k.trans k') (M.trans s) r]]
def zD.len{K:W.Frag}(r:zD K F xs ds):xs.length=ds.length:=zD.ind (P:=λxs ds=>xs.length=ds.length) rfl (λ_ _ v=>congrArg (·+1) v) r
def Er(hc:X.calm=true)(h:au X ks es J)(hn:(assignEach es X.env).length=J.length:=by rfl)(O:(assignEach es X.env).findIdx? (·.1)=none:=by rfl):FG X ks (.Tuple es k pos) (cB J):=λpn xe hp=>by
 show PG.imp (Pd (X:=wp X pn xe) hc (h pn xe hp) hn O) λv Z H Q q=>?_;let#[F,G,U,s,P,B,hw,n]:=q;let#[F1,s1,rp,Y]:=Rel.giveD (U:=U) (vs:=[v]) (ss:=[s]) B (Af B);cases rp with
 |cons a b=>
  let z:(match s.toD with|.tup ds=>ds.length=J.length/\dQ J ds U P|_=>False):=hw;generalize s.toD=d at a z;cases a with
  |tup e r=>show#[_,_,rfl,bK.of (Y.fr _ _ e),by rw[r.len];show z.1,F1,G,U,_,P,Y,r,z.2,λM L F' H' h k' s r=>n M L F' H' h k' (s1.trans s) r]
  |_=>show z.elim
def fU(K:W.Frag)(J:It)(l:List D)(v:Hp):Prop:=∀(i:Nat)(U:Env)(Z:St)(F G H:Hp),zp v F->Rel K U Z F G H->
 (∀d,l[i]?=some d->J.go i H/\∀x H',J.yld i H x H'->∃F',zp F F'/\Rel K U Z F' G H'/\aN K F' x d)/\(l.length<=i->J.stop i H)
inductive ig(X:Cx)(wi:WI)(Z:St)(H:Hp)(R:It->Hp->Prop):Prop
 |mk (F G:Hp) (U:Env) (P:List D->Env->Prop) (PX:WX) (zH:Rel X.K U Z F G H) (hw:wi U P PX) (hok:∀l U' F' H' J,P l U'->zp F F'->Rel X.K U' Z F' G H'->fU X.K J l F'->R J H') (hx:XC X (·=Z) F G PX):ig X wi Z H R
@[inline]def FI(X:Cx)(tg iter:Expr)(v:WI):Prop:=∀(pn:List (Addr×Obj))(xe:zi),PassesOwn (model X.prog X.w) X.A X.env xe->PI (wp X pn xe) tg iter (ig (wp X pn xe) v)
def PI.imp(h:PI X tg e t)(k:∀Z H R,t' Z H R->t Z H R):PI X tg e t':=λzF s Z H R I q=>h zF s Z H R I (k Z H R q)
def zD.get{K:W.Frag}{i:Nat}(r:zD K F xs ds)(h:ds[i]?=some d):∃x,xs[i]?=some x/\aN K F x d:=
 zD.ind (P:=λxs ds=>∀i d,ds[i]?=some d->∃x,xs[i]?=some x/\aN K F x d) (λ_ _ e=>by cases e) (λa _ v i d e=>by
  cases i with
  |zero=>cases e;show#[_,rfl,a]
  |succ i=>show v i d e) r i d h
section
variable{K:W.Frag}
def Nl(e:bL K F0 a xs)(r:zD K F0 xs l):fU K (zO K a) l F0:=λi U Z F G H J v=>by let B:bL K H a xs:=bL.mono (J.trans v.fr) e;show#[λd O=>?_,λh=>#[xs,B,by rw[r.len];show h]];let#[x,L,M]:=r.get O;show#[#[xs,x,B,L],λy H' z=>?_];let#[rfl,z]:=z;let:x=y:=qf (L.symm.trans (z xs B));subst this;show#[F,zp.refl F,v,M.mono J]
def RX(e:bK K F0 a xs)(r:zD K F0 xs l):fU K (gz K a) l F0:=λi U Z F G H J v=>by let B:bK K H a xs:=bK.mono (J.trans v.fr) e;show#[λd O=>?_,λh=>#[xs,B,by rw[r.len];show h]];let#[x,L,M]:=r.get O;show#[#[xs,x,B,L],λy H' z=>?_];let#[rfl,z]:=z;let:x=y:=qf (L.symm.trans (z xs B));subst this;show#[F,zp.refl F,v,M.mono J]
def Va{lo:Int}(h:(fromTo lo n)[i]?=some d):i<n/\d=.int (lo+i):=by
 unfold fromTo at h;rw[qE]at h;by_cases hi:i<n
 .rw[List.getElem?_range hi]at h;show#[hi,(qf h).symm]
 .rw[qP ↑hi]at h;cases h
def Vi{lo:Int}:fU K (ar lo n) (fromTo lo n) F0:=λi U Z F G H J v=>by
 show#[λd B=>?_,λh=>?_]
 .obtain⟨hi,rfl⟩:=Va B;show#[hi,λx H' z=>?_];let#[rfl,rfl]:=z;show#[F,zp.refl F,v,.int _]
 .let:n<=i:=by simpa[fromTo] using h
  show this
end
def wA(x:Str):It:=#[λi _=>i<x.cps.size,λi H v H'=>H'=H/\∃c,x.cps[i]?=some c/\v=.str #[[c].toArray],λi _=>x.cps.size<=i]
def So{P:Program}{w:World}{K:W.Frag}{tg:Expr}(it:Addr)(x:Str)(t:Tok)(ty:String)(hty:ty="str_ascii_iterator"\/ty="str_iterator"):gY P w K tg (wA x) [it] it (λi h=>h.IsStrIter it ty x t i) where
 mem:=m1
 obj:=λi h st b hb=>by
  let e:b=it:=↑hb
  subst e;let#[o,e,c,d]:=st;show#[o,e,λv z=>by rw[d]at z;cases z]
 keep:=λi h h' st k=>by let#[o,e,r]:=st;show#[o,k it (m1) o e,r]
 item:=by
  intro X hP hw hK hc i zF s Z H E I hf st hg;subst hP hw hK;let#[f0,f1,f2,f3,f4,f5]:=hf it (m1);let W:Walks X.prog X.w X.A it [it] [it] x.cps.size (SignAt x) (λi h=>h.IsStrIter it ty x t i):=by
   rcases hty with rfl|rfl
   .show Walks.strAscii (I.ok.hd hc) it x t
   .show Walks.strWide (I.ok.hd hc) it x t
  show W.item i s _ _ hg st λv h' tk hv st' kk=>?_;let#[c,u,e1,rfl]:=hv;let I1:Inv X zF Z H {s with heap:=h',toks:=tk}:=I.turned (λb o hb e=>kk b o ↑hb e) f0 f1 f3 f4 f5;let#[o,e,cl,d]:=id st';show#[_,rfl,Gz (s:={s with heap:=h',toks:=tk}) e cl d (by rcases hty with rfl|rfl<;>decide) ⟨.str ⟨[c].toArray⟩,H,I1,⟨u,rfl⟩,⟨rfl,c,e1,rfl⟩,st',λb hb=>(hf b hb).1⟩]
 done:=by
  intro X hP hw hK hc i zF s Z H E I hf st hg;let#[f0,f1,f2,f3,f4,f5]:=hf it (m1);let hn:x.cps[i]?=none:=by let:x.cps.size<=i:=hg;simp[this]
  rcases hty with rfl|rfl
  .show wpAny_pyNext_ascii_end (I.ok.hd hc) st hn λh' eb=>#[rfl,I.turned (t':=s.toks) (λb o hb e=>eb b o hb e) f0 f1 f3 f4 f5]
  .show wpAny_pyNext_wide_end (I.ok.hd hc) st hn λh' eb=>#[rfl,I.turned (t':=s.toks) (λb o hb e=>eb b o hb e) f0 f1 f3 f4 f5]
 self:=λA i s Q E st h=>by
  rcases hty with rfl|rfl
  .show wpAny_pyIter_striter_ascii st h
  .show wpAny_pyIter_striter_wide st h
def gf(K:W.Frag)(z:TE):TI:=λZ H R=>z Z H λv H1=>(∃a,v=.ref a/\(∃xs,bL K H1 a xs)/\R (zO K a) H1)\/(∃a,v=.ref a/\(∃xs,bK K H1 a xs)/\R (gz K a) H1)\/∃x,v=.str x/\R (wA x) H1
def Pq(hl:PE X l tl):PI X tg l (gf X.K tl):=by
 intro zF s Z H R I h;show Al (hl zF s Z H _ I h) λv z zq=>?_;let#[y,H1,B,L,q1]:=zq;rcases q1 with⟨a,e,⟨xs,O⟩,q⟩|⟨a,e,⟨xs,O⟩,q⟩|⟨x,e,q⟩
 .subst e;cases L;let#[F,rv,p,hz]:=B.list O;show wpAny_pyIter_list p.isList ?_;show#[z.heap.objs.size,[z.heap.objs.size],_,_,H1,rfl,B.kept (t':=z.toks) λb o e=>qc _ e,Um a _,#[_,qd _ rfl,rfl,rfl],λb G=>?_,q];let e:b=z.heap.objs.size:=by simpa using G
  subst e;show B.fpOk (q5 _) (B.hok.fresh (q5 _))
 .subst e;cases L;let#[F,rv,p,hz]:=B.tuple O;show wpAny_pyIter_tuple (show z.heap.IsTuple a F.toArray from p) ?_;show#[z.heap.objs.size,[z.heap.objs.size],_,_,H1,rfl,B.kept (t':=z.toks) λb o e=>qc _ e,Vm a _,#[_,qd _ rfl,rfl,rfl],λb G=>?_,q];let e:b=z.heap.objs.size:=by simpa using G
  subst e;show B.fpOk (q5 _) (B.hok.fresh (q5 _))
 .subst e;let#[t,rfl]:=L;let J:∀(ty:String)(o:Obj),(ty="str_ascii_iterator"\/ty="str_iterator")->o.cls=.type ty->o.data=.fields [.str x t,.int 0 0].toArray->o.isFreed=false->yW X zF Z tg R (.ref z.heap.objs.size) {z with heap:=z.heap.push o}:=λty o M hc hd hf=>by
   show#[z.heap.objs.size,[z.heap.objs.size],_,_,H1,rfl,B.kept (t':=z.toks) λb o e=>qc _ e,So _ x t ty M,#[_,qd _ hf,hc,hd],λb G=>?_,q];let e:b=z.heap.objs.size:=↑G
   subst e;show B.fpOk (q5 _) (B.hok.fresh (q5 _))
  cases Y:x.cps.all (·<128)
  .show wpAny_pyIter_wide Y (J "str_iterator" _ (.inr rfl) rfl rfl rfl)
  .show wpAny_pyIter_ascii Y (J "str_ascii_iterator" _ (.inl rfl) rfl rfl rfl)
section
variable{K:W.Frag}
def LV(e:x.cps.toList=l):fU K (wA x) (l.map λc=>.str [c]) F0:=λi U Z F G H sm z=>by
 let J:x.cps.size=l.length:=by rw[<-e];simp
 show#[λd v=>?_,λh=>by show x.cps.size<=i;rw[J];simpa using h];rw[qE]at v;cases q:l[i]? with
 |none=>rw[q]at v;cases v
 |some c=>
  rw[q]at v;let B:D.str [c]=d:=qf v;let hi:i<l.length:=(qg.mp q).1;let O:x.cps[i]?=some c:=by rw[<-qY,e];show q
  show#[by show i<x.cps.size;rw[J];show hi,λy H' M=>?_];let#[rfl,Y,L,rfl]:=M;rw[O]at L;let:c=Y:=qf L;subst this;rw[<-B];show#[F,zp.refl F,z,.str rfl (by show 1<=_;decide)]
def BU(h:FE X e we):FI X tg e (bI we):=λpn xe hp=>by
 show PI.imp (Pq (h pn xe hp)) λZ H R q=>?_;let#[F,G,U,P,PX,h1,hw,L,hx]:=q;show#[F,G,U,_,PX,h1,hw,λr h2 v F1 H1 M s1 r1 rv=>?_,hx];let#[#[s,J],eg,M]:=Ap M;let#[l,el,M]:=Ap M;let#[F2,s2,l2,r2]:=AD (U':=[]) (Z':=[]) r1 (Af r1) rv eg;let#[F3,s3,rp,O]:=Rel.giveD (U:=J) (vs:=[v]) (ss:=[s]) r2 (Af r2);let Y:=s1.trans (s2.trans s3);cases rp with
 |cons a b=>
  let B:items s.toD=some l:=el;generalize s.toD=d at a B;cases a with
  |lst e r=>have:l=_:=(qf B).symm;subst this;show .inl #[_,rfl,#[_,bL.mono O.fr e],L _ J F3 H1 _ M Y O (Nl e r)]
  |tup e r=>have:l=_:=(qf B).symm;subst this;show .inr (.inl #[_,rfl,#[_,bK.of (O.fr _ _ e)],L _ J F3 H1 _ M Y O (RX (bK.of e) r)])
  |str e z=>have:l=_:=(qf B).symm;subst this;show .inr (.inr #[_,rfl,L _ J F3 H1 _ M Y O (LV e)])
  |_=>cases B
def EC(hg:Gl X "range")(hm:X.mg "range"=none)(ha:FE X a we)(hs:starEach [a] X.env=[(false,eval a X.env)]:=by rfl):FI X tg (.Call (.Name "range" p) [a] [] pos) (aX we):=λpn xe hp=>by
 show PI.imp (UQ (X:=wp X pn xe) hg hm (Aa ha Ac hs pn xe hp) hs) λZ H R q=>?_;let#[F,G,U,P,PX,O,hw,Y,hx]:=q;show#[F,G,U,λM B=>match M with|[r]=>(match view r B with|some (.int j)=>(-big<=j/\j<=big)/\P (fromTo 0 j.toNat) B|_=>False)|_=>False,PX,O,hw,λM B vs F1 H1 z s1 L hl J=>?_,hx];match M,vs,J,L,z with
 |[r],[v],J,L,z=>
  dsimp only at z;split at z
  .rename_i j ej;let rp:=Av (U':=[]) (Z':=[]) L hl J.1 ej;cases rp;let#[#[h1,h2],z]:=z;let eb:(big:Int)=1000000:=rfl;show#[j,rfl,∅,∅,Y _ B F1 H1 _ z s1 ((show Rel X.K (B++[zr r]) (Z++[some (.int j)]) F1 G H1 from L).drop hl) Vi]
  .show z.elim
 |[],_,_,_,z=>show z.elim
 |[_],[],J,_,_=>show J.elim
 |[_],_::_::_,J,_,_=>show J.2.elim
 |_::_::_,_,_,_,z=>show z.elim
end
def Dp(hc:X.calm=true)(hi:FI X tg iter wi)(hg:FG X ks tg g)(hb:nF X ks body wb)(hs:∀x,foldedSetIterable iter X.env x=pure x:=by intro _;rfl):FS X ks (.For tg iter body [] pos) (dU wi g wb):=λpn xe hp=>by
 show PS.imp (PP (X:=wp X pn xe) hp hc (hi pn xe hp) (hg pn xe hp) (hb pn xe hp) hs) λD Z H q=>?_;let#[F,G,U,E,h9,hw,n,b,c,r,x]:=q;show#[F,G,U,_,_,h9,hw,λl h7 F1 H1 J hk s1 r1 it=>?_,x.mono (λL z=>by rw[z];show KP.refl) (zp.refl F) (zp.refl G)];show#[λi m L H2=>m=l.length-i/\i<=l.length/\∃F2 U2,KP ks Z L/\zp F1 F2/\Rel X.K U2 L F2 G H2/\bY g wb (l.drop i) E U2,#[l.length,rfl,zero_le _,F1,h7,KP.refl,zp.refl F1,r1,hk],?_];rintro i m L H2 ⟨rfl,hi,F2,U2,kp,s2,r2,h1⟩;let#[e2,e1]:=it i U2 L F2 G H2 s2 r2;by_cases h2:i<l.length
 .obtain⟨go,h8⟩:=e2 l[i] (by simp);show .inr #[go,λh3 H3=>i+1<=l.length/\∃F3 h5,KP ks Z h3/\zp F1 F3/\Rel X.K h5 h3 F3 G H3/\bY g wb (l.drop (i+1)) E h5,λh3 H3 h=>#[l.length-(i+1),∅,rfl,h],λy H3 hy=>?_];let#[F3,s3,r3,rp]:=h8 y H3 hy;rw[List.drop_eq_getElem_cons h2]at h1;show#[F3,G,U2,_,_,r3.push rp,h1,λh6 hx F4 H4 e3 k4 s4 r4=>?_];let O:=kp.trans k4;let h4:=s1.trans (s2.trans (s3.trans s4));exact⟨F4,G,h6,_,r4,e3,λB M F' H' h Y s r=>#[h2,F',B,O.trans Y,s2.trans (s3.trans (s4.trans s)),r,h],λB M F' H' h Y s r=>n B M F' H' h (O.trans Y) (h4.trans s) r,
   λB M F' H' h Y s r=>#[h2,F',B,O.trans Y,s2.trans (s3.trans (s4.trans s)),r,h],λa B M v F' H' h Y s q rv=>r a B M v F' H' h (O.trans Y) (h4.trans s) q rv,x.mono (λe4 Y=>O.trans Y) h4 (zp.refl G)⟩
 .let e:i=l.length:=Nat.le_antisymm hi (not_lt.mp h2);subst e;rw[List.drop_length]at h1;show .inl #[e1 (q5 _),n U2 L F2 H2 h1 kp (s1.trans s2) r2]
def MD(hc:FT X c wc)(hb:nF X ks body wb):FS X ks (.While c body [] pos) (fE wc wb):=λpn xe hp=>by
 show PS.imp (Ss (X:=wp X pn xe) hp (hc pn xe hp) (hb pn xe hp)) λD Z H q=>?_;let#[F,G,U,E,h4,#[J,#[m0,j0],step],n,b,c,r,x]:=q;show#[λm O H2=>∃F2 U2,KP ks Z O/\zp F F2/\Rel X.K U2 O F2 G H2/\J m U2,#[m0,F,U,KP.refl,zp.refl F,h4,j0],?_];rintro m O H2 ⟨F2,U2,kp,s2,r2,j2⟩;show#[F2,G,U2,_,_,r2,step m U2 j2,λk h2 F3 H3 hk s3 r3=>?_,x.mono (λh3 z=>by rw[z];show kp) s2 (zp.refl G)];let L:=s2.trans s3;cases k with
 |true=>
  refine#[λh1 H4=>∃m',m'<m/\∃F2 U2,KP ks Z h1/\zp F F2/\Rel X.K U2 h1 F2 G H4/\J m' U2,λh1 H4 h=>h,?_];exact⟨F3,G,h2,_,r3,hk,λB M F' H'⟨m',hm,h⟩ Y s r=>#[m',hm,F',B,kp.trans Y,L.trans s,r,h],λB M F' H' h Y s r=>n B M F' H' h (kp.trans Y) (L.trans s) r,
   λB M F' H'⟨m',hm,h⟩ Y s r=>#[m',hm,F',B,kp.trans Y,L.trans s,r,h],λa B M v F' H' h Y s q rv=>r a B M v F' H' h (kp.trans Y) (L.trans s) q rv,x.mono (λh3 Y=>kp.trans Y) L (zp.refl G)⟩
 |false=>show n h2 O F3 H3 hk kp L r3
inductive eM(K:W.Frag)(f:WF)(n:Nat)(vs:List V)(H:Hp)(Q:VK)(Zq:XK):Prop
 |mk (F G:Hp) (ss:List S) (P:S->List S->Prop) (PX:D->List S->Prop) (hn:vs.length=n) (zH:Rel K (ss.map some) (vs.map some) F G H) (hw:f ss P PX) (hok:∀s ss' v F' H',P s ss'->zp F F'->ss'.length=ss.length->Rel K (ss'.map some++[some s]) (vs.map some++[some v]) F' G H'->Q v H') (hex:∀d ss' F' H' C dx,PX d ss'->zp F F'->ss'.length=ss.length->Rel K (ss'.map some) (vs.map some) F' G H'->yJ K F' d C dx->Zq (.ref C) dx H'):eM K f n vs H Q Zq
section
variable{K:W.Frag}
def Rel.comm(h:U.length=Z.length)(r:Rel K (U++U') (Z++Z') F G H):Rel K (U'++U) (Z'++Z) F G H:=by let:=Rel.swap (U:=[]) (Z:=[]) (U1:=U) (Z1:=Z) (U2:=U') (Z2:=Z') rfl h r;simpa using this
def Rel.lend(r:Rel K (U++(none::U')) (Z++(some v::Z')) F G H)(h:U.length=Z.length)(hs:slot U i=some s)(z:Z[i]?=some (some v)):
  Rel K (U.set i none++(some s::U')) (Z++(some v::Z')) F G H:=by
 let#[fp,e,nd,ap]:=r.en;let#[f1,O,rfl,a,b]:=e.cut h;let#[v',M,B,L,Y,rfl,q,up]:=a.at hs;rw[z]at Y;let e2:v=v':=↑Y
 subst e2;let a2:=up (F':=F) (H':=H) (o:=none) (u:=some v) (fi':=[]) (zp.refl F) (λ_ _=>rfl) (.no .nil);let es:Z.set i (some v)=Z:=by
  apply ext_getElem?;intro j;by_cases J:i=j
  .subst J;rw[getElem?_set_self (qg.mp z).1,z]
  .rw[getElem?_set_ne J]
 rw[es]at a2;cases b with
 |no b=>
  let p:((M++([]++L))++(B++O)).Perm ((M++(B++L))++O):=by simp;show List.Perm.append_left _ ?_;rw[<-qp,<-qp B];show List.Perm.append_right _ qM
  show#[r.fr,r.gr,_,a2.app (.so q b),p.nodup_iff.mpr nd,λx hx=>ap x (p.mem_iff.mp hx)]
def Rel.back1(r:Rel K (U++(some s::U')) (Z++(some v::Z')) F G H)(h:U.length=Z.length)(B:Z[i]?=some (some v)):Rel K (U.set i (some s)++U') (Z++Z') F G H:=by
 let hi:i<Z.length:=(qg.mp B).1;let es:Z.set i (some v)=Z:=by apply ext_getElem?;grind
 let J:U'.length=Z'.length:=by let:=r.len;grind
 let z:=Rel.swap (U1:=[some s]) (Z1:=[some v]) (U2:=U') (Z2:=Z') h rfl r;rw[<-qp,<-qp]at z;let L:=Rel.store (i:=i) z (by simp[h,J]) (by simp;lia -verbose);grind
theorem Lm:∀{rs:List R}{vs:List V}{ms:List Bool}{U U' U1:Env}{ss:List S}{F:Hp}{Z':St},Rel K (U++(rs.map zr++U')) (Z++(vs.map some++Z')) F G H->U.length=Z.length->nE Z vs rs->cF ms rs U=some (ss,U1)->
  ∃F',zp F F'/\U1.length=U.length/\ss.length=rs.length/\Rel K (U1++(ss.map some++U')) (Z++(vs.map some++Z')) F' G H
 |[],[],ms,U,U',U1,ss,F,Z',r,h,_,e=>by
  let z:some (([]:List S),U)=some (ss,U1):=by cases ms<;>show e
  cases z;show#[F,zp.refl F,rfl,rfl,r]
 |[],_::_,_,_,_,_,_,_,_,_,_,h,_=>h.elim
 |_::_,[],_,_,_,_,_,_,_,_,_,h,_=>h.elim
 |x::rs,v::vs,ms,U,U',U1,ss,F,Z',r,h,rv,e=>by
  --the first one,as it is handed on
  have first:∃s U2 B M,cF ms.tail rs U2=some (B,U1)/\ss=s::B/\zp F M/\U2.length=U.length/\Rel K (U2++(some s::(rs.map zr++U'))) (Z++(some v::(vs.map some++Z'))) M G H:=by
   cases x with
   |v s=>
    let z:(match cF ms.tail rs U with|some (ss,U1)=>some (s::ss,U1)|none=>none)=some (ss,U1):=by cases ms<;>show e
    cases q:cF ms.tail rs U with
    |none=>rw[q]at z;cases z
    |some p=>let#[B,L]:=p;rw[q]at z;cases z;show#[s,U,B,F,q,rfl,zp.refl F,rfl,r]
   |loc i=>
    have z:(match slot U i with
     |some s=>if ms.headD false then(match cF ms.tail rs (U.set i none)with
      |some (ss,U1)=>some (s::ss,U1)
      |none=>none)
      else(match cF ms.tail rs (U.set i (some (.sh s.toD)))with
       |some (ss,U1)=>some (.sh s.toD::ss,U1)
       |none=>none)
     |none=>none)=some (ss,U1):=by cases ms<;>show e
    cases q:slot U i with
    |none=>rw[q]at z;cases z
    |some s=>
     rw[q]at z;dsimp only at z;by_cases hm:ms.headD false=true
     .rw[qZ hm]at z;cases J:cF ms.tail rs (U.set i none)with
      |none=>rw[J]at z;cases z
      |some p=>let#[B,L]:=p;rw[J]at z;cases z;show#[s,U.set i none,B,F,J,rfl,zp.refl F,by simp,Rel.lend r h q rv.1]
     .rw[q4 hm]at z;cases J:cF ms.tail rs (U.set i (some (.sh s.toD)))with
      |none=>rw[J]at z;cases z
      |some p=>let#[B,L]:=p;rw[J]at z;cases z;let#[M,Y,l1,O]:=AD (x:=.loc i) (s:=.sh s.toD) (U1:=U.set i (some (.sh s.toD))) r h rv.1 (by show(match slot U i with|some s=>some (S.sh s.toD,U.set i (some (.sh s.toD)))|none=>none)=_;rw[q]);show#[_,_,B,M,J,rfl,Y,by simp,O]
  let#[s,U2,B,M,J,rfl,Y,l1,O]:=first
  let h2:U2.length=Z.length:=l1.trans h;let hl:(rs.map zr++U').length=(vs.map some++Z').length:=by let:=O.len;rw[qq,qq,qt,qt]at this;lia
  let h1:U'.length=Z'.length:=by let:=rv.2.len;simp at hl;lia
  let r2:=Rel.swap (U1:=[some s]) (Z1:=[some v]) (U2:=rs.map zr++U') (Z2:=vs.map some++Z') h2 rfl O;rw[qp,qp]at r2;let#[F2,s2,l2,l3,r3]:=Lm (rs:=rs) (vs:=vs) r2 h2 rv.2 J;let h3:U1.length=Z.length:=l2.trans h2;rw[<-qp (B.map some),<-qp (vs.map some)]at r3;let r4:=Rel.swap (U1:=B.map some++U') (Z1:=vs.map some++Z') (U2:=[some s]) (Z2:=[some v]) h3 (by simp[l3,rv.2.len,h1]) r3;show#[F2,Y.trans s2,l2.trans l1,by simp[l3],r4]
def GJ:∀{rs:List R}{vs:List V}{ms:List Bool}{U U':Env}{ss:List S}{Z':St},Rel K (U++(ss.map some++U')) (Z++(vs.map some++Z')) F G H->U.length=Z.length->ss.length=rs.length->nE Z vs rs->
  (back ms rs ss U).length=U.length/\Rel K (back ms rs ss U++U') (Z++Z') F G H
 |[],[],ms,U,U',[],Z',r,h,_,_=>by
  let e:back ms [] [] U=U:=by cases ms<;>rfl
  show#[rfl,r]
 |[],_,_,_,_,_::_,_,_,_,hl,_=>by simp at hl
 |_::_,_,_,_,_,[],_,_,_,hl,_=>by simp at hl
 |[],_::_,_,_,_,_,_,_,_,_,h=>h.elim
 |_::_,[],_,_,_,_,_,_,_,_,h=>h.elim
 |x::rs,v::vs,ms,U,U',s::ss,Z',r,h,hl,rv=>by
  cases x with
  |v t=>
   let e:back ms (.v t::rs) (s::ss) U=back ms.tail rs ss U:=by cases ms<;>rfl
   show GJ (rs:=rs) (vs:=vs) (r.mid h) h ↑hl rv.2
  |loc i=>
   let e:back ms (.loc i::rs) (s::ss) U=if ms.headD false then back ms.tail rs ss (U.set i (some s))else back ms.tail rs ss U:=by cases ms<;>rfl
   rw[e];by_cases z:ms.headD false=true
   .rw[qZ z];let q:=GJ (rs:=rs) (vs:=vs) (ms:=ms.tail) (U:=U.set i (some s)) (Rel.back1 r h rv.1) ↑h ↑hl rv.2;show#[q.1.trans (by simp),q.2]
   .rw[q4 z];show GJ (rs:=rs) (vs:=vs) (r.mid h) h ↑hl rv.2
end
def Qc(Fk:eY X.prog X.w X.K X.mg X.base (iN X.prog X.w) k f fd ps (eM X.K wf n))(hr:bR k X.A)(hg:Gl X x)(hm:X.mg x=some (.ref f))(O:W.keepIn X.K (.ref f)=true)(hb:Binds X.K fd ps [])
  (ha:FA X (e::es) wa)(h2:∀ss P PX,wf ss P PX->ss.length=n)(h7:(x==("__debug__":Str))=false:=by decide)(he:starEach (e::es) X.env=(false,eval e X.env)::starEach es X.env:=by rfl)(h5:(backTo pos (starEach es X.env)).any (·.1)=false:=by rfl):
  FE X (.Call (.Name x p) (e::es) [] pos) (zz wf ms wa):=λpn xe hp=>by
 show PE.imp (Sw (X:=wp X pn xe) Fk hr hg hm O hb (ha pn xe hp) h7 he h5) λZ H Q q=>?_;show(many (k:=λrs B Q E=>zo (cF ms rs B) λp=>wf p.1 (λs ss=>Q (.v s) (back ms rs ss p.2)) (λx ss=>E x (back ms rs ss p.2))) q).mono λvs H1 h1=>?_;let#[F,G,U,rs,P,PX,h3,hl,L,O,h6,hx]:=h1;let#[#[ss,B],ep,O]:=Ap O;let#[F1,s1,l1,M,r1]:=Lm (U':=[]) (Z':=[]) ↑h3 hl L ep;let h1:B.length=Z.length:=l1.trans hl;let r2:=Rel.comm (U':=ss.map some) (Z':=vs.map some) h1 ↑r1;let h4:(ss.map some).length=(vs.map some).length:=by simp[M,L.len]
 let#[G',r3,gg,bk]:=r2.hide h4;let hn:=h2 _ _ _ O;show#[F1,G',ss,_,_,by rw[L.len,<-M];show hn,r3,O,λs J v F2 H2 hp Y l3 r4=>?_,λd J F2 H2 C dx hp Y l3 r4 cd a s' I Fl=>?_]
 .let r5:=bk Y r4;let z:(J.map some++[some s]).length=(vs.map some++[some v]).length:=by simp[l3,M,L.len]
  let r6:=Rel.comm z r5;let#[l7,r7]:=GJ (ms:=ms) (rs:=rs) (vs:=vs) (U':=[some s]) (Z':=[some v]) r6 h1 (l3.trans M) L;show h6 _ _ v F2 H2 hp (s1.trans Y) r7 trivial
 .let r5:=bk Y r4;let z:(J.map some).length=(vs.map some).length:=by simp[l3,M,L.len]
  let r6:=Rel.comm z r5;let#[l7,r7]:=GJ (ms:=ms) (rs:=rs) (vs:=vs) (U':=[]) (Z':=[]) ↑r6 h1 (l3.trans M) L;show hx d _ Z F2 H2 (.ref a) s' hp rfl (s1.trans Y) ↑r7 I #[a,C,dx,rfl,cd,Fl]
section
variable{K:W.Frag}
def Rel.pushNs(r:Rel K U Z F G H):∀m:Nat,Rel K (U++List.replicate m none) (Z++List.replicate m none) F G H
 |0=>↑r
 |m+1=>by let:=(Rel.pushNs r m).pushN (u:=none);rw[qp,qp,<-List.replicate_succ',<-List.replicate_succ']at this;show this
@[inline]def Args(K:W.Frag)(F:Hp):List S->List V->St->Prop
 |[],[],_=>True
 |s::ss,v::vs,u::Z=>((∃d,s=.sh d/\aN K F v d)\/(s.isSh=false/\u=some v))/\Args K F ss vs Z
 |_,_,_=>False
def Im:∀{ss:List S}{vs:List V}{fs:List S}{U U' Ua:Env}{Z Z' Za:St},aB ss U=some fs->Rel K (Ua++(U++U')) (Za++(Z++Z')) F G H->Ua.length=Za.length->U.length=Z.length->Args K F ss vs Z->
  fs.length=ss.length/\vs.length=ss.length/\Rel K (Ua++(fs.map some++U')) (Za++(vs.map some++Z')) F G H
 |[],[],fs,U,U',Ua,Z,Z',Za,e,r,h,h2,_=>by
  let z:some ([]:List S)=some fs:=by cases U<;>show e
  cases z;show#[rfl,rfl,?_];let J:=Rel.swap (U1:=U) (Z1:=Z) (U2:=U') (Z2:=Z') h h2 r;rw[<-qp,<-qp]at J;let hl:(Ua++U').length=(Za++Z').length:=by let:=r.len;simp at this;simp;lia
  simpa using J.drop hl
 |[],_::_,_,_,_,_,_,_,_,_,_,_,_,h=>by cases h
 |_::_,[],_,_,_,_,_,_,_,_,_,_,_,h=>by cases h
 |_::_,_::_,_,_,_,_,[],_,_,_,_,_,_,h=>by cases h
 |_::_,_::_,_,[],_,_,_::_,_,_,_,_,_,h2,_=>by simp at h2
 |s::ss,v::vs,fs,o::U,U',Ua,u::Z,Z',Za,e,r,h,h2,ha=>by
  let M:U.length=Z.length:=↑h2
  let#[h1,L]:=ha;rcases h1 with⟨d,rfl,rp⟩|⟨hs,hu⟩
  .have z:(aB ss U).map (S.sh d::·)=some fs:=e;cases q:aB ss U with
   |none=>rw[q]at z;cases z
   |some B=>
    rw[q]at z;let h3:S.sh d::B=fs:=qf z;subst h3;let J:Rel K (Ua++(U++U')) (Za++(Z++Z')) F G H:=Rel.mid (U:=Ua) (Z:=Za) r h;let#[l1,Y,O]:=Im q J h M L;let hl:(B.map some++U').length=(vs.map some++Z').length:=by let:=O.len;simp at this;simp;lia
    let r3:=O.push rp;rw[qp Ua,qp Za]at r3;let r4:=Rel.swap (U1:=B.map some++U') (Z1:=vs.map some++Z') (U2:=[some (.sh d)]) (Z2:=[some v]) h hl r3;show#[by simp[l1],by simp[Y],r4]
  .subst hu;let z:∃t B,o=some t/\aB ss U=some B/\fs=t::B:=by
    cases s with
    |sh d=>cases hs
    |_=>
     cases o with
     |none=>cases e
     |some t=>
      let z:(aB ss U).map (t::·)=some fs:=e;cases q:aB ss U with
      |none=>rw[q]at z;cases z
      |some B=>rw[q]at z;show#[t,B,rfl,rfl,(qf z).symm]
   let#[t,B,rfl,q,rfl]:=z;let J:Rel K ((Ua++[some t])++(U++U')) ((Za++[some v])++(Z++Z')) F G H:=↑r
   let#[l1,Y,O]:=Im q J (by simp[h]) M L;show#[by simp[l1],by simp[Y],↑O]
def Lj{ks:List Nat}:∀{ss:List S}{vs:List V}{Z:St}{j:Nat}{fp:List Addr},zt K F0 H (ss.map some) (vs.map some) fp->zp F0 F->(∀i s,ss[i]?=some s->(j+i)∈ks\/s.isSh=true)->
  (∀i v,vs[i]?=some v->(j+i)∈ks->Z[i]?=some (some v))->vs.length<=Z.length->Args K F ss vs Z
 |[],[],_,_,_,_,_,_,_,_=>trivial
 |[],_::_,_,_,_,r,_,_,_,_=>by cases r
 |_::_,[],_,_,_,r,_,_,_,_=>by cases r
 |_::_,_::_,[],_,_,_,_,_,_,h=>by simp at h
 |s::ss,v::vs,u::Z,j,_,.so a b,sm,hk,hv,hl=>by
  show#[?_,Lj (j:=j+1) b sm (λi t e=>by let:=hk (i+1) t e;rwa[show j+(i+1)=j+1+i by lia]at this) (λi t e z=>by simpa using hv (i+1) t ↑e (by rwa[show j+(i+1)=j+1+i by lia])) ↑hl];cases B:s.isSh with
  |true=>
   cases s with
   |sh d=>cases a with
    |sh r=>show .inl #[d,rfl,r.mono sm]
   |_=>cases B
  |false=>show .inr #[rfl,?_];let:=hk 0 s rfl;rw[B]at this;let z:(j+0)∈ks:=this.resolve_right (by simp);simpa using hv 0 v rfl z
theorem Ke{st:Stmt}(Fn:vS K x qual st f fd)(Sc:aH N ps (aA st))(hn:ps.length=n)(hm:N.length=m)
  (hb:∀(O:Value)(A:Around)(B:List PySem.Env)(s:Shared)(H:Hp)(E:XK),bR k (A.deeper (envOfC qual (aA st) s.heap.objs.size f O))->nF (eW (iN P w) P w K mg base N qual (aA st) f O A B s H E) ks (cE st) wb):
  eY P w K mg base (iN P w) (k+1) f fd ps (eM K (fW n m ks wb) n):=by
 show Fn.okX Sc (λY H Q E h=>?_) (λO A B s H Y Q E hr h=>?_)
 .obtain⟨F,G,ss,P',PX,hl,_⟩:=h;rw[hl,hn]
 .obtain⟨F,G,ss,P',PX,h6,h3,⟨e3,e2,h2⟩,h9,hex⟩:=h;show#[_,hb O A B s H E hr [] (eW (iN P w) P w K mg base N qual (aA st) f O A B s H E).xe PassesOwn.leaving,?_];let e1:N.length-Y.length=m-n:=by rw[h6,hm]
  let h8:Rel K (ss.map some++List.replicate (m-n) none) (L2.start N Y) F G H:=by unfold L2.start;rw[e1];show h3.pushNs (m-n)
  let h7:∀i v,Y[i]?=some v->(L2.start N Y)[i]?=some (some v):=λi v e=>by unfold L2.start;let hi:i<Y.length:=(qg.mp e).1;rw[getElem?_append_left ↑hi,qE,e];rfl
  --how the arguments are at an end
  have h4:∀{U':Env}{Z':St}{F':Hp}{fs:List S},KP ks (L2.start N Y) Z'->zp F F'->U'.length=Z'.length->aB ss U'=some fs->Args K F' ss Y Z':=by
   intro U' Z' F' fs L J M e;let#[fp,en,_]:=h3.en;let h5:Y.length<=Z'.length:=by
    --aB reads as many slots as there are arguments
    have:∀(ss:List S)(U:Env)(fs:List S),aB ss U=some fs->ss.length<=U.length:=by
     intro ss;induction ss with
     |nil=>intro U fs _;simp
     |cons s ss ih=>
      intro U fs e;cases U with
      |nil=>cases s<;>cases e
      |cons o U=>
       have:∃gs,aB ss U=some gs:=by
        cases q:aB ss U with
        |some gs=>show#[gs,rfl]
        |none=>
         cases s with
         |sh d=>have e':(aB ss U).map (S.sh d::·)=some fs:=e;rw[q]at e';cases e'
         |_=>
          cases o with
          |none=>cases e
          |some t=>have e':(aB ss U).map (t::·)=some fs:=e;rw[q]at e';cases e'
       let#[gs,q]:=this;let:=ih U gs q;simp;show this
    let:=this ss U' fs e;lia
   show Lj (ks:=ks) (F:=F') (Z:=Z') (j:=0) en J (λi s e=>by simpa using e2 i s e) (λi v e z=>by rw[L i ↑z];show h7 i v e) h5
  let h1:∀{U':Env}{Z':St}{F' H':Hp}{t:S}{v:V}{fs:List S},KP ks (L2.start N Y) Z'->zp F F'->Rel K (U'++[some t]) (Z'++[some v]) F' G H'->aB ss U'=some fs->P' t fs->Q v H':=by intro U' Z' F' H' t v fs L J r e hp;let M:U'.length=Z'.length:=Af r;let#[l1,l2,r1]:=Im (Ua:=[]) (Za:=[]) (U':=[some t]) (Z':=[some v]) e r rfl M (h4 L J M e);show h9 t fs v F' H' hp J l1 r1
  show#[F,G,_,_,h8,h2,λU' Z' F' H' h L J r=>?_,λU' Z' F' H' h=>h.elim,λU' Z' F' H' h=>h.elim,λa U' Z' v F' H' h L J r rv=>?_,λd U' Z' F' H' u s' h L J r I xr=>?_]
  .obtain⟨fs,e,h⟩:=Ap h;show h1 L J (r.push .non) e h
  .cases a with
   |v t=>let#[fs,e,h]:=Ap h;show h1 L J r e h
   |loc i=>
    let#[t,et,h]:=Ap h;let hl:=Af r;by_cases hi:i<n
    .rw[qZ hi]at h;let#[fs,e,h]:=Ap h;let#[F2,s2,_,r2]:=AD (x:=.loc i) (s:=.sh t.toD) (U1:=U'.set i (some (.sh t.toD))) (U':=[]) (Z':=[]) r hl rv (by show(match slot U' i with|some s=>some (S.sh s.toD,U'.set i (some (.sh s.toD)))|none=>none)=_;rw[et]);show h1 L (J.trans s2) r2 e h
    .rw[q4 hi]at h;let#[fs,e,h]:=Ap h;let r2:=Rel.lend (U':=[]) (Z':=[]) r hl et rv;refine h1 L J r2 ?_ h
     --the slot lies behind the parameters
     have:∀(ss:List S)(U:Env)(i:Nat),ss.length<=i->aB ss (U.set i none)=aB ss U:=by
      intro ss;induction ss with
      |nil=>intro U i _;cases U<;>cases i<;>rfl
      |cons s ss ih=>
       intro U i hi;cases U with
       |nil=>rfl
       |cons o U=>
        cases i with
        |zero=>simp at hi
        |succ i=>
         let e:=ih U i ↑hi;cases s with
         |sh d=>show(aB ss (U.set i none)).map _=(aB ss U).map _;rw[e]
         |_=>
          cases o with
          |none=>rfl
          |some t=>show(aB ss (U.set i none)).map _=(aB ss U).map _;rw[e]
     rw[this ss U' i ∅];show e
  .obtain⟨fs,e,h⟩:=Ap h;let#[a,C,dx,rfl,cd,Fl]:=xr;let#[l1,l2,r1]:=Im (K:=K) (Ua:=[]) (Za:=[]) (U':=[]) (Z':=[]) e (by simpa using(show Rel K U' Z' F' G H' from r)) rfl r.len (h4 L J r.len e);show Tg I Fl (hex d fs F' H' C dx h J l1 ↑r1 cd)
end
end FL
namespace L2
open PySem PySem.Spec PyProof.Rows
def cG(cells:List (Str×Addr)):List (Str×NameKind)->List (Str×Addr)->List (Str×Addr)
 |[],zK=>zK
 |(n,k)::r,zK=>if k==.free then(match cells.lookup n with|some c=>cG cells r ((n,c)::zK)|none=>cG cells r zK)else cG cells r zK
def JH(f:Str×NameKind->List (Str×Addr)->Sem (ForInStep (List (Str×Addr))))
  (hf:∀n k cs,f (n,k) cs=if k==.free then(do let a<-cellOf env n;pure (.yield ((n,a)::cs)))else pure (.yield cs)):
  ∀(names:List (Str×NameKind))(zK:List (Str×Addr)),(∀x∈names,x.2=.free->∃c,env.cells.lookup x.1=some c)->(forIn names zK f:Sem _)=pure (cG env.cells names zK)
 |[],zK,_=>by rw[List.forIn_nil];rfl
 |(n,k)::r,zK,h=>by
  rw[List.forIn_cons,hf];let hr:∀x∈r,x.2=.free->∃c,env.cells.lookup x.1=some c:=λx hx=>h x (qk _ hx);by_cases hk:(k==.free)=true
  .obtain⟨c,hc⟩:=h (n,k) qm ↑hk;let hc':env.cells.lookup n=some c:=hc;let e:cellOf env n=pure c:=by unfold cellOf;rw[hc']
   rw[qZ hk,e];let ih:=JH f hf r ((n,c)::zK) hr;unfold cG;rw[qZ hk,hc'];rw[<-ih];simp
  .rw[q4 hk];let ih:=JH f hf r zK hr;unfold cG;rw[q4 hk,<-ih];simp
def VQ(h:∀x∈scope.names,x.2=.free->∃c,env.cells.lookup x.1=some c):closureFor scope env=pure (cG env.cells scope.names []):=by show(forIn scope.names ([]:List (Str×Addr)) _>>=λv=>pure v)=_;rw[JH (env:=env) _ (λn k v=>rfl) scope.names [] h];rfl
def Il:∀{names:List (Str×NameKind)}{v:List (Str×Addr)},(n,c)∈cG cells names v->(n,c)∈v\/((n,NameKind.free)∈names/\cells.lookup n=some c)
 |[],_,h=>.inl h
 |(m,k)::r,v,h=>by
  unfold cG at h;by_cases F:(k==.free)=true
  .rw[qZ F]at h;let B:k=.free:=by simpa using F
   cases q:cells.lookup m with
   |none=>
    rw[q]at h;rcases Il h with z|⟨z,w⟩
    .show .inl z
    .show .inr #[qk _ z,w]
   |some d=>
    rw[q]at h;rcases Il h with z|⟨z,w⟩
    .rcases qA.mp z with e|z
     .cases e;show .inr #[by rw[<-B];show qm,q]
     .show .inl z
    .show .inr #[qk _ z,w]
  .rw[q4 F]at h;rcases Il h with z|⟨z,w⟩
   .show .inl z
   .show .inr #[qk _ z,w]
def GS(B:cells.lookup n=some c):∀{names:List (Str×NameKind)}{v:List (Str×Addr)},((n,c)∈v\/(n,NameKind.free)∈names)->(n,c)∈cG cells names v
 |[],_,h=>h.elim id λz=>by simp at z
 |(m,k)::r,v,h=>by
  unfold cG;by_cases F:(k==.free)=true
  .rw[qZ F];cases q:cells.lookup m with
   |none=>
    show GS B ?_;rcases h with z|z
    .show .inl z
    .rcases qA.mp z with e|z
     .cases e;rw[B]at q;cases q
     .show .inr z
   |some d=>
    show GS B ?_;rcases h with z|z
    .show .inl (qk _ z)
    .rcases qA.mp z with e|z
     .cases e;rw[B]at q;cases q;show .inl qm
     .show .inr z
  .rw[q4 F];show GS B ?_;rcases h with z|z
   .show .inl z
   .rcases qA.mp z with e|z
    .cases e;show(F ⋯).elim
    .show .inr z
def NT{α:Type}:∀{l:List (Str×α)}{n:Str}{c:α},(n,c)∈l->(∀v,(n,v)∈l->v=c)->l.lookup n=some c
 |[],_,_,h,_=>by simp at h
 |(m,d)::r,n,c,h,u=>by
  rw[lookup_cons];cases z:n==m with
  |true=>
   let e:n=m:=↑z
   subst e;show congrArg some (u d qm)
  |false=>
   show NT (l:=r) ?_ λv B=>u v (qk _ B);rcases qA.mp h with e|h
   .cases e;simp at z
   .show h
def JC:∀{names:List (Str×NameKind)}{n:Nat}{v:List (Str×Addr)}{x:Str}{c:Addr},(x,c)∈cellsFrom n names v->(x,c)∈v\/((x,NameKind.cell)∈names/\n<=c)
 |[],_,_,_,_,h=>.inl h
 |(m,k)::r,n,v,x,c,h=>by
  unfold cellsFrom at h;by_cases F:(k==.cell)=true
  .rw[qZ F]at h;let B:k=.cell:=by simpa using F
   rcases JC h with z|⟨z,w⟩
   .rcases qA.mp z with e|z
    .cases e;show .inr #[by rw[<-B];show qm,q5 _]
    .show .inl z
   .show .inr #[qk _ z,∅]
  .rw[q4 F]at h;rcases JC h with z|⟨z,w⟩
   .show .inl z
   .show .inr #[qk _ z,w]
def Hb:∀{names:List (Str×NameKind)}{n:Nat}{v:List (Str×Addr)}{x:Str},((x,NameKind.cell)∈names\/∃c,(x,c)∈v)->∃c,(x,c)∈cellsFrom n names v
 |[],_,_,_,h=>h.elim (λz=>by simp at z) id
 |(m,k)::r,n,v,x,h=>by
  unfold cellsFrom;by_cases B:(k==.cell)=true
  .rw[qZ B];show Hb ?_;rcases h with z|⟨c,z⟩
   .rcases qA.mp z with e|z
    .cases e;show .inr #[n,qm]
    .show .inl z
   .show .inr #[c,qk _ z]
  .rw[q4 B];show Hb ?_;rcases h with z|z
   .rcases qA.mp z with e|z
    .cases e;show(B ⋯).elim
    .show .inl z
   .show .inr z
def Io{α:Type}:∀{l:List (Str×α)}{x:Str},(∃c,(x,c)∈l)->∃c,l.lookup x=some c
 |[],_,⟨_,h⟩=>by simp at h
 |(m,d)::r,x,⟨c,h⟩=>by
  rw[lookup_cons];cases v:x==m with
  |true=>show#[d,rfl]
  |false=>
   show Io (l:=r) #[c,?_];rcases qA.mp h with e|h
   .cases e;simp at v
   .show h
def JI:∀{names:List (Str×NameKind)}{n:Nat}{v:List (Str×Addr)},(∀p∈v,p.2<n)->(∀p∈v,∀q∈v,p.2=q.2->p.1=q.1)->
  ∀p∈cellsFrom n names v,∀q∈cellsFrom n names v,p.2=q.2->p.1=q.1
 |[],_,_,_,h=>h
 |(m,k)::r,n,v,hb,h=>by
  unfold cellsFrom;by_cases G:(k==.cell)=true
  .rw[qZ G];refine JI (λp z=>?_) λp z q B e=>?_
   .rcases qA.mp z with rfl|z
    .show lt_succ_self _
    .show lt_succ_of_lt (hb p z)
   .rcases qA.mp z with rfl|z<;>rcases qA.mp B with rfl|B
    .rfl
    .let h1:=hb q B;let F:n=q.2:=e;show absurd h1 (by rw[<-F];show lt_irrefl _)
    .let h1:=hb p z;let F:p.2=n:=e;show absurd h1 (by rw[F];show lt_irrefl _)
    .show h p z q B e
  .rw[q4 G];show JI hb h
def Vv
  (hQ:∀h':Heap,(∀b o,s.heap.get? b=some o->h'.get? b=some o)->h'.Ns s.heap.objs.size (λ_=>none)->(∀x c,(x,c)∈cellsFrom (s.heap.objs.size+1) scope.names F->(x,c)∈F\/h'.IsCell c none)->
   Q {scope:=scope,locals:=s.heap.objs.size,globals:=globals,cells:=cellsFrom (s.heap.objs.size+1) scope.names F,qual:=qual,func:=none,code:=env.code,frame:=env.frame,builtins:=env.builtins} {s with heap:=h'}):
  wpAny M A (newFunctionEnv scope globals F [] qual none .none (some env)) Q E s:=by
 simp only[newFunctionEnv,isSome_some,if_true];show qa (wpAny_alloc ?_);show qa (wpAny_layCells _ (λJ kind cells=>by cases Y:kind==NameKind.cell<;>simp) _ _ _ _ ?_);rw[show({s with heap:=s.heap.push {cls:=.type "dict",data:=.dict #[]}}:Shared).heap.objs.size=s.heap.objs.size+1 from Heap.size_push ..];show qb (hQ _ (λb o e=>pushCells_keeps _ _ b o (qc _ e)) ((Heap.Ns.new s.heap (.type "dict")).keeps (pushCells_keeps _ _)) λx c h=>?_)
 --the new cells are empty
 have all:∀(names:List (Str×NameKind))(h:Heap)(B:List (Str×Addr)),(∀p∈B,p∈F\/h.IsCell p.2 none)->∀p∈cellsFrom h.objs.size names B,p∈F\/(pushCells h names).IsCell p.2 none:=by
  intro names;induction names with
  |nil=>intro h B G p v;show G p v
  |cons q r L=>
   intro h B G p v;let#[m,k]:=q;unfold cellsFrom at v;unfold pushCells;by_cases O:(k==.cell)=true
   .rw[qZ O]at v⊢;let e:(h.push {cls:=.type "cell",data:=.cell none}).objs.size=h.objs.size+1:=Heap.size_push ..;rw[<-e]at v;show L _ _ (λp v=>?_) p v;rcases qA.mp v with rfl|v
    .show .inr #[_,qd _ rfl,rfl]
    .rcases G p v with z|z
     .show .inl z
     .show .inr (z.keeps λb o e=>qc _ e)
   .rw[q4 O]at v⊢;show L h B G p v
 let:=all scope.names (s.heap.push {cls:=.type "dict",data:=.dict #[]}) F (λp v=>.inl v) (x,c) (by rw[Heap.size_push];show h);show this
def fR(N vars:List Str):List Str:=N.map (λx=>if x∈vars then Str.empty else x)++Str.empty::vars
def aC(X:Cx)(scope:Scope)(vars:List Str)(s:Shared)(H:Hp)(ex:List Addr):Cx where
 prog:=X.prog
 w:=X.w
 K:=X.K
 mg:=X.mg
 base:=X.base
 A:=X.A
 N:=fR X.N vars
 s₀:=s
 H₀:=H
 env:=compEnvC scope (cellsFrom (s.heap.objs.size+1) scope.names (cG X.env.cells scope.names [])) s.heap.objs.size X.env
 outer:=X.stack
 stack:=X.stack
 ex:=ex
 fn:=λx=>decide ((x,NameKind.cell)∈scope.names)
 calm:=X.calm
 pn:=[]
 xe:=λ_ _=>False
structure bW(outer scope:Scope)(N vars:List Str):Prop where
 kind:scope.kind=.function
 fr:∀x∈scope.names,x.2=.free->outer.names.lookup x.1=some .cell\/outer.names.lookup x.1=some .free
 nd:(scope.names.map (·.1)).Nodup
 own:∀x∈N,x∉vars->(x,NameKind.local)∉scope.names/\(x,NameKind.cell)∉scope.names
 emp:scope.names.lookup Str.empty=none
def Iq{α:Type}{l:List (Str×α)}{c:α}(v:(l.map (·.1)).Nodup):l.lookup n=some c↔(n,c)∈l:=by
 show#[mem_of_lookup,λh=>NT h λB h'=>?_];induction l with
 |nil=>simp at h
 |cons p r z=>grind
theorem NK{α β:Type}(g:Str->α->β):∀(l:List (Str×α))(n:Str),(l.map λp=>(p.1,g p.1 p.2)).lookup n=(l.lookup n).map (g n)
 |[],_=>rfl
 |(m,d)::r,n=>by
  rw[qy,lookup_cons,lookup_cons];cases v:n==m with
  |true=>have e:n=m:=by simpa using v
         subst e;rfl
  |false=>show NK g r n
def rl(env:PySem.Env)(n:Str)(k:NameKind):NameKind:=if(k==NameKind.free&&env.scope.kind==.function&&env.kindOf n==some .cell)then NameKind.cell else k
def VS(scope:Scope)(env:PySem.Env):(relabel scope env).names=scope.names.map λp=>(p.1,rl env p.1 p.2):=by
 show map_congr_left λp _=>?_;let#[n,k]:=p;show(if(k==NameKind.free&&env.scope.kind==.function&&env.kindOf n==some .cell)=true then(n,NameKind.cell)else(n,k))=(n,rl env n k);unfold rl;by_cases h:(k==NameKind.free&&env.scope.kind==.function&&env.kindOf n==some .cell)=true
 .rw[qZ h,qZ h]
 .rw[q4 h,q4 h]
def Ip(scope:Scope)(env:PySem.Env)(x:Str):(relabel scope env).names.lookup x=(scope.names.lookup x).map (rl env x):=by rw[VS,NK]
def GB(h:k≠.free):rl env x k=k:=by unfold rl;rw[q4];intro z;simp at z;show h z.1.1
def Qd:rl env x .free=.cell\/rl env x .free=.free:=by
 unfold rl;split
 .show .inl rfl
 .show .inr rfl
def TF(h:(fR N vars)[i]?=some x)(hi:i<N.length):(N[i]?=some x/\x∉vars)\/x=Str.empty:=by
 unfold fR at h;rw[getElem?_append_left ↑hi,qE]at h;cases q:N[i]? with
 |none=>rw[q]at h;cases h
 |some y=>grind
def Inv.comp(I:Inv X zF Z H s)(S:bW X.env.scope scope X.N vars)(hex:∀b∈ex,cW X zF H b/\b<s.heap.objs.size)(kept:∀b o,s.heap.get? b=some o->h'.get? b=some o)(h7:h'.Ns s.heap.objs.size (λ_=>none))
  (h9:∀x c,(x,c)∈cellsFrom (s.heap.objs.size+1) scope.names (cG X.env.cells scope.names [])->(x,c)∈cG X.env.cells scope.names []\/h'.IsCell c none)(hk:vars.length=k)(w0:Option V):
  Inv (aC X scope vars s H ex) [] (Z++w0::List.replicate k none) H {s with heap:=h'}:=by
 have cm:∀{x:Str}{c:Addr},(x,c)∈cG X.env.cells scope.names []->(x,NameKind.free)∈scope.names/\X.env.cells.lookup x=some c:=λ{x c} h=>by
  rcases Il h with z|z
  .simp at z
  .show z
 let lt:∀{x:Str}{c:Addr},X.env.cells.lookup x=some c->c<s.heap.objs.size:=λ{x c} h=>by let#[v,z]:=I.cell x c h;show z.lt
 have Av:∀{x:Str}{c:Addr},(aC X scope vars s H ex).env.cells.lookup x=some c->(X.env.cells.lookup x=some c/\(x,NameKind.free)∈scope.names)\/((x,NameKind.cell)∈scope.names/\s.heap.objs.size+1<=c):=λ{x c} h=>by
  rcases JC (mem_of_lookup h)with z|z
  .show .inl #[(cm z).2,(cm z).1]
  .show .inr z
 let uniq:∀{x:Str}{a b:NameKind},(x,a)∈scope.names->(x,b)∈scope.names->a=b:=λ{x a b} h1 h2=>by let e1:=(Iq S.nd).mpr h1;let e2:=(Iq S.nd).mpr h2;rw[e1]at e2;show qf e2
 --what a visible name is,seen from around
 have h4:∀{x:Str},((relabel scope X.env).names.lookup x=some .cell\/(relabel scope X.env).names.lookup x=some .free)->(x,NameKind.cell)∈scope.names\/(x,NameKind.free)∈scope.names:=λ{x} h=>by
  rw[Ip]at h;cases q:scope.names.lookup x with
  |none=>rw[q]at h;rcases h with h|h<;>cases h
  |some k=>
   let L:=mem_of_lookup q;rw[q]at h;let h0:some (rl X.env x k)=some .cell\/some (rl X.env x k)=some .free:=h;cases k with
   |cell=>show .inl L
   |free=>show .inr L
   |«local»=>rw[GB ⋯]at h0;rcases h0 with h|h<;>cases h
   |globalImplicit=>rw[GB ⋯]at h0;rcases h0 with h|h<;>cases h
   |globalExplicit=>rw[GB ⋯]at h0;rcases h0 with h|h<;>cases h
 have ok:(aC X scope vars s H ex).Ok:=by
  show#[I.ok.mod,S.kind,I.ok.glob,I.ok.blt,q5 _,λx y c h1 h2=>?_,λx h=>?_,λx c hf h=>?_,I.ok.hd,I.ok.frames,.inl rfl,λb M=>#[?_,λx c h z=>?_],I.bs,le_trans I.ok.bsz I.sz,λb o e M=>?_,λb M z=>?_,I.stack,I.stkFree]
  .refine JI (λp hp=>?_) (λp hp q hq e=>?_) (x,c) (mem_of_lookup h1) (y,c) (mem_of_lookup h2) rfl
   .show lt_succ_of_lt (lt (cm (x:=p.1) (c:=p.2) hp).2)
   .show I.ok.inj _ _ _ (cm (x:=p.1) (c:=p.2) hp).2 (e▸(cm (x:=q.1) (c:=q.2) hq).2)
  .rcases h4 h with z|z
   .show Io (Hb (.inl z))
   .obtain⟨c,hc⟩:=I.ok.has x (S.fr (x,.free) z rfl);show Io (Hb (.inr #[c,GS hc (.inr z)]))
  .let h8:(x,NameKind.cell)∈scope.names:=qT hf;rcases Av h with⟨_,z⟩|⟨_,z⟩
   .cases uniq h8 z
   .show Nat.le_of_succ_le z
  .show ne_of_lt (hex b M).2
  .rcases Av h with⟨w,_⟩|⟨_,w⟩
   .show(hex b M).1.2.2.2.2.1 x c w z
   .let h1:=(hex b M).2;rw[<-z]at h1;show absurd (lt_of_lt_of_le h1 (Nat.le_of_succ_le w)) (lt_irrefl _)
  .obtain⟨_,_,_,h1,_⟩:=(hex b M).1;rcases h1 with z|z
   .show I.ok.noex b o e z
   .rw[(I.ok.bs b o e).1]at z;cases z
  .obtain⟨_,h2,O,_⟩:=(hex b M).1;rcases qA.mp (I.stkSub b z)with w|w
   .show h2 w
   .show O w
 let F:∀{c:Addr}{v:Option Value},s.heap.IsCell c v->h'.IsCell c v:=λz=>z.keeps kept;show#[ok,rfl,I.bare,Un.kept kept,#[_,h7,λi x v h1 h2 O=>?_],λx c h=>?_,I.hok.fresh (q5 _),λx c h=>?_,λp hp=>absurd (show p∈([]:List (Addr×Obj)) from hp) (by simp),I.hok.kept kept,?_]
 ·--a slot of the context
  let h5:¬yO (aC X scope vars s H ex).env.scope Str.empty:=λO=>by let G:(relabel scope X.env).names.lookup Str.empty=some .local\/(relabel scope X.env).names.lookup Str.empty=some .cell\/(relabel scope X.env).names.lookup Str.empty=some .free:=O;rw[Ip,S.emp]at G;rcases G with z|z|z<;>cases z
  have hi:i<Z.length:=by
   by_cases hi:i<Z.length
   .show hi
   .exfalso;rw[getElem?_append_right (not_lt.mp hi)]at h2;cases q:i-Z.length with
    |zero=>
     let e:i=X.N.length:=by let:=I.len;lia
     rw[e]at h1;let Y:(fR X.N vars)[X.N.length]?=some x:=h1;unfold fR at Y;simp at Y;subst Y;show h5 O
    |succ j=>rw[q,List.getElem?_cons_succ,List.getElem?_replicate]at h2;split at h2<;>cases h2
  rw[getElem?_append_left hi]at h2;rcases TF h1 (by rw[<-I.len];show hi)with⟨h1,hx⟩|rfl
  .have own:=S.own x (qL h1) hx;let B:(x,NameKind.free)∈scope.names:=by
    let G:(relabel scope X.env).names.lookup x=some .local\/(relabel scope X.env).names.lookup x=some .cell\/(relabel scope X.env).names.lookup x=some .free:=O;rcases G with z|z
    .rw[Ip]at z;cases q:scope.names.lookup x with
     |none=>rw[q]at z;cases z
     |some kk=>
      rw[q]at z;let z0:some (rl X.env x kk)=some .local:=z;let L:=mem_of_lookup q;cases kk with
      |«local»=>show absurd L own.1
      |cell=>show absurd L own.2
      |free=>show L
      |globalImplicit=>rw[GB ⋯]at z0;cases z0
      |globalExplicit=>rw[GB ⋯]at z0;cases z0
    .rcases h4 z with w|w
     .show absurd w own.2
     .show w
   let J:=S.fr (x,.free) B rfl;let#[m,L,hl]:=I.loc;let#[u,r,l]:=hl i x v h1 h2 (J.elim (λz=>.inr (.inl z)) λz=>.inr (.inr z));show#[u,r,.inr #[?_,?_]]
   .show(relabel scope X.env).names.lookup x=some .cell\/(relabel scope X.env).names.lookup x=some .free;rw[Ip,(Iq S.nd).mpr B];show some (rl X.env x .free)=_\/some (rl X.env x .free)=_;rcases Qd (env:=X.env) (x:=x)with e|e<;>rw[e]
    .show .inl rfl
    .show .inr rfl
   .rcases l with⟨z,_⟩|⟨_,c,hc,z⟩
    .let z':X.env.scope.names.lookup x=some .local:=z;rcases J with w|w<;>(have w':X.env.scope.names.lookup x=_:=w;rw[w']at z';cases z')
    .show#[c,?_,F z];let#[c',h6]:=Io (Hb (n:=s.heap.objs.size+1) (names:=scope.names) (.inr #[c,GS hc (.inr B)]));rcases Av h6 with⟨w,_⟩|⟨w,_⟩
     .rw[hc]at w;cases w;show h6
     .cases uniq B w
  .show absurd O h5
 .rcases h9 x c (mem_of_lookup h)with z|z
  .obtain⟨v,w⟩:=I.cell x c (cm z).2;show#[v,F w]
  .show#[none,z]
 .rcases Av h with⟨w,_⟩|⟨_,w⟩
  .show I.freeC x c w
  .show I.hok.fresh (Nat.le_of_succ_le w)
 .show _=(fR X.N vars).length;unfold fR;simp[I.len,hk]
abbrev TB:=St->Hp->(St->Hp->Prop)->Prop
def iK(X:Cx)(m:Sem Unit)(t:TB):Prop:=∀(zF:List (Addr×Obj))(s:Shared)(Z:St)(H:Hp)(Q:St->Hp->Prop),Inv X zF Z H s->t Z H Q->
 wpAny (model X.prog X.w) X.A m (λ_ s'=>∃Z' H',Inv X zF Z' H' s'/\Q Z' H') (λ_ _=>False) s
def fZ(X:Cx)(ifs:List Expr)(t:TT):Prop:=∀(zF:List (Addr×Obj))(s:Shared)(Z:St)(H:Hp)(Q:Bool->Hp->Prop),Inv X zF Z H s->t Z H Q->
 wpAny (model X.prog X.w) X.A (forIn ifs true λc r=>if r=true then do let ok<-isTrue c X.env (eval c X.env);pure (ForInStep.yield ok)else pure (ForInStep.yield r)) (TP X zF Z Q) X.xe s
def Sh:fZ X [] (λ_ H Q=>Q true H):=λzF s Z H Q I q=>wpAny_tests_nil #[H,I,q]
def Tb(h:PT X c t):fZ X [c] t:=λzF s Z H Q I q=>wpAny_tests_one (h zF s Z H Q I q)
def fI(g:TG)(tc:TT)(tb:TB)(J:It):TB:=λZ H Q=>∃W:Nat->Nat->St->Hp->Prop,(∃m,W 0 m Z H)/\∀i m Z H,W i m Z H->
 (J.stop i H/\Q Z H)\/(J.go i H/\∃N:St->Hp->Prop,(∀Z' H',N Z' H'->∃z,z<m/\W (i+1) z Z' H')/\∀x H',J.yld i H x H'->g x Z H' λv H2=>tc v H2 λb B=>if b=true then tb v B N else N v B)
def iL(X:Cx)(e:Expr)(d:Nat)(v:Value)(tg:Expr)(B:It->TB):Prop:=∀(zF:List (Addr×Obj))(s:Shared)(Z:St)(H:Hp)(J:It)(fp:List Addr)(it:Addr)(z:Nat->Heap->Prop)(Q:St->Hp->Prop),Inv X zF Z H s->
 gY X.prog X.w X.K tg J fp it z->z 0 s.heap->(∀b∈fp,cW X zF H b)->B J Z H Q->
 codeAny (model X.prog X.w) X.A (.compLoop e d (.ref it) v X.env) (λr s'=>∃Z' H',r=.ok .next/\Inv X zF Z' H' s'/\Q Z' H') s
def jI(X:Cx)(m:Sem Fin)(c:Code)(t:TB):Prop:=∀(zF:List (Addr×Obj))(s:Shared)(Z:St)(H:Hp)(Q:St->Hp->Prop),Inv X zF Z H s->t Z H Q->
 wpAny (model X.prog X.w) X.A m (λf s'=>f=.again c/\∃Z' H',Inv X zF Z' H' s'/\Q Z' H') (λ_ _=>False) s
def iK.f(h:iK X m t):jI X (m>>=λ_=>again c) c t:=λzF s Z H Q I q=>qa (zh (h zF s Z H Q I q) (λ_ s' z=>qb #[rfl,z]) λ_ _ z=>z)
def GU{inner:Addr->Sem Fin}(hc:X.calm=true)(hxe:X.xe=λ_ _=>False)(hg:PG X tg g)(ht:fZ X ifs tc)(hr:∀it,jI X (inner it) (.compLoop e d (.ref it) zK X.env) tb)
  (hq:∀it,(Code.compLoop e d (.ref it) zK X.env).quiet=true)(hun:∀it,X.A.under (.compLoop e d (.ref it) zK X.env)=X.A)
  (hden:∀it,(model X.prog X.w).den (.compLoop e d (.ref it) zK X.env)=(compTurn e d (.ref it) zK X.env).onRaise (λx=>do noteFrame x X.env;theTreesLotGoes x))
  (heq:∀it,compTurn e d (.ref it) zK X.env=(standAt ipos>>=λ_=>pyNext (.ref it)>>=λr=>match r with
   |none=>pure (.done .next)
   |some v=>letOwnedTupleGo tg (.ref it) v>>=λ_=>assign tg X.env v>>=λ_=>(forIn ifs true λc r=>if r=true then do let ok<-isTrue c X.env (eval c X.env);pure (ForInStep.yield ok)else pure (ForInStep.yield r))>>=λok=>if ok=true then inner it else again (.compLoop e d (.ref it) zK X.env))):
  iL X e d zK tg (fI g tc tb):=by
 intro zF s Z H J fp it tn Q I T st f ⟨W,⟨m0,w0⟩,turn⟩;let stat:∀{H':Hp},(∀b∈fp,H' b=none)->∀b∈fp,cW X zF H' b:=λhn b hb=>#[hn b hb,(f b hb).2]
 let nox:∀{α:Type}{m:Sem α}{Q:α->Shared->Prop}{E:zi}{s:Shared},wpAny (model X.prog X.w) X.A m Q X.xe s->wpAny (model X.prog X.w) X.A m Q E s:=λh=>zh h (λ_ _ q=>q) λ_ _ x=>by rw[hxe]at x;show x.elim
 show codeAny_loop (hq it) (λn s'=>∃i Z' H',Inv X zF Z' H' s'/\tn i s'.heap/\(∀b∈fp,H' b=none)/\W i n Z' H') ?_ m0 #[0,Z,H,I,st,λb hb=>(f b hb).1,w0];rintro n s3 ⟨i,Z3,H3,I3,st3,fr3,w3⟩;rw[hun,hden];show wpAny_noted ?_;rw[heq];show qa (wpAny_standAt (qa ?_));rcases turn i n Z3 H3 w3 with⟨stop,qn⟩|⟨go,N,hN,step⟩
 .show Al (T.done X rfl rfl rfl hc i zF s3 Z3 H3 _ I3 (stat fr3) st3 stop) λr s4⟨hr,I4⟩=>?_;subst hr;show qb #[Z3,H3,rfl,I4,qn]
 .show Al (T.item X rfl rfl rfl hc i zF s3 Z3 H3 _ I3 (stat fr3) st3 go) λr s4 zq=>?_;let#[u,hr',h4]:=zq;subst hr';show qa (Al h4 λ_ s5 zq=>?_);show cps λ_ kk=>?_;let#[x,H5,I5,r5,y5,st5,fr5]:=zq;show kk ?_;let I5':=I5.pinned (stat fr5) (T.obj _ _ st5);show qa (nox (Al (hg _ s5 Z3 H5 x u _ I5' r5 (step x H5 y5)) λ_ s6 zq=>?_));let#[Z6,H6,I6,q6]:=zq;let again:∀{Z7:St}{H7:Hp}{s7:Shared},Inv X (zF++fL fp s5.heap) Z7 H7 s7->N Z7 H7->∃m,m<n/\∃i Z' H',Inv X zF Z' H' s7/\tn i s7.heap/\(∀b∈fp,H' b=none)/\W i m Z' H':=λ{Z7 H7 s7} I7 n7=>by let#[m',hm,w7]:=hN Z7 H7 n7;show#[m',hm,i+1,Z7,H7,I7.unpinned,T.keep _ _ _ st5 λb hb o e=>(I7.pin (b,o) (qi _ (qi _ (Ib hb e)))).1,λb hb=>?_,w7];let#[o,e,d]:=T.obj _ _ st5 b hb;exact(I7.pin (b,o) (qi _ (qi _ (Ib hb e)))).2.1
  show qa (nox (Al (ht _ s6 Z6 H6 _ I6 q6) λb s7 zq=>?_));let#[H7,I7,q7]:=zq;cases b with
  |true=>show zh (hr it _ s7 Z6 H7 _ I7 q7) (λf s8 zq=>?_) λ_ _ z=>z.elim;let#[ef,Z8,H8,I8,n8]:=zq;subst ef;show#[rfl,again I8 n8]
  |false=>show qb #[rfl,again I7 q7]
def NI(hl:iL X e d zK tg tl)
  (hq:∀it,(Code.compLoop e d (.ref it) zK X.env).quiet=true)(hun:∀it,X.A.under (.compStart e d (.ref it) zK X.env)=X.A)
  (hden:∀it,(model X.prog X.w).den (.compStart e d (.ref it) zK X.env)=(compStart e d (.ref it) zK X.env).onRaise (λx=>do noteFrame x X.env;standAt theWindowsPlace))
  (heq:∀it,∃p,compStart e d (.ref it) zK X.env=(ask>>=λc=>if c.params.followText "comprehension-iter-twice"=true then again (.compLoop e d (.ref it) zK X.env)else
   rule "comprehension.iter-twice">>=λ_=>standAt p>>=λ_=>pyIter (.ref it)>>=λit'=>again (.compLoop e d it' zK X.env)))(I:Inv X zF Z H s)
  (T:gY X.prog X.w X.K tg J fp it tn)(st:tn 0 s.heap)(f:∀b∈fp,cW X zF H b)(q:tl J Z H Q):
  codeAny (model X.prog X.w) X.A (.compStart e d (.ref it) zK X.env) (λr s'=>∃Z' H',r=.ok .next/\Inv X zF Z' H' s'/\Q Z' H') s:=by
 let h0:=hl zF s Z H J fp it tn Q I T st f q;show codeAny_of_tree ?_;rw[hun,hden];show wpAny_notedAt ?_;let#[p,e]:=heq it;rw[e];show qa (wpAny_askSetting (wpAny_ite ?_));split
 .show qb #[hq it,h0]
 .show qa (wpAny_rule (qa (wpAny_standAt (qa (T.self X.A 0 s _ _ st (qb #[hq it,h0]))))))
end L2
namespace FL
open PySem PySem.Spec PyProof.Rows L2
inductive oB(X:Cx)(n:Nat)(D:Addr)(b:WB)(Z:St)(H:Hp)(Q:St->Hp->Prop):Prop
 |mk (F G:Hp) (U:Env) (P:Env->Prop) (zH:Rel X.K U Z F G H) (hs:Z[n]?=some (some (.ref D))) (hw:b U P NX) (hn:∀U' Z' F' H',P U'->KP (List.range (n+1)) Z Z'->zp F F'->Rel X.K U' Z' F' G H'->Q Z' H'):oB X n D b Z H Q
def Hd:XC X T F G NX:=λ_ _ _ _ _ _ _ z=>z.elim
section
variable{K:W.Frag}
def zu.snoc(b:zu K F H xs l fp)(r:aJ K F H v s fq):zu K F H (xs++[v]) (l++[s]) (fp++fq):=
 zu.ind (P:=λxs l fp=>zu K F H (xs++[v]) (l++[s]) (fp++fq)) (by let:=zu.cons r .nil;rwa[qz]at this) (λa _ z=>by rw[qp];show .cons a z) b
def zu.len(r:zu K F H xs l fp):xs.length=l.length:=zu.ind (P:=λxs l _=>xs.length=l.length) rfl (λ_ _ v=>congrArg (·+1) v) r
def Rel.append{D:Addr}(r:Rel K (U++[some s]) (Z++[some v]) F G H)(hs:slot U n=some (.lst l))(J:Z[n]?=some (some (.ref D))):
  ∃xs,H D=some (.lst xs)/\xs.length=l.length/\Rel K (U.set n (some (.lst (l++[s])))) Z F G (upd H D (.lst (xs++[v]))):=by
 let hl:=Af r;let#[fp,e,nd,ap]:=r.en;let#[f1,f2,rfl,a,b]:=e.cut hl;let#[v',fa,fi,fb,e1,rfl,q,up]:=a.at hs;rw[J]at e1;let e2:V.ref D=v':=↑e1
 subst e2;cases q with
 |lst hD rl=>
  rename_i xs fl;cases b with
  |so sr nl=>
   cases nl;rename_i fs;show#[xs,hD,rl.len,?_];let es:Z.set n (some (.ref D))=Z:=by
    apply ext_getElem?;intro j;by_cases hj:n=j
    .subst hj;rw[getElem?_set_self (qg.mp J).1,J]
    .rw[getElem?_set_ne hj]
   --D is nobody else's
   let#[n1,n2,Y]:=qw.mp nd;let#[na,B,O]:=qw.mp n1;let#[ni,nb,B]:=qw.mp B;let#[nD,h4]:=qK.mp ni;let h3:D∉fa:=λz=>O D z D (qj _ qm) rfl;let h2:D∉fb:=λz=>B D qm D z rfl;let h1:D∉fs:=λz=>Y D (qi _ (qj _ qm)) D ↑z rfl;let M:=ap D (qj _ (qi _ (qj _ qm)));let ne:∀{l:List Addr},D∉l->∀x∈l,upd H D (.lst (xs++[v])) x=H x:=λh x L=>Ao λz=>h (z▸L);let new:aJ K F (upd H D (.lst (xs++[v]))) (.ref D) (.lst (l++[s])) (D::(fl++fs)):=.lst Bc (zu.snoc (rl.mono (zp.refl F) (ne nD)) (sr.mono (zp.refl F) (ne h1)));let a2:=up (F':=F) (H':=upd H D (.lst (xs++[v]))) (o:=some (.lst (l++[s]))) (u:=some (.ref D)) (zp.refl F) (λx L=>Ao λz=>(qx.mp L).elim (λw=>h3 (z▸w)) λw=>h2 (z▸w)) (.so new .nil);rw[es]at a2;let p:(fa++((D::(fl++fs))++[]++fb)).Perm (fa++((D::fl)++fb)++(fs++[])):=by simp;show List.Perm.append_left _ (List.Perm.cons _ (List.Perm.append_left _ qM))
   show#[zp.updR r.fr M.1,λx o w=>?_,_,a2,p.nodup_iff.mpr nd,λx L=>ap x (by simpa using p.mem_iff.mp L)];let L:x≠D:=λz=>by rw[z,M.2]at w;cases w
   rw[Ao L];show r.gr x o w
end
section
variable{D:Addr}
def Ng(L:X.xe=λ_ _=>False)(h:FE X h5 we):iK X (eval h5 X.env>>=λx=>call (.builtin "list.append") [.ref D,x]>>=λ_=>pure ()) (oB X n D (bS n we)):=by
 intro zF s Z H Q I q;let#[F,G,U,P,h2,h3,hw,h4]:=q;let hp:PassesOwn (model X.prog X.w) X.A X.env X.xe:=by rw[L];show PassesOwn.never
 have he:=h X.pn X.xe hp zF s Z H (λv H1=>∃O U1 t l,zp F O/\Rel X.K (U1++[some t]) (Z++[some v]) O G H1/\slot U1 n=some (.lst l)/\l.length<big/\P (U1.set n (some (.lst (l++[t]))))) I
  #[F,G,U,_,NX,h2,hw,λr U1 v O H1 B s1 Y rv=>?_,Hd]
 .let J:∀e s',X.xe e s'->False:=λe s' z=>by rw[L]at z;exact z
  show qa (zh he (λu s1 zq=>?_) λe s' z=>J e s' z);show cps λ_ kk=>?_;let#[v,H1,I1,rv,O,U1,t,l,sm,Y,hs,hz,hP]:=zq;let#[xs,hD,M,r2]:=Rel.append Y hs h3;show kk ?_;show qa (zh (Jx zF s1 Z H1 (.ref D) [v] (.ref D) [u] (λw H'=>w=.non/\H'=upd H1 D (.lst (xs++[v]))) I1 rfl (.cons rv .nil) #[D,xs,v,rfl,rfl,hD,by rw[M];show lt_trans hz ⋯,rfl,rfl]) (λw s2 zq=>?_) λe s' z=>J e s' z);let#[w',H2,I2,_,_,e2]:=zq;subst e2;show qb #[Z,_,I2,h4 _ Z O _ hP KP.refl sm r2]
 .obtain⟨⟨t,h1⟩,eg,B⟩:=Ap B;let#[F2,s2,l2,r2]:=AD (U':=[]) (Z':=[]) Y (Af Y) rv eg;split at B
  .rename_i l e;show#[F2,h1,t,l,s1.trans s2,r2,e,B.1,B.2]
  .show B.elim
def CY:fZ X [] (iA X cJ):=λzF s Z H Q I q=>Sh zF s Z H Q I (by let#[F,G,U,P,PX,v,B,z,J]:=q;show z true U F H B (zp.refl F) v)
def IV(v:X.xe=λ_ _=>False)(h:FT X c wc):fZ X [c] (iA X wc):=Tb (h X.pn X.xe (by rw[v];show PassesOwn.never))
def Mi(it:fU X.K J l F)(h6:Rel X.K U Z F G H)(h9:Z[n]?=some (some (.ref D)))
  (hw:aI g wc b l U P NX)(e2:∀U' Z' F' H',P U'->KP (List.range (n+1)) Z Z'->zp F F'->Rel X.K U' Z' F' G H'->Q Z' H'):
  fI (vX X (List.range (n+1)) g) (iA X wc) (oB X n D b) J Z H Q:=by
 let h2:∀{Z':St},KP (List.range (n+1)) Z Z'->Z'[n]?=some (some (.ref D)):=λk=>by rw[k n (by simp)];show h9
 show#[λi m v H2=>m=l.length-i/\i<=l.length/\∃F2 U2,KP (List.range (n+1)) Z v/\zp F F2/\Rel X.K U2 v F2 G H2/\aI g wc b (l.drop i) U2 P NX,#[l.length,by simp,zero_le _,F,U,KP.refl,zp.refl F,h6,hw],?_];rintro i m v H2 ⟨rfl,hi,F2,U2,kp,s2,r2,z⟩;let#[h8,h7]:=it i U2 v F2 G H2 s2 r2;by_cases B:i<l.length
 .obtain⟨go,h5⟩:=h8 l[i] (by simp);show .inr #[go,λL H3=>i+1<=l.length/\∃F3 Y,KP (List.range (n+1)) Z L/\zp F F3/\Rel X.K Y L F3 G H3/\aI g wc b (l.drop (i+1)) Y P NX,λL H3 h=>#[l.length-(i+1),∅,rfl,h],λy H3 hy=>?_];let#[F3,s3,r3,rp]:=h5 y H3 hy;rw[List.drop_eq_getElem_cons B]at z;show#[F3,G,U2,_,_,r3.push rp,z,λh4 e3 F4 H4 e1 k4 s4 r4=>?_];let M:=kp.trans k4;let h1:=s2.trans (s3.trans s4);show#[F4,G,h4,_,_,r4,e1,λk O F5 H5 h3 s5 r5=>?_,Hd];cases k with
  |true=>show#[F5,G,O,_,r5,h2 M,h3,λU' Z' F' H' h k' s r=>#[B,F',U',M.trans k',h1.trans (s5.trans s),r,h]]
  |false=>show#[B,F5,O,M,h1.trans s5,r5,h3]
 .let e:i=l.length:=Nat.le_antisymm hi (not_lt.mp B);subst e;rw[List.drop_length]at z;show .inl #[h7 (q5 _),e2 U2 v F2 H2 z kp s2 r2]
def Sn(hxe:X.xe=λ_ _=>False)(hi:FI X tg iter wi)(hl:iL X e d (.ref D) tg (fI (vX X (List.range (n+1)) g) (iA X wc) (oB X n D b)))
  (hs:∀x,foldedSetIterable iter X.env x=pure x)(hm:X.A.mark none=X.A)
  (hq:∀it,(Code.compLoop e d (.ref it) (.ref D) X.env).quiet=true)(hun:∀it,X.A.under (.compStart e d (.ref it) (.ref D) X.env)=X.A)
  (hden:∀it,(model X.prog X.w).den (.compStart e d (.ref it) (.ref D) X.env)=(compStart e d (.ref it) (.ref D) X.env).onRaise (λx=>do noteFrame x X.env;standAt theWindowsPlace))
  (heq:∀it,∃p,compStart e d (.ref it) (.ref D) X.env=(ask>>=λc=>if c.params.followText "comprehension-iter-twice"=true then again (.compLoop e d (.ref it) (.ref D) X.env)else
   rule "comprehension.iter-twice">>=λ_=>standAt p>>=λ_=>pyIter (.ref it)>>=λit'=>again (.compLoop e d it' (.ref D) X.env))):
  jI X (eval iter X.env>>=λx=>standAt ip>>=λ_=>foldedSetIterable iter X.env x>>=λx=>holding [x] (pyIter x)>>=λit=>runOwn (.compStart e d it (.ref D) X.env) X.env>>=λ_=>again c0) c0 (oB X n D (mR wi g wc b)):=by
 intro zF s Z H Q I q;let#[F,G,U,P,zH,hZ,hw,hok]:=q;let hp:PassesOwn (model X.prog X.w) X.A X.env X.xe:=by rw[hxe];show PassesOwn.never
 let xe0:∀e s',X.xe e s'->False:=λe s' z=>by rw[hxe]at z;show z
 have hi':=hi X.pn X.xe hp zF s Z H (λJ H1=>fI (vX X (List.range (n+1)) g) (iA X wc) (oB X n D b) J Z H1 Q) I
  #[F,G,U,_,NX,zH,hw,λl U1 F1 H1 J hk s1 r1 it=>Mi it r1 hZ hk λU' Z' F' H' a k s r=>hok U' Z' F' H' a k (s1.trans s) r,Hd]
 show qa (zh hi' (λx s1 h1=>?_) λe s' z=>xe0 e s' z);show qa (wpAny_standAt (qa (zg (hs x) (qa (zf (zh h1 (λitv s2 h2=>?_) λe s' z=>xe0 e s' z))))));let#[it,fp,tn,J,H2,e1,I2,T,st,f,q2]:=h2;subst e1;show qa (wpAny_runOwn ?_);show codeAny_mono (NI hl hq hun hden heq I2 T st f q2) λr s3 zq=>?_;let#[Z3,H3,er,I3,q3]:=zq;subst er;show qb #[rfl,Z3,H3,I3,q3]
end
def NB{α:Type}{l:List α}{a:α}(h:l[n]?=some a):l=l.take n++a::l.drop (n+1):=by let#[v,e]:=qg.mp h;rw[<-e,<-List.drop_eq_getElem_cons v,take_append_drop]
section
variable{X:Cx}
def HH(hmk:∀(A:Around)(E:zi)(s:Shared)(Q:zi),Q (.ref s.heap.objs.size) {s with heap:=s.heap.push {cls:=.type ty,dict:=none,data:=dat}}->wpAny (model X.prog X.w) A mk Q E s)(ho:∀(H:Hp)(h:Heap),sysModules<h.objs.size->zE X.prog X.w H (h.push {cls:=.type ty,dict:=none,data:=dat}) h.objs.size o0)(hs0:∀(F H:Hp)(p:Addr),H p=some o0->aJ X.K F H (.ref p) s0 [p])(hcl:clausesOf e=⟨tg,iter,ifs,0⟩::gs)(hs:∀x,foldedSetIterable iter X.env x=pure x)
  (Sc:bW X.env.scope scope X.N vars)(hk:vars.length=k)(hi:FI X tg iter wi)
  (hb:∀(s:Shared)(H:Hp)(ex:List Addr)(D:Addr),iL (aC X scope vars s H ex) e 0 (.ref D) tg (fI (vX (aC X scope vars s H ex) (List.range (X.N.length+1)) g) (iA (aC X scope vars s H ex) wc) (oB (aC X scope vars s H ex) X.N.length D b)))
  (hq:∀it zK env,(Code.compLoop e 0 (.ref it) zK env).quiet=true)(hun:∀it zK env,X.A.under (.compStart e 0 (.ref it) zK env)=X.A)
  (hden:∀it zK env,(model X.prog X.w).den (.compStart e 0 (.ref it) zK env)=(compStart e 0 (.ref it) zK env).onRaise (λx=>do noteFrame x env;standAt theWindowsPlace))
  (heq:∀it zK env,∃p,compStart e 0 (.ref it) zK env=(ask>>=λc=>if c.params.followText "comprehension-iter-twice"=true then again (.compLoop e 0 (.ref it) zK env)else
   rule "comprehension.iter-twice">>=λ_=>standAt p>>=λ_=>pyIter (.ref it)>>=λit'=>again (.compLoop e 0 it' zK env)))(hp:PassesOwn (model X.prog X.w) X.A X.env xe){P:WQ}(I:Inv (wp X pn xe) zF Z H s)
  (zH:Rel X.K U Z F G H)(hw:wi U (λl U1=>aI g wc b l (U1++some s0::List.replicate k none) (λU2=>zo (slot U2 X.N.length) λs=>P (.v s) (U2.take X.N.length)) NX) PX)(hx:XC (wp X pn xe) (·=Z) F G PX)
  (fin:∀(D C:Addr)(s4:Shared)(H4 F4:Hp)(m:Str->Option Value)(t:S)(U4:Env),s4.heap.Ns C m->Inv (wp X pn xe) zF Z H4 s4->H4 C=none->C≠X.env.locals->X.s₀.heap.objs.size<=C->(∀x c,X.env.cells.lookup x=some c->c≠C)->(∀p∈pn++zF,p.1≠C)->
   P (.v t) U4->zp F F4->Rel X.K (U4++[some t]) (Z++[some (.ref D)]) F4 G H4->compPost (model X.prog X.w) X.A xe use Q' (.ref D) C (.ok .next) s4):
  wpAny (model X.prog X.w) X.A (comprehension e scope X.env cpos mk false (eval iter X.env) use) Q' xe s:=by
 have hi':=hi pn xe hp zF s Z H (λJ H1=>∃F1 U1 l,zp F F1/\Rel X.K U1 Z F1 G H1/\fU X.K J l F1/\
   aI g wc b l (U1++some s0::List.replicate k none) (λU2=>zo (slot U2 X.N.length) λs=>P (.v s) (U2.take X.N.length)) NX) I
  #[F,G,U,_,PX,zH,hw,λl U1 F1 H1 J hk s1 r1 it=>#[F1,U1,l,s1,r1,it,hk],hx]
 let hfree:∀x∈scope.names,x.2=.free->∃c,X.env.cells.lookup x.1=some c:=λx hx hf=>I.ok.has x.1 (Sc.fr x hx hf);show wpAny_comprehension_free (use:=use) hcl hs (VQ hfree) Sc.kind (λx hx hl=>(Iq Sc.nd).mpr (by let#[a,b]:=x;let hl':b=.local:=hl;subst hl';show hx)) (zh hi' (λv s1 h1=>zh h1 (λitv s2 h2=>?_) λ_ _ z=>z) λ_ _ z=>z);show cps λ_ kk=>?_;let#[it,fp,tn,J,H2,e1,I2,T,st,f,F1,U1,l,s1',r1,ito,hk2]:=h2;show kk ?_;subst e1
 --the zK
 show hmk _ _ _ _ ?_;generalize hs3:({s2 with heap:=s2.heap.push {cls:=.type ty,dict:=none,data:=dat}}:Shared)=s3;let k23:∀b o,s2.heap.get? b=some o->s3.heap.get? b=some o:=λb o e=>by rw[<-hs3];show qc _ e
 let sz3:s3.heap.objs.size=s2.heap.objs.size+1:=by rw[<-hs3];show Heap.size_push ..
 let hD:H2 s2.heap.objs.size=none:=I2.hok.fresh (q5 _);let I3:Inv (wp X pn xe) zF Z (upd H2 s2.heap.objs.size o0) s3:=by rw[<-hs3];show I2.laid (t':=s2.toks) (λb o e=>qc _ e) (q5 _) (ho _ _ I2.big)
 let r3:Rel X.K (U1++[some s0]) (Z++[some (.ref s2.heap.objs.size)]) F1 G (upd H2 s2.heap.objs.size o0):=r1.newO hD (hs0 _ _ _ Bc);let fplt:∀b∈fp,b<s2.heap.objs.size:=λb hb=>by let#[o,e,_]:=T.obj _ _ st b hb;show qe e
 let fne:∀b∈fp,b≠s2.heap.objs.size:=λb hb=>ne_of_lt (fplt b hb);let f3:∀b∈fp,cW (wp X pn xe) zF (upd H2 s2.heap.objs.size o0) b:=λb hb=>by let#[h1,h2]:=f b hb;show#[by rw[Ao (fne b hb)];show h1,h2]
 show Vv λh' kept hns hcl'=>?_;let I4:=Inv.comp (X:=wp X pn xe) (ex:=fp) I3 Sc (λb hb=>#[f3 b hb,by rw[sz3];show lt_succ_of_lt (fplt b hb)]) kept hns hcl' hk (some (.ref s2.heap.objs.size));let hZn:(Z++some (.ref s2.heap.objs.size)::List.replicate k none)[X.N.length]?=some (some (.ref s2.heap.objs.size)):=by let hl:X.N.length=Z.length:=I2.len.symm;rw[hl,getElem?_append_right (q5 _),sub_self];rfl
 let r4:Rel X.K (U1++some s0::List.replicate k none) (Z++some (.ref s2.heap.objs.size)::List.replicate k none) F1 G (upd H2 s2.heap.objs.size o0):=by let:=r3.pushNs k;simpa using this
 let st4:tn 0 h':=T.keep _ _ _ st λb hb o e=>kept b o (k23 b o e);let f4:∀b∈fp,cW (aC X scope vars s3 (upd H2 s2.heap.objs.size o0) fp) [] (upd H2 s2.heap.objs.size o0) b:=λb hb=>by let#[h1,h2,h3,h4,h5,h6]:=f3 b hb;let e:=I4.ok.exf b hb;show#[h1,e.1,I4.ok.exfs b hb,.inl hb,e.2,λp hp=>absurd (show p∈([]:List (Addr×Obj)) from hp) (by simp)]
 have go:=NI (hb s3 (upd H2 s2.heap.objs.size o0) fp s2.heap.objs.size) (λit=>hq it _ _) (λit=>hun it _ _) (λit=>hden it _ _) (λit=>heq it _ _) I4 T st4 f4
  (Q:=λZ' H'=>∃F' U',zo (slot U' X.N.length) (λs=>P (.v s) (U'.take X.N.length))/\KP (List.range (X.N.length+1)) (Z++some (.ref s2.heap.objs.size)::List.replicate k none) Z'/\zp F1 F'/\Rel X.K U' Z' F' G H')
  (Mi ito r4 hZn hk2 λU' Z' F' H' a kp sm r=>#[F',U',a,kp,sm,r])
 show codeAny_mono go λr s4 zq=>?_;show cps λ_ kk=>?_;let#[Z4,H4,er,I5,F4,U4,hn4,kp4,sm4,r5]:=zq;subst er;let#[m,hm,_]:=id I5.loc;show kk ?_;let I6:Inv (wp X pn xe) zF Z H4 s4:=Inv.call' (ch:=fp) I3 I5.os I5.base I5.hok I5.bare λb hb=>by let#[h1,h2,h3,h4,h5,h6]:=f3 b hb;show#[h4,h2,h5,h6]
 --the block's names go
 let#[t,et,hP]:=Ap hn4;let hl:X.N.length=Z.length:=I2.len.symm;let hZ4:Z4[X.N.length]?=some (some (.ref s2.heap.objs.size)):=by rw[kp4 X.N.length (by simp)];show hZn
 have eZ:Z4.take X.N.length=Z:=by
  apply ext_getElem?;intro j;by_cases hj:j<X.N.length
  .rw[List.getElem?_take_of_lt hj,kp4 j (by simp;lia -verbose),getElem?_append_left ∅]
  .rw[List.getElem?_take_eq_none (not_lt.mp hj),qP ∅]
 let e1:=NB (JJ et);let e2:=NB hZ4;rw[e1,e2,eZ]at r5;let r6:Rel X.K ((U4.take X.N.length++[some t])++U4.drop (X.N.length+1)) ((Z++[some (.ref s2.heap.objs.size)])++Z4.drop (X.N.length+1)) F4 G H4:=↑r5
 let hlt:X.N.length<U4.length:=GL et;let ltC:∀{b:Addr}{o:Obj},s3.heap.get? b=some o->b≠s3.heap.objs.size:=λe=>ne_of_lt (qe e);show fin s2.heap.objs.size s3.heap.objs.size s4 H4 F4 m t (U4.take X.N.length) hm I6 I5.free (Ne.symm (ne_of_lt I3.lt)) I3.sz (λx c e z=>?_) (λp hp z=>?_) hP (s1'.trans sm4) (r6.drop (by simp;lia -verbose))
 .obtain⟨v,o,ho,_⟩:=I3.cell x c e;show ltC ho z
 .show ltC (I3.pin p hp).1 z
def IX{P:WQ}(M:∀r U' v F' H',P r U'->zp F F'->Rel X.K (U'++[zr r]) (Z++[some v]) F' G H'->RV Z v r->Q v H'):
  ∀(D C:Addr)(J:Shared)(B L:Hp)(m:Str->Option Value)(t:S)(z:Env),J.heap.Ns C m->Inv (wp X pn xe) zF Z B J->B C=none->C≠X.env.locals->X.s₀.heap.objs.size<=C->(∀x c,X.env.cells.lookup x=some c->c≠C)->(∀p∈pn++zF,p.1≠C)->
   P (.v t) z->zp F L->Rel X.K (z++[some t]) (Z++[some (.ref D)]) L G B->compPost (model X.prog X.w) X.A xe none (EP (wp X pn xe) zF Z Q) (.ref D) C (.ok .next) J:=
 λD C J B L m t z hm I n1 n2 n3 n4 n5 hP O r=>#[m,hm,λh1 Y=>#[.ref D,B,I.turned (t':=J.toks) (λb o hb e=>(Y.2 b hb).trans e) n1 n2 (.inr (Heap.get?_none_of_le n3)) n4 n5,rfl,M (.v t) z _ L B hP O r trivial]]
def Rf{P:WQ}{Nx:Env->Prop}(hk:i∉ks)(hN:∀j,X.N[j]?=some y->j=i)(hi:X.N[i]?=some y)(hy:X.env.scope.names.lookup y=some .local)
  (hP:∀s U,P (.v s) U->Nx (U.set i (some s)))(Y:∀U' Z' F' H',Nx U'->KP ks Z Z'->zp F F'->Rel X.K U' Z' F' G H'->DD.nx Z' H'):
  ∀(D C:Addr)(L:Shared)(B M:Hp)(m:Str->Option Value)(t:S)(z:Env),L.heap.Ns C m->Inv (wp X pn xe) zF Z B L->B C=none->C≠X.env.locals->X.s₀.heap.objs.size<=C->(∀x c,X.env.cells.lookup x=some c->c≠C)->(∀p∈pn++zF,p.1≠C)->
   P (.v t) z->zp F M->Rel X.K (z++[some t]) (Z++[some (.ref D)]) M G B->compPost (model X.prog X.w) X.A xe (some (assign (.Name y py) X.env)) (λ_ s'=>SP (wp X pn xe) zF DD .next s') (.ref D) C (.ok .next) L:=
 λD C L B M m t z hm I n1 n2 n3 n4 n5 hp sm r=>by
  let hl:=Af r;let J:i<z.length:=by rw[hl,I.len];show(qg.mp hi).1
  refine wpAny_assign_Name (MS (X:=wp X pn xe) (v:=.ref D) I hN hi (.inl hy) rfl (λs5 I5 zq=>?_) (.inr hy));let#[a,sb,ha]:=zq;let h1:C≠a:=by
   rcases ha with e|e
   .rw[e];show n2
   .show Ne.symm (n4 y a e)
  show#[m,hm.sameBut sb h1,λh2 O=>#[_,B,I5.turned (t':=s5.toks) (λb o hb e=>(O.2 b hb).trans e) n1 n2 (.inr (Heap.get?_none_of_le n3)) n4 n5,?_]];show Y _ _ M B (hP t z hp) (KP.set hk) sm (r.store hl J)
def IY(A:Around)(E:zi)(s:Shared)(Q:zi)(h:Q (.ref s.heap.objs.size) {s with heap:=s.heap.push {cls:=.type ty,dict:=none,data:=dat}})(hz:sizeOk dat:=by size_fits):wpAny (model X.prog X.w) A (newObj (.type ty) dat) Q E s:=zc h hz
def Lb(H:Hp)(h:Heap)(_:sysModules<h.objs.size):zE X.prog X.w H (h.push {cls:=.type "list",dict:=none,data:=.seq ([]:List Value).toArray}) h.objs.size (.lst []):=#[zero_le _,[],0,.nil,qd _ rfl]
def Kx(F H:Hp)(p:Addr)(e:H p=some (.lst [])):aJ X.K F H (.ref p) (.lst []) [p]:=.lst e .nil
def DH(hn:X.N.length=n)(hc:X.calm=true)(Sc:bW X.env.scope scope X.N vars)(hk:vars.length=k)(hi:FI X tg iter L)
  (hg:∀s H ex,FG (aC X scope vars s H ex) (List.range (n+1)) tg g)(ht:∀s H ex,fZ (aC X scope vars s H ex) z (iA (aC X scope vars s H ex) wc))(he:∀s H ex,FE (aC X scope vars s H ex) J M)
  (hs:∀x,foldedSetIterable iter X.env x=pure x:=by intro _;rfl):FE X (.ListComp J [#[tg,iter,z,0]] scope pos) (iV n k L g wc (bS n M)):=by
 subst hn;intro pn xe hp zF s Z H Q I q;let#[F,G,U,P,PX,v,Y,B,O]:=q;show HH (λA E s Q h=>IY A E s Q h) (s0:=.lst []) Lb Kx rfl hs Sc hk hi (λs H ex D=>?_) (λ_ _ _=>rfl) (λ_ _ _=>rfl) (λ_ _ _=>rfl) (λ_ _ _=>#[_,rfl]) hp I v Y O (IX B);show GU (X:=aC X scope vars s H ex) hc rfl (hg s H ex [] (λ_ _=>False) PassesOwn.never) (ht s H ex) (λ_=>(Ng (X:=aC X scope vars s H ex) rfl (he s H ex)).f) (λ_=>rfl) (λ_=>rfl) (λ_=>rfl) (λ_=>rfl)
def Tr(O:i∉ks)(hN:∀j,X.N[j]?=some y->j=i)(Y:X.N[i]?=some y)(hy:X.env.scope.names.lookup y=some .local)
  (M:swapsWith (.ListComp J [#[tg,iter,B,0]] scope pos) (some (.Name y py)) spos.line X.env=pure true)
  (hn:X.N.length=n)(hc:X.calm=true)(Sc:bW X.env.scope scope X.N vars)(hk:vars.length=k)(hi:FI X tg iter wi)
  (hg:∀s H ex,FG (aC X scope vars s H ex) (List.range (n+1)) tg g)(ht:∀s H ex,fZ (aC X scope vars s H ex) B (iA (aC X scope vars s H ex) wc))(he:∀s H ex,FE (aC X scope vars s H ex) J we)
  (hs:∀x,foldedSetIterable iter X.env x=pure x:=by intro _;rfl):FS X ks (.Assign [.Name y py] (.ListComp J [#[tg,iter,B,0]] scope pos) spos) (zA (zm i) (iV n k wi g wc (bS n we))):=by
 subst hn;intro pn xe hp zF s Z H D I q;rw[exec_Assign_Name_used _ _ _ _ M];show qa (wpAny_standAt (qa ?_));let#[F,G,U,E,L,hw,n,b,c,r,x]:=q;refine qa (zh (HH (λA E s Q h=>IY A E s Q h) (s0:=.lst []) (P:=λr v=>zo (give r v) λp=>zm i p.1 p.2 E.nx) (PX:=E.ex) (g:=g) (wc:=wc) (b:=bS X.N.length we) (Q':=λ_ s'=>SP (wp X pn xe) zF D .next s') Lb Kx rfl hs Sc hk hi (λs H ex D=>?_) (λ_ _ _=>rfl) (λ_ _ _=>rfl) (λ_ _ _=>rfl) (λ_ _ _=>#[_,rfl]) hp I L hw (x.mono (λh1 z=>by rw[z];show KP.refl) (zp.refl F) (zp.refl G))
  (Rf (P:=λr v=>zo (give r v) λp=>zm i p.1 p.2 E.nx) (Nx:=E.nx) O hN Y hy (λs U h=>h) n)) (λ_ s' hq=>qb (qb hq)) λ_ _ e=>e)
 show GU (X:=aC X scope vars s H ex) hc rfl (hg s H ex [] (λ_ _=>False) PassesOwn.never) (ht s H ex) (λ_=>(Ng (X:=aC X scope vars s H ex) rfl (he s H ex)).f) (λ_=>rfl) (λ_=>rfl) (λ_=>rfl) (λ_=>rfl)
end
section
variable{K:W.Frag}
def Gm{x:Str}(e:x.cps.toList=l):x.length=l.length:=by rw[<-e];rfl
def RC{x y:Str}(e:x.cps.toList=l)(v:y.cps.toList=m):(x++y).cps.toList=l++m:=by show(x.cps++y.cps).toList=_;rw[toList_append,e,v]
def bC.int(h:bC K F H v (.int i)):v=.int i:=by
 rcases h with h|⟨_,_,_,_,h,_⟩|⟨_,_,_,_,_,h,_⟩|⟨_,_,_,_,_,h,_⟩
 .cases h;rfl
 .cases h
 .cases h
 .cases h
def bC.str(h:bC K F H v (.str l)):∃x,v=.str x/\x.cps.toList=l/\l.length<=16777216:=by
 rcases h with h|⟨_,_,_,_,h,_⟩|⟨_,_,_,_,_,h,_⟩|⟨_,_,_,_,_,h,_⟩
 .cases h with
  |str e z=>show#[_,rfl,e,z]
 .cases h
 .cases h
 .cases h
def bC.tup(h:bC K F H v (.tup l)):∃a xs,v=.ref a/\F a=some (.tup xs)/\zD K F xs l:=by
 rcases h with h|⟨_,_,_,_,h,_⟩|⟨_,_,_,_,_,h,_⟩|⟨_,_,_,_,_,h,_⟩
 .cases h with
  |tup e r=>show#[_,_,rfl,e,r]
 .cases h
 .cases h
 .cases h
def bC.lst(z:zp F H)(h:bC K F H v (.lst l)):∃a xs,v=.ref a/\bL K H a xs/\zD K F xs l:=by
 rcases h with h|⟨a,xs,J,G,h,B,r⟩|⟨_,_,_,_,_,h,_⟩|⟨_,_,_,_,_,h,_⟩
 .cases h with
  |lst e r=>show#[_,_,rfl,bL.mono z e,r]
 .cases h;show#[a,xs,G,bL.of B,r]
 .cases h
 .cases h
def zD.append(a:zD K F xs l)(r:zD K F ys m):zD K F (xs++ys) (l++m):=zD.ind (P:=λxs l=>zD K F (xs++ys) (l++m)) r (λa _ v=>.cons a v) a
def Rel.newLD(r:Rel K U Z F G H)(J:H p=none)(z:zD K F xs l):Rel K (U++[some (.lst (l.map .sh))]) (Z++[some (.ref p)]) F G (upd H p (.lst xs)):=by
 have v:∀{xs:List V}{l:List D},zD K F xs l->zu K F (upd H p (.lst xs)) xs (l.map .sh) []:=by
  intro xs l h;generalize upd H p (.lst xs)=H';induction xs generalizing l with
  |nil=>cases h;show .nil
  |cons x xs B=>cases h with
   |cons a b=>have:=zu.cons (aJ.sh (H:=H') a) (B b);show this
 show r.newO J (.lst Bc ?_);let:=v z;show this
def rH(K:W.Frag):R2:=λx y H Q=>∃l b xs v,x=.ref l/\y=.ref b/\bL K H l xs/\bL K H b v/\xs.length+v.length<=sizeLine/\∀p,H p=none->Q (.ref p) (upd H p (.lst (xs++v)))
def Qs:OpR X (binaryOp .Add) (rH X.K):=by
 intro zF s Z H x y v u Q I rx ry h;let#[l,b,xs,zs,rfl,rfl,hl,hb,hz,q]:=h;cases rx;cases ry;let#[B,r1,#[#[cls,dd,data,sl],n,ho,hc,M,hd],_]:=I.list hl;let#[z,Y,#[#[h1,h2,data2,J],n2,F,O,G,L],_]:=I.list hb;subst hc M hd O G L;show concat_meets #[_,ho,rfl] #[_,F,rfl] noFill_list_add seq_list_add PySem.F.slot_list_add PySem.F.entry_list_add (PySem.F.args_list_add_2 _ _) (list_addW l b B.toArray z.toArray n n2 none none sl J (by rw[qr,qr,<-r1.length,<-Y.length];show hz)) #[ho,F,?_];let ea:B.toArray++z.toArray=(B++z).toArray:=by simp
 rw[ea];show#[.ref _,_,I.lnew (t':=s.toks) (r1.append Y) (by rw[qq];show hz),rfl,q _ I.fresh]
def lX(K:W.Frag):R2:=λx y H Q=>∃a b xs ys,x=.ref a/\y=.ref b/\bK K H a xs/\bK K H b ys/\xs.length+ys.length<=sizeLine/\
 (xs=[]->Q (.ref b) H)/\(xs≠[]->ys=[]->Q (.ref a) H)/\(xs≠[]->ys≠[]->∀p,H p=none->Q (.ref p) (upd H p (.tup (xs++ys))))
def Rt:OpR X (binaryOp .Add) (lX X.K):=by
 intro zF s Z H x y v u Q I rx Y h;let#[a,b,xs,ys,rfl,rfl,ha,hb,hz,q0,q1,q2]:=h;by_cases F:xs=[]
 .cases rx;cases Y;let#[B,r1,p1,_]:=I.tuple ha;let#[z,r2,p2,_]:=I.tuple hb;let#[#[cls,dd,data,sl],ho,hc,n,hd]:=id p1;let#[#[h1,O,data2,J],G,M,n2,L]:=id p2;subst hc hd M L;let hi:B=[]:=r1.nil_iff.mpr F;exact concat_meets #[_,ho,rfl] #[_,G,rfl] noFill_tuple_add seq_tuple_add PySem.F.slot_tuple_add PySem.F.entry_tuple_add (PySem.F.args_tuple_add_2 _ _)
   (tuple_addW0 a b B.toArray z.toArray n n2 dd O sl J (by simp[hi])) #[ho,G,.ref b,H,I,rfl,q0 F]
 .show Rg zF s Z H _ _ v u Q I rx Y #[a,b,xs,ys,rfl,rfl,ha,hb,F,hz,q1 F,q2 F]
def oE:R2:=λx y H Q=>∃i j,x=.str i/\y=.str j/\i.length+j.length<=sizeLine/\Q (.str (i++j)) H
def kA(K:W.Frag):R2:=λx y H Q=>tU (λi j=>.int (i+j)) x y H Q\/(oE x y H Q\/(rH K x y H Q\/lX K x y H Q))
def UI:OpR X (binaryOp .Add) (kA X.K):=OpR.or OA (OpR.or US (OpR.or Qs Rt))
def HX(h:n<=big):n<=sizeLine:=by rw[ze];show le_trans h ⋯
def Sj:gZ K (kA K) bE:=by
 intro Z U F G H x y p q s Q v ex O e J;unfold bE at e;split at e
 .cases e;let h1:=ex.int;let h2:=O.int;subst h1 h2;show .inl #[_,_,rfl,rfl,J _ F H (zp.refl F) (v.push (.int _))]
 .rename_i a b;split at e
  .rename_i L;cases e;let#[x,rfl,e1,z1]:=ex.str;let#[y,rfl,e2,z2]:=O.str;show .inr (.inl #[_,_,rfl,rfl,by rw[Gm e1,Gm e2];show HX L,J _ F H (zp.refl F) (v.push (.str (RC e1 e2) (by rw[qq];show le_trans L ⋯)))])
  .cases e
 .rename_i a b;split at e
  .rename_i L;cases e;let#[l,xs,rfl,h1,B]:=ex.lst v.fr;let#[m,ys,rfl,h2,z]:=O.lst v.fr;show .inr (.inr (.inl #[l,m,xs,ys,rfl,rfl,h1,h2,by rw[B.len,z.len];show HX L,λp M=>?_]));show J _ F _ (zp.refl F) (v.newLD M (B.append z))
  .cases e
 .rename_i a b;split at e
  .rename_i L;cases e;let#[l,xs,rfl,h1,B]:=ex.tup;let#[m,ys,rfl,h2,z]:=O.tup;refine .inr (.inr (.inr #[l,m,xs,ys,rfl,rfl,bK.of (v.fr _ _ h1),bK.of (v.fr _ _ h2),by rw[B.len,z.len];show HX L,λhx=>?_,λ_ hy=>?_,λ_ _ p M=>?_]))
   .subst hx;cases B;show J _ F H (zp.refl F) (v.push (.tup h2 z))
   .subst hy;cases z;rw[qz]at J;show J _ F H (zp.refl F) (v.push (.tup h1 B))
   .let Y:=(v.free M).1;show J _ _ _ (zp.upd Y) ((v.newF M).push (.tup Bc ((B.append z).mono (zp.upd Y))))
  .cases e
 .cases e
def GV{g:Int->Int->Int}(B:∀p q s,o p q=some s->∃i j,p=.int i/\q=.int j/\C i j/\s=.sh (.int (g i j))):gZ K (rI C λi j=>.int (g i j)) o:=by intro Z U F G H x y p q s Q v ex L e z;let#[i,j,rfl,rfl,J,rfl]:=B p q s e;let h1:=ex.int;let h2:=L.int;subst h1 h2;show#[i,j,rfl,rfl,J,z _ F H (zp.refl F) (v.push (.int _))]
def RR:gZ K (rI (λ_ _=>True) λi j=>.int (i-j)) lY:=GV λp q s e=>by
 unfold lY at e;split at e
 .cases e;show#[_,_,rfl,rfl,trivial,rfl]
 .cases e
def PC:OpR X (binaryOp .Sub) (rI (λ_ _=>True) λi j=>.int (i-j)):=Hi λ_ _ _ _ _ _ _ _ q=>sub_int q
def Sy:gZ K (rI nA λi j=>.int (i*j)) mA:=GV λp q s e=>by
 unfold mA at e;split at e
 .rename_i i j;split at e
  .rename_i h;cases e;show#[_,_,rfl,rfl,?_,rfl];simp[kD,or_eq_true,and_eq_true,qS]at h;show h
  .cases e
 .cases e
def RA:gZ K (rI (λ_ j=>0<j) λi j=>.int (i %j)) eU:=GV λp q s e=>by
 unfold eU at e;split at e
 .split at e
  .rename_i h;cases e;show#[_,_,rfl,rfl,h,rfl]
  .cases e
 .cases e
def SF:gZ K (rI zU λi j=>.int (i^j.toNat)) lZ:=GV λp q s e=>by
 unfold lZ at e;split at e
 .split at e
  .rename_i h;cases e;show#[_,_,rfl,rfl,#[h.1,∅,h.2.2],rfl]
  .cases e
 .cases e
def rT(i j:Int):Prop:=0<j/\j<18446744073709551616
def SU:OpR X (binaryOp .FloorDiv) (rI rT λi j=>.int (i/j)):=Hi λi j _ _ _ _ _ v q=>by
 let h1:(0:Int)<j:=v.1;let h2:j<18446744073709551616:=v.2;show floordiv_int ∅ ?_ (.inl (PyProof.noPylong_of_log2 ?_))
 .rw[Int.fdiv_eq_ediv_of_nonneg _ ∅];show q
 .let z:j.natAbs≠0:=by lia
  let:j.natAbs.log2<64:=(Nat.log2_lt z).mpr ∅;lia
def Ut:gZ K (rI rT λi j=>.int (i/j)) gF:=GV λp q s e=>by
 unfold gF at e;split at e
 .split at e
  .rename_i h;cases e;show#[_,_,rfl,rfl,h,rfl]
  .cases e
 .cases e
end
def AZ(z:FE X a wa)(v:FE X b wb):FE X (.BinOp a .Add b pos) (zx bE wa wb):=Ga (λ_ _=>UI) Sj z v
def OS(z:FE X a wa)(v:FE X b wb):FE X (.BinOp a .Sub b pos) (zx lY wa wb):=Ga (λ_ _=>PC) RR z v
def EV(z:FE X a wa)(v:FE X b wb):FE X (.BinOp a .Mod b pos) (zx eU wa wb):=Ga (λ_ _=>Ov) RA z v
def Lx(z:FE X a wa)(v:FE X b wb):FE X (.BinOp a .FloorDiv b pos) (zx gF wa wb):=Ga (λ_ _=>SU) Ut z v
def Pn(z:FE X a wa)(v:FE X b wb):FE X (.BinOp a .Pow b pos) (zx lZ wa wb):=Ga (λ_ _=>OY) SF z v
section
open PySem.SeqAt
def UD(h:aO (.tup l) (.tup m)=false):bH l m=false:=h
def Ik:∀{l m:List D}{j:Nat}{a b:D},bH l m=false->l[j]?=some a->m[j]?=some b->aO a b=false
 |[],_,_,_,_,_,h,_=>by simp at h
 |_::_,[],_,_,_,_,_,h=>by simp at h
 |x::l,y::m,0,a,b,h,h1,h2=>by simp at h1 h2;subst h1 h2;let h':(aO x y||bH l m)=false:=h;rw[Bool.or_eq_false_iff]at h';show h'.1
 |x::l,y::m,j+1,a,b,h,h1,h2=>by let h':(aO x y||bH l m)=false:=h;rw[Bool.or_eq_false_iff]at h';show Ik h'.2 h1 ↑h2
def HJ:∀{l:List D}{j:Nat}{a:D},l[j]?=some a->eG a<=bG l
 |[],_,_,h=>by simp at h
 |x::l,0,a,h=>by simp at h;subst h;show eG x<=max (eG x) (bG l);lia
 |x::l,j+1,a,h=>by let:=HJ (l:=l) (j:=j) (a:=a) h;show eG a<=max (eG x) (bG l);lia
open Classical in
def HG{l m:List D}(n:Nat)(hn:n=min l.length m.length):((List.range n).all (λj=>decide (l[j]?=m[j]?))&&(l.length==m.length))=decide (l=m):=by
 by_cases h:l=m
 .subst h;simp
 .rw[qR h];by_cases v:l.length=m.length
  .have:(List.range n).all (λj=>decide (l[j]?=m[j]?))=false:=by
    cases q:(List.range n).all (λj=>decide (l[j]?=m[j]?))with
    |false=>rfl
    |true=>
     exfalso;apply h;apply ext_getElem?;intro j;by_cases z:j<n
     .show qT (qH.mp q j ↑z)
     .rw[qP ∅,qP ∅]
   rw[this];rfl
  .let:(l.length==m.length)=false:=by simpa using v
   rw[this,Bool.and_false]
inductive Sc:V->D->Prop
 |non:Sc .non .non
 |bl (b:Bool):Sc (.bl b) (.bl b)
 |int (i:Int):Sc (.int i) (.int i)
 |str {x:Str} {l:List Nat}:x.cps.toList=l->Sc (.str x) (.str l)
def Ki{K:W.Frag}(r:aN K H v d)(z:aO d e=false)(h1:∀l,d≠.tup l)(h2:∀l,d≠.lst l):Sc v d:=by
 cases r with
 |tup=>show absurd rfl (h1 _)
 |lst=>show absurd rfl (h2 _)
 |dK=>cases e<;>cases z
 |dT=>cases e<;>cases z
 |st=>cases e<;>cases z
 |exc=>cases e<;>cases z
 |non=>show .non
 |bl=>show .bl _
 |int=>show .int _
 |str e _=>show .str e
def Ky{K:W.Frag}(r:aN K H u e)(s:Sc v d)(z:aO d e=false):Sc u e:=by
 cases r with
 |non=>show .non
 |bl=>show .bl _
 |int=>show .int _
 |str e _=>show .str e
 |_=>cases s<;>cases z
open Classical in
def LB{K:W.Frag}(r1:aN K H v d)(Y:aN K H u e)(F:zv v L)(z:zv u M)(G:aO d e=false)(h1:∀l,d≠.tup l)(h2:∀l,d≠.lst l):
  EqAt A s L M (decide (d=e))/\RcAt A s L M (decide (d=e)):=by
 let O:=Ki r1 G h1 h2;let B:=Ky Y O G
 clear r1 Y h1 h2
 cases O with
 |non=>
  cases F;cases B with
  |non=>cases z;simp;show#[EqAt.same _,RcAt.none_none]
  |bl b=>cases z;simp;show#[EqAt.none_bool _,RcAt.none_bool _]
  |int i=>let#[t,rfl]:=z;simp;show#[EqAt.none_int _ _,RcAt.none_int _ _]
  |str e=>let#[t,rfl]:=z;simp;show#[EqAt.none_str _ _,RcAt.none_str _ _]
 |bl a=>
  cases F;cases B with
  |non=>cases z;simp;show#[EqAt.bool_none _,RcAt.bool_none _]
  |bl b=>
   cases z;let e:(decide (D.bl a=D.bl b))=(a==b):=by cases a<;>cases b<;>simp
   rw[e];show#[EqAt.bool_bool _ _,RcAt.bool_bool _ _]
  |str e=>let#[t,rfl]:=z;simp;show#[EqAt.bool_str _ _ _,RcAt.bool_str _ _ _]
  |int=>cases G
 |int i=>
  let#[t,rfl]:=F;cases B with
  |non=>cases z;simp;show#[EqAt.int_none _ _,RcAt.int_none _ _]
  |int j=>
   let#[J,rfl]:=z;let e:(decide (D.int i=D.int j))=(i==j):=by by_cases h:i=j<;>simp[h]
   rw[e];show#[EqAt.int_int _ _ _ _,RcAt.int_int _ _ _ _]
  |str e=>let#[J,rfl]:=z;simp;show#[EqAt.int_str _ _ _ _,RcAt.int_str _ _ _ _]
  |bl=>cases G
 |str e1=>
  let#[t,rfl]:=F;cases B with
  |non=>cases z;simp;show#[EqAt.str_none _ _,RcAt.str_none _ _]
  |bl b=>cases z;simp;show#[EqAt.str_bool _ _ _,RcAt.str_bool _ _ _]
  |int j=>let#[J,rfl]:=z;simp;show#[EqAt.str_int _ _ _ _,RcAt.str_int _ _ _ _]
  |str e2=>
   obtain⟨J,rfl⟩:=z;rename_i x l y m;let e:(decide (D.str l=D.str m))=(x==y):=by
    by_cases h:x=y
    .subst h;rw[<-e1,<-e2];simp
    .let hb:(x==y)=false:=by simpa using h
     rw[hb];show qR λq=>h ?_;let#[#[a]]:=x;let#[#[b]]:=y;let a1:a=l:=e1;let b1:b=m:=e2;rw[a1,b1,D.str.inj q]
   rw[e];show#[EqAt.str_str _ _ _ _,RcAt.str_str _ _ _ _]
def Fw(r:zC xs us)(h:j<us.toArray.size):∃x,xs[j]?=some x/\zv x us.toArray[j]:=by
 let F:=r.length;let G:j<us.length:=h;let B:j<xs.length:=∅
 let#[u,z,v]:=r.get (i:=j) (x:=xs[j]) (by simp);show#[xs[j],by simp,?_];let:us.toArray[j]=u:=by let:=qg.mp z;simpa using this.2
 rw[this];show v
mutual
def aN.uniq(I:Inv X zF Z H s)(r:aN X.K H v d)(q:aN X.K H v e)(z:aO d e=false):d=e:=by
 cases r with
 |non=>cases q;rfl
 |bl _=>cases q;rfl
 |int _=>cases q;rfl
 |str F _=>cases q with|str B _=>rw[<-F,<-B]
 |tup F J=>cases q with
  |tup B G=>cases I.tuple_inj (bK.of F) (bK.of B);rw[zD.uniq I J G z]
  |_=>cases z
 |lst F J=>cases q with
  |lst B G=>cases I.list_inj F B;rw[zD.uniq I J G z]
  |_=>cases z
 |dK=>cases e<;>cases z
 |dT=>cases e<;>cases z
 |st=>cases e<;>cases z
 |exc=>cases e<;>cases z
def zD.uniq(I:Inv X zF Z H s)(r:zD X.K H v d)(q:zD X.K H v e)(z:bH d e=false):d=e:=by
 cases r with
 |nil=>cases q;rfl
 |@cons _ a _ l J F=>cases q with
  |@cons _ b _ m G B=>have h':(aO a b||bH l m)=false:=z;rw[Bool.or_eq_false_iff]at h';rw[aN.uniq I J G h'.1,zD.uniq I F B h'.2]
end
open Classical in
def Iy:∀(n:Nat){A:Around}{v u:V}{vv uu:Value}{d e:D},eG d<=n->Inv X zF Z H s->aN X.K H v d->aN X.K H u e->zv v vv->zv u uu->aO d e=false->A.units+n<cLine->
  EqAt A s vv uu (decide (d=e))/\RcAt A s vv uu (decide (d=e)):=by
 intro n;induction n with
 |zero=>intro A v u vv uu d e hd I r1 r2 rv ru hc hu;show LB r1 r2 rv ru hc (λl z=>by subst z;show absurd hd (by show¬bG l+1<=0;lia)) (λl z=>by subst z;show absurd hd (by show¬bG l+1<=0;lia))
 |succ n ih=>
  intro A v u vv uu d e hd I r1 r2 rv ru hc hu;let e4:A.in1.units+n<cLine:=by show A.units+1+n<cLine;lia
  cases r1 with
  |tup e1 q1=>
   cases r2 with
   |tup e2 q2=>
    rename_i a xs l b ys m;cases rv;cases ru;let#[G,w1,p1,_]:=I.tuple (bK.of e1);let#[B,w2,p2,_]:=I.tuple (bK.of e2);let h8:bG l<=n:=by let:bG l+1<=n+1:=hd;lia
    let h4:G.toArray.size=l.length:=by rw[qr,<-w1.length,q1.len]
    let h9:B.toArray.size=m.length:=by rw[qr,<-w2.length,q2.len]
    have items:∀j(h1:j<G.toArray.size)(h2:j<B.toArray.size),EqAt A.in1 s G.toArray[j] B.toArray[j] (decide (l[j]?=m[j]?)):=λj h1 h2=>by
     let#[x,hx,rx]:=Fw w1 h1;let#[y,hy,ry]:=Fw w2 h2;let F:j<l.length:=∅
     let J:j<m.length:=∅
     let#[x',M,h6]:=q1.get (i:=j) (d:=l[j]) (by simp[F]);let#[y',L,h5]:=q2.get (i:=j) (d:=m[j]) (by simp[J]);rw[hx]at M;cases M;rw[hy]at L;cases L;let:=(ih (A:=A.in1) (le_trans (HJ (l:=l) (j:=j) (by simp[F])) h8) I h6 h5 rx ry (Ik (j:=j) (a:=l[j]) (b:=m[j]) (UD hc) (by simp[F]) (by simp[J])) e4).1;let e:decide (l[j]?=m[j]?)=decide (l[j]=m[j]):=by simp[F,J]
     rw[e];show this
    have O:RcAt A s (.ref a) (.ref b) (decide (D.tup l=D.tup m)):=by
     let:=RcAt.tuples (s:=s) (show s.heap.IsTuple a G.toArray from p1) (show s.heap.IsTuple b B.toArray from p2) ∅ items;rw[h4,h9,HG (l:=l) (m:=m) _ rfl]at this;let e:decide (D.tup l=D.tup m)=decide (l=m):=by by_cases h:l=m<;>simp[h]
     rw[e];show this
    show#[?_,O];by_cases h3:a=b
    .subst h3;let h7:l=m:=by let z:=aN.uniq I (.tup e1 q1) (.tup e2 q2) hc;cases z;rfl
     subst h7;simp;show EqAt.same _
    .show EqAt.of_refs h3 O
   |_=>cases hc
  |lst e1 q1=>
   cases r2 with
   |lst e2 q2=>
    rename_i a xs l b ys m;cases rv;cases ru;let#[G,w1,p1,_]:=I.list e1;let#[B,w2,p2,_]:=I.list e2;let h8:bG l<=n:=by let:bG l+1<=n+1:=hd;lia
    let h4:G.toArray.size=l.length:=by rw[qr,<-w1.length,q1.len]
    let h9:B.toArray.size=m.length:=by rw[qr,<-w2.length,q2.len]
    have items:∀j(h1:j<G.toArray.size)(h2:j<B.toArray.size),EqAt A.in1 s G.toArray[j] B.toArray[j] (decide (l[j]?=m[j]?)):=λj h1 h2=>by
     let#[x,hx,rx]:=Fw w1 h1;let#[y,hy,ry]:=Fw w2 h2;let F:j<l.length:=∅
     let J:j<m.length:=∅
     let#[x',M,h6]:=q1.get (i:=j) (d:=l[j]) (by simp[F]);let#[y',L,h5]:=q2.get (i:=j) (d:=m[j]) (by simp[J]);rw[hx]at M;cases M;rw[hy]at L;cases L;let hk:bH l m=false:=hc;let:=(ih (A:=A.in1) (le_trans (HJ (l:=l) (j:=j) (by simp[F])) h8) I h6 h5 rx ry (Ik (j:=j) (a:=l[j]) (b:=m[j]) hk (by simp[F]) (by simp[J])) e4).1;let e:decide (l[j]?=m[j]?)=decide (l[j]=m[j]):=by simp[F,J]
     rw[e];show this
    have O:RcAt A s (.ref a) (.ref b) (decide (D.lst l=D.lst m)):=by
     let e:decide (D.lst l=D.lst m)=decide (l=m):=by by_cases h:l=m<;>simp[h]
     rw[e];by_cases Y:l.length=m.length
     .let:=RcAt.lists (s:=s) p1.isList p2.isList ∅ ∅ items;rw[h4]at this;let e2:=HG (l:=l) (m:=m) l.length ∅;let e3:(l.length==m.length)=true:=by simpa using Y
      rw[e3,Bool.and_true]at e2;rw[<-e2];show this
     .let:=RcAt.lists_lengths (A:=A) (s:=s) p1.isList p2.isList (by simp only[h4,h9];simpa using Y) ∅;let e2:decide (l=m)=false:=qR λz=>Y (by rw[z]);rw[e2];show this
    show#[?_,O];by_cases h3:a=b
    .subst h3;let h7:l=m:=by let z:=aN.uniq I (.lst e1 q1) (.lst e2 q2) hc;cases z;rfl
     subst h7;simp;show EqAt.same _
    .show EqAt.of_refs h3 O
   |_=>cases hc
  |_=>show LB (by first|show .non|show .bl _|show .int _|(rename_i e z;show .str e z)|(rename_i e k r;show .dK e k r)|(rename_i e k r;show .dT e k r)|(rename_i e r;show .st e r)|(rename_i e k z;show .exc e k z)) r2 rv ru hc (λl z=>by cases z) (λl z=>by cases z)
end
section
variable{K:W.Frag}
open PySem.SeqAt
open Classical in
def xM(K:W.Frag):R2:=λx y H Q=>∃p q,aN K H x p/\aN K H y q/\aO p q=false/\eG p<=30/\Q (.bl (decide (p=q))) H
def GF(O:X.A.units+31<cLine):OpR X (compareOp .Eq) (xM X.K):=by intro zF s Z H x y v u Q I B z h;let#[p,q,G,F,M,L,J]:=h;show(Iy 30 L I G F B z M ∅).2 X.prog X.w X.xe _ #[.bl _,H,I,rfl,J]
def KW(h:fC p q=some k):aO p q=false/\eG p<=30:=by grind[fC]
open Classical in
def LD(h:fC p q=some k):k=decide (p=q):=by
 unfold fC at h;split at h
 .cases h
 .show(qf h).symm
def GR:dF K (xM K) fC:=by intro H x y p q k Q z v e B;let#[h1,h2]:=KW e;let:=LD e;subst this;show#[p,q,z,v,h1,h2,B]
open Classical in
def xH(K:W.Frag):R2:=λx y H Q=>∃p q,aN K H x p/\aN K H y q/\aO p q=false/\eG p<=30/\Q (.bl (!decide (p=q))) H
def MA(I:Inv X zF Z H s)(q1:zD X.K H xs l)(Y:zD X.K H ys m)(O:zC xs us)(M:zC ys G)(hc:bH l m=false)(hd:bG l<=30)(hu:A.units+30<cLine):
  ∀j(h1:j<us.toArray.size)(h2:j<G.toArray.size),EqAt A s us.toArray[j] G.toArray[j] (open Classical in decide (l[j]?=m[j]?)):=λj h1 h2=>by
 let#[x,hx,rx]:=Fw O h1;let#[y,hy,ry]:=Fw M h2;let h4:us.toArray.size=l.length:=by rw[qr,<-O.length,q1.len]
 let h3:G.toArray.size=m.length:=by rw[qr,<-M.length,Y.len]
 let F:j<l.length:=∅
 let B:j<m.length:=∅
 let#[x',z,L]:=q1.get (i:=j) (d:=l[j]) (by simp);let#[y',v,J]:=Y.get (i:=j) (d:=m[j]) (by simp);rw[hx]at z;cases z;rw[hy]at v;cases v;let:=(Iy 30 (A:=A) (le_trans (HJ (l:=l) (j:=j) (by simp)) hd) I L J rx ry (Ik (j:=j) (a:=l[j]) (b:=m[j]) hc (by simp[F]) (by simp[B])) hu).1;let e:(open Classical in decide (l[j]?=m[j]?))=(open Classical in decide (l[j]=m[j])):=by simp[F,B]
 rw[e];show this
def Ht(p:D):(∃l,p=.tup l)\/(∃l,p=.lst l)\/((∀l,p≠.tup l)/\∀l,p≠.lst l):=by
 cases p with
 |tup l=>show .inl #[l,rfl]
 |lst l=>show .inr (.inl #[l,rfl])
 |_=>show .inr (.inr #[λl z=>D.noConfusion z,λl z=>D.noConfusion z])
def PH(h:aO (.tup l) q=false):∃m,q=.tup m:=by
 cases q with
 |tup m=>show#[m,rfl]
 |_=>cases h
def Qg(h:aO (.lst l) q=false):∃m,q=.lst m:=by
 cases q with
 |lst m=>show#[m,rfl]
 |_=>cases h
def Pz(J:aN K H x p)(G:aN K H y q)(v:aO p q=false)(h1:∀l,p≠.tup l)(h2:∀l,p≠.lst l):xA x y=true/\(p=q↔x=y):=by
 let F:=Ki J v h1 h2;let B:=Ky G F v;cases F with
 |str M=>
  cases B with
  |str L=>
   rename_i x l y m;show#[rfl,λz=>?_,λz=>?_]
   .obtain⟨⟨a⟩⟩:=x;let#[#[b]]:=y;grind
   .cases z;rw[<-M,<-L]
  |_=>show#[rfl,λz=>D.noConfusion z,λz=>V.noConfusion z]
 |_=>cases B<;>first|show⟨rfl,λz=>D.noConfusion z,λz=>V.noConfusion z⟩|show⟨rfl,λz=>by cases z;rfl,λz=>by cases z;rfl⟩|cases v
def DG(hu:X.A.units+32<cLine):OpR X (compareOp .NotEq) (xH X.K):=by
 classical
 intro zF s Z H x y v u Q I rx ry h;let#[p,q,r1,r2,hc,hd,hq]:=h;let B:EP X zF Z Q (.bool (!decide (p=q))) s:=#[.bl _,H,I,rfl,hq]
 let h3:X.A.in1.units+30<cLine:=by show X.A.units+1+30<cLine;lia
 rcases Ht p with⟨l,rfl⟩|⟨l,rfl⟩|⟨n1,n2⟩
 .obtain⟨m,rfl⟩:=PH hc;cases r1 with
  |tup e1 q1=>
  cases r2 with
  |tup M q2=>
   rename_i a xs b ys;cases rx;cases ry;let#[J,w1,p1,_]:=I.tuple (bK.of e1);let#[F,w2,p2,_]:=I.tuple (bK.of M);let O:bG l<=30:=by let:bG l+1<=30:=hd;lia
   let L:J.toArray.size=l.length:=by rw[qr,<-w1.length,q1.len]
   let Y:F.toArray.size=m.length:=by rw[qr,<-w2.length,q2.len]
   let:=RcNeAt.tuples (A:=X.A) (s:=s) (show s.heap.IsTuple a J.toArray from p1) (show s.heap.IsTuple b F.toArray from p2) ∅ (MA I q1 q2 w1 w2 hc O h3);rw[L,Y,HG (l:=l) (m:=m) _ rfl]at this;let e:decide (D.tup l=D.tup m)=decide (l=m):=by by_cases h:l=m<;>simp
   rw[e]at B;show this X.prog X.w X.xe _ B
 .obtain⟨m,rfl⟩:=Qg hc;cases r1 with
  |lst e1 q1=>
  cases r2 with
  |lst M q2=>
   cases rx;cases ry;let#[J,w1,p1,_]:=I.list e1;let#[F,w2,p2,_]:=I.list M;let O:bG l<=30:=by let:bG l+1<=30:=hd;lia
   let L:J.toArray.size=l.length:=by rw[qr,<-w1.length,q1.len]
   let Y:F.toArray.size=m.length:=by rw[qr,<-w2.length,q2.len]
   let e:decide (D.lst l=D.lst m)=decide (l=m):=by by_cases h:l=m<;>simp
   rw[e]at B;by_cases G:l.length=m.length
   .let:=RcNeAt.lists (A:=X.A) (s:=s) p1.isList p2.isList ∅ ∅ (MA I q1 q2 w1 w2 hc O h3);rw[L]at this;let M:=HG (l:=l) (m:=m) l.length ∅;let e3:(l.length==m.length)=true:=by simpa using G
    rw[e3,Bool.and_true]at M;rw[<-M]at B;show this X.prog X.w X.xe _ B
   .let:=RcNeAt.lists_lengths (A:=X.A) (s:=s) p1.isList p2.isList (by simp[L,Y];simpa using G) ∅;let M:decide (l=m)=false:=qR λz=>G (by rw[z]);rw[M]at B;show this X.prog X.w X.xe _ B
 .obtain⟨h1,h2⟩:=Pz r1 r2 hc n1 n2;rw[decide_eq_decide.mpr h2]at hq;show Om zF s Z H x y v u Q I rx ry #[h1,hq]
def DL:dF K (xH K) eI:=by
 intro H x y p q k Q B z e F;unfold eI at e;cases v:fC p q with
 |none=>rw[v]at e;cases e
 |some b=>rw[v]at e;let G:(!b)=k:=qf e;let#[h1,h2]:=KW v;let:=LD v;subst this;subst G;show#[p,q,B,z,h1,h2,F]
def jA(f:Int->Int->Bool)(g:List Nat->List Nat->Bool):R2:=λx y H Q=>(∃i j,x=.int i/\y=.int j/\Q (.bl (f i j)) H)\/∃i j,x=.str i/\y=.str j/\Q (.bl (g i.cps.toList j.cps.toList)) H
def Jd{g:List Nat->List Nat->Bool}(rule:∀(i j:Str)(t u:Tok)(s:Shared)(Q:zi)(E:zi),Q (.bool (g i.cps.toList j.cps.toList)) s->wpAny (model X.prog X.w) X.A (compareOp G (.str i t) (.str j u)) Q E s):
  OpR X (compareOp G) (λx y H Q=>∃i j,x=.str i/\y=.str j/\Q (.bl (g i.cps.toList j.cps.toList)) H):=by
 intro zF s Z H x y v u Q I F B h;let#[i,j,rfl,rfl,q]:=h;let#[t,rfl]:=F;let#[z,rfl]:=B;show rule i j t z s _ _ #[.bl _,H,I,rfl,q]
def OZ:OpR X (compareOp .Lt) (jA (λi j=>decide (i<j)) λl m=>decide (l<m)):=FL.OpR.or Oj (Jd (g:=λl m=>decide (l<m)) λ_ _ _ _ _ _ _ q=>PyProof.Rows.lt_str q)
def HF:OpR X (compareOp .Gt) (jA (λi j=>decide (j<i)) λl m=>decide (m<l)):=FL.OpR.or NZ (Jd (g:=λl m=>decide (m<l)) λ_ _ _ _ _ _ _ q=>PySem.P.gt_str q)
def Pa:OpR X (compareOp .GtE) (jA (λi j=>decide (j<=i)) λl m=>!decide (l<m)):=FL.OpR.or Og (Jd (g:=λl m=>!decide (l<m)) λ_ _ _ _ _ _ _ q=>PySem.P.ge_str q)
def Jn(h:∀p q k,o p q=some k->(∃i j,p=.int i/\q=.int j/\k=f i j)\/∃l m,p=.str l/\q=.str m/\k=g l m):dF K (jA f g) o:=by
 intro H x y p q k Q z v e B;rcases h p q k e with⟨i,j,rfl,rfl,rfl⟩|⟨l,m,rfl,rfl,rfl⟩
 .cases z;cases v;show .inl #[i,j,rfl,rfl,B]
 .cases z with
  |str G L=>cases v with
   |str F J=>subst G F;show .inr #[_,_,rfl,rfl,B]
def Qj:dF K (jA (λi j=>decide (i<j)) λl m=>decide (l<m)) ak:=Jn λp q k e=>by
 unfold ak ae at e;split at e
 .show .inl #[_,_,rfl,rfl,(qf e).symm]
 .show .inr #[_,_,rfl,rfl,(qf e).symm]
 .cases e
def HL:dF K (jA (λi j=>decide (j<i)) λl m=>decide (m<l)) pV:=Jn λp q k e=>by
 unfold pV ae at e;split at e
 .show .inl #[_,_,rfl,rfl,(qf e).symm]
 .show .inr #[_,_,rfl,rfl,(qf e).symm]
 .cases e
def QU:dF K (jA (λi j=>decide (j<=i)) λl m=>!decide (l<m)) ao:=Jn λp q k e=>by
 unfold ao at e;split at e
 .show .inl #[_,_,rfl,rfl,(qf e).symm]
 .show .inr #[_,_,rfl,rfl,(qf e).symm]
 .cases e
end
section
open PySem.SeqAt
open Classical in
def tS(K:W.Frag)(neg:Bool):R2:=λx y H Q=>∃p l,aN K H x p/\(aN K H y (.lst l)\/aN K H y (.tup l))/\(∀d∈l,aO d p=false/\eG d<=30)/\Q (.bl (if neg then !decide (p∈l)else decide (p∈l))) H
def HS(I:Inv X zF Z H s)(rx:zv x v)(r1:aN X.K H x p)(q1:zD X.K H xs l)(w1:zC xs us)(hc:∀d∈l,aO d p=false/\eG d<=30)(hu:A.units+30<cLine):
  ∃e:Value->Bool,(∀y,y∈us.toArray->EqAt A s y v (e y))/\us.toArray.any e=(open Classical in decide (p∈l)):=by
 classical
 have item:∀{y:Value},y∈us->∃z d,zv z y/\aN X.K H z d/\d∈l:=λ{y} O=>by
  let#[j,hj,e]:=getElem_of_mem O;let#[z,hz,G]:=Fw (j:=j) w1 hj;let hl:j<l.length:=by rw[<-q1.len,w1.length];show hj
  let#[Y,M,B]:=q1.get (i:=j) (d:=l[j]) (by simp);rw[hz]at M;cases M;show#[z,l[j],?_,B,by simp];let:us.toArray[j]=y:=e;rw[<-this];show G
 show#[λy=>decide (∃z,zv z y/\aN X.K H z p),λy O=>?_,?_]
 .have h1:y∈us:=by simpa using O
  obtain⟨z,d,G,B,hd⟩:=item h1;let L:=hc d hd;let:=(Iy 30 (A:=A) L.2 I B r1 G rx L.1 hu).1;let e:decide (d=p)=decide (∃z,zv z y/\aN X.K H z p):=by
   by_cases h:d=p
   .subst h;rw[qQ rfl,qQ #[z,G,B]]
   .rw[qR h];show(qR ?_).symm;rintro⟨Y,F,J⟩;let:z=Y:=G.inj F;subst this;show h (aN.uniq I B J L.1)
  show EqAt A s y v (decide (∃z,zv z y/\aN X.K H z p));rw[<-e];show this
 .by_cases h:p∈l
  .rw[qQ h];let#[j,hj,e]:=getElem_of_mem h;let#[z,hz,B]:=q1.get (i:=j) (d:=l[j]) (by simp);let#[u,h2,ru]:=w1.get hz;rw[Array.any_eq_true'];show#[u,by simpa using qL h2,qQ #[z,ru,e▸B]]
  .rw[qR h];rw[Array.any_eq_false'];intro y O z;let#[Y,F,J]:=qT z;let#[z2,d,G,B,hd]:=item (y:=y) ↑O;let:z2=Y:=G.inj F;subst this;show h (aN.uniq I B J (hc d hd).1▸hd)
def Ox(hu:X.A.units+32<cLine):OpR X (compareOp .In) (tS X.K false):=by
 intro zF s Z H x y v u Q I Y O h;let#[p,l,r1,z,hc,hq]:=h;let F:X.A.in1.units+30<cLine:=by show X.A.units+1+30<cLine;lia
 rcases z with z|z
 .cases z with
  |lst e q=>cases O;let#[B,G,J,_]:=I.list e;let#[f,L,M]:=HS (A:=X.A.in1) I Y r1 q G hc F;show in_listAt f J.isList L #[.bl _,H,I,rfl,by rw[M];show hq]
 .cases z with
  |tup e q=>cases O;let#[B,G,J,_]:=I.tuple (bK.of e);let#[f,L,M]:=HS (A:=X.A.in1) I Y r1 q G hc F;show in_tupleAt f (show s.heap.IsTuple _ B.toArray from J) L #[.bl _,H,I,rfl,by rw[M];show hq]
def Ts(hu:X.A.units+32<cLine):OpR X (compareOp .NotIn) (tS X.K true):=by
 intro zF s Z H x y v u Q I Y O h;let#[p,l,r1,z,hc,hq]:=h;let F:X.A.in1.units+30<cLine:=by show X.A.units+1+30<cLine;lia
 rcases z with z|z
 .cases z with
  |lst e q=>cases O;let#[B,G,J,_]:=I.list e;let#[f,L,M]:=HS (A:=X.A.in1) I Y r1 q G hc F;show notIn_listAt f J.isList L #[.bl _,H,I,rfl,by rw[M];show hq]
 .cases z with
  |tup e q=>cases O;let#[B,G,J,_]:=I.tuple (bK.of e);let#[f,L,M]:=HS (A:=X.A.in1) I Y r1 q G hc F;show notIn_tupleAt f (show s.heap.IsTuple _ B.toArray from J) L #[.bl _,H,I,rfl,by rw[M];show hq]
end
section
variable{K:W.Frag}
def IF(z:xs.length=l.length)(h:atI l i=some d):∃j,ixN l.length i=some j/\l[j]?=some d/\∀x,xs[j]?=some x->L2.atI xs i=some x:=by
 unfold atI at h;cases q:ixN l.length i with
 |none=>rw[q]at h;cases h
 |some j=>
  rw[q]at h;show#[j,rfl,h,λx v=>?_];let e:L2.ixN xs.length i=some j:=by rw[z];show q
  unfold L2.atI;rw[e];show v
def zD.atI(r:zD K F xs l)(h:FL.atI l i=some d):∃x,L2.atI xs i=some x/\aN K F x d:=by let#[j,_,h1,h2]:=IF (xs:=xs) r.len h;let#[x,z,v]:=r.get h1;show#[x,h2 x z,v]
def zu.get{j:Nat}(r:zu K F H xs l fp)(h:l[j]?=some t):∃x B v z,xs[j]?=some x/\aJ K F H x t v/\fp=B++(v++z):=
 zu.ind (P:=λxs l fp=>∀j t,l[j]?=some t->∃x B v z,xs[j]?=some x/\aJ K F H x t v/\fp=B++(v++z)) (λ_ _ e=>by cases e) (λa _ G j t e=>by
  cases j with
  |zero=>cases e;show#[_,[],_,_,rfl,a,rfl]
  |succ j=>let#[x,B,v,z,h1,h2,rfl]:=G j t e;show#[x,_++B,v,z,h1,h2,(qp ..).symm]) r j t h
def Rel.item{j:Nat}(r:Rel K (U++[some (.lst l)]) (Z++[some (.ref a)]) F G H)(h:l[j]?=some t):∃xs x,H a=some (.lst xs)/\xs.length=l.length/\xs[j]?=some x/\Rel K (U++[some t]) (Z++[some x]) F G H:=by
 let#[fp,e,Y,ap]:=r.en;let#[B,f2,rfl,en,b]:=e.cut (Af r);cases b with
 |so M O=>
  cases O;cases M with
  |lst hD rl=>
   rename_i xs fl;let#[x,L,v,J,h1,h2,rfl]:=rl.get h;show#[xs,x,hD,rl.len,h1,r.fr,r.gr,B++(v++[]),en.app (.so h2 .nil),?_,λy hy=>ap y ?_]
   .let sub:List.Sublist (B++(v++[])) (B++(a::(L++(v++J))++[])):=by show List.Sublist.append (List.Sublist.refl _) ?_;simp;exact(List.Sublist.cons _ ((List.sublist_append_left v J).trans (List.sublist_append_right L _)))
    show sub.nodup Y
   .rcases qx.mp hy with z|z
    .show qj _ z
    .show qi _ ?_;simp only[qz]at z⊢;show qk _ (qi _ (qj _ z))
end
def RN{K:W.Frag}(e:bK K H c xs)(r:zD K F xs l)(h:atI l i=some d)(B:∀x,aN K F x d->Q x H):ab K (.ref c) (.int i) H Q:=by let#[x,z,v]:=r.atI h;show .inr (.inl #[c,xs,i,x,rfl,rfl,e,z,B x v])
def Qu{K:W.Frag}(e:bL K H c xs)(r:zD K F xs l)(h:atI l i=some d)(B:∀x,aN K F x d->Q x H):ab K (.ref c) (.int i) H Q:=by let#[x,z,v]:=r.atI h;show .inl #[c,xs,i,x,rfl,rfl,e,z,B x v]
def Qo(h:jE s q=some t):(∃l i d,s=.sh (.tup l)/\q=.int i/\atI l i=some d/\t=.sh d)\/(∃l i d,s=.sh (.lst l)/\q=.int i/\atI l i=some d/\t=.sh d)\/
  (∃l i c,s=.sh (.str l)/\q=.int i/\atI l i=some c/\t=.sh (.str [c]))\/∃l i,s=.lst l/\q=.int i/\atI l i=some t:=by
 show cps λ_ kk=>?_;rcases s with d|l|_|_
 .rcases d with _|_|_|l|l|l|_|_|_;case str|tup|lst=>
   rcases q with _|_|i|_|_|_|_|_|_;case int=>let#[d,e,e']:=qX.mp h;first|show kk (.inl ⟨_,_,d,rfl,rfl,e,e'.symm⟩)|show kk (.inr (.inl ⟨_,_,d,rfl,rfl,e,e'.symm⟩))|show kk (.inr (.inr (.inl ⟨_,_,d,rfl,rfl,e,e'.symm⟩)))
   all_goals cases h
  all_goals cases h
 .rcases q with _|_|i|_|_|_|_|_|_;case int=>exact kk (.inr (.inr (.inr #[_,_,rfl,rfl,h])))
  all_goals cases h
 all_goals cases h
def IS{K:W.Frag}(h:aJ K F H v (.sh d) fp):aN K F v d:=by cases h;assumption
def Mk{K:W.Frag}(h:aJ K F H v (.lst l) fp):∃a xs fq,v=.ref a/\H a=some (.lst xs)/\zu K F H xs l fq:=by
 cases h with
 |lst h1 h2=>show#[_,_,_,rfl,h1,h2]
def KO{K:W.Frag}(fr:zp F H)(r:aN K F v d)(L:aN K F2 u q)(Y:jE (.sh d) q=some t)(G:∀e x,t=.sh e->aN K F x e->Q x H):ab K v u H Q:=by
 rcases Qo Y with⟨l,i,e,B,rfl,O,rfl⟩|⟨l,i,e,B,rfl,O,rfl⟩|⟨l,i,c,B,rfl,ec,rfl⟩|⟨l,i,B,_⟩
 .injection B with B
  subst B;obtain rfl:=bC.int (H:=H) (.inl L);let#[a,xs,rfl,h1,M]:=bC.tup (H:=H) (.inl r);show RN (bK.of (fr _ _ h1)) M O λx J=>G _ x rfl J
 .injection B with B
  subst B;obtain rfl:=bC.int (H:=H) (.inl L);let#[a,xs,rfl,h1,M]:=bC.lst (H:=H) fr (.inl r);show Qu h1 M O λx J=>G _ x rfl J
 .injection B with B
  subst B;obtain rfl:=bC.int (H:=H) (.inl L);let#[x,rfl,h1,z]:=bC.str (H:=H) (.inl r);show .inr (.inr #[_,i,c,rfl,rfl,by rw[Gm h1];show z,by rw[h1];show ec,G _ _ rfl (.str rfl (by show 1<=_;decide))])
 .cases B
def LG(h:jE (.lst l) q=some t):∃i,q=.int i/\atI l i=some t:=by
 cases q with
 |int i=>show#[i,rfl,h]
 |_=>cases h
def AK(ha:FE X a wa)(hb:FE X b wb)(hs:kN b:=by intro _ _;rfl):FE X (.Subscript a b pos) (cX wa wb):=λpn xe hp=>by
 refine PE.imp (OE (OU (X:=wp X pn xe)) (ha pn xe hp) (hb pn xe hp) hs) λZ H Q q=>?_;refine(Fd (k:=λx y U2 Q E=>zo (view y U2) λq=>match x with
  |.v s=>zo (jE s q) λt=>Q (.v t) U2
  |.loc i=>match slot U2 i with
   |some s=>match jE s q with
    |some (.sh d)=>Q (.v (.sh d)) U2
    |_=>False
   |none=>False) q).mono λv H1 h1=>h1.mono λu H2 h2=>?_
 let#[F,G,U,x,y,P,PX,h5,Y,rx,ry,J,h6,hx]:=h2;let#[q,eq,J]:=Ap J;let B:Rel X.K (U++[zr x]) (Z++[some v]) F G H2:=by let:=Rel.swap (U1:=[zr x]) (Z1:=[some v]) (U2:=[zr y]) (Z2:=[some u]) Y rfl h5;show Rel.mid (U:=U) (Z:=Z) this Y
 let h4:Rel X.K (U++[zr y]) (Z++[some u]) F G H2:=h5.mid Y;let ru:=Av (U':=[]) (Z':=[]) h4 Y ry eq;let M:∀{d:D}{x:V},P (.v (.sh d)) U->aN X.K F x d->Q x H2:=λhP r=>h6 _ U _ F H2 hP (zp.refl F) ((B.drop Y).push r) trivial;cases x with
 |v s=>
  let#[t,L,hP]:=Ap J;let#[w,fp,e1,sr]:=B.at (i:=U.length) (s:=s) EX;rw[Y,getElem?_append_right (q5 _)]at e1;let e2:v=w:=↑e1
  subst e2;cases s with
  |sh d=>show KO B.fr (IS sr) ru L λe x z rx=>M (by rw[<-z];show hP) rx
  |lst l=>let#[i,rfl,L]:=LG L;obtain rfl:=bC.int (H:=H2) (.inl ru);let#[a,ys,fq,rfl,hD,rl]:=Mk sr;let#[j,_,hj,h3]:=IF rl.len L;let#[xs,x,h7,h9,O,r2]:=Rel.item B hj;rw[hD]at h7;cases h7;show .inl #[_,_,i,x,rfl,rfl,bL.of hD,h3 x O,h6 _ U _ F H2 hP (zp.refl F) r2 trivial]
  |_=>cases q<;>cases L
 |loc k=>
  dsimp only at J;cases qs:slot U k with
  |none=>rw[qs]at J;show J.elim
  |some s=>
   rw[qs]at J;dsimp only at J;split at J
   .rename_i d L;let#[w,fp,e1,sr]:=(B.drop Y).at qs;let h8:Z[k]?=some (some v):=rx;rw[h8]at e1;let e2:v=w:=by simpa using e1
    subst e2;cases s with
    |sh d'=>show KO B.fr (IS sr) ru L λe x z rx=>M (by injection z with z;rw[<-z];show J) rx
    |lst l=>let#[i,rfl,L]:=LG L;obtain rfl:=bC.int (H:=H2) (.inl ru);let#[a,ys,fq,rfl,hD,rl]:=Mk sr;let#[j,_,hj,h3]:=IF rl.len L;let#[x,fa,fi,fb,O,sx,_]:=rl.get hj;show .inl #[_,_,i,x,rfl,rfl,bL.of hD,h3 x O,M J (IS sx)]
    |_=>cases q<;>cases L
   .show J.elim
section
variable{K:W.Frag}{Z:St}
def zu.set:∀{xs:List V}{l:List S}{fp:List Addr}{m:Nat},zu K F H xs l fp->m<l.length->∃J M G,fp=J++(M++G)/\
  ∀{H':Hp}{v:V}{s:S}{fq:List Addr},(∀a∈J++G,H' a=H a)->aJ K F H' v s fq->zu K F H' (xs.set m v) (l.set m s) (J++(fq++G))
 |_,_,_,_,.nil,h=>by simp at h
 |_,_,_,0,.cons (fp:=fp) (fq:=fq) a b,h=>#[[],fp,fq,rfl,λL r=>by rw[nil_append];show .cons r (b.mono (zp.refl F) λc B=>L c B)]
 |_,_,_,m+1,.cons (fp:=fp) (fq:=fq) a b,h=>by let#[J,M,G,rfl,O]:=zu.set (m:=m) b ↑h;show#[fp++J,M,G,(qp ..).symm,λL r=>?_];rw[qp];show .cons (a.mono (zp.refl F) λc B=>L c (qj _ (qj _ B))) (O (λc B=>L c ((qx.mp B).elim (λz=>qj _ (qi _ z)) λz=>qi _ z)) r)
def GZ(h:Z[n]?=some (some v)):Z.set n (some v)=Z:=by
 apply ext_getElem?;intro j;by_cases z:n=j
 .subst z;rw[getElem?_set_self (qg.mp h).1,h]
 .rw[getElem?_set_ne z]
def Rel.setItem{D:Addr}(r:Rel K (U++[some s]) (Z++[some v]) F G H)(hs:slot U n=some (.lst l))(L:Z[n]?=some (some (.ref D)))(hm:m<l.length):
  ∃xs,H D=some (.lst xs)/\xs.length=l.length/\Rel K (U.set n (some (.lst (l.set m s)))) Z F G (upd H D (.lst (xs.set m v))):=by
 let hl:=Af r;let#[fp,e,nd,ap]:=r.en;let#[f1,f2,rfl,a,b]:=e.cut hl;let#[v',fa,fi,fb,e1,rfl,q,up]:=a.at hs;rw[L]at e1;let e2:V.ref D=v':=↑e1
 subst e2;cases q with
 |lst hD rl=>
  rename_i xs fl;cases b with
  |so sr nl=>
   cases nl;rename_i fs;let#[O,gi,M,rfl,h1]:=rl.set hm;show#[xs,hD,rl.len,?_];let#[n1,n2,h3]:=qw.mp nd;let#[na,B,h2]:=qw.mp n1;let#[ni,nb,B]:=qw.mp B;let#[nD,h8]:=qK.mp ni;let h7:D∉fa:=λz=>h2 D z D (qj _ qm) rfl;let h6:D∉fb:=λz=>B D qm D z rfl;let h4:D∉fs:=λz=>h3 D (qi _ (qj _ qm)) D ↑z rfl;let Y:=ap D (qj _ (qi _ (qj _ qm)));let ne:∀{l:List Addr},D∉l->∀x∈l,upd H D (.lst (xs.set m v)) x=H x:=λh x J=>Ao λz=>h (z▸J);let h5:D∉O++M:=λz=>nD ((qx.mp z).elim (λw=>qj _ w) λw=>qi _ (qi _ w));let new:aJ K F (upd H D (.lst (xs.set m v))) (.ref D) (.lst (l.set m s)) (D::(O++(fs++M))):=.lst Bc (h1 (ne h5) (sr.mono (zp.refl F) (ne h4)));let a2:=up (F':=F) (H':=upd H D (.lst (xs.set m v))) (o:=some (.lst (l.set m s))) (u:=some (.ref D)) (zp.refl F) (λx J=>Ao λz=>(qx.mp J).elim (λw=>h7 (z▸w)) λw=>h6 (z▸w)) (.so new .nil);rw[GZ L]at a2;let sub:∃l2,l2.Perm (fa++((D::(O++(gi++M)))++fb)++(fs++[]))/\List.Sublist (fa++((D::(O++(fs++M)))++[]++fb)) l2:=by
    show#[fa++((D::(O++(fs++(gi++M))))++[]++fb),?_,?_]
    .simp;show List.Perm.append_left _ (List.Perm.cons _ (List.Perm.append_left _ ?_));show qM.trans (by simp)
    simp_all
   let#[l2,p,sb]:=sub;show#[zp.updR r.fr Y.1,λx o w=>?_,_,a2,sb.nodup (p.nodup_iff.mpr nd),λx J=>ap x (p.mem_iff.mp (sb.subset J))];let J:x≠D:=λz=>by rw[z,Y.2]at w;cases w
   rw[Ao J];show r.gr x o w
end
theorem MI(ho:FE X o (zj j))(hi:FE X i wi)(he:FE X e we)(hs:swapsWithSole [.Subscript o i tpos] e pos.line X.env=pure false:=by rfl)(hw:swappedStores [.Subscript o i tpos] e X.env=pure none:=by rfl)
  (h1:(assignEach [.Subscript o i tpos] X.env).map (·.2)=[assign (.Subscript o i tpos) X.env]:=by rfl)
  (ha:∀v,assign (.Subscript o i tpos) X.env v=(do
   let ov<-holding [v] (eval o X.env)
   let iv<-holding [v,ov] (eval i X.env)
   standAt tpos
   holding [v,ov,iv] (setItem ov iv v)
   release [v,ov,iv] []):=by intro _;rfl):FS X ks (.Assign [.Subscript o i tpos] e pos) (fF j wi we):=λpn xe hp=>by
 show PS.imp (KD (X:=wp X pn xe) (he pn xe hp) (OL (X:=wp X pn xe) (ho pn xe hp) (hi pn xe hp) TX ha) hs hw h1) λD Z H q=>?_;let#[F,G,U,E,zH,hw,n,b,c,r,x]:=q;let x0:XC (wp X pn xe) (·=Z) F G E.ex:=x.mono (λZ2 z=>by rw[z];show KP.refl) (zp.refl F) (zp.refl G);show#[F,G,U,_,_,zH,hw,λr U1 v F1 H1 hk s1 r1 rv=>?_,x0];let l1:=Af r1;let#[G1,rel1,gg,back]:=r1.hide l1;show#[F1,G1,U1,_,_,rel1,hk,λy U2 o' F2 H2 hk2 s2 r2 rv2=>?_,x0.mono (λ_ z=>z) s1 gg];let l2:=Af r2;let#[G2,rel2,gg2,back2]:=r2.hide l2;show#[F2,G2,U2,_,_,rel2,hk2,λz U3 i' F3 H3 hk3 s3 r3 rv3=>?_,x0.mono (λ_ z=>z) (s1.trans s2) (gg.trans gg2)];let l3:=Af r3;let#[q,eq,hk3]:=Ap hk3;let#[#[t,U4],eg,hk4]:=Ap hk3
 --all three stand at the end
 let r4:=back (s2.trans s3) (back2 s3 r3);simp only[qp,qN,nil_append]at r4;let ri:=Av (U':=[zr y,zr r]) (Z':=[some o',some v]) r4 l3 rv3 eq;let r5:Rel X.K (U3++[zr r]) (Z++[some v]) F3 G H3:=Rel.mid (U:=U3) (Z:=Z) (Rel.mid (U:=U3) (Z:=Z) r4 l3) l3;let#[F4,s4,l4,r6]:=AD (U':=[]) (Z':=[]) r5 l3 rv eg;cases y with
 |v y0=>show hk4.elim
 |loc k=>
  cases q with
  |int m=>
   cases qs:slot U4 j with
   |none=>simp only[qs]at hk4
   |some sj=>
    cases sj with
    |lst l=>
     simp only[qs]at hk4;let#[rfl,hk4]:=hk4;let#[w,ew,hnx]:=Ap hk4;let hZ:Z[k]?=some (some o'):=rv2;let#[v',fp,e1,sr]:=r6.at (i:=k) (s:=.lst l) (by rw[HU (GL qs)];show qs);let hkl:k<Z.length:=(qg.mp hZ).1;rw[getElem?_append_left hkl,hZ]at e1;let e2:o'=v':=↑e1
     subst e2;let hw:w<l.length:=by
      unfold ixN at ew;split at ew
      .split at ew
       .let e:=qf ew;lia
       .cases ew
      .split at ew
       .let e:=qf ew;lia
       .cases ew
     cases sr with
     |lst hD rl=>rename_i a xs fl;let#[xs',hD',zI,r7]:=Rel.setItem r6 qs hZ hw;rw[hD]at hD';cases hD';cases ri;show#[a,xs,m,w,rfl,rfl,hD,by rw[zI];show ew,n _ Z F4 _ hnx KP.refl (s1.trans (s2.trans (s3.trans s4))) r7]
    |_=>simp[qs]at hk4
  |_=>show hk4.elim
def Gq(ho:FE X o (zj j))(he:FE X e we)
  (Y:attributeBase o "append" X.env (eval o X.env)=eval o X.env:=by rfl)
  (h3:((backTo cpos (starEach [e] X.env)).all (λx=>!x.1)&&(backToKw cpos (keywordEach [] X.env)).all (λx=>x.1.isSome)
   &&decide ([e].length+([]:List Keyword).length+(if([]:List Keyword).isEmpty then 0 else 1)<30))=true:=by rfl)
  (O:(apos.endLine==cpos.line)=true:=by rfl)(hs:starEach [e] X.env=[(false,eval e X.env)]:=by rfl):FE X (.Call (.Attribute o "append" apos) [e] [] cpos) (bX j we):=λpn xe hp=>by
 refine PE.imp (GA (X:=wp X pn xe) PySem.F.plainAttrs_list PySem.F.slot_list_append PySem.F.type_list_append Jx (ho pn xe hp) (Aa he Ac hs pn xe hp) Y h3 O hs rfl) λZ H Q q=>?_;let#[F,G,U,P,PX,h4,hw,h5,hx]:=q;let J:(match slot U j with
  |some (.lst _)=>we U (λr L=>zo (give r L) λp=>(match slot p.2 j with
   |some (.lst l)=>l.length<big/\P (.v (.sh .non)) (p.2.set j (some (.lst (l++[p.1]))))
   |_=>False)) PX
  |_=>False):=hw
 cases qs:slot U j with
 |none=>rw[qs]at J;show J.elim
 |some s0=>
  cases s0 with
  |lst l0=>
   rw[qs]at J;show#[F,G,U,λy M=>y=.loc j/\M=U,PX,h4,by unfold zj;rw[qs];show#[rfl,rfl],λy M o' F1 H1 B s1 r1 rv=>?_,hx];let#[rfl,rfl]:=B;let l1:=Af r1;let h1:Z[j]?=some (some o'):=rv;let r2:=r1.drop l1;let#[v',fp,e1,sr]:=r2.at qs;rw[h1]at e1;let e2:o'=v':=↑e1
   subst e2;cases sr with
   |lst hD rl=>
    rename_i a xs fl;show#[.inl #[rfl,_,bL.of hD],F1,G,M,λrs L=>match rs with|[r]=>(zo (give r L) λp=>match slot p.2 j with|some (.lst l)=>l.length<big/\P (.v (.sh .non)) (p.2.set j (some (.lst (l++[p.1]))))|_=>False)|_=>False,PX,r2,J,λrs L vs F2 H2 B s2 r3 hl z=>?_,hx.grow s1];match rs,vs,z,r3,B with
    |[r],[v],z,r3,B=>
     let#[#[t,h7],eg,B]:=Ap B;let#[F3,s3,l3,r4]:=AD (U':=[]) (Z':=[]) r3 hl z.1 eg;split at B
     .rename_i l ql;let#[ys,h6,h2,r5]:=Rel.append r4 ql h1;show#[a,ys,v,rfl,rfl,h6,by rw[h2];show lt_trans B.1 ⋯,h5 _ _ .non F3 _ B.2 (s1.trans (s2.trans s3)) (r5.push .non) trivial]
     .show B.elim
    |[],_,_,_,B=>show B.elim
    |[_],[],z,_,_=>show z.elim
    |[_],_::_::_,z,_,_=>show z.2.elim
    |_::_::_,_,_,_,B=>show B.elim
  |_=>rw[qs]at J;show J.elim
section
variable{K:W.Frag}
def iJ(K:W.Frag)(F H:Hp):List V->List D->Prop
 |[],[]=>True
 |v::vs,d::ds=>bC K F H v d/\iJ K F H vs ds
 |_,_=>False
def Be{b:List D->Option S}(h2:∀x y r,b (x::y::r)=none)(B:b []=none)(z:iJ K F H vs ds)(e:b ds=some s):∃d v,ds=[d]/\vs=[v]:=by
 cases ds with
 |nil=>rw[B]at e;cases e
 |cons x ds=>
  cases ds with
  |cons y r=>rw[h2]at e;cases e
  |nil=>
   cases vs with
   |nil=>show z.elim
   |cons v vs=>
    cases vs with
    |nil=>show#[x,v,rfl,rfl]
    |cons u vs=>show z.2.elim
def BN:∀{rs:List R}{vs:List V}{ds:List D}{U U':Env}{F:Hp}{Z':St},Rel K (U++(rs.map zr++U')) (Z++(vs.map some++Z')) F G H->U.length=Z.length->nE Z vs rs->(rs.mapM λr=>zB r U)=some ds->
  ∃F',zp F F'/\iJ K F' H vs ds/\Rel K (U++U') (Z++Z') F' G H
 |[],[],ds,U,U',F,Z',r,h,_,e=>by
  let B:ds=[]:=↑e.symm
  subst B;show#[F,zp.refl F,trivial,r]
 |[],_::_,_,_,_,_,_,_,_,h,_=>h.elim
 |_::_,[],_,_,_,_,_,_,_,h,_=>h.elim
 |x::rs,v::vs,ds,U,U',F,Z',r,h,rv,e=>by
  rw[List.mapM_cons]at e;cases q:zB x U with
  |none=>rw[q]at e;cases e
  |some d=>
   rw[q]at e;cases z:(rs.mapM λr=>zB r U)with
   |none=>rw[z]at e;cases e
   |some es=>rw[z]at e;let B:d::es=ds:=qf e;subst B;let#[F1,L,M,Y]:=Ba (U':=rs.map zr++U') (Z':=vs.map some++Z') r h rv.1 q;let#[F2,J,res,O]:=BN (rs:=rs) (vs:=vs) Y h rv.2 z;show#[F2,L.trans J,#[M.mono J,res],O]
def cM(K:W.Frag)(r:List V->Hp->VK->Prop)(f:List D->Option S):Prop:=∀(Z:St)(U:Env)(F G H:Hp)(vs:List V)(ds:List D)(s:S)(Q:VK),Rel K U Z F G H->iJ K F H vs ds->f ds=some s->
 (∀v F' H',zp F F'->Rel K (U++[some s]) (Z++[some v]) F' G H'->Q v H')->r vs H Q
end
section
variable{id T:String}
def LZ(hd:cM X.K r f)(Z:St)(H:Hp)(Q:VK)(q:tW (wp X pn xe) (wB f wa) Z H Q):bz r (sU (wp X pn xe) wa) Z H Q:=by show(many (k:=λO z Q E=>zo (O.mapM λr=>zB r z) λM=>zo (f M) λs=>Q (.v s) z) q).mono λY H1 h1=>?_;let#[F,G,U,O,P,PX,J,hl,rv,B,L,hx]:=h1;let#[M,ed,B]:=Ap B;let#[s,es,B]:=Ap B;let#[F1,s1,re,r1]:=BN (U':=[]) (Z':=[]) ↑J hl rv ed;show hd Z U F1 G H1 Y M s Q ↑r1 re es λv F' H' sm r'=>L _ U v F' H' B (s1.trans sm) r' trivial
def GX(O:∀pn xe,aR (wp X pn xe) (.builtin id) r)(M:cM X.K r f)(J:Gl X x)(G:X.mg x=none)(B:bootBuiltins x=some (.builtin id))(Y:FA X (e::es) wa)(hn:x≠"__name__":=by decide)(z:(x==("__debug__":Str))=false:=by decide)
  (L:starEach (e::es) X.env=(false,eval e X.env)::starEach es X.env:=by rfl)(v:(backTo pos (starEach es X.env)).any (·.1)=false:=by rfl):FE X (.Call (.Name x p) (e::es) [] pos) (wB f wa):=λpn xe F=>
 PE.imp (Rr (X:=wp X pn xe) (O pn xe) J G B (Y pn xe F) hn z L v) (LZ M)
def Ij(O:∀pn xe,aR (wp X pn xe) (.type T) r)(M:cM X.K r f)(J:Gl X x)(G:X.mg x=none)(B:bootBuiltins x=some (.type T))(Y:FA X (e::es) wa)(hn:x≠"__name__":=by decide)(z:(x==("__debug__":Str))=false:=by decide)
  (L:starEach (e::es) X.env=(false,eval e X.env)::starEach es X.env:=by rfl)(v:(backTo pos (starEach es X.env)).any (·.1)=false:=by rfl):FE X (.Call (.Name x p) (e::es) [] pos) (wB f wa):=λpn xe F=>
 PE.imp (Nk (X:=wp X pn xe) (O pn xe) J G B (Y pn xe F) hn z L v) (LZ M)
def tQ(K:W.Frag):List V->Hp->VK->Prop:=λxs H Q=>(∃p ys,xs=[.ref p]/\(bL K H p ys\/bK K H p ys)/\Q (.int ys.length) H)\/∃z,xs=[.str z]/\z.length<=sizeLine/\Q (.int z.length) H
def aR.or'{f:Value}(h:aR X f r)(h':aR X f B):aR X f (λx H Q=>r x H Q\/B x H Q):=λzF s Z H xs v Q I z q=>q.elim (h zF s Z H xs v Q I z) (h' zF s Z H xs v Q I z)
def Nh:aR X (.builtin "len") (tQ X.K):=aR.or' VZ VW
def MF{K:W.Frag}:cM K (tQ K) cN:=by
 intro Z U F G H Y ds s Q B J e M;let#[d,v,rfl,rfl]:=Be (λx y r=>by cases x<;>rfl) rfl J e;cases d with
 |str l=>cases e;let#[x,rfl,O,z]:=J.1.str;show .inr #[x,rfl,by rw[Gm O];show z,by rw[Gm O];show M _ F H (zp.refl F) (B.push (.int _))]
 |tup l=>cases e;let#[a,xs,rfl,h1,L]:=J.1.tup;show .inl #[a,xs,rfl,.inr (bK.of (B.fr _ _ h1)),by rw[L.len];show M _ F H (zp.refl F) (B.push (.int _))]
 |lst l=>cases e;let#[a,xs,rfl,h1,L]:=J.1.lst B.fr;show .inl #[a,xs,rfl,.inl h1,by rw[L.len];show M _ F H (zp.refl F) (B.push (.int _))]
 |_=>cases e
def CB(B:Gl X "len")(z:X.mg "len"=none)(G:FA X (e::es) wa)(F:starEach (e::es) X.env=(false,eval e X.env)::starEach es X.env:=by rfl)(v:(backTo pos (starEach es X.env)).any (·.1)=false:=by rfl):FE X (.Call (.Name "len" p) (e::es) [] pos) (wB cN wa):=
 GX (λ_ _=>Nh) MF B z PySem.boot_len G ⋯ ⋯ F v
end
section
variable{K:W.Frag}
def cz:List V->Hp->VK->Prop:=λxs H Q=>(∃i,xs=[.int i]/\Q (.int i) H)\/∃k,xs=[.bl k]/\Q (.int (if k then 1 else 0)) H
def bC.bl(h:bC K F H v (.bl b)):v=.bl b:=by
 rcases h with h|⟨_,_,_,_,h,_⟩|⟨_,_,_,_,_,h,_⟩|⟨_,_,_,_,_,h,_⟩
 .cases h;rfl
 .cases h
 .cases h
 .cases h
def Uj:cM K cz jH:=by
 intro Z U F G H L M s Q z B e J;let#[d,v,rfl,rfl]:=Be (λx y r=>by cases x<;>rfl) rfl B e;cases d with
 |int i=>cases e;let:=B.1.int;subst this;show .inl #[i,rfl,J _ F H (zp.refl F) (z.push (.int _))]
 |bl b=>cases e;let:=B.1.bl;subst this;show .inr #[b,rfl,J _ F H (zp.refl F) (z.push (.int _))]
 |_=>cases e
def HN(F:Gl X "int")(B:X.mg "int"=none)(z:bootBuiltins "int"=some (.type "int"))(J:FA X (e::es) wa)(G:starEach (e::es) X.env=(false,eval e X.env)::starEach es X.env:=by rfl)(v:(backTo pos (starEach es X.env)).any (·.1)=false:=by rfl):FE X (.Call (.Name "int" p) (e::es) [] pos) (wB jH wa):=
 Ij (λ_ _=>UB) Uj F B z J ⋯ ⋯ G v
def tL(K:W.Frag):List V->Hp->VK->Prop:=λxs H Q=>∃p ys,xs=[.ref p]/\((bL K H p ys/\∀l,H l=none->Q (.ref l) (upd H l (.tup ys)))\/(bK K H p ys/\Q (.ref p) H))
def Vr:cM K (tL K) bU:=by
 intro Z U F G H Y ds s Q z B e M;let#[d,v,rfl,rfl]:=Be (λx y r=>by cases x<;>rfl) rfl B e;cases d with
 |tup l=>cases e;let#[a,xs,rfl,h1,J]:=B.1.tup;show#[a,xs,rfl,.inr #[bK.of (z.fr _ _ h1),M _ F H (zp.refl F) (z.push (.tup h1 J))]]
 |lst l=>cases e;let#[a,xs,rfl,h1,J]:=B.1.lst z.fr;show#[a,xs,rfl,.inl #[h1,λp O=>?_]];let L:=(z.free O).1;show M _ _ _ (zp.upd L) ((z.newF O).push (.tup Bc (J.mono (zp.upd L))))
 |_=>cases e
def Es(F:Gl X "tuple")(B:X.mg "tuple"=none)(z:bootBuiltins "tuple"=some (.type "tuple"))(J:FA X (e::es) wa)(G:starEach (e::es) X.env=(false,eval e X.env)::starEach es X.env:=by rfl)(v:(backTo pos (starEach es X.env)).any (·.1)=false:=by rfl):FE X (.Call (.Name "tuple" p) (e::es) [] pos) (wB bU wa):=
 Ij (λ_ _=>VR) Vr F B z J ⋯ ⋯ G v
def rF(K:W.Frag):List V->Hp->VK->Prop:=λxs H Q=>∃p ys,xs=[.ref p]/\(bL K H p ys\/bK K H p ys)/\∀l,H l=none->Q (.ref l) (upd H l (.lst ys))
def Mx:cM K (rF K) yL:=by
 intro Z U F G H O Y s Q z B e M;let#[d,v,rfl,rfl]:=Be (λx y r=>by cases x<;>rfl) rfl B e;cases d with
 |tup l=>cases e;let#[a,xs,rfl,h1,J]:=B.1.tup;show#[a,xs,rfl,.inr (bK.of (z.fr _ _ h1)),λp L=>M _ F _ (zp.refl F) (z.newLD L J)]
 |lst l=>cases e;let#[a,xs,rfl,h1,J]:=B.1.lst z.fr;show#[a,xs,rfl,.inl h1,λp L=>M _ F _ (zp.refl F) (z.newLD L J)]
 |_=>cases e
end
def EB(h:aG a=aG b):a=b:=by
 cases a with
 |inl i=>cases b with
  |inl j=>have h':D.int i=D.int j:=h;cases h';rfl
  |inr y=>have h':D.int i=D.str y.cps.toList:=h;cases h'
 |inr x=>cases b with
  |inl j=>have h':D.str x.cps.toList=D.int j:=h;cases h'
  |inr y=>have h':D.str x.cps.toList=D.str y.cps.toList:=h;let#[#[a]]:=x;first|rfl|assumption|(simp_all;done)
def Gp:∀{a b:List aL},a.map aG=b.map aG->a=b
 |[],[],_=>rfl
 |[],_::_,h=>by simp at h
 |_::_,[],h=>by simp at h
 |x::a,y::b,h=>by
  injection h with h1 h2
  rw[EB h1,Gp h2]
section
variable{K:W.Frag}
def Fs(r:aN K H x d)(h:bQ d=true):∃k:aL,x=kV k/\d=aG k:=by
 cases r with
 |int i=>show#[.inl i,rfl,rfl]
 |str e z=>show#[.inr _,rfl,by rw[<-e];rfl]
 |_=>cases h
def Ft(r:zD K H xs l):l.all bQ=true->∃ks:List aL,xs=ks.map kV/\l=ks.map aG:=
 zD.ind (P:=λxs l=>l.all bQ=true->∃ks:List aL,xs=ks.map kV/\l=ks.map aG) (λ_=>#[[],rfl,rfl]) (λa _ v h=>by rw[all_cons,and_eq_true]at h;let#[k,rfl,rfl]:=Fs a h.1;let#[ks,rfl,rfl]:=v h.2;show#[k::ks,rfl,rfl]) r
open Classical in
def Jt{κ:Type}[DecidableEq κ](g:κ->D)(v:∀a b,g a=g b->a=b):∀(zG:List (κ×V))(k:κ),(cS zG k).isSome=decide (g k∈zG.map λp=>g p.1)
 |[],k=>by simp[cS]
 |p::r,k=>by
  by_cases e:p.1=k
  .rw[Gi e];let:g k∈(p::r).map λp=>g p.1:=by rw[qy,e];exact qm
   show(qQ this).symm
  .rw[Ge e,Jt g v r k];let:(g k∈(p::r).map λp=>g p.1)↔(g k∈r.map λp=>g p.1):=by rw[qy,qA];exact#[λz=>z.elim (λw=>absurd (v _ _ w).symm e) id,.inr]
   show(decide_eq_decide.2 this).symm
open Classical in
def GQ{κ:Type}[DecidableEq κ](g:κ->D)(F:∀a b,g a=g b->a=b){α:Type}:∀(zG:List (κ×V))(vs:List α)(k:κ)(P:V->α->Prop),zG.length=vs.length->(∀(i:Nat) x y,(zG.map (·.2))[i]?=some x->vs[i]?=some y->P x y)->
  (lk (zG.map λp=>g p.1) vs (g k)=none/\cS zG k=none)\/∃x y,cS zG k=some x/\lk (zG.map λp=>g p.1) vs (g k)=some y/\P x y
 |[],[],k,P,_,_=>.inl #[rfl,rfl]
 |[],_::_,_,_,h,_=>by simp at h
 |_::_,[],_,_,h,_=>by simp at h
 |p::r,v::vs,k,P,hl,h=>by
  by_cases e:p.1=k
  .show .inr #[p.2,v,Gi e,?_,h 0 p.2 v rfl rfl];show(if g p.1=g k then some v else lk (r.map λp=>g p.1) vs (g k))=some v;rw[qZ (by rw[e])]
  .let B:¬g p.1=g k:=λz=>e (F _ _ z);rw[Ge e];let G:lk ((p::r).map λp=>g p.1) (v::vs) (g k)=lk (r.map λp=>g p.1) vs (g k):=by show(if g p.1=g k then some v else lk (r.map λp=>g p.1) vs (g k))=_;rw[q4 B]
   rw[G];show GQ g F r vs k P ↑hl λi x y h1 h2=>h (i+1) x y ↑h1 ↑h2
def QC(O:aN K H x d)(r2:aN K H (.ref a) (.dct t ks vs))(M:aV t d=true):∃o,fV H a x o/\o.isSome=(open Classical in decide (d∈ks))/\
  ((lk ks vs d=none/\o=none)\/∃v e,o=some v/\lk ks vs d=some e/\aN K H v e):=by
 cases r2 with
 |dK e k r=>
  rename_i B;let#[J,rfl,rfl]:=Fs O M;show#[_,.inl #[B,J,e,rfl,rfl],?_,?_]
  .rw[k];show Jt aG (λ_ _=>EB) B J
  .rw[k];rcases GQ aG (λ_ _=>EB) B vs J (λv e=>aN K H v e) (by let:=r.len;simpa using this) (λi x y h1 h2=>by let#[Y,G,L]:=r.get h2;rw[h1]at G;cases G;show L)with⟨h1,h2⟩|⟨v,e,h1,h2,h3⟩
   .show .inl #[h1,h2]
   .show .inr #[v,e,h1,h2,h3]
 |dT e k r=>
  rename_i B;cases O with
  |tup e1 q=>
   let#[F,rfl,rfl]:=Ft q M;let inj:∀a b:List aL,D.tup (a.map aG)=D.tup (b.map aG)->a=b:=λa b z=>Gp (D.tup.inj z);show#[_,.inr #[B,F,_,e,rfl,e1,rfl],?_,?_]
   .rw[k];show Jt (λl=>D.tup (l.map aG)) inj B F
   .rw[k];rcases GQ (λl=>D.tup (l.map aG)) inj B vs F (λv e=>aN K H v e) (by let:=r.len;simpa using this) (λi x y h1 h2=>by let#[Y,G,L]:=r.get h2;rw[h1]at G;cases G;show L)with⟨h1,h2⟩|⟨v,e,h1,h2,h3⟩
    .show .inl #[h1,h2]
    .show .inr #[v,e,h1,h2,h3]
  |_=>cases M
def gR(neg:Bool):R2:=λx y H Q=>∃a o,y=.ref a/\fV H a x o/\Q (.bl (if neg then !o.isSome else o.isSome)) H
def Ux(F:X.A.units+1<cLine):OpR X (compareOp .In) (gR false):=by intro zF s Z H x y v u Q I B z h;let#[a,o,rfl,g,q]:=h;cases z;show Kg F I g B λs' G=>#[.bl _,H,G,rfl,q]
def VY(F:X.A.units+1<cLine):OpR X (compareOp .NotIn) (gR true):=by intro zF s Z H x y v u Q I B z h;let#[a,o,rfl,g,q]:=h;cases z;show QB F I g B λs' G=>#[.bl _,H,G,rfl,q]
def gT(K:W.Frag)(neg:Bool):R2:=λx y H Q=>tS K neg x y H Q\/gR neg x y H Q
def SI(v:X.A.units+32<cLine):OpR X (compareOp .In) (gT X.K false):=FL.OpR.or (Ox v) (Ux ∅)
def Vz(v:X.A.units+32<cLine):OpR X (compareOp .NotIn) (gT X.K true):=FL.OpR.or (Ts v) (VY ∅)
open Classical in
def QM(B:aN K H x p)(z:aN K H y q)(e:pU p q=some k)(F:Q (.bl (if neg then !k else k)) H):gT K neg x y H Q:=by
 unfold pU at e;split at e
 .rename_i l;split at e
  .cases e
  .rename_i h;let v:=qf e;subst v;show .inl #[p,l,B,.inl z,λd J=>?_,F];grind
 .rename_i l;split at e
  .cases e
  .rename_i h;let v:=qf e;subst v;show .inl #[p,l,B,.inr z,λd J=>?_,F];grind
 .rename_i t ks L;split at e
  .rename_i h;let v:=qf e;cases y with
   |ref a=>let#[o,g,G,_]:=QC B z h;show .inr #[a,o,rfl,g,?_];rw[G,v];show F
   |_=>cases z
  .cases e
 .cases e
end
open PySem.Builtin.Str (strSliceIndices)
def HR(n d:Nat)(o:Option Int):HT.sIx n d o=FL.sIx n d o:=by cases o<;>rfl
def Le(n d:Nat)(v:d<=n)(o:Option Int):FL.sIx n d o<=n:=by rw[<-HR];show HT.sIx_le n d v o
def vM(z:Str)(lo hi:Option Int):Str:=#[(cK z.cps.toList lo hi).toArray]
def UZ(lo hi:Option Int)(n:Nat):strSliceIndices lo hi 1 n=(List.range (FL.sIx n n hi-FL.sIx n 0 lo)).map (FL.sIx n 0 lo+·):=by rw[<-sliceRange_one];unfold strSliceIndices;cases lo<;>cases hi<;>simp only[if_true,FL.sIx,Fo]<;>rfl
def Tt(x:Str)(lo hi:Option Int):Txt.slice x lo hi=vM x lo hi:=by
 let v:x.length=x.cps.toList.length:=by show x.cps.size=_;rw[qU]
 unfold Txt.slice vM cK;rw[UZ,pick_run,<-v];split
 .rename_i h;simp at h;let h1:=Le x.length x.length (q5 _) hi;let h2:FL.sIx x.length 0 lo=0\/x.length=0:=by lia
  let B:FL.sIx x.length 0 lo=0:=h2.elim id λz=>by let:=Le x.length 0 (zero_le _) lo;lia
  rw[h,B,drop_zero,take_of_length_le (by rw[v];show q5 _)]
 .rfl
def xE:V->Option Int->Option Int->Hp->VK->Prop:=λx lo hi H Q=>∃z,x=.str z/\z.length<=sizeLine/\Q (.str (vM z lo hi)) H
def LI(p:IsPart v o):∃l:Option (Int×Tok),v=partValue l/\o=l.map (·.1):=by
 cases p with
 |none=>show#[none,rfl,rfl]
 |int i t=>show#[some (i,t),rfl,rfl]
def Pb:kW X xE:=by
 intro zF s Z H x v Y O lo hi sl Q I B M J G h;let#[z,rfl,L,q]:=h;let#[t,rfl]:=B;let#[l,rfl,rfl]:=LI J;let#[u,rfl,rfl]:=LI G;rw[<-Tt]at q;exact⟨"str",_,F.slot_str_getitem.lookup,typeIs_str _ _ _,wpAny_getItem_str_slice (l:=l) (u:=u) (st:=none) M rfl
  (post_val_or_str #[le_trans (Txt.slice_le z _ _) L,λt' k=>#[.str (Txt.slice z (l.map (·.1)) (u.map (·.1))),H,I.tok _,#[_,rfl],q]])⟩
def xC(K:W.Frag):V->Option Int->Option Int->Hp->VK->Prop:=λx lo hi H Q=>∃a xs,x=.ref a/\bK K H a xs/\
 (HT.sIx xs.length 0 lo=0/\HT.sIx xs.length xs.length hi=xs.length)/\Q (.ref a) H
def Wh{items:Array Value}{lo hi:Option Int}(z:IsTup s.heap t items)(hs:s.heap.IsSliceOf J O M .none)(pl:IsPart O lo)(Y:IsPart M hi)
  (L:HT.sIx items.size 0 lo=0/\HT.sIx items.size items.size hi=items.size)(h:Q (.ref t) s):wpAny (model prog w) A (getItem (.ref t) (.ref J)) Q E s:=by
 let#[os,B,F,h1]:=id hs;let G:s.TypeIs (.ref J) "slice":=#[os,B,F]
 unfold getItem;try with_reducible show zf ?_
 first|show qa (qb ?_)|skip
 refine qa (wpAny_sequenceKey z.typeIs ⋯ ?_);refine qa (wpAny_callSpecial?_slot (name:=Str.ofString "__getitem__") z.typeIs PyProof.Rows.slot_tuple_getitem
  (zd PyProof.Rows.slot_tuple_getitem z.typeIs entry_tuple_getitem ?_ (args_tuple_getitem _ _)))
 show wpAny _ _ (Builtin.Tuple.tupleItemsOf (.ref t)>>=_) _ _ s;show qa (tupleItemsOf_ z ?_);show qa (wpAny_typeOf G ?_);show qa (HT.sliceApplied_gen hs pl Y ?_);let v:(((HT.sIx items.size 0 lo:Nat):Int)==0&&(1:Int)==1&&(HT.sIx items.size items.size hi-HT.sIx items.size 0 lo)==items.size)=true:=by rw[L.1,L.2];simp
 show wpAny _ _ (if(((HT.sIx items.size 0 lo:Nat):Int)==0&&(1:Int)==1&&(HT.sIx items.size items.size hi-HT.sIx items.size 0 lo)==items.size)=true then _ else _) _ _ s;rw[qZ v];show qa (qa (wpAny_typeOf z.typeIs (qb ?_)));first
  |show qa (wpAny_rule (qb ⟨_,rfl,qb h⟩))
  |show qa (qb (qb ⟨_,rfl,qb h⟩))
  |show qb ⟨_,rfl,qb h⟩
def TY:kW X (xC X.K):=by
 intro zF s Z H x v vl vu lo hi sl Q I G Y L J h;let#[a,xs,rfl,M,O,q]:=h;cases G;let#[B,r,F,hz]:=I.tuple M;let z:B.toArray.size=xs.length:=by rw[qr];show r.length.symm
 show#["tuple",_,PyProof.Rows.slot_tuple_getitem.lookup,F.typeIs,?_];show Wh F Y L J (by rw[z];show O) #[.ref a,H,I,rfl,q]
section
variable{K:W.Frag}
def zD.drop:∀{xs:List V}{l:List D}(n:Nat),zD K F xs l->zD K F (xs.drop n) (l.drop n)
 |_,_,0,r=>by rw[drop_zero];show r
 |_,_,n+1,.nil=>by rw[List.drop_nil];show .nil
 |_,_,n+1,.cons a b=>by rw[List.drop_succ_cons];show zD.drop n b
def zD.take:∀{xs:List V}{l:List D}(n:Nat),zD K F xs l->zD K F (xs.take n) (l.take n)
 |_,_,0,r=>by rw[List.take_zero];show .nil
 |_,_,n+1,.nil=>by rw[List.take_nil];show .nil
 |_,_,n+1,.cons a b=>by rw[List.take_succ_cons];show .cons a (zD.take n b)
def zD.cut{lo hi:Option Int}(r:zD K F xs l):zD K F (iH xs lo hi) (cK l lo hi):=by unfold iH cK;rw[HR,r.len];show(r.drop _).take _
def cx(K:W.Frag):V->Option Int->Option Int->Hp->VK->Prop:=λx lo hi H Q=>xF K x lo hi H Q\/xD K x lo hi H Q\/xC K x lo hi H Q\/xE x lo hi H Q
def IK:kW X (cx X.K):=kW.or QX (kW.or OG (kW.or TY Pb))
def Qp{lo hi:Option Int}(z:Rel K U Z F G H)(O:bC K F H v d)(e:iY d lo hi=some s)
  (L:∀v F' H',zp F F'->Rel K (U++[some s]) (Z++[some v]) F' G H'->Q v H'):cx K v lo hi H Q:=by
 cases d with
 |str l=>
  cases e;let#[x,rfl,h1,h2]:=O.str;subst h1;show .inr (.inr (.inr #[x,rfl,?_,L _ F H (zp.refl F) (z.push (.str rfl ?_))]))
  .let:x.length=x.cps.toList.length:=by show x.cps.size=_;rw[qU]
   rw[this];show h2
  .show le_trans ?_ h2;unfold cK;rw[qG,qF];lia
 |tup l=>
  cases e;let#[a,xs,rfl,h1,B]:=O.tup;by_cases J:HT.sIx xs.length 0 lo=0/\HT.sIx xs.length xs.length hi=xs.length
  .show .inr (.inr (.inl #[a,xs,rfl,bK.of (z.fr _ _ h1),J,L _ F H (zp.refl F) (z.push ?_)]));let:cK l lo hi=l:=by unfold cK;rw[<-B.len,<-HR,<-HR,J.1,J.2,drop_zero,take_of_length_le (by rw[<-B.len];lia)]
   rw[this];show .tup h1 B
  .show .inr (.inl #[a,xs,rfl,bK.of (z.fr _ _ h1),J,λp M=>?_]);let Y:=(z.free M).1;show L _ _ _ (zp.upd Y) ((z.newF M).push (.tup Bc (B.cut.mono (zp.upd Y))))
 |lst l=>cases e;let#[a,xs,rfl,h1,B]:=O.lst z.fr;show .inl #[a,xs,rfl,h1,λp M=>L _ F _ (zp.refl F) (z.newLD M B.cut)]
 |_=>cases e
end
theorem nextOf(r1:Rel X.K (U1++[zr x]) (Z++[some v]) F G H1)(M:RV Z v x)(Y:wb U1 (λy U2=>k x y U2 P PX) PX)
  (h3:∀r U' v F' H',P r U'->zp F F'->Rel X.K (U'++[zr r]) (Z++[some v]) F' G H'->RV Z v r->Q v H')(hx:XC X (·=Z) F G PX):tW X wb Z H1 λu H2=>rS X Z k Q v u H2:=by
 let h1:=Af r1;let#[G1,B,gg,back]:=r1.hide h1;show#[F,G1,U1,_,PX,B,Y,λy U2 u F2 H2 O J r2 L=>?_,hx.mono (λ_ z=>z) (zp.refl F) gg];let h2:=Af r2;let r3:=back J r2;rw[qp,qp]at r3;show#[F2,G,U2,x,y,P,PX,Rel.swap (U1:=[zr y]) (Z1:=[some u]) (U2:=[zr x]) (Z2:=[some v]) h2 rfl r3,h2,M,L,O,λr U' v F' H' a b c d=>h3 r U' v F' H' a (J.trans b) c d,hx.grow J]
def AE{U:Env}{o:Option D}{k:Int->Prop}(h:(match o with|some (.int i)=>k i|_=>False)):∃i,o=some (.int i)/\k i:=by
 split at h
 .show#[_,rfl,h]
 .show h.elim
def IG{K:W.Frag}{U:Env}{Z:St}{F G H:Hp}{x y:R}{v u:V}{lo hi:Option Int}{P:WQ}{Q:VK}{q:D}(J:Rel K (U++[zr x,zr y]) (Z++[some v,some u]) F G H)(M:U.length=Z.length)(rx:RV Z v x)
  (B:zo (zB x U) λd=>zo (iY d lo hi) λs=>P (.v s) U)
  (L:∀r U' v F' H',P r U'->zp F F'->Rel K (U'++[zr r]) (Z++[some v]) F' G H'->RV Z v r->Q v H'):cx K v lo hi H Q:=by
 let#[d,ed,B]:=Ap B;let#[s,es,B]:=Ap B;let z:Rel K (U++[zr x]) (Z++[some v]) F G H:=by let:=Rel.swap (U1:=[zr x]) (Z1:=[some v]) (U2:=[zr y]) (Z2:=[some u]) M rfl J;show Rel.mid (U:=U) (Z:=Z) this M
 let#[F1,Y,re,r1]:=Ba (U':=[]) (Z':=[]) z M rx ed;show Qp (U:=U) (Z:=Z) ↑r1 re es λv F' H' O r'=>L _ U v F' H' B (Y.trans O) r' trivial
def OQ(ha:FE X a wa)(hb:FE X b wb):FE X (.Subscript a (.Slice (some b) none none p2) pos) (rB wa (some wb) none):=λpn xe O=>by
 refine PE.imp (Jl (IK (X:=wp X pn xe)) (ha pn xe O) (HZ (hb pn xe O)) Ms) λZ H Q q=>?_;refine(Fd (k:=λx y z Q E=>match view y z with
  |some (.int i)=>zo (zB x z) λd=>zo (iY d (some i) none) λs=>Q (.v s) z
  |_=>False) q).mono λv H1 h1=>h1.mono λu H2 h2=>?_
 let#[F,G,U,x,y,P,PX,B,L,rx,Y,M,J,hx]:=h2;let#[i,ei,M]:=AE (U:=U) (k:=λi=>zo (zB x U) λd=>zo (iY d (some i) none) λs=>P (.v s) U) M;let ru:=Av (U':=[]) (Z':=[]) (B.mid L) L Y ei;cases ru;show#[i,rfl,IG (q:=.non) B L rx M J]
def Kv(ha:FE X a wa)(hb:FE X b wb):FE X (.Subscript a (.Slice none (some b) none p2) pos) (rB wa none (some wb)):=λpn xe O=>by
 refine PE.imp (Jl (IK (X:=wp X pn xe)) (ha pn xe O) Ms (HZ (hb pn xe O))) λZ H Q q=>?_;refine(Fd (k:=λx y z Q E=>match view y z with
  |some (.int i)=>zo (zB x z) λd=>zo (iY d none (some i)) λs=>Q (.v s) z
  |_=>False) q).mono λv H1 h1=>h1.mono λu H2 h2=>?_
 let#[F,G,U,x,y,P,PX,B,L,rx,Y,M,J,hx]:=h2;let#[i,ei,M]:=AE (U:=U) (k:=λi=>zo (zB x U) λd=>zo (iY d none (some i)) λs=>P (.v s) U) M;let ru:=Av (U':=[]) (Z':=[]) (B.mid L) L Y ei;cases ru;show#[i,rfl,IG (q:=.non) B L rx M J]
def Pt(ha:FE X a wa)(hb:FE X b wb)(hc:FE X c wc):FE X (.Subscript a (.Slice (some b) (some c) none p2) pos) (rB wa (some wb) (some wc)):=λpn xe hp=>by
 refine PE.imp (Jl (IK (X:=wp X pn xe)) (ha pn xe hp) (HZ (hb pn xe hp)) (HZ (hc pn xe hp))) λZ H Q q=>?_;refine(Fd (k:=λx y U2 Q E=>match view y U2 with
  |some (.int i)=>wc U2 (λz B=>match view z B with
   |some (.int j)=>zo (zB x B) λd=>zo (iY d (some i) (some j)) λs=>Q (.v s) B
   |_=>False) E
  |_=>False) q).mono λv H1 h1=>h1.mono λu H2 h2=>?_
 obtain⟨F,G,U,x,y,P,PX,J,L,rx,ry,O,M,hx⟩:=h2;let#[i,ei,O]:=AE (U:=U) (k:=λi=>wc U (λz B=>match view z B with
   |some (.int j)=>zo (zB x B) λd=>zo (iY d (some i) (some j)) λs=>P (.v s) B
   |_=>False) PX) O
 let ru:=Av (U':=[]) (Z':=[]) (J.mid L) L ry ei;cases ru;let Y:Rel X.K (U++[zr x]) (Z++[some v]) F G H2:=by let:=Rel.swap (U1:=[zr x]) (Z1:=[some v]) (U2:=[zr y]) (Z2:=[some (.int i)]) L rfl J;show Rel.mid (U:=U) (Z:=Z) this L
 refine⟨i,rfl,(nextOf (X:=wp X pn xe) (k:=λx z B P PX=>match view z B with
   |some (.int j)=>zo (zB x B) λd=>zo (iY d (some i) (some j)) λs=>P (.v s) B
   |_=>False) Y rx O M hx).mono λt H3 h3=>?_⟩
 let#[F,G,U,x,y,P,PX,J,L,rx,ry,O,M,hx]:=h3;let#[j,ej,O]:=AE (U:=U) (k:=λj=>zo (zB x U) λd=>zo (iY d (some i) (some j)) λs=>P (.v s) U) O;let ru:=Av (U':=[]) (Z':=[]) (J.mid L) L ry ej;cases ru;show#[j,rfl,IG (q:=.non) J L rx O M]
end FL
namespace FL
open PySem
def vV(f:List Nat->List D->Option S)(o:WE)(a:WA):WE:=λU Q E=>o U (λx z=>match x with
 |.v (.sh (.str l))=>a z (λB v=>zo (B.mapM λr=>zB r v) λF=>zo (f l F) λs=>Q (.v s) v) E
 |_=>False) E
def dN:List D->Option (List (List Nat))
 |[]=>some []
 |.str x::r=>(dN r).map (x::·)
 |_::_=>none
@[simp] theorem UL(l:List (List Nat)):dN (l.map .str)=some l:=by
  induction l with
  |nil=>rfl
  |cons a r v=>rw[qy,dN,v];rfl
def dB(v:List Nat):List (List Nat)->List Nat
 |[]=>[]
 |[x]=>x
 |x::r=>x++v++dB v r
def NS(v:List Nat):∀ys:List (List Nat),(dB v ys).length<=(ys.map List.length).sum+ys.length*v.length
 |[]=>zero_le _
 |[x]=>by simp[dB]
 |x::y::r=>by
  let:=NS v (y::r);rw[dB,qq,qq,qy,List.sum_cons,qt (a:=x),succ_mul]
  .lia
  .intro h;cases h
def UP(ys:List (List Nat)):dB [] ys=ys.flatten:=by
 induction ys with
 |nil=>rfl
 |cons x r v=>
  cases r with
  |nil=>simp[dB]
  |cons y r=>rw[dB,v];simp;intro h;cases h
def mM(v:List Nat)(l:List D):Option S:=(dN l).bind λys=>if(ys.map List.length).sum+ys.length*v.length<=big then some (.sh (.str (dB v ys)))else none
def iF(v:List Nat):List D->Option S
 |[.lst l]=>mM v l
 |[.tup l]=>mM v l
 |_=>none
def eL(j:Nat)(e:WE):WE:=λU Q E=>match slot U j with
 |some (.lst _)=>e U (λr v=>match view r v,slot v j with
  |some (.int i),some (.lst l)=>zo (if l.length<=big then ixN l.length i else none) λk=>zo l[k]? λs=>Q (.v s) (v.set j (some (.lst (l.eraseIdx k))))
  |_,_=>False) E
 |_=>False
def gH:List D->Option (List Bool)
 |[]=>some []
 |.bl x::r=>(gH r).map (x::·)
 |_::_=>none
@[simp] theorem UG(l:List Bool):gH (l.map .bl)=some l:=by
  induction l with
  |nil=>rfl
  |cons a r v=>rw[qy,gH,v];rfl
def mS:List D->Option S
 |[.lst l]=>(gH l).map λbs=>.sh (.bl (bs.all id))
 |_=>none
end FL
namespace FL
open PySem PySem.Spec PyProof.Rows L2
section
variable{id:String}
def mZ(K:W.Frag)(r:V->List V->Hp->VK->Prop)(f:List Nat->List D->Option S):Prop:=∀(Z:St)(U:Env)(F G H:Hp)(x:Str)(vs:List V)(ds:List D)(s:S)(Q:VK),Rel K U Z F G H->x.cps.toList.length<=16777216->iJ K F H vs ds->f x.cps.toList ds=some s->
 (∀v F' H',zp F F'->Rel K (U++[some s]) (Z++[some v]) F' G H'->Q v H')->r (.str x) vs H Q
def NW(hm:∀pn xe,yZ (wp X pn xe) id r)(hd:mZ X.K r f)(slot:Slot "str" name id)(h5:typeOf (.builtin id)=pure (.type "method_descriptor"))(ho:FE X o wo)(ha:FA X (e::es) wa)
  (O:attributeBase o name X.env (eval o X.env)=eval o X.env:=by rfl)
  (h2:((backTo cpos (starEach (e::es) X.env)).all (λx=>!x.1)&&(backToKw cpos (keywordEach [] X.env)).all (λx=>x.1.isSome)
   &&decide ((e::es).length+([]:List Keyword).length+(if([]:List Keyword).isEmpty then 0 else 1)<30))=true:=by rfl)
  (M:(apos.endLine==cpos.line)=true:=by rfl)(hs:starEach (e::es) X.env=(false,eval e X.env)::starEach es X.env:=by rfl)(L:(backTo cpos (starEach es X.env)).any (·.1)=false:=by rfl):
  FE X (.Call (.Attribute o name apos) (e::es) [] cpos) (vV f wo wa):=λpn xe hp=>by
 refine PE.imp (GA (X:=wp X pn xe) PySem.F.plainAttrs_str slot h5 (hm pn xe) (ho pn xe hp) (ha pn xe hp) O h2 M hs L) λZ H Q q=>?_;refine(one (k:=λx h3 Q E=>match x with
  |.v (.sh (.str l))=>wa h3 (λrs B=>zo (rs.mapM λr=>zB r B) λds=>zo (f l ds) λs=>Q (.v s) B) E
  |_=>False) q).mono λv H1 h1=>?_
 let#[F,G,U,x,P,PX,Y,hl,rx,hk,h6,hx]:=h1;split at hk
 .rename_i l;let rp:=Av (U':=[]) (Z':=[]) (x:=.v (.sh (.str l))) Y hl rx rfl;cases rp with
  |str e1 z=>rename_i y;subst e1;show#[rfl,F,G,U,_,PX,Y.drop hl,hk,λrs B vs F2 H2 J s2 r2 h7 h4=>?_,hx];let#[ds,ed,J]:=Ap J;let#[s,es,J]:=Ap J;let#[F3,s3,re,r3]:=BN (U':=[]) (Z':=[]) ↑r2 h7 h4 ed;show hd Z B F3 G H2 y vs ds s Q ↑r3 z re es λv F' H' sm r'=>h6 _ B v F' H' J (s2.trans (s3.trans sm)) r' trivial
 .show hk.elim
end
section
variable{K:W.Frag}
def LJ(r:zD K F xs l)(h:dN l=some ys):∃v:List Str,xs=v.map V.str/\ys=v.map λz=>z.cps.toList:=
 zD.ind (P:=λxs l=>∀ys,dN l=some ys->∃v:List Str,xs=v.map V.str/\ys=v.map λz=>z.cps.toList) (λys h=>by cases h;show#[[],rfl,rfl]) (λa _ G ys h=>by
  cases a with
  |@str x _ e z=>let#[B,h1,rfl]:=qX.mp h;let#[v,rfl,rfl]:=G _ h1;show#[x::v,rfl,by rw[qy,e]]
  |_=>cases h) r ys h
def Mc(v:Str):∀B:List Str,(Str.join v B).cps.toList=dB v.cps.toList (B.map λz=>z.cps.toList)
 |[]=>rfl
 |[x]=>rfl
 |x::y::r=>by show((x++v++Str.join v (y::r):Str)).cps.toList=x.cps.toList++v.cps.toList++dB v.cps.toList ((y::r).map λz=>z.cps.toList);rw[<-Mc v (y::r)];show(x.cps++v.cps++(Str.join v (y::r)).cps).toList=_;rw[toList_append,toList_append]
def Ic:∀{us:List Value},zC (ys.map V.str) us->StrsAre us ys:=by
 induction ys with
 |nil=>intro us r;rw[map_nil]at r;cases r;show .nil
 |cons n F B=>
  intro us r;cases r with
  |cons z v=>let#[t,e]:=z;subst e;show .cons n t (B v)
def lV(K:W.Frag):V->List V->Hp->VK->Prop:=λx v H Q=>∃z a ys,x=.str z/\v=[.ref a]/\(bL K H a (ys.map V.str)\/bK K H a (ys.map V.str))/\(ys.map (·.length)).sum+ys.length*z.length<=16777216/\Q (.str (Str.join z ys)) H
def Qk:yZ X "str.join" (lV X.K):=by
 intro zF s Z H x vs v us Q I M O h;let#[z,a,ys,rfl,rfl,B,J,q]:=h;let#[t,rfl]:=M;cases O with
 |cons r1 Y=>
  cases Y;cases r1;let e:Txt.join z ys=Str.join z ys:=StrLaws.glued_eq_join z ys;rcases B with B|B
  .obtain⟨G,r,F,_⟩:=I.list B;show join_list F.isList (Ic r) J λL k=>#[.str (Str.join z ys),H,I.tok _,#[_,by rw[e]],q]
  .obtain⟨G,r,F,_⟩:=I.tuple B;show join_tuple F (Ic r) J λL k=>#[.str (Str.join z ys),H,I.tok _,#[_,by rw[e]],q]
def Nf(J:Rel K U Z F G H)(Y:bL K H a xs\/bK K H a xs)(r:zD K F xs l)(e:mM x.cps.toList l=some s)
  (k:∀v F' H',zp F F'->Rel K (U++[some s]) (Z++[some v]) F' G H'->Q v H'):lV K (.str x) [.ref a] H Q:=by
 let#[ys,e1,O]:=Option.bind_eq_some_iff.mp e;let#[B,rfl,rfl]:=LJ r e1;split at O
 .rename_i M;cases O;let hl:∀z:Str,z.cps.toList.length=z.length:=λz=>by rw[qU];rfl
  let e3:((B.map λz=>z.cps.toList).map List.length)=B.map (·.length):=by rw[qD];show map_congr_left λz _=>hl z
  let L:=M;rw[e3,qo]at M;show#[x,a,B,rfl,rfl,Y,le_trans M ⋯,k _ F H (zp.refl F) (J.push (.str (Mc x B) ?_))];show le_trans (NS _ _) (le_trans L ⋯)
 .cases O
def UM:mZ K (lV K) iF:=by
 intro Z U F G H x M Y s Q z O B e L;let#[d,v,rfl,rfl]:=Be (λx y r=>by cases x<;>rfl) rfl B e;cases d with
 |tup l=>let#[a,xs,rfl,h1,J]:=B.1.tup;show Nf z (.inr (bK.of (z.fr _ _ h1))) J e L
 |lst l=>let#[a,xs,rfl,h1,J]:=B.1.lst z.fr;show Nf z (.inl h1) J e L
 |_=>cases e
end
def LP(J:FE X o G)(L:FA X [e] wa)
  (B:attributeBase o "join" X.env (eval o X.env)=eval o X.env:=by rfl)
  (F:((backTo cpos (starEach [e] X.env)).all (λx=>!x.1)&&(backToKw cpos (keywordEach [] X.env)).all (λx=>x.1.isSome)
   &&decide ([e].length+([]:List Keyword).length+(if([]:List Keyword).isEmpty then 0 else 1)<30))=true:=by rfl)
  (z:(apos.endLine==cpos.line)=true:=by rfl)(hs:starEach [e] X.env=(false,eval e X.env)::starEach [] X.env:=by rfl)(v:(backTo cpos (starEach [] X.env)).any (·.1)=false:=by rfl):
  FE X (.Call (.Attribute o "join" apos) [e] [] cpos) (vV iF G wa):=NW (λ_ _=>Qk) UM PySem.F.slot_str_join PySem.F.type_str_join J L B F z hs v
section
variable{K:W.Frag}
def zu.erase:∀{xs:List V}{l:List S}{fp:List Addr}{m:Nat}{s:S},zu K F H xs l fp->l[m]?=some s->∃y B v z,fp=B++(v++z)/\xs[m]?=some y/\aJ K F H y s v/\zu K F H (xs.eraseIdx m) (l.eraseIdx m) (B++z)
 |_,_,_,_,_,.nil,h=>by simp at h
 |_,_,_,0,s,.cons (x:=x) (fp:=fp) (fq:=fq) a b,h=>by let e:=qf h;subst e;show#[x,[],fp,fq,rfl,rfl,a,b]
 |_,_,_,m+1,s,.cons (fp:=fp) (fq:=fq) a b,h=>by let#[y,B,v,z,rfl,h1,h2,G]:=zu.erase (m:=m) b h;show#[y,fp++B,v,z,(qp ..).symm,h1,h2,?_];rw[qp];show .cons a G
def Rel.popItem{D:Addr}(r:Rel K U Z F G H)(hs:slot U n=some (.lst l))(O:Z[n]?=some (some (.ref D)))(hm:l[m]?=some s):
  ∃xs y,H D=some (.lst xs)/\xs.length=l.length/\xs[m]?=some y/\Rel K (U.set n (some (.lst (l.eraseIdx m)))++[some s]) (Z++[some y]) F G (upd H D (.lst (xs.eraseIdx m))):=by
 let#[fp,e,nd,ap]:=r.en;let#[v',fa,fi,M,e1,rfl,q,up]:=e.at hs;rw[O]at e1;let e2:V.ref D=v':=↑e1
 subst e2;cases q with
 |lst hD rl=>
  rename_i xs fl;let#[y,ga,L,J,rfl,hy,sr,h1]:=rl.erase hm;show#[xs,y,hD,rl.len,hy,?_];let#[na,v,h2]:=qw.mp nd;let#[ni,nb,v]:=qw.mp v;let#[nD,h7]:=qK.mp ni;let h6:D∉fa:=λz=>h2 D z D (qj _ qm) rfl;let h5:D∉M:=λz=>v D qm D z rfl;let Y:=ap D (qi _ (qj _ qm));let ne:∀{l:List Addr},D∉l->∀x∈l,upd H D (.lst (xs.eraseIdx m)) x=H x:=λh x B=>Ao λz=>h (z▸B);let h4:D∉ga++J:=λz=>nD ((qx.mp z).elim (λw=>qj _ w) λw=>qi _ (qi _ w));let h3:D∉L:=λz=>nD (qi _ (qj _ z));let new:aJ K F (upd H D (.lst (xs.eraseIdx m))) (.ref D) (.lst (l.eraseIdx m)) (D::(ga++J)):=.lst Bc (h1.mono (zp.refl F) (ne h4));let a2:=up (F':=F) (H':=upd H D (.lst (xs.eraseIdx m))) (o:=some (.lst (l.eraseIdx m))) (u:=some (.ref D)) (zp.refl F) (λx B=>Ao λz=>(qx.mp B).elim (λw=>h6 (z▸w)) λw=>h5 (z▸w)) (.so new .nil);rw[GZ O]at a2;let a3:=a2.app (.so (sr.mono (zp.refl F) (ne h3)) .nil);let pm:(fa++((D::(ga++J))++[]++M)++(L++[])).Perm (fa++((D::(ga++(L++J)))++M)):=by simp;show List.Perm.append_left _ (List.Perm.cons _ (List.Perm.append_left _ ?_));rw[<-qp L J M,<-qp J M L];show(qM (l₁:=J++M) (l₂:=L)).trans ?_;rw[qp]
  show#[zp.updR r.fr Y.1,λx o w=>?_,_,a3,pm.nodup_iff.mpr nd,λx B=>ap x (pm.mem_iff.mp B)];let B:x≠D:=λz=>by rw[z,Y.2]at w;cases w
  rw[Ao B];show r.gr x o w
end
def Ji(ho:FE X o (zj j))(he:FE X e we)
  (Y:attributeBase o "pop" X.env (eval o X.env)=eval o X.env:=by rfl)
  (h3:((backTo cpos (starEach [e] X.env)).all (λx=>!x.1)&&(backToKw cpos (keywordEach [] X.env)).all (λx=>x.1.isSome)
   &&decide ([e].length+([]:List Keyword).length+(if([]:List Keyword).isEmpty then 0 else 1)<30))=true:=by rfl)
  (O:(apos.endLine==cpos.line)=true:=by rfl)(hs:starEach [e] X.env=[(false,eval e X.env)]:=by rfl):FE X (.Call (.Attribute o "pop" apos) [e] [] cpos) (eL j we):=λpn xe hp=>by
 refine PE.imp (GA (X:=wp X pn xe) PySem.F.plainAttrs_list PySem.F.slot_list_pop PySem.F.type_list_pop Rx (ho pn xe hp) (Aa he Ac hs pn xe hp) Y h3 O hs rfl) λZ H Q q=>?_;let#[F,G,U,P,PX,h4,hw,h5,hx]:=q;let L:(match slot U j with
  |some (.lst _)=>we U (λr z=>match view r z,slot z j with
   |some (.int i),some (.lst l)=>zo (if l.length<=big then ixN l.length i else none) λk=>zo l[k]? λs=>P (.v s) (z.set j (some (.lst (l.eraseIdx k))))
   |_,_=>False) PX
  |_=>False):=hw
 cases qs:slot U j with
 |none=>rw[qs]at L;show L.elim
 |some s0=>
  cases s0 with
  |lst l0=>
   rw[qs]at L;show#[F,G,U,λy M=>y=.loc j/\M=U,PX,h4,by unfold zj;rw[qs];show#[rfl,rfl],λy M o' F1 H1 B s1 r1 rv=>?_,hx];let#[rfl,rfl]:=B;let l1:=Af r1;let h1:Z[j]?=some (some o'):=rv;let r2:=r1.drop l1;let#[v',fp,e1,sr]:=r2.at qs;rw[h1]at e1;let e2:o'=v':=↑e1
   subst e2;cases sr with
   |lst hD rl=>
    rename_i a xs fl;show#[.inl #[rfl,_,bL.of hD],F1,G,M,λrs z=>match rs with|[r]=>(match view r z,slot z j with|some (.int i),some (.lst l)=>zo (if l.length<=big then ixN l.length i else none) λk=>zo l[k]? λs=>P (.v s) (z.set j (some (.lst (l.eraseIdx k))))|_,_=>False)|_=>False,PX,r2,L,λrs z vs F2 H2 B s2 r3 hl J=>?_,hx.grow s1];match rs,vs,J,r3,B with
    |[r],[v],J,r3,B=>
     dsimp only at B;split at B
     .rename_i i l ei ql;let#[m,em,B]:=Ap B;let#[s,es,B]:=Ap B;let rp:=Av (U':=[]) (Z':=[]) r3 hl J.1 ei;cases rp;split at em
      .rename_i hz;let r4:=r3.drop hl;let#[ys,y,h6,h2,hy,r5]:=Rel.popItem r4 ql h1 es;rw[<-h2]at em hz;let#[b1,b2,b3,b4]:=IR em;let hb:ys.length<=1000000:=hz;show#[a,ys,i,m,y,rfl,rfl,h6,∅,∅,b1,hy,h5 _ _ y F2 _ B (s1.trans s2) r5 trivial]
      .cases em
     .show B.elim
    |[],_,_,_,B=>show B.elim
    |[_],[],J,_,_=>show J.elim
    |[_],_::_::_,J,_,_=>show J.2.elim
    |_::_::_,_,_,_,B=>show B.elim
  |_=>rw[qs]at L;show L.elim
section
variable{K:W.Frag}
def Mb:∀{xs:List V}{l:List D}{ys:List Bool},zD K F xs l->gH l=some ys->xs=ys.map V.bl
 |_,_,ys,.nil,h=>by cases h;rfl
 |_,d::l,ys,.cons a b,h=>by
  cases a with
  |bl c=>let#[v,h1,rfl]:=qX.mp h;rw[Mb b h1];rfl
  |_=>cases h
def VC:∀{us:List Value},zC (ys.map V.bl) us->LSm.BoolsAre us ys:=by
 induction ys with
 |nil=>intro us r;rw[map_nil]at r;cases r;show .nil
 |cons n F B=>
  intro us r;cases r with
  |cons z v=>cases z;show .cons n (B v)
end
def UT(L:A.handled=none)(B:s.heap.IsList l vs.toArray)(F:LSm.BoolsAre vs bs)(h:∀h' tk,(∀b x,s.heap.get? b=some x->h'.get? b=some x)->Q (.bool (bs.all id)) {s with heap:=h',toks:=tk}):
  wpAny (model prog w) A (call (.builtin "all") [.ref l]) Q E s:=by
 let z:l<s.heap.objs.size:=by let#[_,e,_]:=B;show qe e
 refine call_all_walk (wpAny_pyIter_list B ?_);refine⟨s.heap.objs.size,[s.heap.objs.size,l],[s.heap.objs.size],vs.toArray.size,_,_,λi=>(bs[i]?).getD true,rfl,Walks.list (A:=A.in1) L _ l (ne_of_lt z) vs.toArray,
  #[#[_,qd _ rfl,rfl,rfl],B.push _],λi v s' O Y M G=>?_,λh' tk J=>?_⟩
 .obtain⟨b,e,rfl⟩:=F.get i v ↑M;simp only[e]at G;show wpAny_truthy_bool G
 .let e:((List.range vs.toArray.size).all λi=>(bs[i]?).getD true)=bs.all id:=by rw[qr,F.length];exact LSm.range_all bs
  rw[e];show h h' tk (LSm.kept_iter J)
section
variable{K:W.Frag}
def xO(K:W.Frag):List V->Hp->VK->Prop:=λxs H Q=>∃(a:Addr)(bs:List Bool),xs=[.ref a]/\bL K H a (bs.map V.bl)/\Q (.bl (bs.all id)) H
def Ue(J:X.calm=true):aR X (.builtin "all") (xO X.K):=by
 intro zF s Z H xs L Q I r h;let#[a,bs,rfl,G,q]:=h;cases r with
 |cons z v=>cases v;cases z;let#[F,r,B,_]:=I.list G;show UT (I.ok.hd J) B.isList (VC r) λh' tk k=>#[.bl _,H,I.kept k,rfl,q]
def Sr:cM K (xO K) mS:=by
 intro Z U F G H O Y s Q z B e L;let#[d,v,rfl,rfl]:=Be (λx y r=>by cases x<;>rfl) rfl B e;cases d with
 |lst l=>let#[bs,M,rfl]:=qX.mp e;let#[a,xs,rfl,h1,J]:=B.1.lst z.fr;let:=Mb J M;subst this;show#[a,bs,rfl,h1,L _ F H (zp.refl F) (z.push (.bl _))]
 |_=>cases e
def KR(J:X.calm=true)(F:Gl X "all")(B:X.mg "all"=none)(z:bootBuiltins "all"=some (.builtin "all"))(L:FA X (e::es) wa)(G:starEach (e::es) X.env=(false,eval e X.env)::starEach es X.env:=by rfl)(v:(backTo pos (starEach es X.env)).any (·.1)=false:=by rfl):FE X (.Call (.Name "all" p) (e::es) [] pos) (wB mS wa):=
 GX (λpn xe=>Ue (X:=wp X pn xe) J) Sr F B z L ⋯ ⋯ G v
end
end FL
namespace FL
open PySem
mutual
def cA:D->D->Ordering
 |.int i,.int j=>if i<j then .lt else if j<i then .gt else .eq
 |.str x,.str y=>if x<y then .lt else if y<x then .gt else .eq
 |.tup l,.tup m=>aS l m
 |_,_=>.eq
def aS:List D->List D->Ordering
 |[],[]=>.eq
 |[],_::_=>.lt
 |_::_,[]=>.gt
 |a::l,b::m=>match cA a b with
  |.eq=>aS l m
  |o=>o
end
def dP(a b:D):Bool:=match cA a b with
 |.gt=>false
 |_=>true
@[simp] theorem Lr(i j:Int):dP (.int i) (.int j)=decide (i<=j):=by
  show(match(if i<j then Ordering.lt else if j<i then .gt else .eq)with|.gt=>false|_=>true)=_;by_cases h:i<j
  .rw[qZ h,qQ ∅]
  .rw[q4 h];by_cases h2:j<i
   .rw[qZ h2,qR ∅]
   .rw[q4 h2,qQ ∅]
@[simp] theorem Mp(x y:List Nat):dP (.str x) (.str y)=!decide (y<x):=by
  show(match(if x<y then Ordering.lt else if y<x then .gt else .eq)with|.gt=>false|_=>true)=_;by_cases h:x<y
  .rw[qZ h,qR (λh'=>lt_asymm h h')];rfl
  .rw[q4 h];by_cases h2:y<x
   .rw[qZ h2,qQ h2];rfl
   .rw[q4 h2,qR h2];rfl
def kP(x:D):List D->List D
 |[]=>[x]
 |y::r=>if dP x y then x::y::r else y::kP x r
def bZ:List D->List D
 |[]=>[]
 |x::r=>kP x (bZ r)
def Jp(x:D):∀l:List D,(kP x l).Perm (x::l)
 |[]=>.refl _
 |y::r=>by
  unfold kP;split
  .show .refl _
  .show(List.Perm.cons y (Jp x r)).trans (.swap x y r)
def DE:∀l:List D,(bZ l).Perm l
 |[]=>.refl _
 |x::r=>(Jp x _).trans (.cons x (DE r))
structure eS(P:D->Prop):Prop where
 tot:∀a b,P a->P b->dP a b=true\/dP b a=true
 tr:∀a b c,P a->P b->P c->dP a b=true->dP b c=true->dP a c=true
 anti:∀a b,P a->P b->dP a b=true->dP b a=true->a=b
def Np(o:eS P)(x:D)(z:P x):∀l:List D,(∀d∈l,P d)->l.Pairwise (dP · ·=true)->(kP x l).Pairwise (dP · ·=true)
 |[],_,_=>List.pairwise_singleton _ _
 |y::r,hp,h=>by
  let#[h1,h2]:=pairwise_cons.mp h;let B:=hp y qm;let F:∀d∈r,P d:=λd v=>hp d (qk _ v);unfold kP;split
  .rename_i c;show pairwise_cons.mpr #[λd v=>?_,h];rcases qA.mp v with rfl|v
   .show c
   .show o.tr x y d z B (F d v) c (h1 d v)
  .rename_i c;show pairwise_cons.mpr #[λd v=>?_,Np o x z r F h2];rcases qA.mp ((Jp x r).mem_iff.mp v)with rfl|v
   .show(o.tot d y z B).resolve_left c
   .show h1 d v
def Gn(o:eS P):∀l:List D,(∀d∈l,P d)->(bZ l).Pairwise (dP · ·=true)
 |[],_=>.nil
 |x::r,hp=>Np o x (hp x qm) _ (λd v=>hp d (qk _ ((DE r).mem_iff.mp v))) (Gn o r λd v=>hp d (qk _ v))
def NN(o:eS P):∀l m:List D,(∀d∈l,P d)->l.Perm m->l.Pairwise (dP · ·=true)->m.Pairwise (dP · ·=true)->l=m
 |[],m,_,p,_,_=>(List.nil_perm.mp p).symm
 |x::r,[],_,p,_,_=>absurd p.length_eq (by simp)
 |x::r,y::t,hp,p,h1,h2=>by
  obtain⟨L,J⟩:=pairwise_cons.mp h1;let#[G,F]:=pairwise_cons.mp h2;let z:=hp x qm;let v:P y:=hp y (p.mem_iff.mpr qm);let e:x=y:=by
   let m1:x∈y::t:=p.mem_iff.mp qm;let m2:y∈x::r:=p.mem_iff.mpr qm;rcases qA.mp m1 with e|m1
   .show e
   .rcases qA.mp m2 with e|m2
    .show e.symm
    .show o.anti x y z v (L y m2) (G x m1)
  subst e;rw[NN o r t (λd B=>hp d (qk _ B)) (List.Perm.cons_inv p) J F]
def Gj(o:eS P)(v:∀d∈l,P d)(p:m.Perm l)(h:m.Pairwise (dP · ·=true)):bZ l=m:=
 NN o _ _ (λd z=>v d ((DE l).mem_iff.mp z)) ((DE l).trans p.symm) (Gn o l v) h
def mX:D->Prop
 |.int _=>True
 |_=>False
def mW:D->Prop
 |.str _=>True
 |_=>False
def HP:eS mX where
 tot
  |.int a,.int b,_,_=>by simp;lia
 tr
  |.int a,.int b,.int c,_,_,_=>by simp;lia
 anti
  |.int a,.int b,_,_=>by simp;intro h1 h2;rw[Int.le_antisymm h1 h2]
def IZ:eS mW where
 tot
  |.str a,.str b,_,_=>by
   simp;by_cases h:b<a
   .show .inr λh'=>lt_asymm h h'
   .show .inl h
 tr
  |.str a,.str b,.str c,_,_,_=>by simp;intro h1 h2;show λh=>(List.le_trans (l₁:=a) (l₂:=b) (l₃:=c) h1 h2) h
 anti
  |.str a,.str b,_,_=>by simp;intro h1 h2;let:a=b:=List.le_antisymm (as:=a) (bs:=b) h1 h2;rw[this]
def eR:List D->Option (List Int)
 |[]=>some []
 |.int x::r=>(eR r).map (x::·)
 |_::_=>none
@[simp] theorem MN(l:List Int):eR (l.map .int)=some l:=by
  induction l with
  |nil=>rfl
  |cons a r v=>rw[qy,eR,v];rfl
end FL
namespace FL
open PySem PySem.Spec PyProof.Rows L2
section
variable{K:W.Frag}
def Mq(r:zD K F xs l)(h:eR l=some ys):xs=ys.map V.int/\l=ys.map D.int:=
 zD.ind (P:=λxs l=>∀ys,eR l=some ys->xs=ys.map V.int/\l=ys.map D.int) (λys h=>by cases h;show#[rfl,rfl]) (λa _ z ys h=>by
  cases a with
  |int c=>let#[v,h1,rfl]:=qX.mp h;let#[G,B]:=z _ h1;rw[G,B];show#[rfl,rfl]
  |_=>cases h) r ys h
def Gv:∀{us:List Value}{ns:List Int},IntsAre us ns->zC (ns.map V.int) us
 |_,_,.nil=>.nil
 |_,_,.cons i t r=>.cons #[t,rfl] (Gv r)
def Ju:∀{us:List Value}{ns:List Str},StrsAre us ns->zC (ns.map V.str) us
 |_,_,.nil=>.nil
 |_,_,.cons i t r=>.cons #[t,rfl] (Ju r)
def oF(K:W.Frag):List V->Hp->VK->Prop:=λxs H Q=>∃a,xs=[.ref a]/\
 ((∃ns:List Int,ns.length<64/\bL K H a (ns.map V.int)/\∀z:List Int,z.Perm ns->z.Pairwise (·<=·)->∀q,H q=none->Q (.ref q) (upd H q (.lst (z.map V.int))))\/
  (∃B:List Str,B.length<64/\bL K H a (B.map V.str)/\∀v:List Str,v.Perm B->sortedS v=true->∀q,H q=none->Q (.ref q) (upd H q (.lst (v.map V.str)))))
def NQ:aR X (.builtin "sorted") (oF X.K):=by
 intro zF s Z H xs us Q I r h;let#[a,rfl,h]:=h;cases r with
 |cons r1 r2=>
  cases r2;cases r1;rcases h with⟨ns,G,O,q⟩|⟨zs,G,O,q⟩
  .obtain⟨B,r,L,_⟩:=I.list O;let F:B.length=ns.length:=by let:=r.length;rw[qo]at this;exact this.symm
   show sorted_ints L.isList (Ie r) (by rw[F];show G) λz v a1 J a3=>?_;let#[e,Y]:=sortedAll_at s.heap B z;let M:v.length<=sizeLine:=by rw[J.length_eq,ze];lia
   show#[.ref (s.heap.objs.size+1),_,I.laid (t':=s.toks) (o:=.lst (v.map V.int)) (λb ob w=>sortedAll_old w) (le_succ _) ?_,rfl,q v J a3 _ (I.hok.fresh (le_succ _))];show#[by rw[qo];show M,z.toList,e,Gv a1,by rw[toArray_toList];show Y]
  .obtain⟨B,r,L,_⟩:=I.list O;let F:B.length=zs.length:=by let:=r.length;rw[qo]at this;exact this.symm
   show sorted_strs L.isList (Ic r) (by rw[F];show G) λz v a1 J a3=>?_;let#[e,Y]:=sortedAll_at s.heap B z;let M:v.length<=sizeLine:=by rw[J.length_eq,ze];lia
   show#[.ref (s.heap.objs.size+1),_,I.laid (t':=s.toks) (o:=.lst (v.map V.str)) (λb ob w=>sortedAll_old w) (le_succ _) ?_,rfl,q v J a3 _ (I.hok.fresh (le_succ _))];show#[by rw[qo];show M,z.toList,e,Ju a1,by rw[toArray_toList];show Y]
def Jr:∀ns:List Int,zD K F (ns.map V.int) (ns.map D.int)
 |[]=>.nil
 |n::ns=>.cons (.int n) (Jr ns)
def ML:∀v:List Str,(∀z∈v,z.cps.toList.length<=16777216)->zD K F (v.map V.str) (v.map λz=>D.str z.cps.toList)
 |[],_=>.nil
 |z::v,h=>.cons (.str rfl (h z qm)) (ML v λy B=>h y (qk _ B))
def Nr:∀{xs:List V}{l:List D}{v:List Str},zD K F xs l->xs=v.map V.str->l=(v.map λz=>D.str z.cps.toList)/\∀z∈v,z.cps.toList.length<=16777216
 |_,_,[],.nil,_=>#[rfl,λ_ h=>by cases h]
 |_,_,_::_,.nil,h=>by simp at h
 |_,_,[],.cons _ _,h=>by simp at h
 |_,_,z::v,.cons a b,h=>by
  injection h with h1 h2
  subst h1;let#[e,k]:=Nr b h2;cases a with
  |str J G=>
   subst J;show#[by rw[e];rfl,λy B=>?_];rcases qA.mp B with rfl|B
   .show G
   .show k y B
def Mt:∀(r:List Str)(p:Str),risingS p r=true->((p::r).map λz=>D.str z.cps.toList).Pairwise (dP · ·=true)
 |[],p,_=>List.pairwise_singleton _ _
 |x::r,p,h=>by
  let h':(!ltCps x.cps.toList p.cps.toList&&risingS x r)=true:=h;rw[and_eq_true,ltCps_eq]at h';let F:=Mt r x h'.2;let B:dP (.str p.cps.toList) (.str x.cps.toList)=true:=by rw[Mp];show h'.1
  show pairwise_cons.mpr #[λd v=>?_,F];rcases qA.mp v with rfl|v
  .show B
  .obtain⟨z,_,rfl⟩:=qJ.mp v;show IZ.tr _ (.str x.cps.toList) _ trivial trivial trivial B ((pairwise_cons.mp F).1 _ v)
def Ve:∀r:List Str,sortedS r=true->(r.map λz=>D.str z.cps.toList).Pairwise (dP · ·=true)
 |[],_=>.nil
 |x::r,h=>Mt r x h
end
def Wc(z:∀id,v≠.builtin id)(h:Q (.bool (!(v==.bool d))) s):wpAny M A (compareOp .IsNot v (.bool d)) Q E s:=by cases v<;>first|show qb h|show absurd rfl (z _)
section
variable{K:W.Frag}
def zv.bool_iff(r:zv x v)(d:Bool):(v==Value.bool d)=decide (x=.bl d):=by
 cases x with
 |bl b=>cases r;cases b<;>cases d<;>rfl
 |_=>first
  |(cases r;rfl)
  |(let#[t,rfl]:=r;rfl)
def zv.noBuiltin(r:zv x v):∀id,v≠.builtin id:=by
 intro id e;subst e;cases x<;>first
  |(cases r;done)
  |(let#[t,h]:=r;cases h)
def cy(neg:Bool):R2:=λx y H Q=>(y=.non/\Q (.bl (if neg then !decide (x=.non)else decide (x=.non))) H)\/∃b,y=.bl b/\Q (.bl (if neg then !decide (x=.bl b)else decide (x=.bl b))) H
def MP:OpR X (compareOp .IsNot) (cy true):=by
 intro zF s Z H x y v u Q I z B h;rcases h with⟨rfl,q⟩|⟨b,rfl,q⟩
 .show RK zF s Z H x .non v u Q I z B #[rfl,q]
 .cases B;show Wc (zv.noBuiltin z) #[.bl _,H,I,by rw[zv.bool_iff z];rfl,q]
open Classical in
def QN(B:aN K H x p)(z:aN K H y q)(e:yK p q=some k)(F:Q (.bl (if neg then !k else k)) H):cy neg x y H Q:=by
 cases q with
 |non=>
  cases z;let v:decide (p=.non)=k:=qf e;let:decide (x=V.non)=k:=by rw[<-v];cases B<;>simp
  show .inl #[rfl,by rw[this];show F]
 |bl b=>
  cases z;let v:decide (p=.bl b)=k:=qf e;let:decide (x=V.bl b)=k:=by rw[<-v];cases B<;>simp
  show .inr #[b,rfl,by rw[this];show F]
 |_=>cases e
def NG:dF K (cy true) dE:=λH x y p q k Q B z e F=>by
 unfold dE at e;cases v:yK p q with
 |none=>rw[v]at e;cases e
 |some b=>rw[v]at e;let G:(!b)=k:=qf e;subst G;show QN B z v F
end
mutual
def dZ:D->PyData
 |.non=>.none
 |.bl b=>.bool b
 |.int i=>.int i
 |.str l=>.str #[l.toArray]
 |.tup l=>.tuple (cQ l)
 |.lst l=>.list (cQ l)
 |_=>.none
def cQ:List D->List PyData
 |[]=>[]
 |d::r=>dZ d::cQ r
end
mutual
def lR:D->Bool
 |.non=>true
 |.bl _=>true
 |.int i=>decide (i.natAbs.log2<1920)
 |.str _=>true
 |.tup l=>dW l
 |.lst l=>dW l
 |_=>false
def dW:List D->Bool
 |[]=>true
 |d::r=>lR d&&dW r
end
mutual
def VH:∀d:D,lR d=true->(dZ d).showable=true
 |.non,_=>rfl
 |.bl _,_=>rfl
 |.int i,h=>h
 |.str _,_=>rfl
 |.tup l,h=>JA l h
 |.lst l,h=>JA l h
 |.dct _ _ _,h=>by cases h
 |.set _,h=>by cases h
 |.exc _ _ _,h=>by cases h
def JA:∀l:List D,dW l=true->PyData.showableAll (cQ l)=true
 |[],_=>rfl
 |d::r,h=>by rw[dW,and_eq_true]at h;rw[cQ,PyData.showableAll,VH d h.1,JA r h.2];rfl
end
mutual
def Tv:∀d:D,(dZ d).hasDict=false
 |.non=>rfl
 |.bl _=>rfl
 |.int i=>rfl
 |.str _=>rfl
 |.tup l=>JE l
 |.lst l=>JE l
 |.dct _ _ _=>rfl
 |.set _=>rfl
 |.exc _ _ _=>rfl
def JE:∀l:List D,PyData.hasDictAll (cQ l)=false
 |[]=>rfl
 |d::r=>by rw[cQ,PyData.hasDictAll,Tv d,JE r];rfl
end
mutual
def SD:∀d:D,(dZ d).depth<=eG d
 |.non=>q5 _
 |.bl _=>q5 _
 |.int i=>q5 _
 |.str _=>q5 _
 |.tup l=>Nat.succ_le_succ (Jq l)
 |.lst l=>Nat.succ_le_succ (Jq l)
 |.dct _ _ _=>q5 _
 |.set _=>q5 _
 |.exc _ _ _=>q5 _
def Jq:∀l:List D,PyData.depthAll (cQ l)<=bG l
 |[]=>q5 _
 |d::r=>by let h1:=SD d;let h2:=Jq r;simp only[cQ,PyData.depthAll,bG];lia
end
end FL
namespace FL
open PySem
def yN(l m:List Nat)(i:Nat):Bool:=decide (i+m.length<=l.length)&&decide ((l.drop i).take m.length=m)
def fQ(l m:List Nat):Option Nat:=(List.range (l.length+1)).find? (yN l m)
def gX:List D->Option S
 |[.tup l]=>some (.lst (l.map .sh))
 |[.lst l]=>some (.lst (l.map .sh))
 |[.str l]=>if l.length<=big then some (.lst (l.map λc=>.sh (.str [c])))else none
 |_=>none
theorem find?_first(h:i<n)(v:p i=true)(hn:∀k,k<i->p k=false):(List.range n).find? p=some i:=by first|rfl|assumption|(simp_all;done)
theorem find?_not(hn:∀k,p k=false):(List.range n).find? p=none:=by grind
end FL
namespace FL
open PySem PySem.Spec PyProof.Rows L2
section
variable{K:W.Frag}
theorem zjG:StrLaws.At x y x.length i↔yN x.cps.toList y.cps.toList i=true:=by
 let h1:x.length=x.cps.toList.length:=by show x.cps.size=_;rw[qU]
 let h2:y.length=y.cps.toList.length:=by show y.cps.size=_;rw[qU]
 unfold StrLaws.At yN Builtin.Str.subAt;rw[and_eq_true,qS,qS,h2,beq_iff_eq];show and_congr_right λ_=>?_;rw[<-Array.toList_inj,toList_extract,extract_eq_take_drop];let:i+y.cps.toList.length-i=y.cps.toList.length:=∅
 rw[this]
def Qh(x y:Str):Txt.find x y=(match fQ x.cps.toList y.cps.toList with|some i=>(i:Int)|none=>-1):=by
 have v:∀{i},¬StrLaws.At x y x.length i->yN x.cps.toList y.cps.toList i=false:=λ{i} h=>by
  cases q:yN x.cps.toList y.cps.toList i with
  |false=>rfl
  |true=>show absurd (zjG.mpr q) h
 rcases find_whole x y with⟨e,h⟩|⟨i,e,hi,h⟩
 .rw[e];unfold fQ;rw[find?_not λk=>v (h k)]
 .rw[e];unfold fQ;let B:=hi.1;let h1:x.length=x.cps.toList.length:=by show x.cps.size=_;rw[qU]
  rw[find?_first (i:=i) (by rw[<-h1];lia) (zjG.mp hi) λk z=>v (h k z)]
def lU:List V->Hp->VK->Prop:=λxs H Q=>∃x:Str,xs=[.str x]/\x.length<=sizeLine/\∀l,H l=none->Q (.ref l) (upd H l (.lst (x.cps.toList.map λc=>.str #[[c].toArray])))
def Ig:∀{xs:List V}{us:List Value},xs.length=us.length->(∀(j:Nat) x u,xs[j]?=some x->us[j]?=some u->zv x u)->zC xs us
 |[],[],_,_=>.nil
 |[],_::_,h,_=>by simp at h
 |_::_,[],h,_=>by simp at h
 |x::xs,u::us,h,k=>.cons (k 0 x u rfl rfl) (Ig ↑h λj v z h1 h2=>k (j+1) v z h1 ↑h2)
def We(F:X.calm=true):aR X (.type "list") lU:=by
 intro zF s Z H xs us Q I r h;let#[x,rfl,J,q]:=h;let#[u,rfl,L]:=vals1 r;let#[t,rfl]:=L;show call_list_str (I.ok.hd F) x t (hn:=J) λh' tk B Y O G z=>?_;let M:zC (x.cps.toList.map λc=>V.str #[[c].toArray]) B.toList:=Ig (by rw[qo,qU,qU,z.1]) λj y v h1 h2=>by let#[c,u,F,rfl]:=z.2 j v (by rw[<-qY];show h2);rw[qE,qY,F]at h1;cases h1;show#[u,rfl]
 show#[.ref s.heap.objs.size,_,I.laid (t':=tk) O (q5 _) (show zE X.prog X.w _ h' _ (.lst (x.cps.toList.map λc=>V.str #[[c].toArray])) from#[?_,B.toList,Y,M,G]),rfl,q _ (I.hok.fresh (q5 _))];rw[qo];show J
def tP(K:W.Frag):List V->Hp->VK->Prop:=λxs H Q=>rF K xs H Q\/lU xs H Q
def Nw:∀l:List Nat,zD K F (l.map λc=>V.str #[[c].toArray]) (l.map λc=>D.str [c])
 |[]=>.nil
 |c::l=>.cons (.str rfl (by show 1<=16777216;decide)) (Nw l)
def Vj:cM K (tP K) gX:=by
 intro Z U F G H vs ds s Q B J e L;let#[d,v,rfl,rfl]:=Be (λx y r=>by cases x<;>rfl) rfl J e;cases d with
 |tup l=>show .inl (Mx Z U F G H [v] [.tup l] s Q B J e L)
 |lst l=>show .inl (Mx Z U F G H [v] [.lst l] s Q B J e L)
 |str l=>
  let#[x,rfl,M,z]:=J.1.str;let e:(if l.length<=big then some (S.lst (l.map λc=>S.sh (.str [c])))else none)=some s:=e;split at e
  .rename_i Y;cases e;show .inr #[x,rfl,by rw[Gm M];show HX Y,λp O=>?_];rw[M];let h:=B.newLD O (Nw l);rw[qD]at h;show L (.ref p) F (upd H p (.lst (l.map λc=>V.str #[[c].toArray]))) (zp.refl F) h
  .cases e
 |_=>cases e
def Sg(J:X.calm=true)(F:Gl X "list")(B:X.mg "list"=none)(z:bootBuiltins "list"=some (.type "list"))(L:FA X (e::es) wa)(G:starEach (e::es) X.env=(false,eval e X.env)::starEach es X.env:=by rfl)(v:(backTo pos (starEach es X.env)).any (·.1)=false:=by rfl):FE X (.Call (.Name "list" p) (e::es) [] pos) (wB gX wa):=
 Ij (λpn xe=>aR.or' VX (We (X:=wp X pn xe) J)) Vj F B z L ⋯ ⋯ G v
end
def HC:bootBuiltins "int"=some (.type "int"):=by decide+kernel
def Ey:bootBuiltins "tuple"=some (.type "tuple"):=by decide+kernel
def LM:bootBuiltins "list"=some (.type "list"):=by decide+kernel
def Pp:bootBuiltins "min"=some (.builtin "min"):=by decide+kernel
def KM:bootBuiltins "all"=some (.builtin "all"):=by decide+kernel
def Gu:bootBuiltins "sorted"=some (.builtin "sorted"):=by decide+kernel
def BW(v:bR k A):A.units+32<cLine:=by let:=v.units;lia
def Hf(v:bR k A):A.units+31<cLine:=by let:=v.units;lia
theorem uq{N:List Str}(h:(N.zipIdx.all λp=>!(p.1==x)||p.2==i)=true):∀j,N[j]?=some x->j=i:=by intro j v;let:=qH.mp h (x,j) (by rw[List.mem_zipIdx_iff_getElem?];simpa using v);simpa using this
instance(outer scope:Scope)(N vars:List Str):Decidable (scope.kind=.function/\(∀x∈scope.names,x.2=.free->outer.names.lookup x.1=some .cell\/outer.names.lookup x.1=some .free)/\(scope.names.map (·.1)).Nodup/\
  (∀x∈N,x∉vars->(x,NameKind.local)∉scope.names/\(x,NameKind.cell)∉scope.names)/\scope.names.lookup Str.empty=none):=inferInstance
def vN(v scope:Scope)(N vars:List Str):Bool:=decide (scope.kind=.function/\(∀x∈scope.names,x.2=.free->v.names.lookup x.1=some .cell\/v.names.lookup x.1=some .free)/\(scope.names.map (·.1)).Nodup/\
    (∀x∈N,x∉vars->(x,NameKind.local)∉scope.names/\(x,NameKind.cell)∉scope.names)/\scope.names.lookup Str.empty=none)
def An(h:vN outer scope N vars=true):bW outer scope N vars:=
 let⟨a,b,c,d,e⟩:=qT h
 #[a,b,c,d,e]
def Rl{K:W.Frag}(r:aJ K F H v (.sh (.bl true)) fp):v=.bl true:=by
 cases r with
 |sh r=>cases r;rfl
def OB{K:W.Frag}(h:∀ns:List Int,ns.length<=63->L [.sh (.lst (ns.map .int))] (λs _=>s=.sh (.bl true)) λ_ _=>False)(H:Hp)(a:Addr)(ns:List Int)(O:ns.length<=63)(Y:bL K H a (ns.map V.int)):
  eM K L 1 [.ref a] H (λv _=>v=.bl true) λ_ _ _=>False:=by
 show#[H,λ_=>none,[.sh (.lst (ns.map .int))],_,_,rfl,#[zp.refl H,λ_ _ z=>(nomatch z),[]++[],.so (.sh (.lst Y (Jr ns))) .nil,List.nodup_nil,λ_ z=>(nomatch z)],h ns O,λs B v F' H' M sm F r=>?_,λ_ _ _ _ _ _ z=>z.elim];subst M;let#[u,fp,J,q]:=r.at (i:=B.length) (s:=.sh (.bl true)) (by let:=EX (U:=B.map some) (o:=some (.sh (.bl true))) (U':=[]);simpa using this)
 let G:B.length=1:=F;rw[G]at J;let:u=v:=↑J.symm
 rw[<-this];show Rl q
end FL
namespace FL
def fB(j:Nat)(e:WE):WE:=λU Q E=>match slot U j with
 |some (.lst _)=>e U (λr v=>match r,slot v j with
  |.v (.lst m),some (.lst l)=>l.length+m.length<=big/\Q (.v (.sh .non)) (v.set j (some (.lst (l++m))))
  |_,_=>False) E
 |_=>False
end FL
namespace FL
open PySem PySem.Spec PyProof.Rows L2
def IC(ha:FE X a wa):FE X (.UnaryOp .USub a pos) (wL kO wa):=λpn xe hp=>by
 show PE.imp (Oi OH (ha pn xe hp)) λZ H Q q=>?_;show(one (k:=λx z Q E=>zo (zB x z) λp=>zo (kO p) λs=>Q (.v s) z) q).mono λv H1 h1=>?_;let#[F,G,U,x,P,PX,J,hl,Y,B,L,hx]:=h1;let#[p,ep,B]:=Ap B;let#[s,es,B]:=Ap B;let#[M,O,re,r1]:=Ba (U':=[]) (Z':=[]) J hl Y ep;cases p with
 |int i=>have e:=re.int;subst e;show#[i,rfl,L _ U _ M H1 B O ((show Rel _ U Z M G H1 by simpa using r1).push (.int _)) trivial]
 |_=>cases es
section
variable{K:W.Frag}
def zu.app:∀{xs ys:List V}{l m:List S}{fp fq:List Addr},zu K F H xs l fp->zu K F H ys m fq->zu K F H (xs++ys) (l++m) (fp++fq)
 |_,_,_,_,_,_,.nil,r=>r
 |_,_,_,_,_,_,.cons a b,r=>by rw[qp];show .cons a (zu.app b r)
def Rel.extend{D B:Addr}(r:Rel K (U++[some (.lst m)]) (Z++[some (.ref B)]) F G H)(hs:slot U n=some (.lst l))(Y:Z[n]?=some (some (.ref D))):
  ∃xs ys,H D=some (.lst xs)/\H B=some (.lst ys)/\xs.length=l.length/\ys.length=m.length/\Rel K (U.set n (some (.lst (l++m)))) Z F G (upd H D (.lst (xs++ys))):=by
 let hl:=Af r;let#[fp,e,nd,ap]:=r.en;let#[f1,f2,rfl,a,b]:=e.cut hl;let#[v',O,fi,M,e1,rfl,q,up]:=a.at hs;rw[Y]at e1;let e2:V.ref D=v':=↑e1
 subst e2;cases q with
 |lst hD rl=>
  rename_i xs L;cases b with
  |so sr nl=>
   cases nl;cases sr with
   |lst hB rm=>
    rename_i ys fs;show#[xs,ys,hD,hB,rl.len,rm.len,?_];let es:Z.set n (some (.ref D))=Z:=GZ Y;let#[n1,n2,h5]:=qw.mp nd;let#[na,v,h4]:=qw.mp n1;let#[ni,nb,v]:=qw.mp v;let#[nD,h9]:=qK.mp ni;let h8:D∉O:=λz=>h4 D z D (qj _ qm) rfl;let h7:D∉M:=λz=>v D qm D z rfl;let h6:D∉fs:=λz=>h5 D (qi _ (qj _ qm)) D (by simpa using .inr z) rfl;let h2:=ap D (qj _ (qi _ (qj _ qm)));let ne:∀{l:List Addr},D∉l->∀x∈l,upd H D (.lst (xs++ys)) x=H x:=λh x J=>Ao λz=>h (z▸J);let new:aJ K F (upd H D (.lst (xs++ys))) (.ref D) (.lst (l++m)) (D::(L++fs)):=.lst Bc (zu.app (rl.mono (zp.refl F) (ne nD)) (rm.mono (zp.refl F) (ne h6)));let a2:=up (F':=F) (H':=upd H D (.lst (xs++ys))) (o:=some (.lst (l++m))) (u:=some (.ref D)) (zp.refl F) (λx J=>Ao λz=>(qx.mp J).elim (λw=>h8 (z▸w)) λw=>h7 (z▸w)) (.so new .nil);rw[es]at a2;let p:(B::(O++((D::(L++fs))++[]++M))).Perm (O++((D::L)++M)++(B::fs++[])):=by
     simp;show(List.Perm.cons _ (List.Perm.append_left _ (List.Perm.cons _ (List.Perm.append_left _ qM)))).trans ?_;let h1:(O++D::(L++(M++B::fs))).Perm (B::(O++D::(L++(M++fs)))):=by let:=perm_middle (a:=B) (l₁:=O++D::(L++M)) (l₂:=fs);simpa using this
     show h1.symm
    let h3:=p.nodup_iff.mpr nd;show#[zp.updR r.fr h2.1,λx o w=>?_,_,a2,(qK.mp h3).2,λx J=>ap x (p.mem_iff.mp (qk _ J))];let J:x≠D:=λz=>by rw[z,h2.2]at w;cases w
    rw[Ao J];show r.gr x o w
end
def Ug(ho:FE X o (zj j))(he:FE X e we)
  (h2:attributeBase o "extend" X.env (eval o X.env)=eval o X.env:=by rfl)
  (h5:((backTo cpos (starEach [e] X.env)).all (λx=>!x.1)&&(backToKw cpos (keywordEach [] X.env)).all (λx=>x.1.isSome)
   &&decide ([e].length+([]:List Keyword).length+(if([]:List Keyword).isEmpty then 0 else 1)<30))=true:=by rfl)
  (Y:(apos.endLine==cpos.line)=true:=by rfl)(hs:starEach [e] X.env=[(false,eval e X.env)]:=by rfl):FE X (.Call (.Attribute o "extend" apos) [e] [] cpos) (fB j we):=λpn xe hp=>by
 refine PE.imp (GA (X:=wp X pn xe) PySem.F.plainAttrs_list PySem.F.slot_list_extend PySem.F.type_list_extend UC (ho pn xe hp) (Aa he Ac hs pn xe hp) h2 h5 Y hs rfl) λZ H Q q=>?_;let#[F,G,U,P,PX,h7,hw,h8,hx]:=q;let L:(match slot U j with
  |some (.lst _)=>we U (λr z=>match r,slot z j with
   |.v (.lst m),some (.lst l)=>l.length+m.length<=big/\P (.v (.sh .non)) (z.set j (some (.lst (l++m))))
   |_,_=>False) PX
  |_=>False):=hw
 cases qs:slot U j with
 |none=>rw[qs]at L;show L.elim
 |some s0=>
  cases s0 with
  |lst l0=>
   rw[qs]at L;show#[F,G,U,λy O=>y=.loc j/\O=U,PX,h7,by unfold zj;rw[qs];show#[rfl,rfl],λy O o' F1 H1 M s1 r1 rv=>?_,hx];let#[rfl,rfl]:=M;let l1:=Af r1;let h3:Z[j]?=some (some o'):=rv;let r2:=r1.drop l1;let#[v',fp,e1,sr]:=r2.at qs;rw[h3]at e1;let e2:o'=v':=↑e1
   subst e2;cases sr with
   |lst hD rl=>
    rename_i a xs fl;show#[.inl #[rfl,_,bL.of hD],F1,G,O,λrs z=>match rs with|[r]=>(match r,slot z j with|.v (.lst m),some (.lst l)=>l.length+m.length<=big/\P (.v (.sh .non)) (z.set j (some (.lst (l++m))))|_,_=>False)|_=>False,PX,r2,L,λrs z vs F2 H2 M s2 r3 hl J=>?_,hx.grow s1];match rs,vs,J,r3,M with
    |[r],[v],J,r3,M=>
     dsimp only at M;split at M
     .rename_i m l ql;let#[u,fq,eu,su]:=r3.at (i:=z.length) (s:=.lst m) EX;rw[hl,getElem?_append_right (q5 _)]at eu;let e3:v=u:=by simpa using eu
      subst e3;cases su with
      |@lst b zs _ _ hB rb=>let#[ys,h6,h9,e4,h4,h1,r5]:=Rel.extend (B:=b) r3 ql h3;show#[a,b,ys,h6,rfl,rfl,h9,e4,by rw[h4,h1];show le_trans M.1 ⋯,h8 _ _ .non F2 _ M.2 (s1.trans s2) (r5.push .non) trivial]
     .show M.elim
    |[],_,_,_,M=>show M.elim
    |[_],[],J,_,_=>show J.elim
    |[_],_::_::_,J,_,_=>show J.2.elim
    |_::_::_,_,_,_,M=>show M.elim
  |_=>rw[qs]at L;show L.elim
open AutoSeq1 (wpAny_loadPart')
def Po(J:s.heap.IsTupleIter u z n)(hz:s.heap.IsTuple z xs)(L:xs[n]?=some v)(k:∀h',h'.IsTupleIter u z (n+1)->Heap.SameBut u s.heap h'->Q v {s with heap:=h'}):
  wpAny (model prog w) A (Builtin.SmallTypes.nextOf (.ref u)) Q E s:=by
 let#[ob,G,Y,B]:=id J;let#[zb,O,_,zn,M]:=hz;apply qa;show wpAny_callSpecial?_slot (name:=Str.ofString "__next__") J.typeIs F.slot_tuple_iterator_next (zd F.slot_tuple_iterator_next J.typeIs F.entry_tuple_iterator_next ?_ (F.args_tuple_iterator_next_1 _));show wpAny _ _ (field (.ref u) 0>>=_) _ _ _;apply qa;show za G B (x:=.ref z) rfl ?_;apply qa;show za G B (x:=.int n 0) rfl ?_;apply qa;show wpAny_seqItems O M ?_;simp[qV,L];apply qa;show wpAny_setField G B (by simp) (qb #[v,rfl,qb (k _ #[_,q9 _ G (Obj.isFreed_of_fields (Obj.data_mapFields B _)),(Obj.cls_mapFields ..).trans Y,?_] (Heap.SameBut.update ..))]);rw[Obj.data_mapFields B];simp[rawInt]
def Nt(J:A.handled=none)(v:s.heap.IsTupleIter u z n)(hz:s.heap.IsTuple z xs)(L:xs[n]?=none)
  (k:∀h' e,Heap.ExtBut u s.heap h'->(∃o,h'.get? e=some o/\o.cls=.type "StopIteration")->E (.ref e) {s with heap:=h'}):wpAny (model prog w) A (Builtin.SmallTypes.nextOf (.ref u)) Q E s:=by
 let#[ob,G,e1,B]:=id v;let#[zb,O,_,Y,M]:=hz;apply qa;show wpAny_callSpecial?_slot (name:=Str.ofString "__next__") v.typeIs F.slot_tuple_iterator_next (zd F.slot_tuple_iterator_next v.typeIs F.entry_tuple_iterator_next ?_ (F.args_tuple_iterator_next_1 _));show wpAny _ _ (field (.ref u) 0>>=_) _ _ _;apply qa;show za G B (x:=.ref z) rfl ?_;apply qa;show za G B (x:=.int n 0) rfl ?_;apply qa;show wpAny_seqItems O M ?_;simp[qV,L];apply qa;apply wpAny_rule;apply qa;show wpAny_setField G B (by simp) ?_;apply qa;apply qa;show zc ?_ (by size_fits);show qa (m:=firstArgMember _ _) (zg (a:=Value.none) (by first|rfl|(simp;rfl)) (zc ?_ (by size_fits)));apply qa;show wpAny_handled ?_;first|rw[show A.in1.handled=none from J]|rw[J]
 show qa (qb (wpAny_throw (k _ _ (((Heap.SameBut.update ..).extBut.push _).push _) #[_,qd _ rfl,rfl])))
def Uc{prog:Program}{w:World}{A:Around}(hh:A.handled=none)(u z:Addr)(hne:z≠u)(xs:Array Value):
  Draws prog w A u [u,z] xs.size (λi v=>xs[i]?=some v) (λi h=>h.IsTupleIter u z i/\h.IsTuple z xs) where
 live:=λ_ _ st=>let#[o,e,_]:=st.1;#[o,e]
 frame:=λ_ _ _ st k=>#[st.1.at λo e=>k u (by simp) o e,by let#[o,e,r]:=st.2;show#[o,k z (by simp) o e,r]]
 item:=λi s Q E hi st k=>Po st.1 st.2 (v:=xs[i]) (by simp) λh' a b=>k _ h' s.toks (by simp[hi]) #[a,by let#[o,e,r]:=st.2;show#[o,b.extBut _ _ hne e,r]] b
 done:=λs Q E st k=>Nt hh st.1 st.2 (by simp) k
inductive SrcI(P:Program)(w:World)(A:Around)(it:Addr)(J:It)(tn:Nat->Heap->Prop)(i:Nat)(s:Shared)(H:Hp):Prop
 |mk (fp:List Addr) (n:Nat) (Pr:Nat->Value->Prop) (Sx:Nat->Heap->Prop):Draws P w A it fp n Pr Sx->Sx i s.heap->i<n->it∈fp->(∀b∈fp,b=it\/(H b≠none/\∃o,s.heap.get? b=some o/\o.cls=.type "tuple")\/∃o,s.heap.get? b=some o/\o.cls=.type "list")->(∀v,Pr i v->∃x,zv x v/\J.yld i H x H)->(∀h',Sx (i+1) h'->tn (i+1) h')->SrcI P w A it J tn i s H
structure yT(P:Program)(w:World)(K:W.Frag)(J:It)(it:Addr)(tn:Nat->Heap->Prop):Prop where
 live:∀i h,tn i h->∃o,h.get? it=some o/\(∀v,o.data≠.cell v)/\o.cls≠.type "enumerate"/\o.cls≠.type "zip"/\o.cls≠.type "tuple"/\o.cls≠.type "list"
 keep:∀i h h',tn i h->(∀o,h.get? it=some o->h'.get? it=some o)->tn i h'
 yl:∀i H x H',J.yld i H x H'->H'=H
 item:∀(X:Cx),X.prog=P->X.w=w->X.K=K->∀(i:Nat)(zF:List (Addr×Obj))(s:Shared)(Z:St)(H:Hp)(A:Around),A.handled=none->Inv X zF Z H s->tn i s.heap->H it=none->J.go i H->
  SrcI P w A it J tn i s H
 done:∀(X:Cx),X.prog=P->X.w=w->X.K=K->∀(i:Nat)(zF:List (Addr×Obj))(s:Shared)(Z:St)(H:Hp)(A:Around),A.handled=none->Inv X zF Z H s->tn i s.heap->J.stop i H->∀(Q:zi)(E:zi),
  (∀h' e,Heap.ExtBut it s.heap h'->(∃o,h'.get? e=some o/\o.cls=.type "StopIteration")->E (.ref e) {s with heap:=h'})->wpAny (model P w) A (Builtin.SmallTypes.nextOf (.ref it)) Q E s
def Sk{P:Program}{w:World}{K:W.Frag}(a it:Addr):yT P w K (zO K a) it (λi h=>h.IsListIter it a i) where
 live:=λi h st=>by let#[o,e,c,d]:=st;show#[o,e,λv z=>by(rw[d]at z;cases z),by rw[c];decide,by rw[c];decide,by rw[c];decide,by rw[c];decide]
 keep:=λi h h' st k=>st.at k
 yl:=λi H x H' h=>h.1
 item:=by
  intro X hP hw hK i zF s Z H A hh I st hn hg;subst hP hw hK;let#[xs,x,hq,hx]:=hg;let#[zJ,rv,p,hz]:=I.list hq;let#[lo,l1,l2,l3]:=id p.isList;let hne:a≠it:=λz=>by let#[o,e,c,d]:=id st;rw[<-z,l1]at e;cases e;rw[l2]at c;show absurd c ⋯
  let hl:=rv.length;let hi:i<zJ.toArray.size:=by let:=(qg.mp hx).1;rw[qr];lia
  show#[_,_,_,_,Draws.list hh it a hne zJ.toArray,#[st,p.isList],hi,m1,λb hb=>?_,λv hv=>?_,λh' z=>z.1]
  .simp at hb;rcases hb with rfl|rfl
   .show .inl rfl
   .show .inr (.inr #[lo,l1,l2])
  .obtain⟨u,hu,ru⟩:=rv.get hx;let:u=v:=by
    let hv':zJ[i]?=some v:=↑hv
    rw[hu]at hv';show qf hv'
   subst this;show#[x,ru,rfl,λys hy=>by rw[I.list_inj hy hq];show hx]
 done:=by intro X hP hw hK i zF s Z H A hh I st hg Q E k;subst hP hw hK;let#[xs,hq,hx]:=hg;let#[zJ,rv,p,hz]:=I.list hq;let hl:=rv.length;show wpAny_nextOf_list_end hh st p.isList (by simp;lia -verbose) k
def gy(a:Addr):It:=#[λi H=>∃xs x,H a=some (.tup xs)/\xs[i]?=some x,λi H x H'=>H'=H/\∀xs,H a=some (.tup xs)->xs[i]?=some x,λi H=>∃xs,H a=some (.tup xs)/\xs.length<=i]
def Qy{P:Program}{w:World}{K:W.Frag}(a it:Addr):yT P w K (gy a) it (λi h=>h.IsTupleIter it a i) where
 live:=λi h st=>by let#[o,e,c,d]:=st;show#[o,e,λv z=>by(rw[d]at z;cases z),by rw[c];decide,by rw[c];decide,by rw[c];decide,by rw[c];decide]
 keep:=λi h h' st k=>st.at k
 yl:=λi H x H' h=>h.1
 item:=by
  intro X hP hw hK i zF s Z H A hh I st hn hg;let#[xs,x,hq,hx]:=hg;let#[zJ,rv,p,hz]:=I.tuple (bK.of hq);let#[lo,l1,l2,l3]:=id p;let hne:a≠it:=λz=>by rw[z,hn]at hq;cases hq
  let hl:=rv.length;let hi:i<zJ.toArray.size:=by grind
  show#[_,_,_,_,Uc hh it a hne zJ.toArray,#[st,p],hi,m1,λb hb=>?_,λv hv=>?_,λh' z=>z.1]
  .grind
  .obtain⟨u,hu,ru⟩:=rv.get hx;let:u=v:=by grind
   subst this;show#[x,ru,rfl,λys hy=>by rw[hq]at hy;cases hy;show hx]
 done:=by intro X hP hw hK i zF s Z H A hh I st hg Q E k;let#[xs,hq,hx]:=hg;let#[zJ,rv,p,hz]:=I.tuple (bK.of hq);let hl:=rv.length;show Nt hh st p (by simp;lia -verbose) k
def QS{P:Program}{w:World}{K:W.Frag}(it:Addr)(x:Str)(t:Tok):yT P w K (wA x) it (λi h=>h.IsStrIter it (strIterType x) x t i) where
 live:=λi h st=>by
  obtain⟨o,e,c,d⟩:=st;let hc:o.cls=.type "str_ascii_iterator"\/o.cls=.type "str_iterator":=by
   rw[c];unfold strIterType;split
   .show .inl rfl
   .show .inr rfl
  grind
 keep:=λi h h' st k=>by let#[o,e,r]:=st;show#[o,k o e,r]
 yl:=λi H x H' h=>h.1
 item:=by
  intro X hP hw hK i zF s Z H A hh I st hn hg;let fin:∀v:Value,(∃c u,x.cps[i]?=some c/\v=.str #[[c].toArray] u)->∃y,zv y v/\(wA x).yld i H y H:=λv⟨c,u,e,ev⟩=>#[.str #[[c].toArray],by rw[ev];show#[u,rfl],rfl,c,e,rfl]
  cases ha:x.cps.all (·<128)
  .let e:strIterType x="str_iterator":=by unfold strIterType;rw[ha];rfl
   rw[e]at st⊢;show#[_,_,_,_,Draws.strWide hh it x t,st,hg,m1,λb hb=>.inl ↑hb,fin,λ_ z=>z]
  .let e:strIterType x="str_ascii_iterator":=by unfold strIterType;rw[ha];rfl
   rw[e]at st⊢;show#[_,_,_,_,Draws.strAscii hh it x t,st,hg,m1,λb hb=>.inl ↑hb,fin,λ_ z=>z]
 done:=by
  intro X hP hw hK i zF s Z H A hh I st hg Q E k;let hn:x.cps[i]?=none:=by let:x.cps.size<=i:=hg;simp[this]
  cases ha:x.cps.all (·<128)
  .let e:strIterType x="str_iterator":=by unfold strIterType;rw[ha];rfl
   rw[e]at st;show wpAny_nextOf_wide_end hh st hn k
  .let e:strIterType x="str_ascii_iterator":=by unfold strIterType;rw[ha];rfl
   rw[e]at st;show wpAny_nextOf_ascii_end hh st hn k
end FL
namespace FL
def cD(k:Nat):List D->List D
 |[]=>[]
 |d::l=>.tup [.int k,d]::cD (k+1) l
def jY(a:WE):WI:=λU Q E=>a U (λr v=>zo (give r v) λp=>zo (items p.1.toD) λl=>Q (cD 0 l) p.2) E
def MR:∀(l:List D)(k i:Nat)(d:D),(cD k l)[i]?=some d->∃e,l[i]?=some e/\d=.tup [.int ((k+i:Nat):Int),e]
 |[],_,_,_,h=>by simp[cD]at h
 |e::l,k,0,d,h=>by simp[cD]at h;show#[e,rfl,↑h.symm]
 |e::l,k,i+1,d,h=>by let#[v,h1,h2]:=MR l (k+1) i d (by simpa[cD] using h);show#[v,↑h1,by rw[h2];congr 4;lia]
def Mv:∀(l:List D)(k:Nat),(cD k l).length=l.length
 |[],_=>rfl
 |_::l,k=>by simp[cD,Mv l]
end FL
namespace FL
open PySem PySem.Spec PyProof.Rows L2
open AutoSeq1 (wpAny_loadPart')
def MT{ch:List Addr}(I:Inv X zF Z H s)(F:∀b∈ch,cW X zF H b)(k:∀b o,b∉ch->s.heap.get? b=some o->h'.get? b=some o):Inv X zF Z H {s with heap:=h',toks:=t'}:=by
 let G:∀b u,H b=some u->b∉ch:=λb u e z=>by rw[(F b z).1]at e;cases e
 refine I.step (g':=s.gens) (d':=s.drawn) (ch:=ch) (λb M=>?_) (λb o _ _ B e _=>k b o B e) (λb o _ _ B e _=>#[o.slots,k b o B e]) (λ_ _ _ _ n=>n)
  (λb o B e=>#[o,k b o B e]) (λ_ _ e=>e) (λ_ _ _ e=>e) (λb ps e=>#[#[],by rw[e];simp]) (λm L=>?_) (λb u e=>?_) I.bare
 .obtain⟨f0,f1,f2,f3,Y,O⟩:=F b M;show#[f3,f1,Y,O]
 .obtain⟨o,es,ep,J,r⟩:=L;show#[o,es,ep,k _ o (λz=>(F _ z).2.1 rfl) J,r]
 .show(I.hok b u e).stay (λc v B q=>k c v ?_ q) (λ_ q=>q) λ_ _ q=>q;grind
def Sa(f:cW X zF H b)(h:b≠T):cW X zF (L2.upd H T o) b:=#[by rw[Ao h];show f.1,f.2]
def Vx{ch:List Addr}(I:Inv X zF Z H s)(M:∀b∈ch,cW X zF H b)(L:∀b∈ch,b<s.heap.objs.size)(hz:xs.length<=sizeLine)(F:zC xs us)
  (O:∃o,h'.get? s.heap.objs.size=some o/\o.cls=.type "tuple"/\o.dict=none/\∃n,o.data=.seq us.toArray n)(k:∀b o,b∉ch->s.heap.get? b=some o->h'.get? b=some o):
  Inv X zF Z (L2.upd H s.heap.objs.size (.tup xs)) {s with heap:=h',toks:=t'}:=by
 let#[o,e,c,J,n,d]:=O;let v:o.isFreed=false:=by let#[oc,od,B,G]:=o;let Y:B=.seq us.toArray n:=d;subst Y;rfl
 have I1:Inv X zF Z (L2.upd H s.heap.objs.size (.tup xs)) {s with heap:=s.heap.push o}:=I.laid (t':=s.toks) (λb u q=>qc _ q) (q5 _) #[#[hz,λo' q=>by rw[qd _ v]at q;cases q;show J],us,F,#[o,qd _ v,c,n,d]];let I2:=MT I1 (h':=h') (t':=t') (ch:=ch) (λb z=>Sa (M b z) (ne_of_lt (L b z))) λb u z q=>by
  rcases Heap.get?_push_cases q with⟨rfl,rfl⟩|q
  .show e
  .show k b u z q
 show I2
def wD(J:It):It:=#[J.go,λi H x H'=>∃p y,H p=none/\J.yld i H y H/\x=.ref p/\H'=upd H p (.tup [.int i,y]),J.stop]
def Sv(G:IsEnum s.heap e it i J)(M:∀(Q:zi)(E:zi),(∀h' x,Heap.ExtBut it s.heap h'->(∃o,h'.get? x=some o/\o.cls=.type "StopIteration")->E (.ref x) {s with heap:=h'})->wpAny (model prog w) A.in1 (Builtin.SmallTypes.nextOf (.ref it)) Q E s)
  (Y:∀h',Heap.ExtBut it s.heap h'->Q none {s with heap:=h'}):wpAny (model prog w) A (pyNext (.ref e)) Q E s:=by
 let B:s.TypeIs (.ref e) "enumerate":=#[_,G,rfl]
 apply qa;apply wpAny_attempt;show wpAny_callSpecial?_slot (name:=Str.ofString "__next__") B F.slot_enumerate_next (zd F.slot_enumerate_next B F.entry_enumerate_next ?_ (F.args_enumerate_next_1 _));show wpAny _ _ (field (.ref e) 2>>=_) _ _ _;apply qa;show za G rfl (x:=.ref it) rfl (qa (M _ _ λh' x z v=>?_));let#[o,L,O]:=v;show qa (wpAny_isInstance (T:="StopIteration") (b:=true) #[o,L,O] isSubtype_stop (qb (Y _ z)))
def UO{P:Program}{w:World}{K:W.Frag}{J:It}{it e:Addr}{tn:Nat->Heap->Prop}{elts:List Expr}{k:Nat}{pos:Pos}(S:yT P w K J it tn)(hei:e≠it):
  gY P w K (.Tuple elts k pos) (wD J) [e,it] e (λi h=>(∃old,IsEnum h e it i old)/\tn i h) where
 mem:=m1
 obj:=λi h st b hb=>by
  simp at hb;rcases hb with rfl|rfl
  .obtain⟨old,q⟩:=st.1;show#[_,q,λv z=>by cases z]
  .obtain⟨o,h1,h2,_⟩:=S.live i h st.2;show#[o,h1,h2]
 keep:=λi h h' st kk=>by let#[#[old,q],t]:=st;show#[#[old,kk e (m1) _ q],S.keep i h h' t λo q=>kk it (m2) o q]
 item:=by
  intro X hP hw hK hc i zF s Z H E I hf st hg;let#[#[old,he],ht]:=st;let hh:X.A.in1.handled=none:=I.ok.hd hc;let#[fp,n,Pr,Sx,D,hS,hin,hif,hfp,hv,hs]:=S.item X hP hw hK i zF s Z H X.A.in1 hh I ht (hf it (m2)).1 hg;let hef:e∉fp:=λz=>by grind
  have hel:e<s.heap.objs.size:=qe he;let#[oi,hoi,_]:=S.live i _ ht;let hil:it<s.heap.objs.size:=qe hoi;show wpAny_pyNext_enum_itemD (A:=X.A) D he hS hin hei hef λx h1 tk hPx ho hS1 hT hsz hk=>?_;let#[y,ry,hy]:=hv x hPx;show#[_,rfl,wpAny_letOwnedTupleGo_enum ho λh2 he2 sb=>?_];let ne:s.heap.objs.size≠e:=ne_of_gt hel;let I2:Inv X zF Z (upd H s.heap.objs.size (.tup [.int i,y])) {s with heap:=h2,toks:=tk+1}:=Vx I (ch:=[e,it]) (us:=[.int i tk,x]) hf (λb hb=>by
    simp at hb;rcases hb with rfl|rfl
    .show hel
    .show hil) (by show 2<=_;decide) (.cons #[_,rfl] (.cons ry .nil)) #[_,sb.extBut _ _ ne hT,rfl,rfl,_,rfl] λb o hb q=>by
   simp at hb;show sb.extBut _ _ hb.1 (hk b o hb.1 hb.2 q)
  show#[.ref s.heap.objs.size,_,I2,rfl,#[s.heap.objs.size,y,I.hok.fresh (q5 _),hy,rfl,rfl],#[#[x,he2],S.keep _ _ _ (hs _ hS1) λo q=>sb.extBut _ _ (Ne.symm hei) q],λb hb=>?_];simp at hb;rcases hb with rfl|rfl
  .rw[Ao (ne_of_lt hel)];show(hf _ (m1)).1
  .rw[Ao (ne_of_lt hil)];show(hf _ (m2)).1
 done:=by intro X hP hw hK hc i zF s Z H E I hf st hg;let#[#[old,he],ht]:=st;let hh:X.A.in1.handled=none:=I.ok.hd hc;show Sv he (S.done X hP hw hK i zF s Z H X.A.in1 hh I ht hg) λh' hx=>#[rfl,MT I (t':=s.toks) (ch:=[it]) (λb hb=>hf b (by simp at hb;simp[hb])) λb o hb q=>hx b o ↑hb q]
 self:=λA i s Q E st h=>by let#[#[old,he],_]:=st;show wpAny_pyIter_enum he h
abbrev mP(h:Heap)(z:Addr):Heap:=(h.push {cls:=.type "tuple_iterator",data:=.fields [.ref z,.int 0 0].toArray}).push {cls:=.type "enumerate",data:=.fields [.none,.bool false,.ref h.objs.size,rawInt 0,.none,.none].toArray}
set_option maxHeartbeats 1000000 in
def Uo(z:Addr)(xs:Array Value)(n:Nat)(Y:Option Addr)(L:Array (Option Value)):Meets (Builtin.«enumerate.__new__» #[[.type "enumerate",.ref z],[]]) (λ_ R s=>s.heap.get? z=some {cls:=.type "tuple",dict:=Y,data:=.seq xs n,slots:=L}/\
  R (.ok (.ret (.ref (s.heap.objs.size+1)))) {s with heap:=mP s.heap z}):=
 .of_wp λprog w A R s G=>by
  let#[B,g,d,tk,os]:=s;let#[F,O]:=G;let ss:=sub_enumerate;let M:(B.push {cls:=.type "tuple_iterator",data:=.fields [.ref z,.int 0 0].toArray}).objs.size=B.objs.size+1:=Heap.size_push ..;let v:R (.ok (.ret (.ref (B.push {cls:=.type "tuple_iterator",data:=.fields [.ref z,.int 0 0].toArray}).objs.size))) {heap:=mP B z,gens:=g,drawn:=d,toks:=tk,os:=os}:=by rw[M];show O
  let J:Heap.IsTuple (Shared.heap #[B,g,d,tk,os]) z xs:=#[_,F,rfl,n,rfl]
  wp_walk using wpAny_loadPart' F
  show wpAny_stack_any λst=>qb ?_;split
  .rename_i c _ _ _ _ _;cases(c==Value.type "enumerate")<;>(wp_walk using wpAny_loadPart' F,wpAny_pyIter_tuple J;show#[_,rfl,v])
  .wp_walk using wpAny_loadPart' F,wpAny_pyIter_tuple J
   show#[_,rfl,v]
def Sq(Y:s.heap.IsTuple z xs)
  (k:∀h',IsEnum h' (s.heap.objs.size+1) s.heap.objs.size 0 .none->h'.IsTupleIter s.heap.objs.size z 0->(∀b o,s.heap.get? b=some o->h'.get? b=some o)->Q (.ref (s.heap.objs.size+1)) {s with heap:=h'}):
  wpAny (model prog w) A (call (.type "enumerate") [.ref z]) Q E s:=by
 let#[#[c,dd,dt,G],L,O,n,M]:=Y;let e1:c=.type "tuple":=O;let e2:dt=.seq xs n:=M;subst e1 e2;show callType_new F.called_enumerate ⋯ (F.typeCall_enumerate_1 _) (F.newCall_enumerate_1 _) (λv=>F.args_object_init_2 v _) F.entry_enumerate_new (Uo z xs n dd G) #[L,?_];let J:(s.heap.push {cls:=.type "tuple_iterator",data:=.fields [.ref z,.int 0 0].toArray}).objs.size=s.heap.objs.size+1:=Heap.size_push ..;let B:IsEnum (mP s.heap z) (s.heap.objs.size+1) s.heap.objs.size 0 .none:=by let:=qd (s.heap.push {cls:=.type "tuple_iterator",data:=.fields [.ref z,.int 0 0].toArray}) (o:={cls:=.type "enumerate",data:=.fields [.none,.bool false,.ref s.heap.objs.size,rawInt 0,.none,.none].toArray}) rfl;rw[J]at this;show this
 show#[#[_,B,rfl],k _ B #[_,qc _ (qd _ rfl),rfl,rfl] λb o x=>qc _ (qc _ x)]
def yC(K:W.Frag)(z:TA):TI:=λZ H R=>z Z H λv H1=>(∃a,v=[.ref a]/\(∃xs,bL K H1 a xs)/\R (wD (zO K a)) H1)\/(∃a,v=[.ref a]/\(∃xs,H1 a=some (.tup xs))/\R (wD (gy a)) H1)\/∃x,v=[.str x]/\R (wD (wA x)) H1
def QG(hc:X.calm=true)(hg:Gl X "enumerate")(hm:X.mg "enumerate"=none)(hv:bootBuiltins "enumerate"=some (.type "enumerate"))(hl:PA X [a] tl)
  (hs:starEach [a] X.env=[(false,eval a X.env)]:=by rfl):PI X (.Tuple elts kk tpos) (.Call (.Name "enumerate" p) [a] [] pos) (yC X.K tl):=by
 intro zF s Z H R I h;show wpAny_Call_Name_kw (Gb I hg hm hv ?_ ⋯ ⋯);show PyProof.Rows.callWith_type1 (Al (hl pos zF s Z H _ I h) λus v zq=>?_) hs rfl;let#[vs,H1,G,O,q1]:=zq;let F:∀{J:It}{M:Nat->Heap->Prop}{h':Heap},yT X.prog X.w X.K J v.heap.objs.size M->R (wD J) H1->IsEnum h' (v.heap.objs.size+1) v.heap.objs.size 0 .none->M 0 h'->(∀b o,v.heap.get? b=some o->h'.get? b=some o)->
   wpAny (model X.prog X.w) X.A (pyIter (.ref (v.heap.objs.size+1))) (yW X zF Z (.Tuple elts kk tpos) R) X.xe {v with heap:=h'}:=λ{J M h'} S hR z ht B=>by
  show wpAny_pyIter_enum (s:={v with heap:=h'}) z ?_;show#[v.heap.objs.size+1,[v.heap.objs.size+1,v.heap.objs.size],_,_,H1,rfl,G.kept (t':=v.toks) B,UO S (Nat.succ_ne_self _),#[#[_,z],ht],λb hb=>?_,hR];simp at hb;rcases hb with rfl|rfl
  .show G.fpOk (le_succ _) (G.hok.fresh (le_succ _))
  .show G.fpOk (q5 _) (G.hok.fresh (q5 _))
 rcases q1 with⟨b,e,⟨xs,hq⟩,q⟩|⟨b,e,⟨xs,hq⟩,q⟩|⟨x,e,q⟩
 .subst e;let#[u,rfl,L]:=vals1 O;cases L;let#[h1,rv,Y,hz]:=G.list hq;show call_enumerate_list Y.isList λh' z hi _ B=>F (Sk b _) q z hi B
 .subst e;let#[u,rfl,L]:=vals1 O;cases L;let#[h1,rv,Y,hz]:=G.tuple (bK.of hq);show Sq Y λh' z hi B=>F (Qy b _) q z hi B
 .subst e;let#[u,rfl,L]:=vals1 O;let#[t,rfl]:=L;show call_enumerate_str λh' z hi _ B=>F (QS _ x t) q z hi B
def Jw{K:W.Frag}(hy:∀i H x H',J.yld i H x H'->H'=H)(h:fU K J l F0):fU K (wD J) (cD 0 l) F0:=λi U Z F G H sm v=>by let#[h1,h2]:=h i U Z F G H sm v;show#[λd hd=>?_,λM=>h2 (by rw[Mv]at M;show M)];let#[e,he,rfl]:=MR l 0 i d hd;let#[g1,g2]:=h1 e he;show#[g1,λx H' zq=>?_];let#[p,y,L,z,ex,eH]:=zq;subst ex eH;let#[Y,s1,B,rp]:=g2 y H z;let#[O,_,_]:=B.free L;show#[upd Y p (.tup [.int i,y]),s1.trans (zp.upd O),B.newF L,?_];let:=aN.tup (K:=K) (F:=upd Y p (.tup [.int i,y])) (a:=p) (xs:=[.int i,y]) (ds:=[.int i,e]) Bc (.cons (.int i) (.cons (rp.mono (zp.upd O)) .nil));simpa using this
def Ti{K:W.Frag}{a:Addr}(e:F0 a=some (.tup xs))(r:zD K F0 xs l):fU K (gy a) l F0:=λi U Z F G H J v=>by let B:H a=some (.tup xs):=(J.trans v.fr) _ _ e;show#[λd O=>?_,λh=>#[xs,B,by rw[r.len];show h]];let#[x,L,M]:=r.get O;show#[#[xs,x,B,L],λy H' z=>?_];let#[rfl,z]:=z;let:x=y:=qf (L.symm.trans (z xs B));subst this;show#[F,zp.refl F,v,M.mono J]
def NR:bootBuiltins "enumerate"=some (.type "enumerate"):=by decide+kernel
def Lg(hc:X.calm=true)(hg:Gl X "enumerate")(hm:X.mg "enumerate"=none)(hv:bootBuiltins "enumerate"=some (.type "enumerate"))(ha:FE X a we)(hs:starEach [a] X.env=[(false,eval a X.env)]:=by rfl):
  FI X (.Tuple elts kk tpos) (.Call (.Name "enumerate" p) [a] [] pos) (jY we):=λpn xe hp=>by
 show PI.imp (QG (X:=wp X pn xe) hc hg hm hv (Aa ha Ac hs pn xe hp) hs) λZ H R q=>?_;let#[F,G,U,P,PX,h2,hw,O,hx]:=q;show#[F,G,U,λrs h1=>match rs with|[r]=>(zo (give r h1) λp=>zo (items p.1.toD) λl=>P (cD 0 l) p.2)|_=>False,PX,h2,hw,λrs h1 vs F1 H1 B s1 r1 hl M=>?_,hx];match rs,vs,M,r1,B with
 |[r],[v],M,r1,B=>
  let#[#[s,L],eg,B]:=Ap B;let#[l,el,B]:=Ap B;let#[F2,s2,l2,r2]:=AD (U':=[]) (Z':=[]) r1 hl M.1 eg;let#[F3,s3,rp,r3]:=Rel.giveD (U:=L) (vs:=[v]) (ss:=[s]) r2 (l2.trans hl);let sm:=s1.trans (s2.trans s3);cases rp with
  |cons a0 b0=>
   let J:items s.toD=some l:=el;generalize s.toD=d at a0 J;cases a0 with
   |lst Y r0=>cases J;show .inl #[_,rfl,#[_,bL.mono r3.fr Y],O _ L F3 H1 _ B sm r3 (Jw (λ_ _ _ _ z=>z.1) (Nl Y r0))]
   |tup Y r0=>cases J;show .inr (.inl #[_,rfl,#[_,r3.fr _ _ Y],O _ L F3 H1 _ B sm r3 (Jw (λ_ _ _ _ z=>z.1) (Ti Y r0))])
   |str Y z0=>cases J;show .inr (.inr #[_,rfl,O _ L F3 H1 _ B sm r3 (Jw (λ_ _ _ _ z=>z.1) (LV Y))])
   |_=>cases J
 |[],_,_,_,B=>show B.elim
 |[_],[],M,_,_=>show M.elim
 |[_],_::_::_,M,_,_=>show M.2.elim
 |_::_::_,_,_,_,B=>show B.elim
end FL
namespace FL
open PySem PySem.Spec PyProof.Rows L2
def My(v:bR k A):A.mark none=A:=by first|rfl|assumption|(simp_all;done)
end FL
namespace FL
open Classical in
def eE(ks:List D)(k:D):Option Nat:=ks.findIdx? λx=>decide (x=k)
def dD(t:Bool)(ks:List D)(l:List S)(k:D)(s:S):S:=match eE ks k with
 |some i=>.dct t ks (l.set i s)
 |none=>.dct t (ks++[k]) (l++[s])
end FL
namespace FL
open PySem PySem.Spec PyProof.Rows L2
def Px:FE X (.Dict [] [] pos) (hV false):=λpn xe B=>by show PE.imp Rw λZ H Q q=>?_;let#[F,G,U,P,PX,v,J,z,L]:=q;intro p B;let:=Rel.newO (s:=.dct false [] []) v B (.dK (zG:=[]) Bc rfl .nil);show z _ U _ F _ J (zp.refl F) this trivial
def Jg(h:eE ks k=some i):ks[i]?=some k:=by unfold eE at h;rw[List.findIdx?_eq_some_iff_getElem]at h;let#[hi,h1,_]:=h;rw[qh hi];congr 1;simpa using h1
def RU(h:eE ks k=none):k∉ks:=by unfold eE at h;grind
section
variable{κ:Type}[DecidableEq κ]{kd:κ->D}(inj:∀a b,kd a=kd b->a=b)
include inj
def RT{zG:List (κ×V)}{k:κ}{v:V}{i:Nat}(hn:(zG.map λp=>kd p.1).Nodup)(h:(zG.map λp=>kd p.1)[i]?=some (kd k)):AB zG k v=zG.set i (k,v):=by
 let hi:i<zG.length:=by let:=(qg.mp h).1;simpa using this
 let J:zG[i].1=k:=by rw[qE,qh hi]at h;show inj _ _ (qf h)
 let B:(zG.any λL=>decide (L.1=k))=true:=any_eq_true.mpr #[zG[i],getElem_mem hi,by simp[J]];unfold AB;rw[qZ B];apply ext_getElem?;intro j;rw[qE,getElem?_set];by_cases G:i=j
 .subst G;rw[qh hi];simp[J];show hi
 .rw[q4 G];cases q:zG[j]? with
  |none=>rfl
  |some p=>
   have F:¬p.1=k:=λz=>by
    apply G;let h2:(zG.map λp=>kd p.1)[j]?=some (kd k):=by rw[qE,q,<-z];rfl
    show(getElem?_inj ↑hi hn).mp (h.trans h2.symm)
   simp[F]
omit inj in
def SE{zG:List (κ×V)}{k:κ}{v:V}(h:kd k∉zG.map λp=>kd p.1):AB zG k v=zG++[(k,v)]:=by unfold AB;grind
def Lo{zG:List (κ×V)}{k:κ}{v:V}{ks:List D}(B:ks=zG.map λp=>kd p.1)(hn:ks.Nodup):
  (∀m,eE ks (kd k)=some m->ks=(AB zG k v).map (λp=>kd p.1)/\(zG.map (·.2)).set m v=(AB zG k v).map (·.2))/\(eE ks (kd k)=none->ks++[kd k]=(AB zG k v).map (λp=>kd p.1)/\zG.map (·.2)++[v]=(AB zG k v).map (·.2)):=by
 subst B;show#[λm z=>?_,λz=>?_]
 .let h:=Jg z;rw[RT inj hn h,map_set,map_set];show#[?_,rfl];apply ext_getElem?;intro j;rw[getElem?_set];by_cases F:m=j
  .subst F;rw[qZ rfl,qZ (qg.mp h).1,h]
  .rw[q4 F]
 .rw[SE (RU z),map_append,map_append];show#[rfl,rfl]
end
inductive iM(ks:List D)(xs:List V):Bool->HO->Prop
 |k {zG:List (aL×V)}:ks=zG.map (λp=>aG p.1)->xs=zG.map (·.2)->iM ks xs false (.dK zG)
 |t {zG:List (List aL×V)}:ks=zG.map (λp=>D.tup (p.1.map aG))->xs=zG.map (·.2)->iM ks xs true (.dT zG)
section
variable{K:W.Frag}
def Gg(r:aJ K F H v (.dct t ks l) fp):∃a o xs z,v=.ref a/\fp=a::z/\H a=some o/\iM ks xs t o/\zu K F H xs l z:=by
 cases r with
 |dK e q r=>show#[_,_,_,_,rfl,rfl,e,.k q rfl,r]
 |dT e q r=>show#[_,_,_,_,rfl,rfl,e,.t q rfl,r]
def iM.mk{a:Addr}{o:HO}{t:Bool}{ks:List D}{xs:List V}{l:List S}{v:List Addr}(d:iM ks xs t o)(e:H a=some o)(r:zu K F H xs l v):aJ K F H (.ref a) (.dct t ks l) (a::v):=by
 cases d with
 |k q z=>subst z;show .dK e q r
 |t q z=>subst z;show .dT e q r
def iM.len{o:HO}{t:Bool}{ks:List D}{xs:List V}(d:iM ks xs t o):ks.length=xs.length:=by
 cases d with
 |k q z=>subst z;subst q;simp
 |t q z=>subst z;subst q;simp
def iM.put{a:Addr}{o:HO}{t:Bool}{ks:List D}{xs:List V}{y v:V}{q:D}(d:iM ks xs t o)(e:H a=some o)(r:aN K H y q)(Y:aV t q=true)(hn:ks.Nodup)(O:ks.length<sizeLine):
  ∃o',rA H a y v (upd H a o')/\(∀m,eE ks q=some m->iM ks (xs.set m v) t o')/\(eE ks q=none->iM (ks++[q]) (xs++[v]) t o'):=by
 cases d with
 |@k G h1 h2=>subst h2;let#[M,rfl,rfl]:=Fs r Y;let#[L,J]:=Lo (λ_ _=>EB) (k:=M) (v:=v) h1 hn;show#[_,.inl #[G,M,e,rfl,by rw[h1,qo]at O;show O,rfl],λm B=>.k (L m B).1 (L m B).2,λB=>.k (J B).1 (J B).2]
 |@t G h1 h2=>
  subst h2;cases r with
  |tup e1 q=>let#[F,rfl,rfl]:=Ft q Y;let#[L,J]:=Lo (kd:=λl:List aL=>D.tup (l.map aG)) (λa b z=>Gp (D.tup.inj z)) (k:=F) (v:=v) h1 hn;show#[_,.inr #[G,F,_,e,rfl,e1,by rw[h1,qo]at O;show O,rfl],λm B=>.t (L m B).1 (L m B).2,λB=>.t (J B).1 (J B).2]
  |_=>cases Y
def Rel.dct{D:Addr}(r:Rel K (U++[some s]) (Z++[some v]) F G H)(hs:slot U n=some (.dct t ks l))(M:Z[n]?=some (some (.ref D)))(hD:H D=some o)(ho:iM ks xs t o)(h7:iM ks' h3 t o')
  (h8:∀(H':Hp)(fl fs:List Addr),zu K F H' xs l fl->aJ K F H' v s fs->∃B rest,zu K F H' h3 l' B/\(B++rest).Perm (fl++fs)):
  Rel K (U.set n (some (.dct t ks' l'))) Z F G (upd H D o'):=by
 let hl:=Af r;let#[fp,e,nd,ap]:=r.en;let#[f1,f2,rfl,a,b]:=e.cut hl;let#[v',fa,fi,fb,e1,rfl,q,up]:=a.at hs;rw[M]at e1;let e2:V.ref D=v':=↑e1
 subst e2;let#[a',o2,h2,fl,z1,rfl,Y,O,rl]:=Gg q;cases z1;rw[hD]at Y;cases Y;let ex:h2=xs:=by
  cases ho with
  |k _ z=>cases O with|k _ z'=>rw[z,z']
  |t _ z=>cases O with|t _ z'=>rw[z,z']
 subst ex;cases b with
 |so sr nl=>
  cases nl;rename_i fs;let#[n1,n2,h6]:=qw.mp nd;let#[na,J,h5]:=qw.mp n1;let#[ni,nb,J]:=qw.mp J;let#[nD,hk]:=qK.mp ni;let e4:D∉fa:=λz=>h5 D z D (qj _ qm) rfl;let e3:D∉fb:=λz=>J D qm D z rfl;let h9:D∉fs:=λz=>h6 D (qi _ (qj _ qm)) D ↑z rfl;let h1:=ap D (qj _ (qi _ (qj _ qm)));let ne:∀{l:List Addr},D∉l->∀x∈l,upd H D o' x=H x:=λh x L=>Ao λz=>h (z▸L);let#[B,rest,h4,pm]:=h8 (upd H D o') fl fs (rl.mono (zp.refl F) (ne nD)) (sr.mono (zp.refl F) (ne h9));let a2:=up (F':=F) (H':=upd H D o') (o:=some (.dct t ks' l')) (u:=some (.ref D)) (zp.refl F) (λx L=>Ao λz=>(qx.mp L).elim (λw=>e4 (z▸w)) λw=>e3 (z▸w)) (.so (h7.mk Bc h4) .nil);rw[GZ M]at a2;let p:(fa++((D::(B++rest))++[]++fb)).Perm (fa++((D::fl)++fb)++(fs++[])):=by show(List.Perm.append_left _ (List.Perm.append_right _ (List.Perm.append_right _ (List.Perm.cons _ pm)))).trans ?_;simp;show List.Perm.append_left _ (List.Perm.cons _ (List.Perm.append_left _ qM))
  let sb:List.Sublist (fa++((D::B)++[]++fb)) (fa++((D::(B++rest))++[]++fb)):=by simp only[qp,qN];show List.Sublist.append (List.Sublist.refl _) (List.Sublist.cons_cons _ (List.Sublist.append (List.Sublist.refl _) (List.sublist_append_right _ _)))
  show#[zp.updR r.fr h1.1,λx o w=>?_,_,a2,sb.nodup (p.nodup_iff.mpr nd),λx L=>ap x (p.mem_iff.mp (sb.subset L))];let L:x≠D:=λz=>by rw[z,h1.2]at w;cases w
  rw[Ao L];show r.gr x o w
def Rel.dput{D:Addr}(r:Rel K (U++[some s]) (Z++[some v]) F G H)(hs:slot U n=some (.dct t ks l))(z:Z[n]?=some (some (.ref D)))(ry:aN K H y q)(hk:aV t q=true)(hn:ks.Nodup)(hb:ks.length<big):
  ∃H',rA H D y v H'/\Rel K (U.set n (some (dD t ks l q s))) Z F G H':=by
 show cps λ_ kk=>?_;let#[v',fp,e1,B]:=(r.drop (Af r)).at hs;rw[z]at e1;let e2:V.ref D=v':=↑e1
 subst e2;let#[a',o,xs,fl,z1,_,Y,L,rl]:=Gg B;cases z1;let h3:=L.len;let h4:=rl.len;let#[o',dp,h1,h2]:=L.put (v:=v) Y ry hk hn (by rw[ze];show lt_trans hb ⋯);show kk ?_;show#[_,dp,?_];cases J:eE ks q with
 |some m=>
  let ed:dD t ks l q s=.dct t ks (l.set m s):=by unfold dD;rw[J]
  rw[ed];let O:m<l.length:=by let:=(qg.mp (Jg J)).1;lia
  show r.dct hs z Y L (h1 m J) λH' fl fs rl B=>?_;let#[ga,gi,gb,rfl,M]:=rl.set O;show#[_,gi,M (λ_ _=>rfl) B,?_];simp;show List.Perm.append_left _ ((List.Perm.append_left _ qM).trans (qM.trans (by simp)))
 |none=>
  let ed:dD t ks l q s=.dct t (ks++[q]) (l++[s]):=by unfold dD;rw[J]
  rw[ed];show r.dct hs z Y L (h2 J) λH' fl fs rl B=>#[fl++fs,[],zu.snoc rl B,by simp]
end
end FL
namespace FL
def iW(k v:WE):WE:=λU Q E=>k U (λx B=>v B (λy z=>zo (view x z) λq=>zo (give y z) λp=>bQ q=true/\Q (.v (.dct false [q] [p.1])) p.2) E) E
end FL
namespace FL
open PySem PySem.Spec PyProof.Rows L2
def Sl(hk:FE X k wk)(hv:FE X v wv):FE X (.Dict [some k] [v] pos) (iW wk wv):=λpn xe hp=>by
 show PE.imp (Ql (X:=wp X pn xe) (SN (hk pn xe hp) (hv pn xe hp) RQ) rfl rfl (by simp) (by show 1<=15;decide)) λZ H Q q=>?_;let#[F,G,U,P,PX,h8,hw,e3,hx]:=q;intro p hp;let r0:=Rel.newO (s:=.dct false [] []) h8 hp (.dK (zG:=[]) Bc rfl .nil);let#[G0,h2,g0,O]:=r0.hide (Af r0);show#[F,G0,U,_,PX,h2,hw,λrx U1 vx F1 H1 hc s1 r1 h7=>?_,hx.mono (λ_ z=>z) (zp.refl F) g0];let l1:=Af r1;let#[G1,h1,g1,back1]:=r1.hide l1;show#[F1,G1,U1,_,PX,h1,hc,λry U2 Y F2 H2 hb s2 r2 h6=>?_,hx.mono (λ_ z=>z) s1 (g0.trans g1)];let l2:=Af r2;let#[q,eq,hi]:=Ap hb;let#[#[t,B],eg,h5,e4]:=Ap hi;let r3:=O (s1.trans s2) (back1 s2 r2);simp only[qp,qN,nil_append]at r3
 --y,x,the dict
 let#[F3,s3,l3,r4]:=AD (U':=[zr rx,some (.dct false [] [])]) (Z':=[some vx,some (.ref p)]) r3 l2 h6 eg;let h9:Rel X.K (U2++zr rx::[some (.dct false [] [])]) (Z++some vx::[some (.ref p)]) F2 G H2:=r3.mid l2;let rq:=Av (U':=[some (.dct false [] [])]) (Z':=[some (.ref p)]) h9 l2 h7 eq;let#[J,rfl,rfl]:=Fs rq h5;let M:B.length=Z.length:=l3.trans l2;let r5:Rel X.K (B++[some t,some (.dct false [] [])]) (Z++[some Y,some (.ref p)]) F3 G H2:=by let:=Rel.mid (U:=B++[some t]) (Z:=Z++[some Y]) (U':=[some (.dct false [] [])]) (Z':=[some (.ref p)]) (o:=zr rx) (w:=some (kV J)) ↑r4 (by simp[M]);simpa using this
 let r6:=Rel.swap (U1:=[some t]) (Z1:=[some Y]) (U2:=[some (.dct false [] [])]) (Z2:=[some (.ref p)]) M rfl r5;let r7:Rel X.K ((B++[some (.dct false [] [])])++[some t]) ((Z++[some (.ref p)])++[some Y]) F3 G H2:=↑r6
 let h3:slot (B++[some (.dct false [] [])]) B.length=some (.dct false [] []):=EX (U':=[]);let L:(Z++[some (V.ref p)])[B.length]?=some (some (.ref p)):=by rw[M];simp
 have h4:H2 p=some (.dK []):=by
  let#[v',fp,e1,sr]:=(r7.drop (Af r7)).at h3;rw[L]at e1;let e2:V.ref p=v':=↑e1
  cases sr with
  |@dK _ zG _ _ fl hH hs rl=>simp_all
 let r8:=r7.dct (ks':=[aG J]) (l':=[t]) (o':=.dK [(J,Y)]) h3 L h4 (.k rfl rfl) (.k rfl rfl) λH' fl fs rl sr=>#[fs++[],[],.cons sr .nil,by cases rl;simp]
 show#[h4,[(J,Y)],rfl,by show 1<=15;decide,?_];let e9:(B++[some (S.dct false [] [])]).set B.length (some (.dct false [aG J] [t]))=B++[some (.dct false [aG J] [t])]:=JG (U':=[]);rw[e9]at r8;show e3 _ B _ F3 _ e4 (s1.trans (s2.trans s3)) r8 trivial
section
variable{K:W.Frag}
def Ie:∀{us:List Value},zC (ns.map V.int) us->IntsAre us ns:=by
 induction ns with
 |nil=>intro us r;cases r;show .nil
 |cons n ns B=>
  intro us r;cases r with
  |cons z v=>let#[t,rfl]:=z;show .cons _ t (B v)
end
end FL
namespace FL
def lO(i j:Nat)(a:WA):WS:=λD U=>a U (λz v=>match z with
 |[r,t]=>zo (give r v) λp=>zo (give t p.2) λq=>D.nx ((q.2.set i (some p.1)).set j (some q.1))
 |_=>False) D.ex
end FL
namespace FL
open PySem PySem.Spec PyProof.Rows L2
def Mm{α:Type}{l:List α}{r:List α}{v:α}(h:n<l.length):(l++r).set n v=l.set n v++r:=by rw[List.set_append_left _ _ h]
def Kw(hc:X.calm=true)(hN:X.N.Nodup)(hi:X.N[i]?=some x)(hj:X.N[j]?=some y)(h1:i≠j)(h6:i∉ks)(h5:j∉ks)
  (hx:X.env.scope.names.lookup x=some .local)(hy:X.env.scope.names.lookup y=some .local)(ha:FA X [a,b] wa)
  (hw:swappedStores [.Tuple [.Name x px,.Name y py] kt pt] (.Tuple [a,b] k2 h2) X.env=pure (some [x,y]):=by rfl)
  (hs:swapsWithSole [.Tuple [.Name x px,.Name y py] kt pt] (.Tuple [a,b] k2 h2) pos.line X.env=pure false:=by rfl):
  FS X ks (.Assign [.Tuple [.Name x px,.Name y py] kt pt] (.Tuple [a,b] k2 h2) pos) (lO i j wa):=λpn xe hp zF s Z H D I q=>by
 let M:Z.length=X.N.length:=I.len;let h9:i<Z.length:=by rw[M];show(qg.mp hi).1
 let h8:j<Z.length:=by rw[M];show(qg.mp hj).1
 show OD (X:=wp X pn xe) hc hN hi hj h1 hx hy (ha pn xe hp) hw hs zF s Z H D I ?_;let#[F,G,U,E,h3,h4,n,b2,c,r,x2]:=q;let x0:XC (wp X pn xe) (·=Z) F G E.ex:=x2.mono (λe1 z=>by rw[z];show KP.refl) (zp.refl F) (zp.refl G);show#[F,G,U,_,_,h3,h4,λrs J vs F1 H1 B s1 r1 hl O=>?_,x0];match rs,vs,O,r1,B with
 |[r,t],[v,u],O,r1,B=>
  dsimp only at B;let#[#[s',L],eg,B]:=Ap B;let#[#[t',Y],h7,B]:=Ap B;let e:aK [r,t] J=some ([s',t'],Y):=by show(match give r J with|some (s,J)=>(match aK [t] J with|some (ss,L)=>some (s::ss,L)|none=>none)|none=>none)=_;rw[eg];show(match(match give t L with|some (s,J)=>some ([s],J)|none=>none)with|some (ss,L)=>some (s'::ss,L)|none=>none)=_;rw[h7]
  let#[F2,s2,l2,z2,r2]:=Ia (rs:=[r,t]) (vs:=[v,u]) (U':=[]) (Z':=[]) r1 hl O e;let l3:Y.length=Z.length:=l2.trans hl;let r3:Rel X.K ((Y++[some s'])++[some t']) ((Z++[some v])++[some u]) F2 G H1:=↑r2
  let r4:=r3.store (i:=j) (by simp[l3]) (by simp;lia -verbose);rw[Mm ∅,Mm ∅]at r4;let r5:=r4.store (i:=i) (by simp[l3]) (by simp;lia -verbose);rw[set_comm _ _ (Ne.symm h1),set_comm (α:=Option V) _ _ (Ne.symm h1)]at r5;show#[v,u,rfl,n _ _ F2 H1 B (KP.trans (KP.set h6) (KP.set h5)) (s1.trans s2) r5]
 |[],_,_,_,B=>show B.elim
 |[_],_,_,_,B=>show B.elim
 |[_,_],[],O,_,_=>show O.elim
 |[_,_],[_],O,_,_=>show O.2.elim
 |[_,_],_::_::_::_,O,_,_=>show O.2.2.elim
 |_::_::_::_,_,_,_,B=>show B.elim
section
open PySem.W HT
def rest(h₀:Heap)(L:Addr)(h:Heap):List (Addr×Obj):=(List.range h.objs.size).filterMap λb=>if b=L then none else if(h₀.get? b).isSome then none else(h.get? b).map λo=>(b,o)
end
def RO{vs:List Value}(few:vs.length<2):(vs.toArray.zip vs.toArray).map (·.2)=vs.toArray:=by rw[List.zip_toArray,List.map_toArray,List.map_snd_zip (q5 _)]
def LU(B:s.heap.get? a=some (seqObj "list" vs.toArray n))(few:vs.length<2)
  (k:P (.done (.ret .none)) {s with heap:=sortedHeap s.heap a vs vs.toArray}):wpAny (model prog w) A (Builtin.«list.sort» ⟨[.ref a],[]⟩) P E s:=by
 rw[list_sort_plain];let v:vs.toArray.size<2:=few;let F:∃e,(s.heap.update a (Obj.mapSeq λ_=>#[])).get? a=some (seqObj "list" #[] e):=#[_,get?_update_seq B _]
 obtain⟨e,mid⟩:=F;let z:(((s.heap.update a (Obj.mapSeq λ_=>#[])).push (seqObj "tuple" vs.toArray 0)).push (seqObj "list" #[] 0)).get? a=some (seqObj "list" #[] e):=
  qc _ (qc _ mid)
 show qa (listItems_at B rfl (qa (listUpdate_at B rfl (qa (seqEpoch_at mid rfl (qa (wpAny_newTuple (qa (wpAny_newList (zf ?_))))))))));dsimp only;rw[qZ v,qZ v];show qa (qb (?_:wpAny _ _ _ _ _ _));let G:(arrOf (SortSt.mk' general' (vs.toArray.zip vs.toArray) #[] 7 none)).map (·.2)=vs.toArray:=by show RO few
 show qa (qb (?_:wpAny _ _ _ _ _ _));rw[G];show qa (seqEpoch_at z rfl (qa (listUpdate_at z rfl ?_ (hsz2:=by rw[ze];lia))));simp;show qb k
def Vl(B:s.heap.IsList l vs.toArray)(few:vs.length<2)
  (k:Q (.ref (s.heap.objs.size+1)) {s with heap:=sortedAll s.heap vs vs.toArray}):wpAny (model prog w) A (call (.builtin "sorted") [.ref l]) Q E s:=by
 show Calls.call_function_entry kind_sorted plain_sorted entry_sorted (args_sorted1 _) (?_:wpAny _ _ _ _ _ _);show qa (m:=checkCount "sorted" 1 1 _) (qb (qa (collect_list B (qa (wpAny_newList ?_)))));generalize v:((s.heap.push (seqObj "list" #[] 0)).update s.heap.objs.size (Obj.mapSeq (·++vs.toArray)))=h1;let z:h1.objs.size=s.heap.objs.size+1:=by rw[<-v,Heap.size_update,size_push']
 let new:(h1.push (seqObj "list" vs.toArray 0)).get? (s.heap.objs.size+1)=some (seqObj "list" vs.toArray 0):=z▸qd _ rfl;rw[z];show qa (zf (zd slot_list_sort #[_,new,rfl] entry_list_sort (LU new few #[_,rfl,?_]) (args_list_sort _)));subst v;show qb #[_,rfl,k]
section
variable{K:W.Frag}
def tM(K:W.Frag):List V->Hp->VK->Prop:=λxs H Q=>∃a ys,xs=[.ref a]/\bL K H a ys/\ys.length<2/\∀q,H q=none->Q (.ref q) (upd H q (.lst ys))
def VA:aR X (.builtin "sorted") (tM X.K):=by
 intro zF s Z H xs L Q I r h;let#[a,ys,rfl,G,h2,q]:=h;cases r with
 |cons B z=>cases z;cases B;let#[v,r,F,_]:=I.list G;show Vl F.isList (by rw[<-r.length];show h2) ?_;let#[e,J]:=sortedAll_at s.heap v v.toArray;show#[.ref (s.heap.objs.size+1),_,I.laid (t':=s.toks) (o:=.lst ys) (λb M w=>sortedAll_old w) (le_succ _) ?_,rfl,q _ (I.hok.fresh (le_succ _))];show#[by rw[ze];lia,v,e,r,J]
end
end FL
namespace FL
def cR(a b:D):Option Bool:=match b with
 |.str l=>match a with
  |.str x=>some (fQ l x).isSome
  |_=>none
 |d=>pU a d
def dI(a b:D):Option Bool:=(cR a b).map (!·)
def cP(a:WE):WE:=λU Q E=>a U (λr v=>zo (give r v) λp=>Q (.v (.sh p.1.toD)) p.2) E
def zV(i:Nat)(w:WS):WS:=λD U=>w {D with nx:=λv=>zo (slot v i) λs=>D.nx (v.set i (some (.sh s.toD)))} U
def uF(d q:D):Option (Option D):=match d with
 |.dct t ks vs=>if aV t q then some (lk ks vs q)else none
 |_=>none
def vI:D->Bool
 |.dct _ _ _=>true
 |_=>false
def jX(o k d:WE):WE:=λU Q E=>o U (λx B=>(zo (zB x B) λG=>vI G=true)/\k B (λy F=>d F (λz v=>
 zo (zB x v) λG=>zo (view y v) λq=>zo (uF G q) λo=>match o with
  |some e=>Q (.v (.sh e)) v
  |none=>Q z v) E) E) E
def kM:List D->Option S
 |[.lst l]=>(eR l).bind λv=>(v.min?).map λm=>S.sh (.int m)
 |_=>none
def iU(it:WI):WE:=λU Q E=>it U (λl v=>l.length<=big/\Q (.v (.lst (l.map .sh))) v) E
mutual
def oI:D->Bool
 |.non=>true
 |.bl _=>true
 |.int i=>decide (-1000000000000<i)&&decide (i<1000000000000)
 |.str l=>l.all λc=>decide (c<1114112)
 |.tup l=>eA l
 |.lst l=>eA l
 |_=>false
def eA:List D->Bool
 |[]=>true
 |d::r=>oI d&&eA r
end
mutual
def vU:D->Nat
 |.int _=>41
 |.str l=>l.length
 |.tup l=>lB l
 |.lst l=>lB l
 |_=>0
def lB:List D->Nat
 |[]=>0
 |d::r=>vU d+1+lB r
end
def cL(p q:D):Option S:=match p,q with
 |.str x,.int n=>if 0<=n/\n<=1000/\x.length<=500 then some (.sh (.str (List.replicate n.toNat x).flatten))else none
 |p,q=>mA p q
end FL
namespace FL
open PySem PySem.Spec PyProof.Rows L2
section
variable{K:W.Frag}
def Vu(x y:Str):Txt.contains x y=(fQ x.cps.toList y.cps.toList).isSome:=by
 let h:=Qh x y;unfold Txt.find at h;unfold Txt.contains;cases q:Builtin.Str.occurrences x y 0 x.length 1 with
 |nil=>
  rw[q]at h;cases e:fQ x.cps.toList y.cps.toList with
  |none=>rfl
  |some i=>rw[e]at h;let h':(-1:Int)=(i:Int):=h;lia
 |cons i r=>
  rw[q]at h;cases e:fQ x.cps.toList y.cps.toList with
  |none=>rw[e]at h;let h':((i:Nat):Int)=-1:=h;lia
  |some i=>rfl
def tR(neg:Bool):R2:=λx y H Q=>∃z u,x=.str z/\y=.str u/\Q (.bl (if neg then !(Txt.contains u z)else Txt.contains u z)) H
def Oy:OpR X (compareOp .In) (tR false):=by intro zF s Z H x y v u Q I F B h;let#[z,t,rfl,rfl,q]:=h;let#[J,rfl]:=F;let#[G,rfl]:=B;show SB.contains #[.bl _,H,I,rfl,q]
def TJ:OpR X (compareOp .NotIn) (tR true):=by intro zF s Z H x y v u Q I F B h;let#[z,t,rfl,rfl,q]:=h;let#[J,rfl]:=F;let#[G,rfl]:=B;show SB.notContains #[.bl _,H,I,rfl,q]
def lW(K:W.Frag)(neg:Bool):R2:=λx y H Q=>gT K neg x y H Q\/tR neg x y H Q
def GG(v:X.A.units+32<cLine):OpR X (compareOp .In) (lW X.K false):=FL.OpR.or (SI v) Oy
def MY(v:X.A.units+32<cLine):OpR X (compareOp .NotIn) (lW X.K true):=FL.OpR.or (Vz v) TJ
def LY(z:aN K H x p)(v:aN K H y q)(e:cR p q=some k)(B:Q (.bl (if neg then !k else k)) H):lW K neg x y H Q:=by
 unfold cR at e;split at e
 .split at e
  .cases z with
   |str G L=>cases v with
    |str F J=>show .inr #[_,_,rfl,rfl,?_];rw[Vu,G,F,qf e];show B
  .cases e
 .show .inl (QM z v e B)
def GW:dF K (lW K false) cR:=λH x y p q k Q z v e B=>LY z v e B
def Ny:dF K (lW K true) dI:=λH x y p q k Q B z e F=>by
 unfold dI at e;cases v:cR p q with
 |none=>rw[v]at e;cases e
 |some b=>rw[v]at e;let G:(!b)=k:=qf e;subst G;show LY B z v F
inductive jl(K:W.Frag)(F H:Hp)(xs:List V)(l:List S)(fp:List Addr)(m:Nat)(s:S):Prop
 |mk (x:V) (fa fi fb:List Addr):xs[m]?=some x->aJ K F H x s fi->fp=fa++(fi++fb)->(∀{H':Hp}{v':V}{s':S}{fq:List Addr},(∀a∈fa++fb,H' a=H a)->aJ K F H' v' s' fq->zu K F H' (xs.set m v') (l.set m s') (fa++(fq++fb)))->jl K F H xs l fp m s
def zu.at:∀{xs:List V}{l:List S}{fp:List Addr}{m:Nat}{s:S},zu K F H xs l fp->l[m]?=some s->jl K F H xs l fp m s
 |_,_,_,_,_,.nil,h=>by simp at h
 |_,_,_,0,_,.cons (fp:=fp) (fq:=fq) a b,h=>by simp at h;subst h;show#[_,[],fp,fq,rfl,a,rfl,λB r=>by rw[nil_append];show .cons r (b.mono (zp.refl F) λc v=>B c v)]
 |_,_,_,m+1,_,.cons (fp:=fp) (fq:=fq) a b,h=>by let#[x,M,J,L,h1,h2,rfl,G]:=zu.at (m:=m) b h;show#[x,fp++M,J,L,h1,h2,(qp ..).symm,λB r=>?_];rw[qp];show .cons (a.mono (zp.refl F) λc v=>B c (qj _ (qj _ v))) (G (λc v=>B c ((qx.mp v).elim (λz=>qj _ (qi _ z)) λz=>qi _ z)) r)
def Rel.hide2(r:Rel K (U++[some s]) (Z++[some v]) F G H)(h:U.length=Z.length):∃O fp,Rel K U Z F O H/\zp G O/\aJ K F H v s fp/\(∀a∈fp,∃o,O a=some o/\H a=some o)/\
  ∀{U2:Env}{Z2:St}{L H2:Hp},zp F L->Rel K U2 Z2 L O H2->Rel K (U2++[some s]) (Z2++[some v]) L G H2:=by
 classical
 show cps λ_ kk=>?_;let#[fp,e,nd,ap]:=r.en;let#[f1,f2,rfl,a,b]:=e.cut h;let#[n1,n2,h2]:=qw.mp nd;show kk ?_;let b':=b;cases b' with
 |@so _ _ _ _ fs fn Y nl=>
 cases nl;show#[λx=>if x∈fs++[]then H x else G x,fs,#[r.fr,λx o q=>?_,f1,a,n1,λx B=>?_],λx o q=>?_,Y,λx B=>?_,λ{U2 Z2 L H2} sm M=>?_]
 .by_cases z:x∈fs++[]
  .let:=b.in_ x z;grind
  .simp only[z]at q;show r.gr x o q
 .grind
 .grind
 .obtain⟨o,q,_⟩:=b.in_ x (qj _ B);grind
 .obtain⟨J,e2,h1,h3⟩:=M.en;let hk:∀x∈fs++[],H2 x=H x/\L x=none/\x∉J:=λx B=>by let#[o,q,_]:=b.in_ x B;let w:=M.gr x o (by simp only[B];show q);grind
  show#[M.fr,λx o q=>?_,J++(fs++[]),e2.app (b.mono sm λx B=>(hk x B).1),?_,λx B=>?_]
  .let z:x∉fs++[]:=λz=>by grind
   show M.gr x o (by simp only[z];show q)
  .grind
  grind
def Rel.frzEnd(r:Rel K (U++[some s]) (Z++[some v]) F G H)(h:U.length=Z.length):∃F',zp F F'/\Rel K (U++[some (.sh s.toD)]) (Z++[some v]) F' G H:=by let#[u,F',L,B,J,z]:=r.give (i:=U.length) (s:=s) EX;rw[show(U++[some s]).set U.length (some (S.sh s.toD))=U++[some (S.sh s.toD)] from JG]at z;show#[F',B,z]
end
section
variable{st:Stmt}
def BV(he:FE X e we):FE X e (cP we):=λpn xe hp=>by show PE.imp (he pn xe hp) λZ H Q q=>?_;let#[F,G,U,P,PX,B,hw,J,hx]:=q;show#[F,G,U,_,PX,B,hw,λr Y v F1 H1 L s1 O rv=>?_,hx];let#[#[s,z],eg,L]:=Ap L;let#[F2,s2,l2,M]:=AD (U':=[]) (Z':=[]) O (Af O) rv eg;let#[F3,s3,r3]:=Rel.frzEnd M (Af M);show J _ z v F3 H1 L (s1.trans (s2.trans s3)) r3 trivial
def Ks(h:FS X ks st w):FS X ks st (zV i w):=λpn xe hp=>by show PS.imp (h pn xe hp) λD Z H q=>?_;let#[F,G,U,E,J,hw,n,b,c,r,x]:=q;show#[F,G,U,_,J,hw,λM B F' H' L kp O z=>?_,b,c,r,x];let#[s,es,L]:=Ap L;let#[v,F2,_,Y,_,r2]:=z.give es;show n _ B F2 H' L kp (O.trans Y) r2
end
section
variable{K:W.Frag}
def Rc(h:uF d q=some o):∃t ks vs,d=.dct t ks vs/\aV t q=true/\lk ks vs q=o:=by unfold uF at h;grind
def Kb{vs:List α}{P:V->α->Prop}(v:zG.length=vs.length)(h:∀(i:Nat) x y,(zG.map (·.2))[i]?=some x->vs[i]?=some y->P x y):
  (lk (zG.map λp=>aG p.1) vs (aG key)=none/\cS zG key=none)\/∃x y,cS zG key=some x/\lk (zG.map λp=>aG p.1) vs (aG key)=some y/\P x y:=
 GQ aG (λ_ _=>EB) zG vs key P v h
def Ka{vs:List α}{key:List aL}{P:V->α->Prop}(v:zG.length=vs.length)(h:∀(i:Nat) x y,(zG.map (·.2))[i]?=some x->vs[i]?=some y->P x y):
  (lk (zG.map λp=>D.tup (p.1.map aG)) vs (D.tup (key.map aG))=none/\cS zG key=none)\/∃x y,cS zG key=some x/\lk (zG.map λp=>D.tup (p.1.map aG)) vs (D.tup (key.map aG))=some y/\P x y:=
 GQ (λl=>D.tup (l.map aG)) (λa b z=>Gp (D.tup.inj z)) zG vs key P v h
def RE(L:aN K H x d)(J:aV t d=true)
  (O:(∃zG,t=false/\Rd H a (.dK zG)/\ks=zG.map (λp=>aG p.1)/\zD K F (zG.map (·.2)) vs)\/∃zG,t=true/\Rd H a (.dT zG)/\ks=zG.map (λp=>D.tup (p.1.map aG))/\zD K F (zG.map (·.2)) vs):
  ∃o,fV H a x o/\((lk ks vs d=none/\o=none)\/∃v e,o=some v/\lk ks vs d=some e/\aN K F v e):=by
 rcases O with⟨zG,rfl,e,k,r⟩|⟨zG,rfl,e,k,r⟩
 .obtain⟨key,rfl,rfl⟩:=Fs L J;show#[_,.inl #[zG,key,e,rfl,rfl],?_];rw[k];rcases Kb (zG:=zG) (vs:=vs) (key:=key) (P:=λv e=>aN K F v e) (by let:=r.len;simpa using this) (λi x y h1 h2=>by let#[M,z,G]:=r.get h2;rw[h1]at z;cases z;show G)with⟨h1,h2⟩|⟨v,e,h1,h2,h3⟩
  .show .inl #[h1,h2]
  .show .inr #[v,e,h1,h2,h3]
 .cases L with
  |tup Y q=>
   let#[B,rfl,rfl]:=Ft q J;show#[_,.inr #[zG,B,_,e,rfl,Y,rfl],?_];rw[k];rcases Ka (zG:=zG) (vs:=vs) (key:=B) (P:=λv e=>aN K F v e) (by let:=r.len;simpa using this) (λi x y h1 h2=>by let#[M,z,G]:=r.get h2;rw[h1]at z;cases z;show G)with⟨h1,h2⟩|⟨v,e,h1,h2,h3⟩
   .show .inl #[h1,h2]
   .show .inr #[v,e,h1,h2,h3]
  |_=>cases J
def bC.dct(r:bC K F H v (.dct t ks vs))(O:zp F H):∃a,v=.ref a/\((∃zG,t=false/\Rd H a (.dK zG)/\ks=zG.map (λp=>aG p.1)/\zD K F (zG.map (·.2)) vs)\/
  ∃zG,t=true/\Rd H a (.dT zG)/\ks=zG.map (λp=>D.tup (p.1.map aG))/\zD K F (zG.map (·.2)) vs):=by
 rcases r with r|⟨a,xs,Y,G,z,B,r⟩|⟨a,zG,L,J,G,z,B,M,r⟩|⟨a,zG,L,J,G,z,B,M,r⟩
 .cases r with
  |dK e k r=>show#[_,rfl,.inl #[_,rfl,Rd.mono O e,k,r]]
  |dT e k r=>show#[_,rfl,.inr #[_,rfl,Rd.mono O e,k,r]]
 .cases z
 .cases z;show#[a,G,.inl #[zG,rfl,.inl B,M,r]]
 .cases z;show#[a,G,.inr #[zG,rfl,.inl B,M,r]]
end
def KY(hu:X.A.units+1<cLine)(ho:FE X o wo)(hi:FE X i wi)(hd:FE X d wd)(m:M2 X o "get" apos i d cpos):FE X (.Call (.Attribute o "get" apos) [i,d] [] cpos) (jX wo wi wd):=λpn xe hp=>by
 refine PE.imp (RZ (X:=wp X pn xe) hu (ho pn xe hp) (hi pn xe hp) (hd pn xe hp) #[m.base,m.few,m.line,m.trees]) λZ H Q q=>?_;let#[F,G,U,P,PX,e1,hw,h6,hx]:=q;show#[F,G,U,_,PX,e1,hw,λx U1 o' F1 H1 hk s1 r1 rv=>?_,hx];let#[hD,hk]:=hk;let l1:=Af r1;let#[d0,e0,hD]:=Ap hD;let M:∃a,o'=.ref a/\zP H1 a:=by
  cases d0 with
  |dct t ks vs=>
   let#[hc,hb,e2,h5]:=Ba (U':=[]) (Z':=[]) r1 l1 rv e0;let#[a,ea,h]:=e2.dct h5.fr;rcases h with⟨L,_,h,_⟩|⟨L,_,h,_⟩
   .show#[a,ea,.inl #[L,h]]
   .show#[a,ea,.inr #[L,h]]
  |_=>cases hD
 let#[a,rfl,M]:=M;show#[a,rfl,M,?_];let#[G1,h4,gg,back]:=r1.hide l1;show#[F1,G1,U1,_,PX,h4,hk,λy U2 i' F2 H2 e3 s2 r2 h9=>?_,hx.mono (λ_ z=>z) s1 gg];let l2:=Af r2;let#[G2,h3,e4,O]:=r2.hide l2;show#[F2,G2,U2,_,PX,h3,e3,λz J d' F3 H3 B s3 r3 h8=>?_,hx.mono (λ_ z=>z) (s1.trans s2) (gg.trans e4)];let Y:=Af r3;let#[dd,ed,B]:=Ap B;let#[q,eq,B]:=Ap B;let#[oo,eo,B]:=Ap B;let r4:=back (s2.trans s3) (O s3 r3);simp at r4;let r5:Rel X.K (J++[zr y,zr x]) (Z++[some i',some (.ref a)]) F3 G H3:=Rel.mid (U:=J) (Z:=Z) r4 Y;let ri:=Av (U':=[zr x]) (Z':=[some (.ref a)]) r5 Y h9 eq;let r6:Rel X.K ((J++[zr z])++[zr x]) ((Z++[some d'])++[some (.ref a)]) F3 G H3:=by let:=Rel.mid (U:=J++[zr z]) (Z:=Z++[some d']) (o:=zr y) (w:=some i') (U':=[zr x]) (Z':=[some (.ref a)]) ↑r4 (by simp[Y]);show this
 let r7:=Rel.swap (U1:=[zr z]) (Z1:=[some d']) (U2:=[zr x]) (Z2:=[some (.ref a)]) Y rfl ↑r6;let#[F4,s4,re,r8]:=Ba (U':=[zr z]) (Z':=[some d']) r7 Y rv ed;let#[t,ks,vs,rfl,h7,rfl]:=Rc eo;let#[a',ea,hh]:=re.dct r8.fr;cases ea;let#[o2,g,h]:=RE ri h7 hh;show#[o2,g,?_];rcases h with⟨h1,rfl⟩|⟨v,e,rfl,h1,h2⟩
 .rw[h1]at B;show h6 _ J d' F4 H3 B (s1.trans (s2.trans (s3.trans s4))) r8 h8
 .rw[h1]at B;show h6 _ J v F4 H3 B (s1.trans (s2.trans (s3.trans s4))) ((r8.drop Y).push h2) trivial
def Tn(hh:A.handled=none)(F:s.heap.IsList l vs.toArray)(hi:IntsAre vs ns)(L:0<ns.length)
  (h:∀h' M(t:Tok) tk,(∀b x,s.heap.get? b=some x->h'.get? b=some x)->M∈ns->(∀a,a∈ns->M<=a)->Q (.int M t) {s with heap:=h',toks:=tk}):wpAny (model prog w) A (call (.builtin "min") [.ref l]) Q E s:=by
 let#[xs,e]:=hi.allInts.items;let z:ns=xs.toList.map (·.1):=by rw[<-hi.numsOf,<-nums_intItems,<-e]
 let B:0<xs.size:=by grind
 rw[e]at F;show min_intList hh F B λv h' tk J O=>?_;let#[t,rfl]:=intItems_at J;let#[h1,h2]:=argBest_lt (numAt xs) (xs.size-1);show h _ _ t tk O ?_ λa G=>?_
 .rw[z,numAt_eq];show getD_mem (by rw[qo,qU];lia)
 .rw[z]at G;let#[j,Y,rfl]:=mem_getD G;rw[qo,qU]at Y;rw[<-numAt_eq];show h2 j ∅
section
variable{K:W.Frag}
def rE(K:W.Frag):List V->Hp->VK->Prop:=λxs H Q=>∃(a:Addr)(ns:List Int),xs=[.ref a]/\bL K H a (ns.map V.int)/\0<ns.length/\∀M,M∈ns->(∀a,a∈ns->M<=a)->Q (.int M) H
def TL(O:X.calm=true):aR X (.builtin "min") (rE X.K):=by intro zF s Z H xs Y Q I r h;let#[a,ns,rfl,L,v,q]:=h;let#[u,rfl,z]:=vals1 r;cases z;let#[J,B,F,hz]:=I.list L;show Tn (I.ok.hd O) F.isList (Ie B) v λh' M t tk G h1 h2=>#[.int _,H,I.kept G,#[_,rfl],q M h1 h2]
def Tq:cM K (rE K) kM:=by
 intro Z U F G H vs ds s Q z B e O;let#[d,v,rfl,rfl]:=Be (λx y r=>by cases x<;>rfl) rfl B e;cases d with
 |lst l=>let#[a,xs,rfl,h1,L]:=B.1.lst z.fr;let#[J,en,e]:=Option.bind_eq_some_iff.mp e;let#[m,em,rfl]:=qX.mp e;let#[rfl,_]:=Mq L en;show#[a,J,rfl,h1,by cases J with|nil=>cases em|cons _ _=>simp,λM h2 h3=>?_];let#[h4,Y]:=List.min?_eq_some_iff.mp em;let:M=m:=Int.le_antisymm (h3 m h4) (Y M h2);subst this;show O _ F H (zp.refl F) (z.push (.int _))
 |_=>cases e
def QD(J:X.calm=true)(F:Gl X "min")(B:X.mg "min"=none)(z:bootBuiltins "min"=some (.builtin "min"))(L:FA X (e::es) wa)(G:starEach (e::es) X.env=(false,eval e X.env)::starEach es X.env:=by rfl)(v:(backTo pos (starEach es X.env)).any (·.1)=false:=by rfl):FE X (.Call (.Name "min" p) (e::es) [] pos) (wB kM wa):=
 GX (λpn xe=>TL (X:=wp X pn xe) J) Tq F B z L ⋯ ⋯ G v
def wQ(ta:TA):TE:=λZ H Q=>ta Z H λv H1=>∃j:Int,v=[.int j]/\∀p,H1 p=none->Q (.ref p) (upd H1 p (.rng 0 j))
def TM(M:Gl X "range")(L:X.mg "range"=none)(O:PA X [a] ta)(hs:starEach [a] X.env=[(false,eval a X.env)]):PE X (.Call (.Name "range" p) [a] [] pos) (wQ ta):=by
 intro zF s Z H Q I h;show Call_ (Gb I M L boot_range (PyProof.Rows.callWith_type1 (Al (O pos zF s Z H _ I h) λus v B=>?_) hs rfl));let#[Y,H1,z,G,J]:=B;let#[j,e,q]:=J;subst e;cases G with
 |cons r F=>cases F;let#[t,rfl]:=r;show call_range_1 #[.ref v.heap.objs.size,_,z.laid (a:=v.heap.objs.size) (o:=.rng 0 j) (t':=v.toks+1+1) (λ_ _ q=>qc _ q) (q5 _) ?_,rfl,q _ (z.hok.fresh (q5 _))];show#[_,_,_,qd _ rfl]
def eP(i:Int)(n:Nat):List V:=(List.range n).map λ(k:Nat)=>V.int (i+(k:Int))
def lT(f:List V->HO):List V->Hp->VK->Prop:=λxs H Q=>∃(a:Addr)(i j:Int),xs=[.ref a]/\H a=some (.rng i j)/\(-(2^62)<=i/\i<2^62/\-(2^62)<=j/\j<2^62)/\j-i<=2^24/\∀p,H p=none->Q (.ref p) (upd H p (f (eP i (j-i).toNat)))
def SA(h:ItemsOf (λk v=>∃t,v=.int (i+k*1) t) z n):zC (eP i n) z.toList:=by
 unfold eP;show Ig (by rw[qo,qC,qU,h.1]) λj y v h1 h2=>?_;let#[t,rfl]:=h.2 j v (by rw[<-qY];show h2);rw[qE]at h1;let B:j<n:=by let:=(qg.mp h2).1;rw[qU,h.1]at this;show this
 rw[List.getElem?_range B]at h1;cases h1;show#[t,by simp]
def VP(O:X.calm=true):aR X (.type "list") (lT .lst):=by
 intro zF s Z H xs us Q I r h;let#[a,i,j,rfl,Y,#[b1,b2,b3,b4],hz,q]:=h;let#[u,rfl,G]:=vals1 r;cases G;let#[t,u,v,J]:=I.hok a _ Y;let L:Builtin.Range.rangeSize i j 1=((j-i).toNat:Nat):=by rw[rangeSize_one];split<;>lia
 show call_list_range (I.ok.hd O) (show IsRange s.heap a i j 1 t u v from J) (small_one b1 b2 b3 b4) L ∅ λh' tk B c' M F z=>?_;show#[.ref s.heap.objs.size,_,I.laid (t':=tk) M (q5 _) (show zE X.prog X.w _ h' _ (.lst (eP i (j-i).toNat)) from#[?_,B.toList,c',SA z,F]),rfl,q _ (I.hok.fresh (q5 _))];unfold eP;rw[qo,qC,ze];lia
def Ry:zD K F (eP i n) (fromTo i n):=by
 unfold eP fromTo;generalize List.range n=l;induction l with
 |nil=>show .nil
 |cons k l v=>show .cons (.int _) v
def RG{k:List D->Env->WQ->Prop}(J:∀pn xe,aR (wp X pn xe) (.type T) (lT f))(hg:Gl X x)(hm:X.mg x=none)(hv:bootBuiltins x=some (.type T))(h6:Gl X "range")(h5:X.mg "range"=none)(ha:FE X a wa)
  (L:∀{U:Env}{Z:St}{F G H:Hp}{l:List D}{xs:List V}{P:WQ}{q:Addr},Rel X.K U Z F G H->zD X.K F xs l->k l U P->H q=none->∃r F',zp F F'/\P r U/\RV Z (.ref q) r/\Rel X.K (U++[zr r]) (Z++[some (.ref q)]) F' G (upd H q (f xs)))
  (hs:starEach [a] X.env=[(false,eval a X.env)])(he:starEach [.Call (.Name "range" p1) [a] [] pos1] X.env=[(false,eval (.Call (.Name "range" p1) [a] [] pos1) X.env)])(hn:x≠"__name__")(h7:(x==("__debug__":Str))=false):
  FE X (.Call (.Name x p) [.Call (.Name "range" p1) [a] [] pos1] [] pos) (λU Q E=>aX wa U (λl U1=>l.length<=big/\k l U1 Q) E):=λpn xe O=>by
 show PE.imp (Nk (X:=wp X pn xe) (J pn xe) hg hm hv (Lv (TM (X:=wp X pn xe) h6 h5 (Aa ha Ac hs pn xe O) hs) KI (by rw[he];rfl)) hn h7 (by rw[he];rfl) (by rfl)) λZ H Q q=>?_;let#[F,G,U,P,PX,h3,hw,h4,hx]:=q;show#[F,G,U,λrs U1=>match rs with|[r]=>(match view r U1 with|some (.int j)=>(-big<=j/\j<=big)/\(fromTo 0 j.toNat).length<=big/\k (fromTo 0 j.toNat) U1 P|_=>False)|_=>False,PX,h3,hw,λrs U1 vs F1 H1 z s1 M hl B=>?_,hx];match rs,vs,B,M,z with
 |[r],[v],B,M,z=>
  dsimp only at z;split at z
  .rename_i j ej;let rp:=Av (U':=[]) (Z':=[]) M hl B.1 ej;cases rp;let#[#[h1,h2],_,z]:=z;let eb:(big:Int)=1000000:=rfl;let r2:Rel X.K U1 Z F1 G H1:=(show Rel X.K (U1++[zr r]) (Z++[some (.int j)]) F1 G H1 from M).drop hl;show#[j,rfl,λp O=>?_];let r3:=r2.newF (o:=.rng 0 j) O;let#[f0,_,_]:=r2.free O;show#[p,0,j,rfl,Bc,#[∅,∅,∅,∅],∅,λq hq=>?_];rw[Int.sub_zero];let#[r,F',s',hP,Y,r4]:=L (xs:=eP 0 j.toNat) r3 Ry z hq;show h4 r U1 _ F' _ hP (s1.trans ((zp.upd f0).trans s')) r4 Y
  .show z.elim
 |[],_,_,_,L=>show L.elim
 |[_],[],B,_,_=>show B.elim
 |[_],_::_::_,B,_,_=>show B.2.elim
 |_::_::_,_,_,_,L=>show L.elim
def TH(hc:X.calm=true)(Y:Gl X "list")(O:X.mg "list"=none)(L:bootBuiltins "list"=some (.type "list"))(F:Gl X "range")(B:X.mg "range"=none)(ha:FE X a wa)
  (hs:starEach [a] X.env=[(false,eval a X.env)]:=by rfl)(he:starEach [.Call (.Name "range" G) [a] [] pos1] X.env=[(false,eval (.Call (.Name "range" G) [a] [] pos1) X.env)]:=by rfl):
  FE X (.Call (.Name "list" p) [.Call (.Name "range" G) [a] [] pos1] [] pos) (iU (aX wa)):=
 RG (f:=.lst) (k:=λl v Q=>Q (.v (.lst (l.map .sh))) v) (λpn xe=>VP (X:=wp X pn xe) hc) Y O L F B ha (λz J hP M=>#[_,_,zp.refl _,hP,trivial,Rel.newLD z M J]) hs he ⋯ ⋯
end
end FL
namespace FL
open PySem PySem.Spec PyProof.Rows
def Wb:Slot "reversed" "__init__" "object.__init__":=
 .of (owner:="object") (n:="__init__") (by rw[typeLookup_type];kernel_rfl) (by decide+kernel) (by decide+kernel) (by decide+kernel) (by first|show .inl (by decide+kernel)|show .inr (by decide+kernel)) (by rw[isSubtype_type];kernel_rfl)
def Vb:TypeCalled "reversed" "reversed.__new__" "object.__init__":=#[by decide+kernel,by decide+kernel,#[_,_,F.mro_reversed],F.made_reversed,by decide+kernel,F.sub_reversed_self,Wb]
section
variable{s:Shared}
theorem zaE:Slot "reversed" "__next__" "reversed.__next__":=
 .of (owner:="reversed") (n:="__next__") (by rw[typeLookup_type];kernel_rfl) (by decide+kernel) (by decide+kernel) (by decide+kernel) (by first|show .inl (by decide+kernel)|show .inr (by decide+kernel)) (by rw[isSubtype_type];kernel_rfl)
def NP:entryFor table "reversed.__next__"=some Builtin.«reversed.__next__»:=entryFor_of_tree (by kernel_rfl)
def NM(a:Value):argsOk "reversed.__next__" #[[a],[]]:=by first|rfl|assumption|(simp_all;done)
def NL:Slot "reversed" "__iter__" "reversed.__iter__":=
 .of (owner:="reversed") (n:="__iter__") (by rw[typeLookup_type];kernel_rfl) (by decide+kernel) (by decide+kernel) (by decide+kernel) (by first|show .inl (by decide+kernel)|show .inr (by decide+kernel)) (by rw[isSubtype_type];kernel_rfl)
def Wg(a:Value):argsOk "reversed.__iter__" #[[a],[]]:=by first|rfl|assumption|(simp_all;done)
def Wf:entryFor table "reversed.__iter__"=some Builtin.«dict_keyiterator.__iter__»:=
 entryFor_alias (id':="dict_keyiterator.__iter__") (by kernel_rfl) (by first|rfl|decide+kernel|(unfold String.splitOn;simp+decide [String.splitOnAux])) (by decide+kernel) (by kernel_rfl)
end
end FL
namespace FL
open PySem PySem.Spec PyProof.Rows L2
section
variable{K:W.Frag}
def VF:bootBuiltins "reversed"=some (.type "reversed"):=by decide+kernel
def zD.rev:∀{xs:List V}{l:List D},zD K F xs l->zD K F xs.reverse l.reverse
 |_,_,.nil=>.nil
 |_,_,.cons a b=>by rw[reverse_cons,reverse_cons];show(zD.rev b).append (.cons a .nil)
end
def Lf(h1:-1000000000000<i)(h2:i<1000000000000):i.natAbs.log2<40:=by
 let:i.natAbs<2^40:=∅
 by_cases v:i.natAbs=0
 .rw[v];decide
 .show(Nat.log2_lt v).mpr this
mutual
def TR:∀d:D,oI d=true->lR d=true
 |.non,_=>rfl
 |.bl _,_=>rfl
 |.int i,h=>by let h':(decide (-1000000000000<i)&&decide (i<1000000000000))=true:=h;rw[and_eq_true,qS,qS]at h';let:=Lf h'.1 h'.2;show decide (i.natAbs.log2<1920)=true;rw[qS];lia
 |.str _,_=>rfl
 |.tup l,h=>JF l h
 |.lst l,h=>JF l h
 |.dct _ _ _,h=>by cases h
 |.set _,h=>by cases h
 |.exc _ _ _,h=>by cases h
def JF:∀l:List D,eA l=true->dW l=true
 |[],_=>rfl
 |d::r,h=>by rw[eA,and_eq_true]at h;rw[dW,TR d h.1,JF r h.2];rfl
end
mutual
def VI:∀d:D,oI d=true->(dZ d).leavesShort 13=true
 |.non,_=>rfl
 |.bl _,_=>rfl
 |.int i,h=>by let h':(decide (-1000000000000<i)&&decide (i<1000000000000))=true:=h;rw[and_eq_true,qS,qS]at h';let:=int_text_length_le10 (a:=i) (k:=12) ⋯ ∅;simp only[dZ,PyData.leavesShort,qS];show(Str.ofString (toString i)).length<=13;rw[PySem.ofString_length];show this
 |.str l,h=>by let h':(l.all λc=>decide (c<1114112))=true:=h;simp only[dZ,PyData.leavesShort,qH,qS]at h'⊢;intro c v;let:=h' c ↑v;lia
 |.tup l,h=>by simp only[dZ,PyData.leavesShort];show Jz l h
 |.lst l,h=>by simp only[dZ,PyData.leavesShort];show Jz l h
 |.dct _ _ _,h=>by cases h
 |.set _,h=>by cases h
 |.exc _ _ _,h=>by cases h
def Jz:∀l:List D,eA l=true->PyData.leavesShortAll 13 (cQ l)=true
 |[],_=>rfl
 |d::r,h=>by rw[eA,and_eq_true]at h;simp only[cQ,PyData.leavesShortAll,and_eq_true];show#[VI d h.1,Jz r h.2]
end
mutual
def VG:∀d:D,oI d=true->(dZ d).weight<=vU d
 |.non,_=>q5 _
 |.bl _,_=>q5 _
 |.int i,h=>by let h':(decide (-1000000000000<i)&&decide (i<1000000000000))=true:=h;rw[and_eq_true,qS,qS]at h';let:=Lf h'.1 h'.2;simp only[dZ,PyData.weight,vU];split<;>lia
 |.str l,h=>by simp[dZ,PyData.weight,vU]
 |.tup l,h=>by simp only[dZ,PyData.weight,vU];show JB l h
 |.lst l,h=>by simp only[dZ,PyData.weight,vU];show JB l h
 |.dct _ _ _,h=>by cases h
 |.set _,h=>by cases h
 |.exc _ _ _,h=>by cases h
def JB:∀l:List D,eA l=true->PyData.weightAll (cQ l)<=lB l
 |[],_=>q5 _
 |d::r,h=>by rw[eA,and_eq_true]at h;let h1:=VG d h.1;let h2:=JB r h.2;simp only[cQ,PyData.weightAll,lB];lia
end
section
variable{K:W.Frag}
def MO(a:Array Nat):∀(n:Nat)(b:Array Nat),((List.replicate n a).foldl (·++·) b).toList=b.toList++(List.replicate n a.toList).flatten
 |0,b=>by simp
 |n+1,b=>by rw[List.replicate_succ,foldl_cons,MO a n,List.replicate_succ,List.flatten_cons,toList_append,qp]
def OC(v:0<=n):(Txt.mul x n).cps.toList=(List.replicate n.toNat x.cps.toList).flatten:=by
 unfold Txt.mul;by_cases h1:n<1
 .rw[show n=0 by lia];rfl
 .rw[q4 h1];by_cases h2:(n==1||x.length==0)=true
  .rw[qZ h2];rw[or_eq_true,beq_iff_eq,beq_iff_eq]at h2;rcases h2 with h2|h2
   .subst h2;simp
   .let:x.cps.toList=[]:=by let e:x.cps.size=0:=h2;rw[<-List.length_eq_zero_iff];exact e
    rw[this];simp
  .rw[q4 h2];rw[MO];simp
def rD:R2:=λx y H Q=>∃z n,x=.str z/\y=.int n/\0<=n/\n<=1000/\z.length<=500/\Q (.str (Txt.mul z n)) H
def QL:OpR X (binaryOp .Mult) rD:=by
 intro zF s Z H x y v u Q I F B h;let#[z,n,rfl,rfl,Y,h1,G,q]:=h;let#[t,rfl]:=F;let#[L,rfl]:=B;show SB.mul #[?_,λh _=>?_,λh _=>?_] λJ k=>#[.str _,H,I.kept λ_ _ z=>z,#[_,rfl],q]
 .grind
 .let O:(9223372036854775807:Int)/1000<=(2^63-1)/n:=by rw[Int.le_ediv_iff_mul_le ∅];grind
  grind
 .let M:z.length*n.toNat<=500*1000:=mul_le_mul G ∅;simp only[Builtin.Str.tooLong,ze];lia
def Uw:gZ K (λx y H Q=>(rI nA λi j=>.int (i*j)) x y H Q\/rD x y H Q) cL:=by
 intro Z U F G H x y p q s Q v J B e L;unfold cL at e;split at e
 .rename_i l n;split at e
  .rename_i hc;cases e;let#[M,h1,hz]:=hc;let#[z,rfl,O,_]:=J.str;let ey:y=.int n:=by
    rcases B with B|⟨_,_,_,_,e,_⟩|⟨_,_,_,_,_,e,_⟩|⟨_,_,_,_,_,e,_⟩
    .cases B;rfl
    .cases e
    .cases e
    .cases e
   subst ey;let Y:z.length=l.length:=by rw[<-O];rfl
   show .inr #[z,n,rfl,rfl,M,h1,∅,?_];show L _ F H (zp.refl F) (v.push (.str ?_ ?_))
   .rw[OC M,O]
   .let h4:n.toNat*l.length<=1000*500:=mul_le_mul ∅ hz;let e5:∀m,((List.replicate m l).flatten).length=m*l.length:=λm=>by simp
    rw[e5];lia
  .cases e
 .show .inl (Sy Z U F G H x y _ _ s Q v J B e L)
def Ew(z:FE X a wa)(v:FE X b wb):FE X (.BinOp a .Mult b pos) (zx cL wa wb):=Ga (λ_ _=>OpR.or OJ QL) Uw z v
end
end FL
namespace FL
def vW(s0:S)(n k:Nat)(it:WI)(g:WG)(c:WT)(b:WB):WE:=λU Q E=>it U (λl z=>aI g c b l (z++some s0::List.replicate k none) (λv=>zo (slot v n) λs=>Q (.v s) (v.take n)) NX) E
def mQ(n:Nat)(a e:WE):WB:=λU Q E=>a U (λx z=>e z (λy v=>zo (view x v) λq=>zo (give y v) λp=>match slot p.2 n with
 |some (.dct t ks l)=>aV t q=true/\ks.Nodup/\ks.length<big/\Q (p.2.set n (some (dD t ks l q p.1)))
 |_=>False) E) E
end FL
namespace FL
open PySem PySem.Spec PyProof.Rows L2
def Uy(hu:A.units<cLine)(I:Inv X zF Z H s)(g:rA H a y v H')(ry:zv y u)(rv:zv v r)(h:∀s',Inv X zF Z H' s'->Q () s'):
  wpAny (model X.prog X.w) A (dictSet a u r) Q E s:=by
 rcases g with⟨G,k,e,O,l,Y⟩|⟨G,k,b,e,O,eb,l,Y⟩
 .subst O Y;let#[z,M,vs,B,dd]:=Iw I.hok e;show wpAny_dictSet_pairs (hsz:=by rw[<-B.length];show z) (Ep ry) dd λh' F L=>h _ ?_;show Fq I (by rw[e];show True.intro) L (let⟨q,_,_,J,_⟩:=F;#[q,J]) (ID (by let:=Ha G k v;lia) M (B.put k rv) F)
 .subst O Y;cases(show u=Value.ref b from ry);let#[z,M,xs,B,dd]:=Ku I.hok e;show wpAny_dictSet_heap (hsz:=by rw[<-Paired.length B];show z) hu (DI I.hok eb) dd λh' F L=>h _ ?_;let#[q,es,ep,J,h2,h3,h4,_,h5]:=F;show Fq I (by rw[e];show True.intro) L ⟨q,J⟩ ⟨by let:=Ha G k v;lia,M,_,(B.put k eb rv).keeps λc ys ec=>?_,q,es,ep,J,h2,h3,h4,h5⟩;rw[Ao (Iv ec e (λz=>nomatch z))];show ec
section
variable{X:Cx}{D:Addr}
def Rq(h3:X.xe=λ_ _=>False)(hu:X.A.units<cLine)(hk:FE X ek wk)(he:FE X ev we):
  iK X (eval ek X.env>>=λkv=>holding [kv] (eval ev X.env)>>=λvv=>standAt p>>=λ_=>holding [kv,vv] (dictSet D kv vv)) (oB X n D (mQ n wk we)):=by
 intro zF s Z H Q I q;let#[F,G,U,P,h7,h8,hw,h9]:=q;let hp:PassesOwn (model X.prog X.w) X.A X.env X.xe:=by rw[h3];show PassesOwn.never
 let O:∀e s',X.xe e s'->False:=λe s' z=>by rw[h3]at z;show z
 have h2:=Fd (X:=X) (wa:=wk) (wb:=we) (Z:=Z) (H:=H) (Q:=λ_ H'=>Q Z H') (k:=λx y M Q' _=>zo (view x M) λq=>zo (give y M) λp=>match slot p.2 n with
  |some (.dct t ks l)=>aV t q=true/\ks.Nodup/\ks.length<big/\Q' (.v (.sh .non)) (p.2.set n (some (dD t ks l q p.1)))
  |_=>False) #[F,G,U,λ_ U'=>P U',NX,h7,hw,λr U' v F' H' h1 sm r' _=>h9 U' Z F' H' h1 KP.refl sm (r'.drop (Af r')),Hd]
 show qa (zh (hk X.pn X.xe hp zF s Z H _ I h2) (λkv s1 zq=>?_) λe s' z=>O e s' z);let#[v,H1,I1,rv,q1]:=zq;show qa (zf (zh (he X.pn X.xe hp zF s1 Z H1 _ I1 q1) (λvv s2 zq=>?_) λe s' z=>O e s' z));let#[u,H2,I2,ru,q2]:=zq;show qa (wpAny_standAt (zf ?_));let#[F3,G3,h6,rx,ry,P3,e1,J,L,vx,vy,B,h4,_]:=q2;let#[q,eq,B]:=Ap B;let rq:=Av J L vx eq;let r5:Rel X.K (h6++[zr ry]) (Z++[some u]) F3 G3 H2:=J.mid L;let#[#[t,h5],eg,B]:=Ap B;let#[F4,s4,l4,r6]:=AD (U':=[]) (Z':=[]) r5 L vy eg;cases Y:slot h5 n with
 |none=>simp[Y]at B
 |some sj=>
  rw[Y]at B;match sj,Y,B with
  |.dct tt kk l,Y,⟨hkey,hnd,hbig,hnx⟩=>
   let#[H',dp,r7]:=Rel.dput r6 Y h8 rq hkey hnd hbig;show Uy hu I2 dp rv ru λs' I'=>#[Z,H',I',?_]
   show h4 (.v (.sh .non)) _ .non F4 H' hnx s4 (r7.push .non) trivial
def RJ{t:Bool}(H:Hp)(h:Heap)(v:sysModules<h.objs.size):zE X.prog X.w H (h.push {cls:=.type "dict",dict:=none,data:=.dict #[]}) h.objs.size (if t then .dT []else .dK []):=by
 cases t
 .show Jk h v
 .show ME h v
def Pv(F H:Hp)(p:Addr)(e:H p=some (if t then .dT []else .dK [])):aJ X.K F H (.ref p) (.dct t [] []) [p]:=by
 cases t
 .show .dK e rfl .nil
 .show .dT e rfl .nil
end
def OK(t:Bool)(hn:X.N.length=n)(hu:X.A.units<cLine)(hc:X.calm=true)(Sc:bW X.env.scope scope X.N vars)(hk:vars.length=k)(hi:FI X tg iter M)
  (hg:∀s H ex,FG (aC X scope vars s H ex) (List.range (n+1)) tg g)(ht:∀s H ex,fZ (aC X scope vars s H ex) z (iA (aC X scope vars s H ex) wc))(J:∀s H ex,FE (aC X scope vars s H ex) ek L)(he:∀s H ex,FE (aC X scope vars s H ex) ev O)
  (hs:∀x,foldedSetIterable iter X.env x=pure x:=by intro _;rfl):FE X (.DictComp ek ev [#[tg,iter,z,0]] scope pos) (vW (.dct t [] []) n k M g wc (mQ n L O)):=by
 subst hn;intro pn xe hp zF s Z H Q I q;let#[F,G,U,P,PX,v,hw,B,Y]:=q;show HH (λA E s Q h=>IY A E s Q h) (s0:=.dct t [] []) (RJ (t:=t)) Pv rfl hs Sc hk hi (λs H ex D=>?_) (λ_ _ _=>rfl) (λ_ _ _=>rfl) (λ_ _ _=>rfl) (λ_ _ _=>#[_,rfl]) hp I v hw Y (IX B);show GU (X:=aC X scope vars s H ex) hc rfl (hg s H ex [] (λ_ _=>False) PassesOwn.never) (ht s H ex) (λ_=>(Rq (X:=aC X scope vars s H ex) rfl hu (J s H ex) (he s H ex)).f) (λ_=>rfl) (λ_=>rfl) (λ_=>rfl) (λ_=>rfl)
def Sf:FE X (.Dict [] [] pos) (hV true):=λpn xe B=>by show PE.imp Rz λZ H Q q=>?_;let#[F,G,U,P,PX,v,J,z,L]:=q;intro p B;show z _ U _ F _ J (zp.refl F) (Rel.newO (s:=.dct true [] []) v B (.dT (zG:=[]) Bc rfl .nil)) trivial
def PV(v:bR k A):A.units<cLine:=Nat.lt_of_succ_lt (Fp v)
def dO(K:W.Frag)(f:Addr):FuncData:=match K.lookup f with
 |some ⟨_,_,.func d,_⟩=>d
 |_=>default
def Ko{K:W.Frag}(l:K.lookup f=some #[B,z,.func d,v]):dO K f=d:=by unfold dO;rw[l]
inductive Lk(K:W.Frag)(n:Str)(st:Stmt)(f:Addr):Prop
 |mk {oc kV dc pm cd ct:Value} {od an:Option Addr} {sl:Array (Option Value)} (a:W.nsIn K mainGlobals n=some (some (.ref f))) (l:K.lookup f=some ⟨oc,od,.func (W.fnOf n n (dH st) (cE st) (aA st) .none kV dc pm an cd ct),sl⟩)
  (c:W.codeIn K cd n=true) (k:W.keepIn K (.ref f)=true):Lk K n st f
structure Tx(K:W.Frag)(mg:Str->Option Value)(f:Addr)(n:Str)(st:Stmt)(ps:List Str):Prop where
 F:vS K n n st f (dO K f)
 m:mg n=some (.ref f)
 k:W.keepIn K (.ref f)=true
 b:Binds K (dO K f) ps []
def jr(n:Str)(st:Stmt)(ps:List Str):Prop:=∀(kV v B:Value)(F:Option Addr)(z ct:Value)(us:List Value),us.length=ps.length->bindArgs (W.fnOf n n (dH st) (cE st) (aA st) .none kV v B F z ct) #[us,[]]=pure (ps.zip us)
section
variable{K:W.Frag}{st:Stmt}
def Lk.mm(t:Lk K n st f)(X:K.In h)(G:h.Ns mainGlobals mg):mg n=some (.ref f):=by let#[a,l,c,k]:=t;show W.mg_of X G a
def Lk.tx(t:Lk K n st f)(X:K.In h)(G:h.Ns mainGlobals mg)(b:jr n st ps:=by intro _ _ _ _ _ _ us v;first|(let#[_,rfl]:=DM (l:=us) v;rfl)|(let#[_,_,rfl]:=Fc (l:=us) v;rfl)|(let#[_,_,_,rfl]:=Fb (l:=us) v;rfl)|(let#[_,_,_,_,rfl]:=EZ (l:=us) v;rfl)|(let#[_,_,_,_,_,rfl]:=He (l:=us) v;rfl)):Tx K mg f n st ps:=by
 let#[a,l,c,k]:=t;let e:=Ko l;let F:=Ou l c k;show#[?_,W.mg_of X G a,k,?_]
 .rw[e];show F
 .rw[e];show F.binds b
def Lk.bt(t:Lk K n st f)(s:Shared)(v:Value)(b:jr n st [x]:=by intro _ _ _ _ _ _ us z;let#[_,rfl]:=DM (l:=us) z;rfl):BindsTo s (dO K f) #[[v],[]] [(x,v)]:=by let#[a,l,c,k]:=t;let e:=Ko l;rw[e];show .of_eq (b _ _ _ _ _ _ [v] rfl)
end
def BX{N P:List Str}{v:Scope}(a:v.kind=.function:=by rfl)(b:v.isCoroutine=false:=by rfl)(c:v.isGenerator=false:=by rfl)(d:N.Nodup:=by decide+kernel)(e:N.take P.length=P:=by rfl)(f:∀x∈P,v.names.lookup x=some .local\/v.names.lookup x=some .cell:=by decide+kernel)(g:∀y∈v.names,y.2≠.free:=by decide+kernel):aH N P v:=#[a,b,c,d,e,f,g]
abbrev hE(P:Program)(w:World)(K:W.Frag)(mg:Str->Option Value)(base:Heap)(af:Nat->Addr)(k i:Nat)(ps:List Str)(sp:Sp):Prop:=eY P w K mg base (iN P w) k (af i) (dO K (af i)) ps sp
def BY{K:W.Frag}{st:Stmt}(t:Tx K mg f x st ps)(Sc:aH N ps (aA st))
  (F:∀(z:Value)(A:Around)(v:List PySem.Env)(s:Shared)(H:Hp)(E:XK),bR k (A.deeper (envOfC x (aA st) s.heap.objs.size f z))->nF (eW (iN P w) P w K mg base N x (aA st) f z A v s H E) ks (cE st) wb)(hn:ps.length=n:=by rfl)(B:N.length=m:=by rfl):
  eY P w K mg base (iN P w) (k+1) f (dO K f) ps (eM K (fW n m ks wb) n):=Ke t.F Sc hn B F
section
theorem fw(i:Nat)(F:X.N[i]?=some x:=by rfl)(z:yO X.env.scope x:=by first|show Or.inl rfl|show Or.inr (Or.inl rfl)|show Or.inr (Or.inr rfl))(B:(x==("__debug__":Str))=false:=by decide)
  (v:(x==("__classdict__":Str))=false:=by decide):FE X (.Name x pos) (zj i):=Pu F z B v
def Am(i:Nat)(v:X.N.Nodup)(B:i∉ks:=by decide)(hi:X.N[i]?=some x:=by rfl)(z:Loc X.env.scope x:=by first|show Or.inl rfl|show Or.inr rfl)(G:X.fn x=true\/X.env.scope.names.lookup x=some .local:=by show Or.inl rfl):FG X ks (.Name x pos) (FL.zm i):=LN B (λj F=>HV v F hi) hi z G
def Bb(i:Nat)(B:i∉ks:=by decide)(z:(X.N.zipIdx.all λp=>!(p.1==x)||p.2==i)=true:=by kernel_rfl)(hi:X.N[i]?=some x:=by rfl)(v:Loc X.env.scope x:=by first|show Or.inl rfl|show Or.inr rfl)(F:X.fn x=true\/X.env.scope.names.lookup x=some .local:=by first|show Or.inr rfl|show Or.inl rfl):FG X ks (.Name x pos) (FL.zm i):=LN B (uq z) hi v F
variable{st:Stmt}
def Az(ms:List Bool)(t:Tx X.K X.mg f x st ps)(Y:eY X.prog X.w X.K X.mg X.base (iN X.prog X.w) k f (dO X.K f) ps (eM X.K F n))(G:bR j X.A)(O:FA X (e::es) wa)(J:k<=j:=by decide)(L:Gl X x:=by rfl)(v:∀ss P PX,F ss P PX->ss.length=n:=by show λ_ _ _ h=>h.1)
  (B:(x==("__debug__":Str))=false:=by decide)(M:starEach (e::es) X.env=(false,eval e X.env)::starEach es X.env:=by rfl)(z:(backTo pos (starEach es X.env)).any (·.1)=false:=by rfl):
  FE X (.Call (.Name x p) (e::es) [] pos) (zz F ms wa):=Qc Y (G.mono J) L t.m t.k t.b O v B M z
end
end FL
namespace FL
def bO(l:List D):Bool:=l.all bQ||l.all (aV true)
open Classical in
def cI(l:List D)(d:D):List D:=if d∈l then l else l++[d]
def aE(l:List D):List D:=l.foldl cI []
def kT(n:Nat)(e:WE):WB:=λU Q E=>e U (λr v=>zo (give r v) λp=>match slot p.2 n with
 |some (.set l)=>bO (p.1.toD::l)=true/\l.length<=150/\Q (p.2.set n (some (.set (cI l p.1.toD))))
 |_=>False) E
def newS(l:List D):Option S:=if bO l=true/\l.length<=150 then some (.set (aE l))else none
def kS:List D->Option S
 |[.lst l]=>newS l
 |[.tup l]=>newS l
 |_=>none
def iI:List D->Option S
 |[.set l]=>some (.sh (.int l.length))
 |ds=>cN ds
def dX:List Bool->List D->Prop
 |[],[]=>True
 |false::sh,.int _::r=>dX sh r
 |true::sh,.str _::r=>dX sh r
 |_,_=>False
def dR(sh:List Bool):D->Prop
 |.tup l=>dX sh l
 |_=>False
@[inline]def Kd:D->D->Prop:=λa b=>(∃i j,a=.int i/\b=.int j)\/∃x y,a=.str x/\b=.str y
def GK(i j:Int):cA (.int i) (.int j)=if i<j then .lt else if j<i then .gt else .eq:=by rw[cA]
def HI(x y:List Nat):cA (.str x) (.str y)=if x<y then .lt else if y<x then .gt else .eq:=by rw[cA]
def Tj(x y:List Nat):x<y\/y<x\/x=y:=by grind
def Ii(h:Kd a b):(cA a b=.lt/\cA b a=.gt)\/(cA a b=.gt/\cA b a=.lt)\/(a=b/\cA a b=.eq):=by
 rcases h with⟨i,j,rfl,rfl⟩|⟨x,y,rfl,rfl⟩
 .grind[GK]
 .rw[HI,HI];grind
def Oq(h:Kd a b)(h':Kd b c)(e:cA a b=.lt)(F:cA b c=.lt):cA a c=.lt:=by
 rcases h with⟨i,j,rfl,rfl⟩|⟨x,y,rfl,rfl⟩
 .rcases h' with⟨v,k,h1,rfl⟩|⟨x,y,h1,rfl⟩
  .grind[GK,Int.lt_trans]
  .cases h1
 .rcases h' with⟨v,k,h1,rfl⟩|⟨B,z,h1,rfl⟩
  .cases h1
  grind[HI,List.lt_trans]
def HY(h:dX sh (a::l))(h':dX sh (b::m)):Kd a b/\∃v,dX v l/\dX v m:=by
 cases sh with
 |nil=>show h.elim
 |cons t sh=>
  cases t
  .cases a<;>first|exact h.elim|skip
   cases b<;>first|show h'.elim|skip
   show#[.inl #[_,_,rfl,rfl],sh,h,h']
  .cases a<;>first|exact h.elim|skip
   cases b<;>first|show h'.elim|skip
   show#[.inr #[_,_,rfl,rfl],sh,h,h']
def Fu(h:dX sh [])(h':dX sh m):m=[]:=by
 cases sh with
 |nil=>cases m with
  |nil=>rfl
  |cons _ _=>show h'.elim
 |cons t _=>cases t<;>show h.elim
def SM{sh v:List Bool}{l m:List D}(h:dX sh l)(h':dX v l):sh=v:=by
 induction l generalizing sh v with
 |nil=>
  cases sh with
  |nil=>cases v with
   |nil=>rfl
   |cons t _=>cases t<;>show h'.elim
  |cons t _=>cases t<;>show h.elim
 |cons a l B=>
  cases sh with
  |nil=>show h.elim
  |cons t sh=>cases v with
   |nil=>show h'.elim
   |cons z v=>cases t<;>cases z<;>cases a<;>first|show h.elim|show h'.elim|rw[B h h']
def Jv(a b:D)(l m:List D):aS (a::l) (b::m)=match cA a b with|.eq=>aS l m|o=>o:=by rw[aS];first|done|(cases cA a b<;>rfl)
def Fz:∀{sh:List Bool}{l m:List D},dX sh l->dX sh m->(aS l m=.lt/\aS m l=.gt)\/(aS l m=.gt/\aS m l=.lt)\/(l=m/\aS l m=.eq)
 |sh,[],m,h,h'=>by rw[Fu h h'];show .inr (.inr #[rfl,by rw[aS]])
 |sh,a::l,[],h,h'=>by cases Fu h' h
 |sh,a::l,b::m,h,h'=>by
  let#[k,G,L,J]:=HY h h';rw[Jv,Jv];rcases Ii k with⟨z,F⟩|⟨z,F⟩|⟨rfl,z⟩
  .rw[z,F];show .inl #[rfl,rfl]
  .rw[z,F];show .inr (.inl #[rfl,rfl])
  .rw[z];rcases Fz L J with⟨v,B⟩|⟨v,B⟩|⟨rfl,v⟩
   .show .inl #[v,B]
   .show .inr (.inl #[v,B])
   .show .inr (.inr #[rfl,v])
def KZ:∀{sh:List Bool}{l m n:List D},dX sh l->dX sh m->dX sh n->aS l m=.lt->aS m n=.lt->aS l n=.lt
 |sh,[],m,n,h,h',h'',e,_=>by rw[Fu h h']at e;cases e
 |sh,a::l,[],n,h,h',h'',e,_=>by cases Fu h' h
 |sh,a::l,b::m,[],h,h',h'',e,_=>by cases Fu h'' h
 |sh,a::l,b::m,c::n,h,h',h'',e,e'=>by
  let#[k,F,O,M]:=HY h h';let#[G,B,J,L]:=HY h' h'';let es:F=B:=SM (m:=[]) M J;subst es;rw[Jv]at e e'⊢;rcases Ii k with⟨z,_⟩|⟨z,_⟩|⟨rfl,z⟩
  .rw[z]at e;rcases Ii G with⟨v,_⟩|⟨v,_⟩|⟨rfl,v⟩
   .rw[Oq k G z v]
   .rw[v]at e';cases e'
   .rw[z]
  .rw[z]at e;cases e
  .rw[z]at e;rcases Ii G with⟨v,_⟩|⟨v,_⟩|⟨rfl,v⟩
   .rw[v]
   .rw[v]at e';cases e'
   .rw[z]at e';rw[z];show KZ O J L e e'
def EA(h:dX sh l)(h':dX sh m):dP (.tup l) (.tup m)=!(aS m l==.lt):=by
 unfold dP;rw[show cA (.tup l) (.tup m)=aS l m by rw[cA]];rcases Fz h h' with⟨v,z⟩|⟨v,z⟩|⟨rfl,v⟩
 .rw[v,z];rfl
 .rw[v,z];rfl
 .rw[v];rfl
def GD(sh:List Bool):eS (dR sh) where
 tot a b ha hb:=by
  cases a<;>first|show ha.elim|skip
  cases b<;>first|show hb.elim|skip
  rw[EA ha hb,EA hb ha];rcases Fz ha hb with⟨f1,f2⟩|⟨f1,f2⟩|⟨_,f1⟩
  .show .inl (by rw[f2];rfl)
  .show .inr (by rw[f1];rfl)
  .show .inr (by rw[f1];rfl)
 tr a b c ha hb hc:=by
  cases a<;>first|show ha.elim|skip
  cases b<;>first|show hb.elim|skip
  cases c<;>first|show hc.elim|skip
  rw[EA ha hb,EA hb hc,EA ha hc];intro h1 h2;rcases Fz ha hb with⟨f1,f2⟩|⟨f1,f2⟩|⟨rfl,f1⟩
  .rcases Fz hb hc with⟨g1,g2⟩|⟨g1,g2⟩|⟨rfl,g1⟩
   .rcases Fz ha hc with⟨k1,k2⟩|⟨k1,k2⟩|⟨rfl,k1⟩
    .rw[k2];rfl
    .rw[KZ ha hb hc f1 g1]at k1;cases k1
    .rw[k1];rfl
   .rw[g2]at h2;cases h2
   .show h1
  .rw[f2]at h1;cases h1
  .show h2
 anti a b ha hb:=by
  cases a<;>first|show ha.elim|skip
  cases b<;>first|show hb.elim|skip
  rw[EA ha hb,EA hb ha];intro h1 h2;rcases Fz ha hb with⟨f1,f2⟩|⟨f1,f2⟩|⟨rfl,f1⟩
  .rw[f1]at h2;cases h2
  .rw[f2]at h1;cases h1
  .rfl
section
variable{ι κ:Type}[DecidableEq κ](g:ι->κ)
def bV(l:List ι)(i:ι):List ι:=if g i∈l.map g then l else l++[i]
def iE(l:List ι):List ι:=l.foldl (bV g) []
def RW{f:ι->D}(h:∀i j,f i=f j↔g i=g j)(l:List ι)(i:ι):cI (l.map f) (f i)=(bV g l i).map f:=by unfold cI bV;grind
def Lp{f:ι->D}(h:∀i j,f i=f j↔g i=g j)(l:List ι):aE (l.map f)=(iE g l).map f:=by
 suffices ∀v:List ι,(l.map f).foldl cI (v.map f)=(l.foldl (bV g) v).map f from this []
 induction l with
 |nil=>show λ_=>rfl
 |cons i l z=>intro v;rw[qy,foldl_cons,RW g h];show z _
def MC{l:List ι}{k:Nat}(h:k<l.length):iE g (l.take (k+1))=bV g (iE g (l.take k)) l[k]:=by unfold iE;rw[List.take_add_one,qh h,foldl_append];rfl
def GM:∀{l v:List ι}{i:ι},i∈l.foldl (bV g) v->i∈v\/i∈l
 |[],_,_,h=>.inl h
 |j::l,v,i,h=>by
  rw[foldl_cons]at h;rcases GM h with z|z
  .unfold bV at z;split at z
   .show .inl z
   .rcases qx.mp z with z|z
    .show .inl z
    .show .inr (qA.mpr (.inl (qu.mp z)))
  .show .inr (qk _ z)
def GN:∀(l v:List ι),(l.foldl (bV g) v).length<=v.length+l.length
 |[],_=>q5 _
 |j::l,v=>by
  rw[foldl_cons];let h1:=GN l (bV g v j);let h2:(bV g v j).length<=v.length+1:=by
   unfold bV;split
   .lia
   .rw[qq];show q5 _
  rw[qt];lia
end
def SJ:x∈cI l d↔x∈l\/x=d:=by
 unfold cI;split
 .rename_i h;show#[.inl,λz=>z.elim id λe=>e▸h]
 .rw[qx,qu]
theorem zau:x∈aE l↔x∈l:=by
 suffices ∀v:List D,x∈l.foldl cI v↔x∈v\/x∈l from(this []).trans (by simp)
 induction l with
 |nil=>show λ_=>by simp
 |cons i l z=>intro v;rw[foldl_cons,z,SJ,qA,or_assoc]
def Vo(h:l.Nodup):(cI l d).Nodup:=by
 unfold cI;split
 .show h
 .rename_i z;show qw.mpr #[h,by simp,λa B b v=>by rw[qu.mp v];show λe=>z (e▸B)]
def Fv(l:List D):(aE l).Nodup:=by
 suffices ∀v:List D,v.Nodup->(l.foldl cI v).Nodup from this [] .nil
 induction l with
 |nil=>show λ_ h=>h
 |cons i l z=>show λv h=>z _ (Vo h)
def Ro(l:List D)(d:D):(cI l d).length<=l.length+1:=by
 unfold cI;split
 .lia
 .rw[qq];show q5 _
def Mw(l:List D):(aE l).length<=l.length:=by
 unfold aE
 suffices ∀v:List D,(l.foldl cI v).length<=v.length+l.length by simpa using this []
 induction l with
 |nil=>show λ_=>q5 _
 |cons i l z=>grind[foldl_cons,length_cons,cI,Ro]
def aP(ks:List D)(l:List S)(q:D):List D×List S×Nat:=match eE ks q with
 |some m=>(ks,l,m)
 |none=>(ks++[q],l++[.lst []],ks.length)
def dG(j:Nat)(k e:WE):WE:=λU Q E=>match slot U j with
 |some (.dct _ _ _)=>k U (λy v=>match view y v,slot v j with
  |some q,some (.dct t ks l)=>aV t q=true/\ks.Nodup/\ks.length<big/\(match(aP ks l q).2.1[(aP ks l q).2.2]? with
   |some (.lst l')=>e (v.set j none) (λr z=>zo (give r z) λp=>l'.length<big/\Q (.v (.sh .non)) (p.2.set j (some (.dct t (aP ks l q).1 ((aP ks l q).2.1.set (aP ks l q).2.2 (.lst (l'++[p.1]))))))) E
   |_=>False)
  |_,_=>False) E
 |_=>False
end FL
namespace FL
open PySem PySem.Spec PyProof.Rows L2
def GI(h:kV a=kV b):a=b:=by cases a<;>cases b<;>cases h<;>rfl
def GP:∀{a b:List aL},a.map kV=b.map kV->a=b
 |[],[],_=>rfl
 |[],_::_,h=>by cases h
 |_::_,[],h=>by cases h
 |x::a,y::b,h=>by
  injection h with h1 h2
  rw[GI h1,GP h2]
def Mn(h:zv (kV k) u):u.scannable=true:=by
 cases k with
 |inl i=>let#[t,rfl]:=h;rfl
 |inr x=>let#[t,rfl]:=h;rfl
def NC{α β:Type}{f:α->β}(z:∀a b,f a=f b->a=b){l m:List α}(h:(l.map f).Perm (m.map f)):l.Perm m:=by
 induction l generalizing m with
 |nil=>simp_all
 |cons a l v=>let#[b,B,e]:=qJ.mp (h.mem_iff.mp (by simp:f a∈(a::l).map f));let:=z _ _ e;subst this;let#[m1,m2,rfl]:=append_of_mem B;show(List.Perm.cons b (v ?_)).trans perm_middle.symm;rw[map_append];rw[map_append,qy]at h;show(h.trans perm_middle).cons_inv
def vQ(H:Hp)(vs:List V)(y:V)(b:Bool):Prop:=
 (∃(ks:List aL)(k:aL),vs=ks.map kV/\y=kV k/\(b=true↔k∈ks))\/
 ∃(ps:List (List aL×Addr))(k:List aL)(c:Addr),vs=ps.map (λp=>V.ref p.2)/\(∀p∈ps,H p.2=some (.tup (p.1.map kV)))/\y=.ref c/\H c=some (.tup (k.map kV))/\(b=true↔k∈ps.map (·.1))
def GT(I:Inv X zF Z H s)(e:H a=some (.set vs)):s.TypeIs (.ref a) "set":=by
 rcases I.hok a _ e with⟨_,⟨_,h1⟩|⟨_,_,_,o,_,_,_,h1,h2,_⟩|⟨_,_,_,_,o,_,_,_,h1,h2,_⟩⟩
 .show#[_,h1,rfl]
 .show#[o,h1,h2.1]
 .show#[o,h1,h2.1]
def QJ(I:Inv X zF Z H s){ks:List aL}(e:H a=some (.set vs))(B:vs=ks.map kV):∃xs:List (aL×Value),ks.Perm (xs.map (·.1))/\ST.VSet (ST.ldOf X.w) (aF X.prog X.w) s.heap a xs:=by
 rcases I.hok a _ e with⟨_,⟨F,h1⟩|⟨_,xs,p,V⟩|⟨z,xs,p,_,_⟩⟩
 .let:ks=[]:=by rw[F]at B;simpa using B.symm
  subst this;show#[[],.refl _,ST.vset_new h1]
 .show#[xs,NC (λ_ _=>GI) ?_,V];rw[B]at p;rw[qD];show p
 .exfalso;cases vs with
  |nil=>show z rfl
  |cons v vs=>grind[mem_map,mem_cons_self,kV]
def Qn(I:Inv X zF Z H s){ps:List (List aL×Addr)}(e:H a=some (.set vs))(B:vs=ps.map (λp=>V.ref p.2))(G:∀p∈ps,H p.2=some (.tup (p.1.map kV))):∃xs,ps.Perm xs/\ST.TSet (ST.ldOf X.w) (tupleKind (aF X.prog X.w)) s.heap a xs:=by
 rcases I.hok a _ e with⟨_,⟨h0,h1⟩|⟨J,xs,p,_⟩|⟨_,xs,p,L,T⟩⟩
 .let:ps=[]:=by rw[h0]at B;simpa using B.symm
  subst this;show#[[],.refl _,ST.tset_new h1]
 .exfalso;cases vs with
  |nil=>show J rfl
  |cons v vs=>
   let#[q,_,O]:=qJ.mp (p.mem_iff.mp qm);let h1:v∈ps.map (λp=>V.ref p.2):=by rw[<-B];show qm
   let#[k,_,M]:=qJ.mp h1;rw[<-O]at M;cases q with
   |mk q _=>cases q<;>cases M
 .show#[xs,?_,T.full λx F=>DI I.hok (L x F)];rw[B]at p
  --an address tells zJ tuple
  let q:(ps.map (·.2)).Perm (xs.map (·.2)):=NC (f:=V.ref) (λ_ _ h=>by cases h;rfl) (by rw[qD,qD];show p)
  letI f:Addr->List aL×Addr:=λb=>(Classical.epsilon λks:List aL=>H b=some (HO.tup (ks.map kV)),b)
  let Y:∀p:List aL×Addr,H p.2=some (.tup (p.1.map kV))->f p.2=p:=λp h=>by let e:H p.2=some (.tup ((Classical.epsilon λks:List aL=>H p.2=some (HO.tup (ks.map kV))).map kV)):=Classical.epsilon_spec (p:=λks:List aL=>H p.2=some (HO.tup (ks.map kV))) #[p.1,h];grind[Prod.ext,GP]
  let z:∀l:List (List aL×Addr),(∀p∈l,H p.2=some (.tup (p.1.map kV)))->(l.map (·.2)).map f=l:=λl h=>by rw[qD];show(map_congr_left λp G=>Y p (h p G)).trans (map_id _)
  let:=q.map f;rwa[z ps G,z xs L]at this
def Of(hu:A.units<cLine)(I:Inv X zF Z H s)(e:H a=some (.set vs))(hz:vs.length<=150)(g:vQ H vs y b)(Y:zv y u)
  (h:∀s' r,Inv X zF Z (if b then H else upd H a (.set (vs++[y]))) s'->Q r s'):wpAny (model X.prog X.w) A (setAdd a u) Q E s:=by
 rcases g with⟨ks,k,F,rfl,J⟩|⟨ps,k,c,F,hp,rfl,hc,J⟩
 .obtain⟨xs,v,S⟩:=QJ I e F;let hl:xs.length<=150:=by let:=v.length_eq;rw[qo]at this;rw[F,qo]at hz;lia
  show ST.setAddV (Ep Y) (Mn Y) S hl (λB r=>h _ r ?_) λB h' ys O M L r=>h _ r ?_
  .rw[qZ (J.mpr (v.mem_iff.mpr B))];show I.kept λ_ _ z=>z
  .rw[q4 λz=>B (v.mem_iff.mp (J.mp z))];show Fq I (by rw[e];show True.intro) O (let⟨o,_,_,_,ho,_⟩:=L;#[o,ho]) #[by rw[qq];show Nat.add_le_add_right hz 1,.inr (.inl #[by simp,ys,?_,L])];rw[F];let p1:=M.map (λp:aL×Value=>kV p.1);show(qM.trans ?_).trans p1.symm;show List.Perm.cons _ ?_;let:=v.map kV;rw[qD]at this;show this
 .cases(show u=Value.ref c from Y);let#[xs,v,S]:=Qn I e F hp;let hl:xs.length<=150:=by let:=v.length_eq;rw[F,qo]at hz;lia
  show ST.setAddT hu (DI I.hok hc) S hl (λB tk r _=>h _ r ?_) λB h' ys tk r O M L _=>h _ r ?_
  .rw[qZ (J.mpr ((v.map _).mem_iff.mpr B))];show I.kept λ_ _ z=>z
  .rw[q4 λz=>B ((v.map _).mem_iff.mp (J.mp z))];let G:∀d xs,H d=some (.tup xs)->upd H a (.set (vs++[V.ref c])) d=some (.tup xs):=λd xs z=>by rw[Ao (Iv z e (λw=>nomatch w))];exact z
   show Fq I (by rw[e];show True.intro) O (let⟨o,_,_,_,ho,_⟩:=L;#[o,ho]) #[by rw[qq];show Nat.add_le_add_right hz 1,.inr (.inr #[by simp,ys,?_,λp h1=>?_,L.raw])]
   .rw[F];let p1:=M.map (λp:List aL×Addr=>V.ref p.2);show(qM.trans ?_).trans p1.symm;show List.Perm.cons _ (v.map _)
   .rcases qA.mp (M.mem_iff.mp h1)with rfl|z
    .show G _ _ hc
    .show G _ _ (hp p (v.mem_iff.mpr z))
section
variable{K:W.Frag}
def tK(p:List aL×Addr):D:=.tup (p.1.map aG)
theorem zcp{a b:List aL}:D.tup (a.map aG)=D.tup (b.map aG)↔a=b:=#[λh=>by injection h with h;show Gp h,λh=>by rw[h]]
def Lz(r:aN K F x d)(h:aV true d=true):∃p:List aL×Addr,x=.ref p.2/\d=tK p/\F p.2=some (.tup (p.1.map kV)):=by
 cases r with
 |tup e r=>let#[ks,rfl,rfl]:=Ft r h;show#[(ks,_),rfl,rfl,e]
 |_=>cases h
def Jh(r:zD K F xs l):l.all (aV true)=true->∃ps:List (List aL×Addr),xs=ps.map (λp=>V.ref p.2)/\l=ps.map tK/\∀p∈ps,F p.2=some (.tup (p.1.map kV)):=
 zD.ind (P:=λxs l=>l.all (aV true)=true->∃ps:List (List aL×Addr),xs=ps.map (λp=>V.ref p.2)/\l=ps.map tK/\∀p∈ps,F p.2=some (.tup (p.1.map kV))) (λ_=>#[[],rfl,rfl,λ_ z=>nomatch z]) (λa _ v h=>by
  rw[all_cons,and_eq_true]at h;let#[p,rfl,rfl,e]:=Lz a h.1;let#[ps,rfl,rfl,es]:=v h.2;show#[p::ps,rfl,rfl,λq B=>?_];rcases qA.mp B with rfl|z
  .show e
  .show es q z) r
def MB(h:slot U n=some s):U.set n (some s)=U:=by
 let h':=JJ h;apply ext_getElem?;intro j;by_cases v:n=j
 .subst v;rw[getElem?_set_self (qg.mp h').1,h']
 .rw[getElem?_set_ne v]
def QZ(O:zp F H)(r:zD K F vs l)(Y:aN K F v d)(J:bO (d::l)=true):∃b,vQ H vs v b/\cI l d=if b then l else l++[d]:=by
 unfold bO at J;rw[or_eq_true,all_cons,all_cons,and_eq_true,and_eq_true]at J;let B:∀p:Prop,(d∈l↔p)->∃b,(b=true↔p)/\cI l d=if b then l else l++[d]:=λp h=>by
  unfold cI;by_cases q:p
  .simp_all
  simp_all
 rcases J with⟨h1,h2⟩|⟨h1,h2⟩
 .obtain⟨k,rfl,rfl⟩:=Fs Y h1;let#[ks,rfl,rfl]:=Ft r h2;let#[b,L,e]:=B (k∈ks) (by rw[qJ];show#[λ⟨j,G,z⟩=>EB z▸G,λz=>#[k,z,rfl]])
  show#[b,.inl #[ks,k,rfl,rfl,L],e]
 .obtain⟨p,rfl,rfl,ep⟩:=Lz Y h1;let#[ps,rfl,rfl,M]:=Jh r h2;let#[b,L,e]:=B (p.1∈ps.map (·.1)) (by rw[qJ,qJ];show#[λ⟨j,G,z⟩=>#[j,G,zcp.mp z],λ⟨j,G,z⟩=>#[j,G,zcp.mpr z]])
  show#[b,.inr #[ps,p.1,p.2,rfl,λq hq=>O _ _ (M q hq),rfl,O _ _ ep,L],e]
def Rel.sadd{D:Addr}(r:Rel K (U++[some s]) (Z++[some v]) F G H)(hs:slot U n=some (.set l))(J:Z[n]?=some (some (.ref D)))(M:bO (s.toD::l)=true):
  ∃vs b,H D=some (.set vs)/\vs.length=l.length/\vQ H vs v b/\Rel K (U.set n (some (.set (cI l s.toD)))) Z F G (if b then H else upd H D (.set (vs++[v]))):=by
 let hl:=Af r;let rd:=r.drop hl;let#[fp,e,nd,ap]:=r.en;let#[f1,f2,rfl,a,b]:=e.cut hl;let#[v',fa,fi,fb,e1,rfl,q,up]:=a.at hs;rw[J]at e1;let e2:V.ref D=v':=↑e1
 subst e2;let sh:∃d,s=.sh d:=by
  cases s with
  |sh d=>show#[d,rfl]
  |lst l=>simp[bO,bQ,aV]at M
  |dct t ks vs=>simp[bO,bQ,aV]at M
  |set l=>simp[bO,bQ,aV]at M
 let#[d,rfl]:=sh;rw[S.toD_sh]at M⊢;cases q with
 |st hD rl=>
  rename_i xs;cases b with
  |so sr nl=>
   cases nl;cases sr with
   |sh rv=>
    let#[b,sa,ea]:=QZ r.fr rl rv M;show#[xs,b,hD,rl.len,sa,?_];rw[ea];cases b with
    |true=>simp;rw[MB hs];show rd
    |false=>
     simp;let B:(fa++([D]++fb)).Nodup:=↑nd
     let#[na,Y,h1]:=qw.mp B;let#[nD,nb]:=qK.mp Y;let h2:D∉fa:=λz=>h1 D z D qm rfl;let O:=ap D (by simp);let new:aJ K F (upd H D (.set (xs++[v]))) (.ref D) (.set (l++[d])) [D]:=.st Bc (rl.append (.cons rv .nil));let a2:=up (F':=F) (H':=upd H D (.set (xs++[v]))) (o:=some (.set (l++[d]))) (u:=some (.ref D)) (zp.refl F) (λx L=>Ao λz=>(qx.mp L).elim (λw=>h2 (z▸w)) λw=>nD (z▸w)) (.so new .nil);rw[GZ J]at a2;show#[zp.updR r.fr O.1,λx o w=>?_,_,a2,B,λx L=>ap x ↑L];let L:x≠D:=λz=>by rw[z,O.2]at w;cases w
     rw[Ao L];show r.gr x o w
end
section
variable{D:Addr}
def Su(J:X.xe=λ_ _=>False)(hu:X.A.units+1<cLine)(h:FE X h4 we):iK X (eval h4 X.env>>=λv=>standAt p>>=λ_=>call (.builtin "set.add") [.ref D,v]>>=λ_=>pure ()) (oB X n D (kT n we)):=by
 intro zF s Z H Q I q;let#[F,G,U,P,h1,h2,hw,h3]:=q;let hp:PassesOwn (model X.prog X.w) X.A X.env X.xe:=by rw[J];show PassesOwn.never
 let Y:∀e s',X.xe e s'->False:=λe s' z=>by rw[J]at z;show z
 have he:=h X.pn X.xe hp zF s Z H (λv H1=>∃L U1 t l,zp F L/\Rel X.K (U1++[some t]) (Z++[some v]) L G H1/\slot U1 n=some (.set l)/\bO (t.toD::l)=true/\l.length<=150/\P (U1.set n (some (.set (cI l t.toD))))) I
  #[F,G,U,_,NX,h1,hw,λr U1 v L H1 B s1 M rv=>?_,Hd]
 .show qa (zh he (λu s1 zq=>?_) λe s' z=>Y e s' z);let#[v,H1,I1,rv,L,U1,t,l,sm,M,hs,B,hz,hP]:=zq;let#[vs,b,hD,h5,sa,r2]:=Rel.sadd M hs h2 B;show qa (wpAny_standAt (qa (ST.call_add_of (GT I1 hD) (Of hu I1 hD ∅ sa rv λs' _ I'=>?_))));show qb #[Z,_,I',h3 _ Z L _ hP KP.refl sm r2]
 .obtain⟨⟨t,O⟩,eg,B⟩:=Ap B;let#[F2,s2,l2,r2]:=AD (U':=[]) (Z':=[]) M (Af M) rv eg;split at B
  .rename_i l e;show#[F2,O,t,l,s1.trans s2,r2,e,B.1,B.2.1,B.2.2]
  .show B.elim
end
section
variable{X:Cx}
def RI(H:Hp)(h:Heap)(_:sysModules<h.objs.size):zE X.prog X.w H (h.push (ST.freshSet (ST.ldOf X.w))) h.objs.size (.set []):=#[zero_le _,.inl #[rfl,qd _ rfl]]
def OI(F H:Hp)(p:Addr)(e:H p=some (.set [])):aJ X.K F H (.ref p) (.set []) [p]:=.st e .nil
set_option maxHeartbeats 4000000 in
def KN(hn:X.N.length=n)(hu:X.A.units+1<cLine)(hm:X.A.mark none=X.A)(hc:X.calm=true)(Sc:bW X.env.scope scope X.N vars)(hk:vars.length=k)(hi:FI X tg iter wi)
  (hg:∀s H ex,FG (aC X scope vars s H ex) (List.range (n+1)) tg g)(ht:∀s H ex,fZ (aC X scope vars s H ex) B (iA (aC X scope vars s H ex) wc))
  (yD:∀s H ex,FI (aC X scope vars s H ex) v iter2 L)(h3:∀s H ex,FG (aC X scope vars s H ex) (List.range (n+1)) v g2)(Y:∀s H ex,fZ (aC X scope vars s H ex) ifs2 (iA (aC X scope vars s H ex) M))
  (he:∀s H ex,FE (aC X scope vars s H ex) J we)
  (hs:∀x,foldedSetIterable iter X.env x=pure x:=by intro _;rfl)(h1:∀env x,foldedSetIterable iter2 env x=pure x:=by intro _ _;rfl):FE X (.SetComp J [#[tg,iter,B,0],#[v,iter2,ifs2,0]] scope pos) (vW (.set []) n k wi g wc (mR L g2 M (kT n we))):=by
 subst hn;intro pn xe hp zF s Z H Q I q;let#[F,G,U,P,PX,O,hw,h2,hx]:=q;show HH (ty:="set") (dat:=.set #[] 0 (.fresh 0 0 (ST.ldOf X.w))) (λA E s Q h=>ST.newSet_ok h) (s0:=.set []) (o0:=.set []) RI OI rfl hs Sc hk hi (λs H ex D=>?_) (λ_ _ _=>rfl) (λ_ _ _=>rfl) (λ_ _ _=>rfl) (λ_ _ _=>#[_,rfl]) hp I O hw hx (IX h2);let z:iL (aC X scope vars s H ex) (.SetComp J [#[tg,iter,B,0],#[v,iter2,ifs2,0]] scope pos) 1 (.ref D) v _:=
  GU (X:=aC X scope vars s H ex) hc rfl (h3 s H ex [] (λ_ _=>False) PassesOwn.never) (Y s H ex) (λ_=>(Su (X:=aC X scope vars s H ex) (n:=X.N.length) rfl hu (he s H ex)).f) (λ_=>rfl) (λ_=>rfl) (λ_=>rfl) (λ_=>rfl)
 show GU (X:=aC X scope vars s H ex) hc rfl (hg s H ex [] (λ_ _=>False) PassesOwn.never) (ht s H ex) (λ_=>Sn (X:=aC X scope vars s H ex) rfl (yD s H ex) z (h1 _) hm (λ_=>rfl) (λ_=>rfl) (λ_=>rfl) (λ_=>#[_,rfl])) (λ_=>rfl) (λ_=>rfl) (λ_=>rfl) (λ_=>rfl)
end
def kf(p:List aL×Addr):List aL:=p.1
section
variable(X:Cx)(s:Shared)
@[inline]def JK(ks:List aL)(i:Nat)(h:Heap):Prop:=(∀b o,s.heap.get? b=some o->h.get? b=some o)/\∃xs:List (aL×Value),(iE id (ks.take i)).Perm (xs.map (·.1))/\ST.VSet (ST.ldOf X.w) (aF X.prog X.w) h s.heap.objs.size xs/\(i=0->h.get? s.heap.objs.size=some (ST.freshSet (ST.ldOf X.w)))
@[inline]def JT(ps:List (List aL×Addr))(i:Nat)(h:Heap):Prop:=(∀b o,s.heap.get? b=some o->h.get? b=some o)/\∃xs:List (List aL×Addr),(iE kf (ps.take i)).Perm xs/\ST.TRaw (ST.ldOf X.w) (tupleKind (aF X.prog X.w)) h s.heap.objs.size xs/\(i=0->h.get? s.heap.objs.size=some (ST.freshSet (ST.ldOf X.w)))
def JK.stay{ks:List aL}{i:Nat}{h h':Heap}(x:JK X s ks i h)(v:∀b o,b≠s.heap.objs.size+1->h.get? b=some o->h'.get? b=some o):JK X s ks i h':=by let#[k,xs,p,#[o,es,ep,t,G,r],z]:=x;let B:s.heap.objs.size≠s.heap.objs.size+1:=ne_of_lt (lt_succ_self _);show#[λb o e=>v b o (ne_of_lt (lt_succ_of_lt (ST.lt_of_get e))) (k b o e),xs,p,#[o,es,ep,t,v _ _ B G,r],λF=>v _ _ B (z F)]
def JT.stay{ps:List (List aL×Addr)}{i:Nat}{h h':Heap}(x:JT X s ps i h)(v:∀b o,b≠s.heap.objs.size+1->h.get? b=some o->h'.get? b=some o):JT X s ps i h':=by let#[k,xs,p,#[o,es,ep,t,G,r],z]:=x;let B:s.heap.objs.size≠s.heap.objs.size+1:=ne_of_lt (lt_succ_self _);show#[λb o e=>v b o (ne_of_lt (lt_succ_of_lt (ST.lt_of_get e))) (k b o e),xs,p,#[o,es,ep,t,v _ _ B G,r],λF=>v _ _ B (z F)]
end
def KE:bootBuiltins "set"=some (.type "set"):=by decide+kernel
def VD:isSubtype (.type "tuple") (.type "set")=pure false:=by rw[isSubtype_type];kernel_rfl
def Vy:isSubtype (.type "tuple") (.type "frozenset")=pure false:=by rw[isSubtype_type];kernel_rfl
theorem Tu(hh:A.handled=none)(hu:A.units+20<cLine)(I:Inv X zF Z H s)(hT:s.TypeIs x T)(h3:isSubtype (.type T) (.type "set")=pure false)(h2:isSubtype (.type T) (.type "frozenset")=pure false)(h4:(Value.type T==Value.type "dict")=false)
  (W:ST.WalkOk X.prog X.w s x F.toArray.size (λi v=>F.toArray[i]?=some v))(rv:zC (ks.map kV) F)(hz:ks.length<=150)
  (h:∀s',Inv X zF Z (upd H s.heap.objs.size (.set ((iE id ks).map kV))) s'->Q (.ref s.heap.objs.size) s'):wpAny (model X.prog X.w) A (call (.type "set") [x]) Q E s:=by
 let hl:F.toArray.size=ks.length:=by rw[qr,<-rv.length,qo]
 refine ST.call_set (B:=A.units+20) (J:=JK X s ks) hh hT h3 h2 h4 W (λh e k=>#[k,[],.refl _,ST.vset_new e,λ_=>e]) (λi h h' hi x hk=>JK.stay X s x hk)
  (λA i v s' Q E hi hP⟨O,xs,p,S,z⟩ hQ hA=>?_) (q5 _) λh' tk⟨O,xs,p,S,z⟩ _ ht=>h _ ?_
 .rw[hl]at hi;let#[u,h6,ru]:=rv.get (i:=i) (x:=kV ks[i]) (by rw[qE,qh hi];rfl);let hv:v=u:=by grind
  subst hv;let h5:xs.length<=150:=by let h1:=p.length_eq;grind[GN,length_map,iE,bV,length_take,length_nil]
  let Y:∀{h':Heap},Heap.SameBut s.heap.objs.size s'.heap h'->∀b o,s.heap.get? b=some o->h'.get? b=some o:=λM b o e=>(M.2 b (ne_of_lt (ST.lt_of_get e))).trans (O b o e);let L:=MC (id:aL->aL) hi;show ST.setAddV (Ep ru) (Mn ru) S h5 (λhm r=>hQ s'.heap _ r (le_succ _) (Heap.SameBut.refl _ _) #[O,xs,?_,S,λz=>nomatch z]) λhm h' ys M pm S' r=>hQ h' _ r (le_succ _) M #[Y M,ys,?_,S',λz=>nomatch z]
  .rw[L];unfold bV;grind
  .rw[L];unfold bV;rw[map_id,q4 (show¬id ks[i]∈iE id (ks.take i) from λz=>hm (p.mem_iff.mp z))];show(qM.trans (List.Perm.cons _ p)).trans (pm.map (·.1)).symm
 .rw[hl,List.take_length]at p;refine I.laid (t':=tk) O (q5 _) #[?_,?_]
  .grind[length_map,GN,iE,bV,length_nil]
  .cases ks with
   |nil=>show .inl #[rfl,z hl]
   |cons y ks=>
    show .inr (.inl #[λe=>?_,xs,?_,S])
    .have h1:∀(l G:List aL),G≠[]->l.foldl (bV id) G≠[]:=λl=>by
      induction l with
      |nil=>show λ_ h=>h
      |cons i l ih=>
       show λG h=>ih _ ?_;unfold bV;split
       .show h
       .simp
     show h1 ks (bV id [] y) (by unfold bV;simp) (map_eq_nil_iff.mp e)
    .let:=p.map kV;rw[qD]at this;show this
theorem To(hh:A.handled=none)(hu:A.units+20<cLine)(I:Inv X zF Z H s)(hT:s.TypeIs x T)(h9:isSubtype (.type T) (.type "set")=pure false)(h8:isSubtype (.type T) (.type "frozenset")=pure false)(e1:(Value.type T==Value.type "dict")=false)
  (W:ST.WalkOk X.prog X.w s x F.toArray.size (λi v=>F.toArray[i]?=some v))(rv:zC (ps.map λp=>V.ref p.2) F)(hp:∀p∈ps,H p.2=some (.tup (p.1.map kV)))(hz:ps.length<=150)
  (h:∀s',Inv X zF Z (upd H s.heap.objs.size (.set ((iE kf ps).map λp=>V.ref p.2))) s'->Q (.ref s.heap.objs.size) s'):wpAny (model X.prog X.w) A (call (.type "set") [x]) Q E s:=by
 let hl:F.toArray.size=ps.length:=by rw[qr,<-rv.length,qo]
 let M:∀{h:Heap},(∀b o,s.heap.get? b=some o->h.get? b=some o)->∀p∈ps,IsTupleKey (aF X.prog X.w) h p.1 p.2:=λk p O=>by let#[o,F,n,h1,r]:=DI I.hok (hp p O);show#[o,F,n,k _ _ h1,r]
 have h6:∀{h:Heap}{i:Nat}{xs:List (List aL×Addr)},(∀b o,s.heap.get? b=some o->h.get? b=some o)->(iE kf (ps.take i)).Perm xs->∀p∈xs,IsTupleKey (aF X.prog X.w) h p.1 p.2:=λk pm p O=>by
  rcases GM kf (pm.mem_iff.mpr O)with z|z
  .cases z
  .show M k p (mem_of_mem_take z)
 refine ST.call_set (B:=A.units+20) (J:=JT X s ps) hh hT h9 h8 e1 W (λh e k=>#[k,[],.refl _,(ST.tset_new e).raw,λ_=>e]) (λi h h' hi x hk=>JT.stay X s x hk)
  (λA i v s' Q E hi hP⟨L,xs,p,S,z⟩ hQ hA=>?_) (q5 _) λh' tk⟨L,xs,p,S,z⟩ _ ht=>h _ ?_
 .rw[hl]at hi;let#[u,h7,ru]:=rv.get (i:=i) (x:=V.ref ps[i].2) (by rw[qE,qh hi];rfl);let hv:v=u:=by rw[List.getElem?_toArray,h7]at hP;exact(qf hP).symm
  subst hv;cases(show v=Value.ref ps[i].2 from ru);let e2:xs.length<=150:=by let h1:=p.length_eq;let h2:=GN kf (ps.take i) [];let h3:(iE kf (ps.take i)).length=((ps.take i).foldl (bV kf) []).length:=rfl;rw[qG,qv]at h2;lia
  let h5:∀{h':Heap},Heap.SameBut s.heap.objs.size s'.heap h'->∀b o,s.heap.get? b=some o->h'.get? b=some o:=λsb b o e=>(sb.2 b (ne_of_lt (ST.lt_of_get e))).trans (L b o e);let h4:=MC kf hi;show ST.setAddT ∅ (M L ps[i] (getElem_mem hi)) (S.full (h6 L p)) e2 (λhm tk r ht=>hQ s'.heap _ r ht (Heap.SameBut.refl _ _) #[L,xs,?_,S,λz=>nomatch z]) λhm h' ys tk r sb pm S' ht=>hQ h' _ r ht sb #[h5 sb,ys,?_,S'.raw,λz=>nomatch z]
  .rw[h4];unfold bV;rw[qZ (show kf ps[i]∈_ from(p.map kf).mem_iff.mpr hm)];show p
  .rw[h4];unfold bV;rw[q4 (show¬kf ps[i]∈_ from λz=>hm ((p.map kf).mem_iff.mp z))];show(qM.trans (List.Perm.cons _ p)).trans pm.symm
 .rw[hl,List.take_length]at p;let Y:∀d xs,H d=some (HO.tup xs)->upd H s.heap.objs.size (.set ((iE kf ps).map λp=>V.ref p.2)) d=some (.tup xs):=λd xs z=>by rw[Ao (DK z I.fresh)];exact z
  show I.laid (t':=tk) L (q5 _) #[?_,?_]
  .rw[qo];let:=GN kf ps [];let h3:(iE kf ps).length=(ps.foldl (bV kf) []).length:=rfl;rw[qv]at this;lia
  .cases ps with
   |nil=>show .inl #[rfl,z hl]
   |cons y ps=>
    show .inr (.inr #[λe=>?_,xs,p.map _,λq O=>?_,S])
    .have h1:∀(l G:List (List aL×Addr)),G≠[]->l.foldl (bV kf) G≠[]:=λl=>by
      induction l with
      |nil=>show λ_ h=>h
      |cons i l ih=>
       show λG h=>ih _ ?_;unfold bV;split
       .show h
       .simp
     show h1 ps (bV kf [] y) (by unfold bV;simp) (map_eq_nil_iff.mp e)
    .rcases GM kf (p.mem_iff.mpr O)with z|z
     .cases z
     .show Y _ _ (hp q z)
def tN(K:W.Frag):List V->Hp->VK->Prop:=λxs H Q=>∃a vs,xs=[.ref a]/\(bL K H a vs\/bK K H a vs)/\vs.length<=150/\
 ((∃ks:List aL,vs=ks.map kV/\∀p,H p=none->Q (.ref p) (upd H p (.set ((iE id ks).map kV))))\/
  ∃ps:List (List aL×Addr),vs=ps.map (λp=>V.ref p.2)/\(∀p∈ps,H p.2=some (.tup (p.1.map kV)))/\∀p,H p=none->Q (.ref p) (upd H p (.set ((iE kf ps).map λp=>V.ref p.2))))
def Ud(J:bR k X.A):aR X (.type "set") (tN X.K):=by
 intro zF s Z H xs us Q I r h;let#[a,vs,rfl,G,O,h]:=h;let Y:X.A.units+20<cLine:=by let:=J.units;lia
 cases r with
 |cons r1 r2=>
  cases r2;cases r1;let go:∀{T:String}{z:List Value},s.TypeIs (.ref a) T->isSubtype (.type T) (.type "set")=pure false->isSubtype (.type T) (.type "frozenset")=pure false->(Value.type T==Value.type "dict")=false->ST.WalkOk X.prog X.w s (.ref a) z.toArray.size (λi v=>z.toArray[i]?=some v)->zC vs z->
    wpAny (model X.prog X.w) X.A (call (.type "set") [.ref a]) (EP X zF Z Q) X.xe s:=λ{T z} hT h1 h2 h3 W B=>by
   rcases h with⟨ks,rfl,q⟩|⟨ps,rfl,hp,q⟩
   .show Tu J.hd Y I hT h1 h2 h3 W B ↑O λs' L=>#[.ref _,_,L,rfl,q _ I.fresh]
   .show To J.hd Y I hT h1 h2 h3 W B hp ↑O λs' L=>#[.ref _,_,L,rfl,q _ I.fresh]
  rcases G with G|G
  .obtain⟨z,B,M,_⟩:=I.list G;show go M.isList.typeIs F.sub_list_set F.sub_list_frozenset ⋯ (ST.walk_list M.isList) B
  .obtain⟨z,B,⟨o,e,c,n,d⟩,_⟩:=I.tuple G;let ht:s.heap.IsTuple a z.toArray:=#[o,e,c,n,d]
   show go #[o,e,c] VD Vy ⋯ (ST.walk_tuple ht) B
section
variable{K:W.Frag}
def zD.of_all{ι:Type}{v:ι->V}{z:ι->D}:∀{l:List ι},(∀i∈l,aN K F (v i) (z i))->zD K F (l.map v) (l.map z)
 |[],_=>.nil
 |i::l,h=>.cons (h i qm) (zD.of_all λj B=>h j (qk _ B))
def zD.to_all{ι:Type}{v:ι->V}{B:ι->D}:∀{l:List ι},zD K F (l.map v) (l.map B)->∀i∈l,aN K F (v i) (B i)
 |[],_,_,h=>nomatch h
 |j::l,.cons a b,i,h=>by
  rcases qA.mp h with rfl|z
  .show a
  .show zD.to_all b i z
def Rel.newS{p:Addr}(v:Rel K U Z F G H)(z:H p=none)(r:zD K F vs l):Rel K (U++[some (.set l)]) (Z++[some (.ref p)]) F G (upd H p (.set vs)):=v.newO z (.st Bc r)
def Rp:cM K (tN K) kS:=by
 intro Z U F G H vs ds s Q B Y e O;let#[d,v,rfl,rfl]:=Be (λx y r=>by cases x<;>rfl) rfl Y e;let J:∀{a:Addr}{xs:List V}{l:List D},(bL K H a xs\/bK K H a xs)->zD K F xs l->newS l=some s->tN K [.ref a] H Q:=λ{a xs l} h2 r e=>by
  unfold newS at e;split at e
  .rename_i hc;cases e;show#[a,xs,rfl,h2,by rw[r.len];show hc.2,?_];let L:=hc.1;unfold bO at L;rw[or_eq_true]at L;rcases L with L|L
   .obtain⟨ks,rfl,rfl⟩:=Ft r L;show .inl #[ks,rfl,λp M=>?_];rw[Lp id (f:=aG) λi j=>#[EB,λz=>by rw[show i=j from z]]]at O;show O _ F _ (zp.refl F) (B.newS M (zD.of_all λi hi=>zD.to_all r i ?_));rcases GM id hi with z|z
    .cases z
    .show z
   .obtain⟨ps,rfl,rfl,hf⟩:=Jh r L;show .inr #[ps,rfl,λp M=>B.fr _ _ (hf p M),λp M=>?_];rw[Lp kf (f:=tK) λi j=>zcp]at O;show O _ F _ (zp.refl F) (B.newS M (zD.of_all λi hi=>zD.to_all r i ?_));rcases GM kf hi with z|z
    .cases z
    .show z
  .cases e
 cases d with
 |lst l=>let#[a,xs,rfl,h1,r1]:=Y.1.lst B.fr;show J (.inl h1) r1 e
 |tup l=>let#[a,xs,rfl,h1,r1]:=Y.1.tup;show J (.inr (bK.of (B.fr _ _ h1))) r1 e
 |_=>cases e
def LR(B:bR k X.A)(G:Gl X "set")(F:X.mg "set"=none)(z:bootBuiltins "set"=some (.type "set"))(L:FA X (e::es) wa)(J:starEach (e::es) X.env=(false,eval e X.env)::starEach es X.env:=by rfl)(v:(backTo pos (starEach es X.env)).any (·.1)=false:=by rfl):FE X (.Call (.Name "set" p) (e::es) [] pos) (wB kS wa):=
 Ij (λpn xe=>Ud (X:=wp X pn xe) B) Rp G F z L ⋯ ⋯ J v
def rG(K:W.Frag):List V->Hp->VK->Prop:=λxs H Q=>(∃a vs,xs=[.ref a]/\H a=some (.set vs)/\Q (.int vs.length) H)\/tQ K xs H Q
def UE:aR X (.builtin "len") (rG X.K):=λzF s Z H xs G Q I r h=>by
 rcases h with⟨a,F,rfl,e,q⟩|h
 .cases r with
  |cons L J=>
   cases J;cases L;let v:∀n:Nat,n=F.length->∀t,EP X zF Z Q (.int n t) {s with toks:=s.toks+1+1}:=λn M t=>#[.int n,H,I.kept λ_ _ z=>z,#[t,rfl],by rw[M];show q]
   rcases I.hok a _ e with⟨Y,⟨O,h1⟩|⟨_,xs,p,S⟩|⟨_,xs,p,_,S⟩⟩
   .show ST.VSet.len (K:=aL) (knd:=aF X.prog X.w) (ST.vset_new h1) (zero_le _) (v 0 (by rw[O];rfl) _)
   .let B:=p.length_eq;rw[qo]at B;show ST.VSet.len S ∅ (v _ B.symm _)
   .let B:=p.length_eq;rw[qo]at B;show ST.TRaw.len S ∅ (v _ B.symm _)
 .show Nh zF s Z H xs G Q I r h
def bC.set(r:bC K F H v (.set l)):∃a xs,v=.ref a/\F a=some (.set xs)/\zD K F xs l:=by
 rcases r with r|⟨_,_,_,_,e,_⟩|⟨_,_,_,_,_,e,_⟩|⟨_,_,_,_,_,e,_⟩
 .cases r with
  |st e r=>show#[_,_,rfl,e,r]
 .cases e
 .cases e
 .cases e
def Vt:cM K (rG K) iI:=by
 intro Z U F G H M O s Q z B e J;let#[d,v,rfl,rfl]:=Be (λx y r=>by cases x<;>rfl) rfl B e;cases d with
 |set l=>cases e;let#[a,xs,rfl,h1,L]:=bC.set B.1;show .inl #[a,xs,rfl,z.fr _ _ h1,by rw[L.len];show J _ F H (zp.refl F) (z.push (.int _))]
 |_=>show .inr (MF Z U F G H [v] _ s Q z B e J)
def Qv(B:Gl X "len")(z:X.mg "len"=none)(G:FA X (e::es) wa)(F:starEach (e::es) X.env=(false,eval e X.env)::starEach es X.env:=by rfl)(v:(backTo pos (starEach es X.env)).any (·.1)=false:=by rfl):FE X (.Call (.Name "len" p) (e::es) [] pos) (wB iI wa):=
 GX (λ_ _=>UE) Vt B z PySem.boot_len G ⋯ ⋯ F v
end
def Ja:∀l:List Nat,(∀x∈l,p x=true->q x=true)->l.countP p<=l.countP q
 |[],_=>q5 _
 |a::l,h=>by
  rw[countP_cons,countP_cons];let:=Ja l λx v=>h x (qk _ v);cases e:p a with
  |true=>rw[h a qm e];lia
  |false=>simp;lia
def LO:∀l:List Nat,(∀x∈l,p x=true->q x=true)->(∃x,x∈l/\q x=true/\p x=false)->l.countP p<l.countP q
 |[],_,z=>by let#[_,z,_]:=z;cases z
 |a::l,h,z=>by
  rw[countP_cons,countP_cons];let#[x,v,B,F]:=z;by_cases e:x=a
  .subst e;let:=Ja l λx v=>h x (qk _ v);rw[B];lia
  .let:=LO l (λx v=>h x (qk _ v)) #[x,(qA.mp v).resolve_left e,B,F];cases e:p a with
   |true=>rw[h a qm e];lia
   |false=>simp;lia
def xB(l:List D)(i:Nat):Int:=((List.range l.length).countP λj=>!dP (l.getD i .non) (l.getD j .non):Nat)
def OR(o:eS P)(O:∀d∈l,P d)(hi:i<l.length)(M:j<l.length):decide (xB l i<xB l j)=!dP (l.getD j .non) (l.getD i .non):=by
 let v:∀k,k<l.length->P (l.getD k .non):=λk G=>by grind
 let B:=v i hi;let L:=v j M;unfold xB;cases e:dP (l.getD j .non) (l.getD i .non)with
 |false=>
  show qQ (Int.ofNat_lt.mpr (LO _ (λk G h=>?_) #[i,qI.mpr hi,by rw[e];rfl,?_]))
  .have J:=v k (qI.mp G);cases q:dP (l.getD j .non) (l.getD k .non)with
   |false=>rfl
   |true=>
    let F:dP (l.getD i .non) (l.getD k .non)=false:=↑h
    rcases o.tot _ _ B L with z|z
    .rw[o.tr _ _ _ B L J z q]at F;cases F
    .rw[z]at e;cases e
  .rcases o.tot _ _ B B with z|z<;>rw[z]<;>rfl
 |true=>
  refine qR λh=>?_;let:=Ja (p:=λk=>!dP (l.getD j .non) (l.getD k .non)) (q:=λk=>!dP (l.getD i .non) (l.getD k .non)) (List.range l.length) λk G h=>by
   let J:=v k (qI.mp G);cases q:dP (l.getD i .non) (l.getD k .non)with
   |false=>rfl
   |true=>rw[o.tr _ _ _ L B J e q]at h;cases h
  lia
section
open PySem.W HT
theorem VL{ks F:List aL}(i:Nat)(r:zC (ks.map kV) us)(L:zC (F.map kV) vs)(h:dX sh (ks.map aG))(h':dX sh (F.map aG))(B:Q (aS (ks.map aG) (F.map aG)==.lt) s):KatLex prog w A b (decide (ks.length<F.length)) Q (us.zip vs) i s:=by
 induction ks generalizing us vs F i sh with
 |nil=>
  let e:F=[]:=by simpa using Fu h h'
  subst e;cases r;show kat_nil B
 |cons k ks O=>cases F with
  |nil=>have e:=Fu (m:=(k::ks).map aG) h' h;cases e
  |cons j F=>
   rw[qy,qy]at B;let#[kd,h3,h1,h2]:=HY h h';let e:decide ((k::ks).length<(j::F).length)=decide (ks.length<F.length):=decide_eq_decide.2 Nat.succ_lt_succ_iff;rw[e];cases r with
   |@cons _ u _ us M r=>
    cases L with
    |@cons _ v _ vs J L=>
     cases k with
     |inl n=>
      let#[t,rfl]:=M;cases j with
      |inr y=>rcases kd with⟨_,_,_,z⟩|⟨_,_,z,_⟩<;>cases z
      |inl m=>
       let#[Y,rfl]:=J;show kat_cons (wpAny_eqBool_int ?_);let B:Q ((match cA (D.int n) (D.int m)with|.eq=>aS (ks.map aG) (F.map aG)|o=>o)==.lt) s:=B;rw[GK]at B;by_cases nm:n=m
       .subst nm;rw[q4 (Int.lt_irrefl n),q4 (Int.lt_irrefl n)]at B;rw[show(n==n)=true by simp];show kat_yes (O (i+1) r L h1 h2 B)
       .rw[show(n==m)=false by simp[nm]];let G:Q (decide (n<m)) s:=by
         by_cases z:n<m
         .rw[qZ z]at B;rw[qQ z];show B
         .rw[q4 z,qZ ∅]at B;rw[qR z];show B
        show kat_no ?_;cases(b&&i==0)with
        |true=>show oneLt_int G
        |false=>show kat_one _ _ (PyProof.Rows.lt_int G)
     |inr x=>
      let#[t,rfl]:=M;cases j with
      |inl y=>rcases kd with⟨_,_,z,_⟩|⟨_,_,_,z⟩<;>cases z
      |inr y=>
       let#[Y,rfl]:=J;show kat_cons (wpAny_eqBool_str ?_);let B:Q ((match cA (D.str x.cps.toList) (D.str y.cps.toList)with|.eq=>aS (ks.map aG) (F.map aG)|o=>o)==.lt) s:=B;rw[HI]at B;by_cases nm:x=y
       .subst nm;rw[q4 (List.lt_irrefl _),q4 (List.lt_irrefl _)]at B;rw[qQ rfl];show kat_yes (O (i+1) r L h1 h2 B)
       .rw[qR nm];let G:Q (decide (x.cps.toList<y.cps.toList)) s:=by
         rcases Tj x.cps.toList y.cps.toList with z|z|z
         .rw[qZ z]at B;rw[qQ z];show B
         .rw[q4 (lt_asymm z),qZ z]at B;rw[qR (lt_asymm z)];show B
         .show absurd (EB (a:=.inr x) (b:=.inr y) (by show D.str _=D.str _;rw[z])) (λe=>nm (by cases e;rfl))
        show kat_no ?_;cases(b&&i==0)with
        |true=>show oneLt_str G
        |false=>show kat_one _ _ (PyProof.Rows.lt_str G)
def kU(h:Heap)(b:Addr)(ks:List aL):Prop:=∃us,zC (ks.map kV) us/\IsTup h b us.toArray
def Cv:∀{ps:List (List aL×Addr)},(∀p∈ps,kU h p.2 p.1/\dX (t::sh) (p.1.map aG))->∃fs:List Value,KatTups h (ps.map λp=>Value.ref p.2) fs/\fs.length=ps.length/\∀v∈fs,if t then∃z u,v=Value.str z u else∃z u,v=Value.int z u
 |[],_=>#[[],.nil,rfl,λ_ z=>nomatch z]
 |(ks,b)::ps,hp=>by
  let#[fs,M,L,J]:=Cv (ps:=ps) λp Y=>hp p (qk _ Y);let#[#[G,r,o,e,c,n,d],B]:=hp (ks,b) qm;cases ks with
  |nil=>cases t<;>show B.elim
  |cons k ks=>
   cases r with
   |@cons _ u _ G F r=>
    show#[u::fs,.cons e c d rfl M,by simp[L],λv O=>?_];rcases qA.mp O with z|z
    .subst z;cases t
     .cases k with
      |inl i=>let#[tk,rfl]:=F;show#[_,_,rfl]
      |inr x=>show B.elim
     .cases k with
      |inl i=>show B.elim
      |inr x=>let#[tk,rfl]:=F;show#[_,_,rfl]
    .show J v z
end
def Inv.laidD(I:Inv X zF Z H s)(hn:∀m,s.heap.Ns X.env.locals m->h'.Ns X.env.locals m)(k:∀b u,b≠X.env.locals->s.heap.get? b=some u->h'.get? b=some u)
  (L:s.heap.get? a=none)(new:zE X.prog X.w (upd H a o) h' a o):Inv X zF Z (upd H a o) {s with heap:=h',toks:=t',drawn:=d'}:=by
 have F:H a=none:=by
  cases e:H a with
  |none=>rfl
  |some u=>let#[v,z]:=zE.there (I.hok a u e);rw[L]at z;cases z
 refine I.step (g':=s.gens) (d':=d') (ch:=[]) (λ_ z=>nomatch z) (λb B J _ _ e _=>k b B J e) (λb B J _ _ e _=>#[B.slots,k b B J e]) (λb B _ e n=>by rw[Ao (λz=>by rw[z,L]at e;cases e)];show n)
  (λb B _ e=>?_) (λb xs q=>by rw[Ao (DK q F)];show q) (λb u xs q=>by rw[Ao (DK q F)];show q) (λb ps q=>#[#[],by rw[Ao (DK q F),q];simp]) hn (λb B e=>?_) I.bare
 .by_cases G:b=X.env.locals
  .obtain⟨m,x,_⟩:=I.loc;let#[o',_,_,O,_]:=hn m x;show#[o',by rw[G];show O]
  .show#[B,k b B G e]
 .by_cases G:b=a
  .grind[Bc]
  .rw[Ao G]at e;show(I.hok b B e).stay (λc v M q=>k c v (λz=>?_) q) (λc q=>by rw[Ao (DK q F)];show q) λc xs q=>by rw[Ao (DK q F)];exact q
   rw[z]at M;rcases M with r|r
   .rw[<-r,I.free]at e;cases e
   .rw[I.free]at r;cases r
def Qm(h:fP k v=true):zv (kV k) v:=by
 rcases Et h with⟨i,t,rfl,rfl⟩|⟨x,t,rfl,rfl⟩
 .show#[t,rfl]
 .show#[t,rfl]
def MJ(r:zC xs ys)(p:z.Perm ys):∃us,us.Perm xs/\zC us z:=by
 induction p generalizing xs with
 |nil=>cases r;show#[[],.refl _,.nil]
 |cons x _ J=>
  cases r with
  |cons v r=>let#[us,p,q]:=J r;show#[_::us,.cons _ p,.cons v q]
 |swap x y l=>
  cases r with
  |cons v r=>
   cases r with
   |cons B r=>show#[_,.swap _ _ _,.cons B (.cons v r)]
 |trans _ _ G F=>grind
def yU(X:Cx)(s:Shared)(a:Addr)(vs:List V):Prop:=∃es ep t us,ST.SetAt s.heap a es ep t/\ST.Rising t.place/\t.place.size=es.size/\(X.w.params.followText "set-order"=false->t.led=true)/\us.Perm vs/\zC us (es.toList.map (·.2))/\es.size=vs.length
def KG(I:Inv X zF Z H s)(e:H a=some (.set vs)):yU X s a vs:=by
 let led:∀{t:SetTable},t.led=ST.ldOf X.w->X.w.params.followText "set-order"=false->t.led=true:=λe h=>by rw[e];unfold ST.ldOf;rw[h];rfl
 have L:∀{xs:List (aL×Value)},ST.VSet (ST.ldOf X.w) (aF X.prog X.w) s.heap a xs->vs.Perm (xs.map λp=>kV p.1)->yU X s a vs:=λ{xs} S p=>by
  let#[es,ep,t,h1,h2,J,G,v]:=S.at;let z:∀p∈xs,(aF X.prog X.w).is p.1 p.2=true/\p.2.scannable=true:=let⟨_,_,_,_,_,_,_,_,_,z,_⟩:=S;z
  have O:zC (xs.map λp=>kV p.1) (es.toList.map (·.2)):=by
   rw[v]
   clear v p S
   induction xs with
   |nil=>show .nil
   |cons x xs B=>show .cons (Qm (z x qm).1) (B λq Y=>z q (qk _ Y))
  let hl:es.size=vs.length:=by let:=congrArg List.length v;rw[qo,qo,qU]at this;rw[p.length_eq,qo,this]
  show#[es,ep,t,_,h1,h2,J,led G,p.symm,O,hl]
 rcases I.hok a _ e with⟨hz,⟨h0,h1⟩|⟨_,xs,p,S⟩|⟨_,xs,p,M,S⟩⟩
 .show L (xs:=[]) (ST.vset_new h1) (by rw[h0];show .refl _)
 .show L S p
 .obtain⟨es,ep,t,h1,h2,J,G,v⟩:=(S.full λx F=>DI I.hok (M x F)).at;refine#[es,ep,t,xs.map λp=>V.ref p.2,h1,h2,J,led G,p.symm,?_,?_]
  .rw[v]
   clear v p S M
   induction xs with
   |nil=>show .nil
   |cons x xs B=>show .cons rfl B
  .let:=congrArg List.length v;rw[qo,qo,qU]at this;rw[p.length_eq,qo,this]
def Tc{α:Type}{l m:List α}(p:l.Perm m)(h:m.length<2):l=m:=by
 match m,h with
 |[],_=>show p.eq_nil
 |[a],_=>show p.eq_singleton
def HW{ι β:Type}{f:ι->β}{us:List β}{ns:List ι}(p:us.Perm (ns.map f)):∃ms:List ι,us=ms.map f/\ms.Perm ns:=by
 induction us generalizing ns with
 |nil=>simp_all
 |cons u us B=>let#[n,F,rfl]:=qJ.mp (p.mem_iff.mp qm);let#[z,v,rfl]:=append_of_mem F;rw[map_append]at p;let#[ms,rfl,q]:=B (ns:=z++v) (by rw[map_append];show(p.trans perm_middle).cons_inv);show#[n::ms,rfl,(List.Perm.cons n q).trans perm_middle.symm]
def IT:∀{ps:List (List aL×Addr)}{v:List Value},zC (ps.map λp=>V.ref p.2) v->v=ps.map λp=>Value.ref p.2
 |[],_,.nil=>rfl
 |p::ps,_,.cons r t=>by let e:_=Value.ref p.2:=r;rw[e,IT t];rfl
def Jb:∀ps:List (List aL×Addr),zC (ps.map λp=>V.ref p.2) (ps.map λp=>Value.ref p.2)
 |[]=>.nil
 |_::ps=>.cons rfl (Jb ps)
section
variable{K:W.Frag}
def LF(I:Inv X zF Z H s)(k:∀b u,b≠X.env.locals->s.heap.get? b=some u->h'.get? b=some u){p:List aL×Addr}(e:H p.2=some (.tup (p.1.map kV))):kU h' p.2 p.1:=by let#[v,r,#[o,e,c,n,d],_]:=I.tuple (bK.of e);show#[v,r,o,k p.2 o (λz=>?_) e,c,n,d];let#[m,#[o',es,ep,B,F,_],_]:=I.loc;grind
def Ui(h:l.length<2):bZ l=l:=by
 match l,h with
 |[],_=>rfl
 |[_],_=>rfl
def Ly:∀{sh:List Bool}{l:List D},dX sh l->l.all bQ=true
 |[],[],_=>rfl
 |[],_::_,h=>h.elim
 |t::_,[],h=>by cases t<;>show h.elim
 |t::sh,a::l,h=>by cases t<;>cases a<;>first|show h.elim|show Ly (sh:=sh) (l:=l) h
end
def Th{K:Type}[DecidableEq K]{knd:KeyKind prog w K}{d:Addr}{zG:List (K×Value)}{k:K}{key v:Value}{Q:zi}(B:knd.is k key=true)(hm:s.heap.DictOf knd d zG)(L:valueAt zG k=none)(hsz:zG.length<=sizeLine)
  (hQ:∀h',h'.DictOf knd d (stored zG k v)->Heap.SameBut d s.heap h'->Q v {s with heap:=h',toks:=s.toks+1}):wpAny (model prog w) A (dictSetDefault d key v) Q E s:=by
 let#[o,es,ep,ho,hc,O,hk,Y,hn]:=hm;let h5:es.size<=sizeLine:=by let e1:=Y.length;rw[qU]at e1;lia
 let G:∀F∈zG,¬F.1=k:=λF h4 e=>by unfold valueAt at L;rw[Option.map_eq_none_iff,List.find?_eq_none]at L;show L F h4 (qQ e)
 let J:¬(zG.any λF=>decide (F.1=k))=true:=λz=>by let#[F,h1,h2]:=any_eq_true.mp z;show G F h1 (qT h2)
 have M:(es.findIdx? λe=>knd.is k e.key)=none:=by
  let h1:(es.findIdx? λe=>knd.is k e.key)=zG.findIdx? λF=>decide (F.1=k):=by rw[<-Y.findIdx k];let#[l]:=es;simp
  rw[h1,findIdx?_eq_none_iff];show λF h=>qR (G F h)
 refine zf (qa (knd.pyHash B (qa (wpAny_dictFind_of (s:={s with toks:=s.toks+1}) B ho O hk ?_))));rw[M];refine qa (wpAny_rule (qa (wpAny_updateDictKeys (hz:=h5) (s:={s with toks:=s.toks+1}) ho O (qb (hQ _ ⟨_,_,ep+1,q9 _ ho (Obj.isFreed_of_dict (Obj.data_mapDictKeys O _)),
  hc.mapDictKeys _,Obj.data_mapDictKeys O _,hk.push B _,?_,?_⟩ (Heap.SameBut.update ..))))))
 .rw[stored,q4 J];let:=Y.append B (knd.hash k) v;simpa using this
 .rw[stored,q4 J,map_append];exact qw.mpr ⟨hn,by simp,λa ha b hb e=>by
   let#[F,h1,h2]:=qJ.mp ha;let h3:b=k:=↑hb
   show G F h1 (h2.trans (e.trans h3))⟩
def Lc{K:Type}[DecidableEq K]{knd:HeapKind prog w K}{d a:Addr}{xs:List (K×Addr×Value)}{k:K}{v:Value}{Q:zi}(hu:knd.room A)(F:knd.is s.heap k a)(hm:s.heap.DictOfH knd d xs)(hsz:xs.length<=sizeLine)
  (h1:∀p,atKey xs k=some p->Q p.2 {s with toks:=s.toks+knd.draws k})
  (h2:atKey xs k=none->∀h',h'.DictOfH knd d (storedH xs k a v)->Heap.SameBut d s.heap h'->Q v {s with heap:=h',toks:=s.toks+knd.draws k}):wpAny (model prog w) A (dictSetDefault d (.ref a) v) Q E s:=by
 let#[o,es,ep,J,hc,G,O,M,hn]:=hm;show zf (qa (knd.pyHash hu F (qa (wpAny_dictFind_heap (s:={s with toks:=s.toks+knd.draws k}) hu F J G O M hn (λB=>?_) λj p hj=>?_))))
 .have L:k∉xs.map (·.1):=not_mem_keys_of_get B;refine qa (wpAny_rule (qa (wpAny_updateDictKeys (hz:=by let e:=size_of_entries O;lia) (s:={s with toks:=s.toks+knd.draws k}) J G (qb (h2 (atKey_none_of_get B) _ ⟨_,_,ep+1,q9 _ J (Obj.isFreed_of_dict (Obj.data_mapDictKeys G _)),
   hc.mapDictKeys _,Obj.data_mapDictKeys G _,?_,?_,?_⟩ (Heap.SameBut.update ..))))))
  .rw[storedH_new (atKey_none_of_get B)];simp[O,entryOfKey]
  .rw[storedH_new (atKey_none_of_get B)];intro x Y;rcases qx.mp Y with z|z
   .show knd.keeps (M x z) J G (Heap.SameBut.update ..)
   .rw[qu.mp z];show knd.keeps F J G (Heap.SameBut.update ..)
  .rw[storedH_new (atKey_none_of_get B),map_append];exact qw.mpr ⟨hn,by simp,λx Y y hy e=>by
    let h3:y=k:=↑hy
    show L (h3▸e▸Y)⟩
 .show qa (wpAny_dictEntries (s:={s with toks:=s.toks+knd.draws k}) J G ?_);rw[entry_at O j,hj];show qa (wpAny_rule (qb (h1 p (atKey_of_get hn hj))))
def HM(B:s.TypeIs (.ref d) "dict")(F:(d==sysModules)=false)(h:wpAny (model prog w) A.in1 (dictSetDefault d u r) Q E s):wpAny (model prog w) A (call (.builtin "dict.setdefault") [.ref d,u,r]) Q E s:=by show zd PySem.F.slot_dict_setdefault B PySem.F.entry_dict_setdefault ?_ (PySem.F.args_dict_setdefault_3 _ _ _);show qa (qa (wpAny_notOrdered_dict B ?_));show qb ?_;show wpAny _ _ (if(d==sysModules)=true then _ else(dictSetDefault d u r>>=_)) _ _ s;rw[q4 (by rw[F];show qW)];show qa (zh h (λv s' q=>qb #[v,rfl,q]) λ_ _ z=>z)
def vT(H:Hp)(a:Addr)(y d:V)(v:V)(H':Hp):Prop:=(fV H a y (some v)/\H'=H)\/(fV H a y none/\v=d/\rA H a y d H')
def Kf(hu:A.units+1<cLine)(I:Inv X zF Z H s)(g:vT H a y d v H')(ry:zv y u)(rd:zv d r)(h:∀w' s',Inv X zF Z H' s'->zv v w'->Q w' s'):
  wpAny (model X.prog X.w) A (call (.builtin "dict.setdefault") [.ref a,u,r]) Q E s:=by
 rcases g with⟨⟨L,k,e,ey,l⟩|⟨L,k,b,e,ey,eb,l⟩,rfl⟩|⟨g,rfl,⟨L,k,e,ey,hl,eH⟩|⟨L,k,b,e,ey,eb,hl,eH⟩⟩
 .subst ey;let#[z,M,vs,B,J]:=FY I.hok e;let#[w',hw,h6]:=eJ.some_of (v:=v) (o:=valueAt vs k) (by rw[l];show B.val k);refine HM J.typeIs M (wpAny_dictSetDefault_of (Ep ry) J.mapOf (λv' hv=>?_) (λhn=>absurd (hn.symm.trans hw) (λz=>nomatch z)) (λo es ep h1 h2=>?_))
  .rw[hw]at hv;cases hv;show h _ _ (I.tok _) h6
  .obtain⟨o',h9,e3,g1,_,g2,_,g3,_⟩:=J;rw[g1]at h1;cases h1;rw[g2]at h2;let e1:=g3.length;let e2:=B.length;rw[qU]at e1;lia
 .subst ey;cases(show u=Value.ref b from ry);let#[z,M,xs,B,J]:=FZ I.hok e;let#[w',hw,h6]:=eJ.some_of (v:=v) (o:=(atKey xs k).map (·.2)) (by rw[l];show B.val k);refine HM J.typeIs M (Lc (tupleKind_room_in1 hu) (DI I.hok eb) J (by rw[<-Paired.length B];show z) (λp hp=>?_) λhn=>?_)
  .rw[hp]at hw;cases hw;show h _ _ (I.tok _) h6
  .rw[hn]at hw;cases hw
 .subst ey eH;let#[z,M,vs,B,J]:=Iw I.hok e;let h7:valueAt vs k=none:=by
   rcases g with⟨h8,k',G,F,l'⟩|⟨_,_,_,_,F,_⟩
   .have ek:=GI F;subst ek;rcases G with G|⟨o',G⟩
    .rw[e]at G;cases G;let:=B.val k;rw[<-l']at this;cases q:valueAt vs k with
     |none=>rfl
     |some x=>rw[q]at this;show this.elim
    .rw[e]at G;cases G
   .cases k<;>cases F
  show HM J.typeIs M (Th (Ep ry) J h7 (by rw[<-B.length];show z) λh' Y hs=>h _ _ ?_ rd);show Fq I (by rw[e];show True.intro) hs (let⟨q,_,_,hq,_⟩:=Y;#[q,hq]) (ID (by let:=Ha L k v;lia) M (B.put k rd) Y)
 .subst ey eH;cases(show u=Value.ref b from ry);let#[z,M,xs,B,J]:=Ku I.hok e;let h7:∀p,atKey xs k=some p->False:=λp hp=>by
   rcases g with⟨_,k',_,F,_⟩|⟨h8,k',b',G,F,O,l'⟩
   .cases k'<;>cases F
   .cases F;rw[eb]at O;let ek:k=k':=GP (by injection O with O;injection O);subst ek;rcases G with G|⟨o',G⟩
    .rw[e]at G;cases G;let:=B.val k;rw[<-l',hp]at this;show this
    .rw[e]at G;cases G
  show HM J.typeIs M (Lc (tupleKind_room_in1 hu) (DI I.hok eb) J (by rw[<-Paired.length B];show z) (λp hp=>(h7 p hp).elim) λ_ h' Y hs=>h _ _ ?_ rd);let#[q,es,ep,hq,h2,h3,h4,_,h5]:=Y;show Fq I (by rw[e];show True.intro) hs ⟨q,hq⟩ ⟨by let:=Ha L k v;lia,M,_,(B.put k eb rd).keeps λc ys ec=>?_,q,es,ep,hq,h2,h3,h4,h5⟩;rw[Ao (Iv ec e (λz=>nomatch z))];show ec
def wY(F ty tx:TE):TE:=λZ H Q=>F Z H λx H1=>∃a,x=.ref a/\zP H1 a/\ty Z H1 λy H2=>tx Z H2 λz G=>∃v B,vT G a y z v B/\Q v B
def RL(hu:X.A.units+1<cLine)(ho:PE X o J)(he:PE X e ty)(hf:PE X f tx)(m:M2 X o "setdefault" apos e f cpos):PE X (.Call (.Attribute o "setdefault" apos) [e,f] [] cpos) (wY J ty tx):=by
 intro zF s Z H Q I h;show wpAny_Call_method m.base m.few m.line PySem.F.plainAttrs_dict PySem.F.slot_dict_setdefault PySem.F.type_dict_setdefault (Al (ho zF s Z H _ I h) λu Y G=>?_);let#[x,H1,F,rx,a,ex,d,q1]:=G;subst ex;obtain rfl:u=Value.ref a:=rx;let#[M,L,_]:=KS F d;show#[M,L,?_];rw[m.trees];show Calls.callWith_builtin rfl (Calls.evalArgs_plain (Calls.spliced_cons (Al (he zF Y Z H1 _ F q1) λiv O⟨y,H2,I2,ry,q2⟩=>Calls.spliced_cons (Al (hf zF O Z H2 _ I2 q2) λfv s3⟨z,H3,I3,rz,v,H4,g,q3⟩=>Calls.spliced_nil ?_))))
 show Kf hu I3 g ry rz λw' s4 I4 B=>#[_,H4,I4,B,q3]
section
variable{K:W.Frag}
def SS:eE (x::l) k=(open Classical in if x=k then some 0 else(eE l k).map (·+1)):=by grind[eE,List.findIdx]
def IP{κ:Type}[DecidableEq κ]{g:κ->D}(v:∀a b,g a=g b->a=b):∀(zG:List (κ×V))(k:κ),cS zG k=(eE (zG.map λp=>g p.1) (g k)).bind λm=>(zG.map (·.2))[m]?
 |[],k=>rfl
 |p::r,k=>by
  rw[qy,SS];by_cases e:p.1=k
  .rw[Gi e,qZ (by rw[e])];rfl
  .rw[Ge e,q4 λz=>e (v _ _ z),IP v r k];cases eE (r.map λp=>g p.1) (g k)with
   |none=>rfl
   |some m=>rfl
def iM.get{a:Addr}{o:HO}{t:Bool}{ks:List D}{xs:List V}{y:V}{q:D}(d:iM ks xs t o)(e:H a=some o)(r:aN K H y q)(G:aV t q=true):fV H a y ((eE ks q).bind λm=>xs[m]?):=by
 cases d with
 |@k v h1 h2=>subst h1 h2;let#[F,rfl,rfl]:=Fs r G;show .inl #[v,F,.inl e,rfl,(IP (λ_ _=>EB) v F).symm]
 |@t v h1 h2=>
  subst h1 h2;cases r with
  |tup J q=>let#[B,rfl,rfl]:=Ft q G;show .inr #[v,B,_,.inl e,rfl,J,(IP (g:=λl:List aL=>D.tup (l.map aG)) (λa b z=>Gp (D.tup.inj z)) v B).symm]
  |_=>cases G
def Rel.sdefR{p D:Addr}(r:Rel K (U++[some (.lst [])]) (Z++[some (.ref p)]) F G H)(hs:slot U n=some (.dct t ks l))(J:Z[n]?=some (some (.ref D)))(ry:aN K H y q)(hk:aV t q=true)(hn:ks.Nodup)(hb:ks.length<big):
  ∃v H',vT H D y (.ref p) v H'/\Rel K (U.set n (some (.dct t (aP ks l q).1 (aP ks l q).2.1))) Z F G H'/\∃o xs,H' D=some o/\iM (aP ks l q).1 xs t o/\xs[(aP ks l q).2.2]?=some v:=by
 let rd:=r.drop (Af r);let#[v',fp,e1,sr]:=rd.at hs;rw[J]at e1;let e2:V.ref D=v':=↑e1
 subst e2;let#[a',o,xs,fl,z1,_,Y,L,rl]:=Gg sr;cases z1;let O:=L.len;let z:=L.get Y ry hk;cases B:eE ks q with
 |some m=>
  let es:aP ks l q=(ks,l,m):=by unfold aP;rw[B]
  let M:m<xs.length:=by let:=(qg.mp (Jg B)).1;lia
  rw[B]at z;let z:fV H D y xs[m]?:=z;rw[qh M]at z;rw[es];show#[xs[m],H,.inl #[z,rfl],by rw[MB hs];show rd,o,xs,Y,L,qh M]
 |none=>
  let es:aP ks l q=(ks++[q],l++[.lst []],ks.length):=by unfold aP;rw[B]
  rw[B]at z;let#[o',dp,h1,h2]:=L.put (v:=.ref p) Y ry hk hn (by rw[ze];show lt_trans hb ⋯);rw[es];show#[.ref p,_,.inr #[z,rfl,dp],r.dct hs J Y L (h2 B) λH' fl fs rl sr=>#[fl++fs,[],zu.snoc rl sr,by simp],o',_,Bc,h2 B,?_];rw[O,getElem?_append_right (q5 _),sub_self];rfl
def Rel.appendAtD{D b:Addr}(r:Rel K (U++[some t,some (.dct tb ks l)]) (Z++[some v,some (.ref D)]) F G H)(h:U.length=Z.length)(hm:l[m]?=some (.lst l'))
  (hD:H D=some o)(ho:iM ks xs tb o)(hb:xs[m]?=some (.ref b))(hy:H b=some (.lst ys)):
  ys.length=l'.length/\Rel K (U++[some (.dct tb ks (l.set m (.lst (l'++[t]))))]) (Z++[some (.ref D)]) F G (upd H b (.lst (ys++[v]))):=by
 let#[fp,e,nd,ap]:=r.en;let#[f1,f2,rfl,a,c]:=e.cut h;cases c with
 |@so _ _ _ _ M f3 st c=>
 cases c with
 |@so _ _ _ _ fD fn sd nl=>
 cases nl;let#[a',o2,Y,fl,z1,rfl,h6,h4,rl]:=Gg sd;cases z1;rw[hD]at h6;cases h6;let ex:Y=xs:=by
  cases ho with
  |k _ z=>cases h4 with|k _ z'=>rw[z,z']
  |t _ z=>cases h4 with|t _ z'=>rw[z,z']
 subst ex;let#[x,O,fi,L,J,sx,rfl,up]:=rl.at hm;rw[hb]at J;cases J;cases sx with
 |@lst _ e1 _ B h5 ry=>
 rw[hy]at h5;cases h5;show#[ry.len,?_];let hp:(f1++(M++(D::(O++(b::B++L))++[]))).Perm (b::(f1++(M++(D::(O++(B++L)))))):=by let h1:(O++b::(B++L)).Perm (b::(O++(B++L))):=perm_middle;show((h1.cons D).append_left (f1++M)|>.trans ?_|>λz=>↑z);let h2:(D::b::(O++(B++L))).Perm (b::D::(O++(B++L))):=List.Perm.swap ..;show(h2.append_left (f1++M)).trans ?_;show perm_middle.trans (by rw[qp])
 let h8:=hp.nodup_iff.mp nd;let#[nb,_]:=qK.mp h8;let ne:∀{w:List Addr},(∀x∈w,x∈f1++(M++(D::(O++(B++L)))))->∀x∈w,upd H b (.lst (ys++[v])) x=H x:=λhw x J=>Ao λz=>nb (z▸hw x J);let h7:=ap b (hp.mem_iff.mpr qm);let new:aJ K F (upd H b (.lst (ys++[v]))) (.ref b) (.lst (l'++[t])) (b::(B++M)):=.lst Bc (zu.snoc (ry.mono (zp.refl F) (ne λx J=>by simp[J])) (st.mono (zp.refl F) (ne λx J=>by simp[J])));let r2:=up (H':=upd H b (.lst (ys++[v]))) (ne λx J=>by rcases qx.mp J with z|z<;>simp[z]) new
 have e2:Y.set m (.ref b)=Y:=by
  apply ext_getElem?;intro j;by_cases hj:m=j
  .subst hj;rw[getElem?_set_self (qg.mp hb).1,hb]
  .rw[getElem?_set_ne hj]
 rw[e2]at r2;let h9:D≠b:=λz=>nb (by simp[z]);let top:aJ K F (upd H b (.lst (ys++[v]))) (.ref D) (.dct tb ks (l.set m (.lst (l'++[t])))) (D::(O++((b::(B++M))++L))):=h4.mk ((Ao h9).trans hD) r2;let p:(f1++((D::(O++((b::(B++M))++L)))++[])).Perm (f1++(M++(D::(O++(b::B++L))++[]))):=by
  show List.Perm.append_left _ ?_;simp;let h1:(B++(M++L)).Perm (M++(B++L)):=by rw[<-qp,<-qp];show List.Perm.append_right _ qM
  let h2:(O++b::(B++(M++L))).Perm (M++(O++b::(B++L))):=by show((h1.cons b).append_left O).trans ?_;let h3:(b::(M++(B++L))).Perm (M++(b::(B++L))):=perm_middle.symm;show(h3.append_left O).trans ?_;rw[<-qp,<-qp];show List.Perm.append_right _ qM
  show(h2.cons D).trans ?_;show perm_middle.symm
 show#[zp.updR r.fr h7.1,λx o w=>?_,_,(a.mono (zp.refl F) (ne λx J=>by simp[J])).app (.so top .nil),p.nodup_iff.mpr nd,λx J=>ap x (p.mem_iff.mp J)];let J:x≠b:=λz=>by rw[z,h7.2]at w;cases w
 rw[Ao J];show r.gr x o w
end
theorem set_set{U:Env}:(U.set n a).set n b=U.set n b:=List.set_set ..
def SZ(h:slot U n=some s):slot (U.set n (some s')) n=some s':=by
 induction U generalizing n with
 |nil=>cases h
 |cons a U v=>cases n with
  |zero=>rfl
  |succ n=>show v h
def Nc(hu:X.A.units+1<cLine)(ho:FE X o (zj j))(hi:FE X i wi)(he:FE X e we)(m2:M2 X o "setdefault" h5 i (.List [] lp) h4)
  (e3:attributeBase (.Call (.Attribute o "setdefault" h5) [i,.List [] lp] [] h4) "append" X.env (eval (.Call (.Attribute o "setdefault" h5) [i,.List [] lp] [] h4) X.env)=eval (.Call (.Attribute o "setdefault" h5) [i,.List [] lp] [] h4) X.env:=by rfl)
  (k2:((backTo cpos (starEach [e] X.env)).all (λx=>!x.1)&&(backToKw cpos (keywordEach [] X.env)).all (λx=>x.1.isSome)
   &&decide ([e].length+([]:List Keyword).length+(if([]:List Keyword).isEmpty then 0 else 1)<30))=true:=by rfl)
  (h9:(apos.endLine==cpos.line)=true:=by rfl)(hs:starEach [e] X.env=[(false,eval e X.env)]:=by rfl):FE X (.Call (.Attribute (.Call (.Attribute o "setdefault" h5) [i,.List [] lp] [] h4) "append" apos) [e] [] cpos) (dG j wi we):=λpn xe hp=>by
 show PE.imp (GA (X:=wp X pn xe) PySem.F.plainAttrs_list PySem.F.slot_list_append PySem.F.type_list_append Jx (RL (X:=wp X pn xe) hu (ho pn xe hp) (hi pn xe hp) (CC Ac pn xe hp) #[m2.base,m2.few,m2.line,m2.trees]) (Aa he Ac hs pn xe hp) e3 k2 h9 hs rfl) λZ H Q q=>?_;let#[F,G,U,P,PX,zH,hw,hok,hx]:=q;unfold dG at hw;cases qs:slot U j with
 |none=>rw[qs]at hw;show hw.elim
 |some s0=>
  cases s0 with
  |dct t0 ks0 l0=>
   rw[qs]at hw;dsimp only at hw;show#[F,G,U,λy U1=>y=.loc j/\U1=U,PX,zH,by unfold zj;rw[qs];show#[rfl,rfl],λy U1 o' F1 H1 M s1 r1 rv=>?_,hx];let#[rfl,rfl]:=M;let l1:=Af r1;let Y:Z[j]?=some (some o'):=rv;let r2:=r1.drop l1;let h8:∃D,o'=.ref D/\zP H1 D:=by
    let#[v',fp,e1,sr]:=r2.at qs;rw[Y]at e1;let e2:o'=v':=↑e1
    subst e2;let#[a',o,xs,fl,z1,_,hD,h3,rl]:=Gg sr;subst z1;cases h3 with
    |k _ _=>show#[a',rfl,.inl #[_,.inl hD]]
    |t _ _=>show#[a',rfl,.inr #[_,.inl hD]]
   let#[D,rfl,h8]:=h8;show#[D,rfl,h8,?_];show#[F1,G,U1,_,PX,r2,hw,λz U2 i' F2 H2 L s2 r3 rv2=>?_,hx.grow s1];let l2:=Af r3;split at L
   .rename_i q t ks l eq ql;let#[k1,hnd,k3,L]:=L;split at L
    .rename_i l' el;let#[G3,hd,gg,e4]:=r3.hide l2;show#[F2,G3,U2,λw B=>w=.v (.lst [])/\B=U2,PX,hd,#[rfl,rfl],λw B d' F3 H3 hk3 s3 r4 rv4=>?_,hx.mono (λ_ z=>z) (s1.trans s2) gg];let#[rfl,rfl]:=hk3;let r5:=e4 s3 r4;rw[qp,qp]at r5;let r6:Rel X.K (B++[zr z,some (.lst [])]) (Z++[some i',some d']) F3 G H3:=Rel.swap (U1:=[some (.lst [])]) (Z1:=[some d']) (U2:=[zr z]) (Z2:=[some i']) l2 rfl r5;let ri:=Av (U':=[some (.lst [])]) (Z':=[some d']) r6 l2 rv2 eq;let r7:Rel X.K (B++[some (.lst [])]) (Z++[some d']) F3 G H3:=Rel.mid r6 l2;let hd':∃p,d'=.ref p:=by
      let#[u,fp,e1,sr]:=r7.at (i:=B.length) (s:=.lst []) EX;rw[l2,getElem?_append_right (q5 _),sub_self]at e1;let e2:d'=u:=↑e1
      subst e2;cases sr with
      |lst _ _=>show#[_,rfl]
     let#[p,rfl]:=hd';let#[v,H4,ds,r8,ob,xs,hD,h3,hv]:=Rel.sdefR r7 ql Y ri k1 hnd k3;let hql:=SZ (s':=.dct t (aP ks l q).1 (aP ks l q).2.1) ql;let l8:(B.set j (some (.dct t (aP ks l q).1 (aP ks l q).2.1))).length=Z.length:=↑l2
     let r9:=Rel.lend (U':=[]) (Z':=[]) (r8.pushN (u:=some (.ref D))) l8 hql Y;rw[set_set]at r9;let l5:(B.set j none).length=Z.length:=↑l2
     obtain⟨G2,fq,r10,gg2,sq,hG,back⟩:=r9.hide2 l5;let#[a',o2,xs',fl,z1,efq,hD',h6,rl]:=Gg sq;cases z1;rw[hD]at hD';cases hD';let ex:xs'=xs:=by
      cases h3 with
      |k _ z=>cases h6 with|k _ z'=>rw[z,z']
      |t _ z=>cases h6 with|t _ z'=>rw[z,z']
     subst ex;let#[x,fa,fi,fb,hq,sx,efl,_]:=rl.at el;rw[hv]at hq;cases hq;cases sx with
     |@lst b ys _ fy hy ry=>
     show#[_,H4,ds,.inl #[rfl,_,bL.of hy],F3,G2,B.set j none,λrs h7=>match rs with|[r]=>(zo (give r h7) λp=>l'.length<big/\P (.v (.sh .non)) (p.2.set j (some (.dct t (aP ks l q).1 ((aP ks l q).2.1.set (aP ks l q).2.2 (.lst (l'++[p.1])))))))|_=>False,PX,r10,L,λrs h7 vs F4 H5 M s4 O hl J=>?_,hx.mono (λ_ z=>z) (s1.trans (s2.trans s3)) gg2];match rs,vs,J,O,M with
     |[r],[v],J,O,M=>
      dsimp only at M;let#[#[t',U5],eg,M]:=Ap M;let hr:=back s4 O;simp only[qy,map_nil,qp,qN,nil_append]at hr;let l3:h7.length=Z.length:=hl;let#[F5,s5,l4,r13]:=AD (U':=[some (.dct t (aP ks l q).1 (aP ks l q).2.1)]) (Z':=[some (.ref D)]) hr l3 J.1 eg;let kept:∀c∈D::fl,H5 c=H4 c:=λc hc=>by let#[o,h1,h2]:=hG c (efq▸hc);rw[(O.gr c o h1).1.1,h2]
      let hb:b∈D::fl:=qk _ (by rw[efl];simp);let#[ha,r14]:=Rel.appendAtD r13 (l4.trans l3) el ((kept D qm).trans hD) h3 hv ((kept b hb).trans hy);let hm:=Rel.back1 (U':=[]) (Z':=[]) (i:=j) r14 (l4.trans l3) Y;rw[qz,qz]at hm;show#[b,ys,v,rfl,rfl,(kept b hb).trans hy,by rw[ha,ze];show lt_trans M.1 ⋯,hok _ _ .non F5 _ M.2 (s1.trans (s2.trans (s3.trans (s4.trans s5)))) (hm.push .non) trivial]
     |[],_,_,_,M=>show M.elim
     |[_],[],J,_,_=>show J.elim
     |[_],_::_::_,J,_,_=>show J.2.elim
     |_::_::_,_,_,_,M=>show M.elim
    .show L.elim
   .show L.elim
  |_=>rw[qs]at hw;show hw.elim
end FL
namespace FL
def lN(a:WE):WI:=λU Q E=>a U (λr v=>match view r v with
 |some (.str l)=>Q (l.reverse.map λc=>.str [c]) v
 |_=>False) E
def lS:D->Option S
 |.lst l=>some (.lst (l.reverse.map .sh))
 |_=>none
def nH(f:D->Option S)(a b:WE):WE:=λU Q E=>a U (λx z=>b z (λy v=>match view y v with
 |some (.int i)=>i=-1/\zo (zB x v) λd=>zo (f d) λs=>Q (.v s) v
 |_=>False) E) E
open Classical in
def gE(l:List D):Option S:=if l.length<128/\(l.length<2\/∃sh,sh≠[]/\∀d∈l,dR sh d)then some (.lst ((bZ l).map .sh))else none
def vO:List D->Option S
 |[.lst l]=>gE l
 |[.set l]=>gE l
 |_=>none
open Classical in
def bN(l:List D):Option S:=if(l.length<64/\((eR l).isSome=true\/(dN l).isSome=true))\/l.length<128/\(l.length<2\/∃sh,sh≠[]/\∀d∈l,dR sh d)then some (.lst ((bZ l).map .sh))else none
def cH:List D->Option S
 |[.lst l]=>bN l
 |[.set l]=>bN l
 |_=>none
end FL
namespace FL
open PySem PySem.Spec PyProof.Rows L2
section
variable{s:Shared}
def Us:typeLookup (.type "str") "__reversed__"=pure none:=by first|rfl|assumption|(simp_all;done)
def LK:typeLookup (.type "str") "__getitem__"=pure (some (.builtin "str.__getitem__")):=by first|rfl|assumption|(simp_all;done)
def UV:isSubtype (.type "str") (.type "dict")=pure false:=by rw[isSubtype_type];kernel_rfl
def oD(x:Str)(t:Tok)(i:Int):Obj:={cls:=.type "reversed",data:=.fields [.str x t,rawInt i].toArray}
def Sd{R:PySem.Fin->Shared->Prop}(v:¬(x.length:Int)≥2^63)
  (h:R (.done (.ret (.ref s.heap.objs.size))) {s with heap:=s.heap.push (oD x t ((x.length:Int)-1)),toks:=s.toks+1+1}):
  wpAny (model prog w) A (Builtin.«reversed.__new__» #[[.type "reversed",.str x t],[]]) R E s:=by
 show qa (zg (newClass_reversed _) ?_);show qa (zg (a:=()) (by first|rfl|kernel_rfl) (qa (zg (a:=()) (by first|rfl|kernel_rfl) ?_)));show qa (wpAny_specialOf (typeIs_str s x t) Us ?_);show qa ?_
 wp_delta
 show qa (wpAny_isInstance (b:=false) (typeIs_str s x t) UV ?_);show qa (wpAny_specialOf (typeIs_str s x t) LK ?_);dsimp only;show qb ?_;show qa (PySem.P.len_str v ?_);show qa (zg (a:=some (x.length:Int)) rfl ?_);unfold Builtin.SmallTypes.newRecord;show qa (zc (qb ?_));show h
def Vc(x:Str)(t:Tok)(v:¬(x.length:Int)≥2^63):Meets (Builtin.«reversed.__new__» #[[.type "reversed",.str x t],[]]) (λ_ R s=>R (.ok (.ret (.ref s.heap.objs.size))) {s with heap:=s.heap.push (oD x t ((x.length:Int)-1)),toks:=s.toks+1+1}):=
 .of_wp λprog w A R s h=>Sd v #[_,rfl,h]
def Ur(v:¬(x.length:Int)≥2^63)
  (h:Q (.ref s.heap.objs.size) {s with heap:=s.heap.push (oD x t ((x.length:Int)-1)),toks:=s.toks+1+1}):wpAny (model prog w) A (call (.type "reversed") [.str x t]) Q E s:=by
 show callType_new Vb ⋯ (F.typeCall_reversed_1 _) (F.newCall_reversed_1 _) (λz=>F.args_object_init_2 z _) F.entry_reversed_new (Vc x t v) ?_;show#[#[_,qd _ rfl,rfl],h]
def cV(h:Heap)(a:Addr)(x:Str)(t:Tok)(i:Int):Prop:=∃o,h.get? a=some o/\o.cls=.type "reversed"/\o.data=.fields [.str x t,rawInt i].toArray
def cV.typeIs(y:cV s.heap a x t i):s.TypeIs (.ref a) "reversed":=let⟨o,ho,hc,_⟩:=y;#[o,ho,hc]
def Ul{i:Nat}(hit:cV s.heap it x t (i:Int))(B:x.cps[i]?=some c)(F:(x.length:Int)<2^63)
  (M:∀h' tk u,cV h' it x t ((i:Int)-1)->Heap.SameBut it s.heap h'->Q (some (.str #[[c].toArray] u)) {s with heap:=h',toks:=tk}):wpAny (model prog w) A (pyNext (.ref it)) Q E s:=by
 let#[o,z,L,v]:=id hit;let hi:i<x.length:=by rcases Array.getElem?_eq_some_iff.mp B with⟨h,_⟩;show h
 refine qa (wpAny_attempt (wpAny_callSpecial?_slot (name:=Str.ofString "__next__") hit.typeIs zaE (zd zaE hit.typeIs NP ?_ (NM _))));show qa (zg (a:=(Value.ref it,[])) rfl ?_);show qa (za z v (x:=.str x t) rfl (qa (za z v (x:=rawInt (i:Int)) rfl ?_)));show wpAny _ _ (if(i:Int)<0 then _ else _) _ _ s;show qa (wpAny_specialOf (typeIs_str s x t) LK ?_);show qa (wpAny_mkInt ?_);let J:(seqIndex? (i:Int) x.length).bind (x.cps[·]?)=some c:=by
  unfold seqIndex?;let G:¬(i:Int)<0:=∅
  simp[hi,G,B]
 show qa (wpAny_attempt (PySem.P.getItem_str (s:={s with toks:=s.toks+1}) (c:=c) (by simp;lia -verbose) J ?_));show qa (za (s:={s with toks:=s.toks+1+1}) z v (x:=rawInt (i:Int)) rfl ?_);show qa (wpAny_setField (s:={s with toks:=s.toks+1+1}) z v (by simp) ?_);show qb #[_,rfl,qb (M _ (s.toks+1+1) _ ?_ (Heap.SameBut.update ..))];show#[_,q9 _ z (Obj.isFreed_of_fields (Obj.data_mapFields v _)),(Obj.cls_mapFields ..).trans L,by rw[Obj.data_mapFields v];simp]
def RB(hh:A.handled=none)(hit:cV s.heap it x t (-1))(hQ:∀h',Heap.ExtBut it s.heap h'->Q none {s with heap:=h'}):wpAny (model prog w) A (pyNext (.ref it)) Q E s:=by
 let#[o,ho,hc,hd]:=id hit;show qa (wpAny_attempt (wpAny_callSpecial?_slot (name:=Str.ofString "__next__") hit.typeIs zaE (zd zaE hit.typeIs NP ?_ (NM _))));show qa (zg (a:=(Value.ref it,[])) rfl ?_);show qa (za ho hd (x:=.str x t) rfl (qa (za ho hd (x:=rawInt (-1)) rfl ?_)));show wpAny _ _ (if(-1:Int)<0 then _ else _) _ _ s;show qa (wpAny_rule ?_);show qa ?_
 wp_delta
 show qa (wpAny_setField ho hd (by simp) ?_);let ho2:=q9 (h:=s.heap) (a:=it) (Obj.mapFields (·.setIfInBounds 1 (rawInt (-1)))) ho (Obj.isFreed_of_fields (Obj.data_mapFields hd _));show wpAny_setField (s:={s with heap:=s.heap.update it (Obj.mapFields (·.setIfInBounds 1 (rawInt (-1))))}) ho2 (Obj.data_mapFields hd _) (by simp) ?_;show qa ?_;show qa ?_;show qa (zc ?_ (by size_fits));show qa (m:=firstArgMember _ _) (zg (a:=Value.none) (by first|rfl|(simp;rfl)) (zc ?_ (by size_fits)));show qa (wpAny_handled ?_);first|rw[show A.in1.handled=none from hh]|rw[hh]
 show qa (qb (wpAny_throw ?_));show qa (wpAny_isInstance (T:="StopIteration") (b:=true) ?ty isSubtype_stop ?_);case ty=>show#[_,qd _ rfl,rfl]
 show qb (hQ _ ?_);let x1:Heap.ExtBut it s.heap (s.heap.update it (Obj.mapFields (·.setIfInBounds 1 (rawInt (-1))))):=(Heap.SameBut.update s.heap it _).extBut;let x2:Heap.ExtBut it s.heap ((s.heap.update it (Obj.mapFields (·.setIfInBounds 1 (rawInt (-1))))).update it (Obj.mapFields (·.setIfInBounds 0 Value.none))):=λb o hb e=>(Heap.SameBut.update _ it _).extBut b o hb (x1 b o hb e);show(x2.push _).push _
def MM(hit:cV s.heap it x t i)(h:Q (.ref it) s):wpAny (model prog w) A (pyIter (.ref it)) Q E s:=by show wpAny_pyIter_slot hit.typeIs NL (zd NL hit.typeIs Wf (?_:wpAny _ _ (ret (.ref it)) _ _ s) (Wg _));show qb #[_,rfl,"reversed",_,hit.typeIs,zaE.lookup,h]
end
def ia(x:Str):It:=#[λi _=>i<x.cps.size,λi H v H'=>H'=H/\∃c,x.cps[x.cps.size-1-i]?=some c/\v=.str #[[c].toArray],λi _=>x.cps.size<=i]
def Vs{P:Program}{w:World}{K:W.Frag}{tg:Expr}(it:Addr)(x:Str)(t:Tok)(hfit:(x.length:Int)<2^63):gY P w K tg (ia x) [it] it (λi h=>i<=x.cps.size/\cV h it x t ((x.cps.size:Int)-1-(i:Int))) where
 mem:=by simp
 obj:=λi h st b hb=>by
  let e:b=it:=↑hb
  subst e;let#[_,o,e,c,d]:=st;show#[o,e,λv z=>by rw[d]at z;cases z]
 keep:=λi h h' st k=>by let#[hi,o,e,r]:=st;show#[hi,o,k it (by simp) o e,r]
 item:=by intro X hP hw hK hc i zF s Z H E I hf st hg;let hg':i<x.cps.size:=hg;let#[f0,f1,f2,f3,f4,f5]:=hf it (by simp);let hit:=st.2;rw[show(x.cps.size:Int)-1-(i:Int)=((x.cps.size-1-i:Nat):Int) by lia]at hit;let hx:x.cps[x.cps.size-1-i]?=some (x.cps[x.cps.size-1-i]'∅):=getElem?_eq_getElem _;show Ul hit hx hfit λh' tk u st' kk=>?_;let I1:Inv X zF Z H {s with heap:=h',toks:=tk}:=I.turned (λb o hb e=>kk.extBut b o hb e) f0 f1 f3 f4 f5;rw[show((x.cps.size-1-i:Nat):Int)-1=(x.cps.size:Int)-1-((i+1:Nat):Int) by lia]at st';let#[o,e,cl,d]:=id st';show#[_,rfl,Gz (s:={s with heap:=h',toks:=tk}) e cl d ⋯ #[.str #[[_].toArray],H,I1,#[u,rfl],#[rfl,_,hx,rfl],#[∅,st'],λb hb=>(hf b hb).1]]
 done:=by intro X hP hw hK hc i zF s Z H E I hf st hg;let#[f0,f1,f2,f3,f4,f5]:=hf it (by simp);let hg':x.cps.size<=i:=hg;let hit:=st.2;rw[show(x.cps.size:Int)-1-(i:Int)=-1 by lia]at hit;show RB (I.ok.hd hc) hit λh' eb=>#[rfl,I.turned (t':=s.toks) (λb o hb e=>eb b o hb e) f0 f1 f3 f4 f5]
 self:=λA i s Q E st h=>MM st.2 h
section
variable{K:W.Frag}
def yB(ta:TA):TI:=λZ H R=>ta Z H λv H1=>∃x:Str,v=[.str x]/\x.cps.size<=16777216/\R (ia x) H1
def Py(O:Gl X "reversed")(M:X.mg "reversed"=none)(ha:PA X [a] ta)(hs:starEach [a] X.env=[(false,eval a X.env)]:=by rfl):PI X tg (.Call (.Name "reversed" p) [a] [] pos) (yB ta):=by
 intro zF s Z H R I h;show Call_ (Gb I O M VF (PyProof.Rows.callWith_type1 (Al (ha pos zF s Z H _ I h) λus v F=>?_) hs rfl));let#[vs,H1,z,J,L]:=F;let#[x,e,hz,q]:=L;subst e;cases J with
 |cons r G=>
  cases G;let#[t,rfl]:=r;let B:x.length=x.cps.size:=rfl;show Ur (by rw[B];lia) ?_;let st:cV (v.heap.push (oD x t ((x.length:Int)-1))) v.heap.objs.size x t ((x.length:Int)-1):=#[_,qd _ rfl,rfl,rfl]
  show MM st ?_;show#[v.heap.objs.size,[v.heap.objs.size],_,_,H1,rfl,z.kept (t':=v.toks+1+1) λb o e=>qc _ e,Vs _ x t (by rw[B];lia),#[zero_le _,by show cV _ _ x t ((x.length:Int)-1-((0:Nat):Int));rw[Int.natCast_zero,Int.sub_zero];show st],λb Y=>?_,q];let e:b=v.heap.objs.size:=↑Y
  subst e;show z.fpOk (q5 _) (z.hok.fresh (q5 _))
def TK(e:x.cps.toList=l):fU K (ia x) (l.reverse.map λc=>.str [c]) F0:=λi U Z F G H sm z=>by
 let B:x.cps.size=l.length:=by rw[<-e];simp
 show#[λd v=>?_,λh=>by show x.cps.size<=i;rw[B];simpa using h];rw[qE]at v;cases q:l.reverse[i]? with
 |none=>rw[q]at v;cases v
 |some c=>
  rw[q]at v;let J:D.str [c]=d:=qf v;let hi:i<l.length:=by let:=(qg.mp q).1;simpa using this
  rw[getElem?_reverse hi]at q;let O:x.cps[x.cps.size-1-i]?=some c:=by rw[<-qY,e,B];show q
  show#[by show i<x.cps.size;rw[B];show hi,λy H' M=>?_];let#[rfl,Y,L,rfl]:=M;rw[O]at L;let:c=Y:=qf L;subst this;rw[<-J];show#[F,zp.refl F,z,.str rfl (by show 1<=_;decide)]
def Qw(hg:Gl X "reversed")(hm:X.mg "reversed"=none)(ha:FE X a we)(hs:starEach [a] X.env=[(false,eval a X.env)]:=by rfl):FI X tg (.Call (.Name "reversed" p) [a] [] pos) (lN we):=λpn xe hp=>by
 show PI.imp (Py (X:=wp X pn xe) hg hm (Aa ha Ac hs pn xe hp) hs) λZ H R q=>?_;let#[F,G,U,P,PX,O,hw,Y,hx]:=q;show#[F,G,U,λM z=>match M with|[r]=>(match view r z with|some (.str l)=>P (l.reverse.map λc=>.str [c]) z|_=>False)|_=>False,PX,O,hw,λM z vs F1 H1 B s1 L hl J=>?_,hx];match M,vs,J,L,B with
 |[r],[v],J,L,B=>
  dsimp only at B;split at B
  .rename_i l ej;let rp:=Av (U':=[]) (Z':=[]) L hl J.1 ej;cases rp with
   |str e0 z0=>show#[_,rfl,by rw[<-qU,e0];show z0,Y _ z F1 H1 _ B s1 ((show Rel X.K (z++[zr r]) (Z++[some (.str _)]) F1 G H1 from L).drop hl) (TK e0)]
  .show B.elim
 |[],_,_,_,B=>show B.elim
 |[_],[],J,_,_=>show J.elim
 |[_],_::_::_,J,_,_=>show J.2.elim
 |_::_::_,_,_,_,B=>show B.elim
end
def Lq{α β:Type}{f:α->Option β}{g:α->β}:∀{l:List α},(∀k∈l,f k=some (g k))->l.filterMap f=l.map g
 |[],_=>rfl
 |a::l,h=>by rw[filterMap_cons,h a qm,qy,Lq λk v=>h k (qk _ v)]
def Ri(items:Array Value):slicePick items none none (some (-1))=items.toList.reverse.toArray:=by
 unfold slicePick sliceBounds sliceRange;let h1:¬((some (-1:Int)).getD 1>0):=⋯
 simp only[h1,Option.getD_some];let F:(if(items.size:Int)-1>-1 then((items.size:Int)-1- -1- -1-1)/ - -1 else 0).toNat=items.size:=by
  split
  .rw[show(- -1:Int)=1 from rfl];lia
  .lia
 simp only[show¬((-1:Int)>0) by decide,if_false,F];apply congrArg List.toArray;apply ext_getElem?;intro i;let B:(List.map (λk:Nat=>((items.size:Int)-1+-1*(k:Int)).toNat) (List.range items.size)).filterMap (items[·]?)=(List.range items.size).filterMap λk=>items[items.size-1-k]?:=by
  rw[List.filterMap_map];congr 1
  funext k
  show items[((items.size:Int)-1+-1*(k:Int)).toNat]?=_;congr 1;lia
 rw[B];let v:(List.range items.size).filterMap (λk=>items[items.size-1-k]?)=items.toList.reverse:=by
  apply ext_getElem?;intro i;let e:(List.range items.size).filterMap (λk=>items[items.size-1-k]?)=(List.range items.size).map λk=>(items[items.size-1-k]?).getD .none:=Lq λk z=>by let z:=qI.mp z;rw[getElem?_eq_getElem (show items.size-1-k<items.size by lia)];rfl
  rw[e,qE];by_cases hi:i<items.size
  .rw[List.getElem?_range hi,getElem?_reverse ↑hi,qU,qY,map_some,getElem?_eq_getElem (show items.size-1-i<items.size by lia)];rfl
  .rw[qP ↑hi,qP ↑hi];rfl
 rw[v]
section
variable{a st:Expr}
def wR(K:W.Frag)(ta v:TE):TE:=λZ H Q=>ta Z H λx H1=>v Z H1 λy H2=>y=.int (-1)/\∃l xs,x=.ref l/\bL K H2 l xs/\∀q,H2 q=none->Q (.ref q) (upd H2 q (.lst xs.reverse))
def Re(ha:PE X a ta)(hs:PE X st O)(F:∀o r,letTemporaryGo a o r=pure ():=by intro _ _;rfl):PE X (.Subscript a (.Slice none none (some st) p2) pos) (wR X.K ta O):=by
 intro zF s Z H Q I h;show wpAny_Subscript_Slice_step (T:="list") slot_list_getitem.lookup (Al (ha zF s Z H _ I h) λv Y G=>?_) F;let#[x,H1,I1,r1,q1]:=G;show wpAny_Slice ?_;show qb ?_;show qb ?_;show Al (hs zF Y Z H1 _ I1 q1) λu B G=>?_;let#[y,H2,I2,r2,q2]:=G;let#[rfl,l,xs,rfl,hq,q]:=q2;cases r1;let#[t,rfl]:=r2;let L:Inv X zF Z H2 {B with heap:=B.heap.push {cls:=.type "slice",data:=.fields [.none,.none,.int (-1) t].toArray}}:=I2.kept (t':=B.toks) λb ob q=>qc _ q;let#[J,r,F,hz]:=L.list hq;let z:=r.length;show#[F.isList.typeIs,wpAny_getItem_list_slice F.isList (Heap.IsSliceOf.new ..) .none .none (.int (-1) t) ⋯ ?_ (by rw[qr];lia)];rw[Ri];show#[.ref _,_,L.laid (t':=B.toks) (o:=.lst xs.reverse) (λb ob q=>qc _ q) (q5 _) ?_,rfl,q _ (L.hok.fresh (q5 _))];show#[by rw[length_reverse];show hz,J.reverse,0,?_,qd _ rfl];show Ig (by rw[length_reverse,length_reverse,z]) λj y v h1 h2=>?_;let hj:j<xs.length:=by let:=(qg.mp h1).1;simpa using this
 rw[getElem?_reverse hj]at h1;rw[getElem?_reverse ∅,<-z]at h2;let#[u,M,h5]:=r.get h1;rw[h2]at M;cases M;show h5
def Qt(ha:FE X a wa)(hs:FE X st ws)(ht:∀o r,letTemporaryGo a o r=pure ():=by intro _ _;rfl):FE X (.Subscript a (.Slice none none (some st) p2) pos) (nH lS wa ws):=λpn xe O=>by
 refine PE.imp (Re (X:=wp X pn xe) (ha pn xe O) (hs pn xe O) ht) λZ H Q q=>?_;refine(Fd (k:=λx y U2 Q E=>match view y U2 with
  |some (.int i)=>i=-1/\zo (zB x U2) λd=>zo (lS d) λs=>Q (.v s) U2
  |_=>False) q).mono λv H1 h1=>h1.mono λu H2 h2=>?_
 let#[F,G,U,x,y,P,PX,J,L,rx,ry,z,Y,hx]:=h2;let#[i,ei,hi,z]:=AE (U:=U) (k:=λi=>i=-1/\zo (zB x U) λd=>zo (lS d) λs=>P (.v s) U) z;let ru:=Av (U':=[]) (Z':=[]) (J.mid L) L ry ei;cases ru;show#[by rw[hi],?_];let#[d,ed,z]:=Ap z;let#[s,es,z]:=Ap z;let B:Rel X.K (U++[zr x]) (Z++[some v]) F G H2:=by let:=Rel.swap (U1:=[zr x]) (Z1:=[some v]) (U2:=[zr y]) (Z2:=[some (.int i)]) L rfl J;show Rel.mid (U:=U) (Z:=Z) this L
 let#[F1,s1,re,M]:=Ba (U':=[]) (Z':=[]) B L rx ed;let M:Rel X.K U Z F1 G H2:=↑M
 cases d with
 |lst l=>let#[a,xs,rfl,h1,r2]:=re.lst M.fr;show#[a,xs,rfl,h1,λp O=>Y _ U _ F1 _ z s1 (M.newLD O r2.rev) trivial]
 |_=>cases es
end
end FL
namespace TS
open PySem PyProof.Rows
def cT:Bool->Keyed->Array Keyed->Nat->Nat->Nat->StateT SortSt Sem (Option Nat):=sortPriv%PySem.Builtin.gallop
def ask(left:Bool)(key:Keyed)(arr:Array Keyed)(i:Nat):StateT SortSt Sem (Option Bool):=do
 let x<-elem' arr i
 if left then lt' x key else return(<-lt' key x).map (!·)
def vJ(left:Bool)(key:Keyed)(arr:Array Keyed)(base n u0 v0:Nat):StateT SortSt Sem (Option Nat):=do
 let mut u:=u0
 let mut v:=v0
 for _ in[0:n] do
  if u≥v then break
  let m:=u+(v-u)/2
  let some y<-ask left key arr (base+m)|return none
  if y then u:=m+1 else v:=m
 return some v
structure Cmp(M:Model)(A:Around)(E:zi)(s:Shared)(κ:SortKind)(ok:Keyed->Prop)(rk:Keyed->Int):Prop where
 lt:∀(x y:Keyed)(Q:Option Bool->SortSt->Prop)(st:SortSt),kindOf st=κ->ok x->ok y->Q (some (decide (rk x<rk y))) st->wpS M A E s (lt' x y) Q st
def Ab{v:Array Keyed}{i:Nat}{Q:Keyed->SortSt->Prop}{st:SortSt}(h:i<v.size)(z:Q v[i] st):wpS M A E s (elem' v i) Q st:=by rw[elem'_eq,getElem?_eq_getElem h];show wpS_pure z
def aQ(rk:Keyed->Int)(xs:Array Keyed)(i:Nat):Int:=(xs[i]?).elim 0 rk
def dM(rk:Keyed->Int)(left:Bool)(key:Keyed)(v:Array Keyed)(i:Nat):Bool:=if left then decide (aQ rk v i<rk key)else decide (aQ rk v i<=rk key)
def Ad{v:Array Keyed}{i:Nat}(h:i<v.size):aQ rk v i=rk v[i]:=by unfold aQ;rw[getElem?_eq_getElem h];rfl
def Bh(C:Cmp M A E s κ ok rk){left:Bool}{key:Keyed}{v:Array Keyed}(F:ok key)(G:∀i(h:i<v.size),ok v[i]){i:Nat}(hi:i<v.size){Q:Option Bool->SortSt->Prop}{st:SortSt}(z:kindOf st=κ)
  (B:Q (some (dM rk left key v i)) st):wpS M A E s (ask left key v i) Q st:=by
 show wpS_bind (Ab hi ?_);unfold dM at B;rw[Ad hi]at B;cases left
 .show wpS_bind (C.lt _ _ _ _ z F (G _ hi) (wpS_pure ?_));rw[show decide (rk v[i]<=rk key)=!decide (rk key<rk v[i]) by simp[<-Int.not_lt]]at B;show B
 .show C.lt _ _ _ _ z (G _ hi) F B
@[inline]def Up(rk:Keyed->Int)(xs:Array Keyed)(lo hi:Nat):Prop:=∀i j,lo<=i->i<=j->j<hi->aQ rk xs i<=aQ rk xs j
def AJ{left:Bool}{key:Keyed}{v:Array Keyed}{base n:Nat}(z:Up rk v base (base+n)){i j:Nat}(B:i<=j)(F:j<n)(h:dM rk left key v (base+j)=true):dM rk left key v (base+i)=true:=by let:=z (base+i) (base+j) ∅ ∅ ∅;unfold dM at h⊢;cases left<;>simp_all<;>lia
def kX(rk:Keyed->Int)(left:Bool)(key:Keyed)(z:Array Keyed)(base n u v:Nat):Prop:=u<=v/\v<=n/\(∀i,i<u->dM rk left key z (base+i)=true)/\∀i,v<=i->i<n->dM rk left key z (base+i)=false
def Bk(C:Cmp M A E s κ ok rk){left:Bool}{key:Keyed}{arr:Array Keyed}{base n u v:Nat}{Q:Option Nat->SortSt->Prop}{st:SortSt}(hk:ok key)(ha:∀i(h:i<arr.size),ok arr[i])(hn:base+n<=arr.size)(hu:Up rk arr base (base+n))(hst:kindOf st=κ)(hc:kX rk left key arr base n u v)
  (h:∀k,kX rk left key arr base n k k->Q (some k) st):wpS M A E s (vJ left key arr base n u v) Q st:=by
 have no_up:∀{i j:Nat},i<=j->j<n->dM rk left key arr (base+i)=false->dM rk left key arr (base+j)=false:=λ{i j} hij hj hb=>by
  cases q:dM rk left key arr (base+j)with
  |false=>rfl
  |true=>rw[AJ hu hij hj q]at hb;cases hb
 refine wpS_bind (wpS_mono (wpS_forRange (I:=λx c st'=>st'=st/\c.1=none/\kX rk left key arr base n c.2.1 c.2.2/\c.2.2-c.2.1<=n-x)
  (Q:=λc st'=>st'=st/\c.1=none/\kX rk left key arr base n c.2.2 c.2.2) ?step ?fin #[rfl,rfl,hc,by let:=hc.2.1;simp only;lia]) ?post)
 case fin=>
  rintro⟨r,l,u⟩ st' ⟨rfl,hr,⟨g1,g2,g3,g4⟩,g5⟩;obtain rfl:l=u:=∅
  show#[rfl,hr,g1,g2,g3,g4]
 case step=>
  rintro x ⟨r,l,u⟩ st' _ hx ⟨rfl,hr,⟨g1,g2,g3,g4⟩,g5⟩;by_cases hlu:l≥u
  .rw[qZ hlu];obtain rfl:l=u:=by lia
   show wpS_pure #[rfl,rfl,g1,g2,g3,g4]
  .rw[q4 hlu];show wpS_bind (Bh C hk ha ∅ hst ?_);cases q:dM rk left key arr (base+(l+(u-l)/2))with
   |true=>show wpS_pure #[rfl,rfl,#[by simp only;lia,g2,λi hi=>AJ hu (show i<=l+(u-l)/2 by simp only at hi;lia) ∅ q,g4],by simp only;lia]
   |false=>show wpS_pure #[rfl,rfl,#[by simp only;lia,by simp only;lia,g3,λi hi hin=>no_up (show l+(u-l)/2<=i from hi) hin q],by simp only;lia]
 case post=>rintro⟨r,l,u⟩ st' ⟨rfl,hr,g⟩;subst hr;show wpS_pure (h u g)
def Aq(C:Cmp M A E s κ ok rk){left:Bool}{key:Keyed}{arr:Array Keyed}{base n hint:Nat}{Q:Option Nat->SortSt->Prop}{st:SortSt}(hk:ok key)(ha:∀i(h:i<arr.size),ok arr[i])(hn:base+n<=arr.size)(hh:hint<n)(hu:Up rk arr base (base+n))(hst:kindOf st=κ)
  (h:∀k,kX rk left key arr base n k k->Q (some k) st):wpS M A E s (cT left key arr base n hint) Q st:=by
 have no_up:∀{i j:Nat},i<=j->j<n->dM rk left key arr (base+i)=false->dM rk left key arr (base+j)=false:=λ{i j} hij hj hb=>by
  cases q:dM rk left key arr (base+j)with
  |false=>rfl
  |true=>rw[AJ hu hij hj q]at hb;cases hb
 show wpS_bind (Bh C hk ha ∅ hst ?_);cases q:dM rk left key arr (base+hint)with
 |true=>
  refine wpS_bind (wpS_mono (wpS_forRange (I:=λx c st'=>st'=st/\c.1=none/\c.2.1<c.2.2/\x<c.2.2/\hint+c.2.1<n/\dM rk left key arr (base+(hint+c.2.1))=true)
   (Q:=λc st'=>st'=st/\c.1=none/\c.2.1<c.2.2/\hint+c.2.1<n/\dM rk left key arr (base+(hint+c.2.1))=true/\(n<=hint+c.2.2\/dM rk left key arr (base+(hint+c.2.2))=false)) ?step ?fin #[rfl,rfl,⋯,⋯,hh,↑q]) ?post)
  case fin=>rintro⟨r,l,u⟩ st' ⟨rfl,hr,g1,g2,g3,g4⟩;show#[rfl,hr,g1,g3,g4,.inl (by simp only at g2⊢;lia)]
  case step=>
   rintro x ⟨r,l,u⟩ st' _ hx ⟨rfl,hr,g1,g2,g3,g4⟩;by_cases hlu:u≥n-hint
   .rw[qZ hlu];show wpS_pure #[rfl,rfl,g1,g3,g4,.inl (by simp only;lia)]
   .rw[q4 hlu];show wpS_bind (Bh C hk ha ∅ hst ?_);cases q2:dM rk left key arr (base+(hint+u))with
    |true=>show wpS_pure #[rfl,rfl,by simp only;lia,by simp only;lia,by simp only;lia,q2]
    |false=>show wpS_pure #[rfl,rfl,g1,g3,g4,.inr q2]
  case post=>
   rintro⟨r,l,u⟩ st1 ⟨rfl,hr,g1,g3,g4,g5⟩;subst hr;show Bk C hk ha hn hu hst #[∅,∅,λi hi=>AJ hu (show i<=hint+l by lia) g3 g4,λi hi hin=>?_] h;rcases g5 with g5|g5
   .lia
   .show no_up (show hint+u<=i by lia) hin g5
 |false=>
  refine wpS_bind (wpS_mono (wpS_forRange (I:=λx c st'=>st'=st/\c.1=none/\c.2.1<c.2.2/\x<c.2.2/\c.2.1<=hint/\dM rk left key arr (base+(hint-c.2.1))=false)
   (Q:=λc st'=>st'=st/\c.1=none/\c.2.1<c.2.2/\c.2.1<=hint/\dM rk left key arr (base+(hint-c.2.1))=false/\(hint<c.2.2\/dM rk left key arr (base+(hint-c.2.2))=true)) ?step ?fin #[rfl,rfl,⋯,⋯,by simp,by show q]) ?post)
  case fin=>rintro⟨r,l,u⟩ st' ⟨rfl,hr,g1,g2,g3,g4⟩;show#[rfl,hr,g1,g3,g4,.inl (by simp only at g2⊢;lia)]
  case step=>
   rintro x ⟨r,l,u⟩ st' _ hx ⟨rfl,hr,g1,g2,g3,g4⟩;by_cases hlu:u≥hint+1
   .rw[qZ hlu];show wpS_pure #[rfl,rfl,g1,g3,g4,.inl (by simp only;lia)]
   .rw[q4 hlu];show wpS_bind (Bh C hk ha ∅ hst ?_);cases q2:dM rk left key arr (base+(hint-u))with
    |true=>show wpS_pure #[rfl,rfl,g1,g3,g4,.inr q2]
    |false=>show wpS_pure #[rfl,rfl,by simp only;lia,by simp only;lia,by simp only;lia,q2]
  case post=>
   rintro⟨r,l,u⟩ st1 ⟨rfl,hr,g1,g3,g4,g5⟩;subst hr;show Bk C hk ha hn hu hst #[∅,∅,λi hi=>?_,λi hi hin=>no_up (show hint-l<=i by lia) hin g4] h;rcases g5 with g5|g5
   .lia
   .show AJ hu (show i<=hint-u by lia) ∅ g5
def fJ(g:Nat):StateT SortSt Sem Unit:=modify λs=>SortSt.mk' (kindOf s) (arrOf s) (pendingOf s) g (failedOf s)
def fM:Array Keyed->Array Keyed->StateT SortSt Sem (Array Keyed):=sortPriv%PySem.Builtin.mergeLo
def fX(a b o:Array Keyed)(i j:Nat):Array Keyed:=o++a.extract i a.size++b.extract j b.size
def fin2(a b o:Array Keyed)(i j:Nat):Array Keyed:=o++b.extract j b.size++a.extract i a.size
abbrev Mo:=Array Keyed×Nat×Nat×Nat×Nat×Nat
abbrev LS(α:Type):=ForInStep (Option (Array Keyed)×α)
def fe(a b:Array Keyed)(g c d i:Nat)(o:Array Keyed)(j:Nat):StateT SortSt Sem (LS Mo):=do
 let x<-elem' a i
 if i+1+1==a.size then return .done (some (fin2 a b (o.push x) (i+1) j),o.push x,i+1,j,g,c,d)
 if c<7&&d<7 then return .done (none,o.push x,i+1,j,g,c,d)
 return .yield (none,o.push x,i+1,j,g,c,d)
def ff(a b:Array Keyed)(g c d j:Nat)(o:Array Keyed)(i:Nat):StateT SortSt Sem (LS Mo):=do
 let x<-elem' b j
 if j+1==b.size then return .done (some (fX a b (o.push x) i (j+1)),o.push x,i,j+1,g,c,d)
 match<-cT true (<-elem' a i) b (j+1) (b.size-(j+1)) 0 with
 |some k=>
  if k>0 then
   if j+1+k==b.size then return .done (some (fX a b (o.push x++b.extract (j+1) (j+1+k)) i (j+1+k)),o.push x++b.extract (j+1) (j+1+k),i,j+1+k,g,c,k)
   fe a b g c k i (o.push x++b.extract (j+1) (j+1+k)) (j+1+k)
  else fe a b g c k i (o.push x) (j+1)
 |_=>return .done (some (fX a b (o.push x) i (j+1)),o.push x,i,j+1,g,c,d)
def lo1(a b o:Array Keyed)(i j c d g:Nat):StateT SortSt Sem (LS Mo):=do
 fJ g
 match<-cT false (<-elem' b j) a i (a.size-i) 0 with
 |some k=>
  if k>0 then
   if i+k+1==a.size then return .done (some (fin2 a b (o++a.extract i (i+k)) (i+k) j),o++a.extract i (i+k),i+k,j,g,k,d)
   if i+k==a.size then return .done (some (fX a b (o++a.extract i (i+k)) (i+k) j),o++a.extract i (i+k),i+k,j,g,k,d)
   ff a b g k d j (o++a.extract i (i+k)) (i+k)
  else ff a b g k d j o i
 |_=>return .done (some (fX a b o i j),o,i,j,g,c,d)
def ij(a b:Array Keyed)(g:Nat)(s:Option (Array Keyed)×Array Keyed×Nat×Nat×Nat×Nat):StateT SortSt Sem (LS (Array Keyed×Nat×Nat×Nat×Nat)):=do
 match<-lt' (<-elem' b s.2.2.2.1) (<-elem' a s.2.2.1)with
 |some y=>
  if y then
   let x<-elem' b s.2.2.2.1
   if s.2.2.2.1+1==b.size then return .done (some (fX a b (s.2.1.push x) s.2.2.1 (s.2.2.2.1+1)),s.2.1.push x,s.2.2.1,s.2.2.2.1+1,0,s.2.2.2.2.2+1)
   if s.2.2.2.2.2+1≥g then return .done (none,s.2.1.push x,s.2.2.1,s.2.2.2.1+1,0,s.2.2.2.2.2+1)
   return .yield (none,s.2.1.push x,s.2.2.1,s.2.2.2.1+1,0,s.2.2.2.2.2+1)
  else
   let x<-elem' a s.2.2.1
   if s.2.2.1+1+1==a.size then return .done (some (fin2 a b (s.2.1.push x) (s.2.2.1+1) s.2.2.2.1),s.2.1.push x,s.2.2.1+1,s.2.2.2.1,s.2.2.2.2.1+1,0)
   if s.2.2.2.2.1+1≥g then return .done (none,s.2.1.push x,s.2.2.1+1,s.2.2.2.1,s.2.2.2.2.1+1,0)
   return .yield (none,s.2.1.push x,s.2.2.1+1,s.2.2.2.1,s.2.2.2.2.1+1,0)
 |_=>return .done (some (fX a b s.2.1 s.2.2.1 s.2.2.2.1),s.2.1,s.2.2.1,s.2.2.2.1,s.2.2.2.2.1,s.2.2.2.2.2)
def ag(a b:Array Keyed)(s:Option (Array Keyed)×Mo):StateT SortSt Sem (LS Mo):=lo1 a b s.2.1 s.2.2.1 s.2.2.2.1 s.2.2.2.2.2.1 s.2.2.2.2.2.2 (if s.2.2.2.2.1>1 then s.2.2.2.2.1-1 else s.2.2.2.2.1)
def fc(a b:Array Keyed)(t:Nat)(s:Option (Array Keyed)×Array Keyed×Nat×Nat×Nat):StateT SortSt Sem (LS (Array Keyed×Nat×Nat×Nat)):=
 (forIn [:t] (none,s.2.1,s.2.2.1,s.2.2.2.1,0,0) λ_=>ij a b s.2.2.2.2)>>=λr=>Break.runK.match_1 (λ_=>StateT SortSt Sem (LS (Array Keyed×Nat×Nat×Nat))) r.1 (λx=>pure (.done (some x,r.2.1,r.2.2.1,r.2.2.2.1,s.2.2.2.2))) λ_=>do
  rule "list.sort.gallop"
  (forIn [:t] (none,r.2.1,r.2.2.1,r.2.2.2.1,s.2.2.2.2+1,r.2.2.2.2) λ_=>ag a b)>>=λq=>Break.runK.match_1 (λ_=>StateT SortSt Sem (LS (Array Keyed×Nat×Nat×Nat))) q.1 (λx=>pure (.done (some x,q.2.1,q.2.2.1,q.2.2.2.1,q.2.2.2.2.1))) λ_=>do
   fJ (q.2.2.2.2.1+1)
   return .yield (none,q.2.1,q.2.2.1,q.2.2.2.1,q.2.2.2.2.1+1)
def Cr(a b:Array Keyed):fM a b=(do
 rule "list.sort.merge-lo"
 let x<-elem' b 0
 if 1==b.size then return fX a b [x].toArray 0 1
 if 0+1==a.size then return fin2 a b [x].toArray 0 1
 let s<-get
 (forIn [:a.size+b.size] (none,[x].toArray,0,1,gallopOf s) λ_=>fc a b (a.size+b.size))>>=λr=>Break.runK.match_1 (λ_=>StateT SortSt Sem (Array Keyed)) r.1 (λr=>pure r) λ_=>unsupported "internal:list.sort.merge-bound"):=by
 let e:∀(s:Option (Array Keyed)×Mo),ag a b s=(if s.2.2.2.2.1>1 then lo1 a b s.2.1 s.2.2.1 s.2.2.2.1 s.2.2.2.2.2.1 s.2.2.2.2.2.2 (s.2.2.2.2.1-1)else lo1 a b s.2.1 s.2.2.1 s.2.2.2.1 s.2.2.2.2.2.1 s.2.2.2.2.2.2 s.2.2.2.2.1):=λs=>by unfold ag;by_cases hg:s.2.2.2.2.1>1<;>simp[hg,if_true,if_false]
 unfold fc;rw[show ag a b=_ from funext e];rfl
def fS(rk:Keyed->Int)(l:List Keyed):Prop:=l.Pairwise λx y=>rk x<=rk y
@[inline]def Below(rk:Keyed->Int)(l m:List Keyed):Prop:=∀x∈l,∀y∈m,rk x<=rk y
structure MG(rk:Keyed->Int)(all l ra rb:List Keyed):Prop where
 perm:(l++(ra++rb)).Perm all
 sl:fS rk l
 sa:fS rk ra
 sb:fS rk rb
 la:Below rk l ra
 lb:Below rk l rb
def MG.swap(m:MG rk all l z v):MG rk all l v z:=#[((qM (l₁:=v)).append_left l).trans m.perm,m.sl,m.sb,m.sa,m.lb,m.la]
def MG.takeA(m:MG rk all l (p++G) F)(h:Below rk p F):MG rk all (l++p) G F:=by
 let#[h1,h2,J]:=pairwise_append.mp m.sa;show#[↑m.perm,pairwise_append.mpr #[m.sl,h1,λx B y v=>m.la x B y (qj _ v)],h2,m.sb,λx B y v=>?_,λx B y v=>?_]
 .show(qx.mp B).elim (λz=>m.la x z y (qi _ v)) λz=>J x z y v
 .show(qx.mp B).elim (λz=>m.lb x z y v) λz=>h x z y v
def MG.takeB(m:MG rk all l v (p++z))(h:Below rk p v):MG rk all (l++p) v z:=(m.swap.takeA h).swap
def MG.end(m:MG rk all l z v)(h:Below rk v z):(l++v++z).Perm all/\fS rk (l++v++z):=by rw[qp];show#[((qM (l₁:=v)).append_left l).trans m.perm,pairwise_append.mpr #[m.sl,pairwise_append.mpr #[m.sb,m.sa,h],λx B y F=>(qx.mp F).elim (m.lb x B y) (m.la x B y)]]
def AF{x y:Keyed}(h:rk x<=rk y)(hs:fS rk (y::l)):∀z∈y::l,rk x<=rk z:=λz v=>by
 rcases qA.mp v with rfl|v
 .show h
 .show Int.le_trans h ((pairwise_cons.mp hs).1 z v)
def Ai{α:Type}{a:Array α}{i:Nat}(h:i<a.size):a.toList.drop i=a[i]::a.toList.drop (i+1):=by rw[List.drop_eq_getElem_cons h];simp
def CF{a:Array Keyed}{i n:Nat}(h:fS rk (a.toList.drop i))(hn:i+n<=a.size):Up rk a i (i+n):=λj k h1 h2 v=>by
 rw[Ad (show j<a.size by lia),Ad (show k<a.size by lia)];by_cases e:j=k
 .subst e;show Int.le_refl _
 .let:=pairwise_iff_getElem.mp h (j-i) (k-i) (by simp;lia -verbose) (by simp;lia -verbose) ∅;simpa[show i+(j-i)=j by lia,show i+(k-i)=k by lia] using this
def Bx{left:Bool}{a:Array Keyed}{i n k:Nat}{key:Keyed}(v:kX rk left key a i n k k)(hn:i+n<=a.size)(hs:fS rk (key::l)):Below rk ((a.toList.drop i).take k) (key::l):=λx z=>by let#[j,B,rfl]:=List.mem_iff_getElem.mp z;let F:=v.2.1;rw[qG,qF,qU]at B;let h1:=v.2.2.1 j ∅;unfold dM at h1;rw[Ad (show i+j<a.size by lia)]at h1;show AF ?_ hs;simp;cases left<;>simp at h1<;>lia
def Ax{Z:Type}{name:String}{Q:PUnit->Z->Prop}{st:Z}(h:Q ⟨⟩ st):wpS M A E s (liftM (rule name):StateT Z Sem PUnit) Q st:=wpS_lift (wpAny_rule #[rfl,h])
def bA(st v:SortSt):Prop:=kindOf v=kindOf st/\arrOf v=arrOf st/\pendingOf v=pendingOf st/\failedOf v=failedOf st
def bA.trans{st z v:SortSt}(h:bA st z)(k:bA z v):bA st v:=#[k.1.trans h.1,k.2.1.trans h.2.1,k.2.2.1.trans h.2.2.1,k.2.2.2.trans h.2.2.2]
def AG{g:Nat}{Q:PUnit->SortSt->Prop}{st:SortSt}(h:∀v,bA st v->Q ⟨⟩ v):wpS M A E s (fJ g) Q st:=wpS_modify (h _ #[rfl,rfl,rfl,rfl])
def fY(rk:Keyed->Int)(a b r:Array Keyed):Prop:=r.toList.Perm (a.toList++b.toList)/\fS rk r.toList
structure Go(rk:Keyed->Int)(a b o:Array Keyed)(i j:Nat):Prop where
 m:MG rk (a.toList++b.toList) o.toList (a.toList.drop i) (b.toList.drop j)
 i:i+1<a.size
 j:j<b.size
section
variable{a b o:Array Keyed}
def EH(m:MG rk (a.toList++b.toList) o.toList (a.toList.drop i) (b.toList.drop j))(h:j=b.size):fY rk a b (fX a b o i j):=by
 let v:b.toList.drop j=[]:=by simp[h]
 rw[v]at m;let:=m.end λx z=>nomatch z
 unfold fY fX;simpa[v,take_of_length_le,h] using this
def EG(m:MG rk (a.toList++b.toList) o.toList (a.toList.drop i) (b.toList.drop j))(h:i+1=a.size)(B:∀y∈b.toList,rk y<aQ rk a (a.size-1)):fY rk a b (fin2 a b o i j):=by
 let:=m.end λx z y v=>by rw[Ai (show i<a.size by lia),List.drop_of_length_le (by simp;lia -verbose),qu]at v;let h1:=B x (List.mem_of_mem_drop z);rw[show a.size-1=i by lia,Ad (show i<a.size by lia),<-v]at h1;show Int.le_of_lt h1
 unfold fY fin2;simpa[take_of_length_le] using this
def DV(m:MG rk (a.toList++b.toList) o.toList (a.toList.drop i) (b.toList.drop j))(hi:i<a.size)(B:j<b.size)(h:rk b[j]<=rk a[i]):MG rk (a.toList++b.toList) (o.push b[j]).toList (a.toList.drop i) (b.toList.drop (j+1)):=by rw[Ai B]at m;rw[toList_push];let v:=m.sa;rw[Ai hi]at v;show MG.takeB (p:=[b[j]]) m λx z=>?_;rw[qu.mp z,Ai hi];show AF h v
def Ff(m:MG rk (a.toList++b.toList) o.toList (a.toList.drop i) (b.toList.drop j))(hi:i<a.size)(z:j<b.size)(h:rk a[i]<=rk b[j]):MG rk (a.toList++b.toList) (o.push a[i]).toList (a.toList.drop (i+1)) (b.toList.drop j):=by rw[Ai hi]at m;rw[toList_push];let v:=m.sb;rw[Ai z]at v;show MG.takeA (p:=[a[i]]) m λx B=>?_;rw[qu.mp B,Ai z];show AF h v
def FR(m:MG rk (a.toList++b.toList) o.toList (a.toList.drop i) (b.toList.drop j))(hi:i<=a.size)(z:j<b.size)(B:kX rk false b[j] a i (a.size-i) k k):MG rk (a.toList++b.toList) (o++a.extract i (i+k)).toList (a.toList.drop (i+k)) (b.toList.drop j):=by let v:=m.sb;rw[Ai z]at v;rw[<-take_append_drop k (a.toList.drop i),drop_drop]at m;rw[toList_append,toList_extract,extract_eq_take_drop,show i+k-i=k by lia];show MG.takeA m ?_;rw[Ai z];show Bx B ∅ v
def FQ(m:MG rk (a.toList++b.toList) o.toList (a.toList.drop i) (b.toList.drop j))(hi:i<a.size)(B:j<=b.size)(z:kX rk true a[i] b j (b.size-j) k k):MG rk (a.toList++b.toList) (o++b.extract j (j+k)).toList (a.toList.drop i) (b.toList.drop (j+k)):=by let v:=m.sa;rw[Ai hi]at v;rw[<-take_append_drop k (b.toList.drop j),drop_drop]at m;rw[toList_append,toList_extract,extract_eq_take_drop,show j+k-j=k by lia];show MG.takeB m ?_;rw[Ai hi];show Bx z ∅ v
def gK{α:Type}(rk:Keyed->Int)(a b:Array Keyed)(n:Nat)(r:ForInStep (Option (Array Keyed)×Array Keyed×Nat×Nat×α)):Prop:=match r with
 |.done (some r,_)=>fY rk a b r
 |.done (none,o,i,j,_)=>Go rk a b o i j/\n<o.size
 |.yield (q,o,i,j,_)=>q=none/\Go rk a b o i j/\n<o.size
structure wF(C:Cmp M A E s κ ok rk)(a b:Array Keyed):Prop where
 oa:∀i(h:i<a.size),ok a[i]
 ob:∀i(h:i<b.size),ok b[i]
 hl:∀y∈b.toList,rk y<aQ rk a (a.size-1)
def FM{C:Cmp M A E s κ ok rk}(H:wF C a b){st:SortSt}(F:kindOf st=κ)(G:Go rk a b o i j)(r:Option (Array Keyed)):wpS M A E s (ij a b g (r,o,i,j,c,d)) (λr B=>B=st/\gK rk a b o.size r) st:=by
 let hi:i<a.size:=by let:=G.i;lia
 let J:=G.j;show wpS_bind (Ab G.j ?_);show wpS_bind (Ab hi ?_);show wpS_bind (C.lt _ _ _ _ F (H.ob _ G.j) (H.oa _ hi) ?_);by_cases v:rk b[j]<rk a[i]
 .rw[qQ v];show wpS_bind (Ab G.j ?_);let m:=DV G.m hi G.j (Int.le_of_lt v);let sz:o.size<(o.push b[j]).size:=by simp
  by_cases h1:j+1=b.size
  .simp only[h1,beq_self_eq_true];show wpS_pure #[rfl,h1▸EH m h1]
  .simp[beq_eq_false_iff_ne.mpr h1,false_eq_true,if_false];let z:Go rk a b (o.push b[j]) i (j+1):=#[m,G.i,by let:=G.j;lia]
   split
   .show wpS_pure #[rfl,z,sz]
   .show wpS_pure #[rfl,rfl,z,sz]
 .rw[qR v];show wpS_bind (Ab hi ?_);let m:=Ff G.m hi G.j ∅;let sz:o.size<(o.push a[i]).size:=by simp
  by_cases h1:i+1+1=a.size
  .simp only[h1,beq_self_eq_true];show wpS_pure #[rfl,EG m h1 H.hl]
  .simp[beq_eq_false_iff_ne.mpr h1,false_eq_true,if_false];let z:Go rk a b (o.push a[i]) (i+1) j:=#[m,by let:=G.i;lia,G.j]
   split
   .show wpS_pure #[rfl,z,sz]
   .show wpS_pure #[rfl,rfl,z,sz]
def CS{left:Bool}{key:Keyed}{v:Array Keyed}{base:Nat}(B:kX rk left key v base n k k)(z:k<n)(hn:base+n<=v.size):rk key<=rk (v[base+k]'∅):=by let:=B.2.2.2 k (q5 _) z;unfold dM at this;rw[Ad (show base+k<v.size by lia)]at this;cases left<;>simp at this<;>lia
def Ec{C:Cmp M A E s κ ok rk}(H:wF C a b){st:SortSt}(m:MG rk (a.toList++b.toList) o.toList (a.toList.drop i) (b.toList.drop j))(hi:i+1<a.size)(z:j<b.size)(h:rk a[i]<=rk b[j])(hn:n<=o.size):wpS M A E s (fe a b g c d i o j) (λr v=>v=st/\gK rk a b n r) st:=by
 show wpS_bind (Ab (show i<a.size by lia) ?_);let m:=Ff m (show i<a.size by lia) z h;let sz:n<(o.push a[i]).size:=by simp;lia
 by_cases h1:i+1+1=a.size
 .simp only[h1,beq_self_eq_true];show wpS_pure #[rfl,EG m h1 H.hl]
 .simp[beq_eq_false_iff_ne.mpr h1,false_eq_true,if_false];let B:Go rk a b (o.push a[i]) (i+1) j:=#[m,∅,z]
  split
  .show wpS_pure #[rfl,B,sz]
  .show wpS_pure #[rfl,rfl,B,sz]
def Ed{C:Cmp M A E s κ ok rk}(H:wF C a b){st:SortSt}(B:kindOf st=κ)(m:MG rk (a.toList++b.toList) o.toList (a.toList.drop i) (b.toList.drop j))(hi:i+1<a.size)(F:j<b.size)(h:rk b[j]<=rk a[i])(hn:n<=o.size):wpS M A E s (ff a b g c d j o i) (λr z=>z=st/\gK rk a b n r) st:=by
 show wpS_bind (Ab F ?_);let m:=DV m (show i<a.size by lia) F h;let sz:n<=(o.push b[j]).size:=by simp;lia
 by_cases h1:j+1=b.size
 .simp only[h1,beq_self_eq_true];show wpS_pure #[rfl,h1▸EH m h1]
 .simp only[beq_eq_false_iff_ne.mpr h1,if_false];show wpS_bind (Ab (show i<a.size by lia) ?_);show wpS_bind (Aq C (H.oa _ _) H.ob ∅ ∅ (CF m.sb ∅) B λk v=>?_);let J:=v.2.1;by_cases G:k>0
  .simp only[G];let m2:=FQ m (show i<a.size by lia) ∅ v;by_cases h2:j+1+k=b.size
   .simp only[h2,beq_self_eq_true];show wpS_pure #[rfl,h2▸EH m2 h2]
   .simp only[beq_eq_false_iff_ne.mpr h2,if_false];show Ec H m2 hi ∅ (CS v ∅ ∅) (by simp;lia -verbose)
  .simp;obtain rfl:k=0:=by lia
   show Ec H m hi ∅ (CS v ∅ ∅) sz
def FK{C:Cmp M A E s κ ok rk}(H:wF C a b){st:SortSt}(B:kindOf st=κ)(G:Go rk a b o i j):wpS M A E s (lo1 a b o i j c d g) (λr v=>bA st v/\gK rk a b o.size r) st:=by
 have hi:=G.i;let J:=G.j;show wpS_bind (AG λY ks=>?_);show wpS_bind (Ab J ?_);show wpS_bind (Aq C (H.ob _ _) H.oa ∅ ∅ (CF G.m.sa ∅) (ks.1.trans B) λk O=>?_);let L:i+k<a.size:=by
  rcases lt_or_ge (i+k) a.size with h|h
  .show h
  .let h1:=O.2.2.1 (a.size-1-i) ∅;let h2:=H.hl b[j] (by simp);unfold dM at h1;rw[show i+(a.size-1-i)=a.size-1 by lia]at h1;lia
 let F:=CS O ∅ ∅;by_cases k0:k>0
 .simp only[k0];let m2:=FR G.m ∅ J O;by_cases h1:i+k+1=a.size
  .simp only[h1,beq_self_eq_true];show wpS_pure #[ks,EG m2 h1 H.hl]
  .simp only[beq_eq_false_iff_ne.mpr h1,beq_eq_false_iff_ne.mpr (show i+k≠a.size by lia),if_false];show wpS_mono (Ed (n:=o.size) H (ks.1.trans B) m2 ∅ J F (by simp)) λr v z=>#[z.1▸ks,z.2]
 .simp;obtain rfl:k=0:=by lia
  show wpS_mono (Ed (n:=o.size) H (ks.1.trans B) G.m ∅ J F (q5 _)) λr v z=>#[z.1▸ks,z.2]
def yS{α:Type}(rk:Keyed->Int)(a b:Array Keyed)(n:Nat)(r:ForInStep (Option (Array Keyed)×Array Keyed×Nat×Nat×α)):Prop:=match r with
 |.done c=>∃r,c.1=some r/\fY rk a b r
 |.yield c=>c.1=none/\Go rk a b c.2.1 c.2.2.1 c.2.2.2.1/\n<c.2.1.size
def FJ{C:Cmp M A E s κ ok rk}(H:wF C a b){st st':SortSt}(hst:kindOf st=κ)(ks:bA st st')(G:Go rk a b o i j)(ht:0<t)(q:Option (Array Keyed)):wpS M A E s (fc a b t (q,o,i,j,g)) (λr st'=>bA st st'/\yS rk a b o.size r) st':=by
 refine wpS_bind (wpS_mono (wpS_forRange (I:=λ_ c st1=>c.1=none/\st1=st'/\Go rk a b c.2.1 c.2.2.1 c.2.2.2.1/\o.size<=c.2.1.size)
  (Q:=λc st1=>st1=st'/\((∃r,c.1=some r/\fY rk a b r)\/c.1=none/\Go rk a b c.2.1 c.2.2.1 c.2.2.2.1/\o.size<=c.2.1.size)) ?step1 (λc st1⟨h1,h2,h3,h4⟩=>#[h2,.inr #[h1,h3,h4]]) #[rfl,rfl,G,q5 _]) ?post1)
 case step1=>
  rintro y ⟨q,o1,i1,j1,c1,d1⟩ st1 _ _ ⟨_,rfl,G1,ho1⟩;show wpS_mono (FM (g:=g) (c:=c1) (d:=d1) H (ks.1.trans hst) G1 q) λr st2⟨e,z⟩=>?_;subst e;unfold gK at z;split at z
  .show#[rfl,.inl #[_,rfl,z]]
  .show#[rfl,.inr #[rfl,z.1,le_of_lt (lt_of_le_of_lt ho1 z.2)]]
  .show#[z.1,rfl,z.2.1,le_of_lt (lt_of_le_of_lt ho1 z.2.2)]
 rintro⟨q,o1,i1,j1,c1,d1⟩ st1 ⟨rfl,⟨r,hq,hr⟩|⟨hq,G1,ho1⟩⟩
 .cases hq;show wpS_pure #[ks,r,rfl,hr]
 cases hq;show wpS_bind (Ax ?_);refine wpS_bind (wpS_mono (wpS_forRange (I:=λy c st2=>c.1=none/\bA st st2/\Go rk a b c.2.1 c.2.2.1 c.2.2.2.1/\o.size<=c.2.1.size/\(0<y->o.size<c.2.1.size))
  (Q:=λc st2=>bA st st2/\((∃r,c.1=some r/\fY rk a b r)\/c.1=none/\Go rk a b c.2.1 c.2.2.1 c.2.2.2.1/\o.size<c.2.1.size)) ?step2 (λc st2⟨h1,h2,h3,_,h5⟩=>#[h2,.inr #[h1,h3,h5 ∅]]) #[rfl,ks,G1,ho1,λz=>absurd z (lt_irrefl 0)]) ?post2)
 case step2=>
  rintro y ⟨q,o2,i2,j2,g2,c2,d2⟩ st2 _ _ ⟨_,k2,G2,ho2,_⟩;show wpS_mono (FK (c:=c2) (d:=d2) H (k2.1.trans hst) G2) λr st3⟨k3,z⟩=>?_;let k3:=k2.trans k3;unfold gK at z;split at z
  .show#[k3,.inl #[_,rfl,z]]
  .show#[k3,.inr #[rfl,z.1,lt_of_le_of_lt ho2 z.2]]
  .show#[z.1,k3,z.2.1,le_of_lt (lt_of_le_of_lt ho2 z.2.2),λ_=>lt_of_le_of_lt ho2 z.2.2]
 rintro⟨q,o2,i2,j2,g2,c2,d2⟩ st2 ⟨k2,⟨r,hq,hr⟩|⟨hq,G2,ho2⟩⟩
 .cases hq;show wpS_pure #[k2,r,rfl,hr]
 cases hq;show wpS_bind (AG λst3 k3=>wpS_pure #[k2.trans k3,rfl,G2,ho2])
def Ca{C:Cmp M A E s κ ok rk}(H:wF C a b)(sa:fS rk a.toList)(sb:fS rk b.toList)(ha:0<a.size)(hb:0<b.size)(h0:rk b[0]<=rk a[0])
  {Q:Array Keyed->SortSt->Prop}{st:SortSt}(hst:kindOf st=κ)(h:∀r st',fY rk a b r->bA st st'->Q r st'):wpS M A E s (fM a b) Q st:=by
 have m0:MG rk (a.toList++b.toList) [b[0]].toArray.toList (a.toList.drop 0) (b.toList.drop 1):=by
  let m:MG rk (a.toList++b.toList) (#[]:Array Keyed).toList (a.toList.drop 0) (b.toList.drop 0):=#[by simp,List.Pairwise.nil,sa,sb,(λ_ z=>nomatch z),λ_ z=>nomatch z]
  show DV m ha hb h0
 rw[Cr];show wpS_bind (Ax ?_);show wpS_bind (Ab hb ?_);by_cases h1:1=b.size
 .rw[qZ (by rw[h1];show beq_self_eq_true _)];show wpS_pure (h _ _ (EH m0 h1) #[rfl,rfl,rfl,rfl])
 rw[q4 ↑h1];by_cases h2:0+1=a.size
 .rw[qZ (by rw[h2];show beq_self_eq_true _)];show wpS_pure (h _ _ (EG m0 h2 H.hl) #[rfl,rfl,rfl,rfl])
 rw[q4 ↑h2];show wpS_bind (wpS_get ?_);refine wpS_bind (wpS_mono (wpS_forRange (I:=λx c st'=>c.1=none/\bA st st'/\Go rk a b c.2.1 c.2.2.1 c.2.2.2.1/\x<c.2.1.size)
  (Q:=λc st'=>bA st st'/\∃r,c.1=some r/\fY rk a b r) ?step ?fin #[rfl,#[rfl,rfl,rfl,rfl],#[m0,∅,∅],by simp]) ?post)
 case fin=>rintro⟨r,o,i,j,g⟩ st' ⟨_,_,G,hx⟩;let h1:=G.m.perm.length_eq;simp at h1 hx h2;lia
 case post=>rintro⟨q,o,i,j,g⟩ st' ⟨ks,r,e,hr⟩;cases e;show wpS_pure (h r st' hr ks)
 case step=>
  rintro x ⟨q,o,i,j,g⟩ st' _ hx ⟨_,ks,G,ho⟩;show wpS_mono (FJ H hst ks G ∅ q) λr st2⟨k,z⟩=>?_;cases r with
  |done c=>show#[k,z]
  |yield c=>show#[z.1,k,z.2.1,lt_of_le_of_lt ho z.2.2]
end
def fO:Array Keyed->Array Keyed->StateT SortSt Sem (Array Keyed):=sortPriv%PySem.Builtin.mergeHi
def mO(a b o:Array Keyed)(i j:Nat):Array Keyed:=a.extract 0 i++b.extract 0 j++o.reverse
def vK(a b o:Array Keyed)(i j:Nat):Array Keyed:=b.extract 0 j++a.extract 0 i++o.reverse
abbrev Mh:=Nat×Nat×Array Keyed×Nat×Nat×Nat
def gj(a b:Array Keyed)(g c d i j:Nat)(o:Array Keyed):StateT SortSt Sem (LS Mh):=do
 let x<-elem' a (i-1)
 if i-1==0 then return .done (some (mO a b (o.push x) (i-1) j),i-1,j,o.push x,g,c,d)
 if c<7&&d<7 then return .done (none,i-1,j,o.push x,g,c,d)
 return .yield (none,i-1,j,o.push x,g,c,d)
def yD(a b:Array Keyed)(g c d j i:Nat)(o:Array Keyed):StateT SortSt Sem (LS Mh):=do
 let x<-elem' b (j-1)
 if j-1==1 then return .done (some (vK a b (o.push x) i (j-1)),i,j-1,o.push x,g,c,d)
 match<-cT true (<-elem' a (i-1)) b 0 (j-1) (j-1-1)with
 |some p=>
  if j-1-p>0 then
   if p==1 then return .done (some (vK a b (o.push x++(b.extract p (j-1)).reverse) i p),i,p,o.push x++(b.extract p (j-1)).reverse,g,c,j-1-p)
   if p==0 then return .done (some (mO a b (o.push x++(b.extract p (j-1)).reverse) i p),i,p,o.push x++(b.extract p (j-1)).reverse,g,c,j-1-p)
   gj a b g c (j-1-p) i p (o.push x++(b.extract p (j-1)).reverse)
  else gj a b g c (j-1-p) i (j-1) (o.push x)
 |_=>return .done (some (mO a b (o.push x) i (j-1)),i,j-1,o.push x,g,c,d)
def aj(a b:Array Keyed)(i j:Nat)(o:Array Keyed)(c d g:Nat):StateT SortSt Sem (LS Mh):=do
 fJ g
 match<-cT false (<-elem' b (j-1)) a 0 i (i-1)with
 |some p=>
  if i-p>0 then
   if p==0 then return .done (some (mO a b (o++(a.extract p i).reverse) p j),p,j,o++(a.extract p i).reverse,g,i-p,d)
   yD a b g (i-p) d j p (o++(a.extract p i).reverse)
  else yD a b g (i-p) d j i o
 |_=>return .done (some (mO a b o i j),i,j,o,g,c,d)
def ji(a b:Array Keyed)(g:Nat)(s:Option (Array Keyed)×Nat×Nat×Array Keyed×Nat×Nat):StateT SortSt Sem (LS (Nat×Nat×Array Keyed×Nat×Nat)):=do
 match<-lt' (<-elem' b (s.2.2.1-1)) (<-elem' a (s.2.1-1))with
 |some y=>
  if y then
   let x<-elem' a (s.2.1-1)
   if s.2.1-1==0 then return .done (some (mO a b (s.2.2.2.1.push x) (s.2.1-1) s.2.2.1),s.2.1-1,s.2.2.1,s.2.2.2.1.push x,s.2.2.2.2.1+1,0)
   if s.2.2.2.2.1+1≥g then return .done (none,s.2.1-1,s.2.2.1,s.2.2.2.1.push x,s.2.2.2.2.1+1,0)
   return .yield (none,s.2.1-1,s.2.2.1,s.2.2.2.1.push x,s.2.2.2.2.1+1,0)
  else
   let x<-elem' b (s.2.2.1-1)
   if s.2.2.1-1==1 then return .done (some (vK a b (s.2.2.2.1.push x) s.2.1 (s.2.2.1-1)),s.2.1,s.2.2.1-1,s.2.2.2.1.push x,0,s.2.2.2.2.2+1)
   if s.2.2.2.2.2+1≥g then return .done (none,s.2.1,s.2.2.1-1,s.2.2.2.1.push x,0,s.2.2.2.2.2+1)
   return .yield (none,s.2.1,s.2.2.1-1,s.2.2.2.1.push x,0,s.2.2.2.2.2+1)
 |_=>return .done (some (mO a b s.2.2.2.1 s.2.1 s.2.2.1),s.2.1,s.2.2.1,s.2.2.2.1,s.2.2.2.2.1,s.2.2.2.2.2)
def ai(a b:Array Keyed)(s:Option (Array Keyed)×Mh):StateT SortSt Sem (LS Mh):=aj a b s.2.1 s.2.2.1 s.2.2.2.1 s.2.2.2.2.2.1 s.2.2.2.2.2.2 (if s.2.2.2.2.1>1 then s.2.2.2.2.1-1 else s.2.2.2.2.1)
def gh(a b:Array Keyed)(t:Nat)(s:Option (Array Keyed)×Nat×Nat×Array Keyed×Nat):StateT SortSt Sem (LS (Nat×Nat×Array Keyed×Nat)):=
 (forIn [:t] (none,s.2.1,s.2.2.1,s.2.2.2.1,0,0) λ_=>ji a b s.2.2.2.2)>>=λr=>Break.runK.match_1 (λ_=>StateT SortSt Sem (LS (Nat×Nat×Array Keyed×Nat))) r.1 (λx=>pure (.done (some x,r.2.1,r.2.2.1,r.2.2.2.1,s.2.2.2.2))) λ_=>do
  rule "list.sort.gallop"
  (forIn [:t] (none,r.2.1,r.2.2.1,r.2.2.2.1,s.2.2.2.2+1,r.2.2.2.2) λ_=>ai a b)>>=λq=>Break.runK.match_1 (λ_=>StateT SortSt Sem (LS (Nat×Nat×Array Keyed×Nat))) q.1 (λx=>pure (.done (some x,q.2.1,q.2.2.1,q.2.2.2.1,q.2.2.2.2.1))) λ_=>do
   fJ (q.2.2.2.2.1+1)
   return .yield (none,q.2.1,q.2.2.1,q.2.2.2.1,q.2.2.2.2.1+1)
def Cs(a b:Array Keyed):fO a b=(do
 rule "list.sort.merge-hi"
 let x<-elem' a (a.size-1)
 if a.size-1==0 then return mO a b [x].toArray (a.size-1) b.size
 if b.size==1 then return vK a b [x].toArray (a.size-1) b.size
 let s<-get
 (forIn [:a.size+b.size] (none,a.size-1,b.size,[x].toArray,gallopOf s) λ_=>gh a b (a.size+b.size))>>=λr=>Break.runK.match_1 (λ_=>StateT SortSt Sem (Array Keyed)) r.1 (λr=>pure r) λ_=>unsupported "internal:list.sort.merge-bound"):=by
 let e:∀(s:Option (Array Keyed)×Mh),ai a b s=(if s.2.2.2.2.1>1 then aj a b s.2.1 s.2.2.1 s.2.2.2.1 s.2.2.2.2.2.1 s.2.2.2.2.2.2 (s.2.2.2.2.1-1)else aj a b s.2.1 s.2.2.1 s.2.2.2.1 s.2.2.2.2.2.1 s.2.2.2.2.2.2 s.2.2.2.2.1):=λs=>by unfold ai;by_cases hg:s.2.2.2.2.1>1<;>simp[hg,if_true,if_false]
 unfold gh;rw[show ai a b=_ from funext e];rfl
def ng(rk:Keyed->Int)(x:Keyed):Int:=-rk x
@[inline]def MH(rk:Keyed->Int)(a b o:Array Keyed)(i j:Nat):Prop:=MG (ng rk) (a.toList++b.toList) o.toList (a.toList.take i).reverse (b.toList.take j).reverse
def Ah{α:Type}{a:Array α}{i:Nat}(v:0<i)(h:i<=a.size):(a.toList.take i).reverse=a[i-1]::(a.toList.take (i-1)).reverse:=by
 obtain⟨m,rfl⟩:∃m,i=m+1:=#[i-1,∅]
 rw[List.take_succ_eq_append_getElem (by simp;lia -verbose)];simp
def BO{l:List Keyed}(h:fS (ng rk) l):fS rk l.reverse:=by unfold fS at*;rw[List.pairwise_reverse];show h.imp λ{x y} z=>by unfold ng at z;lia
def Df(m:MH rk a b o i j)(h:i=0):fY rk a b (mO a b o i j):=by
 let#[p,q]:=MG.end m λx z y v=>by subst h;simp at v
 let e:(mO a b o i j).toList=(o.toList++(b.toList.take j).reverse++(a.toList.take i).reverse).reverse:=by unfold mO;simp
 unfold fY;rw[e];show#[(reverse_perm _).trans p,BO q]
def De(m:MH rk a b o i j)(B:0<b.size)(h:j=1)(F:∀x∈a.toList,rk b[0]<rk x):fY rk a b (vK a b o i j):=by
 obtain⟨p,q⟩:=MG.end (MG.swap m) λx z y v=>by
  subst h;rw[Ah ⋯ B]at v;obtain rfl:y=b[0]:=↑v
  let:=F x (mem_of_mem_take (List.mem_reverse.mp z));unfold ng;lia
 let e:(vK a b o i j).toList=(o.toList++(a.toList.take i).reverse++(b.toList.take j).reverse).reverse:=by unfold vK;simp
 unfold fY;rw[e];show#[(reverse_perm _).trans p,BO q]
def CN(m:MH rk a b o i j)(F:0<i)(hi:i<=a.size)(z:0<j)(B:j<=b.size)(h:rk b[j-1]<=rk a[i-1]):MH rk a b (o.push a[i-1]) (i-1) j:=by unfold MH at*;let v:=m.sb;rw[Ah z B]at v;rw[Ah F hi]at m;rw[toList_push];show MG.takeA (p:=[a[i-1]]) m λx G=>?_;rw[qu.mp G,Ah z B];show AF (by unfold ng;lia) v
def Ej(m:MH rk a b o i j)(z:0<i)(hi:i<=a.size)(B:0<j)(G:j<=b.size)(h:rk a[i-1]<=rk b[j-1]):MH rk a b (o.push b[j-1]) i (j-1):=by unfold MH at*;let v:=m.sa;rw[Ah z hi]at v;rw[Ah B G]at m;rw[toList_push];show MG.takeB (p:=[b[j-1]]) m λx F=>?_;rw[qu.mp F,Ah z hi];show AF (by unfold ng;lia) v
def BI{α:Type}{a:Array α}{p i:Nat}(v:p<=i):(a.toList.take i).reverse=(a.extract p i).reverse.toList++(a.toList.take p).reverse:=by
 let:a.toList.take i=a.toList.take p++(a.toList.drop p).take (i-p):=by rw[<-List.take_add,show p+(i-p)=i by lia]
 simp_all
def CZ{a:Array Keyed}{i:Nat}(h:fS (ng rk) (a.toList.take i).reverse)(hi:i<=a.size):Up rk a 0 (0+i):=λx y h1 h2 v=>by
 rw[Ad (show x<a.size by lia),Ad (show y<a.size by lia)];by_cases e:x=y
 .subst e;show Int.le_refl _
 .let:=pairwise_iff_getElem.mp (BO h) x y (by simp;lia -verbose) (by simp;lia -verbose) ∅;simpa using this
def Bm{left:Bool}{a:Array Keyed}{p i:Nat}{key:Keyed}{l:List Keyed}(F:kX rk left key a 0 i p p)(hi:i<=a.size)(hs:fS (ng rk) (key::l)):Below (ng rk) (a.extract p i).reverse.toList (key::l):=λx B=>by
 let v:x∈(a.toList.drop p).take (i-p):=by simpa[extract_eq_take_drop] using B
 let#[y,z,rfl]:=List.mem_iff_getElem.mp v;rw[qG,qF]at z;let h1:=F.2.2.2 (p+y) ∅ ∅;unfold dM at h1;rw[zero_add,Ad (show p+y<a.size by lia)]at h1;show AF ?_ hs;simp;unfold ng;cases left<;>simp at h1<;>lia
def BR{left:Bool}{key:Keyed}{v:Array Keyed}{p n:Nat}(z:kX rk left key v 0 n p p)(B:0<p)(hn:n<=v.size):rk (v[p-1]'(by let:=z.2.1;lia))<=rk key:=by let F:=z.2.1;let:=z.2.2.1 (p-1) ∅;unfold dM at this;rw[zero_add,Ad (show p-1<v.size by lia)]at this;cases left<;>simp at this<;>lia
def EM(m:MH rk a b o i j)(hi:i<=a.size)(z:0<j)(B:j<=b.size){p:Nat}(F:kX rk false b[j-1] a 0 i p p):MH rk a b (o++(a.extract p i).reverse) p j:=by unfold MH at*;let v:=m.sb;rw[Ah z B]at v;rw[BI F.2.1]at m;rw[toList_append];show MG.takeA m ?_;rw[Ah z B];show Bm F hi v
def EL(m:MH rk a b o i j)(z:0<i)(hi:i<=a.size)(F:j<=b.size){p:Nat}(B:kX rk true a[i-1] b 0 j p p):MH rk a b (o++(b.extract p j).reverse) i p:=by unfold MH at*;let v:=m.sa;rw[Ah z hi]at v;rw[BI B.2.1]at m;rw[toList_append];show MG.takeB m ?_;rw[Ah z hi];show Bm B F v
structure Gh(rk:Keyed->Int)(a b o:Array Keyed)(i j:Nat):Prop where
 m:MH rk a b o i j
 i0:0<i
 i:i<=a.size
 j0:1<j
 j:j<=b.size
def gJ{α:Type}(rk:Keyed->Int)(a b:Array Keyed)(n:Nat)(r:ForInStep (Option (Array Keyed)×Nat×Nat×Array Keyed×α)):Prop:=match r with
 |.done (some r,_)=>fY rk a b r
 |.done (none,i,j,o,_)=>Gh rk a b o i j/\n<o.size
 |.yield (q,i,j,o,_)=>q=none/\Gh rk a b o i j/\n<o.size
structure wG(C:Cmp M A E s κ ok rk)(a b:Array Keyed):Prop where
 oa:∀i(h:i<a.size),ok a[i]
 ob:∀i(h:i<b.size),ok b[i]
 b0:0<b.size
 h0:∀x∈a.toList,rk b[0]<rk x
def FP{C:Cmp M A E s κ ok rk}(H:wG C a b){st:SortSt}(J:kindOf st=κ)(G:Gh rk a b o i j)(r:Option (Array Keyed)):wpS M A E s (ji a b g (r,i,j,o,c,d)) (λr B=>B=st/\gJ rk a b o.size r) st:=by
 let#[m,F,hi,O,L]:=G;show wpS_bind (Ab (show j-1<b.size by lia) ?_);show wpS_bind (Ab (show i-1<a.size by lia) ?_);show wpS_bind (C.lt _ _ _ _ J (H.ob _ _) (H.oa _ _) ?_);by_cases v:rk b[j-1]<rk a[i-1]
 .rw[qQ v];show wpS_bind (Ab (show i-1<a.size by lia) ?_);let m:=CN m F hi ∅ L (Int.le_of_lt v);let sz:o.size<(o.push a[i-1]).size:=by simp
  by_cases h1:i-1=0
  .rw[qZ (by simp[h1])];show wpS_pure #[rfl,Df m h1]
  .rw[q4 ↑h1];let z:Gh rk a b (o.push a[i-1]) (i-1) j:=#[m,∅,∅,O,L]
   split
   .show wpS_pure #[rfl,z,sz]
   .show wpS_pure #[rfl,rfl,z,sz]
 .rw[qR v];show wpS_bind (Ab (show j-1<b.size by lia) ?_);let m:=Ej m F hi ∅ L ∅;let sz:o.size<(o.push b[j-1]).size:=by simp
  by_cases h1:j-1=1
  .rw[qZ (by simp[h1])];show wpS_pure #[rfl,De m H.b0 h1 H.h0]
  .rw[q4 ↑h1];let z:Gh rk a b (o.push b[j-1]) i (j-1):=#[m,F,hi,∅,∅]
   split
   .show wpS_pure #[rfl,z,sz]
   .show wpS_pure #[rfl,rfl,z,sz]
def Ek{C:Cmp M A E s κ ok rk}(H:wG C a b){st:SortSt}(m:MH rk a b o i j)(G:0<i)(hi:i<=a.size)(F:1<j)(z:j<=b.size)(h:rk b[j-1]<=rk a[i-1])(hn:n<=o.size):wpS M A E s (gj a b g c d i j o) (λr v=>v=st/\gJ rk a b n r) st:=by
 show wpS_bind (Ab (show i-1<a.size by lia) ?_);let m:=CN m G hi ∅ z h;let sz:n<(o.push a[i-1]).size:=by simp;lia
 by_cases h1:i-1=0
 .rw[qZ (by simp[h1])];show wpS_pure #[rfl,Df m h1]
 .rw[q4 ↑h1];let B:Gh rk a b (o.push a[i-1]) (i-1) j:=#[m,∅,∅,F,z]
  split
  .show wpS_pure #[rfl,B,sz]
  .show wpS_pure #[rfl,rfl,B,sz]
def El{C:Cmp M A E s κ ok rk}(H:wG C a b){st:SortSt}(G:kindOf st=κ)(m:MH rk a b o i j)(v:0<i)(hi:i<=a.size)(j0:1<j)(Y:j<=b.size)(h:rk a[i-1]<=rk b[j-1])(hn:n<=o.size):wpS M A E s (yD a b g c d j i o) (λr F=>F=st/\gJ rk a b n r) st:=by
 show wpS_bind (Ab (show j-1<b.size by lia) ?_);let m:=Ej m v hi ∅ Y h;let sz:n<=(o.push b[j-1]).size:=by simp;lia
 by_cases h1:j-1=1
 .rw[qZ (by simp[h1])];show wpS_pure #[rfl,De m H.b0 h1 H.h0]
 .rw[q4 ↑h1];show wpS_bind (Ab (show i-1<a.size by lia) ?_);show wpS_bind (Aq C (H.oa _ _) H.ob ∅ ∅ (CZ m.sb ∅) G λp B=>?_);let hp:=B.2.1;let O:0<p:=by
   rcases Nat.eq_zero_or_pos p with z|z
   .let h2:=B.2.2.2 0 ∅ ∅;let h3:=H.h0 a[i-1] (by simp);unfold dM at h2;rw[Ad (show 0+0<b.size by lia)]at h2;lia
   .show z
  let L:=BR B O ∅;by_cases J:j-1-p>0
  .simp only[J,if_true];let m2:=EL m v hi ∅ B;by_cases h2:p=1
   .rw[qZ (by simp[h2])];show wpS_pure #[rfl,De m2 H.b0 h2 H.h0]
   .rw[q4 ↑h2,q4 (by simp;lia -verbose)];show Ek H m2 v hi ∅ ∅ L (by simp;lia -verbose)
  .simp only[J];obtain rfl:p=j-1:=by lia
   show Ek H m v hi ∅ ∅ L sz
def FO{C:Cmp M A E s κ ok rk}(H:wG C a b){st:SortSt}(B:kindOf st=κ)(G:Gh rk a b o i j):wpS M A E s (aj a b i j o c d g) (λr v=>bA st v/\gJ rk a b o.size r) st:=by
 let#[m,Y,hi,O,J]:=G;show wpS_bind (AG λh2 ks=>?_);show wpS_bind (Ab (show j-1<b.size by lia) ?_);show wpS_bind (Aq C (H.ob _ _) H.oa ∅ ∅ (CZ m.sa hi) (ks.1.trans B) λp F=>?_);let hp:=F.2.1;by_cases L:i-p>0
 .simp[L,if_true];let m2:=EM m hi ∅ J F;by_cases h1:p=0
  .rw[qZ (by simp[h1])];show wpS_pure #[ks,Df m2 h1]
  .rw[q4 ↑h1];show wpS_mono (El (n:=o.size) H (ks.1.trans B) m2 ∅ ∅ O J (BR F ∅ hi) (by simp)) λr v z=>#[z.1▸ks,z.2]
 .simp only[L];obtain rfl:p=i:=by lia
  show wpS_mono (El (n:=o.size) H (ks.1.trans B) m Y hi O J (BR F Y hi) (q5 _)) λr v z=>#[z.1▸ks,z.2]
def yR{α:Type}(rk:Keyed->Int)(a b:Array Keyed)(n:Nat)(r:ForInStep (Option (Array Keyed)×Nat×Nat×Array Keyed×α)):Prop:=match r with
 |.done c=>∃r,c.1=some r/\fY rk a b r
 |.yield c=>c.1=none/\Gh rk a b c.2.2.2.1 c.2.1 c.2.2.1/\n<c.2.2.2.1.size
def FN{C:Cmp M A E s κ ok rk}(H:wG C a b){st st':SortSt}(hst:kindOf st=κ)(ks:bA st st')(G:Gh rk a b o i j)(ht:0<t)(q:Option (Array Keyed)):wpS M A E s (gh a b t (q,i,j,o,g)) (λr st'=>bA st st'/\yR rk a b o.size r) st':=by
 refine wpS_bind (wpS_mono (wpS_forRange (I:=λ_ c st1=>c.1=none/\st1=st'/\Gh rk a b c.2.2.2.1 c.2.1 c.2.2.1/\o.size<=c.2.2.2.1.size)
  (Q:=λc st1=>st1=st'/\((∃r,c.1=some r/\fY rk a b r)\/c.1=none/\Gh rk a b c.2.2.2.1 c.2.1 c.2.2.1/\o.size<=c.2.2.2.1.size)) ?step1 (λc st1⟨h1,h2,h3,h4⟩=>#[h2,.inr #[h1,h3,h4]]) #[rfl,rfl,G,q5 _]) ?post1)
 case step1=>
  rintro y ⟨q,i1,j1,o1,c1,d1⟩ st1 _ _ ⟨_,rfl,G1,ho1⟩;show wpS_mono (FP (g:=g) (c:=c1) (d:=d1) H (ks.1.trans hst) G1 q) λr st2⟨e,z⟩=>?_;subst e;unfold gJ at z;split at z
  .show#[rfl,.inl #[_,rfl,z]]
  .show#[rfl,.inr #[rfl,z.1,le_of_lt (lt_of_le_of_lt ho1 z.2)]]
  .show#[z.1,rfl,z.2.1,le_of_lt (lt_of_le_of_lt ho1 z.2.2)]
 rintro⟨q,i1,j1,o1,c1,d1⟩ st1 ⟨rfl,⟨r,hq,hr⟩|⟨hq,G1,ho1⟩⟩
 .cases hq;show wpS_pure #[ks,r,rfl,hr]
 cases hq;show wpS_bind (Ax ?_);refine wpS_bind (wpS_mono (wpS_forRange (I:=λy c st2=>c.1=none/\bA st st2/\Gh rk a b c.2.2.2.1 c.2.1 c.2.2.1/\o.size<=c.2.2.2.1.size/\(0<y->o.size<c.2.2.2.1.size))
  (Q:=λc st2=>bA st st2/\((∃r,c.1=some r/\fY rk a b r)\/c.1=none/\Gh rk a b c.2.2.2.1 c.2.1 c.2.2.1/\o.size<c.2.2.2.1.size)) ?step2 (λc st2⟨h1,h2,h3,_,h5⟩=>#[h2,.inr #[h1,h3,h5 ∅]]) #[rfl,ks,G1,ho1,λz=>absurd z (lt_irrefl 0)]) ?post2)
 case step2=>
  rintro y ⟨q,i2,j2,o2,g2,c2,d2⟩ st2 _ _ ⟨_,k2,G2,ho2,_⟩;show wpS_mono (FO (c:=c2) (d:=d2) H (k2.1.trans hst) G2) λr st3⟨k3,z⟩=>?_;let k3:=k2.trans k3;unfold gJ at z;split at z
  .show#[k3,.inl #[_,rfl,z]]
  .show#[k3,.inr #[rfl,z.1,lt_of_le_of_lt ho2 z.2]]
  .show#[z.1,k3,z.2.1,le_of_lt (lt_of_le_of_lt ho2 z.2.2),λ_=>lt_of_le_of_lt ho2 z.2.2]
 rintro⟨q,i2,j2,o2,g2,c2,d2⟩ st2 ⟨k2,⟨r,hq,hr⟩|⟨hq,G2,ho2⟩⟩
 .cases hq;show wpS_pure #[k2,r,rfl,hr]
 cases hq;show wpS_bind (AG λst3 k3=>wpS_pure #[k2.trans k3,rfl,G2,ho2])
def Cb{C:Cmp M A E s κ ok rk}(H:wG C a b)(sa:fS rk a.toList)(sb:fS rk b.toList)(ha:0<a.size)(hl:∀y∈b.toList,rk y<=rk (a[a.size-1]))
  {Q:Array Keyed->SortSt->Prop}{st:SortSt}(hst:kindOf st=κ)(h:∀r st',fY rk a b r->bA st st'->Q r st'):wpS M A E s (fO a b) Q st:=by
 let b0:=H.b0;let dual:∀{l:List Keyed},fS rk l->fS (ng rk) l.reverse:=λ{l} z=>by unfold fS at*;rw[List.pairwise_reverse];show z.imp λ{x y} z=>by unfold ng;lia
 have m0:MH rk a b [a[a.size-1]].toArray (a.size-1) b.size:=by
  let ta:∀a:Array Keyed,a.toList.take a.size=a.toList:=λa=>take_of_length_le (by simp);let m:MH rk a b #[] a.size b.size:=by unfold MH;rw[ta,ta];show#[by rw[nil_append];show List.Perm.append (reverse_perm _) (reverse_perm _),List.Pairwise.nil,dual sa,dual sb,(λ_ z=>nomatch z),λ_ z=>nomatch z]
  show CN m ha (q5 _) b0 (q5 _) (hl _ (by simp))
 rw[Cs];show wpS_bind (Ax ?_);show wpS_bind (Ab (show a.size-1<a.size by lia) ?_);by_cases h1:a.size-1=0
 .rw[qZ (by simp[h1])];show wpS_pure (h _ _ (Df m0 h1) #[rfl,rfl,rfl,rfl])
 rw[q4 ↑h1];by_cases h2:b.size=1
 .rw[qZ (by simp[h2])];show wpS_pure (h _ _ (De m0 b0 h2 H.h0) #[rfl,rfl,rfl,rfl])
 rw[q4 ↑h2];show wpS_bind (wpS_get ?_);refine wpS_bind (wpS_mono (wpS_forRange (I:=λx c st'=>c.1=none/\bA st st'/\Gh rk a b c.2.2.2.1 c.2.1 c.2.2.1/\x<c.2.2.2.1.size)
  (Q:=λc st'=>bA st st'/\∃r,c.1=some r/\fY rk a b r) ?step ?fin #[rfl,#[rfl,rfl,rfl,rfl],#[m0,∅,∅,∅,q5 _],by simp]) ?post)
 case fin=>rintro⟨r,i,j,o,g⟩ st' ⟨_,_,G,hx⟩;let h1:=G.m.perm.length_eq;let h3:=G.i;simp at h1 h2 h3 hx;lia
 case post=>rintro⟨q,i,j,o,g⟩ st' ⟨ks,r,e,hr⟩;cases e;show wpS_pure (h r st' hr ks)
 case step=>
  rintro x ⟨q,i,j,o,g⟩ st' _ hx ⟨_,ks,G,ho⟩;show wpS_mono (FN H hst ks G ∅ q) λr st2⟨k,z⟩=>?_;cases r with
  |done c=>show#[k,z]
  |yield c=>show#[z.1,k,z.2.1,lt_of_le_of_lt ho z.2.2]
def lQ(lo n m:Nat):StateT SortSt Sem (Option Nat):=do
 reverseSlice' lo (lo+n)
 let u<-forIn [n:m] ((none,n):Option (Option Nat)×Nat) λ_ v=>do
  match<-ltAt' (lo+v.2) (lo+v.2-1)with
  |some y=>if y=true then pure (ForInStep.done (none,v.2))else pure (ForInStep.yield (none,v.2+1))
  |_=>pure (ForInStep.done (some none,v.2))
 Break.runK.match_1 (λ_=>StateT SortSt Sem (Option Nat)) u.1 (λr=>pure r) λ_=>pure (some u.2)
def yH(lo n m:Nat):StateT SortSt Sem (Option Nat):=do
 rule "list.sort.descending-run"
 let u<-forIn [n+1:m] ((none,n+1,0):Option (Option Nat)×Nat×Nat) λ_ v=>do
  match<-ltAt' (lo+v.2.1) (lo+v.2.1-1)with
  |some y=>
   if y=true then
    if v.2.2>0 then do
     reverseSlice' (lo+v.2.1-(v.2.2+1)) (lo+v.2.1)
     pure (ForInStep.yield (none,v.2.1+1,0))
    else pure (ForInStep.yield (none,v.2.1+1,0))
   else
    match<-ltAt' (lo+v.2.1-1) (lo+v.2.1)with
    |some z=>if z=true then pure (ForInStep.done (none,v.2.1,v.2.2))else pure (ForInStep.yield (none,v.2.1+1,v.2.2+1))
    |_=>pure (ForInStep.done (some none,v.2.1,v.2.2))
  |_=>pure (ForInStep.done (some none,v.2.1,v.2.2))
 Break.runK.match_1 (λ_=>StateT SortSt Sem (Option Nat)) u.1 (λr=>pure r) λ_=>if u.2.2>0 then reverseSlice' (lo+u.2.1-(u.2.2+1)) (lo+u.2.1)>>=λ_=>lQ lo u.2.1 m else lQ lo u.2.1 m
structure Sb(ok:Keyed->Prop)(lo:Nat)(st st':SortSt):Prop where
 perm:(arrOf st').Perm (arrOf st)
 pre:∀k,k<lo->(arrOf st')[k]?=(arrOf st)[k]?
 rest:kindOf st'=kindOf st/\pendingOf st'=pendingOf st/\failedOf st'=failedOf st
def Sb.refl{lo:Nat}{st:SortSt}:Sb ok lo st st:=#[.refl _,λ_ _=>rfl,rfl,rfl,rfl]
def Sb.size{lo:Nat}{st v:SortSt}(h:Sb ok lo st v):(arrOf v).size=(arrOf st).size:=h.perm.size_eq
def Sb.oks{lo:Nat}{st v:SortSt}(h:Sb ok lo st v)(o:∀x∈(arrOf st).toList,ok x):∀i(hi:i<(arrOf v).size),ok (arrOf v)[i]:=λi hi=>o _ ((perm_iff_toList_perm.mp h.perm).mem_iff.mp (by simp))
def AV(C:Cmp M A E s κ ok rk){st:SortSt}(v:kindOf st=κ)(o:∀i(h:i<(arrOf st).size),ok (arrOf st)[i]){i j:Nat}(hi:i<(arrOf st).size)(z:j<(arrOf st).size){Q:Option Bool->SortSt->Prop}
  (h:Q (some (decide (aQ rk (arrOf st) i<aQ rk (arrOf st) j))) st):wpS M A E s (ltAt' i j) Q st:=by
 show wpS_bind (wpS_get ?_);show wpS_bind (Ab hi ?_);show wpS_bind (Ab z ?_);rw[Ad hi,Ad z]at h;show C.lt _ _ _ _ v (o _ _) (o _ _) h
def Du{xs:Array Keyed}{i j:Nat}(v:j<=xs.size)(k:Nat):aQ rk (mirror xs i j ((j-i)/2)) k=if i<=k/\k<j then aQ rk xs (i+j-1-k)else aQ rk xs k:=by unfold aQ;rw[getElem?_mirror_all v];split<;>rfl
def Bg{lo i j:Nat}{st v:SortSt}(h:Sb ok lo st v)(hi:lo<=i)(B:j<=(arrOf st).size){Q:Unit->SortSt->Prop}
  (G:∀z,Sb ok lo st z->(∀k,aQ rk (arrOf z) k=if i<=k/\k<j then aQ rk (arrOf v) (i+j-1-k)else aQ rk (arrOf v) k)->Q () z):wpS M A E s (reverseSlice' i j) Q v:=by
 rw[reverseSlice'_eq];show wpS_modify (G _ #[(mirror_perm _ _ _ _).trans h.perm,λk F=>?_,h.rest] λk=>Du (by rw[h.size];show B) k);rw[getElem?_mirror_all (by rw[h.size];show B),q4 ∅];show h.pre k F
@[inline]def Dn(rk:Keyed->Int)(xs:Array Keyed)(lo hi:Nat):Prop:=∀i j,lo<=i->i<=j->j<hi->aQ rk xs j<=aQ rk xs i
def Da{xs:Array Keyed}{lo x:Nat}(G:1<=x)(v:Up rk xs lo (lo+x))(J:¬aQ rk xs (lo+x)<aQ rk xs (lo+x-1)):Up rk xs lo (lo+(x+1)):=λy z h1 h2 L=>by
 by_cases B:z<lo+x
 .show v y z h1 h2 B
 .obtain rfl:z=lo+x:=by lia
  by_cases F:y=lo+x
  .rw[F];show Int.le_refl _
  .let:=v y (lo+x-1) h1 ∅ ∅;lia
def Bj{xs:Array Keyed}{lo x:Nat}(G:1<=x)(v:Dn rk xs lo (lo+x))(J:aQ rk xs (lo+x)<=aQ rk xs (lo+x-1)):Dn rk xs lo (lo+(x+1)):=λy z h1 h2 L=>by
 by_cases B:z<lo+x
 .show v y z h1 h2 B
 .obtain rfl:z=lo+x:=by lia
  by_cases F:y=lo+x
  .rw[F];show Int.le_refl _
  .let:=v y (lo+x-1) h1 ∅ ∅;lia
def Dc(C:Cmp M A E s κ ok rk){lo n m:Nat}{st st':SortSt}(hst:kindOf st=κ)(o:∀x∈(arrOf st).toList,ok x)(n1:1<=n)(nm:n<=m)(hs:lo+m=(arrOf st).size)(hb:Sb ok lo st st')(hd:Dn rk (arrOf st') lo (lo+n)){Q:Option Nat->SortSt->Prop}
  (h:∀n st',1<=n->n<=m->Sb ok lo st st'->Up rk (arrOf st') lo (lo+n)->Q (some n) st'):wpS M A E s (lQ lo n m) Q st':=by
 show wpS_bind (Bg (rk:=rk) hb (q5 _) ∅ λst2 hb2 hr=>?_);let hu:Up rk (arrOf st2) lo (lo+n):=λx y h1 h2 h3=>by rw[hr,hr,qZ #[h1,∅],qZ #[∅,h3]];show hd _ _ ∅ ∅ ∅
 refine wpS_bind (wpS_mono (wpS_forRange (I:=λx c st'=>st'=st2/\c=(none,x)/\Up rk (arrOf st2) lo (lo+x))
  (Q:=λc st'=>st'=st2/\∃k,c=(none,k)/\1<=k/\k<=m/\Up rk (arrOf st2) lo (lo+k)) ?step ?fin #[rfl,rfl,hu]) ?post)
 case fin=>rintro c st' ⟨rfl,rfl,hu⟩;rw[show max n m=m by lia]at hu⊢;show#[rfl,m,rfl,∅,q5 _,hu]
 case step=>
  rintro x c st' hx1 hx ⟨rfl,rfl,hu⟩;let sz:=hb2.size;show wpS_bind (AV C (hb2.rest.1.trans hst) (hb2.oks o) (by simp only;lia) (by simp only;lia) ?_);by_cases hl:aQ rk (arrOf st') (lo+x)<aQ rk (arrOf st') (lo+x-1)
  .rw[qQ hl];show wpS_pure #[rfl,x,rfl,∅,∅,hu]
  .rw[qR hl];show wpS_pure #[rfl,rfl,Da ∅ hu hl]
 case post=>rintro c st' ⟨rfl,k,rfl,k1,km,hu⟩;show wpS_pure (h k st' k1 km hb2 hu)
def Bp{xs ys:Array Keyed}{i j:Nat}(v:∀k,i<=k->k<j->aQ rk xs k=aQ rk xs (j-1))(z:∀k,aQ rk ys k=if i<=k/\k<j then aQ rk xs (i+j-1-k)else aQ rk xs k)(k:Nat):aQ rk ys k=aQ rk xs k:=by
 rw[z];split
 .rw[v _ ∅ ∅,v k ∅ ∅]
 .rfl
def Dl(C:Cmp M A E s κ ok rk){lo n m:Nat}{st st':SortSt}(hst:kindOf st=κ)(o:∀x∈(arrOf st).toList,ok x)(n1:1<=n)(nm:n<m)(hs:lo+m=(arrOf st).size)(hb:Sb ok lo st st')(hd:Dn rk (arrOf st') lo (lo+(n+1))){Q:Option Nat->SortSt->Prop}
  (h:∀n st',1<=n->n<=m->Sb ok lo st st'->Up rk (arrOf st') lo (lo+n)->Q (some n) st'):wpS M A E s (yH lo n m) Q st':=by
 refine wpS_bind (Ax ?_);refine wpS_bind (wpS_mono (wpS_forRange (I:=λx c st2=>∃q,c=(none,x,q)/\Sb ok lo st st2/\Dn rk (arrOf st2) lo (lo+x)/\q+1<=x/\∀k,lo+x-(q+1)<=k->k<lo+x->aQ rk (arrOf st2) k=aQ rk (arrOf st2) (lo+x-1))
  (Q:=λc st2=>∃x q,c=(none,x,q)/\n+1<=x/\x<=m/\Sb ok lo st st2/\Dn rk (arrOf st2) lo (lo+x)/\q+1<=x/\∀k,lo+x-(q+1)<=k->k<lo+x->aQ rk (arrOf st2) k=aQ rk (arrOf st2) (lo+x-1)) ?step ?fin #[0,rfl,hb,hd,∅,λk h1 h2=>by rw[show k=lo+(n+1)-1 by lia]]) ?post)
 case fin=>rintro c st2 ⟨q,rfl,hb,hd,hq,he⟩;rw[show max (n+1) m=m by lia]at hd hq he⊢;show#[m,q,rfl,nm,q5 _,hb,hd,hq,he]
 case step=>
  rintro x c st2 hx1 hx ⟨q,rfl,hb,hd,hq,he⟩;let sz:=hb.size;let hst2:=hb.rest.1.trans hst;show wpS_bind (AV C hst2 (hb.oks o) (by simp only;lia) (by simp only;lia) ?_);by_cases hl:aQ rk (arrOf st2) (lo+x)<aQ rk (arrOf st2) (lo+x-1)
  .rw[qQ hl];let hd2:=Bj ∅ hd (Int.le_of_lt hl);by_cases q0:q>0
   .rw[qZ q0];show wpS_bind (Bg (rk:=rk) hb ∅ ∅ λst3 hb3 hr=>?_);let er:=Bp he hr;show wpS_pure #[0,rfl,hb3,λy z h1 h2 h3=>by rw[er,er];show hd2 y z h1 h2 h3,∅,λk h1 h2=>by rw[show k=lo+(x+1)-1 by lia]]
   .rw[q4 q0];show wpS_pure #[0,rfl,hb,hd2,∅,λk h1 h2=>by rw[show k=lo+(x+1)-1 by lia]]
  .rw[qR hl];show wpS_bind (AV C hst2 (hb.oks o) ∅ ∅ ?_);by_cases hg:aQ rk (arrOf st2) (lo+x-1)<aQ rk (arrOf st2) (lo+x)
   .rw[qQ hg];show wpS_pure #[x,q,rfl,hx1,∅,hb,hd,hq,he]
   .rw[qR hg];show wpS_pure #[q+1,rfl,hb,Bj ∅ hd ∅,∅,λk h1 h2=>?_];rw[show lo+(x+1)-1=lo+x by lia];by_cases hk:k=lo+x
    .rw[hk]
    .rw[he k ∅ ∅];lia
 case post=>
  rintro c st2 ⟨x,q,rfl,hx1,hx,hb,hd,hq,he⟩;by_cases q0:q>0
  .rw[qZ q0];show wpS_bind (Bg (rk:=rk) hb ∅ ∅ λst3 hb3 hr=>?_);let er:=Bp he hr;show Dc C hst o ∅ hx hs hb3 (λy z h1 h2 h3=>by rw[er,er];show hd y z h1 h2 h3) h
  .rw[q4 q0];show Dc C hst o ∅ hx hs hb hd h
def BC(C:Cmp M A E s κ ok rk){lo m:Nat}{st:SortSt}(hst:kindOf st=κ)(o:∀x∈(arrOf st).toList,ok x)(hm:0<m)(hs:lo+m=(arrOf st).size){Q:Option Nat->SortSt->Prop}
  (h:∀n st',1<=n->n<=m->Sb ok lo st st'->Up rk (arrOf st') lo (lo+n)->Q (some n) st'):wpS M A E s (countRun' lo m) Q st:=by
 have up1:∀xs:Array Keyed,Up rk xs lo (lo+1):=λxs x y h1 h2 h3=>by
  obtain rfl:x=y:=∅
  show Int.le_refl _
 refine wpS_bind (wpS_mono (wpS_forRange (I:=λx c st'=>st'=st/\c=(none,x)/\Up rk (arrOf st) lo (lo+x))
  (Q:=λc st'=>st'=st/\∃n,c=(none,n)/\1<=n/\n<=m/\Up rk (arrOf st) lo (lo+n)/\(n=m\/aQ rk (arrOf st) (lo+n)<aQ rk (arrOf st) (lo+n-1))) ?step ?fin #[rfl,rfl,up1 _]) ?post)
 case fin=>rintro c st' ⟨rfl,rfl,hu⟩;rw[show max 1 m=m by lia]at hu⊢;show#[rfl,m,rfl,hm,q5 _,hu,.inl rfl]
 case step=>
  rintro x c st' hx1 hx ⟨rfl,rfl,hu⟩;show wpS_bind (AV C hst (Sb.refl.oks (lo:=lo) o) (by simp only;lia) (by simp only;lia) ?_);by_cases hl:aQ rk (arrOf st') (lo+x)<aQ rk (arrOf st') (lo+x-1)
  .rw[qQ hl];show wpS_pure #[rfl,x,rfl,hx1,∅,hu,.inr hl]
  .rw[qR hl];show wpS_pure #[rfl,rfl,Da hx1 hu hl]
 case post=>
  rintro c st' ⟨rfl,n,rfl,n1,nm,hu,he⟩;simp only;by_cases e:n=m
  .rw[qZ (by simp[e])];show wpS_pure (h n st' n1 nm Sb.refl hu)
  .rw[q4 ↑e];let he:=he.resolve_left e;by_cases n2:n>1
   .rw[qZ n2];show wpS_bind (AV C hst (Sb.refl.oks (lo:=lo) o) ∅ ∅ ?_);by_cases hl:aQ rk (arrOf st') lo<aQ rk (arrOf st') (lo+n-1)
    .rw[qQ hl];show wpS_pure (h n st' n1 nm Sb.refl hu)
    .rw[qR hl];let he2:∀k,lo<=k->k<lo+n->aQ rk (arrOf st') k=aQ rk (arrOf st') (lo+n-1):=λk h1 h2=>by let:=hu lo k (q5 _) h1 h2;let:=hu k (lo+n-1) h1 ∅ ∅;lia
     show wpS_bind (Bg (rk:=rk) (Sb.refl (ok:=ok)) (q5 _) ∅ λst3 hb3 hr=>?_);let er:=Bp he2 hr;show Dl C hst o n1 ∅ hs hb3 (Bj n1 (λy z h1 h2 h3=>?_) (by rw[er,er];show Int.le_of_lt he)) h;rw[er,er,he2 y h1 ∅,he2 z ∅ h3];show Int.le_refl _
   .rw[q4 n2];obtain rfl:n=1:=by lia
    show Dl C hst o n1 ∅ hs Sb.refl (Bj n1 (λy z h1 h2 h3=>?_) (Int.le_of_lt he)) h;obtain rfl:y=z:=∅
    show Int.le_refl _
def BH{xs:Array Keyed}{v d:Nat}(hs:v<xs.size)(z:d<=v)(k:Nat):aQ rk (bubble xs v d) k=if k=v-d then aQ rk xs v else if v-d<k/\k<=v then aQ rk xs (k-1)else aQ rk xs k:=by
 unfold aQ;rw[getElem?_bubble hs d z k];split
 .rfl
 .split<;>rfl
theorem Cd(C:Cmp M A E s κ ok rk){lo n m:Nat}{st st':SortSt}(hst:kindOf st=κ)(o:∀x∈(arrOf st).toList,ok x)(hm:m<=n)(hs:lo+n<=(arrOf st).size)(hb:Sb ok lo st st')(hu:Up rk (arrOf st') lo (lo+m)){Q:Bool->SortSt->Prop}
  (h:∀st',Sb ok lo st st'->Up rk (arrOf st') lo (lo+n)->Q true st'):wpS M A E s (binarySort' lo n m) Q st':=by
 rw[binarySort'_eq];show wpS_bind (wpS_mono (wpS_forRange (I:=λk c st2=>c=(none,())/\Sb ok lo st st2/\Up rk (arrOf st2) lo (lo+min k n)) (Q:=λc st2=>c=(none,())/\Sb ok lo st st2/\Up rk (arrOf st2) lo (lo+n)) ?step ?fin ?init) ?post);case post=>rintro c st2 ⟨rfl,hb2,hu2⟩;show wpS_pure (h st2 hb2 hu2)
 case init=>
  show#[rfl,hb,λx y h1 h2 h3=>?_];by_cases e:m=0
  .obtain rfl:x=y:=by omega
   show Int.le_refl _
  .show hu x y h1 h2 (by omega)
 case fin=>rintro c st2 ⟨hc,hb2,hu2⟩;rw[show min (max (max m 1) n) n=n by omega]at hu2;show#[hc,hb2,hu2]
 case step=>
  rintro k c st2 hk1 hk ⟨rfl,hb2,hu2⟩;let sz:=hb2.size;refine wpS_bind (wpS_mono (wpS_forRange (I:=λx c st3=>st3=st2/\∃l r,c=(none,l,r)/\l<=r/\r<=k/\r-l<=k-x/\(∀i,i<l->aQ rk (arrOf st2) (lo+i)<=aQ rk (arrOf st2) (lo+k))/\∀i,r<=i->i<k->aQ rk (arrOf st2) (lo+k)<aQ rk (arrOf st2) (lo+i))
   (Q:=λc st3=>st3=st2/\∃l r,c=(none,l,r)/\l<=k/\(∀i,i<l->aQ rk (arrOf st2) (lo+i)<=aQ rk (arrOf st2) (lo+k))/\∀i,l<=i->i<k->aQ rk (arrOf st2) (lo+k)<aQ rk (arrOf st2) (lo+i)) ?istep ?ifin ?iinit) ?ipost)
  case iinit=>show#[rfl,0,k,rfl,by omega,by omega,by omega,λi hi=>by omega,λi h1 h2=>by omega]
  case ifin=>
   rintro c st3 ⟨rfl,l,r,rfl,h1,h2,h3,h4,h5⟩;obtain rfl:l=r:=by omega
   show#[rfl,l,l,rfl,h2,h4,h5]
  case istep=>
   rintro x c st3 _ hx ⟨rfl,l,r,rfl,h1,h2,h3,h4,h5⟩;simp only;by_cases e:l≥r
   .rw[qZ e];obtain rfl:l=r:=by omega
    show wpS_pure #[rfl,l,l,rfl,h2,h4,h5]
   .rw[q4 e];show wpS_bind (AV C (hb2.rest.1.trans hst) (hb2.oks o) (by omega) (by omega) ?_);by_cases hl:aQ rk (arrOf st3) (lo+k)<aQ rk (arrOf st3) (lo+(l+r)/2)
    .rw[qQ hl];show wpS_pure #[rfl,l,(l+r)/2,rfl,by omega,by omega,by omega,h4,λi a1 a2=>?_];let:=hu2 (lo+(l+r)/2) (lo+i) (by omega) (by omega) (by omega);omega
    .rw[qR hl];show wpS_pure #[rfl,(l+r)/2+1,r,rfl,by omega,h2,by omega,λi a1=>?_,h5];let:=hu2 (lo+i) (lo+(l+r)/2) (by omega) (by omega) (by omega);omega
  case ipost=>
   rintro c st3 ⟨rfl,l,r,rfl,h2,h4,h5⟩;simp only;show wpS_bind (wpS_modify (wpS_pure #[rfl,#[(bubble_perm _ _ _).trans hb2.perm,λi hi=>?_,hb2.rest],λx y a1 a2 a3=>?_]))
   .show(bubble (arrOf st3) (lo+k) (lo+k-(lo+l)))[i]?=_;rw[getElem?_bubble (by omega) _ (by omega),q4 (by omega),q4 (by omega)];show hb2.pre i hi
   .show aQ rk (bubble (arrOf st3) (lo+k) (lo+k-(lo+l))) x<=aQ rk (bubble (arrOf st3) (lo+k) (lo+k-(lo+l))) y;rw[show min (k+1) n=k+1 by omega]at a3;rw[BH (by omega) (by omega),BH (by omega) (by omega)];let g4:=h4 (x-lo);let g5:=h5 (y-1-lo);rw[show lo+(x-lo)=x by omega]at g4;let u1:=hu2 x y;let u2:=hu2 x (y-1);let u3:=hu2 (x-1) (y-1);by_cases e1:x=lo+k-(lo+k-(lo+l))
    .rw[qZ e1];split
     .show Int.le_refl _
     .split
      .rw[show lo+(y-1-lo)=y-1 by omega]at g5;show Int.le_of_lt (g5 (by omega) (by omega))
      .omega
    .rw[q4 e1];split
     .split
      .omega
      .split
       .show u3 (by omega) (by omega) (by omega)
       .omega
     .split
      .show g4 (by omega)
      .split
       .show u2 (by omega) (by omega) (by omega)
       .show u1 (by omega) (by omega) (by omega)
def putAt(a:Array Keyed)(i:Nat)(l:List Keyed):Array Keyed:=l.zipIdx.foldl (λa(p,j)=>a.setIfInBounds (i+j) p) a
def Ct(i:Nat):mergeAt' i=(do
 let u<-get
 let(some (p,n,q),some (r,m,_)):=((pendingOf u)[i]?,(pendingOf u)[i+1]?)|unsupported "internal:list.sort.pending"
 set (setPending u (((pendingOf u).setIfInBounds i (p,n+m,q)).eraseIdxIfInBounds (i+1)))
 let some k<-cT false (<-elem' (arrOf u) r) (arrOf u) p n 0|return false
 let(p,n):=(p+k,n-k)
 if n==0 then return true
 let some m<-cT true (<-elem' (arrOf u) (p+n-1)) (arrOf u) r m (m-1)|return false
 if m==0 then return true
 let x:=(arrOf u).extract p r
 let y:=(arrOf u).extract r (r+m)
 let z<-if n<=m then fM x y else fO x y
 modify λs=>setArr s (putAt (arrOf s) p z.toList)
 return(failedOf (<-get)).isNone):=rfl
def DU(l:List Keyed):∀(a:Array Keyed)(i c:Nat),i+c+l.length<=a.size->((l.zipIdx c).foldl (λa(p,j)=>a.setIfInBounds (i+j) p) a).toList=a.toList.take (i+c)++l++a.toList.drop (i+c+l.length):=by
 induction l with
 |nil=>intro a i c h;simp
 |cons x l z=>
  intro a i c h;rw[qt]at h;let e:(a.setIfInBounds (i+c) x).toList=(a.toList.take (i+c)++[x])++a.toList.drop (i+c+1):=by rw[Array.toList_setIfInBounds,List.set_eq_take_append_cons_drop,qZ (by simp;lia -verbose)];simp
  let v:(a.toList.take (i+c)++[x]).length=i+(c+1):=by simp;lia
  rw[List.zipIdx_cons,foldl_cons,z _ _ _ (by simp;lia -verbose)];rw[e,List.take_left' v,<-drop_drop,List.drop_left' v];simp[Nat.add_comm,Nat.add_left_comm]
def Bl{xs:Array Keyed}{lo hi:Nat}(F:Up rk xs lo hi)(G:hi<=xs.size):fS rk (xs.extract lo hi).toList:=by unfold fS;rw[pairwise_iff_getElem];intro x y B v z;simp at B v;let:=F (lo+x) (lo+y) ∅ ∅ ∅;rw[Ad (show lo+x<xs.size by lia),Ad (show lo+y<xs.size by lia)]at this;simpa[extract_eq_take_drop] using this
def Bi{xs:Array Keyed}{lo hi:Nat}{x:Keyed}(z:hi<=xs.size)(h:x∈(xs.extract lo hi).toList):∃k,lo<=k/\k<hi/\rk x=aQ rk xs k:=by let#[y,v,rfl]:=List.mem_iff_getElem.mp h;simp at v;show#[lo+y,∅,∅,by rw[Ad (show lo+y<xs.size by lia)];simp]
def Bz{a:Array Keyed}{i j l:Nat}(h1:i<=j)(h2:j<=l):(a.extract i j).toList++(a.extract j l).toList=(a.extract i l).toList:=by rw[toList_extract,toList_extract,toList_extract,extract_eq_take_drop,extract_eq_take_drop,extract_eq_take_drop,show l-i=(j-i)+(l-j) by lia,List.take_add,drop_drop,show i+(j-i)=j by lia]
def ED{x:SortSt}{Q:PUnit->SortSt->Prop}{st:SortSt}(h:Q ⟨⟩ x):wpS M A E s (set x:StateT SortSt Sem PUnit) Q st:=wpS_modify (f:=λ_=>x) h
def Cc(C:Cmp M A E s κ ok rk){n m q q':Nat}{st:SortSt}(O:kindOf st=κ)(o:∀x∈(arrOf st).toList,ok x)(hp:pendingOf st=[(0,n,q),(n,m,q')].toArray)(n0:0<n)(m0:0<m)(hs:n+m=(arrOf st).size)(hf:failedOf st=none)(u1:Up rk (arrOf st) 0 (0+n))(u2:Up rk (arrOf st) n (n+m)){Q:Bool->SortSt->Prop}
  (h:∀F,(arrOf F).Perm (arrOf st)->pendingOf F=[(0,n+m,q)].toArray->failedOf F=none->Up rk (arrOf F) 0 (arrOf st).size->Q true F):wpS M A E s (mergeAt' 0) Q st:=by
 let oks:∀i(hi:i<(arrOf st).size),ok (arrOf st)[i]:=λi hi=>o _ (by simp);rw[Ct];show wpS_bind (wpS_get ?_);rw[hp];let ep:(([(0,n,q),(n,m,q')].toArray:Array (Nat×Nat×Nat)).setIfInBounds 0 (0,n+m,q)).eraseIdxIfInBounds (0+1)=[(0,n+m,q)].toArray:=by simp[Array.setIfInBounds,Array.eraseIdxIfInBounds,Array.eraseIdx]
 show wpS_bind (ED ?_);rw[ep];let nS:n<(arrOf st).size:=∅
 show wpS_bind (Ab nS ?_);show wpS_bind (Aq (st:=setPending st [(0,n+m,q)].toArray) C (oks _ nS) oks ∅ n0 u1 O λk hc=>?_);let kn:=hc.2.1;let e1:∀x,x<k->aQ rk (arrOf st) x<=aQ rk (arrOf st) n:=λx v=>by let:=hc.2.2.1 x v;unfold dM at this;rw[Ad nS];simpa using this
 let hm:∀x,k<=x->x<n->aQ rk (arrOf st) n<aQ rk (arrOf st) x:=λx h1 h2=>by let:=hc.2.2.2 x h1 h2;unfold dM at this;rw[Ad nS];simpa using this
 simp only;by_cases e:n-k=0
 .rw[qZ (by simp[e])];show wpS_pure (h _ (.refl _) rfl hf λx y h1 h2 Y=>?_);let a1:=u1 x y h1 h2;let a2:=u2 x y;let a3:=u2 n y (q5 _);let a4:=e1 x;by_cases L:y<n
  .show a1 ∅
  .by_cases v:x<n
   .show Int.le_trans (a4 ∅) (a3 ∅ ∅)
   .show a2 ∅ h2 ∅
 rw[q4 ↑e];let J:0+k+(n-k)-1<(arrOf st).size:=∅
 show wpS_bind (Ab J ?_);show wpS_bind (Aq (st:=setPending st [(0,n+m,q)].toArray) C (oks _ J) oks ∅ ∅ u2 O λm2 hd=>?_);let r1:=hd.2.1;let en:0+k+(n-k)-1=n-1:=∅
 let h9:∀x,n<=x->x<n+m2->aQ rk (arrOf st) x<aQ rk (arrOf st) (n-1):=λx h1 h2=>by let:=hd.2.2.1 (x-n) ∅;unfold dM at this;rw[show n+(x-n)=x by lia,<-Ad (rk:=rk) J,en]at this;simpa using this
 let hl:∀x,n+m2<=x->x<n+m->aQ rk (arrOf st) (n-1)<=aQ rk (arrOf st) x:=λx h1 h2=>by let:=hd.2.2.2 (x-n) ∅ ∅;unfold dM at this;rw[show n+(x-n)=x by lia,<-Ad (rk:=rk) J,en]at this;simpa using this
 simp only;by_cases e2:m2=0
 .rw[qZ (by simp[e2])];show wpS_pure (h _ (.refl _) rfl hf λx y h1 h2 Y=>?_);by_cases L:y<n
  .show u1 x y h1 h2 ∅
  .by_cases v:x<n
   .show Int.le_trans (u1 x (n-1) h1 ∅ ∅) (hl y ∅ ∅)
   .show u2 x y ∅ h2 ∅
 rw[q4 ↑e2,zero_add];let sz:=hs;let h7:∀x∈((arrOf st).extract k n).toList,∃c,k<=c/\c<n/\rk x=aQ rk (arrOf st) c:=λx v=>Bi ∅ v;let h6:∀x∈((arrOf st).extract n (n+m2)).toList,∃c,n<=c/\c<n+m2/\rk x=aQ rk (arrOf st) c:=λx v=>Bi ∅ v;let G:∀(c d i:Nat)(hi:i<((arrOf st).extract c d).size),ok ((arrOf st).extract c d)[i]:=λc d i hi=>o _ (by rw[getElem_extract];simp);let hq:∀(z:Array Keyed)(B:SortSt),fY rk ((arrOf st).extract k n) ((arrOf st).extract n (n+m2)) z->bA (setPending st [(0,n+m,q)].toArray) B->wpS M A E s (modify (λs=>setArr s (putAt (arrOf s) k z.toList))>>=λ_=>get>>=λu=>pure (failedOf u).isNone) Q B:=λz B hr ks=>by
  let ea:arrOf B=arrOf st:=ks.2.1;let hz:z.toList.length=n-k+m2:=by rw[hr.1.length_eq,qq,qU,qU,size_extract,size_extract];lia
  let el:(putAt (arrOf B) k z.toList).toList=((arrOf st).extract 0 k).toList++z.toList++((arrOf st).extract (n+m2) (n+m)).toList:=by let:=DU z.toList (arrOf st) k 0 ∅;rw[ea];rw[Nat.add_zero,hz,show k+(n-k+m2)=n+m2 by lia]at this;rw[show(putAt (arrOf st) k z.toList).toList=_ from this,toList_extract,toList_extract,extract_eq_take_drop,extract_eq_take_drop,drop_zero,sub_zero];congr 1;rw[take_of_length_le (by simp;lia -verbose)]
  show wpS_bind (wpS_modify (wpS_bind (wpS_get ?_)));let ef:(failedOf (setArr B (putAt (arrOf B) k z.toList))).isNone=true:=by show(failedOf B).isNone=true;rw[ks.2.2.2];show(failedOf st).isNone=true;rw[hf];rfl
  rw[ef];let h5:∀x∈z.toList,(∃c,k<=c/\c<n/\rk x=aQ rk (arrOf st) c)\/∃c,n<=c/\c<n+m2/\rk x=aQ rk (arrOf st) c:=λx v=>(qx.mp (hr.1.mem_iff.mp v)).imp (h7 x) (h6 x);let h8:∀x∈((arrOf st).extract 0 k).toList,∃c,0<=c/\c<k/\rk x=aQ rk (arrOf st) c:=λx v=>Bi ∅ v;let e4:∀x∈((arrOf st).extract (n+m2) (n+m)).toList,∃c,n+m2<=c/\c<n+m/\rk x=aQ rk (arrOf st) c:=λx v=>Bi ∅ v;let ha:fS rk (putAt (arrOf B) k z.toList).toList:=by
   rw[el];let s1:=Bl (rk:=rk) (xs:=arrOf st) (lo:=0) (hi:=k) (λx y h1 h2 Y=>u1 x y h1 h2 ∅) ∅;let s2:=Bl (rk:=rk) (xs:=arrOf st) (lo:=n+m2) (hi:=n+m) (λx y h1 h2 Y=>u2 x y ∅ h2 Y) ∅;show pairwise_append.mpr #[pairwise_append.mpr #[s1,hr.2,λx v y L=>?_],s2,λx v y L=>?_]
   .obtain⟨c,_,hc,ex⟩:=h8 x v;let a1:=e1 c hc;rcases h5 y L with⟨d,h1,h2,ey⟩|⟨d,h1,h2,ey⟩
    .let a2:=hm d h1 h2;lia
    .let a2:=u2 n d (q5 _) h1 ∅;lia
   .obtain⟨d,h1,h2,ey⟩:=e4 y L;let a2:=hl d h1 h2;rcases qx.mp v with v|v
    .obtain⟨c,_,hc,ex⟩:=h8 x v;let a1:=u1 c (n-1) ∅ ∅ ∅;lia
    .rcases h5 x v with⟨c,Y,h4,ex⟩|⟨c,Y,h4,ex⟩
     .let a1:=u1 c (n-1) ∅ ∅ ∅;lia
     .let a1:=h9 c Y h4;lia
  have pm:(putAt (arrOf B) k z.toList).Perm (arrOf st):=by
   rw[perm_iff_toList_perm,el];show((hr.1.append_left _).append_right _).trans ?_;let:(arrOf st).toList=((arrOf st).extract 0 k).toList++(((arrOf st).extract k n).toList++((arrOf st).extract n (n+m2)).toList)++((arrOf st).extract (n+m2) (n+m)).toList:=by rw[Bz ∅ ∅,Bz ∅ ∅,Bz ∅ ∅,toList_extract,extract_eq_take_drop,drop_zero,take_of_length_le (by simp;lia -verbose)]
   rw[<-this]
  show wpS_pure (h _ pm ks.2.2.1 (ks.2.2.2.trans hf) ?_);let:=CF (i:=0) (n:=(arrOf st).size) ha (by rw[zero_add,<-pm.size_eq];show q5 _);rwa[zero_add]at this
 let sx:=Bl (rk:=rk) (xs:=arrOf st) (lo:=k) (hi:=n) (λx y h1 h2 Y=>u1 x y ∅ h2 ∅) ∅;let sy:=Bl (rk:=rk) (xs:=arrOf st) (lo:=n) (hi:=n+m2) (λx y h1 h2 Y=>u2 x y h1 h2 ∅) ∅;let zX:((arrOf st).extract k n).size=n-k:=by rw[size_extract];lia
 let zY:((arrOf st).extract n (n+m2)).size=m2:=by rw[size_extract];lia
 let e3:aQ rk ((arrOf st).extract k n) (((arrOf st).extract k n).size-1)=aQ rk (arrOf st) (n-1):=by rw[Ad ∅,Ad (show n-1<(arrOf st).size by lia),getElem_extract];congr 2;lia
 let y0:rk (((arrOf st).extract n (n+m2))[0]'∅)=aQ rk (arrOf st) n:=by rw[Ad nS,getElem_extract];rfl
 let hb:∀y∈((arrOf st).extract n (n+m2)).toList,rk y<aQ rk ((arrOf st).extract k n) (((arrOf st).extract k n).size-1):=λy L=>by let#[c,h1,h2,e]:=h6 y L;rw[e3,e];show h9 c h1 h2
 let h0:∀x∈((arrOf st).extract k n).toList,rk (((arrOf st).extract n (n+m2))[0]'∅)<rk x:=λx v=>by let#[c,h1,h2,e]:=h7 x v;rw[y0,e];show hm c h1 h2
 by_cases hk:n-k<=m2
 .rw[qZ hk];show wpS_bind (Ca (C:=C) #[G _ _,G _ _,hb] sx sy ∅ ∅ (Int.le_of_lt (h0 _ (by rw[mem_toList_iff];show Array.getElem_mem _))) O hq)
 .rw[q4 hk];show wpS_bind (Cb (C:=C) #[G _ _,G _ _,∅,h0] sx sy ∅ (λy L=>by rw[<-Ad (rk:=rk)];show Int.le_of_lt (hb y L)) O hq)
def EJ{n:Nat}(h2:2<=n)(h:n<128):minRun' n n 0<=n/\n<=2*minRun' n n 0:=by
 obtain⟨f,rfl⟩:∃f,n=f+1+1:=#[n-2,∅]
 rw[minRun'_succ];split
 .lia
 .rw[minRun'_succ];lia
structure Rn(st st':SortSt):Prop where
 perm:(arrOf st').Perm (arrOf st)
 kind:kindOf st'=kindOf st
 failed:failedOf st'=none
@[inline]def One(rk:Keyed->Int)(n:Nat)(st:SortSt):Prop:=pendingOf st=[(0,n,0)].toArray/\Up rk (arrOf st) 0 (0+n)
def rS(rk:Keyed->Int)(n:Nat)(st:SortSt):Prop:=∃k q,0<k/\k<n/\pendingOf st=[(0,k,q),(k,n-k,0)].toArray/\Up rk (arrOf st) 0 (0+k)/\Up rk (arrOf st) k (k+(n-k))
def BM(C:Cmp M A E s κ ok rk){n:Nat}{st:SortSt}(hst:kindOf st=κ)(o:∀x∈(arrOf st).toList,ok x)(hp:pendingOf st=#[])(hf:failedOf st=none)(hn:(arrOf st).size=n)(h2:2<=n)(h128:n<128){Q:Unit->SortSt->Prop}
  (h:∀st',(arrOf st').Perm (arrOf st)->failedOf st'=none->Up rk (arrOf st') 0 n->Q () st'):wpS M A E s sortRuns' Q st:=by
 obtain⟨r1,r2⟩:=EJ h2 h128;let oR:∀st',Rn st st'->∀x∈(arrOf st').toList,ok x:=λst' R x hx=>o x ((perm_iff_toList_perm.mp R.perm).mem_iff.mp hx);let zR:∀st',Rn st st'->(arrOf st').size=n:=λst' R=>R.perm.size_eq.trans hn;rw[sortRuns'_eq];show wpS_bind (wpS_get ?_);rw[hn];generalize hmr:minRun' n n 0=mr at r1 r2;refine wpS_bind (wpS_mono (wpS_forRange
  (I:=λx c st'=>(x=0/\c=(none,0)/\st'=st)\/(x=1/\∃k,c=(none,k)/\mr<=k/\k<n/\Rn st st'/\One rk k st')\/(1<=x/\c=(none,n)/\Rn st st'/\(One rk n st'\/rS rk n st')))
  (Q:=λc st'=>c=(none,n)/\Rn st st'/\(One rk n st'\/rS rk n st')) ?step ?fin (.inl #[rfl,rfl,rfl])) ?post)
 case fin=>
  rintro c st' (⟨hx,_⟩|⟨hx,_⟩|⟨_,z⟩)
  .lia
  .lia
  .show z
 case step=>
  rintro x c st' _ hx (⟨rfl,rfl,rfl⟩|⟨rfl,k,rfl,hk,kn,R,hpd,hu⟩|⟨hx1,rfl,z⟩)
  .simp only[hmr];rw[q4 ∅];let go:∀k st3,mr<=k->k<=n->Sb ok 0 st' st3->Up rk (arrOf st3) 0 (0+k)->(True/\∃k',((none,0+k):Option Unit×Nat)=(none,k')/\mr<=k'/\k'<n/\Rn st' (setPending st3 (#[].push (0,k,0)))/\One rk k' (setPending st3 (#[].push (0,k,0))))\/1<=0+1/\((none,0+k):Option Unit×Nat)=(none,n)/\Rn st' (setPending st3 (#[].push (0,k,0)))/\(One rk n (setPending st3 (#[].push (0,k,0)))\/rS rk n (setPending st3 (#[].push (0,k,0)))):=λk st3 h1 h3 hb hu=>by
    let R:Rn st' (setPending st3 (#[].push (0,k,0))):=#[hb.perm,hb.rest.1,hb.rest.2.2.trans hf]
    rw[zero_add k];by_cases e:k=n
    .subst e;show .inr #[∅,rfl,R,.inl #[rfl,hu]]
    .show .inl #[trivial,k,rfl,h1,∅,R,rfl,hu]
   show wpS_bind (BC C hst o ∅ ∅ λk st2 k1 km hb hu=>?_);simp only;by_cases hlt:k<mr
   .rw[qZ hlt];show wpS_bind (Ax ?_);show wpS_bind (Cd C hst o ∅ ∅ hb hu λst3 hb3 hu3=>?_);show wpS_bind (wpS_get ?_);rw[show pendingOf st3=#[] from hb3.rest.2.1.trans hp];show wpS_bind (wpS_modify (wpS_pure (.inr ?_)));rw[show pendingOf st3=#[] from hb3.rest.2.1.trans hp];show go _ st3 ∅ ∅ hb3 hu3
   .rw[q4 hlt];show wpS_bind (wpS_get ?_);rw[show pendingOf st2=#[] from hb.rest.2.1.trans hp];show wpS_bind (wpS_modify (wpS_pure (.inr ?_)));rw[show pendingOf st2=#[] from hb.rest.2.1.trans hp];show go _ st2 ∅ ∅ hb hu
  .simp only[hmr];rw[q4 ∅];let zs:=zR _ R;show wpS_bind (BC C (R.kind.trans hst) (oR _ R) ∅ ∅ λk2 st2 k1 km hb hu2=>?_);simp only;let go:∀q st3 st4,arrOf st4=arrOf st3->kindOf st4=kindOf st3->failedOf st4=failedOf st3->pendingOf st4=[(0,k,q),(k,n-k,0)].toArray->Sb ok k st' st3->Up rk (arrOf st3) k (k+(n-k))->Rn st st4/\(One rk n st4\/rS rk n st4):=λq st3 st4 e1 e2 e3 e hb hu3=>by show#[#[by rw[e1];show hb.perm.trans R.perm,e2.trans (hb.rest.1.trans R.kind),e3.trans (hb.rest.2.2.trans R.failed)],.inr #[k,q,∅,kn,e,λi j h1 h2 h3=>?_,by rw[e1];show hu3]];rw[e1];let:=hu i j h1 h2 h3;show((arrOf st3)[i]?).elim 0 rk<=((arrOf st3)[j]?).elim 0 rk;rw[hb.pre i ∅,hb.pre j ∅];exact this
   by_cases hlt:k2<mr
   .rw[qZ hlt];show wpS_bind (Ax ?_);show wpS_bind (Cd C (R.kind.trans hst) (oR _ R) ∅ ∅ hb hu2 λst3 hb3 hu3=>?_);rw[show min (n-k) mr=n-k by lia]at hu3⊢;show wpS_bind (wpS_get ?_);rw[show pendingOf st3=[(0,k,0)].toArray from hb3.rest.2.1.trans hpd];show wpS_bind (wpS_mono (wpS_forRange (I:=λx c st4=>x=0/\c=(none,())/\st4=st3) (Q:=λc st4=>c=(none,())/\st4=st3) ?s2 ?f2 #[rfl,rfl,rfl]) ?p2);case f2=>rintro c st4 ⟨e,_⟩;lia
    case s2=>rintro x c st4 _ _ ⟨rfl,rfl,e⟩;show wpS_bind (wpS_get ?_);rw[e,show pendingOf st3=[(0,k,0)].toArray from hb3.rest.2.1.trans hpd];show wpS_pure #[rfl,rfl]
    case p2=>rintro c st4 ⟨rfl,e⟩;rw[e];show wpS_bind (wpS_modify (wpS_bind (wpS_modify (wpS_pure (.inr (.inr #[∅,by rw[show k+(n-k)=n by lia],go (power' n (2*0+k) (2*0+k+k+(n-k)) n) st3 _ rfl rfl rfl ?_ hb3 hu3]))))));rw[show pendingOf st3=[(0,k,0)].toArray from hb3.rest.2.1.trans hpd];rfl
   .rw[q4 hlt];obtain rfl:k2=n-k:=by lia
    show wpS_bind (wpS_get ?_);rw[show pendingOf st2=[(0,k,0)].toArray from hb.rest.2.1.trans hpd];show wpS_bind (wpS_mono (wpS_forRange (I:=λx c st4=>x=0/\c=(none,())/\st4=st2) (Q:=λc st4=>c=(none,())/\st4=st2) ?s2 ?f2 #[rfl,rfl,rfl]) ?p2);case f2=>rintro c st4 ⟨e,_⟩;lia
    case s2=>rintro x c st4 _ _ ⟨rfl,rfl,e⟩;show wpS_bind (wpS_get ?_);rw[e,show pendingOf st2=[(0,k,0)].toArray from hb.rest.2.1.trans hpd];show wpS_pure #[rfl,rfl]
    case p2=>rintro c st4 ⟨rfl,e⟩;rw[e];show wpS_bind (wpS_modify (wpS_bind (wpS_modify (wpS_pure (.inr (.inr #[∅,by rw[show k+(n-k)=n by lia],go (power' n (2*0+k) (2*0+k+k+(n-k)) n) st2 _ rfl rfl rfl ?_ hb hu2]))))));rw[show pendingOf st2=[(0,k,0)].toArray from hb.rest.2.1.trans hpd];rfl
  .simp only;rw[qZ (q5 _)];show wpS_pure #[rfl,z]
 case post=>
  rintro c st' ⟨rfl,R,z⟩;show wpS_bind (wpS_mono (wpS_forRange (I:=λx c st4=>c=(none,())/\((x=0/\st4=st')\/(1<=x/\(arrOf st4).Perm (arrOf st)/\failedOf st4=none/\Up rk (arrOf st4) 0 n/\(pendingOf st4).size=1))) (Q:=λc st4=>c=(none,())/\(arrOf st4).Perm (arrOf st)/\failedOf st4=none/\Up rk (arrOf st4) 0 n) ?step2 ?fin2 #[rfl,.inl #[rfl,rfl]]) ?post2);case post2=>rintro _ st4 ⟨rfl,h3,h4,h5⟩;show wpS_pure (h st4 h3 h4 h5)
  case fin2=>
   rintro c st4 ⟨e,⟨hx,_⟩|⟨_,h3,h4,h5,_⟩⟩
   .lia
   .show#[e,h3,h4,h5]
  case step2=>
   rintro x _ st4 _ _ ⟨rfl,⟨rfl,rfl⟩|⟨_,h3,h4,h5,h6⟩⟩
   .show wpS_bind (wpS_get ?_);rcases z with⟨hp1,hu⟩|⟨k,q,k0,kn,hp2,u1,u2⟩
    .rw[hp1];show wpS_pure #[rfl,R.perm,R.failed,by rwa[zero_add]at hu]
    .rw[hp2];show wpS_bind (Cc C (R.kind.trans hst) (oR _ R) hp2 k0 ∅ (by rw[zR _ R];lia) R.failed u1 u2 λst5 p5 d5 f5 u5=>?_);rw[zR _ R]at u5;show wpS_pure #[rfl,.inr #[∅,p5.trans R.perm,f5,u5,by rw[d5];rfl]]
   .show wpS_bind (wpS_get ?_);rw[qZ ∅];show wpS_pure #[rfl,h3,h4,h5]
def BZ:∀vs:List Value,vs.zip vs=vs.map λv=>(v,v)
 |[]=>rfl
 |v::r=>by show(v,v)::r.zip r=_;rw[BZ r];rfl
theorem list_sort128{a:Addr}{vs:List Value}{n:Nat}{P:Fin->Shared->Prop}(ho:s.heap.get? a=some (seqObj "list" vs.toArray n))(h2:2<=vs.length)(Y:vs.length<128)
  (hk:∀h':Heap,(∀b o,b≠a->s.heap.get? b=some o->h'.get? b=some o)->(∀Q:SortKind->Shared->Prop,Q κ {s with heap:=h'}->wpAny (model prog w) A (keyKind' vs.toArray) Q E {s with heap:=h'})/\Cmp (model prog w) A E {s with heap:=h'} κ ok rk)
  (h1:∀v∈vs,ok (v,v))
  (h:∀F:List Value,F.Perm vs->F.Pairwise (λu v=>rk (u,u)<=rk (v,v))->P (.done (.ret .none)) {s with heap:=sortedHeap s.heap a vs F.toArray}):
  wpAny (model prog w) A (Builtin.«list.sort» #[[.ref a],[]]) P E s:=by
 let ha:a<s.heap.objs.size:=qe ho;rw[list_sort_plain];show qa (listItems_at ho rfl ?_);show qa (listUpdate_at ho rfl ?_ (by rw[qr,ze];lia) (zero_le _));obtain⟨e1,M⟩:∃e1,(s.heap.update a (Obj.mapSeq λ_=>#[])).get? a=some (seqObj "list" #[] e1):=#[_,get?_update_seq ho (λ_=>#[])]
 show qa (seqEpoch_at M rfl ?_);show qa (wpAny_newTuple ?_ (by show vs.length<=_;rw[ze];lia));show qa (wpAny_newList ?_ (zero_le _));show zf ?_;let L:(((s.heap.update a (Obj.mapSeq λ_=>#[])).push (seqObj "tuple" vs.toArray 0)).push (seqObj "list" #[] 0)).get? a=some (seqObj "list" #[] e1):=by rw[Heap.get?_push_ne _ _ _ (by rw[size_push',Heap.size_update];show ne_of_lt (lt_succ_of_lt ha)),Heap.get?_push_ne _ _ _ (by rw[Heap.size_update];show ne_of_lt ha)];show M
 let#[k1,C]:=hk (((s.heap.update a (Obj.mapSeq λ_=>#[])).push (seqObj "tuple" vs.toArray 0)).push (seqObj "list" #[] 0)) λb o hb e=>qc _ (qc _ (by rw[Heap.get?_update_ne _ _ _ _ hb];show e));let O:¬vs.toArray.size<2:=by rw[qr];lia
 rw[q4 O,q4 O];show qa (k1 _ ?_);let J:(vs.toArray.zip vs.toArray).size=vs.length:=by rw[Array.size_zip];show Nat.min_self _
 let hz:(vs.toArray.zip vs.toArray).toList=vs.map λv=>(v,v):=by rw[Array.toList_zip];show BZ vs
 refine qa (zh (BM C (st:=SortSt.mk' κ (vs.toArray.zip vs.toArray) #[] 7 none) (n:=vs.length)
   (Q:=λ_ z=>(arrOf z).Perm (vs.toArray.zip vs.toArray)/\failedOf z=none/\Up rk (arrOf z) 0 vs.length) rfl
   (λx hx=>?_) rfl rfl J h2 Y λz a1 a2 a3=>#[a1,a2,a3]) ?_ λ_ _ e=>e)
 .rw[show(arrOf (SortSt.mk' κ (vs.toArray.zip vs.toArray) #[] 7 none)).toList=vs.map λv=>(v,v) from hz]at hx;let#[v,hv,rfl]:=qJ.mp hx;show h1 v hv
 .rintro⟨⟨⟩,z⟩ s' ⟨rfl,hp,hf,hs⟩;let G:(arrOf z).toList.Perm (vs.map λv=>(v,v)):=by rw[<-hz];exact perm_iff_toList_perm.mp hp
  let B:(arrOf z).size=vs.length:=hp.size_eq.trans J;let h3:(arrOf z).map (·.2)=((arrOf z).toList.map (·.2)).toArray:=Array.toList_inj.mp Array.toList_map;show qa (seqEpoch_at L rfl ?_);show qa (listUpdate_at L rfl ?_ (hsz2:=by rw[Array.size_map,ze];lia));rw[hf];simp;rw[h3];let pv:((arrOf z).toList.map (·.2)).Perm vs:=by let:=G.map (λx:Keyed=>x.2);rwa[qD,show((λx:Keyed=>x.2)∘λv=>(v,v))=id from rfl,map_id]at this
  show qb (h _ pv ?_);let sq:=Bl hs (by rw[B];show q5 _);rw[show(arrOf z).extract 0 vs.length=arrOf z by rw[<-B];show Array.extract_size ..]at sq;rw[pairwise_map];show List.Pairwise.imp_of_mem (λ{x y} hx hy r=>?_) sq;let#[v,_,rfl]:=qJ.mp (G.mem_iff.mp hx);let#[u,_,rfl]:=qJ.mp (G.mem_iff.mp hy);show r
theorem sorted128{l:Addr}{vs:List Value}{Q:zi}(O:s.heap.IsList l vs.toArray)(h2:2<=vs.length)(J:vs.length<128)
  (Y:∀h':Heap,(∀b o,s.heap.get? b=some o->h'.get? b=some o)->(∀Q:SortKind->Shared->Prop,Q κ {s with heap:=h'}->wpAny (model prog w) A.in1.in1 (keyKind' vs.toArray) Q E {s with heap:=h'})/\Cmp (model prog w) A.in1.in1 E {s with heap:=h'} κ ok rk)
  (L:∀v∈vs,ok (v,v))
  (h:∀z:List Value,z.Perm vs->z.Pairwise (λu v=>rk (u,u)<=rk (v,v))->Q (.ref (s.heap.objs.size+1)) {s with heap:=sortedAll s.heap vs z.toArray}):
  wpAny (model prog w) A (call (.builtin "sorted") [.ref l]) Q E s:=by
 show Calls.call_function_entry kind_sorted plain_sorted entry_sorted (args_sorted1 _) ?_;show qa (m:=checkCount "sorted" 1 1 _) (qb ?_);show qa (collect_list O ?_ (by rw[ze];lia));show qa (wpAny_newList ?_ (by rw[ze];lia));let B:((s.heap.push (seqObj "list" #[] 0)).update s.heap.objs.size (Obj.mapSeq (·++vs.toArray))).objs.size=s.heap.objs.size+1:=by rw[Heap.size_update,size_push']
 let G:(((s.heap.push (seqObj "list" #[] 0)).update s.heap.objs.size (Obj.mapSeq (·++vs.toArray))).push (seqObj "list" vs.toArray 0)).get? (s.heap.objs.size+1)=some (seqObj "list" vs.toArray 0):=by rw[<-B];show qd _ rfl
 rw[B];show qa (zf (zd slot_list_sort #[_,G,rfl] entry_list_sort (list_sort128 G h2 J (λh' M=>Y h' λb o e=>M b o ?_ ?_) L λz a1 a2=>#[_,rfl,?_]) (args_list_sort _)))
 .show ne_of_lt (lt_succ_of_lt (qe e))
 .let F:b<s.heap.objs.size:=qe e;rw[Heap.get?_push_ne _ _ _ (by rw[B];show ne_of_lt (lt_succ_of_lt F)),Heap.get?_update_ne _ _ _ _ (ne_of_lt F),Heap.get?_push_ne _ _ _ (ne_of_lt F)];show e
 .show qb #[_,rfl,h z a1 a2]
end TS
namespace FL
open PySem PySem.Spec PyProof.Rows L2 PySem.W
section
variable{ps:List (List aL×Addr)}
def rC(ps:List (List aL×Addr))(x:Keyed):Int:=match x.1 with
 |.ref b=>xB (ps.map tK) (ps.findIdx λp=>p.2==b)
 |_=>0
def KQ(G:∀p∈ps,∀q∈ps,p.2=q.2->p.1=q.1){p:List aL×Addr}(B:p∈ps):∃i,∃h:i<ps.length,ps[i]=p/\∀v,rC ps (.ref p.2,v)=xB (ps.map tK) i:=by
 let z:ps.findIdx (λq=>q.2==p.2)<ps.length:=List.findIdx_lt_length_of_exists #[p,B,by simp];let e:=List.findIdx_getElem (p:=λq:List aL×Addr=>q.2==p.2) (w:=z);let F:ps[ps.findIdx (λq=>q.2==p.2)].2=p.2:=↑e
 show#[_,z,Prod.ext (G _ (getElem_mem z) _ B F) F,λ_=>rfl]
def KC(B:∀p∈ps,∀q∈ps,p.2=q.2->p.1=q.1)(hs:∀p∈ps,dX sh (p.1.map aG)){p q:List aL×Addr}(z:p∈ps)(L:q∈ps){u v:Value}:decide (rC ps (.ref p.2,u)<rC ps (.ref q.2,v))=!dP (tK q) (tK p):=by
 let#[i,hi,ei,J]:=KQ B z;let#[j,F,Y,G]:=KQ B L;let M:∀d∈ps.map tK,dR sh d:=λd O=>by let#[p,z,rfl]:=qJ.mp O;show hs p z
 let:=OR (GD sh) M (i:=i) (j:=j) (by rw[qo];show hi) (by rw[qo];show F);rw[J,G,this];simp[hi,F,ei,Y]
def MU{b:Bool}(B:∀p∈ps,kU s.heap p.2 p.1/\dX sh (p.1.map aG))(hu:∀p∈ps,∀q∈ps,p.2=q.2->p.1=q.1):TS.Cmp (model prog w) A E s (tuples' b) (λx=>∃p∈ps,x=(.ref p.2,.ref p.2)) (rC ps):=by
 show#[λx y Q st F⟨p,v,ex⟩⟨q,M,ey⟩ h=>?_];subst ex ey;rw[KC hu (λp v=>(B p v).2) v M]at h;rw[lt'_eq];show wpS_bind (wpS_get ?_);rw[F];let#[#[O,r,o,e,c,n,d],L]:=B _ v;let#[#[z,G,o',e',c',n',d'],J]:=B _ M;rw[show dP (tK q) (tK p)=_ from EA J L,Bool.not_not]at h;show wpS_bind (wpS_lift (wpAny_attempt (kat_lt e d e' d' ?_)));let l1:O.toArray.size=p.1.length:=by rw[qr,<-r.length,qo]
 let Y:z.toArray.size=q.1.length:=by rw[qr,<-G.length,qo]
 rw[l1,Y];show VL 0 r G L J #[rfl,wpS_pure h]
def NF{t:Bool}(J:∀p∈ps,kU s.heap p.2 p.1/\dX (t::sh) (p.1.map aG))(h2:2<=ps.length){Q:SortKind->Shared->Prop}(h:Q (tuples' true) s):wpAny (model prog w) A (keyKind' (ps.map λp=>Value.ref p.2).toArray) Q E s:=by
 let#[fs,G,L,F]:=Cv J;cases t
 .show kat_kind (T:=.type "int") G ∅ (λv B=>?_) (by rfl) h;let#[z,u,rfl]:=F v B;show Looks.of_pure rfl
 .show kat_kind (T:=.type "str") G ∅ (λv B=>?_) (by rfl) h;let#[z,u,rfl]:=F v B;show Looks.of_pure rfl
def Na(L:∀p∈ps,dX sh (p.1.map aG))(J:∀p∈ps,∀q∈ps,p.2=q.2->p.1=q.1){z:List Value}(M:z.Perm (ps.map λp=>Value.ref p.2))(G:z.Pairwise λu v=>rC ps (u,u)<=rC ps (v,v)):
  ∃B:List (List aL×Addr),z=(B.map λp=>Value.ref p.2)/\B.Perm ps/\(B.map tK).Pairwise (dP · ·=true):=by
 let#[B,rfl,F]:=HW M;show#[B,rfl,F,?_];rw[pairwise_map]at G⊢;show G.imp_of_mem λ{p q} h1 h2 r=>?_;let:=KC J L (F.mem_iff.mp h2) (F.mem_iff.mp h1) (u:=.ref q.2) (v:=.ref p.2);rw[qR ∅]at this;simpa using this.symm
def LA:∀v∈ps.map (λp=>Value.ref p.2),∃p∈ps,(v,v)=(Value.ref p.2,Value.ref p.2):=λv z=>by let#[p,B,rfl]:=qJ.mp z;show#[p,B,rfl]
end
section
variable{K:W.Frag}
def fK(K:W.Frag):List V->Hp->VK->Prop:=λxs H Q=>∃a vs,xs=[.ref a]/\(bL K H a vs\/H a=some (.set vs))/\
 ((vs.length<2/\∀q,H q=none->Q (.ref q) (upd H q (.lst vs)))\/
 ∃(ps:List (List aL×Addr))(sh:List Bool),vs=ps.map (λp=>V.ref p.2)/\2<=ps.length/\ps.length<128/\(∀p∈ps,H p.2=some (.tup (p.1.map kV))/\dX sh (p.1.map aG))/\sh≠[]/\∀v:List (List aL×Addr),v.Perm ps->(v.map tK).Pairwise (dP · ·=true)->∀q,H q=none->Q (.ref q) (upd H q (.lst (v.map λp=>V.ref p.2))))
def Nu:∀{l m:List aL},l.map kV=m.map kV->l=m
 |[],[],_=>rfl
 |[],_::_,h=>nomatch h
 |_::_,[],h=>nomatch h
 |a::l,b::m,h=>by let#[h1,h2]:=List.cons.inj h;rw[Nu h2];cases a<;>cases b<;>first|cases h1;rfl|nomatch h1
def LH{H:Hp}{ps:List (List aL×Addr)}(F:∀p∈ps,H p.2=some (.tup (p.1.map kV))):∀p∈ps,∀q∈ps,p.2=q.2->p.1=q.1:=λp B q v e=>by let z:=F p B;rw[e,F q v]at z;show(Nu (HO.tup.inj (qf z))).symm
def Jj(I:Inv X zF Z H s){F:Shared}{D:Addr}{B:Array Value}{e:Nat}{J:List V}(O:zC J B.toList)(hw:J.length<=1000)(hD:F.heap.get? D=some (seqObj "list" B e))(G:s.heap.get? D=none)(L:∀b o,s.heap.get? b=some o->F.heap.get? b=some o)(hg:F.gens=s.gens)(Y:F.os=s.os)(q:∀q,H q=none->Q (.ref q) (upd H q (.lst J))):EP X zF Z Q (.ref D) F:=by
 let#[h2,g2,d2,M,o2]:=F;subst hg Y;show#[.ref D,_,Inv.laidD (s:=s) (t':=M) (d':=d2) (o:=.lst J) I (λm x=>x.at' λo e=>L _ o e) (λb u _ e=>L b u e) G ?_,rfl,q D ?_]
 .show#[by rw[ze];lia,B.toList,e,O,by rw[toArray_toList];show hD]
 .cases e:H D with
  |none=>rfl
  |some u=>let#[v,z]:=zE.there (I.hok D u e);rw[G]at z;cases z
def Vq(hh:X.A.handled=none):aR X (.builtin "sorted") (fK X.K):=by
 intro zF s Z H xs us Q I r h;let#[a,vs,rfl,z,h]:=h;cases r with
 |cons r1 r2=>
  cases r2;cases r1;let h8:=λ{s2 D h5 e ws}=>@Jj X zF Z H s Q I s2 D h5 e ws;let h9:∀{h':Heap},(∀b o,s.heap.get? b=some o->h'.get? b=some o)->∀b u,b≠X.env.locals->s.heap.get? b=some u->h'.get? b=some u:=λk b u _ e=>k b u e;rcases z with z|z
  .rcases h with⟨h2,q⟩|⟨ps,sh,rfl,h2,J,hp,h7,q⟩
   .show VA zF s Z H [.ref a] [.ref a] Q I (.cons rfl .nil) #[a,vs,rfl,z,h2,q]
   .obtain⟨e3,rv,pl,_⟩:=I.list z;let hv:=IT rv;subst hv;let hu:=LH λp h=>(hp p h).1;let#[t,O,rfl]:=List.exists_cons_of_ne_nil h7;refine TS.sorted128 (ok:=λx=>∃p∈ps,x=(.ref p.2,.ref p.2)) (rk:=rC ps) (κ:=tuples' true) pl.isList (by rw[qo];show h2) (by rw[qo];show J) (λh' k=>?_) LA λh5 a1 a2=>?_
    .let ht:∀p∈ps,kU h' p.2 p.1/\dX (t::O) (p.1.map aG):=λp v=>#[LF I (h9 k) (hp p v).1,(hp p v).2]
     show#[λQ hQ=>NF (s:={s with heap:=h'}) ht h2 hQ,MU (s:={s with heap:=h'}) ht hu]
    .obtain⟨Y,rfl,pq,pw⟩:=Na (λp v=>(hp p v).2) hu a1 a2;let#[e,he]:=sortedAll_at s.heap (ps.map λp=>Value.ref p.2) (Y.map λp=>Value.ref p.2).toArray;show h8 (Jb Y) (by rw[qo,pq.length_eq];lia) he (Heap.get?_none_of_le (le_succ _)) (λb o w=>sortedAll_old w) rfl rfl (q Y pq pw)
  .obtain⟨es,ep,t,us,h1,h2,h3,h4,pu,hv,hl⟩:=KG I z;let none_of:∀{L:Shared},(∀b o,s.heap.get? b=some o->L.heap.get? b=some o)->s.heap.get? L.heap.objs.size=none:=λ{L} F=>by
    cases q:s.heap.get? L.heap.objs.size with
    |none=>rfl
    |some o=>show absurd (ST.lt_of_get (F _ _ q)) (lt_irrefl _)
   rcases h with⟨G,q⟩|⟨ps,sh,rfl,G,J,hp,h7,q⟩
   .show ST.sorted_set hh (GT I z) h1 h2 h3 h4 ∅ λL ord h6 F hg ho ht new=>?_;let#[ws,pw,M]:=MJ hv (h6.map (·.2));let ew:ws=vs:=Tc (pw.trans pu) G;subst ew;let e2:(ord.map (·.2)).length<2:=by rw[<-M.length];exact G
    show LU new e2 #[_,rfl,?_];let#[e,he]:=ST.sortedHeap_at new (ord.map (·.2)).toArray;show h8 M ∅ he (none_of F) (λb o e=>ST.sortedHeap_old (ne_of_lt (ST.lt_of_get (F b o e))) (qc _ (F b o e)) _) hg ho q
   .rw[qo]at hl;show ST.sorted_set hh (GT I z) h1 h2 h3 h4 ∅ λL ord h6 F hg ho ht new=>?_;let#[ws,pw,M]:=MJ hv (h6.map (·.2));let#[B,rfl,pp]:=HW (pw.trans pu);let e1:=IT M;rw[e1]at new⊢;let v:∀p∈B,H p.2=some (.tup (p.1.map kV))/\dX sh (p.1.map aG):=λp h=>hp p (pp.mem_iff.mp h);let hu:=LH λp h=>(v p h).1;let#[t,O,rfl]:=List.exists_cons_of_ne_nil h7;refine TS.list_sort128 (s:={L with heap:=L.heap.push (seqObj "list" (B.map λp=>Value.ref p.2).toArray 0)}) (ok:=λx=>∃p∈B,x=(.ref p.2,.ref p.2)) (rk:=rC B) (κ:=tuples' true) new (by rw[qo,pp.length_eq];show G) (by rw[qo,pp.length_eq];show J) (λh' k=>?_) LA λh5 a1 a2=>#[_,rfl,?_]
    .let ht:∀p∈B,kU h' p.2 p.1/\dX (t::O) (p.1.map aG):=λp z=>#[LF I (λb u _ e=>k b u (ne_of_lt (ST.lt_of_get (F b u e))) (qc _ (F b u e))) (v p z).1,(v p z).2]
     show#[λQ hQ=>NF (s:={L with heap:=h'}) ht (by rw[pp.length_eq];show G) hQ,MU (s:={L with heap:=h'}) ht hu]
    .obtain⟨Y,rfl,pq,pw⟩:=Na (λp z=>(v p z).2) hu a1 a2;let#[e,he]:=ST.sortedHeap_at new (Y.map λp=>Value.ref p.2).toArray;show h8 (Jb Y) (by rw[qo,pq.length_eq,pp.length_eq];lia) he (none_of F) (λb o e=>ST.sortedHeap_old (ne_of_lt (ST.lt_of_get (F b o e))) (qc _ (F b o e)) _) hg ho (q Y (pq.trans pp) pw)
def ND:cM K (fK K) vO:=by
 intro Z U F G H vs ds s Q z Y e O;let#[d,v,rfl,rfl]:=Be (λx y r=>by cases x<;>rfl) rfl Y e;let B:∀{a:Addr}{xs:List V}{l:List D},(bL K H a xs\/H a=some (.set xs))->zD K F xs l->gE l=some s->fK K [.ref a] H Q:=λ{a xs l} h3 r e=>by
  unfold gE at e;split at e
  .rename_i hc;cases e;show#[a,xs,rfl,h3,?_];let#[J,hc]:=hc;let h5:=r.len;by_cases h2:l.length<2
   .show .inl #[∅,λq hn=>?_];rw[Ui h2]at O;show O _ F _ (zp.refl F) (z.newLD hn r)
   .obtain⟨sh,h4,L⟩:=hc.resolve_left h2;let M:l.all (aV true)=true:=qH.mpr λd hd=>by let:=L d hd;cases d<;>first|exact this.elim|exact Ly this
    let#[ps,rfl,rfl,hf]:=Jh r M;rw[qo]at J h2;show .inr #[ps,sh,rfl,∅,J,λp hp=>#[z.fr _ _ (hf p hp),L (tK p) (qJ.mpr #[p,hp,rfl])],h4,λqs pq pw q hn=>?_];rw[Gj (GD sh) L (pq.map tK) pw]at O;show O _ F _ (zp.refl F) (z.newLD hn (zD.of_all λi hi=>zD.to_all r i (pq.mem_iff.mp hi)))
  .cases e
 cases d with
 |lst l=>let#[a,xs,rfl,h1,r1]:=Y.1.lst z.fr;show B (.inl h1) r1 e
 |set l=>let#[a,xs,rfl,h1,r1]:=bC.set Y.1;show B (.inr (z.fr _ _ h1)) r1 e
 |_=>cases e
def iZ(K:W.Frag):List V->Hp->VK->Prop:=λxs H Q=>fK K xs H Q\/∃a vs,xs=[.ref a]/\(bL K H a vs\/H a=some (.set vs))/\((∃ns:List Int,vs=ns.map V.int/\ns.length<64/\∀z:List Int,z.Perm ns->z.Pairwise (·<=·)->∀q,H q=none->Q (.ref q) (upd H q (.lst (z.map V.int))))\/
 ∃B:List Str,vs=B.map V.str/\B.length<64/\∀v:List Str,v.Perm B->sortedS v=true->∀q,H q=none->Q (.ref q) (upd H q (.lst (v.map V.str))))
def Vf(Y:X.A.handled=none):aR X (.builtin "sorted") (iZ X.K):=by
 intro zF s Z H xs us Q I r h;rcases h with h|⟨a,vs,rfl,z,h⟩
 .show Vq Y zF s Z H xs us Q I r h
 .cases r with
  |cons r1 r2=>
   cases r2;cases r1;rcases z with z|z
   .rcases h with⟨ns,rfl,v,q⟩|⟨zs,rfl,v,q⟩
    .show NQ zF s Z H [.ref a] [.ref a] Q I (.cons rfl .nil) #[a,rfl,.inl #[ns,v,z,q]]
    .show NQ zF s Z H [.ref a] [.ref a] Q I (.cons rfl .nil) #[a,rfl,.inr #[zs,v,z,q]]
   .obtain⟨es,ep,t,us,h1,h2,h3,h4,pu,hv,hl⟩:=KG I z;rcases h with⟨ns,rfl,v,q⟩|⟨zs,rfl,v,q⟩
    .obtain⟨ms,rfl,G⟩:=HW pu;rw[qo]at hl;show ST.sorted_set_ints Y (GT I z) h1 h2 h3 h4 ∅ (Ie hv) λs2 D L e B a1 J a3 hD F O hg M ht=>Jj I (Gv a1) (by rw[qo,J.length_eq,G.length_eq];lia) hD F O hg M (q B (J.trans G) a3)
    .obtain⟨ms,rfl,G⟩:=HW pu;rw[qo]at hl;show ST.sorted_set_strs Y (GT I z) h1 h2 h3 h4 ∅ (Ic hv) λs2 D L e B a1 J a3 hD F O hg M ht=>Jj I (Ju a1) (by rw[qo,J.length_eq,G.length_eq];lia) hD F O hg M (q B (J.trans G) a3)
def Vp:cM K (iZ K) cH:=by
 intro Z U F G H vs ds s Q B O e M;let#[d,v,rfl,rfl]:=Be (λx y r=>by cases x<;>rfl) rfl O e;let J:∀{a:Addr}{xs:List V}{l:List D},(bL K H a xs\/H a=some (.set xs))->zD K F xs l->bN l=some s->(gE l=some s->fK K [.ref a] H Q)->iZ K [.ref a] H Q:=λ{a xs l} h2 r e h8=>by
  unfold bN at e;split at e
  .rename_i hc;rcases hc with⟨h3,hi|hs⟩|h
   .cases e;let#[ns,q1]:=isSome_iff_exists.mp hi;let#[e1,e2]:=Mq r q1;subst e1 e2;show .inr #[a,_,rfl,h2,.inl #[ns,rfl,by rwa[qo]at h3,λY p pw q hn=>?_]];rw[Gj HP (m:=Y.map D.int) (λd hd=>by let#[z,_,rfl]:=qJ.mp hd;trivial) (p.map _) (pairwise_map.mpr (pw.imp λ{a b} h=>by rw[Lr];show qQ h))]at M;show M _ F _ (zp.refl F) (B.newLD hn (Jr Y))
   .cases e;let#[ys,q2]:=isSome_iff_exists.mp hs;let#[zs,e1,e2]:=LJ r q2;subst e1;let#[e3,sm]:=Nr r rfl;subst e3;show .inr #[a,_,rfl,h2,.inr #[zs,rfl,by rwa[qo]at h3,λL p pw q hn=>?_]];rw[Gj IZ (m:=L.map λz=>D.str z.cps.toList) (λd hd=>by let#[z,_,rfl]:=qJ.mp hd;trivial) (p.map _) (Ve L pw)]at M;show M _ F _ (zp.refl F) (B.newLD hn (ML L λz hz=>sm z (p.mem_iff.mp hz)))
   .show .inl (h8 (by unfold gE;rw[qZ h];show e))
  .cases e
 cases d with
 |lst l=>let#[a,xs,rfl,h1,r1]:=O.1.lst B.fr;show J (.inl h1) r1 e λe8=>ND Z U F G H _ [.lst l] s Q B O e8 M
 |set l=>let#[a,xs,rfl,h1,r1]:=bC.set O.1;show J (.inr (B.fr _ _ h1)) r1 e λe8=>ND Z U F G H _ [.set l] s Q B O e8 M
 |_=>cases e
def Gf{k:Nat}(B:bR k X.A)(G:Gl X "sorted")(F:X.mg "sorted"=none)(z:bootBuiltins "sorted"=some (.builtin "sorted"))(L:FA X (e::es) wa)(J:starEach (e::es) X.env=(false,eval e X.env)::starEach es X.env:=by rfl)(v:(backTo pos (starEach es X.env)).any (·.1)=false:=by rfl):FE X (.Call (.Name "sorted" p) (e::es) [] pos) (wB cH wa):=
 GX (λpn xe=>Vf (X:=wp X pn xe) B.hd) Vp G F z L ⋯ ⋯ J v
end
end FL
namespace FL
mutual
def oJ:D->D->Bool
 |.int _,.int _=>true
 |.tup l,.tup m=>eQ l m
 |_,_=>false
def eQ:List D->List D->Bool
 |a::l,b::m=>oJ a b&&eQ l m
 |_,_=>true
end
end FL
namespace FL
open PySem PySem.Spec PyProof.Rows L2
open PySem.SeqAt AutoSeq1
def yI:cA (.int i) (.int j)=if i<j then .lt else if j<i then .gt else .eq:=rfl
mutual
def Sm:∀(d:D),oJ d d=true->cA d d=.eq
 |.int i,_=>by rw[yI,q4 (Int.lt_irrefl i),q4 (Int.lt_irrefl i)]
 |.tup l,h=>Mu l h
 |.non,h|.bl _,h|.str _,h|.lst _,h|.dct ..,h|.set _,h|.exc ..,h=>by cases h
def Mu:∀(l:List D),eQ l l=true->aS l l=.eq
 |[],_=>by rw[aS]
 |d::l,h=>by rw[eQ,and_eq_true]at h;rw[aS,Sm d h.1];show Mu l h.2
end
mutual
def Oz:∀(d e:D),oJ d e=true->cA d e=.eq->d=e
 |.int i,e,h,c=>by
  cases e with
  |int j=>
   rw[yI]at c;split at c
   .cases c
   .split at c
    .cases c
    .rw[show i=j by lia]
  |_=>cases h
 |.tup l,e,h,c=>by
  cases e with
  |tup m=>rw[Ln l m h c]
  |_=>cases h
 |.non,_,h,_|.bl _,_,h,_|.str _,_,h,_|.lst _,_,h,_|.dct ..,_,h,_|.set _,_,h,_|.exc ..,_,h,_=>by cases h
def Ln:∀(l m:List D),eQ l m=true->aS l m=.eq->l=m
 |[],[],_,_=>rfl
 |[],_::_,_,c=>by rw[aS]at c;cases c
 |_::_,[],_,c=>by rw[aS]at c;cases c
 |d::l,e::m,h,c=>by
  rw[eQ,and_eq_true]at h;rw[aS]at c;cases q:cA d e with
  |eq=>rw[q]at c;rw[Oz d e h.1 q,Ln l m h.2 c]
  |lt=>rw[q]at c;cases c
  |gt=>rw[q]at c;cases c
end
mutual
def UX:∀(d e:D),oJ d e=true->aO d e=false
 |.int i,e,h=>by cases e<;>first|rfl|cases h
 |.tup l,e,h=>by
  cases e with
  |tup m=>show Nn l m h
  |_=>cases h
 |.non,_,h|.bl _,_,h|.str _,_,h|.lst _,_,h|.dct ..,_,h|.set _,_,h|.exc ..,_,h=>by cases h
def Nn:∀(l m:List D),eQ l m=true->bH l m=false
 |[],[],_=>rfl
 |[],_::_,_=>rfl
 |_::_,[],_=>rfl
 |d::l,e::m,h=>by rw[eQ,and_eq_true]at h;show(aO d e||bH l m)=false;rw[UX d e h.1,Nn l m h.2];rfl
end
end FL
namespace FL
def e_C:wC d U Q E=Q (.v (.sh d)) U:=rfl
def kV(o:Option S)(Q:WQ)(U:Env):Prop:=zo o λs=>Q (.v s) U
def e_V:kV (some s) Q U=Q (.v s) U:=rfl
def xY(o:D->D->Option S)(x y:Option D)(Q:WQ)(U:Env):Prop:=zo x λp=>zo y λq=>kV (o p q) Q U
def mK(o:D->D->Option S)(x:R)(Q:WQ):WQ:=λy v=>xY o (zB x v) (zB y v) Q v
def rM(o:D->D->Option S)(b:WE)(Q:WQ)(E:WX):WQ:=λx v=>b v (mK o x Q) E
def zp5:zx o a b U Q E=a U (rM o b Q E) E:=rfl
def zl1:rM o b Q E x U=b U (mK o x Q) E:=rfl
def uG(o:D->Option S)(x:Option D)(Q:WQ)(U:Env):Prop:=zo x λp=>kV (o p) Q U
def iq(o:D->Option S)(Q:WQ):WQ:=λx U=>uG o (zB x U) Q U
def e_Un{o:D->Option S}:wL o a U Q E=a U (iq o Q) E:=rfl
def zoR{o:D->Option S}:iq o Q x U=uG o (zB x U) Q U:=rfl
def zpa{o:D->Option S}:uG o (some p) Q U=kV (o p) Q U:=rfl
def kC(o:Option Bool)(Q:Bool->Env->Prop)(U:Env):Prop:=zo o λc=>Q c U
def e_Ck{c:Bool}:kC (some c) QT U=QT c U:=rfl
def kL(o:D->D->Option Bool)(x y:Option D)(Q:Bool->Env->Prop)(U:Env):Prop:=zo x λp=>zo y λq=>kC (o p q) Q U
def iG(o:D->D->Option Bool)(x:R)(Q:Bool->Env->Prop):WQ:=λy v=>kL o (view x v) (view y v) Q v
def rK(o:D->D->Option Bool)(b:WE)(Q:Bool->Env->Prop)(E:WX):WQ:=λx v=>b v (iG o x Q) E
def zpW:aW v a b U QT E=a U (rK v b QT E) E:=rfl
def znK:rK v b QT E x U=b U (iG v x QT) E:=rfl
def zlI:kL v (some p) (some q) QT U=kC (v p q) QT U:=rfl
def jB(x:Option D)(Q:Bool->Env->Prop)(U:Env):Prop:=zo x λp=>kC (hW p) Q U
def rJ(Q:Bool->Env->Prop):WQ:=λx U=>jB (view x U) Q U
def zmw:gD a U QT E=a U (rJ QT) E:=rfl
def zka:rJ QT x U=jB (view x U) QT U:=rfl
def zj1:jB (some p) QT U=kC (hW p) QT U:=rfl
def vH(b:WT)(Q:Bool->Env->Prop)(E:WX):Bool->Env->Prop:=λc v=>if c then b v Q E else Q false v
def zqz:gC t u U QT E=t U (vH u QT E) E:=rfl
def zmC:vH u QT E true U=u U QT E:=rfl
def zmr:vH u QT E false U=QT false U:=rfl
def iy(b:WT)(Q:Bool->Env->Prop)(E:WX):Bool->Env->Prop:=λc v=>if c then Q true v else b v Q E
def e_Or:lA t u U QT E=t U (iy u QT E) E:=rfl
def zpy:iy u QT E false U=u U QT E:=rfl
def xS(Q:Bool->Env->Prop):Bool->Env->Prop:=λc v=>Q (!c) v
def zoH:gB t U QT E=t U (xS QT) E:=rfl
def znj{c:Bool}:xS QT c U=QT (!c) U:=rfl
def xR(Q:WQ):Bool->Env->Prop:=λc v=>Q (.v (.sh (.bl c))) v
def zpE:fG t U Q E=t U (xR Q) E:=rfl
def zmU{c:Bool}:xR Q c U=Q (.v (.sh (.bl c))) U:=rfl
def zoN:zl U QA E=QA [] U:=rfl
def jC(r:R)(Q:List R->Env->Prop):List R->Env->Prop:=λv U=>Q (r::v) U
def mJ(b:WA)(Q:List R->Env->Prop)(E:WX):WQ:=λr v=>b v (jC r Q) E
def znr:zk a wa U QA E=a U (mJ wa QA E) E:=rfl
def zkF:mJ wa QA E r U=wa U (jC r QA) E:=rfl
def zkI:jC r QA rs U=QA (r::rs) U:=rfl
def yF(s:S):Option (List S×Env)->Option (List S×Env)
 |some (ss,U)=>some (s::ss,U)
 |none=>none
def gn(rs:List R):Option (S×Env)->Option (List S×Env)
 |some (s,U)=>yF s (aK rs U)
 |none=>none
def zqo:aK [] U=some ([],U):=rfl
theorem e_gA:aK (r::rs) U=gn rs (give r U):=by
 rw[aK];unfold gn;cases give r U with
 |none=>rfl
 |some z=>let#[s,v]:=z;show(match aK rs v with|some (ss,U2)=>some (s::ss,U2)|none=>none)=yF s (aK rs v);unfold yF;rfl
def zqS:gn rs (some (s,U))=yF s (aK rs U):=rfl
def zoE:yF s (some (ss,U))=some (s::ss,U):=rfl
def e_gv:give (.v s) U=some (s,U):=rfl
def kE(l:Bool)(x:Option (List S×Env))(Q:WQ):Prop:=zo (if l then x else none) λp=>Q (.v (.sh (.tup (p.1.map S.toD)))) p.2
def kK(l:Bool)(x:Option (List S×Env))(Q:WQ):Prop:=zo (if l then x else none) λp=>Q (.v (.lst p.1)) p.2
def dA(rs:List R):Bool:=decide (rs.length<=big)
def uH(Q:WQ):List R->Env->Prop:=λv U=>kE (dA v) (aK v U) Q
def uQ(Q:WQ):List R->Env->Prop:=λv U=>kK (dA v) (aK v U) Q
theorem zp7:dJ wa U Q E=wa U (uH Q) E:=by unfold dJ uH kE dA;simp
def zl4:uH Q rs U=kE (dA rs) (aK rs U) Q:=rfl
def zmE:kE true (some (ss,U)) Q=Q (.v (.sh (.tup (ss.map S.toD)))) U:=rfl
theorem zox:cZ wa U Q E=wa U (uQ Q) E:=by unfold cZ uQ kK dA;simp
def zm9:uQ Q rs U=kK (dA rs) (aK rs U) Q:=rfl
def zns:kK true (some (ss,U)) Q=Q (.v (.lst ss)) U:=rfl
def e_l0:dA []=true:=rfl
def e_l1:dA [v]=true:=rfl
def e_l2:dA [z,v]=true:=rfl
def e_l3:dA [B,z,v]=true:=rfl
def e_l5:dA [G,F,B,z,v]=true:=rfl
def e_vv:view (.v s) U=some s.toD:=rfl
def e_vl:view (.loc i) U=(slot U i).map S.toD:=rfl
def e_cv:zB (.v s) U=some s.toD:=rfl
def vC:Option S->Option D
 |some s=>if s.flat then some s.toD else none
 |none=>none
theorem e_cl:zB (.loc i) U=vC (slot U i):=by unfold zB vC;rfl
theorem znk(h:l.all S.isSh=true):vC (some (.lst l))=some (.lst (l.map S.toD)):=by show(if l.all S.isSh=true then some (S.toD (.lst l))else none)=_;rw[qZ h,S.toD_lst]
theorem e_sh{l:List D}:(l.map S.sh).all S.isSh=true:=by simp[S.isSh]
theorem zao{l:List D}:(l.map S.sh).map S.toD=l:=by rw[qD];show map_id l
theorem zp6:vC (some (.lst (l.map S.sh)))=some (.lst l):=by rw[znk e_sh,zao]
def pG(o:Option S)(Q:WQ)(U:Env):Prop:=match o with|some (.sh d)=>Q (.v (.sh d)) U|_=>False
def pH(o:Option S)(q:D)(Q:WQ)(U:Env):Prop:=match o with|some s=>pG (jE s q) Q U|none=>False
def mG(x:R)(o:Option D)(Q:WQ)(U:Env):Prop:=zo o λq=>match x with|.v s=>kV (jE s q) Q U|.loc i=>pH (slot U i) q Q U
def pI(x:R)(Q:WQ):WQ:=λy v=>mG x (view y v) Q v
def uR(b:WE)(Q:WQ)(E:WX):WQ:=λx v=>b v (pI x Q) E
theorem e_Ix:cX a b U Q E=a U (uR b Q E) E:=by unfold cX uR pI mG pH pG kV;rfl
def zqf:uR b Q E x U=b U (pI x Q) E:=rfl
def zpN:pI x Q y U=mG x (view y U) Q U:=rfl
def znN:mG (.v s) (some q) Q U=kV (jE s q) Q U:=rfl
def zlo:mG (.loc i) (some q) Q U=pH (slot U i) q Q U:=rfl
def zoB:pH (some s) q Q U=pG (jE s q) Q U:=rfl
def zoP:pG (some (.sh d)) Q U=Q (.v (.sh d)) U:=rfl
def zoJ:jE (.sh (.tup l)) (.int z)=(atI l z).map S.sh:=rfl
def zog:jE (.sh (.lst l)) (.int z)=(atI l z).map S.sh:=rfl
def zqr:jE (.sh (.str l)) (.int z)=(atI l z).map λc=>S.sh (.str [c]):=rfl
def zqH:jE (.lst l) (.int z)=atI l z:=rfl
def DJ(B:0<=z)(h:l[z.toNat]?=some v):atI l z=some v:=by let:z.toNat<l.length:=(qg.mp h).1;unfold atI ixN;rw[qZ B,qZ ∅];show h
theorem zqm:atI (v::l) 0=some v:=DJ ⋯ rfl
theorem zpb:atI (z::v::l) 1=some v:=DJ ⋯ rfl
theorem zoY:atI (B::z::v::l) 2=some v:=DJ ⋯ rfl
theorem zqP:atI (F::B::z::v::l) 3=some v:=DJ ⋯ rfl
theorem zoU:atI (G::F::B::z::v::l) 4=some v:=DJ ⋯ rfl
def pA(s:S):Option (List S×Env)->Option (List S×Env)
 |some (ss,U)=>some (s::ss,U)
 |none=>none
theorem e_p0:cF ms [] U=some ([],U):=by cases ms<;>rfl
theorem e_pv:cF (h::ms) (.v s::rs) U=pA s (cF ms rs U):=by rw[cF];unfold pA;rfl
def pL(i:Nat)(o:Option S)(ms:List Bool)(rs:List R)(U:Env):Option (List S×Env):=match o with
 |some s=>pA s (cF ms rs (U.set i none))
 |none=>none
theorem e_pl:cF (true::ms) (.loc i::rs) U=pL i (slot U i) ms rs U:=by rw[cF];unfold pL pA;cases slot U i<;>rfl
def zqC:pL i (some s) ms rs U=pA s (cF ms rs (U.set i none)):=rfl
def e_pA:pA s (some (ss,U))=some (s::ss,U):=rfl
def e_b0:back ms [] ss U=U:=rfl
def e_bv{s t:S}:back (h::ms) (.v s::rs) (t::ss) U=back ms rs ss U:=rfl
def e_bl{t:S}:back (true::ms) (.loc i::rs) (t::ss) U=back ms rs ss (U.set i (some t)):=rfl
def mI(ms:List Bool)(rs:List R)(U:Env)(Q:WQ):S->List S->Prop:=λs v=>Q (.v s) (back ms rs v U)
def xX(ms:List Bool)(rs:List R)(U:Env)(E:WX):D->List S->Prop:=λx v=>E x (back ms rs v U)
def jD(f:WF)(ms:List Bool)(rs:List R)(o:Option (List S×Env))(Q:WQ)(E:WX):Prop:=zo o λp=>f p.1 (mI ms rs p.2 Q) (xX ms rs p.2 E)
def rL(f:WF)(ms:List Bool)(Q:WQ)(E:WX):List R->Env->Prop:=λv U=>jD f ms v (cF ms v U) Q E
def znL:zz f ms wa U Q E=wa U (rL f ms Q E) E:=rfl
def zk0:rL f ms Q E rs U=jD f ms rs (cF ms rs U) Q E:=rfl
def zke:jD f ms rs (some (ss,U)) Q E=f ss (mI ms rs U Q) (xX ms rs U E):=rfl
def zl8:mI ms rs U Q s ss=Q (.v s) (back ms rs ss U):=rfl
def vA:Option D->Option (List D)->Option (List D)
 |some d,some ds=>some (d::ds)
 |_,_=>none
def fH(rs:List R)(U:Env):Option (List D):=match rs with
 |[]=>some []
 |r::rs=>vA (zB r U) (fH rs U)
def IU:∀rs:List R,(rs.mapM λr=>zB r U)=fH rs U
 |[]=>rfl
 |r::rs=>by
  rw[List.mapM_cons,IU rs,fH];cases zB r U with
  |none=>rfl
  |some d=>cases fH rs U<;>rfl
def zn6:fH [] U=some []:=rfl
def e_vA:fH (r::rs) U=vA (zB r U) (fH rs U):=rfl
def zpG:vA (some d) (some ds)=some (d::ds):=rfl
def vG(f:List D->Option S)(o:Option (List D))(Q:WQ)(U:Env):Prop:=zo o λv=>kV (f v) Q U
def kB(f:List D->Option S)(Q:WQ):List R->Env->Prop:=λv U=>vG f (fH v U) Q U
theorem e_B:wB f wa U Q E=wa U (kB f Q) E:=by unfold wB kB vG kV;simp only[IU]
def e_B1:kB f Q rs U=vG f (fH rs U) Q U:=rfl
def e_B2:vG f (some ds) Q U=kV (f ds) Q U:=rfl
def pE(f:List Nat->List D->Option S)(l:List Nat)(Q:WQ):List R->Env->Prop:=λv U=>vG (f l) (fH v U) Q U
def ft(f:List Nat->List D->Option S)(wa:WA)(Q:WQ)(E:WX):WQ:=λx U=>match x with
 |.v (.sh (.str l))=>wa U (pE f l Q) E
 |_=>False
theorem e_MS:vV f a wa U Q E=a U (ft f wa Q E) E:=by unfold vV ft pE vG kV;simp only[IU];all_goals rfl
def zpI:ft f wa Q E (.v (.sh (.str l))) U=wa U (pE f l Q) E:=rfl
def zqt:pE f l Q rs U=vG (f l) (fH rs U) Q U:=rfl
def pO(j:Nat)(s:S)(o:Option S)(U:Env)(Q:WQ):Prop:=match o with
 |some (.lst l)=>l.length<big/\Q (.v (.sh .non)) (U.set j (some (.lst (l++[s]))))
 |_=>False
def pP(j:Nat)(o:Option (S×Env))(Q:WQ):Prop:=zo o λp=>pO j p.1 (slot p.2 j) p.2 Q
def pQ(j:Nat)(Q:WQ):WQ:=λr U=>pP j (give r U) Q
def fz(j:Nat)(o:Option S)(a:WE)(U:Env)(Q:WQ)(E:WX):Prop:=match o with
 |some (.lst _)=>a U (pQ j Q) E
 |_=>False
theorem e_Ap:bX j a U Q E=fz j (slot U j) a U Q E:=by unfold bX fz pQ pP pO;rfl
def zo4:fz j (some (.lst l)) a U Q E=a U (pQ j Q) E:=rfl
def zpP:pQ j Q r U=pP j (give r U) Q:=rfl
def zpR:pP j (some (s,U)) Q=pO j s (slot U j) U Q:=rfl
def zqx:pO j s (some (.lst l)) U Q=(l.length<big/\Q (.v (.sh .non)) (U.set j (some (.lst (l++[s]))))):=rfl
def kI(j:Nat)(o:Option D)(p:Option S)(U:Env)(Q:WQ):Prop:=match o,p with
 |some (.int i),some (.lst l)=>zo (if l.length<=big then ixN l.length i else none) λk=>zo l[k]? λs=>Q (.v s) (U.set j (some (.lst (l.eraseIdx k))))
 |_,_=>False
def kJ(j:Nat)(Q:WQ):WQ:=λr U=>kI j (view r U) (slot U j) U Q
def uP(j:Nat)(o:Option S)(a:WE)(U:Env)(Q:WQ)(E:WX):Prop:=match o with
 |some (.lst _)=>a U (kJ j Q) E
 |_=>False
theorem zoM:eL j a U Q E=uP j (slot U j) a U Q E:=by unfold eL uP kJ kI;rfl
def zno:uP j (some (.lst l)) a U Q E=a U (kJ j Q) E:=rfl
def zmI:kJ j Q r U=kI j (view r U) (slot U j) U Q:=rfl
def IH(F:0<=z)(B:l.length<=big)(h:l[z.toNat]?=some s)(v:Q (.v s) (U.set j (some (.lst (l.eraseIdx z.toNat))))):kI j (some (.int z)) (some (.lst l)) U Q:=by
 let:z.toNat<l.length:=(qg.mp h).1;let e:(if l.length<=big then ixN l.length z else none)=some z.toNat:=by unfold ixN;rw[qZ B,qZ F,qZ ∅]
 show zo (if l.length<=big then ixN l.length z else none) _;rw[e,MX,h];show v
def oO(j:Nat)(r:R)(o:Option S)(U:Env)(Q:WQ):Prop:=match r,o with
 |.v (.lst m),some (.lst l)=>l.length+m.length<=big/\Q (.v (.sh .non)) (U.set j (some (.lst (l++m))))
 |_,_=>False
def oP(j:Nat)(Q:WQ):WQ:=λr U=>oO j r (slot U j) U Q
def fh(j:Nat)(o:Option S)(a:WE)(U:Env)(Q:WQ)(E:WX):Prop:=match o with
 |some (.lst _)=>a U (oP j Q) E
 |_=>False
theorem e_Xt:fB j a U Q E=fh j (slot U j) a U Q E:=by unfold fB fh oP oO;rfl
def zph:fh j (some (.lst l)) a U Q E=a U (oP j Q) E:=rfl
def zpf:oP j Q r U=oO j r (slot U j) U Q:=rfl
def znZ{l m:List S}:oO j (.v (.lst m)) (some (.lst l)) U Q=(l.length+m.length<=big/\Q (.v (.sh .non)) (U.set j (some (.lst (l++m))))):=rfl
def zls{t:Bool}:hV t U Q E=Q (.v (.dct t [] [])) U:=rfl
def vE(o:Option D)(p:Option (S×Env))(Q:WQ):Prop:=zo o λq=>zo p λp=>bQ q=true/\Q (.v (.dct false [q] [p.1])) p.2
def vF(x:R)(Q:WQ):WQ:=λy U=>vE (view x U) (give y U) Q
def xW(v:WE)(Q:WQ)(E:WX):WQ:=λx U=>v U (vF x Q) E
def e_Di:iW a b U Q E=a U (xW b Q E) E:=rfl
def zn8:xW b Q E x U=b U (vF x Q) E:=rfl
def zoa:vF x Q y U=vE (view x U) (give y U) Q:=rfl
def zos:vE (some q) (some (s,U)) Q=(bQ q=true/\Q (.v (.dct false [q] [s])) U):=rfl
def zmZ:bQ (.int z)=true:=rfl
def uO(o:Option D)(Q:Option Int->Env->Prop)(U:Env):Prop:=match o with|some (.int i)=>Q (some i) U|_=>False
def ix(Q:Option Int->Env->Prop):WQ:=λx U=>uO (view x U) Q U
def zop{Q:Option Int->Env->Prop}:eO none U Q E=Q none U:=rfl
def e_Pt{Q:Option Int->Env->Prop}:eO (some a) U Q E=a U (ix Q) E:=rfl
def zqT{Q:Option Int->Env->Prop}:ix Q x U=uO (view x U) Q U:=rfl
def zpO{Q:Option Int->Env->Prop}:uO (some (.int z)) Q U=Q (some z) U:=rfl
def uI(o:Option D)(l h:Option Int)(Q:WQ)(U:Env):Prop:=zo o λd=>kV (iY d l h) Q U
def uJ(x:R)(l:Option Int)(Q:WQ):Option Int->Env->Prop:=λh U=>uI (zB x U) l h Q U
def uK(x:R)(hi:Option WE)(Q:WQ)(E:WX):Option Int->Env->Prop:=λl U=>eO hi U (uJ x l Q) E
def ir(lo hi:Option WE)(Q:WQ)(E:WX):WQ:=λx U=>eO lo U (uK x hi Q E) E
def e_Sl:rB a lo hi U Q E=a U (ir lo hi Q E) E:=rfl
def zqM:ir lo hi Q E x U=eO lo U (uK x hi Q E) E:=rfl
def zqq:uK x hi Q E l U=eO hi U (uJ x l Q) E:=rfl
def zoV:uJ x l Q h U=uI (zB x U) l h Q U:=rfl
def zqu:uI (some d) l h Q U=kV (iY d l h) Q U:=rfl
def wM(D:Ends)(k:Env->Prop):Ends:={D with nx:=k}
def e_nx:(wM D' K).nx=K:=rfl
def e_rt:(wM D' K).rt=D'.rt:=rfl
def e_ex:(wM D' K).ex=D'.ex:=rfl
def zm3:cC D' U=D'.nx U:=rfl
def zov:zy v w D' U=v (wM D' (w D')) U:=rfl
def fu(a b:WS)(D:Ends):Bool->Env->Prop:=λk U=>if k then a D U else b D U
def e_If:hU t v w D' U=t U (fu v w D') D'.ex:=rfl
def zpQ:fu v w D' true U=v D' U:=rfl
def zqa:fu v w D' false U=w D' U:=rfl
def zoi:bM a D' U=a U D'.rt D'.ex:=rfl
def jf(D:Ends):WQ:=λ_ U=>D.nx U
def zmB:wExpr a D' U=a U (jf D') D'.ex:=rfl
def zkv:jf D' r U=D'.nx U:=rfl
def mL(g:WG)(D:Ends)(o:Option (S×Env)):Prop:=zo o λp=>g p.1 p.2 D.nx
def xZ(g:WG)(D:Ends):WQ:=λr U=>mL g D (give r U)
def zpA:zA g a D' U=a U (xZ g D') D'.ex:=rfl
def zl9:xZ g D' r U=mL g D' (give r U):=rfl
def zmG:mL g D' (some (s,U))=g s U D'.nx:=rfl
def mC(i j:Nat)(D:Ends)(s:S)(o:Option (S×Env)):Prop:=zo o λq=>D.nx ((q.2.set i (some s)).set j (some q.1))
def mD(i j:Nat)(D:Ends)(t:R)(o:Option (S×Env)):Prop:=zo o λp=>mC i j D p.1 (give t p.2)
def xQ(i j:Nat)(D:Ends):List R->Env->Prop:=λv U=>match v with
 |[r,t]=>mD i j D t (give r U)
 |_=>False
theorem zpx:lO i j wa D' U=wa U (xQ i j D') D'.ex:=by unfold lO;congr 1
def zm2:xQ i j D' [r,x] U=mD i j D' x (give r U):=rfl
def zmR:mD i j D' x (some (s,U))=mC i j D' s (give x U):=rfl
def zlW:mC i j D' s (some (s',U))=D'.nx ((U.set i (some s)).set j (some s')):=rfl
def e_gN:zm i s U K=K (U.set i (some s)):=rfl
def jd(v:List WG)(d:D)(U:Env)(Q:Env->Prop):Prop:=match d with|.tup ds=>ds.length=v.length/\dQ v ds U Q|_=>False
def e_gT:cB v s U K=jd v s.toD U K:=rfl
def zoc:jd v (.tup ds) U K=(ds.length=v.length/\dQ v ds U K):=rfl
def xU(v:List WG)(ds:List D)(Q:Env->Prop):Env->Prop:=λU=>dQ v ds U Q
def zpt:dQ [] [] U K=K U:=rfl
def zoQ:dQ (g::v) (d::ds) U K=g (.sh d) U (xU v ds K):=rfl
def zoy:xU v ds K U=dQ v ds U K:=rfl
def gG(j:Nat)(D:Ends)(x:R)(q:FL.D)(s:S)(o:Option S)(U:Env):Prop:=match x,q,o with
 |.loc k,.int n,some (.lst l)=>k=j/\zo (ixN l.length n) λm=>D.nx (U.set j (some (.lst (l.set m s))))
 |_,_,_=>False
def kF(j:Nat)(D:Ends)(x:R)(o:Option FL.D)(p:Option (S×Env)):Prop:=zo o λq=>zo p λp=>gG j D x q p.1 (slot p.2 j) p.2
def kG(j:Nat)(D:Ends)(r x:R):WQ:=λy U=>kF j D x (view y U) (give r U)
def kH(j:Nat)(i:WE)(D:Ends)(r:R):WQ:=λx U=>i U (kG j D r x) D.ex
def mB(j:Nat)(i:WE)(D:Ends):WQ:=λr U=>zj j U (kH j i D r) D.ex
theorem zqD:fF j a b D' U=b U (mB j a D') D'.ex:=by unfold fF mB kH kG kF gG;rfl
def znw:mB j a D' r U=zj j U (kH j a D' r) D'.ex:=rfl
def zlu:kH j a D' r x U=a U (kG j D' r x) D'.ex:=rfl
def zm1:kG j D' r x y U=kF j D' x (view y U) (give r U):=rfl
def zmt:kF j D' x (some q) (some (s,U))=gG j D' x q s (slot U j) U:=rfl
def KB(v:0<=z)(h1:z<l.length):gG j D' (.loc j) (.int z) s (some (.lst l)) U=D'.nx (U.set j (some (.lst (l.set z.toNat s)))):=by show(j=j/\zo (ixN l.length z) _)=_;unfold ixN;rw[qZ v,qZ h1,MX];simp
theorem zll:gG j D' (.loc j) (.int 0) s (some (.lst [s0,v])) U=D'.nx (U.set j (some (.lst [s,v]))):=KB ⋯ (by show(0:Int)<2;decide)
theorem zk6:gG j D' (.loc j) (.int 1) s (some (.lst [s0,v])) U=D'.nx (U.set j (some (.lst [s0,s]))):=KB ⋯ (by show(1:Int)<2;decide)
def uT(o:Option (List D))(U:Env)(Q:List D->Env->Prop):Prop:=zo o λl=>Q l U
def uU(o:Option (S×Env))(Q:List D->Env->Prop):Prop:=zo o λp=>uT (items p.1.toD) p.2 Q
def jc(Q:List D->Env->Prop):WQ:=λr U=>uU (give r U) Q
def e_It:bI a U QI E=a U (jc QI) E:=rfl
def zqQ:jc QI r U=uU (give r U) QI:=rfl
def zpk:uU (some (s,U)) QI=uT (items s.toD) U QI:=rfl
def zod:uT (some l) U QI=QI l U:=rfl
def zn5:items (.lst l)=some l:=rfl
def zp0:items (.tup l)=some l:=rfl
def zpB:items (.str l)=some (l.map λc=>.str [c]):=rfl
def vB(o:Option (List D))(U:Env)(Q:List D->Env->Prop):Prop:=zo o λl=>Q (cD 0 l) U
def vD(o:Option (S×Env))(Q:List D->Env->Prop):Prop:=zo o λp=>vB (items p.1.toD) p.2 Q
def jg(Q:List D->Env->Prop):WQ:=λr U=>vD (give r U) Q
def e_En:jY a U QI E=a U (jg QI) E:=rfl
def zqd:jg QI r U=vD (give r U) QI:=rfl
def zn9:vD (some (s,U)) QI=vB (items s.toD) U QI:=rfl
def zoj:vB (some l) U QI=QI (cD 0 l) U:=rfl
def uN(o:Option D)(Q:List D->Env->Prop)(U:Env):Prop:=match o with|some (.int j)=>(-big<=j/\j<=big)/\Q (fromTo 0 j.toNat) U|_=>False
def iw(Q:List D->Env->Prop):WQ:=λr U=>uN (view r U) Q U
def e_R1:aX a U QI E=a U (iw QI) E:=rfl
def zp4:iw QI r U=uN (view r U) QI U:=rfl
def zpF:uN (some (.int z)) QI U=((-big<=z/\z<=big)/\QI (fromTo 0 z.toNat) U):=rfl
def kFor(g:WG)(b:WS)(D:Ends):List FL.D->Env->Prop:=λl U=>bY g b l D U
def zqs:dU it g v D' U=it U (kFor g v D') D'.ex:=rfl
def zlC:kFor g v D' l U=bY g v l D' U:=rfl
def xP(g:WG)(b:WS)(xs:List FL.D)(D:Ends):Ends:={D with nx:=bY g b xs D,ct:=bY g b xs D,bk:=D.nx}
def iz(g:WG)(b:WS)(xs:List FL.D)(D:Ends):Env->Prop:=λU=>b (xP g b xs D) U
def yG:bY g v (d::xs) D' U=g (.sh d) U (iz g v xs D'):=rfl
def zpY:iz g v xs D' U=v (xP g v xs D') U:=rfl
def zqc:(xP g v xs D').nx=bY g v xs D':=rfl
def zok:(xP g v xs D').ex=D'.ex:=rfl
def mE(n:Nat)(o:Option S)(U:Env)(Q:WQ):Prop:=zo o λs=>Q (.v s) (U.take n)
def mF(n:Nat)(Q:WQ):Env->Prop:=λU=>mE n (slot U n) U Q
def pF(n:Nat)(E:WX):WX:=NX
def jb(n k:Nat)(g:WG)(c:WT)(b:WB)(Q:WQ)(E:WX):List D->Env->Prop:=λl U=>aI g c b l (U++some (.lst [])::List.replicate k none) (mF n Q) (pF n E)
def e_LC:iV n m it g c v U Q E=it U (jb n m g c v Q E) E:=rfl
def zpU:jb n m g c v Q E l U=aI g c v l (U++some (.lst [])::List.replicate m none) (mF n Q) (pF n E):=rfl
def zpj:mF n Q U=mE n (slot U n) U Q:=rfl
def zlV:mE n (some s) U Q=Q (.v s) (U.take n):=rfl
def oM(g:WG)(c:WT)(b:WB)(xs:List D)(Q:Env->Prop)(E:WX):Env->Prop:=λU=>aI g c b xs U Q E
def oN(g:WG)(c:WT)(b:WB)(xs:List D)(Q:Env->Prop)(E:WX):Bool->Env->Prop:=λk U=>if k then b U (oM g c b xs Q E) E else aI g c b xs U Q E
def ik(g:WG)(c:WT)(b:WB)(xs:List D)(Q:Env->Prop)(E:WX):Env->Prop:=λU=>c U (oN g c b xs Q E) E
def zpZ:aI g c v [] U QE E=QE U:=rfl
def vL:aI g c v (d::xs) U QE E=g (.sh d) U (ik g c v xs QE E):=rfl
def zoO:ik g c v xs QE E U=c U (oN g c v xs QE E) E:=rfl
def zlt:oN g c v xs QE E true U=v U (oM g c v xs QE E) E:=rfl
def zlS:oN g c v xs QE E false U=aI g c v xs U QE E:=rfl
def zpp:oM g c v xs QE E U=aI g c v xs U QE E:=rfl
def pK(n:Nat)(s:S)(o:Option S)(U:Env)(Q:Env->Prop):Prop:=match o with
 |some (.lst l)=>l.length<big/\Q (U.set n (some (.lst (l++[s]))))
 |_=>False
def pM(n:Nat)(o:Option (S×Env))(Q:Env->Prop):Prop:=zo o λp=>pK n p.1 (slot p.2 n) p.2 Q
def fx(n:Nat)(Q:Env->Prop):WQ:=λr U=>pM n (give r U) Q
theorem e_Em:bS n a U QE E=a U (fx n QE) E:=by unfold bS fx pM pK;rfl
def zoo:fx n QE r U=pM n (give r U) QE:=rfl
def zpw:pM n (some (s,U)) QE=pK n s (slot U n) U QE:=rfl
def zp3:pK n s (some (.lst l)) U QE=(l.length<big/\QE (U.set n (some (.lst (l++[s]))))):=rfl
def il(g:WG)(c:WT)(b:WB)(Q:Env->Prop)(E:WX):List D->Env->Prop:=λl U=>aI g c b l U Q E
def e_bF:mR it g c v U QE E=it U (il g c v QE E) E:=rfl
def zqO:il g c v QE E l U=aI g c v l U QE E:=rfl
def zn1:cJ U QT E=QT true U:=rfl
def uZ(o:Option (List S))(P:S->List S->Prop)(s:S):Prop:=zo o λfs=>P s fs
def uL(n:Nat)(ss:List S)(P:S->List S->Prop)(i:Nat)(o:Option S)(U:Env):Prop:=zo o λs=>if i<n then uZ (aB ss (U.set i (some (.sh s.toD)))) P (.sh s.toD)else uZ (aB ss U) P s
def ah(n:Nat)(ss:List S)(P:S->List S->Prop):WQ:=λr U=>match r with
 |.v s=>uZ (aB ss U) P s
 |.loc i=>uL n ss P i (slot U i) U
def jj(n:Nat)(ss:List S)(P:S->List S->Prop)(PX:D->List S->Prop):Ends where
 nx:=λU=>uZ (aB ss U) P (.sh .non)
 rt:=ah n ss P
 bk:=λ_=>False
 ct:=λ_=>False
 ex:=λx U=>zo (aB ss U) λfs=>PX x fs
def BS(z:ss.length=n)(B:((List.range ss.length).all λi=>decide (i∈ks))=true)(h:v (jj n ss P PX) (ss.map some++List.replicate (m-n) none)):fW n m ks v ss P PX:=by show#[z,λi s hi=>?_,h];let:=(qg.mp hi).1;show .inl (by simpa using qH.mp B i ↑this)
def zpK:(jj n ss P PX).rt=ah n ss P:=rfl
def e_Rt:ah n ss P (.v s) U=uZ (aB ss U) P s:=rfl
def zon:ah n ss P (.loc i) U=uL n ss P i (slot U i) U:=rfl
theorem zoX(h:¬i<n):uL n ss P i (some s) U=uZ (aB ss U) P s:=by show(if i<n then _ else _)=_;rw[q4 h]
def e_Fn:uZ (some fs) P s=P s fs:=rfl
def fA(s:S):Option (List S)->Option (List S)
 |some fs=>some (s::fs)
 |none=>none
theorem e_f0:aB [] U=some []:=by cases U<;>rfl
theorem e_fs:aB (.sh d::ss) (o::U)=fA (.sh d) (aB ss U):=by show(aB ss U).map _=_;cases aB ss U<;>rfl
theorem e_fl:aB (.lst l::ss) (some s::U)=fA s (aB ss U):=by show(aB ss U).map _=_;cases aB ss U<;>rfl
def e_fA:fA s (some fs)=some (s::fs):=rfl
def zo6:bE (.int i) (.int j)=some (.sh (.int (i+j))):=rfl
theorem zmV(h:x.length+y.length<=big):bE (.str x) (.str y)=some (.sh (.str (x++y))):=qZ h
def zpi:lY (.int i) (.int j)=some (.sh (.int (i-j))):=rfl
theorem zlX(h:-(2^64)<i/\i<2^64):mA (.int i) (.int j)=some (.sh (.int (i*j))):=by show(if kD i j=true then _ else none)=_;rw[qZ (by simp only[kD,h.1,h.2,decide_true,Bool.and_self,Bool.true_or])]
theorem zof(h:0<j):eU (.int i) (.int j)=some (.sh (.int (i %j))):=qZ h
theorem zl5(h:0<j)(h2:j<18446744073709551616):gF (.int i) (.int j)=some (.sh (.int (i/j))):=qZ #[h,h2]
theorem zo0(h:0<=j/\j<=1000/\i.natAbs<2^64):lZ (.int i) (.int j)=some (.sh (.int (i^j.toNat))):=qZ h
def zn0:kO (.int i)=some (.sh (.int (-i))):=rfl
def e_lt:ak (.int i) (.int j)=some (decide (i<j)):=rfl
def e_gt:pV (.int i) (.int j)=some (decide (j<i)):=rfl
def e_ge:ao (.int i) (.int j)=some (decide (j<=i)):=rfl
theorem znI:fC (.int i) (.int j)=some (decide (i=j)):=by unfold fC;rw[q4 (by show λz=>Bool.noConfusion (show false=true from z))];simp
theorem znY:eI (.int i) (.int j)=some (!decide (i=j)):=by unfold eI;rw[znI];rfl
theorem zm4:fC (.str x) (.str y)=some (decide (x=y)):=by unfold fC;rw[q4 (by show λz=>Bool.noConfusion (show false=true from z))];simp
theorem zqN:eI (.str x) (.str y)=some (!decide (x=y)):=by unfold eI;rw[zm4];rfl
theorem zlJ:fC (.bl b) (.bl c)=some (decide (b=c)):=by unfold fC;rw[q4 (by show λz=>Bool.noConfusion (show false=true from z))];simp
theorem zpu:eI (.bl b) (.bl c)=some (!decide (b=c)):=by unfold eI;rw[zlJ];rfl
def zqR:hW (.bl b)=some b:=rfl
def zlr:cN [.str x]=some (.sh (.int x.length)):=rfl
def znc:cN [.tup l]=some (.sh (.int l.length)):=rfl
def zlK:cN [.lst l]=some (.sh (.int l.length)):=rfl
def zln:jH [.bl b]=some (.sh (.int (if b then 1 else 0))):=rfl
def zlQ:bU [.lst l]=some (.sh (.tup l)):=rfl
theorem znH(h:x.length<=big):gX [.str x]=some (.lst (x.map λc=>.sh (.str [c]))):=qZ h
def zpH:iY (.str x) a b=some (.sh (.str (cK x a b))):=rfl
def zqE:iY (.lst l) a b=some (.lst ((cK l a b).map .sh)):=rfl
def zo9:zj 0 (some (.sh d)::U) Q E=Q (.v (.sh d)) (some (.sh d)::U):=rfl
def zpM:zj 0 (some (.lst l)::U) Q E=Q (.loc 0) (some (.lst l)::U):=rfl
def zpz:slot (v::U) 0=v:=rfl
def zor:List.set (u::U) 0 v=v::U:=rfl
def zqh:zj 1 (s0::some (.sh d)::U) Q E=Q (.v (.sh d)) (s0::some (.sh d)::U):=rfl
def zp8:slot (s0::v::U) 1=v:=rfl
def zo1:List.set (s0::u::U) 1 v=s0::v::U:=rfl
def zp1:zj 2 (s0::v::some (.sh d)::U) Q E=Q (.v (.sh d)) (s0::v::some (.sh d)::U):=rfl
def zoK:zj 2 (s0::v::some (.lst l)::U) Q E=Q (.loc 2) (s0::v::some (.lst l)::U):=rfl
def zpe:slot (s0::z::v::U) 2=v:=rfl
def zqj:List.set (s0::z::u::U) 2 v=s0::z::v::U:=rfl
def zoA:zj 3 (s0::z::v::some (.sh d)::U) Q E=Q (.v (.sh d)) (s0::z::v::some (.sh d)::U):=rfl
def zqB:zj 3 (s0::z::v::some (.lst l)::U) Q E=Q (.loc 3) (s0::z::v::some (.lst l)::U):=rfl
def zqL:slot (s0::B::z::v::U) 3=v:=rfl
def zqi:List.set (s0::B::z::u::U) 3 v=s0::B::z::v::U:=rfl
def zoC:zj 4 (s0::B::z::v::some (.sh d)::U) Q E=Q (.v (.sh d)) (s0::B::z::v::some (.sh d)::U):=rfl
def zoq:zj 4 (s0::B::z::v::some (.lst l)::U) Q E=Q (.loc 4) (s0::B::z::v::some (.lst l)::U):=rfl
def zqk:slot (s0::F::B::z::v::U) 4=v:=rfl
def zpm:List.set (s0::F::B::z::u::U) 4 v=s0::F::B::z::v::U:=rfl
def zo3:zj 5 (s0::F::B::z::v::some (.sh d)::U) Q E=Q (.v (.sh d)) (s0::F::B::z::v::some (.sh d)::U):=rfl
def zqG:List.set (s0::G::F::B::z::u::U) 5 v=s0::G::F::B::z::v::U:=rfl
def zqe:zj 6 (s0::G::F::B::z::v::some (.sh d)::U) Q E=Q (.v (.sh d)) (s0::G::F::B::z::v::some (.sh d)::U):=rfl
def zqF:zj 6 (s0::G::F::B::z::v::some (.lst l)::U) Q E=Q (.loc 6) (s0::G::F::B::z::v::some (.lst l)::U):=rfl
def zn3:slot (s0::J::G::F::B::z::v::U) 6=v:=rfl
def zpL:List.set (s0::J::G::F::B::z::u::U) 6 v=s0::J::G::F::B::z::v::U:=rfl
def znX:zj 7 (s0::J::G::F::B::z::v::some (.sh d)::U) Q E=Q (.v (.sh d)) (s0::J::G::F::B::z::v::some (.sh d)::U):=rfl
def zps:zj 7 (s0::J::G::F::B::z::v::some (.lst l)::U) Q E=Q (.loc 7) (s0::J::G::F::B::z::v::some (.lst l)::U):=rfl
def zn2:slot (s0::L::J::G::F::B::z::v::U) 7=v:=rfl
def zqA:List.set (s0::L::J::G::F::B::z::u::U) 7 v=s0::L::J::G::F::B::z::v::U:=rfl
def zqw:zj 8 (s0::L::J::G::F::B::z::v::some (.sh d)::U) Q E=Q (.v (.sh d)) (s0::L::J::G::F::B::z::v::some (.sh d)::U):=rfl
def zn4:zj 8 (s0::L::J::G::F::B::z::v::some (.lst l)::U) Q E=Q (.loc 8) (s0::L::J::G::F::B::z::v::some (.lst l)::U):=rfl
def zot:slot (s0::M::L::J::G::F::B::z::v::U) 8=v:=rfl
def zpJ:List.set (s0::M::L::J::G::F::B::z::u::U) 8 v=s0::M::L::J::G::F::B::z::v::U:=rfl
def zqJ:zj 9 (s0::M::L::J::G::F::B::z::v::some (.sh d)::U) Q E=Q (.v (.sh d)) (s0::M::L::J::G::F::B::z::v::some (.sh d)::U):=rfl
def zoW:slot (s0::O::M::L::J::G::F::B::z::v::U) 9=v:=rfl
def zoF:List.set (s0::O::M::L::J::G::F::B::z::u::U) 9 v=s0::O::M::L::J::G::F::B::z::v::U:=rfl
def zlF:zj 10 (s0::O::M::L::J::G::F::B::z::v::some (.sh d)::U) Q E=Q (.v (.sh d)) (s0::O::M::L::J::G::F::B::z::v::some (.sh d)::U):=rfl
def zlZ:List.set (s0::Y::O::M::L::J::G::F::B::z::u::U) 10 v=s0::Y::O::M::L::J::G::F::B::z::v::U:=rfl
def zmW:zj 11 (s0::Y::O::M::L::J::G::F::B::z::v::some (.sh d)::U) Q E=Q (.v (.sh d)) (s0::Y::O::M::L::J::G::F::B::z::v::some (.sh d)::U):=rfl
def zlD:slot (s0::s1::Y::O::M::L::J::G::F::B::z::v::U) 11=v:=rfl
def znC:List.set (s0::s1::Y::O::M::L::J::G::F::B::z::u::U) 11 v=s0::s1::Y::O::M::L::J::G::F::B::z::v::U:=rfl
def zmg:zj 12 (s0::s1::Y::O::M::L::J::G::F::B::z::v::some (.sh d)::U) Q E=Q (.v (.sh d)) (s0::s1::Y::O::M::L::J::G::F::B::z::v::some (.sh d)::U):=rfl
def zmj:List.set (s0::s1::s2::Y::O::M::L::J::G::F::B::z::u::U) 12 v=s0::s1::s2::Y::O::M::L::J::G::F::B::z::v::U:=rfl
def znM:zj 13 (s0::s1::s2::Y::O::M::L::J::G::F::B::z::v::some (.sh d)::U) Q E=Q (.v (.sh d)) (s0::s1::s2::Y::O::M::L::J::G::F::B::z::v::some (.sh d)::U):=rfl
def zmn:List.set (s0::s1::s2::s3::Y::O::M::L::J::G::F::B::z::u::U) 13 v=s0::s1::s2::s3::Y::O::M::L::J::G::F::B::z::v::U:=rfl
def zl6:mK o (.v (.sh p)) Q (.v (.sh q)) U=kV (o p q) Q U:=rfl
def znG:iG v (.v (.sh p)) QT (.v (.sh q)) U=kC (v p q) QT U:=rfl
def zna:iG v (.v (.sh p)) QT (.loc k) U=kL v (some p) (view (.loc k) U) QT U:=rfl
def znq:iG v (.loc j) QT (.v (.lst m)) U=kL v (view (.loc j) U) (some (S.lst m).toD) QT U:=rfl
def zpC:cR d (.lst l)=pU d (.lst l):=rfl
def znm:dI p q=(cR p q).map (!·):=rfl
def uY(Q:WQ)(o:Option (S×Env)):Prop:=zo o λp=>Q (.v (.sh p.1.toD)) p.2
def je(Q:WQ):WQ:=λr U=>uY Q (give r U)
def zpq:cP a U Q E=a U (je Q) E:=rfl
def znA:je Q r U=uY Q (give r U):=rfl
def zmd:uY Q (some (s,U))=Q (.v (.sh s.toD)) U:=rfl
def mH(i:Nat)(D:Ends)(o:Option S)(U:Env):Prop:=zo o λs=>D.nx (U.set i (some (.sh s.toD)))
def xV(i:Nat)(D:Ends):Env->Prop:=λU=>mH i D (slot U i) U
def zqK:zV i v D' U=v (wM D' (xV i D')) U:=rfl
def zm5:xV i D' U=mH i D' (slot U i) U:=rfl
def zmY:mH i D' (some s) U=D'.nx (U.set i (some (.sh s.toD))):=rfl
def pJ(o:Option (Option D))(z:R)(U:Env)(Q:WQ):Prop:=zo o λo=>match o with
 |some e=>Q (.v (.sh e)) U
 |none=>Q z U
def uV(o p:Option D)(z:R)(U:Env)(Q:WQ):Prop:=zo o λv=>zo p λq=>pJ (uF v q) z U Q
def uW(x y:R)(Q:WQ):WQ:=λz U=>uV (zB x U) (view y U) z U Q
def uX(x:R)(d:WE)(Q:WQ)(E:WX):WQ:=λy U=>d U (uW x y Q) E
def pT(o:Option D):Prop:=zo o λv=>vI v=true
def xT(k d:WE)(Q:WQ)(E:WX):WQ:=λx U=>pT (zB x U)/\k U (uX x d Q E) E
def e_Ge:jX a b c U Q E=a U (xT b c Q E) E:=rfl
def zob:xT b c Q E x U=(pT (zB x U)/\b U (uX x c Q E) E):=rfl
theorem zqb:pT (some (.dct t ks vs))=True:=by simp[pT,vI]
def zpr:uX x c Q E y U=c U (uW x y Q) E:=rfl
def zpc:uW x y Q z U=uV (zB x U) (view y U) z U Q:=rfl
def zoz:uV (some p) (some q) z U Q=pJ (uF p q) z U Q:=rfl
def zl3:pJ (some (some d)) z U Q=Q (.v (.sh d)) U:=rfl
def zmv:pJ (some none) z U Q=Q z U:=rfl
def zlB{z:Int}:uF (.dct true ks vs) (.tup [.int z,.str u])=some (lk ks vs (.tup [.int z,.str u])):=rfl
def ja(Q:WQ):List D->Env->Prop:=λl U=>l.length<=big/\Q (.v (.lst (l.map .sh))) U
def e_LI:iU it U Q E=it U (ja Q) E:=rfl
def zpX:ja Q l U=(l.length<=big/\Q (.v (.lst (l.map .sh))) U):=rfl
def znJ{z v:Int}:cL (.int z) (.int v)=mA (.int z) (.int v):=rfl
theorem uB{w v:WB}(h:w=v)(U:Env)(Q:Env->Prop)(E:WX):w U Q E=v U Q E:=by rw[h]
theorem uS{w v:WS}(h:w=v)(D':Ends)(U:Env):w D' U=v D' U:=by rw[h]
def jh(s0:S)(n k:Nat)(g:WG)(c:WT)(b:WB)(Q:WQ)(E:WX):List D->Env->Prop:=λl U=>aI g c b l (U++some s0::List.replicate k none) (mF n Q) (pF n E)
def e_CM:vW s0 n m it g c v U Q E=it U (jh s0 n m g c v Q E) E:=rfl
def zoL:jh s0 n m g c v Q E l U=aI g c v l (U++some s0::List.replicate m none) (mF n Q) (pF n E):=rfl
def oZ(n:Nat)(q:D)(s:S)(o:Option S)(U:Env)(Q:Env->Prop):Prop:=match o with
 |some (.dct t ks l)=>aV t q=true/\ks.Nodup/\ks.length<big/\Q (U.set n (some (dD t ks l q s)))
 |_=>False
def pB(n:Nat)(o:Option D)(p:Option (S×Env))(Q:Env->Prop):Prop:=zo o λq=>zo p λp=>oZ n q p.1 (slot p.2 n) p.2 Q
def pC(n:Nat)(x:R)(Q:Env->Prop):WQ:=λy U=>pB n (view x U) (give y U) Q
def fo(n:Nat)(e:WE)(Q:Env->Prop)(E:WX):WQ:=λx U=>e U (pC n x Q) E
theorem e_Pu:mQ n a b U QE E=a U (fo n b QE E) E:=by unfold mQ fo pC pB oZ;rfl
def zoZ:fo n b QE E x U=b U (pC n x QE) E:=rfl
def zn7:pC n x QE y U=pB n (view x U) (give y U) QE:=rfl
def zoh:pB n (some q) (some (s,U)) QE=oZ n q s (slot U n) U QE:=rfl
def zpg:oZ n q s (some (.dct t ks l)) U QE=(aV t q=true/\ks.Nodup/\ks.length<big/\QE (U.set n (some (dD t ks l q s)))):=rfl
section
variable{U:Env}{Q:WQ}{QE:Env->Prop}{E:WX}{a b:WE}{x y r:R}{s:S}{q d:D}{n m j:Nat}{l:List D}
def pR(n:Nat)(s:S)(o:Option S)(U:Env)(Q:Env->Prop):Prop:=match o with
 |some (.set l)=>bO (s.toD::l)=true/\l.length<=150/\Q (U.set n (some (.set (cI l s.toD))))
 |_=>False
def pS(n:Nat)(p:Option (S×Env))(Q:Env->Prop):Prop:=zo p λp=>pR n p.1 (slot p.2 n) p.2 Q
def gc(n:Nat)(Q:Env->Prop):WQ:=λr U=>pS n (give r U) Q
theorem e_Ad:kT n a U QE E=a U (gc n QE) E:=by unfold kT gc pS pR;rfl
def zoS:gc n QE r U=pS n (give r U) QE:=rfl
def zpl:pS n (some (s,U)) QE=pR n s (slot U n) U QE:=rfl
def zoG:pR n s (some (.set l)) U QE=(bO (s.toD::l)=true/\l.length<=150/\QE (U.set n (some (.set (cI l s.toD))))):=rfl
def znQ:(S.set l).toD=.set l:=rfl
def zmP:iI [.set l]=some (.sh (.int l.length)):=rfl
def zlv:cH [.lst l]=bN l:=rfl
def zlq:cH [.set l]=bN l:=rfl
def zql:kS [.lst l]=newS l:=rfl
def LC(h:bO l=true/\l.length<=150):newS l=some (.set (aE l)):=qZ h
def oQ(j:Nat)(t:Bool)(z:List D×List S×Nat)(l':List S)(Q:WQ)(o:Option (S×Env)):Prop:=zo o λp=>l'.length<big/\Q (.v (.sh .non)) (p.2.set j (some (.dct t z.1 (z.2.1.set z.2.2 (.lst (l'++[p.1]))))))
def oS(j:Nat)(t:Bool)(z:List D×List S×Nat)(l':List S)(Q:WQ):WQ:=λr U=>oQ j t z l' Q (give r U)
def oT(j:Nat)(t:Bool)(z:List D×List S×Nat)(e:WE)(o:Option S)(U:Env)(Q:WQ)(E:WX):Prop:=match o with
 |some (.lst l')=>e (U.set j none) (oS j t z l' Q) E
 |_=>False
def oU(j:Nat)(e:WE)(o:Option D)(p:Option S)(U:Env)(Q:WQ)(E:WX):Prop:=match o,p with
 |some q,some (.dct t ks l)=>aV t q=true/\ks.Nodup/\ks.length<big/\oT j t (aP ks l q) e (aP ks l q).2.1[(aP ks l q).2.2]? U Q E
 |_,_=>False
def oV(j:Nat)(e:WE)(Q:WQ)(E:WX):WQ:=λy U=>oU j e (view y U) (slot U j) U Q E
def fk(j:Nat)(o:Option S)(k e:WE)(U:Env)(Q:WQ)(E:WX):Prop:=match o with
 |some (.dct _ _ _)=>k U (oV j e Q E) E
 |_=>False
theorem e_SA:dG j a b U Q E=fk j (slot U j) a b U Q E:=by unfold dG fk oV oU oT oS oQ;rfl
def zow{t:Bool}{ks:List D}{l:List S}:fk j (some (.dct t ks l)) a b U Q E=a U (oV j b Q E) E:=rfl
def zoD:oV j b Q E y U=oU j b (view y U) (slot U j) U Q E:=rfl
def zom{t:Bool}{ks:List D}{l:List S}:oU j b (some q) (some (.dct t ks l)) U Q E=(aV t q=true/\ks.Nodup/\ks.length<big/\oT j t (aP ks l q) b (aP ks l q).2.1[(aP ks l q).2.2]? U Q E):=rfl
def Mr{t:Bool}{z:List D×List S×Nat}{l':List S}(h:z.2.1[z.2.2]?=some (.lst l')):oT j t z b z.2.1[z.2.2]? U Q E=b (U.set j none) (oS j t z l' Q) E:=by rw[h];rfl
def zoT{t:Bool}{z:List D×List S×Nat}{l':List S}:oS j t z l' Q r U=oQ j t z l' Q (give r U):=rfl
def zqp{t:Bool}{z:List D×List S×Nat}{l':List S}:oQ j t z l' Q (some (s,U))=(l'.length<big/\Q (.v (.sh .non)) (U.set j (some (.dct t z.1 (z.2.1.set z.2.2 (.lst (l'++[s]))))))):=rfl
def uM(o:Option D)(Q:List D->Env->Prop)(U:Env):Prop:=match o with|some (.str l)=>Q (l.reverse.map λc=>.str [c]) U|_=>False
def iu(Q:List D->Env->Prop):WQ:=λr U=>uM (view r U) Q U
def e_RS{QI:List D->Env->Prop}:lN a U QI E=a U (iu QI) E:=rfl
def zoI{QI:List D->Env->Prop}:iu QI r U=uM (view r U) QI U:=rfl
def zpo{QI:List D->Env->Prop}{l:List Nat}:uM (some (.str l)) QI U=QI (l.reverse.map λc=>.str [c]) U:=rfl
variable{fr:D->Option S}
def oW(fr:D->Option S)(o:Option D)(Q:WQ)(U:Env):Prop:=zo o λd=>kV (fr d) Q U
def oX(fr:D->Option S)(x:R)(Q:WQ)(o:Option D)(U:Env):Prop:=match o with|some (.int i)=>i=-1/\oW fr (zB x U) Q U|_=>False
def oY(fr:D->Option S)(x:R)(Q:WQ):WQ:=λy U=>oX fr x Q (view y U) U
def fm(fr:D->Option S)(b:WE)(Q:WQ)(E:WX):WQ:=λx U=>b U (oY fr x Q) E
theorem e_RL:nH fr a b U Q E=a U (fm fr b Q E) E:=by unfold nH fm oY oX oW kV;rfl
def zqU:fm fr b Q E x U=b U (oY fr x Q) E:=rfl
def zo7:oY fr x Q y U=oX fr x Q (view y U) U:=rfl
def zpD{i:Int}:oX fr x Q (some (.int i)) U=(i=-1/\oW fr (zB x U) Q U):=rfl
def zpn:oW fr (some d) Q U=kV (fr d) Q U:=rfl
def zpT:lS (.lst l)=some (.lst (l.reverse.map .sh)):=rfl
variable{c:WE}{QI:List D->Env->Prop}
end
def sg(c:Nat):D:=.str [c]
def ib:items (.str l)=some (l.map sg):=rfl
def Lu(l:List Nat):dN (l.map sg)=some (l.map λc=>[c]):=by let:=UL (l.map λc=>[c]);rw[qD]at this;show this
def LW:∀l:List Nat,((l.map λc=>[c]).map List.length).sum=l.length
 |[]=>rfl
 |c::l=>by let:=LW l;simp at this⊢;lia
def Ni:∀l:List Nat,(l.map λc=>[c]).flatten=l
 |[]=>rfl
 |c::l=>by let:=Ni l;simp;rw[this]
def Lh(h:l.length<=big):iF [] [.lst (l.map sg)]=some (.sh (.str l)):=by show(dN (l.map sg)).bind _=_;grind[Lu,List.length,big,dB,LW,UP,Ni]
def nI:D->Nat
 |.str [c]=>c
 |_=>0
def Qz(h:l.Perm (A.map sg)):∃v:List Nat,v.Perm A/\l=v.map sg:=by
 show#[l.map nI,?_,?_]
 .let:=h.map nI;rw[qD]at this;let e:(nI∘sg)=id:=funext λc=>rfl;rw[e,map_id]at this;show this
 .rw[qD];let:∀d∈l,(sg∘nI) d=id d:=λd z=>by let#[c,_,rfl]:=qJ.mp (h.mem_iff.mp z);rfl
  rw[map_congr_left this,map_id]
def cO:big=1000000:=rfl
def EY:(fromTo lo n).length=n:=by simp[fromTo]
def JD{l:List D}{k:Nat}(h:l[k]?=some d):(l.map S.sh)[k]?=some (.sh d):=by rw[qE,h];rfl
def Je{α β:Type}{f:α->β}{l:List α}{z:Int}(F:0<=z)(h1:z<l.length):∃v,v∈l/\l[z.toNat]?=some v/\atI (l.map f) z=some (f v):=by
 let B:z.toNat<l.length:=∅
 show#[l[z.toNat],getElem_mem B,qh B,DJ F (by rw[qE,qh B];rfl)]
def GH(F:0<=z)(h1:z<l.length):∃v,v∈l/\l[z.toNat]?=some v/\atI l z=some v:=by
 let B:z.toNat<l.length:=∅
 show#[l[z.toNat],getElem_mem B,qh B,DJ F (qh B)]
def Fx{α β:Type}{f:α->β}:∀(l:List α)(k:Nat),(l.map f).eraseIdx k=(l.eraseIdx k).map f
 |[],_=>rfl
 |_::_,0=>rfl
 |x::l,k+1=>by show f x::(l.map f).eraseIdx k=f x::(l.eraseIdx k).map f;rw[Fx l k]
def SH(l:List α)(a b:Option Int):(cK l a b).length<=l.length:=by unfold cK;rw[qG,qF];show le_trans (min_le_right ..) (sub_le ..)
def SV(h:x∈cK l a b):x∈l:=by show List.mem_of_mem_drop (mem_of_mem_take h)
def QV(l:List α){k:Int}(v:0<=k)(h1:k<=l.length):cK l none (some k)=l.take k.toNat:=by unfold cK sIx;grind
def Tw(l:List α)(v:0<=k):cK l (some k) none=l.drop k.toNat:=by
 unfold cK sIx;let:¬k<0:=∅
 simp[q4 this];by_cases h:k.toNat<=l.length
 .rw[Nat.min_eq_left h,take_of_length_le];rw[qF];lia
 .let h2:l.length<=k.toNat:=by lia
  rw[Nat.min_eq_right h2,List.drop_of_length_le (q5 _),List.drop_of_length_le h2,List.take_nil]
def KH(l:List Bool):mS [.lst (l.map D.bl)]=some (.sh (.bl (l.all id))):=by show(gH (l.map D.bl)).map _=_;rw[UG];rfl
def Hc{α:Type}:∀(l:List α)(i:Nat)(h:i<l.length),(l[i]::l.eraseIdx i).Perm l
 |x::l,0,_=>List.Perm.refl _
 |x::l,i+1,h=>by
  let hi:i<l.length:=↑h
  show(List.Perm.swap x l[i] _).trans (List.Perm.cons x (Hc l i hi))
def oK(b:WB)(K:Env->Prop)(E:WX):Bool->Env->Prop:=λk U=>if k then b U K E else K U
def nC(c:WT)(b:WB)(K:Env->Prop)(E:WX):Env->Prop:=λU=>c U (oK b K E) E
def dS:nC c b K E U=c U (oK b K E) E:=rfl
def jK:oK b K E true U=b U K E:=rfl
def wI:oK b K E false U=K U:=rfl
def Gd{α:Type}{toD:α->D}(I:List α->Env->Prop)(xs:List α)
  (step:∀(z:List α)(x:α)(v:List α)(K:Env->Prop)(U:Env),z++x::v=xs->I z U->(∀U',I (z++[x]) U'->K U')->g (.sh (toD x)) U (nC c b K E))
  (F:∀U,I xs U->Q U)(J:I [] U):aI g c b (xs.map toD) U Q E:=by
 have B:∀(v z:List α)(U:Env),z++v=xs->I z U->aI g c b (v.map toD) U Q E:=by
  intro v;induction v with
  |nil=>intro z U e h;rw[qz]at e;subst e;show F U h
  |cons x v G=>intro z U e h;show step z x v (oM g c b (v.map toD) Q E) U e h λU' h'=>G (z++[x]) U' (by rw[<-e];simp) h'
 show B xs [] U rfl J
def EW{α:Type}{toD:α->D}(I:List α->Env->Prop)(xs:List α)
  (step:∀(z:List α)(x:α)(v:List α)(B:Ends)(U:Env),z++x::v=xs->I z U->(∀U',I (z++[x]) U'->B.nx U')->(∀U',I (z++[x]) U'->B.ct U')->B.rt=D'.rt->B.bk=D'.nx->g (.sh (toD x)) U (λU=>b B U))
  (G:∀U,I xs U->D'.nx U)(L:I [] U):bY g b (xs.map toD) D' U:=by
 have F:∀(v z:List α)(U:Env),z++v=xs->I z U->bY g b (v.map toD) D' U:=by
  intro v;induction v with
  |nil=>intro z U e h;rw[qz]at e;subst e;show G U h
  |cons x v J=>intro z U e h;let k:=λU' h'=>J (z++[x]) U' (by rw[<-e];simp) h';show step z x v (xP g b (v.map toD) D') U e h k k rfl rfl
 show F xs [] U rfl L
def PQ{α:Type}{toD:α->D}(I:List α->List S->Env->Prop)(xs:List α)
  (step:∀(z:List α)(x:α)(B:List α)(l:List S)(U:Env)(vs:List (Option S))(K:Env->Prop),z++x::B=xs->vs.length=k->I z l U->(∀l' U1 v,v.length=k->I (z++[x]) l' U1->K (U1++some (.lst l')::v))->g (.sh (toD x)) (U++some (.lst l)::vs) (nC c b K E))
  (M:∀l U vs,vs.length=k->I xs l U->Q (U++some (.lst l)::vs))(O:vs.length=k)(h0:I [] [] U):aI g c b (xs.map toD) (U++some (.lst [])::vs) Q E:=by
 show Gd (λz F=>∃l U1 v,v.length=k/\I z l U1/\F=U1++some (.lst l)::v) xs (λz x B K F e L Y=>?_) (λF L=>?_) #[[],U,vs,O,h0,rfl]
 .obtain⟨l,U1,v,h1,h2,rfl⟩:=L;show step z x B l U1 v K e h1 h2 λl' G J h3 h4=>Y _ #[l',G,J,h3,h4,rfl]
 .obtain⟨l,U1,v,h1,h2,rfl⟩:=L;show M l U1 v h1 h2
def II{α:Type}{toD:α->D}(xs:List α)(h:α->Option S)
  (step:∀x∈xs,∀(l:List S)(vs:List (Option S))(K:Env->Prop),vs.length=k->l.length<xs.length->(∀v,v.length=k->K (U++some (.lst (l++(h x).toList))::v))->g (.sh (toD x)) (U++some (.lst l)::vs) (nC c b K E))
  (F:∀vs,vs.length=k->Q (U++some (.lst (xs.filterMap h))::vs))(J:vs.length=k):aI g c b (xs.map toD) (U++some (.lst [])::vs) Q E:=by
 show PQ (λz l B=>B=U/\l=z.filterMap h) xs (λz x G l B vs K e h1 h2 M=>?_) (λl B vs h1 h2=>?_) J #[rfl,rfl]
 .obtain⟨rfl,rfl⟩:=h2;let L:(z.filterMap h).length<xs.length:=by let:=List.length_filterMap_le h z;rw[<-e];simp;lia
  show step x (by rw[<-e];simp) _ vs K h1 L λv O=>M _ _ v O #[rfl,?_];cases q:h x<;>simp[q]
 .obtain⟨rfl,rfl⟩:=h2;show F vs h1
def Fm{vs:List (Option S)}(h:vs.length=1):∃a,vs=[a]:=by
 match vs,h with
 |[a],_=>show#[a,rfl]
def Fj{vs:List (Option S)}(h:vs.length=2):∃a b,vs=[a,b]:=by
 match vs,h with
 |[a,b],_=>show#[a,b,rfl]
def Fi{vs:List (Option S)}(h:vs.length=3):∃a b c,vs=[a,b,c]:=by
 match vs,h with
 |[a,b,c],_=>show#[a,b,c,rfl]
section
variable{α:Type}
def Wl(xs:List α)(h:α->Option S)
  (step:∀x∈xs,∀(l:List S)(o:Option S)(K:Env->Prop),l.length<xs.length->(∀o,K (U.take n++[some (.lst (l++(h x).toList)),o]))->zm (n+1) (.sh (toD x)) (U.take n++[some (.lst l),o]) (nC c b K E))
  (z:∀o,Q (U.take n++[some (.lst (xs.filterMap h)),o]))(e:U=U.take n++[some (.lst []),o0]:=by rfl):aI (zm (n+1)) c b (xs.map toD) U Q E:=by
 rw[e];show II (k:=1) xs h (λx F l B K v G J=>?_) (λB v=>?_) rfl
 .obtain⟨a,rfl⟩:=Fm v;show step x F l a K G λo=>J [o] rfl
 .obtain⟨a,rfl⟩:=Fm v;show z a
def Wj(xs:List α)(h:α->Option S)
  (step:∀x∈xs,∀(l:List S)(o o':Option S)(K:Env->Prop),l.length<xs.length->(∀o o',K (U.take n++[some (.lst (l++(h x).toList)),o,o']))->cB [zm (n+1),zm (n+2)] (.sh (toD x)) (U.take n++[some (.lst l),o,o']) (nC c b K E))
  (z:∀o o',Q (U.take n++[some (.lst (xs.filterMap h)),o,o']))(e:U=U.take n++[some (.lst []),o0,M]:=by rfl):aI (cB [zm (n+1),zm (n+2)]) c b (xs.map toD) U Q E:=by
 rw[e];show II (k:=2) xs h (λx G l F K v J L=>?_) (λF v=>?_) rfl
 .obtain⟨a,B,rfl⟩:=Fj v;show step x G l a B K J λo o'=>L [o,o'] rfl
 .obtain⟨a,B,rfl⟩:=Fj v;show z a B
def NV(xs:List α)(h:α->Option S)
  (step:∀x∈xs,∀(l:List S)(o o' v:Option S)(K:Env->Prop),l.length<xs.length->(∀o o' v,K (U.take n++[some (.lst (l++(h x).toList)),o,o',v]))->cB [zm (n+1),zm (n+2),zm (n+3)] (.sh (toD x)) (U.take n++[some (.lst l),o,o',v]) (nC c b K E))
  (F:∀o o' v,Q (U.take n++[some (.lst (xs.filterMap h)),o,o',v]))(e:U=U.take n++[some (.lst []),o0,o1,Y]:=by rfl):aI (cB [zm (n+1),zm (n+2),zm (n+3)]) c b (xs.map toD) U Q E:=by
 rw[e];show II (k:=3) xs h (λx L l J K B M O=>?_) (λJ B=>?_) rfl
 .obtain⟨a,G,z,rfl⟩:=Fi B;show step x L l a G z K M λo o' v=>O [o,o',v] rfl
 .obtain⟨a,G,z,rfl⟩:=Fi B;show F a G z
def Hx(xs:List α)(h:α->S)
  (step:∀x∈xs,∀(l:List S)(o:Option S)(K:Env->Prop),l.length<xs.length->(∀o,K (U.take n++[some (.lst (l++[h x])),o]))->zm (n+1) (.sh (toD x)) (U.take n++[some (.lst l),o]) (nC c b K E))
  (v:∀o,Q (U.take n++[some (.lst (xs.map h)),o]))(e:U=U.take n++[some (.lst []),o0]:=by rfl):aI (zm (n+1)) c b (xs.map toD) U Q E:=
 Wl xs (λx=>some (h x)) step (λo=>by rw[show(xs.filterMap λx=>some (h x))=xs.map h from List.filterMap_eq_map▸rfl];show v o) e
def NU(xs:List α)(h:α->S)
  (step:∀x∈xs,∀(l:List S)(o o':Option S)(K:Env->Prop),l.length<xs.length->(∀o o',K (U.take n++[some (.lst (l++[h x])),o,o']))->cB [zm (n+1),zm (n+2)] (.sh (toD x)) (U.take n++[some (.lst l),o,o']) (nC c b K E))
  (v:∀o o',Q (U.take n++[some (.lst (xs.map h)),o,o']))(e:U=U.take n++[some (.lst []),o0,z]:=by rfl):aI (cB [zm (n+1),zm (n+2)]) c b (xs.map toD) U Q E:=
 Wj xs (λx=>some (h x)) step (λo o'=>by rw[show(xs.filterMap λx=>some (h x))=xs.map h from List.filterMap_eq_map▸rfl];show v o o') e
def Wi(xs:List α)(h:α->S)
  (step:∀x∈xs,∀(l:List S)(o o' v:Option S)(K:Env->Prop),l.length<xs.length->(∀o o' v,K (U.take n++[some (.lst (l++[h x])),o,o',v]))->cB [zm (n+1),zm (n+2),zm (n+3)] (.sh (toD x)) (U.take n++[some (.lst l),o,o',v]) (nC c b K E))
  (z:∀o o' v,Q (U.take n++[some (.lst (xs.map h)),o,o',v]))(e:U=U.take n++[some (.lst []),o0,F,B]:=by rfl):aI (cB [zm (n+1),zm (n+2),zm (n+3)]) c b (xs.map toD) U Q E:=
 NV xs (λx=>some (h x)) step (λo o' v=>by rw[show(xs.filterMap λx=>some (h x))=xs.map h from List.filterMap_eq_map▸rfl];show z o o' v) e
end
def Iu(I:Nat->Env->Prop)(xs:List D)
  (step:∀(k:Nat)(x:D),xs[k]?=some x->∀(z:Ends)(U:Env),I k U->(∀U',I (k+1) U'->z.nx U')->(∀U',I (k+1) U'->z.ct U')->z.rt=D'.rt->z.bk=D'.nx->g (.sh x) U (λU=>b z U))
  (L:∀U,I xs.length U->D'.nx U)(Y:I 0 U):bY g b xs D' U:=by
 let:=EW (toD:=λx:D=>x) (g:=g) (b:=b) (D':=D') (λv U=>I v.length U) xs (λv x M z U e O F G B J=>step v.length x (by rw[<-e];simp) z U O (λU' h=>F U' ↑h) (λU' h=>G U' ↑h) B J) L Y;rwa[List.map_id']at this
def Mg:∀l:List (List Nat),∀d∈l.map D.str,mW d:=λl d v=>by let#[x,_,rfl]:=qJ.mp v;trivial
def Ot:([a]:List Nat)<[b]↔a<b:=by simp[List.cons_lt_cons_iff]
def Uh{l:List Nat}(h:l.Pairwise (·<=·))(hn:l.Nodup):l.Pairwise (·<·):=by let:=h.and hn;show this.imp λ⟨h1,h2⟩=>∅
def OO(h:mW x):(aO x (.str z)||decide (30<eG x))=false:=by
 cases x with
 |str i=>rfl
 |_=>show h.elim
def VM{ns:List (List Nat)}:(if(ns.map D.str).any (λx=>aO x (.str z)||decide (30<eG x))then none else some (open Classical in decide (D.str z∈ns.map D.str)))=some (decide (z∈ns)):=by grind[mem_map,any_eq_true.mp,OO,Mg]
def Rh{ns:List (List Nat)}:pU (.str z) (.lst (ns.map D.str))=some (decide (z∈ns)):=VM
def Kl{α β:Type}(p:α->Bool)(f:α->β):∀l:List α,(l.filterMap λx=>if p x=true then some (f x)else none)=(l.filter p).map f
 |[]=>rfl
 |x::l=>by let v:=Kl p f l;cases q:p x<;>simp[q,v]
def MQ:∀l:List (List Nat),bG (l.map D.str)=0
 |[]=>rfl
 |z::l=>by show max (eG (.str z)) (bG (l.map D.str))=0;rw[MQ l];rfl
def RY:eI (.lst (l.map D.str)) (.lst [])=some (!decide (l=[])):=by
 unfold eI fC;rw[q4 (by
  let:eG (.lst (l.map D.str))=1:=by show bG (l.map D.str)+1=1;rw[MQ]
  rw[this];cases l<;>show λz=>Bool.noConfusion (show false=true from z))]
 simp
def GO:∀l:List D,(∀d∈l,eG d<=n)->bG l<=n
 |[],_=>zero_le _
 |d::l,h=>by show max (eG d) (bG l)<=n;let h1:=h d (by simp);let h2:=GO l λx v=>h x (by simp[v]);lia
def PK(h:bG l<=29):eI (.lst l) (.lst [])=some (!l.isEmpty):=by
 unfold eI fC;rw[q4 (by
  let:eG (.lst l)=bG l+1:=rfl;cases l with
  |nil=>show λz=>Bool.noConfusion (show false=true from z)
  |cons x l=>show λz=>absurd (qT (show decide (30<bG (x::l)+1)=true from z)) ∅)]
 cases l<;>simp
def Cg{α:Type}{l:List α}(h:l.length=n+1):∃a r,l=a::r/\r.length=n:=by
 cases l with
 |nil=>cases h
 |cons a r=>show#[a,r,rfl,Nat.succ.inj h]
def JL{α:Type}{l:List α}(h:l.length=0):l=[]:=List.length_eq_zero_iff.mp h
def DM{α:Type}{l:List α}(h:l.length=1):∃a,l=[a]:=by let#[a,r,rfl,k]:=Cg h;obtain rfl:=JL k;show#[a,rfl]
def Fc{α:Type}{l:List α}(h:l.length=2):∃z v,l=[z,v]:=by let#[z,r,rfl,k]:=Cg h;let#[v,rfl]:=DM k;show#[z,v,rfl]
def Fb{α:Type}{l:List α}(h:l.length=3):∃B z v,l=[B,z,v]:=by let#[B,r,rfl,k]:=Cg h;let#[z,v,rfl]:=Fc k;show#[B,z,v,rfl]
def EZ{α:Type}{l:List α}(h:l.length=4):∃F B z v,l=[F,B,z,v]:=by let#[F,r,rfl,k]:=Cg h;let#[B,z,v,rfl]:=Fb k;show#[F,B,z,v,rfl]
def He{α:Type}{l:List α}(h:l.length=5):∃G F B z v,l=[G,F,B,z,v]:=by let#[G,r,rfl,k]:=Cg h;let#[F,B,z,v,rfl]:=EZ k;show#[G,F,B,z,v,rfl]
abbrev Wd:=List Nat
def Dj{z:Int}{n:Nat}(h:z=n):fromTo 0 z.toNat=(List.range n).map λ(k:Nat)=>D.int (k:Int):=by subst h;show map_congr_left λk _=>?_;rw[Int.zero_add]
def Nm(h:v++i::post=List.range n):v.length=i/\i<n:=by
 let h1:(List.range n)[v.length]?=some i:=by rw[<-h];simp
 let#[h2,z]:=qg.mp h1;rw[List.getElem_range]at z;rw[qC]at h2;lia
def ic(D':Ends)(m:Nat)(J:Nat->Env->Prop):Ends:={D' with nx:=λv=>∃z,z<m/\J z v,ct:=λv=>∃z,z<m/\J z v,bk:=D'.nx}
def fj(b:WS)(D':Ends)(m:Nat)(J:Nat->Env->Prop)(k:Bool)(U:Env):Prop:=if k then b (ic D' m J) U else D'.nx U
def wJ:fj b D' m J true U=b (ic D' m J) U:=rfl
def wK:fj b D' m J false U=D'.nx U:=rfl
def Kk(J:Nat->Env->Prop)(m:Nat)(z:J m U)(h:∀m U,J m U->c U (fj b D' m J) D'.ex):fE c b D' U:=#[J,#[m,z],λm U v=>h m U v]
theorem atI_last{l:List α}(h:0<l.length):∃v,v∈l/\l.getLast?=some v/\atI l (-1)=some v:=by show#[l.getLast (qO.mp h),List.getLast_mem _,List.getLast?_eq_some_getLast (qO.mp h),?_];unfold atI ixN;rw[q4 ⋯,qZ ∅];show l[((-1:Int)+(l.length:Int)).toNat]?=_;rw[show((-1:Int)+(l.length:Int)).toNat=l.length-1 by lia,qh ∅,List.getLast_eq_getElem]
end FL
noncomputable section
namespace Law
open FL
def lM:WS:=wExpr (dG 4 (dJ (zk (zj 5) (zk (zj 6) zl))) (zj 7))
def sR:=uS lM.eq_1
def iT:WB:=kT 11 (zj 13)
def sO:=uB iT.eq_1
def iS:WB:=mR (bI (jX (zj 4) (dJ (zk (zj 12) (zk (zj 6) zl))) (cZ zl))) (zm 13) cJ iT
def sN:=uB iS.eq_1
def lL:WS:=zA (zm 10) (cP (wB cH (zk (vW (.set []) 11 2 (bI (zj 10)) (zm 12) cJ iS) zl)))
def sQ:=uS lL.eq_1
def lJ:WB:=bS 11 (dJ (zk (zj 9) (zk (zj 12) zl)))
def sM:=uB lJ.eq_1
def lK:WS:=zy (zA (zm 10) (cP (cZ (zk (zj 9) zl))))
  (zy (dU (bI (zj 1)) (zm 6) lL)
  (wExpr (fB 8 (iV 11 1 (bI (zj 10)) (zm 12) cJ lJ))))
def sP:=uS lK.eq_1
def nG:WF:=fW 2 11 [0,1]
 (zy (zA (cB [zm 2,zm 3]) (zj 0))
  (zy (zA (zm 4) (hV true))
  (zy (zV 4 (dU (bI (zj 3)) (cB [zm 5,zm 6,zm 7]) lM))
  (zy (zA (zm 8) (cZ zl))
  (zy (dU (aX (zj 2)) (zm 9) lK)
  (bM (wB bU (zk (zj 8) zl))))))))
def lG:WS:=wExpr (dG 1 (zj 2) (zj 3))
def sL:=uS lG.eq_1
def bc:WF:=fW 1 4 [0]
 (zy (zA (zm 1) (hV false))
  (zy (dU (bI (zj 0)) (cB [zm 2,zm 3]) lG)
  (bM (zj 1))))
def lD:WB:=mQ 6 (zj 7) (wC (.bl true))
def sE:=uB lD.eq_1
def lE:WS:=zy (zA (zm 5) (cX (zj 3) (wL kO (wC (.int 1)))))
  (wExpr (bX 3 (cP (vW (.dct false [] []) 6 3 (bI (zj 0)) (cB [zm 7,zm 8,zm 9]) (gC (aW fC (zj 8) (zj 4)) (aW cR (zj 9) (zj 5))) lD))))
def sF:=uS lE.eq_1
def ay:WF:=fW 3 6 [0,1,2]
 (zy (zA (zm 3) (cZ (zk (cP (iW (zj 2) (wC (.bl true)))) zl)))
  (zy (dU (lN (zj 1)) (zm 4) lE)
  (bM (nH lS (zj 3) (wL kO (wC (.int 1)))))))
def lC:WB:=bS 4 (zj 7)
def sD:=uB lC.eq_1
def ax:WF:=fW 4 4 [0,1,2,3]
 (bM (iV 4 3 (bI (zj 0)) (cB [zm 5,zm 6,zm 7]) (gC (aW fC (zj 5) (zj 1)) (gC (aW fC (zj 6) (zj 2)) (aW cR (zj 7) (zj 3)))) lC))
def aw:WF:=fW 2 4 [0,1]
 (zy (zA (zm 2) (zx bE (zx cL (wC (.int 7919)) (zj 1)) (wC (.int 11))))
  (zy (hU (aW ak (zj 1) (wB cN (zk (zj 0) zl))) (zA (zm 2) (cX (zj 0) (zj 1))) (hU (aW pV (wB cN (zk (zj 0) zl)) (wC (.int 0))) (zA (zm 2) (zx bE (zj 2) (zx cL (zx eU (cX (zj 0) (zx eU (zj 1) (wB cN (zk (zj 0) zl)))) (wC (.int 2147483629))) (wC (.int 69623))))) cC))
  (zy (zA (zm 3) (zx bE (zx eU (zx bE (zx cL (zx eU (zj 2) (wC (.int 2147483629))) (wC (.int 48271))) (zx cL (wC (.int 40692)) (zj 1))) (wC (.int 2147483629))) (wC (.int 1))))
  (bM (cZ (zk (cX (cZ (zk (wC (.int 0)) (zk (zj 2) zl))) (wB jH (zk (fG (aW ao (zj 2) (zx lZ (wC (.int 10)) (wC (.int 18))))) zl))) (zk (zj 3) zl)))))))
def eT:WF:=fW 2 4 [0,1]
 (zy (hU (aW pV (cX (zj 0) (wC (.int 0))) (wC (.int 0))) (zy (zA (zm 2) (zx eU (cX (zj 0) (wC (.int 0))) (zj 1)))
  (zy (fF 0 (wC (.int 0)) (zx gF (cX (zj 0) (wC (.int 0))) (zj 1)))
  (bM (zj 2)))) cC)
  (zy (zA (zm 3) (zx eU (zx cL (cX (zj 0) (wC (.int 1))) (wC (.int 69623))) (wC (.int 2147483647))))
  (zy (fF 0 (wC (.int 1)) (zx bE (zx eU (zx bE (zx cL (zj 3) (wC (.int 48271))) (wC (.int 30103))) (wC (.int 2147483629))) (wC (.int 1))))
  (bM (zx eU (zx gF (zx bE (zx cL (zj 3) (wC (.int 2147483647))) (cX (zj 0) (wC (.int 1)))) (wC (.int 8191))) (zj 1))))))
def iR:WB:=kT 3 (dJ (zk (zj 4) (zk (zj 6) zl)))
def sJ:=uB iR.eq_1
def iQ:WB:=mR (bI (jX (zj 2) (zj 5) (cZ zl))) (zm 6) cJ iR
def sI:=uB iQ.eq_1
def bb:WF:=fW 2 3 [0,1]
 (zy (zA (zm 2) (cP (zz bc [true] (zk (zj 1) zl))))
  (bM (wB bU (zk (wB cH (zk (vW (.set []) 3 3 (bI (zj 0)) (cB [zm 4,zm 5]) cJ iQ) zl)) zl))))
def lF:WB:=bS 2 (cP (zz nG [true,true] (zk (zj 0) (zk (zj 3) zl))))
def sH:=uB lF.eq_1
def ba:WF:=fW 2 2 [0,1]
 (bM (wB bU (zk (iV 2 1 (bI (zj 1)) (zm 3) cJ lF) zl)))
def gL:WS:=zy (zA (zm 6) (cP (wB kM (zk (zz ax [true,true,true,true] (zk (zj 4) (zk (zj 6) (zk (zj 9) (zk (cX (zj 5) (zx bE (zj 8) (wC (.int 1)))) zl))))) zl))))
  (wExpr (bX 7 (zj 6)))
def sG:=uS gL.eq_1
def az:WF:=fW 4 10 [0,1,2,3]
 (zy (zA (zm 4) (cX (zj 0) (wC (.int 1))))
  (zy (zA (zm 5) (cP (zz ay [true,true,true] (zk (zj 4) (zk (zj 1) (zk (zj 3) zl))))))
  (zy (hU (aW dI (zj 2) (cX (zj 5) (wC (.int 0)))) (bM (wC .non)) cC)
  (zy (zA (zm 6) (zj 2))
  (zy (zA (zm 7) (cZ (zk (zj 6) zl)))
  (zy (dU (jY (zj 1)) (cB [zm 8,zm 9]) gL)
  (bM (wB bU (zk (zj 7) zl)))))))))
def iP:WB:=bS 3 (cP (eL 2 (zz eT [true,true] (zk (zj 0) (zk (wB cN (zk (zj 2) zl)) zl)))))
def sC:=uB iP.eq_1
def av:WF:=fW 2 3 [0,1]
 (zy (zA (zm 2) (wB gX (zk (wC (.str [97,98,99,100,101,102,103,104,105,106,107,108,109,110,111,112,113,114,115,116,117,118,119,120,121,122])) zl)))
  (bM (vV iF (wC (.str [])) (zk (wB cH (zk (iV 3 1 (aX (zj 1)) (zm 4) cJ iP) zl)) zl))))
def gQ:WB:=bS 4 (cX (zj 1) (zz eT [true,true] (zk (zj 0) (zk (wB cN (zk (zj 1) zl)) zl))))
def oA:=uB gQ.eq_1
def lI:WF:=fW 3 4 [0,1,2]
 (zy (zA (zm 3) (zx cL (zz eT [true,true] (zk (zj 0) (zk (zx bE (zj 2) (wC (.int 1))) zl))) (wB jH (zk (fG (aW eI (zj 1) (wC (.str [])))) zl))))
  (bM (vV iF (wC (.str [])) (zk (iV 4 1 (aX (zj 3)) (zm 5) cJ gQ) zl))))
def gP:WS:=zy (zA (zm 10) (zz eT [true,true] (zk (zj 0) (zk (zj 5) zl))))
  (zy (wExpr (bX 6 (dJ (zk (zj 8) (zk (zj 9) (zk (zj 10) zl))))))
  (zA (zm 8) (zj 10)))
def nZ:=uS gP.eq_1
def jW:WS:=zy (zA (zm 8) (zz eT [true,true] (zk (zj 0) (zk (zj 5) zl))))
  (dU (bI (zj 2)) (zm 9) gP)
def nY:=uS jW.eq_1
def jV:WS:=zy (lO 8 10 (zk (zz eT [true,true] (zk (zj 0) (zk (zj 5) zl))) (zk (zz eT [true,true] (zk (zj 0) (zk (zj 5) zl))) zl)))
  (wExpr (bX 6 (dJ (zk (zj 8) (zk (cX (zj 1) (zz eT [true,true] (zk (zj 0) (zk (wB cN (zk (zj 1) zl)) zl)))) (zk (zj 10) zl))))))
def nX:=uS jV.eq_1
def gO:WS:=wExpr (eL 6 (zz eT [true,true] (zk (zj 0) (zk (wB cN (zk (zj 6) zl)) zl))))
def nW:=uS gO.eq_1
def sA:WF:=fW 5 12 [0,1,2,3,4]
 (zy (zA (zm 5) (zx bE (wC (.int 1)) (zz eT [true,true] (zk (zj 0) (zk (zj 3) zl)))))
  (zy (zA (zm 6) (cZ zl))
  (zy (dU (aX (zz eT [true,true] (zk (zj 0) (zk (wC (.int 4)) zl)))) (zm 7) jW)
  (zy (dU (aX (zx cL (zz eT [true,true] (zk (zj 0) (zk (zx bE (zj 4) (wC (.int 1))) zl))) (wB jH (zk (fG (aW eI (zj 1) (wC (.str [])))) zl)))) (zm 11) jV)
  (zy (fE (aW pV (wB iI (zk (wB kS (zk (zj 6) zl)) zl)) (zj 4)) gO)
  (bM (dJ (zk (zj 5) (zk (wB bU (zk (wB cH (zk (wB kS (zk (zj 6) zl)) zl)) zl)) zl)))))))))
def rZ:WF:=fW 3 7 [0,1,2]
 (zy (zA (zm 3) (cX (zj 2) (zz eT [true,true] (zk (zj 0) (zk (wB cN (zk (zj 2) zl)) zl)))))
  (zy (zA (zm 4) (zz eT [true,true] (zk (zj 0) (zk (wC (.int 5)) zl))))
  (zy (zA (zm 5) (cX (zj 1) (zz eT [true,true] (zk (zj 0) (zk (wB cN (zk (zj 1) zl)) zl)))))
  (zy (zA (zm 6) (zz eT [true,true] (zk (zj 0) (zk (wB cN (zk (zj 3) zl)) zl))))
  (bM (cX (cZ (zk (rB (zj 3) none (some (zx bE (zj 6) (wC (.int 1))))) (zk (rB (zj 3) (some (zj 6)) none) (zk (zx bE (zj 5) (zj 3)) (zk (zx bE (zj 3) (zj 5)) (zk (zx bE (zj 3) (zj 3)) zl)))))) (zj 4)))))))
def jT:WS:=wExpr (bX 3 (cP (eL 2 (zz eT [true,true] (zk (zj 0) (zk (wB cN (zk (zj 2) zl)) zl))))))
def nU:=uS jT.eq_1
def rX:WF:=fW 2 4 [0,1]
 (zy (zA (zm 2) (iU (aX (zj 1))))
  (zy (zA (zm 3) (cZ zl))
  (zy (fE (aW eI (zj 2) (cZ zl)) jT)
  (bM (zj 3)))))
def jU:WS:=zy (zA (zm 6) (zx bE (cX (zj 1) (zz eT [true,true] (zk (zj 0) (zk (wB cN (zk (zj 1) zl)) zl)))) (zz lI [true,true,true] (zk (zj 0) (zk (zj 1) (zk (zx lY (zj 3) (wC (.int 1))) zl))))))
  (zy (hU (gC (aW eI (zj 4) (cZ zl)) (aW fC (zz eT [true,true] (zk (zj 0) (zk (wC (.int 2)) zl))) (wC (.int 0)))) (zA (zm 6) (rB (zz rZ [true,true,true] (zk (zj 0) (zk (zj 1) (zk (zj 4) zl)))) none (some (zj 3)))) cC)
  (hU (aW dI (zj 6) (zj 4)) (wExpr (bX 4 (zj 6))) cC))
def nV:=uS jU.eq_1
def rY:WF:=fW 4 7 [0,1,2,3]
 (zy (zA (zm 4) (cZ zl))
  (zy (dU (aX (zx cL (zz eT [true,true] (zk (zj 0) (zk (zx bE (zj 2) (wC (.int 1))) zl))) (wB jH (zk (fG (aW eI (zj 1) (wC (.str [])))) zl)))) (zm 5) jU)
  (bM (wB bU (zk (zj 4) zl)))))
def jR:WB:=bS 7 (dJ (zk (cX (zj 5) (zj 8)) (zk (zj 9) (zk (cX (zj 5) (zx bE (zj 8) (wC (.int 1)))) zl))))
def nQ:=uB jR.eq_1
def jQ:WB:=bS 7 (fG (aW cR (zj 8) (cX (zj 0) (wC (.int 1)))))
def nP:=uB jQ.eq_1
def gN:WS:=zy (zA (zm 5) (cP (zz az [true,true,true,true] (zk (zj 0) (zk (zj 1) (zk (zj 3) (zk (zj 4) zl)))))))
  (zy (hU (aW eI (fG (aW dE (zj 5) (wC .non))) (fG (aW cR (dJ (zk (zj 3) (zk (zj 4) zl))) (zj 2)))) (bM (wC (.bl false))) cC)
  (hU (aW dE (zj 5) (wC .non)) (zy (zV 6 (zA (zm 6) (iV 7 2 (jY (zj 1)) (cB [zm 8,zm 9]) cJ jR)))
  (zy (hU (lA (aW eI (wB cN (zk (zj 5) zl)) (zx bE (wB cN (zk (zj 1) zl)) (wC (.int 1)))) (lA (aW eI (cX (zj 5) (wC (.int 0))) (zj 3)) (aW eI (cX (zj 5) (wL kO (wC (.int 1)))) (zj 4)))) (bM (wC (.bl false))) cC)
  (hU (gB (gD (wB mS (zk (iV 7 1 (bI (zj 6)) (zm 8) cJ jQ) zl)))) (bM (wC (.bl false))) cC))) cC))
def nT:=uS gN.eq_1
def jS:WS:=dU (aX (cX (zj 0) (wC (.int 0)))) (zm 4) gN
def nR:=uS jS.eq_1
def rW:WF:=fW 3 7 [0,1,2]
 (zy (dU (aX (cX (zj 0) (wC (.int 0)))) (zm 3) jS)
  (bM (wC (.bl true))))
def jP:WB:=bS 9 (cP (zz nG [true,true] (zk (zj 1) (zk (zj 10) zl))))
def nO:=uB jP.eq_1
def gM:WB:=bS 9 (zj 10)
def nN:=uB gM.eq_1
def jO:WB:=bS 9 (fG (aW cR (zj 10) (zj 5)))
def nM:=uB jO.eq_1
def jN:WB:=bS 9 (dJ (zk (cX (zj 7) (zj 10)) (zk (zj 11) (zk (cX (zj 7) (zj 12)) zl))))
def nL:=uB jN.eq_1
def jM:WB:=bS 9 (dJ (zk (cX (zj 7) (zj 10)) (zk (cX (zj 7) (zj 11)) zl)))
def nK:=uB jM.eq_1
def rV:WF:=fW 5 9 [0,1,2,3,4]
 (zy (zA (zm 5) (cP (zz nG [true,true] (zk (zj 1) (zk (zx bE (zj 3) (zj 4)) zl)))))
  (zy (hU (lA (aW eI (zj 5) (zz bb [true,true] (zk (cP (zz nG [true,true] (zk (zj 1) (zk (zj 3) zl)))) (zk (cP (zz nG [true,true] (zk (zj 1) (zk (zj 4) zl)))) zl)))) (gB (gD (zz rW [true,true,true] (zk (zj 1) (zk (zx bE (zj 3) (zj 4)) (zk (zj 5) zl))))))) (bM (wC (.bl false))) cC)
  (zy (hU (aW eI (zz ba [true,true] (zk (zj 1) (zk (zj 2) zl))) (wB bU (zk (iV 9 1 (bI (zj 2)) (zm 10) cJ jP) zl))) (bM (wC (.bl false))) cC)
  (zy (zA (zm 6) (dJ (zk (cX (zj 1) (wC (.int 0))) (zk (wB bU (zk (iV 9 1 (bI (cX (zj 1) (wC (.int 1)))) (zm 10) (aW pV (zz eT [true,true] (zk (zj 0) (zk (wC (.int 3)) zl))) (wC (.int 0))) gM) zl)) zl))))
  (zy (hU (gB (gD (wB mS (zk (iV 9 1 (bI (zz nG [true,true] (zk (zj 6) (zk (zx bE (zj 3) (zj 4)) zl)))) (zm 10) cJ jO) zl)))) (bM (wC (.bl false))) cC)
  (zy (zA (zm 7) (cP (zz rX [true,true] (zk (zj 0) (zk (cX (zj 1) (wC (.int 0))) zl)))))
  (zy (zA (zm 8) (dJ (zk (cX (zj 1) (wC (.int 0))) (zk (wB bU (zk (wB cH (zk (iV 9 3 (bI (cX (zj 1) (wC (.int 1)))) (cB [zm 10,zm 11,zm 12]) cJ jN) zl)) zl)) zl))))
  (bM (fG (aW fC (zz nG [true,true] (zk (zj 8) (zk (zx bE (zj 3) (zj 4)) zl))) (wB bU (zk (wB cH (zk (iV 9 2 (bI (zj 5)) (cB [zm 10,zm 11]) cJ jM) zl)) zl))))))))))))
def jL:WS:=zy (zA (zm 2) (zz aw [true,true] (zk (zj 0) (zk (zj 1) zl))))
  (zy (zA (zm 3) (zz av [true,true] (zk (zj 2) (zk (zx bE (wC (.int 1)) (zz eT [true,true] (zk (zj 2) (zk (wC (.int 3)) zl)))) zl))))
  (zy (lO 4 5 (zk (zz lI [true,true,true] (zk (zj 2) (zk (zj 3) (zk (wC (.int 6)) zl)))) (zk (zz lI [true,true,true] (zk (zj 2) (zk (zj 3) (zk (wC (.int 6)) zl)))) zl)))
  (zy (zA (zm 6) (cP (zz sA [true,true,true,true,true] (zk (zj 2) (zk (zj 3) (zk (zx bE (zj 4) (zj 5)) (zk (wC (.int 8)) (zk (wC (.int 24)) zl))))))))
  (zy (zA (zm 7) (cP (zz rY [true,true,true,true] (zk (zj 2) (zk (zj 3) (zk (wC (.int 6)) (zk (wC (.int 6)) zl)))))))
  (hU (gB (gD (zz rV [true,true,true,true,true] (zk (zj 2) (zk (zj 6) (zk (zj 7) (zk (zj 4) (zk (zj 5) zl)))))))) (bM (wC (.bl false))) cC)))))
def nJ:=uS jL.eq_1
def lH:WF:=fW 1 8 [0]
 (zy (dU (aX (zx bE (wC (.int 2)) (wB cN (zk (rB (zj 0) (some (wC (.int 2))) (some (wC (.int 6)))) zl)))) (zm 1) jL)
  (bM (wC (.bl true))))
end Law
end
end
namespace Law
open FL
variable{P:S->List S->Prop}{PX:D->List S->Prop}
set_option hygiene false in
local macro_rules
 |`(tactic|simp! [$xs,*] $[$l:location]?)=>do
  let ls<-("e_C e_V zp5 zl1 e_Un zoR zpa e_Ck zpW znK zlI zmw zka zj1 zqz zmC zmr e_Or zpy zoH znj zpE zmU zoN znr zkF zkI zqo e_gA zqS zoE e_gv zp7 zl4 zmE zox zm9 zns e_l0 e_l1 e_l2 e_l3 e_l5 e_vv e_vl e_cv e_cl znk e_sh zao zp6 e_Ix zqf zpN znN zlo zoB zoP zoJ zog zqr zqH zqm zpb zoY zqP zoU e_p0 e_pv e_pl zqC e_pA e_b0 e_bv e_bl znL zk0 zke zl8 zn6 e_vA zpG e_B e_B1 e_B2 e_MS zpI zqt e_Ap zo4 zpP zpR zqx zoM zno zmI e_Xt zph zpf znZ zls e_Di zn8 zoa zos zmZ zop e_Pt zqT zpO e_Sl zqM zqq zoV zqu e_nx e_rt e_ex zm3 zov e_If zpQ zqa zoi zmB zkv zpA zl9 zmG zpx zm2 zmR zlW e_gN e_gT zoc zpt zoQ zoy zqD znw zlu zm1 zmt zll zk6 e_It zqQ zpk zod zn5 zp0 zpB e_En zqd zn9 zoj e_R1 zp4 zpF zqs zlC zpY zqc zok e_LC zpU zpj zlV zpZ zoO zlt zlS zpp e_Em zoo zpw zp3 e_bF zqO zn1 zpK e_Rt zon zoX e_Fn e_f0 e_fs e_fl e_fA zo6 zmV zpi zlX zof zl5 zo0 zn0 e_lt e_gt e_ge znI znY zm4 zqN zlJ zpu zqR zlr znc zlK zln zlQ znH zpH zqE zo9 zpM zpz zor zqh zp8 zo1 zp1 zoK zpe zqj zoA zqB zqL zqi zoC zoq zqk zpm zo3 zqG zqe zqF zn3 zpL znX zps zn2 zqA zqw zn4 zot zpJ zqJ zoW zoF zlF zlZ zmW zlD znC zmg zmj znM zmn zl6 znG zna znq zpC znm zpq znA zmd zqK zm5 zmY e_Ge zob zqb zpr zpc zoz zl3 zmv zlB e_LI zpX znJ e_CM zoL e_Pu zoZ zn7 zoh zpg e_Ad zoS zpl zoG znQ zmP zlv zlq zql e_SA zow zoD zom zoT zqp e_RS zoI zpo e_RL zqU zo7 zpD zpn zpT map_some S.toD_sh S.toD_lst qy map_nil qN nil_append List.replicate_succ List.replicate_zero Nat.reduceSub Nat.reduceAdd qz List.take_succ_cons List.take_zero true_and S.toDs_map S.toD_dct Int.reduceEq Int.reduceLT Int.reduceLE decide_true decide_false Bool.not_true Bool.not_false".splitOn " ").toArray.mapM λn=>`(Lean.Parser.Tactic.simpLemma|$(Lean.mkIdent n.toName):ident)
  let ls:=ls++xs.getElems
  `(tactic|simp -implicitDefEqProofs (disch:=first|omega|decide|rfl|(simp only[qo,qq,qt,qv,qC,cO];omega)|(simp only[qo,qq,qt,qv,qC,cO];done)) only[$ls,*] $[$l:location]?)
local macro_rules|`(tactic|lia)=>`(tactic|lia -verbose)
noncomputable section pu
def aM(a s:Int):S:=.lst [.sh (.int a),.sh (.int s)]
def BB{a s m:Int}(B:0<=a)(hs:1<=s)(v:s<=2147483629)(z:0<m)(G:m<18446744073709551616)
  (h:∀r F s',0<=r->r<m->0<=F->1<=s'->s'<=2147483629->P (.sh (.int r)) [aM F s',.sh (.int m)]):eT [aM a s,.sh (.int m)] P PX:=by
 show BS rfl rfl ?_;simp! [aM];cases J:decide (0<a)
 .simp! [e_C];show h _ _ _ (Int.emod_nonneg _ ∅) (Int.emod_lt_of_pos _ z) B ∅ ∅
 .simp! [e_C];show h _ _ _ (Int.emod_nonneg _ ∅) (Int.emod_lt_of_pos _ z) (Int.ediv_nonneg B ∅) hs v
def SW{ns:List Int}{k:Int}(L:0<=k)
  (h:∀a s,0<=a->1<=s->s<=2147483629->P (aM a s) [.sh (.lst (ns.map .int)),.sh (.int k)]):aw [.sh (.lst (ns.map .int)),.sh (.int k)] P PX:=by
 show BS rfl rfl ?_;simp! [length_map];by_cases h1:k<ns.length
 .obtain⟨v,J,_,e⟩:=Je (f:=D.int) L h1;simp! [length_map,h1,decide_true,e];cases F:decide ((10:Int)^(18:Int).toNat<=v)
  .simp! [if_true,false_eq_true,if_false];show h _ _ ⋯ ∅ ∅
  .simp! [if_true];let:(0:Int)<=v:=by
    let:=qT F;let e:(10:Int)^(18:Int).toNat=1000000000000000000:=⋯
    lia
   show h _ _ this ∅ ∅
 .by_cases h2:0<ns.length
  .have G:(0:Int)<ns.length:=by lia
   let#[v,J,_,e]:=Je (f:=D.int) (l:=ns) (z:=k %ns.length) (Int.emod_nonneg _ ∅) (Int.emod_lt_of_pos _ G);simp! [length_map,h1,G,decide_true,decide_false,e];generalize 7919*k+11+v %2147483629*69623=B;cases F:decide ((10:Int)^(18:Int).toNat<=B)
   .simp! [if_true,false_eq_true,if_false];show h _ _ ⋯ ∅ ∅
   .simp! [if_true];let:(0:Int)<=B:=by
     let:=qT F;let e:(10:Int)^(18:Int).toNat=1000000000000000000:=⋯
     lia
    show h _ _ this ∅ ∅
  .have G:¬(0:Int)<ns.length:=by lia
   simp! [length_map,h1,G,decide_true,decide_false];generalize 7919*k+11=B;cases F:decide ((10:Int)^(18:Int).toNat<=B)
   .simp! [if_true,false_eq_true,if_false];show h _ _ ⋯ ∅ ∅
   .simp! [if_true];let:(0:Int)<=B:=by
     let:=qT F;let e:(10:Int)^(18:Int).toNat=1000000000000000000:=⋯
     lia
    show h _ _ this ∅ ∅
def SC{l:List D}(h:(dN l).isSome=true)(v:l.length<64):bN l=some (.lst ((bZ l).map .sh)):=by unfold bN;rw[qZ (.inl #[v,.inr h])]
def Si{A:List Nat}(h:A.length<64):∃v:List Nat,v.Perm A/\v.Pairwise (·<=·)/\bN (A.map sg)=some (.lst ((v.map sg).map .sh)):=by
 let e:A.map sg=(A.map λc=>[c]).map D.str:=by rw[qD];rfl
 let#[v,F,B]:=Qz (DE (A.map sg));show#[v,F,?_,?_]
 .let z:=Gn IZ (A.map sg) (by rw[e];show Mg _);rw[B,pairwise_map]at z;show z.imp λ{a b} h=>?_;let h':(!decide (([b]:List Nat)<[a]))=true:=by rw[<-Mp];exact h
  let h2:¬([b]:List Nat)<[a]:=↑h'
  rw[Ot]at h2;lia
 .rw[SC (by rw[Lu];rfl) ↑h,B]
def letters:List Nat:=[97,98,99,100,101,102,103,104,105,106,107,108,109,110,111,112,113,114,115,116,117,118,119,120,121,122]
def SK{Q:Env->Prop}{E:WX}{m:Int}:∀(xs:List D)(a s:Int)(L A:List Nat)(o:Option S),xs.length<=L.length->0<=a->1<=s->s<=2147483629->(A++L).Perm letters->
  (∀O s'(Y M:List Nat) o',0<=O->1<=s'->s'<=2147483629->M.length=A.length+xs.length->(M++Y).Perm letters->Q [some (aM O s'),some (.sh (.int m)),some (.lst ((Y.map sg).map .sh)),some (.lst ((M.map sg).map .sh)),o'])->
  aI (zm 4) cJ iP xs [some (aM a s),some (.sh (.int m)),some (.lst ((L.map sg).map .sh)),some (.lst ((A.map sg).map .sh)),o] Q E:=by
 intro xs;induction xs with
 |nil=>intro a s L A o h1 ha hs z v h;show h a s L A o ha hs z (by simp) v
 |cons x xs ih=>
  intro a s L A o h1 ha hs z v h;let J:=v.length_eq;let h6:letters.length=26:=rfl;simp only[qt,qq]at h1 h J;rw[vL];simp! [sC,e_sh,zao,aM,length_map];show BB ha hs z ?_ ?_ λr O s' hr h3 h5 h2 G=>?_
  .lia
  .lia
  simp! [e_sh,zao,aM,length_map];let#[c,hc,hg,_]:=GH (l:=L) hr h3;show IH hr (by simp only[qo,cO];lia) (JD (d:=sg c) (by rw[qE,hg];rfl)) ?_;simp! [e_sh,zao,aM,length_map];show#[by simp only[cO];lia,?_];let e1:((L.map sg).map S.sh).eraseIdx r.toNat=((L.eraseIdx r.toNat).map sg).map S.sh:=by rw[Fx,Fx]
  let e2:((A.map sg).map S.sh)++[S.sh (sg c)]=(((A++[c]).map sg).map S.sh):=by simp
  rw[e1,e2];let F:r.toNat<L.length:=∅
  let hl:(L.eraseIdx r.toNat).length=L.length-1:=List.length_eraseIdx_of_lt F;let h4:L[r.toNat]=c:=by rw[qh F]at hg;show qf hg
  let B:(A++[c]++L.eraseIdx r.toNat).Perm (A++L):=by rw[qp];show List.Perm.append_left A ?_;let:=Hc L r.toNat F;rw[h4]at this;show this
  show ih O s' _ _ _ ∅ h5 h2 G (B.trans v) λa2 s2 Y M o' x1 x2 x3 x4 x5=>h a2 s2 Y M o' x1 x2 x3 (by rw[x4];simp only[qq,qB];lia) x5
def VT{a s m:Int}(ha:0<=a)(hs:1<=s)(J:s<=2147483629)(hm:0<=m)(h3:m<=26)
  (h:∀(l:List Nat) F s',l.length=m.toNat->l.Pairwise (·<·)->(∀c∈l,97<=c/\c<=122)->0<=F->1<=s'->s'<=2147483629->P (.sh (.str l)) [aM F s',.sh (.int m)]):av [aM a s,.sh (.int m)] P PX:=by
 refine BS rfl rfl ?_;simp! [aM,e_sh,zao];show#[by simp only[cO];lia,?_];let hf:(fromTo 0 m.toNat).length=m.toNat:=EY;let h2:letters.length=26:=rfl;refine SK (fromTo 0 m.toNat) a s letters [] none (by rw[hf,h2];lia) ha hs J (List.Perm.refl _)
  λF s' L' A' o' h1 L v hA z=>?_
 rw[hf,qv,zero_add]at hA;let O:A'.Nodup:=(qw.mp (z.nodup_iff.mpr ⋯)).1;let Y:∀c∈A',97<=c/\c<=122:=λc hc=>by
  let:c∈letters:=z.mem_iff.mp (qj _ hc);let B:∀c∈letters,97<=c/\c<=122:=⋯
  show B c this
 let#[A2,M,G,e]:=Si (A:=A') ∅;let hl:A2.length=m.toNat:=M.length_eq.trans hA;simp! [aM,e_sh,zao,e,Lh (show A2.length<=big by simp only[cO];lia)];show h A2 F s' hl (Uh G (M.nodup_iff.mpr O)) (λc hc=>Y c (M.mem_iff.mp hc)) h1 L v
def Tp{Q:Env->Prop}{E:WX}{m many:Int}{v:List Nat}(hc:0<v.length)(h4:v.length<=26):∀(xs:List D)(a s:Int)(A:List Nat)(o:Option S),0<=a->1<=s->s<=2147483629->A.length+xs.length<=1000->
  (∀J s'(G:List Nat) o',0<=J->1<=s'->s'<=2147483629->G.length=A.length+xs.length->(∀z∈G,z∈A\/z∈v)->Q [some (aM J s'),some (.sh (.str v)),some (.sh (.int m)),some (.sh (.int many)),some (.lst ((G.map sg).map .sh)),o'])->
  aI (zm 5) cJ gQ xs [some (aM a s),some (.sh (.str v)),some (.sh (.int m)),some (.sh (.int many)),some (.lst ((A.map sg).map .sh)),o] Q E:=by
 intro xs;induction xs with
 |nil=>intro a s A o ha O B h3 h;show h a s A o ha O B (by simp) λz L=>.inl L
 |cons x xs ih=>
  intro a s A o ha O B h3 h;simp only[qt]at h3 h;rw[vL];simp! [oA,e_sh,zao,aM,length_map];show BB ha O B ∅ ∅ λr J s' hr Y h2 M F=>?_;let#[c,h1,_,e]:=GH (l:=v) hr Y;simp! [e,e_sh,zao,aM,length_map];show#[by simp only[cO];lia,?_];let e2:((A.map sg).map S.sh)++[S.sh (.str [c])]=(((A++[c]).map sg).map S.sh):=by simp[sg]
  rw[e2];show ih J s' _ _ h2 M F (by simp only[qq,qB];lia) λa2 s2 G o' x1 x2 x3 x4 x5=>h a2 s2 G o' x1 x2 x3 (by rw[x4];simp only[qq,qB];lia) λz L=>?_;rcases x5 z L with q|q
  .rcases qx.mp q with q|q
   .show .inl q
   .rw[qu.mp q];show .inr h1
  .show .inr q
def Jo{a s m:Int}{v:List Nat}(ha:0<=a)(hs:1<=s)(J:s<=2147483629)(hm:0<=m)(h4:m<=900)(hc:0<v.length)(Y:v.length<=26)
  (h:∀(l:List Nat) G s',l.length<=m.toNat->(∀z∈l,z∈v)->0<=G->1<=s'->s'<=2147483629->P (.sh (.str l)) [aM G s',.sh (.str v),.sh (.int m)]):lI [aM a s,.sh (.str v),.sh (.int m)] P PX:=by
 show BS rfl rfl ?_;simp! [aM,e_sh,zao];show BB ha hs J ∅ ∅ λr a1 s1 hr h3 h1 L B=>?_;let O:(decide (v=[]))=false:=by simp;intro z;rw[z]at hc;simp at hc
 simp! [aM,e_sh,zao,O,Bool.not_false,if_true,mul_one];show#[by simp only[cO];lia,?_];let hf:(fromTo 0 r.toNat).length=r.toNat:=EY;show Tp (A:=[]) hc Y _ a1 s1 none h1 L B (by rw[hf];simp only[qv];lia) λG s' A' o' h2 M F hA hg=>?_;rw[hf,qv,zero_add]at hA;simp! [aM,e_sh,zao];rw[Lh (by simp only[cO];lia)];simp! [aM,e_sh,zao];show h A' G s' ∅ (λz hz=>(hg z hz).resolve_left (by simp)) h2 M F
abbrev St:=Int×Nat×Int
def aY(t:St):D:=.tup [.int t.1,.str [t.2.1],.int t.2.2]
def vY:List Bool:=[false,true,false]
def Oo(t:St):dR vY (aY t):=trivial
def KA(L:List St):bO (L.map aY)=true:=by unfold bO;rw[or_eq_true];show .inr (qH.mpr λd v=>?_);let#[t,_,rfl]:=qJ.mp v;rfl
def IA{P:St->Prop}:∀{l:List D},(∀d∈l,∃t,d=aY t/\P t)->∃sts:List St,l=sts.map aY/\∀t∈sts,P t
 |[],_=>#[[],rfl,λ_ z=>nomatch z]
 |d::l,h=>by
  let#[t,rfl,B]:=h d qm;let#[sts,rfl,F]:=IA (l:=l) λe G=>h e (qk _ G);show#[t::sts,rfl,λu v=>?_];rcases qA.mp v with rfl|z
  .show B
  .show F u z
def SR{P:St->Prop}{L:List St}(O:∀t∈L,P t)(Y:(aE (L.map aY)).length<64):∃sts:List St,bN (aE (L.map aY))=some (.lst ((sts.map aY).map .sh))/\sts.length=(aE (L.map aY)).length/\(∀t∈sts,P t)/\(sts.map aY).Pairwise (dP · ·=true)/\(sts.map aY).Nodup:=by
 let G:∀d∈aE (L.map aY),∃t,d=aY t/\P t:=λd B=>by let#[t,J,rfl]:=qJ.mp (zau.mp B);show#[t,rfl,O t J]
 let F:=DE (aE (L.map aY));let#[sts,e,M]:=IA (P:=P) (l:=bZ (aE (L.map aY))) λd B=>G d (F.mem_iff.mp B);let v:∀d∈aE (L.map aY),dR vY d:=λd B=>by let#[t,rfl,_]:=G d B;trivial
 show#[sts,?_,?_,M,?_,?_]
 .unfold bN;rw[qZ (.inr #[∅,.inr #[vY,λz=>(nomatch z),v]]),e]
 .let:=F.length_eq;rw[e,qo]at this;show this
 .rw[<-e];show Gn (GD vY) _ v
 .rw[<-e];show F.nodup_iff.mpr (Fv _)
def eX(many:Int)(sts:List St):D:=.tup [.int many,.tup (sts.map aY)]
def iD(many:Int)(v z:List Nat)(t:St):Prop:=(0<=t.1/\t.1<many)/\(0<=t.2.2/\t.2.2<many)/\(t.2.1∈v\/t.2.1∈z)
def kY(L:List St):S:=.lst ((L.map aY).map .sh)
def Kz(L:List St)(t:St):(L.map aY).map S.sh++[S.sh (.tup [.int t.1,.str [t.2.1],.int t.2.2])]=((L++[t]).map aY).map S.sh:=by simp[aY]
def SG{D':Ends}{many:Int}{B J:List Nat}{s3 s4 s7 M:Option S}(hm:1<=many)(h9:many<=1000):∀(xs:List Nat)(a s x:Int)(L:List St)(F v:Option S),0<=a->1<=s->s<=2147483629->0<=x->x<many->(∀c∈xs,c∈J)->L.length+xs.length<=1000->(∀t∈L,iD many B J t)->
  (∀a' s' x'(L':List St) F v,0<=a'->1<=s'->s'<=2147483629->L'.length=L.length+xs.length->(∀t∈L',iD many B J t)->D'.nx [some (aM a' s'),some (.sh (.str B)),some (.sh (.str J)),s3,s4,some (.sh (.int many)),some (kY L'),s7,some (.sh (.int x')),F,v,M])->
  bY (zm 9) gP (xs.map sg) D' [some (aM a s),some (.sh (.str B)),some (.sh (.str J)),s3,s4,some (.sh (.int many)),some (kY L),s7,some (.sh (.int x)),F,v,M]:=by
 intro xs;induction xs with
 |nil=>intro a s x L F v ha hs G hx O hc hl hL h;show h a s x L F v ha hs G (by simp) hL
 |cons c xs ih=>
  intro a s x L F v ha hs G hx O hc hl hL h;rw[qy,yG];simp only[qt]at hl h;simp! [nZ,aM,kY,sg];show BB ha hs G ∅ ∅ λr a' s' hr h6 h8 h7 Y=>?_;simp! [aM,kY,length_map];show#[by simp only[cO];lia,?_];rw[Kz L (x,c,r)];show ih a' s' r (L++[(x,c,r)]) _ _ h8 h7 Y hr h6 (λd hd=>hc d (qk _ hd)) (by rw[qq,qB];lia) (λt ht=>?_) λa2 s2 x2 L' F v h1 h2 h3 h4 h5=>h a2 s2 x2 L' F v h1 h2 h3 (by rw[h4,qq,qB];lia) h5;rcases qx.mp ht with z|z
  .show hL t z
  .rw[qu.mp z];show#[#[hx,O],#[hr,h6],.inr (hc c qm)]
def Te{D':Ends}{many M:Int}{v G:List Nat}{s3 s7 s8 s9 F B:Option S}(hM:0<=M)(h6:M<=60){a s:Int}{L:List St}(ha:0<=a)(hs:1<=s)(z:s<=2147483629)(Y:L.length<=150)(hL:∀t∈L,iD many v G t)
  (h:∀a' s'(L':List St),0<=a'->1<=s'->s'<=2147483629->L'.length<=150->((aE (L'.map aY)).length:Int)<=M->(∀t∈L',iD many v G t)->D'.nx [some (aM a' s'),some (.sh (.str v)),some (.sh (.str G)),s3,some (.sh (.int M)),some (.sh (.int many)),some (kY L'),s7,s8,s9,F,B]):
  fE (aW pV (wB iI (zk (wB kS (zk (zj 6) zl)) zl)) (zj 4)) gO D' [some (aM a s),some (.sh (.str v)),some (.sh (.str G)),s3,some (.sh (.int M)),some (.sh (.int many)),some (kY L),s7,s8,s9,F,B]:=by
 show Kk (λm U=>∃(a s:Int)(L:List St),0<=a/\1<=s/\s<=2147483629/\L.length<=150/\m=L.length/\(∀t∈L,iD many v G t)/\U=[some (aM a s),some (.sh (.str v)),some (.sh (.str G)),s3,some (.sh (.int M)),some (.sh (.int many)),some (kY L),s7,s8,s9,F,B]) _ #[a,s,L,ha,hs,z,Y,rfl,hL,rfl] λm U hJ=>?_;let#[a,s,L,ha,hs,z,Y,rfl,hL,rfl]:=hJ;simp! [kY,zao,length_map,LC (l:=L.map aY) #[KA L,by rw[length_map];show Y]];let h2:=Mw (L.map aY);rw[qo]at h2;cases q:decide (M<((aE (L.map aY)).length:Int))
 .simp! [wK];show h a s L ha hs z Y (by let:=of_decide_eq_false q;lia) hL
 .let q':=qT q;simp! [wJ,nW,aM,length_map];show BB ha hs z ∅ ∅ λr a' s' hr h5 h3 h1 J=>?_;simp! [aM,length_map];let O:r.toNat<L.length:=by lia
  show IH hr (by simp only[qo,cO];lia) (JD (d:=aY L[r.toNat]) (by rw[qE,qh O];rfl)) ?_;simp! [aM];let h4:(L.eraseIdx r.toNat).length=L.length-1:=List.length_eraseIdx_of_lt O;show#[L.length-1,∅,a',s',L.eraseIdx r.toNat,h3,h1,J,∅,∅,λt ht=>hL t (List.mem_of_mem_eraseIdx ht),?_];rw[Fx,Fx]
def Vh{a s R M:Int}{B J:List Nat}(ha:0<=a)(hs:1<=s)(v:s<=2147483629)(hR:0<R)(hR2:R<=900)(hM:0<=M)(hM2:M<=60)(hc:0<B.length)(hc2:B.length<=26)(hw:J.length<=25)
  (h:∀(many:Int)(sts:List St) a' s',1<=many->many<=R->(sts.length:Int)<=M->(∀t∈sts,iD many B J t)->(sts.map aY).Pairwise (dP · ·=true)->(sts.map aY).Nodup->0<=a'->1<=s'->s'<=2147483629->P (.sh (eX many sts)) [aM a' s',.sh (.str B),.sh (.str J),.sh (.int R),.sh (.int M)]):
  sA [aM a s,.sh (.str B),.sh (.str J),.sh (.int R),.sh (.int M)] P PX:=by
 show BS rfl rfl ?_;simp! [aM];show BB ha hs v hR ∅ λr a1 s1 hr hr2 r1 hi h7=>?_;simp! [aM];show BB r1 hi h7 ⋯ ⋯ λr2 a2 s2 hr20 hr22 hq hs2' Y=>?_;simp! [aM];show#[by simp only[cO];lia,?_];let hne:(decide (B=[]))=false:=by simp;intro z;rw[z]at hc;simp at hc
 show Iu (λk U=>∃(a s:Int)(L:List St)(o7 o8 o9 F:Option S),0<=a/\1<=s/\s<=2147483629/\L.length=k*J.length/\(∀t∈L,iD (1+r) B J t)/\U=[some (aM a s),some (.sh (.str B)),some (.sh (.str J)),some (.sh (.int R)),some (.sh (.int M)),some (.sh (.int (1+r))),some (kY L),o7,o8,o9,F,none]) _ (λk x hx D2 U hI hd hct hrt hbk=>?_) (λU hI=>?_) #[a2,s2,[],none,none,none,none,hq,hs2',Y,by simp,λ_ z=>(nomatch z),rfl]
 .obtain⟨a,s,L,o7,o8,o9,F,ha,hs,v,hL,G,rfl⟩:=hI;let hk:k<4:=by let:=(qg.mp hx).1;rw[EY]at this;lia
  let hb:k*J.length<=3*25:=mul_le_mul ∅ hw;simp! [nY,aM];show BB ha hs v ∅ ∅ λr3 a3 s3 hl h8 hm hp O=>?_;simp! [aM,ib];show SG ∅ ∅ J a3 s3 r3 L _ _ hm hp O hl h8 (λc hc=>hc) ∅ G λa' s' x' L' o9 F h1 h2 h3 h4 h5=>hd _ #[a',s',L',_,_,o9,F,h1,h2,h3,?_,h5,rfl];rw[h4,hL,succ_mul]
 .obtain⟨a,s,L,o7,o8,o9,F,ha,hs,v,hL,G,rfl⟩:=hI;rw[EY]at hL;let hb:r2.toNat*J.length<=3*25:=mul_le_mul ∅ hw;simp! [aM];show BB ha hs v ∅ ∅ λr4 a4 s4 hr4 hr42 ha4 hs4 k3=>?_;simp! [aM,hne,Bool.not_false,if_true,mul_one];show#[by simp only[cO];lia,?_];refine Iu (λk U=>∃(a s:Int)(L:List St)(o7 o8 o9 F h9:Option S),0<=a/\1<=s/\s<=2147483629/\L.length<=75+k/\(∀t∈L,iD (1+r) B J t)/\U=[some (aM a s),some (.sh (.str B)),some (.sh (.str J)),some (.sh (.int R)),some (.sh (.int M)),some (.sh (.int (1+r))),some (kY L),o7,o8,o9,F,h9]) _ (λk x hx D2 U hI hd hct hrt hbk=>?_) (λU hI=>?_) #[a4,s4,L,o7,o8,o9,F,none,ha4,hs4,k3,∅,G,rfl]
  .obtain⟨a,s,L,o7,o8,o9,F,h9,ha,hs,v,hL,G,rfl⟩:=hI;let hk:k<61:=by let:=(qg.mp hx).1;rw[EY]at this;lia
   simp! [nX,aM];show BB ha hs v ∅ ∅ λx1 a1 s1 hx1 k2 r1 hi h7=>?_;simp! [aM];show BB r1 hi h7 ∅ ∅ λy1 a2 s2 hy1 k1 hq v Y=>?_;simp! [aM,kY];show BB hq v Y ∅ ∅ λr3 a3 s3 hl h8 hm hp O=>?_;let#[c,hcm,_,e]:=GH (l:=B) hl h8;simp! [aM,e,length_map];show#[by simp only[cO];lia,?_];rw[Kz L (x1,c,y1)];show hd _ #[a3,s3,L++[(x1,c,y1)],_,_,_,_,_,hm,hp,O,by rw[qq,qB];lia,λt ht=>?_,rfl];rcases qx.mp ht with z|z
   .show G t z
   .rw[qu.mp z];show#[#[hx1,k2],#[hy1,k1],.inl hcm]
  .obtain⟨a,s,L,o7,o8,o9,F,h9,ha,hs,v,hL,G,rfl⟩:=hI;rw[EY]at hL;simp! [e_C];show Te (L:=L) hM hM2 ha hs v ∅ G λa' s' L' h1 h2 h3 h4 h5 h6=>?_;let#[sts,e1,e2,e3,e4,e5]:=SR h6 ∅;simp! [kY,zao,length_map,LC (l:=L'.map aY) #[KA L',by rw[length_map];show h4],e1];show h (1+r) sts a' s' ∅ ∅ ∅ e3 e4 e5 h1 h2 h3
def zW:D->Int
 |.int i=>i
 |_=>0
def IW:∀{l:List D},(∀d∈l,∃i,d=D.int i)->(l.map zW).map D.int=l
 |[],_=>rfl
 |d::l,h=>by let#[i,rfl]:=h d qm;rw[qy,qy,IW λe v=>h e (qk _ v)];rfl
def jZ(sts:List St)(c:Nat)(ns:List Int):List Int:=(sts.filter λt=>decide (t.2.1=c)&&decide (t.1∈ns)).map (·.2.2)
def nx(sts:List St)(c:Nat)(ns:List Int):List Int:=(bZ (aE ((jZ sts c ns).map D.int))).map zW
def Lw(sts:List St)(c:Nat)(ns:List Int):(jZ sts c ns).length<=sts.length:=by unfold jZ;rw[qo];show length_filter_le ..
def GY{l:List Int}{d:D}(h:d∈aE (l.map D.int)):∃i,d=D.int i:=by let#[i,_,rfl]:=qJ.mp (zau.mp h);show#[i,rfl]
def FF(sts:List St)(c:Nat)(ns:List Int):(nx sts c ns).map D.int=bZ (aE ((jZ sts c ns).map D.int)):=IW λd v=>GY ((DE _).mem_iff.mp v)
def PN(sts:List St)(c:Nat)(ns:List Int):(nx sts c ns).length<=sts.length:=by
 let h1:(nx sts c ns).length=(aE ((jZ sts c ns).map D.int)).length:=by unfold nx;rw[qo];show(DE _).length_eq
 let h2:=Mw ((jZ sts c ns).map D.int);let v:=Lw sts c ns;rw[qo]at h2;lia
def Ru{l:List D}(h:∀d∈l,∃i,d=D.int i)(v:l.length<64):bN l=some (.lst ((bZ l).map .sh)):=by unfold bN;rw[qZ (.inl #[v,.inl (by rw[<-IW h,MN];rfl)])]
def bJ(sts:List St)(w:List Nat)(x:Int):List Int:=w.foldl (λv c=>nx sts c v) [x]
def Js(sts:List St)(w:List Nat)(c:Nat)(x:Int):bJ sts (w++[c]) x=nx sts c (bJ sts w x):=by unfold bJ;rw[foldl_append];rfl
def Md(sts:List St)(w:List Nat)(x:Int):(bJ sts w x).length<=sts.length+1:=by
 rcases List.eq_nil_or_concat w with rfl|⟨v,c,rfl⟩
 .simp[bJ]
 .rw[List.concat_eq_append,Js];let:=PN sts c (bJ sts v x);lia
def pD(p:Int×Int):D:=.tup [.int p.1,.int p.2]
def bT(m:Nat)(sts:List St)(w:List Nat):List (Int×Int):=(List.range m).flatMap λ(x:Nat)=>(bJ sts w (x:Int)).map λy=>((x:Int),y)
def bD(m:Nat)(sts:List St)(w:List Nat):List D:=(bT m sts w).map pD
def LQ(sts:List St)(w:List Nat):∀m,(bD m sts w).length<=m*(sts.length+1)
 |0=>by simp[bD,bT]
 |m+1=>by let h1:=LQ sts w m;let h2:=Md sts w m;unfold bD bT at h1⊢;rw[qo]at h1⊢;rw[range_succ,flatMap_append,qq,succ_mul];simp only[List.flatMap_cons,List.flatMap_nil,qz,qo];lia
def SX(m:Nat)(sts:List St)(w:List Nat):bD (m+1) sts w=bD m sts w++(bJ sts w m).map λy=>D.tup [.int m,.int y]:=by unfold bD bT;rw[range_succ,flatMap_append];simp[pD]
abbrev Gk:=Int×Nat
def eK(k:Gk):D:=.tup [.int k.1,.str [k.2]]
def IL{a b:Gk}(h:eK a=eK b):a=b:=by
 unfold eK at h;injection h with h
 injection h with h1 h2
 injection h2 with h2 _
 injection h1 with h1
 injection h2 with h2
 injection h2 with h2
 show Prod.ext h1 h2
def bB(v:List St)(k:Gk):List Int:=(v.filter λt=>decide ((t.1,t.2.1)=k)).map (·.2.2)
def Ih(v:List St)(t:St)(k:Gk):bB (v++[t]) k=bB v k++(if(t.1,t.2.1)=k then[t.2.2]else[]):=by
 unfold bB;rw[List.filter_append,map_append];congr 1;by_cases h:(t.1,t.2.1)=k
 .rw[qZ h,List.filter_cons_of_pos (by show qQ h)];rfl
 .rw[q4 h,List.filter_cons_of_neg (by rw[qS];show h)];rfl
structure pY(G:List (Gk×List Int))(pre:List St):Prop where
 nd:(G.map (·.1)).Nodup
 val:∀p∈G,p.2=bB pre p.1
 all:∀t∈pre,(t.1,t.2.1)∈G.map (·.1)
 len:G.length<=pre.length
def cU(G:List (Gk×List Int)):List D:=G.map λp=>eK p.1
def gV(G:List (Gk×List Int)):List S:=G.map λp=>S.lst ((p.2.map D.int).map S.sh)
def jF(G:List (Gk×List Int)):List D:=G.map λp=>D.lst (p.2.map D.int)
def gS(G:List (Gk×List Int)):S:=.dct true (cU G) (gV G)
def PY(G:List (Gk×List Int)):(gS G).toD=.dct true (cU G) (jF G):=by unfold gS gV jF;rw[S.toD_dct,qD];congr 1;show map_congr_left λp _=>?_;simp[Function.comp_def]
def PM{G:List (Gk×List Int)}{k:Gk}:(∃m p,eE (cU G) (eK k)=some m/\G[m]?=some p/\p.1=k)\/(eE (cU G) (eK k)=none/\k∉G.map (·.1)):=by
 unfold eE cU;cases q:(G.map λp=>eK p.1).findIdx? (λx=>open Classical in decide (x=eK k))with
 |some m=>let#[h1,h2,_]:=List.findIdx?_eq_some_iff_getElem.mp q;rw[qo]at h1;show .inl #[m,G[m],rfl,qh h1,?_];rw[getElem_map]at h2;show IL ↑h2
 |none=>show .inr #[rfl,λz=>?_];let#[p,v,rfl]:=qJ.mp z;let:=findIdx?_eq_none_iff.mp q (eK p.1) (qJ.mpr #[p,v,rfl]);simp at this
def PB{G:List (Gk×List Int)}{B:List St}(h:pY G B)(t:St):∃(G':List (Gk×List Int))(l':List Int),pY G' (B++[t])/\l'.length<=B.length/\
  (aP (cU G) (gV G) (eK (t.1,t.2.1))).2.1[(aP (cU G) (gV G) (eK (t.1,t.2.1))).2.2]?=some (.lst ((l'.map D.int).map .sh))/\
  S.dct true (aP (cU G) (gV G) (eK (t.1,t.2.1))).1 ((aP (cU G) (gV G) (eK (t.1,t.2.1))).2.1.set (aP (cU G) (gV G) (eK (t.1,t.2.1))).2.2 (.lst ((l'.map D.int).map .sh++[.sh (.int t.2.2)])))=gS G':=by
 let Y:∀k,(bB B k).length<=B.length:=λk=>by unfold bB;rw[qo];show length_filter_le ..
 rcases PM (G:=G) (k:=(t.1,t.2.1))with⟨m,p,e1,J,e3⟩|⟨e1,J⟩
 .have hm:=(qg.mp J).1;let hp:p∈G:=qL J;let es:aP (cU G) (gV G) (eK (t.1,t.2.1))=(cU G,gV G,m):=by unfold aP;rw[e1]
  let L:∀j,j<G.length->(G[j]?.map (·.1))=some (t.1,t.2.1)->j=m:=λj v z=>by show(getElem?_inj (l:=G.map (·.1)) (by rw[qo];show v) h.nd).mp ?_;rw[qE,qE,z,J];show _=some p.1;rw[e3]
  show#[G.set m (p.1,p.2++[t.2.2]),p.2,#[?_,λq M=>?_,λu h1=>?_,by rw[length_set,qq];let:=h.len;lia],by rw[h.val p hp];show Y _,?_,?_]
  .have:(G.set m (p.1,p.2++[t.2.2])).map (·.1)=G.map (·.1):=by
    rw[map_set];apply ext_getElem?;intro j;rw[getElem?_set];by_cases v:m=j
    .subst v;rw[qZ rfl,qZ (by rw[qo];show hm),qE,J];rfl
    .rw[q4 v]
   rw[this];show h.nd
  .obtain⟨j,v,rfl⟩:=getElem_of_mem M;rw[length_set]at v;rw[List.getElem_set];by_cases F:m=j
   .rw[qZ F];show p.2++[t.2.2]=bB (B++[t]) p.1;rw[Ih,e3,qZ rfl,h.val p hp,e3]
   .rw[q4 F,Ih,q4 λz=>F (L j v (by rw[qh v,z];rfl)).symm,qz];show h.val _ (getElem_mem v)
  .have hk:∀k∈G.map (·.1),k∈(G.set m (p.1,p.2++[t.2.2])).map (·.1):=λk hk=>by
    let#[q,M,rfl]:=qJ.mp hk;let#[j,v,rfl]:=getElem_of_mem M;by_cases F:m=j
    .subst F;show qJ.mpr #[(p.1,p.2++[t.2.2]),mem_set v _,?_];rw[qh v]at J;cases J;rfl
    .show qJ.mpr #[G[j],?_,rfl];let:(G.set m (p.1,p.2++[t.2.2]))[j]?=some G[j]:=by rw[getElem?_set_ne F,qh v]
     show qL this
   rcases qx.mp h1 with z|z
   .show hk _ (h.all u z)
   .rw[qu.mp z];show hk _ (qJ.mpr #[p,hp,e3])
  .rw[es];show(gV G)[m]?=_;unfold gV;rw[qE,J];rfl
  .rw[es];unfold gS cU gV;show S.dct true (G.map λp=>eK p.1) ((G.map λp=>S.lst ((p.2.map D.int).map S.sh)).set m _)=_;congr 1
   .rw[map_set];apply ext_getElem?;intro j;rw[getElem?_set];by_cases v:m=j
    .subst v;rw[qZ rfl,qZ (by rw[qo];show hm),qE,J];rfl
    .rw[q4 v]
   .rw[map_set];congr 2;simp
 .have es:aP (cU G) (gV G) (eK (t.1,t.2.1))=(cU G++[eK (t.1,t.2.1)],gV G++[.lst []],(cU G).length):=by unfold aP;rw[e1]
  let hl:(cU G).length=(gV G).length:=by unfold cU gV;simp
  let O:bB B (t.1,t.2.1)=[]:=by unfold bB;rw[map_eq_nil_iff,filter_eq_nil_iff];intro u L z;rw[qS]at z;show J (z▸h.all u L)
  show#[G++[((t.1,t.2.1),[t.2.2])],[],#[?_,λq M=>?_,λu L=>?_,by rw[qq,qq];let:=h.len;simp only[qB];lia],zero_le _,?_,?_]
  .rw[map_append];show qw.mpr #[h.nd,by simp,λa ha b hb e=>by rw[qy,map_nil,qu]at hb;let h3:b=(t.1,t.2.1):=hb;rw[e,h3]at ha;show J ha]
  .rcases qx.mp M with z|z
   .rw[Ih,q4 λy=>J (qJ.mpr #[q,z,y.symm]),qz];show h.val q z
   .rw[qu.mp z,Ih,qZ rfl,O];rfl
  .rw[map_append];rcases qx.mp L with z|z
   .show qj _ (h.all u z)
   .rw[qu.mp z];show qi _ (by simp)
  .rw[es];show(gV G++[S.lst []])[(cU G).length]?=_;rw[hl,getElem?_append_right (q5 _),sub_self];rfl
  .rw[es];show S.dct true (cU G++[eK (t.1,t.2.1)]) ((gV G++[S.lst []]).set (cU G).length _)=_;rw[hl,List.set_append_right _ _ (q5 _),sub_self];unfold gS cU gV;rw[map_append,map_append];rfl
def Kt{f:Gk->List Int}{k:Gk}:∀{G:List (Gk×List Int)},(∀p∈G,p.2=f p.1)->lk (cU G) (jF G) (eK k)=some (.lst ((f k).map D.int))\/(lk (cU G) (jF G) (eK k)=none/\k∉G.map (·.1))
 |[],_=>.inr #[rfl,λz=>nomatch z]
 |p::G,h=>by
  let e:lk (cU (p::G)) (jF (p::G)) (eK k)=(open Classical in if eK p.1=eK k then some (D.lst (p.2.map D.int))else lk (cU G) (jF G) (eK k)):=rfl;by_cases v:p.1=k
  .left
   rw[e,qZ (by rw[v]),h p qm,v]
  .rw[e,q4 λz=>v (IL z)];rcases Kt (G:=G) (f:=f) (k:=k) λq B=>h q (qk _ B)with z|⟨z,y⟩
   .show .inl z
   .show .inr #[z,λw=>?_];rw[qy,qA]at w;rcases w with w|w
    .show v w.symm
    .show y w
def Hz:∀{l m:List D},l.Nodup->(∀d∈l,d∈m)->l.length<=m.length
 |[],_,_,_=>zero_le _
 |d::l,m,h,hs=>by
  obtain⟨m1,m2,rfl⟩:=append_of_mem (hs d qm);let#[h1,h2]:=qK.mp h;let:=Hz (l:=l) (m:=m1++m2) h2 λe v=>by
   rcases qx.mp (hs e (qk _ v))with z|z
   .show qj _ z
   .rcases qA.mp z with rfl|z
    .show absurd v h1
    .show qi _ z
  simp only[qq,qt]at this⊢;lia
def Nq(l:List D)(d:D):aE (l++[d])=cI (aE l) d:=by unfold aE;rw[foldl_append];rfl
def Ub{l m:List Int}(h:∀i,i∈l↔i∈m):bZ (aE (l.map D.int))=bZ (aE (m.map D.int)):=by
 have v:(aE (m.map D.int)).Perm (aE (l.map D.int)):=(perm_ext_iff_of_nodup (Fv _) (Fv _)).mpr λd=>by
  rw[zau,zau];constructor
  .intro z;let#[i,hi,rfl]:=qJ.mp z;show qJ.mpr #[i,(h i).mpr hi,rfl]
  .intro z;let#[i,hi,rfl]:=qJ.mp z;show qJ.mpr #[i,(h i).mp hi,rfl]
 let hi:∀{l:List Int},∀d∈aE (l.map D.int),mX d:=λd B=>by let#[i,rfl]:=GY B;trivial
 show Gj HP hi ((DE _).trans v) (Gn HP _ hi)
def jG(sts:List St)(c:Nat)(ns:List Int):List Int:=ns.flatMap λr=>bB sts (r,c)
theorem zf7{sts:List St}{c:Nat}{ns:List Int}{i:Int}:i∈jG sts c ns↔i∈jZ sts c ns:=by
 unfold jG jZ bB;simp only[mem_flatMap,qJ,mem_filter,and_eq_true,qS];constructor
 .rintro⟨r,z,t,⟨v,e⟩,rfl⟩;injection e with e1 e2
  show#[t,#[v,e2,e1▸z],rfl]
 .rintro⟨t,⟨v,e,z⟩,rfl⟩;show#[t.1,z,t,#[v,by rw[e]],rfl]
def Ld{sts:List St}{l:List Int}{c:Nat}{ns:List Int}(h:∀i∈l,i∈jG sts c ns):(aE (l.map D.int)).length<=sts.length:=by
 let h1:=Hz (l:=aE (l.map D.int)) (m:=(jZ sts c ns).map D.int) (Fv _) λd v=>by let#[i,hi,rfl]:=qJ.mp (zau.mp v);show qJ.mpr #[i,zf7.mp (h i hi),rfl]
 rw[qo]at h1;show le_trans h1 (Lw ..)
def PJ{i:Int}{l:List Int}:bO (.int i::aE (l.map D.int))=true:=by
 unfold bO;rw[or_eq_true];show .inl (qH.mpr λd v=>?_);rcases qA.mp v with rfl|z
 .rfl
 .obtain⟨j,rfl⟩:=GY z;rfl
def SL{Q:Env->Prop}{E:WX}{G:List (Gk×List Int)}{sts:List St}{c:Nat}{ns:List Int}{s0 s1 s2 s3 s5 s7 s8 Y J B v:Option S}(hG:pY G sts)(hl:sts.length<=60)
  (h5:∀B v,Q [s0,s1,s2,s3,some (.sh (.dct true (cU G) (jF G))),s5,some (.sh (.str [c])),s7,s8,Y,J,some (.set (aE ((jG sts c ns).map D.int))),B,v]):
  aI (zm 12) cJ iS (ns.map D.int) [s0,s1,s2,s3,some (.sh (.dct true (cU G) (jF G))),s5,some (.sh (.str [c])),s7,s8,Y,J,some (.set []),B,v] Q E:=by
 show Gd (λF U=>∃B v,U=[s0,s1,s2,s3,some (.sh (.dct true (cU G) (jF G))),s5,some (.sh (.str [c])),s7,s8,Y,J,some (.set (aE ((jG sts c F).map D.int))),B,v]) ns (λF r h6 K U e hI hK=>?_) (λU hI=>?_) #[B,v,rfl]
 .obtain⟨B,v,rfl⟩:=hI;let hr:r∈ns:=by rw[<-e];simp
  let eb:jG sts c (F++[r])=jG sts c F++bB sts (r,c):=by unfold jG;rw[flatMap_append];simp
  have M:∀(xs:List Int)(v:Option S),xs=bB sts (r,c)->aI (zm 13) cJ iT (xs.map D.int) [s0,s1,s2,s3,some (.sh (.dct true (cU G) (jF G))),s5,some (.sh (.str [c])),s7,s8,Y,J,some (.set (aE ((jG sts c F).map D.int))),some (.sh (.int r)),v] K E:=λxs v ex=>by
   show Gd (λL U=>∃v,U=[s0,s1,s2,s3,some (.sh (.dct true (cU G) (jF G))),s5,some (.sh (.str [c])),s7,s8,Y,J,some (.set (aE ((jG sts c F++L).map D.int))),some (.sh (.int r)),v]) xs (λL z h3 K2 U e2 O h4=>?_) (λU O=>?_) #[v,by rw[qz]]
   .obtain⟨v,rfl⟩:=O;let hb:(aE ((jG sts c F++L).map D.int)).length<=sts.length:=Ld (c:=c) (ns:=ns) λi hi=>by
     unfold jG;rw[mem_flatMap];rcases qx.mp hi with y|y
     .unfold jG at y;let#[r',h1,h2]:=mem_flatMap.mp y;show#[r',by rw[<-e];show qj _ h1,h2]
     .show#[r,hr,by rw[<-ex,<-e2];show qj _ y]
    simp! [dS,jK,sO];show#[PJ,∅,?_];rw[<-Nq];show h4 _ #[some (.sh (.int z)),by simp]
   .obtain⟨v,rfl⟩:=O;rw[ex,<-eb];show hK _ #[_,_,rfl]
  simp! [dS,jK,sN];rcases Kt (k:=(r,c)) hG.val with z|⟨z,y⟩
  .let z':lk (cU G) (jF G) (.tup [.int r,.str [c]])=some (.lst ((bB sts (r,c)).map D.int)):=z;simp! [z'];show M _ _ rfl
  .have z':lk (cU G) (jF G) (.tup [.int r,.str [c]])=none:=z;let hn:[]=bB sts (r,c):=by
    unfold bB
    symm
    rw[map_eq_nil_iff,filter_eq_nil_iff];intro u hu w;rw[qS]at w;show y (w▸hG.all u hu)
   simp! [z'];show M [] _ hn
 .obtain⟨B,v,rfl⟩:=hI;show h5 B v
def Fy{m:Nat}{sts:List St}{w:List Nat}(hl:sts.length<=60)(hm:m<=900)
  (h:P (.sh (.tup (bD m sts w))) [.sh (eX m sts),.sh (.str w)]):nG [.sh (eX m sts),.sh (.str w)] P PX:=by
 show BS rfl rfl ?_;simp! [eX,length_cons,length_nil];show EW (toD:=aY) (λv U=>∃(G:List (Gk×List Int))(L F J:Option S),pY G v/\U=[some (.sh (eX m sts)),some (.sh (.str w)),some (.sh (.int m)),some (.sh (.tup (sts.map aY))),some (gS G),L,F,J,none,none,none]) sts (λv t h1 D2 U e hI O h7 h5 h8=>?_) (λU hI=>?_) #[[],none,none,none,#[.nil,λ_ z=>(nomatch z),λ_ z=>(nomatch z),q5 _],rfl]
 .obtain⟨G,L,F,J,hG,rfl⟩:=hI;let hr:v.length<=sts.length:=by rw[<-e];simp
  let#[G',l',e3,ha,e1,e2]:=PB hG t;let h6:(cU G).Nodup:=by unfold cU;let:=hG.nd;rw[show(G.map λp=>eK p.1)=(G.map (·.1)).map eK by rw[qD];rfl];show List.Pairwise.map _ (λa b h9 z=>h9 (IL z)) this
  let r2:(cU G).length<=60:=by let:=hG.len;unfold cU;rw[qo];lia
  simp! [sR,aY,length_cons,length_nil,gS];show#[rfl,h6,by simp only[cO];lia,?_];let h3:=e1;unfold eK at h3 e2;rw[Mr h3];simp! [length_map];show#[by simp only[cO];lia,?_];rw[e2];show O _ #[G',_,_,_,e3,rfl]
 .obtain⟨G,L,F,J,hG,rfl⟩:=hI;simp! [PY];show#[by simp only[cO];lia,?_];rw[Dj (n:=m) rfl];refine EW (λv U=>∃(L F J o9 M:Option S),U=[some (.sh (eX m sts)),some (.sh (.str w)),some (.sh (.int m)),some (.sh (.tup (sts.map aY))),some (.sh (.dct true (cU G) (jF G))),L,F,J,some (.lst ((bD v.length sts w).map .sh)),o9,M]) (List.range m) (λv k h1 D2 U e hI O h7 h5 h8=>?_) (λU hI=>?_) #[L,F,J,none,none,rfl]
  .obtain⟨L,F,J,o9,M,rfl⟩:=hI;let#[hk,r1]:=Nm e;simp! [sP,zao,ib];refine EW (toD:=sg) (λB U=>∃(F:Option S),U=[some (.sh (eX m sts)),some (.sh (.str w)),some (.sh (.int m)),some (.sh (.tup (sts.map aY))),some (.sh (.dct true (cU G) (jF G))),L,F,J,some (.lst ((bD v.length sts w).map .sh)),some (.sh (.int k)),some (.sh (.lst ((bJ sts B k).map D.int)))]) w (λB c h4 D3 U e2 Y h2 hx e4 hp=>?_) (λU Y=>?_) #[F,rfl]
   .obtain⟨F,rfl⟩:=Y;simp! [sQ,sg];show SL hG hl λhs hc=>?_;let hb:(aE ((jG sts c (bJ sts B k)).map D.int)).length<=sts.length:=Ld λi hi=>hi;simp! [Ru (λd hd=>GY hd) (show(aE ((jG sts c (bJ sts B k)).map D.int)).length<64 by lia),zao];rw[Ub (m:=jZ sts c (bJ sts B k)) λi=>zf7,<-FF,<-Js];show h2 _ #[_,rfl]
   .obtain⟨F,rfl⟩:=Y;let he:=Md sts w (k:Int);let ht:=LQ sts w v.length;let hb:v.length*(sts.length+1)<=900*61:=mul_le_mul ∅ ∅;simp! [e_C];refine Hx (n:=11) (toD:=D.int) (bJ sts w k) (λy=>S.sh (.tup [.int k,.int y])) (λy hy l o K hq hK=>?_) λo=>?_
    .simp! [dS,jK,sM,length_cons,length_nil];show#[by simp only[cO];lia,hK _]
    .simp! [length_map];show#[by simp only[cO];lia,O _ #[L,F,J,some (.sh (.int k)),some (.sh (.lst ((bJ sts w k).map D.int))),?_]];rw[qq,qB,SX,map_append,hk,qD];rfl
  .obtain⟨L,F,J,o9,M,rfl⟩:=hI;rw[qC];simp! [zao];show h
@[inline]def Wk(R:Int->Nat->Int->Prop):List Nat->Int->Int->Prop
 |[],x,y=>x=y
 |c::w,x,y=>∃z,R x c z/\Wk R w z y
theorem zeq{R:Int->Nat->Int->Prop}{c:Nat}:∀{w:List Nat}{x y:Int},Wk R (w++[c]) x y↔∃z,Wk R w x z/\R z c y
 |[],x,y=>by show(∃z,R x c z/\z=y)↔∃z,x=z/\R z c y;show#[λ⟨z,h,e⟩=>#[x,rfl,e▸h],λ⟨z,e,h⟩=>#[y,e▸h,rfl]]
 |d::w,x,y=>by
  show(∃z,R x d z/\Wk R (w++[c]) z y)↔∃z,(∃v,R x d v/\Wk R w v z)/\R z c y;constructor
  .rintro⟨z,h,k⟩;let#[v,F,B]:=zeq.mp k;show#[v,#[z,h,F],B]
  .rintro⟨z,⟨v,h,k⟩,B⟩;show#[v,h,zeq.mpr #[z,k,B]]
def iB(sts:List St)(a:Int)(c:Nat)(b:Int):Prop:=(a,c,b)∈sts
def Qq{sts:List St}{c:Nat}{ns:List Int}{i:Int}:i∈jZ sts c ns↔∃z∈ns,iB sts z c i:=by
 unfold jZ iB;simp only[qJ,mem_filter,and_eq_true,qS];constructor
 .rintro⟨⟨a,d,b⟩,⟨h1,h2,B⟩,v⟩;cases h2;cases v;show#[a,B,h1]
 .rintro⟨z,h1,h2⟩;show#[(z,c,i),#[h2,rfl,h1],rfl]
def Mf{l:List Int}{i:Int}:D.int i∈l.map D.int↔i∈l:=#[λh=>by let#[j,v,e]:=qJ.mp h;cases e;show v,λh=>qJ.mpr #[i,h,rfl]]
def ON{sts:List St}{c:Nat}{ns:List Int}{i:Int}:i∈nx sts c ns↔∃z∈ns,iB sts z c i:=by rw[<-Mf,FF,(DE _).mem_iff,zau,Mf,Qq]
def Ml{sts:List St}{y:Int}:∀{w:List Nat}{ns:List Int},y∈w.foldl (λns c=>nx sts c ns) ns↔∃x∈ns,Wk (iB sts) w x y
 |[],ns=>#[λh=>#[y,h,rfl],λ⟨x,h,e⟩=>e▸h]
 |c::w,ns=>by rw[foldl_cons,Ml];simp only[ON];show#[λ⟨x,⟨z,h1,h2⟩,v⟩=>#[z,h1,x,h2,v],λ⟨z,h1,x,h2,v⟩=>#[x,#[z,h1,h2],v]]
theorem zcf{sts:List St}{w:List Nat}{x y:Int}:y∈bJ sts w x↔Wk (iB sts) w x y:=by unfold bJ;rw[Ml];show#[λ⟨z,h,k⟩=>by rw[qu.mp h]at k;show k,λh=>#[x,qu.mpr rfl,h]]
def Oa{sts:List St}{c:Nat}{ns:List Int}:(nx sts c ns).Pairwise (·<·):=by
 let hi:∀d∈aE ((jZ sts c ns).map D.int),mX d:=λd v=>by let#[i,rfl]:=GY v;trivial
 let h1:=Gn HP _ hi;let h2:(bZ (aE ((jZ sts c ns).map D.int))).Nodup:=(DE _).nodup_iff.mpr (Fv _);rw[<-FF]at h1 h2;rw[pairwise_map]at h1;show(h1.and (pairwise_map.mp h2)).imp λ{a b} h=>?_;let e:=h.1;rw[Lr,qS]at e;let:a≠b:=λz=>h.2 (by rw[z]);lia
theorem zeD{sts:List St}{w:List Nat}{x:Int}:(bJ sts w x).Pairwise (·<·):=by
 rcases List.eq_nil_or_concat w with rfl|⟨v,c,rfl⟩
 .show List.pairwise_singleton ..
 .rw[List.concat_eq_append,Js];show Oa
def Gy{m:Int}{sts:List St}(hs:∀t∈sts,0<=t.2.2/\t.2.2<m){w:List Nat}{x y:Int}(h:Wk (iB sts) w x y)(B:0<=x/\x<m):0<=y/\y<m:=by
 rcases List.eq_nil_or_concat w with rfl|⟨v,c,rfl⟩
 .let:x=y:=h;lia
 .rw[List.concat_eq_append,zeq]at h;let#[z,_,h]:=h;show hs _ h
theorem zbo{m:Nat}{sts:List St}{w:List Nat}{p:Int×Int}:p∈bT m sts w↔(0<=p.1/\p.1<m)/\Wk (iB sts) w p.1 p.2:=by
 unfold bT;simp only[mem_flatMap,qI,qJ,zcf];constructor
 .rintro⟨x,v,y,h,rfl⟩;show#[#[by show(0:Int)<=x;lia,by show(x:Int)<m;lia],h]
 .rintro⟨⟨h1,h2⟩,h⟩;show#[p.1.toNat,∅,p.2,by rwa[show((p.1.toNat:Nat):Int)=p.1 by lia],by rw[show((p.1.toNat:Nat):Int)=p.1 by lia]]
theorem zm6{m:Nat}{sts:List St}{w:List Nat}:(bT m sts w).Pairwise λp q=>p.1<q.1\/p.1=q.1/\p.2<q.2:=by
 unfold bT;rw[List.pairwise_flatMap];show#[λx _=>?_,pairwise_lt_range.imp λ{a b} h x z y v=>?_]
 .rw[pairwise_map];show zeD.imp λ{a b} h=>.inr #[rfl,h]
 .obtain⟨_,_,rfl⟩:=qJ.mp z;let#[_,_,rfl]:=qJ.mp v;show .inl ?_;show(a:Int)<b;lia
def Pf{a b:Int×Int}(h:pD a=pD b):a=b:=by
 unfold pD at h;injection h with h
 injection h with h1 h2
 injection h2 with h2 _
 injection h1 with h1
 injection h2 with h2
 show Prod.ext h1 h2
def OT{m:Nat}{sts:List St}{w:List Nat}:(bT m sts w).Nodup:=zm6.imp λ{a b} h z=>by rw[z]at h;lia
def Ra{m:Nat}{l:List Int}(hn:l.Nodup)(h:∀i∈l,0<=i/\i<(m:Int)):l.length<=m:=by
 let:=Hz (l:=l.map D.int) (m:=(List.range m).map λ(k:Nat)=>D.int k) (pairwise_map.mpr (hn.imp λ{a b} h z=>h (by injection z))) λd v=>by let#[i,hi,rfl]:=qJ.mp v;let:=h i hi;show qJ.mpr #[i.toNat,qI.mpr ∅,by rw[show((i.toNat:Nat):Int)=i by lia]]
 rwa[qo,qo,qC]at this
def IB{n:Nat}{sts:List St}{w:List Nat}(hs:∀t∈sts,0<=t.2.2/\t.2.2<(n:Int)):∀m,m<=n->(bT m sts w).length<=m*n
 |0,_=>by simp[bT]
 |m+1,h=>by let h1:=IB hs (w:=w) m ∅;let h2:(bJ sts w (m:Int)).length<=n:=Ra (zeD.imp λ{a b} h=>by lia) λi hi=>Gy hs (zcf.mp hi) ∅;unfold bT at h1⊢;rw[range_succ,flatMap_append,qq,succ_mul];simp only[List.flatMap_cons,List.flatMap_nil,qz,qo];lia
def vZ(sts:List St):List Nat->Int->List Int->Int->Prop
 |[],x,[],y=>x=y
 |c::w,x,z::r,y=>(x,c,z)∈sts/\vZ sts w z r y
 |_,_,_,_=>False
def KJ{sts:List St}:∀{w:List Nat}{x y:Int}{r:List Int},vZ sts w x r y->r.length=w.length
 |[],_,_,[],_=>rfl
 |_::w,_,_,_::r,h=>by rw[qt,qt,KJ h.2]
 |[],_,_,_::_,h=>h.elim
 |_::_,_,_,[],h=>h.elim
def gA(sts:List St)(w:List Nat)(y x:Int):Prop:=∃r,vZ sts w x r y
theorem zdw{sts:List St}{y x:Int}:gA sts [] y x↔x=y:=#[λ⟨r,h⟩=>match r,h with|[],h=>h|_::_,h=>h.elim,λh=>⟨[],h⟩]
theorem zcz{sts:List St}{c:Nat}{w:List Nat}{y x:Int}:gA sts (c::w) y x↔∃z,(x,c,z)∈sts/\gA sts w y z:=by
 constructor
 .rintro⟨r,h⟩;match r,h with
  |z::r,h=>show#[z,h.1,r,h.2]
  |[],h=>show h.elim
 .rintro⟨z,h,r,v⟩;show#[z::r,h,v]
@[inline]def Gr(sts:List St)(y:Int):List Nat->Int->List Int->Prop
 |[],x,[]=>x=y
 |c::w,x,z::r=>(x,c,z)∈sts/\(∀v,(x,c,v)∈sts->gA sts w y v->z<=v)/\Gr sts y w z r
 |_,_,_=>False
def Kp{sts:List St}{y:Int}:∀{w:List Nat}{x:Int}{r:List Int},Gr sts y w x r->vZ sts w x r y
 |[],_,[],h=>h
 |_::_,_,_::_,h=>#[h.1,Kp h.2.2]
 |[],_,_::_,h=>h.elim
 |_::_,_,[],h=>h.elim
def aU(K:List Int):D:=.dct false (K.map D.int) (K.map λ_=>.bl true)
def AB{K:List Int}{z:Int}:dD false (K.map D.int) (K.map λ_=>S.sh (.bl true)) (.int z) (.sh (.bl true))=.dct false ((if z∈K then K else K++[z]).map D.int) ((if z∈K then K else K++[z]).map λ_=>S.sh (.bl true)):=by
 unfold dD;by_cases h:z∈K
 .rw[qZ h];cases q:eE (K.map D.int) (.int z)with
  |none=>unfold eE at q;rw[findIdx?_eq_none_iff]at q;let:=q (.int z) (qJ.mpr #[z,h,rfl]);simp at this
  |some i=>
   dsimp only;congr 1;apply ext_getElem?;intro j;rw[getElem?_set];by_cases v:i=j
   .subst v;unfold eE at q;let hi:=(List.findIdx?_eq_some_iff_getElem.mp q).1;rw[qo]at hi;rw[qZ rfl,qZ ↑hi,qE,qh hi];rfl
   .rw[q4 v]
 .rw[q4 h];let q:eE (K.map D.int) (.int z)=none:=by unfold eE;rw[findIdx?_eq_none_iff];intro d F;let#[k,B,rfl]:=qJ.mp F;simp only[decide_eq_false_iff_not,D.int.injEq];exact λe=>h (e▸B)
  rw[q];simp
def FH{K:List Int}(h:K.Nodup):(K.map D.int).Nodup:=pairwise_map.mpr (h.imp λ{a b} h e=>h (by cases e;rfl))
def Kc{K:List Int}{z:Int}:pU (.int z) (aU K)=some (decide (z∈K)):=by unfold aU pU;dsimp only;rw[qZ (show aV false (D.int z)=true from rfl)];congr 1;rw[decide_eq_decide];show#[λh=>by let#[k,v,e]:=qJ.mp h;cases e;show v,λh=>qJ.mpr #[z,h,rfl]]
@[inline]def LL(sts:List St)(y:Int):List Nat->List (List Int)->Prop
 |[],[K]=>∀z,z∈K↔z=y
 |c::w,K::Ls=>LL sts y w Ls/\∀z,z∈K↔gA sts (c::w) y z
 |_,_=>False
def HQ{sts:List St}{y:Int}:∀{w:List Nat}{v:List (List Int)},LL sts y w v->∃K r,v=K::r/\(∀z,z∈K↔gA sts w y z)/\v.length=w.length+1
 |[],[K],h=>#[K,[],rfl,λz=>(h z).trans zdw.symm,rfl]
 |c::w,K::v,h=>by let#[_,_,_,_,e]:=HQ h.1;show#[K,v,rfl,h.2,by rw[qt,qt,e]]
 |[],[],h=>h.elim
 |[],_::_::_,h=>h.elim
 |_::_,[],h=>h.elim
theorem TV{sts:List St}{w:List Nat}{y:Int}(hl:sts.length<=60)(hw:w.length<=60)
  (h:∀J,LL sts y w J->P (.lst ((J.map aU).map .sh)) [.sh (.tup (sts.map aY)),.sh (.str w),.sh (.int y)]):ay [.sh (.tup (sts.map aY)),.sh (.str w),.sh (.int y)] P PX:=by
 show BS rfl rfl ?_;simp! [zao];show EW (toD:=λc:Nat=>D.str [c]) (λB U=>∃(J:List (List Int))(o4 o5:Option S),LL sts y B.reverse J/\U=[some (.sh (.tup (sts.map aY))),some (.sh (.str w)),some (.sh (.int y)),some (.lst ((J.reverse.map aU).map .sh)),o4,o5]) w.reverse (λB c e3 D2 U e O h7 hp e4 hi=>?_) (λU O=>?_) #[[[y]],none,none,λz=>by simp,rfl]
 .obtain⟨J,o4,o5,hL,rfl⟩:=O;let#[K,r,rfl,hK,G]:=HQ hL;let hx:B.length<=60:=by let:=congrArg List.length e;rw[qq,length_reverse]at this;lia
  rw[length_reverse]at G;let e1:atI (((K::r).reverse.map aU).map S.sh) (-1)=some (.sh (aU K)):=by rw[reverse_cons,map_append,map_append];show L2.atI_last _ _
  simp! [sF,e1,aU];show Gd (toD:=aY) (λps U=>∃(M:List Int)(o7 o8 o9:Option S),M.Nodup/\M.length<=ps.length/\(∀z,z∈M↔∃t∈ps,t.1=z/\t.2.1=c/\t.2.2∈K)/\U=[some (.sh (.tup (sts.map aY))),some (.sh (.str w)),some (.sh (.int y)),some (.lst (((K::r).reverse.map aU).map .sh)),some (.sh (.str [c])),some (.sh (aU K)),some (.dct false (M.map D.int) (M.map λ_=>S.sh (.bl true))),o7,o8,o9]) sts (λps t h5 KK U e2 O h4=>?_) (λU O=>?_) #[[],none,none,none,.nil,by simp,by simp,rfl]
  .obtain⟨M,o7,o8,o9,Y,h9,hM,rfl⟩:=O;let hk:ps.length<=60:=by let:=congrArg List.length e2;rw[qq]at this;lia
   have F:¬(t.2.1=c/\t.2.2∈K)->KK [some (.sh (.tup (sts.map aY))),some (.sh (.str w)),some (.sh (.int y)),some (.lst (((K::r).reverse.map aU).map .sh)),some (.sh (.str [c])),some (.sh (aU K)),some (.dct false (M.map D.int) (M.map λ_=>S.sh (.bl true))),some (.sh (.int t.1)),some (.sh (.str [t.2.1])),some (.sh (.int t.2.2))]:=λh8=>h4 _ ⟨M,_,_,_,Y,by rw[qq];lia,λz=>by
     rw[hM];constructor
     .rintro⟨u,v,q⟩;show#[u,qj _ v,q]
     .rintro⟨u,v,q⟩;rcases qx.mp v with v|v
      .show#[u,v,q]
      .rw[qu.mp v]at q;show(h8 q.2).elim,rfl⟩
   let ec:decide ([t.2.1]=[c])=decide (t.2.1=c):=decide_eq_decide.mpr (by simp);simp! [dS,aY,length_cons,length_nil,ec];by_cases h1:t.2.1=c
   .simp! [decide_eq_true h1,show cR (.int t.2.2) (aU K)=some (decide (t.2.2∈K)) from Kc];by_cases h2:t.2.2∈K
    .simp! [jK,decide_eq_true h2,sE,length_map];show#[rfl,FH Y,by simp only[cO];lia,?_];rw[AB];refine h4 _ #[if t.1∈M then M else M++[t.1],_,_,_,?_,?_,λz=>?_,rfl]
     .by_cases L:t.1∈M
      .rw[qZ L];show Y
      .rw[q4 L];show qw.mpr #[Y,by simp,λa ha b hb e=>L (by rw[<-qu.mp hb,<-e];show ha)]
     .rw[qq,qB];split
      .lia
      .rw[qq,qB];lia
     .have h6:(z∈if t.1∈M then M else M++[t.1])↔(z∈M\/z=t.1):=by
       by_cases L:t.1∈M
       .rw[qZ L];show#[.inl,λh=>h.elim id λh=>h▸L]
       .rw[q4 L,qx,qu]
      rw[h6,hM];constructor
      .rintro(⟨u,v,q⟩|rfl)
       .show#[u,qj _ v,q]
       .show#[t,by simp,rfl,h1,h2]
      .rintro⟨u,v,q⟩;rcases qx.mp v with v|v
       .show .inl #[u,v,q]
       .rw[qu.mp v]at q;show .inr q.1.symm
    .simp! [wI,decide_eq_false h2];show F λq=>h2 q.2
   .simp! [wI,decide_eq_false h1];show F λq=>h1 q.1
  .obtain⟨M,o7,o8,o9,Y,h9,hM,rfl⟩:=O;simp! [zao,length_map,length_reverse];refine#[by rw[G];simp only[cO];lia,h7 _ #[M::K::r,some (.sh (.str [c])),some (.sh (aU K)),?_,?_]]
   .rw[List.reverse_append];show#[hL,λz=>?_];rw[hM];show _↔gA sts (c::B.reverse) y z;rw[zcz];constructor
    .rintro⟨u,v,h1,h2,h3⟩;show#[u.2.2,by rw[<-h1,<-h2];show v,(hK _).mp h3]
    .rintro⟨z',h1,h2⟩;show#[(z,c,z'),h1,rfl,rfl,(hK _).mpr h2]
   .simp[aU,Function.comp_def,S.toD]
 .obtain⟨J,o4,o5,hL,rfl⟩:=O;rw[List.reverse_reverse]at hL;simp! [zao,<-List.map_reverse,List.reverse_reverse];show h J hL
def nB(sts:List St)(x:Int)(c:Nat)(K:List Int):List Int:=(sts.filter λt=>decide (t.1=x)&&(decide (t.2.1=c)&&decide (t.2.2∈K))).map (·.2.2)
theorem zeu{sts:List St}{x:Int}{c:Nat}{K:List Int}{z:Int}:z∈nB sts x c K↔(x,c,z)∈sts/\z∈K:=by
 unfold nB;rw[qJ];constructor
 .rintro⟨t,v,rfl⟩;rw[mem_filter,and_eq_true,and_eq_true,decide_eq_true_iff,decide_eq_true_iff,decide_eq_true_iff]at v;show#[by rw[<-v.2.1,<-v.2.2.1];show v.1,v.2.2.2]
 .rintro⟨h1,h2⟩;show#[(x,c,z),mem_filter.mpr #[h1,by simp[h2]],rfl]
def Tz{sts:List St}{x:Int}{c:Nat}{K:List Int}(L:sts.length<=60)
  (h:P (.lst (((nB sts x c K).map D.int).map .sh)) [.sh (.tup (sts.map aY)),.sh (.int x),.sh (.str [c]),.sh (aU K)]):ax [.sh (.tup (sts.map aY)),.sh (.int x),.sh (.str [c]),.sh (aU K)] P PX:=by
 show BS rfl rfl ?_;simp! [e_C];show NV (n:=4) (toD:=aY) sts (λt=>if(decide (t.1=x)&&(decide (t.2.1=c)&&decide (t.2.2∈K)))=true then some (.sh (.int t.2.2))else none) (λt J l o o' z KK F B=>?_) λo o' z=>?_
 .have G:decide ([t.2.1]=[c])=decide (t.2.1=c):=decide_eq_decide.mpr (by simp);let no:(decide (t.1=x)&&(decide (t.2.1=c)&&decide (t.2.2∈K)))=false->KK [some (.sh (.tup (sts.map aY))),some (.sh (.int x)),some (.sh (.str [c])),some (.sh (aU K)),some (.lst l),some (.sh (.int t.1)),some (.sh (.str [t.2.1])),some (.sh (.int t.2.2))]:=λq=>by let:=B (some (.sh (.int t.1))) (some (.sh (.str [t.2.1]))) (some (.sh (.int t.2.2)));rw[q,q4 ⋯,Option.toList_none,qz]at this;exact this
  simp! [dS,aY,length_cons,length_nil];by_cases h1:t.1=x
  .simp! [decide_eq_true h1,G];by_cases h2:t.2.1=c
   .simp! [decide_eq_true h2,show cR (.int t.2.2) (aU K)=some (decide (t.2.2∈K)) from Kc];by_cases v:t.2.2∈K
    .simp! [jK,decide_eq_true v,sD];rw[qQ h1,qQ h2,qQ v]at B;show#[by simp only[cO];lia,B _ _ _]
    .simp! [wI,decide_eq_false v];show no (by simp[v])
   .simp! [wI,decide_eq_false h2];show no (by simp[h2])
  .simp! [wI,decide_eq_false h1];show no (by simp[h1])
 .rw[Kl (λt:St=>decide (t.1=x)&&(decide (t.2.1=c)&&decide (t.2.2∈K))) (λt=>S.sh (.int t.2.2)),show((sts.filter λt:St=>decide (t.1=x)&&(decide (t.2.1=c)&&decide (t.2.2∈K))).map λt=>S.sh (.int t.2.2))=((nB sts x c K).map D.int).map S.sh by unfold nB;rw[qD,qD];rfl];simp! [e_C];show h
def JZ{l:List Int}(h:l≠[]):∃m,kM [.lst (l.map D.int)]=some (.sh (.int m))/\m∈l/\∀z∈l,m<=z:=by
 cases q:l.min? with
 |none=>show(h (List.min?_eq_none_iff.mp q)).elim
 |some m=>let#[h1,h2]:=List.min?_eq_some_iff.mp q;show#[m,?_,h1,h2];show(eR (l.map D.int)).bind _=_;rw[MN,Option.bind_some,q];rfl
def TC{sts:List St}{y:Int}{D':Ends}{s0 s1 s2 s3:Option S}(hl:sts.length<=60):∀(w:List Nat)(L M:List (List Int))(x:Int)(v:List Int)(k:Nat)(F B:Option S),LL sts y w L->gA sts w y x->M.length=k->v.length=k+1->k+w.length<=60->
  (∀r x' F B,Gr sts y w x r->D'.nx [s0,s1,s2,s3,some (.sh (.tup (sts.map aY))),some (.sh (.lst ((M++L).map aU))),some (.sh (.int x')),some (.lst (((v++r).map D.int).map .sh)),F,B])->
  bY (cB [zm 8,zm 9]) gL (cD k (w.map λc=>D.str [c])) D' [s0,s1,s2,s3,some (.sh (.tup (sts.map aY))),some (.sh (.lst ((M++L).map aU))),some (.sh (.int x)),some (.lst ((v.map D.int).map .sh)),F,B]:=by
 intro w;induction w with
 |nil=>intro L M x v k F B G hx hk ha h3 h;let:=h [] x F B (zdw.mp hx);rw[qz]at this;show this
 |cons c w ih=>
  intro L M x v k F B G hx hk ha h3 h;match L,G with
  |K::L,G=>
   let#[K2,r2,rfl,J,_]:=HQ G.1;rw[qt]at h3;let e1:atI ((M++K::K2::r2).map aU) ((k:Int)+1)=some (aU K2):=DJ ∅ (by rw[show((k:Int)+1).toNat=k+1 by lia,qE,getElem?_append_right ∅,hk,show k+1-k=1 by lia];rfl)
   rw[qy];show bY (cB [zm 8,zm 9]) gL (D.tup [.int (k:Int),.str [c]]::cD (k+1) (w.map λc=>D.str [c])) D' _;rw[yG];simp! [sG,length_cons,length_nil,e1];show Tz hl ?_;let#[z0,h5,h4]:=zcz.mp hx;let h6:nB sts x c K2≠[]:=λz=>by let:=zeu.mpr #[h5,(J z0).mpr h4];rw[z]at this;cases this
   let#[m,em,hm,O]:=JZ h6;let Y:=zeu.mp hm;simp! [zao,em,length_map];show#[by simp only[cO];lia,?_];rw[show(v.map D.int).map S.sh++[S.sh (.int m)]=((v++[m]).map D.int).map S.sh by simp];let:=ih (K2::r2) (M++[K]) m (v++[m]) (k+1) (some (.sh (.int (k:Int)))) (some (.sh (.str [c]))) G.1 ((J m).mp Y.2) (by simp[hk]) (by simp[ha]) ∅ λr x' F B hg=>by let:=h (m::r) x' F B #[Y.1,λz' h1 h2=>O z' (zeu.mpr #[h1,(J z').mpr h2]),hg];rw[qp,qp];show this
   rw[qp]at this;show this
  |[],G=>show G.elim
def UK{sts:List St}{w:List Nat}{m x y:Int}(J:sts.length<=60)(hw:w.length<=50)
  (h1:∀r,Gr sts y w x r->P (.sh (.tup ((x::r).map D.int))) [.sh (eX m sts),.sh (.str w),.sh (.int x),.sh (.int y)])
  (h2:¬gA sts w y x->P (.sh .non) [.sh (eX m sts),.sh (.str w),.sh (.int x),.sh (.int y)]):az [.sh (eX m sts),.sh (.str w),.sh (.int x),.sh (.int y)] P PX:=by
 show BS rfl rfl ?_;simp! [eX,show∀a b:D,atI [a,b] 1=some b from λ_ _=>rfl];show TV J ∅ λLs L=>?_;let#[K,r,rfl,M,G]:=HQ L;let e0:atI ((K::r).map aU) 0=some (aU K):=DJ ⋯ rfl;simp! [zao,e0,show cR (.int x) (aU K)=some (decide (x∈K)) from Kc];by_cases B:x∈K
 .simp! [decide_eq_true B,zao];show TC J w (K::r) [] x [x] 0 none none L ((M x).mp B) rfl rfl ∅ λF x' o8 o9 Y=>?_;let v:=h1 F Y;generalize O:[x]++F=q;rw[show x::F=q from O]at v;simp! [zao];show v
 .simp! [decide_eq_false B];show h2 λz=>B ((M x).mpr z)
def nD(n:Nat):D:=.int (n:Int)
def GE{a b:Nat}(h:nD a=nD b):a=b:=by
 unfold nD at h;injection h with h
 lia
def bF(v:List (Nat×Nat))(k:Nat):List Nat:=(v.filter λt=>decide (t.1=k)).map (·.2)
def Ir(v:List (Nat×Nat))(t:Nat×Nat)(k:Nat):bF (v++[t]) k=bF v k++(if t.1=k then[t.2]else[]):=by
 unfold bF;rw[List.filter_append,map_append];congr 1;by_cases h:t.1=k
 .rw[qZ h,List.filter_cons_of_pos (by show qQ h)];rfl
 .rw[q4 h,List.filter_cons_of_neg (by rw[qS];show h)];rfl
structure mY(G:List (Nat×List Nat))(pre:List (Nat×Nat)):Prop where
 nd:(G.map (·.1)).Nodup
 val:∀p∈G,p.2=bF pre p.1
 all:∀t∈pre,t.1∈G.map (·.1)
 len:G.length<=pre.length
def cY(G:List (Nat×List Nat)):List D:=G.map λp=>nD p.1
def gW(G:List (Nat×List Nat)):List S:=G.map λp=>S.lst ((p.2.map nD).map S.sh)
def kQ(G:List (Nat×List Nat)):List D:=G.map λp=>D.lst (p.2.map nD)
def rR(G:List (Nat×List Nat)):S:=.dct false (cY G) (gW G)
def QF(G:List (Nat×List Nat)):(rR G).toD=.dct false (cY G) (kQ G):=by unfold rR gW kQ;rw[S.toD_dct,qD];congr 1;show map_congr_left λp _=>?_;simp[Function.comp_def]
def PU{G:List (Nat×List Nat)}{k:Nat}:(∃m p,eE (cY G) (nD k)=some m/\G[m]?=some p/\p.1=k)\/(eE (cY G) (nD k)=none/\k∉G.map (·.1)):=by
 unfold eE cY;cases q:(G.map λp=>nD p.1).findIdx? (λx=>open Classical in decide (x=nD k))with
 |some m=>let#[h1,h2,_]:=List.findIdx?_eq_some_iff_getElem.mp q;rw[qo]at h1;show .inl #[m,G[m],rfl,qh h1,?_];rw[getElem_map]at h2;show GE ↑h2
 |none=>show .inr #[rfl,λz=>?_];let#[p,v,rfl]:=qJ.mp z;let:=findIdx?_eq_none_iff.mp q (nD p.1) (qJ.mpr #[p,v,rfl]);simp at this
def Rb{G:List (Nat×List Nat)}{B:List (Nat×Nat)}(h:mY G B)(t:Nat×Nat):∃(G':List (Nat×List Nat))(l':List Nat),mY G' (B++[t])/\l'.length<=B.length/\
  (aP (cY G) (gW G) (nD t.1)).2.1[(aP (cY G) (gW G) (nD t.1)).2.2]?=some (.lst ((l'.map nD).map .sh))/\
  S.dct false (aP (cY G) (gW G) (nD t.1)).1 ((aP (cY G) (gW G) (nD t.1)).2.1.set (aP (cY G) (gW G) (nD t.1)).2.2 (.lst ((l'.map nD).map .sh++[.sh (nD t.2)])))=rR G':=by
 let Y:∀k,(bF B k).length<=B.length:=λk=>by unfold bF;rw[qo];show length_filter_le ..
 rcases PU (G:=G) (k:=t.1)with⟨m,p,e1,J,e3⟩|⟨e1,J⟩
 .have hm:=(qg.mp J).1;let hp:p∈G:=qL J;let es:aP (cY G) (gW G) (nD t.1)=(cY G,gW G,m):=by unfold aP;rw[e1]
  let L:∀j,j<G.length->(G[j]?.map (·.1))=some t.1->j=m:=λj v z=>by show(getElem?_inj (l:=G.map (·.1)) (by rw[qo];show v) h.nd).mp ?_;rw[qE,qE,z,J];show _=some p.1;rw[e3]
  show#[G.set m (p.1,p.2++[t.2]),p.2,#[?_,λq M=>?_,λu h1=>?_,by rw[length_set,qq];let:=h.len;lia],by rw[h.val p hp];show Y _,?_,?_]
  .have:(G.set m (p.1,p.2++[t.2])).map (·.1)=G.map (·.1):=by
    rw[map_set];apply ext_getElem?;intro j;rw[getElem?_set];by_cases v:m=j
    .subst v;rw[qZ rfl,qZ (by rw[qo];show hm),qE,J];rfl
    .rw[q4 v]
   rw[this];show h.nd
  .obtain⟨j,v,rfl⟩:=getElem_of_mem M;rw[length_set]at v;rw[List.getElem_set];by_cases F:m=j
   .rw[qZ F];show p.2++[t.2]=bF (B++[t]) p.1;rw[Ir,e3,qZ rfl,h.val p hp,e3]
   .rw[q4 F,Ir,q4 λz=>F (L j v (by rw[qh v,z];rfl)).symm,qz];show h.val _ (getElem_mem v)
  .have hk:∀k∈G.map (·.1),k∈(G.set m (p.1,p.2++[t.2])).map (·.1):=λk hk=>by
    let#[q,M,rfl]:=qJ.mp hk;let#[j,v,rfl]:=getElem_of_mem M;by_cases F:m=j
    .subst F;show qJ.mpr #[(p.1,p.2++[t.2]),mem_set v _,?_];rw[qh v]at J;cases J;rfl
    .show qJ.mpr #[G[j],?_,rfl];let:(G.set m (p.1,p.2++[t.2]))[j]?=some G[j]:=by rw[getElem?_set_ne F,qh v]
     show qL this
   rcases qx.mp h1 with z|z
   .show hk _ (h.all u z)
   .rw[qu.mp z];show hk _ (qJ.mpr #[p,hp,e3])
  .rw[es];show(gW G)[m]?=_;unfold gW;rw[qE,J];rfl
  .rw[es];unfold rR cY gW;show S.dct false (G.map λp=>nD p.1) ((G.map λp=>S.lst ((p.2.map nD).map S.sh)).set m _)=_;congr 1
   .rw[map_set];apply ext_getElem?;intro j;rw[getElem?_set];by_cases v:m=j
    .subst v;rw[qZ rfl,qZ (by rw[qo];show hm),qE,J];rfl
    .rw[q4 v]
   .rw[map_set];congr 2;simp
 .have es:aP (cY G) (gW G) (nD t.1)=(cY G++[nD t.1],gW G++[.lst []],(cY G).length):=by unfold aP;rw[e1]
  let hl:(cY G).length=(gW G).length:=by unfold cY gW;simp
  let O:bF B t.1=[]:=by unfold bF;rw[map_eq_nil_iff,filter_eq_nil_iff];intro u L z;rw[qS]at z;show J (z▸h.all u L)
  show#[G++[(t.1,[t.2])],[],#[?_,λq M=>?_,λu L=>?_,by rw[qq,qq];let:=h.len;simp only[qB];lia],zero_le _,?_,?_]
  .rw[map_append];show qw.mpr #[h.nd,by simp,λa ha b hb e=>by rw[qy,map_nil,qu]at hb;let h3:b=t.1:=hb;rw[e,h3]at ha;show J ha]
  .rcases qx.mp M with z|z
   .rw[Ir,q4 λy=>J (qJ.mpr #[q,z,y.symm]),qz];show h.val q z
   .rw[qu.mp z,Ir,qZ rfl,O];rfl
  .rw[map_append];rcases qx.mp L with z|z
   .show qj _ (h.all u z)
   .rw[qu.mp z];show qi _ (by simp)
  .rw[es];show(gW G++[S.lst []])[(cY G).length]?=_;rw[hl,getElem?_append_right (q5 _),sub_self];rfl
  .rw[es];show S.dct false (cY G++[nD t.1]) ((gW G++[S.lst []]).set (cY G).length _)=_;rw[hl,List.set_append_right _ _ (q5 _),sub_self];unfold rR cY gW;rw[map_append,map_append];rfl
def Km{f:Nat->List Nat}{k:Nat}:∀{G:List (Nat×List Nat)},(∀p∈G,p.2=f p.1)->lk (cY G) (kQ G) (nD k)=some (.lst ((f k).map nD))\/(lk (cY G) (kQ G) (nD k)=none/\k∉G.map (·.1))
 |[],_=>.inr #[rfl,λz=>nomatch z]
 |p::G,h=>by
  let e:lk (cY (p::G)) (kQ (p::G)) (nD k)=(open Classical in if nD p.1=nD k then some (D.lst (p.2.map nD))else lk (cY G) (kQ G) (nD k)):=rfl;by_cases v:p.1=k
  .left
   rw[e,qZ (by rw[v]),h p qm,v]
  .rw[e,q4 λz=>v (GE z)];rcases Km (G:=G) (f:=f) (k:=k) λq B=>h q (qk _ B)with z|⟨z,y⟩
   .show .inl z
   .show .inr #[z,λw=>?_];rw[qy,qA]at w;rcases w with w|w
    .show v w.symm
    .show y w
def hC(m:Nat)(f:Nat->Nat->Bool):List (Nat×Nat):=(List.range m).flatMap λx=>((List.range m).filter (f x)).map λy=>(x,y)
def pN(p:Nat×Nat):D:=.tup [nD p.1,nD p.2]
def tD(m:Nat)(f:Nat->Nat->Bool):List D:=(hC m f).map pN
def Qa{a b:Nat×Nat}(h:pN a=pN b):a=b:=by
 unfold pN at h;injection h with h
 injection h with h1 h2
 injection h2 with h2 _
 show Prod.ext (GE h1) (GE h2)
theorem zbB{m:Nat}{f:Nat->Nat->Bool}{p:Nat×Nat}:p∈hC m f↔p.1<m/\p.2<m/\f p.1 p.2=true:=by
 unfold hC;simp only[mem_flatMap,qJ,mem_filter,qI];constructor
 .rintro⟨x,z,y,⟨v,B⟩,rfl⟩;show#[z,v,B]
 .rintro⟨h1,h2,F⟩;show#[p.1,h1,p.2,#[h2,F],rfl]
def HB(m:Nat)(f:Nat->Nat->Bool):(hC m f).Pairwise λp q=>p.1<q.1\/p.1=q.1/\p.2<q.2:=by
 unfold hC;rw[List.pairwise_flatMap];show#[λx _=>?_,pairwise_lt_range.imp λ{a b} h x z y v=>?_]
 .rw[pairwise_map];show(pairwise_lt_range.sublist List.filter_sublist).imp λ{a b} h=>.inr #[rfl,h]
 .obtain⟨_,_,rfl⟩:=qJ.mp z;let#[_,_,rfl]:=qJ.mp v;show .inl h
def UA{m:Nat}{f g:Nat->Nat->Bool}(h:∀x y,x<m->y<m->f x y=g x y):tD m f=tD m g:=by unfold tD hC;rw[flatMap_def,flatMap_def];show congrArg (λl=>List.map pN (List.flatten l)) (map_congr_left λx z=>?_);rw[List.filter_congr λy v=>h x y (qI.mp z) (qI.mp v)]
def Se(m:Nat)(f:Nat->Nat->Bool):(tD m f).Nodup:=by unfold tD;show pairwise_map.mpr ((HB m f).imp λ{a b} h z=>?_);obtain rfl:=Qa z;lia
def Hy(m:Nat)(f:Nat->Nat->Bool):(tD m f).length<=m*m:=by
 unfold tD hC;rw[qo,List.length_flatMap];let:∀l:List Nat,(l.map λx=>(((List.range m).filter (f x)).map λy=>(x,y)).length).sum<=l.length*m:=λl=>by
  induction l with
  |nil=>simp
  |cons x l v=>have h1:=length_filter_le (f x) (List.range m);rw[qC]at h1;rw[qy,List.sum_cons,qt,succ_mul,qo];lia
 let h:=this (List.range m);rwa[qC]at h
def Gx(p:Nat×Nat):dR [false,false] (pN p):=by show True;trivial
def Kr{p q:Nat×Nat}(h:p.1<q.1\/p.1=q.1/\p.2<q.2):dP (pN p) (pN q)=true:=by
 rw[show dP (pN p) (pN q)=_ from EA (Gx p) (Gx q)];show(!((match cA (.int q.1) (.int p.1)with|.eq=>(match cA (.int q.2) (.int p.2)with|.eq=>Ordering.eq|o=>o)|o=>o)==.lt))=true;rw[GK,GK];by_cases e:(q.1:Int)=p.1
 .rw[q4 ∅,q4 ∅,q4 ∅,qZ ∅];rfl
 .rw[q4 ∅,qZ ∅];rfl
def RD{m:Nat}{f:Nat->Nat->Bool}{l:List (Nat×Nat)}(h:∀p,p∈l↔p∈hC m f):bZ (aE (l.map pN))=tD m f:=by
 show Gj (GD [false,false]) (λd z=>?_) ?_ ?_
 .obtain⟨p,_,rfl⟩:=qJ.mp (zau.mp z);show Gx p
 .show(perm_ext_iff_of_nodup (Se m f) (Fv _)).mpr λd=>?_;rw[zau];unfold tD;simp only[qJ];show#[λ⟨p,v,e⟩=>#[p,(h p).mpr v,e],λ⟨p,v,e⟩=>#[p,(h p).mp v,e]]
 .unfold tD;show pairwise_map.mpr ((HB m f).imp Kr)
def Ll{m:Nat}{l:List (Nat×Nat)}(h:∀p∈l,p.1<m/\p.2<m):(aE (l.map pN)).length<=m*m:=by
 let h1:=Hz (l:=aE (l.map pN)) (m:=tD m λ_ _=>true) (Fv _) λd z=>by let#[p,v,rfl]:=qJ.mp (zau.mp z);show qJ.mpr #[p,zbB.mpr #[(h p v).1,(h p v).2,rfl],rfl]
 show le_trans h1 (Hy m _)
def RF{m:Nat}{f:Nat->Nat->Bool}{l:List (Nat×Nat)}(v:m<=8)(h:∀p,p∈l↔p∈hC m f):cH [.set (aE (l.map pN))]=some (.lst ((tD m f).map .sh)):=by
 show bN _=_;let h1:=Ll (m:=m) (l:=l) λp F=>by let:=zbB.mp ((h p).mp F);show#[this.1,this.2.1]
 let h2:m*m<=8*8:=mul_le_mul v v;unfold bN;let B:∀d∈aE (l.map pN),dR [false,false] d:=λd G=>by let#[p,_,rfl]:=qJ.mp (zau.mp G);show Gx p
 rw[qZ (.inr #[∅,.inr #[[false,false],λz=>(nomatch z),B]]),RD h]
def Qe{p:Nat×Nat}{l:List (Nat×Nat)}:bO (pN p::aE (l.map pN))=true:=by
 unfold bO;rw[or_eq_true];show .inr (qH.mpr λd v=>?_);rcases qA.mp v with rfl|z
 .rfl
 .obtain⟨j,_,rfl⟩:=qJ.mp (zau.mp z);rfl
def VJ{ps:List (Nat×Nat)}(hl:ps.length<=64)(h:∀G,mY G ps->P (rR G) [.sh (.tup (ps.map pN))]):bc [.sh (.tup (ps.map pN))] P PX:=by
 show BS rfl rfl ?_;simp! [e_C];show EW (toD:=pN) (λv U=>∃(G:List (Nat×List Nat))(J F:Option S),mY G v/\U=[some (.sh (.tup (ps.map pN))),some (rR G),J,F]) ps (λv t h2 D2 U e Y L h7 h3 h8=>?_) (λU Y=>?_) #[[],none,none,#[.nil,λ_ z=>(nomatch z),λ_ z=>(nomatch z),q5 _],rfl]
 .obtain⟨G,J,F,B,rfl⟩:=Y;let h4:v.length<=ps.length:=by rw[<-e];simp
  let#[G',l',h1,h5,e1,e2]:=Rb B t;let M:(cY G).Nodup:=by unfold cY;let:=B.nd;rw[show(G.map λp=>nD p.1)=(G.map (·.1)).map nD by rw[qD];rfl];show List.Pairwise.map _ (λa b O z=>O (GE z)) this
  let h6:(cY G).length<=64:=by let:=B.len;unfold cY;rw[qo];lia
  simp! [sL,pN,length_cons,length_nil,rR];show#[rfl,M,by simp only[cO];lia,?_];rw[Mr e1];simp! [length_map];show#[by simp only[cO];lia,?_];rw[e2];show L _ #[G',_,_,h1,rfl]
 .obtain⟨G,J,F,B,rfl⟩:=Y;simp! [e_C];show h G B
def cps(v one:List (Nat×Nat)):List (Nat×Nat):=one.flatMap λp=>(bF v p.2).map λz=>(p.1,z)
theorem zh0{v one:List (Nat×Nat)}{p:Nat×Nat}:p∈cps v one↔∃y,(p.1,y)∈one/\(y,p.2)∈v:=by
 unfold cps bF;simp only[mem_flatMap,qJ,mem_filter,qS];constructor
 .rintro⟨q,F,z,⟨r,⟨B,e⟩,rfl⟩,rfl⟩;show#[q.2,F,by rw[<-e];show B]
 .rintro⟨y,h1,h2⟩;show#[(p.1,y),h1,p.2,#[(y,p.2),#[h2,rfl],rfl],rfl]
def UH{Q:Env->Prop}{E:WX}{G:List (Nat×List Nat)}{m:Nat}{one v:List (Nat×Nat)}{s0 s1 O M B:Option S}(hm:m<=8)(hG:mY G v)(h1:∀p∈one,p.1<m)(h2:∀p∈v,p.2<m)
  (h6:∀O M B,Q [s0,s1,some (.sh (.dct false (cY G) (kQ G))),some (.set (aE ((cps v one).map pN))),O,M,B]):
  aI (cB [zm 4,zm 5]) cJ iQ (one.map pN) [s0,s1,some (.sh (.dct false (cY G) (kQ G))),some (.set []),O,M,B] Q E:=by
 show Gd (λF U=>∃O M B,U=[s0,s1,some (.sh (.dct false (cY G) (kQ G))),some (.set (aE ((cps v F).map pN))),O,M,B]) one (λF r h7 K U e hI hK=>?_) (λU hI=>?_) #[O,M,B,rfl]
 .obtain⟨O,M,B,rfl⟩:=hI;let hr:r∈one:=by rw[<-e];simp
  let eb:cps v (F++[r])=cps v F++(bF v r.2).map λz=>(r.1,z):=by unfold cps;rw[flatMap_append];simp
  let h4:∀q∈cps v one,q.1<m/\q.2<m:=λq hq=>by let#[y,z1,z2]:=zh0.mp hq;show#[h1 (q.1,y) z1,h2 (y,q.2) z2]
  have L:∀(xs:List Nat)(B:Option S),xs=bF v r.2->aI (zm 6) cJ iR (xs.map nD) [s0,s1,some (.sh (.dct false (cY G) (kQ G))),some (.set (aE ((cps v F).map pN))),some (.sh (nD r.1)),some (.sh (nD r.2)),B] K E:=λxs B ex=>by
   show Gd (λJ U=>∃B,U=[s0,s1,some (.sh (.dct false (cY G) (kQ G))),some (.set (aE ((cps v F++J.map λz=>(r.1,z)).map pN))),some (.sh (nD r.1)),some (.sh (nD r.2)),B]) xs (λJ z h3 K2 U e2 Y h5=>?_) (λU Y=>?_) #[B,by simp]
   .obtain⟨B,rfl⟩:=Y;let hb:=Ll (m:=m) (l:=cps v F++J.map λz=>(r.1,z)) λq hq=>h4 q (by
     rw[<-e];unfold cps;rw[flatMap_append,qx];rcases qx.mp hq with y|y
     .show .inl y
     .show .inr (mem_flatMap.mpr #[r,qm,?_]);rw[<-ex,<-e2,map_append];show qj _ y)
    let h8:m*m<=8*8:=mul_le_mul hm hm;simp! [dS,jK,sJ];show#[Qe (p:=(r.1,z)),∅,?_];rw[show D.tup [nD r.1,nD z]=pN (r.1,z) from rfl,<-Nq];show h5 _ #[some (.sh (nD z)),by simp]
   .obtain⟨B,rfl⟩:=Y;rw[ex,<-eb];show hK _ #[_,_,_,rfl]
  simp! [dS,jK,sI,pN,length_cons,length_nil];let el:uF (.dct false (cY G) (kQ G)) (nD r.2)=some (lk (cY G) (kQ G) (nD r.2)):=rfl;rcases Km (k:=r.2) hG.val with z|⟨z,y⟩
  .simp! [el,z];show L _ _ rfl
  .have hn:[]=bF v r.2:=by
    unfold bF
    symm
    rw[map_eq_nil_iff,filter_eq_nil_iff];intro u hu w;rw[qS]at w;show y (w▸hG.all u hu)
   simp! [el,z];show L [] _ hn
 .obtain⟨O,M,B,rfl⟩:=hI;show h6 O M B
def kR(m:Nat)(f g:Nat->Nat->Bool)(x z:Nat):Bool:=(List.range m).any λy=>f x y&&g y z
def PF{m:Nat}{f g:Nat->Nat->Bool}(p:Nat×Nat):p∈cps (hC m g) (hC m f)↔p∈hC m (kR m f g):=by
 rw[zh0,zbB];unfold kR;simp only[zbB,any_eq_true,qI,and_eq_true];constructor
 .rintro⟨y,⟨h1,h2,B⟩,F,z,v⟩;show#[h1,z,y,h2,B,v]
 .rintro⟨h1,z,y,h2,B,v⟩;show#[y,#[h1,h2,B],h2,z,v]
def UN{m:Nat}{f g:Nat->Nat->Bool}(v:m<=8)(h:P (.sh (.tup (tD m (kR m f g)))) [.sh (.tup (tD m f)),.sh (.tup (tD m g))]):bb [.sh (.tup (tD m f)),.sh (.tup (tD m g))] P PX:=by
 let J:m*m<=8*8:=mul_le_mul v v;let B:∀f,(hC m f).length<=m*m:=λf=>by let:=Hy m f;unfold tD at this;rwa[qo]at this
 let Y:=B g;let hc:=Hy m (kR m f g);show BS rfl rfl ?_;simp! [e_C];unfold tD at h⊢;show VJ (ps:=hC m g) ∅ λG F=>?_;simp! [QF];show UH v F (λp z=>(zbB.mp z).1) (λp z=>(zbB.mp z).2.1) λO M L=>?_;simp! [RF v PF,zao];show h
def KU{R:Int->Nat->Int->Prop}{v:List Nat}:∀{u:List Nat}{x z:Int},Wk R (u++v) x z↔∃y,Wk R u x y/\Wk R v y z
 |[],x,z=>#[λh=>#[x,rfl,h],λ⟨y,e,h⟩=>by cases e;show h]
 |c::u,x,z=>by show(∃a,R x c a/\Wk R (u++v) a z)↔∃y,(∃a,R x c a/\Wk R u a y)/\Wk R v y z;simp only[KU (u:=u)];show#[λ⟨a,h,y,h1,h2⟩=>#[y,#[a,h,h1],h2],λ⟨y,⟨a,h,h1⟩,h2⟩=>#[a,h,y,h1,h2]]
@[inline]def Wn(sts:List St)(w:List Nat)(x y:Nat):Prop:=Wk (iB sts) w (x:Int) (y:Int)
def inR(m:Nat)(sts:List St):Prop:=∀t∈sts,0<=t.2.2/\t.2.2<(m:Int)
def OM{m:Nat}{sts:List St}(hs:inR m sts){u v:List Nat}{x z:Nat}(B:x<m):Wn sts (u++v) x z↔∃y,y<m/\Wn sts u x y/\Wn sts v y z:=by
 unfold Wn;rw[KU];constructor
 .rintro⟨y,h1,h2⟩;let:=Gy hs h1 #[∅,∅];let e:((y.toNat:Nat):Int)=y:=by lia
  show#[y.toNat,∅,by rwa[e],by rwa[e]]
 .rintro⟨y,_,h1,h2⟩;show#[y,h1,h2]
def lP(sts:List St)(w:List Nat)(x y:Nat):Bool:=decide ((y:Int)∈bJ sts w (x:Int))
def Jc{sts:List St}{w:List Nat}{x y:Nat}:lP sts w x y=true↔Wn sts w x y:=by unfold lP Wn;rw[qS,zcf]
def PD{m:Nat}{sts:List St}(hs:inR m sts){w:List Nat}{x:Nat}(v:x<m):bJ sts w (x:Int)=((List.range m).filter (lP sts w x)).map λ(y:Nat)=>(y:Int):=by
 let h1:=zeD (sts:=sts) (w:=w) (x:=(x:Int));let h2:(((List.range m).filter (lP sts w x)).map λ(y:Nat)=>(y:Int)).Pairwise (·<·):=pairwise_map.mpr ((pairwise_lt_range.sublist List.filter_sublist).imp λ{a b} h=>by lia);show List.Perm.eq_of_pairwise (le:=(·<·)) (λa b _ _ _ _=>by lia) h1 h2 ((perm_ext_iff_of_nodup (h1.imp λ{a b} h=>by lia) (h2.imp λ{a b} h=>by lia)).mpr λi=>?_);simp only[qJ,mem_filter,qI];constructor
 .intro h;let:=Gy hs (zcf.mp h) #[∅,∅];let e:((i.toNat:Nat):Int)=i:=by lia
  show#[i.toNat,#[∅,by unfold lP;rw[e];show qQ h],e]
 .rintro⟨y,⟨_,h⟩,rfl⟩;show qT h
def GC{m:Nat}{sts:List St}(hs:inR m sts){w:List Nat}:bD m sts w=tD m (lP sts w):=by unfold bD bT tD hC;rw[List.map_flatMap,List.map_flatMap,flatMap_def,flatMap_def];show congrArg List.flatten (map_congr_left λx v=>?_);rw[PD hs (qI.mp v),qD,qD,qD];rfl
def TZ{a s:Int}{F:List Nat}{B:List Wd}(ha:0<=a)(hs:1<=s)(O:s<=2147483629)(hc:0<F.length)(hq:F.length<=26)(hB:0<B.length)(r1:B.length<=1000)(hw:∀w∈B,w≠[]/\w.length<=1000/\∀c∈w,c∈F)
  (h:∀(w:Wd) a' s',w≠[]->w.length<=2000->(∀c∈w,c∈F)->0<=a'->1<=s'->s'<=2147483629->P (.sh (.str w)) [aM a' s',.sh (.str F),.lst ((B.map D.str).map .sh)]):rZ [aM a s,.sh (.str F),.lst ((B.map D.str).map .sh)] P PX:=by
 show BS rfl rfl ?_;simp! [aM,e_sh,zao,length_map];show BB ha hs O ∅ ∅ λr a1 s1 hr e1 hp h8 h3=>?_;let#[w,h6,_,e]:=Je (f:=λz=>S.sh (D.str z)) (l:=B) hr e1;let e':atI ((B.map D.str).map S.sh) r=some (S.sh (.str w)):=by rw[qD];show e
 let#[Y,hb,J]:=hw w h6;let hi:0<w.length:=qO.mpr Y;simp! [aM,e'];show BB hp h8 h3 ⋯ ⋯ λkd a2 s2 hm hd hk O h2=>?_;simp! [aM];show BB hk O h2 ∅ ∅ λr3 a3 s3 h9 h4 e4 h7 h1=>?_;let#[c,h5,_,ec]:=GH (l:=F) h9 h4;simp! [aM,ec];show BB e4 h7 h1 ∅ ∅ λp a4 s4 e2 hl M L v=>?_;simp! [aM];rw[QV w ∅ ∅,Tw w e2];let e3:kd=0\/kd=1\/kd=2\/kd=3\/kd=4:=∅
 rcases e3 with rfl|rfl|rfl|rfl|rfl
 .simp! [aM];refine h _ _ _ ?_ ?_ (λc hc=>J c (mem_of_mem_take hc)) M L v
  .intro z;let:=congrArg List.length z;rw[qG,qv]at this;lia
  .rw[qG];lia
 .simp! [aM];refine h _ _ _ ?_ ?_ (λc hc=>J c (List.mem_of_mem_drop hc)) M L v
  .intro z;let:=congrArg List.length z;rw[qF,qv]at this;lia
  .rw[qF];lia
 .simp! [aM];show h _ _ _ (by simp) (by simp;lia -verbose) (λx G=>?_) M L v;rcases qA.mp G with rfl|G
  .show h5
  .show J x G
 .simp! [aM];show h _ _ _ (by simp) (by simp;lia -verbose) (λx G=>?_) M L v;rcases qx.mp G with G|G
  .show J x G
  .rw[qu.mp G];show h5
 .simp! [aM];show h _ _ _ (by simp[Y]) (by simp;lia -verbose) (λx G=>?_) M L v;rcases qx.mp G with G|G<;>show J x G
def rQ(z:List Nat)(many v:Nat)(B:List Wd):Prop:=B.length<=many/\B.Nodup/\∀w∈B,w≠[]/\w.length<=v/\∀c∈w,c∈z
def zw(B:List Wd):D:=.tup (B.map D.str)
def Vn{a s many v:Int}{G:List Nat}(Y:0<=a)(hs:1<=s)(J:s<=2147483629)(hc:0<G.length)(e2:G.length<=26)(hm:0<=many)(hm2:many<=500)(ho:1<=v)(ho2:v<=500)
  (h:∀(B:List Wd) a' s',rQ G many.toNat v.toNat B->0<=a'->1<=s'->s'<=2147483629->P (.sh (zw B)) [aM a' s',.sh (.str G),.sh (.int many),.sh (.int v)]):rY [aM a s,.sh (.str G),.sh (.int many),.sh (.int v)] P PX:=by
 show BS rfl rfl ?_;simp! [aM];show BB Y hs J ∅ ∅ λr a1 s1 hr hr2 ha1 hd h8=>?_;let r1:(decide (G=[]))=false:=by simp;intro z;rw[z]at hc;simp at hc
 simp! [aM,r1,if_true,mul_one];show#[by simp only[cO];lia,?_];show Iu (λk U=>∃(a s:Int)(B:List Wd)(o5 o6:Option S),0<=a/\1<=s/\s<=2147483629/\rQ G k v.toNat B/\U=[some (aM a s),some (.sh (.str G)),some (.sh (.int many)),some (.sh (.int v)),some (.lst ((B.map D.str).map .sh)),o5,o6]) _ (λk x hk D2 U hI e1 hct hrt hbk=>?_) (λU hI=>?_) #[a1,s1,[],none,none,ha1,hd,h8,#[by simp,by simp,by simp],rfl]
 .obtain⟨a,s,B,o5,o6,Y,hs,J,hB,rfl⟩:=hI;let k1:=(qg.mp hk).1;rw[EY]at k1;let#[hB1,hp,L]:=hB;simp! [aM,nV];show BB Y hs J ∅ ∅ λr3 a2 s2 hq h9 ha2 J h7=>?_;let#[c,k2,_,ec]:=GH (l:=G) hq h9;simp! [aM,ec];refine Jo ha2 J h7 ∅ ∅ hc e2 λw a3 s3 hw1 hi e4 h5 O=>?_
  --what is done with a word
  have put:∀(w:Wd)(a s:Int),0<=a->1<=s->s<=2147483629->w≠[]->w.length<=v.toNat->(∀c∈w,c∈G)->
    (hU (aW dI (zj 6) (zj 4)) (wExpr (bX 4 (zj 6))) cC) D2 [some (aM a s),some (.sh (.str G)),some (.sh (.int many)),some (.sh (.int v)),some (.lst ((B.map D.str).map .sh)),some (.sh x),some (.sh (.str w))]:=λw a s Y hs J h1 h2 h3=>by
   simp! [aM,zao,Rh];cases q:decide (w∈B)
   .simp! [length_map];rw[show((B.map D.str).map S.sh)++[S.sh (.str w)]=((B++[w]).map D.str).map S.sh by simp];refine#[by simp only[cO];lia,e1 _ #[a,s,_,_,_,Y,hs,J,#[by simp only[qq,qB];lia,?_,λx hx=>?_],rfl]]
    .show qw.mpr #[hp,by simp,λx hx y hy e=>?_];rw[qu.mp hy]at e;subst e;let:=of_decide_eq_false q;show this hx
    .rcases qx.mp hx with z|z
     .show L x z
     .rw[qu.mp z];show#[h1,h2,h3]
   .simp! [e_C];show e1 _ #[a,s,B,_,_,Y,hs,J,#[∅,hp,L],rfl]
  have F:([c]++w)≠[]/\([c]++w).length<=v.toNat/\∀x∈[c]++w,x∈G:=by
   show#[by simp,by simp;lia,λx hx=>?_];rcases qx.mp hx with z|z
   .rw[qu.mp z];show k2
   .show hi x z
  simp! [aM,zao,RY,length_cons,length_nil];cases q:decide (B=[])
  .simp! [aM];show BB e4 h5 O ⋯ ⋯ λr4 a4 s4 hr4 hr42 e3 h4 M=>?_;simp! [aM];cases q2:decide (r4=0)
   .simp! [e_C];let:=put _ a4 s4 e3 h4 M F.1 F.2.1 F.2.2;simp! [aM]at this;show this
   .simp! [aM];show TZ e3 h4 M hc e2 (qO.mpr (of_decide_eq_false q)) ∅ (λw hw=>#[(L w hw).1,by let:=(L w hw).2.1;lia,(L w hw).2.2]) λw2 a5 s5 hn hl r2 k3 hb h6=>?_;simp! [aM];let hw2l:0<w2.length:=qO.mpr hn;let:=put (cK w2 none (some v)) a5 s5 k3 hb h6 (λz=>?_) ?_ λc hc=>r2 c (SV hc)
    .simp! [aM]at this;show this
    .let z2:=congrArg List.length z;unfold cK sIx at z2;let:¬v<0:=by lia
     simp only[q4 this,drop_zero,sub_zero,qG,qv]at z2;lia
    .unfold cK sIx;let:¬v<0:=by lia
     simp only[q4 this,drop_zero,sub_zero,qG];lia
  .simp! [e_C];let:=put _ a3 s3 e4 h5 O F.1 F.2.1 F.2.2;simp! [aM]at this;show this
 .obtain⟨a,s,B,o5,o6,Y,hs,J,hB,rfl⟩:=hI;rw[EY]at hB;simp! [aM,zao];show h B a s #[by let:=hB.1;lia,hB.2] Y hs J
def Jy{d:D}(h:aO d d=false)(v:eG d<=30):eI d d=some false:=by unfold eI fC;rw[q4 (by rw[h,qR ∅];decide)];simp
def RS{d:D}(h:aO d d=false)(v:eG d<=30):fC d d=some true:=by unfold fC;rw[q4 (by rw[h,qR ∅];decide)];simp
def NA{l:List D}(h:∀d∈l,aO d d=false):bH l l=false:=by
 induction l with
 |nil=>rfl
 |cons d l v=>show(aO d d||bH l l)=false;rw[h d qm,v λe z=>h e (qk _ z)];rfl
def GO{l:List D}{n:Nat}(h:∀d∈l,eG d<=n):bG l<=n:=by
 induction l with
 |nil=>show zero_le _
 |cons d l v=>show max (eG d) (bG l)<=n;let h1:=h d qm;let h2:=v λe z=>h e (qk _ z);lia
def Gs(ps:List (Int×Int)):aO (.tup (ps.map pD)) (.tup (ps.map pD))=false/\eG (.tup (ps.map pD))<=2:=by
 show#[NA λd v=>?_,?_]
 .obtain⟨p,_,rfl⟩:=qJ.mp v;rfl
 .show bG (ps.map pD)+1<=2;let:=GO (l:=ps.map pD) (n:=1) λd v=>by let#[p,_,rfl]:=qJ.mp v;exact q5 _
  lia
def Uq{m:Nat}{sts:List St}{B:List Wd}(F:sts.length<=60)(v:m<=900)(L:B.length<=60)
  (h:P (.sh (.tup (B.map λw=>D.tup (bD m sts w)))) [.sh (eX m sts),.sh (zw B)]):ba [.sh (eX m sts),.sh (zw B)] P PX:=by
 show BS rfl rfl ?_;simp! [zw];show Hx (n:=2) (toD:=D.str) B (λw=>S.sh (.tup (bD m sts w))) (λw J l o K z G=>?_) λo=>?_
 .simp! [dS,jK,sH];show Fy F v ?_;simp! [e_C];show#[by simp only[cO];lia,G _]
 .rw[show(B.map λw=>S.sh (D.tup (bD m sts w)))=(B.map λw=>D.tup (bD m sts w)).map S.sh by rw[qD];rfl];simp! [zao];show h
def RP(l:List Nat):eI (.lst (l.map nD)) (.lst [])=some (!decide (l=[])):=by
 rw[PK (le_trans (m:=0) (GO λd v=>by let#[p,_,rfl]:=qJ.mp v;show q5 _) (zero_le _))]
 cases l<;>rfl
def Hc:∀{l:List Nat}{i:Nat}(h:i<l.length),(l[i]::l.eraseIdx i).Perm l
 |_::_,0,_=>.refl _
 |x::_,_+1,h=>(List.Perm.swap ..).trans (.cons x (Hc ↑h))
def UY{a s:Int}{m:Nat}(G:0<=a)(hs:1<=s)(v:s<=2147483629)(hm:m<=60)
  (h:∀(R:List Nat) J s',R.Perm (List.range m)->0<=J->1<=s'->s'<=2147483629->P (.lst ((R.map nD).map .sh)) [aM J s',.sh (.int (m:Int))]):
  rX [aM a s,.sh (.int (m:Int))] P PX:=by
 show BS rfl rfl ?_;simp! [aM];show#[by simp only[cO];lia,?_];rw[Dj (n:=m) rfl];show#[by rw[qo,qC];simp only[cO];lia,?_];show Kk (λn U=>∃(a s:Int)(L R:List Nat),0<=a/\1<=s/\s<=2147483629/\n=L.length/\(L++R).Perm (List.range m)/\U=[some (aM a s),some (.sh (.int (m:Int))),some (.lst ((L.map nD).map .sh)),some (.lst ((R.map nD).map .sh))]) _ #[a,s,List.range m,[],G,hs,v,rfl,by rw[qz],rfl] λn U hJ=>?_;let#[a,s,L,R,G,hs,v,rfl,O,rfl]:=hJ;let F:=O.length_eq;rw[qq,qC]at F;simp! [zao,RP];by_cases hL:L=[]
 .subst hL;simp! [decide_true,Bool.not_true,wK];show h R a s O G hs v
 .have h0:0<L.length:=qO.mpr hL;simp! [decide_eq_false hL,Bool.not_false,wJ,nU,aM,length_map];show BB G hs v ∅ ∅ λr J s' hr h3 Y M B=>?_;simp! [aM,length_map];let z:r.toNat<L.length:=by lia
  show IH hr (by simp only[qo,cO];lia) (JD (d:=nD L[r.toNat]) (by rw[qE,qh z];rfl)) ?_;simp! [aM,length_map];let h2:(L.eraseIdx r.toNat).length=L.length-1:=List.length_eraseIdx_of_lt z;show#[by simp only[cO];lia,L.length-1,∅,J,s',L.eraseIdx r.toNat,R++[L[r.toNat]],Y,M,B,∅,?_,?_]
  .show List.Perm.trans ?_ O;let e:=Hc z;let h1:(L.eraseIdx r.toNat++(R++[L[r.toNat]])).Perm (L[r.toNat]::L.eraseIdx r.toNat++R):=by rw[<-qp];exact(qM (l₁:=L.eraseIdx r.toNat++R) (l₂:=[L[r.toNat]]))
   show h1.trans (e.append_right R)
  .rw[Fx,Fx];simp
open Classical in
def Hu{α:Type}{f:α->D}(hi:∀a b,f a=f b->a=b)(G:∀a b,aO (f a) (f b)=false)(F:∀a,eG (f a)<=30)(l:List α)(a:α)(b:Bool)(v:a∈l↔b=true):cR (f a) (.tup (l.map f))=some b:=by
 show pU (f a) (.tup (l.map f))=_;unfold pU;dsimp only;rw[q4]
 .congr 1;rw[Bool.eq_iff_iff,<-v];show#[λz=>?_,λz=>@qQ _ _ (qJ.mpr #[a,z,rfl])];let#[b,v,e]:=qJ.mp (@qT _ _ z);show hi _ _ e▸v
 .intro z;let#[x,B,e]:=any_eq_true.mp z;let#[b,_,rfl]:=qJ.mp B;rw[G,qR (by let:=F b;lia)]at e;cases e
def Kj(l:List (Int×Int))(p:Int×Int)(b:Bool)(v:p∈l↔b=true):cR (pD p) (.tup (l.map pD))=some b:=Hu (f:=pD) (λ_ _=>Pf) (λ_ _=>rfl) (λ_=>by show 1<=30;decide) l p b v
def Li{a b:St}(h:aY a=aY b):a=b:=by
 unfold aY at h;injection h with h
 injection h with h1 h2
 injection h2 with h2 h3
 injection h3 with h3 _
 injection h1 with h1
 injection h2 with h2
 injection h2 with h2
 injection h3 with h3
 show Prod.ext h1 (Prod.ext h2 h3)
def Pl(l:List St)(t:St)(h:t∈l):cR (aY t) (.tup (l.map aY))=some true:=Hu (f:=aY) (λ_ _=>Li) (λ_ _=>rfl) (λ_=>by show 1<=30;decide) l t true (iff_of_true h rfl)
theorem zet{sts:List St}{y:Int}:∀{w:List Nat}{x:Int},gA sts w y x↔Wk (iB sts) w x y
 |[],_=>zdw
 |c::w,x=>by rw[zcz];show _↔∃z,(x,c,z)∈sts/\Wk (iB sts) w z y;simp only[zet (w:=w)]
def en:Nat->List Nat->List (Nat×Nat)
 |_,[]=>[]
 |k,c::w=>(k,c)::en (k+1) w
def eD(p:Nat×Nat):D:=.tup [.int (p.1:Int),.str [p.2]]
def Hv:∀(k:Nat)(w:List Nat),cD k (w.map λc=>D.str [c])=(en k w).map eD
 |_,[]=>rfl
 |k,c::w=>by show D.tup [.int (k:Int),.str [c]]::cD (k+1) (w.map λc=>D.str [c])=eD (k,c)::(en (k+1) w).map eD;rw[Hv];rfl
def IJ:∀(k:Nat)(w:List Nat),(en k w).length=w.length
 |_,[]=>rfl
 |k,c::w=>by show(en (k+1) w).length+1=w.length+1;rw[IJ]
def IE:∀{k:Nat}{w:List Nat}{p:Nat×Nat},p∈en k w->k<=p.1/\w[p.1-k]?=some p.2
 |k,c::w,p,h=>by
  rcases qA.mp h with rfl|h
  .show#[q5 _,by rw[sub_self];rfl]
  .obtain⟨h1,h2⟩:=IE h;show#[∅,?_];rw[show p.1-k=(p.1-(k+1))+1 by lia];show h2
def Me{sts:List St}{y:Int}:∀{w:List Nat}{x:Int}{r:List Int},vZ sts w x r y->∀k c,w[k]?=some c->((x::r).getD k 0,c,(x::r).getD (k+1) 0)∈sts
 |[],_,_,_,_,_,e=>by cases e
 |d::w,x,z::r,h,0,c,e=>by cases e;show h.1
 |d::w,x,z::r,h,k+1,c,e=>Me h.2 k c e
 |_::_,_,[],h,_,_,_=>h.elim
def Mj{sts:List St}{y:Int}:∀{w:List Nat}{x:Int}{r:List Int},vZ sts w x r y->∃q,x::r=q++[y]
 |[],_,[],h=>#[[],by cases h;rfl]
 |d::w,x,z::r,h=>by let#[q,e]:=Mj h.2;show#[x::q,by rw[e];rfl]
 |[],_,_::_,h=>h.elim
 |_::_,_,[],h=>h.elim
def sT(X:List Int)(p:Nat×Nat):St:=(X.getD p.1 0,p.2,X.getD (p.1+1) 0)
def FV{X:List Int}{k:Nat}{i:Int}(hi:i=(k:Int))(h:k<X.length):atI (X.map D.int) i=some (.int (X.getD k 0)):=by subst hi;show DJ ∅ ?_;rw[show((k:Int)).toNat=k by lia,qE,qh h,List.getD_eq_getElem?_getD,qh h];rfl
def Kq(b:Bool):eI (.bl b) (.bl b)=some false:=Jy rfl (by show 0<=30;decide)
def NY(l:List D):dE (.tup l) .non=some true:=by unfold dE yK;simp
def On:dE .non .non=some false:=by unfold dE yK;simp
def VN{m:Nat}{sts:List St}{w:List Nat}{x y:Nat}{D':Ends}{Y O:Option S}(hl:sts.length<=60)(hw:w.length<=50)(hx:x<m)
  (h:∀Y O,D'.nx [some (.sh (eX m sts)),some (.sh (.str w)),some (.sh (.tup (bD m sts w))),some (.sh (.int (x:Int))),some (.sh (.int (y:Int))),Y,O]):
  gN D' [some (.sh (eX m sts)),some (.sh (.str w)),some (.sh (.tup (bD m sts w))),some (.sh (.int (x:Int))),some (.sh (.int (y:Int))),Y,O]:=by
 let M:∀b,(Wk (iB sts) w x y↔b=true)->cR (.tup [.int (x:Int),.int (y:Int)]) (.tup (bD m sts w))=some b:=λb hb=>by show Kj (bT m sts w) ((x:Int),(y:Int)) b (by rw[zbo,<-hb];show#[λz=>z.2,λz=>#[#[by show 0<=(x:Int);lia,by show(x:Int)<m;lia],z]])
 rw[nT];simp! [e_C];show UK hl hw (λr hg=>?_) λhn=>?_
 .have B:=Kp hg;let J:=KJ B;let hi:=M true #[λ_=>rfl,λ_=>zet.mp #[r,B]];let#[q,eq]:=Mj B;let L:atI ((x::r:List Int).map D.int) (-1)=some (.int (y:Int)):=by rw[eq,map_append];exact L2.atI_last _ _
  let hX:(x::r:List Int).length=w.length+1:=by rw[qt,J]
  let F:=Me B;let h0:atI ((x::r:List Int).map D.int) 0=some (.int (x:Int)):=FV (k:=0) rfl ∅;generalize (x::r:List Int)=X at*;simp! [NY,hi,Kq];rw[Hv];show NU (n:=7) (toD:=eD) (en 0 w) (λp=>S.sh (aY (sT X p))) (λp hp l o o' K G hK=>?_) λo o'=>?_
  .obtain⟨_,v⟩:=IE hp;rw[sub_zero]at v;let hk:=(qg.mp v).1;rw[IJ]at G;simp! [dS,jK,nQ,eD,length_cons,length_nil,FV (k:=p.1) (i:=(p.1:Int)) rfl (show p.1<X.length by lia),FV (k:=p.1+1) (i:=(p.1:Int)+1) ∅ (show p.1+1<X.length by lia)];show#[by simp only[cO];lia,hK _ _]
  .rw[show((en 0 w).map λp=>S.sh (aY (sT X p)))=((en 0 w).map λp=>aY (sT X p)).map S.sh by rw[qD];rfl];simp! [zao,length_map,hX,L,h0];rw[show(!decide (((w.length+1:Nat):Int)=(w.length:Int)+1))=false by simp];simp! [h0,L,decide_true,Bool.not_true];refine Hx (n:=7) (toD:=λp=>aY (sT X p)) (en 0 w) (λ_=>S.sh (.bl true)) (λp hp l o K G hK=>?_) λo=>?_
   .obtain⟨_,v⟩:=IE hp;rw[sub_zero]at v;rw[IJ]at G;simp! [dS,jK,nP,eX,show∀a b:D,atI [a,b] 1=some b from λ_ _=>rfl,Pl sts (sT X p) (F _ _ v)];show#[by simp only[cO];lia,hK _]
   .rw[show((en 0 w).map λ_=>S.sh (D.bl true))=(((en 0 w).map λ_=>true).map D.bl).map S.sh by simp[Function.comp_def]];let ea:((en 0 w).map λ_=>true).all id=true:=by simp
    simp! [zao,KH,ea,Bool.not_true];show h _ _
 .let hi:=M false #[λz=>(hn (zet.mpr z)).elim,λz=>by cases z];simp! [On,hi,Kq];show h _ _
def mT(a b:D):atI [a,b] 0=some a:=rfl
def yM(a b:D):atI [a,b] 1=some b:=rfl
def Vw{m:Nat}{sts:List St}{w:List Nat}(hl:sts.length<=60)(hw:w.length<=50)(hm:m<=900)
  (h:P (.sh (.bl true)) [.sh (eX m sts),.sh (.str w),.sh (.tup (bD m sts w))]):rW [.sh (eX m sts),.sh (.str w),.sh (.tup (bD m sts w))] P PX:=by
 show BS rfl rfl ?_;simp! [eX,mT];show#[by simp only[cO];lia,?_];rw[Dj (n:=m) rfl];show EW (λG U=>∃(M B z v:Option S),U=[some (.sh (eX m sts)),some (.sh (.str w)),some (.sh (.tup (bD m sts w))),M,B,z,v]) (List.range m) (λG x h2 D2 U e hI O h7 h6 h8=>?_) (λU hI=>?_) #[none,none,none,none,rfl]
 .obtain⟨M,B,z,v,rfl⟩:=hI;let#[hk,Y]:=Nm e;simp! [nR,eX,mT];show#[by simp only[cO];lia,?_];rw[Dj (n:=m) rfl];refine EW (λG U=>∃(B z v:Option S),U=[some (.sh (eX m sts)),some (.sh (.str w)),some (.sh (.tup (bD m sts w))),some (.sh (.int (x:Int))),B,z,v]) (List.range m) (λh1 y L D3 U e2 F J h4 h3 h5=>?_) (λU F=>?_) #[B,z,v,rfl]
  .obtain⟨B,z,v,rfl⟩:=F;show VN hl hw Y λz v=>J _ #[_,z,v,rfl]
  .obtain⟨B,z,v,rfl⟩:=F;show O _ #[_,B,z,v,rfl]
 .obtain⟨M,B,z,v,rfl⟩:=hI;simp! [e_C];show h
def SO{m:Nat}{sts:List St}(hs:inR m sts){u v:List Nat}:tD m (kR m (lP sts u) (lP sts v))=bD m sts (u++v):=by rw[GC hs];show UA λx y z B=>?_;rw[Bool.eq_iff_iff,Jc,OM hs z];unfold kR;simp only[any_eq_true,qI,and_eq_true,Jc]
def KF{R v:Int->Nat->Int->Prop}(h:∀a c b,R a c b->v a c b):∀{w:List Nat}{x y:Int},Wk R w x y->Wk v w x y
 |[],_,_,e=>e
 |c::w,_,_,⟨z,h1,h2⟩=>#[z,h _ _ _ h1,KF h h2]
def Jm{Q:Env->Prop}{E:WX}{s1 F s3 s4 s5 s6 s7 s8:Option S}:∀(xs v:List St)(a s:Int)(o:Option S),0<=a->1<=s->s<=2147483629->v.length+xs.length<=60->
  (∀M s'(L:List St) o,0<=M->1<=s'->s'<=2147483629->L.length<=v.length+xs.length->(∀t∈L,t∈v\/t∈xs)->Q [some (aM M s'),s1,F,s3,s4,s5,s6,s7,s8,some (.lst ((L.map aY).map .sh)),o])->
  aI (zm 10) (aW pV (zz eT [true,true] (zk (zj 0) (zk (wC (.int 3)) zl))) (wC (.int 0))) gM (xs.map aY) [some (aM a s),s1,F,s3,s4,s5,s6,s7,s8,some (.lst ((v.map aY).map .sh)),o] Q E
 |[],v,a,s,o,ha,hs,hs2,hl,h=>by rw[map_nil];simp! [dS];show h a s v o ha hs hs2 (by simp) λt ht=>.inl ht
 |t::xs,v,a,s,o,ha,hs,hs2,hl,h=>by
  rw[qt]at hl h;rw[qy,vL];simp! [aM];show BB ha hs hs2 ⋯ ⋯ λr M s' hr h7 J G B=>?_;simp! [aM];by_cases h6:r=0
  .subst h6;simp! [show decide ((0:Int)<0)=false from rfl];show Jm xs v M s' _ J G B ∅ λa2 F L O h1 h2 h3 h4 h5=>h a2 F L O h1 h2 h3 ∅ λu Y=>(h5 u Y).imp id (qk _)
  .simp! [show decide ((0:Int)<r)=true from decide_eq_true ∅,nN];show#[by simp only[cO,qo];lia,?_];rw[show(v.map aY).map S.sh++[S.sh (aY t)]=((v++[t]).map aY).map S.sh by simp];show Jm xs (v++[t]) M s' _ J G B (by rw[qq,qB];lia) λa2 F L O h1 h2 h3 h4 h5=>h a2 F L O h1 h2 h3 (by rw[qq,qB]at h4;lia) λu Y=>?_;rcases h5 u Y with z|z
   .rcases qx.mp z with z|z
    .show .inl z
    .rw[qu.mp z];show .inr qm
   .show .inr (qk _ z)
def Tf{m:Nat}{f:Nat->Nat->Bool}{l:List (Nat×Nat)}(F:m<=8)(hn:l.Nodup)(h:∀p,p∈l↔p∈hC m f):bN (l.map pN)=some (.lst ((tD m f).map .sh)):=by
 let v:(hC m f).Perm l:=(perm_ext_iff_of_nodup ((HB m f).imp λ{a b} h z=>by rw[z]at h;lia) hn).mpr λp=>(h p).symm;let h1:=Hy m f;let h2:m*m<=8*8:=mul_le_mul F F;let J:(l.map pN).length=(tD m f).length:=by unfold tD;rw[qo,qo,v.length_eq]
 let B:∀d∈l.map pN,dR [false,false] d:=λd G=>by let#[p,_,rfl]:=qJ.mp G;show Gx p
 unfold bN;rw[qZ (.inr #[∅,.inr #[[false,false],λz=>(nomatch z),B]]),Gj (GD [false,false]) B (v.map pN) (pairwise_map.mpr ((HB m f).imp Kr))];rfl
def RM{L:List St}(O:L.length<=60):∃sts:List St,bN (L.map aY)=some (.lst ((sts.map aY).map .sh))/\sts.length=L.length/\∀t,t∈sts↔t∈L:=by
 let G:∀d∈L.map aY,dR vY d:=λd F=>by let#[p,_,rfl]:=qJ.mp F;show Oo p
 let B:=DE (L.map aY);let#[sts,e,J]:=IA (P:=λt=>t∈L) (l:=bZ (L.map aY)) λd F=>by let#[t,v,rfl]:=qJ.mp (B.mem_iff.mp F);show#[t,rfl,v]
 show#[sts,?_,?_,λt=>#[J t,λv=>?_]]
 .unfold bN;rw[qZ (.inr #[by rw[qo];lia,.inr #[vY,λz=>(nomatch z),G]]),e]
 .let:=B.length_eq;rw[e,qo,qo]at this;show this
 .let:=B.mem_iff.mpr (qJ.mpr #[t,v,rfl]);rw[e]at this;let#[M,h1,h2]:=qJ.mp this;show Li h2▸h1
def rN(R:List Nat)(x:Int):Nat:=R.getD x.toNat 0
def tT(R:List Nat)(t:St):St:=((rN R t.1:Int),t.2.1,(rN R t.2.2:Int))
def eC(m:Nat)(x:Int):Prop:=0<=x/\x<(m:Int)
structure Rm(m:Nat)(R:List Nat):Prop where
 lt:∀x,eC m x->rN R x<m
 inj:∀x y,eC m x->eC m y->rN R x=rN R y->x=y
 sur:∀y,y<m->∃x,eC m x/\rN R x=y
 at':∀x,eC m x->atI (R.map nD) x=some (nD (rN R x))
def Oc{m:Nat}{R:List Nat}(h:R.Perm (List.range m)):Rm m R:=by
 let L:R.length=m:=by rw[h.length_eq,qC]
 have F:R.Nodup:=h.nodup_iff.mpr nodup_range;let z:∀x,eC m x->∃v:x.toNat<R.length,rN R x=R[x.toNat]:=λx v=>by
  let#[h1,h2]:=v;let v:x.toNat<R.length:=∅
  show#[v,?_];unfold rN;rw[List.getD_eq_getElem?_getD,qh v];rfl
 show#[λx v=>?_,λx y v B e=>?_,λy B=>?_,λx v=>?_]
 .obtain⟨h1,h2⟩:=z x v;rw[h2];show qI.mp (h.mem_iff.mp (getElem_mem h1))
 .obtain⟨h1,h2⟩:=z x v;let#[J,G]:=z y B;rw[h2,G]at e;let:=(getElem?_inj (j:=y.toNat) h1 F).mp (by rw[qh h1,qh J,e]);let#[O,_]:=v;let#[M,_]:=B;lia
 .obtain⟨i,hi,e⟩:=getElem_of_mem (h.mem_iff.mpr (qI.mpr B));let v:eC m (i:Int):=#[∅,∅]
  let#[h1,h2]:=z _ v;show#[(i:Int),v,by rw[h2,<-e];rfl]
 .obtain⟨h1,h2⟩:=z x v;show DJ v.1 ?_;rw[qE,qh h1,h2];rfl
def dq(m:Nat)(t:St):Prop:=eC m t.1/\eC m t.2.2
def HK{m:Nat}{R:List Nat}{sts v:List St}(J:Rm m R)(hs:∀t∈sts,dq m t)(h:∀t,t∈v↔t∈sts.map (tT R)):∀{w:List Nat}{x b:Int},eC m x->(Wk (iB v) w (rN R x:Int) b↔∃y,b=(rN R y:Int)/\Wk (iB sts) w x y)
 |[],x,b,_=>#[λe=>#[x,e.symm,rfl],λ⟨y,O,B⟩=>by cases B;show O.symm]
 |c::w,x,b,hx=>by
  show(∃z,iB v (rN R x:Int) c z/\Wk (iB v) w z b)↔∃y,b=(rN R y:Int)/\∃z,iB sts x c z/\Wk (iB sts) w z y;constructor
  .rintro⟨z,h1,h2⟩;let#[t,M,e]:=qJ.mp ((h _).mp h1);unfold tT at e;injection e with O B
   injection B with B e3
   let F:=hs t M;let G:=J.inj _ _ F.1 hx ∅;subst e3;let#[y,L,Y]:=(HK J hs h F.2).mp h2;show#[y,L,t.2.2,?_,Y];show(x,c,t.2.2)∈sts;rw[<-G,<-B];show M
  .rintro⟨y,h1,z,h2,L⟩;let F:=hs _ h2;show#[(rN R z:Int),(h _).mpr (qJ.mpr #[_,h2,rfl]),(HK J hs h F.2).mpr #[y,h1,L]]
def rP(R:List Nat)(p:Int×Int):Nat×Nat:=(rN R p.1,rN R p.2)
def Sz{m:Nat}{R:List Nat}{sts v:List St}{w:List Nat}(F:Rm m R)(hs:∀t∈sts,dq m t)(h:∀t,t∈v↔t∈sts.map (tT R)):
  ((bT m sts w).map (rP R)).Nodup/\∀p,p∈(bT m sts w).map (rP R)↔p∈hC m (lP v w):=by
 let L:∀t∈sts,0<=t.2.2/\t.2.2<(m:Int):=λt ht=>(hs t ht).2;let G:∀q∈bT m sts w,eC m q.1/\eC m q.2:=λq J=>by let#[h1,h2]:=zbo.mp J;show#[h1,Gy L h2 h1]
 show#[pairwise_map.mpr (List.Pairwise.imp_of_mem (λ{a b} ha Y M e=>M ?_) OT),λp=>?_]
 rotate_left
 .unfold rP at e;injection e with e1 e2
  show Prod.ext (F.inj _ _ (G a ha).1 (G b Y).1 e1) (F.inj _ _ (G a ha).2 (G b Y).2 e2)
 .rw[zbB,Jc];unfold Wn;constructor
  .intro z;let#[q,J,rfl]:=qJ.mp z;let B:=G q J;show#[F.lt _ B.1,F.lt _ B.2,(HK F hs h B.1).mpr #[q.2,rfl,(zbo.mp J).2]]
  .rintro⟨h1,h2,h3⟩;let#[x,O,e]:=F.sur _ h1;rw[<-e]at h3;let#[y,e2,h4]:=(HK F hs h O).mp h3;show qJ.mpr #[(x,y),zbo.mpr #[O,h4],?_];show Prod.ext e (by show rN R y=p.2;lia)
def QQ{m:Nat}{sts:List St}(B:List Wd):eI (.tup (B.map λw=>D.tup (bD m sts w))) (.tup (B.map λw=>D.tup (bD m sts w)))=some false:=by
 show Jy (NA λd v=>?_) ?_
 .obtain⟨w,_,rfl⟩:=qJ.mp v;show(Gs _).1
 .show bG _+1<=30;let:=GO (l:=B.map λw=>D.tup (bD m sts w)) (n:=2) λd v=>by let#[w,_,rfl]:=qJ.mp v;exact(Gs _).2
  lia
def UR{a s:Int}{m:Nat}{sts:List St}{B:List Wd}{u v:List Nat}(ha:0<=a)(hs:1<=s)(Y:s<=2147483629)(hm:m<=8)(hl:sts.length<=24)(M:∀t∈sts,dq m t)(hB:B.length<=60)(hu:u.length<=6)(hv:v.length<=6)
  (h:∀a' s',0<=a'->1<=s'->s'<=2147483629->P (.sh (.bl true)) [aM a' s',.sh (eX m sts),.sh (zw B),.sh (.str u),.sh (.str v)]):
  rV [aM a s,.sh (eX m sts),.sh (zw B),.sh (.str u),.sh (.str v)] P PX:=by
 let G:inR m sts:=λt J=>(M t J).2;let hw:(u++v).length<=12:=by rw[qq];lia
 show BS rfl rfl ?_;simp! [aM,length_append];show Fy ∅ ∅ ?_;simp! [e_C];show Fy ∅ ∅ ?_;simp! [e_C];show Fy ∅ ∅ ?_;simp! [e_C];rw[GC G (w:=u),GC G (w:=v)];show UN hm ?_;rw[SO G];simp! [show eI (.tup (bD m sts (u++v))) (.tup (bD m sts (u++v)))=some false from Jy (Gs _).1 (le_trans (Gs _).2 ⋯),length_append];show Vw ∅ ∅ ∅ ?_;simp! [Bool.not_true];show Uq ∅ ∅ hB ?_;simp! [zw];show Hx (n:=9) (toD:=D.str) B (λw=>S.sh (.tup (bD m sts w))) (λw hw l o K h3 hK=>?_) λo=>?_
 .simp! [dS,jK,nO];show Fy ∅ ∅ ?_;simp! [e_C];show#[by simp only[cO];lia,hK _]
 rw[show(B.map λw=>S.sh (D.tup (bD m sts w)))=(B.map λw=>D.tup (bD m sts w)).map S.sh by rw[qD];rfl];simp! [zao,QQ,eX,mT,yM];show Jm sts [] a s _ ha hs Y (by show 0+sts.length<=60;lia) λa2 s2 L o2 hk Y h5 hL hx=>?_;let h8:∀t∈L,t∈sts:=λt J=>(hx t J).elim (λz=>nomatch z) id;let hd:L.length<=24:=by let:([]:List St).length=0:=rfl;lia
 simp! [zao];show Fy (sts:=L) ∅ ∅ ?_;simp! [e_C];let h7:inR m L:=λt J=>G t (h8 t J);let hr:m*m<=8*8:=mul_le_mul hm hm;let hc:(bT m L (u++v)).length<=m*m:=IB h7 m (q5 _);show Hx (n:=9) (toD:=pD) (bT m L (u++v)) (λ_=>S.sh (.bl true)) (λp hp l o K h3 hK=>?_) λo=>?_
 .let hi:cR (pD p) (.tup (bD m sts (u++v)))=some true:=Kj _ p true (iff_of_true (zbo.mpr #[(zbo.mp hp).1,KF (λa c b z=>h8 _ z) (zbo.mp hp).2]) rfl);simp! [dS,jK,nM,hi];show#[by simp only[cO];lia,hK _]
 rw[show((bT m L (u++v)).map λ_=>S.sh (D.bl true))=(((bT m L (u++v)).map λ_=>true).map D.bl).map S.sh by simp[Function.comp_def]];let ea:((bT m L (u++v)).map λ_=>true).all id=true:=by simp
 simp! [zao,KH,ea,Bool.not_true,mT,aM];show UY hk Y h5 ∅ λR a3 s3 hR e4 e1 h4=>?_;let rm:=Oc hR;simp! [aM,zao,mT,yM];show Wi (n:=9) (toD:=aY) sts (λt=>S.sh (aY (tT R t))) (λt J l o o' h9 K h3 hK=>?_) λo o' h9=>?_
 .let ho:=M t J;simp! [dS,jK,nL,aY,length_cons,length_nil,rm.at' _ ho.1,rm.at' _ ho.2];show#[by simp only[cO];lia,hK _ _ _]
 rw[show(sts.map λt=>S.sh (aY (tT R t)))=((sts.map (tT R)).map aY).map S.sh by rw[qD,qD];rfl];let#[F,es,e3,h6]:=RM (L:=sts.map (tT R)) (by rw[qo];lia);simp! [zao,es];rw[qo]at e3;show Fy (sts:=F) ∅ ∅ ?_;simp! [e_C];let hb:(bT m sts (u++v)).length<=m*m:=IB G m (q5 _);let e2:∀p∈bT m sts (u++v),eC m p.1/\eC m p.2:=λp hp=>by let#[h1,h2]:=zbo.mp hp;show#[h1,Gy G h2 h1]
 let O:inR m F:=λt J=>by let#[t0,h0,rfl]:=qJ.mp ((h6 t).mp J);let:=rm.lt _ (M t0 h0).2;show#[by show(0:Int)<=(rN R t0.2.2:Int);lia,by show(rN R t0.2.2:Int)<m;lia]
 show NU (n:=9) (toD:=pD) (bT m sts (u++v)) (λp=>S.sh (pN (rP R p))) (λp hp l o o' K h3 hK=>?_) λo o'=>?_
 .let ho:=e2 p hp;simp! [dS,jK,nK,pD,length_cons,length_nil,rm.at' _ ho.1,rm.at' _ ho.2];show#[by simp only[cO];lia,hK _ _]
 rw[show((bT m sts (u++v)).map λp=>S.sh (pN (rP R p)))=(((bT m sts (u++v)).map (rP R)).map pN).map S.sh by rw[qD,qD];rfl];let#[t1,t2]:=Sz (w:=u++v) rm M h6;rw[GC O (w:=u++v)];simp! [zao,Tf hm t1 t2,show fC (.tup (tD m (lP F (u++v)))) (.tup (tD m (lP F (u++v))))=some true from by rw[<-GC O];show RS (Gs _).1 (le_trans (Gs _).2 ⋯)];show h a3 s3 e4 e1 h4
def DW:∀ns:List Int,ns.length<=63->lH [.sh (.lst (ns.map .int))] (λs _=>s=.sh (.bl true)) λ_ _=>False:=by
 intro ns hn;show BS rfl rfl ?_;let hc:=SH (ns.map D.int) (some 2) (some 6);rw[qo]at hc;simp! [zao];show#[by simp only[cO];lia,?_];show Iu (λk U=>∃(o1 o2 o3 o4 o5 o6 o7:Option S),U=[some (.sh (.lst (ns.map .int))),o1,o2,o3,o4,o5,o6,o7]) _ (λk x hx D2 U hI e2 hct k2 hbk=>?_) (λU hI=>?_) #[none,none,none,none,none,none,none,rfl]
 .obtain⟨o1,o2,o3,o4,o5,o6,o7,rfl⟩:=hI;let h3:x=.int (k:Int):=by let#[h1,h2]:=qg.mp hx;rw[<-h2];simp[fromTo]
  subst h3;simp! [nJ];show SW ∅ λa s ha hs F=>?_;simp! [aM];show BB ha hs F ⋯ ⋯ λr a1 s1 hr k3 hb e1 Y=>?_;simp! [aM];show VT hb e1 Y ∅ ∅ λcol a2 s2 hd r3 hle hi F O=>?_;simp! [aM];show Jo hi F O ⋯ ⋯ ∅ ∅ λu a3 s3 hu r1 hp h9 M=>?_;simp! [aM];show Jo hp h9 M ⋯ ⋯ ∅ ∅ λv a4 s4 hv hq hk h8 L=>?_;let h5:u.length<=6:=hu;let h4:v.length<=6:=hv;simp! [aM,length_append];show Vh hk h8 L ⋯ ⋯ ⋯ ⋯ ∅ ∅ (by rw[qq];lia) λmany hm a5 s5 hm1 hm8 r2 z hpw hnd e4 h7 J=>?_;obtain⟨m,rfl⟩:∃m:Nat,many=m:=#[many.toNat,∅]
  simp! [aM];show Vn e4 h7 J ∅ ∅ ⋯ ⋯ ⋯ ⋯ λB a6 s6 hB e3 h6 G=>?_;let hB1:B.length<=6:=hB.1;simp! [aM];show UR e3 h6 G ∅ ∅ (λt ht=>#[(z t ht).1,(z t ht).2.1]) ∅ h5 h4 λa7 s7 ha7 k1 hl=>?_;simp! [Bool.not_true];show e2 _ #[_,_,_,_,_,_,_,rfl]
 .obtain⟨o1,o2,o3,o4,o5,o6,o7,rfl⟩:=hI;simp! [e_C]
end pu
end Law
section
set_option maxHeartbeats 4000000
namespace Law
open PySem PySem.Spec PyProof.Rows L2 FL
local macro_rules
 |`(tactic|trivial)=>`(tactic|first|exact Or.inl rfl|exact Or.inr rfl)
@[inline]def top(i:Nat):Stmt:=PySem.Challenge.pw_walktold_k15_whole_words_joined.main.body.getD i (.Pass #[0,0,0,0])
abbrev cw:Stmt:=top 1
def ki:List Str:=["chart","word","many","streets","goes","begin","colour","end","pairs","x","front"]
abbrev dn:List Str:=["chart","word"]
def Bd:aH ki dn (aA cw):=BX
abbrev cv:Stmt:=top 2
def kh:List Str:=["pairs","ends","begin","end"]
abbrev dm:List Str:=["pairs"]
def EF:aH kh dm (aA cv):=BX
abbrev cu:Stmt:=top 3
def kg:List Str:=["one","other","ends"]
abbrev dk:List Str:=["one","other"]
def Hh:aH kg dk (aA cu):=BX
abbrev cq:Stmt:=top 4
def ke:List Str:=["chart","board"]
abbrev dj:List Str:=["chart","board"]
def JO:aH ke dj (aA cq):=BX
abbrev cp:Stmt:=top 6
def kc:List Str:=["chart","word","x","y","streets","leading","room","rooms","place","colour"]
abbrev di:List Str:=["chart","word","x","y"]
def Ck:aH kc di (aA cp):=BX
abbrev cn:Stmt:=top 7
def kb:List Str:=["streets","word","y","leading","colour","behind"]
abbrev dh:List Str:=["streets","word","y"]
def EE:aH kb dh (aA cn):=BX
abbrev ck:Stmt:=top 8
def ka:List Str:=["streets","room","colour","leading"]
abbrev dg:List Str:=["streets","room","colour","leading"]
def JN:aH ka dg (aA ck):=BX
abbrev cj:Stmt:=top 10
def jz:List Str:=["_law_script","_law_k","_law_cell","_law_seed"]
abbrev df:List Str:=["_law_script","_law_k"]
def DR:aH jz df (aA cj):=BX
abbrev cg:Stmt:=top 11
def jy:List Str:=["_law_box_here","_law_many","_law_digit","_law_one"]
abbrev de:List Str:=["_law_box_here","_law_many"]
def FC:aH jy de (aA cg):=BX
abbrev cf:Stmt:=top 12
def jx:List Str:=["_law_box_here","_law_many","_law_left"]
abbrev da:List Str:=["_law_box_here","_law_many"]
def Hg:aH jx da (aA cf):=BX
abbrev tJ:Stmt:=top 13
def eh:List Str:=["_law_box_here","_law_colours_here","_law_most","_law_many"]
abbrev uE:List Str:=["_law_box_here","_law_colours_here","_law_most"]
def Fe:aH eh uE (aA tJ):=BX
abbrev tI:Stmt:=top 14
def ee:List Str:=["_law_box_here","_law_colours_here","_law_word_here","_law_rooms","_law_streets","_law_many","_law_found","_law_turn","_law_x","_law_colour","_law_y","_law_k"]
abbrev uD:List Str:=["_law_box_here","_law_colours_here","_law_word_here","_law_rooms","_law_streets"]
def AQ:aH ee uD (aA tI):=BX
abbrev tH:Stmt:=top 15
def dz:List Str:=["_law_box_here","_law_colours_here","_law_board_here","_law_one","_law_kind","_law_colour","_law_at"]
abbrev uC:List Str:=["_law_box_here","_law_colours_here","_law_board_here"]
def Cp:aH dz uC (aA tH):=BX
abbrev tG:Stmt:=top 16
def dy:List Str:=["_law_box_here","_law_colours_here","_law_many","_law_most","_law_found","_law_k","_law_word_here"]
abbrev uA:List Str:=["_law_box_here","_law_colours_here","_law_many","_law_most"]
def Co:aH dy uA (aA tG):=BX
abbrev tF:Stmt:=top 17
def dw:List Str:=["_law_box_here","_law_many","_law_left","_law_found"]
abbrev tZ:List Str:=["_law_box_here","_law_many"]
def DS:aH dw tZ (aA tF):=BX
abbrev tE:Stmt:=top 18
def dv:List Str:=["_law_chart_here","_law_word_here","_law_pairs","_law_x","_law_y","_law_found","_law_steps"]
abbrev tY:List Str:=["_law_chart_here","_law_word_here","_law_pairs"]
def Cn:aH dv tY (aA tE):=BX
abbrev tB:Stmt:=top 19
def du:List Str:=["_law_box_here","_law_chart_here","_law_board_here","_law_one","_law_other","_law_pairs","_law_fewer","_law_rooms","_law_turned"]
abbrev tX:List Str:=["_law_box_here","_law_chart_here","_law_board_here","_law_one","_law_other"]
def Cm:aH du tX (aA tB):=BX
abbrev sZ:Stmt:=top 20
def dr:List Str:=["_law_script","_law_k","_law_box_here","_law_colours_here","_law_one","_law_other","_law_chart_here","_law_board_here"]
abbrev tV:List Str:=["_law_script"]
def Bo:aH dr tV (aA sZ):=BX
structure Txt(K:W.Frag)(mg:Str->Option Value)(af:Nat->Addr):Prop where
 t_0:Tx K mg (af 0) "table" cw dn
 t_1:Tx K mg (af 1) "ends_by_begin" cv dm
 t_2:Tx K mg (af 2) "over" cu dk
 t_3:Tx K mg (af 3) "board_tables" cq dj
 t_4:Tx K mg (af 4) "walk" cp di
 t_5:Tx K mg (af 5) "rooms_leading" cn dh
 t_6:Tx K mg (af 6) "next_rooms" ck dg
 t_7:Tx K mg (af 7) "_law_box" cj df
 t_8:Tx K mg (af 8) "_law_take" cg de
 t_9:Tx K mg (af 9) "_law_colours" cf da
 t_10:Tx K mg (af 10) "_law_word" tJ uE
 t_11:Tx K mg (af 11) "_law_chart" tI uD
 t_12:Tx K mg (af 12) "_law_near" tH uC
 t_13:Tx K mg (af 13) "_law_board" tG uA
 t_14:Tx K mg (af 14) "_law_order" tF tZ
 t_15:Tx K mg (af 15) "_law_walked" tE tY
 t_16:Tx K mg (af 16) "_law_right" tB tX
 t_17:Tx K mg (af 17) "law" sZ tV
 n_all:mg "all"=none
 n_enumerate:mg "enumerate"=none
 n_int:mg "int"=none
 n_len:mg "len"=none
 n_list:mg "list"=none
 n_min:mg "min"=none
 n_range:mg "range"=none
 n_reversed:mg "reversed"=none
 n_set:mg "set"=none
 n_sorted:mg "sorted"=none
 n_tuple:mg "tuple"=none
section
variable{P:Program}{w:World}{K:W.Frag}{mg:Str->Option Value}{base:Heap}{af:Nat->Addr}
def CK(T:Txt K mg af):hE P w K mg base af 1 0 dn (eM K nG 2):=BY T.t_0 Bd λ_ _ _ _ _ _ v=>Ak (AA (fw 0) (Er (by rfl) (Bf (Am 2 Bd.nd) (Bf (Am 3 Bd.nd) Ex))))
  (Ak (AA Sf (Am 4 Bd.nd))
  (Ak (Ks (Dp (by rfl) (BU (fw 3)) (Er (by rfl) (Bf (Am 5 Bd.nd) (Bf (Am 6 Bd.nd) (Bf (Am 7 Bd.nd) Ex)))) (Aw (Eu (Nc (j:=4) (Fp v) (fw 4) (Do (Aa (fw 5) (Aa (fw 6) Ac))) (fw 7) #[rfl,rfl,rfl,rfl])))))
  (Ak (AA (CC Ac) (Am 8 Bd.nd))
  (Ak (Dp (by rfl) (EC (by rfl) T.n_range (fw 2)) (Am 9 Bd.nd) (Ak (AA (BV (CC (Aa (fw 9) Ac))) (Am 10 Bd.nd))
  (Ak (Dp (by rfl) (BU (fw 1)) (Am 6 Bd.nd) (Aw (AA (BV (Gf v (by rfl) T.n_sorted Gu (Aa (KN (vars:=["room","end"]) rfl (Fp v) (My v) (by rfl) (An (by kernel_rfl)) rfl (BU (fw 10)) (λ_ _ _=>Bb 12) (λ_ _ _=>CY) (λ_ _ _=>BU (KY (Fp v) (fw 4) (Do (Aa (fw 12) (Aa (fw 6) Ac))) (CC Ac) #[rfl,rfl,rfl,rfl])) (λ_ _ _=>Bb 13) (λ_ _ _=>CY) (λ_ _ _=>fw 13)) Ac))) (Am 10 Bd.nd))))
  (Aw (Eu (Ug (j:=8) (fw 8) (DH (vars:=["y"]) rfl (by rfl) (An (by kernel_rfl)) rfl (BU (fw 10)) (λ_ _ _=>Bb 12) (λ_ _ _=>CY) (λ_ _ _=>Do (Aa (fw 9) (Aa (fw 12) Ac))))))))))
  (Aw (AU (Es (by rfl) T.n_tuple Ey (Aa (fw 8) Ac))))))))
def JY(T:Txt K mg af):hE P w K mg base af 1 1 dm (eM K bc 1):=BY T.t_1 EF λ_ _ _ _ _ _ v=>Ak (AA Px (Am 1 EF.nd))
  (Ak (Dp (by rfl) (BU (fw 0)) (Er (by rfl) (Bf (Am 2 EF.nd) (Bf (Am 3 EF.nd) Ex))) (Aw (Eu (Nc (j:=1) (Fp v) (fw 1) (fw 2) (fw 3) #[rfl,rfl,rfl,rfl]))))
  (Aw (AU (fw 1))))
def JU(T:Txt K mg af):hE P w K mg base af 1 5 dh (eM K ay 3):=BY T.t_5 EE λ_ _ _ _ _ _ v=>Ak (AA (CC (Aa (BV (Sl (fw 2) DF)) Ac)) (Am 3 EE.nd))
  (Ak (Dp (by rfl) (Qw (by rfl) T.n_reversed (fw 1)) (Am 4 EE.nd) (Ak (AA (AK (fw 3) (IC Aj)) (Am 5 EE.nd))
  (Aw (Eu (Gq (j:=3) (fw 3) (BV (OK false (vars:=["begin","seen","end"]) rfl (PV v) (by rfl) (An (by kernel_rfl)) rfl (BU (fw 0)) (λ_ _ _=>Er (by rfl) (Bf (Bb 7) (Bf (Bb 8) (Bf (Bb 9) Ex)))) (λ_ _ _=>IV rfl (Gw (HD (BA (λ_ _=>GF (Hf v)) GR (fw 8) (fw 4) (Ae _)) (IQ (BA (λ_ _=>GG (BW v)) GW (fw 9) (fw 5) (by with_unfolding_all rfl)))))) (λ_ _ _=>fw 7) (λ_ _ _=>DF))))))))
  (Aw (AU (Qt (fw 3) (IC Aj)))))
def JS(T:Txt K mg af):hE P w K mg base af 1 6 dg (eM K ax 4):=BY T.t_6 JN λ_ _ _ _ _ _ v=>Aw (AU (DH (vars:=["begin","seen","end"]) rfl (by rfl) (An (by kernel_rfl)) rfl (BU (fw 0)) (λ_ _ _=>Er (by rfl) (Bf (Bb 5) (Bf (Bb 6) (Bf (Bb 7) Ex)))) (λ_ _ _=>IV rfl (Gw (HD (BA (λ_ _=>GF (Hf v)) GR (fw 5) (fw 1) (Ae _)) (HD (BA (λ_ _=>GF (Hf v)) GR (fw 6) (fw 2) (Ae _)) (IQ (BA (λ_ _=>GG (BW v)) GW (fw 7) (fw 3) (by with_unfolding_all rfl))))))) (λ_ _ _=>fw 7)))
def JR(T:Txt K mg af):hE P w K mg base af 1 7 df (eM K aw 2):=BY T.t_7 DR λ_ _ _ _ _ _ v=>Ak (AA (AZ (Ew Aj (fw 1)) Aj) (Am 2 DR.nd))
  (Ak (CW (BA (λ_ _=>OZ) Qj (fw 1) (CB (by rfl) T.n_len (Aa (fw 0) Ac)) (Ae _)) (Aw (AA (AK (fw 0) (fw 1)) (Am 2 DR.nd))) (Aw (CW (BA (λ_ _=>HF) HL (CB (by rfl) T.n_len (Aa (fw 0) Ac)) Aj (Ae _)) (Aw (AA (AZ (fw 2) (Ew (EV (AK (fw 0) (EV (fw 1) (CB (by rfl) T.n_len (Aa (fw 0) Ac)))) Aj) Aj)) (Am 2 DR.nd))) Dm)))
  (Ak (AA (AZ (EV (AZ (Ew (EV (fw 2) Aj) Aj) (Ew Aj (fw 1))) Aj) Aj) (Am 3 DR.nd))
  (Aw (AU (CC (Aa (AK (CC (Aa Aj (Aa (fw 2) Ac))) (HN (by rfl) T.n_int HC (Aa (Ez (λ_ _=>Pa) QU (fw 2) (Pn Aj Aj) (Ae _)) Ac))) (Aa (fw 3) Ac)))))))
def AC(T:Txt K mg af):hE P w K mg base af 1 8 de (eM K eT 2):=BY T.t_8 FC λ_ _ _ _ _ _ v=>Ak (CW (BA (λ_ _=>HF) HL (AK (fw 0) Aj) Aj (Ae _)) (Ak (AA (EV (AK (fw 0) Aj) (fw 1)) (Am 2 FC.nd))
  (Ak (MI (j:=0) (fw 0) Aj (Lx (AK (fw 0) Aj) (fw 1)))
  (Aw (AU (fw 2))))) Dm)
  (Ak (AA (EV (Ew (AK (fw 0) Aj) Aj) Aj) (Am 3 FC.nd))
  (Ak (MI (j:=0) (fw 0) Aj (AZ (EV (AZ (Ew (fw 3) Aj) Aj) Aj) Aj))
  (Aw (AU (EV (Lx (AZ (Ew (fw 3) Aj) (AK (fw 0) Aj)) Aj) (fw 1))))))
def JX(T:Txt K mg af):hE P w K mg base af 2 2 dk (eM K bb 2):=BY T.t_2 Hh λ_ _ _ _ _ _ v=>Ak (AA (BV (Az [true] T.t_1 (JY T) v (Aa (fw 1) Ac))) (Am 2 Hh.nd))
  (Aw (AU (Es (by rfl) T.n_tuple Ey (Aa (Gf v (by rfl) T.n_sorted Gu (Aa (KN (vars:=["x","y","z"]) rfl (Fp v) (My v) (by rfl) (An (by kernel_rfl)) rfl (BU (fw 0)) (λ_ _ _=>Er (by rfl) (Bf (Bb 4) (Bf (Bb 5) Ex))) (λ_ _ _=>CY) (λ_ _ _=>BU (KY (Fp v) (fw 2) (fw 5) (CC Ac) #[rfl,rfl,rfl,rfl])) (λ_ _ _=>Bb 6) (λ_ _ _=>CY) (λ_ _ _=>Do (Aa (fw 4) (Aa (fw 6) Ac)))) Ac)) Ac))))
def JW(T:Txt K mg af):hE P w K mg base af 2 3 dj (eM K ba 2):=BY T.t_3 JO λ_ _ _ _ _ _ v=>Aw (AU (Es (by rfl) T.n_tuple Ey (Aa (DH (vars:=["word"]) rfl (by rfl) (An (by kernel_rfl)) rfl (BU (fw 1)) (λ_ _ _=>Bb 3) (λ_ _ _=>CY) (λ_ _ _=>BV (Az [true,true] T.t_0 (CK T) v (Aa (fw 0) (Aa (fw 3) Ac))))) Ac)))
def JV(T:Txt K mg af):hE P w K mg base af 2 4 di (eM K az 4):=BY T.t_4 Ck λ_ _ _ _ _ _ v=>Ak (AA (AK (fw 0) Aj) (Am 4 Ck.nd))
  (Ak (AA (BV (Az [true,true,true] T.t_5 (JU T) v (Aa (fw 4) (Aa (fw 1) (Aa (fw 3) Ac))))) (Am 5 Ck.nd))
  (Ak (CW (BA (λ_ _=>MY (BW v)) Ny (fw 2) (AK (fw 5) Aj) (by with_unfolding_all rfl)) (Aw (AU IM)) Dm)
  (Ak (AA (fw 2) (Am 6 Ck.nd))
  (Ak (AA (CC (Aa (fw 6) Ac)) (Am 7 Ck.nd))
  (Ak (Dp (by rfl) (Lg (by rfl) (by rfl) T.n_enumerate NR (fw 1)) (Er (by rfl) (Bf (Am 8 Ck.nd) (Bf (Am 9 Ck.nd) Ex))) (Ak (AA (BV (QD (by rfl) (by rfl) T.n_min Pp (Aa (Az [true,true,true,true] T.t_6 (JS T) v (Aa (fw 4) (Aa (fw 6) (Aa (fw 9) (Aa (AK (fw 5) (AZ (fw 8) Aj)) Ac))))) Ac))) (Am 6 Ck.nd))
  (Aw (Eu (Gq (j:=7) (fw 7) (fw 6))))))
  (Aw (AU (Es (by rfl) T.n_tuple Ey (Aa (fw 7) Ac)))))))))
def JQ(T:Txt K mg af):hE P w K mg base af 2 9 da (eM K av 2):=BY T.t_9 Hg λ_ _ _ _ _ _ v=>Ak (AA (Sg (by rfl) (by rfl) T.n_list LM (Aa (Gc (by rfl) ⋯) Ac)) (Am 2 Hg.nd))
  (Aw (AU (LP (Gc (by rfl) ⋯) (Aa (Gf v (by rfl) T.n_sorted Gu (Aa (DH (vars:=["_law_k"]) rfl (by rfl) (An (by kernel_rfl)) rfl (EC (by rfl) T.n_range (fw 1)) (λ_ _ _=>Bb 4) (λ_ _ _=>CY) (λ_ _ _=>BV (Ji (j:=2) (fw 2) (Az [true,true] T.t_8 (AC T) v (Aa (fw 0) (Aa (CB (by rfl) T.n_len (Aa (fw 2) Ac)) Ac)))))) Ac)) Ac))))
def DZ(T:Txt K mg af):hE P w K mg base af 2 10 uE (eM K lI 3):=BY T.t_10 Fe λ_ _ _ _ _ _ v=>Ak (AA (Ew (Az [true,true] T.t_8 (AC T) v (Aa (fw 0) (Aa (AZ (fw 2) Aj) Ac))) (HN (by rfl) T.n_int HC (Aa (Ez (λ_ _=>DG (BW v)) DL (fw 1) (Gc (by rfl) ⋯) (Ae _)) Ac))) (Am 3 Fe.nd))
  (Aw (AU (LP (Gc (by rfl) ⋯) (Aa (DH (vars:=["_law_k"]) rfl (by rfl) (An (by kernel_rfl)) rfl (EC (by rfl) T.n_range (fw 3)) (λ_ _ _=>Bb 5) (λ_ _ _=>CY) (λ_ _ _=>AK (fw 1) (Az [true,true] T.t_8 (AC T) v (Aa (fw 0) (Aa (CB (by rfl) T.n_len (Aa (fw 1) Ac)) Ac))))) Ac))))
def Hq(T:Txt K mg af):hE P w K mg base af 2 11 uD (eM K sA 5):=BY T.t_11 AQ λ_ _ _ _ _ _ v=>Ak (AA (AZ Aj (Az [true,true] T.t_8 (AC T) v (Aa (fw 0) (Aa (fw 3) Ac)))) (Am 5 AQ.nd))
  (Ak (AA (CC Ac) (Am 6 AQ.nd))
  (Ak (Dp (by rfl) (EC (by rfl) T.n_range (Az [true,true] T.t_8 (AC T) v (Aa (fw 0) (Aa Aj Ac)))) (Am 7 AQ.nd) (Ak (AA (Az [true,true] T.t_8 (AC T) v (Aa (fw 0) (Aa (fw 5) Ac))) (Am 8 AQ.nd))
  (Aw (Dp (by rfl) (BU (fw 2)) (Am 9 AQ.nd) (Ak (AA (Az [true,true] T.t_8 (AC T) v (Aa (fw 0) (Aa (fw 5) Ac))) (Am 10 AQ.nd))
  (Ak (Eu (Gq (j:=6) (fw 6) (Do (Aa (fw 8) (Aa (fw 9) (Aa (fw 10) Ac))))))
  (Aw (AA (fw 10) (Am 8 AQ.nd)))))))))
  (Ak (Dp (by rfl) (EC (by rfl) T.n_range (Ew (Az [true,true] T.t_8 (AC T) v (Aa (fw 0) (Aa (AZ (fw 4) Aj) Ac))) (HN (by rfl) T.n_int HC (Aa (Ez (λ_ _=>DG (BW v)) DL (fw 1) (Gc (by rfl) ⋯) (Ae _)) Ac)))) (Am 11 AQ.nd) (Ak (Kw (i:=8) (j:=10) (by rfl) AQ.nd (by rfl) (by rfl) ⋯ ⋯ ⋯ (by rfl) (by rfl) (Aa (Az [true,true] T.t_8 (AC T) v (Aa (fw 0) (Aa (fw 5) Ac))) (Aa (Az [true,true] T.t_8 (AC T) v (Aa (fw 0) (Aa (fw 5) Ac))) Ac)))
  (Aw (Eu (Gq (j:=6) (fw 6) (Do (Aa (fw 8) (Aa (AK (fw 1) (Az [true,true] T.t_8 (AC T) v (Aa (fw 0) (Aa (CB (by rfl) T.n_len (Aa (fw 1) Ac)) Ac)))) (Aa (fw 10) Ac)))))))))
  (Ak (MD (BA (λ_ _=>HF) HL (Qv (by rfl) T.n_len (Aa (LR v (by rfl) T.n_set KE (Aa (fw 6) Ac)) Ac)) (fw 4) (Ae _)) (Aw (Eu (Ji (j:=6) (fw 6) (Az [true,true] T.t_8 (AC T) v (Aa (fw 0) (Aa (CB (by rfl) T.n_len (Aa (fw 6) Ac)) Ac)))))))
  (Aw (AU (Do (Aa (fw 5) (Aa (Es (by rfl) T.n_tuple Ey (Aa (Gf v (by rfl) T.n_sorted Gu (Aa (LR v (by rfl) T.n_set KE (Aa (fw 6) Ac)) Ac)) Ac)) Ac)))))))))
def Ho(T:Txt K mg af):hE P w K mg base af 2 12 uC (eM K rZ 3):=BY T.t_12 Cp λ_ _ _ _ _ _ v=>Ak (AA (AK (fw 2) (Az [true,true] T.t_8 (AC T) v (Aa (fw 0) (Aa (CB (by rfl) T.n_len (Aa (fw 2) Ac)) Ac)))) (Am 3 Cp.nd))
  (Ak (AA (Az [true,true] T.t_8 (AC T) v (Aa (fw 0) (Aa Aj Ac))) (Am 4 Cp.nd))
  (Ak (AA (AK (fw 1) (Az [true,true] T.t_8 (AC T) v (Aa (fw 0) (Aa (CB (by rfl) T.n_len (Aa (fw 1) Ac)) Ac)))) (Am 5 Cp.nd))
  (Ak (AA (Az [true,true] T.t_8 (AC T) v (Aa (fw 0) (Aa (CB (by rfl) T.n_len (Aa (fw 3) Ac)) Ac))) (Am 6 Cp.nd))
  (Aw (AU (AK (CC (Aa (Kv (fw 3) (AZ (fw 6) Aj)) (Aa (OQ (fw 3) (fw 6)) (Aa (AZ (fw 5) (fw 3)) (Aa (AZ (fw 3) (fw 5)) (Aa (AZ (fw 3) (fw 3)) Ac)))))) (fw 4)))))))
def Hm(T:Txt K mg af):hE P w K mg base af 2 14 tZ (eM K rX 2):=BY T.t_14 DS λ_ _ _ _ _ _ v=>Ak (AA (TH (by rfl) (by rfl) T.n_list LM (by rfl) T.n_range (fw 1)) (Am 2 DS.nd))
  (Ak (AA (CC Ac) (Am 3 DS.nd))
  (Ak (MD (BA (λ_ _=>DG (BW v)) DL (fw 2) (CC Ac) (Ae _)) (Aw (Eu (Gq (j:=3) (fw 3) (BV (Ji (j:=2) (fw 2) (Az [true,true] T.t_8 (AC T) v (Aa (fw 0) (Aa (CB (by rfl) T.n_len (Aa (fw 2) Ac)) Ac)))))))))
  (Aw (AU (fw 3)))))
def Hn(T:Txt K mg af):hE P w K mg base af 3 13 uA (eM K rY 4):=BY T.t_13 Co λ_ _ _ _ _ _ v=>Ak (AA (CC Ac) (Am 4 Co.nd))
  (Ak (Dp (by rfl) (EC (by rfl) T.n_range (Ew (Az [true,true] T.t_8 (AC T) v (Aa (fw 0) (Aa (AZ (fw 2) Aj) Ac))) (HN (by rfl) T.n_int HC (Aa (Ez (λ_ _=>DG (BW v)) DL (fw 1) (Gc (by rfl) ⋯) (Ae _)) Ac)))) (Am 5 Co.nd) (Ak (AA (AZ (AK (fw 1) (Az [true,true] T.t_8 (AC T) v (Aa (fw 0) (Aa (CB (by rfl) T.n_len (Aa (fw 1) Ac)) Ac)))) (Az [true,true,true] T.t_10 (DZ T) v (Aa (fw 0) (Aa (fw 1) (Aa (OS (fw 3) Aj) Ac))))) (Am 6 Co.nd))
  (Ak (CW (Gw (HD (BA (λ_ _=>DG (BW v)) DL (fw 4) (CC Ac) (Ae _)) (IQ (BA (λ_ _=>GF (Hf v)) GR (Az [true,true] T.t_8 (AC T) v (Aa (fw 0) (Aa Aj Ac))) Aj (Ae _))))) (Aw (AA (Kv (Az [true,true,true] T.t_12 (Ho T) v (Aa (fw 0) (Aa (fw 1) (Aa (fw 4) Ac)))) (fw 3)) (Am 6 Co.nd))) Dm)
  (Aw (CW (BA (λ_ _=>MY (BW v)) Ny (fw 6) (fw 4) (by with_unfolding_all rfl)) (Aw (Eu (Gq (j:=4) (fw 4) (fw 6)))) Dm)))))
  (Aw (AU (Es (by rfl) T.n_tuple Ey (Aa (fw 4) Ac)))))
def Hl(T:Txt K mg af):hE P w K mg base af 3 15 tY (eM K rW 3):=BY T.t_15 Cn λ_ _ _ _ _ _ v=>Ak (Dp (by rfl) (EC (by rfl) T.n_range (AK (fw 0) Aj)) (Am 3 Cn.nd) (Aw (Dp (by rfl) (EC (by rfl) T.n_range (AK (fw 0) Aj)) (Am 4 Cn.nd) (Ak (AA (BV (Az [true,true,true,true] T.t_4 (JV T) v (Aa (fw 0) (Aa (fw 1) (Aa (fw 3) (Aa (fw 4) Ac)))))) (Am 5 Cn.nd))
  (Ak (CW (BA (λ_ _=>DG (BW v)) DL (Ez (λ_ _=>MP) NG (fw 5) IM (Ae _)) (Ez (λ_ _=>GG (BW v)) GW (Do (Aa (fw 3) (Aa (fw 4) Ac))) (fw 2) (by with_unfolding_all rfl)) (Ae _)) (Aw (AU DF)) Dm)
  (Aw (CW (BA (λ_ _=>MP) NG (fw 5) IM (Ae _)) (Ak (Ks (Tr (i:=6) ⋯ (λj z=>HV Cn.nd z rfl) rfl (by rfl) (by rfl) (vars:=["_law_k","_law_colour"]) rfl (by rfl) (An (by kernel_rfl)) rfl (Lg (by rfl) (by rfl) T.n_enumerate NR (fw 1)) (λ_ _ _=>Er (by rfl) (Bf (Bb 8) (Bf (Bb 9) Ex))) (λ_ _ _=>CY) (λ_ _ _=>Do (Aa (AK (fw 5) (fw 8)) (Aa (fw 9) (Aa (AK (fw 5) (AZ (fw 8) Aj)) Ac))))))
  (Ak (CW (Gw (Iz (BA (λ_ _=>DG (BW v)) DL (CB (by rfl) T.n_len (Aa (fw 5) Ac)) (AZ (CB (by rfl) T.n_len (Aa (fw 1) Ac)) Aj) (Ae _)) (Iz (BA (λ_ _=>DG (BW v)) DL (AK (fw 5) Aj) (fw 3) (Ae _)) (KL (BA (λ_ _=>DG (BW v)) DL (AK (fw 5) (IC Aj)) (fw 4) (Ae _)))))) (Aw (AU DF)) Dm)
  (Aw (CW (HA (HE (KR (by rfl) (by rfl) T.n_all KM (Aa (DH (vars:=["_law_step"]) rfl (by rfl) (An (by kernel_rfl)) rfl (BU (fw 6)) (λ_ _ _=>Bb 8) (λ_ _ _=>CY) (λ_ _ _=>Ez (λ_ _=>GG (BW v)) GW (fw 8) (AK (fw 0) Aj) (by with_unfolding_all rfl))) Ac)))) (Aw (AU DF)) Dm)))) Dm)))))))
  (Aw (AU DF))
def Hk(T:Txt K mg af):hE P w K mg base af 4 16 tX (eM K rV 5):=BY T.t_16 Cm λ_ _ _ _ _ _ v=>Ak (AA (BV (Az [true,true] T.t_0 (CK T) v (Aa (fw 1) (Aa (AZ (fw 3) (fw 4)) Ac)))) (Am 5 Cm.nd))
  (Ak (CW (Gw (Iz (BA (λ_ _=>DG (BW v)) DL (fw 5) (Az [true,true] T.t_2 (JX T) v (Aa (BV (Az [true,true] T.t_0 (CK T) v (Aa (fw 1) (Aa (fw 3) Ac)))) (Aa (BV (Az [true,true] T.t_0 (CK T) v (Aa (fw 1) (Aa (fw 4) Ac)))) Ac))) (Ae _)) (KL (HA (HE (Az [true,true,true] T.t_15 (Hl T) v (Aa (fw 1) (Aa (AZ (fw 3) (fw 4)) (Aa (fw 5) Ac))))))))) (Aw (AU DF)) Dm)
  (Ak (CW (BA (λ_ _=>DG (BW v)) DL (Az [true,true] T.t_3 (JW T) v (Aa (fw 1) (Aa (fw 2) Ac))) (Es (by rfl) T.n_tuple Ey (Aa (DH (vars:=["_law_word_here"]) rfl (by rfl) (An (by kernel_rfl)) rfl (BU (fw 2)) (λ_ _ _=>Bb 10) (λ_ _ _=>CY) (λ_ _ _=>BV (Az [true,true] T.t_0 (CK T) v (Aa (fw 1) (Aa (fw 10) Ac))))) Ac)) (Ae _)) (Aw (AU DF)) Dm)
  (Ak (AA (Do (Aa (AK (fw 1) Aj) (Aa (Es (by rfl) T.n_tuple Ey (Aa (DH (vars:=["_law_street"]) rfl (by rfl) (An (by kernel_rfl)) rfl (BU (AK (fw 1) Aj)) (λ_ _ _=>Bb 10) (λ_ _ _=>IV rfl (BA (λ_ _=>HF) HL (Az [true,true] T.t_8 (AC T) v (Aa (fw 0) (Aa Aj Ac))) Aj (Ae _))) (λ_ _ _=>fw 10)) Ac)) Ac))) (Am 6 Cm.nd))
  (Ak (CW (HA (HE (KR (by rfl) (by rfl) T.n_all KM (Aa (DH (vars:=["_law_pair"]) rfl (by rfl) (An (by kernel_rfl)) rfl (BU (Az [true,true] T.t_0 (CK T) v (Aa (fw 6) (Aa (AZ (fw 3) (fw 4)) Ac)))) (λ_ _ _=>Bb 10) (λ_ _ _=>CY) (λ_ _ _=>Ez (λ_ _=>GG (BW v)) GW (fw 10) (fw 5) (by with_unfolding_all rfl))) Ac)))) (Aw (AU DF)) Dm)
  (Ak (AA (BV (Az [true,true] T.t_14 (Hm T) v (Aa (fw 0) (Aa (AK (fw 1) Aj) Ac)))) (Am 7 Cm.nd))
  (Ak (AA (Do (Aa (AK (fw 1) Aj) (Aa (Es (by rfl) T.n_tuple Ey (Aa (Gf v (by rfl) T.n_sorted Gu (Aa (DH (vars:=["_law_x","_law_colour","_law_y"]) rfl (by rfl) (An (by kernel_rfl)) rfl (BU (AK (fw 1) Aj)) (λ_ _ _=>Er (by rfl) (Bf (Bb 10) (Bf (Bb 11) (Bf (Bb 12) Ex)))) (λ_ _ _=>CY) (λ_ _ _=>Do (Aa (AK (fw 7) (fw 10)) (Aa (fw 11) (Aa (AK (fw 7) (fw 12)) Ac))))) Ac)) Ac)) Ac))) (Am 8 Cm.nd))
  (Aw (AU (Ez (λ_ _=>GF (Hf v)) GR (Az [true,true] T.t_0 (CK T) v (Aa (fw 8) (Aa (AZ (fw 3) (fw 4)) Ac))) (Es (by rfl) T.n_tuple Ey (Aa (Gf v (by rfl) T.n_sorted Gu (Aa (DH (vars:=["_law_x","_law_y"]) rfl (by rfl) (An (by kernel_rfl)) rfl (BU (fw 5)) (λ_ _ _=>Er (by rfl) (Bf (Bb 10) (Bf (Bb 11) Ex))) (λ_ _ _=>CY) (λ_ _ _=>Do (Aa (AK (fw 7) (fw 10)) (Aa (AK (fw 7) (fw 11)) Ac)))) Ac)) Ac)) (Ae _))))))))))
def Hj(T:Txt K mg af):hE P w K mg base af 5 17 tV (eM K lH 1):=BY T.t_17 Bo λ_ _ _ _ _ _ v=>Ak (Dp (by rfl) (EC (by rfl) T.n_range (AZ Aj (CB (by rfl) T.n_len (Aa (Pt (fw 0) Aj Aj) Ac)))) (Am 1 Bo.nd) (Ak (AA (Az [true,true] T.t_7 (JR T) v (Aa (fw 0) (Aa (fw 1) Ac))) (Am 2 Bo.nd))
  (Ak (AA (Az [true,true] T.t_9 (JQ T) v (Aa (fw 2) (Aa (AZ Aj (Az [true,true] T.t_8 (AC T) v (Aa (fw 2) (Aa Aj Ac)))) Ac))) (Am 3 Bo.nd))
  (Ak (Kw (i:=4) (j:=5) (by rfl) Bo.nd (by rfl) (by rfl) ⋯ ⋯ ⋯ (by rfl) (by rfl) (Aa (Az [true,true,true] T.t_10 (DZ T) v (Aa (fw 2) (Aa (fw 3) (Aa Aj Ac)))) (Aa (Az [true,true,true] T.t_10 (DZ T) v (Aa (fw 2) (Aa (fw 3) (Aa Aj Ac)))) Ac)))
  (Ak (AA (BV (Az [true,true,true,true,true] T.t_11 (Hq T) v (Aa (fw 2) (Aa (fw 3) (Aa (AZ (fw 4) (fw 5)) (Aa Aj (Aa Aj Ac))))))) (Am 6 Bo.nd))
  (Ak (AA (BV (Az [true,true,true,true] T.t_13 (Hn T) v (Aa (fw 2) (Aa (fw 3) (Aa Aj (Aa Aj Ac)))))) (Am 7 Bo.nd))
  (Aw (CW (HA (HE (Az [true,true,true,true,true] T.t_16 (Hk T) v (Aa (fw 2) (Aa (fw 6) (Aa (fw 7) (Aa (fw 4) (Aa (fw 5) Ac)))))))) (Aw (AU DF)) Dm))))))))
  (Aw (AU DF))
end
theorem all_mk{l:W.OpenLaw}{w:World}{K:W.Frag}{h:Heap}{mg:Str->Option Value}{fa:Addr}(X:K.In h)(G:h.Ns mainGlobals mg)(hfa:mg "law"=some (.ref fa))
  {f_0 f_1 f_2 f_3 f_4 f_5 f_6 f_7 f_8 f_9 f_10 f_11 f_12 f_13 f_14 f_15 f_16 f_17:Addr}
  (h_0:Lk K "table" cw f_0)
  (h_1:Lk K "ends_by_begin" cv f_1)
  (h_2:Lk K "over" cu f_2)
  (h_3:Lk K "board_tables" cq f_3)
  (h_4:Lk K "walk" cp f_4)
  (h_5:Lk K "rooms_leading" cn f_5)
  (h_6:Lk K "next_rooms" ck f_6)
  (h_7:Lk K "_law_box" cj f_7)
  (h_8:Lk K "_law_take" cg f_8)
  (h_9:Lk K "_law_colours" cf f_9)
  (h_10:Lk K "_law_word" tJ f_10)
  (h_11:Lk K "_law_chart" tI f_11)
  (h_12:Lk K "_law_near" tH f_12)
  (h_13:Lk K "_law_board" tG f_13)
  (h_14:Lk K "_law_order" tF f_14)
  (h_15:Lk K "_law_walked" tE f_15)
  (h_16:Lk K "_law_right" tB f_16)
  (h_17:Lk K "law" sZ f_17)
  (z_all:W.nsIn K mainGlobals "all"=some none)
  (z_enumerate:W.nsIn K mainGlobals "enumerate"=some none)
  (z_int:W.nsIn K mainGlobals "int"=some none)
  (z_len:W.nsIn K mainGlobals "len"=some none)
  (z_list:W.nsIn K mainGlobals "list"=some none)
  (z_min:W.nsIn K mainGlobals "min"=some none)
  (z_range:W.nsIn K mainGlobals "range"=some none)
  (z_reversed:W.nsIn K mainGlobals "reversed"=some none)
  (z_set:W.nsIn K mainGlobals "set"=some none)
  (z_sorted:W.nsIn K mainGlobals "sorted"=some none)
  (z_tuple:W.nsIn K mainGlobals "tuple"=some none):
  ∃fd:FuncData,(∀(s:Shared)(v:Value),BindsTo s fd #[[v],[]] [("_law_script",v)])/\∀base:Heap,K.In base->base.Ns mainGlobals mg->eY l.prog w K mg base (iN l.prog w) 5 fa fd ["_law_script"] (eM K lH 1):=by
 let e:=hfa.symm.trans (h_17.mm X G);cases e;let T:Txt K mg (λn=>[f_0,f_1,f_2,f_3,f_4,f_5,f_6,f_7,f_8,f_9,f_10,f_11,f_12,f_13,f_14,f_15,f_16,fa].getD n 0):=#[h_0.tx X G,h_1.tx X G,h_2.tx X G,h_3.tx X G,h_4.tx X G,h_5.tx X G,h_6.tx X G,h_7.tx X G,h_8.tx X G,h_9.tx X G,h_10.tx X G,h_11.tx X G,h_12.tx X G,h_13.tx X G,h_14.tx X G,h_15.tx X G,h_16.tx X G,h_17.tx X G,W.mg_none_of X G z_all,W.mg_none_of X G z_enumerate,W.mg_none_of X G z_int,W.mg_none_of X G z_len,W.mg_none_of X G z_list,W.mg_none_of X G z_min,W.mg_none_of X G z_range,W.mg_none_of X G z_reversed,W.mg_none_of X G z_set,W.mg_none_of X G z_sorted,W.mg_none_of X G z_tuple]
 show#[_,λs v=>h_17.bt s v,λbase _ _=>Hj T]
theorem walk{l:W.OpenLaw}{q:Program}{v:List Str}{Y:(Str->Option Value)->Heap->Prop}{G:World->Heap->Prop}{d:DefRec}{K:Params->W.Frag}(hn:l.most=some 63)(z:d.params.defaults=[])
  (M:∀(w:World)(h:Heap),G w h->(K w.params).In h)
  (F:∀(w:World)(mg:Str->Option Value)(B:Addr)(h:Heap),(K w.params).In h->h.Ns mainGlobals mg->mg d.name=some (.ref B)->
   ∃fd:FuncData,(∀(s:Shared)(u:Value),BindsTo s fd #[[u],[]] [("_law_script",u)])/\∀base:Heap,(K w.params).In base->base.Ns mainGlobals mg->eY l.prog w (K w.params) mg base (iN l.prog w) 5 B fd ["_law_script"] (eM (K w.params) lH 1)):
  W.WalkO q v Y G l.row.toRowW d [] (λf vs=>PySem.call f vs):=
 L2.walk_of (n:=63) (k:=5) (x:="_law_script") (CX:=λw=>iN l.prog w) (sp:=λw=>eM (K w.params) lH 1) hn ⋯ z #[rfl,⋯,⋯,rfl] M F (λ_ H a J L _ O=>OB DW H a J L O) λ_ _ _ _ _ h=>(show False from h).elim
end Law
end
end
open PySem PySem.W PyProof.Rows
namespace PySem.W.Fast
def tw1020596559006178263:=0
def tw13336714212230066514:=0
def tw6812723253507222646:=0
def tw8546622805875634582:=0
def tw4242710345653104765:=0
def tw15484367570749306694:=0
def tw5422317063019954742:=0
def tw3509739991582905682:=0
def tw5637268794344611335:=0
def tw14946463113400963930:=0
def tw5279208861688905871:=0
def tw15281060095934487619:=0
def tw9878978202942858095:=0
def tw15415888575367037295:=0
def tw14175166736882723499:=0
def tw624178396101142067:=0
def tw14868646717568076770:=0
def tw3909526537452808610:=0
def tw3258744114600228879:=0
def tw1980737745531844335:=0
def tw17159422998388345393:=0
def tw5772488445320272135:=0
def tw5511216946888917018:=0
def tw16760494715225609052:=0
def tw9949668972759347649:=0
def tw9594718506472945617:=0
def tw1834823429618197473:=0
def tw6250420135719546715:=0
def tw13655595208196112162:=0
def tw16622257797400289630:=0
def tw10381446025841700907:=0
def tw1302157754904877516:=0
def tw8699137446825698792:=0
def tw11810715695311767082:=0
def tw2220766728992681803:=0
def tw5795532854173974672:=0
def tw8597680596245337050:=0
def tw17224041164541894044:=0
def tw4685093488262338932:=0
def tw5973420818758025416:=0
def tw1364763612625708398:=0
def tw4317229539718518188:=0
def tw17222069666171663386:=0
def tw6121726382672578227:=0
def tw1268414881221209765:=0
def tw8493921172671185984:=0
def tw17122674619370291609:=0
def tw15654445339451777628:=0
def tw16571557665580476807:=0
def tw14974987563855629759:=0
def tw9261220558091571626:=0
def tw15659784660888486439:=0
def tw7715681453144237698:=0
def tw1436094336380481189:=0
def tw17884985032662761472:=0
def tw14558732166483555138:=0
def tw11246316017417680417:=0
def tw11739968851379208791:=0
def tw14173344388328674535:=0
def tw15484111201459457957:=0
def tw1816812003723675935:=0
def tw17635613933928385156:=0
def tw17798656077394612927:=0
def tw4991781998991117517:=0
def tw14641109120799772345:=0
def tw3277693751219382743:=0
def tw10785577972768666076:=0
def tw7784332452340305455:=0
def tw10171169922141554583:=0
def tw10113312460140132451:=0
def tw2308482070955691217:=0
def tw3778630121788860658:=0
def tw1022978247946115347:=0
def tw14481194463572282199:=0
def tw4366873268634283002:=0
def tw9184305382183533471:=0
def tw18302645065652403228:=0
def tw4734265878047587690:=0
def tw12750016131837310429:=0
end PySem.W.Fast
set_option maxRecDepth 100000 in
set_option maxHeartbeats 0 in
theorem PySem.Challenge.cw_walktold_k15_whole_words_joined_holds : PySem.Challenge.rw_walktold_k15_whole_words_joined.Holds := by
 w_on; o_law; k_head; (case hw=>w_witness2)
 k_fill
 refine Law.walk (l:=PySem.Challenge.rw_walktold_k15_whole_words_joined) rfl rfl (fun w h Y=>PySem.W.kIn_of Y) ?F
 case F=>
  intro w mg fa h KX G hmg
  refine' Law.all_mk KX G hmg ..
  all_goals try first | k_is | (refine' ⟨?_,?_,?_,?_⟩ <;> try k_is)
