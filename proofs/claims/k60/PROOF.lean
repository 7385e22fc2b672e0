import PyProof.Rows.All
import Wide.All
import OpenK.AllK
import Wide.FinOn
import PySem.Challenge.RW_walktold_k60_ends_of_words
set_option Elab.async false
set_option linter.all false
set_option maxRecDepth 100000
set_option compiler.extract_closed false
set_option bootstrap.genMatcherCode false
open Array (forIn_toList getD_eq_getD_getElem? getElem?_eq_getElem getElem?_toList getElem_mem_toList getElem_toList length_toList mem_toList_iff toArray_toList toList_append)
open Bool (and_eq_true false_eq_true or_eq_true)
open Int (toNat_natCast)
open List (all_cons all_eq_true any_cons any_eq_true append_assoc append_nil append_of_mem cons_append countP_cons drop_zero ext_getElem? filterMap_append filterMap_cons filter_congr filter_eq_nil_iff filter_sublist find?_cons flatMap_append flatMap_def foldl_cons forIn_cons forIn_nil getElem?_append_left getElem?_append_right getElem?_eq_none getElem?_map getElem?_set getElem?_set_ne getElem?_set_self getElem_mem getElem_of_mem isEmpty_nil length_append length_cons length_drop length_eq_zero_iff length_filter_le length_map length_nil length_pos_iff length_range length_set length_singleton length_take lookup_cons lt_asymm map_append map_congr_left map_cons map_eq_nil_iff map_id map_map map_nil map_set mem_append mem_cons mem_cons_self mem_filter mem_filterMap mem_flatMap mem_map mem_of_getElem? mem_range mem_singleton nil_append nodup_append nodup_cons nodup_nil nodup_range not_mem_nil of_mem_zip pairwise_cons pairwise_lt_range pairwise_map perm_append_comm perm_ext_iff_of_nodup perm_middle set_comm size_toArray sum_cons take_append_drop take_nil take_of_length_le take_zero zipIdx_cons zipIdx_nil)
open Nat (le_add_right le_of_lt le_refl le_succ le_trans lt_irrefl lt_of_lt_of_le lt_or_ge lt_succ_of_lt lt_succ_self lt_trans mod_lt mul_le_mul ne_of_gt ne_of_lt not_lt sub_self zero_add zero_le)
open Option (getD_some isSome_iff_exists isSome_map isSome_some map_eq_some_iff map_some none_or some_or toList_none)
def qa:=@PySem.wpAny_bind
def qb:=@PySem.wpAny_pure
def qc:=@PySem.Heap.get?_push_of_some
def qd:=@PySem.Heap.get?_push_size
def qe:=@PySem.Heap.lt_size
def qg.{u}:=@Option.some.inj.{u}
def qh.{u}:=@List.getElem?_eq_some_iff.{u}
def qi.{u}:=@List.getElem?_eq_getElem.{u}
def qj.{u}:=@List.mem_append_right.{u}
def qk.{u}:=@List.mem_append_left.{u}
def qm.{u}:=@List.mem_cons_of_mem.{u}
def qo.{u}:=@List.mem_cons_self.{u}
def qp:=@List.length_map
def qq:=@List.append_assoc
def qr:=@List.length_append
def qt:=@List.size_toArray
def qu:=@List.length_cons
def qv:=@List.mem_singleton
def qw:=@List.length_nil
def qy:=@List.nodup_append
def qz:=@List.mem_append
def qA:=@List.map_cons
def qB:=@List.append_nil
def qC:=@List.mem_cons
def qD:=@List.length_singleton
def qE:=@List.length_range
def qF:=@List.map_map
def qG:=@List.getElem?_map
def qH:=@List.length_drop
def qI:=@List.length_take
def qJ:=@List.all_eq_true
def qK:=@List.mem_range
def qL:=@List.mem_map
def qM:=@List.nodup_cons
def qN:=@List.mem_of_getElem?
def qO:=@List.perm_append_comm
def qP:=@List.cons_append
def qQ:=@List.length_pos_iff
def qR:=@List.getElem?_eq_none
def qS:=@decide_eq_true
def qT:=@decide_eq_false
def qU:=@decide_eq_true_eq
def qV:=@of_decide_eq_true
def qW:=@Array.length_toList
def qX:=@Int.toNat_natCast
def qY:=Bool.false_ne_true
def qZ:=@Option.map_eq_some_iff
def q5:=@Array.getElem?_toList
def q8:=@if_pos
def q9:=@if_neg
def zc:=@Nat.le_refl
def zi:=@PySem.Heap.get?_update_other
def zj:=@PySem.Heap.get?_update_self
def zk:=@PySem.wpAny_field
def zm:=@PySem.wpAny_newObj_type
def zo:=@PySem.wpAny_call_entry
def zp:=@PySem.sizeLine_eq
def zr:=@PySem.wpAny_setField_rec
def zt:=@PySem.wpAny_holding
def zu:=@PySem.wpAny_of_eq
def zv:=@PySem.wpAny_mono
abbrev zw:=PySem.Value->PySem.Shared->Prop
noncomputable section
namespace ST
open PySem PySem.SetTable
def Rising(xs:Array Nat):Prop:=∀i j(hi:i<xs.size)(hj:j<xs.size),i<j->xs[i]<xs[j]
def Ac{xs:Array Nat}(h:i<xs.size):xs.getD i d=xs[i]:=by simp[Array.getD,h]
def yZ(hr:Rising xs):∀(fuel lo hi:Nat),hi<=xs.size->lo<=hi->hi-lo<=fuel->(∀i(h:i<xs.size),i<lo->xs[i]<j)->(∀i(h:i<xs.size),hi<=i->j<=xs[i])->
  below.go xs j fuel lo hi<=xs.size/\(∀i(h:i<xs.size),i<below.go xs j fuel lo hi->xs[i]<j)/\∀i(h:i<xs.size),below.go xs j fuel lo hi<=i->j<=xs[i]:=by
 intro fuel;induction fuel with
 |zero=>
  intro lo hi h1 h2 h3 h4 h5;have:lo=hi:=by lia
  subst this;exact⟨by show lo<=_;lia,λi h hl=>h4 i h hl,λi h hl=>h5 i h hl⟩
 |succ fuel ih=>
  intro lo hi h1 h2 h3 h4 h5;unfold below.go;by_cases hlt:lo<hi
  .rw[q8 hlt];have hm:(lo+hi)/2<xs.size:=by lia
   dsimp only;rw[Ac hm];by_cases hc:xs[(lo+hi)/2]<j
   .rw[q8 hc];refine ih _ _ h1 (by lia) (by lia) (λi h hl=>?_) h5;by_cases he:i=(lo+hi)/2
    .subst he;exact hc
    .have:=hr i ((lo+hi)/2) h hm (by lia);lia
   .rw[q9 hc];refine ih _ _ (by lia) (by lia) (by lia) h4 λi h hl=>?_;by_cases he:i=(lo+hi)/2
    .subst he;lia
    .have:=hr ((lo+hi)/2) i hm h (by lia);lia
  .rw[q9 hlt];have:lo=hi:=by lia
   subst this;exact⟨by lia,λi h hl=>h4 i h hl,λi h hl=>h5 i h hl⟩
def dA(hr:Rising xs):below xs j<=xs.size/\(∀i(h:i<xs.size),i<below xs j->xs[i]<j)/\∀i(h:i<xs.size),below xs j<=i->j<=xs[i]:=
 yZ hr xs.size 0 xs.size (zc _) (zero_le _) (by lia) (λi h hl=>by lia) λi h hl=>by lia
def vI(hr:Rising xs)(h:i<xs.size)(e:xs[i]=j):below xs j=i:=by
 obtain⟨h1,h2,h3⟩:=dA (j:=j) hr;rcases Nat.lt_trichotomy (below xs j) i with hl|hl|hl
 .have h4:=h3 (below xs j) (by lia) (zc _);have:=hr (below xs j) i (by lia) h hl;lia
 .exact hl
 .have:=h2 i h hl;lia
def jN{t:SetTable}(hr:Rising t.place)(h:i<t.place.size)(e:t.place[i]=j):t.slot j=.live i:=by
 unfold slot;dsimp only;rw[vI hr h e];have:t.place[i]?=some j:=by rw[getElem?_eq_getElem h,e]
 rw[this];simp
def jO{t:SetTable}(hd:t.dummies=#[])(h:∀i(hi:i<t.place.size),t.place[i]≠j):t.slot j=.empty:=by
 unfold slot;dsimp only;have h1:(t.place[below t.place j]?==some j)=false:=by
  cases q:t.place[below t.place j]? with
  |none=>rfl
  |some v=>obtain⟨hi,e⟩:=Array.getElem?_eq_some_iff.mp q;have:=h _ hi;rw[e]at this;simpa using this
 rw[h1,hd];rfl
def bY{t:SetTable}(hr:Rising t.place)(hd:t.dummies=#[])(j:Nat):(t.slot j=.empty/\∀i(hi:i<t.place.size),t.place[i]≠j)\/∃i,∃hi:i<t.place.size,t.place[i]=j/\t.slot j=.live i:=by
 by_cases h:∃i,∃hi:i<t.place.size,t.place[i]=j
 .obtain⟨i,hi,e⟩:=h;exact .inr ⟨i,hi,e,jN hr hi e⟩
 .have h':∀i(hi:i<t.place.size),t.place[i]≠j:=λi hi e=>h ⟨i,hi,e⟩;exact .inl ⟨jO hd h',h'⟩
def aD(t:SetTable)(p:Probe):Nat->Probe
 |0=>p
 |n+1=>aD t (t.advance p) n
def fZ(t:SetTable):∀(n:Nat)(p:Probe),aD t p (n+1)=t.advance (aD t p n)
 |0,_=>rfl
 |n+1,p=>fZ t n (t.advance p)
def aZ(t:SetTable):∀(m n:Nat)(p:Probe),aD t p (m+n)=aD t (aD t p m) n
 |0,n,p=>by rw[zero_add];rfl
 |m+1,n,p=>by rw[Nat.add_right_comm];exact aZ t m n (t.advance p)
def uC(hr:Rising t.place)(hd:t.dummies=#[]):∀(fuel n:Nat)(p:Probe),p.dummy=none->t.slot (aD t p n).j=.empty->(∀m,m<n->t.slot (aD t p m).j≠.empty)->n<fuel->
  (probe.go t hashAt h fuel p=some (.empty (aD t p n).j none)/\∀m,m<n->∀i,t.slot (aD t p m).j=.live i->hashAt i≠h)\/
  ∃m i,m<n/\t.slot (aD t p m).j=.live i/\hashAt i=h/\probe.go t hashAt h fuel p=some (.candidate (aD t p m).j i (aD t p (m+1)))/\∀m',m'<m->∀i',t.slot (aD t p m').j=.live i'->hashAt i'≠h:=by
 intro fuel;induction fuel with
 |zero=>intro n p _ _ _ h;lia
 |succ fuel ih=>
  intro n p hdm he hne hf;cases n with
  |zero=>refine .inl ⟨?_,λm hm=>by lia⟩;unfold probe.go;have he':t.slot p.j=.empty:=he;rw[he'];show some (Met.empty p.j p.dummy)=_;rw[hdm];rfl
  |succ n=>
   rcases bY hr hd p.j with⟨hemp,_⟩|⟨i,hi,ei,hl⟩
   .exact absurd hemp (hne 0 (by lia))
   .by_cases hh:hashAt i=h
    .refine .inr ⟨0,i,by lia,hl,hh,?_,λm' hm'=>by lia⟩;unfold probe.go;rw[hl];show(if(hashAt i==h)=true then _ else _)=_;rw[q8 (by rw[hh];simp)];rfl
    .have hgo:probe.go t hashAt h (fuel+1) p=probe.go t hashAt h fuel (t.advance p):=by
      conv=>lhs;unfold probe.go
      grind
     have hadm:(t.advance p).dummy=none:=by
      unfold advance;split
      .exact hdm
      .exact hdm
     rcases ih n (t.advance p) hadm he (λm hm=>hne (m+1) (by lia)) (by lia)with⟨h1,h2⟩|⟨m,i',hm,h1,h2,h3,h4⟩
     .refine .inl ⟨by rw[hgo,h1];rfl,λm hm i' hl'=>?_⟩;cases m with
      |zero=>have:t.slot p.j=.live i':=hl';rw[hl]at this;cases this;exact hh
      |succ m=>exact h2 m (by lia) i' hl'
     .refine .inr ⟨m+1,i',by lia,h1,h2,by rw[hgo,h3];rfl,λm' hm' i'' hl'=>?_⟩;cases m' with
      |zero=>have:t.slot p.j=.live i'':=hl';rw[hl]at this;cases this;exact hh
      |succ m'=>exact h4 m' (by lia) i'' hl'
def bF(mask:Nat)(b:Nat):Nat->Nat×Nat
 |0=>(b %(mask+1),b)
 |k+1=>leap mask (bF mask b k).1 (bF mask b k).2
def aY(mask:Nat)(p:Nat×Nat):Probe:={j:=p.1,more:=runEnd mask p.1-p.1,i:=p.1,perturb:=p.2,dummy:=none}
def xR(mask i:Nat):runEnd mask i-i<=9:=by unfold runEnd;split<;>lia
def iJ:∀m,m<=runEnd t.mask p.1-p.1->aD t (aY t.mask p) m={aY t.mask p with j:=p.1+m,more:=runEnd t.mask p.1-p.1-m}
 |0,_=>rfl
 |m+1,h=>by rw[fZ,iJ m (by lia)];unfold advance;rw[q8 (by show runEnd t.mask p.1-p.1-m>0;lia)];rfl
def jR:aD t (aY t.mask p) (runEnd t.mask p.1-p.1+1)=aY t.mask (leap t.mask p.1 p.2):=by rw[fZ,iJ _ (zc _)];unfold advance;rw[q9 (by show¬(runEnd t.mask p.1-p.1-(runEnd t.mask p.1-p.1)>0);lia)];rfl
def iK:∀k,∃n,n<=10*k/\aD t (t.probeStart h) n=aY t.mask (bF t.mask (bits h) k)
 |0=>⟨0,by lia,rfl⟩
 |k+1=>by obtain⟨n,hn,e⟩:=iK (t:=t) (h:=h) k;have:=xR t.mask (bF t.mask (bits h) k).1;refine⟨n+(runEnd t.mask (bF t.mask (bits h) k).1-(bF t.mask (bits h) k).1+1),by lia,?_⟩;rw[aZ,e,jR];rfl
def Ae(h:Int):bits h<2^64:=by unfold bits;grind
def iN(mask b:Nat):∀k,(bF mask b k).2=b/32^k
 |0=>by simp[bF]
 |k+1=>by show(bF mask b k).2/32=_;rw[iN mask b k,Nat.div_div_eq_div_mul,Nat.pow_succ]
def nC{mask:Nat}(hk:13<=k):(bF mask (bits h) k).2=0:=by
 rw[iN];refine Nat.div_eq_of_lt (lt_of_lt_of_le (Ae h) ?_)
 calc 2^64<=32^13:=by decide
  _<=32^k:=Nat.pow_le_pow_right (by decide) hk
def gR(M i:Nat):Nat:=(i*5+1) %M
def it(M:Nat):Nat->Nat->Nat
 |0,i=>i
 |k+1,i=>it M k (gR M i)
def iQ(M:Nat):∀a b i,it M (a+b) i=it M b (it M a i)
 |0,b,i=>by rw[zero_add];rfl
 |a+1,b,i=>by rw[Nat.add_right_comm];exact iQ M a b (gR M i)
def iO{mask:Nat}:∀k,(bF mask (bits h) (13+k)).1=it (mask+1) k (bF mask (bits h) 13).1
 |0=>rfl
 |k+1=>by rw[iQ (mask+1) k 1,<-iO k];show(leap mask (bF mask (bits h) (13+k)).1 (bF mask (bits h) (13+k)).2).1=_;rw[nC (by lia)];rfl
def hit(M e:Nat):Nat->Nat->Bool
 |0,_=>false
 |n+1,i=>bif Nat.beq i e then true else hit M e n (gR M i)
def nI:∀{n i:Nat},hit M e n i=true->∃k,k<n/\it M k i=e
 |0,_,h=>by cases h
 |n+1,i,h=>by
  unfold hit at h;cases q:Nat.beq i e with
  |true=>exact⟨0,by lia,Nat.eq_of_beq_eq_true q⟩
  |false=>rw[q]at h;obtain⟨k,hk,e'⟩:=nI (n:=n) h;exact⟨k+1,by lia,e'⟩
def bH(mask:Nat):Prop:=mask=7\/mask=15\/mask=31\/mask=63\/mask=127\/mask=255\/mask=511
def Aj{mask:Nat}(h:bH mask):(List.range (mask+1)).all (λe=>hit (mask+1) e (mask+1) 0)=true/\it (mask+1) (mask+1) 0=0:=by rcases h with rfl|rfl|rfl|rfl|rfl|rfl|rfl<;>exact⟨by decide+kernel,by decide+kernel⟩
def come{mask s e:Nat}(h:bH mask)(hs:s<=mask)(he:e<=mask):∃k,k<=mask/\it (mask+1) k s=e:=by
 obtain⟨h1,h2⟩:=Aj h;rw[qJ]at h1;obtain⟨a,ha,ea⟩:=nI (h1 s (qK.mpr (by lia)));obtain⟨b,hb,eb⟩:=nI (h1 e (qK.mpr (by lia)));by_cases hab:a<=b
 .exact⟨b-a,by lia,by rw[<-ea,<-iQ,show a+(b-a)=b by lia,eb]⟩
 .refine⟨mask+1-a+b,by lia,?_⟩;rw[<-ea,<-iQ,show a+(mask+1-a+b)=mask+1+b by lia,iQ,h2,eb]
def nA(hm:bH t.mask)(he:e<=t.mask):∃n,n<10*turns t.mask/\(aD t (t.probeStart h) n).j=e:=by
 have hs:(bF t.mask (bits h) 13).1<=t.mask:=by have:(bF t.mask (bits h) 13).1<t.mask+1:=mod_lt _ (by lia);lia
 obtain⟨k,hk,ek⟩:=come hm hs he;obtain⟨n,hn,en⟩:=iK (t:=t) (h:=h) (13+k);refine⟨n,by unfold turns;lia,?_⟩;rw[en];show(bF t.mask (bits h) (13+k)).1=e;rw[iO,ek]
def Ft{P:Nat->Prop}[DecidablePred P]:∀n,P n->∃m,m<=n/\P m/\∀k,k<m->¬P k:=by
 intro n;induction n using Nat.strongRecOn with
 |ind n ih=>
  intro hn;by_cases h:∃k,k<n/\P k
  .obtain⟨k,hk,hp⟩:=h;obtain⟨m,h1,h2,h3⟩:=ih k hk hp;exact⟨m,by lia,h2,h3⟩
  .exact⟨n,zc _,hn,λk hk hp=>h ⟨k,hk,hp⟩⟩
structure gW(t:SetTable)(hs:List Int):Prop where
 ris:Rising t.place
 dum:t.dummies=#[]
 mask:bH t.mask
 size:t.place.size=hs.length
 le:∀i(hi:i<t.place.size),t.place[i]<=t.mask
 few:hs.length<=t.mask
 reach:∀i(hi:i<t.place.size)(h:Int),hs[i]?=some h->∃n,(aD t (t.probeStart h) n).j=t.place[i]/\∀m,m<n->t.slot (aD t (t.probeStart h) m).j≠.empty
def AL:∀(l m:List Nat),l.Nodup->(∀x∈l,x∈m)->l.length<=m.length
 |[],m,_,_=>by simp
 |x::l,m,hn,hs=>by
  obtain⟨h1,h2⟩:=qM.mp hn;have hx:x∈m:=hs x (by simp);have:=AL l (m.erase x) h2 λy hy=>by refine(List.mem_erase_of_ne ?_).mpr (hs y (by simp[hy]));intro z;subst z;exact h1 hy
  rw[List.length_erase_of_mem hx]at this;have hp:=List.length_pos_of_mem hx;rw[qu];lia
def uD:∀(m:Nat)(l:List Nat),l.Nodup->(∀x∈l,x<m)->l.length<m->∃e,e<m/\e∉l:=by
 intro m l hn hx hl;by_cases h:∃e,e<m/\e∉l
 .exact h
 .exfalso;have:∀e∈List.range m,e∈l:=λe he=>by
   by_cases q:e∈l
   .exact q
   .exact absurd ⟨e,qK.mp he,q⟩ h
  have:=AL (List.range m) l nodup_range this;rw[qE]at this;lia
def gW.free(T:gW t hs)(h:Int):∃n,n<10*turns t.mask/\t.slot (aD t (t.probeStart h) n).j=.empty/\∀m,m<n->t.slot (aD t (t.probeStart h) m).j≠.empty:=by
 obtain⟨e,he,hne⟩:=uD (t.mask+1) t.place.toList (by
  rw[List.Nodup,List.pairwise_iff_getElem];intro i j hi hj hij;have:=T.ris i j (by simpa using hi) (by simpa using hj) hij;simp only[getElem_toList];lia) (λx hx=>by
   obtain⟨i,hi,e⟩:=getElem_of_mem hx;have:=T.le i (by simpa using hi);rw[getElem_toList]at e;lia) (by
   have:=T.few;have:=T.size;rw[qW];lia)
 obtain⟨n,hn,en⟩:=nA (h:=h) T.mask (show e<=t.mask by lia);have hemp:t.slot (aD t (t.probeStart h) n).j=.empty:=by rw[en];refine jO T.dum λi hi z=>hne ?_;rw[<-z];exact getElem_mem_toList hi
 obtain⟨m,h1,h2,h3⟩:=Ft (P:=λn=>t.slot (aD t (t.probeStart h) n).j=.empty) n hemp;exact⟨m,by lia,h2,h3⟩
def ris_list:Rising xs↔xs.toList.Pairwise (·<·):=by rw[List.pairwise_iff_getElem];first|rfl|assumption|(simp_all;done)
def iR(hr:Rising xs)(hn:∀i(hi:i<xs.size),xs[i]≠j):Rising (insertAt xs (below xs j) j):=by
 obtain⟨h1,h2,h3⟩:=dA (j:=j) hr;rw[ris_list,toList_insertAt];have hp:=ris_list.mp hr;rw[<-take_append_drop (below xs j) xs.toList]at hp;obtain⟨p1,p2,p3⟩:=List.pairwise_append.mp hp;refine List.pairwise_append.mpr ⟨p1,pairwise_cons.mpr ⟨λy hy=>?_,p2⟩,λx hx y hy=>?_⟩
 .obtain⟨i,hi,e⟩:=getElem_of_mem hy;rw[List.getElem_drop,getElem_toList]at e;have hi':below xs j+i<xs.size:=by simp at hi;lia
  have a:=h3 (below xs j+i) hi' (by lia);have b:=hn (below xs j+i) hi';lia
 .have hxj:x<j:=by
   obtain⟨i,hi,e⟩:=getElem_of_mem hx;rw[List.getElem_take,getElem_toList]at e;have hi':i<xs.size/\i<below xs j:=by simp at hi;lia
   have:=h2 i hi'.1 hi'.2;lia
  rcases qC.mp hy with rfl|hy
  .exact hxj
  .exact p3 x hx y hy
def mem_insert:x∈(insertAt xs p j).toList↔x=j\/x∈xs.toList:=by rw[toList_insertAt,qz,qC];grind[take_append_drop,mem_append]
def bQ(h:t'.mask=t.mask):∀(n:Nat)(p:Probe),aD t' p n=aD t p n
 |0,_=>rfl
 |n+1,p=>by
  have e:t'.advance p=t.advance p:=by unfold advance;rw[h]
  show aD t' (t'.advance p) n=aD t (t.advance p) n;rw[e,bQ h n]
def bM{t t':SetTable}(h:t'.mask=t.mask)(b:Int):t'.probeStart b=t.probeStart b:=by unfold probeStart;rw[h]
def iM{t:SetTable}(hr:Rising t.place)(hd:t.dummies=#[])(j:Nat):t.slot j≠.empty↔j∈t.place.toList:=by
 rcases bY hr hd j with⟨h,hn⟩|⟨i,hi,e,h⟩
 .refine⟨λz=>absurd h z,λhj=>?_⟩;obtain⟨i,hi,e⟩:=getElem_of_mem hj;rw[getElem_toList]at e;exact absurd e (hn i (by simpa using hi))
 .refine⟨λ_=>?_,λ_=>by rw[h];exact nofun⟩;rw[<-e];exact getElem_mem_toList hi
def eP{t:SetTable}(hd:t.dummies=#[]):(t.put j).1.place=insertAt t.place (below t.place j) j/\(t.put j).1.mask=t.mask/\(t.put j).1.dummies=#[]/\(t.put j).2=below t.place j:=by unfold put;dsimp only;refine⟨rfl,rfl,?_,rfl⟩;rw[hd];rfl
def gW.put(T:gW t hs)(he:t.slot (aD t (t.probeStart h) n).j=.empty)(hne:∀m,m<n->t.slot (aD t (t.probeStart h) m).j≠.empty)(hj:(aD t (t.probeStart h) n).j<=t.mask)(hf:hs.length+1<=t.mask):
  gW (t.put (aD t (t.probeStart h) n).j).1 (hs.take (t.put (aD t (t.probeStart h) n).j).2++h::hs.drop (t.put (aD t (t.probeStart h) n).j).2):=by
 generalize hjj:(aD t (t.probeStart h) n).j=j at*;have hnot:∀i(hi:i<t.place.size),t.place[i]≠j:=by
  rcases bY T.ris T.dum j with⟨_,hn⟩|⟨i,hi,e,hl⟩
  .exact hn
  .rw[hl]at he;cases he
 obtain⟨e1,e2,e3,e4⟩:=eP (t:=t) (j:=j) T.dum;have hris:=iR T.ris hnot;obtain⟨b1,b2,b3⟩:=dA (j:=j) T.ris;have hsz:(insertAt t.place (below t.place j) j).size=t.place.size+1:=by rw[<-qW,toList_insertAt,qr,qu,qI,qH,qW];lia
 have more:∀k,t.slot k≠.empty->(t.put j).1.slot k≠.empty:=λk hk=>by rw[iM (by rw[e1];exact hris) e3,e1,mem_insert];exact .inr ((iM T.ris T.dum k).mp hk)
 refine⟨by rw[e1];exact hris,e3,by rw[e2];exact T.mask,?_,λi hi=>?_,?_,λi hi g hg=>?_⟩
 .rw[e1,hsz,qr,qu,qI,qH,e4,T.size];have:=T.size;lia
 .have hm:(t.put j).1.place[i]∈(insertAt t.place (below t.place j) j).toList:=by rw[<-e1];exact getElem_mem_toList hi
  rw[e2];rcases mem_insert.mp hm with z|z
  .rw[z];exact hj
  .obtain⟨k,hk,e⟩:=getElem_of_mem z;rw[getElem_toList]at e;rw[<-e];exact T.le k (by simpa using hk)
 .rw[e2,qr,qu,qI,qH];lia
 .rw[e4]at hg;have hpl:(t.put j).1.place[i]?=(t.place.toList.take (below t.place j)++j::t.place.toList.drop (below t.place j))[i]?:=by rw[e1,<-q5,toList_insertAt]
  rw[getElem?_eq_getElem hi]at hpl;have hlt:(t.place.toList.take (below t.place j)).length=below t.place j:=by rw[qI,qW];lia
  have hlh:(hs.take (below t.place j)).length=below t.place j:=by have:=T.size;rw[qI];lia
  have old:∀k(hk:k<t.place.size),hs[k]?=some g->(t.put j).1.place[i]=t.place[k]->∃n,(aD (t.put j).1 ((t.put j).1.probeStart g) n).j=(t.put j).1.place[i]/\∀m,m<n->(t.put j).1.slot (aD (t.put j).1 ((t.put j).1.probeStart g) m).j≠.empty:=λk hk hg' e=>by obtain⟨n',a,b⟩:=T.reach k hk g hg';refine⟨n',by rw[bQ e2,bM e2,a,e],λm hm=>?_⟩;rw[bQ e2,bM e2];exact more _ (b m hm)
  rcases Nat.lt_trichotomy i (below t.place j)with hl|hl|hl
  .rw[getElem?_append_left (by rw[hlt];exact hl),List.getElem?_take_of_lt hl]at hpl;rw[getElem?_append_left (by rw[hlh];exact hl),List.getElem?_take_of_lt hl]at hg;have hk:i<t.place.size:=by lia
   rw[q5,getElem?_eq_getElem hk]at hpl;exact old i hk hg (qg hpl)
  .subst hl;rw[getElem?_append_right (by rw[hlt];exact zc _),hlt,sub_self,List.getElem?_cons_zero]at hpl;rw[getElem?_append_right (by rw[hlh];exact zc _),hlh,sub_self,List.getElem?_cons_zero]at hg;have eg:=qg hg;subst eg;refine⟨n,by rw[bQ e2,bM e2,hjj,qg hpl],λm hm=>?_⟩;rw[bQ e2,bM e2];exact more _ (hne m hm)
  .obtain⟨k,rfl⟩:∃k,i=k+1:=⟨i-1,by lia⟩
   rw[getElem?_append_right (by rw[hlt];lia),hlt,show k+1-below t.place j=(k-below t.place j)+1 by lia,List.getElem?_cons_succ,List.getElem?_drop,show below t.place j+(k-below t.place j)=k by lia]at hpl;rw[getElem?_append_right (by rw[hlh];lia),hlh,show k+1-below t.place j=(k-below t.place j)+1 by lia,List.getElem?_cons_succ,List.getElem?_drop,show below t.place j+(k-below t.place j)=k by lia]at hg;have hk:k<t.place.size:=by have:=hi;simp only[e1,hsz]at this;lia
   rw[q5,getElem?_eq_getElem hk]at hpl;exact old k hk hg (qg hpl)
def eN(o:Array (Option Nat))(j:Nat):Bool:=(o.getD j (some 0)).isNone
def bare(mask:Nat):SetTable:={fresh 0 0 true with mask:=mask}
def rO{mask:Nat}:∀(fuel:Nat)(p:Nat×Nat)(K:Nat),K<fuel->(∃q,eN o q.1=true/\q=(Nat.repeat (λx:Nat×Nat=>leap mask x.1 x.2) K p))->
  ∃j n,layClean.free mask o fuel p.1 p.2=some j/\(aD (bare mask) (aY mask p) n).j=j/\eN o j=true/\∀m,m<n->eN o (aD (bare mask) (aY mask p) m).j=false:=by
 intro fuel;induction fuel with
 |zero=>intro p K h;lia
 |succ fuel ih=>
  intro p K hK hq;have run:∀m,m<=runEnd mask p.1-p.1->(aD (bare mask) (aY mask p) m).j=p.1+m:=λm hm=>by have:=iJ (t:=bare mask) (p:=p) m hm;have e:(aD (bare mask) (aY mask p) m).j=({aY mask p with j:=p.1+m,more:=runEnd mask p.1-p.1-m}:Probe).j:=congrArg Probe.j this;exact e
  have hre:p.1<=runEnd mask p.1:=by unfold runEnd;split<;>lia
  unfold layClean.free;cases hf:(List.range (runEnd mask p.1+1-p.1)).find? (λk=>(o.getD (p.1+k) (some 0)).isNone)with
  |some k=>rw[List.find?_range_eq_some]at hf;obtain⟨h1,h2,h3⟩:=hf;rw[qK]at h2;refine⟨p.1+k,k,rfl,run k (by lia),h1,λm hm=>?_⟩;rw[run m (by lia)];have:=h3 m hm;simpa[eN] using this
  |none=>
   rw[List.find?_range_eq_none]at hf;have hall:∀m,m<=runEnd mask p.1-p.1->eN o (aD (bare mask) (aY mask p) m).j=false:=λm hm=>by rw[run m hm];have:=hf m (by lia);simpa[eN] using this
   cases K with
   |zero=>obtain⟨q,h1,h2⟩:=hq;have h3:q=p:=h2;have:=hall 0 (by lia);have e:(aD (bare mask) (aY mask p) 0).j=p.1:=rfl;rw[e,<-h3,h1]at this;cases this
   |succ K=>
    obtain⟨q,h1,h2⟩:=hq;have rep:∀(K:Nat)(p:Nat×Nat),Nat.repeat (λx:Nat×Nat=>leap mask x.1 x.2) (K+1) p=Nat.repeat (λx:Nat×Nat=>leap mask x.1 x.2) K (leap mask p.1 p.2):=by
     intro K;induction K with
     |zero=>intro p;rfl
     |succ K ih=>intro p;show leap mask (Nat.repeat (λx:Nat×Nat=>leap mask x.1 x.2) (K+1) p).1 (Nat.repeat (λx:Nat×Nat=>leap mask x.1 x.2) (K+1) p).2=leap mask (Nat.repeat (λx:Nat×Nat=>leap mask x.1 x.2) K (leap mask p.1 p.2)).1 (Nat.repeat (λx:Nat×Nat=>leap mask x.1 x.2) K (leap mask p.1 p.2)).2;rw[ih p]
    obtain⟨j,n,a1,a2,a3,a4⟩:=ih (leap mask p.1 p.2) K (by lia) ⟨q,h1,by rw[h2,rep]⟩;have pl:=jR (t:=bare mask) (p:=p);have pl':aD (bare mask) (aY mask p) (runEnd mask p.1-p.1+1)=aY mask (leap mask p.1 p.2):=pl;refine⟨j,runEnd mask p.1-p.1+1+n,a1,by rw[aZ,pl'];exact a2,a3,λm hm=>?_⟩;by_cases hm2:m<=runEnd mask p.1-p.1
    .exact hall m hm2
    .obtain⟨k,rfl⟩:∃k,m=runEnd mask p.1-p.1+1+k:=⟨m-(runEnd mask p.1-p.1+1),by lia⟩
     rw[aZ,pl'];exact a4 k (by lia)
def jU(mask b:Nat):∀k,bF mask b k=Nat.repeat (λx:Nat×Nat=>leap mask x.1 x.2) k (b %(mask+1),b)
 |0=>rfl
 |k+1=>by show leap mask (bF mask b k).1 (bF mask b k).2=_;rw[jU mask b k];rfl
structure vO(mask:Nat)(o:Array (Option Nat))(hs:List Int)(ps:List Nat):Prop where
 size:o.size=mask+1
 len:ps.length=hs.length
 nd:ps.Nodup
 le:∀j∈ps,j<=mask
 own:∀(j i:Nat),o.getD j none=some i↔ps[i]?=some j
 reach:∀(i:Nat)(h:Int)(j:Nat),hs[i]?=some h->ps[i]?=some j->∃n,(aD (bare mask) ((bare mask).probeStart h) n).j=j/\∀m,m<n->(aD (bare mask) ((bare mask).probeStart h) m).j∈ps
def iS{mask:Nat}(O:vO mask o hs ps)(hj:j<=mask):eN o j=true↔j∉ps:=by
 have hlt:j<o.size:=by rw[O.size];lia
 unfold eN;have e1:o.getD j (some 0)=o[j]:=by simp[Array.getD,hlt]
 have e2:o.getD j none=o[j]:=by simp[Array.getD,hlt]
 rw[e1];constructor
 .intro h hm;obtain⟨i,hi,e⟩:=getElem_of_mem hm;have:=(O.own j i).mpr (by rw[qi hi,e]);rw[e2]at this;rw[this]at h;cases h
 .intro hn;cases q:o[j]with
  |none=>rfl
  |some i=>have:=(O.own j i).mp (by rw[e2,q]);exact absurd (qN this) hn
def kM(hm:bH t.mask):∀n,(aD t (t.probeStart h) n).j<=t.mask:=by
 have gen:∀n(p:Probe),(p.j+p.more<=t.mask)->(aD t p n).j+(aD t p n).more<=t.mask:=by
  intro n;induction n with
  |zero=>intro p hp;exact hp
  |succ n ih=>
   intro p hp;refine ih (t.advance p) ?_;unfold advance;split
   .show p.j+1+(p.more-1)<=t.mask;lia
   .have hi:(p.i*5+1+p.perturb/32) %(t.mask+1)<=t.mask:=by have:=mod_lt (p.i*5+1+p.perturb/32) (show 0<t.mask+1 by lia);lia
    show(p.i*5+1+p.perturb/32) %(t.mask+1)+(runEnd t.mask ((p.i*5+1+p.perturb/32) %(t.mask+1))-(p.i*5+1+p.perturb/32) %(t.mask+1))<=t.mask;generalize (p.i*5+1+p.perturb/32) %(t.mask+1)=x at hi;unfold runEnd;split<;>lia
 intro n;have:=gen n (t.probeStart h) (by
  unfold probeStart;have hi:bits h %(t.mask+1)<=t.mask:=by have:=mod_lt (bits h) (show 0<t.mask+1 by lia);lia
  show bits h %(t.mask+1)+(runEnd t.mask (bits h %(t.mask+1))-bits h %(t.mask+1))<=t.mask;generalize bits h %(t.mask+1)=x at hi;unfold runEnd;split<;>lia)
 lia
def vO.step{mask:Nat}(hmk:bH mask)(O:vO mask o hs ps)(hf:hs.length<mask+1):
  ∃j,layClean.free mask o (turns mask) (bits h %(mask+1)) (bits h)=some j/\vO mask (o.setIfInBounds j (some hs.length)) (hs++[h]) (ps++[j]):=by
 obtain⟨e,he,hne⟩:=uD (mask+1) ps O.nd (λx hx=>by have:=O.le x hx;lia) (by rw[O.len];exact hf);have hs0:(bF mask (bits h) 13).1<=mask:=by have:(bF mask (bits h) 13).1<mask+1:=mod_lt _ (by lia);lia
 obtain⟨k,hk,ek⟩:=come hmk hs0 (show e<=mask by lia);obtain⟨j,n,a1,a2,a3,a4⟩:=rO (o:=o) (turns mask) (bits h %(mask+1),bits h) (13+k) (by unfold turns;lia) ⟨bF mask (bits h) (13+k),by rw[iO,ek];exact(iS O (by lia)).mpr hne,jU _ _ _⟩;have hst:aY mask (bits h %(mask+1),bits h)=(bare mask).probeStart h:=rfl;rw[hst]at a2 a4;have hjm:j<=mask:=by rw[<-a2];exact kM (t:=bare mask) hmk n
 have hjn:j∉ps:=(iS O hjm).mp a3;have hlt:j<o.size:=by rw[O.size];lia
 refine⟨j,a1,?_,?_,?_,?_,?_,?_⟩
 .rw[Array.size_setIfInBounds,O.size]
 .rw[qr,qr,O.len];rfl
 .refine qy.mpr ⟨O.nd,by simp,λa ha b hb e=>?_⟩;rw[qv.mp hb]at e;exact hjn (e▸ha)
 .intro x hx;rcases qz.mp hx with z|z
  .exact O.le x z
  .rw[qv.mp z];exact hjm
 .intro x i;have hg:(o.setIfInBounds j (some hs.length)).getD x none=if x=j then some hs.length else o.getD x none:=by
   simp only[getD_eq_getD_getElem?,Array.getElem?_setIfInBounds];by_cases hx:j=x
   .subst hx;simp[hlt]
   .rw[q9 hx,q9 (Ne.symm hx)]
  rw[hg];by_cases hx:x=j
  .subst hx;rw[q8 rfl];constructor
   .intro z;have:=qg z;subst this;rw[<-O.len,getElem?_append_right (zc _),sub_self];rfl
   .intro z;by_cases hi:i<ps.length
    .rw[getElem?_append_left hi]at z;exact absurd (qN z) hjn
    .have hil:=(qh.mp z).1;rw[qr,qD]at hil;rw[show i=hs.length by rw[<-O.len];lia]
  .rw[q9 hx,O.own x i];by_cases hi:i<ps.length
   .rw[getElem?_append_left hi]
   .rw[qR (by lia)];constructor
    .intro z;cases z
    .intro z;rw[getElem?_append_right (by lia)]at z;have:i-ps.length=0:=by have:=(qh.mp z).1;simp at this;lia
     rw[this]at z;exact absurd (qg z).symm hx
 .intro i g x hg hx;by_cases hi:i<ps.length
  .rw[getElem?_append_left hi]at hx;rw[getElem?_append_left (by rw[<-O.len];exact hi)]at hg;obtain⟨n',b1,b2⟩:=O.reach i g x hg hx;exact⟨n',b1,λm hm=>qk _ (b2 m hm)⟩
  .have hil:=(qh.mp hx).1;rw[qr,qD]at hil;have hie:i=ps.length:=by lia
   subst hie;rw[getElem?_append_right (zc _),sub_self]at hx;rw[getElem?_append_right (by rw[O.len];exact zc _),O.len,sub_self]at hg;have e1:j=x:=qg hx;have e2:h=g:=qg hg;subst e1 e2;refine⟨n,a2,λm hm=>qk _ ?_⟩;have:=a4 m hm;cases q:decide ((aD (bare mask) ((bare mask).probeStart h) m).j∈ps)with
   |true=>exact qV q
   |false=>have h2:=(iS O (kM (t:=bare mask) hmk m)).mpr (of_decide_eq_false q);rw[h2]at this;cases this
def lV{mask:Nat}(hmk:bH mask):∀(hs2 hs1:List Int)(o:Array (Option Nat))(ps:List Nat),vO mask o hs1 ps->(hs1++hs2).length<=mask->
  ∃o' ps',List.foldl (λ(zZ:Option (Array (Option Nat)×Nat))(h:Int)=>do
   let(owner,k)<-zZ
   let j<-layClean.free mask owner (turns mask) (bits h %(mask+1)) (bits h)
   pure (owner.setIfInBounds j (some k),k+1)) (some (o,hs1.length)) hs2=some (o',(hs1++hs2).length)/\vO mask o' (hs1++hs2) ps'
 |[],hs1,o,ps,O,_=>⟨o,ps,by simp,by simpa using O⟩
 |h::hs2,hs1,o,ps,O,hl=>by
  obtain⟨j,e,O'⟩:=O.step (h:=h) hmk (by rw[qr,qu]at hl;lia);obtain⟨o',ps',e',O''⟩:=lV hmk hs2 (hs1++[h]) _ _ O' (by simpa using hl);refine⟨o',ps',?_,by simpa using O''⟩;rw[foldl_cons];have:(do
   let(owner,k)<-(some (o,hs1.length):Option (Array (Option Nat)×Nat))
   let j<-layClean.free mask owner (turns mask) (bits h %(mask+1)) (bits h)
   pure (owner.setIfInBounds j (some k),k+1))=some (o.setIfInBounds j (some hs1.length),(hs1++[h]).length):=by
   show(do
    let j<-layClean.free mask o (turns mask) (bits h %(mask+1)) (bits h)
    pure (o.setIfInBounds j (some hs1.length),hs1.length+1))=_
   rw[e,qr];rfl
  rw[this];simpa using e'
def uK{mask:Nat}(hmk:bH mask)(hl:hs.size<=mask):∃o ps,layClean mask hs=some o/\vO mask o hs.toList ps:=by
 have O0:vO mask (Array.replicate (mask+1) none) [] []:=⟨by simp,rfl,by simp,by simp,λj i=>by simp only[getD_eq_getD_getElem?,Array.getElem?_replicate];by_cases h:j<mask+1<;>simp[h],λi h j hg=>by simp at hg⟩
 obtain⟨o,ps,e,O⟩:=lV hmk hs.toList [] _ _ O0 (by simpa using hl);refine⟨o,ps,?_,by simpa using O⟩;unfold layClean;rw[<-Array.foldl_toList];have e':=e;simp only[nil_append,qw]at e';show Option.map _ (List.foldl _ (some (Array.replicate (mask+1) none,0)) hs.toList)=some o;rw[e'];rfl
def vF{α β:Type}{f:α->Option β}:∀(l:List α),(∀x∈l,(f x).isSome=true)->∀k:Nat,(l.filterMap f)[k]?=l[k]?.bind f
 |[],_,k=>by simp
 |x::l,h,k=>by
  obtain⟨y,hy⟩:=isSome_iff_exists.mp (h x (by simp));rw[filterMap_cons,hy];cases k with
  |zero=>simp[hy]
  |succ k=>simp only[List.getElem?_cons_succ];exact vF l (λz hz=>h z (by simp[hz])) k
def lW{α:Type}{mask finger moves:Nat}{led plain:Bool}{es:Array (Int×α)}(hmk:bH mask)(hl:es.size<=mask):
  ∃t order,laid mask finger moves led plain (es.map (·.1))=some (t,order)/\(order.filterMap (es[·]?)).toList.Perm es.toList/\gW t ((order.filterMap (es[·]?)).toList.map (·.1))/\t.mask=mask/\t.led=led/\t.plain=plain:=by
 obtain⟨o,ps,e,O⟩:=uK hmk (hs:=es.map (·.1)) (by simpa using hl);have zX:ps.length=es.size:=by rw[O.len];simp
 generalize hlv:((List.range (mask+1)).filterMap λj=>(o.getD j none).map (j,·))=live;have hin:∀x:Nat×Nat,x∈live↔ps[x.2]?=some x.1:=λx=>by
  rw[<-hlv,mem_filterMap];constructor
  .rintro⟨j,hj,hx⟩;obtain⟨i,hi,rfl⟩:=qZ.mp hx;exact(O.own j i).mp hi
  .intro h;refine⟨x.1,qK.mpr (by have:=O.le x.1 (qN h);lia),?_⟩;rw[(O.own x.1 x.2).mpr h];rfl
 have hris:(live.map (·.1)).Pairwise (·<·):=by rw[<-hlv,pairwise_map,List.pairwise_filterMap];refine pairwise_lt_range.imp λ{a b} hab x hx y hy=>?_;obtain⟨_,_,rfl⟩:=qZ.mp hx;obtain⟨_,_,rfl⟩:=qZ.mp hy;exact hab
 have hmem:∀j,j∈live.map (·.1)↔j∈ps:=λj=>by
  rw[qL];constructor
  .rintro⟨x,hx,rfl⟩;exact qN ((hin x).mp hx)
  .intro hj;obtain⟨i,hi,ei⟩:=getElem_of_mem hj;exact⟨(j,i),(hin (j,i)).mpr (by rw[qi hi,ei]),rfl⟩
 have hond:(live.map (·.2)).Nodup:=by rw[List.Nodup,pairwise_map];have h2:live.Pairwise λa b=>a.1<b.1:=pairwise_map.mp hris;refine List.Pairwise.imp_of_mem (λ{a b} ha hb hab e=>?_) h2;have h3:=(hin a).mp ha;have h4:=(hin b).mp hb;rw[e,h4]at h3;have:=qg h3;lia
 have hoin:∀i,i∈live.map (·.2)↔i<es.size:=λi=>by
  rw[qL];constructor
  .rintro⟨x,hx,rfl⟩;have:=(qh.mp ((hin x).mp hx)).1;lia
  .intro hi;exact⟨(ps[i]'(by lia),i),(hin _).mpr (qi (by lia)),rfl⟩
 have hperm:(live.map (·.2)).Perm (List.range es.size):=(perm_ext_iff_of_nodup hond nodup_range).mpr λi=>by rw[hoin,qK]
 have hll:live.length=es.size:=by have:=hperm.length_eq;rw[qp,qE]at this;exact this
 refine⟨{mask,place:=(live.map (·.1)).toArray,dummies:=#[],finger,led,moves,plain},(live.map (·.2)).toArray,?_,?_,?_,rfl,rfl,rfl⟩
 .unfold laid;rw[e];show some _=some _;rw[<-hlv]
 .rw[Array.toList_filterMap];have:=hperm.filterMap (es[·]?);rw[filterMap_getElem?_range]at this;exact this
 .have hsome:∀i∈live.map (·.2),(es[i]?).isSome=true:=λi hi=>by rw[getElem?_eq_getElem ((hoin i).mp hi)];rfl
  have hget:∀k:Nat,(((live.map (·.2)).toArray.filterMap (es[·]?)).toList.map (·.1))[k]?=(live[k]?).bind λ(x:Nat×Nat)=>(es.map (·.1)).toList[x.2]?:=λk=>by
   rw[Array.toList_filterMap,qG,vF _ hsome,qG];cases live[k]? with
   |none=>rfl
   |some x=>simp
  have hris':Rising (live.map (·.1)).toArray:=by rw[ris_list];exact hris
  have hlen2:(((live.map (·.2)).toArray.filterMap (es[·]?)).toList.map (·.1)).length=es.size:=by rw[qp];have:=(hperm.filterMap (es[·]?)).length_eq;rw[filterMap_getElem?_range,qW]at this;rw[Array.toList_filterMap];exact this
  have hpm:∀n p,aD {mask,place:=(live.map (·.1)).toArray,dummies:=#[],finger,led,moves,plain} p n=aD (bare mask) p n:=bQ rfl;have hsm:∀b,SetTable.probeStart {mask,place:=(live.map (·.1)).toArray,dummies:=#[],finger,led,moves,plain} b=(bare mask).probeStart b:=bM rfl;refine⟨hris',rfl,hmk,?_,λi hi=>?_,?_,λi hi h hh=>?_⟩
  .rw[hlen2,qt,qp,hll]
  .have:(live.map (·.1)).toArray[i]∈live.map (·.1):=getElem_mem_toList hi;exact O.le _ ((hmem _).mp this)
  .rw[hlen2];exact hl
  .have hi':i<live.length:=by simpa using hi
   rw[hget,qi hi']at hh;obtain⟨n,a,b⟩:=O.reach live[i].2 h live[i].1 hh ((hin live[i]).mp (getElem_mem hi'));refine⟨n,?_,λm hm=>?_⟩
   .rw[hpm,hsm,a];simp
   .rw[iM hris' rfl,hpm,hsm];exact(hmem _).mpr (b m hm)
def gW.fits(T:gW t hs)(hn:hs.length=n):t.fits n=true:=by unfold SetTable.fits;rw[T.size,hn,and_eq_true,beq_iff_eq,qU];refine⟨rfl,?_⟩;unfold fill;rw[T.size,T.dum];have:=T.few;simp;lia
def gW.odd(T:gW t hs):t.gaveWay=false:=by unfold SetTable.gaveWay;rcases T.mask with h|h|h|h|h|h|h<;>rw[h]<;>rfl
def mZ(n:Nat):(aD t (t.probeStart h) n).dummy=none:=by
 have gen:∀n(p:Probe),p.dummy=none->(aD t p n).dummy=none:=by
  intro n;induction n with
  |zero=>intro p hp;exact hp
  |succ n ih=>intro p hp;refine ih _ ?_;unfold advance;split<;>exact hp
 exact gen n _ rfl
section
variable{prog:Program}{w:World}{K:Type}[DecidableEq K](knd:HeapKind prog w K)
def cQ(xs:List (K×Addr)):List (Int×Value):=xs.map λp=>(knd.hash p.1,Value.ref p.2)
variable{knd}
def Bq(hcl:∀{k:K}{b:Addr}{Q:Bool->Shared->Prop},knd.is s.heap k b->Q false s->wpAny (model prog w) A (ofAClassStatement 8 (.ref b)) Q E s){stored:List Value}(hk:knd.is s.heap k b)
  (hst:∀v∈stored,∃k' c,v=.ref c/\knd.is s.heap k' c)(h:Q false s):wpAny (model prog w) A (searchCouldBeSeen (.ref b) stored) Q E s:=by
 unfold searchCouldBeSeen;refine qa ?_;refine wpAny_forIn_list _ (λrest r s'=>s'=s/\r=(none,())/\∀v∈rest,∃k' c,v=.ref c/\knd.is s.heap k' c) _ ?_ ?_ _ _ ⟨rfl,rfl,hst⟩
 .rintro x rest r s' ⟨rfl,rfl,hr⟩;obtain⟨k',c,rfl,hc⟩:=hr x qo;have fin:∀v∈rest,∃k' c,v=.ref c/\knd.is s'.heap k' c:=λv hv=>hr v (qm _ hv);dsimp only;split
  .exact qb ⟨rfl,rfl,fin⟩
  .refine qa (knd.quiet hk ?_);simp only[Bool.not_true,false_eq_true,if_false];refine qa (knd.quiet hc ?_);simp only[Bool.not_true,false_eq_true,if_false];refine qa (hcl hk ?_);simp only[false_eq_true,if_false];refine qa (hcl hc ?_);simp only[false_eq_true,if_false];exact qb ⟨rfl,rfl,fin⟩
 .rintro r s' ⟨rfl,rfl,_⟩;exact qb h
def lN(hcl:∀{k:K}{b:Addr}{Q:Bool->Shared->Prop},knd.is s.heap k b->Q false s->wpAny (model prog w) A (ofAClassStatement 8 (.ref b)) Q E s)
  (hu:knd.room A)(hk:knd.is s.heap k b)(ho:s.heap.get? a=some o)(hd:o.data=.set es ep t)(he:es.toList=cQ knd xs)(his:∀x∈xs,knd.is s.heap x.1 x.2)(T:gW t (es.toList.map (·.1)))
  (hf:n<10*turns t.mask)(hemp:t.slot (aD t (t.probeStart (knd.hash k)) n).j=.empty)(hne:∀m,m<n->t.slot (aD t (t.probeStart (knd.hash k)) m).j≠.empty)
  (h1:k∈xs.map (·.1)->Q (.there none) s)(h2:k∉xs.map (·.1)->Q (.free (aD t (t.probeStart (knd.hash k)) n).j false) s):
  ∀(r n0:Nat)(stand:Option Probe),n0<=n->n-n0<r->stand.getD (t.probeStart (knd.hash k))=aD t (t.probeStart (knd.hash k)) n0->
   (∀m,m<n0->∀i,t.slot (aD t (t.probeStart (knd.hash k)) m).j=.live i->(xs[i]?).map (·.1)≠some k)->wpAny (model prog w) A (setSearchFrom a (.ref b) (knd.hash k) true r stand) Q E s:=by
 have hsz:t.fits es.size=true:=T.fits (by simp);have zX:es.size=xs.length:=by rw[<-qW,he];simp[cQ]
 have hent:∀i:Nat,es[i]?=(xs[i]?).map λp=>(knd.hash p.1,Value.ref p.2):=λi=>by rw[<-q5,he];simp[cQ]
 intro r;induction r with
 |zero=>intro n0 stand _ h;lia
 |succ r ih=>
  intro n0 stand hn0 hr hst hsofar;unfold setSearchFrom;refine qa (wpAny_setState_of ho hd hsz ?_);dsimp only;rw[T.odd];simp only[false_eq_true,if_false];have hgo:=uC (t:=t) (hashAt:=λi=>(es[i]?.map (·.1)).getD 0) (h:=knd.hash k) T.ris T.dum (10*turns t.mask) (n-n0) (aD t (t.probeStart (knd.hash k)) n0) (mZ n0)
   (by rw[<-aZ,show n0+(n-n0)=n by lia];exact hemp) (λm hm=>by rw[<-aZ];exact hne _ (by lia)) (by lia)
  rw[hst];rcases hgo with⟨g1,g2⟩|⟨m,i,g1,g2,g3,g4,g5⟩
  .have e:t.probe (λi=>(es[i]?.map (·.1)).getD 0) (knd.hash k) (aD t (t.probeStart (knd.hash k)) n0)=some (.empty (aD t (t.probeStart (knd.hash k)) n).j none):=by unfold probe;rw[g1,<-aZ,show n0+(n-n0)=n by lia]
   have none_hit:k∉xs.map (·.1):=λhmem=>by
    obtain⟨x,hx,hxk⟩:=qL.mp hmem;obtain⟨i,hi,ei⟩:=getElem_of_mem hx;have hip:i<t.place.size:=by rw[T.size];simp;lia
    have hh:(es.toList.map (·.1))[i]?=some (knd.hash k):=by rw[qG,q5,hent,qi hi,ei,<-hxk];rfl
    obtain⟨q,q1,q2⟩:=T.reach i hip _ hh;have hql:t.slot (aD t (t.probeStart (knd.hash k)) q).j=.live i:=by rw[q1];exact jN T.ris hip rfl
    have hqn:q<n:=by
     rcases Nat.lt_trichotomy q n with z|z|z
     .exact z
     .subst z;rw[hql]at hemp;cases hemp
     .exact absurd hemp (q2 n z)
    by_cases hq0:q<n0
    .exact hsofar q hq0 i hql (by rw[qi hi,ei,<-hxk];rfl)
    .have:=g2 (q-n0) (by lia) i (by rw[<-aZ,show n0+(q-n0)=q by lia];exact hql);apply this;show(es[i]?.map (·.1)).getD 0=knd.hash k;rw[hent,qi hi,ei,<-hxk];rfl
   split
   .rename_i met heq;have h3:t.probe (λi=>(es[i]?.map (·.1)).getD 0) (knd.hash k) (aD t (t.probeStart (knd.hash k)) n0)=some met:=heq;rw[e]at h3;cases h3;exact qb (h2 none_hit)
   .rename_i heq;exact absurd e (heq _)
  .have e:t.probe (λi=>(es[i]?.map (·.1)).getD 0) (knd.hash k) (aD t (t.probeStart (knd.hash k)) n0)=some (.candidate (aD t (t.probeStart (knd.hash k)) (n0+m)).j i (aD t (t.probeStart (knd.hash k)) (n0+m+1))):=by unfold probe;rw[g4,<-aZ,<-aZ];rfl
   rw[<-aZ]at g2;have hip:∃hi:i<t.place.size,t.place[i]=(aD t (t.probeStart (knd.hash k)) (n0+m)).j:=by
    rcases bY T.ris T.dum (aD t (t.probeStart (knd.hash k)) (n0+m)).j with⟨h,_⟩|⟨i',hi',ei',hl'⟩
    .rw[h]at g2;cases g2
    .rw[hl']at g2;cases g2;exact⟨hi',ei'⟩
   obtain⟨hip,_⟩:=hip;have hix:i<xs.length:=by rw[T.size]at hip;simp at hip;lia
   have hei:es[i]?=some (knd.hash xs[i].1,Value.ref xs[i].2):=by rw[hent,qi hix];rfl
   have hxi:=his xs[i] (getElem_mem hix);have body:wpAny (model prog w) A (match es[i]? with
     |some (_,y)=>do
      let equal<-holding [y] (eqBool y (Value.ref b))
      let __x<-setState a
      if(true&&equal)=true then pure (SetFound.there none)
       else
        match __x.2.snd.sameMemory t.moves t.mask with
        |some same=>
         match if same=true then __x.2.snd.slot (aD t (t.probeStart (knd.hash k)) (n0+m)).j else Slot.empty with
         |Slot.live i'=>
          match __x.fst[i']? with
          |some (_,y')=>do
           let __do_lift<-isSame y' y
           let still<-pure (if __do_lift=true then some i' else none)
           match still with
            |none=>do
             rule "set.search.anew"
             setSearchFrom a (Value.ref b) (knd.hash k) true r none
            |some i'=>
             if equal=true then pure (SetFound.there (some i'))
             else setSearchFrom a (Value.ref b) (knd.hash k) true r (some (aD t (t.probeStart (knd.hash k)) (n0+m+1)))
          |none=>do
           let still<-pure none
           match still with
            |none=>do
             rule "set.search.anew"
             setSearchFrom a (Value.ref b) (knd.hash k) true r none
            |some i'=>
             if equal=true then pure (SetFound.there (some i'))
             else setSearchFrom a (Value.ref b) (knd.hash k) true r (some (aD t (t.probeStart (knd.hash k)) (n0+m+1)))
         |x=>do
          let still<-pure none
          match still with
           |none=>do
            rule "set.search.anew"
            setSearchFrom a (Value.ref b) (knd.hash k) true r none
           |some i'=>
            if equal=true then pure (SetFound.there (some i'))
            else setSearchFrom a (Value.ref b) (knd.hash k) true r (some (aD t (t.probeStart (knd.hash k)) (n0+m+1)))
        |x=>unsupported "set.changed-during-lookup:is-the-new-block-at-the-old-address"
     |x=>unsupported "internal:set-entry") Q E s:=by
    rw[hei];dsimp only;refine qa (zt (knd.eqBool hu hxi hk ?_));refine qa (wpAny_setState_of ho hd hsz ?_);dsimp only;by_cases hkk:xs[i].1=k
    .rw[qS hkk];exact qb (h1 (qL.mpr ⟨xs[i],getElem_mem hix,hkk⟩))
    .rw[qT hkk];simp only[Bool.and_false,false_eq_true,if_false];have hsm:t.sameMemory t.moves t.mask=some true:=by unfold sameMemory;simp
     rw[hsm];dsimp only;rw[q8 rfl,g2];dsimp only;rw[hei];dsimp only;refine qa (wpAny_isSame_ref_self ?_);rw[q8 rfl];refine qa (qb ?_);dsimp only;refine ih (n0+m+1) _ (by lia) (by lia) rfl λq hq i' hl'=>?_;rcases lt_or_ge q n0 with z|z
     .exact hsofar q z i' hl'
     .rcases lt_or_ge q (n0+m)with z2|z2
      .intro hc;refine g5 (q-n0) (by lia) i' (by rw[<-aZ,show n0+(q-n0)=q by lia];exact hl') ?_;show(es[i']?.map (·.1)).getD 0=knd.hash k;rw[hent];cases hx:xs[i']? with
       |none=>rw[hx]at hc;cases hc
       |some x=>rw[hx]at hc;have:x.1=k:=qg hc;rw[<-this];rfl
      .have:q=n0+m:=by lia
       subst this;rw[g2]at hl';cases hl';rw[qi hix];exact λz=>hkk (qg z)
   split
   .rename_i met heq;have h3:t.probe (λi=>(es[i]?.map (·.1)).getD 0) (knd.hash k) (aD t (t.probeStart (knd.hash k)) n0)=some met:=heq;rw[e]at h3;cases h3;dsimp only;split
    .refine qa (Bq hcl hk (λv hv=>?_) ?_)
     .obtain⟨p,hp,rfl⟩:=qL.mp hv;have hp2:p∈es.toList:=by have:=mem_toList_iff.mp hp;exact mem_toList_iff.mpr (Array.mem_filter.mp this).1
      rw[he]at hp2;obtain⟨x,hx,rfl⟩:=qL.mp hp2;exact⟨x.1,x.2,rfl,his x hx⟩
     .simp only[false_eq_true,if_false];exact body
    .exact body
   .rename_i heq;exact absurd e (heq _)
def dY(t:SetTable)(n:Nat):Prop:=n*5<t.mask*3
def TSet(ld:Bool)(knd:HeapKind prog w K)(h:Heap)(a:Addr)(xs:List (K×Addr)):Prop:=∃o es ep t,h.get? a=some o/\o.ExactSet/\o.data=.set es ep t/\t.led=ld/\gW t (es.toList.map (·.1))/\dY t es.size/\es.toList=cQ knd xs/\(∀x∈xs,knd.is h x.1 x.2)/\(xs.map (·.1)).Nodup
def pX(T:gW t hs):gW {t with plain:=p} hs:=by have e1:∀n q,aD {t with plain:=p} q n=aD t q n:=bQ rfl;have e2:∀b,SetTable.probeStart {t with plain:=p} b=t.probeStart b:=bM rfl;have e3:∀j,SetTable.slot {t with plain:=p} j=t.slot j:=λj=>rfl;refine⟨T.ris,T.dum,T.mask,T.size,T.le,T.few,λi hi h hh=>?_⟩;obtain⟨n,a,b⟩:=T.reach i hi h hh;exact⟨n,by rw[e1,e2,a],λm hm=>by rw[e1,e2,e3];exact b m hm⟩
def iE(h:n<=1000):n<=sizeLine:=by rw[zp];lia
def cU{h:Heap}(ho:h.get? a=some o)(hd:o.data=.set es ep t):(h.update a (Obj.putSet es' t')).get? a=some {o with data:=.set es' (ep+1) t'}:=by have:=zj (Obj.putSet es' t') ho (by rw[putSet_of es' t' hd];rfl);rw[putSet_of es' t' hd]at this;exact this
def lQ(ho:s.heap.get? a=some o)(hd:o.data=.set es ep t)(T:gW t (es.toList.map (·.1)))(hn:es.size=n)(hok:bH (sizeAbove wd-1))(hr:n*5<(sizeAbove wd-1)*3)
  (h:∀es' t',es'.toList.Perm es.toList->gW t' (es'.toList.map (·.1))->t'.mask=sizeAbove wd-1->t'.led=t.led->Q () {s with heap:=s.heap.update a (Obj.putSet es' t')}):wpAny (model prog w) A (setRelay a wd) Q E s:=by
 have hm:sizeAbove wd-1<=511:=by rcases hok with z|z|z|z|z|z|z<;>lia
 have hle:es.size<=sizeAbove wd-1:=by lia
 obtain⟨t',order,e1,e2,e3,e4,e5,e6⟩:=lW (finger:=t.finger) (moves:=t.movedTo (sizeAbove wd-1)) (led:=t.led) (plain:=t.plain) hok hle;have hsz:(order.filterMap (es[·]?)).size=es.size:=by rw[<-qW,e2.length_eq,qW]
 unfold setRelay;refine qa (wpAny_setState_of ho hd (T.fits (by simp)) ?_);dsimp only;have hline:¬(sizeAbove wd>sizeLine):=by rw[zp];lia
 rw[q9 hline];have e1':t.relaid (es.map (·.1)) wd=some (t',order):=e1;rw[e1'];refine qa ?_;show wpAny (model prog w) A (if((order.filterMap (es[·]?)).size !=es.size)=true then _ else _) _ E s;rw[hsz];simp only[bne_self_eq_false,false_eq_true,if_false];refine qb ?_;dsimp only;exact wpAny_storeSet_of ho hd (h _ t' e2 e3 e4 e5) (iE (by rw[hsz];lia))
def xS(h:bH m):7<=m/\m<=511:=by rcases h with z|z|z|z|z|z|z<;>lia
def gA(h:l.Perm (cQ knd xs)):∃ys,ys.Perm xs/\l=cQ knd ys:=by
 unfold cQ at h;induction l generalizing xs with
 |nil=>
  have:=h.length_eq;have hx:xs=[]:=by simpa using this.symm
  subst hx;exact⟨[],.refl _,rfl⟩
 |cons e l ih=>
  have he:e∈xs.map λp=>(knd.hash p.1,Value.ref p.2):=h.mem_iff.mp (by simp);obtain⟨x,hx,rfl⟩:=qL.mp he;obtain⟨l1,l2,rfl⟩:=append_of_mem hx;have h2:l.Perm ((l1++l2).map λp=>(knd.hash p.1,Value.ref p.2)):=by rw[map_append,qA]at h;have:=h.trans perm_middle;rw[map_append];exact this.cons_inv
  obtain⟨ys,p,rfl⟩:=ih h2;exact⟨x::ys,(List.Perm.cons x p).trans perm_middle.symm,rfl⟩
def vL(hcl:∀{k:K}{b:Addr}{Q:Bool->Shared->Prop},knd.is s.heap k b->Q false s->wpAny (model prog w) A (ofAClassStatement 8 (.ref b)) Q E s)(hbv:∀{k:K}{b:Addr}{Q:Bool->Shared->Prop},knd.is s.heap k b->(∀r,Q r s)->wpAny (model prog w) A (hashByValue 8 (.ref b)) Q E s)
  (hkp:∀{h h':Heap}{k:K}{c:Addr}{o:Obj}{es:Array (Int×Value)}{ep:Nat}{t:SetTable},knd.is h k c->h.get? a=some o->o.data=.set es ep t->Heap.SameBut a h h'->knd.is h' k c)
  (hu:knd.room A)(hk:knd.is s.heap k b)(hS:TSet ld knd s.heap a xs)(hroom:xs.length<=150)
  (h1:k∈xs.map (·.1)->Q false s)(h2:k∉xs.map (·.1)->∀h' ys,Heap.SameBut a s.heap h'->ys.Perm ((k,b)::xs)->TSet ld knd h' a ys->Q true {s with heap:=h'}):
  wpAny (model prog w) A (setAddHashed a (.ref b) (knd.hash k)) Q E s:=by
 obtain⟨o,es,ep,t,ho,hex,hd,hld,T,hrm,he,his,hnd⟩:=hS;have hsz:t.fits es.size=true:=T.fits (by simp);have zX:es.size=xs.length:=by rw[<-qW,he];simp[cQ]
 obtain⟨n,hf,hemp,hne⟩:=T.free (knd.hash k);have hmk:t.mask<=511:=by rcases T.mask with z|z|z|z|z|z|z<;>lia
 unfold setAddHashed setAddHashedIn;refine zt (qa (wpAny_setState_of ho hd hsz ?_));dsimp only;have hbs:byScan (.ref b) es=false:=by simp[byScan,Value.scannable]
 rw[hbs];simp only[false_eq_true,if_false];refine qa ?_;unfold setSearch;refine lN hcl hu hk ho hd he his T hf hemp hne (λhm=>?_) (λhm=>?_) 100000 0 none (zero_le _) (by unfold turns at hf;lia) rfl (λm hm=>by lia)
 .exact qb (h1 hm)
 .dsimp only;refine qa (wpAny_setState_of ho hd hsz ?_);dsimp only;have hjm:=kM (t:=t) (h:=knd.hash k) T.mask n;have hfew:(es.toList.map (·.1)).length+1<=t.mask:=by rw[qp,qW];have:=xS T.mask;unfold dY at hrm;lia
  have TP:=T.put hemp hne hjm hfew;generalize hj:(aD t (t.probeStart (knd.hash k)) n).j=j at*;obtain⟨e1,e2,e3,e4⟩:=eP (t:=t) (j:=j) T.dum;have epl:(t.put j).1.led=t.led:=by unfold SetTable.put;first|rfl|(split<;>rfl)
  generalize hp:t.put j=tp at*;obtain⟨t1,p⟩:=tp;dsimp only at*
  --the things behind it
  have hel:(insertAt es p (knd.hash k,Value.ref b)).toList=es.toList.take p++(knd.hash k,Value.ref b)::es.toList.drop p:=toList_insertAt ..;have TP':gW t1 ((insertAt es p (knd.hash k,Value.ref b)).toList.map (·.1)):=by rw[hel,map_append,qA,List.map_take,List.map_drop];exact TP
  have hys:(insertAt es p (knd.hash k,Value.ref b)).toList=cQ knd (xs.take p++(k,b)::xs.drop p):=by rw[hel,he];unfold cQ;rw[map_append,qA,List.map_take,List.map_drop]
  have hyp:(xs.take p++(k,b)::xs.drop p).Perm ((k,b)::xs):=by refine perm_middle.trans ?_;rw[take_append_drop]
  have hsz1:(insertAt es p (knd.hash k,Value.ref b)).size=es.size+1:=by rw[<-qW,hys];have:=hyp.length_eq;simp only[cQ,qp];rw[this,qu,zX]
  have all:∀{h':Heap}{ys:List (K×Addr)},Heap.SameBut a s.heap h'->ys.Perm ((k,b)::xs)->(∀x∈ys,knd.is h' x.1 x.2)/\(ys.map (·.1)).Nodup:=λ{h' ys} sb pm=>by
   refine⟨λx hx=>?_,?_⟩
   .rcases qC.mp (pm.mem_iff.mp hx)with rfl|hx
    .exact hkp hk ho hd sb
    .exact hkp (his x hx) ho hd sb
   .exact(pm.map (·.1)).nodup_iff.mpr (qM.mpr ⟨hm,hnd⟩)
  have tail:∀t2:SetTable,gW t2 ((insertAt es p (knd.hash k,Value.ref b)).toList.map (·.1))->t2.mask=t.mask->t2.led=t.led->wpAny (model prog w) A (do
    storeSet a (insertAt es p (knd.hash k,Value.ref b)) t2
    if(!false&&t2.tooFull)=true then do
       setRelay a (grown (es.size+1))
       pure true
     else pure true) Q E s:=λt2 T2 em el=>by
   refine qa (wpAny_storeSet_of ho hd ?_ (iE (by lia)));have ho1:=cU (es':=insertAt es p (knd.hash k,Value.ref b)) (t':=t2) ho hd;have hsb1:=Heap.SameBut.update s.heap a (Obj.putSet (insertAt es p (knd.hash k,Value.ref b)) t2);have hfill:t2.fill=es.size+1:=by unfold fill;rw[T2.size,T2.dum,qp,qW,hsz1];rfl
   by_cases hfull:t2.tooFull=true
   .rw[hfull];simp only[Bool.not_false,Bool.and_self,if_true];have hn5:bH (sizeAbove (grown (es.size+1))-1)/\(es.size+1)*5<(sizeAbove (grown (es.size+1))-1)*3:=by
     unfold tooFull at hfull;rw[hfill,em,qU]at hfull;unfold dY at hrm;rcases T.mask with z|z|z|z|z|z|z
     .rw[show es.size+1=5 by lia];exact⟨.inr (.inr (.inl (by decide))),by decide⟩
     .rw[show es.size+1=9 by lia];exact⟨.inr (.inr (.inr (.inl (by decide)))),by decide⟩
     .rw[show es.size+1=19 by lia];exact⟨.inr (.inr (.inr (.inr (.inl (by decide))))),by decide⟩
     .rw[show es.size+1=38 by lia];exact⟨.inr (.inr (.inr (.inr (.inr (.inl (by decide)))))),by decide⟩
     .rw[show es.size+1=77 by lia];exact⟨.inr (.inr (.inr (.inr (.inr (.inr (by decide)))))),by decide⟩
     .lia
     .lia
    refine qa (lQ (s:={s with heap:=s.heap.update a (Obj.putSet (insertAt es p (knd.hash k,Value.ref b)) t2)}) ho1 rfl T2 hsz1 hn5.1 hn5.2 λes' t' pm T' rm rl=>qb ?_);rw[hys]at pm;obtain⟨ys,pm2,ey⟩:=gA pm;have sb2:=hsb1.trans (Heap.SameBut.update (s.heap.update a (Obj.putSet (insertAt es p (knd.hash k,Value.ref b)) t2)) a (Obj.putSet es' t'));have hz':es'.size=es.size+1:=by rw[<-qW,ey];have:=(pm2.trans hyp).length_eq;simp only[cQ,qp];rw[this,qu,zX]
    obtain⟨i1,i2⟩:=all sb2 (pm2.trans hyp);exact h2 hm _ ys sb2 (pm2.trans hyp) ⟨_,es',_,t',cU ho1 rfl,hex,rfl,rl.trans (el.trans hld),T',by unfold dY;rw[hz',rm];exact hn5.2,ey,i1,i2⟩
   .rw[Bool.not_eq_true]at hfull;rw[hfull];simp only[Bool.and_false,false_eq_true,if_false];obtain⟨i1,i2⟩:=all hsb1 hyp;refine qb (h2 hm _ _ hsb1 hyp ⟨_,_,_,t2,ho1,hex,rfl,el.trans hld,T2,?_,hys,i1,i2⟩);unfold tooFull at hfull;rw[hfill,em,decide_eq_false_iff_not]at hfull;unfold dY;rw[em,hsz1];lia
  split
  .refine qa (hbv hk λr=>?_);cases r with
   |true=>exact tail t1 TP' e2 epl
   |false=>exact tail {t1 with plain:=false} (pX TP') e2 epl
  .refine qa (qb ?_);exact tail t1 TP' e2 epl
end
end ST
namespace ST
open PySem
section
variable{prog:Program}{w:World}{K:Type}[DecidableEq K]{knd:KeyKind prog w K}{A:Around}{E:zw}{s:Shared}{ks:List K}{b:Addr}
def rR(h:carriedByValue v=true):ofAClassStatement n v=pure false:=by
 cases v with
 |ref a=>simp[carriedByValue]at h
 |_=>first|rfl|simp[ofAClassStatement]|(unfold ofAClassStatement;rfl)
def uY(h:carriedByValue v=true):∃r,hashByValue n v=pure r:=by
 cases v with
 |ref a=>simp[carriedByValue]at h
 |float bits t=>exact⟨(Float64.hash? bits).isSome,by rw[hashByValue]⟩
 |none|bool _|int _ _=>exact⟨true,by rw[hashByValue]⟩
 |_=>exact⟨false,by rw[hashByValue]⟩
def jK(hk:IsTupleKey knd s.heap ks b)(h:Q false s):wpAny (model prog w) A (ofAClassStatement 8 (.ref b)) Q E s:=by
 have hT:=hk.typeIs;obtain⟨o,items,n,ho,_,hd,hi⟩:=hk;unfold ofAClassStatement;refine qa (wpAny_typeOf hT ?_);dsimp only;rw[q8 (by rfl)];refine qa (qb ?_);simp only[Bool.not_true,false_eq_true,if_false];refine qa (wpAny_seqItems ho hd ?_);refine qa ?_;show wpAny _ _ (forIn items _ _) _ _ s;rw[<-forIn_toList];refine wpAny_forIn_list _ (λrest r s'=>r.1=none/\s'=s/\∀v∈rest,carriedByValue v=true) _ ?_ ?_ _ _ ⟨rfl,rfl,hi.byValue⟩
 .rintro v rest r s' ⟨hr,rfl,hall⟩;rw[rR (hall v qo)];refine qa (qb ?_);rw[q9 (by decide)];exact qb ⟨rfl,rfl,λx hx=>hall x (qm _ hx)⟩
 .rintro r s' ⟨hr,rfl,_⟩;rw[hr];exact qb h
def lK(hk:IsTupleKey knd s.heap ks b)(h:∀r,Q r s):wpAny (model prog w) A (hashByValue 8 (.ref b)) Q E s:=by
 have hT:=hk.typeIs;obtain⟨o,items,n,ho,_,hd,hi⟩:=hk;unfold hashByValue;refine qa (wpAny_specialOf hT F.slot_tuple_hash.lookup ?_);dsimp only;refine qa (wpAny_seqItems ho hd ?_);refine qa ?_;show wpAny _ _ (forIn items _ _) _ _ s;rw[<-forIn_toList];refine wpAny_forIn_list _ (λrest r s'=>s'=s/\∀v∈rest,carriedByValue v=true) _ ?_ ?_ _ _ ⟨rfl,hi.byValue⟩
 .rintro v rest r s' ⟨rfl,hall⟩;obtain⟨c,e⟩:=uY (n:=7) (hall v qo);rw[e];refine qa (qb ?_);cases c
  .exact qb (qb (h _))
  .exact qb ⟨rfl,λx hx=>hall x (qm _ hx)⟩
 .rintro r s' ⟨rfl,_⟩;cases r.1<;>exact qb (h _)
def cT(x:IsTupleKey knd h ks b)(ho:h.get? a=some o)(hd:o.data=.set es ep t)(hs:Heap.SameBut a h h'):IsTupleKey knd h' ks b:=by
 obtain⟨o',items,n,ho',hc,hd',hi⟩:=x;have hne:b≠a:=by grind
 exact⟨o',items,n,(hs.2 b hne).trans ho',hc,hd',hi⟩
end
def nM(hn:n≠0)(h:∀i,i<n->∀d,Q i {s with drawn:=d}):wpAny (model prog w) A (choose .order n) Q E s:=
 λ_ _ _=>⟨hn,h _ (mod_lt _ (Nat.pos_of_ne_zero hn)) _⟩
def iW:∀(n:Nat){xs:List α}{s:Shared}{Q:List α->Shared->Prop},xs.length=n->(∀ys d,ys.Perm xs->Q ys {s with drawn:=d})->wpAny (model prog w) A (drawOrder n xs) Q E s
 |0,xs,s,Q,e,h=>by
  cases xs with
  |nil=>exact qb (h [] s.drawn .nil)
  |cons _ _=>cases e
 |n+1,xs,s,Q,e,h=>by
  cases xs with
  |nil=>cases e
  |cons x xs=>unfold drawOrder;refine qa (nM (by simp) λi hi d=>?_);rw[qi hi];refine qa (iW n (by rw[List.length_eraseIdx,q8 hi,e];rfl) λys d' hp=>?_);refine qb (h _ d' ((hp.cons _).trans ?_));rw[List.eraseIdx_eq_take_drop_succ];refine perm_middle.symm.trans ?_;rw[List.getElem_cons_drop,take_append_drop]
def cA(h:Q (w.params.followText "set-order") s):wpAny (model prog w) A setsByText Q E s:=qa (wpAny_askSetting (qb h))
def slot_next:Slot "set_iterator" "__next__" "set_iterator.__next__":=
 .of (owner:="set_iterator") (n:="__next__") (by rw[typeLookup_type,builtinLookup_eq_fast];kernel_rfl) (by decide+kernel) (by decide+kernel) (by decide+kernel)
  (by first|exact .inl (by decide+kernel)|exact .inr (by decide+kernel)) (by rw[isSubtype_type];kernel_rfl)
def dZ:entryFor table "set_iterator.__next__"=some Builtin.«set_iterator.__next__»:=entryFor_of_tree (by kernel_rfl)
def eU(a:Value):argsOk "set_iterator.__next__" ⟨[a],[]⟩:=by unfold argsOk;kernel_rfl
def jM:Slot "set_iterator" "__iter__" "set_iterator.__iter__":=
 .of (owner:="set_iterator") (n:="__iter__") (by rw[typeLookup_type,builtinLookup_eq_fast];kernel_rfl) (by decide+kernel) (by decide+kernel) (by decide+kernel)
  (by first|exact .inl (by decide+kernel)|exact .inr (by decide+kernel)) (by rw[isSubtype_type];kernel_rfl)
def nJ:entryFor table "set_iterator.__iter__"=some Builtin.«dict_keyiterator.__iter__»:=
 entryFor_alias (id':="dict_keyiterator.__iter__") (by kernel_rfl) rfl (by decide+kernel) (by kernel_rfl)
def rT(a:Value):argsOk "set_iterator.__iter__" ⟨[a],[]⟩:=by unfold argsOk;kernel_rfl
def sA(h:Heap)(I a:Addr)(f:Value)(i n ep:Nat):Prop:=∃o,h.get? I=some o/\o.cls=.type "set_iterator"/\o.data=.fields #[f,.int i 0,.ref a,.int n 0,.int ep 0]
def SetAt(h:Heap)(a:Addr)(es:Array (Int×Value))(ep:Nat)(t:SetTable):Prop:=∃o,h.get? a=some o/\o.data=.set es ep t/\t.fits es.size=true
def TupAt(h:Heap)(p:Addr)(ys:List Nat):Prop:=∃o c,h.get? p=some o/\o.data=.seq (ys.map λi:Nat=>rawInt (i:Int)).toArray c
def sA.typeIs{s:Shared}(x:sA s.heap I a f i n ep):s.TypeIs (.ref I) "set_iterator":=let⟨o,ho,hc,_⟩:=x;⟨o,ho,hc⟩
def nB(hit:sA s.heap I a (.ref p) i es.size ep)(hs:SetAt s.heap a es ep t)(ht:TupAt s.heap p ys)(hj:ys[i]?=some j)(he:es[j]?=some e)
  (hQ:∀h',sA h' I a (.ref p) (i+1) es.size ep->Heap.SameBut I s.heap h'->Q (some e.2) {s with heap:=h'}):wpAny (model prog w) A (pyNext (.ref I)) Q E s:=by
 obtain⟨o,ho,hc,hd⟩:=id hit;obtain⟨o',ho',hd',hf⟩:=hs;obtain⟨o'',c,ho'',hd''⟩:=ht;unfold pyNext;refine qa (wpAny_attempt (wpAny_callSpecial?_slot (name:=Str.ofString "__next__") hit.typeIs slot_next
  (zo slot_next hit.typeIs dZ ?_ (eU _))))
 show wpAny _ _ (fieldsOf (.ref I)>>=_) _ _ s;refine qa (wpAny_fieldsOf ho hd ?_);dsimp only;refine qa (qa (wpAny_setState_of ho' hd' hf (qb ?_)));rw[q9 (by simp)];refine qa (wpAny_seqItems ho'' hd'' ?_);dsimp only;rw[qX,List.getElem?_toArray,qG,hj];dsimp only[map_some,rawInt];refine qa (qa (wpAny_setState_of ho' hd' hf ?_));dsimp only;rw[q9 (by simp),qX,he];refine qb (qa (wpAny_setField ho hd (by simp) (qb ⟨_,rfl,qb (hQ _ ?_ (Heap.SameBut.update ..))⟩)));exact⟨_,zj _ ho (Obj.isFreed_of_fields (Obj.data_mapFields hd _)),(Obj.cls_mapFields ..).trans hc,by rw[Obj.data_mapFields hd];simp[rawInt]⟩
def rP(hh:A.handled=none)(hit:sA s.heap I a (.ref p) i es.size ep)(hs:SetAt s.heap a es ep t)(ht:TupAt s.heap p ys)(hj:ys[i]?=none)
  (hQ:∀h',Heap.ExtBut I s.heap h'->Q none {s with heap:=h'}):wpAny (model prog w) A (pyNext (.ref I)) Q E s:=by
 obtain⟨o,ho,hc,hd⟩:=id hit;obtain⟨o',ho',hd',hf⟩:=hs;obtain⟨o'',c,ho'',hd''⟩:=ht;unfold pyNext;refine qa (wpAny_attempt (wpAny_callSpecial?_slot (name:=Str.ofString "__next__") hit.typeIs slot_next
  (zo slot_next hit.typeIs dZ ?_ (eU _))))
 show wpAny _ _ (fieldsOf (.ref I)>>=_) _ _ s;refine qa (wpAny_fieldsOf ho hd ?_);dsimp only;refine qa (qa (wpAny_setState_of ho' hd' hf (qb ?_)));rw[q9 (by simp)];refine qa (wpAny_seqItems ho'' hd'' ?_);dsimp only;rw[qX,List.getElem?_toArray,qG,hj];dsimp only[Option.map_none];refine qa (wpAny_setField ho hd (by simp) ?_);refine qa (wpAny_setField (zj _ ho (Obj.isFreed_of_fields (Obj.data_mapFields hd _))) (Obj.data_mapFields hd _) (by simp) ?_);refine qa ?_;simp only[newExc,newTuple];refine qa (zm ?_ (by size_fits));refine qa (m:=firstArgMember _ _) (zu (a:=Value.none) (by first|rfl|(simp only[firstArgMember];rfl)) ?_);refine zm ?_ (by size_fits);simp only[raiseNew];refine qa (wpAny_handled ?_);rw[show A.in1.handled=none from hh];refine qa (qb (wpAny_throw ?_));refine qa (wpAny_isInstance (T:="StopIteration") (b:=true) ⟨_,qd _ rfl,rfl⟩ isSubtype_stop ?_);exact qb (hQ _ ((((Heap.SameBut.update ..).trans (Heap.SameBut.update ..)).extBut.push _).push _))
def lT{slot slot':Nat}(hit:sA s.heap I a (.int slot 0) i es.size ep)(hs:SetAt s.heap a es ep t)
  (hn:∀(A:Around)(E:zw)(R:Option (Value×Nat)->Shared->Prop),R (some (v,slot')) s->wpAny (model prog w) A (setNext a slot i ep) R E s)
  (hQ:∀h',sA h' I a (.int slot' 0) (i+1) es.size ep->Heap.SameBut I s.heap h'->Q (some v) {s with heap:=h'}):wpAny (model prog w) A (pyNext (.ref I)) Q E s:=by
 obtain⟨o,ho,hc,hd⟩:=id hit;obtain⟨o',ho',hd',hf⟩:=hs;unfold pyNext;refine qa (wpAny_attempt (wpAny_callSpecial?_slot (name:=Str.ofString "__next__") hit.typeIs slot_next
  (zo slot_next hit.typeIs dZ ?_ (eU _))))
 show wpAny _ _ (fieldsOf (.ref I)>>=_) _ _ s;refine qa (wpAny_fieldsOf ho hd ?_);dsimp only;refine qa (qa (wpAny_setState_of ho' hd' hf (qb ?_)));rw[q9 (by simp)];rw[qX,qX,qX];refine qa (hn _ _ _ ?_);dsimp only;refine qa (wpAny_setField ho hd (by simp) ?_);refine qa (wpAny_setField (zj _ ho (Obj.isFreed_of_fields (Obj.data_mapFields hd _))) (Obj.data_mapFields hd _) (by simp) ?_);refine qb ⟨_,rfl,qb (hQ _ ?_ ((Heap.SameBut.update ..).trans (Heap.SameBut.update ..)))⟩;exact⟨_,zj _ (zj _ ho (Obj.isFreed_of_fields (Obj.data_mapFields hd _))) (Obj.isFreed_of_fields (Obj.data_mapFields (Obj.data_mapFields hd _) _)),(Obj.cls_mapFields ..).trans ((Obj.cls_mapFields ..).trans hc),by rw[Obj.data_mapFields (Obj.data_mapFields hd _)];simp[rawInt]⟩
def pI{slot:Nat}(hh:A.handled=none)(hit:sA s.heap I a (.int slot 0) i es.size ep)(hs:SetAt s.heap a es ep t)
  (hn:∀(A:Around)(E:zw)(R:Option (Value×Nat)->Shared->Prop),R none s->wpAny (model prog w) A (setNext a slot i ep) R E s)
  (hQ:∀h',Heap.ExtBut I s.heap h'->Q none {s with heap:=h'}):wpAny (model prog w) A (pyNext (.ref I)) Q E s:=by
 obtain⟨o,ho,hc,hd⟩:=id hit;obtain⟨o',ho',hd',hf⟩:=hs;unfold pyNext;refine qa (wpAny_attempt (wpAny_callSpecial?_slot (name:=Str.ofString "__next__") hit.typeIs slot_next
  (zo slot_next hit.typeIs dZ ?_ (eU _))))
 show wpAny _ _ (fieldsOf (.ref I)>>=_) _ _ s;refine qa (wpAny_fieldsOf ho hd ?_);dsimp only;refine qa (qa (wpAny_setState_of ho' hd' hf (qb ?_)));rw[q9 (by simp)];rw[qX,qX,qX];refine qa (hn _ _ _ ?_);dsimp only;refine qa (wpAny_setField ho hd (by simp) ?_);refine qa ?_;simp only[newExc,newTuple];refine qa (zm ?_ (by size_fits));refine qa (m:=firstArgMember _ _) (zu (a:=Value.none) (by first|rfl|(simp only[firstArgMember];rfl)) ?_);refine zm ?_ (by size_fits);simp only[raiseNew];refine qa (wpAny_handled ?_);rw[show A.in1.handled=none from hh];refine qa (qb (wpAny_throw ?_));refine qa (wpAny_isInstance (T:="StopIteration") (b:=true) ⟨_,qd _ rfl,rfl⟩ isSubtype_stop ?_);exact qb (hQ _ (((Heap.SameBut.update ..).extBut.push _).push _))
def iG(hit:sA s.heap I a f i n ep)(h:Q (.ref I) s):wpAny (model prog w) A (pyIter (.ref I)) Q E s:=by refine wpAny_pyIter_slot hit.typeIs jM (zo jM hit.typeIs nJ ?_ (rT _));show wpAny _ _ (ret (.ref I)) _ _ s;exact qb ⟨_,rfl,"set_iterator",_,hit.typeIs,slot_next.lookup,h⟩
end ST
namespace ST
open PySem PySem.SetTable
section
variable{prog:Program}{w:World}{A:Around}{E:zw}{s:Shared}{I a p:Addr}{es:Array (Int×Value)}{ep i slot:Nat}{t:SetTable}{ys:List Nat}
def eY(hs:SetAt s.heap a es ep t)(hb:w.params.followText "set-order"=false)(hnd:¬(!t.plain&&decide (es.size>1))=true)(hl:t.led=true)
  (h:R (match es[below t.place slot]?,t.place[below t.place slot]? with|some (_,x),some j=>some (x,j+1)|_,_=>none) s):wpAny (model prog w) A (setNext a slot i ep) R E s:=by
 obtain⟨o',ho',hd',hf⟩:=hs;unfold setNext;refine qa (wpAny_setState_of ho' hd' hf ?_);dsimp only;refine qa (cA ?_);rw[hb,q9 (by decide)];split
 .rename_i hc;exact absurd hc hnd
 .refine qa ?_;show wpAny _ _ (if(!t.led&& !es.isEmpty)=true then _ else _) _ _ _;rw[hl,q9 (by simp)];refine qb ?_;exact qb h
def fS(hs:SetAt s.heap a es ep t)(hb:w.params.followText "set-order"=true)
  (h:R (((pickOrder (w.params.setOrder a ep) es)[i]?).map λe=>(e.2,slot)) s):wpAny (model prog w) A (setNext a slot i ep) R E s:=by
 obtain⟨o',ho',hd',hf⟩:=hs;unfold setNext;refine qa (wpAny_setState_of ho' hd' hf ?_);dsimp only;refine qa (cA ?_);rw[hb,q8 rfl,q9 (by simp)];refine qa ?_;unfold setWalk;refine qa (wpAny_setState_of ho' hd' hf ?_);dsimp only;refine qa (cA ?_);rw[hb,q8 rfl];refine qa (wpAny_askSetting ?_);exact qb (qb h)
def nN(hr:Rising xs):below xs 0=0:=by
 obtain⟨h1,h2,h3⟩:=dA (j:=0) hr;rcases Nat.eq_zero_or_pos (below xs 0)with z|z
 .exact z
 .exact absurd (h2 0 (by lia) z) (Nat.not_lt_zero _)
def nO(hr:Rising xs)(hi:i<xs.size):below xs (xs[i]+1)=i+1:=by
 obtain⟨h1,h2,h3⟩:=dA (j:=xs[i]+1) hr;have a:i<below xs (xs[i]+1):=Nat.lt_of_not_le λz=>absurd (h3 i hi z) (by lia);rcases lt_or_ge (i+1) (below xs (xs[i]+1))with z|z
 .have b:=h2 (i+1) (by lia) z;have c:=hr i (i+1) hi (by lia) (by lia);lia
 .lia
end
def oR(f:Nat->Nat):∀(n k:Nat)(left:List α)(out:Array α),left.length=n->((pickOrder.go f n k left out).toList).Perm (out.toList++left)
 |0,k,left,out,e=>by
  cases left with
  |nil=>unfold pickOrder.go;simp
  |cons _ _=>cases e
 |n+1,k,left,out,e=>by have hi:f k %left.length<left.length:=mod_lt _ (by lia);unfold pickOrder.go;rw[qi hi];refine(oR f n (k+1) _ _ (by rw[List.length_eraseIdx,q8 hi,e];rfl)).trans ?_;rw[Array.toList_push,qq];refine List.Perm.append_left _ ?_;show(left[f k %left.length]::left.eraseIdx (f k %left.length)).Perm left;rw[List.eraseIdx_eq_take_drop_succ];refine perm_middle.symm.trans ?_;rw[List.getElem_cons_drop,take_append_drop]
def eQ(f:Nat->Nat)(xs:Array α):((pickOrder f xs).toList).Perm xs.toList:=by have:=oR f xs.size 0 xs.toList #[] (by simp);first|rfl|assumption|(simp_all;done)
def SetAt.same(x:SetAt h a es ep t)(hs:Heap.SameBut I h h')(hne:a≠I):SetAt h' a es ep t:=let⟨o,ho,r⟩:=x;⟨o,(hs.2 a hne).trans ho,r⟩
def TupAt.same(x:TupAt h p ys)(hs:Heap.SameBut I h h')(hne:p≠I):TupAt h' p ys:=let⟨o,c,ho,r⟩:=x;⟨o,c,(hs.2 p hne).trans ho,r⟩
def iZ(ord:List (Int×Value))(i:Nat)(v:Value):Prop:=∃e,ord[i]?=some e/\v=e.2
def lI(hh:A.handled=none){ord:List (Int×Value)}(ho:ord.length=es.size)(hy:ys.length=es.size)(hor:∀(i j:Nat),ys[i]?=some j->es[j]?=ord[i]?/\j<es.size)(ha:a≠I)(hp:p≠I):
  Walks prog w A I [I,a,p] [I] es.size (iZ ord) (λi h=>sA h I a (.ref p) i es.size ep/\SetAt h a es ep t/\TupAt h p ys) where
 sub:=λb hb=>by rw[qv.mp hb];simp
 frame:=λi h h' st hk=>by obtain⟨⟨o,h1,h2⟩,⟨o',h3,h4⟩,⟨o'',c,h5,h6⟩⟩:=st;exact⟨⟨o,hk I (by simp) o h1,h2⟩,⟨o',hk a (by simp) o' h3,h4⟩,⟨o'',c,hk p (by simp) o'' h5,h6⟩⟩
 item:=λi s Q E hi st hQ=>by have hj:ys[i]?=some (ys[i]'(by lia)):=qi (by lia);obtain⟨he,hlt⟩:=hor i _ hj;have hoi:ord[i]?=some (ord[i]'(by lia)):=qi (by lia);refine nB st.1 st.2.1 st.2.2 hj (he.trans hoi) λh' hit' hs'=>?_;exact hQ _ h' s.toks ⟨_,hoi,rfl⟩ ⟨hit',st.2.1.same hs' ha,st.2.2.same hs' hp⟩ λb o hb e=>hs'.extBut b o (λz=>hb (by simp[z])) e
 done:=λs Q E st hQ=>rP hh st.1 st.2.1 st.2.2 (qR (by lia)) λh' he'=>hQ h' s.toks λb o hb e=>he' b o (λz=>hb (by simp[z])) e
 self:=λ_ _ _ _ st hQ=>iG st.1 hQ
def mO(hh:A.handled=none)(hb:w.params.followText "set-order"=true)(ha:a≠I):
  Walks prog w A I [I,a] [I] es.size (iZ (pickOrder (w.params.setOrder a ep) es).toList) (λi h=>sA h I a (.int ((0:Nat):Int) 0) i es.size ep/\SetAt h a es ep t) where
 sub:=λb hb=>by rw[qv.mp hb];simp
 frame:=λi h h' st hk=>by obtain⟨⟨o,h1,h2⟩,⟨o',h3,h4⟩⟩:=st;exact⟨⟨o,hk I (by simp) o h1,h2⟩,⟨o',hk a (by simp) o' h3,h4⟩⟩
 item:=λi s Q E hi st hQ=>by have hl:=(eQ (w.params.setOrder a ep) es).length_eq;rw[qW,qW]at hl;have hoi:(pickOrder (w.params.setOrder a ep) es)[i]?=some ((pickOrder (w.params.setOrder a ep) es)[i]'(by lia)):=getElem?_eq_getElem (by lia);refine lT (slot':=0) st.1 st.2 (λA E R hR=>fS st.2 hb (by rw[hoi];exact hR)) λh' hit' hs'=>?_;exact hQ _ h' s.toks ⟨_,by rw[q5];exact hoi,rfl⟩ ⟨hit',st.2.same hs' ha⟩ λb o hb e=>hs'.extBut b o (λz=>hb (by simp[z])) e
 done:=λs Q E st hQ=>by have hl:=(eQ (w.params.setOrder a ep) es).length_eq;rw[qW,qW]at hl;exact pI hh st.1 st.2 (λA E R hR=>fS st.2 hb (by rw[Array.getElem?_eq_none (by lia)];exact hR)) λh' he'=>hQ h' s.toks λb o hb e=>he' b o (λz=>hb (by simp[z])) e
 self:=λ_ _ _ _ st hQ=>iG st.1 hQ
def lH(hh:A.handled=none)(hb:w.params.followText "set-order"=false)(hnd:¬(!t.plain&&decide (es.size>1))=true)(hl:t.led=true)(hr:Rising t.place)(hz:t.place.size=es.size)(ha:a≠I):
  Walks prog w A I [I,a] [I] es.size (iZ es.toList) (λi h=>∃slot:Nat,sA h I a (.int slot 0) i es.size ep/\below t.place slot=i/\SetAt h a es ep t) where
 sub:=λb hb=>by rw[qv.mp hb];simp
 frame:=λi h h' st hk=>by obtain⟨sl,⟨o,h1,h2⟩,hbl,⟨o',h3,h4⟩⟩:=st;exact⟨sl,⟨o,hk I (by simp) o h1,h2⟩,hbl,⟨o',hk a (by simp) o' h3,h4⟩⟩
 item:=λi s Q E hi st hQ=>by
  obtain⟨sl,hit,hbl,hs⟩:=st;have hi':i<t.place.size:=by lia
  refine lT (slot':=t.place[i]+1) (v:=es[i].2) hit hs (λA E R hR=>eY hs hb hnd hl (by rw[hbl,getElem?_eq_getElem hi,getElem?_eq_getElem hi'];exact hR)) λh' hit' hs'=>?_;exact hQ _ h' s.toks ⟨es[i],by rw[q5];exact getElem?_eq_getElem hi,rfl⟩ ⟨_,hit',nO hr hi',hs.same hs' ha⟩ λb o hb e=>hs'.extBut b o (λz=>hb (by simp[z])) e
 done:=λs Q E st hQ=>by obtain⟨sl,hit,hbl,hs⟩:=st;exact pI hh hit hs (λA E R hR=>eY hs hb hnd hl (by rw[hbl,Array.getElem?_eq_none (zc _)];exact hR)) λh' he'=>hQ h' s.toks λb o hb e=>he' b o (λz=>hb (by simp[z])) e
 self:=λ_ _ _ _ st hQ=>by obtain⟨sl,hit,_⟩:=st;exact iG hit hQ
def nK:entryFor table "set.__iter__"=some Builtin.«frozenset.__iter__»:=
 entryFor_alias (id':="frozenset.__iter__") (by kernel_rfl) rfl (by decide+kernel) (by kernel_rfl)
def lt_of_get{h:Heap}(e:h.get? b=some o):b<h.objs.size:=Nat.lt_of_not_le λz=>by
 have:h.get? b=none:=by unfold Heap.get?;rw[Array.getElem?_eq_none z]
 rw[this]at e;cases e
def lR(es:Array (Int×Value))(j:Nat):Int×Value:=(es[j]?).getD (0,.none)
def rE(es:Array (Int×Value)):(List.range es.size).map (lR es)=es.toList:=by refine List.ext_getElem (by simp) λi h1 h2=>?_;simp only[qp,qE]at h1;rw[List.getElem_map,List.getElem_range];unfold lR;rw[getElem?_eq_getElem h1];rfl
def uX(hT:s.TypeIs (.ref a) "set")(hs:SetAt s.heap a es ep t)(hr:Rising t.place)(hz:t.place.size=es.size)(hled:w.params.followText "set-order"=false->t.led=true)(hn:es.size<=300)
  (hQ:∀(I:Addr)(h':Heap)(d:Drawn)(ord:List (Int×Value))(fp:List Addr)(St:Nat->Heap->Prop),ord.Perm es.toList->(∀A':Around,A'.handled=none->Walks prog w A' I fp [I] es.size (iZ ord) St)->St 0 h'->I∈fp->
   (∀b∈fp,(b=a\/s.heap.objs.size<=b)/\b<h'.objs.size)->(∀b o,s.heap.get? b=some o->h'.get? b=some o)->s.heap.objs.size<=I->Q (.ref I) {s with heap:=h',drawn:=d}):wpAny (model prog w) A (pyIter (.ref a)) Q E s:=by
 obtain⟨o',ho',hd',hf⟩:=id hs;have halt:=lt_of_get ho';refine wpAny_pyIter_slot hT F.slot_set_iter (zo F.slot_set_iter hT nK ?_ (F.args_set_iter_1 _));unfold Builtin.«frozenset.__iter__» Builtin.Frozenset.slot0 slotArgs;simp only[isEmpty_nil,Bool.not_true,false_eq_true,↓reduceIte,bind_assoc,qw,bne_self_eq_false];unfold Builtin.Frozenset.addrOf Builtin.Frozenset.sizeOf;refine qa (qb ?_);try dsimp only
 refine qa (qb ?_);refine qa (qa (wpAny_setEntries_of ho' hd' hf (qb ?_)));unfold setDrawn;refine qa (qa (wpAny_setState_of ho' hd' hf ?_));dsimp only;refine qa (cA (qb ?_));have hk:∀(h:Heap)(o:Obj)(b:Addr)(o2:Obj),h.get? b=some o2->(h.push o).get? b=some o2:=λh o b o2 e=>qc _ e;show wpAny _ _ (if(!w.params.followText "set-order"&&(!t.plain&&decide (es.size>1)))=true then _ else _) _ _ _;by_cases hc:(!w.params.followText "set-order"&&(!t.plain&&decide (es.size>1)))=true
 .rw[q8 hc];refine qa (iW es.size (by simp) λys d hp=>?_);have hyl:ys.length=es.size:=by rw[hp.length_eq];simp
  have hylt:∀j∈ys,j<es.size:=λj hj=>qK.mp (hp.mem_iff.mp hj);refine qa (wpAny_newTuple ?_ (by rw[qp,hyl];exact le_trans hn (by decide)));unfold setEpoch;refine qa (qa (wpAny_setState_of (hk _ _ _ _ ho') hd' hf (qb ?_)));refine qa (zm (qb ⟨_,rfl,"set_iterator",_,⟨_,qd _ rfl,rfl⟩,slot_next.lookup,?_⟩) (by size_fits));have g1:∀j,j<es.size->es[j]?=some (lR es j):=λj hj=>by unfold lR;rw[getElem?_eq_getElem hj];rfl
  have hpo:(s.heap.push {cls:=.type "tuple",data:=.seq (ys.map λi:Nat=>rawInt (i:Int)).toArray}).get? s.heap.objs.size=some {cls:=.type "tuple",data:=.seq (ys.map λi:Nat=>rawInt (i:Int)).toArray}:=qd _ rfl;refine hQ _ _ d (ys.map (lR es)) [_,a,s.heap.objs.size] _ ((hp.map _).trans (by rw[rE])) (λA' hA=>lI (ep:=ep) (t:=t) (ys:=ys) hA (by rw[qp,hyl]) hyl (λi j hj=>⟨?_,hylt j (qN hj)⟩) ?_ ?_) ⟨⟨_,qd _ rfl,rfl,rfl⟩,⟨_,hk _ _ _ _ (hk _ _ _ _ ho'),hd',hf⟩,⟨_,_,hk _ _ _ _ hpo,rfl⟩⟩ (by simp) (λb hb=>?_) (λb o e=>hk _ _ _ _ (hk _ _ _ _ e)) ?_
  .rw[qG,hj];exact g1 j (hylt j (qN hj))
  .rw[Heap.size_push];exact ne_of_lt (lt_succ_of_lt halt)
  .rw[Heap.size_push];exact ne_of_lt (lt_succ_self _)
  .rw[Heap.size_push,Heap.size_push];rw[Heap.size_push]at hb;rcases qC.mp hb with rfl|hb
   .exact⟨.inr (le_succ _),lt_succ_self _⟩
   .rcases qC.mp hb with rfl|hb
    .exact⟨.inl rfl,lt_succ_of_lt (lt_succ_of_lt halt)⟩
    .rw[qv.mp hb];exact⟨.inr (zc _),lt_succ_of_lt (lt_succ_self _)⟩
  .rw[Heap.size_push];exact le_succ _
 .rw[q9 hc];refine qa (qb ?_);unfold setEpoch;refine qa (qa (wpAny_setState_of ho' hd' hf (qb ?_)));refine qa (zm (qb ⟨_,rfl,"set_iterator",_,⟨_,qd _ rfl,rfl⟩,slot_next.lookup,?_⟩) (by size_fits));have hne:a≠s.heap.objs.size:=ne_of_lt halt;have hfp:∀(o:Obj),∀b∈[s.heap.objs.size,a],(b=a\/s.heap.objs.size<=b)/\b<(s.heap.push o).objs.size:=λo b hb=>by
   rw[Heap.size_push];rcases qC.mp hb with rfl|hb
   .exact⟨.inr (zc _),lt_succ_self _⟩
   .rw[qv.mp hb];exact⟨.inl rfl,lt_succ_of_lt halt⟩
  by_cases hb:w.params.followText "set-order"=true
  .exact hQ _ _ s.drawn _ [_,a] _ (eQ (w.params.setOrder a ep) es) (λA' hA=>mO (ep:=ep) (t:=t) hA hb hne) ⟨⟨_,qd _ rfl,rfl,rfl⟩,⟨_,hk _ _ _ _ ho',hd',hf⟩⟩ (by simp) (hfp _) (λb o e=>hk _ _ _ _ e) (zc _)
  .have hb':w.params.followText "set-order"=false:=by simpa using hb
   exact hQ _ _ s.drawn _ [_,a] _ (.refl _) (λA' hA=>lH (ep:=ep) (t:=t) hA hb' (λz=>hc (by rw[hb',z];rfl)) (hled hb') hr hz hne) ⟨0,⟨_,qd _ rfl,rfl,rfl⟩,nN hr,⟨_,hk _ _ _ _ ho',hd',hf⟩⟩ (by simp) (hfp _) (λb o e=>hk _ _ _ _ e) (zc _)
def rK(hn:ord.length=n)(h:ItemsOf (iZ ord) zZ n):zZ.toList=ord.map (·.2):=by
 refine ext_getElem? λi=>?_;rw[q5,qG];rcases lt_or_ge i n with hi|hi
 .have h1:zZ[i]?=some (zZ[i]'(by rw[h.1];exact hi)):=getElem?_eq_getElem _;obtain⟨e,he,hv⟩:=h.2 i _ h1;rw[h1,he,hv];rfl
 .rw[Array.getElem?_eq_none (by rw[h.1];exact hi),qR (by rw[hn];exact hi)];rfl
def mC(hh:A.handled=none)(hT:s.TypeIs (.ref a) "set")(hs:SetAt s.heap a es ep t)(hr:Rising t.place)(hz:t.place.size=es.size)(hled:w.params.followText "set-order"=false->t.led=true)(hn:es.size<=300)
  (hQ:∀(s':Shared)(ord:List (Int×Value)),ord.Perm es.toList->(∀b o,s.heap.get? b=some o->s'.heap.get? b=some o)->s'.gens=s.gens->s'.os=s.os->s.toks<=s'.toks->Q (ord.map (·.2)) s'):wpAny (model prog w) A (collect (.ref a)) Q E s:=by
 obtain⟨o',ho',hd',hf⟩:=id hs;have halt:=lt_of_get ho';unfold collect;refine qa (wpAny_runValue (codeAny_builtin F.entry_proto_collect ?_));rw[Around.under_plainId F.plain_proto_collect _];show wpAny _ A.in1 (newList []>>=λl=>again (.builtin "list.__iadd__" ⟨[l,.ref a],[]⟩)) _ _ s;refine qa (zm ?_);refine qb ⟨plainId_quiet F.plain_list_iadd _,codeAny_builtin F.entry_list_iadd ?_⟩;rw[Around.under_plainId F.plain_list_iadd _];have hS₁:(s.heap.push {cls:=.type "list",data:=.seq ([]:List Value).toArray}).get? s.heap.objs.size=some {cls:=.type "list",data:=.seq ([]:List Value).toArray}:=qd _ rfl;have h1:Builtin.List.listSameRef (.ref s.heap.objs.size) (.ref a)=false:=by simp[Builtin.List.listSameRef];exact(ne_of_gt halt)
 have hs1:SetAt (s.heap.push {cls:=.type "list",data:=.seq ([]:List Value).toArray}) a es ep t:=⟨o',qc _ ho',hd',hf⟩
 have hT1:Shared.TypeIs {s with heap:=s.heap.push {cls:=.type "list",data:=.seq ([]:List Value).toArray}} (.ref a) "set":=by obtain⟨o2,e1,e2⟩:=hT;exact⟨o2,qc _ e1,e2⟩
 show wpAny _ A.in1 (Builtin.List.listExtendWith (.ref s.heap.objs.size) (.ref a) (.ref s.heap.objs.size)) _ _ _;unfold Builtin.List.listExtendWith;refine qa (wpAny_typeOf hT1 ?_);rw[q9 (by rw[h1];decide)];refine qa (uX hT1 hs1 hr hz hled hn λI h' d ord fp St hp W st0 hI hfp hext hIs=>?_);have hT2:Shared.TypeIs {s with heap:=h',drawn:=d} (.ref a) "set":=by obtain⟨o2,e1,e2⟩:=hT1;exact⟨o2,hext _ _ e1,e2⟩
 refine qa (zt ?_);unfold Builtin.List.listLengthHint;refine qa (wpAny_specialOf hT2 F.slot_set_len.lookup ?_);generalize hid:("set.__len__":String)=id0
 wp_delta
 rw[show splitId id0=some ("set","__len__") from by subst hid;decide+kernel];subst hid;refine qa (wpAny_isInstance (b:=true) hT2 (by rw[isSubtype_type];kernel_rfl) ?_);refine qa (wpAny_typeOf hT2 ?_);refine qb ?_;have hS₂:=hext _ _ hS₁;have WS:=(W A.in1 hh).toS;show wpAny _ A.in1 (rule "list.extend.makes-room">>=λ_=>Builtin.List.listTouch (.ref s.heap.objs.size)>>=λ_=>again (.builtin "list.extend.loop" ⟨[.ref s.heap.objs.size,.ref I,.ref s.heap.objs.size],[]⟩)) _ _ _
 refine qa (wpAny_rule ?_);refine qa ?_;show wpAny _ A.in1 (updateSeq s.heap.objs.size (·.push .none)>>=λ_=>updateSeq s.heap.objs.size (·.pop)) _ _ _;refine qa (wpAny_updateSeq hS₂ rfl ?_);have hS₃:=zj (Obj.mapSeq (·.push Value.none)) hS₂ rfl;refine wpAny_updateSeq (hz:=by seq_fits) hS₃ rfl ?_;have hS₄:=zj (Obj.mapSeq (·.pop)) hS₃ rfl;have oth:∀b o,b≠s.heap.objs.size->h'.get? b=some o->((h'.update s.heap.objs.size (Obj.mapSeq (·.push Value.none))).update s.heap.objs.size (Obj.mapSeq (·.pop))).get? b=some o:=
  λb o hb e=>(zi _ _ (Ne.symm hb)).trans ((zi _ _ (Ne.symm hb)).trans e)
 have hSf:s.heap.objs.size∉fp:=λhm=>by
  rcases(hfp _ hm).1 with z|z
  .exact ne_of_gt halt z
  .rw[Heap.size_push]at z;exact Nat.not_succ_le_self _ z
 have hsz:es.size<=sizeLine:=le_trans hn (by decide);refine qb ⟨plainId_quiet F.plain_extend_loop _,codeAny_extend_loopS WS hsz _ hSf _ es.size 0 _ _ _ rfl (zero_le _) ((W A.in1 hh).frame 0 _ _ st0 λb hb o e=>oth b o (λz=>hSf (z▸hb)) e) hS₄ (ItemsOf.nil _) λs' acc' c' hm hS' hacc=>?_⟩;show wpAny _ A (load s.heap.objs.size>>=_) _ _ s';refine qa (wpAny_load hS' ?_);refine qb ?_;rw[rK (by rw[hp.length_eq,qW]) hacc];refine hQ s' ord hp (λb o e=>?_) hm.gens hm.os hm.toks;have hb:=lt_of_get e;refine hm.heap b o (λz=>?_) (oth b o (ne_of_lt hb) (hext _ _ (qc _ e)));rcases qC.mp z with z|z
 .exact ne_of_lt hb z
 .rw[qv.mp z]at hb;rw[Heap.size_push]at hIs;exact lt_irrefl _ (lt_of_lt_of_le hb (le_trans (le_succ _) hIs))
end ST
namespace ST
open PySem PySem.SetTable PyProof.Rows
section
variable{prog:Program}{w:World}{A:Around}{E:zw}{s:Shared}{I a p:Addr}{es:Array (Int×Value)}{ep i slot:Nat}{t:SetTable}{ys:List Nat}{h h':Heap}
def sorted_set(hh:A.handled=none)(hT:s.TypeIs (.ref a) "set")(hs:SetAt s.heap a es ep t)(hr:Rising t.place)(hz:t.place.size=es.size)(hled:w.params.followText "set-order"=false->t.led=true)(hn:es.size<=300)
  (k:∀(s1:Shared)(ord:List (Int×Value)),ord.Perm es.toList->(∀b o,s.heap.get? b=some o->s1.heap.get? b=some o)->s1.gens=s.gens->s1.os=s.os->s.toks<=s1.toks->
   (s1.heap.push (seqObj "list" (ord.map (·.2)).toArray 0)).get? s1.heap.objs.size=some (seqObj "list" (ord.map (·.2)).toArray 0)->
   wpAny (model prog w) A.in1.in1 (Builtin.«list.sort» ⟨[.ref s1.heap.objs.size],[]⟩) (λfin s2=>∃r,fin=.done (.ret r)/\Q (.ref s1.heap.objs.size) s2) E {s1 with heap:=s1.heap.push (seqObj "list" (ord.map (·.2)).toArray 0)}):
  wpAny (model prog w) A (call (.builtin "sorted") [.ref a]) Q E s:=by
 refine Calls.call_function_entry kind_sorted plain_sorted entry_sorted (args_sorted1 _) (?_:wpAny _ _ _ _ _ _);unfold Builtin.«sorted»;refine qa (m:=checkCount "sorted" 1 1 _) (qb (qa (mC hh hT hs hr hz hled hn λs1 ord hp hx hg ho ht=>?_)));have hsz:ord.length<=sizeLine:=by rw[hp.length_eq,qW];exact le_trans hn (by decide)
 refine qa (wpAny_newList ?_ (by rw[qp];exact hsz));have new:(s1.heap.push (seqObj "list" (ord.map (·.2)).toArray 0)).get? s1.heap.objs.size=some (seqObj "list" (ord.map (·.2)).toArray 0):=qd _ rfl;refine qa (zt (zo slot_list_sort ⟨_,new,rfl⟩ entry_list_sort (zv (k s1 ord hp hx hg ho ht new) ?_ λe s' z=>z) (args_list_sort _)));rintro fin s2 ⟨r,rfl,q⟩;exact⟨_,rfl,qb ⟨_,rfl,q⟩⟩
end
def AU:Value->Int
 |.int n _=>n
 |_=>0
def ints_map(h:IntsAre vs ns):ns=vs.map AU/\∀v∈vs,∃n t,v=.int n t:=by
 induction h with
 |nil=>exact⟨rfl,λv hv=>nomatch hv⟩
 |cons n t _ ih=>refine⟨by rw[qA,<-ih.1];rfl,λv hv=>?_⟩;grind
def pF:∀{vs:List Value},(∀v∈vs,∃n t,v=.int n t)->IntsAre vs (vs.map AU)
 |[],_=>.nil
 |v::vs,h=>by obtain⟨n,t,rfl⟩:=h v qo;exact .cons n t (pF λu hu=>h u (qm _ hu))
def rL(h:IntsAre vs ns)(hp:us.Perm vs):∃ms,IntsAre us ms/\ms.Perm ns:=by obtain⟨rfl,h2⟩:=ints_map h;exact⟨_,pF λv hv=>h2 v (hp.mem_iff.mp hv),hp.map _⟩
def sortedHeap_at(ho:h.get? a=some (seqObj "list" vs.toArray n))(out:Array Value):∃e,(sortedHeap h a vs out).get? a=some (seqObj "list" out e):=
 ⟨_,get?_update_seq (qc _ (qc _ (get?_update_seq ho _))) _⟩
def sortedHeap_old(hne:b≠a)(ho:h.get? b=some o)(out:Array Value):(sortedHeap h a vs out).get? b=some o:=
 (zi _ _ (Ne.symm hne)).trans (qc _ (qc _ ((zi _ _ (Ne.symm hne)).trans ho)))
section
variable{prog:Program}{w:World}{A:Around}{E:zw}{s:Shared}{a:Addr}{es:Array (Int×Value)}{ep:Nat}{t:SetTable}
def sorted_set_ints(hh:A.handled=none)(hT:s.TypeIs (.ref a) "set")(hs:SetAt s.heap a es ep t)(hr:Rising t.place)(hz:t.place.size=es.size)(hled:w.params.followText "set-order"=false->t.led=true)(hn:es.size<64)
  (hI:IntsAre (es.toList.map (·.2)) ns)
  (k:∀(s2:Shared)(D:Addr)(out:Array Value)(e:Nat)(ns':List Int),IntsAre out.toList ns'->ns'.Perm ns->ns'.Pairwise (·<=·)->s2.heap.get? D=some (seqObj "list" out e)->s.heap.get? D=none->(∀b o,s.heap.get? b=some o->s2.heap.get? b=some o)->
   s2.gens=s.gens->s2.os=s.os->s.toks<=s2.toks->Q (.ref D) s2):wpAny (model prog w) A (call (.builtin "sorted") [.ref a]) Q E s:=by
 refine sorted_set hh hT hs hr hz hled (by lia) λs1 ord hp hx hg ho ht new=>?_;obtain⟨ms,hm,hpm⟩:=rL hI (hp.map _);have hl:(ord.map (·.2)).length<64:=by rw[qp,hp.length_eq,qW];exact hn
 refine list_sort_tree new hm hl λout ns' a1 a2 a3=>⟨_,rfl,?_⟩
 obtain⟨e,he⟩:=sortedHeap_at new out;have hle:s.heap.get? s1.heap.objs.size=none:=by
  cases q:s.heap.get? s1.heap.objs.size with
  |none=>rfl
  |some o=>exact absurd (lt_of_get (hx _ _ q)) (lt_irrefl _)
 exact k _ _ out e ns' a1 (a2.trans hpm) a3 he hle (λb o q=>sortedHeap_old (ne_of_lt (lt_of_get (hx b o q))) (qc _ (hx b o q)) out) hg ho ht
end
def textOf:Value->Str
 |.str x _=>x
 |_=>Str.empty
def strs_map(h:StrsAre vs ss):ss=vs.map textOf/\∀v∈vs,∃x t,v=.str x t:=by
 induction h with
 |nil=>exact⟨rfl,λv hv=>nomatch hv⟩
 |cons n t _ ih=>refine⟨by rw[qA,<-ih.1];rfl,λv hv=>?_⟩;grind
def oM:∀{vs:List Value},(∀v∈vs,∃x t,v=.str x t)->StrsAre vs (vs.map textOf)
 |[],_=>.nil
 |v::vs,h=>by obtain⟨n,t,rfl⟩:=h v qo;exact .cons n t (oM λu hu=>h u (qm _ hu))
def pY(h:StrsAre vs ss)(hp:us.Perm vs):∃ms,StrsAre us ms/\ms.Perm ss:=by obtain⟨rfl,h2⟩:=strs_map h;exact⟨_,oM λv hv=>h2 v (hp.mem_iff.mp hv),hp.map _⟩
section
variable{prog:Program}{w:World}{A:Around}{E:zw}{s:Shared}{a:Addr}{es:Array (Int×Value)}{ep:Nat}{t:SetTable}
def sorted_set_strs(hh:A.handled=none)(hT:s.TypeIs (.ref a) "set")(hs:SetAt s.heap a es ep t)(hr:Rising t.place)(hz:t.place.size=es.size)(hled:w.params.followText "set-order"=false->t.led=true)(hn:es.size<64)
  (hI:StrsAre (es.toList.map (·.2)) ss)
  (k:∀(s2:Shared)(D:Addr)(out:Array Value)(e:Nat)(ss':List Str),StrsAre out.toList ss'->ss'.Perm ss->sortedS ss'=true->s2.heap.get? D=some (seqObj "list" out e)->s.heap.get? D=none->(∀b o,s.heap.get? b=some o->s2.heap.get? b=some o)->
   s2.gens=s.gens->s2.os=s.os->s.toks<=s2.toks->Q (.ref D) s2):wpAny (model prog w) A (call (.builtin "sorted") [.ref a]) Q E s:=by
 refine sorted_set hh hT hs hr hz hled (by lia) λs1 ord hp hx hg ho ht new=>?_;obtain⟨ms,hm,hpm⟩:=pY hI (hp.map _);have hl:(ord.map (·.2)).length<64:=by rw[qp,hp.length_eq,qW];exact hn
 refine list_sort_treeK strKind_oneLt new hm.keysOf (λv₁ v₂ rest e=>keyKind_strs (by rw[<-e];exact hm)) hl λst' a1 a2=>⟨_,rfl,?_⟩
 obtain⟨ss',b1,b2,b3⟩:=sorted_out_str hm a1 a2;obtain⟨e,he⟩:=sortedHeap_at new ((arrOf st').map (·.2));have hle:s.heap.get? s1.heap.objs.size=none:=by
  cases q:s.heap.get? s1.heap.objs.size with
  |none=>rfl
  |some o=>exact absurd (lt_of_get (hx _ _ q)) (lt_irrefl _)
 exact k _ _ _ e ss' b1 (b2.trans hpm) b3 he hle (λb o q=>sortedHeap_old (ne_of_lt (lt_of_get (hx b o q))) (qc _ (hx b o q)) _) hg ho ht
def TSet.at{K:Type}[DecidableEq K]{knd:HeapKind prog w K}{ld:Bool}{h:Heap}{xs:List (K×Addr)}(x:TSet ld knd h a xs):∃es ep t,SetAt h a es ep t/\Rising t.place/\t.place.size=es.size/\t.led=ld/\es.toList.map (·.2)=xs.map λp=>Value.ref p.2:=by
 obtain⟨o,es,ep,t,ho,hex,hd,hld,T,hrm,he,his,hnd⟩:=x;refine⟨es,ep,t,⟨o,ho,hd,T.fits (by simp)⟩,T.ris,?_,hld,?_⟩
 .rw[T.size];simp
 .rw[he];unfold cQ;rw[qF];rfl
end
end ST
namespace ST
open PySem PySem.SetTable
section
variable{prog:Program}{w:World}{A:Around}{E:zw}{s:Shared}{a b:Addr}{K:Type}[DecidableEq K]{knd:KeyKind prog w K}{ks:List K}{ld:Bool}{xs:List (List K×Addr)}
def bX{knd:HeapKind prog w K}{xs:List (K×Addr)}(hS:TSet ld knd s.heap a xs):s.TypeIs (.ref a) "set":=let⟨o,_,_,_,ho,hex,_⟩:=hS;⟨o,ho,hex.1⟩
end
def eO(n:Nat):Rising (Array.range n):=by rw[ris_list];simp[pairwise_lt_range]
def pH(hr:Rising t.place)(hd:t.dummies=#[]):∀(fuel:Nat)(p:Probe){j:Nat}{d:Option Nat},p.dummy=none->probe.go t hashAt h fuel p=some (.empty j d)->d=none/\t.slot j=.empty
 |0,_,_,_,_,e=>by cases e
 |fuel+1,p,j,d,hp,e=>by
  rw[probe.go]at e;have adv:(t.advance p).dummy=none:=by
   unfold advance;split
   .exact hp
   .exact hp
  rcases bY hr hd p.j with⟨z,_⟩|⟨i,hi,_,z⟩
  .rw[z]at e;cases e;exact⟨hp,z⟩
  .rw[z]at e;dsimp only at e;split at e
   .cases e
   .exact pH hr hd fuel _ adv e
def uL{mask finger moves:Nat}{led plain:Bool}(e:laid mask finger moves led plain hs=some (t',order)):Rising t'.place/\t'.dummies=#[]/\t'.led=led:=by
 unfold laid at e;cases q:layClean mask hs with
 |none=>rw[q]at e;cases e
 |some owner=>rw[q]at e;cases e;refine⟨?_,rfl,rfl⟩;rw[ris_list];dsimp only;rw[pairwise_map,List.pairwise_filterMap];refine List.Pairwise.imp (λ{a b} hab x hx y hy=>?_) pairwise_lt_range;obtain⟨_,_,rfl⟩:=qZ.mp hx;obtain⟨_,_,rfl⟩:=qZ.mp hy;exact hab
structure WTab(t:SetTable)(n:Nat)(ld:Bool):Prop where
 ris:Rising t.place
 dum:t.dummies=#[]
 fit:t.fits n=true
 ldd:t.led=ld
def uJ(T:WTab t es.size ld):WTab (layNew t es h x).2.1 (layNew t es h x).1.size ld:=by
 refine⟨?_,?_,layNew_fits t es h x,?_⟩;all_goals
  unfold layNew;split
 .rename_i slot wd e;dsimp only;unfold orStandIn;split
  .unfold freeSlot at e;split at e
   .rename_i j d q;cases e;obtain⟨rfl,z⟩:=pH T.ris T.dum _ (t.probeStart h) rfl q;show Rising (t.put j).1.place;rw[(eP T.dum).1];rcases bY T.ris T.dum j with⟨_,y⟩|⟨i,hi,_,y⟩
    .exact iR T.ris y
    .rw[z]at y;cases y
   .cases e
  .exact eO _
 .exact eO _
 .dsimp only;unfold orStandIn;split
  .exact(eP T.dum).2.2.1
  .rfl
 .rfl
 .dsimp only;unfold orStandIn;split
  .exact T.ldd
  .exact T.ldd
 .exact T.ldd
def mT(T:WTab t m ld):WTab (relayAll t es n).2.1 (relayAll t es n).1.size ld:=by
 refine⟨?_,?_,relayAll_fits t es n,?_⟩;all_goals
  unfold relayAll;split
 all_goals first
  |(rename_i t' order e;dsimp only;obtain⟨a,b,c⟩:=uL e;split
    .first|exact a|exact b|exact c.trans T.ldd
    .first|exact eO _|rfl|exact T.ldd)
  |exact eO _
  |rfl
  |exact T.ldd
def mY(T:WTab t n ld):WTab {t with plain:=p} n ld:=⟨T.ris,T.dum,by have:=T.fit;cases t;exact this,T.ldd⟩
section
variable{prog:Program}{w:World}{A:Around}{E:zw}{s:Shared}{a:Addr}{K:Type}[DecidableEq K]{knd:KeyKind prog w K}{xs:List (K×Value)}
def iV(knd:KeyKind prog w K)(xs:List (K×Value)):List (Int×Value):=xs.map λp=>(knd.hash p.1,p.2)
def VSet(ld:Bool)(knd:KeyKind prog w K)(h:Heap)(a:Addr)(xs:List (K×Value)):Prop:=∃o es ep t,h.get? a=some o/\o.ExactSet/\o.data=.set es ep t/\WTab t es.size ld/\es.toList=iV knd xs/\(∀p∈xs,knd.is p.1 p.2=true/\p.2.scannable=true)/\(xs.map (·.1)).Nodup
def jX(h:l.Perm (iV knd xs)):∃ys,ys.Perm xs/\l=iV knd ys:=by
 unfold iV at h;induction l generalizing xs with
 |nil=>
  have hx:xs=[]:=by simpa using h.length_eq.symm
  subst hx;exact⟨[],.refl _,rfl⟩
 |cons e l ih=>obtain⟨x,hx,rfl⟩:=qL.mp (h.mem_iff.mp qo);obtain⟨l1,l2,rfl⟩:=append_of_mem hx;rw[map_append,qA]at h;obtain⟨ys,p,rfl⟩:=ih (xs:=l1++l2) (by rw[map_append];exact(h.trans perm_middle).cons_inv);exact⟨x::ys,(List.Perm.cons x p).trans perm_middle.symm,rfl⟩
def Ad{es:Array (Int×Value)}(he:es.toList=iV knd xs)(hk:∀p∈xs,knd.is p.1 p.2=true/\p.2.scannable=true):ElemsOf knd es.toList:=λe hm=>by rw[he]at hm;obtain⟨p,hp,rfl⟩:=qL.mp hm;exact⟨⟨p.1,(hk p hp).1,rfl⟩,(hk p hp).2⟩
def mE{g:Bool->Sem Unit}(hg:∀(b:Bool)(s₁:Shared)(Q':Unit->Shared->Prop),Q' () s₁->wpAny (model prog w) A (g b) Q' E s₁)(ho:s.heap.get? a=some o)(hex:o.ExactSet)(hd:o.data=.set es ep t)
  (T:WTab t2 es1.size ld)(he:es1.toList=iV knd ys)(hk:∀p∈ys,knd.is p.1 p.2=true/\p.2.scannable=true)(hnd:(ys.map (·.1)).Nodup)(hz:ys.length<=1000)
  (h:∀h' zs,Heap.SameBut a s.heap h'->zs.Perm ys->VSet ld knd h' a zs->R (some true) {s with heap:=h'}):
  wpAny (model prog w) A (do
    storeSet a es1 t2
    if(!wd&&t2.tooFull)=true then do
       g (relayAll t2 es1 (grown es1.size)).2.2
       storeSet a (relayAll t2 es1 (grown es1.size)).1 (relayAll t2 es1 (grown es1.size)).2.1
       pure (some true)
     else pure (some true)) R E s:=by
 have hz1:es1.size<=sizeLine:=by rw[<-qW,he];unfold iV;rw[qp,zp];lia
 refine qa (wpAny_storeSet_of ho hd ?_ hz1);have ho1:=cU (es':=es1) (t':=t2) ho hd;have sb1:=Heap.SameBut.update s.heap a (Obj.putSet es1 t2);split
 .have hp:=relayAll_perm t2 es1 (grown es1.size);have T2:=mT (es:=es1) (n:=grown es1.size) T;generalize relayAll t2 es1 (grown es1.size)=R3 at hp T2⊢;obtain⟨es2,t3,gave⟩:=R3;dsimp only at hp T2⊢;rw[he]at hp;obtain⟨zs,pz,ez⟩:=jX hp;have hz2:es2.size<=sizeLine:=by rw[<-qW,ez];unfold iV;rw[qp,pz.length_eq,zp];lia
  refine qa (hg _ _ _ (qa (wpAny_storeSet_of ho1 rfl (qb ?_) hz2)));exact h _ zs (sb1.trans (Heap.SameBut.update _ a _)) pz ⟨_,es2,_,t3,cU ho1 rfl,hex,rfl,T2,ez,λp hp=>hk p (pz.mem_iff.mp hp),(pz.map _).nodup_iff.mpr hnd⟩
 .exact qb (h _ ys sb1 (.refl _) ⟨_,es1,_,t2,ho1,hex,rfl,T,he,hk,hnd⟩)
def KZ(hkey:knd.is k x=true)(hsc:x.scannable=true)(hS:VSet ld knd s.heap a xs)(hroom:xs.length<=150)
  (h1:k∈xs.map (·.1)->Q false s)(h2:k∉xs.map (·.1)->∀h' ys,Heap.SameBut a s.heap h'->ys.Perm ((k,x)::xs)->VSet ld knd h' a ys->Q true {s with heap:=h'}):
  wpAny (model prog w) A (setAddHashed a x (knd.hash k)) Q E s:=by
 obtain⟨o,es,ep,t,ho,hex,hd,T,he,hk,hnd⟩:=hS;have hel:=Ad he hk;have zX:es.size=xs.length:=by rw[<-qW,he];simp[iV]
 have hb:es.size<scanBound:=by show es.size<4096;lia
 unfold setAddHashed setAddHashedIn;refine zt (qa (wpAny_setState_of ho hd T.fit ?_));dsimp only;rw[byScan_of hsc hb hel];simp only[if_true];unfold setAddByScan;refine qa (qa (wpAny_rule (qa (wpAny_setScan_of hkey ho hd T.fit hel ?_))));have key:∀p∈xs,knd.is k p.2=true↔p.1=k:=λp hp=>⟨λz=>(knd.inj p.2 k p.1 z (hk p hp).1).symm,λz=>z▸(hk p hp).1⟩
 cases hr:List.findIdx? (λe=>knd.is k e.2) es.toList with
 |some j=>dsimp only;obtain⟨hj,hpj,_⟩:=List.findIdx?_eq_some_iff_getElem.mp hr;have hm:=getElem_mem hj;generalize es.toList[j]=e at hm hpj;rw[he]at hm;obtain⟨p,hp,rfl⟩:=qL.mp hm;exact qb (qb (h1 (qL.mpr ⟨p,hp,(key p hp).mp hpj⟩)))
 |none=>
  dsimp only;have hn:k∉xs.map (·.1):=λz=>by obtain⟨p,hp,e⟩:=qL.mp z;have q:=List.findIdx?_eq_none_iff.mp hr (knd.hash p.1,p.2) (by rw[he];exact qL.mpr ⟨p,hp,rfl⟩);rw[(key p hp).mpr e]at q;cases q
  have hperm:=layNew_perm t es (knd.hash k) x;have T1:=uJ (es:=es) (h:=knd.hash k) (x:=x) T;generalize layNew t es (knd.hash k) x=L at hperm T1⊢;obtain⟨es1,t1,wd,gave⟩:=L;dsimp only at hperm T1⊢;rw[Array.toList_push,he]at hperm;obtain⟨ys,py,ey⟩:=jX (knd:=knd) (xs:=(k,x)::xs) (hperm.trans (qO.trans (by unfold iV;exact .refl _)));have hky:∀p∈ys,knd.is p.1 p.2=true/\p.2.scannable=true:=λp hp=>by
   rcases qC.mp (py.mem_iff.mp hp)with rfl|z
   .exact⟨hkey,hsc⟩
   .exact hk p z
  have hny:(ys.map (·.1)).Nodup:=(py.map _).nodup_iff.mpr (qM.mpr ⟨hn,hnd⟩);have hzy:ys.length<=1000:=by rw[py.length_eq,qu];lia
  have gw:∀(b:Bool)(s₁:Shared)(Q':Unit->Shared->Prop),Q' () s₁->wpAny (model prog w) A (match b with|true=>rule "set.scan.the-table-gave-way"|false=>pure ()) Q' E s₁:=λb s₁ Q' q=>by
   cases b
   .exact qb q
   .exact wpAny_rule q
  have fin:∀h' zs,Heap.SameBut a s.heap h'->zs.Perm ys->VSet ld knd h' a zs->Q true {s with heap:=h'}:=λh' zs sb pz V=>h2 hn h' zs sb (pz.trans py) V;refine qa (gw gave _ _ ?_);split
  .refine qa ?_;rw[hashByValue_scannable 8 hsc];refine qb (mE gw ho hex hd (es1:=es1) (t2:=_) ?_ ey hky hny hzy λh' zs sb pz V=>qb (fin h' zs sb pz V));split
   .exact T1
   .exact mY T1
  .refine qa (qb ?_);simp only[if_true];exact mE gw ho hex hd T1 ey hky hny hzy λh' zs sb pz V=>qb (fin h' zs sb pz V)
def setAddV(hkey:knd.is k x=true)(hsc:x.scannable=true)(hS:VSet ld knd s.heap a xs)(hroom:xs.length<=150)
  (h1:k∈xs.map (·.1)->∀r,Q r {s with toks:=s.toks+1})(h2:k∉xs.map (·.1)->∀h' ys,Heap.SameBut a s.heap h'->ys.Perm ((k,x)::xs)->VSet ld knd h' a ys->∀r,Q r {s with heap:=h',toks:=s.toks+1}):
  wpAny (model prog w) A (setAdd a x) Q E s:=by
 unfold setAdd;refine zt (qa (knd.pyHash hkey ?_));exact KZ (s:={s with toks:=s.toks+1}) hkey hsc hS hroom (λhm=>h1 hm _) λhm h' ys sb pm T=>h2 hm h' ys sb pm T _
def VSet.at(x:VSet ld knd h a xs):∃es ep t,SetAt h a es ep t/\Rising t.place/\t.place.size=es.size/\t.led=ld/\es.toList.map (·.2)=xs.map (·.2):=by
 obtain⟨o,es,ep,t,ho,hex,hd,T,he,_⟩:=x;refine⟨es,ep,t,⟨o,ho,hd,T.fit⟩,T.ris,?_,T.ldd,?_⟩
 .have:=T.fit;unfold fits at this;grind
 .rw[he];unfold iV;rw[qF];rfl
end
end ST
namespace ST
open PySem PySem.SetTable PyProof.Rows
def freshSet(ld:Bool):Obj:={cls:=.type "set",dict:=none,data:=.set #[] 0 (.fresh 0 0 ld)}
def ldOf(w:World):Bool:=!w.params.followText "set-order"
def newSet_ok(h:Q (.ref s.heap.objs.size) {s with heap:=s.heap.push (freshSet (ldOf w))}):wpAny (model prog w) A (newSet (.type "set")) Q E s:=by unfold newSet setsByText;refine qa (qa (wpAny_askSetting (qb ?_)));dsimp only;simp only[newObj];exact qa (wpAny_alloc (qb h))
def jL(ld:Bool):gW (.fresh 0 0 ld) []:=by
 have hp:∀{i:Nat},i<(SetTable.fresh 0 0 ld).place.size->False:=λh=>by simp[SetTable.fresh]at h
 exact⟨λi j hi _ _=>(hp hi).elim,rfl,.inl rfl,rfl,λi hi=>(hp hi).elim,by simp,λi hi=>(hp hi).elim⟩
def vset_new{K:Type}[DecidableEq K]{knd:KeyKind prog w K}{ld:Bool}{h:Heap}{a:Addr}(e:h.get? a=some (freshSet ld)):VSet ld knd h a []:=
 ⟨_,#[],0,_,e,⟨rfl,rfl,rfl⟩,rfl,⟨(jL ld).ris,rfl,rfl,rfl⟩,rfl,λ_ z=>(nomatch z),.nil⟩
def tset_new{K:Type}[DecidableEq K]{knd:HeapKind prog w K}{ld:Bool}{h:Heap}{a:Addr}(e:h.get? a=some (freshSet ld)):TSet ld knd h a []:=
 ⟨_,#[],0,_,e,⟨rfl,rfl,rfl⟩,rfl,rfl,jL ld,(by show 0*5<7*3;decide),rfl,λ_ z=>(nomatch z),.nil⟩
def tH{St:Nat->Shared->Prop}(W:WalksS prog w A.in1 I fp wr G n P St)(S:Addr)(hSf:S∉fp){J:Nat->Heap->Prop}
  (stay:∀i h h',i<=n->J i h->(∀b o,b∉wr->h.get? b=some o->h'.get? b=some o)->J i h')
  (step:∀i v(s:Shared)(Q:Bool->Shared->Prop)(E:zw),i<n->P i v->J i s.heap->(∀h' tk r,s.toks<=tk->Heap.SameBut S s.heap h'->J (i+1) h'->Q r {s with heap:=h',toks:=tk})->wpAny (model prog w) A.in1 (setAdd S v) Q E s):
  ∀(k i:Nat)(s:Shared),n-i=k->i<=n->St i s->J i s.heap->(∀s',Moved (S::wr) G s s'->J n s'.heap->R (.ok (.ret .none)) s')->
   codeAny (model prog w) A (.builtin "set.update.loop" ⟨[.ref S,.ref I],[]⟩) R s:=by
 have hSw:S∉wr:=λh=>hSf (W.sub _ h);intro k;induction k with
 |zero=>
  intro i s hk hi st hJ hR;have e:i=n:=by lia
  subst e;refine codeAny_builtin F.entry_set_update_loop ?_;rw[Around.under_plainId F.plain_set_update_loop _];show wpAny _ A.in1 (pyNext (.ref I)>>=_) _ _ s;refine qa (W.done s _ _ st λs' hm=>?_);show wpAny _ A.in1 (ret Value.none) _ _ s';exact qb (hR s' (hm.mono λb hb=>qm _ hb) (stay _ _ _ (zc _) hJ hm.heap))
 |succ k ih=>
  intro i s hk hi st hJ hR;have hlt:i<n:=by lia
  refine codeAny_builtin F.entry_set_update_loop ?_;rw[Around.under_plainId F.plain_set_update_loop _];show wpAny _ A.in1 (pyNext (.ref I)>>=_) _ _ s;refine qa (W.item i s _ _ hlt st λv s' hP st' hm=>?_);show wpAny _ A.in1 (holding [v] (setAdd S v)>>=_) _ _ s';refine qa (zt (step i v s' _ _ hlt hP (stay _ _ _ hi hJ hm.heap) λh' tk r ht sb hJ'=>?_));refine qb ⟨plainId_quiet F.plain_set_update_loop _,ih (i+1) _ (by lia) hlt (W.frame _ s' _ _ st' ht λb hb o e=>?_) hJ' λs'' hm'' hJ''=>?_⟩
  .rw[sb.2 b (λz=>hSf (z▸hb))];exact e
  .refine hR s'' (Moved.trans W.gtrans ((hm.mono λb hb=>qm _ hb).then_heap ht λb o hb e=>?_) hm'') hJ'';rw[sb.2 b (λz=>hb (z▸qo))];exact e
def tN(x:Value)(h:Q (.ref s.heap.objs.size) {s with heap:=s.heap.push (freshSet (ldOf w))}):
  codeAny (model prog w) A (.call (.builtin "set.__new__") ⟨[.type "set",x],[]⟩) (wants Q E) s:=by
 refine codeAny_of_tree ?_;show wpAny _ A.in1 (do checkBuiltinCall "set.__new__" ⟨[.type "set",x],[]⟩;again (.builtin "set.__new__" ⟨[.type "set",x],[]⟩)) _ _ s;refine qa (zu (F.newCall_set_1 x) (qb ⟨plainId_quiet F.plain_set_new _,codeAny_builtin F.entry_set_new ?_⟩));rw[Around.under_plainId F.plain_set_new _];unfold Builtin.«set.__new__» Builtin.Frozenset.newClass;have hsub:=sub_set_self;obtain⟨hp,g,d,tk,os⟩:=s;dsimp only
 wp_walk
 refine wpAny_askSetting (qb ?_);dsimp only;simp only[newObj];refine qa (wpAny_alloc (qb ?_));exact qb h
def WalkOk(prog:Program)(w:World)(s:Shared)(x:Value)(n:Nat)(P:Nat->Value->Prop):Prop:=∀(A:Around)(E:zw)(s1:Shared)(Q:zw),(∀b o,s.heap.get? b=some o->s1.heap.get? b=some o)->
 (∀(o:Obj)(fp:List Addr)(St:Nat->Heap->Prop),(∀A:Around,A.handled=none->Walks prog w A s1.heap.objs.size fp [s1.heap.objs.size] n P St)->St 0 (s1.heap.push o)->(∀b∈fp,b=s1.heap.objs.size\/b<s.heap.objs.size)->Q (.ref s1.heap.objs.size) {s1 with heap:=s1.heap.push o})->
 wpAny (model prog w) A (pyIter x) Q E s1
def Fs(hT:s.TypeIs x T)(hs1:isSubtype (.type T) (.type "set")=pure false)(hs2:isSubtype (.type T) (.type "frozenset")=pure false)(h:Q false s):wpAny (model prog w) A (Builtin.Frozenset.isAnySet x) Q E s:=by unfold Builtin.Frozenset.isAnySet;refine qa (wpAny_isInstance hT hs1 ?_);exact wpAny_isInstance hT hs2 h
set_option maxHeartbeats 3200000 in
def call_set{J:Nat->Heap->Prop}(hh:A.handled=none)(hT:s.TypeIs x T)(hs1:isSubtype (.type T) (.type "set")=pure false)(hs2:isSubtype (.type T) (.type "frozenset")=pure false)(hne:(Value.type T==Value.type "dict")=false)
  (W:WalkOk prog w s x n P)(h0:∀h,h.get? s.heap.objs.size=some (freshSet (ldOf w))->(∀b o,s.heap.get? b=some o->h.get? b=some o)->J 0 h)
  (stay:∀i h h',i<=n->J i h->(∀b o,b≠s.heap.objs.size+1->h.get? b=some o->h'.get? b=some o)->J i h')
  (step:∀(A:Around) i v(s':Shared)(Q:Bool->Shared->Prop)(E:zw),i<n->P i v->J i s'.heap->(∀h' tk r,s'.toks<=tk->Heap.SameBut s.heap.objs.size s'.heap h'->J (i+1) h'->Q r {s' with heap:=h',toks:=tk})->A.units<=B->wpAny (model prog w) A (setAdd s.heap.objs.size v) Q E s')
  (hB:A.units+20<=B)
  (h:∀(h':Heap)(tk:Nat),J n h'->(∀b o,s.heap.get? b=some o->h'.get? b=some o)->s.toks<=tk->Q (.ref s.heap.objs.size) {s with heap:=h',toks:=tk}):
  wpAny (model prog w) A (call (.type "set") [x]) Q E s:=by
 obtain⟨c,tl,hmro⟩:=F.called_set.mro;have hmade:=F.called_set.made;have hsub:=F.called_set.sub;refine wpAny_call (codeAny_of_tree ?_);show wpAny _ _ (callAny (.type "set") _) _ _ _;refine qb ⟨Code.quiet_builtin _ (by decide+kernel),codeAny_builtin F.entry_type_call ?_⟩;rw[Around.under_plain (weight_type_call_type "set" [x] []) rfl];have h1:=F.called_set.notType;have h2:=F.called_set.canCreate;have hct:=F.typeCall_set_1 x
 repeat (any_goals (first|assumption|wp_step))
 refine codeAny_mono (tN x (E:=E) (Q:=λobj s₁=>obj=.ref s.heap.objs.size/\s₁={s with heap:=s.heap.push (freshSet (ldOf w))}) ⟨rfl,rfl⟩) λr s₁ hr=>?_;cases r with
 |error e=>exact hr
 |ok fl=>
  cases fl with
  |ret obj=>
   obtain⟨rfl,rfl⟩:=hr;have hS:(s.heap.push (freshSet (ldOf w))).get? s.heap.objs.size=some (freshSet (ldOf w)):=qd _ rfl;have hTS:Shared.TypeIs {s with heap:=s.heap.push (freshSet (ldOf w))} (.ref s.heap.objs.size) "set":=⟨_,hS,rfl⟩
   have hli:=F.called_set.init.lookup;have hbi:=F.called_set.init.bind (.ref s.heap.objs.size)
   repeat (any_goals (first|assumption|wp_step))
   refine codeAny_mono (codeAny_call_builtin (R:=wants (λr s₂=>r=.none/\∃h' tk,s₂={s with heap:=h',toks:=tk}/\J n h'/\(∀b o,s.heap.get? b=some o->h'.get? b=some o)/\s.toks<=tk) E) F.called_set.init.plain F.entry_set_init (check_set_init_1 hTS ?_)) λr₂ s₂ hr₂=>?_
   .have hTx:Shared.TypeIs {s with heap:=s.heap.push (freshSet (ldOf w))} x T:=by
     cases x with
     |ref l=>obtain⟨o,e,q⟩:=hT;exact⟨o,qc _ e,q⟩
     |_=>exact hT
    unfold Builtin.«set.__init__» noKeywords;generalize hUF:Builtin.Frozenset.updateFrom=UF;unfold freshSet at hS hTS hTx⊢
    wp_walk
    subst hUF;unfold Builtin.Frozenset.updateFrom;refine qa (Fs hTx hs1 hs2 ?_);simp only[false_eq_true,if_false];refine qa (wpAny_typeOf hTx ?_);rw[hne];simp only[false_eq_true,if_false];refine qa (W _ _ _ _ (λb o e=>qc _ e) λo fp St wk st0 hfp=>?_);have hz:(s.heap.push (freshSet (ldOf w))).objs.size=s.heap.objs.size+1:=Heap.size_push ..;have hSf:s.heap.objs.size∉fp:=λz=>by
     rcases hfp _ z with y|y
     .rw[show s.heap.objs.size=(s.heap.push (freshSet (ldOf w))).objs.size from y]at hz;exact absurd hz (ne_of_lt (lt_succ_self _))
     .exact lt_irrefl _ y
    refine qa (wpAny_runValue ?_);refine tH (wk A.in1.in1.in1 hh).toS s.heap.objs.size hSf (J:=J) (λi h h' hi hJ hk=>stay i h h' hi hJ λb o hb e=>hk b o (λz=>hb (by rw[<-hz];exact qv.mp z)) e)
     (λi v s' Q E hi hP hJ hk=>step _ i v s' Q E hi hP hJ hk (by show A.units+1+1+1<=B;lia)) (n-0) 0 _ rfl (zero_le _) st0 (h0 _ (qc _ hS) λb o e=>qc _ (qc _ e)) λs' hm hJ=>?_
    obtain⟨h',g',d',tk',os'⟩:=s';have eg:g'=s.gens:=hm.gens;have ed:d'=s.drawn:=hm.drawn;have eo:os'=s.os:=hm.os;subst eg ed eo;refine qb ?_;show wpAny _ _ (ret Value.none) _ _ _;refine qb ⟨rfl,h',tk',rfl,hJ,λb o e=>?_,hm.toks⟩;have hb:=lt_of_get e;refine hm.heap b o (λz=>?_) (qc _ (qc _ e));rcases qC.mp z with z|z
    .exact ne_of_lt hb z
    .have:=qv.mp z;rw[this]at hb;exact absurd hb (by show¬(s.heap.push (freshSet (ldOf w))).objs.size<_;rw[hz];exact not_lt.mpr (le_succ _))
   .cases r₂ with
    |error e=>exact hr₂
    |ok fl₂=>
     cases fl₂ with
     |ret r=>
      obtain⟨rfl,h',tk,rfl,hJ,hk,ht⟩:=hr₂
      repeat (any_goals (first|assumption|wp_step))
      exact h _ _ hJ hk ht
     |_=>exact hr₂.elim
  |_=>exact hr.elim
def walk_list(hl:s.heap.IsList l items):WalkOk prog w s (.ref l) items.size (λi v=>items[i]?=some v):=λA E s1 Q hk h=>by
 obtain⟨o,e,r⟩:=hl;have hl1:s1.heap.IsList l items:=⟨o,hk _ _ e,r⟩
 have hlt:=lt_of_get e;have hlt1:=lt_of_get (hk _ _ e);exact wpAny_pyIter_list hl1 (h _ [s1.heap.objs.size,l] _ (λA hA=>Walks.list hA _ l (ne_of_lt hlt1) items) ⟨⟨_,qd _ rfl,rfl,rfl⟩,hl1.push _⟩ λb hb=>by
  rcases qC.mp hb with z|z
  .exact .inl z
  .exact .inr (by rw[qv.mp z];exact hlt))
def walk_tuple(hl:s.heap.IsTuple l items):WalkOk prog w s (.ref l) items.size (λi v=>items[i]?=some v):=λA E s1 Q hk h=>by
 obtain⟨o,e,r⟩:=hl;have hl1:s1.heap.IsTuple l items:=⟨o,hk _ _ e,r⟩
 have hlt:=lt_of_get e;have hlt1:=lt_of_get (hk _ _ e);exact wpAny_pyIter_tuple hl1 (h _ [s1.heap.objs.size,l] _ (λA hA=>Walks.tuple hA _ l (ne_of_lt hlt1) items) ⟨⟨_,qd _ rfl,rfl,rfl⟩,let⟨o,e,r⟩:=hl1;⟨o,qc _ e,r⟩⟩ λb hb=>by
  rcases qC.mp hb with z|z
  .exact .inl z
  .exact .inr (by rw[qv.mp z];exact hlt))
end ST
def m1{α:Type}{a:α}{l:List α}:a∈a::l:=.head _
def m2{α:Type}{a b:α}{l:List α}:b∈a::b::l:=.tail _ m1
def m3{α:Type}{a b c:α}{l:List α}:c∈a::b::c::l:=.tail _ m2
def m4{α:Type}{a b c d:α}{l:List α}:d∈a::b::c::d::l:=.tail _ m3
def m5{α:Type}{a b c d e:α}{l:List α}:e∈a::b::c::d::e::l:=.tail _ m4
def AV(i:Int)(n:Nat):max 0 (min (if i<0 then i+(n:Int)else i) (n:Int))=(((if i<0 then(i+(n:Int)).toNat else min i.toNat n):Nat):Int):=by
 by_cases h:i<0
 .rw[q8 h,q8 h,Int.min_eq_left (by lia),Int.ofNat_toNat,Int.max_comm]
 .rw[q9 h,q9 h];obtain⟨k,rfl⟩:=Int.eq_ofNat_of_zero_le (Int.not_lt.mp h);rw[qX];rcases Nat.le_total k n with q|q
  .rw[Nat.min_eq_left q,Int.min_eq_left (Int.ofNat_le.mpr q),Int.max_eq_right (Int.natCast_nonneg k)]
  .rw[Nat.min_eq_right q,Int.min_eq_right (Int.ofNat_le.mpr q),Int.max_eq_right (Int.natCast_nonneg n)]
def cps{A:Prop}(h:∀G:Prop,(A->G)->G):A:=h A id
namespace ST
open PySem PySem.SetTable
section
variable{prog:Program}{w:World}{A:Around}{E:zw}{s:Shared}{a b:Addr}{K:Type}[DecidableEq K]{knd:KeyKind prog w K}{ks:List K}{ld:Bool}{xs:List (List K×Addr)}
def setAddT(hu:A.units<cLine)(hk:IsTupleKey knd s.heap ks b)(hS:TSet ld (tupleKind knd) s.heap a xs)(hroom:xs.length<=150)
  (h1:ks∈xs.map (·.1)->∀tk r,s.toks<=tk->Q r {s with toks:=tk})
  (h2:ks∉xs.map (·.1)->∀h' ys tk r,Heap.SameBut a s.heap h'->ys.Perm ((ks,b)::xs)->TSet ld (tupleKind knd) h' a ys->s.toks<=tk->Q r {s with heap:=h',toks:=tk}):
  wpAny (model prog w) A (setAdd a (.ref b)) Q E s:=by
 unfold setAdd;refine zt (qa ((tupleKind knd).pyHash hu hk ?_));exact vL (s:={s with toks:=s.toks+(tupleKind knd).draws ks}) (knd:=tupleKind knd) (λhk q=>jK hk q) (λhk q=>lK hk q) (λhk ho hd hs=>cT hk ho hd hs) hu hk hS hroom (λhm=>h1 hm _ _ (le_add_right _ _)) λhm h' ys sb pm T=>h2 hm h' ys _ _ sb pm T (le_add_right _ _)
def call_add_of(hT:s.TypeIs (.ref a) "set")(h:wpAny (model prog w) A.in1 (setAdd a v) (λ_ s'=>Q .none s') E s):wpAny (model prog w) A (call (.builtin "set.add") [.ref a,v]) Q E s:=by
 refine zo F.slot_set_add hT F.entry_set_add ?_ (F.args_set_add_2 _ _);unfold Builtin.«set.add» Builtin.Frozenset.oneOther;simp only[isEmpty_nil,bind_assoc];unfold Builtin.Frozenset.addrOf;refine qa (qb ?_);try dsimp only
 refine qa (qb ?_);try dsimp only
 exact qa (zv h (λr s' q=>qb ⟨_,rfl,q⟩) λ_ _ z=>z)
def TRaw(ld:Bool)(knd:HeapKind prog w K)(h:Heap)(a:Addr)(xs:List (K×Addr)):Prop:=∃o es ep t,h.get? a=some o/\o.ExactSet/\o.data=.set es ep t/\t.led=ld/\gW t (es.toList.map (·.1))/\dY t es.size/\es.toList=cQ knd xs/\(xs.map (·.1)).Nodup
def TRaw.full{knd:HeapKind prog w K}{xs:List (K×Addr)}(x:TRaw ld knd h a xs)(k:∀x∈xs,knd.is h x.1 x.2):TSet ld knd h a xs:=by obtain⟨o,es,ep,t,h1,h2,h3,h4,h5,h6,h7,h8⟩:=x;exact⟨o,es,ep,t,h1,h2,h3,h4,h5,h6,h7,k,h8⟩
def TSet.raw{knd:HeapKind prog w K}{xs:List (K×Addr)}(x:TSet ld knd h a xs):TRaw ld knd h a xs:=by obtain⟨o,es,ep,t,h1,h2,h3,h4,h5,h6,h7,k,h8⟩:=x;exact⟨o,es,ep,t,h1,h2,h3,h4,h5,h6,h7,h8⟩
end
def iF(ho:s.heap.get? a=some o)(hd:o.data=.set es ep t)(hf:t.fits es.size=true)(hl:t.led=ldOf w)(h:∀ys d,ys.toList.Perm es.toList->Q ys {s with drawn:=d}):
  wpAny (model prog w) A (setWalk a) Q E s:=by
 unfold setWalk;refine qa (wpAny_setState_of ho hd hf ?_);refine qa (cA ?_);cases hb:w.params.followText "set-order"
 .simp only[false_eq_true,if_false];show wpAny _ _ (if(!t.plain&&decide (es.size>1))=true then _ else _) _ _ _;by_cases hd2:(!t.plain&&decide (es.size>1))=true
  .rw[q8 hd2];exact qa (iW es.size (by simp) λys d p=>qb (h _ d (by simpa using p)))
  .rw[q9 hd2];refine qa ?_;show wpAny _ _ (if(!t.led&&decide (es.size>1))=true then _ else _) _ _ _;rw[hl];unfold ldOf;rw[hb];simp only[Bool.not_false,Bool.not_true,Bool.false_and,false_eq_true,if_false];exact qb (qb (h es s.drawn (.refl _)))
 .simp only[if_true];refine qa (wpAny_askSetting ?_);exact qb (h _ s.drawn (eQ _ es))
def tZ{es:Array (Int×Value)}{e:Int×Value}{r:List (Int×Value)}{c:Addr}(ho:s.heap.get? a=some o)(hd:o.data=.set es ep t)(hf:t.fits es.size=true)(he:es.toList=e::r)(hc:e.2=.ref c)(hT:s.TypeIs (.ref c) "tuple")(h:Q false s):
  wpAny (model prog w) A (setsQuiet (a::others)) Q E s:=by
 unfold setsQuiet;simp only[forIn_cons];refine qa ?_;refine qa ?_;unfold setEntries;refine qa (qa (wpAny_setState_of ho hd hf (qb ?_)));rw[<-forIn_toList,he];simp only[forIn_cons];obtain⟨e1,e2⟩:=e;dsimp only at hc⊢;subst hc;dsimp only;refine qa (qa (qa (wpAny_specialOf hT F.slot_tuple_eq.lookup ?_)));rw[q8 (by decide+kernel)];exact qb (qb (qb (qb (qb h))))
def pU{es:Array (Int×Value)}(ho:s.heap.get? a=some o)(hd:o.data=.set es ep t)(hf:t.fits es.size=true)(hl:t.led=ldOf w)(hT:∀e∈es.toList,∃c,e.2=.ref c/\s.TypeIs (.ref c) "tuple")
  (h:∀ys d,ys.toList.Perm es.toList->Q ys {s with drawn:=d}):wpAny (model prog w) A (setWalkUnseen a others filled) Q E s:=by
 unfold setWalkUnseen;refine qa (wpAny_setState_of ho hd hf ?_);refine qa (cA ?_);dsimp only;by_cases hc:(w.params.followText "set-order"||(t.led&&t.plain)||decide (es.size<=1))=true
 .rw[q8 hc];exact iF ho hd hf hl h
 .rw[q9 hc];cases he:es.toList with
  |nil=>
   have:es.size=0:=by rw[<-qW,he];rfl
   rw[this]at hc;simp at hc
  |cons e r=>obtain⟨c,h1,h2⟩:=hT e (by rw[he];simp);refine qa (tZ ho hd hf he h1 h2 ?_);simp only[Bool.not_false,if_true];exact iF ho hd hf hl h
instance okDec(m:Nat):Decidable (bH m):=by unfold bH;infer_instance
def rC{k:Nat}(h:k<=150):bH (sizeAbove (k*2)-1)/\k*5<(sizeAbove (k*2)-1)*3:=by
 have:(List.range 151).all (λk=>decide (bH (sizeAbove (k*2)-1)/\k*5<(sizeAbove (k*2)-1)*3))=true:=by decide+kernel
 exact qV (qJ.mp this k (qK.mpr (by lia)))
def oO{es:Array (Int×Value)}(ho:s.heap.get? a=some o)(hd:o.data=.set es ep t)(T:gW t (es.toList.map (·.1)))(hm:es.size+m<=150)
  (h:∀(h':Heap)(es':Array (Int×Value))(ep':Nat)(t':SetTable),Heap.SameBut a s.heap h'->h'.get? a=some {o with data:=.set es' ep' t'}->es'.toList.Perm es.toList->gW t' (es'.toList.map (·.1))->(es.size+m)*5<t'.mask*3->t'.led=t.led->Q () {s with heap:=h'}):
  wpAny (model prog w) A (setRoomFor a m) Q E s:=by
 have hfill:t.fill=es.size:=by unfold fill;rw[T.size,T.dum,qp,qW];rfl
 unfold setRoomFor;refine qa (wpAny_setState_of ho hd (T.fits (by simp)) ?_);dsimp only;unfold roomFor;rw[hfill,T.size,qp,qW];by_cases hc:(es.size+m)*5≥t.mask*3
 .rw[q8 hc];dsimp only;obtain⟨h1,h2⟩:=rC hm;refine lQ ho hd T rfl h1 (by lia) λes' t' pm T' em el=>?_;exact h _ es' (ep+1) t' (Heap.SameBut.update s.heap a (Obj.putSet es' t')) (cU ho hd) pm T' (by rw[em];exact h2) el
 .rw[q9 hc];dsimp only;refine qb (h s.heap es ep t (Heap.SameBut.refl _ _) ?_ (.refl _) T (by lia) rfl);rw[ho,<-hd]
def tM(T:gW t hs)(hp:t'.place=t.place)(hd:t'.dummies=t.dummies)(hm:t'.mask=t.mask):gW t' hs:=by
 have e1:∀n q,aD t' q n=aD t q n:=bQ hm;have e2:∀b,t'.probeStart b=t.probeStart b:=bM hm;have e3:∀j,t'.slot j=t.slot j:=λj=>by unfold slot;rw[hp,hd]
 obtain⟨a1,a2,a3,a4,a5,a6,a7⟩:=T;refine⟨hp▸a1,hd.trans a2,hm▸a3,by rw[hp];exact a4,?_,hm▸a6,?_⟩
 .rw[hm];intro i hi;simp only[hp]at hi⊢;exact a5 i hi
 .intro i hi h hh;simp only[hp]at hi⊢;obtain⟨n,b1,b2⟩:=a7 i hi h hh;exact⟨n,by rw[e1,e2,b1],λm hm=>by rw[e1,e2,e3];exact b2 m hm⟩
section
variable{K:Type}[DecidableEq K]{knd:KeyKind prog w K}{xs ys:List (List K×Addr)}
def iL{each:Sem Unit}(hne:r≠b)(hR:TSet ld (tupleKind knd) s.heap r [])(hB:TSet ld (tupleKind knd) s.heap b ys)(hy:ys≠[])(hm:ys.length<=150)
  (h:∀h' zs,Heap.SameBut r s.heap h'->zs.Perm ys->TSet ld (tupleKind knd) h' r zs->Q () {s with heap:=h'}):wpAny (model prog w) A (setMerge r b each) Q E s:=by
 obtain⟨o,es,ep,t,ho,hex,hd,hld,T,hrm,he,his,hnd⟩:=hR;obtain⟨ob,eb,pb,tb,hob,hexb,hdb,hldb,Tb,hrmb,heb,hisb,hndb⟩:=hB;have hes:es.size=0:=by rw[<-qW,he];rfl
 have hlb:eb.size=ys.length:=by rw[<-qW,heb];simp[cQ]
 have hpos:0<ys.length:=qQ.mpr hy;unfold setMerge;rw[q9 (by simpa using hne)];refine qa (wpAny_setState_of hob hdb (Tb.fits (by simp)) ?_);dsimp only;rw[q9 (by rw[Array.isEmpty_iff_size_eq_zero];lia)];refine qa (oO ho hd T (by lia) λh1 es1 ep1 t1 sb ho1 pm T1 hro hl1=>?_);have hes1:es1.size=0:=by rw[<-qW,pm.length_eq,qW];exact hes
 have hfill:t1.fill=0:=by unfold fill;rw[T1.size,T1.dum,qp,qW,hes1];rfl
 refine qa (wpAny_setState_of ho1 rfl (T1.fits (by simp)) ?_);dsimp only;have keep:∀{h2:Heap},Heap.SameBut r h1 h2->∀x∈ys,(tupleKind knd).is h2 x.1 x.2:=λ{h2} sb2 x hx=>cT (hisb x hx) ho hd (sb.trans sb2);have hst:∀(es2:Array (Int×Value))(t2:SetTable)(zs:List (List K×Addr)),zs.Perm ys->es2.toList=cQ (tupleKind knd) zs->gW t2 (es2.toList.map (·.1))->dY t2 es2.size->t2.led=ld->wpAny (model prog w) A (storeSet r es2 t2) Q E {s with heap:=h1}:=λes2 t2 zs pz e2 T2 r2 l2=>by
  have hz:es2.size=ys.length:=by rw[<-qW,e2];simp[cQ,pz.length_eq]
  refine wpAny_storeSet_of (s:={s with heap:=h1}) ho1 rfl ?_ (iE (by lia));have sb2:=Heap.SameBut.update h1 r (Obj.putSet es2 t2);exact h _ zs (sb.trans sb2) pz ⟨_,es2,_,t2,cU ho1 rfl,hex,rfl,l2,T2,r2,e2,λx hx=>keep sb2 x (pz.mem_iff.mp hx),(pz.map _).nodup_iff.mpr hndb⟩
 unfold road;rw[q9 (by rw[hfill];decide)];by_cases hc:(t1.mask==tb.mask&&tb.dummies.isEmpty)=true
 .rw[q8 hc];rw[and_eq_true,beq_iff_eq]at hc;refine hst eb _ ys (.refl _) heb (tM Tb rfl rfl rfl) hrmb ?_;show(t1.led&&tb.led)=ld;rw[hl1,hld,hldb,Bool.and_self]
 .rw[q9 hc];have hle:eb.size<=t1.mask:=by lia
  obtain⟨t2,order,e1,e2,e3,e4,e5,e6⟩:=lW (finger:=t1.finger) (moves:=t1.moves) (led:=t1.led&&tb.led) (plain:=t1.plain&&tb.plain) T1.mask hle;have hsz:(order.filterMap (eb[·]?)).size=eb.size:=by rw[<-qW,e2.length_eq,qW]
  have e2':=e2;rw[heb]at e2';obtain⟨zs,pz,ez⟩:=gA e2';dsimp only;rw[e1];refine qa ?_;show wpAny (model prog w) A (if((order.filterMap (eb[·]?)).size !=eb.size)=true then _ else _) _ E _;rw[hsz];simp only[bne_self_eq_false,false_eq_true,if_false];refine qb ?_;dsimp only;refine hst _ t2 zs pz ez e3 ?_ (by rw[e5,hl1,hld,hldb,Bool.and_self]);unfold dY;rw[hsz,e4];lia
structure Lf(knd:KeyKind prog w K)(ld:Bool)(r:Addr)(xs ys:List (List K×Addr))(h0:Heap)(rest:List (Int×Value))(h:Heap)(zs:List (List K×Addr)):Prop where
 sb:Heap.SameBut r h0 h
 st:TSet ld (tupleKind knd) h r zs
 ent:∀p∈rest,∃y∈ys,p=((tupleKind knd).hash y.1,Value.ref y.2)
 len:zs.length+rest.length<=xs.length+ys.length
 src:∀z∈zs,z∈xs\/z∈ys
 old:∀k∈xs.map (·.1),k∈zs.map (·.1)
 new:∀y∈ys,y.1∈zs.map (·.1)\/((tupleKind knd).hash y.1,Value.ref y.2)∈rest
def rH{each:Sem Unit}(hu:A.units<cLine)(hne:r≠b)(hR:TSet ld (tupleKind knd) s.heap r xs)(hB:TSet ld (tupleKind knd) s.heap b ys)(hx:xs≠[])(hld0:ld=ldOf w)(hm:xs.length+ys.length<=150)
  (heach:∀(s':Shared)(Q':Unit->Shared->Prop),s'.heap.get? b=s.heap.get? b->Q' () s'->wpAny (model prog w) A each Q' E s')
  (h:∀h' zs d,Lf knd ld r xs ys s.heap [] h' zs->Q () {s with heap:=h',drawn:=d}):wpAny (model prog w) A (setMerge r b each) Q E s:=by
 have hR':=hR;obtain⟨o,es,ep,t,ho,hex,hd,hld,T,hrm,he,his,hnd⟩:=hR;obtain⟨ob,eb,pb,tb,hob,hexb,hdb,hldb,Tb,hrmb,heb,hisb,hndb⟩:=hB;have hes:es.size=xs.length:=by rw[<-qW,he];simp[cQ]
 have hlb:eb.size=ys.length:=by rw[<-qW,heb];simp[cQ]
 have hpos:0<xs.length:=qQ.mpr hx;have entB:∀p∈eb.toList,∃y∈ys,p=((tupleKind knd).hash y.1,Value.ref y.2):=λp hp=>by rw[heb]at hp;obtain⟨y,hy,rfl⟩:=qL.mp hp;exact⟨y,hy,rfl⟩
 unfold setMerge;rw[q9 (by simpa using hne)];refine qa (wpAny_setState_of hob hdb (Tb.fits (by simp)) ?_);dsimp only;by_cases hy:eb.isEmpty=true
 .rw[q8 hy];have hy0:ys=[]:=by rw[Array.isEmpty_iff_size_eq_zero,hlb]at hy;exact length_eq_zero_iff.mp hy
  subst hy0;exact qb (h s.heap xs s.drawn ⟨Heap.SameBut.refl _ _,hR',λ_ z=>(nomatch z),zc _,λz hz=>.inl hz,λk hk=>hk,λ_ z=>(nomatch z)⟩)
 rw[q9 hy];refine qa (oO ho hd T (by lia) λh1 es1 ep1 t1 sb ho1 pm T1 hro hl1=>?_);rw[he]at pm;obtain⟨x1,px,e1⟩:=gA pm;have hs1:es1.size=xs.length:=by rw[<-qW,e1];simp[cQ,px.length_eq]
 have hfill:t1.fill=xs.length:=by unfold fill;rw[T1.size,T1.dum,qp,qW,hs1];rfl
 refine qa (wpAny_setState_of ho1 rfl (T1.fits (by simp)) ?_);dsimp only;unfold road;rw[q8 (by rw[hfill,bne_iff_ne];lia)];dsimp only;have S1:TSet ld (tupleKind knd) h1 r x1:=⟨_,es1,ep1,t1,ho1,hex,rfl,hl1.trans hld,T1,by unfold dY;rw[hs1];lia,e1,λx hx=>cT (his x (px.mem_iff.mp hx)) ho hd sb,(px.map _).nodup_iff.mpr hnd⟩
 have hob1:h1.get? b=some ob:=(sb.2 b (Ne.symm hne)).trans hob;refine qa (pU (s:={s with heap:=h1}) hob1 hdb (Tb.fits (by simp)) (hldb.trans hld0) (λp hp=>?_) λarr d pa=>?_)
 .obtain⟨y,hy,rfl⟩:=entB p hp;obtain⟨oy,_,_,a1,a2,_⟩:=cT (hisb y hy) ho hd sb;exact⟨y.2,rfl,oy,a1,a2⟩
 rw[<-forIn_toList];have M0:Lf knd ld r xs ys s.heap arr.toList h1 x1:=⟨sb,S1,λp hp=>entB p (pa.mem_iff.mp hp),by have h1:=px.length_eq;have h2:=pa.length_eq;rw[qW (xs:=eb),hlb]at h2;lia,λz hz=>.inl (px.mem_iff.mp hz),λk hk=>(px.map _).mem_iff.mpr hk,λy hy=>.inr (pa.mem_iff.mpr (by rw[heb];exact qL.mpr ⟨y,hy,rfl⟩))⟩
 refine qa ?_;refine wpAny_forIn_list _ (λrest _ s'=>∃h2 zs,s'={s with heap:=h2,drawn:=d}/\Lf knd ld r xs ys s.heap rest h2 zs) _ ?_ ?_ _ _ ⟨h1,x1,rfl,M0⟩
 .rintro p rest u s' ⟨h2,zs,rfl,M⟩;obtain⟨y,hy,rfl⟩:=M.ent p qo;have hob2:h2.get? b=some ob:=(M.sb.2 b (Ne.symm hne)).trans hob;dsimp only;have hl:=M.len;rw[qu]at hl;have tail:∀(h3:Heap),h3.get? b=some ob->∀R:ForInStep PUnit->Shared->Prop,R (.yield PUnit.unit) {s with heap:=h3,drawn:=d}->wpAny (model prog w) A (do
    each
    let q<-setState b
    if(q.2.1 !=pb)=true then do
       unsupported "set.changed-during-merge"
       pure (ForInStep.yield PUnit.unit)
     else pure (ForInStep.yield PUnit.unit)) R E {s with heap:=h3,drawn:=d}:=λh3 hb3 R hR=>by
   refine qa (heach _ _ (hb3.trans hob.symm) ?_);refine qa (wpAny_setState_of (s:={s with heap:=h3,drawn:=d}) hb3 hdb (Tb.fits (by simp)) ?_);dsimp only;rw[q9 (by simp)];exact qb hR
  have hyk:IsTupleKey knd h2 y.1 y.2:=cT (hisb y hy) ho hd M.sb;have same:∀y'∈ys,((tupleKind knd).hash y'.1,Value.ref y'.2)=((tupleKind knd).hash y.1,Value.ref y.2)->y.1=y'.1:=λy' hy' e=>by
   have e2:y'.2=y.2:=by have:=(Prod.mk.inj e).2;injection this
   have k1:=hisb y' hy';rw[e2]at k1;exact(tupleKind knd).inj (hisb y hy) k1
  refine qa (zt (vL (s:={s with heap:=h2,drawn:=d}) (knd:=tupleKind knd) (λhk q=>jK hk q) (λhk q=>lK hk q) (λhk ho hd hs=>cT hk ho hd hs) hu hyk M.st (by lia) (λhm2=>?_) λhm2 h3 zs' sb3 p3 T3=>?_))
  .refine tail h2 hob2 _ ⟨h2,zs,rfl,M.sb,M.st,λp hp=>M.ent p (qm _ hp),by lia,M.src,M.old,λy' hy'=>?_⟩;rcases M.new y' hy' with z|z
   .exact .inl z
   .rcases qC.mp z with e|z
    .exact .inl (same y' hy' e▸hm2)
    .exact .inr z
  .refine tail h3 ((sb3.2 b (Ne.symm hne)).trans hob2) _ ⟨h3,zs',rfl,M.sb.trans sb3,T3,λp hp=>M.ent p (qm _ hp),by have:=p3.length_eq;rw[qu]at this;lia,λz hz=>?_,λk hk=>(p3.map _).mem_iff.mpr (qm _ (M.old k hk)),λy' hy'=>?_⟩
   .rcases qC.mp (p3.mem_iff.mp hz)with rfl|z
    .exact .inr hy
    .exact M.src _ z
   .rcases M.new y' hy' with z|z
    .exact .inl ((p3.map _).mem_iff.mpr (qm _ z))
    .rcases qC.mp z with e|z
     .exact .inl ((p3.map _).mem_iff.mpr (same y' hy' e▸qo))
     .exact .inr z
 .rintro u s' ⟨h2,zs,rfl,M⟩;exact qb (h h2 zs d M)
end
end ST
namespace ST
open PySem PySem.SetTable PySem.Builtin PySem.Builtin.Frozenset
def Fd:Builtin.«frozenset.__or__»=λargs=>(do
  let(self,other)<-slot1 "__or__" args
  let(l,r):=if false then(other,self)else(self,other)
  if !(<-isAnySet l<&&>isAnySet r)then
   rule s!"frozenset.{"__or__"}.declined"
   return<-ret .notImplemented
  ret (<-(λid l r=>(do
   let result<-copyOf l
   if r !=.ref l then holding [result] (updateFrom id (<-addrOf result) r)
   return result:Sem Value)) s!"frozenset.{"__or__"}" (<-addrOf l) r)):=rfl
section
variable{prog:Program}{w:World}{A:Around}{E:zw}{s:Shared}{a b:Addr}
def gB(hT:s.TypeIs (.ref a) "set")(h:Q true s):wpAny (model prog w) A (isAnySet (.ref a)) Q E s:=by unfold isAnySet;refine qa (wpAny_isInstance hT sub_set_self ?_);exact qb h
def Af(hT:s.TypeIs (.ref a) "set")(h:Q (.type "set") s):wpAny (model prog w) A (baseOf a) Q E s:=by unfold baseOf;exact qa (wpAny_isInstance hT sub_set_self (qb h))
section
variable{K:Type}[DecidableEq K]{knd:KeyKind prog w K}{xs ys:List (List K×Addr)}
def uM(k:∀c o,h.get? c=some o->h'.get? c=some o)(x:IsTupleKey knd h ks b):IsTupleKey knd h' ks b:=by obtain⟨o,items,n,ho,r⟩:=x;exact⟨o,items,n,k _ _ ho,r⟩
def fY(k:∀c o,h.get? c=some o->h'.get? c=some o)(x:TSet ld (tupleKind knd) h a xs):TSet ld (tupleKind knd) h' a xs:=by obtain⟨o,es,ep,t,ho,hex,hd,hld,T,hrm,he,his,hnd⟩:=x;exact⟨o,es,ep,t,k _ _ ho,hex,hd,hld,T,hrm,he,λx hx=>uM k (his x hx),hnd⟩
def jT{each:Sem Unit}(hne:r≠b)(hB:TSet ld (tupleKind knd) s.heap b [])(h:Q () s):wpAny (model prog w) A (setMerge r b each) Q E s:=by obtain⟨ob,eb,pb,tb,hob,hexb,hdb,hldb,Tb,hrmb,heb,hisb,hndb⟩:=hB;unfold setMerge;rw[q9 (by simpa using hne)];refine qa (wpAny_setState_of hob hdb (Tb.fits (by simp)) ?_);dsimp only;rw[q8 (by rw[Array.isEmpty_iff_size_eq_zero,<-qW,heb];rfl)];exact qb h
def pJ(hA:TSet ld (tupleKind knd) s.heap a xs)(hld0:ld=ldOf w)(hm:xs.length<=150)
  (h:∀h' zs,(∀c o,s.heap.get? c=some o->h'.get? c=some o)->zs.Perm xs->TSet ld (tupleKind knd) h' s.heap.objs.size zs->Q (.ref s.heap.objs.size) {s with heap:=h'}):wpAny (model prog w) A (copyOf a) Q E s:=by
 have hne:s.heap.objs.size≠a:=by obtain⟨o,_,_,_,ho,_⟩:=hA;exact λz=>ne_of_lt (qe ho) z.symm
 have kp:∀c o,s.heap.get? c=some o->(s.heap.push (freshSet (ldOf w))).get? c=some o:=λc o e=>qc _ e;have hS:TSet ld (tupleKind knd) (s.heap.push (freshSet (ldOf w))) s.heap.objs.size []:=tset_new (by rw[hld0];exact qd _ rfl);unfold copyOf;refine qa (Af (bX hA) ?_);refine qa (newSet_ok ?_);refine qa (qb ?_);refine qa ?_;by_cases hx:xs=[]
 .subst hx;exact jT (s:={s with heap:=s.heap.push (freshSet (ldOf w))}) hne (fY kp hA) (qb (h _ [] kp (.refl _) hS))
 .refine iL (s:={s with heap:=s.heap.push (freshSet (ldOf w))}) hne hS (fY kp hA) hx hm λh' zs sb pz T=>qb (h h' zs (λc o e=>?_) pz T);have hc:c≠s.heap.objs.size:=ne_of_lt (qe e);exact(sb.2 c hc).trans (kp c o e)
def tI{nm:String}(hu:A.units<cLine)(hne:a≠b)(hA:TSet ld (tupleKind knd) s.heap a xs)(hB:TSet ld (tupleKind knd) s.heap b ys)(hld0:ld=ldOf w)(hm:xs.length+ys.length<=150)
  (h:∀h' zs d,(∀c o,s.heap.get? c=some o->h'.get? c=some o)->TSet ld (tupleKind knd) h' s.heap.objs.size zs->zs.length<=xs.length+ys.length->(∀z∈zs,z∈xs\/z∈ys)->(∀k∈xs.map (·.1),k∈zs.map (·.1))->(∀k∈ys.map (·.1),k∈zs.map (·.1))->Q (.ref s.heap.objs.size) {s with heap:=h',drawn:=d}):
  wpAny (model prog w) A (do
   let result<-copyOf a
   if(Value.ref b) !=.ref a then holding [result] (updateFrom nm (<-addrOf result) (.ref b))
   return result:Sem Value) Q E s:=by
 refine qa (pJ hA hld0 (by lia) λh1 x1 k1 px S1=>?_);have hnb:s.heap.objs.size≠b:=by obtain⟨o,_,_,_,ho,_⟩:=hB;exact λz=>ne_of_lt (qe ho) z.symm
 rw[q8 (by simpa using Ne.symm hne)];have B1:=fY k1 hB;refine qa (qb ?_);refine qa (zt ?_);unfold updateFrom;refine qa (gB (bX (s:={s with heap:=h1}) B1) ?_);rw[q8 rfl];refine qa (qb ?_);unfold merge;have B1':=B1;obtain⟨ob,eb,pb,tb,hob,hexb,hdb,hldb,Tb,hrmb,heb,hisb,hndb⟩:=B1';refine qa (wpAny_setEpoch_of (s:={s with heap:=h1}) hob hdb (Tb.fits (by simp)) ?_);by_cases hx:xs=[]
 .subst hx;have e1:x1=[]:=length_eq_zero_iff.mp px.length_eq;subst e1;by_cases hy:ys=[]
  .subst hy;exact jT (s:={s with heap:=h1}) hnb B1 (qb (h h1 [] s.drawn k1 S1 (zc _) (λ_ z=>(nomatch z)) (λ_ z=>(nomatch z)) λ_ z=>(nomatch z)))
  .refine iL (s:={s with heap:=h1}) hnb S1 B1 hy (by simpa using hm) λh2 zs sb pz T=>qb ?_;refine h h2 zs s.drawn (λc o e=>(sb.2 c (ne_of_lt (qe e))).trans (k1 c o e)) T (by rw[pz.length_eq];simp) (λz hz=>.inr (pz.mem_iff.mp hz)) (λ_ z=>(nomatch z)) λk hk=>(pz.map _).mem_iff.mpr hk
 .have hx1:x1≠[]:=λz=>hx (by rw[z]at px;exact length_eq_zero_iff.mp px.length_eq.symm);refine rH (s:={s with heap:=h1}) hu hnb S1 B1 hx1 hld0 (by rw[px.length_eq];exact hm) (λs' Q' e q=>?_) λh2 zs d M=>qb ?_
  .unfold unchanged;refine qa (wpAny_setEpoch_of (e.trans hob) hdb (Tb.fits (by simp)) ?_);rw[q9 (by simp)];exact qb q
  .refine h h2 zs d (λc o e=>(M.sb.2 c (ne_of_lt (qe e))).trans (k1 c o e)) M.st (by have:=M.len;rw[px.length_eq]at this;simpa using this) (λz hz=>(M.src z hz).imp px.mem_iff.mp id) (λk hk=>M.old k ((px.map _).mem_iff.mpr hk)) λk hk=>?_;obtain⟨y,hy,rfl⟩:=qL.mp hk;exact(M.new y hy).resolve_right λz=>(nomatch z)
def jW{h:Heap}:∀{xs ys:List (List K×Addr)},cQ (tupleKind knd) xs=cQ (tupleKind knd) ys->(∀x∈xs,(tupleKind knd).is h x.1 x.2)->(∀y∈ys,(tupleKind knd).is h y.1 y.2)->xs=ys
 |[],[],_,_,_=>rfl
 |[],_::_,e,_,_=>(nomatch e)
 |_::_,[],e,_,_=>(nomatch e)
 |x::xs,y::ys,e,hx,hy=>by
  have e':((tupleKind knd).hash x.1,Value.ref x.2)::cQ (tupleKind knd) xs=((tupleKind knd).hash y.1,Value.ref y.2)::cQ (tupleKind knd) ys:=e;obtain⟨e1,e2⟩:=List.cons.inj e';have a:x.2=y.2:=by have:=(Prod.mk.inj e1).2;injection this
  have k1:=hx x qo;rw[a]at k1;have k:=(tupleKind knd).inj k1 (hy y qo);rw[jW e2 (λz hz=>hx z (qm _ hz)) λz hz=>hy z (qm _ hz),show x=y from Prod.ext k a]
def pW(x:TSet ld (tupleKind knd) h a xs)(y:TSet ld (tupleKind knd) h a ys):xs=ys:=by obtain⟨o,es,ep,t,ho,hex,hd,hld,T,hrm,he,his,hnd⟩:=x;obtain⟨o',es',ep',t',ho',hex',hd',hld',T',hrm',he',his',hnd'⟩:=y;rw[ho]at ho';cases ho';rw[hd]at hd';cases hd';exact jW (he.symm.trans he') his his'
def kT:entryFor table "set.__or__"=some Builtin.«frozenset.__or__»:=
 entryFor_alias (id':="frozenset.__or__") (by kernel_rfl) rfl (by decide+kernel) (by kernel_rfl)
def or_op(hu:A.in1.units<cLine)(hA:TSet ld (tupleKind knd) s.heap a xs)(hB:TSet ld (tupleKind knd) s.heap b ys)(hld0:ld=ldOf w)(hm:xs.length+ys.length<=150)
  (h:∀h' zs d,(∀c o,s.heap.get? c=some o->h'.get? c=some o)->TSet ld (tupleKind knd) h' s.heap.objs.size zs->zs.length<=xs.length+ys.length->(∀z∈zs,z∈xs\/z∈ys)->(∀k∈xs.map (·.1),k∈zs.map (·.1))->(∀k∈ys.map (·.1),k∈zs.map (·.1))->Q (.ref s.heap.objs.size) {s with heap:=h',drawn:=d}):
  wpAny (model prog w) A (binaryOp .BitOr (.ref a) (.ref b)) Q E s:=by
 refine wpAny_binaryOp_same (bX hA) (bX hB) F.fills_set_or F.slot_set_or ?_;refine zo F.slot_set_or (bX hA) kT ?_ (F.args_set_or_2 _ _);rw[Fd];have e1:slot1 "__or__" ⟨[Value.ref a,Value.ref b],[]⟩=pure (Value.ref a,Value.ref b):=rfl;dsimp only;rw[e1];refine qa (qb ?_);dsimp only;refine qa (qa (gB (bX hA) ?_));refine gB (bX hB) ?_;rw[q9 (by decide)];refine qa (qb ?_);refine qa ?_;by_cases hne:a=b
 .subst hne;have e:=pW hA hB;subst e;refine qa (pJ hA hld0 (by lia) λh' zs k pz T=>?_);rw[q9 (by simp)];exact qb (qb ⟨_,rfl,(λz=>nomatch z),h h' zs s.drawn k T (by rw[pz.length_eq];lia) (λz hz=>.inl (pz.mem_iff.mp hz)) (λk hk=>(pz.map _).mem_iff.mpr hk) λk hk=>(pz.map _).mem_iff.mpr hk⟩)
 .refine tI hu hne hA hB hld0 hm λh' zs d k T l c1 c2 c3=>?_;exact qb ⟨_,rfl,(λz=>nomatch z),h h' zs d k T l c1 c2 c3⟩
end
end
end ST
namespace ST
open PySem PySem.W
def jF(h:Heap)(d:Addr)(es:Array DictEntry)(ep:Nat):Prop:=∃o,h.get? d=some o/\o.ExactDict/\o.data=.dict es ep
section
variable{s:Shared}{d it:Addr}
def jF.type(x:jF s.heap d es ep):s.TypeIs (.ref d) "dict":=let⟨o,ho,hc,_⟩:=x;⟨o,ho,hc.1⟩
def jF.at{h h':Heap}(x:jF h d es ep)(e:∀o,h.get? d=some o->h'.get? d=some o):jF h' d es ep:=let⟨o,ho,r⟩:=x;⟨o,e o ho,r⟩
def tR{Q:zw}(hd:(d==sysModules)=false)(hm:jF s.heap d es ep)
  (hQ:Q (.ref s.heap.objs.size) {s with heap:=s.heap.push {cls:=.type "dict_keyiterator",data:=.fields #[.ref d,.int 0 0,.int es.size 0,.int ep 0]}}):wpAny (model prog w) A (pyIter (.ref d)) Q E s:=by
 have hT:=hm.type;obtain⟨o,ho,hc,hdat⟩:=id hm;refine wpAny_pyIter_slot hT F.slot_dict_iter (zo F.slot_dict_iter hT F.entry_dict_iter ?_ (F.args_dict_iter_1 _));unfold Builtin.«dict.__iter__» Builtin.Dict.dictSlotNone;refine qa (qa (wpAny_notOrdered_dict hT (qb ?_)));show wpAny _ _ (Builtin.Dict.showsAll d>>=_) _ _ s;unfold Builtin.Dict.showsAll;rw[q9 (by rw[hd];exact qY)];refine qa (qb (qa (wpAny_dictEntries ho hdat (qa (wpAny_dictEpoch ho hdat (qa (zm (qb ⟨_,rfl,"dict_keyiterator",_,⟨_,qd _ rfl,rfl⟩,F.slot_dict_keyiterator_next.lookup,?_⟩))))))));simpa[rawInt] using hQ
def tS{Q:Option Value->Shared->Prop}(hit:s.heap.IsKeyIter it d i es.size ep)(hm:jF s.heap d es ep)(hi:i<es.size)
  (hQ:∀h',h'.IsKeyIter it d (i+1) es.size ep->Heap.SameBut it s.heap h'->Q (some es[i].key) {s with heap:=h'}):wpAny (model prog w) A (pyNext (.ref it)) Q E s:=by
 obtain⟨o,ho,hc,hd⟩:=id hit;obtain⟨od,hod,hcd,hdd⟩:=id hm;unfold pyNext;refine qa (wpAny_attempt (wpAny_callSpecial?_slot (name:=Str.ofString "__next__") hit.typeIs F.slot_dict_keyiterator_next
  (zo F.slot_dict_keyiterator_next hit.typeIs F.entry_dict_keyiterator_next ?_ (F.args_dict_keyiterator_next_1 _))))
 refine qa (qb (qa (qa ?_)));first|refine qa (wpAny_typeNameOfWhole_keyiter hit.typeIs (qb ?_))|refine qa (wpAny_typeNameOf_keyiter hit.typeIs (qb ?_))
 refine qa (wpAny_fieldsOf ho hd ?_);have hown:Builtin.Dict_items.ownsTuple "dict_keyiterator"=false:=by decide
 simp only[hown,false_eq_true,if_false];show wpAny _ _ (if(Value.ref d==Value.none)=true then _ else _) _ _ s;rw[q9 (show¬((Value.ref d==Value.none)=true) from qY)];refine qa (qb (qa (wpAny_dictEntries hod hdd ?_)));rw[q9 (by simp)];refine qa (qb (qa (wpAny_dictEpoch hod hdd ?_)));rw[q9 (by simp)];refine qb ?_;simp only[show¬((i:Int)<0) from by omega,if_false,qX,getElem?_eq_getElem hi];refine qa ?_;first|refine qa (wpAny_typeNameOfWhole_keyiter hit.typeIs (qb ?_))|refine qa (wpAny_typeNameOf_keyiter hit.typeIs (qb ?_))
 refine qa (wpAny_isOneOf_keyiter hit.typeIs ?_);show wpAny _ _ (setField (.ref it) 1 (rawInt ((i:Int)+1))>>=_) _ _ s;refine qa (wpAny_setField ho hd (by simp) ?_);have hit':(s.heap.update it (Obj.mapFields (·.setIfInBounds 1 (rawInt ((i:Int)+1))))).IsKeyIter it d (i+1) es.size ep:=
  ⟨_,zj _ ho (Obj.isFreed_of_fields (Obj.data_mapFields hd _)),(Obj.cls_mapFields ..).trans hc,by rw[Obj.data_mapFields hd];simp[rawInt]⟩
 refine qa (zt (qa (wpAny_isOneOf_keyiter (s:={s with heap:=s.heap.update it (Obj.mapFields (·.setIfInBounds 1 (rawInt ((i:Int)+1))))}) hit'.typeIs ?_)));show wpAny _ _ (pure es[i].key) _ _ _;exact qb (qb ⟨_,rfl,qb (hQ _ hit' (Heap.SameBut.update ..))⟩)
def xK{Q:Option Value->Shared->Prop}(hh:A.handled=none)(hit:s.heap.IsKeyIter it d i es.size ep)(hm:jF s.heap d es ep)(hi:es.size<=i)
  (hQ:∀h',Heap.ExtBut it s.heap h'->Q none {s with heap:=h'}):wpAny (model prog w) A (pyNext (.ref it)) Q E s:=by
 obtain⟨o,ho,hc,hd⟩:=id hit;obtain⟨od,hod,hcd,hdd⟩:=id hm;unfold pyNext;refine qa (wpAny_attempt (wpAny_callSpecial?_slot (name:=Str.ofString "__next__") hit.typeIs F.slot_dict_keyiterator_next
  (zo F.slot_dict_keyiterator_next hit.typeIs F.entry_dict_keyiterator_next ?_ (F.args_dict_keyiterator_next_1 _))))
 refine qa (qb (qa (qa ?_)));first|refine qa (wpAny_typeNameOfWhole_keyiter hit.typeIs (qb ?_))|refine qa (wpAny_typeNameOf_keyiter hit.typeIs (qb ?_))
 refine qa (wpAny_fieldsOf ho hd ?_);have hown:Builtin.Dict_items.ownsTuple "dict_keyiterator"=false:=by decide
 simp only[hown,false_eq_true,if_false];show wpAny _ _ (if(Value.ref d==Value.none)=true then _ else _) _ _ s;rw[q9 (show¬((Value.ref d==Value.none)=true) from qY)];refine qa (qb (qa (wpAny_dictEntries hod hdd ?_)));rw[q9 (by simp)];refine qa (qb (qa (wpAny_dictEpoch hod hdd ?_)));rw[q9 (by simp)];refine qb ?_;simp only[show¬((i:Int)<0) from by omega,if_false,qX,Array.getElem?_eq_none hi];refine qa ?_;first|refine qa (wpAny_typeNameOfWhole_keyiter hit.typeIs (qb ?_))|refine qa (wpAny_typeNameOf_keyiter hit.typeIs (qb ?_))
 show wpAny _ _ (setField (.ref it) 0 .none>>=_) _ _ s;refine qa (wpAny_setField ho hd (by simp) ?_);show wpAny _ _ (newExc (.type "StopIteration") []>>=_) _ _ _;refine qa ?_;simp only[newExc,newTuple];refine qa (zm ?_ (by size_fits));refine qa (m:=firstArgMember _ _) (zu (a:=Value.none) (by first|rfl|(simp only[firstArgMember];rfl)) (zm ?_ (by size_fits)));simp only[raiseNew];refine qa (wpAny_handled ?_);rw[show A.in1.handled=none from hh];refine qa (qb (wpAny_throw ?_));refine qa (wpAny_isInstance (T:="StopIteration") (b:=true) ⟨_,qd _ rfl,rfl⟩ isSubtype_stop ?_);exact qb (hQ _ (((Heap.SameBut.update ..).extBut.push _).push _))
def rD(hh:A.handled=none)(I:Addr)(hne:d≠I):Walks prog w A I [I,d] [I] es.size (λi v=>∃h:i<es.size,v=es[i].key) (λi h=>h.IsKeyIter I d i es.size ep/\jF h d es ep) where
 sub:=λb hb=>by simp at hb;simp[hb]
 frame:=λ_ _ _ st hk=>⟨st.1.at λo e=>hk I (by simp) o e,st.2.at λo e=>hk d (by simp) o e⟩
 item:=λi s Q E hi st hQ=>tS st.1 st.2 hi λh' hit' hs'=>hQ _ h' s.toks ⟨hi,rfl⟩ ⟨hit',st.2.at λo e=>hs'.extBut d o hne e⟩ λb o hb e=>hs'.extBut b o (λh=>hb (by simp[h])) e
 done:=λs Q E st hQ=>xK hh st.1 st.2 (zc _) λh' he'=>hQ h' s.toks λb o hb e=>he' b o (λh=>hb (by simp[h])) e
 self:=λ_ _ _ _ st hQ=>wpAny_pyIter_keyiter st.1 hQ
def raw_src(lo:(d==sysModules)=false):KdlSrc prog w "dict" d d es.size (λi v=>∃h:i<es.size,v=es[i].key) (λh=>jF h d es ep) where
 type:=λ_ hm=>hm.type
 there:=λ_ hm=>let⟨_,ho,_⟩:=hm;⟨qe ho,qe ho⟩
 keep:=λ_ _ hm hk=>hm.at λo e=>hk d (.inl rfl) o e
 notList:=by decide
 notTuple:=by decide
 hint:=λ_ _ _ _ hm hq=>kdl_hint_dict hm.type hq
 iter:=λ_ _ hh hm=>⟨_,_,(λ_ _ hq=>tR lo hm hq),rD hh _ (let⟨_,ho,_⟩:=hm;ne_of_lt (qe ho)),⟨⟨_,qd _ rfl,rfl,rfl⟩,hm.at λo e=>qc _ e⟩⟩
end
end ST
namespace ST
open PySem
def xQ:typeLookup (.type "list") "keys"=pure none:=by rw[typeLookup_type,builtinLookup_eq_fast];kernel_rfl
def rJ{prog:Program}{w:World}{A:Around}{E:zw}{s:Shared}{a:Addr}{xs:Array Value}{n:Nat}{sl:Array _}{Q:Option Value->Shared->Prop}(hA:A.handled=none)
  (hx:s.heap.get? a=some {cls:=.type "list",data:=.seq xs n,slots:=sl})(h:∀h' tk e,Heap.NewAttrErr s.heap h' e (.ref a) "keys"->Q none {s with heap:=h',toks:=tk}):
  wpAny (model prog w) A (getAttr? (.ref a) "keys") Q E s:=by
 obtain⟨hp,g,d,tk,os⟩:=s;have ty:∀t,(⟨hp,g,d,t,os⟩:Shared).TypeIs (.ref a) "list":=λ_=>⟨_,hx,rfl⟩
 have q1:=sub_AttributeError;have q2:=F.slot_list_getattribute.lookup;have q3:=F.slot_list_getattribute.bind (.ref a);have q4:=am_list_getattr_none;unfold getAttr? getAttrBy? getAttrBy
 repeat (any_goals (first|assumption|exact ty _|((with_reducible show wpAny _ _ (call (Value.builtin "list.__getattribute__") _ _) _ _ _);refine call_meets F.slot_list_getattribute (ty _) am_entry_list_getattribute (F.args_list_getattribute_2 _ _) (meets_getattribute_miss_list a xs n sl "keys" _ xQ (by decide+kernel)) ⟨hx,hA,λh' tk' e z=>?_⟩)|wp_step))
 obtain⟨t',u',he⟩:=z.there;show wpAny _ _ (getattributeRaised _ _ _ _ _ _ _) _ _ _;unfold getattributeRaised
 repeat (any_goals (first|assumption|wp_step))
 exact h _ _ _ z
def jY:entryFor table "dict.update.loop"=some Builtin.«dict.update.loop»:=entryFor_of_tree (by kernel_rfl)
def eS:plainId "dict.update.loop"=true:=by decide+kernel
def pair_items{t:Addr}{k y:Value}{Q:List Value->Shared->Prop}(ht:s.heap.IsTuple t #[k,y])(h:Q [k,y] s):wpAny (model prog w) A (Builtin.Dict.pairItems (.ref t)) Q E s:=by
 obtain⟨o,e,c,r⟩:=ht;obtain⟨hp,g,d,tk,os⟩:=s;have hT:(⟨hp,g,d,tk,os⟩:Shared).TypeIs (.ref t) "tuple":=⟨_,e,c⟩
 unfold Builtin.Dict.pairItems
 repeat (any_goals (first|assumption|wp_step))
 obtain⟨n,r⟩:=r;rw[r];exact qb (qb h)
def rQ{R:Result->Shared->Prop}{I:Addr}{fp wr:List Addr}{G:Array GenState->Array GenState->Prop}{n:Nat}{P:Nat->Value->Prop}{St:Nat->Shared->Prop}(W:WalksS prog w A.in1 I fp wr G n P St)(D:Addr)(hD:D∉fp){J:Nat->Heap->Prop}
  (stay:∀i h h',i<=n->J i h->(∀b o,b∉wr->h.get? b=some o->h'.get? b=some o)->J i h')
  (step:∀i v(s:Shared),i<n->P i v->J i s.heap->∃t k y,v=.ref t/\s.heap.IsTuple t #[k,y]/\
   ∀(Q:Unit->Shared->Prop)(E:zw),(∀h' tk,s.toks<=tk->Heap.SameBut D s.heap h'->J (i+1) h'->Q () {s with heap:=h',toks:=tk})->wpAny (model prog w) A.in1 (dictSet D k y) Q E s):
  ∀(k i:Nat)(j:Int)(s:Shared),n-i=k->i<=n->St i s->J i s.heap->(∀s',Moved (D::wr) G s s'->J n s'.heap->R (.ok (.ret .none)) s')->
   codeAny (model prog w) A (.builtin "dict.update.loop" ⟨[.ref D,.ref I,.int j 0,.none],[]⟩) R s:=by
 have hDw:D∉wr:=λh=>hD (W.sub _ h);intro k;induction k with
 |zero=>
  intro i j s hk hi st hJ hR;have e:i=n:=by lia
  subst e;refine codeAny_builtin jY ?_;rw[Around.under_plainId eS _];show wpAny _ A.in1 (pyNext (.ref I)>>=_) _ _ s;refine qa (W.done s _ _ st λs' hm=>?_);show wpAny _ A.in1 (Builtin.Dict.addKeywords D []>>=_) _ _ s';exact qa (qb (qb (hR s' (hm.mono λb hb=>qm _ hb) (stay _ _ _ (zc _) hJ hm.heap))))
 |succ k ih=>
  intro i j s hk hi st hJ hR;have hlt:i<n:=by lia
  refine codeAny_builtin jY ?_;rw[Around.under_plainId eS _];show wpAny _ A.in1 (pyNext (.ref I)>>=_) _ _ s;refine qa (W.item i s _ _ hlt st λv s' hP st' hm=>?_);show wpAny _ A.in1 (holding [v] _>>=_) _ _ s';refine qa (zt ?_);obtain⟨t,x,y,rfl,ht,hw⟩:=step i v s' hlt hP (stay _ _ _ hi hJ hm.heap);refine qa (wpAny_tryCatch (pair_items ht (zt (hw _ _ λh' tk hk' sb hJ'=>?_))));refine qb ⟨plainId_quiet eS _,ih (i+1) _ _ (by lia) hlt (W.frame _ s' _ _ st' hk' λb hb o e=>?_) hJ' λs'' hm'' hJ''=>?_⟩
  .rw[sb.2 b (λz=>hD (z▸hb))];exact e
  .refine hR s'' (Moved.trans W.gtrans ((hm.mono λb hb=>qm _ hb).then_heap hk' λb o hb e=>?_) hm'') hJ'';rw[sb.2 b (λz=>hb (z▸qo))];exact e
def call_dictL{l:Addr}{xs:Array Value}{n0 B:Nat}{sl:Array _}{J:Nat->Heap->Prop}{Q:zw}(hA:A.handled=none)(hl:s.heap.get? l=some {cls:=.type "list",data:=.seq xs n0,slots:=sl})
  (h0:∀h,h.get? s.heap.objs.size=some {cls:=.type "dict",data:=.dict #[]}->(∀b o,s.heap.get? b=some o->h.get? b=some o)->J 0 h)
  (stay:∀i h h',J i h->(∀b o,b<=s.heap.objs.size->h.get? b=some o->h'.get? b=some o)->J i h')
  (step:∀(A:Around) i v(s':Shared),A.units<=B->i<xs.size->xs[i]?=some v->J i s'.heap->∃t k y,v=.ref t/\s'.heap.IsTuple t #[k,y]/\
   ∀(Q:Unit->Shared->Prop)(E:zw),(∀h' tk,s'.toks<=tk->Heap.SameBut s.heap.objs.size s'.heap h'->J (i+1) h'->Q () {s' with heap:=h',toks:=tk})->wpAny (model prog w) A (dictSet s.heap.objs.size k y) Q E s')
  (hB:A.units+20<=B)
  (h:∀(h':Heap)(tk:Nat),J xs.size h'->(∀b o,s.heap.get? b=some o->h'.get? b=some o)->Q (.ref s.heap.objs.size) {s with heap:=h',toks:=tk}):
  wpAny (model prog w) A (call (.type "dict") [.ref l]) Q E s:=by
 refine callType_codes (Q₁:=λobj s₁=>obj=.ref s.heap.objs.size/\s₁={s with heap:=s.heap.push {cls:=.type "dict",data:=.dict #[]}}) F.kt_called_dict (F.kt_typeCall_dict_1 _) F.entry_dict_init (kt_code_dict_new _ ⟨rfl,rfl⟩) ?_;rintro obj s₁ ⟨rfl,rfl⟩;have hD:(s.heap.push {cls:=.type "dict",data:=.dict #[]}).get? s.heap.objs.size=some {cls:=.type "dict",data:=.dict #[]}:=qd _ rfl;have tD:Shared.TypeIs {s with heap:=s.heap.push {cls:=.type "dict",data:=.dict #[]}} (.ref s.heap.objs.size) "dict":=⟨_,hD,rfl⟩
 have hl1:=qc {cls:=.type "dict",data:=.dict #[]} hl;have tL:Shared.TypeIs {s with heap:=s.heap.push {cls:=.type "dict",data:=.dict #[]}} (.ref l) "list":=⟨_,hl1,rfl⟩
 have z1:(s.heap.push {cls:=.type "dict",data:=.dict #[]}).objs.size=s.heap.objs.size+1:=Heap.size_push ..;refine⟨tD,F.args_dict_init_2 _ _,?_⟩;unfold Builtin.«dict.__init__»;refine qa ?_;unfold Builtin.Dict.selfAndRest;refine qa (wpAny_notOrdered_dict tD ?_);show wpAny _ _ (pure (s.heap.objs.size,[Value.ref l])) _ _ _;refine qb ?_;show wpAny _ _ (Builtin.Dict.updateFrom "dict.__init__" s.heap.objs.size (.ref l) [] .none) _ _ _;unfold Builtin.Dict.updateFrom;refine qa (wpAny_typeOf tL ?_);rw[q8 (by decide)];refine qa (rJ hA hl1 λh2 tk2 e hn=>?_);rw[q8 (show(none:Option Value).isNone=true from rfl)];have hl2:({s with heap:=h2,toks:=tk2}:Shared).heap.IsList l xs:=⟨_,hn.keeps _ _ hl1,rfl,_,rfl⟩
 have hD2:=hn.keeps _ _ hD;have lt2:s.heap.objs.size<h2.objs.size:=lt_of_get hD2;have ltl:l<s.heap.objs.size:=lt_of_get hl;refine qa (wpAny_rule (qa (wpAny_pyIter_list hl2 ?_)));refine qb ⟨plainId_quiet eS _,?_⟩;refine rQ (W:=(Walks.list (A:=A.in1.in1) hA h2.objs.size l (ne_of_lt (lt_trans ltl lt2)) xs).toS) s.heap.objs.size (λz=>?_) (J:=J) (λi h h' _ hJ hk=>stay i h h' hJ λb o hb e=>hk b o (λz=>?_) e)
  (λi v s' hi hP hJ=>step _ i v s' (by show A.units+1+1<=B;lia) hi hP hJ) (xs.size-0) 0 _ _ rfl (zero_le _) ⟨⟨_,qd _ rfl,rfl,rfl⟩,hl2.push _⟩ (h0 _ (qc _ hD2) λb o e=>qc _ (hn.keeps _ _ (qc _ e))) λs' hm hJ=>?_
 .rcases qC.mp z with z|z
  .exact ne_of_lt lt2 z
  .exact ne_of_gt ltl (qv.mp z)
 .exact absurd (qv.mp z) (ne_of_lt (Nat.lt_of_le_of_lt hb lt2))
 .obtain⟨h',g',d',tk',os'⟩:=s';have eg:g'=s.gens:=hm.gens;have ed:d'=s.drawn:=hm.drawn;have eo:os'=s.os:=hm.os;subst eg ed eo;refine⟨rfl,h h' tk' hJ λb o e=>?_⟩;have hb:=lt_of_get e;refine hm.heap b o (λz=>?_) (qc _ (hn.keeps _ _ (qc _ e)));rcases qC.mp z with z|z
  .exact ne_of_lt hb z
  .exact ne_of_lt (lt_trans hb lt2) (qv.mp z)
end ST
namespace L2
open PySem PySem.Spec PyProof.Rows
abbrev aQ:=Sum Int Str
def iP:aQ->Value->Bool
 |.inl k,v=>Value.isInt k v
 |.inr x,v=>Value.isStrOf x v
def KB(w:World):aQ->Int
 |.inl k=>hashInt k
 |.inr x=>hashStr w x
def vW:∀{k:aQ}{v:Value},iP k v=true->(∃i t,k=Sum.inl i/\v=Value.int i t)\/(∃x t,k=Sum.inr x/\v=Value.str x t)
 |.inl i,v,h=>by obtain⟨t,e⟩:=Value.isInt_shape (k:=i) (v:=v) h;exact .inl ⟨i,t,rfl,e⟩
 |.inr x,v,h=>by obtain⟨t,e⟩:=Value.isStrOf_shape (x:=x) (v:=v) h;exact .inr ⟨x,t,rfl,e⟩
def Vw(i:Int)(t:Tok):iP (.inl i) (.int i t)=true:=by simp[iP,Value.isInt]
def VD(x:Str)(t:Tok):iP (.inr x) (.str x t)=true:=by simp[iP,Value.isStrOf]
def Rv(a b:Int):decide ((Sum.inl a:aQ)=Sum.inl b)=(a==b):=by grind
def Ro(a b:Str):decide ((Sum.inr a:aQ)=Sum.inr b)=decide (a=b):=by grind
def QF(a:Int)(b:Str):decide ((Sum.inl a:aQ)=Sum.inr b)=false:=qT (λq=>nomatch q)
def QH(a:Str)(b:Int):decide ((Sum.inr a:aQ)=Sum.inl b)=false:=qT (λq=>nomatch q)
def aE(prog:Program)(w:World):PySem.KeyKind prog w aQ where
 is:=iP
 hash:=KB w
 inj:=λv a b ha hb=>by
  rcases vW ha with⟨i,t,rfl,rfl⟩|⟨x,t,rfl,rfl⟩
  .rcases vW hb with⟨j,u,rfl,e⟩|⟨y,u,rfl,e⟩
   .injection e with e1 _;rw[e1]
   .exact nomatch e
  .rcases vW hb with⟨j,u,rfl,e⟩|⟨y,u,rfl,e⟩
   .exact nomatch e
   .injection e with e1 _;rw[e1]
 byValue:=λk v h=>by rcases vW h with⟨i,t,rfl,rfl⟩|⟨x,t,rfl,rfl⟩<;>rfl
 pyHash:=λhv h=>by
  rcases vW hv with⟨i,t,rfl,rfl⟩|⟨x,t,rfl,rfl⟩
  .exact wpAny_pyHash_int h
  .exact wpAny_pyHash_str h
 eqBool:=λhu hv h=>by
  rcases vW hu with⟨i,t,rfl,rfl⟩|⟨x,t,rfl,rfl⟩
  .rcases vW hv with⟨j,u,rfl,rfl⟩|⟨y,u,rfl,rfl⟩
   .rw[Rv]at h;exact wpAny_eqBool_int h
   .rw[QF]at h;exact SeqAt.EqAt.int_str i t y u _ _ _ _ h
  .rcases vW hv with⟨j,u,rfl,rfl⟩|⟨y,u,rfl,rfl⟩
   .rw[QH]at h;exact SeqAt.EqAt.str_int x t j u _ _ _ _ h
   .rw[Ro]at h;exact wpAny_eqBool_str h
 «strs»:=λk x t v h=>by
  rcases vW h with⟨i,u,rfl,e⟩|⟨y,u,rfl,e⟩
  .exact nomatch e
  .injection e with e1 _
   subst e1;cases v<;>rfl
def WR(prog:Program)(w:World)(i:Int)(t:Tok):(aE prog w).is (.inl i) (.int i t)=true:=Vw i t
def WJ(prog:Program)(w:World)(x:Str)(t:Tok):(aE prog w).is (.inr x) (.str x t)=true:=VD x t
inductive V where
 |non|bl(b:Bool)|int(i:Int)|str(x:Str)|byt(b:Array UInt8)|flt(b:UInt64)|ref(a:Addr)|ty(n:String)
 deriving DecidableEq
def zL:V->Value->Prop
 |.non,u=>u=Value.none
 |.bl b,u=>u=Value.bool b
 |.int i,u=>∃t,u=Value.int i t
 |.str x,u=>∃t,u=Value.str x t
 |.byt b,u=>∃t,u=Value.bytes b t
 |.flt b,u=>∃t,u=Value.float b t
 |.ref a,u=>u=Value.ref a
 |.ty n,u=>u=Value.type n
abbrev zR:List V->List Value->Prop:=Paired zL
theorem zR.length(r:zR xs us):xs.length=us.length:=Paired.length r
def zR.get:∀{xs:List V}{us:List Value}{i:Nat}{x:V},zR xs us->xs[i]?=some x->∃u,us[i]?=some u/\zL x u
 |_,_,_,_,.nil,e=>by simp at e
 |_,_,0,_,.cons r _,e=>by simp at e;subst e;exact⟨_,rfl,r⟩
 |_,_,i+1,x,.cons _ t,e=>by obtain⟨u,h1,h2⟩:=zR.get (i:=i) (x:=x) t (by simpa using e);exact⟨u,by simpa using h1,h2⟩
def zR.set(r:zL x u):∀{xs:List V}{us:List Value}(i:Nat),zR xs us->zR (xs.set i x) (us.set i u)
 |_,_,_,.nil=>.nil
 |_,_,0,.cons _ t=>.cons r t
 |_,_,i+1,.cons q t=>.cons q (zR.set r i t)
def zR.append:∀{xs ys:List V}{us ws:List Value},zR xs us->zR ys ws->zR (xs++ys) (us++ws):=by
 intro xs ys us ws r s;induction r with
 |nil=>exact s
 |cons r _ ih=>exact .cons r ih
def zR.take:∀{xs:List V}{us:List Value}(n:Nat),zR xs us->zR (xs.take n) (us.take n)
 |_,_,0,_=>.nil
 |_,_,_+1,.nil=>.nil
 |_,_,n+1,.cons r t=>.cons r (zR.take n t)
def zR.drop:∀{xs:List V}{us:List Value}(n:Nat),zR xs us->zR (xs.drop n) (us.drop n)
 |_,_,0,r=>r
 |_,_,_+1,.nil=>.nil
 |_,_,n+1,.cons _ t=>zR.drop n t
def zR.none_of:∀{xs:List V}{us:List Value}{i:Nat},zR xs us->xs[i]?=none->us[i]?=none:=λ{xs us i} r e=>by have h1:=r.length;have h2:xs.length<=i:=List.getElem?_eq_none_iff.mp e;exact List.getElem?_eq_none_iff.mpr (by lia)
def fU:Option V->Option Value->Prop
 |some v,some u=>zL v u
 |none,none=>True
 |_,_=>False
def KV{κ:Type}:List (κ×V)->List (κ×Value)->Prop:=Paired λ(p:κ×V)(q:κ×Value)=>p.1=q.1/\zL p.2 q.2
def kV:aQ->V
 |.inl i=>.int i
 |.inr x=>.str x
inductive HO where
 |lst(xs:List V)
 |tup(xs:List V)
 |dK(zV:List (aQ×V))|dT(zV:List (List aQ×V))
 |set(vs:List V)
 |ins(C dx:Addr)(fs:List (Str×V))
 |own(x:Addr)
 |xd(fs:List (Str×V))
 |met(f x:Addr)
 |rng(lo hi:Int)
 |frz(o:Obj)(u:HO)
 |tbl(ps:Array Value)
 |ext(φ:Heap->Prop)
abbrev Hp:=Addr->Option HO
def upd(H:Hp)(a:Addr)(o:HO):Hp:=λb=>if b=a then some o else H b
def gC:upd H a o a=some o:=by unfold upd;rw[q8 rfl]
def bJ(h:b≠a):upd H a o b=H b:=by unfold upd;rw[q9 h]
def Gp{H:Hp}(h:H a=some o)(h':H b=some u)(d:o≠u):a≠b:=by grind
def pP{H:Hp}(h:H a=some o)(h':H b=none):a≠b:=by intro e;subst e;rw[h]at h';cases h'
section
variable(P:Program)(w:World)
def nQ(h:Heap)(a:Addr):Prop:=∀o,h.get? a=some o->o.dict=none
def nQ.new{h:Heap}{c:Value}{x:Data}{n:Addr}(e:n=h.objs.size)(hx:(h.push {cls:=c,data:=x}).get? h.objs.size=some {cls:=c,data:=x}):nQ (h.push {cls:=c,data:=x}) n:=λo q=>by subst e;rw[hx]at q;cases q;rfl
def zT(H:Hp)(h:Heap)(a:Addr):HO->Prop
 |.lst xs=>xs.length<=sizeLine/\∃(zY:List Value)(n:Nat),zR xs zY/\h.get? a=some {cls:=.type "list",data:=.seq zY.toArray n}
 |.tup xs=>(xs.length<=sizeLine/\nQ h a)/\∃zY:List Value,zR xs zY/\IsTup h a zY.toArray
 |.dK zV=>zV.length<=sizeLine/\(a==sysModules)=false/\∃vs,KV zV vs/\h.DictOf (aE P w) a vs
 |.dT zV=>zV.length<=sizeLine/\(a==sysModules)=false/\∃xs:List (List aQ×Addr×Value),
  Paired (λ(p:List aQ×V)(q:List aQ×Addr×Value)=>p.1=q.1/\H q.2.1=some (.tup (p.1.map kV))/\zL p.2 q.2.2) zV xs/\
  ∃o es ep,h.get? a=some o/\o.ExactDict/\o.data=.dict es ep/\es.toList=xs.map (entryOfKey (tupleKind (aE P w)))/\(xs.map (·.1)).Nodup
 |.set vs=>vs.length<=151/\((vs=[]/\h.get? a=some (ST.freshSet (ST.ldOf w)))\/(vs≠[]/\∃xs:List (aQ×Value),vs.Perm (xs.map λp=>kV p.1)/\ST.VSet (ST.ldOf w) (aE P w) h a xs)\/vs≠[]/\∃xs:List (List aQ×Addr),vs.Perm (xs.map λp=>V.ref p.2)/\(∀p∈xs,H p.2=some (.tup (p.1.map kV)))/\ST.TRaw (ST.ldOf w) (tupleKind (aE P w)) h a xs)
 |.ins C dx fs=>H dx=some (.own a)/\fs.length<=1000/\dx≠a/\h.get? a=some (W.instObj C dx)/\
  ∃mA,h.Ns1 dx mA/\(∀f,fU (fs.lookup f) (mA f))/\PySem.Within mA (fs.map (·.1))
 |.own _=>∃o,h.get? a=some o
 |.xd fs=>∃mA,h.Ns1 a mA/\∀f,fU (fs.lookup f) (mA f)
 |.rng lo hi=>∃t u v,h.get? a=some {cls:=.type "range",data:=.fields #[.int lo t,.int hi u,.int 1 v]}
 |.frz o u=>h.get? a=some o/\zT H h a u
 |.tbl ps=>h.get? a=some {cls:=.none,data:=.fields ps}
 |.met f x=>h.get? a=some (W.methodObj (.ref f) (.ref x))
 |.ext φ=>φ h/\(∃o,h.get? a=some o)/\∀h1 h2:Heap,φ h1->(∀o,h1.get? a=some o->h2.get? a=some o)->φ h2
def fN(H:Hp)(h:Heap):Prop:=∀a o,H a=some o->zT P w H h a o
end
section
variable{P:Program}{w:World}{H H':Hp}{h h':Heap}{a:Addr}{o:HO}
def zT.lt(x:zT P w H h a o):a<h.objs.size:=by
 cases o with
 |lst xs=>obtain⟨_,_,_,_,e⟩:=x;exact qe e
 |tup xs=>obtain⟨_,_,_,p⟩:=x;exact p.lt
 |dK zV=>obtain⟨_,_,_,_,o,_,_,e,_⟩:=x;exact qe e
 |dT zV=>obtain⟨_,_,_,_,o,_,_,e,_⟩:=x;exact qe e
 |set vs=>
  rcases x with⟨_,⟨_,e⟩|⟨_,_,_,_,_,_,_,e,_⟩|⟨_,_,_,_,_,_,_,_,e,_⟩⟩
  .exact qe e
  .exact qe e
  .exact qe e
 |ins C dx fs=>obtain⟨_,_,_,e,_⟩:=x;exact qe e
 |own y=>obtain⟨_,e⟩:=x;exact qe e
 |xd fs=>obtain⟨_,⟨_,_,_,e,_⟩,_⟩:=x;exact qe e
 |rng lo hi=>obtain⟨_,_,_,e⟩:=x;exact qe e
 |frz ob u=>obtain⟨e,_⟩:=x;exact qe e
 |tbl ps=>exact qe (show h.get? a=some _ from x)
 |met f y=>exact qe (show h.get? a=some _ from x)
 |ext φ=>obtain⟨_,⟨_,e⟩,_⟩:=x;exact qe e
def Paired.mapP:∀{l₁:List α}{l₂:List β},Paired F l₁ l₂->(∀a b,F a b->G a b)->Paired G l₁ l₂
 |_,_,.nil,_=>.nil
 |_,_,.cons r t,f=>.cons (f _ _ r) (Paired.mapP t f)
def zT.stay(x:zT P w H h a o)(k:∀b u,(b=a\/H b=some (.own a))->h.get? b=some u->h'.get? b=some u)
  (ho:∀b,H b=some (.own a)->H' b=some (.own a))(ht:∀b xs,H b=some (.tup xs)->H' b=some (.tup xs)):zT P w H' h' a o:=by
 induction o with
 |lst xs=>obtain⟨z,zY,n,r,e⟩:=x;exact⟨z,zY,n,r,k _ _ (.inl rfl) e⟩
 |tup xs=>obtain⟨⟨z,nd⟩,zY,r,ob,e,c⟩:=x;exact⟨⟨z,λo q=>by rw[k _ _ (.inl rfl) e]at q;cases q;exact nd _ e⟩,zY,r,ob,k _ _ (.inl rfl) e,c⟩
 |dK zV=>obtain⟨z,y,vs,r,ob,es,ep,e,c⟩:=x;exact⟨z,y,vs,r,ob,es,ep,k _ _ (.inl rfl) e,c⟩
 |dT zV=>obtain⟨z,y,xs,r,ob,es,ep,e,c⟩:=x;exact⟨z,y,xs,Paired.mapP r λp q z=>⟨z.1,ht _ _ z.2.1,z.2.2⟩,ob,es,ep,k _ _ (.inl rfl) e,c⟩
 |set vs=>
  rcases x with⟨z,⟨n,e⟩|⟨n,xs,p,ob,es,ep,t,e,c⟩|⟨n,xs,p,hx,ob,es,ep,t,e,c⟩⟩
  .exact⟨z,.inl ⟨n,k _ _ (.inl rfl) e⟩⟩
  .exact⟨z,.inr (.inl ⟨n,xs,p,ob,es,ep,t,k _ _ (.inl rfl) e,c⟩)⟩
  .exact⟨z,.inr (.inr ⟨n,xs,p,λq hq=>ht _ _ (hx q hq),ob,es,ep,t,k _ _ (.inl rfl) e,c⟩)⟩
 |ins C dx fs=>obtain⟨d,z,ne,e,mA,⟨od,es,ep,e2,c⟩,r⟩:=x;exact⟨ho _ d,z,ne,k _ _ (.inl rfl) e,mA,⟨od,es,ep,k _ _ (.inr d) e2,c⟩,r⟩
 |own y=>obtain⟨ob,e⟩:=x;exact⟨ob,k _ _ (.inl rfl) e⟩
 |xd fs=>obtain⟨mA,⟨od,es,ep,e,c⟩,r⟩:=x;exact⟨mA,⟨od,es,ep,k _ _ (.inl rfl) e,c⟩,r⟩
 |rng lo hi=>obtain⟨t,u,v,e⟩:=x;exact⟨t,u,v,k _ _ (.inl rfl) e⟩
 |frz ob u ih=>obtain⟨e,q⟩:=x;exact⟨k _ _ (.inl rfl) e,ih q⟩
 |tbl ps=>have e:h.get? a=some {cls:=.none,data:=.fields ps}:=x;show h'.get? a=some {cls:=.none,data:=.fields ps};exact k a _ (.inl rfl) e
 |met f y=>have e:h.get? a=some (W.methodObj (.ref f) (.ref y)):=x;show h'.get? a=some (W.methodObj (.ref f) (.ref y));exact k a _ (.inl rfl) e
 |ext φ=>obtain⟨p,⟨o,e⟩,st⟩:=x;exact⟨st _ _ p λo q=>k _ _ (.inl rfl) q,⟨o,k _ _ (.inl rfl) e⟩,st⟩
def fN.lt(x:fN P w H h)(e:H a=some o):a<h.objs.size:=(x a o e).lt
def fN.fresh(x:fN P w H h)(e:h.objs.size<=a):H a=none:=by
 cases q:H a with
 |none=>rfl
 |some u=>exact absurd (lt_of_lt_of_le (x.lt q) e) (lt_irrefl _)
def fN.kept(x:fN P w H h)(k:∀b u,h.get? b=some u->h'.get? b=some u):fN P w H h':=λa o e=>(x a o e).stay (λb u _ q=>k b u q) (λ_ q=>q) λ_ _ q=>q
def fN.laid(x:fN P w H h)(k:∀b u,h.get? b=some u->h'.get? b=some u)(hp:h.objs.size<=a)(new:zT P w (upd H a o) h' a o):fN P w (upd H a o) h':=λb u e=>by
 have hn:=x.fresh hp;by_cases hb:b=a
 .subst hb;rw[gC]at e;cases e;exact new
 .rw[bJ hb]at e;exact(x b u e).stay (λc v _ q=>k c v q) (λc q=>by rw[bJ (pP q hn)];exact q) λc xs q=>by rw[bJ (pP q hn)];exact q
end
def Rd(H:Hp)(a:Addr)(u:HO):Prop:=H a=some u\/∃o,H a=some (.frz o u)
def Rd.of(h:H a=some u):Rd H a u:=.inl h
def Rd.ok(r:Rd H a u)(x:fN P w H h):zT P w H h a u:=by
 rcases r with r|⟨o,r⟩
 .exact x a u r
 .obtain⟨_,q⟩:=x a _ r;exact q
def Gd:Option HO->Prop
 |some (.lst _)=>True
 |some (.dK _)=>True
 |some (.dT _)=>True
 |some (.set _)=>True
 |some (.ins _ _ _)=>True
 |some (.ext _)=>True
 |_=>False
section
variable{P:Program}{w:World}{H:Hp}{h h':Heap}{x e:Addr}{o':HO}
def fN.write(ok:fN P w H h)(mu:Gd (H x))(he:e=x\/H e=some (.own x))(k:∀b u,b≠e->h.get? b=some u->h'.get? b=some u)(heo:∃u,h'.get? e=some u)
  (new:zT P w (upd H x o') h' x o'):fN P w (upd H x o') h':=λb u q=>by
 have nown:∀c y,H c=some (.own y)->c≠x:=λc y r z=>by subst z;rw[r]at mu;exact mu
 have ntup:∀c xs,H c=some (.tup xs)->c≠x:=λc xs r z=>by subst z;rw[r]at mu;exact mu
 by_cases hb:b=x
 .subst hb;rw[gC]at q;cases q;exact new
 .rw[bJ hb]at q;by_cases hbe:b=e
  .have q':H b=some (.own x):=by grind
   rw[q]at q';cases q';obtain⟨v,hv⟩:=heo;exact⟨v,by rw[hbe];exact hv⟩
  .refine(ok b u q).stay (λc v hc r=>k c v ?_ r) (λc r=>by rw[bJ (nown c b r)];exact r) λc xs r=>by rw[bJ (ntup c xs r)];exact r
   grind
end
structure Un(fs ex:List Addr)(H H':Hp)(h h':Heap):Prop where
 keep:∀b o,h.get? b=some o->H b=none->b∉fs->b∉ex->h'.get? b=some o
 slot:∀b o,h.get? b=some o->H b=none->b∈fs->b∉ex->∃sl,h'.get? b=some {o with slots:=sl}
 free:∀b o,h.get? b=some o->H b=none->b∉ex->H' b=none
 there:∀b o,h.get? b=some o->b∉ex->∃o',h'.get? b=some o'
 tups:∀b xs,H b=some (.tup xs)->H' b=some (.tup xs)
 frzs:∀b o u,H b=some (.frz o u)->H' b=some (.frz o u)
 tbls:∀b ps,H b=some (.tbl ps)->∃more,H' b=some (.tbl (ps++more))
section
variable{fs fs' ex ex':List Addr}{H H1 H2:Hp}{h h1 h2 h':Heap}{a x e:Addr}{o:HO}
def Un.any(u:Un fs ex H H1 h h1)(q:h.get? b=some ob)(n:H b=none)(hx:b∉ex):∃sl,h1.get? b=some {ob with slots:=sl}:=by
 by_cases hb:b∈fs
 .exact u.slot b ob q n hb hx
 .exact⟨ob.slots,u.keep b ob q n hb hx⟩
def Un.kept(k:∀b u,h.get? b=some u->h'.get? b=some u):Un fs ex H H h h':=
 ⟨λb ob q _ _ _=>k b ob q,λb ob q _ _ _=>⟨ob.slots,k b ob q⟩,λ_ _ _ n _=>n,λb ob q _=>⟨ob,k b ob q⟩,λ_ _ q=>q,λ_ _ _ q=>q,λ_ ps q=>⟨#[],by rw[q];simp⟩⟩
def Un.refl:Un fs ex H H h h:=Un.kept λ_ _ q=>q
def Un.laid(k:∀b u,h.get? b=some u->h'.get? b=some u)(hp:h.objs.size<=a)(hn:H a=none):Un fs ex H (upd H a o) h h' where
 keep:=λb u q _ _ _=>k b u q
 slot:=λb u q _ _ _=>⟨u.slots,k b u q⟩
 free:=λb u q n _=>by rw[bJ (ne_of_lt (lt_of_lt_of_le (qe q) hp))];exact n
 there:=λb u q _=>⟨u,k b u q⟩
 tups:=λb xs q=>by rw[bJ (pP q hn)];exact q
 frzs:=λb u xs q=>by rw[bJ (pP q hn)];exact q
 tbls:=λb ps q=>⟨#[],by rw[bJ (pP q hn),q];simp⟩
def Un.write(mu:Gd (H x))(he:e=x\/H e=some (.own x))(k:∀b u,b≠e->h.get? b=some u->h'.get? b=some u)(heo:∃u,h'.get? e=some u):Un fs ex H (upd H x o) h h':=by
 have hx:∀b,H b=none->b≠x:=λb n z=>by subst z;rw[n]at mu;exact mu
 have hb:∀b,H b=none->b≠e:=λb n z=>by grind
 have hm:∀b u,H b=some u->¬Gd (some u)->b≠x:=λb u q nm z=>by subst z;rw[q]at mu;exact nm mu
 refine⟨λb u q n _ _=>k b u (hb b n) q,λb u q n _ _=>⟨u.slots,k b u (hb b n) q⟩,λb u q n _=>by rw[bJ (hx b n)];exact n,λb u q _=>?_,
  λb xs q=>by rw[bJ (hm b _ q λz=>z)];exact q,λb u xs q=>by rw[bJ (hm b _ q λz=>z)];exact q,λb ps q=>⟨#[],by rw[bJ (hm b _ q λz=>z),q];simp⟩⟩
 grind
end
def Jt(h:Heap)(H:Hp):List Addr:=(List.range h.objs.size).filter λa=>(H a).isSome
def kO(h:Heap)(H:Hp):Heap:=W.hideAll h (Jt h H)
def VP(h:Heap)(H:Hp):(kO h H).objs.size=h.objs.size:=W.hideAll_size _ _
def SE(e:h.get? b=some o)(n:H b=none):(kO h H).get? b=some o:=
 W.hideAll_get _ e λhm=>by have q:(H b).isSome=true:=(mem_filter.mp hm).2;rw[n]at q;simp at q
def Ry(e:(kO h H).get? b=some o):h.get? b=some o/\H b=none:=by
 have e':h.get? b=some o:=W.of_hideAll (Jt h H) e;refine⟨e',?_⟩;cases q:H b with
 |none=>rfl
 |some x=>grind[Jt,mem_filter,mem_range,Heap.lt_size,kO,W.hideAll_none]
def pK(g h:Heap)(L:Addr):List (Addr×Obj):=(List.range h.objs.size).filterMap λa=>if a=L\/(g.get? a).isSome=true then none else(h.get? a).map λo=>(a,o)
def WU(h1:a≠L)(h2:g.get? a=none)(h3:h.get? a=some o):(a,o)∈pK g h L:=
 mem_filterMap.mpr ⟨a,qK.mpr (qe h3),by simp[h1,h2,h3]⟩
def rest(g h:Heap)(L d:Addr):List (Addr×Obj):=(pK g h L).filter λp=>decide (p.1≠d)
def zbV(h1:a≠L)(h2:g.get? a=none)(h3:h.get? a=some o)(h4:a≠d):(a,o)∈rest g h L d:=
 mem_filter.mpr ⟨WU h1 h2 h3,qS h4⟩
structure Mod(K:W.Frag)(mg:Str->Option Value)(base:Heap):Prop where
 kin:K.In base
 glob:base.Ns mainGlobals mg
 blt:∃mb,base.Ns builtinsNs mb/\∀x:Str,x≠"__name__"->mb x=bootBuiltins x
 nolimit:base.NoLimit
structure Cx where
 prog:Program
 w:World
 K:W.Frag
 mg:Str->Option Value
 base:Heap
 A:Around
 N:List Str
 s₀:Shared
 H₀:Hp
 env:Env
 outer:List Env
 stack:List Env
 ex:List Addr
 fn:Str->Bool
 calm:Bool
 pn:List (Addr×Obj)
 xe:zw
def vD(l:List Env):List Addr:=l.filterMap (·.frame)
abbrev Cx.fs(X:Cx):List Addr:=vD X.outer
def FV(sc:Scope)(x:Str):Prop:=sc.names.lookup x=some .local\/sc.names.lookup x=some .cell\/sc.names.lookup x=some .free
def Loc(sc:Scope)(x:Str):Prop:=sc.names.lookup x=some .local\/sc.names.lookup x=some .cell
def Look(env:Env)(h:Heap)(m:Str->Option Value)(x:Str)(u:Value):Prop:=
 (env.kindOf x=some .local/\m x=some u)\/((env.kindOf x=some .cell\/env.kindOf x=some .free)/\∃c,env.cells.lookup x=some c/\h.IsCell c (some u))
structure Cx.Ok(X:Cx):Prop where
 mod:Mod X.K X.mg X.base
 kind:X.env.scope.kind=.function
 glob:X.env.globals=mainGlobals
 blt:X.env.builtins=builtinsNs
 above:X.s₀.heap.objs.size<=X.env.locals
 inj:∀x y c,X.env.cells.lookup x=some c->X.env.cells.lookup y=some c->x=y
 has:∀x,(X.env.kindOf x=some .cell\/X.env.kindOf x=some .free)->∃c,X.env.cells.lookup x=some c
 cab:∀x c,X.fn x=true->X.env.cells.lookup x=some c->X.s₀.heap.objs.size<=c
 hd:X.calm=true->X.A.handled=none
 frames:X.A.frames=some X.stack
 stk:X.stack=X.outer\/(X.stack=X.env::X.outer/\X.env.frame=some X.env.locals)
 exf:∀b∈X.ex,b≠X.env.locals/\∀x c,X.env.cells.lookup x=some c->c≠b
 bs:∀b o,X.base.get? b=some o->X.s₀.heap.get? b=some o/\X.H₀ b=none
 bsz:X.base.objs.size<=X.s₀.heap.objs.size
 noex:∀b o,X.base.get? b=some o->b∉X.ex
 exfs:∀b∈X.ex,b∉X.fs
 funs:X.s₀.heap.FunFrames X.base X.outer
 frf:∀b∈X.fs,X.H₀ b=none
structure Inv(X:Cx)(zU:List (Addr×Obj))(Z:List (Option V))(H:Hp)(s:Shared):Prop where
 ok:X.Ok
 os:s.os=X.s₀.os
 bare:AllBare s.gens
 base:Un X.fs X.ex X.H₀ H X.s₀.heap s.heap
 loc:∃m,s.heap.Ns X.env.locals m/\∀(i:Nat)(x:Str)(v:V),X.N[i]?=some x->Z[i]?=some (some v)->FV X.env.scope x->∃u,zL v u/\Look X.env s.heap m x u
 cell:∀x c,X.env.cells.lookup x=some c->∃v,s.heap.IsCell c v
 free:H X.env.locals=none
 freeC:∀x c,X.env.cells.lookup x=some c->H c=none
 pin:∀p∈X.pn++zU,s.heap.get? p.1=some p.2/\H p.1=none/\p.1≠X.env.locals/\p.1∉X.fs/\∀v,p.2.data≠.cell v
 hok:fN X.prog X.w H s.heap
 len:Z.length=X.N.length
section
variable{X:Cx}{zU:List (Addr×Obj)}{Z:List (Option V)}{H H':Hp}{s:Shared}{h':Heap}
def Cx.Ok.nofr(ok:X.Ok)(e:X.base.get? b=some o):b∉X.fs:=λhb=>by have:=(ok.funs.mem hb).1;rw[e]at this;cases this
def Inv.bs(I:Inv X zU Z H s):∀b o,X.base.get? b=some o->s.heap.get? b=some o/\H b=none:=λb o e=>⟨I.base.keep b o (I.ok.bs b o e).1 (I.ok.bs b o e).2 (I.ok.nofr e) (I.ok.noex b o e),I.base.free b o (I.ok.bs b o e).1 (I.ok.bs b o e).2 (I.ok.noex b o e)⟩
def Inv.bk(I:Inv X zU Z H s):∀b o,X.base.get? b=some o->s.heap.get? b=some o:=λb o e=>(I.bs b o e).1
def Inv.mod(I:Inv X zU Z H s):Mod X.K X.mg X.base:=I.ok.mod
def Inv.kIn(I:Inv X zU Z H s):X.K.In s.heap:=I.ok.mod.kin.keeps I.bk
def Inv.fr(I:Inv X zU Z H s):∃m,Fr X.base X.env.locals s.heap m:=
 let⟨m,hn,_⟩:=I.loc
 ⟨m,hn,I.bk,le_trans I.ok.bsz I.ok.above⟩
def Inv.lt(I:Inv X zU Z H s):X.env.locals<s.heap.objs.size:=let⟨_,hn,_⟩:=I.loc;hn.lt
def Inv.sz(I:Inv X zU Z H s):X.s₀.heap.objs.size<=s.heap.objs.size:=le_trans I.ok.above (le_of_lt I.lt)
def Inv.nofs(I:Inv X zU Z H s)(h:s.heap.objs.size<=a):a∉X.fs:=λhb=>by obtain⟨_,o,ho,_⟩:=I.ok.funs.mem hb;exact absurd (lt_of_lt_of_le (qe ho) (le_trans I.sz h)) (lt_irrefl _)
def Inv.cne(I:Inv X zU Z H s):∀x c,X.env.cells.lookup x=some c->c≠X.env.locals:=λx c e z=>by obtain⟨v,o,ho,hd⟩:=I.cell x c e;obtain⟨m,⟨o',es,ep,ho',hd',_⟩,_⟩:=I.loc;rw[z,ho']at ho;cases ho;rw[hd']at hd;cases hd
def Inv.funs(I:Inv X zU Z H s):s.heap.FunFrames X.base X.outer:=by
 have all:∀(l:List Env),(∀b∈vD l,b∈X.fs)->X.s₀.heap.FunFrames X.base l->s.heap.FunFrames X.base l:=by
  intro l;induction l with
  |nil=>intro _ _;trivial
  |cons env r ih=>intro hs hl;obtain⟨hk,⟨L,o,hf,hn,ho,hd⟩,hr⟩:=hl;have hL:L∈X.fs:=hs L (by unfold vD;rw[filterMap_cons,hf];exact qo);obtain⟨sl,e⟩:=I.base.slot L o ho (I.ok.frf L hL) hL λz=>I.ok.exfs L z hL;exact⟨hk,⟨L,_,hf,hn,e,hd⟩,ih (λb hb=>hs b (by unfold vD;rw[filterMap_cons,hf];exact qm _ hb)) hr⟩
 exact all X.outer (λ_ hb=>hb) I.ok.funs
def Inv.stack(I:Inv X zU Z H s):s.heap.FunFrames X.base X.stack:=by
 rcases I.ok.stk with e|⟨e,hf⟩
 .rw[e];exact I.funs
 .rw[e];obtain⟨m,hn,_⟩:=I.loc;refine .cons (by rw[I.ok.kind];decide) hf hn ?_ I.funs;exact Heap.get?_none_of_le (le_trans I.ok.bsz I.ok.above)
def Inv.stkSub(I:Inv X zU Z H s):∀b∈vD X.stack,b∈X.env.locals::X.fs:=λb hb=>by
 rcases I.ok.stk with e|⟨e,hf⟩
 .rw[e]at hb;exact qm _ hb
 .rw[e]at hb;unfold vD at hb;rw[filterMap_cons,hf]at hb;exact hb
def Inv.stkFree(I:Inv X zU Z H s):∀b∈vD X.stack,H b=none:=λb hb=>by
 rcases qC.mp (I.stkSub b hb)with e|hb
 .rw[e];exact I.free
 .obtain⟨_,o,ho,_⟩:=I.ok.funs.mem hb;exact I.base.free b o ho (I.ok.frf b hb) λz=>I.ok.exfs b z hb
def Inv.step{ch:List Addr}(I:Inv X zU Z H s)
  (hch:∀b∈ch,(b∈X.ex\/X.s₀.heap.get? b=none)/\b≠X.env.locals/\(∀x c,X.env.cells.lookup x=some c->c≠b)/\∀p∈X.pn++zU,p.1≠b)
  (keep:∀b o,b≠X.env.locals->b∉X.fs->b∉ch->s.heap.get? b=some o->H b=none->h'.get? b=some o)
  (slot:∀b o,b≠X.env.locals->b∈X.fs->b∉ch->s.heap.get? b=some o->H b=none->∃sl,h'.get? b=some {o with slots:=sl})(free:∀b o,b∉ch->s.heap.get? b=some o->H b=none->H' b=none)
  (there:∀b o,b∉ch->s.heap.get? b=some o->∃o',h'.get? b=some o')
  (tups:∀b xs,H b=some (.tup xs)->H' b=some (.tup xs))(frzs:∀b o u,H b=some (.frz o u)->H' b=some (.frz o u))(tbls:∀b ps,H b=some (.tbl ps)->∃more,H' b=some (.tbl (ps++more)))
  (ns:∀m,s.heap.Ns X.env.locals m->h'.Ns X.env.locals m)(hok:fN X.prog X.w H' h')(hg:AllBare g'):
  Inv X zU Z H' {s with heap:=h',gens:=g',drawn:=d',toks:=t'}:=by
 have neL:∀b o,X.s₀.heap.get? b=some o->b≠X.env.locals:=λb o e=>ne_of_lt (lt_of_lt_of_le (qe e) I.ok.above);have neC:∀b o,X.s₀.heap.get? b=some o->b∉X.ex->b∉ch:=λb o e hx hb=>by
  rcases(hch b hb).1 with z|z
  .exact hx z
  .rw[z]at e;cases e
 have cellK:∀x c,X.env.cells.lookup x=some c->∀v,s.heap.IsCell c v->h'.IsCell c v:=λx c e v⟨o,ho,hd⟩=>by
  have nch:c∉ch:=λz=>(hch c z).2.2.1 x c e rfl;by_cases hc:c∈X.fs
  .obtain⟨sl,q⟩:=slot c o (I.cne x c e) hc nch ho (I.freeC x c e);exact⟨_,q,hd⟩
  .exact⟨o,keep c o (I.cne x c e) hc nch ho (I.freeC x c e),hd⟩
 refine⟨I.ok,I.os,hg,⟨λb o e n hb hx=>?_,λb o e n hb hx=>?_,λb o e n hx=>?_,λb o e hx=>?_,λb xs e=>tups b xs (I.base.tups b xs e),λb o xs e=>frzs b o xs (I.base.frzs b o xs e),λb ps e=>?_⟩,?_,λx c e=>?_,?_,λx c e=>?_,λp hp=>?_,hok,I.len⟩
 .exact keep b o (neL b o e) hb (neC b o e hx) (I.base.keep b o e n hb hx) (I.base.free b o e n hx)
 .obtain⟨sl,e1⟩:=I.base.slot b o e n hb hx;obtain⟨sl',e2⟩:=slot b _ (neL b o e) hb (neC b o e hx) e1 (I.base.free b o e n hx);exact⟨sl',e2⟩
 .obtain⟨o',e1⟩:=I.base.there b o e hx;exact free b o' (neC b o e hx) e1 (I.base.free b o e n hx)
 .obtain⟨o',e1⟩:=I.base.there b o e hx;exact there b o' (neC b o e hx) e1
 .obtain⟨m1,e1⟩:=I.base.tbls b ps e;obtain⟨m2,e2⟩:=tbls b _ e1;exact⟨m1++m2,by rw[e2,Array.append_assoc]⟩
 .obtain⟨m,hn,hl⟩:=I.loc;refine⟨m,ns m hn,λi x v e1 e2 e3=>?_⟩;obtain⟨u,r,l⟩:=hl i x v e1 e2 e3;refine⟨u,r,?_⟩;rcases l with l|⟨k,c,e,z⟩
  .exact .inl l
  .exact .inr ⟨k,c,e,cellK x c e _ z⟩
 .obtain⟨v,z⟩:=I.cell x c e;exact⟨v,cellK x c e v z⟩
 .obtain⟨m,⟨o,_,_,ho,_⟩,_⟩:=I.loc;exact free _ o (λz=>(hch _ z).2.1 rfl) ho I.free
 .obtain⟨v,o,ho,hd⟩:=I.cell x c e;exact free c o (λz=>(hch c z).2.2.1 x c e rfl) ho (I.freeC x c e)
 .obtain⟨e,n,ne,nf,d⟩:=I.pin p hp;have nch:p.1∉ch:=λz=>(hch p.1 z).2.2.2 p hp rfl;exact⟨keep p.1 p.2 ne nf nch e n,free p.1 p.2 nch e n,ne,nf,d⟩
def Inv.un(I:Inv X zU Z H s)(u:Un X.fs [] H H' s.heap h')(hok:fN X.prog X.w H' h'):Inv X zU Z H' {s with heap:=h',toks:=t'}:=by obtain⟨m,⟨o,es,ep,ho,r⟩,_⟩:=id I.loc;obtain⟨sl,hL⟩:=u.any ho I.free (by simp);exact I.step (g':=s.gens) (d':=s.drawn) (ch:=[]) (λ_ z=>nomatch z) (λb o _ hb _ e n=>u.keep b o e n hb (by simp)) (λb o _ hb _ e n=>u.slot b o e n hb (by simp)) (λb o _ e n=>u.free b o e n (by simp)) (λb o _ e=>u.there b o e (by simp)) u.tups u.frzs u.tbls (λm' hm=>by obtain⟨o',es',ep',ho',r'⟩:=hm;rw[ho]at ho';cases ho';exact⟨_,es',ep',hL,r'⟩) hok I.bare
def Inv.call(I:Inv X zU Z H s)(u:Un (vD X.stack) ch H H' s.heap h')(hok:fN X.prog X.w H' h')(hg:AllBare g')
  (hch:∀b∈ch,(b∈X.ex\/X.s₀.heap.get? b=none)/\b≠X.env.locals/\(∀x c,X.env.cells.lookup x=some c->c≠b)/\∀p∈X.pn++zU,p.1≠b):
  Inv X zU Z H' {s with heap:=h',gens:=g',drawn:=d',toks:=t'}:=by
 obtain⟨m,⟨o,es,ep,ho,r⟩,_⟩:=id I.loc;obtain⟨sl,hL⟩:=u.any ho I.free λz=>(hch _ z).2.1 rfl;exact I.step (ch:=ch) hch (λb o hL hb hc e n=>u.keep b o e n (λz=>(qC.mp (I.stkSub b z)).elim hL hb) hc) (λb o _ _ hc e n=>u.any e n hc) (λb o hc e n=>u.free b o e n hc) (λb o hc e=>u.there b o e hc) u.tups u.frzs u.tbls (λm' hm=>by obtain⟨o',es',ep',ho',r'⟩:=hm;rw[ho]at ho';cases ho';exact⟨_,es',ep',hL,r'⟩) hok hg
def Inv.turned(I:Inv X zU Z H s)(k:∀b o,b≠it->s.heap.get? b=some o->h'.get? b=some o)(hn:H it=none)(hL:it≠X.env.locals)
  (h1:it∈X.ex\/X.s₀.heap.get? it=none)(h2:∀x c,X.env.cells.lookup x=some c->c≠it)(h3:∀p∈X.pn++zU,p.1≠it):Inv X zU Z H {s with heap:=h',toks:=t'}:=by
 have nit:∀b u,H b=some u->b≠it:=λb u e z=>by rw[z,hn]at e;cases e
 refine I.step (g':=s.gens) (d':=s.drawn) (ch:=[it]) (λb hb=>?_) (λb o _ _ hc e _=>k b o (λz=>hc (by simp[z])) e) (λb o _ _ hc e _=>⟨o.slots,k b o (λz=>hc (by simp[z])) e⟩) (λ_ _ _ _ n=>n)
  (λb o hc e=>⟨o,k b o (λz=>hc (by simp[z])) e⟩) (λ_ _ e=>e) (λ_ _ _ e=>e) (λb ps e=>⟨#[],by rw[e];simp⟩) (λm hm=>?_) (λb u e=>?_) I.bare
 .have e:b=it:=by simpa using hb
  subst e;exact⟨h1,hL,h2,h3⟩
 .obtain⟨o,es,ep,ho,r⟩:=hm;exact⟨o,es,ep,k _ o (Ne.symm hL) ho,r⟩
 .refine(I.hok b u e).stay (λc v hc q=>k c v ?_ q) (λ_ q=>q) λ_ _ q=>q;rcases hc with z|z
  .rw[z];exact nit b u e
  .exact nit c _ z
def Inv.tok(I:Inv X zU Z H s)(t:Nat):Inv X zU Z H {s with toks:=t}:=I.un (h':=s.heap) (t':=t) Un.refl I.hok
def Inv.kept(I:Inv X zU Z H s)(k:∀b u,s.heap.get? b=some u->h'.get? b=some u):Inv X zU Z H {s with heap:=h',toks:=t'}:=I.un (Un.kept k) (I.hok.kept k)
def Inv.laid(I:Inv X zU Z H s)(k:∀b u,s.heap.get? b=some u->h'.get? b=some u)(hp:s.heap.objs.size<=a)(new:zT X.prog X.w (upd H a o) h' a o):
  Inv X zU Z (upd H a o) {s with heap:=h',toks:=t'}:=I.un (Un.laid k hp (I.hok.fresh hp)) (I.hok.laid k hp new)
def Inv.write(I:Inv X zU Z H s)(mu:Gd (H x))(he:e=x\/H e=some (.own x))(k:∀b u,b≠e->s.heap.get? b=some u->h'.get? b=some u)(heo:∃u,h'.get? e=some u)
  (new:zT X.prog X.w (upd H x o) h' x o):Inv X zU Z (upd H x o) {s with heap:=h',toks:=t'}:=I.un (Un.write mu he k heo) (I.hok.write mu he k heo new)
def Inv.pins_of(I:Inv X zU Z H s)(h:∀p∈pins',s.heap.get? p.1=some p.2/\H p.1=none/\p.1≠X.env.locals/\p.1∉X.fs/\∀v,p.2.data≠.cell v):Inv X pins' Z H s:=
 ⟨I.ok,I.os,I.bare,I.base,I.loc,I.cell,I.free,I.freeC,λp hp=>(qz.mp hp).elim (λz=>I.pin p (qk _ z)) (h p),I.hok,I.len⟩
def Iq{N:List Str}(hN:N.Nodup){i j:Nat}(a:N[i]?=some x)(b:N[j]?=some x):i=j:=by obtain⟨h1,e1⟩:=qh.mp a;obtain⟨h2,e2⟩:=qh.mp b;exact(List.getElem_inj hN).mp (e1.trans e2.symm)
def VV(I:Inv X zU Z H s)(hN:X.N.Nodup)(hi:X.N[i]?=some x)(hx:Loc X.env.scope x)(r:zL v u)
  (h:∀s',Inv X zU (Z.set i (some v)) H s'->(∃a,Heap.SameBut a s.heap s'.heap/\(a=X.env.locals\/X.env.cells.lookup x=some a))->Q () s')(hf:X.fn x=true\/X.env.scope.names.lookup x=some .local:=by first|exact .inl rfl|exact .inr rfl|assumption):wpAny M A (storeName X.env x u) Q E s:=by
 obtain⟨m,hn,hl⟩:=id I.loc;have hcls:(X.env.scope.kind==.class||(X.env.scope.kind==.module&&X.env.locals !=X.env.globals))=false:=by rw[I.ok.kind];rfl
 have hiZ:i<Z.length:=by rw[I.len];exact(qh.mp hi).1
 have cne:=I.cne;have tracked:∀{a:Addr}{h':Heap},(∃o,s.heap.get? a=some o/\H a=none)->Heap.SameBut a s.heap h'->fN X.prog X.w H h':=λ{a h'} ha hs b ob e=>by
  obtain⟨_,_,hfree⟩:=ha;refine(I.hok b ob e).stay (λc w' hc q=>(hs.2 c ?_).trans q) (λ_ q=>q) λ_ _ q=>q;rintro rfl;rcases hc with rfl|hc
  .rw[hfree]at e;cases e
  .rw[hfree]at hc;cases hc
 rcases hx with hk|hk
 .refine wpAny_storeName_local hk hn (λh' hn' hs=>?_) hcls;obtain⟨oL,_,_,hoL,_⟩:=id hn;refine h _ ⟨I.ok,I.os,I.bare,⟨λb o e n hb hx=>?_,λb o e n hb hx=>?_,I.base.free,λb o e hx=>?_,I.base.tups,I.base.frzs,I.base.tbls⟩,⟨_,hn',λj y v' e1 e2 e3=>?_⟩,λy c e=>?_,I.free,I.freeC,λp hp=>?_,tracked ⟨oL,hoL,I.free⟩ hs,by simpa using I.len⟩ ⟨_,hs,.inl rfl⟩
  .exact(hs.2 b (ne_of_lt (lt_of_lt_of_le (qe e) I.ok.above))).trans (I.base.keep b o e n hb hx)
  .obtain⟨sl,e1⟩:=I.base.slot b o e n hb hx;exact⟨sl,(hs.2 b (ne_of_lt (lt_of_lt_of_le (qe e) I.ok.above))).trans e1⟩
  .obtain⟨o',e1⟩:=I.base.there b o e hx;exact⟨o',(hs.2 b (ne_of_lt (lt_of_lt_of_le (qe e) I.ok.above))).trans e1⟩
  .by_cases hj:j=i
   .subst hj;rw[hi]at e1;cases e1;rw[getElem?_set_self hiZ]at e2;cases e2;exact⟨u,r,.inl ⟨hk,by simp⟩⟩
   .rw[getElem?_set_ne (Ne.symm hj)]at e2;obtain⟨u',r',q⟩:=hl j y v' e1 e2 e3;refine⟨u',r',?_⟩;rcases q with⟨k,e⟩|⟨k,c,e,z⟩
    .refine .inl ⟨k,?_⟩;have:y≠x:=λe=>hj (Iq hN e1 (e▸hi));simp[this,e]
    .exact .inr ⟨k,c,e,z.sameBut hs (cne y c e)⟩
  .obtain⟨w',z⟩:=I.cell y c e;exact⟨w',z.sameBut hs (cne y c e)⟩
  .obtain⟨e,n,ne,nf,d⟩:=I.pin p hp;exact⟨(hs.2 p.1 ne).trans e,n,ne,nf,d⟩
 .have hfn:X.fn x=true:=by
   rcases hf with z|z
   .exact z
   .rw[z]at hk;cases hk
  obtain⟨c,hc⟩:=I.ok.has x (.inl hk);obtain⟨w',z⟩:=I.cell x c hc;refine wpAny_storeName_cell I.ok.kind hk hc z (λh' hc' hs=>?_);obtain⟨oc,hoc,hocd⟩:=id z;refine h {s with heap:=h'} ⟨I.ok,I.os,I.bare,⟨λb o e n hb hx=>?_,λb o e n hb hx=>?_,I.base.free,λb o e hx=>?_,I.base.tups,I.base.frzs,I.base.tbls⟩,⟨m,hn.sameBut hs (Ne.symm (cne x c hc)),λj y v' e1 e2 e3=>?_⟩,λy c' e=>?_,I.free,I.freeC,λp hp=>?_,tracked ⟨oc,hoc,I.freeC x c hc⟩ hs,by simpa using I.len⟩ ⟨c,hs,.inr hc⟩
  .exact(hs.2 b (ne_of_lt (lt_of_lt_of_le (qe e) (I.ok.cab x c hfn hc)))).trans (I.base.keep b o e n hb hx)
  .obtain⟨sl,e1⟩:=I.base.slot b o e n hb hx;exact⟨sl,(hs.2 b (ne_of_lt (lt_of_lt_of_le (qe e) (I.ok.cab x c hfn hc)))).trans e1⟩
  .obtain⟨o',e1⟩:=I.base.there b o e hx;exact⟨o',(hs.2 b (ne_of_lt (lt_of_lt_of_le (qe e) (I.ok.cab x c hfn hc)))).trans e1⟩
  .by_cases hj:j=i
   .subst hj;rw[hi]at e1;cases e1;rw[getElem?_set_self hiZ]at e2;cases e2;exact⟨u,r,.inr ⟨.inl hk,c,hc,hc'⟩⟩
   .rw[getElem?_set_ne (Ne.symm hj)]at e2;obtain⟨u',r',q⟩:=hl j y v' e1 e2 e3;refine⟨u',r',?_⟩;rcases q with q|⟨k,c',e,z'⟩
    .exact .inl q
    .refine .inr ⟨k,c',e,z'.sameBut hs ?_⟩;rintro rfl;exact hj (Iq hN e1 (I.ok.inj _ _ _ e hc▸hi))
  .by_cases hcc:c'=c
   .subst hcc;exact⟨_,hc'⟩
   .obtain⟨w2,z2⟩:=I.cell y c' e;exact⟨w2,z2.sameBut hs hcc⟩
  .obtain⟨e,n,ne,nf,d⟩:=I.pin p hp;refine⟨(hs.2 p.1 ?_).trans e,n,ne,nf,d⟩;intro q;rw[q,hoc]at e;have q':oc=p.2:=qg e;exact d w' (by rw[<-q'];exact hocd)
def MT(I:Inv X zU Z H s)(hN:X.N.Nodup)(hi:X.N[i]?=some x)(hx:Loc X.env.scope x)(r:zL v u)
  (h:∀s',Inv X zU (Z.set i (some v)) H s'->Q () s')(hf:X.fn x=true\/X.env.scope.names.lookup x=some .local:=by first|exact .inl rfl|exact .inr rfl|assumption):wpAny M A (storeName X.env x u) Q E s:=
 VV I hN hi hx r (λs' I' _=>h s' I') hf
def Inv.call'(I:Inv X zU Z H s)(ho:s'.os=s.os)(u:Un (vD X.stack) ch H H' s.heap s'.heap)(hok:fN X.prog X.w H' s'.heap)(hg:AllBare s'.gens)
  (hch:∀b∈ch,(b∈X.ex\/X.s₀.heap.get? b=none)/\b≠X.env.locals/\(∀x c,X.env.cells.lookup x=some c->c≠b)/\∀p∈X.pn++zU,p.1≠b):Inv X zU Z H' s':=by
 obtain⟨h',g',d',t',o'⟩:=s';have e:o'=s.os:=ho;subst e;exact I.call (g':=g') (t':=t') (d':=d') u hok hg hch
end
abbrev XK:=Value->Option Addr->Hp->Prop
abbrev St:=List (Option V)
abbrev VK:=V->Hp->Prop
abbrev TE:=St->Hp->VK->Prop
abbrev TT:=St->Hp->(Bool->Hp->Prop)->Prop
abbrev TA:=St->Hp->(List V->Hp->Prop)->Prop
structure Ends where
 nx:St->Hp->Prop
 rt:VK
 bk:St->Hp->Prop:=λ_ _=>False
 ct:St->Hp->Prop:=λ_ _=>False
abbrev TS:=Ends->St->Hp->Prop
inductive EP(X:Cx)(zU:List (Addr×Obj))(Z:St)(Q:VK)(u:Value)(s':Shared):Prop
 |mk (v:V) (H':Hp):Inv X zU Z H' s'->zL v u->Q v H'->EP X zU Z Q u s'
inductive TP(X:Cx)(zU:List (Addr×Obj))(Z:St)(Q:Bool->Hp->Prop)(b:Bool)(s':Shared):Prop
 |mk (H':Hp):Inv X zU Z H' s'->Q b H'->TP X zU Z Q b s'
inductive AP(X:Cx)(zU:List (Addr×Obj))(Z:St)(Q:List V->Hp->Prop)(us:List Value)(s':Shared):Prop
 |mk (vs:List V) (H':Hp):Inv X zU Z H' s'->zR vs us->Q vs H'->AP X zU Z Q us s'
def SP(X:Cx)(zU:List (Addr×Obj))(D:Ends)(f:Flow)(s':Shared):Prop:=
 match f with
 |.next=>∃Z' H',Inv X zU Z' H' s'/\D.nx Z' H'
 |.brk=>∃Z' H',Inv X zU Z' H' s'/\D.bk Z' H'
 |.cont=>∃Z' H',Inv X zU Z' H' s'/\D.ct Z' H'
 |.ret u=>∃v Z' H',Inv X zU Z' H' s'/\zL v u/\D.rt v H'
def PE(X:Cx)(e:Expr)(t:TE):Prop:=
 ∀(zU:List (Addr×Obj))(s:Shared)(Z:St)(H:Hp)(Q:VK),Inv X zU Z H s->t Z H Q->wpAny (model X.prog X.w) X.A (eval e X.env) (EP X zU Z Q) X.xe s
def PT(X:Cx)(e:Expr)(t:TT):Prop:=
 ∀(zU:List (Addr×Obj))(s:Shared)(Z:St)(H:Hp)(Q:Bool->Hp->Prop),Inv X zU Z H s->t Z H Q->wpAny (model X.prog X.w) X.A (isTrue e X.env (eval e X.env)) (TP X zU Z Q) X.xe s
def PW(X:Cx)(e:Expr)(t:TT):Prop:=
 ∀(whole:Sem Value)(zU:List (Addr×Obj))(s:Shared)(Z:St)(H:Hp)(Q:Bool->Hp->Prop),Inv X zU Z H s->t Z H Q->wpAny (model X.prog X.w) X.A (isTrue e X.env whole) (TP X zU Z Q) X.xe s
def PW.pt(h:PW X e t):PT X e t:=h _
def PA(X:Cx)(es:List Expr)(t:TA):Prop:=
 ∀(pos:Pos)(zU:List (Addr×Obj))(s:Shared)(Z:St)(H:Hp)(Q:List V->Hp->Prop),Inv X zU Z H s->t Z H Q->wpAny (model X.prog X.w) X.A (spliced (backTo pos (starEach es X.env))) (AP X zU Z Q) X.xe s
def PS(X:Cx)(st:Stmt)(t:TS):Prop:=
 ∀(zU:List (Addr×Obj))(s:Shared)(Z:St)(H:Hp)(D:Ends),Inv X zU Z H s->t D Z H->wpAny (model X.prog X.w) X.A (exec st X.env) (SP X zU D) X.xe s
def mJ(X:Cx)(st:List Stmt)(t:TS):Prop:=
 ∀(zU:List (Addr×Obj))(s:Shared)(Z:St)(H:Hp)(D:Ends),Inv X zU Z H s->t D Z H->wpAny (model X.prog X.w) X.A (execs st X.env) (SP X zU D) X.xe s
def bK(h:wpAny M A t Q E s)(hQ:∀a s,Q a s->Q' a s):wpAny M A t Q' E s:=zv h hQ λ_ _ x=>x
section
variable{X:Cx}
def Ju(i:Nat):TE:=λZ H Q=>∃v,Z[i]?=some (some v)/\Q v H
def tC(v:V):TE:=λ_ H Q=>Q v H
def Qn(hN:X.N[i]?=some x)(hv:FV X.env.scope x)(hd:(x==("__debug__":Str))=false:=by decide)(hcd:(x==("__classdict__":Str))=false:=by decide):PE X (.Name x pos) (Ju i):=by
 intro zU s Z H Q I h;obtain⟨v,e,h⟩:=h;obtain⟨m,hn,hl⟩:=I.loc;obtain⟨u,r,l⟩:=hl i x v hN e hv;have fin:EP X zU Z Q u s:=⟨v,H,I,r,h⟩
 rcases l with⟨hk,hm⟩|⟨hk,c,hc,hcell⟩
 .exact wpAny_Name (wpAny_loadName_local I.ok.kind hk hn hm fin) hd
 .rcases hk with hk|hk
  .exact wpAny_Name (wpAny_loadName_cell I.ok.kind hk hc hcell fin) hd
  .exact wpAny_Name (wpAny_loadName_free I.ok.kind hk hc hcell fin hcd) hd
def Qb:PE X (.Constant (.int i) j pos) (tC (.int i)):=λ_ _ _ H _ I h=>wpAny_Constant_int ⟨.int i,H,I.tok _,⟨_,rfl⟩,h⟩
def PP:PE X (.Constant (.bool b) j pos) (tC (.bl b)):=λ_ _ _ H _ I h=>Constant_bool ⟨.bl b,H,I,rfl,h⟩
def Ri:PE X (.Constant (.str x) j pos) (tC (.str x)):=λ_ _ _ H _ I h=>Calls.Constant_str ⟨.str x,H,I.tok _,⟨_,rfl⟩,h⟩
def Gl(X:Cx)(x:Str):Prop:=X.env.kindOf x=some .globalImplicit
def Rx(I:Inv X zU Z H s)(hg:Gl X x)(hm:X.mg x=some u)(h:Q u s)
  (hd:(x==("__debug__":Str))=false:=by decide):wpAny (model X.prog X.w) X.A (eval (.Name x pos) X.env) Q E s:=
 Calls.Name_function_global I.ok.kind hg (Calls.loadGlobal_global (by rw[I.ok.glob];exact I.mod.glob.keeps I.bk) hm h) hd
def Eb(I:Inv X zU Z H s)(hg:Gl X x)(hm:X.mg x=none)(hv:bootBuiltins x=some u)(h:Q u s)
  (hn:x≠"__name__":=by decide)(hd:(x==("__debug__":Str))=false:=by decide):wpAny (model X.prog X.w) X.A (eval (.Name x pos) X.env) Q E s:=by
 obtain⟨mb,h1,h2⟩:=I.mod.blt;exact Calls.Name_function_global I.ok.kind hg (Calls.loadGlobal_builtin (by rw[I.ok.glob];exact I.mod.glob.keeps I.bk) hm (by rw[I.ok.blt];exact h1.keeps I.bk) ((h2 x hn).trans hv) h) hd
variable{a b:Expr}{ta tb:TE}{pos:Pos}
def uI(b:Expr)(h:op≠.In)(h2:op≠.NotIn):behindInMarks op b=false:=by
 have e1:(op==CmpOp.In)=false:=by cases op<;>first|rfl|exact absurd rfl h
 have e2:(op==CmpOp.NotIn)=false:=by cases op<;>first|rfl|exact absurd rfl h2
 cases b<;>first|rfl|(show(_&&(op==.In||op==.NotIn)&&_)=false;rw[e1,e2,Bool.or_false,Bool.and_false];rfl)
variable{tA tB':TT}{rest:List Expr}
def JG(t u:TT):TT:=λZ H Q=>t Z H λc H1=>if c=true then u Z H1 Q else Q false H1
def Jz(t:TT):TT:=λZ H Q=>t Z H λc H1=>Q (!c) H1
def Sk(ha:PT X a tA):PW X (.BoolOp .And [a] pos) tA:=by
 intro wh zU s Z H Q I h;refine isTrue_and (bK (ha zU s Z H Q I h) λc s1 e=>?_);cases c with
 |true=>exact isTrue_and_nil e
 |false=>exact e
def Qg(ha:PT X a tA)(hb:PW X (.BoolOp .And (b::rest) pos) tB'):PW X (.BoolOp .And (a::b::rest) pos) (JG tA tB'):=by
 intro wh zU s Z H Q I h;refine isTrue_and (bK (ha zU s Z H _ I h) λc s1 zq=>?_);obtain⟨H1,I1,q1⟩:=zq;cases c with
 |true=>exact hb wh zU s1 Z H1 Q I1 q1
 |false=>exact⟨H1,I1,q1⟩
def Qw(ha:PT X a tA):PT X (.UnaryOp .Not a pos) (Jz tA):=by intro zU s Z H Q I h;exact isTrue_not (bK (ha zU s Z H (λc H1=>Q (!c) H1) I h) λc s1 z=>by obtain⟨H1,I1,q1⟩:=z;exact⟨H1,I1,q1⟩)
def Xn(t:TT)(ta tb:TE):TE:=λZ H Q=>t Z H λc H1=>if c=true then ta Z H1 Q else tb Z H1 Q
def TJ(hc:PT X c tA)(ha:PE X a ta)(hb:PE X b tb):PE X (.IfExp c a b pos) (Xn tA ta tb):=by
 intro zU s Z H Q I h;refine wpAny_IfExp (bK (hc zU s Z H _ I h) λd s1 zq=>?_);obtain⟨H1,I1,q1⟩:=zq;cases d with
 |true=>exact ha zU s1 Z H1 Q I1 q1
 |false=>exact hb zU s1 Z H1 Q I1 q1
end
def bR(K:W.Frag)(H:Hp)(a:Addr)(xs:List V):Prop:=
 Rd H a (.lst xs)\/
  ∃(o:Obj)(zY:Array Value)(n:Nat),K.lookup a=some o/\o.cls=.type "list"/\o.dict=none/\o.data=.seq zY n/\zY.size<=sizeLine/\zR xs zY.toList
def bP(K:W.Frag)(H:Hp)(a:Addr)(xs:List V):Prop:=
 Rd H a (.tup xs)\/
  ∃(o:Obj)(zY:Array Value)(n:Nat),K.lookup a=some o/\o.cls=.type "tuple"/\o.data=.seq zY n/\zY.size<=sizeLine/\zR xs zY.toList
def La:Value->Option V
 |.none=>some .non
 |.bool b=>some (.bl b)
 |.int i _=>some (.int i)
 |.str x _=>some (.str x)
 |.bytes b _=>some (.byt b)
 |.float b _=>some (.flt b)
 |.ref a=>some (.ref a)
 |.type n=>some (.ty n)
 |_=>none
def zL.abs(r:zL x u):La u=some x:=by
 cases x with
 |non=>cases r;rfl
 |bl _=>cases r;rfl
 |int _=>obtain⟨t,rfl⟩:=r;rfl
 |str _=>obtain⟨t,rfl⟩:=r;rfl
 |byt _=>obtain⟨t,rfl⟩:=r;rfl
 |flt _=>obtain⟨t,rfl⟩:=r;rfl
 |ref _=>cases r;rfl
 |ty _=>cases r;rfl
def zL.inj(r:zL x u)(q:zL y u):x=y:=qg (r.abs.symm.trans q.abs)
def zR.inj:∀{xs ys:List V}{us:List Value},zR xs us->zR ys us->xs=ys:=by
 intro xs ys us r q;induction r generalizing ys with
 |nil=>cases q;rfl
 |cons r _ ih=>cases q with
  |cons r' t'=>rw[r.inj r',ih t']
inductive Gg(xs:List V)(h:Heap)(a:Addr):Prop
 |mk (zY:List Value):zR xs zY->PlainL h a zY.toArray->xs.length<=sizeLine->Gg xs h a
inductive Gf(xs:List V)(h:Heap)(a:Addr):Prop
 |mk (zY:List Value):zR xs zY->IsTup h a zY.toArray->xs.length<=sizeLine->Gf xs h a
section
variable{X:Cx}{zU:List (Addr×Obj)}{Z:St}{H:Hp}{s:Shared}{a:Addr}{xs ys:List V}
def bR.of{K:W.Frag}(h:H a=some (.lst xs)):bR K H a xs:=.inl (.inl h)
def bP.of{K:W.Frag}(h:H a=some (.tup xs)):bP K H a xs:=.inl (.inl h)
def Inv.list(I:Inv X zU Z H s)(h:bR X.K H a xs):Gg xs s.heap a:=by
 rcases h with h|⟨o,zY,n,hk,hc,hd,hs,hz,r⟩
 .obtain⟨z,zY,n,r,e⟩:=h.ok I.hok;exact⟨zY,r,⟨_,n,e,rfl,rfl,rfl⟩,z⟩
 .refine⟨zY.toList,r,⟨o,n,I.kIn a o hk,hc,hd,by simpa using hs⟩,?_⟩;have e:=r.length;simp only[qW]at e;lia
def Inv.tuple(I:Inv X zU Z H s)(h:bP X.K H a xs):Gf xs s.heap a:=by
 rcases h with h|⟨o,zY,n,hk,hc,hs,hz,r⟩
 .obtain⟨z,zY,r,p⟩:=h.ok I.hok;exact⟨zY,r,p,z.1⟩
 .refine⟨zY.toList,r,⟨o,I.kIn a o hk,hc,n,by simpa using hs⟩,?_⟩;have e:=r.length;simp only[qW]at e;lia
def Inv.list_inj(I:Inv X zU Z H s)(h:bR X.K H a xs)(h':bR X.K H a ys):xs=ys:=by
 obtain⟨zY,r,⟨o,n,e,_,_,d⟩,_⟩:=I.list h;obtain⟨its',r',⟨o',n',e',_,_,d'⟩,_⟩:=I.list h';rw[e]at e';cases e';rw[d]at d';injection d' with d1 _
 have:zY=its':=by simpa using congrArg Array.toList d1
 subst this;exact r.inj r'
def Inv.tuple_inj(I:Inv X zU Z H s)(h:bP X.K H a xs)(h':bP X.K H a ys):xs=ys:=by
 obtain⟨zY,r,⟨o,e,_,n,d⟩,_⟩:=I.tuple h;obtain⟨its',r',⟨o',e',_,n',d'⟩,_⟩:=I.tuple h';rw[e]at e';cases e';rw[d]at d';injection d' with d1 _
 have:zY=its':=by simpa using congrArg Array.toList d1
 subst this;exact r.inj r'
end
section
variable{X:Cx}{st:Stmt}{rest:List Stmt}{t u:TS}{e:Expr}{te:TE}{pos:Pos}
def EF:TS:=λD Z H=>D.nx Z H
def Jw(t u:TS):TS:=λD Z H=>t {D with nx:=u D} Z H
def RD:mJ X [] EF:=λ_ _ Z H _ I h=>wpAny_execs_nil ⟨Z,H,I,h⟩
def Ug(h1:PS X st t)(h2:mJ X rest u):mJ X (st::rest) (Jw t u):=by
 intro zU s Z H D I h;refine wpAny_execs_cons (bK (h1 zU s Z H {D with nx:=u D} I h) λf s1 q=>?_);cases f with
 |next=>obtain⟨Z',H',I',q⟩:=q;exact h2 zU s1 Z' H' D I' q
 |ret v=>exact q
 |brk=>exact q
 |cont=>exact q
def RO(h1:PS X st t):mJ X [st] t:=by
 intro zU s Z H D I h;refine wpAny_execs_cons (bK (h1 zU s Z H D I h) λf s1 q=>?_);cases f with
 |next=>exact wpAny_execs_nil q
 |ret v=>exact q
 |brk=>exact q
 |cont=>exact q
def Inv.quiet(I:Inv X zU Z H s):interactive X.env=false:=by simp[interactive,I.ok.kind]
def EG(te:TE):TS:=λD Z H=>te Z H λ_ H1=>D.nx Z H1
def RK(he:PE X e te)(hs:swapsWith e none pos.line X.env=pure false:=by rfl):PS X (.Expr e pos) (EG te):=by intro zU s Z H D I h;exact wpAny_Expr_any (bK (he zU s Z H _ I h) λv s1⟨x,H1,I1,r1,q1⟩=>⟨Z,H1,I1,q1⟩) I.quiet hs
def Jx(te:TE):TS:=λD Z H=>te Z H D.rt
def Qp(he:PE X e te):PS X (.Return (some e) pos) (Jx te):=by intro zU s Z H D I h;exact wpAny_Return_some (bK (he zU s Z H _ I h) λv s1⟨x,H1,I1,r1,q1⟩=>⟨x,Z,H1,I1,r1,q1⟩)
def JC(c:TT)(t u:TS):TS:=λD Z H=>c Z H λb H1=>if b=true then t D Z H1 else u D Z H1
def PC(hc:PT X c tc)(ha:mJ X a t)(hb:mJ X b u):PS X (.If c a b pos) (JC tc t u):=by
 intro zU s Z H D I h;refine wpAny_If (bK (hc zU s Z H _ I h) λd s1 zq=>?_);obtain⟨H1,I1,q1⟩:=zq;cases d with
 |true=>exact ha zU s1 Z H1 D I1 q1
 |false=>exact hb zU s1 Z H1 D I1 q1
end
abbrev TG:=V->St->Hp->(St->Hp->Prop)->Prop
abbrev FY:=List V->St->Hp->(St->Hp->Prop)->Prop
def PG(X:Cx)(target:Expr)(t:TG):Prop:=
 ∀(zU:List (Addr×Obj))(s:Shared)(Z:St)(H:Hp)(v:V)(u:Value)(Q:St->Hp->Prop),Inv X zU Z H s->zL v u->t v Z H Q->
  wpAny (model X.prog X.w) X.A (assign target X.env u) (λ_ s'=>∃Z' H',Inv X zU Z' H' s'/\Q Z' H') X.xe s
def Gc(X:Cx)(ts:List Expr)(t:FY):Prop:=
 ∀(zU:List (Addr×Obj))(s:Shared)(Z:St)(H:Hp)(vs:List V)(us:List Value)(Q:St->Hp->Prop),Inv X zU Z H s->zR vs us->t vs Z H Q->
  wpAny (model X.prog X.w) X.A (assignInOrder ((assignEach ts X.env).map (·.2)) us) (λ_ s'=>∃Z' H',Inv X zU Z' H' s'/\Q Z' H') X.xe s
abbrev TSet:=V->V->V->Hp->(Hp->Prop)->Prop
def Ga(X:Cx)(t:TSet):Prop:=
 ∀(zU:List (Addr×Obj))(s:Shared)(Z:St)(H:Hp)(o i v:V)(ov iv u:Value)(Q:Hp->Prop),Inv X zU Z H s->zL o ov->zL i iv->zL v u->t o i v H Q->
  wpAny (model X.prog X.w) X.A (setItem ov iv u) (λ_ s'=>∃H',Inv X zU Z H' s'/\Q H') X.xe s
section
variable{X:Cx}{pos:Pos}
def KO:FY:=λvs Z H Q=>vs=[]/\Q Z H
def FM(t:TG)(u:FY):FY:=λvs Z H Q=>∃v r,vs=v::r/\t v Z H λZ' H'=>u r Z' H' Q
def SW:Gc X [] KO:=by intro zU s Z H vs us Q I r h;obtain⟨e,h⟩:=h;subst e;cases r;exact assignInOrder_nil ⟨Z,H,I,h⟩
def Th(h1:PG X e t)(h2:Gc X es u)
  (hs:(assignEach (e::es) X.env).map (·.2)=assign e X.env::(assignEach es X.env).map (·.2):=by rfl):Gc X (e::es) (FM t u):=by
 intro zU s Z H vs us Q I r h;obtain⟨v,vr,e1,h⟩:=h;subst e1;cases r with
 |cons r rr=>rw[hs];refine assignInOrder_cons (bK (h1 zU s Z H _ _ _ I r h) λ_ s1 zq=>?_);obtain⟨Z1,H1,I1,q1⟩:=zq;exact h2 zU s1 Z1 H1 _ _ Q I1 rr q1
def cP(K:W.Frag)(n:Nat)(t:FY):TG:=λv Z H Q=>∃a xs,v=.ref a/\bP K H a xs/\xs.length=n/\t xs Z H Q
def QD(hc:X.calm=true)(h:Gc X es t)
  (hn:(assignEach es X.env).length=n:=by rfl)(hst:(assignEach es X.env).findIdx? (·.1)=none:=by rfl):PG X (.Tuple es k pos) (cP X.K n t):=by
 intro zU s Z H v u Q I r hw;obtain⟨a,xs,e1,hq,hl,hw⟩:=hw;subst e1;cases r;obtain⟨zY,rv,ht,hz⟩:=I.tuple hq;refine assign_Tuple_tuple (I.ok.hd hc) ht (by simp[hn,<-hl,rv.length]) hst λh' hx=>?_;have I1:Inv X zU Z H {s with heap:=h'}:=I.kept (t':=s.toks) λb o e=>hx b o (ne_of_lt (qe e)) e;exact h zU _ Z H xs _ Q I1 (by simpa using rv) hw
def KN(to ti:TE)(t:TSet):TG:=λv Z H Q=>to Z H λo H1=>ti Z H1 λi H2=>t o i v H2 λH3=>Q Z H3
def Qk(ho:PE X o to)(hi:PE X i ti)(hs:Ga X t)
  (ha:∀v,assign (.Subscript o i pos) X.env v=(do
   let ov<-holding [v] (eval o X.env)
   let iv<-holding [v,ov] (eval i X.env)
   standAt pos
   holding [v,ov,iv] (setItem ov iv v)
   release [v,ov,iv] []):=by intro _;rfl):PG X (.Subscript o i pos) (KN to ti t):=by
 intro zU s Z H v u Q I r h;rw[ha];refine qa (zt (bK (ho zU s Z H _ I h) λov s1 zq=>?_));obtain⟨x,H1,I1,r1,q1⟩:=zq;refine qa (zt (bK (hi zU s1 Z H1 _ I1 q1) λiv s2 zq=>?_));obtain⟨y,H2,I2,r2,q2⟩:=zq;refine qa (wpAny_standAt (qa (zt (bK (hs zU s2 Z H2 x y v ov iv u _ I2 r1 r2 r q2) λ_ s3 zq=>?_))));obtain⟨H3,I3,q3⟩:=zq;exact wpAny_release ⟨Z,H3,I3,q3⟩
def JF(te:TE)(g:TG):TS:=λD Z H=>te Z H λx H1=>g x Z H1 D.nx
def LW(he:PE X e te)(hg:PG X tg g)(hs:swapsWithSole [tg] e pos.line X.env=pure false:=by rfl)(hw:swappedStores [tg] e X.env=pure none:=by rfl)
  (h1:(assignEach [tg] X.env).map (·.2)=[assign tg X.env]:=by rfl):PS X (.Assign [tg] e pos) (JF te g):=by
 intro zU s Z H D I h;refine wpAny_Assign_stores (bK (he zU s Z H _ I h) λv s1 zq=>?_) hs hw;obtain⟨x,H1,I1,r1,q1⟩:=zq;rw[h1];exact bK (hg zU s1 Z H1 x v _ I1 r1 q1) λ_ s2 q=>q
def Jy(i j:Nat)(ta:TA):TS:=λD Z H=>ta Z H λvs H1=>∃v w,vs=[v,w]/\D.nx ((Z.set i (some v)).set j (some w)) H1
def Qz(hc:X.calm=true)(hN:X.N.Nodup)(hi:X.N[i]?=some x)(hj:X.N[j]?=some y)(hij:i≠j)
  (hx:X.env.scope.names.lookup x=some .local)(hy:X.env.scope.names.lookup y=some .local)(ha:PA X [a,b] ta)
  (hw:swappedStores [.Tuple [.Name x px,.Name y py] kt pt] (.Tuple [a,b] k2 pt2) X.env=pure (some [x,y]))
  (hs:swapsWithSole [.Tuple [.Name x px,.Name y py] kt pt] (.Tuple [a,b] k2 pt2) pos.line X.env=pure false:=by rfl):
  PS X (.Assign [.Tuple [.Name x px,.Name y py] kt pt] (.Tuple [a,b] k2 pt2) pos) (Jy i j ta):=by
 intro zU s Z H D I h;rw[exec_Assign_arm];refine qa (wpAny_standAt ?_);rw[hs];refine qa (qb ?_);rw[q9 (by decide)];refine qa (Tuple_ (bK (ha _ zU s Z H _ I h) λus s1 zq=>?_));obtain⟨vs,H1,I1,r1,q1⟩:=zq;obtain⟨v,w,e1,q1⟩:=q1;subst e1;obtain⟨u1,u2,rfl,rv,rw'⟩:∃u1 u2,us=[u1,u2]/\zL v u1/\zL w u2:=by
  cases r1 with
  |cons p q=>
   cases q with
   |cons p' q'=>cases q';exact⟨_,_,rfl,p,p'⟩
 refine zm ?_ (by show 2<=sizeLine;decide);have I2:Inv X zU Z H1 {s1 with heap:=s1.heap.push {cls:=.type "tuple",data:=.seq [u1,u2].toArray}}:=I1.kept (t':=s1.toks) λb o e=>qc _ e;rw[hw];refine qa (qb ?_);show wpAny (model X.prog X.w) X.A (do rule "assign.swapped-stores";let items<-unpackItems (.ref s1.heap.objs.size) 2 none;assignInOrder [λv=>bindName X.env y v,λv=>bindName X.env x v] items.reverse;pure Flow.next) _ _ _;refine qa (wpAny_rule (qa (unpackItems_tuple (items:=#[u1,u2]) (I.ok.hd hc) (IsTup.new s1.heap _) λh' hx'=>?_)));have I3:=I2.kept (h':=h') (t':=s1.toks) λb o e=>hx' b o (ne_of_lt (qe e)) e;show wpAny _ _ (assignInOrder [λv=>bindName X.env y v,λv=>bindName X.env x v] [u2,u1]>>=λ_=>pure Flow.next) _ _ _;refine qa (assignInOrder_cons (wpAny_bindName (MT I3 hN hj (.inl hy) rw' (λs2 I4=>?_) (.inr hy))));refine assignInOrder_cons (wpAny_bindName (MT I4 hN hi (.inl hx) rv (λs3 I5=>assignInOrder_nil (qb ?_)) (.inr hx)));rw[set_comm _ _ (Ne.symm hij)]at I5;exact⟨_,H1,I5,q1⟩
def BE(c:TT)(tb:TS):TS:=λD Z H=>∃W:Nat->St->Hp->Prop,(∃m,W m Z H)/\∀m Z H,W m Z H->
 c Z H λb H1=>if b=true then∃N:St->Hp->Prop,(∀Z' H',N Z' H'->∃m',m'<m/\W m' Z' H')/\tb {D with nx:=N,ct:=N,bk:=D.nx} Z H1 else D.nx Z H1
def UV(hp:PassesOwn (model X.prog X.w) X.A X.env X.xe)(hc:PT X c tc)(hb:mJ X body tb):PS X (.While c body [] pos) (BE tc tb):=by
 intro zU s Z H D I h;obtain⟨W,⟨m0,w0⟩,turn⟩:=h;refine wpAny_While (codeAny_whileLoop (λn s'=>∃Z' H',Inv X zU Z' H' s'/\W n Z' H') ?_ m0 ⟨Z,H,I,w0⟩);rintro n s1 ⟨Z1,H1,I1,w1⟩;refine wpAny_passesOwn hp (bK (hc zU s1 Z1 H1 _ I1 (turn n Z1 H1 w1)) λb s2 zq=>?_);obtain⟨H2,I2,q2⟩:=zq;cases b with
 |true=>
  obtain⟨N,hN,q2⟩:=q2;rw[q8 rfl];refine wpAny_passesOwn hp (bK (hb zU s2 Z1 H2 _ I2 q2) λf s3 q3=>?_);cases f with
  |next=>obtain⟨Z3,H3,I3,n3⟩:=q3;obtain⟨m',hm,w3⟩:=hN Z3 H3 n3;exact⟨m',hm,Z3,H3,I3,w3⟩
  |cont=>obtain⟨Z3,H3,I3,n3⟩:=q3;obtain⟨m',hm,w3⟩:=hN Z3 H3 n3;exact⟨m',hm,Z3,H3,I3,w3⟩
  |brk=>exact q3
  |ret v=>exact q3
 |false=>rw[q9 qY];exact wpAny_execs_nil ⟨Z1,H2,I2,q2⟩
end
structure It where
 go:Nat->Hp->Prop
 yld:Nat->Hp->V->Hp->Prop
 stop:Nat->Hp->Prop
def eB(X:Cx)(zU:List (Addr×Obj))(H:Hp)(b:Addr):Prop:=
 H b=none/\b≠X.env.locals/\b∉X.fs/\(b∈X.ex\/X.s₀.heap.get? b=none)/\(∀x c,X.env.cells.lookup x=some c->c≠b)/\∀p∈X.pn++zU,p.1≠b
def Inv.fpOk(I:Inv X zU Z H s)(hb:s.heap.objs.size<=b)(hn:H' b=none):eB X zU H' b:=by
 refine⟨hn,ne_of_gt (lt_of_lt_of_le I.lt hb),I.nofs hb,.inr (Heap.get?_none_of_le (le_trans I.sz hb)),λx c e z=>?_,λp hp z=>?_⟩
 .obtain⟨v,q⟩:=I.cell x c e;exact absurd (lt_of_lt_of_le q.lt (by rw[z];exact hb)) (lt_irrefl _)
 .exact absurd (lt_of_lt_of_le (qe (I.pin p hp).1) (by rw[z];exact hb)) (lt_irrefl _)
structure kY(P:Program)(w:World)(K:W.Frag)(tg:Expr)(J:It)(fp:List Addr)(it:Addr)(tn:Nat->Heap->Prop):Prop where
 mem:it∈fp
 obj:∀i h,tn i h->∀b∈fp,∃o,h.get? b=some o/\∀v,o.data≠.cell v
 keep:∀i h h',tn i h->(∀b∈fp,∀o,h.get? b=some o->h'.get? b=some o)->tn i h'
 item:∀(X:Cx),X.prog=P->X.w=w->X.K=K->X.calm=true->∀(i:Nat)(zU:List (Addr×Obj))(s:Shared)(Z:St)(H:Hp)(E:zw),Inv X zU Z H s->(∀b∈fp,eB X zU H b)->tn i s.heap->J.go i H->
  wpAny (model P w) X.A (pyNext (.ref it)) (λr s1=>∃u,r=some u/\
   wpAny (model P w) X.A (letOwnedTupleGo tg (.ref it) u) (λ_ s2=>∃x H',Inv X zU Z H' s2/\zL x u/\J.yld i H x H'/\tn (i+1) s2.heap/\∀b∈fp,H' b=none) E s1) E s
 done:∀(X:Cx),X.prog=P->X.w=w->X.K=K->X.calm=true->∀(i:Nat)(zU:List (Addr×Obj))(s:Shared)(Z:St)(H:Hp)(E:zw),Inv X zU Z H s->(∀b∈fp,eB X zU H b)->tn i s.heap->J.stop i H->
  wpAny (model P w) X.A (pyNext (.ref it)) (λr s1=>r=none/\Inv X zU Z H s1) E s
 self:∀(A:Around)(i:Nat)(s:Shared)(Q:zw)(E:zw),tn i s.heap->Q (.ref it) s->wpAny (model P w) A (pyIter (.ref it)) Q E s
abbrev TI:=St->Hp->(It->Hp->Prop)->Prop
inductive Gb(X:Cx)(zU:List (Addr×Obj))(Z:St)(tg:Expr)(R:It->Hp->Prop)(itv:Value)(s2:Shared):Prop
 |mk (it:Addr) (fp:List Addr) (tn:Nat->Heap->Prop) (J:It) (H':Hp):itv=.ref it->Inv X zU Z H' s2->kY X.prog X.w X.K tg J fp it tn->tn 0 s2.heap->(∀b∈fp,eB X zU H' b)->R J H'->Gb X zU Z tg R itv s2
def PI(X:Cx)(tg iter:Expr)(wi:TI):Prop:=
 ∀(zU:List (Addr×Obj))(s:Shared)(Z:St)(H:Hp)(R:It->Hp->Prop),Inv X zU Z H s->wi Z H R->
  wpAny (model X.prog X.w) X.A (eval iter X.env) (λv s1=>wpAny (model X.prog X.w) X.A (pyIter v) (Gb X zU Z tg R) X.xe s1) X.xe s
def Gq(ho:s.heap.get? it=some o)(hc:o.cls=.type n)(hd:o.data=.fields vs)
  (hn:["enumerate","zip","dict_itemiterator","dict_reverseitemiterator","odict_iterator","itertools.zip_longest","itertools.pairwise"].contains n=false)(hQ:Q () s):wpAny M A (letOwnedTupleGo tg (.ref it) u) Q E s:=by
 unfold letOwnedTupleGo;cases tg<;>first
  |exact qb hQ
  |(cases u<;>first
   |exact qb hQ
   |(refine qa (wpAny_load ho ?_);rw[hc,hd];show wpAny M A (if(["enumerate","zip","dict_itemiterator","dict_reverseitemiterator","odict_iterator","itertools.zip_longest","itertools.pairwise"].contains n&&vs[0]?==some (rawInt _))=true then _ else _) Q E s;rw[q9 (by intro h;rw[hn,Bool.false_and]at h;cases h)];exact qb hQ))
def DN(K:W.Frag)(a:Addr):It:=
 ⟨λi H=>∃xs x,bR K H a xs/\xs[i]?=some x,λi H x H'=>H'=H/\∀xs,bR K H a xs->xs[i]?=some x,λi H=>∃xs,bR K H a xs/\xs.length<=i⟩
def Lh(K:W.Frag)(a:Addr):It:=
 ⟨λi H=>∃xs x,bP K H a xs/\xs[i]?=some x,λi H x H'=>H'=H/\∀xs,bP K H a xs->xs[i]?=some x,λi H=>∃xs,bP K H a xs/\xs.length<=i⟩
def Hs(lo:Int)(n:Nat):It:=⟨λi _=>i<n,λi H x H'=>H'=H/\x=.int (lo+i),λi _=>n<=i⟩
def Vx{P:Program}{w:World}{K:W.Frag}{tg:Expr}(a it:Addr):kY P w K tg (DN K a) [it] it (λi h=>h.IsListIter it a i) where
 mem:=by simp
 obj:=λi h st b hb=>by
  have e:b=it:=by simpa using hb
  subst e;obtain⟨o,e,c,d⟩:=st;exact⟨o,e,λv z=>by rw[d]at z;cases z⟩
 keep:=λi h h' st k=>st.at λo e=>k it (by simp) o e
 item:=by intro X hP hw hK hc i zU s Z H E I hf st hg;subst hP hw hK;obtain⟨xs,x,hq,hx⟩:=hg;obtain⟨zY,rv,p,hz⟩:=I.list hq;obtain⟨u,hu,ru⟩:=rv.get hx;obtain⟨f0,f1,f2,f3,f4,f5⟩:=hf it (by simp);refine wpAny_pyNext_list_item st p.isList (x:=u) (by simpa using hu) λh' st' sb=>?_;have I1:Inv X zU Z H {s with heap:=h'}:=I.turned (t':=s.toks) (λb o hb e=>(sb.2 b hb).trans e) f0 f1 f3 f4 f5;obtain⟨o,e,c,d⟩:=id st';exact⟨u,rfl,Gq (s:={s with heap:=h'}) e c d (by decide) ⟨x,H,I1,ru,⟨rfl,λys hy=>by rw[I.list_inj hy hq];exact hx⟩,st',λb hb=>(hf b hb).1⟩⟩
 done:=by intro X hP hw hK hc i zU s Z H E I hf st hg;subst hP hw hK;obtain⟨xs,hq,hx⟩:=hg;obtain⟨zY,rv,p,hz⟩:=I.list hq;obtain⟨f0,f1,f2,f3,f4,f5⟩:=hf it (by simp);have hl:=rv.length;exact wpAny_pyNext_list_end (I.ok.hd hc) st p.isList (by simp;lia) λh' eb=>⟨rfl,I.turned (t':=s.toks) (λb o hb e=>eb b o hb e) f0 f1 f3 f4 f5⟩
 self:=λ_ _ _ _ _ st h=>wpAny_pyIter_listiter st h
def Wf{P:Program}{w:World}{K:W.Frag}{tg:Expr}(a it:Addr):kY P w K tg (Lh K a) [it] it (λi h=>h.IsTupleIter it a i) where
 mem:=by simp
 obj:=λi h st b hb=>by
  have e:b=it:=by simpa using hb
  subst e;obtain⟨o,e,c,d⟩:=st;exact⟨o,e,λv z=>by rw[d]at z;cases z⟩
 keep:=λi h h' st k=>st.at λo e=>k it (by simp) o e
 item:=by intro X hP hw hK hc i zU s Z H E I hf st hg;subst hP hw hK;obtain⟨xs,x,hq,hx⟩:=hg;obtain⟨zY,rv,p,hz⟩:=I.tuple hq;obtain⟨u,hu,ru⟩:=rv.get hx;obtain⟨f0,f1,f2,f3,f4,f5⟩:=hf it (by simp);refine wpAny_pyNext_tuple_item st (show s.heap.IsTuple a zY.toArray from p) (x:=u) (by simpa using hu) λh' st' sb=>?_;have I1:Inv X zU Z H {s with heap:=h'}:=I.turned (t':=s.toks) (λb o hb e=>(sb.2 b hb).trans e) f0 f1 f3 f4 f5;obtain⟨o,e,c,d⟩:=id st';exact⟨u,rfl,Gq (s:={s with heap:=h'}) e c d (by decide) ⟨x,H,I1,ru,⟨rfl,λys hy=>by rw[I.tuple_inj hy hq];exact hx⟩,st',λb hb=>(hf b hb).1⟩⟩
 done:=by intro X hP hw hK hc i zU s Z H E I hf st hg;subst hP hw hK;obtain⟨xs,hq,hx⟩:=hg;obtain⟨zY,rv,p,hz⟩:=I.tuple hq;obtain⟨f0,f1,f2,f3,f4,f5⟩:=hf it (by simp);have hl:=rv.length;exact wpAny_pyNext_tuple_end (I.ok.hd hc) st (show s.heap.IsTuple a zY.toArray from p) (by simp;lia) λh' eb=>⟨rfl,I.turned (t':=s.toks) (λb o hb e=>eb b o hb e) f0 f1 f3 f4 f5⟩
 self:=λ_ _ _ _ _ st h=>wpAny_pyIter_tupleiter st h
def Wd{P:Program}{w:World}{K:W.Frag}{tg:Expr}(it:Addr)(lo:Int)(n:Nat):kY P w K tg (Hs lo n) [it] it (λi h=>IsRangeIter h it (lo+(i:Nat)*1) ((n:Int)-(i:Nat)) 1) where
 mem:=by simp
 obj:=λi h st b hb=>by
  have e:b=it:=by simpa using hb
  subst e;exact⟨_,st,λv z=>by have z':Data.fields _=Data.cell v:=z;cases z'⟩
 keep:=λi h h' st k=>k it (by simp) _ st
 item:=by intro X hP hw hK hc i zU s Z H E I hf st hg;subst hP hw hK;obtain⟨f0,f1,f2,f3,f4,f5⟩:=hf it (by simp);have W:=Walks.range (prog:=X.prog) (w:=X.w) (I.ok.hd hc) it lo 1 n;refine W.item i s _ _ hg st λv h' tk hv st' kk=>?_;obtain⟨t,rfl⟩:=hv;have I1:Inv X zU Z H {s with heap:=h',toks:=tk}:=I.turned (λb o hb e=>kk b o (by simpa using hb) e) f0 f1 f3 f4 f5;refine⟨_,rfl,Gq (s:={s with heap:=h',toks:=tk}) (n:="range_iterator") st' rfl rfl (by decide) ⟨.int (lo+i),H,I1,⟨t,?_⟩,⟨rfl,rfl⟩,st',λb hb=>(hf b hb).1⟩⟩;rw[Int.mul_one]
 done:=by intro X hP hw hK hc i zU s Z H E I hf st hg;subst hP hw hK;obtain⟨f0,f1,f2,f3,f4,f5⟩:=hf it (by simp);exact wpAny_pyNext_range_end (I.ok.hd hc) st (by have:n<=i:=hg;lia) λh' eb=>⟨rfl,I.turned (t':=s.toks) (λb o hb e=>eb b o hb e) f0 f1 f3 f4 f5⟩
 self:=λ_ _ _ _ _ st h=>wpAny_pyIter_rangeiter st h
section
variable{X:Cx}{tg:Expr}
def Ub{lo hi:Int}(I:Inv X zU Z H s)(h1:-(2^62)<=lo)(h2:lo<2^62)(h3:-(2^62)<=hi)(h4:hi<2^62)
  (q:R (Hs lo (hi-lo).toNat) H):wpAny (model X.prog X.w) X.A (pyIter (.ref s.heap.objs.size)) (Gb X zU Z tg R) E {s with heap:=s.heap.push {cls:=.type "range",data:=.fields #[.int lo t,.int hi u,.int 1 v]},toks:=tk}:=by
 refine wpAny_pyIter_range (IsRange.new ..) (small_one h1 h2 h3 h4) ?_;have I1:Inv X zU Z H {s with heap:=s.heap.push {cls:=.type "range",data:=.fields #[.int lo t,.int hi u,.int 1 v]},toks:=tk}:=I.kept λb o e=>qc _ e;refine⟨(s.heap.push {cls:=.type "range",data:=.fields #[.int lo t,.int hi u,.int 1 v]}).objs.size,[(s.heap.push {cls:=.type "range",data:=.fields #[.int lo t,.int hi u,.int 1 v]}).objs.size],_,_,H,rfl,
  I1.kept (t':=tk) λb o e=>qc _ e,Wd _ lo (hi-lo).toNat,?_,λb hb=>?_,q⟩
 .have e1:lo+((0:Nat):Int)*1=lo:=by simp
  have e2:(((hi-lo).toNat:Nat):Int)-((0:Nat):Int)=Builtin.Range.rangeSize lo hi 1:=by rw[rangeSize_one];split<;>lia
  show IsRangeIter _ _ (lo+((0:Nat):Int)*1) ((((hi-lo).toNat:Nat):Int)-((0:Nat):Int)) 1;rw[e1,e2];exact qd _ rfl
 .have e:b=(s.heap.push {cls:=.type "range",data:=.fields #[.int lo t,.int hi u,.int 1 v]}).objs.size:=by simpa using hb
  subst e;exact I1.fpOk (zc _) (I1.hok.fresh (zc _))
def FJ(ta:TA):TI:=λZ H R=>ta Z H λvs H1=>∃j:Int,vs=[.int j]/\-(2^62)<=j/\j<2^62/\R (Hs 0 j.toNat) H1
def VT(hg:Gl X "range")(hm:X.mg "range"=none)(ha:PA X [a] ta)(hs:starEach [a] X.env=[(false,eval a X.env)]:=by rfl):PI X tg (.Call (.Name "range" p) [a] [] pos) (FJ ta):=by
 intro zU s Z H R I h;refine Call_ (Eb I hg hm boot_range (PyProof.Rows.callWith_type1 (bK (ha pos zU s Z H _ I h) λus s1 zq=>?_) hs rfl));obtain⟨vs,H1,I1,r1,q1⟩:=zq;obtain⟨j,e,q1,q2,q⟩:=q1;subst e;cases r1 with
 |cons r rr=>cases rr;obtain⟨t,rfl⟩:=r;exact call_range_1 (Ub I1 (by lia) (by lia) q1 q2 (by simpa using q))
def JD(wi:TI)(g:TG)(tb:TS):TS:=λD Z H=>wi Z H λJ H1=>∃W:Nat->Nat->St->Hp->Prop,(∃m,W 0 m Z H1)/\∀i m Z H,W i m Z H->
 (J.stop i H/\D.nx Z H)\/(J.go i H/\∃N:St->Hp->Prop,(∀Z' H',N Z' H'->∃m',m'<m/\W (i+1) m' Z' H')/\∀x H',J.yld i H x H'->g x Z H' λZ2 H2=>tb {D with nx:=N,ct:=N,bk:=D.nx} Z2 H2)
def iI(fp:List Addr)(h:Heap):List (Addr×Obj):=fp.filterMap λb=>(h.get? b).map λo=>(b,o)
def GL(hb:b∈fp)(e:h.get? b=some o):(b,o)∈iI fp h:=mem_filterMap.mpr ⟨b,hb,by rw[e];rfl⟩
def UH(hp:p∈iI fp h):p.1∈fp/\h.get? p.1=some p.2:=by
 obtain⟨b,hb,e⟩:=mem_filterMap.mp hp;cases q:h.get? b with
 |none=>rw[q]at e;cases e
 |some o=>grind
def Inv.pinned(I:Inv X zU Z H s)(hf:∀b∈fp,eB X zU H b)(ho:∀b∈fp,∃o,s.heap.get? b=some o/\∀v,o.data≠.cell v):Inv X (zU++iI fp s.heap) Z H s:=
 I.pins_of λp hp=>(qz.mp hp).elim (λz=>I.pin p (qj _ z)) λz=>by obtain⟨hb,e⟩:=UH z;obtain⟨f0,f1,f2,_⟩:=hf p.1 hb;obtain⟨o,e',d⟩:=ho p.1 hb;rw[e]at e';cases e';exact⟨e,f0,f1,f2,d⟩
def Inv.unpinned(I:Inv X (zU++pl) Z H s):Inv X zU Z H s:=I.pins_of λp hp=>I.pin p (qj _ (qk _ hp))
def Rn(hp:PassesOwn (model X.prog X.w) X.A X.env X.xe)(hc:X.calm=true)(hi:PI X tg iter wi)(hg:PG X tg g)(hb:mJ X body tb)
  (hs:∀x,foldedSetIterable iter X.env x=pure x:=by intro _;rfl):PS X (.For tg iter body [] pos) (JD wi g tb):=by
 intro zU s Z H D I h;refine wpAny_For (bK (hi zU s Z H _ I h) λv s1 h1=>bK h1 λitv s2 h2=>?_) hs;obtain⟨it,fp,tn,J,H2,e,I2,T,st2,f2,W,⟨m0,w0⟩,turn⟩:=h2;subst e
 --what stays true of the iterator's objects through the loop
 have stat:∀{H':Hp},(∀b∈fp,H' b=none)->∀b∈fp,eB X zU H' b:=λhn b hb=>⟨hn b hb,(f2 b hb).2⟩
 refine codeAny_forLoop_any (λn s'=>∃i Z' H',Inv X zU Z' H' s'/\tn i s'.heap/\(∀b∈fp,H' b=none)/\W i n Z' H') ?_ m0 ⟨0,Z,H2,I2,st2,λb hb=>(f2 b hb).1,w0⟩;rintro n s3 ⟨i,Z3,H3,I3,st3,fr3,w3⟩;rcases turn i n Z3 H3 w3 with⟨stop,qn⟩|⟨go,N,hN,step⟩
 .refine wpAny_passesOwn hp (bK (T.done X rfl rfl rfl hc i zU s3 Z3 H3 X.xe I3 (stat fr3) st3 stop) λr s4⟨hr,I4⟩=>?_);subst hr;exact wpAny_execs_nil ⟨Z3,H3,I4,qn⟩
 .refine wpAny_passesOwn hp (bK (T.item X rfl rfl rfl hc i zU s3 Z3 H3 X.xe I3 (stat fr3) st3 go) λr s4 zq=>?_);obtain⟨u,hr,h4⟩:=zq;subst hr;refine wpAny_passesOwn hp (bK h4 λ_ s5 zq=>?_);obtain⟨x,H5,I5,r5,y5,st5,fr5⟩:=zq;have I5':=I5.pinned (stat fr5) (T.obj _ _ st5);refine wpAny_passesOwn hp (bK (hg _ s5 Z3 H5 x u _ I5' r5 (step x H5 y5)) λ_ s6 zq=>?_);obtain⟨Z6,H6,I6,q6⟩:=zq;refine wpAny_passesOwn hp (bK (hb _ s6 Z6 H6 _ I6 q6) λf s7 q7=>?_);have again:∀{Z7:St}{H7:Hp},Inv X (zU++iI fp s5.heap) Z7 H7 s7->N Z7 H7->∃m,m<n/\∃i Z' H',Inv X zU Z' H' s7/\tn i s7.heap/\(∀b∈fp,H' b=none)/\W i m Z' H':=λ{Z7 H7} I7 n7=>by obtain⟨m',hm,w7⟩:=hN Z7 H7 n7;refine⟨m',hm,i+1,Z7,H7,I7.unpinned,T.keep _ _ _ st5 λb hb o e=>(I7.pin (b,o) (qj _ (qj _ (GL hb e)))).1,λb hb=>?_,w7⟩;obtain⟨o,e,d⟩:=T.obj _ _ st5 b hb;exact(I7.pin (b,o) (qj _ (qj _ (GL hb e)))).2.1
  cases f with
  |next=>obtain⟨Z7,H7,I7,n7⟩:=q7;exact again I7 n7
  |cont=>obtain⟨Z7,H7,I7,n7⟩:=q7;exact again I7 n7
  |brk=>obtain⟨Z7,H7,I7,q7⟩:=q7;exact⟨Z7,H7,I7.unpinned,q7⟩
  |ret v=>obtain⟨x7,Z7,H7,I7,r7,q7⟩:=q7;exact⟨x7,Z7,H7,I7.unpinned,r7,q7⟩
end
abbrev R2:=V->V->Hp->VK->Prop
def OpR(X:Cx)(f:Value->Value->Sem Value)(r:R2):Prop:=
 ∀(zU:List (Addr×Obj))(s:Shared)(Z:St)(H:Hp)(x y:V)(v u:Value)(Q:VK),Inv X zU Z H s->zL x v->zL y u->r x y H Q->
  wpAny (model X.prog X.w) X.A (f v u) (EP X zU Z Q) X.xe s
def Lc(X:Cx)(f:Value->Sem Value)(r:V->Hp->VK->Prop):Prop:=
 ∀(zU:List (Addr×Obj))(s:Shared)(Z:St)(H:Hp)(x:V)(v:Value)(Q:VK),Inv X zU Z H s->zL x v->r x H Q->
  wpAny (model X.prog X.w) X.A (f v) (EP X zU Z Q) X.xe s
def aX(X:Cx)(f:Value)(r:List V->Hp->VK->Prop):Prop:=
 ∀(zU:List (Addr×Obj))(s:Shared)(Z:St)(H:Hp)(xs:List V)(us:List Value)(Q:VK),Inv X zU Z H s->zR xs us->r xs H Q->
  wpAny (model X.prog X.w) X.A (call f us) (EP X zU Z Q) X.xe s
def Le(X:Cx)(r:V->Hp->(Bool->Hp->Prop)->Prop):Prop:=
 ∀(zU:List (Addr×Obj))(s:Shared)(Z:St)(H:Hp)(x:V)(v:Value)(Q:Bool->Hp->Prop),Inv X zU Z H s->zL x v->r x H Q->
  wpAny (model X.prog X.w) X.A (truthy v) (TP X zU Z Q) X.xe s
def Hh(r:R2)(ta tb:TE):TE:=λZ H Q=>ta Z H λx H1=>tb Z H1 λy H2=>r x y H2 Q
def Xl(r:V->Hp->VK->Prop)(ta:TE):TE:=λZ H Q=>ta Z H λx H1=>r x H1 Q
def rI(C:Int->Int->Prop)(g:Int->Int->V):R2:=λx y H Q=>∃i j,x=.int i/\y=.int j/\C i j/\Q (g i j) H
def AH(g:Int->Int->V):R2:=λx y H Q=>∃i j,x=.int i/\y=.int j/\Q (g i j) H
def rU(g:Int->V):V->Hp->VK->Prop:=λx H Q=>∃i,x=.int i/\Q (g i) H
section
variable{X:Cx}{a b c:Expr}{ta tb tc:TE}{pos:Pos}
def Dg(ha:PE X a ta)(hb:PE X b tb){R:V->V->Hp->Prop}(I:Inv X zU Z H s)
  (h:ta Z H λx H1=>tb Z H1 λy H2=>R x y H2){f:Value->Value->Sem Value}
  (hf:∀v u s2 x y H2,Inv X zU Z H2 s2->zL x v->zL y u->R x y H2->wpAny (model X.prog X.w) X.A (f v u) Q X.xe s2):
  wpAny (model X.prog X.w) X.A (eval a X.env) (λv s₁=>wpAny (model X.prog X.w) X.A (eval b X.env) (λu s₂=>wpAny (model X.prog X.w) X.A (f v u) Q X.xe s₂) X.xe s₁) X.xe s:=by
 refine bK (ha zU s Z H _ I h) λv s1 zq=>?_;obtain⟨x,H1,I1,r1,q1⟩:=zq;refine bK (hb zU s1 Z H1 _ I1 q1) λu s2 zq=>?_;obtain⟨y,H2,I2,r2,q2⟩:=zq;exact hf v u s2 x y H2 I2 r1 r2 q2
def Qm(ho:OpR X (binaryOp op) r)(ha:PE X a ta)(hb:PE X b tb):PE X (.BinOp a op b pos) (Hh r ta tb):=by intro zU s Z H Q I h;exact wpAny_BinOp (Dg ha hb I h λv u s2 x y H2 I2 rx ry q=>ho zU s2 Z H2 x y v u Q I2 rx ry q)
def PK(ho:Lc X (unaryOp op) r)(ha:PE X a ta):PE X (.UnaryOp op a pos) (Xl r ta):=by intro zU s Z H Q I h;exact UnaryOp_ (bK (ha zU s Z H _ I h) λv s1⟨x,H1,I1,r1,q1⟩=>ho zU s1 Z H1 x v Q I1 r1 q1)
def Ff{g:Int->Int->Int}
  (rule:∀(i j:Int)(t u:Tok)(s:Shared)(Q:zw)(E:zw),C i j->Q (.int (g i j) s.toks) {s with toks:=s.toks+1}->wpAny (model X.prog X.w) X.A (f (.int i t) (.int j u)) Q E s):
  OpR X f (rI C λi j=>.int (g i j)):=by
 intro zU s Z H x y v u Q I rx ry h;obtain⟨i,j,rfl,rfl,hc,q⟩:=h;obtain⟨t,rfl⟩:=rx;obtain⟨t',rfl⟩:=ry;exact rule i j t t' s _ _ hc ⟨.int (g i j),H,I.tok _,⟨_,rfl⟩,q⟩
def Fe{g:Int->Int->Int}
  (rule:∀(i j:Int)(t u:Tok)(s:Shared)(Q:zw)(E:zw),Q (.int (g i j) s.toks) {s with toks:=s.toks+1}->wpAny (model X.prog X.w) X.A (f (.int i t) (.int j u)) Q E s):
  OpR X f (AH λi j=>.int (g i j)):=by
 intro zU s Z H x y v u Q I rx ry h;obtain⟨i,j,rfl,rfl,q⟩:=h;obtain⟨t,rfl⟩:=rx;obtain⟨t',rfl⟩:=ry;exact rule i j t t' s _ _ ⟨.int (g i j),H,I.tok _,⟨_,rfl⟩,q⟩
def Co{g:Int->Int->Bool}
  (rule:∀(i j:Int)(t u:Tok)(s:Shared)(Q:zw)(E:zw),Q (.bool (g i j)) s->wpAny (model X.prog X.w) X.A (f (.int i t) (.int j u)) Q E s):
  OpR X f (AH λi j=>.bl (g i j)):=by
 intro zU s Z H x y v u Q I rx ry h;obtain⟨i,j,rfl,rfl,q⟩:=h;obtain⟨t,rfl⟩:=rx;obtain⟨t',rfl⟩:=ry;exact rule i j t t' s _ _ ⟨.bl (g i j),H,I,rfl,q⟩
def Gn(i j:Int):Prop:=0<=j/\j<=1000000/\i.natAbs<2^64
def vS(i j:Int):Prop:=(-(2^64)<i/\i<2^64)\/(-(2^64)<j/\j<2^64)
def vS.ok(h:vS i j):IntMulOk i j:=by
 rcases h with⟨h1,h2⟩|⟨h1,h2⟩
 .exact .of_left (intBits_le_64 h1 h2)
 .exact .of_right (intBits_le_64 h1 h2)
def QM:OpR X (binaryOp .Add) (AH λi j=>.int (i+j)):=Fe λ_ _ _ _ _ _ _ q=>add_int q
def Qj:OpR X (binaryOp .Mult) (rI vS λi j=>.int (i*j)):=Ff λ_ _ _ _ _ _ _ hc q=>mul_int q hc.ok
def Qa:OpR X (binaryOp .Mod) (rI (λ_ j=>0<j) λi j=>.int (i %j)):=Ff λi j _ _ _ _ _ hc q=>by have h1:(0:Int)<j:=hc;exact mod_int' (by lia) (by rw[Int.fmod_eq_emod_of_nonneg i (by lia)];exact q)
def Qy:OpR X (binaryOp .Pow) (rI Gn λi j=>.int (i^j.toNat)):=Ff λ_ _ _ _ _ _ _ hc q=>pow_int_small hc.1 hc.2.1 hc.2.2 q
def Lp:OpR X (binaryOp .BitOr) (AH λi j=>.int (Builtin.bitOr i j)):=Fe λ_ _ _ _ _ _ _ q=>or_int q
def Xk{g:Int->Int}
  (rule:∀(i:Int)(t:Tok)(s:Shared)(Q:zw)(E:zw),Q (.int (g i) s.toks) {s with toks:=s.toks+1}->wpAny (model X.prog X.w) X.A (f (.int i t)) Q E s):
  Lc X f (rU λi=>.int (g i)):=by
 intro zU s Z H x v Q I rx h;obtain⟨i,rfl,q⟩:=h;obtain⟨t,rfl⟩:=rx;exact rule i t s _ _ ⟨.int (g i),H,I.tok _,⟨_,rfl⟩,q⟩
def Qi:Lc X (unaryOp .USub) (rU λi=>.int (-i)):=Xk λ_ _ _ _ _ q=>neg_int q
end
def EK:V->V->Bool
 |.non,.non=>true|.non,.int _=>true|.int _,.non=>true|.non,.bl _=>true|.bl _,.non=>true|.non,.str _=>true|.str _,.non=>true
 |.int _,.int _=>true|.bl _,.bl _=>true|.str _,.str _=>true|.byt _,.byt _=>true
 |.int _,.str _=>true|.str _,.int _=>true|.bl _,.str _=>true|.str _,.bl _=>true
 |_,_=>false
def Xp:R2:=λx y H Q=>EK x y=true/\Q (.bl (!decide (x=y))) H
def Sm:decide (V.int i=V.int j)=(i==j):=by rw[Bool.eq_iff_iff];simp
def Qq:decide (V.bl i=V.bl j)=(i==j):=by rw[Bool.eq_iff_iff];simp
def Rw:decide (V.str i=V.str j)=(i==j):=by rw[Bool.eq_iff_iff];simp
def RY:decide (V.byt i=V.byt j)=(i.toList==j.toList):=by rw[Bool.eq_iff_iff];cases i;cases j;simp
section
variable{X:Cx}{a b c:Expr}{ta tb tc:TE}{pos:Pos}
def mN(I:Inv X zU Z H s)(q:Q (.bl k) H)(e:k=k'):EP X zU Z Q (.bool k') s:=by subst e;exact⟨.bl k,H,I,rfl,q⟩
def PM:OpR X (compareOp .NotEq) Xp:=by
 intro zU s Z H x y v u Q I rx ry h;obtain⟨hs,q⟩:=h;cases x with
 |non=>
  cases rx;cases y with
  |non=>cases ry;exact PySem.EqNone.ne_none_none (mN I q (by simp))
  |bl j=>cases ry;exact PySem.EqNone.ne_none_bool (mN I q (by simp))
  |int j=>obtain⟨t',rfl⟩:=ry;exact PySem.EqNone.ne_none_int (mN I q (by simp))
  |str j=>obtain⟨t',rfl⟩:=ry;exact PySem.EqNone.ne_none_str (mN I q (by simp))
  |_=>exact absurd (show false=true from hs) qY
 |bl i=>
  cases rx;cases y with
  |non=>cases ry;exact PySem.EqNone.ne_bool_none (mN I q (by simp))
  |bl j=>cases ry;exact ne_bool (mN I q (congrArg not Qq))
  |str j=>obtain⟨t',rfl⟩:=ry;exact PySem.EqMixed.ne_bool_str (mN I q (by simp))
  |_=>exact absurd (show false=true from hs) qY
 |int i=>
  obtain⟨t,rfl⟩:=rx;cases y with
  |non=>cases ry;exact PySem.EqNone.ne_int_none (mN I q (by simp))
  |int j=>obtain⟨t',rfl⟩:=ry;exact ne_int (mN I q (congrArg not Sm))
  |str j=>obtain⟨t',rfl⟩:=ry;exact PySem.EqMixed.ne_int_str (mN I q (by simp))
  |_=>exact absurd (show false=true from hs) qY
 |str i=>
  obtain⟨t,rfl⟩:=rx;cases y with
  |non=>cases ry;exact PySem.EqNone.ne_str_none (mN I q (by simp))
  |bl j=>cases ry;exact PySem.EqMixed.ne_str_bool (mN I q (by simp))
  |int j=>obtain⟨t',rfl⟩:=ry;exact PySem.EqMixed.ne_str_int (mN I q (by simp))
  |str j=>obtain⟨t',rfl⟩:=ry;exact ne_str (mN I q (congrArg not Rw))
  |_=>exact absurd (show false=true from hs) qY
 |byt i=>
  obtain⟨t,rfl⟩:=rx;cases y with
  |byt j=>obtain⟨t',rfl⟩:=ry;exact W.ne_bytes (mN I q (congrArg not RY))
  |_=>exact absurd (show false=true from hs) qY
 |_=>cases y<;>exact absurd (show false=true from hs) qY
def PL:OpR X (compareOp .Lt) (AH λi j=>.bl (decide (i<j))):=Co λ_ _ _ _ _ _ _ q=>lt_int q
def PH:OpR X (compareOp .Gt) (AH λi j=>.bl (decide (j<i))):=Co λ_ _ _ _ _ _ _ q=>gt_int q
def PB:OpR X (compareOp .GtE) (AH λi j=>.bl (decide (j<=i))):=Co λ_ _ _ _ _ _ _ q=>ge_int q
def aR(b:Expr)(h:op≠.In:=by decide)(h2:op≠.NotIn:=by decide):behindInMarks op b=false:=uI b h h2
def Ss(ho:OpR X (compareOp op) r)(ha:PE X a ta)(hb:PE X b tb)(hm:behindInMarks op b=false):PE X (.Compare a [op] [b] pos) (Hh r ta tb):=by intro zU s Z H Q I h;exact wpAny_Compare1 (Dg ha hb I h λv u s2 x y H2 I2 rx ry q=>ho zU s2 Z H2 x y v u Q I2 rx ry q) hm
def ED(t:TE):TT:=λZ H Q=>t Z H λx H'=>∃k,x=.bl k/\Q k H'
def MK(ho:OpR X (compareOp op) r)(ha:PE X a ta)(hb:PE X b tb)(hm:behindInMarks op b=false):PT X (.Compare a [op] [b] pos) (ED (Hh r ta tb)):=by
 intro zU s Z H Q I h;refine wpAny_isTrue_Compare1 (bK (ha zU s Z H _ I h) λv s1⟨x,H1,I1,r1,q1⟩=>bK (hb zU s1 Z H1 _ I1 q1) λu s2⟨y,H2,I2,r2,q2⟩=>bK (ho zU s2 Z H2 x y v u _ I2 r1 r2 q2) λc s3⟨z,H3,I3,r3,k,e,q3⟩=>?_) hm
 subst e;cases r3;exact wpAny_truthy_bool ⟨H3,I3,q3⟩
def Di(K:W.Frag)(x:V)(H:Hp)(k:Bool):Prop:=
 match x with
 |.non=>k=false
 |.bl b=>k=b
 |.int i=>k=(i !=0)
 |.str y=>y.length<=sizeLine/\k=((y.length:Int) !=0)
 |.byt y=>y.size<=sizeLine/\k=((y.size:Int) !=0)
 |.ref p=>(∃xs,bR K H p xs/\k=!xs.isEmpty)\/(∃xs,bP K H p xs/\k=!xs.isEmpty)\/∃zV,H p=some (.dK zV)/\k=!zV.isEmpty
 |_=>False
def VY(r:KV zV vs):(!vs.isEmpty)=!zV.isEmpty:=by cases r<;>rfl
def NW(r:zR xs zY):(!zY.toArray.isEmpty)=!xs.isEmpty:=by cases r<;>simp
def fJ:(sizeLine:Nat)<2^63:=by rw[zp];decide
def QJ:Le X (λx H Q=>∃k,Di X.K x H k/\Q k H):=by
 intro zU s Z H x v Q I rx h;obtain⟨k,e,q⟩:=h;have hl:=fJ;have hs:sizeLine=16777216:=zp;cases x with
 |non=>cases rx;have e':k=false:=e;subst e';exact truthy_none ⟨H,I,q⟩
 |bl b=>cases rx;have e':k=b:=e;subst e';exact wpAny_truthy_bool ⟨H,I,q⟩
 |int i=>obtain⟨t,rfl⟩:=rx;have e':k=(i !=0):=e;subst e';exact PySem.P.truthy_int ⟨H,I,q⟩
 |str y=>obtain⟨t,rfl⟩:=rx;obtain⟨hy,e'⟩:y.length<=sizeLine/\k=((y.length:Int) !=0):=e;subst e';exact PySem.P.truthy_str (by lia) ⟨H,I.tok _,q⟩
 |byt y=>obtain⟨t,rfl⟩:=rx;obtain⟨hy,e'⟩:y.size<=sizeLine/\k=((y.size:Int) !=0):=e;subst e';exact W.truthy_bytes (by lia) ⟨H,I.tok _,q⟩
 |ref p=>
  cases rx;have e':(∃xs,bR X.K H p xs/\k=!xs.isEmpty)\/(∃xs,bP X.K H p xs/\k=!xs.isEmpty)\/∃zV,H p=some (.dK zV)/\k=!zV.isEmpty:=e;rcases e' with⟨xs,hx,e'⟩|⟨xs,hx,e'⟩|⟨zV,hx,e'⟩
  .subst e';obtain⟨zY,r,pl,hz⟩:=I.list hx;have zX:=r.length;exact wpAny_truthy_list pl.isList (by simp only[qt];lia) ⟨H,I.tok _,by rw[NW r];exact q⟩
  .subst e';obtain⟨zY,r,pl,hz⟩:=I.tuple hx;have zX:=r.length;exact truthy_tuple pl (by simp only[qt];lia) ⟨H,I.tok _,by rw[NW r];exact q⟩
  .subst e';obtain⟨hz,hS,vs,r,m⟩:zV.length<=sizeLine/\(p==sysModules)=false/\∃vs,KV zV vs/\s.heap.DictOf (aE X.prog X.w) p vs:=I.hok p _ hx;have zX:zV.length=vs.length:=Paired.length r;exact wpAny_truthy_dict hS m (by lia) ⟨H,I.tok _,by rw[VY r];exact q⟩
 |_=>exact(show False from e).elim
def UC(ha:PE X a ta)(he:∀whole,isTrue a X.env whole=(do let v<-whole;standAt a.pos;holding [v] (truthy v))):
  PT X a (λZ H Q=>ta Z H λx H'=>∃k,Di X.K x H' k/\Q k H'):=by
 intro zU s Z H Q I h;exact isTrue_plain (bK (ha zU s Z H _ I h) λv s1⟨x,H1,I1,r1,q1⟩=>QJ zU s1 Z H1 x v Q I1 r1 q1) (he _)
def Wm:OpR X (binaryOp .Add) (λx y H Q=>∃i j,x=.str i/\y=.str j/\i.length+j.length<=sizeLine/\Q (.str (i++j)) H):=by intro zU s Z H x y v u Q I rx ry h;obtain⟨i,j,rfl,rfl,hz,q⟩:=h;obtain⟨t,rfl⟩:=rx;obtain⟨t',rfl⟩:=ry;exact add_str (λt' tk=>⟨.str (i++j),H,I.tok _,⟨_,rfl⟩,q⟩) hz
def vals1(r:zR [x] us):∃u,us=[u]/\zL x u:=by
 cases r with
 |cons r1 r2=>cases r2;exact⟨_,rfl,r1⟩
def vals2(r:zR [x,y] us):∃u w',us=[u,w']/\zL x u/\zL y w':=by
 cases r with
 |cons r1 r2=>
  cases r2 with
  |cons r3 r4=>cases r4;exact⟨_,_,rfl,r1,r3⟩
def UP(hc:X.calm=true):aX X (.builtin "max") (λxs H Q=>∃i j,xs=[.int i,.int j]/\Q (.int (if j>i then j else i)) H):=by
 intro zU s Z H xs us Q I r h;obtain⟨i,j,rfl,q⟩:=h;obtain⟨u,w',rfl,⟨t,rfl⟩,⟨t',rfl⟩⟩:=vals2 r;refine max_two_ints (I.ok.hd hc) λh' tk k=>⟨_,H,I.kept k,?_,q⟩
 by_cases hj:j>i
 .rw[q8 hj,q8 hj];exact⟨_,rfl⟩
 .rw[q9 hj,q9 hj];exact⟨_,rfl⟩
def Vf(hc:X.calm=true):aX X (.builtin "min") (λxs H Q=>∃i j,xs=[.int i,.int j]/\Q (.int (if j<i then j else i)) H):=by
 intro zU s Z H xs us Q I r h;obtain⟨i,j,rfl,q⟩:=h;obtain⟨u,w',rfl,⟨t,rfl⟩,⟨t',rfl⟩⟩:=vals2 r;refine min_two_ints (I.ok.hd hc) λh' tk k=>⟨_,H,I.kept k,?_,q⟩
 by_cases hj:j<i
 .rw[q8 hj,q8 hj];exact⟨_,rfl⟩
 .rw[q9 hj,q9 hj];exact⟨_,rfl⟩
def VI:aX X (.type "int") (λxs H Q=>(∃i,xs=[.int i]/\Q (.int i) H)\/∃k,xs=[.bl k]/\Q (.int (if k then 1 else 0)) H):=by
 intro zU s Z H xs us Q I r h;rcases h with⟨i,rfl,q⟩|⟨k,rfl,q⟩
 .obtain⟨u,rfl,t,rfl⟩:=vals1 r;exact call_int_int ⟨.int i,H,I,⟨_,rfl⟩,q⟩
 .obtain⟨u,rfl,r1⟩:=vals1 r;cases r1;exact call_int_bool ⟨.int (if k then 1 else 0),H,I.tok _,⟨_,rfl⟩,q⟩
end
def fU.some_of(r:fU (some v) o):∃u,o=some u/\zL v u:=by
 cases o with
 |none=>exact(show False from r).elim
 |some u=>exact⟨u,rfl,r⟩
def fU.none_of(r:fU none o):o=none:=by
 cases o with
 |none=>rfl
 |some u=>exact(show False from r).elim
structure bI(k:Nat)(A:Around):Prop where
 hd:A.handled=none
 dp:A.depth+3*k+5<recursionLimit
 un:A.units+16*k+200<cLine
 gd:A.guards=some []
def bI.mono(r:bI k A)(h:j<=k):bI j A:=⟨r.hd,by have:=r.dp;lia,by have:=r.un;lia,r.gd⟩
def bI.deeper(r:bI (k+1) A)(env:Env):bI k (A.deeper env):=
 ⟨r.hd,by have:=r.dp;show A.depth+1+3*k+5<_;lia,by have:=r.un;show A.units+3+16*k+200<_;lia,r.gd⟩
def bI.depth(r:bI k A):A.depth<recursionLimit:=by have:=r.dp;lia
def bI.units(r:bI k A):A.units+64<cLine:=by have:=r.un;lia
def JA:TA:=λ_ H Q=>Q [] H
def EI(ta:TE)(tr:TA):TA:=λZ H Q=>ta Z H λx H1=>tr Z H1 λxs H2=>Q (x::xs) H2
section
variable{X:Cx}{e:Expr}{es:List Expr}{te:TE}{t:TA}{pos:Pos}
def Qe:PA X [] JA:=λ_ _ _ _ H Q I h=>Calls.spliced_nil ⟨[],H,I,.nil,h⟩
def Sv(ha:PE X e te)(hr:PA X es t)(hs:starEach (e::es) X.env=(false,eval e X.env)::starEach es X.env:=by rfl):PA X (e::es) (EI te t):=by intro pos zU s Z H Q I h;rw[hs];show wpAny _ _ (spliced ((false,eval e X.env)::backTo pos (starEach es X.env))) _ _ s;refine Calls.spliced_cons (bK (ha zU s Z H _ I h) λu s1 zq=>?_);obtain⟨x,H1,I1,r1,q1⟩:=zq;exact bK (hr pos zU s1 Z H1 _ I1 q1) λus s2⟨xs,H2,I2,r2,q2⟩=>⟨x::xs,H2,I2,.cons r1 r2,q2⟩
def Jv(t:TA):TE:=λZ H Q=>t Z H λxs H1=>xs.length<=sizeLine/\∀p,H1 p=none->Q (.ref p) (upd H1 p (.tup xs))
def JB(t:TA):TE:=λZ H Q=>t Z H λxs H1=>xs.length<=sizeLine/\∀p,H1 p=none->Q (.ref p) (upd H1 p (.lst xs))
def QV(h:PA X es t):PE X (.Tuple es x1 pos) (Jv t):=by intro zU s Z H Q I hq;refine wpAny_Tuple_spliced (bK (h pos zU s Z H _ I hq) λus s1⟨xs,H1,I1,r,z,q⟩=>⟨by rw[<-r.length];exact z,?_⟩);have hf:H1 s1.heap.objs.size=none:=I1.hok.fresh (zc _);refine⟨.ref s1.heap.objs.size,upd H1 s1.heap.objs.size (.tup xs),I1.laid (t':=s1.toks) (λb u e=>qc _ e) (zc _) ?_,rfl,q _ hf⟩;exact⟨⟨z,nQ.new rfl (qd _ rfl)⟩,us,r,⟨_,qd _ rfl,rfl,_,rfl⟩⟩
def QK(h:PA X es t):PE X (.List es pos) (JB t):=by intro zU s Z H Q I hq;refine wpAny_List_spliced (bK (h pos zU s Z H _ I hq) λus s1⟨xs,H1,I1,r,z,q⟩=>⟨by rw[<-r.length];exact z,?_⟩);have hf:H1 s1.heap.objs.size=none:=I1.hok.fresh (zc _);refine⟨.ref s1.heap.objs.size,upd H1 s1.heap.objs.size (.lst xs),I1.laid (t':=s1.toks) (λb u e=>qc _ e) (zc _) ?_,rfl,q _ hf⟩;exact⟨z,us,0,r,qd _ rfl⟩
end
abbrev Sp:=List V->Hp->VK->XK->Prop
abbrev Gm:=List Env->Hp->Shared->XK->Value->Shared->Prop
structure Am(P:Program)(w:World)(K:W.Frag)(mg:Str->Option Value)(base:Heap)(A:Around)(outer:List Env)(s:Shared)(H:Hp):Prop where
 frames:A.frames=some outer
 mod:Mod K mg base
 bs:∀b o,base.get? b=some o->s.heap.get? b=some o/\H b=none
 bsz:base.objs.size<=s.heap.objs.size
 funs:s.heap.FunFrames base outer
 frf:∀b∈vD outer,H b=none
 hok:fN P w H s.heap
 bare:AllBare s.gens
def CE(outer:List Env)(P:Program)(w:World)(H:Hp)(s:Shared)(Q:VK)(u:Value)(s':Shared):Prop:=
 ∃v H',s'.os=s.os/\AllBare s'.gens/\Un (vD outer) [] H H' s.heap s'.heap/\fN P w H' s'.heap/\zL v u/\Q v H'
def CR(CX:Gm)(outer:List Env)(P:Program)(w:World)(H:Hp)(s:Shared)(Q:VK)(E:XK)(r:Result)(s':Shared):Prop:=
 match r with
 |.ok (.ret u)=>CE outer P w H s Q u s'
 |.ok _=>False
 |.error e=>CX outer H s E e s'
structure gX(P:Program)(w:World)(K:W.Frag)(mg:Str->Option Value)(base:Heap)(CX:Gm)(k:Nat)(f:Addr)(fd:FuncData)(ps:List Str)(sp:Sp):Prop where
 len:∀vs H Q E,sp vs H Q E->vs.length=ps.length
 run:∀(A:Around)(outer:List Env)(s:Shared)(H:Hp)(args:Args)(us:List Value)(vs:List V)(Q:VK)(E:XK),bI k A->Am P w K mg base A outer s H->BindsTo s fd args (ps.zip us)->zR vs us->sp vs H Q E->
  codeAny (model P w) A (.call (.ref f) args) (CR CX outer P w H s Q E) s
section
variable{X:Cx}{zU:List (Addr×Obj)}{Z:St}{H:Hp}{s s':Shared}
def Inv.env0(I:Inv X zU Z H s):Am X.prog X.w X.K X.mg X.base X.A X.stack s H:=
 ⟨I.ok.frames,I.ok.mod,I.bs,le_trans I.ok.bsz I.sz,I.stack,I.stkFree,I.hok,I.bare⟩
def Inv.after(I:Inv X zU Z H s)(h:CE X.stack X.prog X.w H s Q u s'):EP X zU Z Q u s':=by obtain⟨v,H',os,bare,un,hok,r,q⟩:=h;obtain⟨hh,g,d,t,os'⟩:=s';obtain rfl:os'=s.os:=os;exact⟨v,H',I.call (h':=hh) (g':=g) (d':=d) (t':=t) (ch:=[]) un hok bare (λb z=>absurd z (by simp)),r,q⟩
end
def Binds(K:W.Frag)(fd:FuncData)(ps:List Str)(ds:List Value):Prop:=
 ∀(s:Shared)(us:List Value),K.In s.heap->(us++ds).length=ps.length->BindsTo s fd ⟨us,[]⟩ (ps.zip (us++ds))
def Binds.all{K:W.Frag}(h:∀us:List Value,us.length=ps.length->bindArgs fd ⟨us,[]⟩=pure (ps.zip us)):Binds K fd ps []:=λs us _ hl=>by rw[qB]at hl⊢;exact .of_eq (h us hl)
structure aG(N P:List Str)(sc:Scope):Prop where
 kind:sc.kind=.function
 co:sc.isCoroutine=false
 gen:sc.isGenerator=false
 nd:N.Nodup
 pre:N.take P.length=P
 par:∀x∈P,sc.names.lookup x=some .local\/sc.names.lookup x=some .cell
 nofree:∀y∈sc.names,y.2≠.free
def Oj{kindOf:Str->Option NameKind}:∀{binds:List (Str×Value)}{m:Str->Option Value},(∀v,(x,v)∉binds)->bindL kindOf binds m x=m x
 |[],_,_=>rfl
 |(n,v)::r,m,h=>by
  unfold bindL;rw[Oj λw hw=>h w (qm _ hw)];split
  .have:x≠n:=by rintro rfl;exact h v qo
   simp[this]
  .rfl
def On{kindOf:Str->Option NameKind}:∀{binds:List (Str×Value)}{m:Str->Option Value},(∀v,(x,v)∉binds)->bindC kindOf binds m x=m x
 |[],_,_=>rfl
 |(n,v)::r,m,h=>by
  unfold bindC;rw[On λw hw=>h w (qm _ hw)];split
  .rfl
  .have:x≠n:=by rintro rfl;exact h v qo
   simp[this]
def Oi{kindOf:Str->Option NameKind}:∀{P:List Str}{vs:List Value}{i:Nat}{m:Str->Option Value},P.Nodup->P[i]?=some x->vs[i]?=some v->kindOf x=some .local->
  bindL kindOf (P.zip vs) m x=some v
 |[],_,_,_,_,h,_,_=>by simp at h
 |_::_,[],_,_,_,_,h,_=>by simp at h
 |p::P,w::vs,0,m,nd,h1,h2,hk=>by simp at h1 h2;subst h1;subst h2;show bindL kindOf ((p,w)::P.zip vs) m p=_;unfold bindL;rw[Oj λv hv=>(qM.mp nd).1 (of_mem_zip hv).1,q8 hk];simp
 |p::P,w::vs,i+1,m,nd,h1,h2,hk=>by show bindL kindOf ((p,w)::P.zip vs) m x=_;unfold bindL;exact Oi (i:=i) (qM.mp nd).2 (by simpa using h1) (by simpa using h2) hk
def NM{kindOf:Str->Option NameKind}:∀{P:List Str}{vs:List Value}{i:Nat}{m:Str->Option Value},P.Nodup->P[i]?=some x->vs[i]?=some v->kindOf x≠some .local->
  bindC kindOf (P.zip vs) m x=some v
 |[],_,_,_,_,h,_,_=>by simp at h
 |_::_,[],_,_,_,_,h,_=>by simp at h
 |p::P,w::vs,0,m,nd,h1,h2,hk=>by simp at h1 h2;subst h1;subst h2;show bindC kindOf ((p,w)::P.zip vs) m p=_;unfold bindC;rw[On λv hv=>(qM.mp nd).1 (of_mem_zip hv).1,q9 hk];simp
 |p::P,w::vs,i+1,m,nd,h1,h2,hk=>by show bindC kindOf ((p,w)::P.zip vs) m x=_;unfold bindC;exact NM (i:=i) (qM.mp nd).2 (by simpa using h1) (by simpa using h2) hk
def start(N:List Str)(vs:List V):St:=vs.map some++List.replicate (N.length-vs.length) none
def gU(CX:Gm)(P:Program)(w:World)(K:W.Frag)(mg:Str->Option Value)(base:Heap)(N:List Str)(qual:Str)(scope:Scope)(f:Addr)(cd:Value)(A:Around)(outer:List Env)(s:Shared)(H:Hp)(E:XK):Cx where
 prog:=P
 w:=w
 K:=K
 mg:=mg
 base:=base
 A:=A.deeper (envOfC qual scope s.heap.objs.size f cd)
 N:=N
 s₀:=s
 H₀:=H
 env:=envOfC qual scope s.heap.objs.size f cd
 outer:=outer
 stack:=envOfC qual scope s.heap.objs.size f cd::outer
 ex:=[]
 calm:=true
 fn:=λ_=>true
 pn:=[]
 xe:=λe s'=>wpAny (model P w) (A.deeper (envOfC qual scope s.heap.objs.size f cd)) (leaving (envOfC qual scope s.heap.objs.size f cd) e) (λ_ s''=>CX outer H s E e s'') (λe' s''=>CX outer H s E e' s'') s'
def Nk{sc:Scope}(h:sc.names.lookup x=some .cell):∃c,(cellsFrom n sc.names []).lookup x=some c:=by have q:=W.cellsFrom_some sc.names n [] (.inl h);exact isSome_iff_exists.mp q
def Ve{K:W.Frag}
  (S:aG N ps scope)(hd:A.handled=none)(e0:Am P w K mg base A outer s H)(hl:vs.length=ps.length)(r:zR vs us)
  (x:InCallC s s.heap.objs.size (bindL (envOfC qual scope s.heap.objs.size f cd).kindOf (ps.zip us) λ_=>none) (cellsFrom (s.heap.objs.size+1) scope.names []) (bindC (envOfC qual scope s.heap.objs.size f cd).kindOf (ps.zip us) λ_=>none) s1):
  Inv (gU CX P w K mg base N qual scope f cd A outer s H E) [] (start N vs) H s1:=by
 have hpl:ps.length<=N.length:=by have:=congrArg List.length S.pre;rw[qI]at this;lia
 obtain⟨h1,tk,rfl,hk⟩:=x.done;have noA:∀b:Addr,b∉(gU CX P w K mg base N qual scope f cd A outer s H E).ex:=λb z=>absurd (show b∈([]:List Addr) from z) (by simp);refine⟨⟨e0.mod,S.kind,rfl,rfl,zc _,λy z c h1 h2=>?_,λy hy=>?_,λy c _ h=>?_,λ_=>hd,Around.frames_deeper e0.frames,.inr ⟨rfl,rfl⟩,λb z=>absurd z (noA b),e0.bs,e0.bsz,λb _ _=>noA b,λb z=>absurd z (noA b),e0.funs,e0.frf⟩,
  rfl,e0.bare,Un.kept hk,⟨_,x.toInCall.ns,λi y v h1 h2 h3=>?_⟩,λy c h=>⟨_,x.cell y c h⟩,e0.hok.fresh (zc _),λy c h=>?_,λp hp=>absurd (show p∈([]:List (Addr×Obj)) from hp) (by simp),e0.hok.kept hk,?_⟩
 .exact name_of_addr x.apart (PySem.mem_of_lookup h1) (PySem.mem_of_lookup h2)
 .have hy:scope.names.lookup y=some .cell\/scope.names.lookup y=some .free:=hy;rcases hy with hy|hy
  .exact Nk hy
  .exact absurd rfl (S.nofree _ (PySem.mem_of_lookup hy))
 .exact le_of_lt (x.above y c (PySem.mem_of_lookup h))
 .have hi:i<vs.length:=by
   unfold start at h2;by_cases hi:i<vs.length
   .exact hi
   .rw[getElem?_append_right (by simpa using hi)]at h2;rw[List.getElem?_replicate]at h2;split at h2<;>cases h2
  have ha:vs[i]?=some v:=by
   unfold start at h2;rw[getElem?_append_left (by simpa using hi),qG]at h2;cases e:vs[i]? with
   |none=>rw[e]at h2;cases h2
   |some a=>rw[e]at h2;cases h2;rfl
  obtain⟨u,hu,rv⟩:=r.get ha;have hp:ps[i]?=some y:=by rw[<-S.pre,List.getElem?_take_of_lt (by lia)];exact h1
  have ndP:ps.Nodup:=by rw[<-S.pre];exact S.nd.sublist (List.take_sublist _ _)
  refine⟨u,rv,?_⟩;rcases S.par y (qN hp)with k|k
  .exact .inl ⟨k,Oi ndP hp hu k⟩
  .obtain⟨c,e⟩:=Nk (n:=s.heap.objs.size+1) k;refine .inr ⟨.inl k,c,e,?_⟩;have q:=x.cell y c e;rw[NM ndP hp hu (by show scope.names.lookup y≠_;rw[k];decide)]at q;exact q
 .exact e0.hok.fresh (le_of_lt (x.above y c (PySem.mem_of_lookup h)))
 .unfold start;show _=N.length;rw[qr,qp,List.length_replicate];lia
def Pw{K:W.Frag}{dV kV doc pm cdv ct oc:Value}(lk:K.lookup f=some ⟨oc,od,.func (W.fnOf name qual params body scope dV kV doc pm an cdv ct),osl⟩)(hcd:W.codeIn K cdv qual=true)(S:aG N ps scope)
  (len:∀vs H Q E,sp vs H Q E->vs.length=ps.length)
  (hbody:∀(A:Around)(outer:List Env)(s:Shared)(H:Hp)(vs:List V)(Q:VK)(E:XK),bI k (A.deeper (envOfC qual scope s.heap.objs.size f cdv))->sp vs H Q E->
   ∃t,mJ (gU CX P w K mg base N qual scope f cdv A outer s H E) body t/\t {nx:=λ_ H'=>Q .non H',rt:=Q} (start N vs) H):
  gX P w K mg base CX (k+1) f (W.fnOf name qual params body scope dV kV doc pm an cdv ct) ps sp:=by
 refine⟨len,λA outer s H args us vs Q E hr e0 hb r hsp=>?_⟩;have hl:=len _ _ _ _ hsp;have KX:K.In s.heap:=e0.mod.kin.keeps λb o e=>(e0.bs b o e).1;have lim:s.heap.NoLimit:=e0.mod.nolimit.keeps λb o e=>(e0.bs b o e).1;have hkind:∀y∈ps.zip us,scope.names.lookup y.1=some .local\/(scope.names.lookup y.1=some .cell/\((cellsFrom (s.heap.objs.size+1) scope.names []).lookup y.1).isSome=true):=λ⟨n,v⟩ hy=>by
  rcases S.par n (of_mem_zip hy).1 with q|q
  .exact .inl q
  .exact .inr ⟨q,W.cellsFrom_some _ _ _ (.inl q)⟩
 refine codeAny_call_function hr.depth (KX _ _ lk) rfl S.co S.gen rfl (W.codeRec_of KX hcd) (hb _ _ _ _ ?_);refine wpAny_newFunctionEnv_cells S.kind hkind λenv he s1 x=>?_;subst he;refine⟨lim.keeps x.toInCall.keep,codeAny_func ?_⟩;obtain⟨t,ht,hq⟩:=hbody A outer s H vs Q E (hr.deeper _) hsp;have I:Inv (gU CX P w K mg base N qual scope f cdv A outer s H E) [] (start N vs) H s1:=Ve S hr.hd e0 hl r x;refine zv (ht [] s1 (start N vs) H _ I hq) (λfl s' hs=>?_) λe s' hs=>hs;have fin:∀{Z':St}{H':Hp}{v:V}{u:Value},Inv (gU CX P w K mg base N qual scope f cdv A outer s H E) [] Z' H' s'->zL v u->Q v H'->CE outer P w H s Q u s':=
  λ{Z' H' v u} J rv q=>⟨v,H',J.os,J.bare,J.base,J.hok,rv,q⟩
 cases fl with
 |ret u=>obtain⟨v,Z',H',J,rv,q⟩:=hs;exact fin J rv q
 |next=>obtain⟨Z',H',J,q⟩:=hs;exact fin (v:=V.non) (u:=Value.none) J rfl q
 |brk=>obtain⟨_,_,_,q⟩:=hs;exact False.elim q
 |cont=>obtain⟨_,_,_,q⟩:=hs;exact False.elim q
section
variable{X:Cx}{x:Str}{p pos:Pos}{e:Expr}{es:List Expr}{t:TA}{id T:String}{r:List V->Hp->VK->Prop}
def EJ(r:List V->Hp->VK->Prop)(t:TA):TE:=λZ H Q=>t Z H λvs H1=>r vs H1 Q
def Iz(hc:aX X (.builtin id) r)(hg:Gl X x)(hm:X.mg x=none)(hv:bootBuiltins x=some (.builtin id))(ha:PA X (e::es) t)(hn:x≠"__name__":=by decide)(hdb:(x==("__debug__":Str))=false:=by decide)
  (he:starEach (e::es) X.env=(false,eval e X.env)::starEach es X.env:=by rfl)(hpl:(backTo pos (starEach es X.env)).any (·.1)=false:=by rfl):PE X (.Call (.Name x p) (e::es) [] pos) (EJ r t):=by
 intro zU s Z H Q I h;refine wpAny_Call_Name_kw (Eb I hg hm hv ?_ hn hdb);exact PyProof.Rows.callWith_builtin1 (bK (ha pos zU s Z H _ I h) λus s1⟨vs,H1,I1,r1,q1⟩=>hc zU s1 Z H1 vs us Q I1 r1 q1) he hpl
def UO(hc:aX X (.type T) r)(hg:Gl X x)(hm:X.mg x=none)(hv:bootBuiltins x=some (.type T))(ha:PA X (e::es) t)(hn:x≠"__name__":=by decide)(hdb:(x==("__debug__":Str))=false:=by decide)
  (he:starEach (e::es) X.env=(false,eval e X.env)::starEach es X.env:=by rfl)(hpl:(backTo pos (starEach es X.env)).any (·.1)=false:=by rfl):PE X (.Call (.Name x p) (e::es) [] pos) (EJ r t):=by
 intro zU s Z H Q I h;refine wpAny_Call_Name_kw (Eb I hg hm hv ?_ hn hdb);exact PyProof.Rows.callWith_type1 (bK (ha pos zU s Z H _ I h) λus s1⟨vs,H1,I1,r1,q1⟩=>hc zU s1 Z H1 vs us Q I1 r1 q1) he hpl
end
section
variable{κ:Type}[DecidableEq κ]
def dW(zV:List (κ×V))(k:κ):Option V:=(zV.find? λkv=>decide (kv.1=k)).map (·.2)
def eG(zV:List (κ×V))(k:κ)(v:V):List (κ×V):=
 if(zV.any λkv=>decide (kv.1=k))=true then zV.map (λkv=>if kv.1=k then(kv.1,v)else kv)else zV++[(k,v)]
def Dt{p:κ×V}{r:List (κ×V)}{k:κ}(e:p.1=k):dW (p::r) k=some p.2:=by simp[dW,find?_cons,e]
def Ds{p:κ×V}{r:List (κ×V)}{k:κ}(e:¬p.1=k):dW (p::r) k=dW r k:=by simp[dW,find?_cons,e]
def Nz(k:κ):∀zV:List (κ×V),(zV.any λkv=>decide (kv.1=k))=(dW zV k).isSome
 |[]=>rfl
 |p::r=>by
  rw[any_cons];by_cases e:p.1=k
  .simp only[Dt e,qS e,Bool.true_or,isSome_some]
  .rw[Ds e,qT e,Bool.false_or];exact Nz k r
def DB(zV:List (κ×V))(k:κ)(v:V):(eG zV k v).length<=zV.length+1:=by unfold eG;grind
def fU.isSome_eq(r:fU o u):o.isSome=u.isSome:=by
 cases o with
 |none=>cases u with
  |none=>rfl
  |some _=>exact(show False from r).elim
 |some _=>cases u with
  |none=>exact(show False from r).elim
  |some _=>rfl
def fU.getD(r:fU o u)(rd:zL d d'):zL (o.getD d) (u.getD d'):=by
 cases o with
 |none=>cases u with
  |none=>exact rd
  |some _=>exact(show False from r).elim
 |some _=>cases u with
  |none=>exact(show False from r).elim
  |some _=>exact r
def KV.val{zV:List (κ×V)}{vs:List (κ×Value)}(r:KV zV vs)(k:κ):fU (dW zV k) (valueAt vs k):=by
 unfold KV at r;induction r with
 |nil=>exact True.intro
 |@cons p q ps qs h t ih=>
  obtain⟨h1,h2⟩:=h;by_cases e:p.1=k
  .have e':q.1=k:=h1.symm.trans e;have b:valueAt (q::qs) k=some q.2:=by simp[valueAt,find?_cons,e']
   rw[Dt e,b];exact h2
  .have e':¬q.1=k:=λz=>e (h1.trans z);have b:valueAt (q::qs) k=valueAt qs k:=by simp[valueAt,find?_cons,e']
   rw[Ds e,b];exact ih
def KV.any(r:KV zV vs)(k:κ):(zV.any λkv=>decide (kv.1=k))=vs.any λkv=>decide (kv.1=k):=by
 unfold KV at r;induction r with
 |nil=>rfl
 |cons h t ih=>rw[any_cons,any_cons,ih,h.1]
def KV.repl(r:KV zV vs)(k:κ)(ry:zL y u):
  KV (zV.map λkv=>if kv.1=k then(kv.1,y)else kv) (vs.map λkv=>if kv.1=k then(kv.1,u)else kv):=by
 unfold KV at r⊢;induction r with
 |nil=>exact .nil
 |@cons p q ps qs h t ih=>rw[qA,qA];refine .cons ?_ ih;grind
def KV.put(r:KV zV vs)(k:κ)(ry:zL y u):KV (eG zV k y) (stored vs k u):=by
 unfold eG stored;rw[r.any k];by_cases e:(vs.any λkv=>decide (kv.1=k))=true
 .rw[q8 e,q8 e];exact r.repl k ry
 .rw[q9 e,q9 e];exact Paired.snoc r ⟨rfl,ry⟩
theorem KV.length(r:KV zV vs):zV.length=vs.length:=Paired.length r
end
def wF(r:zL (kV k) u):(aE P w).is k u=true:=by
 cases k with
 |inl i=>obtain⟨t,e⟩:=(show∃t,u=Value.int i t from r);subst e;exact WR P w i t
 |inr x=>obtain⟨t,e⟩:=(show∃t,u=Value.str x t from r);subst e;exact WJ P w x t
def Ea(e:kV a=kV b):a=b:=by
 cases a with
 |inl i=>cases b with
  |inl j=>have e':V.int i=V.int j:=e;injection e' with e';rw[e']
  |inr y=>exact nomatch (show V.int i=V.str y from e)
 |inr x=>cases b with
  |inl j=>exact nomatch (show V.str x=V.int j from e)
  |inr y=>have e':V.str x=V.str y:=e;injection e' with e';rw[e']
theorem Ej:∀{a b:List aQ},a.map kV=b.map kV->a=b
 |[],[],_=>rfl
 |[],_::_,e=>by simp at e
 |_::_,[],e=>by simp at e
 |x::xs,y::ys,e=>by
  rw[qA,qA]at e;injection e with e1 e2
  rw[Ea e1,Ej e2]
def Oe:∀{ks:List aQ}{us:List Value},zR (ks.map kV) us->ItemsAre (aE P w) ks us
 |[],_,r=>by rw[map_nil]at r;cases r;exact .nil
 |k::ks,_,r=>by
  rw[qA]at r;cases r with
  |cons h t=>exact .cons (wF h) (Oe t)
abbrev KT(H:Hp):List (List aQ×V)->List (List aQ×Addr×Value)->Prop:=Paired λp q=>p.1=q.1/\H q.2.1=some (.tup (p.1.map kV))/\zL p.2 q.2.2
def KT.val{H:Hp}{zV:List (List aQ×V)}{xs:List (List aQ×Addr×Value)}(r:KT H zV xs)(k:List aQ):fU (dW zV k) ((atKey xs k).map (·.2)):=by
 induction r with
 |nil=>exact True.intro
 |@cons p q ps qs h t ih=>
  obtain⟨h1,_,h2⟩:=h;by_cases e:p.1=k
  .have e':q.1=k:=h1.symm.trans e;have b:atKey (q::qs) k=some q.2:=by simp[atKey,find?_cons,e']
   rw[Dt e,b];exact h2
  .have e':¬q.1=k:=λz=>e (h1.trans z);have b:atKey (q::qs) k=atKey qs k:=by simp[atKey,find?_cons,e']
   rw[Ds e,b];exact ih
def KT.repl(r:KT H zV xs)(k:List aQ)(ry:zL y u):
  KT H (zV.map λkv=>if kv.1=k then(kv.1,y)else kv) (xs.map (putAt k u)):=by
 induction r with
 |nil=>exact .nil
 |@cons p q ps qs h t ih=>
  rw[qA,qA];refine .cons ?_ ih;obtain⟨h1,h2,h3⟩:=h;unfold putAt;by_cases e:p.1=k
  .rw[q8 e,q8 (h1.symm.trans e)];exact⟨h1,h2,ry⟩
  .rw[q9 e,q9 (λz=>e (h1.trans z))];exact⟨h1,h2,h3⟩
def KT.put(r:KT H zV xs)(k:List aQ)(hb:H b=some (.tup (k.map kV)))(ry:zL y u):
  KT H (eG zV k y) (storedH xs k b u):=by
 have e:(zV.any λkv=>decide (kv.1=k))=(atKey xs k).isSome:=by rw[Nz,(r.val k).isSome_eq,isSome_map]
 unfold eG storedH;rw[e];by_cases q:(atKey xs k).isSome=true
 .rw[q8 q,q8 q];exact r.repl k ry
 .rw[q9 q,q9 q];exact Paired.snoc r ⟨rfl,hb,ry⟩
def KT.keeps(r:KT H zV xs)(ht:∀b ys,H b=some (.tup ys)->H' b=some (.tup ys)):KT H' zV xs:=
 Paired.mapP r λ_ _ z=>⟨z.1,ht _ _ z.2.1,z.2.2⟩
def Ln(ok:fN P w H h)(e:Rd H a u):zT P w H h a u:=e.ok ok
def DQ(ok:fN P w H h)(e:Rd H a (.dK zV)):zV.length<=sizeLine/\(a==sysModules)=false/\∃vs,KV zV vs/\h.DictOf (aE P w) a vs:=
 show zT P w H h a (.dK zV) from Ln ok e
def Hz(ok:fN P w H h)(e:H a=some (.dK zV)):zV.length<=sizeLine/\(a==sysModules)=false/\∃vs,KV zV vs/\h.DictOf (aE P w) a vs:=DQ ok (.inl e)
def rY(ok:fN P w H h)(e:H a=some (.tup (ks.map kV))):(tupleKind (aE P w)).is h ks a:=by
 obtain⟨_,zY,r,o,h1,h2,n,h3⟩:=(show zT P w H h a (.tup (ks.map kV)) from ok a _ e)
 exact⟨o,zY.toArray,n,h1,h2,h3,by simpa using Oe r⟩
def Do(ok:fN P w H h)(e:Rd H a (.dT zV)):zV.length<=sizeLine/\(a==sysModules)=false/\
  ∃xs,KT H zV xs/\h.DictOfH (tupleKind (aE P w)) a xs:=by
 obtain⟨z,y,xs,r,o,es,ep,h1,h2,h3,h4,h5⟩:=(show zT P w H h a (.dT zV) from Ln ok e)
 refine⟨z,y,xs,r,o,es,ep,h1,h2,h3,h4,λx hx=>?_,h5⟩;have all:∀{l:List (List aQ×V)}{m:List (List aQ×Addr×Value)},KT H l m->∀x∈m,(tupleKind (aE P w)).is h x.1 x.2.1:=by
  intro l m q;induction q with
  |nil=>intro x hx;exact nomatch hx
  |@cons p q ps qs hq t ih=>
   intro x hx;rcases qC.mp hx with e|hx
   .subst e;exact rY ok (by rw[<-hq.1];exact hq.2.1)
   .exact ih x hx
 exact all r x hx
def Hx(ok:fN P w H h)(e:H a=some (.dT zV)):zV.length<=sizeLine/\(a==sysModules)=false/\
  ∃xs,KT H zV xs/\h.DictOfH (tupleKind (aE P w)) a xs:=Do ok (.inl e)
def jH(H:Hp)(a:Addr)(y:V)(r:Option V):Prop:=
 (∃zV k,Rd H a (.dK zV)/\y=kV k/\r=dW zV k)\/∃zV k b,Rd H a (.dT zV)/\y=.ref b/\H b=some (.tup (k.map kV))/\r=dW zV k
def nS(H:Hp)(a:Addr)(y v:V)(H':Hp):Prop:=
 (∃zV k,H a=some (.dK zV)/\y=kV k/\zV.length<sizeLine/\H'=upd H a (.dK (eG zV k v)))\/
 ∃zV k b,H a=some (.dT zV)/\y=.ref b/\H b=some (.tup (k.map kV))/\zV.length<sizeLine/\H'=upd H a (.dT (eG zV k v))
theorem Inv.big(I:Inv X zU Z H s):sysModules<s.heap.objs.size:=by have h:mainGlobals<s.heap.objs.size:=(I.mod.glob.keeps I.bk).lt;exact lt_trans (by decide) h
def Sg(hu:A.units+1<cLine)(I:Inv X zU Z H s)(g:jH H a y o)(ry:zL y u)(h:∀s',Inv X zU Z H s'->Q (.bool (!o.isSome)) s'):
  wpAny (model X.prog X.w) A (compareOp .NotIn u (.ref a)) Q E s:=by
 rcases g with⟨zV,k,e,ey,l⟩|⟨zV,k,b,e,ey,eb,l⟩
 .subst ey;obtain⟨z,hd,vs,zW,dd⟩:=DQ I.hok e;refine wpAny_notIn_of (wF ry) hd dd.mapOf ?_;rw[<-(zW.val k).isSome_eq,<-l];exact h _ (I.tok _)
 .subst ey;cases(show u=Value.ref b from ry);obtain⟨z,hd,xs,zW,dd⟩:=Do I.hok e;refine wpAny_notIn_heap (tupleKind_room_in1 hu) (rY I.hok eb) hd dd ?_;have q:=(zW.val k).isSome_eq;rw[isSome_map]at q;rw[<-q,<-l];exact h _ (I.tok _)
def Aq(I:Inv X zU Z H s)(mu:Gd (H a))(hs:Heap.SameBut a s.heap h')(he:∃q,h'.get? a=some q)(new:zT X.prog X.w (upd H a ob) h' a ob):
  Inv X zU Z (upd H a ob) {s with heap:=h',toks:=t'}:=
 I.write (x:=a) (e:=a) mu (.inl rfl) (λb q hb z=>(hs.2 b hb).trans z) he new
def HA(z:zV.length<=sizeLine)(hd:(a==sysModules)=false)(zW:KV zV vs)(dd:h'.DictOf (aE P w) a vs):
  zT P w H' h' a (.dK zV):=⟨z,hd,vs,zW,dd⟩
def Va(hu:A.units+1<cLine)(I:Inv X zU Z H s)(g:nS H a y v H')(ry:zL y u)(rv:zL v r)(h:∀s',Inv X zU Z H' s'->Q () s'):
  wpAny (model X.prog X.w) A (setItem (.ref a) u r) Q E s:=by
 rcases g with⟨zV,k,e,ey,l,eH⟩|⟨zV,k,b,e,ey,eb,l,eH⟩
 .subst ey eH;obtain⟨z,hd,vs,zW,dd⟩:=Hz I.hok e;have hz:vs.length<=sizeLine:=by rw[<-zW.length];exact z
  have hl:(eG zV k v).length<=sizeLine:=by have:=DB zV k v;lia
  refine wpAny_setItem_pairs (hsz:=hz) (wF ry) dd λh' dd' hs=>h _ ?_;have he:∃q,h'.get? a=some q:=let⟨q,_,_,hq,_⟩:=dd';⟨q,hq⟩
  exact Aq I (by rw[e];exact True.intro) hs he (HA hl hd (zW.put k rv) dd')
 .subst ey eH;cases(show u=Value.ref b from ry);obtain⟨z,hd,xs,zW,dd⟩:=Hx I.hok e;have hz:xs.length<=sizeLine:=by rw[<-Paired.length zW];exact z
  have hl:(eG zV k v).length<=sizeLine:=by have:=DB zV k v;lia
  refine wpAny_setItem_heap (hsz:=hz) (tupleKind_room_in1 hu) (rY I.hok eb) dd λh' dd' hs=>h _ ?_;obtain⟨q,es,ep,hq,h2,h3,h4,_,h5⟩:=dd';refine Aq I (by rw[e];exact True.intro) hs ⟨q,hq⟩ ⟨hl,hd,_,(zW.put k eb rv).keeps λc ys ec=>?_,q,es,ep,hq,h2,h3,h4,h5⟩;rw[bJ (Gp ec e (λz=>nomatch z))];exact ec
def EM(td ty tv:TE):TS:=λD Z H=>tv Z H λv H1=>td Z H1 λx H2=>ty Z H2 λy H3=>∃a H4,x=.ref a/\nS H3 a y v H4/\D.nx Z H4
def RU(hu:X.A.units+1<cLine)(ho:PE X o td)(hi:PE X i ty)(hv:PE X value tv)(hs:swapsWith value (some (.Subscript o i pos')) pos.line X.env=pure false):
  PS X (.Assign [.Subscript o i pos'] value pos) (EM td ty tv):=by
 intro zU s Z H D I h;refine wpAny_Assign_Subscript (bK (hv zU s Z H _ I h) λr s1⟨v,H1,I1,rv,q1⟩=>bK (ho zU s1 Z H1 _ I1 q1) λu s2⟨x,H2,I2,rx,q2⟩=>bK (hi zU s2 Z H2 _ I2 q2) λiv s3 zq=>?_) hs;obtain⟨y,H3,I3,ry,a,H4,ex,g,q3⟩:=zq;subst ex;obtain rfl:u=Value.ref a:=rx;exact Va hu I3 g ry rv λs4 I4=>⟨Z,H4,I4,q3⟩
def Tt(h:Heap)(hb:sysModules<h.objs.size):zT P w H (h.push {cls:=.type "dict",data:=.dict #[]}) h.objs.size (.dK []):=
 ⟨zero_le _,beq_eq_false_iff_ne.mpr (Ne.symm (ne_of_lt hb)),[],.nil,Heap.DictOf.new h⟩
def Vh(h:Heap)(hb:sysModules<h.objs.size):zT P w H (h.push {cls:=.type "dict",data:=.dict #[]}) h.objs.size (.dT []):=
 ⟨zero_le _,beq_eq_false_iff_ne.mpr (Ne.symm (ne_of_lt hb)),[],.nil,_,#[],0,qd _ rfl,⟨rfl,rfl,rfl⟩,rfl,rfl,nodup_nil⟩
def BG:TE:=λ_ H Q=>∀p,H p=none->Q (.ref p) (upd H p (.dK []))
def UE:PE X (.Dict [] [] pos) BG:=λzU s Z H Q I h=>wpAny_Dict_empty ⟨.ref s.heap.objs.size,_,I.laid (a:=s.heap.objs.size) (o:=.dK []) (t':=s.toks) (λ_ _ q=>qc _ q) (zc _) (Tt s.heap I.big),rfl,h _ (I.hok.fresh (zc _))⟩
structure M2(X:Cx)(o:Expr)(m:Str)(apos:Pos)(e f:Expr)(cpos:Pos):Prop where
 base:attributeBase o m X.env (eval o X.env)=eval o X.env
 few:((backTo cpos (starEach [e,f] X.env)).all (λx=>!x.1)&&(backToKw cpos (keywordEach [] X.env)).all (λx=>x.1.isSome)
  &&decide (([e,f]:List Expr).length+([]:List Keyword).length+(if([]:List Keyword).isEmpty then 0 else 1)<30))=true
 line:(apos.endLine==cpos.line)=true
 trees:backTo cpos (starEach [e,f] X.env)=[(false,eval e X.env),(false,eval f X.env)]
def Gh(H:Hp)(a:Addr):Prop:=(∃zV,Rd H a (.dK zV))\/∃zV,Rd H a (.dT zV)
def LF(I:Inv X zU Z H s)(d:Gh H a):
  s.TypeIs (.ref a) "dict"/\(∀b,Value.ref a=.ref b->∃ob,s.heap.get? b=some ob/\ob.dict=none)/\(a==sysModules)=false:=by
 rcases d with⟨zV,e⟩|⟨zV,e⟩
 .obtain⟨_,hd,vs,_,dd⟩:=DQ I.hok e;refine⟨dd.typeIs,λb q=>?_,hd⟩;cases q;obtain⟨ob,_,_,h1,h2,_⟩:=dd;exact⟨ob,h1,h2.2.1⟩
 .obtain⟨_,hd,xs,_,dd⟩:=Do I.hok e;refine⟨dd.typeIs,λb q=>?_,hd⟩;cases q;obtain⟨ob,_,_,h1,h2,_⟩:=dd;exact⟨ob,h1,h2.2.1⟩
def Qx(hu:A.units+1<cLine)(I:Inv X zU Z H s)(g:jH H a y o)(ry:zL y u)(rd:zL d r)(h:∀w' s',Inv X zU Z H s'->zL (o.getD d) w'->Q w' s'):
  wpAny (model X.prog X.w) A (call (.builtin "dict.get") [.ref a,u,r]) Q E s:=by
 rcases g with⟨zV,k,e,ey,l⟩|⟨zV,k,b,e,ey,eb,l⟩
 .subst ey;obtain⟨z,hd,vs,zW,dd⟩:=DQ I.hok e;refine call_meetsIn PySem.F.slot_dict_get dd.typeIs PySem.F.entry_dict_get (PySem.F.args_dict_get_3 _ _ _) (meets_dict_get_default (aE X.prog X.w) a (wF ry) hd r) ⟨_,dd.mapOf,h _ _ (I.tok _) ?_⟩;rw[l];exact(zW.val k).getD rd
 .subst ey;cases(show u=Value.ref b from ry);obtain⟨z,hd,xs,zW,dd⟩:=Do I.hok e;refine call_meetsIn PySem.F.slot_dict_get dd.typeIs PySem.F.entry_dict_get (PySem.F.args_dict_get_3 _ _ _) (meetsH_dict_get_default (tupleKind (aE X.prog X.w)) a b hd r) ⟨tupleKind_room_in1 hu,k,xs,rY I.hok eb,dd,h _ _ (I.tok _) ?_⟩;rw[l];exact(zW.val k).getD rd
def BH(td ty tx:TE):TE:=λZ H Q=>td Z H λx H1=>∃a,x=.ref a/\Gh H1 a/\ty Z H1 λy H2=>tx Z H2 λz H3=>∃o,jH H3 a y o/\Q (o.getD z) H3
def TF(hu:X.A.units+1<cLine)(ho:PE X o td)(he:PE X e ty)(hf:PE X f tx)(m:M2 X o "get" apos e f cpos):PE X (.Call (.Attribute o "get" apos) [e,f] [] cpos) (BH td ty tx):=by
 intro zU s Z H Q I h;refine wpAny_Call_method m.base m.few m.line PySem.F.plainAttrs_dict PySem.F.slot_dict_get PySem.F.type_dict_get (bK (ho zU s Z H _ I h) λu s1 zq=>?_);obtain⟨x,H1,I1,rx,a,ex,d,q1⟩:=zq;subst ex;obtain rfl:u=Value.ref a:=rx;obtain⟨t1,t2,_⟩:=LF I1 d;refine⟨t1,t2,?_⟩;rw[m.trees];refine Calls.callWith_builtin rfl (Calls.evalArgs_plain (Calls.spliced_cons (bK (he zU s1 Z H1 _ I1 q1) λiv s2⟨y,H2,I2,ry,q2⟩=>Calls.spliced_cons (bK (hf zU s2 Z H2 _ I2 q2) λfv s3⟨z,H3,I3,rz,ov,g,q3⟩=>Calls.spliced_nil ?_))))
 exact Qx hu I3 g ry rz λw' s4 I4 rw'=>⟨_,H3,I4,rw',q3⟩
end L2
namespace HT
open PySem PyProof.Rows
def cat_tup(ht:IsTup s.heap t vs.toArray)(hb:IsTup s.heap b ws.toArray)(hv:vs≠[])
  (h1:ws=[]->Q (.ref t) s)(h2:ws≠[]->Q (.ref s.heap.objs.size) {s with heap:=s.heap.push {cls:=.type "tuple",data:=.seq (vs++ws).toArray}})
  (hsz:vs.length+ws.length<=sizeLine):wpAny (model prog w) A (binaryOp .Add (.ref t) (.ref b)) Q E s:=by
 obtain⟨⟨cls,dd,data,sl⟩,ho,hc,n,hd⟩:=id ht;obtain⟨⟨cls2,dd2,data2,sl2⟩,ho2,hc2,n2,hd2⟩:=id hb;simp only at hc hd hc2 hd2;subst hc hd hc2 hd2;have e:vs.toArray++ws.toArray=(vs++ws).toArray:=by simp
 by_cases hw:ws=[]
 .exact concat_meets ⟨_,ho,rfl⟩ ⟨_,ho2,rfl⟩ noFill_tuple_add seq_tuple_add PySem.F.slot_tuple_add PySem.F.entry_tuple_add (PySem.F.args_tuple_add_2 _ _)
   (tuple_addW1 t b vs.toArray ws.toArray n n2 dd dd2 sl sl2 (by simpa using hv) (by simp[hw])) ⟨ho,ho2,h1 hw⟩
 .refine concat_meets ⟨_,ho,rfl⟩ ⟨_,ho2,rfl⟩ noFill_tuple_add seq_tuple_add PySem.F.slot_tuple_add PySem.F.entry_tuple_add (PySem.F.args_tuple_add_2 _ _)
   (tuple_addW2 t b vs.toArray ws.toArray n n2 dd dd2 sl sl2 (by simpa using hv) (by simpa using hw) (by rw[qt,qt];exact hsz)) ⟨ho,ho2,?_⟩
  rw[e];exact h2 hw
def sIx(n d:Nat):Option Int->Nat
 |none=>d
 |some v=>if v<0 then(v+(n:Int)).toNat else min v.toNat n
def sIx_le(n d:Nat)(hd:d<=n)(o:Option Int):sIx n d o<=n:=by
 cases o with
 |none=>exact hd
 |some v=>
  show(if v<0 then(v+(n:Int)).toNat else min v.toNat n)<=n;by_cases hv:v<0
  .rw[q8 hv];lia
  .rw[q9 hv];exact Nat.min_le_right _ _
def Mg(v:Int)(n d:Nat):(if v<0 then max (v+(n:Int)) 0 else min v (n:Int))=((sIx n d (some v):Nat):Int):=by show(if v<0 then max (v+(n:Int)) 0 else min v (n:Int))=(((if v<0 then(v+(n:Int)).toNat else min v.toNat n):Nat):Int);grind
def VB(lo hi:Option Int)(n:Nat):Builtin.Slice.sliceAdjust lo hi 1 (n:Int)=(((sIx n 0 lo:Nat):Int),((sIx n n hi:Nat):Int)):=by
 have h1:¬((1:Int)<0):=by lia
 unfold Builtin.Slice.sliceAdjust;simp only[h1,if_false];refine Prod.ext ?_ ?_
 .cases lo with
  |none=>rfl
  |some v=>exact Mg v n 0
 .cases hi with
  |none=>rfl
  |some v=>exact Mg v n n
def Wa(i j:Nat):Builtin.Slice.slicePlaces (i:Int) (j:Int) 1=j-i:=by
 unfold Builtin.Slice.slicePlaces;have h1:(1:Int)>0:=by lia
 simp only[h1,if_true,Int.ediv_one];split<;>lia
def OJ(p:IsPart v o)(h:Q o s):wpAny (model prog w) A (Builtin.Slice.slicePartIndex v) Q E s:=by
 cases p with
 |none=>exact slicePart_none h
 |int i t=>exact slicePart_int h
def sliceApplied_gen{lo hi:Option Int}{n:Nat}(hs:s.heap.IsSliceOf sl vl vu .none)(pl:IsPart vl lo)(pu:IsPart vu hi)
  (h:Q (((sIx n 0 lo:Nat):Int),1,sIx n n hi-sIx n 0 lo) s):wpAny (model prog w) A (Builtin.Slice.sliceApplied (.ref sl) (pure (n:Int))) Q E s:=by
 obtain⟨os,hos,hcs,hds⟩:=id hs;unfold Builtin.Slice.sliceApplied Builtin.Slice.sliceFields;refine qa (qa (zk hos hds (x:=vl) rfl (qa (zk hos hds (x:=vu) rfl (qa (zk hos hds (x:=.none) rfl (qb ?_)))))));refine qa (slicePart_none ?_);show wpAny _ _ (if((1:Int)==0)=true then _ else _) _ _ s;rw[q9 (by decide)];refine qa (OJ pl (qa (OJ pu (qa (qb ?_)))));show wpAny _ _ (match Builtin.Slice.sliceAdjust lo hi 1 (n:Int)with|(lo,hi)=>pure (lo,(1:Int),Builtin.Slice.slicePlaces lo hi 1)) _ _ s;rw[VB lo hi n];show wpAny _ _ (pure (((sIx n 0 lo:Nat):Int),(1:Int),Builtin.Slice.slicePlaces ((sIx n 0 lo:Nat):Int) ((sIx n n hi:Nat):Int) 1)) _ _ s;rw[Wa];exact qb h
def SG(xs:Array Value)(i k:Nat):((List.range k).filterMap λ(m:Nat)=>xs[((i:Int)+(m:Int)*1).toNat]?).toArray=((xs.toList.drop i).take k).toArray:=by
 have e:(λ(m:Nat)=>xs[((i:Int)+(m:Int)*1).toNat]?)=λm=>xs[i+m]?:=by
  funext m
  have:((i:Int)+(m:Int)*1).toNat=i+m:=by lia
  rw[this]
 rw[e];have:=pick_run xs i k;rw[List.filterMap_map]at this;have e2:((λx=>xs[x]?)∘λx=>i+x)=λm=>xs[i+m]?:=rfl;rw[e2]at this;rw[this]
def getItem_tuple_cut{lo hi:Option Int}(ht:IsTup s.heap t items)(hs:s.heap.IsSliceOf sl vl vu .none)(pl:IsPart vl lo)(pu:IsPart vu hi)
  (hw:¬(sIx items.size 0 lo=0/\sIx items.size items.size hi=items.size))
  (h:Q (.ref s.heap.objs.size) {s with heap:=s.heap.push {cls:=.type "tuple",data:=.seq ((items.toList.drop (sIx items.size 0 lo)).take (sIx items.size items.size hi-sIx items.size 0 lo)).toArray}})
  (hsz:items.size<=sizeLine):wpAny (model prog w) A (getItem (.ref t) (.ref sl)) Q E s:=by
 have htake:sizeOk (.seq ((items.toList.drop (sIx items.size 0 lo)).take (sIx items.size items.size hi-sIx items.size 0 lo)).toArray):=by show((items.toList.drop (sIx items.size 0 lo)).take (sIx items.size items.size hi-sIx items.size 0 lo)).toArray.size<=sizeLine;rw[qt,qI,qH];exact le_trans (Nat.min_le_right ..) (le_trans (Nat.sub_le ..) hsz)
 have hj:sIx items.size items.size hi<=items.size:=sIx_le _ _ (zc _) hi;obtain⟨os,hos,hcs,hds⟩:=id hs;have hTs:s.TypeIs (.ref sl) "slice":=⟨os,hos,hcs⟩
 unfold getItem;try with_reducible refine zt ?_
 first|refine qa (qb ?_)|skip
 refine qa (wpAny_sequenceKey ht.typeIs (by decide) ?_);refine qa (wpAny_callSpecial?_slot (name:=Str.ofString "__getitem__") ht.typeIs PyProof.Rows.slot_tuple_getitem
  (zo PyProof.Rows.slot_tuple_getitem ht.typeIs entry_tuple_getitem ?_ (args_tuple_getitem _ _)))
 show wpAny _ _ (Builtin.Tuple.tupleItemsOf (.ref t)>>=_) _ _ s;refine qa (tupleItemsOf_ ht ?_);refine qa (wpAny_typeOf hTs ?_);rw[q8 (by decide)];refine qa (sliceApplied_gen hs pl pu ?_);have hno:¬((((sIx items.size 0 lo:Nat):Int)==0&&(1:Int)==1&&(sIx items.size items.size hi-sIx items.size 0 lo)==items.size)=true):=by grind
 show wpAny _ _ (if(((sIx items.size 0 lo:Nat):Int)==0&&(1:Int)==1&&(sIx items.size items.size hi-sIx items.size 0 lo)==items.size)=true then _ else _) _ _ s;rw[q9 hno,SG];first
  |exact qa (m:=Builtin.Tuple.tupleExact _) (zm (qb ⟨_,rfl,qb h⟩) htake)
  |exact qa (m:=Builtin.Tuple.tupleExact _) (zm (qa (qb (qb ⟨_,rfl,qb h⟩))) htake)
  |exact qa (qa (m:=Builtin.Tuple.tupleExact _) (zm (qb (qb ⟨_,rfl,qb h⟩)) htake))
  |exact qa (qa (m:=Builtin.Tuple.tupleExact _) (zm (qb ⟨_,rfl,qb h⟩) htake))
end HT
namespace L2
open PySem PySem.Spec PyProof.Rows
abbrev TO:=St->Hp->(Option Int->Hp->Prop)->Prop
def PO(X:Cx)(e:Option Expr)(t:TO):Prop:=
 ∀(zU:List (Addr×Obj))(s:Shared)(Z:St)(H:Hp)(Q:Option Int->Hp->Prop),Inv X zU Z H s->t Z H Q->
  wpAny (model X.prog X.w) X.A (evalPart e X.env) (λu s'=>∃o H',Inv X zU Z H' s'/\IsPart u o/\Q o H') X.xe s
def xH:TO:=λ_ H Q=>Q none H
def EE(t:TE):TO:=λZ H Q=>t Z H λx H1=>∃i,x=.int i/\Q (some i) H1
def IY:∀{us:List Value},zR (ns.map V.int) us->IntsAre us ns:=by
 induction ns with
 |nil=>intro us r;rw[map_nil]at r;cases r;exact .nil
 |cons n ns ih=>
  intro us r;rw[qA]at r;cases r with
  |cons r1 r2=>obtain⟨t,e⟩:=r1;subst e;exact .cons n t (ih r2)
section
variable{lo hi:Option Expr}
def MA:PO X none xH:=by intro zU s Z H Q I h;rw[evalPart_none];exact qb ⟨none,H,I,.none,h⟩
def GB(h:PE X e te):PO X (some e) (EE te):=by intro zU s Z H Q I hw;rw[evalPart_some];refine bK (h zU s Z H _ I hw) λu s1 zq=>?_;obtain⟨x,H1,I1,r1,q1⟩:=zq;obtain⟨i,rfl,q⟩:=q1;obtain⟨t,rfl⟩:=r1;exact⟨some i,H1,I1,.int i t,q⟩
def rV(X:Cx)(r:V->Option Int->Option Int->Hp->VK->Prop):Prop:=
 ∀(zU:List (Addr×Obj))(s:Shared)(Z:St)(H:Hp)(x:V)(v vl vu:Value)(lo hi:Option Int)(sl:Addr)(Q:VK),Inv X zU Z H s->zL x v->s.heap.IsSliceOf sl vl vu .none->IsPart vl lo->IsPart vu hi->r x lo hi H Q->
  ∃T id,typeLookup (.type T) "__getitem__"=pure (some (.builtin id))/\s.TypeIs v T/\wpAny (model X.prog X.w) X.A (getItem v (.ref sl)) (EP X zU Z Q) X.xe s
def rV.or(h:rV X r)(h':rV X r'):rV X (λx lo hi H Q=>r x lo hi H Q\/r' x lo hi H Q):=by
 intro zU s Z H x v vl vu lo hi sl Q I rx hs pl pu q;rcases q with q|q
 .exact h zU s Z H x v vl vu lo hi sl Q I rx hs pl pu q
 .exact h' zU s Z H x v vl vu lo hi sl Q I rx hs pl pu q
def Xm(r:V->Option Int->Option Int->Hp->VK->Prop)(te:TE)(tl th:TO):TE:=λZ H Q=>te Z H λx H1=>tl Z H1 λl H2=>th Z H2 λu H3=>r x l u H3 Q
def Ir(hr:rV X r)(he:PE X e te)(hl:PO X lo tl)(hu:PO X hi th):PE X (.Subscript e (.Slice lo hi none p2) pos) (Xm r te tl th):=by intro zU s Z H Q I h;refine Subscript_ (bK (he zU s Z H _ I h) λv s1 zq=>?_);obtain⟨x,H1,I1,r1,q1⟩:=zq;refine wpAny_Slice (bK (hl zU s1 Z H1 _ I1 q1) λvl s2⟨l,H2,I2,pl,q2⟩=>bK (hu zU s2 Z H2 _ I2 q2) λvu s3 zq=>?_);obtain⟨u,H3,I3,pu,q3⟩:=zq;rw[evalPart_none];refine qb ?_;have I4:Inv X zU Z H3 {s3 with heap:=s3.heap.push {cls:=.type "slice",data:=.fields #[vl,vu,.none]}}:=I3.kept (t':=s3.toks) λb ob q=>qc _ q;obtain⟨T,id,hT,ht,hg⟩:=hr zU {s3 with heap:=s3.heap.push {cls:=.type "slice",data:=.fields #[vl,vu,.none]}} Z H3 x v vl vu l u s3.heap.objs.size Q I4 r1 (Heap.IsSliceOf.new ..) pl pu q3;show wpAny (model X.prog X.w) X.A (subscriptTail e (.Slice lo hi none p2) v (.ref s3.heap.objs.size)) (EP X zU Z Q) X.xe {s3 with heap:=s3.heap.push {cls:=.type "slice",data:=.fields #[vl,vu,.none]}};exact tail_any (ops:=[.ref s3.heap.objs.size,v]) ht hT hg (by with_unfolding_all rfl)
def mB(xs:List V)(lo hi:Option Int):List V:=(xs.drop (HT.sIx xs.length 0 lo)).take (HT.sIx xs.length xs.length hi-HT.sIx xs.length 0 lo)
def OB(xs:List V)(lo hi:Option Int):(mB xs lo hi).length<=xs.length:=by unfold mB;rw[qI,qH];exact le_trans (Nat.min_le_right ..) (Nat.sub_le ..)
def EO(K:W.Frag):V->Option Int->Option Int->Hp->VK->Prop:=λx lo hi H Q=>∃a xs,x=.ref a/\bP K H a xs/\
 ¬(HT.sIx xs.length 0 lo=0/\HT.sIx xs.length xs.length hi=xs.length)/\∀p,H p=none->Q (.ref p) (upd H p (.tup (mB xs lo hi)))
def Qh:rV X (EO X.K):=by
 intro zU s Z H x v vl vu lo hi sl Q I rx hs pl pu h;obtain⟨a,xs,rfl,hx,hw,q⟩:=h;cases rx;obtain⟨zY,r,ht,hz⟩:=I.tuple hx;have zX:zY.toArray.size=xs.length:=by rw[qt];exact r.length.symm
 refine⟨"tuple",_,PyProof.Rows.slot_tuple_getitem.lookup,ht.typeIs,?_⟩;refine HT.getItem_tuple_cut ht hs pl pu (by rw[zX];exact hw) ?_ (by rw[zX];exact hz);rw[zX];refine⟨.ref s.heap.objs.size,_,I.laid (t':=s.toks) (o:=.tup (mB xs lo hi)) (λb ob q=>qc _ q) (zc _) ?_,rfl,q _ (I.hok.fresh (zc _))⟩;exact⟨⟨le_trans (OB xs lo hi) hz,nQ.new rfl (qd _ rfl)⟩,_,(r.drop (HT.sIx xs.length 0 lo)).take (HT.sIx xs.length xs.length hi-HT.sIx xs.length 0 lo),IsTup.new _ _⟩
def Fc(K:W.Frag):R2:=λx y H Q=>∃a b xs ys,x=.ref a/\y=.ref b/\bP K H a xs/\bP K H b ys/\xs≠[]/\xs.length+ys.length<=sizeLine/\
 (ys=[]->Q (.ref a) H)/\(ys≠[]->∀p,H p=none->Q (.ref p) (upd H p (.tup (xs++ys))))
def zR.nil_iff(r:zR xs us):us=[]↔xs=[]:=by
 cases r with
 |nil=>simp
 |cons _ _=>simp
def Sb:OpR X (binaryOp .Add) (Fc X.K):=by intro zU s Z H x y v u Q I rx ry h;obtain⟨a,b,xs,ys,rfl,rfl,ha,hb,hx,hz,q1,q2⟩:=h;cases rx;cases ry;obtain⟨zY,r1,p1,_⟩:=I.tuple ha;obtain⟨its2,r2,p2,_⟩:=I.tuple hb;refine HT.cat_tup p1 p2 (λz=>hx (r1.nil_iff.mp z)) (λz=>⟨.ref a,H,I,rfl,q1 (r2.nil_iff.mp z)⟩) (λz=>?_) (by rw[<-r1.length,<-r2.length];exact hz);refine⟨.ref s.heap.objs.size,_,I.laid (t':=s.toks) (o:=.tup (xs++ys)) (λb ob q=>qc _ q) (zc _) ?_,rfl,q2 (λw=>z (r2.nil_iff.mpr w)) _ (I.hok.fresh (zc _))⟩;exact⟨⟨by rw[qr];exact hz,nQ.new rfl (qd _ rfl)⟩,_,r1.append r2,IsTup.new _ _⟩
end
def ixN(n:Nat)(i:Int):Option Nat:=if 0<=i then(if i<n then some i.toNat else none)else if -(n:Int)<=i then some (i+n).toNat else none
def atI{α:Type}(xs:List α)(i:Int):Option α:=(ixN xs.length i).bind λj=>xs[j]?
def HK(h:ixN n i=some j):seqIndex? i n=some j/\j<n/\-(n:Int)<=i/\i<n:=by
 unfold ixN at h;by_cases h0:0<=i
 .rw[q8 h0]at h;by_cases h1:i<n
  .rw[q8 h1]at h;have e:i.toNat=j:=qg h;exact⟨by rw[seqIndex_of h0 h1,e],by lia,by lia,h1⟩
  .rw[q9 h1]at h;cases h
 .rw[q9 h0]at h;by_cases h1:-(n:Int)<=i
  .rw[q8 h1]at h;have e:(i+n).toNat=j:=qg h;exact⟨by rw[seqIndex_neg (by lia) h1,e],by lia,h1,by lia⟩
  .rw[q9 h1]at h;cases h
def Ii(h:atI xs i=some v):∃j,seqIndex? i xs.length=some j/\xs[j]?=some v/\j<xs.length/\-(xs.length:Int)<=i/\i<xs.length:=by
 unfold atI at h;cases e:ixN xs.length i with
 |none=>rw[e]at h;cases h
 |some j=>rw[e]at h;obtain⟨h1,h2,h3,h4⟩:=HK e;exact⟨j,h1,h,h2,h3,h4⟩
def NP(xs:List α)(v:α):atI (xs++[v]) (-1)=some v:=by
 have hl:(xs++[v]).length=xs.length+1:=by simp
 have e:ixN (xs++[v]).length (-1)=some xs.length:=by unfold ixN;rw[hl,q9 (by decide),q8 (by lia)];congr 1;lia
 unfold atI;rw[e];show(xs++[v])[xs.length]?=some v;simp
def pM(b:Expr):Prop:=∀o i,subscripted b false o i=operate [o,i] (getItem o i)
def Al(X:Cx)(r:R2):Prop:=
 ∀(value slice:Expr)(zU:List (Addr×Obj))(s:Shared)(Z:St)(H:Hp)(x y:V)(v u:Value)(Q:VK),Inv X zU Z H s->zL x v->zL y u->r x y H Q->
  subscripted slice false v u=operate [v,u] (getItem v u)->wpAny (model X.prog X.w) X.A (subscriptTail value slice v u) (EP X zU Z Q) X.xe s
def Pp(X:Cx)(id:String)(r:V->List V->Hp->VK->Prop):Prop:=
 ∀(zU:List (Addr×Obj))(s:Shared)(Z:St)(H:Hp)(x:V)(xs:List V)(v:Value)(us:List Value)(Q:VK),Inv X zU Z H s->zL x v->zR xs us->r x xs H Q->
  wpAny (model X.prog X.w) X.A (call (.builtin id) (v::us)) (EP X zU Z Q) X.xe s
section
def Al.or(h:Al X r)(h':Al X r'):Al X (λx y H Q=>r x y H Q\/r' x y H Q):=by
 intro value slice zU s Z H x y v u Q I rx ry q hs;rcases q with q|q
 .exact h value slice zU s Z H x y v u Q I rx ry q hs
 .exact h' value slice zU s Z H x y v u Q I rx ry q hs
def Qf(hr:Al X r)(ha:PE X a ta)(hb:PE X b tb)(hs:pM b):PE X (.Subscript a b pos) (Hh r ta tb):=by intro zU s Z H Q I h;exact Subscript_ (Dg ha hb I h λv u s2 x y H2 I2 rx ry q=>hr a b zU s2 Z H2 x y v u Q I2 rx ry q (hs _ _))
def EX(K:W.Frag):R2:=λx y H Q=>∃p xs i v,x=.ref p/\y=.int i/\bR K H p xs/\atI xs i=some v/\Q v H
def EV(K:W.Frag):R2:=λx y H Q=>∃p xs i v,x=.ref p/\y=.int i/\bP K H p xs/\atI xs i=some v/\Q v H
def EW:R2:=λx y H Q=>∃z i c,x=.str z/\y=.int i/\z.length<=sizeLine/\atI z.cps.toList i=some c/\Q (.str ⟨#[c]⟩) H
def zkM:Al X (EX X.K):=by
 intro value slice zU s Z H x y v u Q I rx ry h hs;obtain⟨p,xs,i,z,rfl,rfl,hq,he,q⟩:=h;cases rx;obtain⟨t,rfl⟩:=ry;obtain⟨zY,r,pl,hz⟩:=I.list hq;obtain⟨j,h1,h2,h3,h4,h5⟩:=Ii he;obtain⟨w,ew,rw'⟩:=r.get h2;have hl:=r.length;have hn:=fJ;have fin:EP X zU Z Q w s:=⟨z,H,I,rw',q⟩
 by_cases h0:0<=i
 .have hj:i.toNat=j:=by rw[seqIndex_of h0 h5]at h1;exact qg h1
  exact item_listR pl.isList h0 (by lia) (by rw[hj];simpa using ew) fin hs
 .have hj:(i+(zY.toArray.size:Int)).toNat=j:=by rw[seqIndex_neg (by lia) h4]at h1;rw[qt,<-hl];exact qg h1
  exact subscriptTail_builtinR (x:=w) pl.isList.typeIs slot_list_getitem.lookup
   (wpAny_getItem_list_neg (Q:=λr s'=>r=w/\EP X zU Z Q r s') pl.isList (by lia) (by rw[qt]<;>lia) (by lia) (by rw[hj];simpa using ew) ⟨rfl,fin⟩) hs
def zmp:Al X (EV X.K):=by
 intro value slice zU s Z H x y v u Q I rx ry h hs;obtain⟨p,xs,i,z,rfl,rfl,hq,he,q⟩:=h;cases rx;obtain⟨t,rfl⟩:=ry;obtain⟨zY,r,pl,hz⟩:=I.tuple hq;obtain⟨j,h1,h2,h3,h4,h5⟩:=Ii he;obtain⟨w,ew,rw'⟩:=r.get h2;have hl:=r.length;have hn:=fJ;have fin:EP X zU Z Q w s:=⟨z,H,I,rw',q⟩
 exact subscriptTail_builtinR (x:=w) pl.typeIs slot_tuple_getitem.lookup
  (getItem_tuple (j:=j) (Q:=λr s'=>r=w/\EP X zU Z Q r s') pl (by lia) (by lia) (by rw[qt,<-hl];exact h1) (by simpa using ew) ⟨rfl,fin⟩) hs
def Qu:Al X EW:=by
 intro value slice zU s Z H x y v u Q I rx ry h hs;obtain⟨z,i,c,rfl,rfl,hz,he,q⟩:=h;obtain⟨t,rfl⟩:=rx;obtain⟨t',rfl⟩:=ry;obtain⟨j,h1,h2,h3,h4,h5⟩:=Ii he;have hl:z.cps.toList.length=z.length:=by simp[Str.length]
 rw[hl]at h1 h4 h5;have hn:=fJ;exact tail_any (typeIs_str s z t) slot_str_getitem.lookup (getItem_str (c:=c) (by have e1:decide (i< -(2^63:Int))=false:=qT (by lia);have e2:decide (i≥2^63)=false:=qT (by lia);rw[e1,e2,Bool.or_false]) (by rw[h1];simpa using h2) ⟨.str ⟨#[c]⟩,H,I.tok _,⟨_,rfl⟩,q⟩) hs
def Hi(K:W.Frag):R2:=λx y H Q=>EX K x y H Q\/EV K x y H Q\/EW x y H Q
def Qt:Al X (Hi X.K):=zkM.or (zmp.or Qu)
def VC(zY:List Value)(n j:Nat)(u:Value):Obj.mapSeq (·.setIfInBounds j u) {cls:=.type "list",data:=.seq zY.toArray n}={cls:=.type "list",data:=.seq (zY.set j u).toArray n}:=by simp[Obj.mapSeq]
def Inv.lst(I:Inv X zU Z H s)(h:H p=some (.lst xs)):
  ∃(zY:List Value)(n:Nat),zR xs zY/\s.heap.get? p=some {cls:=.type "list",data:=.seq zY.toArray n}/\xs.length<=sizeLine:=by
 obtain⟨z,zY,n,r,e⟩:=I.hok p _ h;exact⟨zY,n,r,e,z⟩
def Inv.lstUpd{zY its':List Value}(I:Inv X zU Z H s)(h:H p=some (.lst xs))
  (ho:s.heap.get? p=some {cls:=.type "list",data:=.seq zY.toArray n})(hf:f {cls:=.type "list",data:=.seq zY.toArray n}={cls:=.type "list",data:=.seq its'.toArray n'})(r:zR ys its')(hz:ys.length<=sizeLine)(t:Nat):
  Inv X zU Z (upd H p (.lst ys)) {s with heap:=s.heap.update p f,toks:=t}:=by
 have e:(s.heap.update p f).get? p=some {cls:=.type "list",data:=.seq its'.toArray n'}:=by rw[zj f ho (by rw[hf]<;>rfl),hf]
 refine I.write (x:=p) (e:=p) (by rw[h];trivial) (.inl rfl) (λb u hb q=>(zi _ _ (Ne.symm hb)).trans q) ⟨_,e⟩ ?_;exact⟨hz,its',n',r,e⟩
def ET:V->V->V->Hp->(Hp->Prop)->Prop:=λo i v H Q=>∃p xs k j,o=.ref p/\i=.int k/\H p=some (.lst xs)/\ixN xs.length k=some j/\Q (upd H p (.lst (xs.set j v)))
def UX:Ga X ET:=by
 intro zU s Z H o i v ov iv u Q I ro ri rv h;obtain⟨p,xs,k,j,rfl,rfl,hp,hj,q⟩:=h;cases ro;obtain⟨t,rfl⟩:=ri;obtain⟨zY,n,r,ho,hz⟩:=I.lst hp;obtain⟨h1,h2,h3,h4⟩:=HK hj;have hl:=r.length;have hn:=fJ;have I':Inv X zU Z (upd H p (.lst (xs.set j v))) {s with heap:=s.heap.update p (Obj.mapSeq (·.setIfInBounds j u))}:=
  I.lstUpd hp ho (VC zY n j u) (r.set rv j) (by rw[length_set];exact hz) s.toks
 by_cases h0:0<=k
 .have hk:k.toNat=j:=by rw[seqIndex_of h0 h4]at h1;exact qg h1
  exact W.ki_setAt ho h0 (by lia) (by rw[qt,<-hl];exact h4) (by rw[hk];exact⟨_,I',q⟩)
 .have hk:(k+(zY.toArray.size:Int)).toNat=j:=by rw[seqIndex_neg (by lia) h3]at h1;rw[qt,<-hl];exact qg h1
  exact W.ki_setBack ho (by lia) (by rw[qt,<-hl];exact h3) (by lia) (by rw[hk];exact⟨_,I',q⟩)
def Xa(lo hi:Option Int)(n:Nat):(sliceBounds lo hi none n).1=((HT.sIx n 0 lo:Nat):Int)/\(sliceBounds lo hi none n).2.1=((HT.sIx n n hi:Nat):Int)/\(sliceBounds lo hi none n).2.2=1:=by
 have clip:∀(i:Int)(n d:Nat),max 0 (min (if i<0 then i+(n:Int)else i) (n:Int))=((HT.sIx n d (some i):Nat):Int):=λi n _=>AV i n;refine⟨?_,?_,rfl⟩
 .cases lo with
  |none=>rfl
  |some i=>exact clip i n 0
 .cases hi with
  |none=>rfl
  |some i=>exact clip i n n
def WV(zY:List Value)(lo hi:Option Int):slicePick zY.toArray lo hi none=((zY.drop (HT.sIx zY.length 0 lo)).take (HT.sIx zY.length zY.length hi-HT.sIx zY.length 0 lo)).toArray:=by obtain⟨h1,h2,h3⟩:=Xa lo hi zY.toArray.size;unfold slicePick;rw[h1,h2,h3];simp only[sliceRange_one,pick_run,qt]<;>rfl
def ES(K:W.Frag):V->Option Int->Option Int->Hp->VK->Prop:=λx lo hi H Q=>∃a xs,x=.ref a/\bR K H a xs/\∀p,H p=none->Q (.ref p) (upd H p (.lst (mB xs lo hi)))
def RF:rV X (ES X.K):=by intro zU s Z H x v vl vu lo hi sl Q I rx hs pl pu h;obtain⟨a,xs,rfl,hx,q⟩:=h;cases rx;obtain⟨zY,r,ht,hz⟩:=I.list hx;have zX:=r.length;refine⟨"list",_,slot_list_getitem.lookup,ht.isList.typeIs,?_⟩;refine wpAny_getItem_list_slice ht.isList hs pl pu .none (by simp) ?_ (by rw[qt]<;>lia);rw[WV,<-zX];refine⟨.ref s.heap.objs.size,_,I.laid (t':=s.toks) (o:=.lst (mB xs lo hi)) (λb ob q=>qc _ q) (zc _) ?_,rfl,q _ (I.hok.fresh (zc _))⟩;exact⟨le_trans (OB xs lo hi) hz,_,0,(r.drop (HT.sIx xs.length 0 lo)).take (HT.sIx xs.length xs.length hi-HT.sIx xs.length 0 lo),qd _ rfl⟩
def Xd:aX X (.builtin "len") (λxs H Q=>∃p ys,xs=[.ref p]/\(bR X.K H p ys\/bP X.K H p ys)/\Q (.int ys.length) H):=by
 intro zU s Z H xs us Q I r h;obtain⟨p,ys,rfl,hq,q⟩:=h;obtain⟨u,rfl,rx⟩:=vals1 r;cases rx;have hn:=fJ;rcases hq with hq|hq
 .obtain⟨zY,r',pl,hz⟩:=I.list hq;have zX:=r'.length;exact Calls.call_len_list pl.isList (by simp only[qt]<;>lia) ⟨.int ys.length,H,I.tok _,⟨s.toks+1,by rw[qt,zX]⟩,q⟩
 .obtain⟨zY,r',pl,hz⟩:=I.tuple hq;have zX:=r'.length;exact len_tuple pl (by simp only[qt]<;>lia) ⟨.int ys.length,H,I.tok _,⟨s.toks+1,by rw[qt,zX]⟩,q⟩
def Xb:aX X (.builtin "len") (λxs H Q=>∃z,xs=[.str z]/\z.length<=sizeLine/\Q (.int z.length) H):=by intro zU s Z H xs us Q I r h;obtain⟨z,rfl,hz,q⟩:=h;obtain⟨u,rfl,t,rfl⟩:=vals1 r;have hn:=fJ;exact len_str (by lia) ⟨.int z.length,H,I.tok _,⟨_,rfl⟩,q⟩
def Xc:aX X (.type "list") (λxs H Q=>∃p ys,xs=[.ref p]/\(bR X.K H p ys\/bP X.K H p ys)/\∀l,H l=none->Q (.ref l) (upd H l (.lst ys))):=by
 intro zU s Z H xs us Q I r h;obtain⟨p,ys,rfl,hq,q⟩:=h;obtain⟨u,rfl,rx⟩:=vals1 r;cases rx;have fin:∀(zY:List Value),zR ys zY->ys.length<=sizeLine->∀(h':Heap)(c':Nat),(∀b o',s.heap.get? b=some o'->h'.get? b=some o')->
   h'.get? s.heap.objs.size=some {cls:=.type "list",dict:=none,data:=.seq zY.toArray c',slots:=#[]}->EP X zU Z Q (.ref s.heap.objs.size) {s with heap:=h'}:=λzY r' hz h' c' kp e=>
  ⟨.ref s.heap.objs.size,_,I.laid (t':=s.toks) kp (zc _) (show zT X.prog X.w _ h' _ (.lst ys) from⟨hz,zY,c',r',e⟩),rfl,q _ (I.hok.fresh (zc _))⟩
 rcases hq with hq|hq
 .obtain⟨zY,r',pl,hz⟩:=I.list hq;have zX:=r'.length;obtain⟨o,ho,hc,n,hd⟩:=pl.isList;exact call_list_seq p (.inl rfl) ho hc hd (λh' c' kp e=>fin zY r' hz h' c' kp e) (by simp only[qt]<;>lia)
 .obtain⟨zY,r',pl,hz⟩:=I.tuple hq;have zX:=r'.length;obtain⟨o,ho,hc,n,hd⟩:=pl;exact call_list_seq p (.inr rfl) ho hc hd (λh' c' kp e=>fin zY r' hz h' c' kp e) (by simp only[qt]<;>lia)
def WY:aX X (.type "tuple") (λxs H Q=>∃p ys,xs=[.ref p]/\((bR X.K H p ys/\∀l,H l=none->Q (.ref l) (upd H l (.tup ys)))\/(bP X.K H p ys/\Q (.ref p) H))):=by
 intro zU s Z H xs us Q I r h;obtain⟨p,ys,rfl,h⟩:=h;obtain⟨u,rfl,rx⟩:=vals1 r;cases rx;rcases h with⟨hq,q⟩|⟨hq,q⟩
 .obtain⟨zY,r',pl,hz⟩:=I.list hq;have zX:=r'.length;refine call_tuple_list pl.isList (λh' kp=>?_) (by simp only[qt]<;>lia);have I1:Inv X zU Z H {s with heap:=h'}:=I.kept (t':=s.toks) kp;have I2:Inv X zU Z (upd H h'.objs.size (.tup ys)) {s with heap:=h'.push {cls:=.type "tuple",data:=.seq zY.toArray}}:=
   I1.laid (t':=s.toks) (λb o e=>qc _ e) (zc _) (show zT X.prog X.w _ _ _ (.tup ys) from⟨⟨hz,nQ.new rfl (qd _ rfl)⟩,zY,r',IsTup.new _ _⟩)
  exact⟨.ref h'.objs.size,_,I2,rfl,q _ (I1.hok.fresh (zc _))⟩
 .obtain⟨zY,r',pl,hz⟩:=I.tuple hq;exact call_tuple_same pl ⟨.ref p,H,I,rfl,q⟩
def Jr(K:W.Frag)(T:String)(x:V)(H:Hp):Prop:=match x with
 |.str _=>T="str"
 |.int _=>T="int"
 |.ref p=>(T="list"/\∃xs,bR K H p xs)\/(T="tuple"/\∃o,K.lookup p=some o/\o.cls=.type "tuple"/\o.dict=none)\/
  (T="dict"/\((∃zV,H p=some (.dK zV))\/∃zV,H p=some (.dT zV)))
 |_=>False
def LI(I:Inv X zU Z H s)(r:zL x v)(ty:Jr X.K T x H):
  s.TypeIs v T/\∀a,v=.ref a->∃ob,s.heap.get? a=some ob/\ob.dict=none:=by
 cases x with
 |str z=>obtain⟨t,rfl⟩:=r;cases(show T="str" from ty);exact⟨typeIs_str s z t,λ_ e=>nomatch e⟩
 |int i=>obtain⟨t,rfl⟩:=r;cases(show T="int" from ty);exact⟨typeIs_int s i t,λ_ e=>nomatch e⟩
 |ref p=>
  cases r;rcases ty with⟨rfl,xs,hq⟩|⟨rfl,o,hk,hc,hd⟩|⟨rfl,hk⟩
  .obtain⟨zY,_,pl,_⟩:=I.list hq;refine⟨pl.isList.typeIs,λa e=>?_⟩;cases e;obtain⟨o,n,e,c,hd,_⟩:=pl;exact⟨o,e,hd⟩
  .refine⟨⟨o,I.kIn p o hk,hc⟩,λa e=>?_⟩;cases e;exact⟨o,I.kIn _ o hk,hd⟩
  .have z:∃o,s.heap.get? p=some o/\o.ExactDict:=by
    rcases hk with⟨zV,hk⟩|⟨zV,hk⟩
    .obtain⟨_,_,_,_,o,_,_,e,ex,_⟩:=I.hok p _ hk;exact⟨o,e,ex⟩
    .obtain⟨_,_,_,_,o,_,_,e,ex,_⟩:=I.hok p _ hk;exact⟨o,e,ex⟩
   obtain⟨o,e,ex⟩:=z;refine⟨⟨o,e,ex.1⟩,λa e2=>?_⟩;cases e2;exact⟨o,e,ex.2.1⟩
 |_=>exact False.elim ty
def JE(K:W.Frag)(T:String)(r:V->List V->Hp->VK->Prop)(to:TE):TE:=λZ H Q=>to Z H λx H1=>Jr K T x H1/\r x [] H1 Q
def Xo(K:W.Frag)(T:String)(r:V->List V->Hp->VK->Prop)(to:TE)(t:TA):TE:=λZ H Q=>to Z H λx H1=>Jr K T x H1/\t Z H1 λxs H2=>r x xs H2 Q
variable{T id:String}
def Rg(pa:PlainAttrs T)(slot:Slot T name id)(hty:typeOf (.builtin id)=pure (.type "method_descriptor"))(hm:Pp X id r)(ho:PE X o to)
  (hbase:attributeBase o name X.env (eval o X.env)=eval o X.env:=by rfl)(hline:(apos.endLine==cpos.line)=true:=by rfl):PE X (.Call (.Attribute o name apos) [] [] cpos) (JE X.K T r to):=by
 intro zU s Z H Q I h;refine wpAny_Call_method0_late hbase hline (bK (ho zU s Z H _ I h) λv s1 zq=>?_);obtain⟨x,H1,I1,r1,ty,q1⟩:=zq;obtain⟨h1,h2⟩:=LI I1 r1 ty;exact⟨T,id,pa,slot,hty,h1,h2,Calls.callWith_builtin rfl (PySem.evalArgs_none (hm zU s1 Z H1 x [] v [] Q I1 r1 .nil q1))⟩
def DT(pa:PlainAttrs T)(slot:Slot T name id)(hty:typeOf (.builtin id)=pure (.type "method_descriptor"))(hm:Pp X id r)(ho:PE X o to)(ha:PA X (e::es) t)
  (hbase:attributeBase o name X.env (eval o X.env)=eval o X.env:=by rfl)
  (hfew:((backTo cpos (starEach (e::es) X.env)).all (λx=>!x.1)&&(backToKw cpos (keywordEach [] X.env)).all (λx=>x.1.isSome)
   &&decide ((e::es).length+([]:List Keyword).length+(if([]:List Keyword).isEmpty then 0 else 1)<30))=true:=by rfl)
  (hline:(apos.endLine==cpos.line)=true:=by rfl)(hs:starEach (e::es) X.env=(false,eval e X.env)::starEach es X.env:=by rfl)(hplain:(backTo cpos (starEach es X.env)).any (·.1)=false:=by rfl):
  PE X (.Call (.Attribute o name apos) (e::es) [] cpos) (Xo X.K T r to t):=by
 intro zU s Z H Q I h;refine wpAny_Call_method_late hbase hfew hline rfl (bK (ho zU s Z H _ I h) λv s1 zq=>?_);obtain⟨x,H1,I1,r1,ty,q1⟩:=zq;obtain⟨h1,h2⟩:=LI I1 r1 ty;refine⟨T,id,pa,slot,hty,h1,h2,?_⟩;have hA:=ha cpos zU s1 Z H1 _ I1 q1;rw[hs]at hA⊢;refine Calls.callWith_builtin (by show(false||(backTo cpos (starEach es X.env)).any (·.1))=false;rw[hplain]<;>rfl) (Calls.evalArgs_plain ?_);exact bK hA λus s2⟨vs,H2,I2,r2,q2⟩=>hm zU s2 Z H2 x vs v us Q I2 r1 r2 q2
end
def DM(X:Cx)(id:String)(r:V->List V->Hp->VK->Prop):Prop:=
 ∀(zU:List (Addr×Obj))(s:Shared)(Z:St)(H:Hp)(x:V)(xs:List V)(v:Value)(us:List Value)(Q:VK),Inv X zU Z H s->zL x v->zR xs us->r x xs H Q->
  wpAny (model X.prog X.w) X.A (call (.builtin id) (v::us)) (EP X zU Z Q) X.xe s
def zR.one:∀{x:V}{us:List Value},zR [x] us->∃u,us=[u]/\zL x u:=by
 intro x us h;cases h with
 |cons r t=>cases t;exact⟨_,rfl,r⟩
def zR.zero:∀{us:List Value},zR [] us->us=[]
 |_,.nil=>rfl
def zR.dropLast(h:zR xs us):zR xs.dropLast us.dropLast:=by
 induction h with
 |nil=>exact .nil
 |cons r t ih=>
  cases t with
  |nil=>exact .nil
  |cons q t'=>exact .cons r ih
def zR.eraseIdx:∀{xs:List V}{us:List Value}(i:Nat),zR xs us->zR (xs.eraseIdx i) (us.eraseIdx i)
 |_,_,_,.nil=>.nil
 |_,_,0,.cons _ t=>t
 |_,_,i+1,.cons r t=>.cons r (zR.eraseIdx i t)
def Jd{α:Type}(l:List α):l.eraseIdx (l.length-1)=l.dropLast:=by
 induction l with
 |nil=>rfl
 |cons a r ih=>
  cases r with
  |nil=>rfl
  |cons b r=>grind
def Od{α:Type}:∀(l:List α)(i:Nat),(l.eraseIdx i).length<=l.length
 |[],_=>zc _
 |_::_,0=>le_succ _
 |_::r,i+1=>Nat.succ_le_succ (Od r i)
def Inv.lset{zY its':List Value}(I:Inv X zU Z H s)(hH:H l=some (.lst xs))
  (e:s.heap.get? l=some {cls:=.type "list",data:=.seq zY.toArray n})(hf:f zY.toArray=its'.toArray)(hv:zR ys its')(hz:ys.length<=sizeLine):
  Inv X zU Z (upd H l (.lst ys)) {s with heap:=s.heap.update l (Obj.mapSeq f),toks:=t'}:=by
 have q:=PySem.IsL.update e f;rw[hf]at q;refine I.write (x:=l) (e:=l) (by rw[hH];exact trivial) (.inl rfl) (λb' u hb hu=>(zi s.heap (Obj.mapSeq f) (Ne.symm hb)).trans hu) ⟨_,q⟩ ?_;exact⟨hz,its',_,hv,q⟩
def Inv.lnew(I:Inv X zU Z H s)(hv:zR ys zY)(hz:ys.length<=sizeLine):
  Inv X zU Z (upd H s.heap.objs.size (.lst ys)) {s with heap:=s.heap.push {cls:=.type "list",data:=.seq zY.toArray},toks:=t'}:=
 I.laid (λ_ _ q=>qc _ q) (zc _) ⟨hz,zY,0,hv,qd _ rfl⟩
def Inv.fresh(I:Inv X zU Z H s):H s.heap.objs.size=none:=I.hok.fresh (zc _)
def Inv.lstM(I:Inv X zU Z H s)(hH:H l=some (.lst xs)):xs.length<=sizeLine/\∃(zY:List Value)(n:Nat),zR xs zY/\xs.length=zY.length/\s.heap.get? l=some {cls:=.type "list",data:=.seq zY.toArray n}:=by obtain⟨z,zY,n,r,e⟩:=I.hok l _ hH;exact⟨z,zY,n,r,r.length,e⟩
theorem uH(h:n<=sizeLine):Builtin.List.listTooLong n=false:=by grind[Builtin.List.listTooLong]
def xP:V->List V->Hp->VK->Prop:=λx vs H Q=>∃l xs y,x=.ref l/\vs=[y]/\H l=some (.lst xs)/\xs.length<sizeLine/\Q .non (upd H l (.lst (xs++[y])))
def IK:DM X "list.append" xP:=by intro zU s Z H x vs v us Q I rx rv h;obtain⟨l,xs,y,rfl,rfl,hH,hz,q⟩:=h;cases rx;obtain⟨u,rfl,ru⟩:=rv.one;obtain⟨z,zY,n,r,hl,e⟩:=I.lstM hH;refine call_meets F.slot_list_append ⟨_,e,rfl⟩ F.entry_list_append (F.args_list_append_2 _ _) (PySem.list_append l zY.toArray n u (by rw[qt];lia)) ⟨e,?_⟩;refine⟨.non,_,I.lset (its':=zY++[u]) hH e (by simp) (r.append (.cons ru .nil)) ?_,rfl,q⟩;rw[qr,qD];lia
def xO:V->List V->Hp->VK->Prop:=λx vs H Q=>∃l b xs zs,x=.ref l/\vs=[.ref b]/\H l=some (.lst xs)/\H b=some (.lst zs)/\xs.length+zs.length<=sizeLine/\Q .non (upd H l (.lst (xs++zs)))
def VJ:DM X "list.extend" xO:=by
 intro zU s Z H x vs v us Q I rx rv h;obtain⟨l,b,xs,zs,rfl,rfl,hH,hB,hz,q⟩:=h;cases rx;obtain⟨u,rfl,ru⟩:=rv.one;cases ru;obtain⟨z,zY,n,r,hl,e⟩:=I.lstM hH;obtain⟨z2,its2,n2,r2,hl2,e2⟩:=I.lstM hB;have hsz:zY.toArray.size+its2.toArray.size<=sizeLine:=by rw[qt,qt];lia
 have hlong:¬(!zY.toArray.isEmpty&&Builtin.List.listTooLong (zY.toArray.size+its2.toArray.size))=true:=by grind[uH]
 refine call_meets F.slot_list_extend ⟨_,e,rfl⟩ F.entry_list_extend (F.args_list_extend_2 _ _)
  (AutoSeq1.list_extend_list_list_0 l zY.toArray n b its2.toArray n2 hlong (by rw[qt];lia) (by lia)) ⟨e,e2,?_⟩
 refine⟨.non,_,I.lset (its':=zY++its2) hH e (by simp) (r.append r2) ?_,rfl,q⟩;rw[qr];lia
def JW:V->List V->Hp->VK->Prop:=λx vs H Q=>∃l xs y,x=.ref l/\vs=[]/\H l=some (.lst xs)/\xs[xs.length-1]?=some y/\Q y (upd H l (.lst xs.dropLast))
def Ra:DM X "list.pop" JW:=by
 intro zU s Z H x vs v us Q I rx rv h;obtain⟨l,xs,y,rfl,rfl,hH,hy,q⟩:=h;cases rx;have hus:=rv.zero;subst hus;obtain⟨z,zY,n,r,hl,e⟩:=I.lstM hH;obtain⟨u,hu,ru⟩:=r.get hy;have hy':zY.toArray[zY.toArray.size-1]?=some u:=by show zY.toArray[zY.length-1]?=some u;rw[<-q5,<-hl];exact hu
 refine call_meets F.slot_list_pop ⟨_,e,rfl⟩ F.entry_list_pop (F.args_list_pop_1 _) (MeetsSeq.list_pop_last l zY.toArray n u hy' (by rw[qt];lia)) ⟨e,?_⟩;refine⟨y,_,I.lset (its':=zY.dropLast) hH e ?_ r.dropLast ?_,ru,q⟩
 .show zY.toArray.eraseIdxIfInBounds (zY.toArray.size-1)=zY.dropLast.toArray;rw[qt,List.eraseIdxIfInBounds_toArray,Jd]
 .rw[List.length_dropLast];lia
def BX:V->List V->Hp->VK->Prop:=λx vs H Q=>∃l xs i k y,x=.ref l/\vs=[.int i]/\H l=some (.lst xs)/\-(2^63)<=i/\i<2^63/\seqIndex? i xs.length=some k/\xs[k]?=some y/\Q y (upd H l (.lst (xs.eraseIdx k)))
def UG:DM X "list.pop" BX:=by
 intro zU s Z H x vs v us Q I rx rv h;obtain⟨l,xs,i,k,y,rfl,rfl,hH,h1,h2,hk,hy,q⟩:=h;cases rx;obtain⟨u,rfl,ru⟩:=rv.one;obtain⟨t,rfl⟩:=ru;obtain⟨z,zY,n,r,hl,e⟩:=I.lstM hH;obtain⟨w,hw,rw'⟩:=r.get hy;refine call_meets F.slot_list_pop ⟨_,e,rfl⟩ F.entry_list_pop (F.args_list_pop_2 _ _)
  (MeetsSeq.list_pop_at l zY.toArray n i t k w (fitsIndex_both h1 h2) (by rw[qt,<-hl];exact hk) (by rw[<-q5];exact hw) (by rw[qt];lia)) ⟨e,?_⟩
 refine⟨y,_,I.lset (its':=zY.eraseIdx k) hH e ?_ (r.eraseIdx k) ?_,rw',q⟩
 .show zY.toArray.eraseIdxIfInBounds k=(zY.eraseIdx k).toArray;rw[List.eraseIdxIfInBounds_toArray]
 .have:=Od xs k;lia
end L2
namespace Att
open PySem PySem.W PySem.Calls PyProof.Rows
def Xh:∀(ns:List Int)(vs:List Value),WellAll P h vs (ns.map WData.int)->IntsAre vs ns:=by
 intro ns;induction ns with
 |nil=>intro vs w;rw[map_nil]at w;cases w;exact .nil
 |cons n ns ih=>
  intro vs w;rw[qA]at w;cases w with
  |cons a b=>cases a;exact .cons _ _ (ih _ b)
def Vg{l:OpenLaw}(hn:l.most=some n)
  (hpre:l.row.toRowW.claim.pre args=true)(hwl:WellAll P h vals args):
  ∃a vs ns,vals=[Value.ref a]/\args=[WData.list (ns.map WData.int)]/\h.get? a=some {cls:=.type "list",data:=.seq vs.toArray}/\IntsAre vs ns/\ns.length<=n:=by
 have hsh:WShape.hasAll [] args [.list .int]=true:=(pre_splitW hpre).1;have hc:l.pre.holds [] {args:=args}=true:=(pre_splitW hpre).2;obtain⟨d,r,rfl,h1,h2⟩:=hasAllW_cons hsh;obtain rfl:=hasAllW_nil h2;obtain⟨xs,rfl,h3⟩:=hasW_list h1;obtain⟨ns,rfl⟩:=items_int h3;have zX:ns.length<=n:=by
  unfold OpenLaw.pre at hc;have h4:(WTm.not (.lt (.lit (.int (n:Int))) (.len (.arg 0)))).holds [] {args:=[.list (ns.map .int)]}=true:=by have h4:=(holds_andW hc).1;rw[hn]at h4;exact h4
  have h5:=condW_of h4 (w_not (w_lt w_lit (w_len_list (w_arg rfl))));grind
 cases hwl with
 |cons w1 w2=>
  cases w2;cases w1 with
  |list ho hall=>exact⟨_,_,ns,rfl,rfl,ho,Xh ns _ hall,zX⟩
def VH(l:OpenLaw)(args:List WData):l.row.toRowW.claim.post args (.bool true) args=true:=
 postW_of (r:=l.row.toRowW) (X:=(true==true))
  (show WShape.has [] (.bool true) .bool=true by first|rfl|decide|simp[WShape.has,WShape.arms,WShape.armsAll])
  (show(WTm.eq .res (.lit (.bool true))).value [] {args:=args,res:=some (.bool true),after:=args}=some (.bool (true==true)) from w_eq_bool (w_res rfl) w_lit) rfl
def attach_call{l:OpenLaw}
  (hn:l.most=some n)(hdf:d.params.defaults=[])
  (call:∀(w:World)(s₀ s₁:Shared)(mg mb:Str->Option Value)(fa:Addr)(o:Obj)(pm cd doc:Value)(a:Addr)(vs:List Value)(ns:List Int),
   Ground q loose [] XP w s₀ mg mb s₁.heap->YP w s₁.heap->
   s₁.heap.get? fa=some o->o.data=.func (docDef d.name d.params d.body d.scope pm cd doc)->s₁.heap.CodeRec cd d.name->mg d.name=some (.ref fa)->
   s₁.heap.get? a=some {cls:=.type "list",data:=.seq vs.toArray}->IntsAre vs ns->ns.length<=n->s₁.gens=#[]->
   codeAny (model l.prog w) callerA (.call (.ref fa) ⟨[.ref a],[]⟩) (λr s'=>r=.ok (.ret (.bool true))/\OldK s₁.heap s'.heap/\s'.os=s₁.os/\AllBare s'.gens) s₁):
  WalkO q loose XP YP l.row.toRowW d [] (λf vs=>PySem.call f vs):=by
 intro w s₀ s₁ mg mb G Y fa o pm cd doc dV kV ho hd hcd hD hmg hg args vals as hpre hlay hrd hwl hlo;obtain rfl:dV=.none:=Dflts.none hD hdf;obtain rfl:kV=.none:=Dflts.noKw hD;obtain⟨a,vs,ns,rfl,rfl,hobj,hints,zX⟩:=Vg hn hpre hwl;refine enter_call (codeAny_mono (call w s₀ s₁ mg mb fa o pm cd doc a vs ns G Y ho (fd_plain hd) hcd hmg hobj hints zX hg) λr s' hq=>?_);obtain⟨rfl,h2,h3,h4⟩:=hq;exact⟨.inl ⟨.bool true,.bool true,[],rfl,λ_=>rfl,.bool true,VH l _,λ_=>⟨List.Pairwise.nil,λ_ hm=>(nomatch hm)⟩⟩,h2,h3,h4⟩
end Att
namespace L2
open PySem PySem.Spec PyProof.Rows
def DA:∀{vs:List Value}{ns:List Int},IntsAre vs ns->zR (ns.map V.int) vs
 |_,_,.nil=>.nil
 |_,_,.cons n t h=>.cons ⟨t,rfl⟩ (DA h)
def Dk(H:Hp):Prop:=∀b,H b=none\/∃o xs,H b=some (.frz o (.lst xs))
def To{K:W.Frag}
  (KX:K.In s₁.heap)(hns:s₁.heap.Ns mainGlobals mg)(hb:s₁.heap.Ns builtinsNs mb)(hbb:∀x:Str,x≠"__name__"->mb x=bootBuiltins x)(hlim:s₁.heap.NoLimit)(hg:s₁.gens=#[])
  (ha:s₁.heap.get? a=some {cls:=.type "list",data:=.seq vs.toArray})(hi:IntsAre vs ns)(hl:ns.length<=sizeLine)(hr:bI k callerA)
  (F:∀base:Heap,K.In base->base.Ns mainGlobals mg->gX P w K mg base CX k fa fd [x] sp)(hbind:∀(s:Shared)(u:Value),BindsTo s fd ⟨[u],[]⟩ [(x,u)])
  (hsp:∀H:Hp,Dk H->bR K H a (ns.map V.int)->sp [.ref a] H (λv _=>v=.bl true) λ_ _ _=>False)
  (hCX:∀H e s',CX [] H s₁ (λ_ _ _=>False) e s'->False):
  codeAny (model P w) callerA (.call (.ref fa) ⟨[.ref a],[]⟩) (λr s'=>r=.ok (.ret (.bool true))/\OldK s₁.heap s'.heap/\s'.os=s₁.os/\AllBare s'.gens) s₁:=by
 have rv:=DA hi;have lenV:=hi.length
 --from an abstract heap in which nothing but the script may be tracked
 have core:∀H:Hp,Dk H->bR K H a (ns.map V.int)->fN P w H s₁.heap->(∀b,H b≠none->b=a)->(H a≠none->K.lookup a=none)->
   codeAny (model P w) callerA (.call (.ref fa) ⟨[.ref a],[]⟩) (λr s'=>r=.ok (.ret (.bool true))/\OldK s₁.heap s'.heap/\s'.os=s₁.os/\AllBare s'.gens) s₁:=by
  intro H hO hS hok hA hK;have base_of:∀{b:Addr}{o:Obj},s₁.heap.get? b=some o->H b=none->(kO s₁.heap H).get? b=some o:=λe n=>SE e n;have noA:∀{b:Addr}{o:Obj}{es:Array DictEntry}{ep:Nat},s₁.heap.get? b=some o->o.data=.dict es ep->H b=none:=λ{b o es ep} e d=>by
   cases q:H b with
   |none=>rfl
   |some u=>grind
  have nsK:∀{b:Addr}{m:Str->Option Value},s₁.heap.Ns b m->(kO s₁.heap H).Ns b m:=λ{b m}⟨o,es,ep,e,d,r⟩=>⟨o,es,ep,base_of e (noA e d),d,r⟩
  have hKb:K.In (kO s₁.heap H):=λb o e=>base_of (KX b o e) (by
   cases q:H b with
   |none=>rfl
   |some u=>have e':b=a:=hA b (by rw[q];simp);subst e';rw[hK (by rw[q];simp)]at e;cases e)
  have hM:Mod K mg (kO s₁.heap H):=⟨hKb,nsK hns,⟨mb,nsK hb,hbb⟩,let⟨mc,h1,h2⟩:=hlim;⟨mc,nsK h1,h2⟩⟩
  have e0:Am P w K mg (kO s₁.heap H) callerA [] s₁ H:=⟨rfl,hM,λb o e=>Ry e,Nat.le_of_eq (VP _ _),trivial,λb hb=>absurd (show b∈([]:List Addr) from hb) (by simp),hok,.of_eq hg⟩
  refine codeAny_mono ((F _ hKb (nsK hns)).run callerA [] s₁ H ⟨[.ref a],[]⟩ [.ref a] [.ref a] _ _ hr e0 (hbind s₁ (.ref a)) (.cons rfl .nil) (hsp H hO hS)) λr s' h=>?_;cases r with
  |error e=>exact(hCX H e s' h).elim
  |ok fl=>
   cases fl with
   |next=>exact False.elim h
   |brk=>exact False.elim h
   |cont=>exact False.elim h
   |ret u=>
    obtain⟨v,H',os,bare,un,hok',r',q⟩:=h;have q':v=.bl true:=q;subst q';obtain rfl:u=Value.bool true:=r';refine⟨rfl,OldK.of_keep λb o e=>?_,os,bare⟩;cases q:H b with
    |none=>exact un.keep b o e q (by intro z;exact absurd (show b∈([]:List Addr) from z) (by simp)) (by simp)
    |some u=>
     rcases hO b with z|⟨ob,xs,z⟩
     .rw[q]at z;cases z
     .have z2:=un.frzs b ob _ z;obtain⟨e1,_⟩:=hok b _ z;obtain⟨e2,_⟩:=hok' b _ z2;rw[e]at e1;cases e1;exact e2
 cases hk:K.lookup a with
 |some o=>
  --the script is one of the module's own objects
  have e:=KX a o hk;rw[ha]at e;cases e;refine core (λ_=>none) (λ_=>.inl rfl) (.inr ⟨_,vs.toArray,_,hk,rfl,rfl,rfl,by rw[qt,lenV];exact hl,by simpa using rv⟩) (λb u z=>by have z':(none:Option HO)=some u:=z;cases z') (λb z=>absurd rfl z) λz=>absurd rfl z
 |none=>
  refine core (λb=>if b=a then some (.frz {cls:=.type "list",data:=.seq vs.toArray} (.lst (ns.map V.int)))else none) (λb=>?_) (.inl (.inr ⟨{cls:=.type "list",data:=.seq vs.toArray},q8 rfl⟩)) (λb u z=>?_) (λb z=>?_) λ_=>hk
  .grind
  .by_cases hb:b=a
   .have z':=(q8 hb).symm.trans z;cases z';subst hb;exact⟨ha,by rw[qp];exact hl,vs,_,rv,ha⟩
   .have z':=(q9 hb).symm.trans z;cases z'
  grind
def walk_of{l:W.OpenLaw}{K:Params->W.Frag}{CX:World->Gm}{sp:World->Sp}
  (hn:l.most=some n)(hn2:n<=sizeLine)(hdf:d.params.defaults=[])(hr:bI k callerA)
  (hY:∀(w:World)(h:Heap),YP w h->(K w.params).In h)
  (F:∀(w:World)(mg:Str->Option Value)(fa:Addr)(h:Heap),(K w.params).In h->h.Ns mainGlobals mg->mg d.name=some (.ref fa)->
   ∃fd:FuncData,(∀(s:Shared)(u:Value),BindsTo s fd ⟨[u],[]⟩ [(x,u)])/\
    ∀base:Heap,(K w.params).In base->base.Ns mainGlobals mg->gX l.prog w (K w.params) mg base (CX w) k fa fd [x] (sp w))
  (hsp:∀(w:World)(H:Hp)(a:Addr)(ns:List Int),ns.length<=n->Dk H->bR (K w.params) H a (ns.map V.int)->sp w [.ref a] H (λv _=>v=.bl true) λ_ _ _=>False)
  (hCX:∀(w:World)(H:Hp)(s:Shared)(e:Value)(s':Shared),CX w [] H s (λ_ _ _=>False) e s'->False):
  W.WalkO q loose XP YP l.row.toRowW d [] (λf vs=>PySem.call f vs):=by
 refine Att.attach_call hn hdf λw s₀ s₁ mg mb fa o pm cd doc a vs ns G Y ho hd hcd hmg hobj hints zX hg=>?_;have KX:=hY w _ Y;obtain⟨fd,hb,hF⟩:=F w mg fa _ KX G.T.g hmg;exact To KX G.T.g G.T.b G.T.builtins G.T.nolimit hg hobj hints (le_trans zX hn2) hr hF hb (λH hO hS=>hsp w H a ns zX hO hS) λH e s'=>hCX w H s₁ e s'
def eT(s:Stmt):Arguments:=match s with
 |.FunctionDef _ a _ _ _ _ _ _ _ _=>a
 |_=>{posonlyargs:=[],args:=[],vararg:=none,kwonlyargs:=[],kw_defaults:=[],kwarg:=none,defaults:=[]}
def cR(s:Stmt):List Stmt:=match s with
 |.FunctionDef _ _ b _ _ _ _ _ _ _=>b
 |_=>[]
def aA(s:Stmt):Scope:=match s with
 |.FunctionDef _ _ _ _ _ _ sc _ _ _=>sc
 |_=>{kind:=.function,names:=[],isGenerator:=false,isCoroutine:=false}
structure Dm(K:W.Frag)(x qual:Str)(st:Stmt)(f:Addr)(fd:FuncData):Prop where
 ex:∃(oc:Value)(od:Option Addr)(kV doc pm:Value)(an:Option Addr)(cdv ct:Value)(osl:Array (Option Value)),
  fd=W.fnOf x qual (eT st) (cR st) (aA st) .none kV doc pm an cdv ct/\K.lookup f=some ⟨oc,od,.func fd,osl⟩/\W.codeIn K cdv qual=true
 kp:W.keepIn K (.ref f)=true
section
variable{K:W.Frag}
def Dm.binds{st:Stmt}(F:Dm K x qual st f fd)
  (h:∀(kV doc pm:Value)(an:Option Addr)(cdv ct:Value)(us:List Value),us.length=ps.length->bindArgs (W.fnOf x qual (eT st) (cR st) (aA st) .none kV doc pm an cdv ct) ⟨us,[]⟩=pure (ps.zip us)):Binds K fd ps []:=by
 obtain⟨oc,od,kV,doc,pm,an,cdv,ct,osl,rfl,lk,hcd⟩:=F.ex;exact .all (h kV doc pm an cdv ct)
def PY{st:Stmt}{kV doc pm cdv ct:Value}(l:K.lookup f=some ⟨oc,od,.func (W.fnOf x qual (eT st) (cR st) (aA st) .none kV doc pm an cdv ct),osl⟩)
  (c:W.codeIn K cdv qual=true)(k:W.keepIn K (.ref f)=true):Dm K x qual st f (W.fnOf x qual (eT st) (cR st) (aA st) .none kV doc pm an cdv ct):=⟨⟨oc,od,kV,doc,pm,an,cdv,ct,osl,rfl,l,c⟩,k⟩
end
def wD(hr:bI k A):A.units+1<cLine:=Nat.lt_of_le_of_lt (Nat.add_le_add_left (by decide:1<=64) _) hr.units
def zH(H H':Hp):Prop:=∀b o,H b=some o->H' b=some o
def zH.refl(H:Hp):zH H H:=λ_ _ h=>h
def zH.trans(a:zH H H1)(b:zH H1 H2):zH H H2:=λc o h=>b c o (a c o h)
section
variable{κ:Type}[DecidableEq κ]
def GA:∀{l:List κ}{k:κ},l.Nodup->¬k∈l->(l++[k]).Nodup
 |[],k,_,_=>by simp
 |a::r,k,h,hk=>by
  obtain⟨h1,h2⟩:=qM.mp h;show(a::(r++[k])).Nodup;refine qM.mpr ⟨λm=>?_,GA h2 λm=>hk (qC.mpr (Or.inr m))⟩;rcases qz.mp m with q|q
  .exact h1 q
  .exact hk (qC.mpr (Or.inl (qv.mp q).symm))
end
def zT.there(x:zT P w H h a o):∃u,h.get? a=some u:=by
 cases o with
 |lst xs=>obtain⟨_,_,_,_,e⟩:=x;exact⟨_,e⟩
 |tup xs=>obtain⟨_,_,_,u,e,_⟩:=x;exact⟨_,e⟩
 |dK zV=>obtain⟨_,_,_,_,o,_,_,e,_⟩:=x;exact⟨_,e⟩
 |dT zV=>obtain⟨_,_,_,_,o,_,_,e,_⟩:=x;exact⟨_,e⟩
 |set vs=>
  rcases x with⟨_,⟨_,e⟩|⟨_,_,_,_,_,_,_,e,_⟩|⟨_,_,_,_,_,_,_,_,e,_⟩⟩
  .exact⟨_,e⟩
  .exact⟨_,e⟩
  .exact⟨_,e⟩
 |ins C dx fs=>obtain⟨_,_,_,e,_⟩:=x;exact⟨_,e⟩
 |own y=>exact x
 |xd fs=>obtain⟨_,⟨_,_,_,e,_⟩,_⟩:=x;exact⟨_,e⟩
 |rng lo hi=>obtain⟨_,_,_,e⟩:=x;exact⟨_,e⟩
 |frz ob u=>exact⟨_,x.1⟩
 |tbl ps=>exact⟨_,(show h.get? a=some _ from x)⟩
 |met f y=>exact⟨_,(show h.get? a=some _ from x)⟩
 |ext φ=>exact x.2.1
def DP(X:Cx)(zU:List (Addr×Obj))(H:Hp)(h:Heap)(e:Addr)(cls:Value)(dx:Option Addr):Prop:=False
def eB.few(f:eB X zU H b):eB X [] H b:=⟨f.1,f.2.1,f.2.2.1,f.2.2.2.1,f.2.2.2.2.1,λp hp=>f.2.2.2.2.2 p (qk _ (by simpa using hp))⟩
def DP.few(F:DP X zU H h e cls dx):DP X [] H h e cls dx:=(show False from F).elim
def Inv.few(I:Inv X zU Z H s):Inv X [] Z H s:=I.pins_of λp hp=>I.pin p (qk _ (by simpa using hp))
def mH(P:Program)(w:World):Gm:=λ_ _ _ _ _ _=>False
section
variable{K:W.Frag}
def Ui(I:Inv (gU (mH P w) P w K mg base N qual scope f cd A outer s H E) [] Z H' s')(F:DP (gU (mH P w) P w K mg base N qual scope f cd A outer s H E) [] H' s'.heap e cls dx)(q:E cls dx H'):
  (gU (mH P w) P w K mg base N qual scope f cd A outer s H E).xe (.ref e) s':=(show False from F).elim
end
def XW(X:Cx)(Z:St):XK:=λcls dx H'=>∀(a:Addr)(s':Shared),Inv X [] Z H' s'->DP X [] H' s'.heap a cls dx->X.xe (.ref a) s'
def BI(X:Cx)(sp:Sp)(t:TA):TE:=λZ H Q=>t Z H λvs H1=>sp vs H1 Q (XW X Z)
def Uo(F:gX X.prog X.w X.K X.mg X.base (mH X.prog X.w) k f fd ps sp)(hr:bI k X.A)(hg:Gl X x)(hm:X.mg x=some (.ref f))(hk:W.keepIn X.K (.ref f)=true)(hb:Binds X.K fd ps [])
  (ha:PA X (e::es) t)(hdb:(x==("__debug__":Str))=false:=by decide)(he:starEach (e::es) X.env=(false,eval e X.env)::starEach es X.env:=by rfl)(hpl:(backTo pos (starEach es X.env)).any (·.1)=false:=by rfl):
  PE X (.Call (.Name x p) (e::es) [] pos) (BI X sp t):=by
 intro zU s Z H Q I h;refine wpAny_Call_Name_kw (Rx I hg hm ?_ hdb);refine W.callWith_K (h₀:=X.base) I.ok.mod.kin hk (bK (ha pos zU s Z H _ I h) λus s1 zq=>?_) he hpl;obtain⟨vs,H1,I1,r,q⟩:=zq;refine⟨I1.kIn,?_⟩;have hl:(us++[]).length=ps.length:=by rw[qB,<-r.length];exact F.len _ _ _ _ q
 refine wpAny_call (codeAny_mono (F.run X.A X.stack s1 H1 ⟨us,[]⟩ us vs Q (XW X Z) hr I1.env0 (by have:=hb s1 us I1.kIn hl;rwa[qB]at this) r q) λr s' hq=>?_);cases r with
 |error e=>exact(show False from hq).elim
 |ok fl=>
  cases fl with
  |ret u=>exact I1.after hq
  |next=>exact False.elim hq
  |brk=>exact False.elim hq
  |cont=>exact False.elim hq
section
variable{K:W.Frag}
def Dm.okX{st:Stmt}(F:Dm K x qual st f fd)(S:aG N ps (aA st))(len:∀vs H Q E,sp vs H Q E->vs.length=ps.length)
  (hbody:∀(cdv:Value)(A:Around)(outer:List Env)(s:Shared)(H:Hp)(vs:List V)(Q:VK)(E:XK),bI k (A.deeper (envOfC qual (aA st) s.heap.objs.size f cdv))->sp vs H Q E->
   ∃t,mJ (gU (mH P w) P w K mg base N qual (aA st) f cdv A outer s H E) (cR st) t/\t {nx:=λ_ H'=>Q .non H',rt:=Q} (start N vs) H):gX P w K mg base (mH P w) (k+1) f fd ps sp:=by
 obtain⟨oc,od,kV,doc,pm,an,cdv,ct,osl,rfl,lk,hcd⟩:=F.ex;exact Pw lk hcd S len λA outer s H vs Q E hr hsp=>hbody cdv A outer s H vs Q E hr hsp
end
end L2
namespace FL
open PySem
inductive D where
 |non
 |bl(b:Bool)
 |int(i:Int)
 |str(l:List Nat)
 |tup(l:List D)
 |lst(l:List D)
 |dct(t:Bool)(ks vs:List D)
 |set(l:List D)
 |exc(c:List Nat)(fs:List (List Nat))(vs:List D)
 deriving Inhabited
inductive S where
 |sh(d:D)
 |lst(l:List S)
 |dct(t:Bool)(ks:List D)(vs:List S)
 |set(l:List D)
 deriving Inhabited
mutual
def S.toD:S->D
 |.sh d=>d
 |.lst l=>.lst (S.toDs l)
 |.dct t ks vs=>.dct t ks (S.toDs vs)
 |.set l=>.set l
def S.toDs:List S->List D
 |[]=>[]
 |s::r=>S.toD s::S.toDs r
end
@[simp] theorem S.toDs_map:∀l:List S,S.toDs l=l.map S.toD
  |[]=>rfl
  |s::r=>by rw[S.toDs,S.toDs_map r,qA]
@[simp] theorem S.toD_sh(d:D):(S.sh d).toD=d:=rfl
@[simp] theorem S.toD_lst(l:List S):(S.lst l).toD=.lst (l.map S.toD):=by rw[<-S.toDs_map];rfl
@[simp] theorem S.toD_dct(t:Bool)(ks:List D)(l:List S):(S.dct t ks l).toD=.dct t ks (l.map S.toD):=by rw[<-S.toDs_map];rfl
@[simp] theorem S.toD_set(l:List D):(S.set l).toD=.set l:=rfl
def S.isSh:S->Bool
 |.sh _=>true
 |_=>false
def S.flat:S->Bool
 |.sh _=>true
 |.lst l=>l.all S.isSh
 |.dct _ _ vs=>vs.all S.isSh
 |.set _=>false
inductive R where
 |v(s:S)
 |loc(i:Nat)
abbrev Env:=List (Option S)
abbrev WQ:=R->Env->Prop
abbrev WX:=D->Env->Prop
def NX:WX:=λ_ _=>False
abbrev WE:=Env->WQ->WX->Prop
abbrev WT:=Env->(Bool->Env->Prop)->WX->Prop
abbrev WA:=Env->(List R->Env->Prop)->WX->Prop
structure Ends where
 nx:Env->Prop
 rt:WQ
 bk:Env->Prop
 ct:Env->Prop
 ex:WX
abbrev WS:=Ends->Env->Prop
def slot(U:Env)(i:Nat):Option S:=match U,i with
 |[],_=>none
 |s::_,0=>s
 |_::r,i+1=>slot r i
@[simp] theorem XF(s:Option S)(r:Env):slot (s::r) 0=s:=rfl
@[simp] theorem XG(s:Option S)(r:Env)(i:Nat):slot (s::r) (i+1)=slot r i:=rfl
def view(r:R)(U:Env):Option D:=match r with
 |.v s=>some s.toD
 |.loc i=>(slot U i).map S.toD
def zQ(r:R)(U:Env):Option D:=match r with
 |.v s=>some s.toD
 |.loc i=>match slot U i with
  |some s=>if s.flat then some s.toD else none
  |none=>none
def give(r:R)(U:Env):Option (S×Env):=match r with
 |.v s=>some (s,U)
 |.loc i=>match slot U i with
  |some s=>some (.sh s.toD,U.set i (some (.sh s.toD)))
  |none=>none
def aK:List R->Env->Option (List S×Env)
 |[],U=>some ([],U)
 |r::rs,U=>match give r U with
  |some (s,U1)=>match aK rs U1 with
   |some (ss,U2)=>some (s::ss,U2)
   |none=>none
  |none=>none
def ixN(n:Nat)(i:Int):Option Nat:=if 0<=i then(if i<n then some i.toNat else none)else if -(n:Int)<=i then some (i+n).toNat else none
def atI{α:Type}(xs:List α)(i:Int):Option α:=(ixN xs.length i).bind λj=>xs[j]?
def sIx(n d:Nat):Option Int->Nat
 |none=>d
 |some i=>if i<0 then(i+n).toNat else min i.toNat n
def bV{α:Type}(xs:List α)(lo hi:Option Int):List α:=(xs.drop (sIx xs.length 0 lo)).take (sIx xs.length xs.length hi-sIx xs.length 0 lo)
def big:Nat:=1000000
def zG{α:Type}(o:Option α)(k:α->Prop):Prop:=match o with
 |some a=>k a
 |none=>False
@[simp] theorem IC{α:Type}(a:α)(k:α->Prop):zG (some a) k=k a:=rfl
@[simp] theorem XH{α:Type}(k:α->Prop):zG (none:Option α) k=False:=rfl
@[simp] theorem XE{α:Type}{c:Prop}[Decidable c](a:α)(k:α->Prop):zG (if c then some a else none) k=(c/\k a):=by by_cases h:c<;>simp[h]
def zx(i:Nat):WE:=λU Q _=>match slot U i with
 |some (.sh d)=>Q (.v (.sh d)) U
 |some _=>Q (.loc i) U
 |none=>False
def wC(d:D):WE:=λU Q _=>Q (.v (.sh d)) U
def zM(op:D->D->Option S)(a b:WE):WE:=λU Q E=>a U (λx U1=>b U1 (λy U2=>zG (zQ x U2) λp=>zG (zQ y U2) λq=>zG (op p q) λs=>Q (.v s) U2) E) E
def Bo(op:D->Option S)(a:WE):WE:=λU Q E=>a U (λx U1=>zG (zQ x U1) λp=>zG (op p) λs=>Q (.v s) U1) E
def cO:D->D->Option S
 |.int i,.int j=>some (.sh (.int (i+j)))
 |.str x,.str y=>if x.length+y.length<=big then some (.sh (.str (x++y)))else none
 |.lst x,.lst y=>if x.length+y.length<=big then some (.lst ((x++y).map .sh))else none
 |.tup x,.tup y=>if x.length+y.length<=big then some (.sh (.tup (x++y)))else none
 |_,_=>none
def rG:D->D->Option S
 |.int i,.int j=>some (.sh (.int (i-j)))
 |_,_=>none
def oS(i j:Int):Bool:=(decide (-(2^64)<i)&&decide (i<2^64))||(decide (-(2^64)<j)&&decide (j<2^64))
def uG:D->D->Option S
 |.int i,.int j=>if oS i j then some (.sh (.int (i*j)))else none
 |_,_=>none
def jS:D->D->Option S
 |.int i,.int j=>if 0<j/\j<18446744073709551616 then some (.sh (.int (i/j)))else none
 |_,_=>none
def gQ:D->D->Option S
 |.int i,.int j=>if 0<j then some (.sh (.int (i %j)))else none
 |_,_=>none
def uF:D->D->Option S
 |.int i,.int j=>if 0<=j/\j<=1000/\i.natAbs<2^64 then some (.sh (.int (i^j.toNat)))else none
 |_,_=>none
def lS:D->Option S
 |.int i=>some (.sh (.int (-i)))
 |_=>none
mutual
def aW:D->D->Bool
 |.tup l,.tup m=>bC l m
 |.lst l,.lst m=>bC l m
 |.int _,.int _=>false
 |.int _,.str _=>false
 |.int _,.non=>false
 |.str _,.int _=>false
 |.str _,.str _=>false
 |.str _,.non=>false
 |.str _,.bl _=>false
 |.bl _,.bl _=>false
 |.bl _,.str _=>false
 |.bl _,.non=>false
 |.non,.int _=>false
 |.non,.str _=>false
 |.non,.bl _=>false
 |.non,.non=>false
 |_,_=>true
def bC:List D->List D->Bool
 |a::l,b::m=>aW a b||bC l m
 |_,_=>false
end
mutual
def gJ:D->Nat
 |.tup l=>bB l+1
 |.lst l=>bB l+1
 |_=>0
def bB:List D->Nat
 |[]=>0
 |a::l=>max (gJ a) (bB l)
end
open Classical in
def fM(a b:D):Option Bool:=if aW a b||decide (30<gJ a)then none else some (decide (a=b))
def mI(a b:D):Option Bool:=(fM a b).map (!·)
def Hk:D->D->Option Bool
 |.int i,.int j=>some (decide (i<j))
 |.str x,.str y=>some (decide (x<y))
 |_,_=>none
def Hn(a b:D):Option Bool:=Hk a b
def DL(a b:D):Option Bool:=Hk b a
def Ho:D->D->Option Bool
 |.int i,.int j=>some (decide (j<=i))
 |.str x,.str y=>some (!decide (x<y))
 |_,_=>none
def dM:D->Bool
 |.int _=>true
 |.str _=>true
 |_=>false
def aH:Bool->D->Bool
 |true,.tup l=>l.all dM
 |false,d=>dM d
 |_,_=>false
open Classical in
def DK(a:D):D->Option Bool
 |.lst l=>if l.any (λx=>aW x a||decide (30<gJ x))then none else some (decide (a∈l))
 |.tup l=>if l.any (λx=>aW x a||decide (30<gJ x))then none else some (decide (a∈l))
 |.dct t ks _=>if aH t a then some (decide (a∈ks))else none
 |_=>none
def iC:D->Option Bool
 |.non=>some false
 |.bl b=>some b
 |.int i=>some (decide (i≠0))
 |.str l=>some (!l.isEmpty)
 |.tup l=>some (!l.isEmpty)
 |.lst l=>some (!l.isEmpty)
 |_=>none
def bW(op:D->D->Option Bool)(a b:WE):WT:=λU Q E=>a U (λx U1=>b U1 (λy U2=>zG (view x U2) λp=>zG (view y U2) λq=>zG (op p q) λc=>Q c U2) E) E
def lJ(a:WE):WT:=λU Q E=>a U (λx U1=>zG (view x U1) λp=>zG (iC p) λc=>Q c U1) E
def gE(a b:WT):WT:=λU Q E=>a U (λc U1=>if c then b U1 Q E else Q false U1) E
def sF(a:WT):WT:=λU Q E=>a U (λc U1=>Q (!c) U1) E
def sX(t:WT):WE:=λU Q E=>t U (λc U1=>Q (.v (.sh (.bl c))) U1) E
def Bp(c:WT)(a b:WE):WE:=λU Q E=>c U (λk U1=>if k then a U1 Q E else b U1 Q E) E
def zz:WA:=λU Q _=>Q [] U
def zy(a:WE)(b:WA):WA:=λU Q E=>a U (λr U1=>b U1 (λrs U2=>Q (r::rs) U2) E) E
def cW(a:WA):WE:=λU Q E=>a U (λrs U1=>zG (if rs.length<=big then aK rs U1 else none) λp=>Q (.v (.sh (.tup (p.1.map S.toD)))) p.2) E
def dU(a:WA):WE:=λU Q E=>a U (λrs U1=>zG (if rs.length<=big then aK rs U1 else none) λp=>Q (.v (.lst p.1)) p.2) E
def tF(t:Bool):WE:=λU Q _=>Q (.v (.dct t [] [])) U
open Classical in
def lk{α:Type}:List D->List α->D->Option α
 |k'::ks,v::vs,k=>if k'=k then some v else lk ks vs k
 |_,_,_=>none
def nH:S->D->Option S
 |.sh (.tup l),.int i=>(atI l i).map .sh
 |.sh (.lst l),.int i=>(atI l i).map .sh
 |.sh (.str l),.int i=>(atI l i).map λc=>.sh (.str [c])
 |.lst l,.int i=>atI l i
 |_,_=>none
def gN(a b:WE):WE:=λU Q E=>a U (λx U1=>b U1 (λy U2=>zG (view y U2) λq=>match x with
 |.v s=>zG (nH s q) λt=>Q (.v t) U2
 |.loc i=>match slot U2 i with
  |some s=>match nH s q with
   |some (.sh d)=>Q (.v (.sh d)) U2
   |_=>False
  |none=>False) E) E
def gF(a:Option WE):Env->(Option Int->Env->Prop)->WX->Prop:=match a with
 |none=>λU Q _=>Q none U
 |some a=>λU Q E=>a U (λx U1=>match view x U1 with
  |some (.int i)=>Q (some i) U1
  |_=>False) E
def oN(d:D)(lo hi:Option Int):Option S:=match d with
 |.str l=>some (.sh (.str (bV l lo hi)))
 |.tup l=>some (.sh (.tup (bV l lo hi)))
 |.lst l=>some (.lst ((bV l lo hi).map .sh))
 |_=>none
def Ay(a:WE)(lo hi:Option WE):WE:=λU Q E=>a U (λx U1=>gF lo U1 (λl U2=>gF hi U2 (λh U3=>zG (zQ x U3) λd=>zG (oN d l h) λs=>Q (.v s) U3) E) E) E
abbrev WF:=List S->(S->List S->Prop)->(D->List S->Prop)->Prop
def cY:List Bool->List R->Env->Option (List S×Env)
 |_,[],U=>some ([],U)
 |ms,.v s::rs,U=>match cY ms.tail rs U with
  |some (ss,U1)=>some (s::ss,U1)
  |none=>none
 |ms,.loc i::rs,U=>match slot U i with
  |some s=>if ms.headD false then(match cY ms.tail rs (U.set i none)with
   |some (ss,U1)=>some (s::ss,U1)
   |none=>none)
   else(match cY ms.tail rs (U.set i (some (.sh s.toD)))with
    |some (ss,U1)=>some (.sh s.toD::ss,U1)
    |none=>none)
  |none=>none
def back:List Bool->List R->List S->Env->Env
 |ms,.v _::rs,_::ss,U=>back ms.tail rs ss U
 |ms,.loc i::rs,s::ss,U=>if ms.headD false then back ms.tail rs ss (U.set i (some s))else back ms.tail rs ss U
 |_,_,_,U=>U
def zO(f:WF)(ms:List Bool)(a:WA):WE:=λU Q E=>a U (λrs U1=>zG (cY ms rs U1) λp=>f p.1 (λs ss=>Q (.v s) (back ms rs ss p.2)) (λx ss=>E x (back ms rs ss p.2))) E
def wB(f:List D->Option S)(a:WA):WE:=λU Q E=>a U (λrs U1=>zG (rs.mapM λr=>zQ r U1) λds=>zG (f ds) λs=>Q (.v s) U1) E
def bU(j:Nat)(e:WE):WE:=λU Q E=>match slot U j with
 |some (.lst _)=>e U (λr U2=>zG (give r U2) λp=>match slot p.2 j with
  |some (.lst l)=>l.length<big/\Q (.v (.sh .non)) (p.2.set j (some (.lst (l++[p.1]))))
  |_=>False) E
 |_=>False
def eA:List D->Option S
 |[.str l]=>some (.sh (.int l.length))
 |[.tup l]=>some (.sh (.int l.length))
 |[.lst l]=>some (.sh (.int l.length))
 |_=>none
def vJ:List D->Option S
 |[.int i]=>some (.sh (.int i))
 |[.bl b]=>some (.sh (.int (if b then 1 else 0)))
 |_=>none
def cC:List D->Option S
 |[.tup l]=>some (.sh (.tup l))
 |[.lst l]=>some (.sh (.tup l))
 |_=>none
def FQ:List D->Option S
 |[.tup l]=>some (.lst (l.map .sh))
 |[.lst l]=>some (.lst (l.map .sh))
 |_=>none
def Ai:List D->Option S
 |[.int i,.int j]=>some (.sh (.int (if j>i then j else i)))
 |_=>none
def Ah:List D->Option S
 |[.int i,.int j]=>some (.sh (.int (if j<i then j else i)))
 |_=>none
def dP:WS:=λD U=>D.nx U
def zN(a b:WS):WS:=λD U=>a {D with nx:=b D} U
def oH(c:WT)(a b:WS):WS:=λD U=>c U (λk U1=>if k then a D U1 else b D U1) D.ex
def cE(a:WE):WS:=λD U=>a U D.rt D.ex
def wExpr(a:WE):WS:=λD U=>a U (λ_ U1=>D.nx U1) D.ex
abbrev WG:=S->Env->(Env->Prop)->Prop
def zF(i:Nat):WG:=λs U Q=>Q (U.set i (some s))
def fH:List WG->List D->Env->(Env->Prop)->Prop
 |[],[],U,Q=>Q U
 |g::gs,d::ds,U,Q=>g (.sh d) U λU1=>fH gs ds U1 Q
 |_,_,_,_=>False
def cP(gs:List WG):WG:=λs U Q=>match s.toD with
 |.tup ds=>ds.length=gs.length/\fH gs ds U Q
 |_=>False
def iA(j:Nat)(i e:WE):WS:=λD U=>e U (λr U1=>zx j U1 (λx U2=>i U2 (λy U3=>zG (view y U3) λq=>zG (give r U3) λp=>match x,q,slot p.2 j with
 |.loc k,.int n,some (.lst l)=>k=j/\zG (ixN l.length n) λm=>D.nx (p.2.set j (some (.lst (l.set m p.1))))
 |_,_,_=>False) D.ex) D.ex) D.ex
def zP(g:WG)(a:WE):WS:=λD U=>a U (λr U1=>zG (give r U1) λp=>g p.1 p.2 D.nx) D.ex
abbrev WI:=Env->(List D->Env->Prop)->WX->Prop
def items:D->Option (List D)
 |.lst l=>some l
 |.tup l=>some l
 |.str l=>some (l.map λc=>.str [c])
 |_=>none
def cF(a:WE):WI:=λU Q E=>a U (λr U1=>zG (give r U1) λp=>zG (items p.1.toD) λl=>Q l p.2) E
def fromTo(lo:Int)(n:Nat):List D:=(List.range n).map λ(k:Nat)=>.int (lo+(k:Int))
def bT(a:WE):WI:=λU Q E=>a U (λr U1=>match view r U1 with
 |some (.int j)=>(-big<=j/\j<=big)/\Q (fromTo 0 j.toNat) U1
 |_=>False) E
def cK(g:WG)(body:WS):List D->WS
 |[],D,U=>D.nx U
 |x::xs,D,U=>g (.sh x) U λU1=>body {D with nx:=cK g body xs D,ct:=cK g body xs D,bk:=D.nx} U1
def fI(it:WI)(g:WG)(body:WS):WS:=λD U=>it U (λl U1=>cK g body l D U1) D.ex
def hX(c:WT)(body:WS):WS:=λD U=>∃J:Nat->Env->Prop,(∃m,J m U)/\∀m U,J m U->c U (λk U1=>if k then
 body {D with nx:=λU2=>∃m',m'<m/\J m' U2,ct:=λU2=>∃m',m'<m/\J m' U2,bk:=D.nx} U1 else D.nx U1) D.ex
abbrev WB:=Env->(Env->Prop)->WX->Prop
def eK:WT:=λU Q _=>Q true U
def aO(g:WG)(c:WT)(b:WB):List D->WB
 |[],U,Q,_=>Q U
 |x::xs,U,Q,E=>g (.sh x) U λU1=>c U1 (λk U2=>if k then b U2 (λU3=>aO g c b xs U3 Q E) E else aO g c b xs U2 Q E) E
def vK(it:WI)(g:WG)(c:WT)(b:WB):WB:=λU Q E=>it U (λl U1=>aO g c b l U1 Q E) E
def dQ(n:Nat)(a:WE):WB:=λU Q E=>a U (λr U1=>zG (give r U1) λp=>match slot p.2 n with
 |some (.lst l)=>l.length<big/\Q (p.2.set n (some (.lst (l++[p.1]))))
 |_=>False) E
def sY(n k:Nat)(it:WI)(g:WG)(c:WT)(b:WB):WE:=λU Q E=>it U (λl U1=>aO g c b l (U1++some (.lst [])::List.replicate k none) (λU2=>zG (slot U2 n) λs=>Q (.v s) (U2.take n)) NX) E
def aC:List S->Env->Option (List S)
 |[],_=>some []
 |.sh d::ss,_::U=>(aC ss U).map (.sh d::·)
 |_::ss,some s::U=>(aC ss U).map (s::·)
 |_,_=>none
def jB(n m:Nat)(ks:List Nat)(body:WS):WF:=λss P PX=>ss.length=n/\(∀i s,ss[i]?=some s->i∈ks\/s.isSh=true)/\
 body {nx:=λU=>zG (aC ss U) λfs=>P (.sh .non) fs
       rt:=λr U=>match r with
        |.v s=>zG (aC ss U) λfs=>P s fs
        |.loc i=>zG (slot U i) λs=>if i<n then zG (aC ss (U.set i (some (.sh s.toD)))) λfs=>P (.sh s.toD) fs else zG (aC ss U) λfs=>P s fs
       bk:=λ_=>False
       ct:=λ_=>False
       ex:=λx U=>zG (aC ss U) λfs=>PX x fs} (ss.map some++List.replicate (m-n) none)
end FL
namespace FL
open PySem L2
def aL:aQ->D
 |.inl i=>.int i
 |.inr x=>.str x.cps.toList
def KS(a C:Addr)(dx:Option Addr)(h:Heap):Prop:=∃o vs,h.get? a=some o/\o.cls=.ref C/\o.dict=dx/\o.data=.fields vs
def fC:HO->Bool
 |.tup _=>false
 |_=>true
def vM(F:Hp)(dx:Option Addr)(fs:List (List Nat))(vs:List D):Prop:=(dx=none/\fs=[]/\vs=[])\/∃p f i,dx=some p/\fs=[f]/\vs=[.int i]/\F p=some (.xd [((⟨f.toArray⟩:Str),.int i)])
mutual
inductive aN(K:W.Frag)(F:Hp):V->D->Prop
 |non:aN K F .non .non
 |bl (b:Bool):aN K F (.bl b) (.bl b)
 |int (i:Int):aN K F (.int i) (.int i)
 |str {x:Str} {l:List Nat}:x.cps.toList=l->l.length<=16777216->aN K F (.str x) (.str l)
 |tup {a:Addr} {xs:List V} {ds:List D}:F a=some (.tup xs)->zS K F xs ds->aN K F (.ref a) (.tup ds)
 |lst {a:Addr} {xs:List V} {ds:List D}:bR K F a xs->zS K F xs ds->aN K F (.ref a) (.lst ds)
 |dK {a:Addr} {zV:List (aQ×V)} {ks vs:List D}:Rd F a (.dK zV)->ks=zV.map (λp=>aL p.1)->zS K F (zV.map (·.2)) vs->aN K F (.ref a) (.dct false ks vs)
 |dT {a:Addr} {zV:List (List aQ×V)} {ks vs:List D}:Rd F a (.dT zV)->ks=zV.map (λp=>D.tup (p.1.map aL))->zS K F (zV.map (·.2)) vs->aN K F (.ref a) (.dct true ks vs)
 |st {a:Addr} {xs:List V} {ds:List D}:F a=some (.set xs)->zS K F xs ds->aN K F (.ref a) (.set ds)
 |exc {a C:Addr} {dx:Option Addr} {c:List Nat} {fs:List (List Nat)} {vs:List D}:F a=some (.ext (KS a C dx))->W.nsIn K mainGlobals (⟨c.toArray⟩:Str)=some (some (.ref C))->vM F dx fs vs->aN K F (.ref a) (.exc c fs vs)
inductive zS(K:W.Frag)(F:Hp):List V->List D->Prop
 |nil:zS K F [] []
 |cons {x:V} {d:D} {xs:List V} {ds:List D}:aN K F x d->zS K F xs ds->zS K F (x::xs) (d::ds)
end
mutual
inductive aM(K:W.Frag)(F H:Hp):V->S->List Addr->Prop
 |sh {v:V} {d:D}:aN K F v d->aM K F H v (.sh d) []
 |lst {a:Addr} {xs:List V} {l:List S} {fp:List Addr}:H a=some (.lst xs)->zK K F H xs l fp->aM K F H (.ref a) (.lst l) (a::fp)
 |dK {a:Addr} {zV:List (aQ×V)} {ks:List D} {l:List S} {fp:List Addr}:H a=some (.dK zV)->ks=zV.map (λp=>aL p.1)->zK K F H (zV.map (·.2)) l fp->aM K F H (.ref a) (.dct false ks l) (a::fp)
 |dT {a:Addr} {zV:List (List aQ×V)} {ks:List D} {l:List S} {fp:List Addr}:H a=some (.dT zV)->ks=zV.map (λp=>D.tup (p.1.map aL))->zK K F H (zV.map (·.2)) l fp->aM K F H (.ref a) (.dct true ks l) (a::fp)
 |st {a:Addr} {xs:List V} {ds:List D}:H a=some (.set xs)->zS K F xs ds->aM K F H (.ref a) (.set ds) [a]
inductive zK(K:W.Frag)(F H:Hp):List V->List S->List Addr->Prop
 |nil:zK K F H [] [] []
 |cons {x:V} {s:S} {xs:List V} {l:List S} {fp fq:List Addr}:aM K F H x s fp->zK K F H xs l fq->zK K F H (x::xs) (s::l) (fp++fq)
end
def Rd.mono(h:zH F F')(r:Rd F a u):Rd F' a u:=by
 rcases r with r|⟨o,r⟩
 .exact .inl (h _ _ r)
 .exact .inr ⟨o,h _ _ r⟩
def bR.mono(h:zH F F')(r:bR K F a xs):bR K F' a xs:=r.elim (λr=>.inl (Rd.mono h r)) .inr
def bP.mono(h:zH F F')(r:bP K F a xs):bP K F' a xs:=r.elim (λr=>.inl (Rd.mono h r)) .inr
def zS.ind{P:List V->List D->Prop}(hn:P [] [])(hc:∀{x:V}{d:D}{xs:List V}{ds:List D},aN K F x d->zS K F xs ds->P xs ds->P (x::xs) (d::ds))(r:zS K F xs ds):P xs ds:=
 zS.rec (motive_1:=λ_ _ _=>True) (motive_2:=λxs ds _=>P xs ds) trivial (λ_=>trivial) (λ_=>trivial) (λ_ _=>trivial) (λ_ _ _=>trivial) (λ_ _ _=>trivial) (λ_ _ _ _=>trivial) (λ_ _ _ _=>trivial) (λ_ _ _=>trivial) (λ_ _ _=>trivial) hn (λa b _ ih=>hc a b ih) r
def zK.ind{P:List V->List S->List Addr->Prop}(hn:P [] [] [])(hc:∀{x:V}{s:S}{xs:List V}{l:List S}{fp fq:List Addr},aM K F H x s fp->zK K F H xs l fq->P xs l fq->P (x::xs) (s::l) (fp++fq))(r:zK K F H xs l fp):P xs l fp:=
 zK.rec (motive_1:=λ_ _ _ _=>True) (motive_2:=λxs l fp _=>P xs l fp) (λ_=>trivial) (λ_ _ _=>trivial) (λ_ _ _ _=>trivial) (λ_ _ _ _=>trivial) (λ_ _=>trivial) hn (λa b _ ih=>hc a b ih) r
def vM.mono(h:zH F F')(x:vM F dx fs vs):vM F' dx fs vs:=x.imp id λ⟨p,f,i,e1,e2,e3,e4⟩=>⟨p,f,i,e1,e2,e3,h _ _ e4⟩
def aN.mono(h:zH F F')(r:aN K F v d):aN K F' v d:=
 aN.rec (motive_1:=λv d _=>aN K F' v d) (motive_2:=λv d _=>zS K F' v d) .non .bl .int (λe z=>.str e z) (λe _ ih=>.tup (h _ _ e) ih) (λe _ ih=>.lst (bR.mono h e) ih) (λe k _ ih=>.dK (Rd.mono h e) k ih) (λe k _ ih=>.dT (Rd.mono h e) k ih) (λe _ ih=>.st (h _ _ e) ih) (λe k x=>.exc (h _ _ e) k (x.mono h)) .nil (λ_ _ a b=>.cons a b) r
def zS.mono(h:zH F F')(r:zS K F v d):zS K F' v d:=zS.ind .nil (λa _ ih=>.cons (aN.mono h a) ih) r
def aM.mono(h:zH F F')(r:aM K F H v s fp):(∀a∈fp,H' a=H a)->aM K F' H' v s fp:=
 aM.rec (motive_1:=λv s fp _=>(∀a∈fp,H' a=H a)->aM K F' H' v s fp) (motive_2:=λv s fp _=>(∀a∈fp,H' a=H a)->zK K F' H' v s fp)
  (λr _=>.sh (aN.mono h r)) (λe _ ih k=>.lst ((k _ qo).trans e) (ih λa ha=>k a (qm _ ha)))
  (λe q _ ih k=>.dK ((k _ qo).trans e) q (ih λa ha=>k a (qm _ ha))) (λe q _ ih k=>.dT ((k _ qo).trans e) q (ih λa ha=>k a (qm _ ha)))
  (λe r k=>.st ((k _ qo).trans e) (zS.mono h r)) (λ_=>.nil) (λ_ _ a b k=>.cons (a λc hc=>k c (qk _ hc)) (b λc hc=>k c (qj _ hc))) r
def zK.mono(h:zH F F')(r:zK K F H v s fp):(∀a∈fp,H' a=H a)->zK K F' H' v s fp:=
 zK.ind (P:=λv s fp=>(∀a∈fp,H' a=H a)->zK K F' H' v s fp) (λ_=>.nil) (λa _ b k=>.cons (aM.mono h a λc hc=>k c (qk _ hc)) (b λc hc=>k c (qj _ hc))) r
def aM.frz(h:zH F F')(r:aM K F H v s fp):(∀a∈fp,F' a=H a)->aN K F' v s.toD:=
 aM.rec (motive_1:=λv s fp _=>(∀a∈fp,F' a=H a)->aN K F' v s.toD) (motive_2:=λv s fp _=>(∀a∈fp,F' a=H a)->zS K F' v (S.toDs s))
  (λr _=>aN.mono h r) (λe _ ih k=>.lst (bR.of ((k _ qo).trans e)) (ih λa ha=>k a (qm _ ha)))
  (λe q _ ih k=>.dK (.of ((k _ qo).trans e)) q (ih λa ha=>k a (qm _ ha))) (λe q _ ih k=>.dT (.of ((k _ qo).trans e)) q (ih λa ha=>k a (qm _ ha)))
  (λe r k=>.st ((k _ qo).trans e) (zS.mono h r)) (λ_=>.nil) (λ_ _ a b k=>.cons (a λc hc=>k c (qk _ hc)) (b λc hc=>k c (qj _ hc))) r
def zK.frz(h:zH F F')(r:zK K F H v s fp):(∀a∈fp,F' a=H a)->zS K F' v (S.toDs s):=
 zK.ind (P:=λv s fp=>(∀a∈fp,F' a=H a)->zS K F' v (S.toDs s)) (λ_=>.nil) (λa _ b k=>.cons (aM.frz h a λc hc=>k c (qk _ hc)) (b λc hc=>k c (qj _ hc))) r
def aM.view(h:zH F H)(r:aM K F H v s fp):aN K H v s.toD:=aM.frz h r λ_ _=>rfl
def aM.in_:∀{v:V}{s:S}{fp:List Addr},aM K F H v s fp->∀a∈fp,∃o,H a=some o/\fC o=true:=by
 intro v s fp r;refine aM.rec (motive_1:=λv s fp _=>∀a∈fp,∃o,H a=some o/\fC o=true) (motive_2:=λv s fp _=>∀a∈fp,∃o,H a=some o/\fC o=true) ?_ ?_ ?_ ?_ ?_ ?_ ?_ r
 .intro v d r a ha;cases ha
 .grind[fC]
 .grind[fC]
 .grind[fC]
 .grind[fC]
 .intro a ha;cases ha
 grind
inductive zJ(K:W.Frag)(F H:Hp):Env->St->List Addr->Prop
 |nil:zJ K F H [] [] []
 |no {U:Env} {Z:St} {o:Option V} {fp:List Addr}:zJ K F H U Z fp->zJ K F H (none::U) (o::Z) fp
 |so {U:Env} {Z:St} {v:V} {s:S} {fp fq:List Addr}:aM K F H v s fp->zJ K F H U Z fq->zJ K F H (some s::U) (some v::Z) (fp++fq)
def zJ.len(r:zJ K F H U Z fp):U.length=Z.length:=by
 induction r with
 |nil=>rfl
 |no _ ih=>exact congrArg (·+1) ih
 |so _ _ ih=>exact congrArg (·+1) ih
def zJ.mono(h:zH F F')(r:zJ K F H U Z fp)(k:∀a∈fp,H' a=H a):zJ K F' H' U Z fp:=by
 induction r with
 |nil=>exact .nil
 |no _ ih=>exact .no (ih k)
 |so a _ ih=>exact .so (aM.mono h a λc hc=>k c (qk _ hc)) (ih λc hc=>k c (qj _ hc))
def zJ.in_(r:zJ K F H U Z fp):∀a∈fp,∃o,H a=some o/\fC o=true:=by
 induction r with
 |nil=>exact λa ha=>nomatch ha
 |no _ ih=>exact ih
 |so q _ ih=>exact λa ha=>(qz.mp ha).elim (λz=>aM.in_ q a z) λz=>ih a z
def zJ.app(r:zJ K F H U Z fp)(r':zJ K F H U' Z' fq):zJ K F H (U++U') (Z++Z') (fp++fq):=by
 induction r with
 |nil=>exact r'
 |no _ ih=>exact .no ih
 |so a _ ih=>rw[qq];exact .so a ih
inductive Gj(K:W.Frag)(F H:Hp)(U:Env)(Z:St)(U':Env)(Z':St)(fp:List Addr):Prop
 |mk (f1 f2:List Addr):fp=f1++f2->zJ K F H U Z f1->zJ K F H U' Z' f2->Gj K F H U Z U' Z' fp
def zJ.cut(e:U.length=Z.length)(r:zJ K F H (U++U') (Z++Z') fp):Gj K F H U Z U' Z' fp:=by
 induction U generalizing Z fp with
 |nil=>cases Z with
  |nil=>exact⟨[],fp,rfl,.nil,r⟩
  |cons _ _=>exact absurd e.symm (Nat.succ_ne_zero _)
 |cons x U ih=>cases Z with
  |nil=>exact absurd e (Nat.succ_ne_zero _)
  |cons y Z=>cases r with
   |no r=>obtain⟨f1,f2,rfl,a,b⟩:=ih (Nat.succ.inj e) r;exact⟨f1,f2,rfl,.no a,b⟩
   |so q r=>obtain⟨f1,f2,rfl,a,b⟩:=ih (Nat.succ.inj e) r;exact⟨_,f2,(qq ..).symm,.so q a,b⟩
def Pt(K:W.Frag)(F H:Hp)(U:Env)(Z:St)(i:Nat)(fa fb:List Addr):Prop:=∀{F' H':Hp}{o:Option S}{u:Option V}{fi':List Addr},zH F F'->(∀a∈fa++fb,H' a=H a)->(zJ K F' H' [o] [u] fi')->zJ K F' H' (U.set i o) (Z.set i u) (fa++(fi'++fb))
inductive Pu(K:W.Frag)(F H:Hp)(U:Env)(Z:St)(fp:List Addr)(i:Nat)(s:S):Prop
 |mk (v:V) (fa fi fb:List Addr):Z[i]?=some (some v)->fp=fa++(fi++fb)->aM K F H v s fi->Pt K F H U Z i fa fb->Pu K F H U Z fp i s
inductive Gi(K:W.Frag)(F H:Hp)(U:Env)(Z:St)(fp:List Addr)(i:Nat):Prop
 |mk (fa fi fb:List Addr):fp=fa++(fi++fb)->Pt K F H U Z i fa fb->Gi K F H U Z fp i
def zJ.at:∀{U:Env}{Z:St}{fp:List Addr}{i:Nat}{s:S},zJ K F H U Z fp->slot U i=some s->Pu K F H U Z fp i s
 |_,_,_,_,_,.nil,e=>by simp[slot]at e
 |_,_,_,0,_,.no r,e=>by simp at e
 |_,_,_,0,s,.so (fp:=fp) (fq:=fq) q r,e=>by simp at e;subst e;refine⟨_,[],fp,fq,rfl,rfl,q,λ{F' H' o u fi'} h k x=>?_⟩;have r':=zJ.mono (H':=H') h r λa ha=>k a ha;exact x.app r'
 |_,_,_,i+1,s,.no r,e=>by obtain⟨v,fa,fi,fb,e1,rfl,q,up⟩:=zJ.at r (by simpa using e);exact⟨v,fa,fi,fb,by simpa using e1,rfl,q,λh k x=>.no (up h k x)⟩
 |_,_,_,i+1,s,.so (fp:=fp) (fq:=fq) p r,e=>by obtain⟨v,fa,fi,fb,e1,rfl,q,up⟩:=zJ.at r (by simpa using e);refine⟨v,fp++fa,fi,fb,by simpa using e1,(qq ..).symm,q,λ{F' H' o u fi'} h k x=>?_⟩;rw[qq];exact .so (aM.mono h p λa ha=>k a (qk _ (qk _ ha))) (up h (λa ha=>k a ((qz.mp ha).elim (λz=>qk _ (qj _ z)) λz=>qj _ z)) x)
def zJ.put:∀{U:Env}{Z:St}{fp:List Addr}{i:Nat},zJ K F H U Z fp->i<U.length->Gi K F H U Z fp i
 |_,_,_,_,.nil,e=>by simp at e
 |_,_,fp,0,.no r,e=>⟨[],[],fp,rfl,λ{F' H' o u fi'} h k x=>x.app (zJ.mono (H':=H') h r λa ha=>k a ha)⟩
 |_,_,_,0,.so (fp:=fp) (fq:=fq) q r,e=>⟨[],fp,fq,rfl,λ{F' H' o u fi'} h k x=>x.app (zJ.mono (H':=H') h r λa ha=>k a ha)⟩
 |_,_,_,i+1,.no r,e=>by obtain⟨fa,fi,fb,rfl,up⟩:=zJ.put (i:=i) r (by simpa using e);exact⟨fa,fi,fb,rfl,λh k x=>.no (up h k x)⟩
 |_,_,_,i+1,.so (fp:=fp) (fq:=fq) p r,e=>by obtain⟨fa,fi,fb,rfl,up⟩:=zJ.put (i:=i) r (by simpa using e);refine⟨fp++fa,fi,fb,(qq ..).symm,λ{F' H' o u fi'} h k x=>?_⟩;rw[qq];exact .so (aM.mono h p λa ha=>k a (qk _ (qk _ ha))) (up h (λa ha=>k a ((qz.mp ha).elim (λz=>qk _ (qj _ z)) λz=>qj _ z)) x)
inductive vO(K:W.Frag)(U:Env)(Z:St)(F G H:Hp):Prop
 |mk (fp:List Addr):zJ K F H U Z fp->fp.Nodup->(∀a∈fp,F a=none/\G a=none)->vO K U Z F G H
structure Rel(K:W.Frag)(U:Env)(Z:St)(F G H:Hp):Prop where
 fr:zH F H
 gr:∀a o,G a=some o->(H a=some o/\fC o=true)/\F a=none
 en:vO K U Z F G H
def Rel.len(r:Rel K U Z F G H):U.length=Z.length:=let⟨_,e,_,_⟩:=r.en;e.len
def Rel.free(r:Rel K U Z F G H)(h:H p=none):F p=none/\G p=none/\∀fp,zJ K F H U Z fp->p∉fp:=by
 refine⟨?_,?_,λfp e hp=>?_⟩
 .cases q:F p with
  |none=>rfl
  |some o=>rw[r.fr p o q]at h;cases h
 .cases q:G p with
  |none=>rfl
  |some o=>rw[(r.gr p o q).1.1]at h;cases h
 .obtain⟨o,q,_⟩:=e.in_ p hp;rw[h]at q;cases q
def zH.upd(h:F p=none):zH F (upd F p o):=λb u e=>by rw[bJ (λz=>by rw[z,h]at e;cases e)];exact e
def zH.upd2(h:zH F H):zH (L2.upd F p o) (L2.upd H p o):=λb u e=>by
 by_cases q:b=p
 .subst q;rw[gC]at e⊢;exact e
 .rw[bJ q]at e⊢;exact h b u e
def zH.updR(h:zH F H)(n:F p=none):zH F (L2.upd H p o):=λb u e=>by rw[bJ (λz=>by rw[z,n]at e;cases e)];exact h b u e
def Rel.newF(r:Rel K U Z F G H)(h:H p=none):Rel K U Z (upd F p o) G (upd H p o):=by
 obtain⟨f0,g0,n0⟩:=r.free h;obtain⟨fp,e,nd,ap⟩:=r.en;have hne:∀a∈fp,a≠p:=λa ha z=>n0 fp e (z▸ha);refine⟨zH.upd2 r.fr,λa u q=>?_,fp,e.mono (zH.upd f0) λa ha=>bJ (hne a ha),nd,λa ha=>?_⟩
 .have hp:a≠p:=λz=>by rw[z,g0]at q;cases q
  rw[bJ hp,bJ hp];exact r.gr a u q
 .rw[bJ (hne a ha)];exact ap a ha
def Rel.newO(r:Rel K U Z F G H)(h:H p=none)(q:aM K F (upd H p o) (.ref p) s [p]):Rel K (U++[some s]) (Z++[some (.ref p)]) F G (upd H p o):=by
 obtain⟨f0,g0,n0⟩:=r.free h;obtain⟨fp,e,nd,ap⟩:=r.en;have hne:∀a∈fp,a≠p:=λa ha z=>n0 fp e (z▸ha);refine⟨zH.updR r.fr f0,λa u q=>?_,fp++([p]++[]),(e.mono (zH.refl F) λa ha=>bJ (hne a ha)).app (.so q .nil),?_,λa ha=>?_⟩
 .have hp:a≠p:=λz=>by rw[z,g0]at q;cases q
  rw[bJ hp];exact r.gr a u q
 .grind
 grind
def Rel.drop(r:Rel K (U++U') (Z++Z') F G H)(h:U.length=Z.length):Rel K U Z F G H:=by obtain⟨fp,e,nd,ap⟩:=r.en;obtain⟨f1,f2,rfl,a,b⟩:=e.cut h;exact⟨r.fr,r.gr,f1,a,(qy.mp nd).1,λc hc=>ap c (qk _ hc)⟩
def Rel.hide(r:Rel K (U++U') (Z++Z') F G H)(h:U.length=Z.length):∃G',Rel K U Z F G' H/\zH G G'/\
  ∀{U2:Env}{Z2:St}{F2 H2:Hp},zH F F2->Rel K U2 Z2 F2 G' H2->Rel K (U2++U') (Z2++Z') F2 G H2:=by
 classical
 obtain⟨fp,e,nd,ap⟩:=r.en;obtain⟨f1,f2,rfl,a,b⟩:=e.cut h;obtain⟨n1,n2,n12⟩:=qy.mp nd;refine⟨λx=>if x∈f2 then H x else G x,⟨r.fr,λx o q=>?_,f1,a,n1,λx hx=>?_⟩,λx o q=>?_,λ{U2 Z2 F2 H2} sm r2=>?_⟩
 .by_cases z:x∈f2
  .have:=b.in_ x z;grind
  .simp only[z,if_false]at q;exact r.gr x o q
 .grind
 .grind
 .obtain⟨fp2,e2,nd2,ap2⟩:=r2.en;have hk:∀x∈f2,H2 x=H x/\F2 x=none/\x∉fp2:=λx hx=>by obtain⟨o,q,_⟩:=b.in_ x hx;have w:=r2.gr x o (by simp only[hx,if_true];exact q);grind
  refine⟨r2.fr,λx o q=>?_,fp2++f2,e2.app (b.mono sm λx hx=>(hk x hx).1),?_,λx hx=>?_⟩
  .have z:x∉f2:=λz=>by grind
   exact r2.gr x o (by simp only[z,if_false];exact q)
  .grind
  grind
def Rel.weakG(r:Rel K U Z F G' H)(h:zH G G'):Rel K U Z F G H:=by
 obtain⟨fp,e,nd,ap⟩:=r.en;refine⟨r.fr,λa o q=>r.gr a o (h a o q),fp,e,nd,λa ha=>⟨(ap a ha).1,?_⟩⟩;cases q:G a with
 |none=>rfl
 |some o=>have:=(ap a ha).2;rw[h a o q]at this;cases this
def Rel.swap(h:U.length=Z.length)(h1:U1.length=Z1.length)(r:Rel K (U++(U1++U2)) (Z++(Z1++Z2)) F G H):Rel K (U++(U2++U1)) (Z++(Z2++Z1)) F G H:=by obtain⟨fp,e,nd,ap⟩:=r.en;obtain⟨f0,f12,rfl,a,b⟩:=e.cut h;obtain⟨f1,f2,rfl,b1,c⟩:=b.cut h1;have p:(f0++(f2++f1)).Perm (f0++(f1++f2)):=List.Perm.append_left _ qO;exact⟨r.fr,r.gr,_,a.app (c.app b1),p.nodup_iff.mpr nd,λx hx=>ap x (p.mem_iff.mp hx)⟩
def Rel.push(r:Rel K U Z F G H)(h:aN K F v d):Rel K (U++[some (.sh d)]) (Z++[some v]) F G H:=by
 obtain⟨fp,e,nd,ap⟩:=r.en;refine⟨r.fr,r.gr,fp++([]++[]),e.app (.so (.sh h) .nil),?_,λx hx=>ap x ?_⟩
 .simpa using nd
 .simpa using hx
def Rel.pushN(r:Rel K U Z F G H):Rel K (U++[none]) (Z++[u]) F G H:=by
 obtain⟨fp,e,nd,ap⟩:=r.en;refine⟨r.fr,r.gr,fp++[],e.app (.no .nil),?_,λx hx=>ap x ?_⟩
 .simpa using nd
 .simpa using hx
def Jh(h:slot U i=some s):U[i]?=some (some s):=by
 induction U generalizing i with
 |nil=>simp[slot]at h
 |cons a r ih=>cases i with
  |zero=>simp at h;simp[h]
  |succ i=>simp at h;simpa using ih h
def Dz(h:slot U i=some s):i<U.length:=(qh.mp (Jh h)).1
def Ew(h:i<U.length):slot (U++U') i=slot U i:=by
 induction U generalizing i with
 |nil=>simp at h
 |cons a r ih=>cases i with
  |zero=>rfl
  |succ i=>simpa using ih (by simpa using h)
def Av:slot (U++o::U') U.length=o:=by
 induction U with
 |nil=>rfl
 |cons a r ih=>simpa using ih
inductive Po(K:W.Frag)(F H:Hp)(Z:St)(i:Nat)(s:S):Prop
 |mk (v:V) (fp:List Addr):Z[i]?=some (some v)->aM K F H v s fp->Po K F H Z i s
def Rel.at(r:Rel K U Z F G H)(h:slot U i=some s):Po K F H Z i s:=by obtain⟨fp,e,nd,ap⟩:=r.en;obtain⟨v,fa,fi,fb,e1,_,q,_⟩:=e.at h;exact⟨v,fi,e1,q⟩
def Rel.give(r:Rel K U Z F G H)(h:slot U i=some s):∃v F',Z[i]?=some (some v)/\zH F F'/\aN K F' v s.toD/\Rel K (U.set i (some (.sh s.toD))) Z F' G H:=by
 classical
 obtain⟨fp,e,nd,ap⟩:=r.en;obtain⟨v,fa,fi,fb,e1,rfl,q,up⟩:=e.at h;obtain⟨na,nib,nab⟩:=qy.mp nd;obtain⟨ni,nb,nib⟩:=qy.mp nib;have nofi:∀x∈fa++fb,x∉fi:=λx hx z=>by grind
 have sm:zH F (λx=>if x∈fi then H x else F x):=λx o w=>by grind
 have rp:aN K (λx=>if x∈fi then H x else F x) v s.toD:=q.frz sm λx hx=>by simp only[hx,if_true]
 have e2:Z.set i (some v)=Z:=by apply ext_getElem?;grind
 refine⟨v,_,e1,sm,rp,λx o w=>?_,λx o w=>?_,fa++([]++fb),?_,?_,λx hx=>?_⟩
 .by_cases z:x∈fi
  .simp only[z,if_true]at w;exact w
  .simp only[z,if_false]at w;exact r.fr x o w
 .have w2:=r.gr x o w;grind
 .have:=up (F':=λx=>if x∈fi then H x else F x) (H':=H) (o:=some (.sh s.toD)) (u:=some v) (fi':=[]) sm (λ_ _=>rfl) (.so (.sh rp) .nil);rw[e2]at this;exact this
 .grind
 grind
def Rel.store(r:Rel K (U++[o]) (Z++[u]) F G H)(h:U.length=Z.length)(hi:i<U.length):Rel K (U.set i o) (Z.set i u) F G H:=by
 obtain⟨fp,e,nd,ap⟩:=r.en;obtain⟨f1,f2,rfl,a,b⟩:=e.cut h;obtain⟨fa,fi,fb,rfl,up⟩:=a.put hi;obtain⟨n1,n2,n12⟩:=qy.mp nd;obtain⟨na,nib,nab⟩:=qy.mp n1;obtain⟨ni,nb,nib⟩:=qy.mp nib;refine⟨r.fr,r.gr,fa++(f2++fb),up (zH.refl F) (λ_ _=>rfl) b,?_,λx hx=>?_⟩
 .grind
 grind
end FL
namespace FL
open PySem PySem.Spec PyProof.Rows L2
abbrev St:=L2.St
abbrev wp(X:Cx)(pn:List (Addr×Obj))(xe:zw):Cx:={X with pn:=pn,xe:=xe}
def zI:R->Option S
 |.v s=>some s
 |.loc _=>none
def RV(Z:St)(v:V):R->Prop
 |.v _=>True
 |.loc i=>Z[i]?=some (some v)
def vZ(Z:St):List V->List R->Prop
 |[],[]=>True
 |v::vs,r::rs=>RV Z v r/\vZ Z vs rs
 |_,_=>False
def FP(K:W.Frag)(F:Hp)(d:D)(C:Addr)(dx:Option Addr):Prop:=∃c fs vs,d=.exc c fs vs/\W.nsIn K mainGlobals (⟨c.toArray⟩:Str)=some (some (.ref C))/\vM F dx fs vs
def Lb(X:Cx)(F H:Hp)(h:Heap)(u:Value)(d:D):Prop:=∃e C dx,u=.ref e/\FP X.K F d C dx/\DP X [] H h e (.ref C) dx
def KP(ks:List Nat)(Z Z':St):Prop:=∀i∈ks,Z'[i]?=Z[i]?
def XC(X:Cx)(T:St->Prop)(F G:Hp)(PX:WX):Prop:=∀(d:D)(U':Env)(Z':St)(F' H':Hp)(u:Value)(s':Shared),PX d U'->T Z'->zH F F'->Rel X.K U' Z' F' G H'->Inv X [] Z' H' s'->Lb X F' H' s'.heap u d->X.xe u s'
def XC.mono(h:XC X T F G PX)(t:∀Z,T' Z->T Z)(f:zH F F')(g:zH G G'):XC X T' F' G' PX:=
 λd U' Z' F2 H2 u s' p q sm r I x=>h d U' Z' F2 H2 u s' p (t _ q) (f.trans sm) (r.weakG g) I x
def XC.grow(h:XC X T F G PX)(f:zH F F'):XC X T F' G PX:=h.mono (λ_ z=>z) f (zH.refl G)
inductive tW(X:Cx)(w:WE)(Z:St)(H:Hp)(Q:VK):Prop
 |mk (F G:Hp) (U:Env) (P:WQ) (PX:WX) (zW:Rel X.K U Z F G H) (hw:w U P PX) (hok:∀r U' v F' H',P r U'->zH F F'->Rel X.K (U'++[zI r]) (Z++[some v]) F' G H'->RV Z v r->Q v H') (hx:XC X (·=Z) F G PX):tW X w Z H Q
def FE(X:Cx)(e:Expr)(w:WE):Prop:=∀(pn:List (Addr×Obj))(xe:zw),PassesOwn (model X.prog X.w) X.A X.env xe->PE (wp X pn xe) e (tW (wp X pn xe) w)
inductive lL(X:Cx)(w:WT)(Z:St)(H:Hp)(Q:Bool->Hp->Prop):Prop
 |mk (F G:Hp) (U:Env) (P:Bool->Env->Prop) (PX:WX) (zW:Rel X.K U Z F G H) (hw:w U P PX) (hok:∀b U' F' H',P b U'->zH F F'->Rel X.K U' Z F' G H'->Q b H') (hx:XC X (·=Z) F G PX):lL X w Z H Q
def FT(X:Cx)(e:Expr)(w:WT):Prop:=∀(pn:List (Addr×Obj))(xe:zw),PassesOwn (model X.prog X.w) X.A X.env xe->PT (wp X pn xe) e (lL (wp X pn xe) w)
def FW(X:Cx)(e:Expr)(w:WT):Prop:=∀(pn:List (Addr×Obj))(xe:zw),PassesOwn (model X.prog X.w) X.A X.env xe->PW (wp X pn xe) e (lL (wp X pn xe) w)
inductive xG(X:Cx)(w:WA)(Z:St)(H:Hp)(Q:List V->Hp->Prop):Prop
 |mk (F G:Hp) (U:Env) (P:List R->Env->Prop) (PX:WX) (zW:Rel X.K U Z F G H) (hw:w U P PX) (hok:∀rs U' vs F' H',P rs U'->zH F F'->Rel X.K (U'++rs.map zI) (Z++vs.map some) F' G H'->U'.length=Z.length->vZ Z vs rs->Q vs H') (hx:XC X (·=Z) F G PX):xG X w Z H Q
def FA(X:Cx)(es:List Expr)(w:WA):Prop:=∀(pn:List (Addr×Obj))(xe:zw),PassesOwn (model X.prog X.w) X.A X.env xe->PA (wp X pn xe) es (xG (wp X pn xe) w)
def PE.imp(h:PE X e t)(k:∀Z H Q,t' Z H Q->t Z H Q):PE X e t':=λzU s Z H Q I q=>h zU s Z H Q I (k Z H Q q)
def PT.imp(h:PT X e t)(k:∀Z H Q,t' Z H Q->t Z H Q):PT X e t':=λzU s Z H Q I q=>h zU s Z H Q I (k Z H Q q)
def PW.imp(h:PW X e t)(k:∀Z H Q,t' Z H Q->t Z H Q):PW X e t':=λwh zU s Z H Q I q=>h wh zU s Z H Q I (k Z H Q q)
def PA.imp(h:PA X e t)(k:∀Z H Q,t' Z H Q->t Z H Q):PA X e t':=λp zU s Z H Q I q=>h p zU s Z H Q I (k Z H Q q)
section
variable{K:W.Frag}
def Rel.mid(r:Rel K (U++o::U') (Z++w::Z') F G H)(h:U.length=Z.length):Rel K (U++U') (Z++Z') F G H:=by obtain⟨fp,e,nd,ap⟩:=r.en;obtain⟨f1,f2,rfl,a,b⟩:=e.cut h;obtain⟨f2,f3,rfl,b,c⟩:=zJ.cut (U:=[o]) (Z:=[w]) rfl b;obtain⟨n1,n2,n3⟩:=qy.mp nd;obtain⟨n4,n5,n6⟩:=qy.mp n2;refine⟨r.fr,r.gr,f1++f3,a.app c,qy.mpr ⟨n1,n5,λx hx y hy=>n3 x hx y (qj _ hy)⟩,λx hx=>ap x ?_⟩;grind
def aS(r:Rel K (U++[o]) (Z++[w]) F G H):U.length=Z.length:=by have:=r.len;simpa using this
def Je:(U++o::U').set U.length o'=U++o'::U':=by
 induction U with
 |nil=>rfl
 |cons a r ih=>simpa using ih
inductive Nd{α:Type}(o:Option α)(k:α->Prop):Prop
 |mk (a:α):o=some a->k a->Nd o k
def bL(h:zG o k):Nd o k:=by
 cases o with
 |none=>exact h.elim
 |some a=>exact⟨a,rfl,h⟩
def bG(K:W.Frag)(F H:Hp)(v:V)(d:D):Prop:=aN K F v d\/
 (∃a xs ds,v=.ref a/\d=.lst ds/\H a=some (.lst xs)/\zS K F xs ds)\/
 (∃a zV ks vs,v=.ref a/\d=.dct false ks vs/\H a=some (.dK zV)/\ks=zV.map (λp=>aL p.1)/\zS K F (zV.map (·.2)) vs)\/
 (∃a zV ks vs,v=.ref a/\d=.dct true ks vs/\H a=some (.dT zV)/\ks=zV.map (λp=>D.tup (p.1.map aL))/\zS K F (zV.map (·.2)) vs)
def bG.mono(h:zH F F')(r:bG K F H v d):bG K F' H v d:=by
 rcases r with r|⟨a,xs,ds,e1,e2,e3,r⟩|⟨a,zV,ks,vs,e1,e2,e3,e4,r⟩|⟨a,zV,ks,vs,e1,e2,e3,e4,r⟩
 .exact .inl (r.mono h)
 .exact .inr (.inl ⟨a,xs,ds,e1,e2,e3,r.mono h⟩)
 .exact .inr (.inr (.inl ⟨a,zV,ks,vs,e1,e2,e3,e4,r.mono h⟩))
 .exact .inr (.inr (.inr ⟨a,zV,ks,vs,e1,e2,e3,e4,r.mono h⟩))
def zK.sh(r:zK K F H xs l fp):l.all S.isSh=true->zS K F xs (l.map S.toD)/\fp=[]:=
 zK.ind (P:=λxs l fp=>l.all S.isSh=true->zS K F xs (l.map S.toD)/\fp=[]) (λ_=>⟨.nil,rfl⟩) (λa _ ih h=>by
  rw[all_cons,and_eq_true]at h;obtain⟨q,e⟩:=ih h.2;cases a with
  |sh r=>exact⟨.cons r q,e⟩
  |_=>exact absurd h.1 (by simp[S.isSh])) r
def dJ(r:Rel K (U++(zI x::U')) (Z++(some v::Z')) F G H)(h:U.length=Z.length)(rv:RV Z v x)(e:view x U=some d):aN K H v d:=by
 cases x with
 |v s=>
  obtain⟨u,fp,e1,q⟩:=r.at (i:=U.length) (s:=s) Av;rw[h,getElem?_append_right (zc _),sub_self]at e1;have e2:v=u:=by simpa using e1
  subst e2;have e3:s.toD=d:=qg e;rw[<-e3];exact q.view r.fr
 |loc i=>
  have e':(slot U i).map S.toD=some d:=e;cases q:slot U i with
  |none=>rw[q]at e';cases e'
  |some s=>
   rw[q]at e';have e3:s.toD=d:=qg e';have hi:=Dz q;obtain⟨u,fp,e1,w⟩:=r.at (i:=i) (s:=s) (by rw[Ew hi];exact q);rw[getElem?_append_left (h▸hi)]at e1;have rv':Z[i]?=some (some v):=rv;rw[rv']at e1;have e2:v=u:=by simpa using e1
   subst e2;rw[<-e3];exact w.view r.fr
inductive Pm(K:W.Frag)(U:Env)(Z:St)(F G H:Hp)(v:V)(d:D):Prop
 |mk (F':Hp):zH F F'->bG K F' H v d->Rel K U Z F' G H->Pm K U Z F G H v d
def fQ(r:Rel K (U++(zI x::U')) (Z++(some v::Z')) F G H)(h:U.length=Z.length)(rv:RV Z v x)(e:zQ x U=some d):
  Pm K (U++U') (Z++Z') F G H v d:=by
 cases x with
 |v s=>
  obtain⟨u,F',e1,sm,rp,r'⟩:=r.give (i:=U.length) (s:=s) Av;rw[h,getElem?_append_right (zc _),sub_self]at e1;have e2:v=u:=by simpa using e1
  subst e2;have e3:s.toD=d:=qg e;rw[show(U++zI (.v s)::U').set U.length (some (S.sh s.toD))=U++some (S.sh s.toD)::U' from Je]at r';exact⟨F',sm,.inl (e3▸rp),r'.mid h⟩
 |loc i=>
  have e':(match slot U i with|some s=>if s.flat then some s.toD else none|none=>none)=some d:=e;cases q:slot U i with
  |none=>rw[q]at e';cases e'
  |some s=>
   rw[q]at e';have hi:=Dz q;obtain⟨u,fp,e1,w⟩:=r.at (i:=i) (s:=s) (by rw[Ew hi];exact q);rw[getElem?_append_left (h▸hi)]at e1;have rv':Z[i]?=some (some v):=rv;rw[rv']at e1;have e2:v=u:=by simpa using e1
   subst e2;refine⟨F,zH.refl F,?_,r.mid h⟩;by_cases hf:s.flat=true
   .have e3:s.toD=d:=by grind
    subst e3;cases w with
    |sh r=>exact .inl r
    |lst e0 r0=>obtain⟨r1,_⟩:=r0.sh hf;exact .inr (.inl ⟨_,_,_,rfl,by simp,e0,r1⟩)
    |dK e0 k0 r0=>obtain⟨r1,_⟩:=r0.sh hf;exact .inr (.inr (.inl ⟨_,_,_,_,rfl,by simp,e0,k0,r1⟩))
    |dT e0 k0 r0=>obtain⟨r1,_⟩:=r0.sh hf;exact .inr (.inr (.inr ⟨_,_,_,_,rfl,by simp,e0,k0,r1⟩))
    |st _ _=>exact absurd hf (by simp[S.flat])
   grind
inductive Pq(K:W.Frag)(L:Prop)(U:Env)(Z:St)(F G H:Hp):Prop
 |mk (F':Hp):zH F F'->L->Rel K U Z F' G H->Pq K L U Z F G H
def dF(r:Rel K (U++(zI x::U')) (Z++(some v::Z')) F G H)(h:U.length=Z.length)(rv:RV Z v x)(e:give x U=some (s,U1)):
  Pq K (U1.length=U.length) (U1++(some s::U')) (Z++(some v::Z')) F G H:=by
 cases x with
 |v t=>have e':some (t,U)=some (s,U1):=e;cases e';exact⟨F,zH.refl F,rfl,r⟩
 |loc i=>
  have e':(match slot U i with|some s=>some (S.sh s.toD,U.set i (some (.sh s.toD)))|none=>none)=some (s,U1):=e;cases q:slot U i with
  |none=>rw[q]at e';cases e'
  |some t=>
   rw[q]at e';cases e';have hi:=Dz q;obtain⟨u,F',e1,sm,rp,r'⟩:=r.give (i:=i) (s:=t) (by rw[Ew hi];exact q);rw[getElem?_append_left (h▸hi)]at e1;have rv':Z[i]?=some (some v):=rv;rw[rv']at e1;have e2:v=u:=by simpa using e1
   subst e2;rw[List.set_append_left _ _ hi]at r';refine⟨F',sm,by simp,?_⟩;obtain⟨fp,en,nd,ap⟩:=r'.en;have hl:(U.set i (some (S.sh t.toD))).length=Z.length:=by simpa using h
   obtain⟨f1,f2,rfl,a,b⟩:=en.cut hl;have b':zJ K F' H (none::U') (some v::Z') f2:=b;cases b' with
   |no b=>exact⟨r'.fr,r'.gr,f1++([]++f2),a.app (.so (.sh rp) b),by simpa using nd,λx hx=>ap x (by simpa using hx)⟩
end
def tW.mono(h:tW X w Z H Q)(k:∀v H',Q v H'->Q' v H'):tW X w Z H Q':=by obtain⟨F,G,U,P,PX,zW,hw,hok,hx⟩:=h;exact⟨F,G,U,P,PX,zW,hw,λr U' v F' H' a b c d=>k _ _ (hok r U' v F' H' a b c d),hx⟩
inductive Ld(X:Cx)(Z:St)(k:R->R->Env->WQ->WX->Prop)(Q:VK)(v u:V)(H:Hp):Prop
 |mk (F G:Hp) (U:Env) (x y:R) (P:WQ) (PX:WX) (zW:Rel X.K (U++[zI x,zI y]) (Z++[some v,some u]) F G H) (hl:U.length=Z.length) (rx:RV Z v x) (ry:RV Z u y) (hk:k x y U P PX) (hok:∀r U' v F' H',P r U'->zH F F'->Rel X.K (U'++[zI r]) (Z++[some v]) F' G H'->RV Z v r->Q v H') (hx:XC X (·=Z) F G PX):Ld X Z k Q v u H
def two(h:tW X (λU Q E=>wa U (λx U1=>wb U1 (λy U2=>k x y U2 Q E) E) E) Z H Q):
  tW X wa Z H λv H1=>tW X wb Z H1 λu H2=>Ld X Z k Q v u H2:=by
 obtain⟨F,G,U,P,PX,zW,hw,hok,hx⟩:=h;refine⟨F,G,U,_,PX,zW,hw,λx U1 v F1 H1 hp1 s1 r1 rv1=>?_,hx⟩;have h1:=aS r1;obtain⟨G1,rel1,gg,back⟩:=r1.hide h1;refine⟨F1,G1,U1,_,PX,rel1,hp1,λy U2 u F2 H2 hp2 s2 r2 rv2=>?_,hx.mono (λ_ z=>z) s1 gg⟩;have h2:=aS r2;have r3:=back s2 r2;rw[qq,qq]at r3;exact⟨F2,G,U2,x,y,P,PX,Rel.swap (U1:=[zI y]) (Z1:=[some u]) (U2:=[zI x]) (Z2:=[some v]) h2 rfl r3,h2,rv1,rv2,hp2,λr U' v F' H' a b c d=>hok r U' v F' H' a (s1.trans (s2.trans b)) c d,hx.grow (s1.trans s2)⟩
inductive One(X:Cx)(Z:St)(k:R->Env->WQ->WX->Prop)(Q:VK)(v:V)(H:Hp):Prop
 |mk (F G:Hp) (U:Env) (x:R) (P:WQ) (PX:WX) (zW:Rel X.K (U++[zI x]) (Z++[some v]) F G H) (hl:U.length=Z.length) (rx:RV Z v x) (hk:k x U P PX) (hok:∀r U' v F' H',P r U'->zH F F'->Rel X.K (U'++[zI r]) (Z++[some v]) F' G H'->RV Z v r->Q v H') (hx:XC X (·=Z) F G PX):One X Z k Q v H
def one(h:tW X (λU Q E=>wa U (λx U1=>k x U1 Q E) E) Z H Q):tW X wa Z H λv H1=>One X Z k Q v H1:=by obtain⟨F,G,U,P,PX,zW,hw,hok,hx⟩:=h;exact⟨F,G,U,_,PX,zW,hw,λx U1 v F1 H1 hp1 s1 r1 rv1=>⟨F1,G,U1,x,P,PX,r1,aS r1,rv1,hp1,λr U' v F' H' a b c d=>hok r U' v F' H' a (s1.trans b) c d,hx.grow s1⟩,hx⟩
def Rb(hN:X.N[i]?=some x)(hv:FV X.env.scope x)(hd:(x==("__debug__":Str))=false:=by decide)(hcd:(x==("__classdict__":Str))=false:=by decide):FE X (.Name x pos) (zx i):=by
 intro pn xe hp;refine PE.imp (Qn (X:=wp X pn xe) hN hv hd hcd) λZ H Q h=>?_;obtain⟨F,G,U,P,PX,zW,hw,hok,hx⟩:=h;unfold zx at hw;cases q:slot U i with
 |none=>rw[q]at hw;exact hw.elim
 |some s=>
  obtain⟨v,fp,e1,sr⟩:=zW.at q;rw[q]at hw;cases s with
  |sh d=>
   cases sr with
   |sh r=>exact⟨v,e1,hok _ _ v F H hw (zH.refl F) (zW.push r) trivial⟩
  |lst l=>exact⟨v,e1,hok _ _ v F H hw (zH.refl F) zW.pushN e1⟩
  |dct t a b=>exact⟨v,e1,hok _ _ v F H hw (zH.refl F) zW.pushN e1⟩
  |set l=>exact⟨v,e1,hok _ _ v F H hw (zH.refl F) zW.pushN e1⟩
def Dc(h:∀X:Cx,PE X e (tC v))(r:∀K F,aN K F v d):FE X e (wC d):=by intro pn xe hp;refine PE.imp (h _) λZ H Q h=>?_;obtain⟨F,G,U,P,PX,zW,hw,hok,hx⟩:=h;exact hok _ _ v F H hw (zH.refl F) (zW.push (r _ _)) trivial
def bD:FE X (.Constant (.int i) j pos) (wC (.int i)):=Dc (λ_=>Qb) λ_ _=>.int i
def sC:FE X (.Constant (.bool b) j pos) (wC (.bl b)):=Dc (λ_=>PP) λ_ _=>.bl b
def Ec(e:x.cps.toList=l)(z:l.length<=16777216):FE X (.Constant (.str x) j pos) (wC (.str l)):=Dc (λ_=>Ri) λ_ _=>.str e z
def OpR.or(h:OpR X f r)(h':OpR X f r'):OpR X f (λx y H Q=>r x y H Q\/r' x y H Q):=λzU s Z H x y v u Q I rx ry q=>q.elim (λz=>h zU s Z H x y v u Q I rx ry z) λz=>h' zU s Z H x y v u Q I rx ry z
def jG(K:W.Frag)(r:R2)(op:D->D->Option S):Prop:=∀(Z:St)(U:Env)(F G H:Hp)(x y:V)(p q:D)(s:S)(Q:VK),Rel K U Z F G H->bG K F H x p->bG K F H y q->op p q=some s->
 (∀v F' H',zH F F'->Rel K (U++[some s]) (Z++[some v]) F' G H'->Q v H')->r x y H Q
def Bb(ho:∀pn xe,OpR (wp X pn xe) (binaryOp op) r)(hd:jG X.K r o)(ha:FE X a wa)(hb:FE X b wb):FE X (.BinOp a op b pos) (zM o wa wb):=by intro pn xe hp;refine PE.imp (Qm (ho pn xe) (ha pn xe hp) (hb pn xe hp)) λZ H Q h=>?_;refine(two (k:=λx y U2 Q E=>zG (zQ x U2) λp=>zG (zQ y U2) λq=>zG (o p q) λs=>Q (.v s) U2) h).mono λv H1 h1=>h1.mono λu H2 h2=>?_;obtain⟨F,G,U,x,y,P,PX,zW,hl,rx,ry,hk,hok,hx⟩:=h2;obtain⟨p,ep,hk⟩:=bL hk;obtain⟨q,eq,hk⟩:=bL hk;obtain⟨t,et,hk⟩:=bL hk;obtain⟨F1,s1,re1,rel1⟩:=fQ zW hl rx ep;obtain⟨F2,s2,re2,rel2⟩:=fQ (U':=[]) (Z':=[]) rel1 hl ry eq;rw[qB,qB]at rel2;exact hd Z U F2 G H2 v u p q t Q rel2 (re1.mono s2) re2 et λv' F' H' sm r'=>hok (.v t) U v' F' H' hk (s1.trans (s2.trans sm)) r' trivial
def xG.mono(h:xG X w Z H Q)(k:∀v H',Q v H'->Q' v H'):xG X w Z H Q':=by obtain⟨F,G,U,P,PX,zW,hw,hok,hx⟩:=h;exact⟨F,G,U,P,PX,zW,hw,λr U' v F' H' a b c d e=>k _ _ (hok r U' v F' H' a b c d e),hx⟩
inductive FX(X:Cx)(Z:St)(k:R->R->Env->(Bool->Env->Prop)->WX->Prop)(Q:Bool->Hp->Prop)(v u:V)(H:Hp):Prop
 |mk (F G:Hp) (U:Env) (x y:R) (P:Bool->Env->Prop) (PX:WX) (zW:Rel X.K (U++[zI x,zI y]) (Z++[some v,some u]) F G H) (hl:U.length=Z.length) (rx:RV Z v x) (ry:RV Z u y) (hk:k x y U P PX) (hok:∀r U' F' H',P r U'->zH F F'->Rel X.K U' Z F' G H'->Q r H') (hx:XC X (·=Z) F G PX):FX X Z k Q v u H
def Js(h:lL X (λU Q E=>wa U (λx U1=>wb U1 (λy U2=>k x y U2 Q E) E) E) Z H Q):
  tW X wa Z H λv H1=>tW X wb Z H1 λu H2=>FX X Z k Q v u H2:=by
 obtain⟨F,G,U,P,PX,zW,hw,hok,hx⟩:=h;refine⟨F,G,U,_,PX,zW,hw,λx U1 v F1 H1 hp1 s1 r1 rv1=>?_,hx⟩;have h1:=aS r1;obtain⟨G1,rel1,gg,back⟩:=r1.hide h1;refine⟨F1,G1,U1,_,PX,rel1,hp1,λy U2 u F2 H2 hp2 s2 r2 rv2=>?_,hx.mono (λ_ z=>z) s1 gg⟩;have h2:=aS r2;have r3:=back s2 r2;rw[qq,qq]at r3;exact⟨F2,G,U2,x,y,P,PX,Rel.swap (U1:=[zI y]) (Z1:=[some u]) (U2:=[zI x]) (Z2:=[some v]) h2 rfl r3,h2,rv1,rv2,hp2,λr U' F' H' a b c=>hok r U' F' H' a (s1.trans (s2.trans b)) c,hx.grow (s1.trans s2)⟩
def fX(K:W.Frag)(r:R2)(op:D->D->Option Bool):Prop:=∀(H:Hp)(x y:V)(p q:D)(k:Bool)(Q:VK),aN K H x p->aN K H y q->op p q=some k->Q (.bl k) H->r x y H Q
def AM{K:W.Frag}(zW:Rel K (U++[zI x,zI y]) (Z++[some v,some u]) F G H)(hl:U.length=Z.length)(rx:RV Z v x)(ry:RV Z u y)(ep:view x U=some p)(eq:view y U=some q):
  aN K H v p/\aN K H u q/\Rel K U Z F G H:=by
 have rel':Rel K (U++[zI y]) (Z++[some u]) F G H:=zW.mid hl;exact⟨dJ zW hl rx ep,dJ (U':=[]) (Z':=[]) rel' hl ry eq,rel'.drop hl⟩
def jD(ho:∀pn xe,OpR (wp X pn xe) (compareOp op) r)(hd:fX X.K r o)(ha:FE X a wa)(hb:FE X b wb)(hm:behindInMarks op b=false):FT X (.Compare a [op] [b] pos) (bW o wa wb):=by intro pn xe hp;refine PT.imp (MK (ho pn xe) (ha pn xe hp) (hb pn xe hp) hm) λZ H Q h=>?_;refine(Js (k:=λx y U2 Q E=>zG (view x U2) λp=>zG (view y U2) λq=>zG (o p q) λc=>Q c U2) h).mono λv H1 h1=>h1.mono λu H2 h2=>?_;obtain⟨F,G,U,x,y,P,PX,zW,hl,rx,ry,hk,hok,hx⟩:=h2;obtain⟨p,ep,hk⟩:=bL hk;obtain⟨q,eq,hk⟩:=bL hk;obtain⟨t,et,hk⟩:=bL hk;obtain⟨r1,r2,rel'⟩:=AM zW hl rx ry ep eq;exact hd H2 v u p q t _ r1 r2 et ⟨t,rfl,hok t U F H2 hk (zH.refl F) rel'⟩
def HH(ho:∀pn xe,OpR (wp X pn xe) (compareOp op) r)(hd:fX X.K r o)(ha:FE X a wa)(hb:FE X b wb)(hm:behindInMarks op b=false):FE X (.Compare a [op] [b] pos) (sX (bW o wa wb)):=by intro pn xe hp;refine PE.imp (Ss (ho pn xe) (ha pn xe hp) (hb pn xe hp) hm) λZ H Q h=>?_;refine(two (k:=λx y U2 Q E=>zG (view x U2) λp=>zG (view y U2) λq=>zG (o p q) λc=>Q (.v (.sh (.bl c))) U2) h).mono λv H1 h1=>h1.mono λu H2 h2=>?_;obtain⟨F,G,U,x,y,P,PX,zW,hl,rx,ry,hk,hok,hx⟩:=h2;obtain⟨p,ep,hk⟩:=bL hk;obtain⟨q,eq,hk⟩:=bL hk;obtain⟨t,et,hk⟩:=bL hk;obtain⟨r1,r2,rel'⟩:=AM zW hl rx ry ep eq;exact hd H2 v u p q t _ r1 r2 et (hok _ U (.bl t) F H2 hk (zH.refl F) (rel'.push (.bl t)) trivial)
def Se{K:W.Frag}(r:aN K H v d)(e:iC d=some k):Di K v H k:=by
 cases r with
 |non=>exact(qg e).symm
 |bl b=>exact(qg e).symm
 |int i=>have e':=(qg e).symm;rw[e'];show decide (i≠0)=(i !=0);by_cases h:i=0<;>simp[h]
 |str e1 z=>
  rename_i x l;have e':=(qg e).symm;have hl:x.length=l.length:=by rw[<-e1];rfl
  refine⟨by rw[hl,zp];exact z,?_⟩;rw[e',hl];cases l with
  |nil=>rfl
  |cons a r=>simp;lia
 |tup h r=>refine .inr (.inl ⟨_,bP.of h,?_⟩);have e':=(qg e).symm;rw[e'];cases r<;>rfl
 |lst h r=>refine .inl ⟨_,h,?_⟩;have e':=(qg e).symm;rw[e'];cases r<;>rfl
 |dK h k r=>cases e
 |dT h k r=>cases e
 |st h r=>cases e
 |exc h k=>cases e
def HF(ha:FE X a wa)(he:∀whole,isTrue a X.env whole=(do let v<-whole;standAt a.pos;holding [v] (truthy v)):=by intro _;rfl):FT X a (lJ wa):=by intro pn xe hp;refine PT.imp (UC (ha pn xe hp) he) λZ H Q h=>?_;obtain⟨F,G,U,P,PX,zW,hw,hok,hx⟩:=h;refine⟨F,G,U,_,PX,zW,hw,λx U1 v F1 H1 hk s1 r1 rv1=>?_,hx⟩;obtain⟨p,ep,hk⟩:=bL hk;obtain⟨t,et,hk⟩:=bL hk;have hl:=aS r1;exact⟨t,Se (dJ (U':=[]) (Z':=[]) r1 hl rv1 ep) et,hok t U1 F1 H1 hk s1 (r1.drop hl)⟩
def AB{k:Bool->Env->(Bool->Env->Prop)->WX->Prop}(h:lL X (λU Q E=>ta U (λc U1=>k c U1 Q E) E) Z H Q)
  (hk:∀(c:Bool)(F G:Hp)(U:Env)(P:Bool->Env->Prop)(PX:WX)(H1:Hp),Rel X.K U Z F G H1->k c U P PX->(∀r U' F' H',P r U'->zH F F'->Rel X.K U' Z F' G H'->Q r H')->XC X (·=Z) F G PX->Q' c H1):lL X ta Z H Q':=by
 obtain⟨F,G,U,P,PX,zW,hw,hok,hx⟩:=h;exact⟨F,G,U,_,PX,zW,hw,λc U1 F1 H1 hp s1 r1=>hk c F1 G U1 P PX H1 r1 hp (λr U' F' H' a b c=>hok r U' F' H' a (s1.trans b) c) (hx.grow s1),hx⟩
def DR(h:FW X a ta):FT X a ta:=λpn xe hp=>(h pn xe hp).pt
def Ee(h:FT X a ta):FW X (.BoolOp .And [a] pos) ta:=λpn xe hp=>Sk (h pn xe hp)
def Dr{rest:List Expr}(h:FT X a ta)(h':FW X (.BoolOp .And (b::rest) pos) tb):FW X (.BoolOp .And (a::b::rest) pos) (gE ta tb):=λpn xe hp=>by
 refine PW.imp (Qg (h pn xe hp) (h' pn xe hp)) λZ H Q q=>?_;refine AB (k:=λc U1 Q E=>if c then tb U1 Q E else Q false U1) q λc F G U P PX H1 zW hk hok hx=>?_;cases c with
 |true=>exact⟨F,G,U,P,PX,zW,hk,hok,hx⟩
 |false=>exact hok false U F H1 hk (zH.refl F) zW
def QO(h:FT X a ta):FT X (.UnaryOp .Not a pos) (sF ta):=λpn xe hp=>by refine PT.imp (Qw (h pn xe hp)) λZ H Q q=>?_;exact AB (k:=λc U1 Q E=>Q (!c) U1) q λc F G U P PX H1 zW hk hok hx=>hok _ U F H1 hk (zH.refl F) zW
def SI(hc:FT X c tc)(ha:FE X a wa)(hb:FE X b wb):FE X (.IfExp c a b pos) (Bp tc wa wb):=λpn xe hp=>by
 refine PE.imp (TJ (hc pn xe hp) (ha pn xe hp) (hb pn xe hp)) λZ H Q q=>?_;obtain⟨F,G,U,P,PX,zW,hw,hok,hx⟩:=q;refine⟨F,G,U,_,PX,zW,hw,λc U1 F1 H1 hk s1 r1=>?_,hx⟩;cases c with
 |true=>exact⟨F1,G,U1,P,PX,r1,hk,λr U' v F' H' a b c d=>hok r U' v F' H' a (s1.trans b) c d,hx.grow s1⟩
 |false=>exact⟨F1,G,U1,P,PX,r1,hk,λr U' v F' H' a b c d=>hok r U' v F' H' a (s1.trans b) c d,hx.grow s1⟩
def aI:FA X [] zz:=λpn xe hp=>PA.imp Qe λZ H Q q=>by obtain⟨F,G,U,P,PX,zW,hw,hok,hx⟩:=q;exact hok [] U [] F H hw (zH.refl F) (by simpa using zW) zW.len trivial
def aB(ha:FE X e wa)(hb:FA X es wb)(hs:starEach (e::es) X.env=(false,eval e X.env)::starEach es X.env:=by rfl):FA X (e::es) (zy wa wb):=λpn xe hp=>by
 refine PA.imp (Sv (ha pn xe hp) (hb pn xe hp) hs) λZ H Q q=>?_;obtain⟨F,G,U,P,PX,zW,hw,hok,hx⟩:=q;refine⟨F,G,U,_,PX,zW,hw,λx U1 v F1 H1 hp1 s1 r1 rv1=>?_,hx⟩;have h1:=aS r1;obtain⟨G1,rel1,gg,back⟩:=r1.hide h1;refine⟨F1,G1,U1,_,PX,rel1,hp1,λrs U2 vs F2 H2 hp2 s2 r2 h2 rv2=>?_,hx.mono (λ_ z=>z) s1 gg⟩;have r3:=back s2 r2;rw[qq,qq]at r3;have hl:(rs.map zI).length=(vs.map some).length:=by have:=r2.len;grind
 exact hok (x::rs) U2 (v::vs) F2 H2 hp2 (s1.trans s2) (Rel.swap (U1:=rs.map zI) (Z1:=vs.map some) (U2:=[zI x]) (Z2:=[some v]) h2 hl r3) h2 ⟨rv1,rv2⟩
section
variable{K:W.Frag}
def vZ.len:∀{vs:List V}{rs:List R},vZ Z vs rs->vs.length=rs.length
 |[],[],_=>rfl
 |[],_::_,h=>h.elim
 |_::_,[],h=>h.elim
 |_::vs,_::rs,h=>by simp[vZ.len h.2]
def Ez:∀{rs:List R}{vs:List V}{U U' U1:Env}{ss:List S}{F:Hp}{Z':St},Rel K (U++(rs.map zI++U')) (Z++(vs.map some++Z')) F G H->U.length=Z.length->vZ Z vs rs->aK rs U=some (ss,U1)->
  ∃F',zH F F'/\U1.length=U.length/\ss.length=rs.length/\Rel K (U1++(ss.map some++U')) (Z++(vs.map some++Z')) F' G H
 |[],[],U,U',U1,ss,F,Z',r,h,_,e=>by have e':some (([]:List S),U)=some (ss,U1):=e;cases e';exact⟨F,zH.refl F,rfl,rfl,r⟩
 |[],_::_,_,_,_,_,_,_,_,_,h,_=>h.elim
 |_::_,[],_,_,_,_,_,_,_,_,h,_=>h.elim
 |x::rs,v::vs,U,U',U1,ss,F,Z',r,h,rv,e=>by
  have e':(match give x U with|some (s,U1)=>(match aK rs U1 with|some (ss,U2)=>some (s::ss,U2)|none=>none)|none=>none)=some (ss,U1):=e;cases q:give x U with
  |none=>rw[q]at e';cases e'
  |some p=>
   obtain⟨s,U2⟩:=p;rw[q]at e';cases q2:aK rs U2 with
   |none=>simp only[q2]at e';cases e'
   |some p2=>
    obtain⟨ts,U3⟩:=p2;simp only[q2]at e';cases e';obtain⟨F1,s1,l1,r1⟩:=dF (U':=rs.map zI++U') (Z':=vs.map some++Z') r h rv.1 q;have h2:U2.length=Z.length:=l1.trans h;have hl:(rs.map zI++U').length=(vs.map some++Z').length:=by have:=r1.len;rw[qr,qr,h2,qu,qu]at this;lia
    have hl':U'.length=Z'.length:=by have:=rv.2.len;simp at hl;lia
    have r2:=Rel.swap (U1:=[some s]) (Z1:=[some v]) (U2:=rs.map zI++U') (Z2:=vs.map some++Z') h2 rfl r1;rw[qq,qq]at r2;obtain⟨F2,s2,l2,l3,r3⟩:=Ez (rs:=rs) (vs:=vs) r2 h2 rv.2 q2;have h3:U1.length=Z.length:=l2.trans h2;rw[<-qq (ts.map some),<-qq (vs.map some)]at r3;have r4:=Rel.swap (U1:=ts.map some++U') (Z1:=vs.map some++Z') (U2:=[some s]) (Z2:=[some v]) h3 (by simp[l3,rv.2.len,hl']) r3;exact⟨F2,s1.trans s2,l2.trans l1,by simp[l3],r4⟩
def kS:∀{vs:List V}{ss:List S}{fp:List Addr},zJ K F H (ss.map some) (vs.map some) fp->zK K F H vs ss fp
 |[],[],_,.nil=>.nil
 |[],_::_,_,h=>nomatch h
 |_::_,[],_,h=>nomatch h
 |v::vs,s::ss,_,.so a b=>.cons a (kS b)
def Rel.newL(r:Rel K (U++ss.map some) (Z++vs.map some) F G H)(h:U.length=Z.length)(hp:H p=none):
  Rel K (U++[some (.lst ss)]) (Z++[some (.ref p)]) F G (upd H p (.lst vs)):=by
 obtain⟨f0,g0,n0⟩:=r.free hp;obtain⟨fp,e,nd,ap⟩:=r.en;have hne:∀a∈fp,a≠p:=λa ha z=>n0 fp e (z▸ha);obtain⟨f1,f2,rfl,en1,en2⟩:=(e.mono (H':=upd H p (.lst vs)) (zH.refl F) λa ha=>bJ (hne a ha)).cut h;refine⟨zH.updR r.fr f0,λa u q=>?_,f1++((p::f2)++[]),en1.app (.so (.lst gC (kS en2)) .nil),?_,λa ha=>?_⟩
 .have hp:a≠p:=λz=>by rw[z,g0]at q;cases q
  rw[bJ hp];exact r.gr a u q
 .grind
 grind
def Rel.giveD{ss:List S}(r:Rel K (U++ss.map some) (Z++vs.map some) F G H)(h:U.length=Z.length):∃F',zH F F'/\zS K F' vs (ss.map S.toD)/\Rel K U Z F' G H:=by
 classical
 obtain⟨fp,e,nd,ap⟩:=r.en;obtain⟨f1,f2,rfl,a,b⟩:=e.cut h;obtain⟨n1,n2,n3⟩:=qy.mp nd;have sm:zH F (λx=>if x∈f2 then H x else F x):=λx o w=>by grind
 have rp:=(kS b).frz sm λx hx=>by simp only[hx,if_true]
 rw[S.toDs_map]at rp;refine⟨_,sm,rp,λx o w=>?_,λx o w=>?_,f1,a.mono sm λ_ _=>rfl,n1,λx hx=>?_⟩
 .by_cases z:x∈f2
  .simp only[z,if_true]at w;exact w
  .simp only[z,if_false]at w;exact r.fr x o w
 .have w2:=r.gr x o w;grind
 grind
end
inductive Ge(X:Cx)(Z:St)(k:List R->Env->WQ->WX->Prop)(Q:VK)(vs:List V)(H:Hp):Prop
 |mk (F G:Hp) (U:Env) (rs:List R) (P:WQ) (PX:WX) (zW:Rel X.K (U++rs.map zI) (Z++vs.map some) F G H) (hl:U.length=Z.length) (rv:vZ Z vs rs) (hk:k rs U P PX) (hok:∀r U' v F' H',P r U'->zH F F'->Rel X.K (U'++[zI r]) (Z++[some v]) F' G H'->RV Z v r->Q v H') (hx:XC X (·=Z) F G PX):Ge X Z k Q vs H
def many(h:tW X (λU Q E=>wa U (λrs U1=>k rs U1 Q E) E) Z H Q):xG X wa Z H λvs H1=>Ge X Z k Q vs H1:=by obtain⟨F,G,U,P,PX,zW,hw,hok,hx⟩:=h;exact⟨F,G,U,_,PX,zW,hw,λrs U1 vs F1 H1 hp1 s1 r1 h1 rv1=>⟨F1,G,U1,rs,P,PX,r1,h1,rv1,hp1,λr U' v F' H' a b c d=>hok r U' v F' H' a (s1.trans b) c d,hx.grow s1⟩,hx⟩
def lG(h:FA X es wa):FE X (.List es pos) (dU wa):=λpn xe hp=>by
 refine PE.imp (QK (h pn xe hp)) λZ H Q q=>?_;refine(many (k:=λrs U1 Q E=>zG (if rs.length<=big then aK rs U1 else none) λp=>Q (.v (.lst p.1)) p.2) q).mono λvs H1 h1=>?_;obtain⟨F,G,U,rs,P,PX,zW,hl,rv,hk,hok,hx⟩:=h1;obtain⟨⟨ss,U1⟩,ep,hk⟩:=bL hk;by_cases hz:rs.length<=big
 .rw[q8 hz]at ep;obtain⟨F1,s1,l1,l2,r1⟩:=Ez (U':=[]) (Z':=[]) (by simpa using zW) hl rv ep;refine⟨by rw[rv.len,zp];exact le_trans hz (by decide),λp hp=>hok _ U1 (.ref p) F1 _ hk s1 (Rel.newL (by simpa using r1) (l1.trans hl) hp) trivial⟩
 .rw[q9 hz]at ep;cases ep
def jJ(h:FA X es wa):FE X (.Tuple es k pos) (cW wa):=λpn xe hp=>by
 refine PE.imp (QV (h pn xe hp)) λZ H Q q=>?_;refine(many (k:=λrs U1 Q E=>zG (if rs.length<=big then aK rs U1 else none) λp=>Q (.v (.sh (.tup (p.1.map S.toD)))) p.2) q).mono λvs H1 h1=>?_;obtain⟨F,G,U,rs,P,PX,zW,hl,rv,hk,hok,hx⟩:=h1;obtain⟨⟨ss,U1⟩,ep,hk⟩:=bL hk;by_cases hz:rs.length<=big
 .rw[q8 hz]at ep;obtain⟨F1,s1,l1,l2,r1⟩:=Ez (U':=[]) (Z':=[]) (by simpa using zW) hl rv ep;obtain⟨F2,s2,rp,r2⟩:=Rel.giveD (U:=U1) (by simpa using r1) (l1.trans hl);refine⟨by rw[rv.len,zp];exact le_trans hz (by decide),λp hp=>?_⟩;have n2:=(r2.free hp).1;exact hok _ U1 (.ref p) _ _ hk (s1.trans (s2.trans (zH.upd n2))) ((r2.newF hp).push (.tup gC (rp.mono (zH.upd n2)))) trivial
 .rw[q9 hz]at ep;cases ep
def KP.refl:KP ks Z Z:=λ_ _=>rfl
def KP.trans(a:KP ks Z Z1)(b:KP ks Z1 Z2):KP ks Z Z2:=λi h=>(b i h).trans (a i h)
inductive Hg(X:Cx)(ks:List Nat)(w:WS)(D:L2.Ends)(Z:St)(H:Hp):Prop
 |mk (F G:Hp) (U:Env) (E:Ends) (zW:Rel X.K U Z F G H) (hw:w E U) (n:∀U' Z' F' H',E.nx U'->KP ks Z Z'->zH F F'->Rel X.K U' Z' F' G H'->D.nx Z' H') (b:∀U' Z' F' H',E.bk U'->KP ks Z Z'->zH F F'->Rel X.K U' Z' F' G H'->D.bk Z' H') (c:∀U' Z' F' H',E.ct U'->KP ks Z Z'->zH F F'->Rel X.K U' Z' F' G H'->D.ct Z' H') (r:∀r U' Z' v F' H',E.rt r U'->KP ks Z Z'->zH F F'->Rel X.K (U'++[zI r]) (Z'++[some v]) F' G H'->RV Z' v r->D.rt v H') (hx:XC X (KP ks Z) F G E.ex):Hg X ks w D Z H
def FS(X:Cx)(ks:List Nat)(st:Stmt)(w:WS):Prop:=∀(pn:List (Addr×Obj))(xe:zw),PassesOwn (model X.prog X.w) X.A X.env xe->PS (wp X pn xe) st (Hg (wp X pn xe) ks w)
def wA(X:Cx)(ks:List Nat)(st:List Stmt)(w:WS):Prop:=∀(pn:List (Addr×Obj))(xe:zw),PassesOwn (model X.prog X.w) X.A X.env xe->mJ (wp X pn xe) st (Hg (wp X pn xe) ks w)
def PS.imp(h:PS X e t)(k:∀D Z H,t' D Z H->t D Z H):PS X e t':=λzU s Z H D I q=>h zU s Z H D I (k D Z H q)
def mJ.imp(h:mJ X e t)(k:∀D Z H,t' D Z H->t D Z H):mJ X e t':=λzU s Z H D I q=>h zU s Z H D I (k D Z H q)
inductive DI(X:Cx)(ks:List Nat)(g:WG)(v:V)(Z:St)(H:Hp)(Q:St->Hp->Prop):Prop
 |mk (F G:Hp) (U:Env) (s:S) (P:Env->Prop) (zW:Rel X.K (U++[some s]) (Z++[some v]) F G H) (hw:g s U P) (n:∀U' Z' F' H',P U'->KP ks Z Z'->zH F F'->Rel X.K U' Z' F' G H'->Q Z' H'):DI X ks g v Z H Q
def FG(X:Cx)(ks:List Nat)(tg:Expr)(g:WG):Prop:=∀(pn:List (Addr×Obj))(xe:zw),PassesOwn (model X.prog X.w) X.A X.env xe->PG (wp X pn xe) tg (DI (wp X pn xe) ks g)
def PG.imp(h:PG X e t)(k:∀v Z H Q,t' v Z H Q->t v Z H Q):PG X e t':=λzU s Z H v u Q I r q=>h zU s Z H v u Q I r (k v Z H Q q)
section
variable{st:Stmt}{rest:List Stmt}
def sD:wA X ks [] dP:=λpn xe hp=>mJ.imp RD λD Z H q=>by obtain⟨F,G,U,E,zW,hw,n,b,c,r,x⟩:=q;exact n U Z F H hw KP.refl (zH.refl F) zW
def bS(h1:FS X ks st w1)(h2:wA X ks rest w2):wA X ks (st::rest) (zN w1 w2):=λpn xe hp=>mJ.imp (Ug (h1 pn xe hp) (h2 pn xe hp)) λD Z H q=>by
 obtain⟨F,G,U,E,zW,hw,n,b,c,r,x⟩:=q;refine⟨F,G,U,{E with nx:=w2 E},zW,hw,λU1 Z1 F1 H1 hp k s1 r1=>?_,b,c,r,x⟩;exact⟨F1,G,U1,E,r1,hp,λU' Z' F' H' h k' s r=>n U' Z' F' H' h (k.trans k') (s1.trans s) r,λU' Z' F' H' h k' s r=>b U' Z' F' H' h (k.trans k') (s1.trans s) r,
  λU' Z' F' H' h k' s r=>c U' Z' F' H' h (k.trans k') (s1.trans s) r,λa U' Z' v F' H' h k' s q rv=>r a U' Z' v F' H' h (k.trans k') (s1.trans s) q rv,x.mono (λZ2 k'=>k.trans k') s1 (zH.refl G)⟩
def cS(h1:FS X ks st w1):wA X ks [st] w1:=λpn xe hp=>RO (h1 pn xe hp)
def vX(h:FE X e we)(hs:swapsWith e none pos.line X.env=pure false:=by rfl):FS X ks (.Expr e pos) (wExpr we):=λpn xe hp=>PS.imp (RK (h pn xe hp) hs) λD Z H q=>by obtain⟨F,G,U,E,zW,hw,n,b,c,r,x⟩:=q;exact⟨F,G,U,_,_,zW,hw,λa U1 v F1 H1 hp s1 r1 rv=>n U1 Z F1 H1 hp KP.refl s1 (r1.drop (aS r1)),x.mono (λZ2 z=>by rw[z];exact KP.refl) (zH.refl F) (zH.refl G)⟩
def gY(h:FE X e we):FS X ks (.Return (some e) pos) (cE we):=λpn xe hp=>PS.imp (Qp (h pn xe hp)) λD Z H q=>by obtain⟨F,G,U,E,zW,hw,n,b,c,r,x⟩:=q;exact⟨F,G,U,_,_,zW,hw,λa U1 v F1 H1 hp s1 r1 rv=>r a U1 Z v F1 H1 hp KP.refl s1 r1 rv,x.mono (λZ2 z=>by rw[z];exact KP.refl) (zH.refl F) (zH.refl G)⟩
def rX(hc:FT X c tc)(ha:wA X ks a w1)(hb:wA X ks b w2):FS X ks (.If c a b pos) (oH tc w1 w2):=λpn xe hp=>PS.imp (PC (hc pn xe hp) (ha pn xe hp) (hb pn xe hp)) λD Z H q=>by
 obtain⟨F,G,U,E,zW,hw,n,b,c,r,x⟩:=q;refine⟨F,G,U,_,_,zW,hw,λk U1 F1 H1 hp s1 r1=>?_,x.mono (λZ2 z=>by rw[z];exact KP.refl) (zH.refl F) (zH.refl G)⟩;have go:∀w:WS,w E U1->Hg (wp X pn xe) ks w D Z H1:=λw hw=>⟨F1,G,U1,E,r1,hw,λU' Z' F' H' h k' s r=>n U' Z' F' H' h k' (s1.trans s) r,λU' Z' F' H' h k' s r=>b U' Z' F' H' h k' (s1.trans s) r,
  λU' Z' F' H' h k' s r=>c U' Z' F' H' h k' (s1.trans s) r,λa U' Z' v F' H' h k' s q rv=>r a U' Z' v F' H' h k' (s1.trans s) q rv,x.grow s1⟩
 cases k with
 |true=>exact go _ hp
 |false=>exact go _ hp
def dR(he:FE X e we)(hg:FG X ks tg g)(hs:swapsWithSole [tg] e pos.line X.env=pure false:=by rfl)(hw:swappedStores [tg] e X.env=pure none:=by rfl)
  (h1:(assignEach [tg] X.env).map (·.2)=[assign tg X.env]:=by rfl):FS X ks (.Assign [tg] e pos) (zP g we):=λpn xe hp=>PS.imp (LW (he pn xe hp) (hg pn xe hp) hs hw h1) λD Z H q=>by
 obtain⟨F,G,U,E,zW,hw,n,b,c,r,x⟩:=q;refine⟨F,G,U,_,_,zW,hw,λa U1 v F1 H1 hp s1 r1 rv=>?_,x.mono (λZ2 z=>by rw[z];exact KP.refl) (zH.refl F) (zH.refl G)⟩;obtain⟨⟨s,U2⟩,eg,hk⟩:=bL hp;obtain⟨F2,s2,l2,r2⟩:=dF (U':=[]) (Z':=[]) r1 (aS r1) rv eg;exact⟨F2,G,U2,s,_,r2,hk,λU' Z' F' H' h k' s r=>n U' Z' F' H' h k' (s1.trans (s2.trans s)) r⟩
end
def VM(I:Inv X zU Z H s)(hN:∀j,X.N[j]?=some x->j=i)(hi:X.N[i]?=some x)(hx:Loc X.env.scope x)(r:zL v u)
  (h:∀s',Inv X zU (Z.set i (some v)) H s'->(∃a,Heap.SameBut a s.heap s'.heap/\(a=X.env.locals\/X.env.cells.lookup x=some a))->Q () s')(hf:X.fn x=true\/X.env.scope.names.lookup x=some .local):wpAny M A (storeName X.env x u) Q E s:=by
 obtain⟨m,hn,hl⟩:=id I.loc;have hcls:(X.env.scope.kind==.class||(X.env.scope.kind==.module&&X.env.locals !=X.env.globals))=false:=by rw[I.ok.kind];rfl
 have hiZ:i<Z.length:=by rw[I.len];exact(qh.mp hi).1
 have cne:=I.cne;have tracked:∀{a:Addr}{h':Heap},(∃o,s.heap.get? a=some o/\H a=none)->Heap.SameBut a s.heap h'->fN X.prog X.w H h':=λ{a h'} ha hs b ob e=>by
  obtain⟨_,_,hfree⟩:=ha;refine(I.hok b ob e).stay (λc w' hc q=>(hs.2 c ?_).trans q) (λ_ q=>q) λ_ _ q=>q;rintro rfl;rcases hc with rfl|hc
  .rw[hfree]at e;cases e
  .rw[hfree]at hc;cases hc
 rcases hx with hk|hk
 .refine wpAny_storeName_local hk hn (λh' hn' hs=>?_) hcls;obtain⟨oL,_,_,hoL,_⟩:=id hn;refine h _ ⟨I.ok,I.os,I.bare,⟨λb o e n hb hx=>?_,λb o e n hb hx=>?_,I.base.free,λb o e hx=>?_,I.base.tups,I.base.frzs,I.base.tbls⟩,⟨_,hn',λj y v' e1 e2 e3=>?_⟩,λy c e=>?_,I.free,I.freeC,λp hp=>?_,tracked ⟨oL,hoL,I.free⟩ hs,by simpa using I.len⟩ ⟨_,hs,.inl rfl⟩
  .exact(hs.2 b (ne_of_lt (lt_of_lt_of_le (qe e) I.ok.above))).trans (I.base.keep b o e n hb hx)
  .obtain⟨sl,e1⟩:=I.base.slot b o e n hb hx;exact⟨sl,(hs.2 b (ne_of_lt (lt_of_lt_of_le (qe e) I.ok.above))).trans e1⟩
  .obtain⟨o',e1⟩:=I.base.there b o e hx;exact⟨o',(hs.2 b (ne_of_lt (lt_of_lt_of_le (qe e) I.ok.above))).trans e1⟩
  .by_cases hj:j=i
   .subst hj;rw[hi]at e1;cases e1;rw[getElem?_set_self hiZ]at e2;cases e2;exact⟨u,r,.inl ⟨hk,by simp⟩⟩
   .rw[getElem?_set_ne (Ne.symm hj)]at e2;obtain⟨u',r',q⟩:=hl j y v' e1 e2 e3;refine⟨u',r',?_⟩;rcases q with⟨k,e⟩|⟨k,c,e,z⟩
    .refine .inl ⟨k,?_⟩;have:y≠x:=λe=>hj (hN j (e▸e1));simp[this,e]
    .exact .inr ⟨k,c,e,z.sameBut hs (cne y c e)⟩
  .obtain⟨w',z⟩:=I.cell y c e;exact⟨w',z.sameBut hs (cne y c e)⟩
  .obtain⟨e,n,ne,nf,d⟩:=I.pin p hp;exact⟨(hs.2 p.1 ne).trans e,n,ne,nf,d⟩
 .have hfn:X.fn x=true:=by
   rcases hf with z|z
   .exact z
   .rw[z]at hk;cases hk
  obtain⟨c,hc⟩:=I.ok.has x (.inl hk);obtain⟨w',z⟩:=I.cell x c hc;refine wpAny_storeName_cell I.ok.kind hk hc z (λh' hc' hs=>?_);obtain⟨oc,hoc,hocd⟩:=id z;refine h {s with heap:=h'} ⟨I.ok,I.os,I.bare,⟨λb o e n hb hx=>?_,λb o e n hb hx=>?_,I.base.free,λb o e hx=>?_,I.base.tups,I.base.frzs,I.base.tbls⟩,⟨m,hn.sameBut hs (Ne.symm (cne x c hc)),λj y v' e1 e2 e3=>?_⟩,λy c' e=>?_,I.free,I.freeC,λp hp=>?_,tracked ⟨oc,hoc,I.freeC x c hc⟩ hs,by simpa using I.len⟩ ⟨c,hs,.inr hc⟩
  .exact(hs.2 b (ne_of_lt (lt_of_lt_of_le (qe e) (I.ok.cab x c hfn hc)))).trans (I.base.keep b o e n hb hx)
  .obtain⟨sl,e1⟩:=I.base.slot b o e n hb hx;exact⟨sl,(hs.2 b (ne_of_lt (lt_of_lt_of_le (qe e) (I.ok.cab x c hfn hc)))).trans e1⟩
  .obtain⟨o',e1⟩:=I.base.there b o e hx;exact⟨o',(hs.2 b (ne_of_lt (lt_of_lt_of_le (qe e) (I.ok.cab x c hfn hc)))).trans e1⟩
  .by_cases hj:j=i
   .subst hj;rw[hi]at e1;cases e1;rw[getElem?_set_self hiZ]at e2;cases e2;exact⟨u,r,.inr ⟨.inl hk,c,hc,hc'⟩⟩
   .rw[getElem?_set_ne (Ne.symm hj)]at e2;obtain⟨u',r',q⟩:=hl j y v' e1 e2 e3;refine⟨u',r',?_⟩;rcases q with q|⟨k,c',e,z'⟩
    .exact .inl q
    .refine .inr ⟨k,c',e,z'.sameBut hs ?_⟩;rintro rfl;exact hj (hN j (I.ok.inj _ _ _ e hc▸e1))
  .by_cases hcc:c'=c
   .subst hcc;exact⟨_,hc'⟩
   .obtain⟨w2,z2⟩:=I.cell y c' e;exact⟨w2,z2.sameBut hs hcc⟩
  .obtain⟨e,n,ne,nf,d⟩:=I.pin p hp;refine⟨(hs.2 p.1 ?_).trans e,n,ne,nf,d⟩;intro q;rw[q,hoc]at e;have q':oc=p.2:=qg e;exact d w' (by rw[<-q'];exact hocd)
def KP.set(h:i∉ks):KP ks Z (Z.set i u):=λj hj=>getElem?_set_ne (λ(z:i=j)=>h (z▸hj))
def MJ(hk:i∉ks)(hN:∀j,X.N[j]?=some x->j=i)(hi:X.N[i]?=some x)(hx:Loc X.env.scope x)(hf:X.fn x=true\/X.env.scope.names.lookup x=some .local):FG X ks (.Name x pos) (zF i):=by
 intro pn xe hp zU s Z H v u Q I rv q;obtain⟨F,G,U,t,P,zW,hw,n⟩:=q;have hl:=aS zW;have hiU:i<U.length:=by rw[hl,I.len];exact(qh.mp hi).1
 exact wpAny_assign_Name (VM (X:=wp X pn xe) I hN hi hx rv (λs' I' _=>⟨_,H,I',n _ _ F H hw (KP.set hk) (zH.refl F) (zW.store hl hiU)⟩) hf)
inductive EC(X:Cx)(ks:List Nat)(gs:List WG)(vs:List V)(Z:St)(H:Hp)(Q:St->Hp->Prop):Prop
 |mk (F G:Hp) (U:Env) (ds:List D) (P:Env->Prop) (zW:Rel X.K U Z F G H) (rp:zS X.K F vs ds) (hw:fH gs ds U P) (n:∀U' Z' F' H',P U'->KP ks Z Z'->zH F F'->Rel X.K U' Z' F' G H'->Q Z' H'):EC X ks gs vs Z H Q
def Hu(X:Cx)(ks:List Nat)(tg:List Expr)(g:List WG):Prop:=∀(pn:List (Addr×Obj))(xe:zw),PassesOwn (model X.prog X.w) X.A X.env xe->Gc (wp X pn xe) tg (EC (wp X pn xe) ks g)
def mK:Hu X ks [] []:=λpn xe hp zU s Z H vs us Q I r q=>by
 obtain⟨F,G,U,ds,P,zW,rp,hw,n⟩:=q;refine SW zU s Z H vs us Q I r ?_;cases rp with
 |nil=>exact⟨rfl,n U Z F H hw KP.refl (zH.refl F) zW⟩
 |cons a b=>exact hw.elim
def eW(h1:FG X ks e g)(h2:Hu X ks es gs)
  (hs:(assignEach (e::es) X.env).map (·.2)=assign e X.env::(assignEach es X.env).map (·.2):=by rfl):Hu X ks (e::es) (g::gs):=λpn xe hp zU s Z H vs us Q I r q=>by
 obtain⟨F,G,U,ds,P,zW,rp,hw,n⟩:=q;refine Th (X:=wp X pn xe) (h1 pn xe hp) (h2 pn xe hp) hs zU s Z H vs us Q I r ?_;cases rp with
 |nil=>exact hw.elim
 |cons a b=>refine⟨_,_,rfl,F,G,U,_,_,zW.push a,hw,λU1 Z1 F1 H1 hp k s1 r1=>⟨F1,G,U1,_,P,r1,b.mono s1,hp,λU' Z' F' H' h k' s r=>n U' Z' F' H' h (k.trans k') (s1.trans s) r⟩⟩
def zS.len{K:W.Frag}(r:zS K F xs ds):xs.length=ds.length:=zS.ind (P:=λxs ds=>xs.length=ds.length) rfl (λ_ _ ih=>congrArg (·+1) ih) r
def mL(hc:X.calm=true)(h:Hu X ks es gs)(hn:(assignEach es X.env).length=gs.length:=by rfl)(hst:(assignEach es X.env).findIdx? (·.1)=none:=by rfl):FG X ks (.Tuple es k pos) (cP gs):=λpn xe hp=>by
 refine PG.imp (QD (X:=wp X pn xe) hc (h pn xe hp) hn hst) λv Z H Q q=>?_;obtain⟨F,G,U,s,P,zW,hw,n⟩:=q;obtain⟨F1,s1,rp,r1⟩:=Rel.giveD (U:=U) (vs:=[v]) (ss:=[s]) zW (aS zW);cases rp with
 |cons a b=>
  have hw':(match s.toD with|.tup ds=>ds.length=gs.length/\fH gs ds U P|_=>False):=hw;generalize s.toD=d at a hw';cases a with
  |tup e r=>exact⟨_,_,rfl,bP.of (r1.fr _ _ e),by rw[r.len];exact hw'.1,F1,G,U,_,P,r1,r,hw'.2,λU' Z' F' H' h k' s r=>n U' Z' F' H' h k' (s1.trans s) r⟩
  |_=>exact hw'.elim
def fW(K:W.Frag)(J:It)(l:List D)(F0:Hp):Prop:=∀(i:Nat)(U:Env)(Z:St)(F G H:Hp),zH F0 F->Rel K U Z F G H->
 (∀d,l[i]?=some d->J.go i H/\∀x H',J.yld i H x H'->∃F',zH F F'/\Rel K U Z F' G H'/\aN K F' x d)/\(l.length<=i->J.stop i H)
inductive OQ(X:Cx)(wi:WI)(Z:St)(H:Hp)(R:It->Hp->Prop):Prop
 |mk (F G:Hp) (U:Env) (P:List D->Env->Prop) (PX:WX) (zW:Rel X.K U Z F G H) (hw:wi U P PX) (hok:∀l U' F' H' J,P l U'->zH F F'->Rel X.K U' Z F' G H'->fW X.K J l F'->R J H') (hx:XC X (·=Z) F G PX):OQ X wi Z H R
def FI(X:Cx)(tg iter:Expr)(wi:WI):Prop:=∀(pn:List (Addr×Obj))(xe:zw),PassesOwn (model X.prog X.w) X.A X.env xe->PI (wp X pn xe) tg iter (OQ (wp X pn xe) wi)
def PI.imp(h:PI X tg e t)(k:∀Z H R,t' Z H R->t Z H R):PI X tg e t':=λzU s Z H R I q=>h zU s Z H R I (k Z H R q)
def zS.get{K:W.Frag}{i:Nat}(r:zS K F xs ds)(h:ds[i]?=some d):∃x,xs[i]?=some x/\aN K F x d:=
 zS.ind (P:=λxs ds=>∀i d,ds[i]?=some d->∃x,xs[i]?=some x/\aN K F x d) (λ_ _ e=>by cases e) (λa _ ih i d e=>by
  cases i with
  |zero=>cases e;exact⟨_,rfl,a⟩
  |succ i=>exact ih i d e) r i d h
section
variable{K:W.Frag}
def IM(e:bR K F0 a xs)(r:zS K F0 xs l):fW K (DN K a) l F0:=λi U Z F G H sm zW=>by have e':bR K H a xs:=bR.mono (sm.trans zW.fr) e;refine⟨λd hd=>?_,λh=>⟨xs,e',by rw[r.len];exact h⟩⟩;obtain⟨x,hx,rx⟩:=r.get hd;refine⟨⟨xs,x,e',hx⟩,λy H' hy=>?_⟩;obtain⟨rfl,hy⟩:=hy;have:x=y:=qg (hx.symm.trans (hy xs e'));subst this;exact⟨F,zH.refl F,zW,rx.mono sm⟩
def TC(e:bP K F0 a xs)(r:zS K F0 xs l):fW K (Lh K a) l F0:=λi U Z F G H sm zW=>by have e':bP K H a xs:=bP.mono (sm.trans zW.fr) e;refine⟨λd hd=>?_,λh=>⟨xs,e',by rw[r.len];exact h⟩⟩;obtain⟨x,hx,rx⟩:=r.get hd;refine⟨⟨xs,x,e',hx⟩,λy H' hy=>?_⟩;obtain⟨rfl,hy⟩:=hy;have:x=y:=qg (hx.symm.trans (hy xs e'));subst this;exact⟨F,zH.refl F,zW,rx.mono sm⟩
def Ww{lo:Int}(h:(fromTo lo n)[i]?=some d):i<n/\d=.int (lo+i):=by
 unfold fromTo at h;rw[qG]at h;by_cases hi:i<n
 .rw[List.getElem?_range hi]at h;exact⟨hi,(qg h).symm⟩
 .rw[qR (by simpa using hi)]at h;cases h
def Wb{lo:Int}:fW K (Hs lo n) (fromTo lo n) F0:=λi U Z F G H sm zW=>by
 refine⟨λd hd=>?_,λh=>?_⟩
 .obtain⟨hi,rfl⟩:=Ww hd;refine⟨hi,λx H' hy=>?_⟩;obtain⟨rfl,rfl⟩:=hy;exact⟨F,zH.refl F,zW,.int _⟩
 .have:n<=i:=by simpa[fromTo] using h
  exact this
end
def Dl(x:Str):It:=⟨λi _=>i<x.cps.size,λi H v H'=>H'=H/\∃c,x.cps[i]?=some c/\v=.str ⟨#[c]⟩,λi _=>x.cps.size<=i⟩
def Vl{P:Program}{w:World}{K:W.Frag}{tg:Expr}(it:Addr)(x:Str)(t:Tok)(ty:String)(hty:ty="str_ascii_iterator"\/ty="str_iterator"):kY P w K tg (Dl x) [it] it (λi h=>h.IsStrIter it ty x t i) where
 mem:=m1
 obj:=λi h st b hb=>by
  have e:b=it:=by simpa using hb
  subst e;obtain⟨o,e,c,d⟩:=st;exact⟨o,e,λv z=>by rw[d]at z;cases z⟩
 keep:=λi h h' st k=>by obtain⟨o,e,r⟩:=st;exact⟨o,k it (m1) o e,r⟩
 item:=by
  intro X hP hw hK hc i zU s Z H E I hf st hg;subst hP hw hK;obtain⟨f0,f1,f2,f3,f4,f5⟩:=hf it (m1);have W:Walks X.prog X.w X.A it [it] [it] x.cps.size (SignAt x) (λi h=>h.IsStrIter it ty x t i):=by
   rcases hty with rfl|rfl
   .exact Walks.strAscii (I.ok.hd hc) it x t
   .exact Walks.strWide (I.ok.hd hc) it x t
  refine W.item i s _ _ hg st λv h' tk hv st' kk=>?_;obtain⟨c,u,e1,rfl⟩:=hv;have I1:Inv X zU Z H {s with heap:=h',toks:=tk}:=I.turned (λb o hb e=>kk b o (by simpa using hb) e) f0 f1 f3 f4 f5;obtain⟨o,e,cl,d⟩:=id st';exact⟨_,rfl,Gq (s:={s with heap:=h',toks:=tk}) e cl d (by rcases hty with rfl|rfl<;>decide) ⟨.str ⟨#[c]⟩,H,I1,⟨u,rfl⟩,⟨rfl,c,e1,rfl⟩,st',λb hb=>(hf b hb).1⟩⟩
 done:=by
  intro X hP hw hK hc i zU s Z H E I hf st hg;subst hP hw hK;obtain⟨f0,f1,f2,f3,f4,f5⟩:=hf it (m1);have hn:x.cps[i]?=none:=by have:x.cps.size<=i:=hg;simp[this]
  rcases hty with rfl|rfl
  .exact wpAny_pyNext_ascii_end (I.ok.hd hc) st hn λh' eb=>⟨rfl,I.turned (t':=s.toks) (λb o hb e=>eb b o hb e) f0 f1 f3 f4 f5⟩
  .exact wpAny_pyNext_wide_end (I.ok.hd hc) st hn λh' eb=>⟨rfl,I.turned (t':=s.toks) (λb o hb e=>eb b o hb e) f0 f1 f3 f4 f5⟩
 self:=λA i s Q E st h=>by
  rcases hty with rfl|rfl
  .exact wpAny_pyIter_striter_ascii st h
  .exact wpAny_pyIter_striter_wide st h
def KM(K:W.Frag)(tl:TE):TI:=λZ H R=>tl Z H λv H1=>(∃a,v=.ref a/\(∃xs,bR K H1 a xs)/\R (DN K a) H1)\/(∃a,v=.ref a/\(∃xs,bP K H1 a xs)/\R (Lh K a) H1)\/∃x,v=.str x/\R (Dl x) H1
def QX(hl:PE X l tl):PI X tg l (KM X.K tl):=by
 intro zU s Z H R I h;refine bK (hl zU s Z H _ I h) λv s1 zq=>?_;obtain⟨y,H1,I1,r1,q1⟩:=zq;rcases q1 with⟨a,e,⟨xs,hq⟩,q⟩|⟨a,e,⟨xs,hq⟩,q⟩|⟨x,e,q⟩
 .subst e;cases r1;obtain⟨zY,rv,p,hz⟩:=I1.list hq;refine wpAny_pyIter_list p.isList ?_;refine⟨s1.heap.objs.size,[s1.heap.objs.size],_,_,H1,rfl,I1.kept (t':=s1.toks) λb o e=>qc _ e,Vx a _,⟨_,qd _ rfl,rfl,rfl⟩,λb hb=>?_,q⟩;have e:b=s1.heap.objs.size:=by simpa using hb
  subst e;exact I1.fpOk (zc _) (I1.hok.fresh (zc _))
 .subst e;cases r1;obtain⟨zY,rv,p,hz⟩:=I1.tuple hq;refine wpAny_pyIter_tuple (show s1.heap.IsTuple a zY.toArray from p) ?_;refine⟨s1.heap.objs.size,[s1.heap.objs.size],_,_,H1,rfl,I1.kept (t':=s1.toks) λb o e=>qc _ e,Wf a _,⟨_,qd _ rfl,rfl,rfl⟩,λb hb=>?_,q⟩;have e:b=s1.heap.objs.size:=by simpa using hb
  subst e;exact I1.fpOk (zc _) (I1.hok.fresh (zc _))
 .subst e;obtain⟨t,rfl⟩:=r1;have fin:∀(ty:String)(o:Obj),(ty="str_ascii_iterator"\/ty="str_iterator")->o.cls=.type ty->o.data=.fields #[.str x t,.int 0 0]->o.isFreed=false->Gb X zU Z tg R (.ref s1.heap.objs.size) {s1 with heap:=s1.heap.push o}:=λty o hty hc hd hf=>by
   refine⟨s1.heap.objs.size,[s1.heap.objs.size],_,_,H1,rfl,I1.kept (t':=s1.toks) λb o e=>qc _ e,Vl _ x t ty hty,⟨_,qd _ hf,hc,hd⟩,λb hb=>?_,q⟩;have e:b=s1.heap.objs.size:=by simpa using hb
   subst e;exact I1.fpOk (zc _) (I1.hok.fresh (zc _))
  cases ha:x.cps.all (·<128)
  .exact wpAny_pyIter_wide ha (fin "str_iterator" _ (.inr rfl) rfl rfl rfl)
  .exact wpAny_pyIter_ascii ha (fin "str_ascii_iterator" _ (.inl rfl) rfl rfl rfl)
section
variable{K:W.Frag}
def Iy(e:x.cps.toList=l):fW K (Dl x) (l.map λc=>.str [c]) F0:=λi U Z F G H sm zW=>by
 have hs:x.cps.size=l.length:=by rw[<-e];simp
 refine⟨λd hd=>?_,λh=>by show x.cps.size<=i;rw[hs];simpa using h⟩;rw[qG]at hd;cases q:l[i]? with
 |none=>rw[q]at hd;cases hd
 |some c=>
  rw[q]at hd;have hd':D.str [c]=d:=qg hd;have hi:i<l.length:=(qh.mp q).1;have hx:x.cps[i]?=some c:=by rw[<-q5,e];exact q
  refine⟨by show i<x.cps.size;rw[hs];exact hi,λy H' hy=>?_⟩;obtain⟨rfl,c',e1,rfl⟩:=hy;rw[hx]at e1;have:c=c':=qg e1;subst this;rw[<-hd'];exact⟨F,zH.refl F,zW,.str rfl (by show 1<=_;decide)⟩
def mM(h:FE X e we):FI X tg e (cF we):=λpn xe hp=>by
 refine PI.imp (QX (h pn xe hp)) λZ H R q=>?_;obtain⟨F,G,U,P,PX,zW,hw,hok,hx⟩:=q;refine⟨F,G,U,_,PX,zW,hw,λr U1 v F1 H1 hk s1 r1 rv=>?_,hx⟩;obtain⟨⟨s,U2⟩,eg,hk⟩:=bL hk;obtain⟨l,el,hk⟩:=bL hk;obtain⟨F2,s2,l2,r2⟩:=dF (U':=[]) (Z':=[]) r1 (aS r1) rv eg;obtain⟨F3,s3,rp,r3⟩:=Rel.giveD (U:=U2) (vs:=[v]) (ss:=[s]) r2 (aS r2);have sm:=s1.trans (s2.trans s3);cases rp with
 |cons a b=>
  have el':items s.toD=some l:=el;generalize s.toD=d at a el';cases a with
  |lst e r=>have:l=_:=(qg el').symm;subst this;exact .inl ⟨_,rfl,⟨_,bR.mono r3.fr e⟩,hok _ U2 F3 H1 _ hk sm r3 (IM e r)⟩
  |tup e r=>have:l=_:=(qg el').symm;subst this;exact .inr (.inl ⟨_,rfl,⟨_,bP.of (r3.fr _ _ e)⟩,hok _ U2 F3 H1 _ hk sm r3 (TC (bP.of e) r)⟩)
  |str e z=>have:l=_:=(qg el').symm;subst this;exact .inr (.inr ⟨_,rfl,hok _ U2 F3 H1 _ hk sm r3 (Iy e)⟩)
  |_=>cases el'
def wJ(hg:Gl X "range")(hm:X.mg "range"=none)(ha:FE X a we)(hs:starEach [a] X.env=[(false,eval a X.env)]:=by rfl):FI X tg (.Call (.Name "range" p) [a] [] pos) (bT we):=λpn xe hp=>by
 refine PI.imp (VT (X:=wp X pn xe) hg hm (aB ha aI hs pn xe hp) hs) λZ H R q=>?_;obtain⟨F,G,U,P,PX,zW,hw,hok,hx⟩:=q;refine⟨F,G,U,λrs U1=>match rs with|[r]=>(match view r U1 with|some (.int j)=>(-big<=j/\j<=big)/\P (fromTo 0 j.toNat) U1|_=>False)|_=>False,PX,zW,hw,λrs U1 vs F1 H1 hk s1 r1 hl rv=>?_,hx⟩;match rs,vs,rv,r1,hk with
 |[r],[v],rv,r1,hk=>
  dsimp only at hk;split at hk
  .rename_i j ej;have rp:=dJ (U':=[]) (Z':=[]) r1 hl rv.1 ej;cases rp;obtain⟨⟨h1,h2⟩,hk⟩:=hk;have eb:(big:Int)=1000000:=rfl;rw[eb]at h1 h2;exact⟨j,rfl,by lia,by lia,hok _ U1 F1 H1 _ hk s1 ((show Rel X.K (U1++[zI r]) (Z++[some (.int j)]) F1 G H1 from r1).drop hl) Wb⟩
  .exact hk.elim
 |[],_,_,_,hk=>exact hk.elim
 |[_],[],rv,_,_=>exact rv.elim
 |[_],_::_::_,rv,_,_=>exact rv.2.elim
 |_::_::_,_,_,_,hk=>exact hk.elim
end
def pR(hc:X.calm=true)(hi:FI X tg iter wi)(hg:FG X ks tg g)(hb:wA X ks body wb)(hs:∀x,foldedSetIterable iter X.env x=pure x:=by intro _;rfl):FS X ks (.For tg iter body [] pos) (fI wi g wb):=λpn xe hp=>by
 refine PS.imp (Rn (X:=wp X pn xe) hp hc (hi pn xe hp) (hg pn xe hp) (hb pn xe hp) hs) λD Z H q=>?_;obtain⟨F,G,U,E,zW,hw,n,b,c,r,x⟩:=q;refine⟨F,G,U,_,_,zW,hw,λl U1 F1 H1 J hk s1 r1 it=>?_,x.mono (λZ2 z=>by rw[z];exact KP.refl) (zH.refl F) (zH.refl G)⟩;refine⟨λi m Z2 H2=>m=l.length-i/\i<=l.length/\∃F2 U2,KP ks Z Z2/\zH F1 F2/\Rel X.K U2 Z2 F2 G H2/\cK g wb (l.drop i) E U2,⟨l.length,rfl,zero_le _,F1,U1,KP.refl,zH.refl F1,r1,by simpa using hk⟩,?_⟩;rintro i m Z2 H2 ⟨rfl,hi,F2,U2,kp,s2,r2,hw2⟩;obtain⟨it1,it2⟩:=it i U2 Z2 F2 G H2 s2 r2;by_cases hlt:i<l.length
 .obtain⟨go,yld⟩:=it1 l[i] (by simp[hlt]);refine .inr ⟨go,λZ3 H3=>i+1<=l.length/\∃F3 U3,KP ks Z Z3/\zH F1 F3/\Rel X.K U3 Z3 F3 G H3/\cK g wb (l.drop (i+1)) E U3,λZ3 H3 h=>⟨l.length-(i+1),by lia,rfl,h⟩,λy H3 hy=>?_⟩;obtain⟨F3,s3,r3,rp⟩:=yld y H3 hy;rw[List.drop_eq_getElem_cons hlt]at hw2;refine⟨F3,G,U2,_,_,r3.push rp,hw2,λU4 Z4 F4 H4 hp4 k4 s4 r4=>?_⟩;have kp4:=kp.trans k4;have sm4:=s1.trans (s2.trans (s3.trans s4));exact⟨F4,G,U4,_,r4,hp4,λU' Z' F' H' h k' s r=>⟨hlt,F',U',kp4.trans k',s2.trans (s3.trans (s4.trans s)),r,h⟩,λU' Z' F' H' h k' s r=>n U' Z' F' H' h (kp4.trans k') (sm4.trans s) r,
   λU' Z' F' H' h k' s r=>⟨hlt,F',U',kp4.trans k',s2.trans (s3.trans (s4.trans s)),r,h⟩,λa U' Z' v F' H' h k' s q rv=>r a U' Z' v F' H' h (kp4.trans k') (sm4.trans s) q rv,x.mono (λZ5 k'=>kp4.trans k') sm4 (zH.refl G)⟩
 .have e:i=l.length:=Nat.le_antisymm hi (not_lt.mp hlt);subst e;rw[List.drop_length]at hw2;exact .inl ⟨it2 (zc _),n U2 Z2 F2 H2 hw2 kp (s1.trans s2) r2⟩
def Iu(hc:FT X c wc)(hb:wA X ks body wb):FS X ks (.While c body [] pos) (hX wc wb):=λpn xe hp=>by
 refine PS.imp (UV (X:=wp X pn xe) hp (hc pn xe hp) (hb pn xe hp)) λD Z H q=>?_;obtain⟨F,G,U,E,zW,⟨J,⟨m0,j0⟩,step⟩,n,b,c,r,x⟩:=q;refine⟨λm Z2 H2=>∃F2 U2,KP ks Z Z2/\zH F F2/\Rel X.K U2 Z2 F2 G H2/\J m U2,⟨m0,F,U,KP.refl,zH.refl F,zW,j0⟩,?_⟩;rintro m Z2 H2 ⟨F2,U2,kp,s2,r2,j2⟩;refine⟨F2,G,U2,_,_,r2,step m U2 j2,λk U3 F3 H3 hk s3 r3=>?_,x.mono (λZ5 z=>by rw[z];exact kp) s2 (zH.refl G)⟩;have sm3:=s2.trans s3;cases k with
 |true=>
  dsimp only;rw[q8 rfl];refine⟨λZ4 H4=>∃m',m'<m/\∃F2 U2,KP ks Z Z4/\zH F F2/\Rel X.K U2 Z4 F2 G H4/\J m' U2,λZ4 H4 h=>h,?_⟩;exact⟨F3,G,U3,_,r3,hk,λU' Z' F' H'⟨m',hm,h⟩ k' s r=>⟨m',hm,F',U',kp.trans k',sm3.trans s,r,h⟩,λU' Z' F' H' h k' s r=>n U' Z' F' H' h (kp.trans k') (sm3.trans s) r,
   λU' Z' F' H'⟨m',hm,h⟩ k' s r=>⟨m',hm,F',U',kp.trans k',sm3.trans s,r,h⟩,λa U' Z' v F' H' h k' s q rv=>r a U' Z' v F' H' h (kp.trans k') (sm3.trans s) q rv,x.mono (λZ5 k'=>kp.trans k') sm3 (zH.refl G)⟩
 |false=>dsimp only;rw[q9 qY];exact n U3 Z2 F3 H3 hk kp sm3 r3
inductive fR(K:W.Frag)(f:WF)(n:Nat)(vs:List V)(H:Hp)(Q:VK)(Zq:XK):Prop
 |mk (F G:Hp) (ss:List S) (P:S->List S->Prop) (PX:D->List S->Prop) (hn:vs.length=n) (zW:Rel K (ss.map some) (vs.map some) F G H) (hw:f ss P PX) (hok:∀s ss' v F' H',P s ss'->zH F F'->ss'.length=ss.length->Rel K (ss'.map some++[some s]) (vs.map some++[some v]) F' G H'->Q v H') (hex:∀d ss' F' H' C dx,PX d ss'->zH F F'->ss'.length=ss.length->Rel K (ss'.map some) (vs.map some) F' G H'->FP K F' d C dx->Zq (.ref C) dx H'):fR K f n vs H Q Zq
section
variable{K:W.Frag}
def Rel.comm(h:U.length=Z.length)(r:Rel K (U++U') (Z++Z') F G H):Rel K (U'++U) (Z'++Z) F G H:=by have:=Rel.swap (U:=[]) (Z:=[]) (U1:=U) (Z1:=Z) (U2:=U') (Z2:=Z') rfl h (by simpa using r);simpa using this
def Rel.lend(r:Rel K (U++(none::U')) (Z++(some v::Z')) F G H)(h:U.length=Z.length)(hs:slot U i=some s)(hv:Z[i]?=some (some v)):
  Rel K (U.set i none++(some s::U')) (Z++(some v::Z')) F G H:=by
 obtain⟨fp,e,nd,ap⟩:=r.en;obtain⟨f1,f2,rfl,a,b⟩:=e.cut h;obtain⟨v',fa,fi,fb,e1,rfl,q,up⟩:=a.at hs;rw[hv]at e1;have e2:v=v':=by simpa using e1
 subst e2;have a2:=up (F':=F) (H':=H) (o:=none) (u:=some v) (fi':=[]) (zH.refl F) (λ_ _=>rfl) (.no .nil);have es:Z.set i (some v)=Z:=by
  apply ext_getElem?;intro j;by_cases hj:i=j
  .subst hj;rw[getElem?_set_self (qh.mp hv).1,hv]
  .rw[getElem?_set_ne hj]
 rw[es]at a2;cases b with
 |no b=>
  have p:((fa++([]++fb))++(fi++f2)).Perm ((fa++(fi++fb))++f2):=by simp only[nil_append,qq];refine List.Perm.append_left _ ?_;rw[<-qq,<-qq fi];exact List.Perm.append_right _ qO
  exact⟨r.fr,r.gr,_,a2.app (.so q b),p.nodup_iff.mpr nd,λx hx=>ap x (p.mem_iff.mp hx)⟩
def Rel.back1(r:Rel K (U++(some s::U')) (Z++(some v::Z')) F G H)(h:U.length=Z.length)(hv:Z[i]?=some (some v)):Rel K (U.set i (some s)++U') (Z++Z') F G H:=by
 have hi:i<Z.length:=(qh.mp hv).1;have es:Z.set i (some v)=Z:=by apply ext_getElem?;grind
 have hl:U'.length=Z'.length:=by have:=r.len;grind
 have r1:=Rel.swap (U1:=[some s]) (Z1:=[some v]) (U2:=U') (Z2:=Z') h rfl r;rw[<-qq,<-qq]at r1;have r2:=Rel.store (i:=i) r1 (by simp[h,hl]) (by simp[h];lia);grind
def Ms:∀{rs:List R}{vs:List V}{ms:List Bool}{U U' U1:Env}{ss:List S}{F:Hp}{Z':St},Rel K (U++(rs.map zI++U')) (Z++(vs.map some++Z')) F G H->U.length=Z.length->vZ Z vs rs->cY ms rs U=some (ss,U1)->
  ∃F',zH F F'/\U1.length=U.length/\ss.length=rs.length/\Rel K (U1++(ss.map some++U')) (Z++(vs.map some++Z')) F' G H
 |[],[],ms,U,U',U1,ss,F,Z',r,h,_,e=>by
  have e':some (([]:List S),U)=some (ss,U1):=by cases ms<;>exact e
  cases e';exact⟨F,zH.refl F,rfl,rfl,r⟩
 |[],_::_,_,_,_,_,_,_,_,_,_,h,_=>h.elim
 |_::_,[],_,_,_,_,_,_,_,_,_,h,_=>h.elim
 |x::rs,v::vs,ms,U,U',U1,ss,F,Z',r,h,rv,e=>by
  --the first one,as it is handed on
  have first:∃s U2 ts F1,cY ms.tail rs U2=some (ts,U1)/\ss=s::ts/\zH F F1/\U2.length=U.length/\Rel K (U2++(some s::(rs.map zI++U'))) (Z++(some v::(vs.map some++Z'))) F1 G H:=by
   cases x with
   |v s=>
    have e':(match cY ms.tail rs U with|some (ss,U1)=>some (s::ss,U1)|none=>none)=some (ss,U1):=by cases ms<;>exact e
    cases q:cY ms.tail rs U with
    |none=>rw[q]at e';cases e'
    |some p=>obtain⟨ts,U3⟩:=p;rw[q]at e';cases e';exact⟨s,U,ts,F,q,rfl,zH.refl F,rfl,r⟩
   |loc i=>
    have e':(match slot U i with
     |some s=>if ms.headD false then(match cY ms.tail rs (U.set i none)with
      |some (ss,U1)=>some (s::ss,U1)
      |none=>none)
      else(match cY ms.tail rs (U.set i (some (.sh s.toD)))with
       |some (ss,U1)=>some (.sh s.toD::ss,U1)
       |none=>none)
     |none=>none)=some (ss,U1):=by cases ms<;>exact e
    cases q:slot U i with
    |none=>rw[q]at e';cases e'
    |some s=>
     rw[q]at e';dsimp only at e';by_cases hm:ms.headD false=true
     .rw[q8 hm]at e';cases q2:cY ms.tail rs (U.set i none)with
      |none=>rw[q2]at e';cases e'
      |some p=>obtain⟨ts,U3⟩:=p;rw[q2]at e';cases e';exact⟨s,U.set i none,ts,F,q2,rfl,zH.refl F,by simp,Rel.lend r h q rv.1⟩
     .rw[q9 hm]at e';cases q2:cY ms.tail rs (U.set i (some (.sh s.toD)))with
      |none=>rw[q2]at e';cases e'
      |some p=>obtain⟨ts,U3⟩:=p;rw[q2]at e';cases e';obtain⟨F1,s1,l1,r1⟩:=dF (x:=.loc i) (s:=.sh s.toD) (U1:=U.set i (some (.sh s.toD))) r h rv.1 (by show(match slot U i with|some s=>some (S.sh s.toD,U.set i (some (.sh s.toD)))|none=>none)=_;rw[q]);exact⟨_,_,ts,F1,q2,rfl,s1,by simp,r1⟩
  obtain⟨s,U2,ts,F1,q2,rfl,s1,l1,r1⟩:=first
  have h2:U2.length=Z.length:=l1.trans h;have hl:(rs.map zI++U').length=(vs.map some++Z').length:=by have:=r1.len;rw[qr,qr,h2,qu,qu]at this;lia
  have hl':U'.length=Z'.length:=by have:=rv.2.len;simp at hl;lia
  have r2:=Rel.swap (U1:=[some s]) (Z1:=[some v]) (U2:=rs.map zI++U') (Z2:=vs.map some++Z') h2 rfl r1;rw[qq,qq]at r2;obtain⟨F2,s2,l2,l3,r3⟩:=Ms (rs:=rs) (vs:=vs) r2 h2 rv.2 q2;have h3:U1.length=Z.length:=l2.trans h2;rw[<-qq (ts.map some),<-qq (vs.map some)]at r3;have r4:=Rel.swap (U1:=ts.map some++U') (Z1:=vs.map some++Z') (U2:=[some s]) (Z2:=[some v]) h3 (by simp[l3,rv.2.len,hl']) r3;exact⟨F2,s1.trans s2,l2.trans l1,by simp[l3],r4⟩
def El:∀{rs:List R}{vs:List V}{ms:List Bool}{U U':Env}{ss:List S}{Z':St},Rel K (U++(ss.map some++U')) (Z++(vs.map some++Z')) F G H->U.length=Z.length->ss.length=rs.length->vZ Z vs rs->
  (back ms rs ss U).length=U.length/\Rel K (back ms rs ss U++U') (Z++Z') F G H
 |[],[],ms,U,U',[],Z',r,h,_,_=>by
  have e:back ms [] [] U=U:=by cases ms<;>rfl
  rw[e];exact⟨rfl,r⟩
 |[],_,_,_,_,_::_,_,_,_,hl,_=>by simp at hl
 |_::_,_,_,_,_,[],_,_,_,hl,_=>by simp at hl
 |[],_::_,_,_,_,_,_,_,_,_,h=>h.elim
 |_::_,[],_,_,_,_,_,_,_,_,h=>h.elim
 |x::rs,v::vs,ms,U,U',s::ss,Z',r,h,hl,rv=>by
  cases x with
  |v t=>
   have e:back ms (.v t::rs) (s::ss) U=back ms.tail rs ss U:=by cases ms<;>rfl
   rw[e];exact El (rs:=rs) (vs:=vs) (r.mid h) h (by simpa using hl) rv.2
  |loc i=>
   have e:back ms (.loc i::rs) (s::ss) U=if ms.headD false then back ms.tail rs ss (U.set i (some s))else back ms.tail rs ss U:=by cases ms<;>rfl
   rw[e];by_cases hm:ms.headD false=true
   .rw[q8 hm];have q:=El (rs:=rs) (vs:=vs) (ms:=ms.tail) (U:=U.set i (some s)) (Rel.back1 r h rv.1) (by simpa using h) (by simpa using hl) rv.2;exact⟨q.1.trans (by simp),q.2⟩
   .rw[q9 hm];exact El (rs:=rs) (vs:=vs) (r.mid h) h (by simpa using hl) rv.2
end
def RG(Fk:gX X.prog X.w X.K X.mg X.base (mH X.prog X.w) k f fd ps (fR X.K wf n))(hr:bI k X.A)(hg:Gl X x)(hm:X.mg x=some (.ref f))(hk:W.keepIn X.K (.ref f)=true)(hb:Binds X.K fd ps [])
  (ha:FA X (e::es) wa)(zX:∀ss P PX,wf ss P PX->ss.length=n)(hdb:(x==("__debug__":Str))=false:=by decide)(he:starEach (e::es) X.env=(false,eval e X.env)::starEach es X.env:=by rfl)(hpl:(backTo pos (starEach es X.env)).any (·.1)=false:=by rfl):
  FE X (.Call (.Name x p) (e::es) [] pos) (zO wf ms wa):=λpn xe hp=>by
 refine PE.imp (Uo (X:=wp X pn xe) Fk hr hg hm hk hb (ha pn xe hp) hdb he hpl) λZ H Q q=>?_;refine(many (k:=λrs U1 Q E=>zG (cY ms rs U1) λp=>wf p.1 (λs ss=>Q (.v s) (back ms rs ss p.2)) (λx ss=>E x (back ms rs ss p.2))) q).mono λvs H1 h1=>?_;obtain⟨F,G,U,rs,P,PX,zW,hl,rv,hk,hok,hx⟩:=h1;obtain⟨⟨ss,U1⟩,ep,hk⟩:=bL hk;obtain⟨F1,s1,l1,l2,r1⟩:=Ms (U':=[]) (Z':=[]) (by simpa using zW) hl rv ep;have h1:U1.length=Z.length:=l1.trans hl;have r2:=Rel.comm (U':=ss.map some) (Z':=vs.map some) h1 (by simpa using r1);have hsv:(ss.map some).length=(vs.map some).length:=by simp[l2,rv.len]
 obtain⟨G',r3,gg,bk⟩:=r2.hide hsv;have hn:=zX _ _ _ hk;show fR X.K wf n vs H1 Q (XW (wp X pn xe) Z);refine⟨F1,G',ss,_,_,by rw[rv.len,<-l2];exact hn,r3,hk,λs ss' v F2 H2 hp s2 l3 r4=>?_,λd ss' F2 H2 C dx hp s2 l3 r4 cd a s' I Fl=>?_⟩
 .have r5:=bk s2 r4;have hsv':(ss'.map some++[some s]).length=(vs.map some++[some v]).length:=by simp[l3,l2,rv.len]
  have r6:=Rel.comm hsv' r5;obtain⟨l7,r7⟩:=El (ms:=ms) (rs:=rs) (vs:=vs) (U':=[some s]) (Z':=[some v]) r6 h1 (l3.trans l2) rv;exact hok _ _ v F2 H2 hp (s1.trans s2) r7 trivial
 .have r5:=bk s2 r4;have hsv':(ss'.map some).length=(vs.map some).length:=by simp[l3,l2,rv.len]
  have r6:=Rel.comm hsv' r5;obtain⟨l7,r7⟩:=El (ms:=ms) (rs:=rs) (vs:=vs) (U':=[]) (Z':=[]) (by simpa using r6) h1 (l3.trans l2) rv;exact hx d _ Z F2 H2 (.ref a) s' hp rfl (s1.trans s2) (by simpa using r7) I ⟨a,C,dx,rfl,cd,Fl⟩
section
variable{K:W.Frag}
def Rel.pushNs(r:Rel K U Z F G H):∀m:Nat,Rel K (U++List.replicate m none) (Z++List.replicate m none) F G H
 |0=>by simpa using r
 |m+1=>by have:=(Rel.pushNs r m).pushN (u:=none);rw[qq,qq,<-List.replicate_succ',<-List.replicate_succ']at this;exact this
def Args(K:W.Frag)(F:Hp):List S->List V->St->Prop
 |[],[],_=>True
 |s::ss,v::vs,u::Z=>((∃d,s=.sh d/\aN K F v d)\/(s.isSh=false/\u=some v))/\Args K F ss vs Z
 |_,_,_=>False
def GX:∀{ss:List S}{vs:List V}{fs:List S}{U U' Ua:Env}{Z Z' Za:St},aC ss U=some fs->Rel K (Ua++(U++U')) (Za++(Z++Z')) F G H->Ua.length=Za.length->U.length=Z.length->Args K F ss vs Z->
  fs.length=ss.length/\vs.length=ss.length/\Rel K (Ua++(fs.map some++U')) (Za++(vs.map some++Z')) F G H
 |[],[],fs,U,U',Ua,Z,Z',Za,e,r,h,h2,_=>by
  have e':some ([]:List S)=some fs:=by cases U<;>exact e
  cases e';refine⟨rfl,rfl,?_⟩;have r1:=Rel.swap (U1:=U) (Z1:=Z) (U2:=U') (Z2:=Z') h h2 r;rw[<-qq,<-qq]at r1;have hl:(Ua++U').length=(Za++Z').length:=by have:=r.len;simp at this;simp;lia
  simpa using r1.drop hl
 |[],_::_,_,_,_,_,_,_,_,_,_,_,_,h=>by cases h
 |_::_,[],_,_,_,_,_,_,_,_,_,_,_,h=>by cases h
 |_::_,_::_,_,_,_,_,[],_,_,_,_,_,_,h=>by cases h
 |_::_,_::_,_,[],_,_,_::_,_,_,_,_,_,h2,_=>by simp at h2
 |s::ss,v::vs,fs,o::U,U',Ua,u::Z,Z',Za,e,r,h,h2,ha=>by
  have h2':U.length=Z.length:=by simpa using h2
  obtain⟨ha1,ha2⟩:=ha;rcases ha1 with⟨d,rfl,rp⟩|⟨hs,hu⟩
  .have e':(aC ss U).map (S.sh d::·)=some fs:=e;cases q:aC ss U with
   |none=>rw[q]at e';cases e'
   |some gs=>
    rw[q]at e';have e'':S.sh d::gs=fs:=qg e';subst e'';have r1:Rel K (Ua++(U++U')) (Za++(Z++Z')) F G H:=Rel.mid (U:=Ua) (Z:=Za) r h;obtain⟨l1,l2,r2⟩:=GX q r1 h h2' ha2;have hl:(gs.map some++U').length=(vs.map some++Z').length:=by have:=r2.len;simp at this;simp;lia
    have r3:=r2.push rp;rw[qq Ua,qq Za]at r3;have r4:=Rel.swap (U1:=gs.map some++U') (Z1:=vs.map some++Z') (U2:=[some (.sh d)]) (Z2:=[some v]) h hl r3;exact⟨by simp[l1],by simp[l2],r4⟩
  .subst hu;have e':∃t gs,o=some t/\aC ss U=some gs/\fs=t::gs:=by
    cases s with
    |sh d=>cases hs
    |_=>
     cases o with
     |none=>cases e
     |some t=>
      have e':(aC ss U).map (t::·)=some fs:=e;cases q:aC ss U with
      |none=>rw[q]at e';cases e'
      |some gs=>rw[q]at e';exact⟨t,gs,rfl,rfl,(qg e').symm⟩
   obtain⟨t,gs,rfl,q,rfl⟩:=e';have r1:Rel K ((Ua++[some t])++(U++U')) ((Za++[some v])++(Z++Z')) F G H:=by simpa using r
   obtain⟨l1,l2,r2⟩:=GX q r1 (by simp[h]) h2' ha2;exact⟨by simp[l1],by simp[l2],by simpa using r2⟩
def Mr{ks:List Nat}:∀{ss:List S}{vs:List V}{Z:St}{j:Nat}{fp:List Addr},zJ K F0 H (ss.map some) (vs.map some) fp->zH F0 F->(∀i s,ss[i]?=some s->(j+i)∈ks\/s.isSh=true)->
  (∀i v,vs[i]?=some v->(j+i)∈ks->Z[i]?=some (some v))->vs.length<=Z.length->Args K F ss vs Z
 |[],[],_,_,_,_,_,_,_,_=>trivial
 |[],_::_,_,_,_,r,_,_,_,_=>by cases r
 |_::_,[],_,_,_,r,_,_,_,_=>by cases r
 |_::_,_::_,[],_,_,_,_,_,_,h=>by simp at h
 |s::ss,v::vs,u::Z,j,_,.so a b,sm,hk,hv,hl=>by
  refine⟨?_,Mr (j:=j+1) b sm (λi t e=>by have:=hk (i+1) t (by simpa using e);rwa[show j+(i+1)=j+1+i by lia]at this) (λi t e z=>by simpa using hv (i+1) t (by simpa using e) (by rwa[show j+(i+1)=j+1+i by lia])) (by simpa using hl)⟩;cases hs:s.isSh with
  |true=>
   cases s with
   |sh d=>cases a with
    |sh r=>exact .inl ⟨d,rfl,r.mono sm⟩
   |_=>cases hs
  |false=>refine .inr ⟨rfl,?_⟩;have:=hk 0 s rfl;rw[hs]at this;have z:(j+0)∈ks:=this.resolve_right (by simp);simpa using hv 0 v rfl z
def KR{st:Stmt}(Fn:Dm K x qual st f fd)(Sc:aG N ps (aA st))(hn:ps.length=n)(hm:N.length=m)
  (hb:∀(cdv:Value)(A:Around)(outer:List PySem.Env)(s:Shared)(H:Hp)(E:XK),bI k (A.deeper (envOfC qual (aA st) s.heap.objs.size f cdv))->wA (gU (mH P w) P w K mg base N qual (aA st) f cdv A outer s H E) ks (cR st) wb):
  gX P w K mg base (mH P w) (k+1) f fd ps (fR K (jB n m ks wb) n):=by
 refine Fn.okX Sc (λvs H Q E h=>?_) (λcdv A outer s H vs Q E hr h=>?_)
 .obtain⟨F,G,ss,P',PX,hl,_⟩:=h;rw[hl,hn]
 .obtain⟨F,G,ss,P',PX,hvl,zW,⟨hsl,hks,hbody⟩,hok,hex⟩:=h;refine⟨_,hb cdv A outer s H E hr [] (gU (mH P w) P w K mg base N qual (aA st) f cdv A outer s H E).xe PassesOwn.leaving,?_⟩;have hmn:N.length-vs.length=m-n:=by rw[hvl,hm]
  have hr0:Rel K (ss.map some++List.replicate (m-n) none) (L2.start N vs) F G H:=by unfold L2.start;rw[hmn];exact zW.pushNs (m-n)
  have hpl:ps.length<=N.length:=by have:=congrArg List.length Sc.pre;rw[qI]at this;lia
  have hst:∀i v,vs[i]?=some v->(L2.start N vs)[i]?=some (some v):=λi v e=>by unfold L2.start;have hi:i<vs.length:=(qh.mp e).1;rw[getElem?_append_left (by simpa using hi),qG,e];rfl
  --how the arguments are at an end
  have arg:∀{U':Env}{Z':St}{F':Hp}{fs:List S},KP ks (L2.start N vs) Z'->zH F F'->U'.length=Z'.length->aC ss U'=some fs->Args K F' ss vs Z':=by
   intro U' Z' F' fs kp sm zX e;obtain⟨fp,en,_⟩:=zW.en;have hZ:vs.length<=Z'.length:=by
    --aC reads as many slots as there are arguments
    have:∀(ss:List S)(U:Env)(fs:List S),aC ss U=some fs->ss.length<=U.length:=by
     intro ss;induction ss with
     |nil=>intro U fs _;simp
     |cons s ss ih=>
      intro U fs e;cases U with
      |nil=>cases s<;>cases e
      |cons o U=>
       have:∃gs,aC ss U=some gs:=by
        cases q:aC ss U with
        |some gs=>exact⟨gs,rfl⟩
        |none=>
         cases s with
         |sh d=>have e':(aC ss U).map (S.sh d::·)=some fs:=e;rw[q]at e';cases e'
         |_=>
          cases o with
          |none=>cases e
          |some t=>have e':(aC ss U).map (t::·)=some fs:=e;rw[q]at e';cases e'
       obtain⟨gs,q⟩:=this;have:=ih U gs q;simp;exact this
    have:=this ss U' fs e;rw[hsl]at this;lia
   exact Mr (ks:=ks) (F:=F') (Z:=Z') (j:=0) en sm (λi s e=>by simpa using hks i s e) (λi v e z=>by rw[kp i (by simpa using z)];exact hst i v e) hZ
  have fin:∀{U':Env}{Z':St}{F' H':Hp}{t:S}{v:V}{fs:List S},KP ks (L2.start N vs) Z'->zH F F'->Rel K (U'++[some t]) (Z'++[some v]) F' G H'->aC ss U'=some fs->P' t fs->Q v H':=by intro U' Z' F' H' t v fs kp sm r e hp;have zX:U'.length=Z'.length:=aS r;obtain⟨l1,l2,r1⟩:=GX (Ua:=[]) (Za:=[]) (U':=[some t]) (Z':=[some v]) e (by simpa using r) rfl zX (arg kp sm zX e);exact hok t fs v F' H' hp sm l1 (by simpa using r1)
  refine⟨F,G,_,_,hr0,hbody,λU' Z' F' H' h kp sm r=>?_,λU' Z' F' H' h=>h.elim,λU' Z' F' H' h=>h.elim,λa U' Z' v F' H' h kp sm r rv=>?_,λd U' Z' F' H' u s' h kp sm r I xr=>?_⟩
  .obtain⟨fs,e,h⟩:=bL h;exact fin kp sm (r.push .non) e h
  .cases a with
   |v t=>obtain⟨fs,e,h⟩:=bL h;exact fin kp sm r e h
   |loc i=>
    obtain⟨t,et,h⟩:=bL h;have hl:=aS r;by_cases hi:i<n
    .rw[q8 hi]at h;obtain⟨fs,e,h⟩:=bL h;obtain⟨F2,s2,_,r2⟩:=dF (x:=.loc i) (s:=.sh t.toD) (U1:=U'.set i (some (.sh t.toD))) (U':=[]) (Z':=[]) r hl rv (by show(match slot U' i with|some s=>some (S.sh s.toD,U'.set i (some (.sh s.toD)))|none=>none)=_;rw[et]);exact fin kp (sm.trans s2) r2 e h
    .rw[q9 hi]at h;obtain⟨fs,e,h⟩:=bL h;have r2:=Rel.lend (U':=[]) (Z':=[]) r hl et rv;refine fin kp sm r2 ?_ h
     --the slot lies behind the parameters
     have:∀(ss:List S)(U:Env)(i:Nat),ss.length<=i->aC ss (U.set i none)=aC ss U:=by
      intro ss;induction ss with
      |nil=>intro U i _;cases U<;>cases i<;>rfl
      |cons s ss ih=>
       intro U i hi;cases U with
       |nil=>rfl
       |cons o U=>
        cases i with
        |zero=>simp at hi
        |succ i=>
         have e:=ih U i (by simpa using hi);show aC (s::ss) (o::U.set i none)=aC (s::ss) (o::U);cases s with
         |sh d=>show(aC ss (U.set i none)).map _=(aC ss U).map _;rw[e]
         |_=>
          cases o with
          |none=>rfl
          |some t=>show(aC ss (U.set i none)).map _=(aC ss U).map _;rw[e]
     rw[this ss U' i (by lia)];exact e
  .obtain⟨fs,e,h⟩:=bL h;obtain⟨a,C,dx,rfl,cd,Fl⟩:=xr;obtain⟨l1,l2,r1⟩:=GX (K:=K) (Ua:=[]) (Za:=[]) (U':=[]) (Z':=[]) e (by simpa using(show Rel K U' Z' F' G H' from r)) rfl r.len (arg kp sm r.len e);exact Ui I Fl (hex d fs F' H' C dx h sm l1 (by simpa using r1) cd)
end
end FL
namespace L2
open PySem PySem.Spec PyProof.Rows
def cL(cells:List (Str×Addr)):List (Str×NameKind)->List (Str×Addr)->List (Str×Addr)
 |[],zZ=>zZ
 |(n,k)::r,zZ=>if k==.free then(match cells.lookup n with|some c=>cL cells r ((n,c)::zZ)|none=>cL cells r zZ)else cL cells r zZ
def IX(f:Str×NameKind->List (Str×Addr)->Sem (ForInStep (List (Str×Addr))))
  (hf:∀n k cs,f (n,k) cs=if k==.free then(do let a<-cellOf env n;pure (.yield ((n,a)::cs)))else pure (.yield cs)):
  ∀(names:List (Str×NameKind))(zZ:List (Str×Addr)),(∀x∈names,x.2=.free->∃c,env.cells.lookup x.1=some c)->(forIn names zZ f:Sem _)=pure (cL env.cells names zZ)
 |[],zZ,_=>by rw[forIn_nil];rfl
 |(n,k)::r,zZ,h=>by
  rw[forIn_cons,hf];have hr:∀x∈r,x.2=.free->∃c,env.cells.lookup x.1=some c:=λx hx=>h x (qm _ hx);by_cases hk:(k==.free)=true
  .obtain⟨c,hc⟩:=h (n,k) qo (by simpa using hk);have hc':env.cells.lookup n=some c:=hc;have e:cellOf env n=pure c:=by unfold cellOf;rw[hc']
   rw[q8 hk,e];have ih:=IX f hf r ((n,c)::zZ) hr;unfold cL;rw[q8 hk,hc'];rw[<-ih];simp
  .rw[q9 hk];have ih:=IX f hf r zZ hr;unfold cL;rw[q9 hk,<-ih];simp
def WW(h:∀x∈scope.names,x.2=.free->∃c,env.cells.lookup x.1=some c):closureFor scope env=pure (cL env.cells scope.names []):=by show(forIn scope.names ([]:List (Str×Addr)) _>>=λcs=>pure cs)=_;rw[IX (env:=env) _ (λn k cs=>rfl) scope.names [] h];rfl
def GV:∀{names:List (Str×NameKind)}{zZ:List (Str×Addr)},(n,c)∈cL cells names zZ->(n,c)∈zZ\/((n,NameKind.free)∈names/\cells.lookup n=some c)
 |[],_,h=>.inl h
 |(m,k)::r,zZ,h=>by
  unfold cL at h;by_cases hk:(k==.free)=true
  .rw[q8 hk]at h;have hk':k=.free:=by simpa using hk
   cases q:cells.lookup m with
   |none=>
    rw[q]at h;rcases GV h with z|⟨z,w⟩
    .exact .inl z
    .exact .inr ⟨qm _ z,w⟩
   |some d=>
    rw[q]at h;rcases GV h with z|⟨z,w⟩
    .rcases qC.mp z with e|z
     .cases e;exact .inr ⟨by rw[<-hk'];exact qo,q⟩
     .exact .inl z
    .exact .inr ⟨qm _ z,w⟩
  .rw[q9 hk]at h;rcases GV h with z|⟨z,w⟩
   .exact .inl z
   .exact .inr ⟨qm _ z,w⟩
def Eo(hc:cells.lookup n=some c):∀{names:List (Str×NameKind)}{zZ:List (Str×Addr)},((n,c)∈zZ\/(n,NameKind.free)∈names)->(n,c)∈cL cells names zZ
 |[],_,h=>h.elim id λz=>by simp at z
 |(m,k)::r,zZ,h=>by
  unfold cL;by_cases hk:(k==.free)=true
  .rw[q8 hk];have hk':k=.free:=by simpa using hk
   cases q:cells.lookup m with
   |none=>
    refine Eo hc ?_;rcases h with z|z
    .exact .inl z
    .rcases qC.mp z with e|z
     .cases e;rw[hc]at q;cases q
     .exact .inr z
   |some d=>
    refine Eo hc ?_;rcases h with z|z
    .exact .inl (qm _ z)
    .rcases qC.mp z with e|z
     .cases e;rw[hc]at q;cases q;exact .inl qo
     .exact .inr z
  .rw[q9 hk];refine Eo hc ?_;rcases h with z|z
   .exact .inl z
   .rcases qC.mp z with e|z
    .cases e;exact(hk (by decide)).elim
    .exact .inr z
def OP{α:Type}:∀{l:List (Str×α)}{n:Str}{c:α},(n,c)∈l->(∀c',(n,c')∈l->c'=c)->l.lookup n=some c
 |[],_,_,h,_=>by simp at h
 |(m,d)::r,n,c,h,u=>by
  rw[lookup_cons];cases hb:n==m with
  |true=>
   have e:n=m:=by simpa using hb
   subst e;exact congrArg some (u d qo)
  |false=>
   refine OP (l:=r) ?_ λc' hc=>u c' (qm _ hc);rcases qC.mp h with e|h
   .cases e;simp at hb
   .exact h
def IW:∀{names:List (Str×NameKind)}{n:Nat}{zZ:List (Str×Addr)}{x:Str}{c:Addr},(x,c)∈cellsFrom n names zZ->(x,c)∈zZ\/((x,NameKind.cell)∈names/\n<=c)
 |[],_,_,_,_,h=>.inl h
 |(m,k)::r,n,zZ,x,c,h=>by
  unfold cellsFrom at h;by_cases hk:(k==.cell)=true
  .rw[q8 hk]at h;have hk':k=.cell:=by simpa using hk
   rcases IW h with z|⟨z,w⟩
   .rcases qC.mp z with e|z
    .cases e;exact .inr ⟨by rw[<-hk'];exact qo,zc _⟩
    .exact .inl z
   .exact .inr ⟨qm _ z,by lia⟩
  .rw[q9 hk]at h;rcases IW h with z|⟨z,w⟩
   .exact .inl z
   .exact .inr ⟨qm _ z,w⟩
def Ey:∀{names:List (Str×NameKind)}{n:Nat}{zZ:List (Str×Addr)}{x:Str},((x,NameKind.cell)∈names\/∃c,(x,c)∈zZ)->∃c,(x,c)∈cellsFrom n names zZ
 |[],_,_,_,h=>h.elim (λz=>by simp at z) id
 |(m,k)::r,n,zZ,x,h=>by
  unfold cellsFrom;by_cases hk:(k==.cell)=true
  .rw[q8 hk];refine Ey ?_;rcases h with z|⟨c,z⟩
   .rcases qC.mp z with e|z
    .cases e;exact .inr ⟨n,qo⟩
    .exact .inl z
   .exact .inr ⟨c,qm _ z⟩
  .rw[q9 hk];refine Ey ?_;rcases h with z|z
   .rcases qC.mp z with e|z
    .cases e;exact(hk (by decide)).elim
    .exact .inl z
   .exact .inr z
def GY{α:Type}:∀{l:List (Str×α)}{x:Str},(∃c,(x,c)∈l)->∃c,l.lookup x=some c
 |[],_,⟨_,h⟩=>by simp at h
 |(m,d)::r,x,⟨c,h⟩=>by
  rw[lookup_cons];cases hb:x==m with
  |true=>exact⟨d,rfl⟩
  |false=>
   refine GY (l:=r) ⟨c,?_⟩;rcases qC.mp h with e|h
   .cases e;simp at hb
   .exact h
def Jg:∀{names:List (Str×NameKind)}{n:Nat}{zZ:List (Str×Addr)},(∀p∈zZ,p.2<n)->(∀p∈zZ,∀q∈zZ,p.2=q.2->p.1=q.1)->
  ∀p∈cellsFrom n names zZ,∀q∈cellsFrom n names zZ,p.2=q.2->p.1=q.1
 |[],_,_,_,h=>h
 |(m,k)::r,n,zZ,hb,h=>by
  unfold cellsFrom;by_cases hk:(k==.cell)=true
  .rw[q8 hk];refine Jg (λp hp=>?_) λp hp q hq e=>?_
   .rcases qC.mp hp with rfl|hp
    .exact lt_succ_self _
    .exact lt_succ_of_lt (hb p hp)
   .rcases qC.mp hp with rfl|hp<;>rcases qC.mp hq with rfl|hq
    .rfl
    .have h1:=hb q hq;have e':n=q.2:=e;exact absurd h1 (by rw[<-e'];exact lt_irrefl _)
    .have h1:=hb p hp;have e':p.2=n:=e;exact absurd h1 (by rw[e'];exact lt_irrefl _)
    .exact h p hp q hq e
  .rw[q9 hk];exact Jg hb h
def WN
  (hQ:∀h':Heap,(∀b o,s.heap.get? b=some o->h'.get? b=some o)->h'.Ns s.heap.objs.size (λ_=>none)->(∀x c,(x,c)∈cellsFrom (s.heap.objs.size+1) scope.names cl->(x,c)∈cl\/h'.IsCell c none)->
   Q {scope:=scope,locals:=s.heap.objs.size,globals:=globals,cells:=cellsFrom (s.heap.objs.size+1) scope.names cl,qual:=qual,func:=none,code:=env.code,frame:=env.frame,builtins:=env.builtins} {s with heap:=h'}):
  wpAny M A (newFunctionEnv scope globals cl [] qual none .none (some env)) Q E s:=by
 simp only[newFunctionEnv,isSome_some,if_true];refine qa (wpAny_alloc ?_);refine qa (wpAny_layCells _ (λname kind cells=>by cases hkc:kind==NameKind.cell<;>simp[hkc]) _ _ _ _ ?_);rw[show({s with heap:=s.heap.push {cls:=.type "dict",data:=.dict #[]}}:Shared).heap.objs.size=s.heap.objs.size+1 from Heap.size_push ..];refine qb (hQ _ (λb o e=>pushCells_keeps _ _ b o (qc _ e)) ((Heap.Ns.new s.heap (.type "dict")).keeps (pushCells_keeps _ _)) λx c h=>?_)
 --the new cells are empty
 have all:∀(names:List (Str×NameKind))(h:Heap)(zZ:List (Str×Addr)),(∀p∈zZ,p∈cl\/h.IsCell p.2 none)->∀p∈cellsFrom h.objs.size names zZ,p∈cl\/(pushCells h names).IsCell p.2 none:=by
  intro names;induction names with
  |nil=>intro h zZ ha p hp;exact ha p hp
  |cons q r ih=>
   intro h zZ ha p hp;obtain⟨m,k⟩:=q;unfold cellsFrom at hp;unfold pushCells;by_cases hk:(k==.cell)=true
   .rw[q8 hk]at hp⊢;have e:(h.push {cls:=.type "cell",data:=.cell none}).objs.size=h.objs.size+1:=Heap.size_push ..;rw[<-e]at hp;refine ih _ _ (λp hp=>?_) p hp;rcases qC.mp hp with rfl|hp
    .exact .inr ⟨_,qd _ rfl,rfl⟩
    .rcases ha p hp with z|z
     .exact .inl z
     .exact .inr (z.keeps λb o e=>qc _ e)
   .rw[q9 hk]at hp⊢;exact ih h zZ ha p hp
 have:=all scope.names (s.heap.push {cls:=.type "dict",data:=.dict #[]}) cl (λp hp=>.inl hp) (x,c) (by rw[Heap.size_push];exact h);exact this
def iX(N vars:List Str):List Str:=N.map (λx=>if x∈vars then Str.empty else x)++Str.empty::vars
def aF(X:Cx)(scope:Scope)(vars:List Str)(s:Shared)(H:Hp)(ex:List Addr):Cx where
 prog:=X.prog
 w:=X.w
 K:=X.K
 mg:=X.mg
 base:=X.base
 A:=X.A
 N:=iX X.N vars
 s₀:=s
 H₀:=H
 env:=compEnvC scope (cellsFrom (s.heap.objs.size+1) scope.names (cL X.env.cells scope.names [])) s.heap.objs.size X.env
 outer:=X.stack
 stack:=X.stack
 ex:=ex
 fn:=λx=>decide ((x,NameKind.cell)∈scope.names)
 calm:=X.calm
 pn:=[]
 xe:=λ_ _=>False
structure cV(outer scope:Scope)(N vars:List Str):Prop where
 kind:scope.kind=.function
 fr:∀x∈scope.names,x.2=.free->outer.names.lookup x.1=some .cell\/outer.names.lookup x.1=some .free
 nd:(scope.names.map (·.1)).Nodup
 own:∀x∈N,x∉vars->(x,NameKind.local)∉scope.names/\(x,NameKind.cell)∉scope.names
 emp:scope.names.lookup Str.empty=none
def Ha{α:Type}{l:List (Str×α)}{c:α}(nd:(l.map (·.1)).Nodup):l.lookup n=some c↔(n,c)∈l:=by
 refine⟨mem_of_lookup,λh=>OP h λc' h'=>?_⟩;induction l with
 |nil=>simp at h
 |cons p r ih=>grind
def ON{α β:Type}(g:Str->α->β):∀(l:List (Str×α))(n:Str),(l.map λp=>(p.1,g p.1 p.2)).lookup n=(l.lookup n).map (g n)
 |[],_=>rfl
 |(m,d)::r,n=>by
  rw[qA,lookup_cons,lookup_cons];cases hb:n==m with
  |true=>have e:n=m:=by simpa using hb
         subst e;rfl
  |false=>exact ON g r n
def rl(env:PySem.Env)(n:Str)(k:NameKind):NameKind:=if(k==NameKind.free&&env.scope.kind==.function&&env.kindOf n==some .cell)then NameKind.cell else k
def WZ(scope:Scope)(env:PySem.Env):(relabel scope env).names=scope.names.map λp=>(p.1,rl env p.1 p.2):=by
 unfold relabel;show scope.names.map _=scope.names.map _;refine map_congr_left λp _=>?_;obtain⟨n,k⟩:=p;show(if(k==NameKind.free&&env.scope.kind==.function&&env.kindOf n==some .cell)=true then(n,NameKind.cell)else(n,k))=(n,rl env n k);unfold rl;by_cases h:(k==NameKind.free&&env.scope.kind==.function&&env.kindOf n==some .cell)=true
 .rw[q8 h,q8 h]
 .rw[q9 h,q9 h]
def GZ(scope:Scope)(env:PySem.Env)(x:Str):(relabel scope env).names.lookup x=(scope.names.lookup x).map (rl env x):=by rw[WZ,ON]
def DV(h:k≠.free):rl env x k=k:=by unfold rl;rw[q9];intro z;simp at z;exact h z.1.1
def RH:rl env x .free=.cell\/rl env x .free=.free:=by
 unfold rl;split
 .exact .inl rfl
 .exact .inr rfl
def Vb(h:(iX N vars)[i]?=some x)(hi:i<N.length):(N[i]?=some x/\x∉vars)\/x=Str.empty:=by
 unfold iX at h;rw[getElem?_append_left (by simpa using hi),qG]at h;cases q:N[i]? with
 |none=>rw[q]at h;cases h
 |some y=>grind
def Inv.comp(I:Inv X zU Z H s)(S:cV X.env.scope scope X.N vars)(hex:∀b∈ex,eB X zU H b/\b<s.heap.objs.size)(kept:∀b o,s.heap.get? b=some o->h'.get? b=some o)(hns:h'.Ns s.heap.objs.size (λ_=>none))
  (hcl:∀x c,(x,c)∈cellsFrom (s.heap.objs.size+1) scope.names (cL X.env.cells scope.names [])->(x,c)∈cL X.env.cells scope.names []\/h'.IsCell c none)(hk:vars.length=k)(w0:Option V):
  Inv (aF X scope vars s H ex) [] (Z++w0::List.replicate k none) H {s with heap:=h'}:=by
 have cm:∀{x:Str}{c:Addr},(x,c)∈cL X.env.cells scope.names []->(x,NameKind.free)∈scope.names/\X.env.cells.lookup x=some c:=λ{x c} h=>by
  rcases GV h with z|z
  .simp at z
  .exact z
 have lt:∀{x:Str}{c:Addr},X.env.cells.lookup x=some c->c<s.heap.objs.size:=λ{x c} h=>by obtain⟨v,z⟩:=I.cell x c h;exact z.lt
 have dJ:∀{x:Str}{c:Addr},(aF X scope vars s H ex).env.cells.lookup x=some c->(X.env.cells.lookup x=some c/\(x,NameKind.free)∈scope.names)\/((x,NameKind.cell)∈scope.names/\s.heap.objs.size+1<=c):=λ{x c} h=>by
  rcases IW (mem_of_lookup h)with z|z
  .exact .inl ⟨(cm z).2,(cm z).1⟩
  .exact .inr z
 have uniq:∀{x:Str}{a b:NameKind},(x,a)∈scope.names->(x,b)∈scope.names->a=b:=λ{x a b} h1 h2=>by have e1:=(Ha S.nd).mpr h1;have e2:=(Ha S.nd).mpr h2;rw[e1]at e2;exact qg e2
 --what a visible name is,seen from around
 have vis:∀{x:Str},((relabel scope X.env).names.lookup x=some .cell\/(relabel scope X.env).names.lookup x=some .free)->(x,NameKind.cell)∈scope.names\/(x,NameKind.free)∈scope.names:=λ{x} h=>by
  rw[GZ]at h;cases q:scope.names.lookup x with
  |none=>rw[q]at h;rcases h with h|h<;>cases h
  |some k=>
   have hm:=mem_of_lookup q;rw[q]at h;have h0:some (rl X.env x k)=some .cell\/some (rl X.env x k)=some .free:=h;cases k with
   |cell=>exact .inl hm
   |free=>exact .inr hm
   |«local»=>rw[DV (by decide)]at h0;rcases h0 with h|h<;>cases h
   |globalImplicit=>rw[DV (by decide)]at h0;rcases h0 with h|h<;>cases h
   |globalExplicit=>rw[DV (by decide)]at h0;rcases h0 with h|h<;>cases h
 have ok:(aF X scope vars s H ex).Ok:=by
  refine⟨I.ok.mod,S.kind,I.ok.glob,I.ok.blt,zc _,λx y c h1 h2=>?_,λx h=>?_,λx c hf h=>?_,I.ok.hd,I.ok.frames,.inl rfl,λb hb=>⟨?_,λx c h z=>?_⟩,I.bs,le_trans I.ok.bsz I.sz,λb o e hb=>?_,λb hb z=>?_,I.stack,I.stkFree⟩
  .refine Jg (λp hp=>?_) (λp hp q hq e=>?_) (x,c) (mem_of_lookup h1) (y,c) (mem_of_lookup h2) rfl
   .exact lt_succ_of_lt (lt (cm (x:=p.1) (c:=p.2) hp).2)
   .exact I.ok.inj _ _ _ (cm (x:=p.1) (c:=p.2) hp).2 (e▸(cm (x:=q.1) (c:=q.2) hq).2)
  .rcases vis h with z|z
   .exact GY (Ey (.inl z))
   .obtain⟨c,hc⟩:=I.ok.has x (S.fr (x,.free) z rfl);exact GY (Ey (.inr ⟨c,Eo hc (.inr z)⟩))
  .have hf':(x,NameKind.cell)∈scope.names:=qV hf;rcases dJ h with⟨_,z⟩|⟨_,z⟩
   .cases uniq hf' z
   .exact Nat.le_of_succ_le z
  .exact ne_of_lt (hex b hb).2
  .rcases dJ h with⟨w,_⟩|⟨_,w⟩
   .exact(hex b hb).1.2.2.2.2.1 x c w z
   .have h1:=(hex b hb).2;rw[<-z]at h1;exact absurd (lt_of_lt_of_le h1 (Nat.le_of_succ_le w)) (lt_irrefl _)
  .obtain⟨_,_,_,h1,_⟩:=(hex b hb).1;rcases h1 with z|z
   .exact I.ok.noex b o e z
   .rw[(I.ok.bs b o e).1]at z;cases z
  .obtain⟨_,h2,h3,_⟩:=(hex b hb).1;rcases qC.mp (I.stkSub b z)with w|w
   .exact h2 w
   .exact h3 w
 have cellK:∀{c:Addr}{v:Option Value},s.heap.IsCell c v->h'.IsCell c v:=λz=>z.keeps kept;refine⟨ok,rfl,I.bare,Un.kept kept,⟨_,hns,λi x v h1 h2 h3=>?_⟩,λx c h=>?_,I.hok.fresh (zc _),λx c h=>?_,λp hp=>absurd (show p∈([]:List (Addr×Obj)) from hp) (by simp),I.hok.kept kept,?_⟩
 ·--a slot of the context
  have noE:¬FV (aF X scope vars s H ex).env.scope Str.empty:=λh3=>by have h3':(relabel scope X.env).names.lookup Str.empty=some .local\/(relabel scope X.env).names.lookup Str.empty=some .cell\/(relabel scope X.env).names.lookup Str.empty=some .free:=h3;rw[GZ,S.emp]at h3';rcases h3' with z|z|z<;>cases z
  have hi:i<Z.length:=by
   by_cases hi:i<Z.length
   .exact hi
   .exfalso;rw[getElem?_append_right (not_lt.mp hi)]at h2;cases q:i-Z.length with
    |zero=>
     have e:i=X.N.length:=by have:=I.len;lia
     rw[e]at h1;have h1':(iX X.N vars)[X.N.length]?=some x:=h1;unfold iX at h1';rw[getElem?_append_right (by simp)]at h1';simp at h1';subst h1';exact noE h3
    |succ j=>rw[q,List.getElem?_cons_succ,List.getElem?_replicate]at h2;split at h2<;>cases h2
  rw[getElem?_append_left hi]at h2;rcases Vb h1 (by rw[<-I.len];exact hi)with⟨h1,hx⟩|rfl
  .have own:=S.own x (qN h1) hx;have hfree:(x,NameKind.free)∈scope.names:=by
    have h3':(relabel scope X.env).names.lookup x=some .local\/(relabel scope X.env).names.lookup x=some .cell\/(relabel scope X.env).names.lookup x=some .free:=h3;rcases h3' with z|z
    .rw[GZ]at z;cases q:scope.names.lookup x with
     |none=>rw[q]at z;cases z
     |some kk=>
      rw[q]at z;have z0:some (rl X.env x kk)=some .local:=z;have hm:=mem_of_lookup q;cases kk with
      |«local»=>exact absurd hm own.1
      |cell=>exact absurd hm own.2
      |free=>exact hm
      |globalImplicit=>rw[DV (by decide)]at z0;cases z0
      |globalExplicit=>rw[DV (by decide)]at z0;cases z0
    .rcases vis z with w|w
     .exact absurd w own.2
     .exact w
   have hout:=S.fr (x,.free) hfree rfl;obtain⟨m,hm,hl⟩:=I.loc;obtain⟨u,r,l⟩:=hl i x v h1 h2 (hout.elim (λz=>.inr (.inl z)) λz=>.inr (.inr z));refine⟨u,r,.inr ⟨?_,?_⟩⟩
   .show(relabel scope X.env).names.lookup x=some .cell\/(relabel scope X.env).names.lookup x=some .free;rw[GZ,(Ha S.nd).mpr hfree];show some (rl X.env x .free)=_\/some (rl X.env x .free)=_;rcases RH (env:=X.env) (x:=x)with e|e<;>rw[e]
    .exact .inl rfl
    .exact .inr rfl
   .rcases l with⟨z,_⟩|⟨_,c,hc,z⟩
    .have z':X.env.scope.names.lookup x=some .local:=z;rcases hout with w|w<;>(have w':X.env.scope.names.lookup x=_:=w;rw[w']at z';cases z')
    .refine⟨c,?_,cellK z⟩;show(cellsFrom (s.heap.objs.size+1) scope.names (cL X.env.cells scope.names [])).lookup x=some c;obtain⟨c',hc'⟩:=GY (Ey (n:=s.heap.objs.size+1) (names:=scope.names) (.inr ⟨c,Eo hc (.inr hfree)⟩));rcases dJ hc' with⟨w,_⟩|⟨w,_⟩
     .rw[hc]at w;cases w;exact hc'
     .cases uniq hfree w
  .exact absurd h3 noE
 .rcases hcl x c (mem_of_lookup h)with z|z
  .obtain⟨v,w⟩:=I.cell x c (cm z).2;exact⟨v,cellK w⟩
  .exact⟨none,z⟩
 .rcases dJ h with⟨w,_⟩|⟨_,w⟩
  .exact I.freeC x c w
  .exact I.hok.fresh (Nat.le_of_succ_le w)
 .show _=(iX X.N vars).length;unfold iX;simp[I.len,hk]
abbrev TB:=St->Hp->(St->Hp->Prop)->Prop
def pO(X:Cx)(m:Sem Unit)(t:TB):Prop:=∀(zU:List (Addr×Obj))(s:Shared)(Z:St)(H:Hp)(Q:St->Hp->Prop),Inv X zU Z H s->t Z H Q->
 wpAny (model X.prog X.w) X.A m (λ_ s'=>∃Z' H',Inv X zU Z' H' s'/\Q Z' H') (λ_ _=>False) s
def kZ(X:Cx)(ifs:List Expr)(t:TT):Prop:=∀(zU:List (Addr×Obj))(s:Shared)(Z:St)(H:Hp)(Q:Bool->Hp->Prop),Inv X zU Z H s->t Z H Q->
 wpAny (model X.prog X.w) X.A (forIn ifs true λc r=>if r=true then do let ok<-isTrue c X.env (eval c X.env);pure (ForInStep.yield ok)else pure (ForInStep.yield r)) (TP X zU Z Q) X.xe s
def TL:kZ X [] (λ_ H Q=>Q true H):=λzU s Z H Q I q=>wpAny_tests_nil ⟨H,I,q⟩
def Ud(h:PT X c t):kZ X [c] t:=λzU s Z H Q I q=>wpAny_tests_one (h zU s Z H Q I q)
def iD(g:TG)(tc:TT)(tb:TB)(J:It):TB:=λZ H Q=>∃W:Nat->Nat->St->Hp->Prop,(∃m,W 0 m Z H)/\∀i m Z H,W i m Z H->
 (J.stop i H/\Q Z H)\/(J.go i H/\∃N:St->Hp->Prop,(∀Z' H',N Z' H'->∃m',m'<m/\W (i+1) m' Z' H')/\∀x H',J.yld i H x H'->g x Z H' λZ2 H2=>tc Z2 H2 λb H3=>if b=true then tb Z2 H3 N else N Z2 H3)
def mF(X:Cx)(e:Expr)(d:Nat)(zZ:Value)(tg:Expr)(tl:It->TB):Prop:=∀(zU:List (Addr×Obj))(s:Shared)(Z:St)(H:Hp)(J:It)(fp:List Addr)(it:Addr)(tn:Nat->Heap->Prop)(Q:St->Hp->Prop),Inv X zU Z H s->
 kY X.prog X.w X.K tg J fp it tn->tn 0 s.heap->(∀b∈fp,eB X zU H b)->tl J Z H Q->
 codeAny (model X.prog X.w) X.A (.compLoop e d (.ref it) zZ X.env) (λr s'=>∃Z' H',r=.ok .next/\Inv X zU Z' H' s'/\Q Z' H') s
def nP(X:Cx)(m:Sem Fin)(c:Code)(t:TB):Prop:=∀(zU:List (Addr×Obj))(s:Shared)(Z:St)(H:Hp)(Q:St->Hp->Prop),Inv X zU Z H s->t Z H Q->
 wpAny (model X.prog X.w) X.A m (λf s'=>f=.again c/\∃Z' H',Inv X zU Z' H' s'/\Q Z' H') (λ_ _=>False) s
def pO.f(h:pO X m t):nP X (m>>=λ_=>again c) c t:=λzU s Z H Q I q=>qa (zv (h zU s Z H Q I q) (λ_ s' z=>qb ⟨rfl,z⟩) λ_ _ z=>z)
def GU{inner:Addr->Sem Fin}(hc:X.calm=true)(hxe:X.xe=λ_ _=>False)(hg:PG X tg g)(ht:kZ X ifs tc)(hr:∀it,nP X (inner it) (.compLoop e d (.ref it) zZ X.env) tb)
  (hq:∀it,(Code.compLoop e d (.ref it) zZ X.env).quiet=true)(hun:∀it,X.A.under (.compLoop e d (.ref it) zZ X.env)=X.A)
  (hden:∀it,(model X.prog X.w).den (.compLoop e d (.ref it) zZ X.env)=(compTurn e d (.ref it) zZ X.env).onRaise (λx=>do noteFrame x X.env;theTreesLotGoes x))
  (heq:∀it,compTurn e d (.ref it) zZ X.env=(standAt ipos>>=λ_=>pyNext (.ref it)>>=λr=>match r with
   |none=>pure (.done .next)
   |some v=>letOwnedTupleGo tg (.ref it) v>>=λ_=>assign tg X.env v>>=λ_=>(forIn ifs true λc r=>if r=true then do let ok<-isTrue c X.env (eval c X.env);pure (ForInStep.yield ok)else pure (ForInStep.yield r))>>=λok=>if ok=true then inner it else again (.compLoop e d (.ref it) zZ X.env))):
  mF X e d zZ tg (iD g tc tb):=by
 intro zU s Z H J fp it tn Q I T st f ⟨W,⟨m0,w0⟩,turn⟩;have stat:∀{H':Hp},(∀b∈fp,H' b=none)->∀b∈fp,eB X zU H' b:=λhn b hb=>⟨hn b hb,(f b hb).2⟩
 have nox:∀{α:Type}{m:Sem α}{Q:α->Shared->Prop}{E:zw}{s:Shared},wpAny (model X.prog X.w) X.A m Q X.xe s->wpAny (model X.prog X.w) X.A m Q E s:=λh=>zv h (λ_ _ q=>q) λ_ _ x=>by rw[hxe]at x;exact x.elim
 refine codeAny_loop (hq it) (λn s'=>∃i Z' H',Inv X zU Z' H' s'/\tn i s'.heap/\(∀b∈fp,H' b=none)/\W i n Z' H') ?_ m0 ⟨0,Z,H,I,st,λb hb=>(f b hb).1,w0⟩;rintro n s3 ⟨i,Z3,H3,I3,st3,fr3,w3⟩;rw[hun,hden];refine wpAny_noted ?_;rw[heq];refine qa (wpAny_standAt (qa ?_));rcases turn i n Z3 H3 w3 with⟨stop,qn⟩|⟨go,N,hN,step⟩
 .refine bK (T.done X rfl rfl rfl hc i zU s3 Z3 H3 _ I3 (stat fr3) st3 stop) λr s4⟨hr,I4⟩=>?_;subst hr;exact qb ⟨Z3,H3,rfl,I4,qn⟩
 .refine bK (T.item X rfl rfl rfl hc i zU s3 Z3 H3 _ I3 (stat fr3) st3 go) λr s4 zq=>?_;obtain⟨u,hr',h4⟩:=zq;subst hr';refine qa (bK h4 λ_ s5 zq=>?_);refine cps λ_ kk=>?_;obtain⟨x,H5,I5,r5,y5,st5,fr5⟩:=zq;refine kk ?_;have I5':=I5.pinned (stat fr5) (T.obj _ _ st5);refine qa (nox (bK (hg _ s5 Z3 H5 x u _ I5' r5 (step x H5 y5)) λ_ s6 zq=>?_));obtain⟨Z6,H6,I6,q6⟩:=zq;have again:∀{Z7:St}{H7:Hp}{s7:Shared},Inv X (zU++iI fp s5.heap) Z7 H7 s7->N Z7 H7->∃m,m<n/\∃i Z' H',Inv X zU Z' H' s7/\tn i s7.heap/\(∀b∈fp,H' b=none)/\W i m Z' H':=λ{Z7 H7 s7} I7 n7=>by obtain⟨m',hm,w7⟩:=hN Z7 H7 n7;refine⟨m',hm,i+1,Z7,H7,I7.unpinned,T.keep _ _ _ st5 λb hb o e=>(I7.pin (b,o) (qj _ (qj _ (GL hb e)))).1,λb hb=>?_,w7⟩;obtain⟨o,e,d⟩:=T.obj _ _ st5 b hb;exact(I7.pin (b,o) (qj _ (qj _ (GL hb e)))).2.1
  refine qa (nox (bK (ht _ s6 Z6 H6 _ I6 q6) λb s7 zq=>?_));obtain⟨H7,I7,q7⟩:=zq;cases b with
  |true=>rw[q8 rfl]at q7;rw[q8 rfl];refine zv (hr it _ s7 Z6 H7 _ I7 q7) (λf s8 zq=>?_) λ_ _ z=>z.elim;obtain⟨ef,Z8,H8,I8,n8⟩:=zq;subst ef;exact⟨rfl,again I8 n8⟩
  |false=>rw[q9 qY]at q7;rw[q9 qY];exact qb ⟨rfl,again I7 q7⟩
def NV(hl:mF X e d zZ tg tl)
  (hq:∀it,(Code.compLoop e d (.ref it) zZ X.env).quiet=true)(hun:∀it,X.A.under (.compStart e d (.ref it) zZ X.env)=X.A)
  (hden:∀it,(model X.prog X.w).den (.compStart e d (.ref it) zZ X.env)=(compStart e d (.ref it) zZ X.env).onRaise (λx=>do noteFrame x X.env;standAt theWindowsPlace))
  (heq:∀it,∃p,compStart e d (.ref it) zZ X.env=(ask>>=λc=>if c.params.followText "comprehension-iter-twice"=true then again (.compLoop e d (.ref it) zZ X.env)else
   rule "comprehension.iter-twice">>=λ_=>standAt p>>=λ_=>pyIter (.ref it)>>=λit'=>again (.compLoop e d it' zZ X.env)))(I:Inv X zU Z H s)
  (T:kY X.prog X.w X.K tg J fp it tn)(st:tn 0 s.heap)(f:∀b∈fp,eB X zU H b)(q:tl J Z H Q):
  codeAny (model X.prog X.w) X.A (.compStart e d (.ref it) zZ X.env) (λr s'=>∃Z' H',r=.ok .next/\Inv X zU Z' H' s'/\Q Z' H') s:=by
 have h0:=hl zU s Z H J fp it tn Q I T st f q;refine codeAny_of_tree ?_;rw[hun,hden];refine wpAny_notedAt ?_;obtain⟨p,e⟩:=heq it;rw[e];refine qa (wpAny_askSetting (wpAny_ite ?_));split
 .exact qb ⟨hq it,h0⟩
 .exact qa (wpAny_rule (qa (wpAny_standAt (qa (T.self X.A 0 s _ _ st (qb ⟨hq it,h0⟩))))))
end L2
namespace FL
open PySem PySem.Spec PyProof.Rows L2
inductive AC(X:Cx)(n:Nat)(D:Addr)(b:WB)(Z:St)(H:Hp)(Q:St->Hp->Prop):Prop
 |mk (F G:Hp) (U:Env) (P:Env->Prop) (zW:Rel X.K U Z F G H) (hs:Z[n]?=some (some (.ref D))) (hw:b U P NX) (hn:∀U' Z' F' H',P U'->KP (List.range (n+1)) Z Z'->zH F F'->Rel X.K U' Z' F' G H'->Q Z' H'):AC X n D b Z H Q
def Hb:XC X T F G NX:=λ_ _ _ _ _ _ _ z=>z.elim
section
variable{K:W.Frag}
def zK.snoc(b:zK K F H xs l fp)(r:aM K F H v s fq):zK K F H (xs++[v]) (l++[s]) (fp++fq):=
 zK.ind (P:=λxs l fp=>zK K F H (xs++[v]) (l++[s]) (fp++fq)) (by have:=zK.cons r .nil;rwa[qB]at this) (λa _ ih=>by rw[qq];exact .cons a ih) b
def zK.len(r:zK K F H xs l fp):xs.length=l.length:=zK.ind (P:=λxs l _=>xs.length=l.length) rfl (λ_ _ ih=>congrArg (·+1) ih) r
def Rel.append{D:Addr}(r:Rel K (U++[some s]) (Z++[some v]) F G H)(hs:slot U n=some (.lst l))(hZ:Z[n]?=some (some (.ref D))):
  ∃xs,H D=some (.lst xs)/\xs.length=l.length/\Rel K (U.set n (some (.lst (l++[s])))) Z F G (upd H D (.lst (xs++[v]))):=by
 have hl:=aS r;obtain⟨fp,e,nd,ap⟩:=r.en;obtain⟨f1,f2,rfl,a,b⟩:=e.cut hl;obtain⟨v',fa,fi,fb,e1,rfl,q,up⟩:=a.at hs;rw[hZ]at e1;have e2:V.ref D=v':=by simpa using e1
 subst e2;cases q with
 |lst hD rl=>
  rename_i xs fl;cases b with
  |so sr nl=>
   cases nl;rename_i fs;refine⟨xs,hD,rl.len,?_⟩;have es:Z.set n (some (.ref D))=Z:=by
    apply ext_getElem?;intro j;by_cases hj:n=j
    .subst hj;rw[getElem?_set_self (qh.mp hZ).1,hZ]
    .rw[getElem?_set_ne hj]
   --D is nobody else's
   obtain⟨n1,n2,n12⟩:=qy.mp nd;obtain⟨na,nib,nab⟩:=qy.mp n1;obtain⟨ni,nb,nib⟩:=qy.mp nib;obtain⟨nD,nfl⟩:=qM.mp ni;have hDa:D∉fa:=λz=>nab D z D (qk _ qo) rfl;have hDb:D∉fb:=λz=>nib D qo D z rfl;have hDs:D∉fs:=λz=>n12 D (qj _ (qk _ qo)) D (by simpa using z) rfl;have apD:=ap D (qk _ (qj _ (qk _ qo)));have ne:∀{l:List Addr},D∉l->∀x∈l,upd H D (.lst (xs++[v])) x=H x:=λh x hx=>bJ λz=>h (z▸hx);have new:aM K F (upd H D (.lst (xs++[v]))) (.ref D) (.lst (l++[s])) (D::(fl++fs)):=.lst gC (zK.snoc (rl.mono (zH.refl F) (ne nD)) (sr.mono (zH.refl F) (ne hDs)));have a2:=up (F':=F) (H':=upd H D (.lst (xs++[v]))) (o:=some (.lst (l++[s]))) (u:=some (.ref D)) (zH.refl F) (λx hx=>bJ λz=>(qz.mp hx).elim (λw=>hDa (z▸w)) λw=>hDb (z▸w)) (.so new .nil);rw[es]at a2;have p:(fa++((D::(fl++fs))++[]++fb)).Perm (fa++((D::fl)++fb)++(fs++[])):=by simp only[qB,qq,qP];refine List.Perm.append_left _ (List.Perm.cons _ (List.Perm.append_left _ qO))
   refine⟨zH.updR r.fr apD.1,λx o w=>?_,_,a2,p.nodup_iff.mpr (by simpa using nd),λx hx=>ap x (by simpa using p.mem_iff.mp hx)⟩;have hx:x≠D:=λz=>by rw[z,apD.2]at w;cases w
   rw[bJ hx];exact r.gr x o w
end
section
variable{D:Addr}
def UI(hxe:X.xe=λ_ _=>False)(h:FE X elt we):pO X (eval elt X.env>>=λx=>call (.builtin "list.append") [.ref D,x]>>=λ_=>pure ()) (AC X n D (dQ n we)):=by
 intro zU s Z H Q I q;obtain⟨F,G,U,P,zW,hZ,hw,hok⟩:=q;have hp:PassesOwn (model X.prog X.w) X.A X.env X.xe:=by rw[hxe];exact PassesOwn.never
 have he:=h X.pn X.xe hp zU s Z H (λv H1=>∃F1 U1 t l,zH F F1/\Rel X.K (U1++[some t]) (Z++[some v]) F1 G H1/\slot U1 n=some (.lst l)/\l.length<big/\P (U1.set n (some (.lst (l++[t]))))) I
  ⟨F,G,U,_,NX,zW,hw,λr U1 v F1 H1 hk s1 r1 rv=>?_,Hb⟩
 .have xe0:∀e s',X.xe e s'->False:=λe s' z=>by rw[hxe]at z;exact z
  refine qa (zv he (λu s1 zq=>?_) λe s' z=>xe0 e s' z);refine cps λ_ kk=>?_;obtain⟨v,H1,I1,rv,F1,U1,t,l,sm,r1,hs,hz,hP⟩:=zq;obtain⟨xs,hD,zX,r2⟩:=Rel.append r1 hs hZ;refine kk ?_;refine qa (zv (IK zU s1 Z H1 (.ref D) [v] (.ref D) [u] (λw H'=>w=.non/\H'=upd H1 D (.lst (xs++[v]))) I1 rfl (.cons rv .nil) ⟨D,xs,v,rfl,rfl,hD,by rw[zX,zp];exact lt_trans hz (by decide),rfl,rfl⟩) (λw s2 zq=>?_) λe s' z=>xe0 e s' z);obtain⟨w',H2,I2,_,_,e2⟩:=zq;subst e2;exact qb ⟨Z,_,I2,hok _ Z F1 _ hP KP.refl sm r2⟩
 .obtain⟨⟨t,U2⟩,eg,hk⟩:=bL hk;obtain⟨F2,s2,l2,r2⟩:=dF (U':=[]) (Z':=[]) r1 (aS r1) rv eg;dsimp only at hk;split at hk
  .rename_i l e;exact⟨F2,U2,t,l,s1.trans s2,r2,e,hk.1,hk.2⟩
  .exact hk.elim
def sE:kZ X [] (lL X eK):=λzU s Z H Q I q=>TL zU s Z H Q I (by obtain⟨F,G,U,P,PX,zW,hw,hok,hx⟩:=q;exact hok true U F H hw (zH.refl F) zW)
def HP(hxe:X.xe=λ_ _=>False)(h:FT X c wc):kZ X [c] (lL X wc):=Ud (h X.pn X.xe (by rw[hxe];exact PassesOwn.never))
def MZ(it:fW X.K J l F)(zW:Rel X.K U Z F G H)(hZ:Z[n]?=some (some (.ref D)))
  (hw:aO g wc b l U P NX)(hok:∀U' Z' F' H',P U'->KP (List.range (n+1)) Z Z'->zH F F'->Rel X.K U' Z' F' G H'->Q Z' H'):
  iD (DI X (List.range (n+1)) g) (lL X wc) (AC X n D b) J Z H Q:=by
 have hZ':∀{Z':St},KP (List.range (n+1)) Z Z'->Z'[n]?=some (some (.ref D)):=λk=>by rw[k n (by simp)];exact hZ
 refine⟨λi m Z2 H2=>m=l.length-i/\i<=l.length/\∃F2 U2,KP (List.range (n+1)) Z Z2/\zH F F2/\Rel X.K U2 Z2 F2 G H2/\aO g wc b (l.drop i) U2 P NX,⟨l.length,by simp,zero_le _,F,U,KP.refl,zH.refl F,zW,by simpa using hw⟩,?_⟩;rintro i m Z2 H2 ⟨rfl,hi,F2,U2,kp,s2,r2,hw2⟩;obtain⟨it1,it2⟩:=it i U2 Z2 F2 G H2 s2 r2;by_cases hlt:i<l.length
 .obtain⟨go,yld⟩:=it1 l[i] (by simp[hlt]);refine .inr ⟨go,λZ3 H3=>i+1<=l.length/\∃F3 U3,KP (List.range (n+1)) Z Z3/\zH F F3/\Rel X.K U3 Z3 F3 G H3/\aO g wc b (l.drop (i+1)) U3 P NX,λZ3 H3 h=>⟨l.length-(i+1),by lia,rfl,h⟩,λy H3 hy=>?_⟩;obtain⟨F3,s3,r3,rp⟩:=yld y H3 hy;rw[List.drop_eq_getElem_cons hlt]at hw2;refine⟨F3,G,U2,_,_,r3.push rp,hw2,λU4 Z4 F4 H4 hp4 k4 s4 r4=>?_⟩;have kp4:=kp.trans k4;have sm4:=s2.trans (s3.trans s4);refine⟨F4,G,U4,_,_,r4,hp4,λk U5 F5 H5 hp5 s5 r5=>?_,Hb⟩;cases k with
  |true=>dsimp only;rw[q8 rfl];exact⟨F5,G,U5,_,r5,hZ' kp4,hp5,λU' Z' F' H' h k' s r=>⟨hlt,F',U',kp4.trans k',sm4.trans (s5.trans s),r,h⟩⟩
  |false=>dsimp only;rw[q9 qY];exact⟨hlt,F5,U5,kp4,sm4.trans s5,r5,hp5⟩
 .have e:i=l.length:=Nat.le_antisymm hi (not_lt.mp hlt);subst e;rw[List.drop_length]at hw2;exact .inl ⟨it2 (zc _),hok U2 Z2 F2 H2 hw2 kp s2 r2⟩
def Vk(hxe:X.xe=λ_ _=>False)(hi:FI X tg iter wi)(hl:mF X e d (.ref D) tg (iD (DI X (List.range (n+1)) g) (lL X wc) (AC X n D b)))
  (hs:∀x,foldedSetIterable iter X.env x=pure x)(hm:X.A.mark none=X.A)
  (hq:∀it,(Code.compLoop e d (.ref it) (.ref D) X.env).quiet=true)(hun:∀it,X.A.under (.compStart e d (.ref it) (.ref D) X.env)=X.A)
  (hden:∀it,(model X.prog X.w).den (.compStart e d (.ref it) (.ref D) X.env)=(compStart e d (.ref it) (.ref D) X.env).onRaise (λx=>do noteFrame x X.env;standAt theWindowsPlace))
  (heq:∀it,∃p,compStart e d (.ref it) (.ref D) X.env=(ask>>=λc=>if c.params.followText "comprehension-iter-twice"=true then again (.compLoop e d (.ref it) (.ref D) X.env)else
   rule "comprehension.iter-twice">>=λ_=>standAt p>>=λ_=>pyIter (.ref it)>>=λit'=>again (.compLoop e d it' (.ref D) X.env))):
  nP X (eval iter X.env>>=λx=>standAt ip>>=λ_=>foldedSetIterable iter X.env x>>=λx=>holding [x] (pyIter x)>>=λit=>runOwn (.compStart e d it (.ref D) X.env) X.env>>=λ_=>again c0) c0 (AC X n D (vK wi g wc b)):=by
 intro zU s Z H Q I q;obtain⟨F,G,U,P,zW,hZ,hw,hok⟩:=q;have hp:PassesOwn (model X.prog X.w) X.A X.env X.xe:=by rw[hxe];exact PassesOwn.never
 have xe0:∀e s',X.xe e s'->False:=λe s' z=>by rw[hxe]at z;exact z
 have hi':=hi X.pn X.xe hp zU s Z H (λJ H1=>iD (DI X (List.range (n+1)) g) (lL X wc) (AC X n D b) J Z H1 Q) I
  ⟨F,G,U,_,NX,zW,hw,λl U1 F1 H1 J hk s1 r1 it=>MZ it r1 hZ hk λU' Z' F' H' a k s r=>hok U' Z' F' H' a k (s1.trans s) r,Hb⟩
 refine qa (zv hi' (λx s1 h1=>?_) λe s' z=>xe0 e s' z);refine qa (wpAny_standAt (qa (zu (hs x) (qa (zt (zv h1 (λitv s2 h2=>?_) λe s' z=>xe0 e s' z))))));obtain⟨it,fp,tn,J,H2,e1,I2,T,st,f,q2⟩:=h2;subst e1;refine qa (wpAny_runOwn ?_);rw[hm];refine codeAny_mono (NV hl hq hun hden heq I2 T st f q2) λr s3 zq=>?_;obtain⟨Z3,H3,er,I3,q3⟩:=zq;subst er;exact qb ⟨rfl,Z3,H3,I3,q3⟩
end
def OC{α:Type}{l:List α}{a:α}(h:l[n]?=some a):l=l.take n++a::l.drop (n+1):=by obtain⟨hn,e⟩:=qh.mp h;rw[<-e,<-List.drop_eq_getElem_cons hn,take_append_drop]
section
variable{X:Cx}
def HU(hmk:∀(A:Around)(E:zw)(s:Shared)(Q:zw),Q (.ref s.heap.objs.size) {s with heap:=s.heap.push {cls:=.type ty,dict:=none,data:=dat}}->wpAny (model X.prog X.w) A mk Q E s)(ho:∀(H:Hp)(h:Heap),sysModules<h.objs.size->zT X.prog X.w H (h.push {cls:=.type ty,dict:=none,data:=dat}) h.objs.size o0)(hs0:∀(F H:Hp)(p:Addr),H p=some o0->aM X.K F H (.ref p) s0 [p])(hcl:clausesOf e=⟨tg,iter,ifs,0⟩::gs)(hs:∀x,foldedSetIterable iter X.env x=pure x)
  (Sc:cV X.env.scope scope X.N vars)(hk:vars.length=k)(hi:FI X tg iter wi)
  (hb:∀(s:Shared)(H:Hp)(ex:List Addr)(D:Addr),mF (aF X scope vars s H ex) e 0 (.ref D) tg (iD (DI (aF X scope vars s H ex) (List.range (X.N.length+1)) g) (lL (aF X scope vars s H ex) wc) (AC (aF X scope vars s H ex) X.N.length D b)))
  (hq:∀it zZ env,(Code.compLoop e 0 (.ref it) zZ env).quiet=true)(hun:∀it zZ env,X.A.under (.compStart e 0 (.ref it) zZ env)=X.A)
  (hden:∀it zZ env,(model X.prog X.w).den (.compStart e 0 (.ref it) zZ env)=(compStart e 0 (.ref it) zZ env).onRaise (λx=>do noteFrame x env;standAt theWindowsPlace))
  (heq:∀it zZ env,∃p,compStart e 0 (.ref it) zZ env=(ask>>=λc=>if c.params.followText "comprehension-iter-twice"=true then again (.compLoop e 0 (.ref it) zZ env)else
   rule "comprehension.iter-twice">>=λ_=>standAt p>>=λ_=>pyIter (.ref it)>>=λit'=>again (.compLoop e 0 it' zZ env)))(hp:PassesOwn (model X.prog X.w) X.A X.env xe){P:WQ}(I:Inv (wp X pn xe) zU Z H s)
  (zW:Rel X.K U Z F G H)(hw:wi U (λl U1=>aO g wc b l (U1++some s0::List.replicate k none) (λU2=>zG (slot U2 X.N.length) λs=>P (.v s) (U2.take X.N.length)) NX) PX)(hx:XC (wp X pn xe) (·=Z) F G PX)
  (fin:∀(D C:Addr)(s4:Shared)(H4 F4:Hp)(m:Str->Option Value)(t:S)(U4:Env),s4.heap.Ns C m->Inv (wp X pn xe) zU Z H4 s4->H4 C=none->C≠X.env.locals->X.s₀.heap.objs.size<=C->(∀x c,X.env.cells.lookup x=some c->c≠C)->(∀p∈pn++zU,p.1≠C)->
   P (.v t) U4->zH F F4->Rel X.K (U4++[some t]) (Z++[some (.ref D)]) F4 G H4->compPost (model X.prog X.w) X.A xe use Q' (.ref D) C (.ok .next) s4):
  wpAny (model X.prog X.w) X.A (comprehension e scope X.env cpos mk false (eval iter X.env) use) Q' xe s:=by
 have hi':=hi pn xe hp zU s Z H (λJ H1=>∃F1 U1 l,zH F F1/\Rel X.K U1 Z F1 G H1/\fW X.K J l F1/\
   aO g wc b l (U1++some s0::List.replicate k none) (λU2=>zG (slot U2 X.N.length) λs=>P (.v s) (U2.take X.N.length)) NX) I
  ⟨F,G,U,_,PX,zW,hw,λl U1 F1 H1 J hk s1 r1 it=>⟨F1,U1,l,s1,r1,it,hk⟩,hx⟩
 have hfree:∀x∈scope.names,x.2=.free->∃c,X.env.cells.lookup x.1=some c:=λx hx hf=>I.ok.has x.1 (Sc.fr x hx hf);refine wpAny_comprehension_free (use:=use) hcl hs (WW hfree) Sc.kind (λx hx hl=>(Ha Sc.nd).mpr (by obtain⟨a,b⟩:=x;have hl':b=.local:=hl;subst hl';exact hx)) (zv hi' (λv s1 h1=>zv h1 (λitv s2 h2=>?_) λ_ _ z=>z) λ_ _ z=>z);refine cps λ_ kk=>?_;obtain⟨it,fp,tn,J,H2,e1,I2,T,st,f,F1,U1,l,s1',r1,ito,hk2⟩:=h2;refine kk ?_;subst e1
 --the zZ
 refine hmk _ _ _ _ ?_;generalize hs3:({s2 with heap:=s2.heap.push {cls:=.type ty,dict:=none,data:=dat}}:Shared)=s3;have k23:∀b o,s2.heap.get? b=some o->s3.heap.get? b=some o:=λb o e=>by rw[<-hs3];exact qc _ e
 have sz3:s3.heap.objs.size=s2.heap.objs.size+1:=by rw[<-hs3];exact Heap.size_push ..
 have hD:H2 s2.heap.objs.size=none:=I2.hok.fresh (zc _);have I3:Inv (wp X pn xe) zU Z (upd H2 s2.heap.objs.size o0) s3:=by rw[<-hs3];exact I2.laid (t':=s2.toks) (λb o e=>qc _ e) (zc _) (ho _ _ I2.big)
 have r3:Rel X.K (U1++[some s0]) (Z++[some (.ref s2.heap.objs.size)]) F1 G (upd H2 s2.heap.objs.size o0):=r1.newO hD (hs0 _ _ _ gC);have fplt:∀b∈fp,b<s2.heap.objs.size:=λb hb=>by obtain⟨o,e,_⟩:=T.obj _ _ st b hb;exact qe e
 have fne:∀b∈fp,b≠s2.heap.objs.size:=λb hb=>ne_of_lt (fplt b hb);have f3:∀b∈fp,eB (wp X pn xe) zU (upd H2 s2.heap.objs.size o0) b:=λb hb=>by obtain⟨h1,h2⟩:=f b hb;exact⟨by rw[bJ (fne b hb)];exact h1,h2⟩
 refine WN λh' kept hns hcl'=>?_;have I4:=Inv.comp (X:=wp X pn xe) (ex:=fp) I3 Sc (λb hb=>⟨f3 b hb,by rw[sz3];exact lt_succ_of_lt (fplt b hb)⟩) kept hns hcl' hk (some (.ref s2.heap.objs.size));have hZn:(Z++some (.ref s2.heap.objs.size)::List.replicate k none)[X.N.length]?=some (some (.ref s2.heap.objs.size)):=by have hl:X.N.length=Z.length:=I2.len.symm;rw[hl,getElem?_append_right (zc _),sub_self];rfl
 have r4:Rel X.K (U1++some s0::List.replicate k none) (Z++some (.ref s2.heap.objs.size)::List.replicate k none) F1 G (upd H2 s2.heap.objs.size o0):=by have:=r3.pushNs k;simpa using this
 have st4:tn 0 h':=T.keep _ _ _ st λb hb o e=>kept b o (k23 b o e);have f4:∀b∈fp,eB (aF X scope vars s3 (upd H2 s2.heap.objs.size o0) fp) [] (upd H2 s2.heap.objs.size o0) b:=λb hb=>by obtain⟨h1,h2,h3,h4,h5,h6⟩:=f3 b hb;have e:=I4.ok.exf b hb;exact⟨h1,e.1,I4.ok.exfs b hb,.inl hb,e.2,λp hp=>absurd (show p∈([]:List (Addr×Obj)) from hp) (by simp)⟩
 have go:=NV (hb s3 (upd H2 s2.heap.objs.size o0) fp s2.heap.objs.size) (λit=>hq it _ _) (λit=>hun it _ _) (λit=>hden it _ _) (λit=>heq it _ _) I4 T st4 f4
  (Q:=λZ' H'=>∃F' U',zG (slot U' X.N.length) (λs=>P (.v s) (U'.take X.N.length))/\KP (List.range (X.N.length+1)) (Z++some (.ref s2.heap.objs.size)::List.replicate k none) Z'/\zH F1 F'/\Rel X.K U' Z' F' G H')
  (MZ ito r4 hZn hk2 λU' Z' F' H' a kp sm r=>⟨F',U',a,kp,sm,r⟩)
 refine codeAny_mono go λr s4 zq=>?_;refine cps λ_ kk=>?_;obtain⟨Z4,H4,er,I5,F4,U4,hn4,kp4,sm4,r5⟩:=zq;subst er;obtain⟨m,hm,_⟩:=id I5.loc;refine kk ?_;have I6:Inv (wp X pn xe) zU Z H4 s4:=Inv.call' (ch:=fp) I3 I5.os I5.base I5.hok I5.bare λb hb=>by obtain⟨h1,h2,h3,h4,h5,h6⟩:=f3 b hb;exact⟨h4,h2,h5,h6⟩
 --the block's names go
 obtain⟨t,et,hP⟩:=bL hn4;have hl:X.N.length=Z.length:=I2.len.symm;have hZ4:Z4[X.N.length]?=some (some (.ref s2.heap.objs.size)):=by rw[kp4 X.N.length (by simp)];exact hZn
 have eZ:Z4.take X.N.length=Z:=by
  apply ext_getElem?;intro j;by_cases hj:j<X.N.length
  .rw[List.getElem?_take_of_lt hj,kp4 j (by simp;lia),getElem?_append_left (by lia)]
  .rw[List.getElem?_take_eq_none (not_lt.mp hj),qR (by lia)]
 have e1:=OC (Jh et);have e2:=OC hZ4;rw[e1,e2,eZ]at r5;have r6:Rel X.K ((U4.take X.N.length++[some t])++U4.drop (X.N.length+1)) ((Z++[some (.ref s2.heap.objs.size)])++Z4.drop (X.N.length+1)) F4 G H4:=by simpa using r5
 have hlt:X.N.length<U4.length:=Dz et;have ltC:∀{b:Addr}{o:Obj},s3.heap.get? b=some o->b≠s3.heap.objs.size:=λe=>ne_of_lt (qe e);refine fin s2.heap.objs.size s3.heap.objs.size s4 H4 F4 m t (U4.take X.N.length) hm I6 I5.free (Ne.symm (ne_of_lt I3.lt)) I3.sz (λx c e z=>?_) (λp hp z=>?_) hP (s1'.trans sm4) (r6.drop (by simp;lia))
 .obtain⟨v,o,ho,_⟩:=I3.cell x c e;exact ltC ho z
 .exact ltC (I3.pin p hp).1 z
def HQ{P:WQ}(hok:∀r U' v F' H',P r U'->zH F F'->Rel X.K (U'++[zI r]) (Z++[some v]) F' G H'->RV Z v r->Q v H'):
  ∀(D C:Addr)(s4:Shared)(H4 F4:Hp)(m:Str->Option Value)(t:S)(U4:Env),s4.heap.Ns C m->Inv (wp X pn xe) zU Z H4 s4->H4 C=none->C≠X.env.locals->X.s₀.heap.objs.size<=C->(∀x c,X.env.cells.lookup x=some c->c≠C)->(∀p∈pn++zU,p.1≠C)->
   P (.v t) U4->zH F F4->Rel X.K (U4++[some t]) (Z++[some (.ref D)]) F4 G H4->compPost (model X.prog X.w) X.A xe none (EP (wp X pn xe) zU Z Q) (.ref D) C (.ok .next) s4:=
 λD C s4 H4 F4 m t U4 hm I n1 n2 n3 n4 n5 hP sm r=>⟨m,hm,λh'' sb=>⟨.ref D,H4,I.turned (t':=s4.toks) (λb o hb e=>(sb.2 b hb).trans e) n1 n2 (.inr (Heap.get?_none_of_le n3)) n4 n5,rfl,hok (.v t) U4 _ F4 H4 hP sm r trivial⟩⟩
def RX(A:Around)(E:zw)(s:Shared)(Q:zw)(h:Q (.ref s.heap.objs.size) {s with heap:=s.heap.push {cls:=.type ty,dict:=none,data:=dat}})(hz:sizeOk dat:=by size_fits):wpAny (model X.prog X.w) A (newObj (.type ty) dat) Q E s:=zm h hz
def Sr(H:Hp)(h:Heap)(_:sysModules<h.objs.size):zT X.prog X.w H (h.push {cls:=.type "list",dict:=none,data:=.seq ([]:List Value).toArray}) h.objs.size (.lst []):=⟨zero_le _,[],0,.nil,qd _ rfl⟩
def Rk(F H:Hp)(p:Addr)(e:H p=some (.lst [])):aM X.K F H (.ref p) (.lst []) [p]:=.lst e .nil
def wG(hn:X.N.length=n)(hc:X.calm=true)(Sc:cV X.env.scope scope X.N vars)(hk:vars.length=k)(hi:FI X tg iter wi)
  (hg:∀s H ex,FG (aF X scope vars s H ex) (List.range (n+1)) tg g)(ht:∀s H ex,kZ (aF X scope vars s H ex) ifs (lL (aF X scope vars s H ex) wc))(he:∀s H ex,FE (aF X scope vars s H ex) elt we)
  (hs:∀x,foldedSetIterable iter X.env x=pure x:=by intro _;rfl):FE X (.ListComp elt [⟨tg,iter,ifs,0⟩] scope pos) (sY n k wi g wc (dQ n we)):=by
 subst hn;intro pn xe hp zU s Z H Q I q;show wpAny (model X.prog X.w) X.A (eval (.ListComp elt [⟨tg,iter,ifs,0⟩] scope pos) X.env) (EP (wp X pn xe) zU Z Q) xe s;rw[eval_ListComp];obtain⟨F,G,U,P,PX,zW,hw,hok,hx⟩:=q;refine HU (λA E s Q h=>RX A E s Q h) (s0:=.lst []) Sr Rk rfl hs Sc hk hi (λs H ex D=>?_) (λ_ _ _=>rfl) (λ_ _ _=>rfl) (λ_ _ _=>rfl) (λ_ _ _=>⟨_,rfl⟩) hp I zW hw hx (HQ hok);exact GU (X:=aF X scope vars s H ex) hc rfl (hg s H ex [] (λ_ _=>False) PassesOwn.never) (ht s H ex) (λ_=>(UI (X:=aF X scope vars s H ex) rfl (he s H ex)).f) (λ_=>rfl) (λ_=>rfl) (λ_=>rfl) (λ_=>rfl)
end
section
variable{K:W.Frag}
def Dy{x:Str}(e:x.cps.toList=l):x.length=l.length:=by rw[<-e];rfl
def SO{x y:Str}(e:x.cps.toList=l)(e':y.cps.toList=m):(x++y).cps.toList=l++m:=by show(x.cps++y.cps).toList=_;rw[toList_append,e,e']
def bG.int(h:bG K F H v (.int i)):v=.int i:=by
 rcases h with h|⟨_,_,_,_,h,_⟩|⟨_,_,_,_,_,h,_⟩|⟨_,_,_,_,_,h,_⟩
 .cases h;rfl
 .cases h
 .cases h
 .cases h
def bG.str(h:bG K F H v (.str l)):∃x,v=.str x/\x.cps.toList=l/\l.length<=16777216:=by
 rcases h with h|⟨_,_,_,_,h,_⟩|⟨_,_,_,_,_,h,_⟩|⟨_,_,_,_,_,h,_⟩
 .cases h with
  |str e z=>exact⟨_,rfl,e,z⟩
 .cases h
 .cases h
 .cases h
def bG.tup(h:bG K F H v (.tup l)):∃a xs,v=.ref a/\F a=some (.tup xs)/\zS K F xs l:=by
 rcases h with h|⟨_,_,_,_,h,_⟩|⟨_,_,_,_,_,h,_⟩|⟨_,_,_,_,_,h,_⟩
 .cases h with
  |tup e r=>exact⟨_,_,rfl,e,r⟩
 .cases h
 .cases h
 .cases h
def bG.lst(sm:zH F H)(h:bG K F H v (.lst l)):∃a xs,v=.ref a/\bR K H a xs/\zS K F xs l:=by
 rcases h with h|⟨a,xs,ds,e1,h,e2,r⟩|⟨_,_,_,_,_,h,_⟩|⟨_,_,_,_,_,h,_⟩
 .cases h with
  |lst e r=>exact⟨_,_,rfl,bR.mono sm e,r⟩
 .cases h;exact⟨a,xs,e1,bR.of e2,r⟩
 .cases h
 .cases h
def zS.append(a:zS K F xs l)(r:zS K F ys m):zS K F (xs++ys) (l++m):=zS.ind (P:=λxs l=>zS K F (xs++ys) (l++m)) r (λa _ ih=>.cons a ih) a
def Rel.newLD(r:Rel K U Z F G H)(hp:H p=none)(rx:zS K F xs l):Rel K (U++[some (.lst (l.map .sh))]) (Z++[some (.ref p)]) F G (upd H p (.lst xs)):=by
 have sr:∀{xs:List V}{l:List D},zS K F xs l->zK K F (upd H p (.lst xs)) xs (l.map .sh) []:=by
  intro xs l h;generalize upd H p (.lst xs)=H';induction xs generalizing l with
  |nil=>cases h;exact .nil
  |cons x xs ih=>cases h with
   |cons a b=>have:=zK.cons (aM.sh (H:=H') a) (ih b);exact this
 refine r.newO hp (.lst gC ?_);have:=sr rx;exact this
def AI(K:W.Frag):R2:=λx y H Q=>∃l b xs zs,x=.ref l/\y=.ref b/\bR K H l xs/\bR K H b zs/\xs.length+zs.length<=sizeLine/\∀p,H p=none->Q (.ref p) (upd H p (.lst (xs++zs)))
def Tc:OpR X (binaryOp .Add) (AI X.K):=by
 intro zU s Z H x y v u Q I rx ry h;obtain⟨l,b,xs,zs,rfl,rfl,hl,hb,hz,q⟩:=h;cases rx;cases ry;obtain⟨zY,r1,⟨⟨cls,dd,data,sl⟩,n,ho,hc,hd0,hd⟩,_⟩:=I.list hl;obtain⟨its2,r2,⟨⟨cls2,dd2,data2,sl2⟩,n2,ho2,hc2,hd02,hd2⟩,_⟩:=I.list hb;simp only at hc hd0 hd hc2 hd02 hd2;subst hc hd0 hd hc2 hd02 hd2;refine concat_meets ⟨_,ho,rfl⟩ ⟨_,ho2,rfl⟩ noFill_list_add seq_list_add PySem.F.slot_list_add PySem.F.entry_list_add (PySem.F.args_list_add_2 _ _) (list_addW l b zY.toArray its2.toArray n n2 none none sl sl2 (by rw[qt,qt,<-r1.length,<-r2.length];exact hz)) ⟨ho,ho2,?_⟩;have ea:zY.toArray++its2.toArray=(zY++its2).toArray:=by simp
 rw[ea];exact⟨.ref _,_,I.lnew (t':=s.toks) (r1.append r2) (by rw[qr];exact hz),rfl,q _ I.fresh⟩
def tY(K:W.Frag):R2:=λx y H Q=>∃a b xs ys,x=.ref a/\y=.ref b/\bP K H a xs/\bP K H b ys/\xs.length+ys.length<=sizeLine/\
 (xs=[]->Q (.ref b) H)/\(xs≠[]->ys=[]->Q (.ref a) H)/\(xs≠[]->ys≠[]->∀p,H p=none->Q (.ref p) (upd H p (.tup (xs++ys))))
def Ux:OpR X (binaryOp .Add) (tY X.K):=by
 intro zU s Z H x y v u Q I rx ry h;obtain⟨a,b,xs,ys,rfl,rfl,ha,hb,hz,q0,q1,q2⟩:=h;by_cases hx:xs=[]
 .cases rx;cases ry;obtain⟨zY,r1,p1,_⟩:=I.tuple ha;obtain⟨its2,r2,p2,_⟩:=I.tuple hb;obtain⟨⟨cls,dd,data,sl⟩,ho,hc,n,hd⟩:=id p1;obtain⟨⟨cls2,dd2,data2,sl2⟩,ho2,hc2,n2,hd2⟩:=id p2;simp only at hc hd hc2 hd2;subst hc hd hc2 hd2;have hi:zY=[]:=r1.nil_iff.mpr hx;exact concat_meets ⟨_,ho,rfl⟩ ⟨_,ho2,rfl⟩ noFill_tuple_add seq_tuple_add PySem.F.slot_tuple_add PySem.F.entry_tuple_add (PySem.F.args_tuple_add_2 _ _)
   (tuple_addW0 a b zY.toArray its2.toArray n n2 dd dd2 sl sl2 (by simp[hi])) ⟨ho,ho2,.ref b,H,I,rfl,q0 hx⟩
 .exact Sb zU s Z H _ _ v u Q I rx ry ⟨a,b,xs,ys,rfl,rfl,ha,hb,hx,hz,q1 hx,q2 hx⟩
def xM:R2:=λx y H Q=>∃i j,x=.str i/\y=.str j/\i.length+j.length<=sizeLine/\Q (.str (i++j)) H
def oQ(K:W.Frag):R2:=λx y H Q=>AH (λi j=>.int (i+j)) x y H Q\/(xM x y H Q\/(AI K x y H Q\/tY K x y H Q))
def VO:OpR X (binaryOp .Add) (oQ X.K):=OpR.or QM (OpR.or Wm (OpR.or Tc Ux))
def GI(h:n<=big):n<=sizeLine:=by rw[zp];exact le_trans h (by decide)
def TQ:jG K (oQ K) cO:=by
 intro Z U F G H x y p q s Q zW ex ey e hq;unfold cO at e;split at e
 .cases e;have h1:=ex.int;have h2:=ey.int;subst h1 h2;exact .inl ⟨_,_,rfl,rfl,hq _ F H (zH.refl F) (zW.push (.int _))⟩
 .rename_i a b;split at e
  .rename_i hz;cases e;obtain⟨x,rfl,e1,z1⟩:=ex.str;obtain⟨y,rfl,e2,z2⟩:=ey.str;refine .inr (.inl ⟨_,_,rfl,rfl,by rw[Dy e1,Dy e2];exact GI hz,hq _ F H (zH.refl F) (zW.push (.str (SO e1 e2) (by rw[qr];exact le_trans hz (by decide))))⟩)
  .cases e
 .rename_i a b;split at e
  .rename_i hz;cases e;obtain⟨l,xs,rfl,h1,r1⟩:=ex.lst zW.fr;obtain⟨m,ys,rfl,h2,r2⟩:=ey.lst zW.fr;refine .inr (.inr (.inl ⟨l,m,xs,ys,rfl,rfl,h1,h2,by rw[r1.len,r2.len];exact GI hz,λp hp=>?_⟩));exact hq _ F _ (zH.refl F) (zW.newLD hp (r1.append r2))
  .cases e
 .rename_i a b;split at e
  .rename_i hz;cases e;obtain⟨l,xs,rfl,h1,r1⟩:=ex.tup;obtain⟨m,ys,rfl,h2,r2⟩:=ey.tup;refine .inr (.inr (.inr ⟨l,m,xs,ys,rfl,rfl,bP.of (zW.fr _ _ h1),bP.of (zW.fr _ _ h2),by rw[r1.len,r2.len];exact GI hz,λhx=>?_,λ_ hy=>?_,λ_ _ p hp=>?_⟩))
   .subst hx;cases r1;exact hq _ F H (zH.refl F) (zW.push (.tup h2 r2))
   .subst hy;cases r2;rw[qB]at hq;exact hq _ F H (zH.refl F) (zW.push (.tup h1 r1))
   .have n2:=(zW.free hp).1;exact hq _ _ _ (zH.upd n2) ((zW.newF hp).push (.tup gC ((r1.append r2).mono (zH.upd n2))))
  .cases e
 .cases e
def Eu{g:Int->Int->Int}(ho:∀p q s,o p q=some s->∃i j,p=.int i/\q=.int j/\C i j/\s=.sh (.int (g i j))):jG K (rI C λi j=>.int (g i j)) o:=by intro Z U F G H x y p q s Q zW ex ey e hq;obtain⟨i,j,rfl,rfl,hc,rfl⟩:=ho p q s e;have h1:=ex.int;have h2:=ey.int;subst h1 h2;exact⟨i,j,rfl,rfl,hc,hq _ F H (zH.refl F) (zW.push (.int _))⟩
def Tp:jG K (rI (λ_ _=>True) λi j=>.int (i-j)) rG:=Eu λp q s e=>by
 unfold rG at e;split at e
 .cases e;exact⟨_,_,rfl,rfl,trivial,rfl⟩
 .cases e
def SC:OpR X (binaryOp .Sub) (rI (λ_ _=>True) λi j=>.int (i-j)):=Ff λ_ _ _ _ _ _ _ _ q=>sub_int q
def Up:jG K (rI vS λi j=>.int (i*j)) uG:=Eu λp q s e=>by
 unfold uG at e;split at e
 .rename_i i j;split at e
  .rename_i h;cases e;refine⟨_,_,rfl,rfl,?_,rfl⟩;simp only[oS,or_eq_true,and_eq_true,qU]at h;exact h
  .cases e
 .cases e
def TV:jG K (rI (λ_ j=>0<j) λi j=>.int (i %j)) gQ:=Eu λp q s e=>by
 unfold gQ at e;split at e
 .split at e
  .rename_i h;cases e;exact⟨_,_,rfl,rfl,h,rfl⟩
  .cases e
 .cases e
def Us:jG K (rI Gn λi j=>.int (i^j.toNat)) uF:=Eu λp q s e=>by
 unfold uF at e;split at e
 .split at e
  .rename_i h;cases e;exact⟨_,_,rfl,rfl,⟨h.1,by lia,h.2.2⟩,rfl⟩
  .cases e
 .cases e
def AZ(i j:Int):Prop:=0<j/\j<18446744073709551616
def Tj:OpR X (binaryOp .FloorDiv) (rI AZ λi j=>.int (i/j)):=Ff λi j _ _ _ _ _ hc q=>by
 have h1:(0:Int)<j:=hc.1;have h2:j<18446744073709551616:=hc.2;refine floordiv_int (by lia) ?_ (.inl (PyProof.noPylong_of_log2 ?_))
 .rw[Int.fdiv_eq_ediv_of_nonneg _ (by lia)];exact q
 .have h0:j.natAbs≠0:=by lia
  have:j.natAbs.log2<64:=(Nat.log2_lt h0).mpr (by lia);lia
def VU:jG K (rI AZ λi j=>.int (i/j)) jS:=Eu λp q s e=>by
 unfold jS at e;split at e
 .split at e
  .rename_i h;cases e;exact⟨_,_,rfl,rfl,h,rfl⟩
  .cases e
 .cases e
end
def lD(ha:FE X a wa)(hb:FE X b wb):FE X (.BinOp a .Add b pos) (zM cO wa wb):=Bb (λ_ _=>VO) TQ ha hb
def LC(ha:FE X a wa)(hb:FE X b wb):FE X (.BinOp a .Sub b pos) (zM rG wa wb):=Bb (λ_ _=>SC) Tp ha hb
def An(ha:FE X a wa)(hb:FE X b wb):FE X (.BinOp a .Mod b pos) (zM gQ wa wb):=Bb (λ_ _=>Qa) TV ha hb
def Mp(ha:FE X a wa)(hb:FE X b wb):FE X (.BinOp a .FloorDiv b pos) (zM jS wa wb):=Bb (λ_ _=>Tj) VU ha hb
def QB(ha:FE X a wa)(hb:FE X b wb):FE X (.BinOp a .Pow b pos) (zM uF wa wb):=Bb (λ_ _=>Qy) Us ha hb
section
open PySem.SeqAt
def VL(h:aW (.tup l) (.tup m)=false):bC l m=false:=h
def GT:∀{l m:List D}{j:Nat}{a b:D},bC l m=false->l[j]?=some a->m[j]?=some b->aW a b=false
 |[],_,_,_,_,_,h,_=>by simp at h
 |_::_,[],_,_,_,_,_,h=>by simp at h
 |x::l,y::m,0,a,b,h,h1,h2=>by simp at h1 h2;subst h1 h2;have h':(aW x y||bC l m)=false:=h;rw[Bool.or_eq_false_iff]at h';exact h'.1
 |x::l,y::m,j+1,a,b,h,h1,h2=>by have h':(aW x y||bC l m)=false:=h;rw[Bool.or_eq_false_iff]at h';exact GT h'.2 (by simpa using h1) (by simpa using h2)
def Gw:∀{l:List D}{j:Nat}{a:D},l[j]?=some a->gJ a<=bB l
 |[],_,_,h=>by simp at h
 |x::l,0,a,h=>by simp at h;subst h;show gJ x<=max (gJ x) (bB l);lia
 |x::l,j+1,a,h=>by have:=Gw (l:=l) (j:=j) (a:=a) (by simpa using h);show gJ a<=max (gJ x) (bB l);lia
open Classical in
def Gv{l m:List D}(n:Nat)(hn:n=min l.length m.length):((List.range n).all (λj=>decide (l[j]?=m[j]?))&&(l.length==m.length))=decide (l=m):=by
 by_cases h:l=m
 .subst h;simp
 .rw[qT h];by_cases hl:l.length=m.length
  .have:(List.range n).all (λj=>decide (l[j]?=m[j]?))=false:=by
    cases q:(List.range n).all (λj=>decide (l[j]?=m[j]?))with
    |false=>rfl
    |true=>
     exfalso;apply h;apply ext_getElem?;intro j;by_cases hj:j<n
     .exact qV (qJ.mp q j (by simpa using hj))
     .rw[qR (by lia),qR (by lia)]
   rw[this];rfl
  .have:(l.length==m.length)=false:=by simpa using hl
   rw[this,Bool.and_false]
inductive Sc:V->D->Prop
 |non:Sc .non .non
 |bl (b:Bool):Sc (.bl b) (.bl b)
 |int (i:Int):Sc (.int i) (.int i)
 |str {x:Str} {l:List Nat}:x.cps.toList=l->Sc (.str x) (.str l)
def Li{K:W.Frag}(r:aN K H v d)(hc:aW d e=false)(h1:∀l,d≠.tup l)(h2:∀l,d≠.lst l):Sc v d:=by
 cases r with
 |tup=>exact absurd rfl (h1 _)
 |lst=>exact absurd rfl (h2 _)
 |dK=>cases e<;>cases hc
 |dT=>cases e<;>cases hc
 |st=>cases e<;>cases hc
 |exc=>cases e<;>cases hc
 |non=>exact .non
 |bl=>exact .bl _
 |int=>exact .int _
 |str e _=>exact .str e
def LM{K:W.Frag}(r:aN K H u e)(s:Sc v d)(hc:aW d e=false):Sc u e:=by
 cases r with
 |non=>exact .non
 |bl=>exact .bl _
 |int=>exact .int _
 |str e _=>exact .str e
 |_=>cases s<;>cases hc
open Classical in
def Mw{K:W.Frag}(r1:aN K H v d)(r2:aN K H u e)(rv:zL v vv)(ru:zL u uu)(hc:aW d e=false)(h1:∀l,d≠.tup l)(h2:∀l,d≠.lst l):
  EqAt A s vv uu (decide (d=e))/\RcAt A s vv uu (decide (d=e)):=by
 have s1:=Li r1 hc h1 h2;have s2:=LM r2 s1 hc
 clear r1 r2 h1 h2
 cases s1 with
 |non=>
  cases rv;cases s2 with
  |non=>cases ru;simp;exact⟨EqAt.same _,RcAt.none_none⟩
  |bl b=>cases ru;simp;exact⟨EqAt.none_bool _,RcAt.none_bool _⟩
  |int i=>obtain⟨t,rfl⟩:=ru;simp;exact⟨EqAt.none_int _ _,RcAt.none_int _ _⟩
  |str e=>obtain⟨t,rfl⟩:=ru;simp;exact⟨EqAt.none_str _ _,RcAt.none_str _ _⟩
 |bl a=>
  cases rv;cases s2 with
  |non=>cases ru;simp;exact⟨EqAt.bool_none _,RcAt.bool_none _⟩
  |bl b=>
   cases ru;have e:(decide (D.bl a=D.bl b))=(a==b):=by cases a<;>cases b<;>simp
   rw[e];exact⟨EqAt.bool_bool _ _,RcAt.bool_bool _ _⟩
  |str e=>obtain⟨t,rfl⟩:=ru;simp;exact⟨EqAt.bool_str _ _ _,RcAt.bool_str _ _ _⟩
  |int=>cases hc
 |int i=>
  obtain⟨t,rfl⟩:=rv;cases s2 with
  |non=>cases ru;simp;exact⟨EqAt.int_none _ _,RcAt.int_none _ _⟩
  |int j=>
   obtain⟨t',rfl⟩:=ru;have e:(decide (D.int i=D.int j))=(i==j):=by by_cases h:i=j<;>simp[h]
   rw[e];exact⟨EqAt.int_int _ _ _ _,RcAt.int_int _ _ _ _⟩
  |str e=>obtain⟨t',rfl⟩:=ru;simp;exact⟨EqAt.int_str _ _ _ _,RcAt.int_str _ _ _ _⟩
  |bl=>cases hc
 |str e1=>
  obtain⟨t,rfl⟩:=rv;cases s2 with
  |non=>cases ru;simp;exact⟨EqAt.str_none _ _,RcAt.str_none _ _⟩
  |bl b=>cases ru;simp;exact⟨EqAt.str_bool _ _ _,RcAt.str_bool _ _ _⟩
  |int j=>obtain⟨t',rfl⟩:=ru;simp;exact⟨EqAt.str_int _ _ _ _,RcAt.str_int _ _ _ _⟩
  |str e2=>
   obtain⟨t',rfl⟩:=ru;rename_i x l y m;have e:(decide (D.str l=D.str m))=(x==y):=by
    by_cases h:x=y
    .subst h;rw[<-e1,<-e2];simp
    .have hb:(x==y)=false:=by simpa using h
     rw[hb];refine qT λq=>h ?_;obtain⟨⟨a⟩⟩:=x;obtain⟨⟨b⟩⟩:=y;have a1:a=l:=e1;have b1:b=m:=e2;rw[a1,b1,D.str.inj q]
   rw[e];exact⟨EqAt.str_str _ _ _ _,RcAt.str_str _ _ _ _⟩
def Be(r:zR xs us)(h:j<us.toArray.size):∃x,xs[j]?=some x/\zL x us.toArray[j]:=by
 have hl:=r.length;have hj:j<us.length:=by simpa using h
 have hj':j<xs.length:=by lia
 obtain⟨u,hu,ru⟩:=r.get (i:=j) (x:=xs[j]) (by simp[hj']);refine⟨xs[j],by simp[hj'],?_⟩;have:us.toArray[j]=u:=by have:=qh.mp hu;simpa using this.2
 rw[this];exact ru
mutual
def aN.uniq(I:Inv X zU Z H s)(r:aN X.K H v d)(q:aN X.K H v e)(hc:aW d e=false):d=e:=by
 cases r with
 |non=>cases q;rfl
 |bl _=>cases q;rfl
 |int _=>cases q;rfl
 |str e1 _=>cases q with|str e2 _=>rw[<-e1,<-e2]
 |tup e1 r1=>cases q with
  |tup e2 r2=>cases I.tuple_inj (bP.of e1) (bP.of e2);rw[zS.uniq I r1 r2 hc]
  |_=>cases hc
 |lst e1 r1=>cases q with
  |lst e2 r2=>cases I.list_inj e1 e2;rw[zS.uniq I r1 r2 hc]
  |_=>cases hc
 |dK=>cases e<;>cases hc
 |dT=>cases e<;>cases hc
 |st=>cases e<;>cases hc
 |exc=>cases e<;>cases hc
def zS.uniq(I:Inv X zU Z H s)(r:zS X.K H v d)(q:zS X.K H v e)(hc:bC d e=false):d=e:=by
 cases r with
 |nil=>cases q;rfl
 |@cons _ a _ l a1 b1=>cases q with
  |@cons _ b _ m a2 b2=>have h':(aW a b||bC l m)=false:=hc;rw[Bool.or_eq_false_iff]at h';rw[aN.uniq I a1 a2 h'.1,zS.uniq I b1 b2 h'.2]
end
open Classical in
def Hy:∀(n:Nat){A:Around}{v u:V}{vv uu:Value}{d e:D},gJ d<=n->Inv X zU Z H s->aN X.K H v d->aN X.K H u e->zL v vv->zL u uu->aW d e=false->A.units+n<cLine->
  EqAt A s vv uu (decide (d=e))/\RcAt A s vv uu (decide (d=e)):=by
 intro n;induction n with
 |zero=>intro A v u vv uu d e hd I r1 r2 rv ru hc hu;exact Mw r1 r2 rv ru hc (λl z=>by subst z;exact absurd hd (by show¬bB l+1<=0;lia)) (λl z=>by subst z;exact absurd hd (by show¬bB l+1<=0;lia))
 |succ n ih=>
  intro A v u vv uu d e hd I r1 r2 rv ru hc hu;have hin:A.in1.units+n<cLine:=by show A.units+1+n<cLine;lia
  cases r1 with
  |tup e1 q1=>
   cases r2 with
   |tup e2 q2=>
    rename_i a xs l b ys m;cases rv;cases ru;obtain⟨zY,w1,p1,_⟩:=I.tuple (bP.of e1);obtain⟨its2,w2,p2,_⟩:=I.tuple (bP.of e2);have hdl:bB l<=n:=by have:bB l+1<=n+1:=hd;lia
    have el1:zY.toArray.size=l.length:=by rw[qt,<-w1.length,q1.len]
    have el2:its2.toArray.size=m.length:=by rw[qt,<-w2.length,q2.len]
    have items:∀j(h1:j<zY.toArray.size)(h2:j<its2.toArray.size),EqAt A.in1 s zY.toArray[j] its2.toArray[j] (decide (l[j]?=m[j]?)):=λj h1 h2=>by
     obtain⟨x,hx,rx⟩:=Be w1 h1;obtain⟨y,hy,ry⟩:=Be w2 h2;have hj1:j<l.length:=by lia
     have hj2:j<m.length:=by lia
     obtain⟨x',hx',rp1⟩:=q1.get (i:=j) (d:=l[j]) (by simp[hj1]);obtain⟨y',hy',rp2⟩:=q2.get (i:=j) (d:=m[j]) (by simp[hj2]);rw[hx]at hx';cases hx';rw[hy]at hy';cases hy';have:=(ih (A:=A.in1) (le_trans (Gw (l:=l) (j:=j) (by simp[hj1])) hdl) I rp1 rp2 rx ry (GT (j:=j) (a:=l[j]) (b:=m[j]) (VL hc) (by simp[hj1]) (by simp[hj2])) hin).1;have e:decide (l[j]?=m[j]?)=decide (l[j]=m[j]):=by simp[hj1,hj2]
     rw[e];exact this
    have hrc:RcAt A s (.ref a) (.ref b) (decide (D.tup l=D.tup m)):=by
     have:=RcAt.tuples (s:=s) (show s.heap.IsTuple a zY.toArray from p1) (show s.heap.IsTuple b its2.toArray from p2) (by lia) items;rw[el1,el2,Gv (l:=l) (m:=m) _ rfl]at this;have e:decide (D.tup l=D.tup m)=decide (l=m):=by by_cases h:l=m<;>simp[h]
     rw[e];exact this
    refine⟨?_,hrc⟩;by_cases hab:a=b
    .subst hab;have hxy:l=m:=by have z:=aN.uniq I (.tup e1 q1) (.tup e2 q2) hc;cases z;rfl
     subst hxy;simp;exact EqAt.same _
    .exact EqAt.of_refs hab hrc
   |_=>cases hc
  |lst e1 q1=>
   cases r2 with
   |lst e2 q2=>
    rename_i a xs l b ys m;cases rv;cases ru;obtain⟨zY,w1,p1,_⟩:=I.list e1;obtain⟨its2,w2,p2,_⟩:=I.list e2;have hdl:bB l<=n:=by have:bB l+1<=n+1:=hd;lia
    have el1:zY.toArray.size=l.length:=by rw[qt,<-w1.length,q1.len]
    have el2:its2.toArray.size=m.length:=by rw[qt,<-w2.length,q2.len]
    have items:∀j(h1:j<zY.toArray.size)(h2:j<its2.toArray.size),EqAt A.in1 s zY.toArray[j] its2.toArray[j] (decide (l[j]?=m[j]?)):=λj h1 h2=>by
     obtain⟨x,hx,rx⟩:=Be w1 h1;obtain⟨y,hy,ry⟩:=Be w2 h2;have hj1:j<l.length:=by lia
     have hj2:j<m.length:=by lia
     obtain⟨x',hx',rp1⟩:=q1.get (i:=j) (d:=l[j]) (by simp[hj1]);obtain⟨y',hy',rp2⟩:=q2.get (i:=j) (d:=m[j]) (by simp[hj2]);rw[hx]at hx';cases hx';rw[hy]at hy';cases hy';have hc':bC l m=false:=hc;have:=(ih (A:=A.in1) (le_trans (Gw (l:=l) (j:=j) (by simp[hj1])) hdl) I rp1 rp2 rx ry (GT (j:=j) (a:=l[j]) (b:=m[j]) hc' (by simp[hj1]) (by simp[hj2])) hin).1;have e:decide (l[j]?=m[j]?)=decide (l[j]=m[j]):=by simp[hj1,hj2]
     rw[e];exact this
    have hrc:RcAt A s (.ref a) (.ref b) (decide (D.lst l=D.lst m)):=by
     have e:decide (D.lst l=D.lst m)=decide (l=m):=by by_cases h:l=m<;>simp[h]
     rw[e];by_cases zX:l.length=m.length
     .have:=RcAt.lists (s:=s) p1.isList p2.isList (by lia) (by lia) items;rw[el1]at this;have e2:=Gv (l:=l) (m:=m) l.length (by lia);have e3:(l.length==m.length)=true:=by simpa using zX
      rw[e3,Bool.and_true]at e2;rw[<-e2];exact this
     .have:=RcAt.lists_lengths (A:=A) (s:=s) p1.isList p2.isList (by simp only[el1,el2];simpa using zX) (by lia);have e2:decide (l=m)=false:=qT λz=>zX (by rw[z]);rw[e2];exact this
    refine⟨?_,hrc⟩;by_cases hab:a=b
    .subst hab;have hxy:l=m:=by have z:=aN.uniq I (.lst e1 q1) (.lst e2 q2) hc;cases z;rfl
     subst hxy;simp;exact EqAt.same _
    .exact EqAt.of_refs hab hrc
   |_=>cases hc
  |_=>exact Mw (by first|exact .non|exact .bl _|exact .int _|(rename_i e z;exact .str e z)|(rename_i e k r;exact .dK e k r)|(rename_i e k r;exact .dT e k r)|(rename_i e r;exact .st e r)|(rename_i e k z;exact .exc e k z)) r2 rv ru hc (λl z=>by cases z) (λl z=>by cases z)
end
section
variable{K:W.Frag}
open PySem.SeqAt
open Classical in
def Fb(K:W.Frag):R2:=λx y H Q=>∃p q,aN K H x p/\aN K H y q/\aW p q=false/\gJ p<=30/\Q (.bl (decide (p=q))) H
def pS(hu:X.A.units+31<cLine):OpR X (compareOp .Eq) (Fb X.K):=by intro zU s Z H x y v u Q I rx ry h;obtain⟨p,q,r1,r2,hc,hd,hq⟩:=h;exact(Hy 30 hd I r1 r2 rx ry hc (by lia)).2 X.prog X.w X.xe _ ⟨.bl _,H,I,rfl,hq⟩
def LG(h:fM p q=some k):aW p q=false/\gJ p<=30:=by grind[fM]
open Classical in
def Mx(h:fM p q=some k):k=decide (p=q):=by
 unfold fM at h;split at h
 .cases h
 .exact(qg h).symm
def pQ:fX K (Fb K) fM:=by intro H x y p q k Q r1 r2 e hq;obtain⟨h1,h2⟩:=LG e;have:=Mx e;subst this;exact⟨p,q,r1,r2,h1,h2,hq⟩
open Classical in
def BY(K:W.Frag):R2:=λx y H Q=>∃p q,aN K H x p/\aN K H y q/\aW p q=false/\gJ p<=30/\Q (.bl (!decide (p=q))) H
def Nm(I:Inv X zU Z H s)(q1:zS X.K H xs l)(q2:zS X.K H ys m)(w1:zR xs us)(w2:zR ys ws)(hc:bC l m=false)(hd:bB l<=30)(hu:A.units+30<cLine):
  ∀j(h1:j<us.toArray.size)(h2:j<ws.toArray.size),EqAt A s us.toArray[j] ws.toArray[j] (open Classical in decide (l[j]?=m[j]?)):=λj h1 h2=>by
 obtain⟨x,hx,rx⟩:=Be w1 h1;obtain⟨y,hy,ry⟩:=Be w2 h2;have el1:us.toArray.size=l.length:=by rw[qt,<-w1.length,q1.len]
 have el2:ws.toArray.size=m.length:=by rw[qt,<-w2.length,q2.len]
 have hj1:j<l.length:=by lia
 have hj2:j<m.length:=by lia
 obtain⟨x',hx',rp1⟩:=q1.get (i:=j) (d:=l[j]) (by simp[hj1]);obtain⟨y',hy',rp2⟩:=q2.get (i:=j) (d:=m[j]) (by simp[hj2]);rw[hx]at hx';cases hx';rw[hy]at hy';cases hy';have:=(Hy 30 (A:=A) (le_trans (Gw (l:=l) (j:=j) (by simp[hj1])) hd) I rp1 rp2 rx ry (GT (j:=j) (a:=l[j]) (b:=m[j]) hc (by simp[hj1]) (by simp[hj2])) hu).1;have e:(open Classical in decide (l[j]?=m[j]?))=(open Classical in decide (l[j]=m[j])):=by simp[hj1,hj2]
 rw[e];exact this
def Fu(p:D):(∃l,p=.tup l)\/(∃l,p=.lst l)\/((∀l,p≠.tup l)/\∀l,p≠.lst l):=by
 cases p with
 |tup l=>exact .inl ⟨l,rfl⟩
 |lst l=>exact .inr (.inl ⟨l,rfl⟩)
 |_=>exact .inr (.inr ⟨λl z=>D.noConfusion z,λl z=>D.noConfusion z⟩)
def RS(h:aW (.tup l) q=false):∃m,q=.tup m:=by
 cases q with
 |tup m=>exact⟨m,rfl⟩
 |_=>cases h
def RL(h:aW (.lst l) q=false):∃m,q=.lst m:=by
 cases q with
 |lst m=>exact⟨m,rfl⟩
 |_=>cases h
def Sy(r1:aN K H x p)(r2:aN K H y q)(hc:aW p q=false)(h1:∀l,p≠.tup l)(h2:∀l,p≠.lst l):EK x y=true/\(p=q↔x=y):=by
 have s1:=Li r1 hc h1 h2;have s2:=LM r2 s1 hc
 clear r1 r2 h1 h2
 cases s1 with
 |str e1=>
  cases s2 with
  |str e2=>
   rename_i x l y m;refine⟨rfl,λz=>?_,λz=>?_⟩
   .obtain⟨⟨a⟩⟩:=x;obtain⟨⟨b⟩⟩:=y;grind
   .cases z;rw[<-e1,<-e2]
  |_=>exact⟨rfl,λz=>D.noConfusion z,λz=>V.noConfusion z⟩
 |_=>cases s2<;>first|exact⟨rfl,λz=>D.noConfusion z,λz=>V.noConfusion z⟩|exact⟨rfl,λz=>by cases z;rfl,λz=>by cases z;rfl⟩|cases hc
def DX(hu:X.A.units+32<cLine):OpR X (compareOp .NotEq) (BY X.K):=by
 classical
 intro zU s Z H x y v u Q I rx ry h;obtain⟨p,q,r1,r2,hc,hd,hq⟩:=h;have fin:EP X zU Z Q (.bool (!decide (p=q))) s:=⟨.bl _,H,I,rfl,hq⟩
 have hin:X.A.in1.units+30<cLine:=by show X.A.units+1+30<cLine;lia
 rcases Fu p with⟨l,rfl⟩|⟨l,rfl⟩|⟨n1,n2⟩
 .obtain⟨m,rfl⟩:=RS hc;cases r1 with
  |tup e1 q1=>
  cases r2 with
  |tup e2 q2=>
   rename_i a xs b ys;cases rx;cases ry;obtain⟨zY,w1,p1,_⟩:=I.tuple (bP.of e1);obtain⟨its2,w2,p2,_⟩:=I.tuple (bP.of e2);have hdl:bB l<=30:=by have:bB l+1<=30:=hd;lia
   have el1:zY.toArray.size=l.length:=by rw[qt,<-w1.length,q1.len]
   have el2:its2.toArray.size=m.length:=by rw[qt,<-w2.length,q2.len]
   have:=RcNeAt.tuples (A:=X.A) (s:=s) (show s.heap.IsTuple a zY.toArray from p1) (show s.heap.IsTuple b its2.toArray from p2) (by lia) (Nm I q1 q2 w1 w2 hc hdl hin);rw[el1,el2,Gv (l:=l) (m:=m) _ rfl]at this;have e:decide (D.tup l=D.tup m)=decide (l=m):=by by_cases h:l=m<;>simp[h]
   rw[e]at fin;exact this X.prog X.w X.xe _ fin
 .obtain⟨m,rfl⟩:=RL hc;cases r1 with
  |lst e1 q1=>
  cases r2 with
  |lst e2 q2=>
   rename_i a xs b ys;cases rx;cases ry;obtain⟨zY,w1,p1,_⟩:=I.list e1;obtain⟨its2,w2,p2,_⟩:=I.list e2;have hdl:bB l<=30:=by have:bB l+1<=30:=hd;lia
   have el1:zY.toArray.size=l.length:=by rw[qt,<-w1.length,q1.len]
   have el2:its2.toArray.size=m.length:=by rw[qt,<-w2.length,q2.len]
   have e:decide (D.lst l=D.lst m)=decide (l=m):=by by_cases h:l=m<;>simp[h]
   rw[e]at fin;by_cases zX:l.length=m.length
   .have:=RcNeAt.lists (A:=X.A) (s:=s) p1.isList p2.isList (by lia) (by lia) (Nm I q1 q2 w1 w2 hc hdl hin);rw[el1]at this;have e2:=Gv (l:=l) (m:=m) l.length (by lia);have e3:(l.length==m.length)=true:=by simpa using zX
    rw[e3,Bool.and_true]at e2;rw[<-e2]at fin;exact this X.prog X.w X.xe _ fin
   .have:=RcNeAt.lists_lengths (A:=X.A) (s:=s) p1.isList p2.isList (by simp only[el1,el2];simpa using zX) (by lia);have e2:decide (l=m)=false:=qT λz=>zX (by rw[z]);rw[e2]at fin;exact this X.prog X.w X.xe _ fin
 .obtain⟨h1,h2⟩:=Sy r1 r2 hc n1 n2;rw[decide_eq_decide.mpr h2]at hq;exact PM zU s Z H x y v u Q I rx ry ⟨h1,hq⟩
def Gz:fX K (BY K) mI:=by
 intro H x y p q k Q r1 r2 e hq;unfold mI at e;cases q1:fM p q with
 |none=>rw[q1]at e;cases e
 |some b=>rw[q1]at e;have e':(!b)=k:=qg e;obtain⟨h1,h2⟩:=LG q1;have:=Mx q1;subst this;subst e';exact⟨p,q,r1,r2,h1,h2,hq⟩
def mW(f:Int->Int->Bool)(g:List Nat->List Nat->Bool):R2:=λx y H Q=>(∃i j,x=.int i/\y=.int j/\Q (.bl (f i j)) H)\/∃i j,x=.str i/\y=.str j/\Q (.bl (g i.cps.toList j.cps.toList)) H
def Ig{g:List Nat->List Nat->Bool}(rule:∀(i j:Str)(t u:Tok)(s:Shared)(Q:zw)(E:zw),Q (.bool (g i.cps.toList j.cps.toList)) s->wpAny (model X.prog X.w) X.A (compareOp op (.str i t) (.str j u)) Q E s):
  OpR X (compareOp op) (λx y H Q=>∃i j,x=.str i/\y=.str j/\Q (.bl (g i.cps.toList j.cps.toList)) H):=by
 intro zU s Z H x y v u Q I rx ry h;obtain⟨i,j,rfl,rfl,q⟩:=h;obtain⟨t,rfl⟩:=rx;obtain⟨t',rfl⟩:=ry;exact rule i j t t' s _ _ ⟨.bl _,H,I,rfl,q⟩
def Rr:OpR X (compareOp .Lt) (mW (λi j=>decide (i<j)) λl m=>decide (l<m)):=FL.OpR.or PL (Ig (g:=λl m=>decide (l<m)) λ_ _ _ _ _ _ _ q=>PyProof.Rows.lt_str q)
def HD:OpR X (compareOp .Gt) (mW (λi j=>decide (j<i)) λl m=>decide (m<l)):=FL.OpR.or PH (Ig (g:=λl m=>decide (m<l)) λ_ _ _ _ _ _ _ q=>PySem.P.gt_str q)
def Rt:OpR X (compareOp .GtE) (mW (λi j=>decide (j<=i)) λl m=>!decide (l<m)):=FL.OpR.or PB (Ig (g:=λl m=>!decide (l<m)) λ_ _ _ _ _ _ _ q=>PySem.P.ge_str q)
def Iw(h:∀p q k,o p q=some k->(∃i j,p=.int i/\q=.int j/\k=f i j)\/∃l m,p=.str l/\q=.str m/\k=g l m):fX K (mW f g) o:=by
 intro H x y p q k Q r1 r2 e hq;rcases h p q k e with⟨i,j,rfl,rfl,rfl⟩|⟨l,m,rfl,rfl,rfl⟩
 .cases r1;cases r2;exact .inl ⟨i,j,rfl,rfl,hq⟩
 .cases r1 with
  |str e1 z1=>cases r2 with
   |str e2 z2=>subst e1 e2;exact .inr ⟨_,_,rfl,rfl,hq⟩
def RP:fX K (mW (λi j=>decide (i<j)) λl m=>decide (l<m)) Hn:=Iw λp q k e=>by
 unfold Hn Hk at e;split at e
 .exact .inl ⟨_,_,rfl,rfl,(qg e).symm⟩
 .exact .inr ⟨_,_,rfl,rfl,(qg e).symm⟩
 .cases e
def HX:fX K (mW (λi j=>decide (j<i)) λl m=>decide (m<l)) DL:=Iw λp q k e=>by
 unfold DL Hk at e;split at e
 .exact .inl ⟨_,_,rfl,rfl,(qg e).symm⟩
 .exact .inr ⟨_,_,rfl,rfl,(qg e).symm⟩
 .cases e
def Rz:fX K (mW (λi j=>decide (j<=i)) λl m=>!decide (l<m)) Ho:=Iw λp q k e=>by
 unfold Ho at e;split at e
 .exact .inl ⟨_,_,rfl,rfl,(qg e).symm⟩
 .exact .inr ⟨_,_,rfl,rfl,(qg e).symm⟩
 .cases e
end
section
open PySem.SeqAt
open Classical in
def EZ(K:W.Frag)(neg:Bool):R2:=λx y H Q=>∃p l,aN K H x p/\(aN K H y (.lst l)\/aN K H y (.tup l))/\(∀d∈l,aW d p=false/\gJ d<=30)/\Q (.bl (if neg then !decide (p∈l)else decide (p∈l))) H
def MS(I:Inv X zU Z H s)(rx:zL x v)(r1:aN X.K H x p)(q1:zS X.K H xs l)(w1:zR xs us)(hc:∀d∈l,aW d p=false/\gJ d<=30)(hu:A.units+30<cLine):
  ∃e:Value->Bool,(∀y,y∈us.toArray->EqAt A s y v (e y))/\us.toArray.any e=(open Classical in decide (p∈l)):=by
 classical
 have item:∀{y:Value},y∈us->∃z d,zL z y/\aN X.K H z d/\d∈l:=λ{y} hy=>by
  obtain⟨j,hj,e⟩:=getElem_of_mem hy;obtain⟨z,hz,rz⟩:=Be (j:=j) w1 (by simpa using hj);have hl:j<l.length:=by rw[<-q1.len,w1.length];exact hj
  obtain⟨z',hz',rp⟩:=q1.get (i:=j) (d:=l[j]) (by simp[hl]);rw[hz]at hz';cases hz';refine⟨z,l[j],?_,rp,by simp⟩;have:us.toArray[j]=y:=by simpa using e
  rw[<-this];exact rz
 refine⟨λy=>decide (∃z,zL z y/\aN X.K H z p),λy hy=>?_,?_⟩
 .have hy':y∈us:=by simpa using hy
  obtain⟨z,d,rz,rp,hd⟩:=item hy';have hcd:=hc d hd;have:=(Hy 30 (A:=A) hcd.2 I rp r1 rz rx hcd.1 hu).1;have e:decide (d=p)=decide (∃z,zL z y/\aN X.K H z p):=by
   by_cases h:d=p
   .subst h;rw[qS rfl,qS ⟨z,rz,rp⟩]
   .rw[qT h];refine(qT ?_).symm;rintro⟨z',rz',rp'⟩;have:z=z':=rz.inj rz';subst this;exact h (aN.uniq I rp rp' hcd.1)
  show EqAt A s y v (decide (∃z,zL z y/\aN X.K H z p));rw[<-e];exact this
 .by_cases h:p∈l
  .rw[qS h];obtain⟨j,hj,e⟩:=getElem_of_mem h;obtain⟨z,hz,rp⟩:=q1.get (i:=j) (d:=l[j]) (by simp[hj]);obtain⟨u,hu',ru⟩:=w1.get hz;rw[Array.any_eq_true'];exact⟨u,by simpa using qN hu',qS ⟨z,ru,e▸rp⟩⟩
  .rw[qT h];rw[Array.any_eq_false'];intro y hy z;obtain⟨z',rz',rp'⟩:=qV z;obtain⟨z2,d,rz,rp,hd⟩:=item (y:=y) (by simpa using hy);have:z2=z':=rz.inj rz';subst this;exact h (aN.uniq I rp rp' (hc d hd).1▸hd)
def UQ(hu:X.A.units+32<cLine):OpR X (compareOp .NotIn) (EZ X.K true):=by
 intro zU s Z H x y v u Q I rx ry h;obtain⟨p,l,r1,r2,hc,hq⟩:=h;have hin:X.A.in1.units+30<cLine:=by show X.A.units+1+30<cLine;lia
 rcases r2 with r2|r2
 .cases r2 with
  |lst e q=>cases ry;obtain⟨zY,w1,p1,_⟩:=I.list e;obtain⟨f,hf,ha⟩:=MS (A:=X.A.in1) I rx r1 q w1 hc hin;exact notIn_listAt f p1.isList hf ⟨.bl _,H,I,rfl,by rw[ha];exact hq⟩
 .cases r2 with
  |tup e q=>cases ry;obtain⟨zY,w1,p1,_⟩:=I.tuple (bP.of e);obtain⟨f,hf,ha⟩:=MS (A:=X.A.in1) I rx r1 q w1 hc hin;exact notIn_tupleAt f (show s.heap.IsTuple _ zY.toArray from p1) hf ⟨.bl _,H,I,rfl,by rw[ha];exact hq⟩
end
section
variable{K:W.Frag}
def HC(hl:xs.length=l.length)(h:atI l i=some d):∃j,ixN l.length i=some j/\l[j]?=some d/\∀x,xs[j]?=some x->L2.atI xs i=some x:=by
 unfold atI at h;cases q:ixN l.length i with
 |none=>rw[q]at h;cases h
 |some j=>
  rw[q]at h;refine⟨j,rfl,h,λx hx=>?_⟩;have e:L2.ixN xs.length i=some j:=by rw[hl];exact q
  unfold L2.atI;rw[e];exact hx
def zS.atI(r:zS K F xs l)(h:FL.atI l i=some d):∃x,L2.atI xs i=some x/\aN K F x d:=by obtain⟨j,_,h1,h2⟩:=HC (xs:=xs) r.len h;obtain⟨x,hx,rx⟩:=r.get h1;exact⟨x,h2 x hx,rx⟩
def zK.get{j:Nat}(r:zK K F H xs l fp)(h:l[j]?=some t):∃x fa fi fb,xs[j]?=some x/\aM K F H x t fi/\fp=fa++(fi++fb):=
 zK.ind (P:=λxs l fp=>∀j t,l[j]?=some t->∃x fa fi fb,xs[j]?=some x/\aM K F H x t fi/\fp=fa++(fi++fb)) (λ_ _ e=>by cases e) (λa _ ih j t e=>by
  cases j with
  |zero=>cases e;exact⟨_,[],_,_,rfl,a,rfl⟩
  |succ j=>obtain⟨x,fa,fi,fb,h1,h2,rfl⟩:=ih j t e;exact⟨x,_++fa,fi,fb,h1,h2,(qq ..).symm⟩) r j t h
def Rel.item{j:Nat}(r:Rel K (U++[some (.lst l)]) (Z++[some (.ref a)]) F G H)(h:l[j]?=some t):∃xs x,H a=some (.lst xs)/\xs.length=l.length/\xs[j]?=some x/\Rel K (U++[some t]) (Z++[some x]) F G H:=by
 obtain⟨fp,e,nd,ap⟩:=r.en;obtain⟨f1,f2,rfl,en,b⟩:=e.cut (aS r);cases b with
 |so sr nl=>
  cases nl;cases sr with
  |lst hD rl=>
   rename_i xs fl;obtain⟨x,fa,fi,fb,h1,h2,rfl⟩:=rl.get h;refine⟨xs,x,hD,rl.len,h1,r.fr,r.gr,f1++(fi++[]),en.app (.so h2 .nil),?_,λy hy=>ap y ?_⟩
   .have sub:List.Sublist (f1++(fi++[])) (f1++(a::(fa++(fi++fb))++[])):=by refine List.Sublist.append (List.Sublist.refl _) ?_;simp only[qB];exact(List.Sublist.cons _ ((List.sublist_append_left fi fb).trans (List.sublist_append_right fa _)))
    exact sub.nodup nd
   .rcases qz.mp hy with z|z
    .exact qk _ z
    .refine qj _ ?_;simp only[qB]at z⊢;exact qm _ (qj _ (qk _ z))
end
def SL{K:W.Frag}(e:bP K H c xs)(r:zS K F xs l)(h:atI l i=some d)(hq:∀x,aN K F x d->Q x H):Hi K (.ref c) (.int i) H Q:=by obtain⟨x,hx,rx⟩:=r.atI h;exact .inr (.inl ⟨c,xs,i,x,rfl,rfl,e,hx,hq x rx⟩)
def Te{K:W.Frag}(e:bR K H c xs)(r:zS K F xs l)(h:atI l i=some d)(hq:∀x,aN K F x d->Q x H):Hi K (.ref c) (.int i) H Q:=by obtain⟨x,hx,rx⟩:=r.atI h;exact .inl ⟨c,xs,i,x,rfl,rfl,e,hx,hq x rx⟩
def SZ(h:nH s q=some t):(∃l i d,s=.sh (.tup l)/\q=.int i/\atI l i=some d/\t=.sh d)\/(∃l i d,s=.sh (.lst l)/\q=.int i/\atI l i=some d/\t=.sh d)\/
  (∃l i c,s=.sh (.str l)/\q=.int i/\atI l i=some c/\t=.sh (.str [c]))\/∃l i,s=.lst l/\q=.int i/\atI l i=some t:=by
 refine cps λ_ kk=>?_;rcases s with d|l|_|_
 .rcases d with _|_|_|l|l|l|_|_|_;case str|tup|lst=>
   rcases q with _|_|i|_|_|_|_|_|_;case int=>obtain⟨d,e,e'⟩:=qZ.mp h;first|exact kk (.inl ⟨_,_,d,rfl,rfl,e,e'.symm⟩)|exact kk (.inr (.inl ⟨_,_,d,rfl,rfl,e,e'.symm⟩))|exact kk (.inr (.inr (.inl ⟨_,_,d,rfl,rfl,e,e'.symm⟩)))
   all_goals cases h
  all_goals cases h
 .rcases q with _|_|i|_|_|_|_|_|_;case int=>exact kk (.inr (.inr (.inr ⟨_,_,rfl,rfl,h⟩)))
  all_goals cases h
 all_goals cases h
def HL{K:W.Frag}(h:aM K F H v (.sh d) fp):aN K F v d:=by cases h;assumption
def Nf{K:W.Frag}(h:aM K F H v (.lst l) fp):∃a xs fq,v=.ref a/\H a=some (.lst xs)/\zK K F H xs l fq:=by
 cases h with
 |lst h1 h2=>exact⟨_,_,_,rfl,h1,h2⟩
def Ly{K:W.Frag}(fr:zH F H)(r:aN K F v d)(ru:aN K F2 u q)(et:nH (.sh d) q=some t)(done:∀e x,t=.sh e->aN K F x e->Q x H):Hi K v u H Q:=by
 rcases SZ et with⟨l,i,e,e1,rfl,ed,rfl⟩|⟨l,i,e,e1,rfl,ed,rfl⟩|⟨l,i,c,e1,rfl,ec,rfl⟩|⟨l,i,e1,_⟩
 .injection e1 with e1
  subst e1;obtain rfl:=bG.int (H:=H) (.inl ru);obtain⟨a,xs,rfl,h1,r1⟩:=bG.tup (H:=H) (.inl r);exact SL (bP.of (fr _ _ h1)) r1 ed λx rx=>done _ x rfl rx
 .injection e1 with e1
  subst e1;obtain rfl:=bG.int (H:=H) (.inl ru);obtain⟨a,xs,rfl,h1,r1⟩:=bG.lst (H:=H) fr (.inl r);exact Te h1 r1 ed λx rx=>done _ x rfl rx
 .injection e1 with e1
  subst e1;obtain rfl:=bG.int (H:=H) (.inl ru);obtain⟨x,rfl,h1,z⟩:=bG.str (H:=H) (.inl r);exact .inr (.inr ⟨_,i,c,rfl,rfl,by rw[Dy h1,zp];exact z,by rw[h1];exact ec,done _ _ rfl (.str rfl (by show 1<=_;decide))⟩)
 .cases e1
def MC(h:nH (.lst l) q=some t):∃i,q=.int i/\atI l i=some t:=by
 cases q with
 |int i=>exact⟨i,rfl,h⟩
 |_=>cases h
def jA(ha:FE X a wa)(hb:FE X b wb)(hs:pM b:=by intro _ _;rfl):FE X (.Subscript a b pos) (gN wa wb):=λpn xe hp=>by
 refine PE.imp (Qf (Qt (X:=wp X pn xe)) (ha pn xe hp) (hb pn xe hp) hs) λZ H Q q=>?_;refine(two (k:=λx y U2 Q E=>zG (view y U2) λq=>match x with
  |.v s=>zG (nH s q) λt=>Q (.v t) U2
  |.loc i=>match slot U2 i with
   |some s=>match nH s q with
    |some (.sh d)=>Q (.v (.sh d)) U2
    |_=>False
   |none=>False) q).mono λv H1 h1=>h1.mono λu H2 h2=>?_
 obtain⟨F,G,U,x,y,P,PX,zW,hl,rx,ry,hk,hok,hx⟩:=h2;obtain⟨q,eq,hk⟩:=bL hk;have relx:Rel X.K (U++[zI x]) (Z++[some v]) F G H2:=by have:=Rel.swap (U1:=[zI x]) (Z1:=[some v]) (U2:=[zI y]) (Z2:=[some u]) hl rfl zW;exact Rel.mid (U:=U) (Z:=Z) this hl
 have rely:Rel X.K (U++[zI y]) (Z++[some u]) F G H2:=zW.mid hl;have ru:=dJ (U':=[]) (Z':=[]) rely hl ry eq;have done:∀{d:D}{x:V},P (.v (.sh d)) U->aN X.K F x d->Q x H2:=λhP r=>hok _ U _ F H2 hP (zH.refl F) ((relx.drop hl).push r) trivial;cases x with
 |v s=>
  obtain⟨t,et,hP⟩:=bL hk;obtain⟨w,fp,e1,sr⟩:=relx.at (i:=U.length) (s:=s) Av;rw[hl,getElem?_append_right (zc _),sub_self]at e1;have e2:v=w:=by simpa using e1
  subst e2;cases s with
  |sh d=>exact Ly relx.fr (HL sr) ru et λe x z rx=>done (by rw[<-z];exact hP) rx
  |lst l=>obtain⟨i,rfl,et⟩:=MC et;obtain rfl:=bG.int (H:=H2) (.inl ru);obtain⟨a,ys,fq,rfl,hD,rl⟩:=Nf sr;obtain⟨j,_,hj,hat⟩:=HC rl.len et;obtain⟨xs,x,hD',zX,hxj,r2⟩:=Rel.item relx hj;rw[hD]at hD';cases hD';exact .inl ⟨_,_,i,x,rfl,rfl,bR.of hD,hat x hxj,hok _ U _ F H2 hP (zH.refl F) r2 trivial⟩
  |_=>cases q<;>cases et
 |loc k=>
  dsimp only at hk;cases qs:slot U k with
  |none=>rw[qs]at hk;exact hk.elim
  |some s=>
   rw[qs]at hk;dsimp only at hk;split at hk
   .rename_i d et;obtain⟨w,fp,e1,sr⟩:=(relx.drop hl).at qs;have rx':Z[k]?=some (some v):=rx;rw[rx']at e1;have e2:v=w:=by simpa using e1
    subst e2;cases s with
    |sh d'=>exact Ly relx.fr (HL sr) ru et λe x z rx=>done (by injection z with z;rw[<-z];exact hk) rx
    |lst l=>obtain⟨i,rfl,et⟩:=MC et;obtain rfl:=bG.int (H:=H2) (.inl ru);obtain⟨a,ys,fq,rfl,hD,rl⟩:=Nf sr;obtain⟨j,_,hj,hat⟩:=HC rl.len et;obtain⟨x,fa,fi,fb,hxj,sx,_⟩:=rl.get hj;exact .inl ⟨_,_,i,x,rfl,rfl,bR.of hD,hat x hxj,done hk (HL sx)⟩
    |_=>cases q<;>cases et
   .exact hk.elim
section
variable{K:W.Frag}{Z:St}
def zK.set:∀{xs:List V}{l:List S}{fp:List Addr}{m:Nat},zK K F H xs l fp->m<l.length->∃fa fi fb,fp=fa++(fi++fb)/\
  ∀{H':Hp}{v:V}{s:S}{fq:List Addr},(∀a∈fa++fb,H' a=H a)->aM K F H' v s fq->zK K F H' (xs.set m v) (l.set m s) (fa++(fq++fb))
 |_,_,_,_,.nil,h=>by simp at h
 |_,_,_,0,.cons (fp:=fp) (fq:=fq) a b,h=>⟨[],fp,fq,rfl,λhk r=>by rw[nil_append];exact .cons r (b.mono (zH.refl F) λc hc=>hk c hc)⟩
 |_,_,_,m+1,.cons (fp:=fp) (fq:=fq) a b,h=>by obtain⟨fa,fi,fb,rfl,up⟩:=zK.set (m:=m) b (by simpa using h);refine⟨fp++fa,fi,fb,(qq ..).symm,λhk r=>?_⟩;rw[qq];exact .cons (a.mono (zH.refl F) λc hc=>hk c (qk _ (qk _ hc))) (up (λc hc=>hk c ((qz.mp hc).elim (λz=>qk _ (qj _ z)) λz=>qj _ z)) r)
def Ex(h:Z[n]?=some (some v)):Z.set n (some v)=Z:=by
 apply ext_getElem?;intro j;by_cases hj:n=j
 .subst hj;rw[getElem?_set_self (qh.mp h).1,h]
 .rw[getElem?_set_ne hj]
def Rel.setItem{D:Addr}(r:Rel K (U++[some s]) (Z++[some v]) F G H)(hs:slot U n=some (.lst l))(hZ:Z[n]?=some (some (.ref D)))(hm:m<l.length):
  ∃xs,H D=some (.lst xs)/\xs.length=l.length/\Rel K (U.set n (some (.lst (l.set m s)))) Z F G (upd H D (.lst (xs.set m v))):=by
 have hl:=aS r;obtain⟨fp,e,nd,ap⟩:=r.en;obtain⟨f1,f2,rfl,a,b⟩:=e.cut hl;obtain⟨v',fa,fi,fb,e1,rfl,q,up⟩:=a.at hs;rw[hZ]at e1;have e2:V.ref D=v':=by simpa using e1
 subst e2;cases q with
 |lst hD rl=>
  rename_i xs fl;cases b with
  |so sr nl=>
   cases nl;rename_i fs;obtain⟨ga,gi,gb,rfl,sup⟩:=rl.set hm;refine⟨xs,hD,rl.len,?_⟩;obtain⟨n1,n2,n12⟩:=qy.mp nd;obtain⟨na,nib,nab⟩:=qy.mp n1;obtain⟨ni,nb,nib⟩:=qy.mp nib;obtain⟨nD,nfl⟩:=qM.mp ni;have hDa:D∉fa:=λz=>nab D z D (qk _ qo) rfl;have hDb:D∉fb:=λz=>nib D qo D z rfl;have hDs:D∉fs:=λz=>n12 D (qj _ (qk _ qo)) D (by simpa using z) rfl;have apD:=ap D (qk _ (qj _ (qk _ qo)));have ne:∀{l:List Addr},D∉l->∀x∈l,upd H D (.lst (xs.set m v)) x=H x:=λh x hx=>bJ λz=>h (z▸hx);have hDg:D∉ga++gb:=λz=>nD ((qz.mp z).elim (λw=>qk _ w) λw=>qj _ (qj _ w));have new:aM K F (upd H D (.lst (xs.set m v))) (.ref D) (.lst (l.set m s)) (D::(ga++(fs++gb))):=.lst gC (sup (ne hDg) (sr.mono (zH.refl F) (ne hDs)));have a2:=up (F':=F) (H':=upd H D (.lst (xs.set m v))) (o:=some (.lst (l.set m s))) (u:=some (.ref D)) (zH.refl F) (λx hx=>bJ λz=>(qz.mp hx).elim (λw=>hDa (z▸w)) λw=>hDb (z▸w)) (.so new .nil);rw[Ex hZ]at a2;have sub:∃l2,l2.Perm (fa++((D::(ga++(gi++gb)))++fb)++(fs++[]))/\List.Sublist (fa++((D::(ga++(fs++gb)))++[]++fb)) l2:=by
    refine⟨fa++((D::(ga++(fs++(gi++gb))))++[]++fb),?_,?_⟩
    .simp only[qB,qq,qP];refine List.Perm.append_left _ (List.Perm.cons _ (List.Perm.append_left _ ?_));exact qO.trans (by simp)
    first|rfl|assumption|(simp_all;done)
   obtain⟨l2,p,sb⟩:=sub;refine⟨zH.updR r.fr apD.1,λx o w=>?_,_,a2,sb.nodup (p.nodup_iff.mpr nd),λx hx=>ap x (p.mem_iff.mp (sb.subset hx))⟩;have hx:x≠D:=λz=>by rw[z,apD.2]at w;cases w
   rw[bJ hx];exact r.gr x o w
end
def NR(ho:FE X o (zx j))(hi:FE X i wi)(he:FE X e we)(hs:swapsWithSole [.Subscript o i tpos] e pos.line X.env=pure false:=by rfl)(hw:swappedStores [.Subscript o i tpos] e X.env=pure none:=by rfl)
  (h1:(assignEach [.Subscript o i tpos] X.env).map (·.2)=[assign (.Subscript o i tpos) X.env]:=by rfl)
  (ha:∀v,assign (.Subscript o i tpos) X.env v=(do
   let ov<-holding [v] (eval o X.env)
   let iv<-holding [v,ov] (eval i X.env)
   standAt tpos
   holding [v,ov,iv] (setItem ov iv v)
   release [v,ov,iv] []):=by intro _;rfl):FS X ks (.Assign [.Subscript o i tpos] e pos) (iA j wi we):=λpn xe hp=>by
 refine PS.imp (LW (X:=wp X pn xe) (he pn xe hp) (Qk (X:=wp X pn xe) (ho pn xe hp) (hi pn xe hp) UX ha) hs hw h1) λD Z H q=>?_;obtain⟨F,G,U,E,zW,hw,n,b,c,r,x⟩:=q;have x0:XC (wp X pn xe) (·=Z) F G E.ex:=x.mono (λZ2 z=>by rw[z];exact KP.refl) (zH.refl F) (zH.refl G);refine⟨F,G,U,_,_,zW,hw,λr U1 v F1 H1 hk s1 r1 rv=>?_,x0⟩;have l1:=aS r1;obtain⟨G1,rel1,gg,back⟩:=r1.hide l1;refine⟨F1,G1,U1,_,_,rel1,hk,λy U2 o' F2 H2 hk2 s2 r2 rv2=>?_,x0.mono (λ_ z=>z) s1 gg⟩;have l2:=aS r2;obtain⟨G2,rel2,gg2,back2⟩:=r2.hide l2;refine⟨F2,G2,U2,_,_,rel2,hk2,λz U3 i' F3 H3 hk3 s3 r3 rv3=>?_,x0.mono (λ_ z=>z) (s1.trans s2) (gg.trans gg2)⟩;have l3:=aS r3;obtain⟨q,eq,hk3⟩:=bL hk3;obtain⟨⟨t,U4⟩,eg,hk4⟩:=bL hk3
 --all three stand at the end
 have r4:=back (s2.trans s3) (back2 s3 r3);simp only[qq,qP,nil_append]at r4;have ri:=dJ (U':=[zI y,zI r]) (Z':=[some o',some v]) r4 l3 rv3 eq;have r5:Rel X.K (U3++[zI r]) (Z++[some v]) F3 G H3:=Rel.mid (U:=U3) (Z:=Z) (Rel.mid (U:=U3) (Z:=Z) r4 l3) l3;obtain⟨F4,s4,l4,r6⟩:=dF (U':=[]) (Z':=[]) r5 l3 rv eg;cases y with
 |v y0=>exact hk4.elim
 |loc k=>
  cases q with
  |int m=>
   cases qs:slot U4 j with
   |none=>simp only[qs]at hk4
   |some sj=>
    cases sj with
    |lst l=>
     simp only[qs]at hk4;obtain⟨rfl,hk4⟩:=hk4;obtain⟨w,ew,hnx⟩:=bL hk4;have hZ:Z[k]?=some (some o'):=rv2;obtain⟨v',fp,e1,sr⟩:=r6.at (i:=k) (s:=.lst l) (by rw[Ew (Dz qs)];exact qs);have hkl:k<Z.length:=(qh.mp hZ).1;rw[getElem?_append_left hkl,hZ]at e1;have e2:o'=v':=by simpa using e1
     subst e2;have hw:w<l.length:=by
      unfold ixN at ew;split at ew
      .split at ew
       .have e:=qg ew;lia
       .cases ew
      .split at ew
       .have e:=qg ew;lia
       .cases ew
     cases sr with
     |lst hD rl=>rename_i a xs fl;obtain⟨xs',hD',zX,r7⟩:=Rel.setItem r6 qs hZ hw;rw[hD]at hD';cases hD';cases ri;exact⟨a,xs,m,w,rfl,rfl,hD,by rw[zX];exact ew,n _ Z F4 _ hnx KP.refl (s1.trans (s2.trans (s3.trans s4))) r7⟩
    |_=>simp only[qs]at hk4
  |_=>exact hk4.elim
def Aw(ho:FE X o (zx j))(he:FE X e we)
  (hbase:attributeBase o "append" X.env (eval o X.env)=eval o X.env:=by rfl)
  (hfew:((backTo cpos (starEach [e] X.env)).all (λx=>!x.1)&&(backToKw cpos (keywordEach [] X.env)).all (λx=>x.1.isSome)
   &&decide ([e].length+([]:List Keyword).length+(if([]:List Keyword).isEmpty then 0 else 1)<30))=true:=by rfl)
  (hline:(apos.endLine==cpos.line)=true:=by rfl)(hs:starEach [e] X.env=[(false,eval e X.env)]:=by rfl):FE X (.Call (.Attribute o "append" apos) [e] [] cpos) (bU j we):=λpn xe hp=>by
 refine PE.imp (DT (X:=wp X pn xe) PySem.F.plainAttrs_list PySem.F.slot_list_append PySem.F.type_list_append IK (ho pn xe hp) (aB he aI hs pn xe hp) hbase hfew hline hs rfl) λZ H Q q=>?_;obtain⟨F,G,U,P,PX,zW,hw,hok,hx⟩:=q;have hw':(match slot U j with
  |some (.lst _)=>we U (λr U2=>zG (give r U2) λp=>(match slot p.2 j with
   |some (.lst l)=>l.length<big/\P (.v (.sh .non)) (p.2.set j (some (.lst (l++[p.1]))))
   |_=>False)) PX
  |_=>False):=hw
 cases qs:slot U j with
 |none=>rw[qs]at hw';exact hw'.elim
 |some s0=>
  cases s0 with
  |lst l0=>
   rw[qs]at hw';refine⟨F,G,U,λy U1=>y=.loc j/\U1=U,PX,zW,by unfold zx;rw[qs];exact⟨rfl,rfl⟩,λy U1 o' F1 H1 hk s1 r1 rv=>?_,hx⟩;obtain⟨rfl,rfl⟩:=hk;have l1:=aS r1;have hZ:Z[j]?=some (some o'):=rv;have r2:=r1.drop l1;obtain⟨v',fp,e1,sr⟩:=r2.at qs;rw[hZ]at e1;have e2:o'=v':=by simpa using e1
   subst e2;cases sr with
   |lst hD rl=>
    rename_i a xs fl;refine⟨.inl ⟨rfl,_,bR.of hD⟩,F1,G,U1,λrs U2=>match rs with|[r]=>(zG (give r U2) λp=>match slot p.2 j with|some (.lst l)=>l.length<big/\P (.v (.sh .non)) (p.2.set j (some (.lst (l++[p.1]))))|_=>False)|_=>False,PX,r2,hw',λrs U2 vs F2 H2 hk s2 r3 hl rvs=>?_,hx.grow s1⟩;match rs,vs,rvs,r3,hk with
    |[r],[v],rvs,r3,hk=>
     dsimp only at hk;obtain⟨⟨t,U3⟩,eg,hk⟩:=bL hk;obtain⟨F3,s3,l3,r4⟩:=dF (U':=[]) (Z':=[]) r3 hl rvs.1 eg;dsimp only at hk;split at hk
     .rename_i l ql;obtain⟨ys,hD2,zX,r5⟩:=Rel.append r4 ql hZ;exact⟨a,ys,v,rfl,rfl,hD2,by rw[zX,zp];exact lt_trans hk.1 (by decide),hok _ _ .non F3 _ hk.2 (s1.trans (s2.trans s3)) (r5.push .non) trivial⟩
     .exact hk.elim
    |[],_,_,_,hk=>exact hk.elim
    |[_],[],rvs,_,_=>exact rvs.elim
    |[_],_::_::_,rvs,_,_=>exact rvs.2.elim
    |_::_::_,_,_,_,hk=>exact hk.elim
  |_=>rw[qs]at hw';exact hw'.elim
section
variable{K:W.Frag}
def kD(K:W.Frag)(F H:Hp):List V->List D->Prop
 |[],[]=>True
 |v::vs,d::ds=>bG K F H v d/\kD K F H vs ds
 |_,_=>False
def kX{b:List D->Option S}(h2:∀x y r,b (x::y::r)=none)(h0:b []=none)(re:kD K F H vs ds)(e:b ds=some s):∃d v,ds=[d]/\vs=[v]:=by
 cases ds with
 |nil=>rw[h0]at e;cases e
 |cons x ds=>
  cases ds with
  |cons y r=>rw[h2]at e;cases e
  |nil=>
   cases vs with
   |nil=>exact re.elim
   |cons v vs=>
    cases vs with
    |nil=>exact⟨x,v,rfl,rfl⟩
    |cons u vs=>exact re.2.elim
def FU{b:List D->Option S}(h1:∀x,b [x]=none)(h3:∀x y z r,b (x::y::z::r)=none)(h0:b []=none)(re:kD K F H vs ds)(e:b ds=some s):∃d d2 v u,ds=[d,d2]/\vs=[v,u]:=by
 cases ds with
 |nil=>rw[h0]at e;cases e
 |cons x ds=>
  cases ds with
  |nil=>rw[h1]at e;cases e
  |cons y ds=>
   cases ds with
   |cons z r=>rw[h3]at e;cases e
   |nil=>
    cases vs with
    |nil=>exact re.elim
    |cons v vs=>
     cases vs with
     |nil=>exact re.2.elim
     |cons u vs=>
      cases vs with
      |nil=>exact⟨x,y,v,u,rfl,rfl⟩
      |cons u vs=>exact re.2.2.elim
def kL:∀{rs:List R}{vs:List V}{ds:List D}{U U':Env}{F:Hp}{Z':St},Rel K (U++(rs.map zI++U')) (Z++(vs.map some++Z')) F G H->U.length=Z.length->vZ Z vs rs->(rs.mapM λr=>zQ r U)=some ds->
  ∃F',zH F F'/\kD K F' H vs ds/\Rel K (U++U') (Z++Z') F' G H
 |[],[],ds,U,U',F,Z',r,h,_,e=>by
  have e':ds=[]:=by simpa using e.symm
  subst e';exact⟨F,zH.refl F,trivial,r⟩
 |[],_::_,_,_,_,_,_,_,_,h,_=>h.elim
 |_::_,[],_,_,_,_,_,_,_,h,_=>h.elim
 |x::rs,v::vs,ds,U,U',F,Z',r,h,rv,e=>by
  rw[List.mapM_cons]at e;cases q:zQ x U with
  |none=>rw[q]at e;cases e
  |some d=>
   rw[q]at e;cases q2:(rs.mapM λr=>zQ r U)with
   |none=>rw[q2]at e;cases e
   |some es=>rw[q2]at e;have e':d::es=ds:=qg e;subst e';obtain⟨F1,s1,re,r1⟩:=fQ (U':=rs.map zI++U') (Z':=vs.map some++Z') r h rv.1 q;obtain⟨F2,s2,res,r2⟩:=kL (rs:=rs) (vs:=vs) r1 h rv.2 q2;exact⟨F2,s1.trans s2,⟨re.mono s2,res⟩,r2⟩
def dH(K:W.Frag)(r:List V->Hp->VK->Prop)(f:List D->Option S):Prop:=∀(Z:St)(U:Env)(F G H:Hp)(vs:List V)(ds:List D)(s:S)(Q:VK),Rel K U Z F G H->kD K F H vs ds->f ds=some s->
 (∀v F' H',zH F F'->Rel K (U++[some s]) (Z++[some v]) F' G H'->Q v H')->r vs H Q
end
section
variable{id T:String}
def MR(hd:dH X.K r f)(Z:St)(H:Hp)(Q:VK)(q:tW (wp X pn xe) (wB f wa) Z H Q):EJ r (xG (wp X pn xe) wa) Z H Q:=by refine(many (k:=λrs U1 Q E=>zG (rs.mapM λr=>zQ r U1) λds=>zG (f ds) λs=>Q (.v s) U1) q).mono λvs H1 h1=>?_;obtain⟨F,G,U,rs,P,PX,zW,hl,rv,hk,hok,hx⟩:=h1;obtain⟨ds,ed,hk⟩:=bL hk;obtain⟨s,es,hk⟩:=bL hk;obtain⟨F1,s1,re,r1⟩:=kL (U':=[]) (Z':=[]) (by simpa using zW) hl rv ed;exact hd Z U F1 G H1 vs ds s Q (by simpa using r1) re es λv F' H' sm r'=>hok _ U v F' H' hk (s1.trans sm) r' trivial
def GG(hc:∀pn xe,aX (wp X pn xe) (.builtin id) r)(hd:dH X.K r f)(hg:Gl X x)(hm:X.mg x=none)(hv:bootBuiltins x=some (.builtin id))(ha:FA X (e::es) wa)(hn:x≠"__name__":=by decide)(hdb:(x==("__debug__":Str))=false:=by decide)
  (he:starEach (e::es) X.env=(false,eval e X.env)::starEach es X.env:=by rfl)(hpl:(backTo pos (starEach es X.env)).any (·.1)=false:=by rfl):FE X (.Call (.Name x p) (e::es) [] pos) (wB f wa):=λpn xe hp=>
 PE.imp (Iz (X:=wp X pn xe) (hc pn xe) hg hm hv (ha pn xe hp) hn hdb he hpl) (MR hd)
def DE(hc:∀pn xe,aX (wp X pn xe) (.type T) r)(hd:dH X.K r f)(hg:Gl X x)(hm:X.mg x=none)(hv:bootBuiltins x=some (.type T))(ha:FA X (e::es) wa)(hn:x≠"__name__":=by decide)(hdb:(x==("__debug__":Str))=false:=by decide)
  (he:starEach (e::es) X.env=(false,eval e X.env)::starEach es X.env:=by rfl)(hpl:(backTo pos (starEach es X.env)).any (·.1)=false:=by rfl):FE X (.Call (.Name x p) (e::es) [] pos) (wB f wa):=λpn xe hp=>
 PE.imp (UO (X:=wp X pn xe) (hc pn xe) hg hm hv (ha pn xe hp) hn hdb he hpl) (MR hd)
def EU(K:W.Frag):List V->Hp->VK->Prop:=λxs H Q=>(∃p ys,xs=[.ref p]/\(bR K H p ys\/bP K H p ys)/\Q (.int ys.length) H)\/∃z,xs=[.str z]/\z.length<=sizeLine/\Q (.int z.length) H
def aX.or'{f:Value}(h:aX X f r)(h':aX X f r'):aX X f (λx H Q=>r x H Q\/r' x H Q):=λzU s Z H xs us Q I rr q=>q.elim (h zU s Z H xs us Q I rr) (h' zU s Z H xs us Q I rr)
def UM:aX X (.builtin "len") (EU X.K):=aX.or' Xd Xb
def Vj{K:W.Frag}:dH K (EU K) eA:=by
 intro Z U F G H vs ds s Q zW re e hq;obtain⟨d,v,rfl,rfl⟩:=kX (λx y r=>by cases x<;>rfl) rfl re e;cases d with
 |str l=>cases e;obtain⟨x,rfl,e1,z⟩:=re.1.str;exact .inr ⟨x,rfl,by rw[Dy e1,zp];exact z,by rw[Dy e1];exact hq _ F H (zH.refl F) (zW.push (.int _))⟩
 |tup l=>cases e;obtain⟨a,xs,rfl,h1,r1⟩:=re.1.tup;exact .inl ⟨a,xs,rfl,.inr (bP.of (zW.fr _ _ h1)),by rw[r1.len];exact hq _ F H (zH.refl F) (zW.push (.int _))⟩
 |lst l=>cases e;obtain⟨a,xs,rfl,h1,r1⟩:=re.1.lst zW.fr;exact .inl ⟨a,xs,rfl,.inl h1,by rw[r1.len];exact hq _ F H (zH.refl F) (zW.push (.int _))⟩
 |_=>cases e
def nU(hg:Gl X "len")(hm:X.mg "len"=none)(ha:FA X (e::es) wa)(he:starEach (e::es) X.env=(false,eval e X.env)::starEach es X.env:=by rfl)(hpl:(backTo pos (starEach es X.env)).any (·.1)=false:=by rfl):FE X (.Call (.Name "len" p) (e::es) [] pos) (wB eA wa):=
 GG (λ_ _=>UM) Vj hg hm PySem.boot_len ha (by decide) (by decide) he hpl
end
section
variable{K:W.Frag}
def JX:List V->Hp->VK->Prop:=λxs H Q=>(∃i,xs=[.int i]/\Q (.int i) H)\/∃k,xs=[.bl k]/\Q (.int (if k then 1 else 0)) H
def bG.bl(h:bG K F H v (.bl b)):v=.bl b:=by
 rcases h with h|⟨_,_,_,_,h,_⟩|⟨_,_,_,_,_,h,_⟩|⟨_,_,_,_,_,h,_⟩
 .cases h;rfl
 .cases h
 .cases h
 .cases h
def Vv:dH K JX vJ:=by
 intro Z U F G H vs ds s Q zW re e hq;obtain⟨d,v,rfl,rfl⟩:=kX (λx y r=>by cases x<;>rfl) rfl re e;cases d with
 |int i=>cases e;have:=re.1.int;subst this;exact .inl ⟨i,rfl,hq _ F H (zH.refl F) (zW.push (.int _))⟩
 |bl b=>cases e;have:=re.1.bl;subst this;exact .inr ⟨b,rfl,hq _ F H (zH.refl F) (zW.push (.int _))⟩
 |_=>cases e
def MD(hg:Gl X "int")(hm:X.mg "int"=none)(hv:bootBuiltins "int"=some (.type "int"))(ha:FA X (e::es) wa)(he:starEach (e::es) X.env=(false,eval e X.env)::starEach es X.env:=by rfl)(hpl:(backTo pos (starEach es X.env)).any (·.1)=false:=by rfl):FE X (.Call (.Name "int" p) (e::es) [] pos) (wB vJ wa):=
 DE (λ_ _=>VI) Vv hg hm hv ha (by decide) (by decide) he hpl
def BU(K:W.Frag):List V->Hp->VK->Prop:=λxs H Q=>∃p ys,xs=[.ref p]/\((bR K H p ys/\∀l,H l=none->Q (.ref l) (upd H l (.tup ys)))\/(bP K H p ys/\Q (.ref p) H))
def Wk:dH K (BU K) cC:=by
 intro Z U F G H vs ds s Q zW re e hq;obtain⟨d,v,rfl,rfl⟩:=kX (λx y r=>by cases x<;>rfl) rfl re e;cases d with
 |tup l=>cases e;obtain⟨a,xs,rfl,h1,r1⟩:=re.1.tup;exact⟨a,xs,rfl,.inr ⟨bP.of (zW.fr _ _ h1),hq _ F H (zH.refl F) (zW.push (.tup h1 r1))⟩⟩
 |lst l=>cases e;obtain⟨a,xs,rfl,h1,r1⟩:=re.1.lst zW.fr;refine⟨a,xs,rfl,.inl ⟨h1,λp hp=>?_⟩⟩;have n2:=(zW.free hp).1;exact hq _ _ _ (zH.upd n2) ((zW.newF hp).push (.tup gC (r1.mono (zH.upd n2))))
 |_=>cases e
def vU(hg:Gl X "tuple")(hm:X.mg "tuple"=none)(hv:bootBuiltins "tuple"=some (.type "tuple"))(ha:FA X (e::es) wa)(he:starEach (e::es) X.env=(false,eval e X.env)::starEach es X.env:=by rfl)(hpl:(backTo pos (starEach es X.env)).any (·.1)=false:=by rfl):FE X (.Call (.Name "tuple" p) (e::es) [] pos) (wB cC wa):=
 DE (λ_ _=>WY) Wk hg hm hv ha (by decide) (by decide) he hpl
def AG(K:W.Frag):List V->Hp->VK->Prop:=λxs H Q=>∃p ys,xs=[.ref p]/\(bR K H p ys\/bP K H p ys)/\∀l,H l=none->Q (.ref l) (upd H l (.lst ys))
def NH:dH K (AG K) FQ:=by
 intro Z U F G H vs ds s Q zW re e hq;obtain⟨d,v,rfl,rfl⟩:=kX (λx y r=>by cases x<;>rfl) rfl re e;cases d with
 |tup l=>cases e;obtain⟨a,xs,rfl,h1,r1⟩:=re.1.tup;exact⟨a,xs,rfl,.inr (bP.of (zW.fr _ _ h1)),λp hp=>hq _ F _ (zH.refl F) (zW.newLD hp r1)⟩
 |lst l=>cases e;obtain⟨a,xs,rfl,h1,r1⟩:=re.1.lst zW.fr;exact⟨a,xs,rfl,.inl h1,λp hp=>hq _ F _ (zH.refl F) (zW.newLD hp r1)⟩
 |_=>cases e
end
def wI(h:aL a=aL b):a=b:=by
 cases a with
 |inl i=>cases b with
  |inl j=>have h':D.int i=D.int j:=h;cases h';rfl
  |inr y=>have h':D.int i=D.str y.cps.toList:=h;cases h'
 |inr x=>cases b with
  |inl j=>have h':D.str x.cps.toList=D.int j:=h;cases h'
  |inr y=>have h':D.str x.cps.toList=D.str y.cps.toList:=h;obtain⟨⟨a⟩⟩:=x;first|rfl|assumption|(simp_all;done)
def DC:∀{a b:List aQ},a.map aL=b.map aL->a=b
 |[],[],_=>rfl
 |[],_::_,h=>by simp at h
 |_::_,[],h=>by simp at h
 |x::a,y::b,h=>by
  rw[qA,qA]at h;injection h with h1 h2
  rw[wI h1,DC h2]
section
variable{K:W.Frag}
def Dx(r:aN K H x d)(h:dM d=true):∃k:aQ,x=kV k/\d=aL k:=by
 cases r with
 |int i=>exact⟨.inl i,rfl,rfl⟩
 |str e z=>exact⟨.inr _,rfl,by rw[<-e];rfl⟩
 |_=>cases h
def Ar(r:zS K H xs l):l.all dM=true->∃ks:List aQ,xs=ks.map kV/\l=ks.map aL:=
 zS.ind (P:=λxs l=>l.all dM=true->∃ks:List aQ,xs=ks.map kV/\l=ks.map aL) (λ_=>⟨[],rfl,rfl⟩) (λa _ ih h=>by rw[all_cons,and_eq_true]at h;obtain⟨k,rfl,rfl⟩:=Dx a h.1;obtain⟨ks,rfl,rfl⟩:=ih h.2;exact⟨k::ks,rfl,rfl⟩) r
open Classical in
def IF{κ:Type}[DecidableEq κ](g:κ->D)(hg:∀a b,g a=g b->a=b):∀(zV:List (κ×V))(k:κ),(dW zV k).isSome=decide (g k∈zV.map λp=>g p.1)
 |[],k=>by simp[dW]
 |p::r,k=>by
  by_cases e:p.1=k
  .rw[Dt e];have:g k∈(p::r).map λp=>g p.1:=by rw[qA,e];exact qo
   exact(qS this).symm
  .rw[Ds e,IF g hg r k];have:(g k∈(p::r).map λp=>g p.1)↔(g k∈r.map λp=>g p.1):=by rw[qA,qC];exact⟨λz=>z.elim (λw=>absurd (hg _ _ w).symm e) id,.inr⟩
   exact(decide_eq_decide.2 this).symm
open Classical in
def Ek{κ:Type}[DecidableEq κ](g:κ->D)(hg:∀a b,g a=g b->a=b){α:Type}:∀(zV:List (κ×V))(vs:List α)(k:κ)(P:V->α->Prop),zV.length=vs.length->(∀(i:Nat) x y,(zV.map (·.2))[i]?=some x->vs[i]?=some y->P x y)->
  (lk (zV.map λp=>g p.1) vs (g k)=none/\dW zV k=none)\/∃x y,dW zV k=some x/\lk (zV.map λp=>g p.1) vs (g k)=some y/\P x y
 |[],[],k,P,_,_=>.inl ⟨rfl,rfl⟩
 |[],_::_,_,_,h,_=>by simp at h
 |_::_,[],_,_,h,_=>by simp at h
 |p::r,v::vs,k,P,hl,h=>by
  by_cases e:p.1=k
  .refine .inr ⟨p.2,v,Dt e,?_,h 0 p.2 v rfl rfl⟩;show(if g p.1=g k then some v else lk (r.map λp=>g p.1) vs (g k))=some v;rw[q8 (by rw[e])]
  .have hne:¬g p.1=g k:=λz=>e (hg _ _ z);rw[Ds e];have e2:lk ((p::r).map λp=>g p.1) (v::vs) (g k)=lk (r.map λp=>g p.1) vs (g k):=by show(if g p.1=g k then some v else lk (r.map λp=>g p.1) vs (g k))=_;rw[q9 hne]
   rw[e2];exact Ek g hg r vs k P (by simpa using hl) λi x y h1 h2=>h (i+1) x y (by simpa using h1) (by simpa using h2)
def Sh(r1:aN K H x d)(r2:aN K H (.ref a) (.dct t ks vs))(hk:aH t d=true):∃o,jH H a x o/\o.isSome=(open Classical in decide (d∈ks))/\
  ((lk ks vs d=none/\o=none)\/∃v e,o=some v/\lk ks vs d=some e/\aN K H v e):=by
 cases r2 with
 |dK e k r=>
  rename_i zV;obtain⟨key,rfl,rfl⟩:=Dx r1 hk;refine⟨_,.inl ⟨zV,key,e,rfl,rfl⟩,?_,?_⟩
  .rw[k];exact IF aL (λ_ _=>wI) zV key
  .rw[k];rcases Ek aL (λ_ _=>wI) zV vs key (λv e=>aN K H v e) (by have:=r.len;simpa using this) (λi x y h1 h2=>by obtain⟨x',hx',rx⟩:=r.get h2;rw[h1]at hx';cases hx';exact rx)with⟨h1,h2⟩|⟨v,e,h1,h2,h3⟩
   .exact .inl ⟨h1,h2⟩
   .exact .inr ⟨v,e,h1,h2,h3⟩
 |dT e k r=>
  rename_i zV;cases r1 with
  |tup e1 q=>
   obtain⟨keys,rfl,rfl⟩:=Ar q hk;have inj:∀a b:List aQ,D.tup (a.map aL)=D.tup (b.map aL)->a=b:=λa b z=>DC (D.tup.inj z);refine⟨_,.inr ⟨zV,keys,_,e,rfl,e1,rfl⟩,?_,?_⟩
   .rw[k];exact IF (λl=>D.tup (l.map aL)) inj zV keys
   .rw[k];rcases Ek (λl=>D.tup (l.map aL)) inj zV vs keys (λv e=>aN K H v e) (by have:=r.len;simpa using this) (λi x y h1 h2=>by obtain⟨x',hx',rx⟩:=r.get h2;rw[h1]at hx';cases hx';exact rx)with⟨h1,h2⟩|⟨v,e,h1,h2,h3⟩
    .exact .inl ⟨h1,h2⟩
    .exact .inr ⟨v,e,h1,h2,h3⟩
  |_=>cases hk
def oP(neg:Bool):R2:=λx y H Q=>∃a o,y=.ref a/\jH H a x o/\Q (.bl (if neg then !o.isSome else o.isSome)) H
def WD(hu:X.A.units+1<cLine):OpR X (compareOp .NotIn) (oP true):=by intro zU s Z H x y v u Q I rx ry h;obtain⟨a,o,rfl,g,q⟩:=h;cases ry;exact Sg hu I g rx λs' I'=>⟨.bl _,H,I',rfl,q⟩
def mX(K:W.Frag)(neg:Bool):R2:=λx y H Q=>EZ K neg x y H Q\/oP neg x y H Q
def Wy(hu:X.A.units+32<cLine):OpR X (compareOp .NotIn) (mX X.K true):=FL.OpR.or (UQ hu) (WD (by lia))
open Classical in
def Sq(r1:aN K H x p)(r2:aN K H y q)(e:DK p q=some k)(hq:Q (.bl (if neg then !k else k)) H):mX K neg x y H Q:=by
 unfold DK at e;split at e
 .rename_i l;split at e
  .cases e
  .rename_i h;have e':=qg e;subst e';refine .inl ⟨p,l,r1,.inl r2,λd hd=>?_,hq⟩;grind
 .rename_i l;split at e
  .cases e
  .rename_i h;have e':=qg e;subst e';refine .inl ⟨p,l,r1,.inr r2,λd hd=>?_,hq⟩;grind
 .rename_i t ks vs;split at e
  .rename_i h;have e':=qg e;cases y with
   |ref a=>obtain⟨o,g,ho,_⟩:=Sh r1 r2 h;refine .inr ⟨a,o,rfl,g,?_⟩;rw[ho,e'];exact hq
   |_=>cases r2
  .cases e
 .cases e
end
open PySem.Builtin.Str (strSliceIndices)
def Et(n d:Nat)(o:Option Int):HT.sIx n d o=FL.sIx n d o:=by cases o<;>rfl
def Mi(n d:Nat)(hd:d<=n)(o:Option Int):FL.sIx n d o<=n:=by rw[<-Et];exact HT.sIx_le n d hd o
def De(z:Str)(lo hi:Option Int):Str:=⟨(bV z.cps.toList lo hi).toArray⟩
def Wt(lo hi:Option Int)(n:Nat):strSliceIndices lo hi 1 n=(List.range (FL.sIx n n hi-FL.sIx n 0 lo)).map (FL.sIx n 0 lo+·):=by rw[<-sliceRange_one];unfold strSliceIndices;cases lo<;>cases hi<;>simp only[show(1:Int)>0 by decide,if_true,FL.sIx,AV]<;>rfl
def UR(x:Str)(lo hi:Option Int):Txt.slice x lo hi=De x lo hi:=by
 have zX:x.length=x.cps.toList.length:=by show x.cps.size=_;rw[qW]
 unfold Txt.slice De bV;rw[Wt,pick_run,<-zX];split
 .rename_i h;simp only[beq_self_eq_true,Bool.true_and,qp,qE,beq_iff_eq]at h;have h1:=Mi x.length x.length (zc _) hi;have h2:FL.sIx x.length 0 lo=0\/x.length=0:=by lia
  have h3:FL.sIx x.length 0 lo=0:=h2.elim id λz=>by have:=Mi x.length 0 (zero_le _) lo;lia
  rw[h,h3,drop_zero,take_of_length_le (by rw[zX];exact zc _)]
 .rfl
def ER:V->Option Int->Option Int->Hp->VK->Prop:=λx lo hi H Q=>∃z,x=.str z/\z.length<=sizeLine/\Q (.str (De z lo hi)) H
def MG(p:IsPart v o):∃l:Option (Int×Tok),v=partValue l/\o=l.map (·.1):=by
 cases p with
 |none=>exact⟨none,rfl,rfl⟩
 |int i t=>exact⟨some (i,t),rfl,rfl⟩
def Ru:rV X ER:=by
 intro zU s Z H x v vl vu lo hi sl Q I rx hs pl pu h;obtain⟨z,rfl,hz,q⟩:=h;obtain⟨t,rfl⟩:=rx;obtain⟨l,rfl,rfl⟩:=MG pl;obtain⟨u,rfl,rfl⟩:=MG pu;rw[<-UR]at q;exact⟨"str",_,F.slot_str_getitem.lookup,typeIs_str _ _ _,wpAny_getItem_str_slice (l:=l) (u:=u) (st:=none) hs rfl
  (post_val_or_str ⟨le_trans (Txt.slice_le z _ _) hz,λt' k=>⟨.str (Txt.slice z (l.map (·.1)) (u.map (·.1))),H,I.tok _,⟨_,rfl⟩,q⟩⟩)⟩
def EN(K:W.Frag):V->Option Int->Option Int->Hp->VK->Prop:=λx lo hi H Q=>∃a xs,x=.ref a/\bP K H a xs/\
 (HT.sIx xs.length 0 lo=0/\HT.sIx xs.length xs.length hi=xs.length)/\Q (.ref a) H
def Xj{items:Array Value}{lo hi:Option Int}(ht:IsTup s.heap t items)(hs:s.heap.IsSliceOf sl vl vu .none)(pl:IsPart vl lo)(pu:IsPart vu hi)
  (hw:HT.sIx items.size 0 lo=0/\HT.sIx items.size items.size hi=items.size)(h:Q (.ref t) s):wpAny (model prog w) A (getItem (.ref t) (.ref sl)) Q E s:=by
 obtain⟨os,hos,hcs,hds⟩:=id hs;have hTs:s.TypeIs (.ref sl) "slice":=⟨os,hos,hcs⟩
 unfold getItem;try with_reducible refine zt ?_
 first|refine qa (qb ?_)|skip
 refine qa (wpAny_sequenceKey ht.typeIs (by decide) ?_);refine qa (wpAny_callSpecial?_slot (name:=Str.ofString "__getitem__") ht.typeIs PyProof.Rows.slot_tuple_getitem
  (zo PyProof.Rows.slot_tuple_getitem ht.typeIs entry_tuple_getitem ?_ (args_tuple_getitem _ _)))
 show wpAny _ _ (Builtin.Tuple.tupleItemsOf (.ref t)>>=_) _ _ s;refine qa (tupleItemsOf_ ht ?_);refine qa (wpAny_typeOf hTs ?_);rw[q8 (by decide)];refine qa (HT.sliceApplied_gen hs pl pu ?_);have hyes:(((HT.sIx items.size 0 lo:Nat):Int)==0&&(1:Int)==1&&(HT.sIx items.size items.size hi-HT.sIx items.size 0 lo)==items.size)=true:=by rw[hw.1,hw.2];simp
 show wpAny _ _ (if(((HT.sIx items.size 0 lo:Nat):Int)==0&&(1:Int)==1&&(HT.sIx items.size items.size hi-HT.sIx items.size 0 lo)==items.size)=true then _ else _) _ _ s;rw[q8 hyes];unfold Builtin.Tuple.tupleIsExact;refine qa (qa (wpAny_typeOf ht.typeIs (qb ?_)));rw[q8 (by decide)];first
  |exact qa (wpAny_rule (qb ⟨_,rfl,qb h⟩))
  |exact qa (qb (qb ⟨_,rfl,qb h⟩))
  |exact qb ⟨_,rfl,qb h⟩
def UZ:rV X (EN X.K):=by
 intro zU s Z H x v vl vu lo hi sl Q I rx hs pl pu h;obtain⟨a,xs,rfl,hx,hw,q⟩:=h;cases rx;obtain⟨zY,r,ht,hz⟩:=I.tuple hx;have zX:zY.toArray.size=xs.length:=by rw[qt];exact r.length.symm
 refine⟨"tuple",_,PyProof.Rows.slot_tuple_getitem.lookup,ht.typeIs,?_⟩;exact Xj ht hs pl pu (by rw[zX];exact hw) ⟨.ref a,H,I,rfl,q⟩
section
variable{K:W.Frag}
def zS.drop:∀{xs:List V}{l:List D}(n:Nat),zS K F xs l->zS K F (xs.drop n) (l.drop n)
 |_,_,0,r=>by rw[drop_zero,drop_zero];exact r
 |_,_,n+1,.nil=>by rw[List.drop_nil,List.drop_nil];exact .nil
 |_,_,n+1,.cons a b=>by rw[List.drop_succ_cons,List.drop_succ_cons];exact zS.drop n b
def zS.take:∀{xs:List V}{l:List D}(n:Nat),zS K F xs l->zS K F (xs.take n) (l.take n)
 |_,_,0,r=>by rw[take_zero,take_zero];exact .nil
 |_,_,n+1,.nil=>by rw[take_nil,take_nil];exact .nil
 |_,_,n+1,.cons a b=>by rw[List.take_succ_cons,List.take_succ_cons];exact .cons a (zS.take n b)
def zS.cut{lo hi:Option Int}(r:zS K F xs l):zS K F (mB xs lo hi) (bV l lo hi):=by unfold mB bV;rw[Et,Et,r.len];exact(r.drop _).take _
def JV(K:W.Frag):V->Option Int->Option Int->Hp->VK->Prop:=λx lo hi H Q=>ES K x lo hi H Q\/EO K x lo hi H Q\/EN K x lo hi H Q\/ER x lo hi H Q
def HJ:rV X (JV X.K):=rV.or RF (rV.or Qh (rV.or UZ Ru))
def Ta{lo hi:Option Int}(zW:Rel K U Z F G H)(re:bG K F H v d)(e:oN d lo hi=some s)
  (hq:∀v F' H',zH F F'->Rel K (U++[some s]) (Z++[some v]) F' G H'->Q v H'):JV K v lo hi H Q:=by
 cases d with
 |str l=>
  cases e;obtain⟨x,rfl,h1,h2⟩:=re.str;subst h1;refine .inr (.inr (.inr ⟨x,rfl,?_,hq _ F H (zH.refl F) (zW.push (.str rfl ?_))⟩))
  .have:x.length=x.cps.toList.length:=by show x.cps.size=_;rw[qW]
   rw[this];exact h2
  .refine le_trans ?_ h2;unfold bV;rw[qI,qH];lia
 |tup l=>
  cases e;obtain⟨a,xs,rfl,h1,r1⟩:=re.tup;by_cases hw:HT.sIx xs.length 0 lo=0/\HT.sIx xs.length xs.length hi=xs.length
  .refine .inr (.inr (.inl ⟨a,xs,rfl,bP.of (zW.fr _ _ h1),hw,hq _ F H (zH.refl F) (zW.push ?_)⟩));have:bV l lo hi=l:=by unfold bV;rw[<-r1.len,<-Et,<-Et,hw.1,hw.2,drop_zero,take_of_length_le (by rw[<-r1.len];lia)]
   rw[this];exact .tup h1 r1
  .refine .inr (.inl ⟨a,xs,rfl,bP.of (zW.fr _ _ h1),hw,λp hp=>?_⟩);have n2:=(zW.free hp).1;exact hq _ _ _ (zH.upd n2) ((zW.newF hp).push (.tup gC (r1.cut.mono (zH.upd n2))))
 |lst l=>cases e;obtain⟨a,xs,rfl,h1,r1⟩:=re.lst zW.fr;exact .inl ⟨a,xs,rfl,h1,λp hp=>hq _ F _ (zH.refl F) (zW.newLD hp r1.cut)⟩
 |_=>cases e
end
def nextOf(r1:Rel X.K (U1++[zI x]) (Z++[some v]) F G H1)(rv1:RV Z v x)(hp1:wb U1 (λy U2=>k x y U2 P PX) PX)
  (hok:∀r U' v F' H',P r U'->zH F F'->Rel X.K (U'++[zI r]) (Z++[some v]) F' G H'->RV Z v r->Q v H')(hx:XC X (·=Z) F G PX):tW X wb Z H1 λu H2=>Ld X Z k Q v u H2:=by
 have h1:=aS r1;obtain⟨G1,rel1,gg,back⟩:=r1.hide h1;refine⟨F,G1,U1,_,PX,rel1,hp1,λy U2 u F2 H2 hp2 s2 r2 rv2=>?_,hx.mono (λ_ z=>z) (zH.refl F) gg⟩;have h2:=aS r2;have r3:=back s2 r2;rw[qq,qq]at r3;exact⟨F2,G,U2,x,y,P,PX,Rel.swap (U1:=[zI y]) (Z1:=[some u]) (U2:=[zI x]) (Z2:=[some v]) h2 rfl r3,h2,rv1,rv2,hp2,λr U' v F' H' a b c d=>hok r U' v F' H' a (s2.trans b) c d,hx.grow s2⟩
def eR{U:Env}{o:Option D}{k:Int->Prop}(h:(match o with|some (.int i)=>k i|_=>False)):∃i,o=some (.int i)/\k i:=by
 split at h
 .exact⟨_,rfl,h⟩
 .exact h.elim
def HE{K:W.Frag}{U:Env}{Z:St}{F G H:Hp}{x y:R}{v u:V}{lo hi:Option Int}{P:WQ}{Q:VK}{q:D}(zW:Rel K (U++[zI x,zI y]) (Z++[some v,some u]) F G H)(hl:U.length=Z.length)(rx:RV Z v x)
  (hk:zG (zQ x U) λd=>zG (oN d lo hi) λs=>P (.v s) U)
  (hok:∀r U' v F' H',P r U'->zH F F'->Rel K (U'++[zI r]) (Z++[some v]) F' G H'->RV Z v r->Q v H'):JV K v lo hi H Q:=by
 obtain⟨d,ed,hk⟩:=bL hk;obtain⟨s,es,hk⟩:=bL hk;have relx:Rel K (U++[zI x]) (Z++[some v]) F G H:=by have:=Rel.swap (U1:=[zI x]) (Z1:=[some v]) (U2:=[zI y]) (Z2:=[some u]) hl rfl zW;exact Rel.mid (U:=U) (Z:=Z) this hl
 obtain⟨F1,s1,re,r1⟩:=fQ (U':=[]) (Z':=[]) relx hl rx ed;exact Ta (U:=U) (Z:=Z) (by simpa using r1) re es λv F' H' sm r'=>hok _ U v F' H' hk (s1.trans sm) r' trivial
def Qr(ha:FE X a wa)(hb:FE X b wb):FE X (.Subscript a (.Slice (some b) none none p2) pos) (Ay wa (some wb) none):=λpn xe hp=>by
 refine PE.imp (Ir (HJ (X:=wp X pn xe)) (ha pn xe hp) (GB (hb pn xe hp)) MA) λZ H Q q=>?_;refine(two (k:=λx y U2 Q E=>match view y U2 with
  |some (.int i)=>zG (zQ x U2) λd=>zG (oN d (some i) none) λs=>Q (.v s) U2
  |_=>False) q).mono λv H1 h1=>h1.mono λu H2 h2=>?_
 obtain⟨F,G,U,x,y,P,PX,zW,hl,rx,ry,hk,hok,hx⟩:=h2;obtain⟨i,ei,hk⟩:=eR (U:=U) (k:=λi=>zG (zQ x U) λd=>zG (oN d (some i) none) λs=>P (.v s) U) hk;have ru:=dJ (U':=[]) (Z':=[]) (zW.mid hl) hl ry ei;cases ru;exact⟨i,rfl,HE (q:=.non) zW hl rx hk hok⟩
def Rf(ha:FE X a wa)(hb:FE X b wb):FE X (.Subscript a (.Slice none (some b) none p2) pos) (Ay wa none (some wb)):=λpn xe hp=>by
 refine PE.imp (Ir (HJ (X:=wp X pn xe)) (ha pn xe hp) MA (GB (hb pn xe hp))) λZ H Q q=>?_;refine(two (k:=λx y U2 Q E=>match view y U2 with
  |some (.int i)=>zG (zQ x U2) λd=>zG (oN d none (some i)) λs=>Q (.v s) U2
  |_=>False) q).mono λv H1 h1=>h1.mono λu H2 h2=>?_
 obtain⟨F,G,U,x,y,P,PX,zW,hl,rx,ry,hk,hok,hx⟩:=h2;obtain⟨i,ei,hk⟩:=eR (U:=U) (k:=λi=>zG (zQ x U) λd=>zG (oN d none (some i)) λs=>P (.v s) U) hk;have ru:=dJ (U':=[]) (Z':=[]) (zW.mid hl) hl ry ei;cases ru;exact⟨i,rfl,HE (q:=.non) zW hl rx hk hok⟩
def LQ(ha:FE X a wa)(hb:FE X b wb)(hc:FE X c wc):FE X (.Subscript a (.Slice (some b) (some c) none p2) pos) (Ay wa (some wb) (some wc)):=λpn xe hp=>by
 refine PE.imp (Ir (HJ (X:=wp X pn xe)) (ha pn xe hp) (GB (hb pn xe hp)) (GB (hc pn xe hp))) λZ H Q q=>?_;refine(two (k:=λx y U2 Q E=>match view y U2 with
  |some (.int i)=>wc U2 (λz U3=>match view z U3 with
   |some (.int j)=>zG (zQ x U3) λd=>zG (oN d (some i) (some j)) λs=>Q (.v s) U3
   |_=>False) E
  |_=>False) q).mono λv H1 h1=>h1.mono λu H2 h2=>?_
 obtain⟨F,G,U,x,y,P,PX,zW,hl,rx,ry,hk,hok,hx⟩:=h2;obtain⟨i,ei,hk⟩:=eR (U:=U) (k:=λi=>wc U (λz U3=>match view z U3 with
   |some (.int j)=>zG (zQ x U3) λd=>zG (oN d (some i) (some j)) λs=>P (.v s) U3
   |_=>False) PX) hk
 have ru:=dJ (U':=[]) (Z':=[]) (zW.mid hl) hl ry ei;cases ru;have relx:Rel X.K (U++[zI x]) (Z++[some v]) F G H2:=by have:=Rel.swap (U1:=[zI x]) (Z1:=[some v]) (U2:=[zI y]) (Z2:=[some (.int i)]) hl rfl zW;exact Rel.mid (U:=U) (Z:=Z) this hl
 refine⟨i,rfl,(nextOf (X:=wp X pn xe) (k:=λx z U3 P PX=>match view z U3 with
   |some (.int j)=>zG (zQ x U3) λd=>zG (oN d (some i) (some j)) λs=>P (.v s) U3
   |_=>False) relx rx hk hok hx).mono λt H3 h3=>?_⟩
 obtain⟨F,G,U,x,y,P,PX,zW,hl,rx,ry,hk,hok,hx⟩:=h3;obtain⟨j,ej,hk⟩:=eR (U:=U) (k:=λj=>zG (zQ x U) λd=>zG (oN d (some i) (some j)) λs=>P (.v s) U) hk;have ru:=dJ (U':=[]) (Z':=[]) (zW.mid hl) hl ry ej;cases ru;exact⟨j,rfl,HE (q:=.non) zW hl rx hk hok⟩
end FL
namespace FL
open PySem
def DG(f:List Nat->List D->Option S)(o:WE)(a:WA):WE:=λU Q E=>o U (λx U1=>match x with
 |.v (.sh (.str l))=>a U1 (λrs U2=>zG (rs.mapM λr=>zQ r U2) λds=>zG (f l ds) λs=>Q (.v s) U2) E
 |_=>False) E
def eL:List D->Option (List (List Nat))
 |[]=>some []
 |.str x::r=>(eL r).map (x::·)
 |_::_=>none
@[simp] theorem VQ(l:List (List Nat)):eL (l.map .str)=some l:=by
  induction l with
  |nil=>rfl
  |cons a r ih=>rw[qA,eL,ih];rfl
def eM(sep:List Nat):List (List Nat)->List Nat
 |[]=>[]
 |[x]=>x
 |x::r=>x++sep++eM sep r
def OO(sep:List Nat):∀ys:List (List Nat),(eM sep ys).length<=(ys.map List.length).sum+ys.length*sep.length
 |[]=>zero_le _
 |[x]=>by simp[eM]
 |x::y::r=>by
  have:=OO sep (y::r);rw[eM,qr,qr,qA,sum_cons,qu (a:=x),Nat.succ_mul]
  .lia
  .intro h;cases h
theorem VS(ys:List (List Nat)):eM [] ys=ys.flatten:=by
 induction ys with
 |nil=>rfl
 |cons x r ih=>
  cases r with
  |nil=>simp[eM]
  |cons y r=>rw[eM,ih];simp;intro h;cases h
def pE(sep:List Nat)(l:List D):Option S:=(eL l).bind λys=>if(ys.map List.length).sum+ys.length*sep.length<=big then some (.sh (.str (eM sep ys)))else none
def lU(sep:List Nat):List D->Option S
 |[.lst l]=>pE sep l
 |[.tup l]=>pE sep l
 |_=>none
def kJ(j:Nat)(e:WE):WE:=λU Q E=>match slot U j with
 |some (.lst _)=>e U (λr U2=>match view r U2,slot U2 j with
  |some (.int i),some (.lst l)=>zG (if l.length<=big then ixN l.length i else none) λk=>zG l[k]? λs=>Q (.v s) (U2.set j (some (.lst (l.eraseIdx k))))
  |_,_=>False) E
 |_=>False
def vH:List D->Option (List Bool)
 |[]=>some []
 |.bl x::r=>(vH r).map (x::·)
 |_::_=>none
@[simp] theorem XI(l:List Bool):vH (l.map .bl)=some l:=by
  induction l with
  |nil=>rfl
  |cons a r ih=>rw[qA,vH,ih];rfl
end FL
namespace FL
open PySem PySem.Spec PyProof.Rows L2
section
variable{id:String}
def vR(K:W.Frag)(r:V->List V->Hp->VK->Prop)(f:List Nat->List D->Option S):Prop:=∀(Z:St)(U:Env)(F G H:Hp)(x:Str)(vs:List V)(ds:List D)(s:S)(Q:VK),Rel K U Z F G H->x.cps.toList.length<=16777216->kD K F H vs ds->f x.cps.toList ds=some s->
 (∀v F' H',zH F F'->Rel K (U++[some s]) (Z++[some v]) F' G H'->Q v H')->r (.str x) vs H Q
def Pz(hm:∀pn xe,DM (wp X pn xe) id r)(hd:vR X.K r f)(slot:Slot "str" name id)(hty:typeOf (.builtin id)=pure (.type "method_descriptor"))(ho:FE X o wo)(ha:FA X (e::es) wa)
  (hbase:attributeBase o name X.env (eval o X.env)=eval o X.env:=by rfl)
  (hfew:((backTo cpos (starEach (e::es) X.env)).all (λx=>!x.1)&&(backToKw cpos (keywordEach [] X.env)).all (λx=>x.1.isSome)
   &&decide ((e::es).length+([]:List Keyword).length+(if([]:List Keyword).isEmpty then 0 else 1)<30))=true:=by rfl)
  (hline:(apos.endLine==cpos.line)=true:=by rfl)(hs:starEach (e::es) X.env=(false,eval e X.env)::starEach es X.env:=by rfl)(hplain:(backTo cpos (starEach es X.env)).any (·.1)=false:=by rfl):
  FE X (.Call (.Attribute o name apos) (e::es) [] cpos) (DG f wo wa):=λpn xe hp=>by
 refine PE.imp (DT (X:=wp X pn xe) PySem.F.plainAttrs_str slot hty (hm pn xe) (ho pn xe hp) (ha pn xe hp) hbase hfew hline hs hplain) λZ H Q q=>?_;refine(one (k:=λx U1 Q E=>match x with
  |.v (.sh (.str l))=>wa U1 (λrs U2=>zG (rs.mapM λr=>zQ r U2) λds=>zG (f l ds) λs=>Q (.v s) U2) E
  |_=>False) q).mono λv H1 h1=>?_
 obtain⟨F,G,U,x,P,PX,zW,hl,rx,hk,hok,hx⟩:=h1;split at hk
 .rename_i l;have rp:=dJ (U':=[]) (Z':=[]) (x:=.v (.sh (.str l))) zW hl rx rfl;cases rp with
  |str e1 z=>rename_i y;subst e1;refine⟨rfl,F,G,U,_,PX,zW.drop hl,hk,λrs U2 vs F2 H2 hk2 s2 r2 hl2 rvs=>?_,hx⟩;obtain⟨ds,ed,hk2⟩:=bL hk2;obtain⟨s,es,hk2⟩:=bL hk2;obtain⟨F3,s3,re,r3⟩:=kL (U':=[]) (Z':=[]) (by simpa using r2) hl2 rvs ed;exact hd Z U2 F3 G H2 y vs ds s Q (by simpa using r3) z re es λv F' H' sm r'=>hok _ U2 v F' H' hk2 (s2.trans (s3.trans sm)) r' trivial
 .exact hk.elim
end
section
variable{K:W.Frag}
def MH(r:zS K F xs l)(h:eL l=some ys):∃zs:List Str,xs=zs.map V.str/\ys=zs.map λz=>z.cps.toList:=
 zS.ind (P:=λxs l=>∀ys,eL l=some ys->∃zs:List Str,xs=zs.map V.str/\ys=zs.map λz=>z.cps.toList) (λys h=>by cases h;exact⟨[],rfl,rfl⟩) (λa _ ih ys h=>by
  cases a with
  |@str x _ e z=>rw[eL]at h;obtain⟨ys',h1,rfl⟩:=qZ.mp h;obtain⟨zs,rfl,rfl⟩:=ih _ h1;exact⟨x::zs,rfl,by rw[qA,e]⟩
  |_=>cases h) r ys h
def MW(sep:Str):∀zs:List Str,(Str.join sep zs).cps.toList=eM sep.cps.toList (zs.map λz=>z.cps.toList)
 |[]=>rfl
 |[x]=>rfl
 |x::y::r=>by show((x++sep++Str.join sep (y::r):Str)).cps.toList=x.cps.toList++sep.cps.toList++eM sep.cps.toList ((y::r).map λz=>z.cps.toList);rw[<-MW sep (y::r)];show(x.cps++sep.cps++(Str.join sep (y::r)).cps).toList=_;rw[toList_append,toList_append]
def GM:∀{us:List Value},zR (ys.map V.str) us->StrsAre us ys:=by
 induction ys with
 |nil=>intro us r;rw[map_nil]at r;cases r;exact .nil
 |cons n ns ih=>
  intro us r;rw[qA]at r;cases r with
  |cons r1 r2=>obtain⟨t,e⟩:=r1;subst e;exact .cons n t (ih r2)
def tV(K:W.Frag):V->List V->Hp->VK->Prop:=λx vs H Q=>∃z a ys,x=.str z/\vs=[.ref a]/\(bR K H a (ys.map V.str)\/bP K H a (ys.map V.str))/\(ys.map (·.length)).sum+ys.length*z.length<=16777216/\Q (.str (Str.join z ys)) H
def RQ:DM X "str.join" (tV X.K):=by
 intro zU s Z H x vs v us Q I rx rv h;obtain⟨z,a,ys,rfl,rfl,hq,hz,q⟩:=h;obtain⟨t,rfl⟩:=rx;cases rv with
 |cons r1 r2=>
  cases r2;cases r1;have e:Txt.join z ys=Str.join z ys:=StrLaws.glued_eq_join z ys;rcases hq with hq|hq
  .obtain⟨zY,r,pl,_⟩:=I.list hq;exact join_list pl.isList (GM r) hz λt' k=>⟨.str (Str.join z ys),H,I.tok _,⟨_,by rw[e]⟩,q⟩
  .obtain⟨zY,r,pl,_⟩:=I.tuple hq;exact join_tuple pl (GM r) hz λt' k=>⟨.str (Str.join z ys),H,I.tok _,⟨_,by rw[e]⟩,q⟩
def NJ(zW:Rel K U Z F G H)(hq:bR K H a xs\/bP K H a xs)(r:zS K F xs l)(e:pE x.cps.toList l=some s)
  (k:∀v F' H',zH F F'->Rel K (U++[some s]) (Z++[some v]) F' G H'->Q v H'):tV K (.str x) [.ref a] H Q:=by
 unfold pE at e;obtain⟨ys,e1,e2⟩:=Option.bind_eq_some_iff.mp e;obtain⟨zs,rfl,rfl⟩:=MH r e1;split at e2
 .rename_i hz;cases e2;have hl:∀z:Str,z.cps.toList.length=z.length:=λz=>by rw[qW];rfl
  have e3:((zs.map λz=>z.cps.toList).map List.length)=zs.map (·.length):=by rw[qF];exact map_congr_left λz _=>hl z
  have hz2:=hz;rw[e3,qp,hl]at hz;refine⟨x,a,zs,rfl,rfl,hq,le_trans hz (by decide),k _ F H (zH.refl F) (zW.push (.str (MW x zs) ?_))⟩;exact le_trans (OO _ _) (le_trans hz2 (by decide))
 .cases e2
def UU:vR K (tV K) lU:=by
 intro Z U F G H x vs ds s Q zW hz re e hq;obtain⟨d,v,rfl,rfl⟩:=kX (λx y r=>by cases x<;>rfl) rfl re e;cases d with
 |tup l=>obtain⟨a,xs,rfl,h1,r1⟩:=re.1.tup;exact NJ zW (.inr (bP.of (zW.fr _ _ h1))) r1 e hq
 |lst l=>obtain⟨a,xs,rfl,h1,r1⟩:=re.1.lst zW.fr;exact NJ zW (.inl h1) r1 e hq
 |_=>cases e
end
def MO(ho:FE X o wo)(ha:FA X [e] wa)
  (hbase:attributeBase o "join" X.env (eval o X.env)=eval o X.env:=by rfl)
  (hfew:((backTo cpos (starEach [e] X.env)).all (λx=>!x.1)&&(backToKw cpos (keywordEach [] X.env)).all (λx=>x.1.isSome)
   &&decide ([e].length+([]:List Keyword).length+(if([]:List Keyword).isEmpty then 0 else 1)<30))=true:=by rfl)
  (hline:(apos.endLine==cpos.line)=true:=by rfl)(hs:starEach [e] X.env=(false,eval e X.env)::starEach [] X.env:=by rfl)(hplain:(backTo cpos (starEach [] X.env)).any (·.1)=false:=by rfl):
  FE X (.Call (.Attribute o "join" apos) [e] [] cpos) (DG lU wo wa):=Pz (λ_ _=>RQ) UU PySem.F.slot_str_join PySem.F.type_str_join ho ha hbase hfew hline hs hplain
section
variable{K:W.Frag}
def zK.erase:∀{xs:List V}{l:List S}{fp:List Addr}{m:Nat}{s:S},zK K F H xs l fp->l[m]?=some s->∃y fa fi fb,fp=fa++(fi++fb)/\xs[m]?=some y/\aM K F H y s fi/\zK K F H (xs.eraseIdx m) (l.eraseIdx m) (fa++fb)
 |_,_,_,_,_,.nil,h=>by simp at h
 |_,_,_,0,s,.cons (x:=x) (fp:=fp) (fq:=fq) a b,h=>by have e:=qg h;subst e;exact⟨x,[],fp,fq,rfl,rfl,a,b⟩
 |_,_,_,m+1,s,.cons (fp:=fp) (fq:=fq) a b,h=>by obtain⟨y,fa,fi,fb,rfl,h1,h2,h3⟩:=zK.erase (m:=m) b (by simpa using h);refine⟨y,fp++fa,fi,fb,(qq ..).symm,by simpa using h1,h2,?_⟩;rw[qq];exact .cons a h3
def Rel.popItem{D:Addr}(r:Rel K U Z F G H)(hs:slot U n=some (.lst l))(hZ:Z[n]?=some (some (.ref D)))(hm:l[m]?=some s):
  ∃xs y,H D=some (.lst xs)/\xs.length=l.length/\xs[m]?=some y/\Rel K (U.set n (some (.lst (l.eraseIdx m)))++[some s]) (Z++[some y]) F G (upd H D (.lst (xs.eraseIdx m))):=by
 obtain⟨fp,e,nd,ap⟩:=r.en;obtain⟨v',fa,fi,fb,e1,rfl,q,up⟩:=e.at hs;rw[hZ]at e1;have e2:V.ref D=v':=by simpa using e1
 subst e2;cases q with
 |lst hD rl=>
  rename_i xs fl;obtain⟨y,ga,gi,gb,rfl,hy,sr,rl2⟩:=rl.erase hm;refine⟨xs,y,hD,rl.len,hy,?_⟩;obtain⟨na,nib,nab⟩:=qy.mp nd;obtain⟨ni,nb,nib⟩:=qy.mp nib;obtain⟨nD,nfl⟩:=qM.mp ni;have hDa:D∉fa:=λz=>nab D z D (qk _ qo) rfl;have hDb:D∉fb:=λz=>nib D qo D z rfl;have apD:=ap D (qj _ (qk _ qo));have ne:∀{l:List Addr},D∉l->∀x∈l,upd H D (.lst (xs.eraseIdx m)) x=H x:=λh x hx=>bJ λz=>h (z▸hx);have hDg:D∉ga++gb:=λz=>nD ((qz.mp z).elim (λw=>qk _ w) λw=>qj _ (qj _ w));have hDi:D∉gi:=λz=>nD (qj _ (qk _ z));have new:aM K F (upd H D (.lst (xs.eraseIdx m))) (.ref D) (.lst (l.eraseIdx m)) (D::(ga++gb)):=.lst gC (rl2.mono (zH.refl F) (ne hDg));have a2:=up (F':=F) (H':=upd H D (.lst (xs.eraseIdx m))) (o:=some (.lst (l.eraseIdx m))) (u:=some (.ref D)) (zH.refl F) (λx hx=>bJ λz=>(qz.mp hx).elim (λw=>hDa (z▸w)) λw=>hDb (z▸w)) (.so new .nil);rw[Ex hZ]at a2;have a3:=a2.app (.so (sr.mono (zH.refl F) (ne hDi)) .nil);have pm:(fa++((D::(ga++gb))++[]++fb)++(gi++[])).Perm (fa++((D::(ga++(gi++gb)))++fb)):=by simp only[qB,qq,qP];refine List.Perm.append_left _ (List.Perm.cons _ (List.Perm.append_left _ ?_));rw[<-qq gi gb fb,<-qq gb fb gi];refine(qO (l₁:=gb++fb) (l₂:=gi)).trans ?_;rw[qq]
  refine⟨zH.updR r.fr apD.1,λx o w=>?_,_,a3,pm.nodup_iff.mpr nd,λx hx=>ap x (pm.mem_iff.mp hx)⟩;have hx:x≠D:=λz=>by rw[z,apD.2]at w;cases w
  rw[bJ hx];exact r.gr x o w
end
def Uq(ho:FE X o (zx j))(he:FE X e we)
  (hbase:attributeBase o "pop" X.env (eval o X.env)=eval o X.env:=by rfl)
  (hfew:((backTo cpos (starEach [e] X.env)).all (λx=>!x.1)&&(backToKw cpos (keywordEach [] X.env)).all (λx=>x.1.isSome)
   &&decide ([e].length+([]:List Keyword).length+(if([]:List Keyword).isEmpty then 0 else 1)<30))=true:=by rfl)
  (hline:(apos.endLine==cpos.line)=true:=by rfl)(hs:starEach [e] X.env=[(false,eval e X.env)]:=by rfl):FE X (.Call (.Attribute o "pop" apos) [e] [] cpos) (kJ j we):=λpn xe hp=>by
 refine PE.imp (DT (X:=wp X pn xe) PySem.F.plainAttrs_list PySem.F.slot_list_pop PySem.F.type_list_pop UG (ho pn xe hp) (aB he aI hs pn xe hp) hbase hfew hline hs rfl) λZ H Q q=>?_;obtain⟨F,G,U,P,PX,zW,hw,hok,hx⟩:=q;have hw':(match slot U j with
  |some (.lst _)=>we U (λr U2=>match view r U2,slot U2 j with
   |some (.int i),some (.lst l)=>zG (if l.length<=big then ixN l.length i else none) λk=>zG l[k]? λs=>P (.v s) (U2.set j (some (.lst (l.eraseIdx k))))
   |_,_=>False) PX
  |_=>False):=hw
 cases qs:slot U j with
 |none=>rw[qs]at hw';exact hw'.elim
 |some s0=>
  cases s0 with
  |lst l0=>
   rw[qs]at hw';refine⟨F,G,U,λy U1=>y=.loc j/\U1=U,PX,zW,by unfold zx;rw[qs];exact⟨rfl,rfl⟩,λy U1 o' F1 H1 hk s1 r1 rv=>?_,hx⟩;obtain⟨rfl,rfl⟩:=hk;have l1:=aS r1;have hZ:Z[j]?=some (some o'):=rv;have r2:=r1.drop l1;obtain⟨v',fp,e1,sr⟩:=r2.at qs;rw[hZ]at e1;have e2:o'=v':=by simpa using e1
   subst e2;cases sr with
   |lst hD rl=>
    rename_i a xs fl;refine⟨.inl ⟨rfl,_,bR.of hD⟩,F1,G,U1,λrs U2=>match rs with|[r]=>(match view r U2,slot U2 j with|some (.int i),some (.lst l)=>zG (if l.length<=big then ixN l.length i else none) λk=>zG l[k]? λs=>P (.v s) (U2.set j (some (.lst (l.eraseIdx k))))|_,_=>False)|_=>False,PX,r2,hw',λrs U2 vs F2 H2 hk s2 r3 hl rvs=>?_,hx.grow s1⟩;match rs,vs,rvs,r3,hk with
    |[r],[v],rvs,r3,hk=>
     dsimp only at hk;split at hk
     .rename_i i l ei ql;obtain⟨m,em,hk⟩:=bL hk;obtain⟨s,es,hk⟩:=bL hk;have rp:=dJ (U':=[]) (Z':=[]) r3 hl rvs.1 ei;cases rp;split at em
      .rename_i hz;have r4:=r3.drop hl;obtain⟨ys,y,hD2,zX,hy,r5⟩:=Rel.popItem r4 ql hZ es;rw[<-zX]at em hz;obtain⟨b1,b2,b3,b4⟩:=HK em;have hb:ys.length<=1000000:=hz;exact⟨a,ys,i,m,y,rfl,rfl,hD2,by lia,by lia,b1,hy,hok _ _ y F2 _ hk (s1.trans s2) r5 trivial⟩
      .cases em
     .exact hk.elim
    |[],_,_,_,hk=>exact hk.elim
    |[_],[],rvs,_,_=>exact rvs.elim
    |[_],_::_::_,rvs,_,_=>exact rvs.2.elim
    |_::_::_,_,_,_,hk=>exact hk.elim
  |_=>rw[qs]at hw';exact hw'.elim
section
variable{K:W.Frag}
def TR:dH K (λxs H Q=>∃i j,xs=[.int i,.int j]/\Q (.int (if j>i then j else i)) H) Ai:=by
 intro Z U F G H vs ds s Q zW re e hq;obtain⟨d,d2,v,u,rfl,rfl⟩:=FU (λx=>by cases x<;>rfl) (λx y z r=>by cases x<;>first|rfl|(cases y<;>rfl)) rfl re e;cases d with
 |int i=>
  cases d2 with
  |int j=>cases e;have h1:=re.1.int;have h2:=re.2.1.int;subst h1;subst h2;exact⟨i,j,rfl,hq _ F H (zH.refl F) (zW.push (.int _))⟩
  |_=>cases e
 |_=>cases e
def Tu:dH K (λxs H Q=>∃i j,xs=[.int i,.int j]/\Q (.int (if j<i then j else i)) H) Ah:=by
 intro Z U F G H vs ds s Q zW re e hq;obtain⟨d,d2,v,u,rfl,rfl⟩:=FU (λx=>by cases x<;>rfl) (λx y z r=>by cases x<;>first|rfl|(cases y<;>rfl)) rfl re e;cases d with
 |int i=>
  cases d2 with
  |int j=>cases e;have h1:=re.1.int;have h2:=re.2.1.int;subst h1;subst h2;exact⟨i,j,rfl,hq _ F H (zH.refl F) (zW.push (.int _))⟩
  |_=>cases e
 |_=>cases e
def Qv(hc:X.calm=true)(hg:Gl X "max")(hm:X.mg "max"=none)(hv:bootBuiltins "max"=some (.builtin "max"))(ha:FA X (e::es) wa)(he:starEach (e::es) X.env=(false,eval e X.env)::starEach es X.env:=by rfl)(hpl:(backTo pos (starEach es X.env)).any (·.1)=false:=by rfl):FE X (.Call (.Name "max" p) (e::es) [] pos) (wB Ai wa):=
 GG (λ_ _=>UP hc) TR hg hm hv ha (by decide) (by decide) he hpl
def Rp(hc:X.calm=true)(hg:Gl X "min")(hm:X.mg "min"=none)(hv:bootBuiltins "min"=some (.builtin "min"))(ha:FA X (e::es) wa)(he:starEach (e::es) X.env=(false,eval e X.env)::starEach es X.env:=by rfl)(hpl:(backTo pos (starEach es X.env)).any (·.1)=false:=by rfl):FE X (.Call (.Name "min" p) (e::es) [] pos) (wB Ah wa):=
 GG (λ_ _=>Vf hc) Tu hg hm hv ha (by decide) (by decide) he hpl
end
end FL
namespace FL
open PySem
mutual
def cH:D->D->Ordering
 |.int i,.int j=>if i<j then .lt else if j<i then .gt else .eq
 |.str x,.str y=>if x<y then .lt else if y<x then .gt else .eq
 |.tup l,.tup m=>aU l m
 |_,_=>.eq
def aU:List D->List D->Ordering
 |[],[]=>.eq
 |[],_::_=>.lt
 |_::_,[]=>.gt
 |a::l,b::m=>match cH a b with
  |.eq=>aU l m
  |o=>o
end
def fF(a b:D):Bool:=match cH a b with
 |.gt=>false
 |_=>true
@[simp] theorem Ei(i j:Int):fF (.int i) (.int j)=decide (i<=j):=by
  show(match(if i<j then Ordering.lt else if j<i then .gt else .eq)with|.gt=>false|_=>true)=_;by_cases h:i<j
  .rw[q8 h,qS (by lia)]
  .rw[q9 h];by_cases h2:j<i
   .rw[q8 h2,qT (by lia)]
   .rw[q9 h2,qS (by lia)]
@[simp] theorem Eh(x y:List Nat):fF (.str x) (.str y)=!decide (y<x):=by
  show(match(if x<y then Ordering.lt else if y<x then .gt else .eq)with|.gt=>false|_=>true)=_;by_cases h:x<y
  .rw[q8 h,qT (λh'=>lt_asymm h h')];rfl
  .rw[q9 h];by_cases h2:y<x
   .rw[q8 h2,qS h2];rfl
   .rw[q9 h2,qT h2];rfl
def rM(x:D):List D->List D
 |[]=>[x]
 |y::r=>if fF x y then x::y::r else y::rM x r
def gG:List D->List D
 |[]=>[]
 |x::r=>rM x (gG r)
def IB(x:D):∀l:List D,(rM x l).Perm (x::l)
 |[]=>.refl _
 |y::r=>by
  unfold rM;split
  .exact .refl _
  .exact(List.Perm.cons y (IB x r)).trans (.swap x y r)
def EA:∀l:List D,(gG l).Perm l
 |[]=>.refl _
 |x::r=>(IB x _).trans (.cons x (EA r))
structure gK(P:D->Prop):Prop where
 tot:∀a b,P a->P b->fF a b=true\/fF b a=true
 tr:∀a b c,P a->P b->P c->fF a b=true->fF b c=true->fF a c=true
 anti:∀a b,P a->P b->fF a b=true->fF b a=true->a=b
def Ox(o:gK P)(x:D)(hx:P x):∀l:List D,(∀d∈l,P d)->l.Pairwise (fF · ·=true)->(rM x l).Pairwise (fF · ·=true)
 |[],_,_=>List.pairwise_singleton _ _
 |y::r,hp,h=>by
  obtain⟨h1,h2⟩:=pairwise_cons.mp h;have hy:=hp y qo;have hr:∀d∈r,P d:=λd hd=>hp d (qm _ hd);unfold rM;split
  .rename_i c;refine pairwise_cons.mpr ⟨λd hd=>?_,h⟩;rcases qC.mp hd with rfl|hd
   .exact c
   .exact o.tr x y d hx hy (hr d hd) c (h1 d hd)
  .rename_i c;refine pairwise_cons.mpr ⟨λd hd=>?_,Ox o x hx r hr h2⟩;rcases qC.mp ((IB x r).mem_iff.mp hd)with rfl|hd
   .exact(o.tot d y hx hy).resolve_left c
   .exact h1 d hd
def IV(o:gK P):∀l:List D,(∀d∈l,P d)->(gG l).Pairwise (fF · ·=true)
 |[],_=>.nil
 |x::r,hp=>Ox o x (hp x qo) _ (λd hd=>hp d (qm _ ((EA r).mem_iff.mp hd))) (IV o r λd hd=>hp d (qm _ hd))
def OM(o:gK P):∀l m:List D,(∀d∈l,P d)->l.Perm m->l.Pairwise (fF · ·=true)->m.Pairwise (fF · ·=true)->l=m
 |[],m,_,p,_,_=>(List.nil_perm.mp p).symm
 |x::r,[],_,p,_,_=>absurd p.length_eq (by simp)
 |x::r,y::t,hp,p,h1,h2=>by
  obtain⟨a1,a2⟩:=pairwise_cons.mp h1;obtain⟨b1,b2⟩:=pairwise_cons.mp h2;have hx:=hp x qo;have hy:P y:=hp y (p.mem_iff.mpr qo);have e:x=y:=by
   have m1:x∈y::t:=p.mem_iff.mp qo;have m2:y∈x::r:=p.mem_iff.mpr qo;rcases qC.mp m1 with e|m1
   .exact e
   .rcases qC.mp m2 with e|m2
    .exact e.symm
    .exact o.anti x y hx hy (a1 y m2) (b1 x m1)
  subst e;rw[OM o r t (λd hd=>hp d (qm _ hd)) (List.Perm.cons_inv p) a2 b2]
def Du(o:gK P)(hp:∀d∈l,P d)(p:m.Perm l)(h:m.Pairwise (fF · ·=true)):gG l=m:=
 OM o _ _ (λd hd=>hp d ((EA l).mem_iff.mp hd)) ((EA l).trans p.symm) (IV o l hp) h
def AY:D->Prop
 |.int _=>True
 |_=>False
def AX:D->Prop
 |.str _=>True
 |_=>False
def MF:gK AY where
 tot
  |.int a,.int b,_,_=>by simp only[Ei,qU];lia
 tr
  |.int a,.int b,.int c,_,_,_=>by simp only[Ei,qU];lia
 anti
  |.int a,.int b,_,_=>by simp only[Ei,qU];intro h1 h2;rw[Int.le_antisymm h1 h2]
def HW:gK AX where
 tot
  |.str a,.str b,_,_=>by
   simp only[Eh,Bool.not_eq_true',decide_eq_false_iff_not];by_cases h:b<a
   .exact .inr λh'=>lt_asymm h h'
   .exact .inl h
 tr
  |.str a,.str b,.str c,_,_,_=>by simp only[Eh,Bool.not_eq_true',decide_eq_false_iff_not];intro h1 h2;exact λh=>(List.le_trans (l₁:=a) (l₂:=b) (l₃:=c) h1 h2) h
 anti
  |.str a,.str b,_,_=>by simp only[Eh,Bool.not_eq_true',decide_eq_false_iff_not];intro h1 h2;have:a=b:=List.le_antisymm (as:=a) (bs:=b) h1 h2;rw[this]
def fG:List D->Option (List Int)
 |[]=>some []
 |.int x::r=>(fG r).map (x::·)
 |_::_=>none
@[simp] theorem VF(l:List Int):fG (l.map .int)=some l:=by
  induction l with
  |nil=>rfl
  |cons a r ih=>rw[qA,fG,ih];rfl
end FL
namespace FL
open PySem PySem.Spec PyProof.Rows L2
section
variable{K:W.Frag}
def SU(r:zS K F xs l)(h:fG l=some ys):xs=ys.map V.int/\l=ys.map D.int:=
 zS.ind (P:=λxs l=>∀ys,fG l=some ys->xs=ys.map V.int/\l=ys.map D.int) (λys h=>by cases h;exact⟨rfl,rfl⟩) (λa _ ih ys h=>by
  cases a with
  |int c=>rw[fG]at h;obtain⟨ys',h1,rfl⟩:=qZ.mp h;obtain⟨e1,e2⟩:=ih _ h1;rw[e1,e2];exact⟨rfl,rfl⟩
  |_=>cases h) r ys h
def DA:∀{us:List Value}{ns:List Int},IntsAre us ns->zR (ns.map V.int) us
 |_,_,.nil=>.nil
 |_,_,.cons i t r=>.cons ⟨t,rfl⟩ (DA r)
def IG:∀{us:List Value}{ns:List Str},StrsAre us ns->zR (ns.map V.str) us
 |_,_,.nil=>.nil
 |_,_,.cons i t r=>.cons ⟨t,rfl⟩ (IG r)
def xN(K:W.Frag):List V->Hp->VK->Prop:=λxs H Q=>∃a,xs=[.ref a]/\
 ((∃ns:List Int,ns.length<64/\bR K H a (ns.map V.int)/\∀ns':List Int,ns'.Perm ns->ns'.Pairwise (·<=·)->∀q,H q=none->Q (.ref q) (upd H q (.lst (ns'.map V.int))))\/
  (∃zs:List Str,zs.length<64/\bR K H a (zs.map V.str)/\∀zs':List Str,zs'.Perm zs->sortedS zs'=true->∀q,H q=none->Q (.ref q) (upd H q (.lst (zs'.map V.str)))))
def Oz:aX X (.builtin "sorted") (xN X.K):=by
 intro zU s Z H xs us Q I r h;obtain⟨a,rfl,h⟩:=h;cases r with
 |cons r1 r2=>
  cases r2;cases r1;rcases h with⟨ns,h64,hq,q⟩|⟨zs,h64,hq,q⟩
  .obtain⟨zY,r,pl,_⟩:=I.list hq;have zX:zY.length=ns.length:=by have:=r.length;rw[qp]at this;exact this.symm
   refine sorted_ints pl.isList (IY r) (by rw[zX];exact h64) λout ns' a1 a2 a3=>?_;obtain⟨e,he⟩:=sortedAll_at s.heap zY out;have hz:ns'.length<=sizeLine:=by rw[a2.length_eq,zp];lia
   refine⟨.ref (s.heap.objs.size+1),_,I.laid (t':=s.toks) (o:=.lst (ns'.map V.int)) (λb ob w=>sortedAll_old w) (le_succ _) ?_,rfl,q ns' a2 a3 _ (I.hok.fresh (le_succ _))⟩;exact⟨by rw[qp];exact hz,out.toList,e,DA a1,by rw[toArray_toList];exact he⟩
  .obtain⟨zY,r,pl,_⟩:=I.list hq;have zX:zY.length=zs.length:=by have:=r.length;rw[qp]at this;exact this.symm
   refine sorted_strs pl.isList (GM r) (by rw[zX];exact h64) λout ns' a1 a2 a3=>?_;obtain⟨e,he⟩:=sortedAll_at s.heap zY out;have hz:ns'.length<=sizeLine:=by rw[a2.length_eq,zp];lia
   refine⟨.ref (s.heap.objs.size+1),_,I.laid (t':=s.toks) (o:=.lst (ns'.map V.str)) (λb ob w=>sortedAll_old w) (le_succ _) ?_,rfl,q ns' a2 a3 _ (I.hok.fresh (le_succ _))⟩;exact⟨by rw[qp];exact hz,out.toList,e,IG a1,by rw[toArray_toList];exact he⟩
def IE:∀ns:List Int,zS K F (ns.map V.int) (ns.map D.int)
 |[]=>.nil
 |n::ns=>.cons (.int n) (IE ns)
def Ou:∀zs:List Str,(∀z∈zs,z.cps.toList.length<=16777216)->zS K F (zs.map V.str) (zs.map λz=>D.str z.cps.toList)
 |[],_=>.nil
 |z::zs,h=>.cons (.str rfl (h z qo)) (Ou zs λy hy=>h y (qm _ hy))
def OH:∀{xs:List V}{l:List D}{zs:List Str},zS K F xs l->xs=zs.map V.str->l=(zs.map λz=>D.str z.cps.toList)/\∀z∈zs,z.cps.toList.length<=16777216
 |_,_,[],.nil,_=>⟨rfl,λ_ h=>by cases h⟩
 |_,_,_::_,.nil,h=>by simp at h
 |_,_,[],.cons _ _,h=>by simp at h
 |_,_,z::zs,.cons a b,h=>by
  rw[qA]at h;injection h with h1 h2
  subst h1;obtain⟨e,k⟩:=OH b h2;cases a with
  |str e1 z1=>
   subst e1;refine⟨by rw[e];rfl,λy hy=>?_⟩;rcases qC.mp hy with rfl|hy
   .exact z1
   .exact k y hy
def NC:∀(r:List Str)(p:Str),risingS p r=true->((p::r).map λz=>D.str z.cps.toList).Pairwise (fF · ·=true)
 |[],p,_=>List.pairwise_singleton _ _
 |x::r,p,h=>by
  have h':(!ltCps x.cps.toList p.cps.toList&&risingS x r)=true:=h;rw[and_eq_true,ltCps_eq]at h';have ih:=NC r x h'.2;have px:fF (.str p.cps.toList) (.str x.cps.toList)=true:=by rw[Eh];exact h'.1
  rw[qA];refine pairwise_cons.mpr ⟨λd hd=>?_,ih⟩;rw[qA]at hd ih;rcases qC.mp hd with rfl|hd
  .exact px
  .obtain⟨z,_,rfl⟩:=qL.mp hd;exact HW.tr _ (.str x.cps.toList) _ trivial trivial trivial px ((pairwise_cons.mp ih).1 _ hd)
def VZ:∀r:List Str,sortedS r=true->(r.map λz=>D.str z.cps.toList).Pairwise (fF · ·=true)
 |[],_=>.nil
 |x::r,h=>NC r x h
end
mutual
def dI:D->PyData
 |.non=>.none
 |.bl b=>.bool b
 |.int i=>.int i
 |.str l=>.str ⟨l.toArray⟩
 |.tup l=>.tuple (dE l)
 |.lst l=>.list (dE l)
 |_=>.none
def dE:List D->List PyData
 |[]=>[]
 |d::r=>dI d::dE r
end
mutual
def lM:D->Bool
 |.non=>true
 |.bl _=>true
 |.int i=>decide (i.natAbs.log2<1920)
 |.str _=>true
 |.tup l=>dX l
 |.lst l=>dX l
 |_=>false
def dX:List D->Bool
 |[]=>true
 |d::r=>lM d&&dX r
end
def FH:D->Bool
 |.tup _=>true
 |.lst _=>true
 |_=>false
mutual
def OF:∀d:D,lM d=true->(dI d).showable=true
 |.non,_=>rfl
 |.bl _,_=>rfl
 |.int i,h=>h
 |.str _,_=>rfl
 |.tup l,h=>IT l h
 |.lst l,h=>IT l h
 |.dct _ _ _,h=>by cases h
 |.set _,h=>by cases h
 |.exc _ _ _,h=>by cases h
def IT:∀l:List D,dX l=true->PyData.showableAll (dE l)=true
 |[],_=>rfl
 |d::r,h=>by rw[dX,and_eq_true]at h;rw[dE,PyData.showableAll,OF d h.1,IT r h.2];rfl
end
mutual
def Os:∀d:D,(dI d).hasDict=false
 |.non=>rfl
 |.bl _=>rfl
 |.int i=>rfl
 |.str _=>rfl
 |.tup l=>Jb l
 |.lst l=>Jb l
 |.dct _ _ _=>rfl
 |.set _=>rfl
 |.exc _ _ _=>rfl
def Jb:∀l:List D,PyData.hasDictAll (dE l)=false
 |[]=>rfl
 |d::r=>by rw[dE,PyData.hasDictAll,Os d,Jb r];rfl
end
mutual
def Nh:∀d:D,(dI d).depth<=gJ d
 |.non=>zc _
 |.bl _=>zc _
 |.int i=>zc _
 |.str _=>zc _
 |.tup l=>Nat.succ_le_succ (ID l)
 |.lst l=>Nat.succ_le_succ (ID l)
 |.dct _ _ _=>zc _
 |.set _=>zc _
 |.exc _ _ _=>zc _
def ID:∀l:List D,PyData.depthAll (dE l)<=bB l
 |[]=>zc _
 |d::r=>by have h1:=Nh d;have h2:=ID r;simp only[dE,PyData.depthAll,bB];lia
end
def Uj(I:Inv X zU Z H s)(q:aN X.K H v d)(r:zL v u)(h:lM d=true):∃as,Reads s.heap u (dI d) as:=by
 refine aN.rec (motive_1:=λv d _=>∀u,zL v u->lM d=true->∃as,Reads s.heap u (dI d) as) (motive_2:=λvs l _=>∀us,zR vs us->dX l=true->∃as,ReadsAll s.heap us (dE l) as) ?_ ?_ ?_ ?_ ?_ ?_ ?_ ?_ ?_ ?_ ?_ ?_ q u r h
 .intro u r _;cases r;exact⟨[],.none⟩
 .intro b u r _;cases r;exact⟨[],.bool b⟩
 .intro i u r _;obtain⟨t,rfl⟩:=r;exact⟨[],.int i t⟩
 .intro x l e z u r _;obtain⟨t,rfl⟩:=r;subst e;exact⟨[],.str _ t⟩
 .intro a xs ds e q ih u r h;cases r;obtain⟨zY,rv,⟨o,g,c,n,dt⟩,_⟩:=I.tuple (bP.of e);obtain⟨as,ra⟩:=ih _ rv h;exact⟨as,.tuple g c dt ra⟩
 .intro a xs ds e q ih u r h;cases r;obtain⟨zY,rv,⟨o,n,g,c,_,dt⟩,_⟩:=I.list e;obtain⟨as,ra⟩:=ih _ rv h;exact⟨_::as,.list g c dt ra⟩
 .intro _ _ _ _ _ _ _ _ _ _ h;cases h
 .intro _ _ _ _ _ _ _ _ _ _ h;cases h
 .intro _ _ _ _ _ _ _ _ h;cases h
 .intro _ _ _ _ _ _ _ _ _ _ _ h;cases h
 .intro us r _;cases r;exact⟨[],.nil⟩
 .intro x d xs ds _ _ i1 i2 us r h;rw[dX,and_eq_true]at h;cases r with
  |cons r1 r2=>obtain⟨as,h1⟩:=i1 _ r1 h.1;obtain⟨bs,h2⟩:=i2 _ r2 h.2;exact⟨as++bs,.cons h1 h2⟩
end FL
namespace FL
open PySem
def FR(l m:List Nat)(i:Nat):Bool:=decide (i+m.length<=l.length)&&decide ((l.drop i).take m.length=m)
def iT(l m:List Nat):Option Nat:=(List.range (l.length+1)).find? (FR l m)
def iY:List D->Option S
 |[.tup l]=>some (.lst (l.map .sh))
 |[.lst l]=>some (.lst (l.map .sh))
 |[.str l]=>if l.length<=big then some (.lst (l.map λc=>.sh (.str [c])))else none
 |_=>none
def find?_first(h:i<n)(hp:p i=true)(hn:∀k,k<i->p k=false):(List.range n).find? p=some i:=by first|rfl|assumption|(simp_all;done)
def find?_not(hn:∀k,p k=false):(List.range n).find? p=none:=by grind
end FL
namespace FL
open PySem PySem.Spec PyProof.Rows L2
section
variable{K:W.Frag}
def zjB:StrLaws.At x y x.length i↔FR x.cps.toList y.cps.toList i=true:=by
 have h1:x.length=x.cps.toList.length:=by show x.cps.size=_;rw[qW]
 have h2:y.length=y.cps.toList.length:=by show y.cps.size=_;rw[qW]
 unfold StrLaws.At FR Builtin.Str.subAt;rw[and_eq_true,qU,qU,h1,h2,beq_iff_eq];refine and_congr_right λ_=>?_;rw[<-Array.toList_inj,Array.toList_extract,List.extract_eq_take_drop];have:i+y.cps.toList.length-i=y.cps.toList.length:=by lia
 rw[this]
def RM(x y:Str):Txt.find x y=(match iT x.cps.toList y.cps.toList with|some i=>(i:Int)|none=>-1):=by
 have hn:∀{i},¬StrLaws.At x y x.length i->FR x.cps.toList y.cps.toList i=false:=λ{i} h=>by
  cases q:FR x.cps.toList y.cps.toList i with
  |false=>rfl
  |true=>exact absurd (zjB.mpr q) h
 rcases find_whole x y with⟨e,h⟩|⟨i,e,hi,h⟩
 .rw[e];unfold iT;rw[find?_not λk=>hn (h k)]
 .rw[e];unfold iT;have h3:=hi.1;have h1:x.length=x.cps.toList.length:=by show x.cps.size=_;rw[qW]
  rw[find?_first (i:=i) (by rw[<-h1];lia) (zjB.mp hi) λk hk=>hn (h k hk)]
def tT:List V->Hp->VK->Prop:=λxs H Q=>∃x:Str,xs=[.str x]/\x.length<=sizeLine/\∀l,H l=none->Q (.ref l) (upd H l (.lst (x.cps.toList.map λc=>.str ⟨#[c]⟩)))
def IZ:∀{xs:List V}{us:List Value},xs.length=us.length->(∀(j:Nat) x u,xs[j]?=some x->us[j]?=some u->zL x u)->zR xs us
 |[],[],_,_=>.nil
 |[],_::_,h,_=>by simp at h
 |_::_,[],h,_=>by simp at h
 |x::xs,u::us,h,k=>.cons (k 0 x u rfl rfl) (IZ (by simpa using h) λj x' u' h1 h2=>k (j+1) x' u' (by simpa using h1) (by simpa using h2))
def Xi(hc:X.calm=true):aX X (.type "list") tT:=by
 intro zU s Z H xs us Q I r h;obtain⟨x,rfl,hz,q⟩:=h;obtain⟨u,rfl,rx⟩:=vals1 r;obtain⟨t,rfl⟩:=rx;refine call_list_str (I.ok.hd hc) x t (hn:=hz) λh' tk acc' c' hk hS' hacc=>?_;have hv:zR (x.cps.toList.map λc=>V.str ⟨#[c]⟩) acc'.toList:=IZ (by rw[qp,qW,qW,hacc.1]) λj y v h1 h2=>by obtain⟨c,u,hc,rfl⟩:=hacc.2 j v (by rw[<-q5];exact h2);rw[qG,q5,hc]at h1;cases h1;exact⟨u,rfl⟩
 refine⟨.ref s.heap.objs.size,_,I.laid (t':=tk) hk (zc _) (show zT X.prog X.w _ h' _ (.lst (x.cps.toList.map λc=>V.str ⟨#[c]⟩)) from⟨?_,acc'.toList,c',hv,by simpa using hS'⟩),rfl,q _ (I.hok.fresh (zc _))⟩;rw[qp,qW];exact hz
def BZ(K:W.Frag):List V->Hp->VK->Prop:=λxs H Q=>AG K xs H Q\/tT xs H Q
def OK:∀l:List Nat,zS K F (l.map λc=>V.str ⟨#[c]⟩) (l.map λc=>D.str [c])
 |[]=>.nil
 |c::l=>.cons (.str rfl (by show 1<=16777216;decide)) (OK l)
def Wc:dH K (BZ K) iY:=by
 intro Z U F G H vs ds s Q zW re e hq;obtain⟨d,v,rfl,rfl⟩:=kX (λx y r=>by cases x<;>rfl) rfl re e;cases d with
 |tup l=>exact .inl (NH Z U F G H [v] [.tup l] s Q zW re e hq)
 |lst l=>exact .inl (NH Z U F G H [v] [.lst l] s Q zW re e hq)
 |str l=>
  obtain⟨x,rfl,e1,z⟩:=re.1.str;have e:(if l.length<=big then some (S.lst (l.map λc=>S.sh (.str [c])))else none)=some s:=e;split at e
  .rename_i hb;cases e;refine .inr ⟨x,rfl,by rw[Dy e1];exact GI hb,λp hp=>?_⟩;rw[e1];have h:=zW.newLD hp (OK l);rw[qF]at h;exact hq (.ref p) F (upd H p (.lst (l.map λc=>V.str ⟨#[c]⟩))) (zH.refl F) h
  .cases e
 |_=>cases e
def NN(hc:X.calm=true)(hg:Gl X "list")(hm:X.mg "list"=none)(hv:bootBuiltins "list"=some (.type "list"))(ha:FA X (e::es) wa)(he:starEach (e::es) X.env=(false,eval e X.env)::starEach es X.env:=by rfl)(hpl:(backTo pos (starEach es X.env)).any (·.1)=false:=by rfl):FE X (.Call (.Name "list" p) (e::es) [] pos) (wB iY wa):=
 DE (λpn xe=>aX.or' Xc (Xi (X:=wp X pn xe) hc)) Wc hg hm hv ha (by decide) (by decide) he hpl
end
def Mb:bootBuiltins "int"=some (.type "int"):=by decide+kernel
def vY:bootBuiltins "tuple"=some (.type "tuple"):=by decide+kernel
def Ij:bootBuiltins "list"=some (.type "list"):=by decide+kernel
def Qc:bootBuiltins "max"=some (.builtin "max"):=by decide+kernel
def QW:bootBuiltins "min"=some (.builtin "min"):=by decide+kernel
def DF:bootBuiltins "sorted"=some (.builtin "sorted"):=by decide+kernel
def BD(hr:bI k A):A.units+32<cLine:=by have:=hr.units;lia
def pV(hr:bI k A):A.units+31<cLine:=by have:=hr.units;lia
def uq{N:List Str}(h:(N.zipIdx.all λp=>!(p.1==x)||p.2==i)=true):∀j,N[j]?=some x->j=i:=by intro j hj;have hj':j<N.length:=(qh.mp hj).1;have:=qJ.mp h (x,j) (by rw[List.mem_zipIdx_iff_getElem?];simpa using hj);simpa using this
instance(outer scope:Scope)(N vars:List Str):Decidable (scope.kind=.function/\(∀x∈scope.names,x.2=.free->outer.names.lookup x.1=some .cell\/outer.names.lookup x.1=some .free)/\(scope.names.map (·.1)).Nodup/\
  (∀x∈N,x∉vars->(x,NameKind.local)∉scope.names/\(x,NameKind.cell)∉scope.names)/\scope.names.lookup Str.empty=none):=inferInstance
def Df(outer scope:Scope)(N vars:List Str):Bool:=decide (scope.kind=.function/\(∀x∈scope.names,x.2=.free->outer.names.lookup x.1=some .cell\/outer.names.lookup x.1=some .free)/\(scope.names.map (·.1)).Nodup/\
    (∀x∈N,x∉vars->(x,NameKind.local)∉scope.names/\(x,NameKind.cell)∉scope.names)/\scope.names.lookup Str.empty=none)
def cJ(h:Df outer scope N vars=true):cV outer scope N vars:=
 let⟨a,b,c,d,e⟩:=qV h
 ⟨a,b,c,d,e⟩
def SH{K:W.Frag}(r:aM K F H v (.sh (.bl true)) fp):v=.bl true:=by
 cases r with
 |sh r=>cases r;rfl
def QN{K:W.Frag}(h:∀ns:List Int,ns.length<=63->wf [.sh (.lst (ns.map .int))] (λs _=>s=.sh (.bl true)) λ_ _=>False)(H:Hp)(a:Addr)(ns:List Int)(hl:ns.length<=63)(hS:bR K H a (ns.map V.int)):
  fR K wf 1 [.ref a] H (λv _=>v=.bl true) λ_ _ _=>False:=by
 refine⟨H,λ_=>none,[.sh (.lst (ns.map .int))],_,_,rfl,⟨zH.refl H,λ_ _ z=>(nomatch z),[]++[],.so (.sh (.lst hS (IE ns))) .nil,nodup_nil,λ_ z=>(nomatch z)⟩,h ns hl,λs ss' v F' H' hs sm zX r=>?_,λ_ _ _ _ _ _ z=>z.elim⟩;subst hs;obtain⟨u,fp,e1,q⟩:=r.at (i:=ss'.length) (s:=.sh (.bl true)) (by have:=Av (U:=ss'.map some) (o:=some (.sh (.bl true))) (U':=[]);simpa using this)
 have hl1:ss'.length=1:=zX;rw[hl1]at e1;have:u=v:=by simpa using e1.symm
 rw[<-this];exact SH q
end FL
namespace FL
def hE(j:Nat)(e:WE):WE:=λU Q E=>match slot U j with
 |some (.lst _)=>e U (λr U2=>match r,slot U2 j with
  |.v (.lst m),some (.lst l)=>l.length+m.length<=big/\Q (.v (.sh .non)) (U2.set j (some (.lst (l++m))))
  |_,_=>False) E
 |_=>False
end FL
namespace FL
open PySem PySem.Spec PyProof.Rows L2
def DZ(ha:FE X a wa):FE X (.UnaryOp .USub a pos) (Bo lS wa):=λpn xe hp=>by
 refine PE.imp (PK Qi (ha pn xe hp)) λZ H Q q=>?_;refine(one (k:=λx U1 Q E=>zG (zQ x U1) λp=>zG (lS p) λs=>Q (.v s) U1) q).mono λv H1 h1=>?_;obtain⟨F,G,U,x,P,PX,zW,hl,rx,hk,hok,hx⟩:=h1;obtain⟨p,ep,hk⟩:=bL hk;obtain⟨s,es,hk⟩:=bL hk;obtain⟨F1,s1,re,r1⟩:=fQ (U':=[]) (Z':=[]) zW hl rx ep;cases p with
 |int i=>cases es;have e:=re.int;subst e;exact⟨i,rfl,hok _ U _ F1 H1 hk s1 ((show Rel _ U Z F1 G H1 by simpa using r1).push (.int _)) trivial⟩
 |_=>cases es
section
variable{K:W.Frag}
def zK.app:∀{xs ys:List V}{l m:List S}{fp fq:List Addr},zK K F H xs l fp->zK K F H ys m fq->zK K F H (xs++ys) (l++m) (fp++fq)
 |_,_,_,_,_,_,.nil,r=>r
 |_,_,_,_,_,_,.cons a b,r=>by rw[qq];exact .cons a (zK.app b r)
def Rel.extend{D B:Addr}(r:Rel K (U++[some (.lst m)]) (Z++[some (.ref B)]) F G H)(hs:slot U n=some (.lst l))(hZ:Z[n]?=some (some (.ref D))):
  ∃xs ys,H D=some (.lst xs)/\H B=some (.lst ys)/\xs.length=l.length/\ys.length=m.length/\Rel K (U.set n (some (.lst (l++m)))) Z F G (upd H D (.lst (xs++ys))):=by
 have hl:=aS r;obtain⟨fp,e,nd,ap⟩:=r.en;obtain⟨f1,f2,rfl,a,b⟩:=e.cut hl;obtain⟨v',fa,fi,fb,e1,rfl,q,up⟩:=a.at hs;rw[hZ]at e1;have e2:V.ref D=v':=by simpa using e1
 subst e2;cases q with
 |lst hD rl=>
  rename_i xs fl;cases b with
  |so sr nl=>
   cases nl;cases sr with
   |lst hB rm=>
    rename_i ys fs;refine⟨xs,ys,hD,hB,rl.len,rm.len,?_⟩;have es:Z.set n (some (.ref D))=Z:=Ex hZ;obtain⟨n1,n2,n12⟩:=qy.mp nd;obtain⟨na,nib,nab⟩:=qy.mp n1;obtain⟨ni,nb,nib⟩:=qy.mp nib;obtain⟨nD,nfl⟩:=qM.mp ni;have hDa:D∉fa:=λz=>nab D z D (qk _ qo) rfl;have hDb:D∉fb:=λz=>nib D qo D z rfl;have hDs:D∉fs:=λz=>n12 D (qj _ (qk _ qo)) D (by simpa using .inr z) rfl;have apD:=ap D (qk _ (qj _ (qk _ qo)));have ne:∀{l:List Addr},D∉l->∀x∈l,upd H D (.lst (xs++ys)) x=H x:=λh x hx=>bJ λz=>h (z▸hx);have new:aM K F (upd H D (.lst (xs++ys))) (.ref D) (.lst (l++m)) (D::(fl++fs)):=.lst gC (zK.app (rl.mono (zH.refl F) (ne nD)) (rm.mono (zH.refl F) (ne hDs)));have a2:=up (F':=F) (H':=upd H D (.lst (xs++ys))) (o:=some (.lst (l++m))) (u:=some (.ref D)) (zH.refl F) (λx hx=>bJ λz=>(qz.mp hx).elim (λw=>hDa (z▸w)) λw=>hDb (z▸w)) (.so new .nil);rw[es]at a2;have p:(B::(fa++((D::(fl++fs))++[]++fb))).Perm (fa++((D::fl)++fb)++(B::fs++[])):=by
     simp only[qB,qq,qP];refine(List.Perm.cons _ (List.Perm.append_left _ (List.Perm.cons _ (List.Perm.append_left _ qO)))).trans ?_;have h1:(fa++D::(fl++(fb++B::fs))).Perm (B::(fa++D::(fl++(fb++fs)))):=by have:=perm_middle (a:=B) (l₁:=fa++D::(fl++fb)) (l₂:=fs);simpa using this
     exact h1.symm
    have nd2:=p.nodup_iff.mpr (by simpa using nd);refine⟨zH.updR r.fr apD.1,λx o w=>?_,_,a2,(qM.mp nd2).2,λx hx=>ap x (by simpa using p.mem_iff.mp (qm _ hx))⟩;have hx:x≠D:=λz=>by rw[z,apD.2]at w;cases w
    rw[bJ hx];exact r.gr x o w
end
def Vs(ho:FE X o (zx j))(he:FE X e we)
  (hbase:attributeBase o "extend" X.env (eval o X.env)=eval o X.env:=by rfl)
  (hfew:((backTo cpos (starEach [e] X.env)).all (λx=>!x.1)&&(backToKw cpos (keywordEach [] X.env)).all (λx=>x.1.isSome)
   &&decide ([e].length+([]:List Keyword).length+(if([]:List Keyword).isEmpty then 0 else 1)<30))=true:=by rfl)
  (hline:(apos.endLine==cpos.line)=true:=by rfl)(hs:starEach [e] X.env=[(false,eval e X.env)]:=by rfl):FE X (.Call (.Attribute o "extend" apos) [e] [] cpos) (hE j we):=λpn xe hp=>by
 refine PE.imp (DT (X:=wp X pn xe) PySem.F.plainAttrs_list PySem.F.slot_list_extend PySem.F.type_list_extend VJ (ho pn xe hp) (aB he aI hs pn xe hp) hbase hfew hline hs rfl) λZ H Q q=>?_;obtain⟨F,G,U,P,PX,zW,hw,hok,hx⟩:=q;have hw':(match slot U j with
  |some (.lst _)=>we U (λr U2=>match r,slot U2 j with
   |.v (.lst m),some (.lst l)=>l.length+m.length<=big/\P (.v (.sh .non)) (U2.set j (some (.lst (l++m))))
   |_,_=>False) PX
  |_=>False):=hw
 cases qs:slot U j with
 |none=>rw[qs]at hw';exact hw'.elim
 |some s0=>
  cases s0 with
  |lst l0=>
   rw[qs]at hw';refine⟨F,G,U,λy U1=>y=.loc j/\U1=U,PX,zW,by unfold zx;rw[qs];exact⟨rfl,rfl⟩,λy U1 o' F1 H1 hk s1 r1 rv=>?_,hx⟩;obtain⟨rfl,rfl⟩:=hk;have l1:=aS r1;have hZ:Z[j]?=some (some o'):=rv;have r2:=r1.drop l1;obtain⟨v',fp,e1,sr⟩:=r2.at qs;rw[hZ]at e1;have e2:o'=v':=by simpa using e1
   subst e2;cases sr with
   |lst hD rl=>
    rename_i a xs fl;refine⟨.inl ⟨rfl,_,bR.of hD⟩,F1,G,U1,λrs U2=>match rs with|[r]=>(match r,slot U2 j with|.v (.lst m),some (.lst l)=>l.length+m.length<=big/\P (.v (.sh .non)) (U2.set j (some (.lst (l++m))))|_,_=>False)|_=>False,PX,r2,hw',λrs U2 vs F2 H2 hk s2 r3 hl rvs=>?_,hx.grow s1⟩;match rs,vs,rvs,r3,hk with
    |[r],[v],rvs,r3,hk=>
     dsimp only at hk;split at hk
     .rename_i m l ql;obtain⟨u,fq,eu,su⟩:=r3.at (i:=U2.length) (s:=.lst m) Av;rw[hl,getElem?_append_right (zc _),sub_self]at eu;have e3:v=u:=by simpa using eu
      subst e3;cases su with
      |@lst b zs _ _ hB rb=>obtain⟨ys,zs',hD2,hB2,zX,hlen2,r5⟩:=Rel.extend (B:=b) r3 ql hZ;exact⟨a,b,ys,zs',rfl,rfl,hD2,hB2,by rw[zX,hlen2,zp];exact le_trans hk.1 (by decide),hok _ _ .non F2 _ hk.2 (s1.trans s2) (r5.push .non) trivial⟩
     .exact hk.elim
    |[],_,_,_,hk=>exact hk.elim
    |[_],[],rvs,_,_=>exact rvs.elim
    |[_],_::_::_,rvs,_,_=>exact rvs.2.elim
    |_::_::_,_,_,_,hk=>exact hk.elim
  |_=>rw[qs]at hw';exact hw'.elim
open AutoSeq1 (wpAny_loadPart')
def QC(hu:s.heap.IsTupleIter u z n)(hz:s.heap.IsTuple z xs)(hv:xs[n]?=some v)(k:∀h',h'.IsTupleIter u z (n+1)->Heap.SameBut u s.heap h'->Q v {s with heap:=h'}):
  wpAny (model prog w) A (Builtin.SmallTypes.nextOf (.ref u)) Q E s:=by
 obtain⟨ob,e0,e1,e2⟩:=id hu;obtain⟨zb,f0,_,zn,f2⟩:=hz;unfold Builtin.SmallTypes.nextOf;apply qa;refine wpAny_callSpecial?_slot (name:=Str.ofString "__next__") hu.typeIs F.slot_tuple_iterator_next (zo F.slot_tuple_iterator_next hu.typeIs F.entry_tuple_iterator_next ?_ (F.args_tuple_iterator_next_1 _));show wpAny _ _ (field (.ref u) 0>>=_) _ _ _;apply qa;refine zk e0 e2 (x:=.ref z) rfl ?_;show wpAny _ _ (if(Value.ref z==Value.none)=true then _ else _) _ _ _;rw[q9 (show¬((Value.ref z==Value.none)=true) from qY)];show wpAny _ _ (field (.ref u) 1>>=_) _ _ _;apply qa;refine zk e0 e2 (x:=.int n 0) rfl ?_;show wpAny _ _ (seqItems? (.ref z)>>=_) _ _ _;apply qa;refine wpAny_seqItems f0 f2 ?_;simp only[qX,hv];apply qa;refine wpAny_setField e0 e2 (by simp) (qb ⟨v,rfl,qb (k _ ⟨_,zj _ e0 (Obj.isFreed_of_fields (Obj.data_mapFields e2 _)),(Obj.cls_mapFields ..).trans e1,?_⟩ (Heap.SameBut.update ..))⟩);rw[Obj.data_mapFields e2];simp[rawInt]
def OI(hh:A.handled=none)(hu:s.heap.IsTupleIter u z n)(hz:s.heap.IsTuple z xs)(hv:xs[n]?=none)
  (k:∀h' e,Heap.ExtBut u s.heap h'->(∃o,h'.get? e=some o/\o.cls=.type "StopIteration")->E (.ref e) {s with heap:=h'}):wpAny (model prog w) A (Builtin.SmallTypes.nextOf (.ref u)) Q E s:=by
 obtain⟨ob,e0,e1,e2⟩:=id hu;obtain⟨zb,f0,_,zn,f2⟩:=hz;unfold Builtin.SmallTypes.nextOf;apply qa;refine wpAny_callSpecial?_slot (name:=Str.ofString "__next__") hu.typeIs F.slot_tuple_iterator_next (zo F.slot_tuple_iterator_next hu.typeIs F.entry_tuple_iterator_next ?_ (F.args_tuple_iterator_next_1 _));show wpAny _ _ (field (.ref u) 0>>=_) _ _ _;apply qa;refine zk e0 e2 (x:=.ref z) rfl ?_;show wpAny _ _ (if(Value.ref z==Value.none)=true then _ else _) _ _ _;rw[q9 (show¬((Value.ref z==Value.none)=true) from qY)];show wpAny _ _ (field (.ref u) 1>>=_) _ _ _;apply qa;refine zk e0 e2 (x:=.int n 0) rfl ?_;show wpAny _ _ (seqItems? (.ref z)>>=_) _ _ _;apply qa;refine wpAny_seqItems f0 f2 ?_;simp only[qX,hv];apply qa;apply wpAny_rule;apply qa;refine wpAny_setField e0 e2 (by simp) ?_;show wpAny _ _ (newExc (.type "StopIteration") []>>=_) _ _ _;apply qa;simp only[newExc,newTuple];apply qa;refine zm ?_ (by size_fits);refine qa (m:=firstArgMember _ _) (zu (a:=Value.none) (by first|rfl|(simp only[firstArgMember];rfl)) (zm ?_ (by size_fits)));simp only[raiseNew];apply qa;refine wpAny_handled ?_;first|rw[show A.in1.handled=none from hh]|rw[hh]
 exact qa (qb (wpAny_throw (k _ _ (((Heap.SameBut.update ..).extBut.push _).push _) ⟨_,qd _ rfl,rfl⟩)))
def Vq{prog:Program}{w:World}{A:Around}(hh:A.handled=none)(u z:Addr)(hne:z≠u)(xs:Array Value):
  Draws prog w A u [u,z] xs.size (λi v=>xs[i]?=some v) (λi h=>h.IsTupleIter u z i/\h.IsTuple z xs) where
 live:=λ_ _ st=>let⟨o,e,_⟩:=st.1;⟨o,e⟩
 frame:=λ_ _ _ st k=>⟨st.1.at λo e=>k u (by simp) o e,by obtain⟨o,e,r⟩:=st.2;exact⟨o,k z (by simp) o e,r⟩⟩
 item:=λi s Q E hi st k=>QC st.1 st.2 (v:=xs[i]) (by simp[hi]) λh' a b=>k _ h' s.toks (by simp[hi]) ⟨a,by obtain⟨o,e,r⟩:=st.2;exact⟨o,b.extBut _ _ hne e,r⟩⟩ b
 done:=λs Q E st k=>OI hh st.1 st.2 (by simp) k
inductive SrcI(P:Program)(w:World)(A:Around)(it:Addr)(J:It)(tn:Nat->Heap->Prop)(i:Nat)(s:Shared)(H:Hp):Prop
 |mk (fp:List Addr) (n:Nat) (Pr:Nat->Value->Prop) (Sx:Nat->Heap->Prop):Draws P w A it fp n Pr Sx->Sx i s.heap->i<n->it∈fp->(∀b∈fp,b=it\/(H b≠none/\∃o,s.heap.get? b=some o/\o.cls=.type "tuple")\/∃o,s.heap.get? b=some o/\o.cls=.type "list")->(∀v,Pr i v->∃x,zL x v/\J.yld i H x H)->(∀h',Sx (i+1) h'->tn (i+1) h')->SrcI P w A it J tn i s H
structure AW(P:Program)(w:World)(K:W.Frag)(J:It)(it:Addr)(tn:Nat->Heap->Prop):Prop where
 live:∀i h,tn i h->∃o,h.get? it=some o/\(∀v,o.data≠.cell v)/\o.cls≠.type "enumerate"/\o.cls≠.type "zip"/\o.cls≠.type "tuple"/\o.cls≠.type "list"
 keep:∀i h h',tn i h->(∀o,h.get? it=some o->h'.get? it=some o)->tn i h'
 yl:∀i H x H',J.yld i H x H'->H'=H
 item:∀(X:Cx),X.prog=P->X.w=w->X.K=K->∀(i:Nat)(zU:List (Addr×Obj))(s:Shared)(Z:St)(H:Hp)(A:Around),A.handled=none->Inv X zU Z H s->tn i s.heap->H it=none->J.go i H->
  SrcI P w A it J tn i s H
 done:∀(X:Cx),X.prog=P->X.w=w->X.K=K->∀(i:Nat)(zU:List (Addr×Obj))(s:Shared)(Z:St)(H:Hp)(A:Around),A.handled=none->Inv X zU Z H s->tn i s.heap->J.stop i H->∀(Q:zw)(E:zw),
  (∀h' e,Heap.ExtBut it s.heap h'->(∃o,h'.get? e=some o/\o.cls=.type "StopIteration")->E (.ref e) {s with heap:=h'})->wpAny (model P w) A (Builtin.SmallTypes.nextOf (.ref it)) Q E s
def NQ{P:Program}{w:World}{K:W.Frag}(a it:Addr):AW P w K (DN K a) it (λi h=>h.IsListIter it a i) where
 live:=λi h st=>by obtain⟨o,e,c,d⟩:=st;exact⟨o,e,λv z=>by(rw[d]at z;cases z),by rw[c];decide,by rw[c];decide,by rw[c];decide,by rw[c];decide⟩
 keep:=λi h h' st k=>st.at k
 yl:=λi H x H' h=>h.1
 item:=by
  intro X hP hw hK i zU s Z H A hh I st hn hg;subst hP hw hK;obtain⟨xs,x,hq,hx⟩:=hg;obtain⟨zY,rv,p,hz⟩:=I.list hq;obtain⟨lo,l1,l2,l3⟩:=id p.isList;have hne:a≠it:=λz=>by obtain⟨o,e,c,d⟩:=id st;rw[<-z,l1]at e;cases e;rw[l2]at c;exact absurd c (by decide)
  have hl:=rv.length;have hi:i<zY.toArray.size:=by have:=(qh.mp hx).1;rw[qt];lia
  refine⟨_,_,_,_,Draws.list hh it a hne zY.toArray,⟨st,p.isList⟩,hi,m1,λb hb=>?_,λv hv=>?_,λh' z=>z.1⟩
  .simp at hb;rcases hb with rfl|rfl
   .exact .inl rfl
   .exact .inr (.inr ⟨lo,l1,l2⟩)
  .obtain⟨u,hu,ru⟩:=rv.get hx;have:u=v:=by
    have hv':zY[i]?=some v:=by simpa using hv
    rw[hu]at hv';exact qg hv'
   subst this;exact⟨x,ru,rfl,λys hy=>by rw[I.list_inj hy hq];exact hx⟩
 done:=by intro X hP hw hK i zU s Z H A hh I st hg Q E k;subst hP hw hK;obtain⟨xs,hq,hx⟩:=hg;obtain⟨zY,rv,p,hz⟩:=I.list hq;have hl:=rv.length;exact wpAny_nextOf_list_end hh st p.isList (by simp;lia) k
def Hr(a:Addr):It:=⟨λi H=>∃xs x,H a=some (.tup xs)/\xs[i]?=some x,λi H x H'=>H'=H/\∀xs,H a=some (.tup xs)->xs[i]?=some x,λi H=>∃xs,H a=some (.tup xs)/\xs.length<=i⟩
def Me{P:Program}{w:World}{K:W.Frag}(a it:Addr):AW P w K (Hr a) it (λi h=>h.IsTupleIter it a i) where
 live:=λi h st=>by obtain⟨o,e,c,d⟩:=st;exact⟨o,e,λv z=>by(rw[d]at z;cases z),by rw[c];decide,by rw[c];decide,by rw[c];decide,by rw[c];decide⟩
 keep:=λi h h' st k=>st.at k
 yl:=λi H x H' h=>h.1
 item:=by
  intro X hP hw hK i zU s Z H A hh I st hn hg;subst hP hw hK;obtain⟨xs,x,hq,hx⟩:=hg;obtain⟨zY,rv,p,hz⟩:=I.tuple (bP.of hq);obtain⟨lo,l1,l2,l3⟩:=id p;have hne:a≠it:=λz=>by rw[z,hn]at hq;cases hq
  have hl:=rv.length;have hi:i<zY.toArray.size:=by grind
  refine⟨_,_,_,_,Vq hh it a hne zY.toArray,⟨st,p⟩,hi,m1,λb hb=>?_,λv hv=>?_,λh' z=>z.1⟩
  .grind
  .obtain⟨u,hu,ru⟩:=rv.get hx;have:u=v:=by grind
   subst this;exact⟨x,ru,rfl,λys hy=>by rw[hq]at hy;cases hy;exact hx⟩
 done:=by intro X hP hw hK i zU s Z H A hh I st hg Q E k;subst hP hw hK;obtain⟨xs,hq,hx⟩:=hg;obtain⟨zY,rv,p,hz⟩:=I.tuple (bP.of hq);have hl:=rv.length;exact OI hh st p (by simp;lia) k
def MN{P:Program}{w:World}{K:W.Frag}(it:Addr)(x:Str)(t:Tok):AW P w K (Dl x) it (λi h=>h.IsStrIter it (strIterType x) x t i) where
 live:=λi h st=>by
  obtain⟨o,e,c,d⟩:=st;have hc:o.cls=.type "str_ascii_iterator"\/o.cls=.type "str_iterator":=by
   rw[c];unfold strIterType;split
   .exact .inl rfl
   .exact .inr rfl
  grind
 keep:=λi h h' st k=>by obtain⟨o,e,r⟩:=st;exact⟨o,k o e,r⟩
 yl:=λi H x H' h=>h.1
 item:=by
  intro X hP hw hK i zU s Z H A hh I st hn hg;subst hP hw hK;have fin:∀v:Value,(∃c u,x.cps[i]?=some c/\v=.str ⟨#[c]⟩ u)->∃y,zL y v/\(Dl x).yld i H y H:=λv⟨c,u,e,ev⟩=>⟨.str ⟨#[c]⟩,by rw[ev];exact⟨u,rfl⟩,rfl,c,e,rfl⟩
  cases ha:x.cps.all (·<128)
  .have e:strIterType x="str_iterator":=by unfold strIterType;rw[ha];rfl
   rw[e]at st⊢;exact⟨_,_,_,_,Draws.strWide hh it x t,st,hg,m1,λb hb=>.inl (by simpa using hb),fin,λ_ z=>z⟩
  .have e:strIterType x="str_ascii_iterator":=by unfold strIterType;rw[ha];rfl
   rw[e]at st⊢;exact⟨_,_,_,_,Draws.strAscii hh it x t,st,hg,m1,λb hb=>.inl (by simpa using hb),fin,λ_ z=>z⟩
 done:=by
  intro X hP hw hK i zU s Z H A hh I st hg Q E k;have hn:x.cps[i]?=none:=by have:x.cps.size<=i:=hg;simp[this]
  cases ha:x.cps.all (·<128)
  .have e:strIterType x="str_iterator":=by unfold strIterType;rw[ha];rfl
   rw[e]at st;exact wpAny_nextOf_wide_end hh st hn k
  .have e:strIterType x="str_ascii_iterator":=by unfold strIterType;rw[ha];rfl
   rw[e]at st;exact wpAny_nextOf_ascii_end hh st hn k
end FL
namespace FL
def dG(k:Nat):List D->List D
 |[]=>[]
 |d::l=>.tup [.int k,d]::dG (k+1) l
def tE(a:WE):WI:=λU Q E=>a U (λr U1=>zG (give r U1) λp=>zG (items p.1.toD) λl=>Q (dG 0 l) p.2) E
def eV:List D->List D->List D
 |d::l,e::m=>.tup [d,e]::eV l m
 |_,_=>[]
def wN(a b:WE):WI:=λU Q E=>a U (λr U1=>b U1 (λt U2=>zG (give r U2) λp=>zG (give t p.2) λq=>zG (items p.1.toD) λl=>zG (items q.1.toD) λm=>Q (eV l m) q.2) E) E
def NZ:∀(l:List D)(k i:Nat)(d:D),(dG k l)[i]?=some d->∃e,l[i]?=some e/\d=.tup [.int ((k+i:Nat):Int),e]
 |[],_,_,_,h=>by simp[dG]at h
 |e::l,k,0,d,h=>by simp[dG]at h;exact⟨e,rfl,by simpa using h.symm⟩
 |e::l,k,i+1,d,h=>by obtain⟨e',h1,h2⟩:=NZ l (k+1) i d (by simpa[dG] using h);exact⟨e',by simpa using h1,by rw[h2];congr 4;lia⟩
def NF:∀(l:List D)(k:Nat),(dG k l).length=l.length
 |[],_=>rfl
 |_::l,k=>by simp[dG,NF l]
def MU:∀(l m:List D)(i:Nat)(d:D),(eV l m)[i]?=some d->∃e f,l[i]?=some e/\m[i]?=some f/\d=.tup [e,f]
 |[],_,_,_,h=>by simp[eV]at h
 |_::_,[],_,_,h=>by simp[eV]at h
 |e::l,f::m,0,d,h=>by simp[eV]at h;exact⟨e,f,rfl,rfl,h.symm⟩
 |e::l,f::m,i+1,d,h=>by obtain⟨e',f',h1,h2,h3⟩:=MU l m i d (by simpa[eV] using h);exact⟨e',f',by simpa using h1,by simpa using h2,h3⟩
def NS:∀(l m:List D),(eV l m).length=min l.length m.length
 |[],_=>by simp[eV]
 |_::_,[]=>by simp[eV]
 |_::l,_::m=>by simp[eV,NS l m]
end FL
namespace FL
open PySem PySem.Spec PyProof.Rows L2
open AutoSeq1 (wpAny_loadPart')
def Er{ch:List Addr}(I:Inv X zU Z H s)(hf:∀b∈ch,eB X zU H b)(k:∀b o,b∉ch->s.heap.get? b=some o->h'.get? b=some o):Inv X zU Z H {s with heap:=h',toks:=t'}:=by
 have nit:∀b u,H b=some u->b∉ch:=λb u e z=>by rw[(hf b z).1]at e;cases e
 refine I.step (g':=s.gens) (d':=s.drawn) (ch:=ch) (λb hb=>?_) (λb o _ _ hc e _=>k b o hc e) (λb o _ _ hc e _=>⟨o.slots,k b o hc e⟩) (λ_ _ _ _ n=>n)
  (λb o hc e=>⟨o,k b o hc e⟩) (λ_ _ e=>e) (λ_ _ _ e=>e) (λb ps e=>⟨#[],by rw[e];simp⟩) (λm hm=>?_) (λb u e=>?_) I.bare
 .obtain⟨f0,f1,f2,f3,f4,f5⟩:=hf b hb;exact⟨f3,f1,f4,f5⟩
 .obtain⟨o,es,ep,ho,r⟩:=hm;exact⟨o,es,ep,k _ o (λz=>(hf _ z).2.1 rfl) ho,r⟩
 .refine(I.hok b u e).stay (λc v hc q=>k c v ?_ q) (λ_ q=>q) λ_ _ q=>q;grind
def TH(f:eB X zU H b)(h:b≠T):eB X zU (L2.upd H T o) b:=⟨by rw[bJ h];exact f.1,f.2⟩
def Oy{ch:List Addr}(I:Inv X zU Z H s)(hf:∀b∈ch,eB X zU H b)(hl:∀b∈ch,b<s.heap.objs.size)(hz:xs.length<=sizeLine)(rv:zR xs us)
  (hT:∃o,h'.get? s.heap.objs.size=some o/\o.cls=.type "tuple"/\o.dict=none/\∃n,o.data=.seq us.toArray n)(k:∀b o,b∉ch->s.heap.get? b=some o->h'.get? b=some o):
  Inv X zU Z (L2.upd H s.heap.objs.size (.tup xs)) {s with heap:=h',toks:=t'}:=by
 obtain⟨o,e,c,nd,n,d⟩:=hT;have hfree:o.isFreed=false:=by obtain⟨oc,od,odt,osl⟩:=o;have d':odt=.seq us.toArray n:=d;subst d';rfl
 have I1:Inv X zU Z (L2.upd H s.heap.objs.size (.tup xs)) {s with heap:=s.heap.push o}:=I.laid (t':=s.toks) (λb u q=>qc _ q) (zc _) ⟨⟨hz,λo' q=>by rw[qd _ hfree]at q;cases q;exact nd⟩,us,rv,⟨o,qd _ hfree,c,n,d⟩⟩;have I2:=Er I1 (h':=h') (t':=t') (ch:=ch) (λb hb=>TH (hf b hb) (ne_of_lt (hl b hb))) λb u hb q=>by
  rcases Heap.get?_push_cases q with⟨rfl,rfl⟩|q
  .exact e
  .exact k b u hb q
 exact I2
def DO(J:It):It:=⟨J.go,λi H x H'=>∃p y,H p=none/\J.yld i H y H/\x=.ref p/\H'=upd H p (.tup [.int i,y]),J.stop⟩
def Um(he:IsEnum s.heap e it i old)(hd:∀(Q:zw)(E:zw),(∀h' x,Heap.ExtBut it s.heap h'->(∃o,h'.get? x=some o/\o.cls=.type "StopIteration")->E (.ref x) {s with heap:=h'})->wpAny (model prog w) A.in1 (Builtin.SmallTypes.nextOf (.ref it)) Q E s)
  (hQ:∀h',Heap.ExtBut it s.heap h'->Q none {s with heap:=h'}):wpAny (model prog w) A (pyNext (.ref e)) Q E s:=by
 have ty:s.TypeIs (.ref e) "enumerate":=⟨_,he,rfl⟩
 unfold pyNext;apply qa;apply wpAny_attempt;refine wpAny_callSpecial?_slot (name:=Str.ofString "__next__") ty F.slot_enumerate_next (zo F.slot_enumerate_next ty F.entry_enumerate_next ?_ (F.args_enumerate_next_1 _));show wpAny _ _ (field (.ref e) 2>>=_) _ _ _;apply qa;refine zk he rfl (x:=.ref it) rfl (qa (hd _ _ λh' x hx1 hx2=>?_));obtain⟨o,ho,hc⟩:=hx2;exact qa (wpAny_isInstance (T:="StopIteration") (b:=true) ⟨o,ho,hc⟩ isSubtype_stop (qb (hQ _ hx1)))
def VR{P:Program}{w:World}{K:W.Frag}{J:It}{it e:Addr}{tn:Nat->Heap->Prop}{elts:List Expr}{k:Nat}{pos:Pos}(S:AW P w K J it tn)(hei:e≠it):
  kY P w K (.Tuple elts k pos) (DO J) [e,it] e (λi h=>(∃old,IsEnum h e it i old)/\tn i h) where
 mem:=m1
 obj:=λi h st b hb=>by
  simp at hb;rcases hb with rfl|rfl
  .obtain⟨old,q⟩:=st.1;exact⟨_,q,λv z=>by cases z⟩
  .obtain⟨o,h1,h2,_⟩:=S.live i h st.2;exact⟨o,h1,h2⟩
 keep:=λi h h' st kk=>by obtain⟨⟨old,q⟩,t⟩:=st;exact⟨⟨old,kk e (m1) _ q⟩,S.keep i h h' t λo q=>kk it (m2) o q⟩
 item:=by
  intro X hP hw hK hc i zU s Z H E I hf st hg;obtain⟨⟨old,he⟩,ht⟩:=st;have hh:X.A.in1.handled=none:=I.ok.hd hc;obtain⟨fp,n,Pr,Sx,D,hS,hin,hif,hfp,hv,hs⟩:=S.item X hP hw hK i zU s Z H X.A.in1 hh I ht (hf it (m2)).1 hg;have hef:e∉fp:=λz=>by grind
  have hel:e<s.heap.objs.size:=qe he;obtain⟨oi,hoi,_⟩:=S.live i _ ht;have hil:it<s.heap.objs.size:=qe hoi;subst hP hw hK;refine wpAny_pyNext_enum_itemD (A:=X.A) D he hS hin hei hef λx h1 tk hPx ho hS1 hT hsz hk=>?_;obtain⟨y,ry,hy⟩:=hv x hPx;refine⟨_,rfl,wpAny_letOwnedTupleGo_enum ho λh2 he2 sb=>?_⟩;have ne:s.heap.objs.size≠e:=ne_of_gt hel;have I2:Inv X zU Z (upd H s.heap.objs.size (.tup [.int i,y])) {s with heap:=h2,toks:=tk+1}:=Oy I (ch:=[e,it]) (us:=[.int i tk,x]) hf (λb hb=>by
    simp at hb;rcases hb with rfl|rfl
    .exact hel
    .exact hil) (by show 2<=_;decide) (.cons ⟨_,rfl⟩ (.cons ry .nil)) ⟨_,sb.extBut _ _ ne hT,rfl,rfl,_,rfl⟩ λb o hb q=>by
   simp at hb;exact sb.extBut _ _ hb.1 (hk b o hb.1 hb.2 q)
  refine⟨.ref s.heap.objs.size,_,I2,rfl,⟨s.heap.objs.size,y,I.hok.fresh (zc _),hy,rfl,rfl⟩,⟨⟨x,by simpa using he2⟩,S.keep _ _ _ (hs _ hS1) λo q=>sb.extBut _ _ (Ne.symm hei) q⟩,λb hb=>?_⟩;simp at hb;rcases hb with rfl|rfl
  .rw[bJ (ne_of_lt hel)];exact(hf _ (m1)).1
  .rw[bJ (ne_of_lt hil)];exact(hf _ (m2)).1
 done:=by intro X hP hw hK hc i zU s Z H E I hf st hg;obtain⟨⟨old,he⟩,ht⟩:=st;have hh:X.A.in1.handled=none:=I.ok.hd hc;refine Um he (S.done X hP hw hK i zU s Z H X.A.in1 hh I ht hg) λh' hx=>⟨rfl,Er I (t':=s.toks) (ch:=[it]) (λb hb=>hf b (by simp at hb;simp[hb])) λb o hb q=>hx b o (by simpa using hb) q⟩
 self:=λA i s Q E st h=>by obtain⟨⟨old,he⟩,_⟩:=st;exact wpAny_pyIter_enum he h
abbrev vG(h:Heap)(z:Addr):Heap:=(h.push {cls:=.type "tuple_iterator",data:=.fields #[.ref z,.int 0 0]}).push {cls:=.type "enumerate",data:=.fields #[.none,.bool false,.ref h.objs.size,rawInt 0,.none,.none]}
set_option maxHeartbeats 1000000 in
def Vy(z:Addr)(xs:Array Value)(n:Nat)(dd:Option Addr)(sl:Array (Option Value)):Meets (Builtin.«enumerate.__new__» ⟨[.type "enumerate",.ref z],[]⟩) (λ_ R s=>s.heap.get? z=some {cls:=.type "tuple",dict:=dd,data:=.seq xs n,slots:=sl}/\
  R (.ok (.ret (.ref (s.heap.objs.size+1)))) {s with heap:=vG s.heap z}):=
 .of_wp λprog w A R s hyp=>by
  obtain⟨hp,g,d,tk,os⟩:=s;obtain⟨hl,hr⟩:=hyp;have ss:=sub_enumerate;have hz:(hp.push {cls:=.type "tuple_iterator",data:=.fields #[.ref z,.int 0 0]}).objs.size=hp.objs.size+1:=Heap.size_push ..;have hr':R (.ok (.ret (.ref (hp.push {cls:=.type "tuple_iterator",data:=.fields #[.ref z,.int 0 0]}).objs.size))) {heap:=vG hp z,gens:=g,drawn:=d,toks:=tk,os:=os}:=by rw[hz];exact hr
  have hT:Heap.IsTuple (Shared.heap ⟨hp,g,d,tk,os⟩) z xs:=⟨_,hl,rfl,n,rfl⟩
  wp_walk using wpAny_loadPart' hl
  refine wpAny_stack_any λst=>qb ?_;split
  .rename_i c _ _ _ _ _;cases(c==Value.type "enumerate")<;>(wp_walk using wpAny_loadPart' hl,wpAny_pyIter_tuple hT;exact⟨_,rfl,hr'⟩)
  .wp_walk using wpAny_loadPart' hl,wpAny_pyIter_tuple hT
   exact⟨_,rfl,hr'⟩
def Vn(hT:s.heap.IsTuple z xs)
  (k:∀h',IsEnum h' (s.heap.objs.size+1) s.heap.objs.size 0 .none->h'.IsTupleIter s.heap.objs.size z 0->(∀b o,s.heap.get? b=some o->h'.get? b=some o)->Q (.ref (s.heap.objs.size+1)) {s with heap:=h'}):
  wpAny (model prog w) A (call (.type "enumerate") [.ref z]) Q E s:=by
 obtain⟨⟨c,dd,dt,sl⟩,hl,hc,n,hd⟩:=hT;have e1:c=.type "tuple":=hc;have e2:dt=.seq xs n:=hd;subst e1 e2;refine callType_new F.called_enumerate (by decide) (F.typeCall_enumerate_1 _) (F.newCall_enumerate_1 _) (λobj=>F.args_object_init_2 obj _) F.entry_enumerate_new (Vy z xs n dd sl) ⟨hl,?_⟩;have hz:(s.heap.push {cls:=.type "tuple_iterator",data:=.fields #[.ref z,.int 0 0]}).objs.size=s.heap.objs.size+1:=Heap.size_push ..;have he:IsEnum (vG s.heap z) (s.heap.objs.size+1) s.heap.objs.size 0 .none:=by have:=qd (s.heap.push {cls:=.type "tuple_iterator",data:=.fields #[.ref z,.int 0 0]}) (o:={cls:=.type "enumerate",data:=.fields #[.none,.bool false,.ref s.heap.objs.size,rawInt 0,.none,.none]}) rfl;rw[hz]at this;exact this
 exact⟨⟨_,he,rfl⟩,k _ he ⟨_,qc _ (qd _ rfl),rfl,rfl⟩ λb o x=>qc _ (qc _ x)⟩
def FK(K:W.Frag)(tl:TA):TI:=λZ H R=>tl Z H λvs H1=>(∃a,vs=[.ref a]/\(∃xs,bR K H1 a xs)/\R (DO (DN K a)) H1)\/(∃a,vs=[.ref a]/\(∃xs,H1 a=some (.tup xs))/\R (DO (Hr a)) H1)\/∃x,vs=[.str x]/\R (DO (Dl x)) H1
def Sj(hc:X.calm=true)(hg:Gl X "enumerate")(hm:X.mg "enumerate"=none)(hv:bootBuiltins "enumerate"=some (.type "enumerate"))(hl:PA X [a] tl)
  (hs:starEach [a] X.env=[(false,eval a X.env)]:=by rfl):PI X (.Tuple elts kk tpos) (.Call (.Name "enumerate" p) [a] [] pos) (FK X.K tl):=by
 intro zU s Z H R I h;refine wpAny_Call_Name_kw (Eb I hg hm hv ?_ (by decide) (by decide));refine PyProof.Rows.callWith_type1 (bK (hl pos zU s Z H _ I h) λus s1 zq=>?_) hs rfl;obtain⟨vs,H1,I1,r1,q1⟩:=zq;have fin:∀{J:It}{tn:Nat->Heap->Prop}{h':Heap},AW X.prog X.w X.K J s1.heap.objs.size tn->R (DO J) H1->IsEnum h' (s1.heap.objs.size+1) s1.heap.objs.size 0 .none->tn 0 h'->(∀b o,s1.heap.get? b=some o->h'.get? b=some o)->
   wpAny (model X.prog X.w) X.A (pyIter (.ref (s1.heap.objs.size+1))) (Gb X zU Z (.Tuple elts kk tpos) R) X.xe {s1 with heap:=h'}:=λ{J tn h'} S hR he ht kp=>by
  refine wpAny_pyIter_enum (s:={s1 with heap:=h'}) he ?_;refine⟨s1.heap.objs.size+1,[s1.heap.objs.size+1,s1.heap.objs.size],_,_,H1,rfl,I1.kept (t':=s1.toks) kp,VR S (Nat.succ_ne_self _),⟨⟨_,he⟩,ht⟩,λb hb=>?_,hR⟩;simp at hb;rcases hb with rfl|rfl
  .exact I1.fpOk (le_succ _) (I1.hok.fresh (le_succ _))
  .exact I1.fpOk (zc _) (I1.hok.fresh (zc _))
 rcases q1 with⟨b,e,⟨xs,hq⟩,q⟩|⟨b,e,⟨xs,hq⟩,q⟩|⟨x,e,q⟩
 .subst e;obtain⟨u,rfl,ru⟩:=vals1 r1;cases ru;obtain⟨zY,rv,pl,hz⟩:=I1.list hq;exact call_enumerate_list pl.isList λh' he hi _ kp=>fin (NQ b _) q he hi kp
 .subst e;obtain⟨u,rfl,ru⟩:=vals1 r1;cases ru;obtain⟨zY,rv,pl,hz⟩:=I1.tuple (bP.of hq);exact Vn pl λh' he hi kp=>fin (Me b _) q he hi kp
 .subst e;obtain⟨u,rfl,ru⟩:=vals1 r1;obtain⟨t,rfl⟩:=ru;exact call_enumerate_str λh' he hi _ kp=>fin (MN _ x t) q he hi kp
def IJ{K:W.Frag}(hy:∀i H x H',J.yld i H x H'->H'=H)(h:fW K J l F0):fW K (DO J) (dG 0 l) F0:=λi U Z F G H sm zW=>by obtain⟨h1,h2⟩:=h i U Z F G H sm zW;refine⟨λd hd=>?_,λhl=>h2 (by rw[NF]at hl;exact hl)⟩;obtain⟨e,he,rfl⟩:=NZ l 0 i d hd;obtain⟨g1,g2⟩:=h1 e he;refine⟨g1,λx H' zq=>?_⟩;obtain⟨p,y,hp,hyl,ex,eH⟩:=zq;subst ex eH;obtain⟨F',s1,r1,rp⟩:=g2 y H hyl;obtain⟨f0,_,_⟩:=r1.free hp;refine⟨upd F' p (.tup [.int i,y]),s1.trans (zH.upd f0),r1.newF hp,?_⟩;have:=aN.tup (K:=K) (F:=upd F' p (.tup [.int i,y])) (a:=p) (xs:=[.int i,y]) (ds:=[.int i,e]) gC (.cons (.int i) (.cons (rp.mono (zH.upd f0)) .nil));simpa using this
def MY{K:W.Frag}{a:Addr}(e:F0 a=some (.tup xs))(r:zS K F0 xs l):fW K (Hr a) l F0:=λi U Z F G H sm zW=>by have e':H a=some (.tup xs):=(sm.trans zW.fr) _ _ e;refine⟨λd hd=>?_,λh=>⟨xs,e',by rw[r.len];exact h⟩⟩;obtain⟨x,hx,rx⟩:=r.get hd;refine⟨⟨xs,x,e',hx⟩,λy H' hy=>?_⟩;obtain⟨rfl,hy⟩:=hy;have:x=y:=qg (hx.symm.trans (hy xs e'));subst this;exact⟨F,zH.refl F,zW,rx.mono sm⟩
def Xe:bootBuiltins "enumerate"=some (.type "enumerate"):=by decide+kernel
def SD(hc:X.calm=true)(hg:Gl X "enumerate")(hm:X.mg "enumerate"=none)(hv:bootBuiltins "enumerate"=some (.type "enumerate"))(ha:FE X a we)(hs:starEach [a] X.env=[(false,eval a X.env)]:=by rfl):
  FI X (.Tuple elts kk tpos) (.Call (.Name "enumerate" p) [a] [] pos) (tE we):=λpn xe hp=>by
 refine PI.imp (Sj (X:=wp X pn xe) hc hg hm hv (aB ha aI hs pn xe hp) hs) λZ H R q=>?_;obtain⟨F,G,U,P,PX,zW,hw,hok,hx⟩:=q;refine⟨F,G,U,λrs U1=>match rs with|[r]=>(zG (give r U1) λp=>zG (items p.1.toD) λl=>P (dG 0 l) p.2)|_=>False,PX,zW,hw,λrs U1 vs F1 H1 hk s1 r1 hl rv=>?_,hx⟩;match rs,vs,rv,r1,hk with
 |[r],[v],rv,r1,hk=>
  dsimp only at hk;obtain⟨⟨s,U2⟩,eg,hk⟩:=bL hk;obtain⟨l,el,hk⟩:=bL hk;obtain⟨F2,s2,l2,r2⟩:=dF (U':=[]) (Z':=[]) r1 hl rv.1 eg;obtain⟨F3,s3,rp,r3⟩:=Rel.giveD (U:=U2) (vs:=[v]) (ss:=[s]) r2 (l2.trans hl);have sm:=s1.trans (s2.trans s3);cases rp with
  |cons a0 b0=>
   have el':items s.toD=some l:=el;generalize s.toD=d at a0 el';cases a0 with
   |lst e0 r0=>cases el';exact .inl ⟨_,rfl,⟨_,bR.mono r3.fr e0⟩,hok _ U2 F3 H1 _ hk sm r3 (IJ (λ_ _ _ _ z=>z.1) (IM e0 r0))⟩
   |tup e0 r0=>cases el';exact .inr (.inl ⟨_,rfl,⟨_,r3.fr _ _ e0⟩,hok _ U2 F3 H1 _ hk sm r3 (IJ (λ_ _ _ _ z=>z.1) (MY e0 r0))⟩)
   |str e0 z0=>cases el';exact .inr (.inr ⟨_,rfl,hok _ U2 F3 H1 _ hk sm r3 (IJ (λ_ _ _ _ z=>z.1) (Iy e0))⟩)
   |_=>cases el'
 |[],_,_,_,hk=>exact hk.elim
 |[_],[],rv,_,_=>exact rv.elim
 |[_],_::_::_,rv,_,_=>exact rv.2.elim
 |_::_::_,_,_,_,hk=>exact hk.elim
end FL
namespace FL
open PySem PySem.Spec PyProof.Rows L2
structure Pl(z TI TO i1 i2:Addr)(f1 f2:List Addr):Prop where
 a1:TI≠z
 a2:TO≠z
 a3:TI≠TO
 a4:TI≠i1
 a5:TI≠i2
 m1:i1∈f1
 m2:i2∈f2
 z1:z∉f1
 z2:z∉f2
 o1:TO∉f1
 o2:TO∉f2
 c1:i1∉f2
 c2:i2∉f1
section
variable{z TI TO i1 i2:Addr}
def lC{f:List Addr}(ha:a∈f)(hb:b∉f):a≠b:=λq=>hb (q▸ha)
def Rc{Q:zw}(Zq:Pl z TI TO i1 i2 f1 f2)(D1:Draws prog w A i1 f1 n1 P1 S1)(D2:Draws prog w A i2 f2 n2 P2 S2)
  (hz:IsZip s.heap z TI TO .none)(hI:IsPair s.heap TI (.ref i1) (.ref i2))(hO:IsPair s.heap TO a b)(t1:S1 k1 s.heap)(t2:S2 k2 s.heap)(l1:k1<n1)(l2:k2<n2)
  (k:∀x y h' tk,P1 k1 x->P2 k2 y->IsZip h' z TI TO (rawInt s.heap.objs.size)->(∃c d,IsPair h' TO c d)->S1 (k1+1) h'->S2 (k2+1) h'->IsPair h' s.heap.objs.size x y->
   (∀c o,c≠z->c≠TO->c≠i1->c≠i2->s.heap.get? c=some o->h'.get? c=some o)->Q (.ref s.heap.objs.size) {s with heap:=h',toks:=tk}):
  wpAny (model prog w) A (Builtin.«zip.__next__» ⟨[.ref z],[]⟩) (λfin s'=>∃v,fin=.done (.ret v)/\Q v s') E s:=by
 have i1z:=lC Zq.m1 Zq.z1;have i2z:=lC Zq.m2 Zq.z2;have i1o:=lC Zq.m1 Zq.o1;have i2o:=lC Zq.m2 Zq.o2;have i12:=lC Zq.m1 Zq.c2;show wpAny _ _ (field (.ref z) 2>>=_) _ _ _;apply qa;refine zk hz rfl (x:=.bool false) rfl ?_;show wpAny _ _ (field (.ref z) 3>>=_) _ _ _;apply qa;refine zk hz rfl (x:=.ref TI) rfl ?_;apply qa;refine wpAny_seqItems hI rfl ?_;show wpAny _ _ (Builtin.SmallTypes.ownedTupleIsFree (.ref z)>>=_) _ _ _;apply qa;unfold Builtin.SmallTypes.ownedTupleIsFree;apply qa;refine zk hz rfl (x:=.none) rfl (qb ?_);simp only[if_true];apply qa;apply wpAny_rule;apply qa;refine zk hz rfl (x:=.ref TO) rfl ?_;apply qa;refine zr hz (by simp) λha za sa=>?_;have za':IsZip ha z TI TO .ellipsis:=za;apply qa;simp only[zipIdx_cons,zipIdx_nil,forIn_cons,forIn_nil];apply qa;apply qa;apply wpAny_onRaise;show wpAny _ _ (Builtin.SmallTypes.nextOf (.ref i1)>>=_) _ _ _;apply qa;have t1a:S1 k1 ha:=D1.frame _ _ _ t1 λc hc o q=>sa.extBut _ _ (lC hc Zq.z1) q;have t2a:S2 k2 ha:=D2.frame _ _ _ t2 λc hc o q=>sa.extBut _ _ (lC hc Zq.z2) q;refine D1.item k1 _ _ _ l1 t1a λx hb tb px t1b sb=>qb ?_;have hOb:IsPair hb TO a b:=sb.extBut _ _ (Ne.symm i1o) (sa.extBut _ _ Zq.a2 hO);apply qa;refine wpAny_seqItems hOb rfl ?_;apply qa;refine wpAny_updateSeq_pair hOb λhc hOc sc=>?_;have hOc':IsPair hc TO x b:=hOc;refine qa (wpAny_letGo (qb ?_));apply qa;apply qa;apply wpAny_onRaise;show wpAny _ _ (Builtin.SmallTypes.nextOf (.ref i2)>>=_) _ _ _;apply qa;have t2c:S2 k2 hc:=D2.frame _ _ _ t2a λc hcm o q=>sc.extBut _ _ (lC hcm Zq.o2) (sb.extBut _ _ (lC hcm Zq.c1) q);refine D2.item k2 _ _ _ l2 t2c λy hd td py t2d sd=>qb ?_;have hOd:IsPair hd TO x b:=sd.extBut _ _ (Ne.symm i2o) hOc';apply qa;refine wpAny_seqItems hOd rfl ?_;apply qa;refine wpAny_updateSeq_pair hOd λhe hOe se=>?_;have hOe':IsPair he TO x y:=hOe;refine qa (wpAny_letGo (qb (qb ?_)));apply qa;refine wpAny_seqItems hOe' rfl ?_;apply qa;refine wpAny_newTuple ?_;have hsz:he.objs.size=s.heap.objs.size:=by rw[se.1,sd.1,sc.1,sb.1,sa.1]
 have ze:IsZip he z TI TO .ellipsis:=se.extBut _ _ (Ne.symm Zq.a2) (sd.extBut _ _ (Ne.symm i2z) (sc.extBut _ _ (Ne.symm Zq.a2) (sb.extBut _ _ (Ne.symm i1z) za')));have t1e:S1 (k1+1) he:=D1.frame _ _ _ t1b λc hcm o q=>se.extBut _ _ (lC hcm Zq.o1) (sd.extBut _ _ (lC hcm Zq.c2) (sc.extBut _ _ (lC hcm Zq.o1) q));have t2e:S2 (k2+1) he:=D2.frame _ _ _ t2d λc hcm o q=>se.extBut _ _ (lC hcm Zq.o2) q;have old:∀c o,c≠z->c≠TO->c≠i1->c≠i2->s.heap.get? c=some o->he.get? c=some o:=λc o q1 q2 q3 q4 q=>se.extBut _ _ q2 (sd.extBut _ _ q4 (sc.extBut _ _ q2 (sb.extBut _ _ q3 (sa.extBut _ _ q1 q))));have zlt:z<he.objs.size:=qe ze;show wpAny _ _ (Builtin.SmallTypes.ownedTupleHandOut (.ref z) (.ref he.objs.size)>>=_) _ _ _;apply qa;unfold Builtin.SmallTypes.ownedTupleHandOut;have zf:IsZip (he.push {cls:=.type "tuple",data:=.seq #[x,y]}) z TI TO .ellipsis:=qc _ ze;apply qa;refine zr zf (by simp) λhg zg sg=>?_;have zg':IsZip hg z TI TO (rawInt he.objs.size):=zg;refine zr zg' (by simp) λhh zh sh=>?_;have zh':IsZip hh z TI TO (rawInt he.objs.size):=zh;have up:∀c o,c≠z->he.get? c=some o->hh.get? c=some o:=λc o q1 q=>sh.extBut _ _ q1 (sg.extBut _ _ q1 (qc _ q));have pT:IsPair hh he.objs.size x y:=sh.extBut _ _ (ne_of_gt zlt) (sg.extBut _ _ (ne_of_gt zlt) (qd _ rfl));rw[hsz]at zh' pT;refine qb ⟨_,rfl,?_⟩;show Q (.ref he.objs.size) _;rw[hsz];exact k x y hh _ px py zh' ⟨_,_,up _ _ Zq.a2 hOe'⟩ (D1.frame _ _ _ t1e λc hcm o q=>up c o (lC hcm Zq.z1) q) (D2.frame _ _ _ t2e λc hcm o q=>up c o (lC hcm Zq.z2) q) pT λc o q1 q2 q3 q4 q=>up c o q1 (old c o q1 q2 q3 q4 q)
def TN(i1z:i1≠z)(hz:IsZip s.heap z TI TO .none)(hI:IsPair s.heap TI (.ref i1) (.ref i2))
  (d:∀ha,Heap.SameBut z s.heap ha->∀(Q:zw)(E:zw),(∀h' e,Heap.ExtBut i1 ha h'->(∃o,h'.get? e=some o/\o.cls=.type "StopIteration")->E (.ref e) {s with heap:=h'})->wpAny (model prog w) A (Builtin.SmallTypes.nextOf (.ref i1)) Q E {s with heap:=ha})
  (k:∀h' e,(∀c o,c≠z->c≠i1->s.heap.get? c=some o->h'.get? c=some o)->(∃o,h'.get? e=some o/\o.cls=.type "StopIteration")->E (.ref e) {s with heap:=h'}):
  wpAny (model prog w) A (Builtin.«zip.__next__» ⟨[.ref z],[]⟩) Q E s:=by
 show wpAny _ _ (field (.ref z) 2>>=_) _ _ _;apply qa;refine zk hz rfl (x:=.bool false) rfl ?_;show wpAny _ _ (field (.ref z) 3>>=_) _ _ _;apply qa;refine zk hz rfl (x:=.ref TI) rfl ?_;apply qa;refine wpAny_seqItems hI rfl ?_;show wpAny _ _ (Builtin.SmallTypes.ownedTupleIsFree (.ref z)>>=_) _ _ _;apply qa;unfold Builtin.SmallTypes.ownedTupleIsFree;apply qa;refine zk hz rfl (x:=.none) rfl (qb ?_);simp only[if_true];apply qa;apply wpAny_rule;apply qa;refine zk hz rfl (x:=.ref TO) rfl ?_;apply qa;refine zr hz (by simp) λha za sa=>?_;have za':IsZip ha z TI TO .ellipsis:=za;apply qa;simp only[zipIdx_cons,zipIdx_nil,forIn_cons,forIn_nil];apply qa;apply qa;apply wpAny_onRaise;show wpAny _ _ (Builtin.SmallTypes.nextOf (.ref i1)>>=_) _ _ _;apply qa;refine d ha sa _ _ λhb e xb st=>?_;obtain⟨oe,q1,q2⟩:=st;have zb:IsZip hb z TI TO .ellipsis:=xb _ _ (Ne.symm i1z) za';have ez:e≠z:=λq=>by subst q;rw[zb]at q1;cases q1;simp at q2
 exact zr zb (by simp) λhc _ sc=>k hc e (λc o c1 c2 q=>sc.extBut _ _ c1 (xb _ _ c2 (sa.extBut _ _ c1 q))) ⟨oe,sc.extBut _ _ ez q1,q2⟩
def Vm(D1:Draws prog w A i1 f1 n1 P1 S1)(m1:i1∈f1)(z1:z∉f1)(o1:TO∉f1)(TOz:TO≠z)(i2z:i2≠z)
  (hz:IsZip s.heap z TI TO .none)(hI:IsPair s.heap TI (.ref i1) (.ref i2))(hO:IsPair s.heap TO a b)(t1:S1 k1 s.heap)(l1:k1<n1)
  (d:∀hc tk,(∀c o,c≠z->c≠TO->c≠i1->s.heap.get? c=some o->hc.get? c=some o)->∀(Q:zw)(E:zw),(∀h' e,Heap.ExtBut i2 hc h'->(∃o,h'.get? e=some o/\o.cls=.type "StopIteration")->E (.ref e) {s with heap:=h',toks:=tk})->wpAny (model prog w) A (Builtin.SmallTypes.nextOf (.ref i2)) Q E {s with heap:=hc,toks:=tk})
  (k:∀h' e tk,(∀c o,c≠z->c≠TO->c≠i1->c≠i2->s.heap.get? c=some o->h'.get? c=some o)->(∃o,h'.get? e=some o/\o.cls=.type "StopIteration")->E (.ref e) {s with heap:=h',toks:=tk}):
  wpAny (model prog w) A (Builtin.«zip.__next__» ⟨[.ref z],[]⟩) Q E s:=by
 have i1z:=lC m1 z1;have i1o:=lC m1 o1;show wpAny _ _ (field (.ref z) 2>>=_) _ _ _;apply qa;refine zk hz rfl (x:=.bool false) rfl ?_;show wpAny _ _ (field (.ref z) 3>>=_) _ _ _;apply qa;refine zk hz rfl (x:=.ref TI) rfl ?_;apply qa;refine wpAny_seqItems hI rfl ?_;show wpAny _ _ (Builtin.SmallTypes.ownedTupleIsFree (.ref z)>>=_) _ _ _;apply qa;unfold Builtin.SmallTypes.ownedTupleIsFree;apply qa;refine zk hz rfl (x:=.none) rfl (qb ?_);simp only[if_true];apply qa;apply wpAny_rule;apply qa;refine zk hz rfl (x:=.ref TO) rfl ?_;apply qa;refine zr hz (by simp) λha za sa=>?_;have za':IsZip ha z TI TO .ellipsis:=za;apply qa;simp only[zipIdx_cons,zipIdx_nil,forIn_cons,forIn_nil];apply qa;apply qa;apply wpAny_onRaise;show wpAny _ _ (Builtin.SmallTypes.nextOf (.ref i1)>>=_) _ _ _;apply qa;have t1a:S1 k1 ha:=D1.frame _ _ _ t1 λc hc o q=>sa.extBut _ _ (lC hc z1) q;refine D1.item k1 _ _ _ l1 t1a λx hb tb px t1b sb=>qb ?_;have hOb:IsPair hb TO a b:=sb.extBut _ _ (Ne.symm i1o) (sa.extBut _ _ TOz hO);apply qa;refine wpAny_seqItems hOb rfl ?_;apply qa;refine wpAny_updateSeq_pair hOb λhc hOc sc=>?_;refine qa (wpAny_letGo (qb ?_));apply qa;apply qa;apply wpAny_onRaise;show wpAny _ _ (Builtin.SmallTypes.nextOf (.ref i2)>>=_) _ _ _;apply qa;refine d hc tb (λc o c1 c2 c3 q=>sc.extBut _ _ c2 (sb.extBut _ _ c3 (sa.extBut _ _ c1 q))) _ _ λhd e xd st=>?_;obtain⟨oe,q1,q2⟩:=st;have zd:IsZip hd z TI TO .ellipsis:=xd _ _ (Ne.symm i2z) (sc.extBut _ _ (Ne.symm TOz) (sb.extBut _ _ (Ne.symm i1z) za'));have ez:e≠z:=λq=>by subst q;rw[zd]at q1;cases q1;simp at q2
 exact zr zd (by simp) λhe _ se=>k he e tb (λc o c1 c2 c3 c4 q=>se.extBut _ _ c1 (xd _ _ c4 (sc.extBut _ _ c2 (sb.extBut _ _ c3 (sa.extBut _ _ c1 q))))) ⟨oe,se.extBut _ _ ez q1,q2⟩
end
def Lg(J1 J2:It):It:=⟨λi H=>J1.go i H/\J2.go i H,λi H x H'=>∃p y1 y2,H p=none/\J1.yld i H y1 H/\J2.yld i H y2 H/\x=.ref p/\H'=upd H p (.tup [y1,y2]),λi H=>J1.stop i H\/(J1.go i H/\J2.stop i H)⟩
def Tr{P:Program}{w:World}{K:W.Frag}{J1 J2:It}{z TI TO i1 i2:Addr}{t1 t2:Nat->Heap->Prop}{elts:List Expr}{k:Nat}{pos:Pos}(S1:AW P w K J1 i1 t1)(S2:AW P w K J2 i2 t2)(nd:[z,TI,TO,i1,i2].Nodup):
  kY P w K (.Tuple elts k pos) (Lg J1 J2) [z,TI,TO,i1,i2] z (λi h=>IsZip h z TI TO .none/\IsPair h TI (.ref i1) (.ref i2)/\(∃a b,IsPair h TO a b)/\t1 i h/\t2 i h) where
 mem:=m1
 obj:=λi h st b hb=>by
  obtain⟨hz,hI,⟨a,c,hO⟩,q1,q2⟩:=st;simp at hb;rcases hb with rfl|rfl|rfl|rfl|rfl
  .exact⟨_,hz,λv z=>by cases z⟩
  .exact⟨_,hI,λv z=>by cases z⟩
  .exact⟨_,hO,λv z=>by cases z⟩
  .obtain⟨o,e1,e2,_⟩:=S1.live i h q1;exact⟨o,e1,e2⟩
  .obtain⟨o,e1,e2,_⟩:=S2.live i h q2;exact⟨o,e1,e2⟩
 keep:=λi h h' st kk=>by obtain⟨hz,hI,⟨a,c,hO⟩,q1,q2⟩:=st;exact⟨kk _ (m1) _ hz,kk _ (m2) _ hI,⟨a,c,kk _ (m3) _ hO⟩,S1.keep i h h' q1 λo e=>kk _ (m4) o e,S2.keep i h h' q2 λo e=>kk _ (m5) o e⟩
 item:=by
  intro X hP hw hK hc i zU s Z H E I hf st hg;refine cps λG kk=>?_;obtain⟨hz,hI,⟨a,c,hO⟩,q1,q2⟩:=st;have hh:X.A.in1.handled=none:=I.ok.hd hc;obtain⟨f1,n1,P1,T1,D1,u1,l1,m1,e1,v1,w1⟩:=S1.item X hP hw hK i zU s Z H X.A.in1 hh I q1 (hf i1 (m4)).1 hg.1;obtain⟨f2,n2,P2,T2,D2,u2,l2,m2,e2,v2,w2⟩:=S2.item X hP hw hK i zU s Z H X.A.in1 hh I q2 (hf i2 (m5)).1 hg.2;obtain⟨o1,g1,_,_,_,_,cl1⟩:=S1.live i _ q1;obtain⟨o2,g2,_,_,_,_,cl2⟩:=S2.live i _ q2;simp only[qM,qC,not_mem_nil,or_false,not_or]at nd;obtain⟨⟨d1,d2,d3,d4⟩,⟨d5,d6,d7⟩,⟨d8,d9⟩,d10,_⟩:=nd;have hn:∀b∈[z,TI,TO,i1,i2],H b=none:=λb hb=>(hf b hb).1;have out:∀{f:List Addr}{it b:Addr}{ob:Obj},(∀x∈f,x=it\/(H x≠none/\∃o,s.heap.get? x=some o/\o.cls=.type "tuple")\/∃o,s.heap.get? x=some o/\o.cls=.type "list")->b≠it->H b=none->s.heap.get? b=some ob->ob.cls≠.type "list"->b∉f:=λ{f it b ob} hf0 n1 n2 g n3 m=>by grind
  have zl:Value.type "zip"≠Value.type "list":=by decide
  have tl:Value.type "tuple"≠Value.type "list":=by decide
  have Zq:Pl z TI TO i1 i2 f1 f2:=⟨Ne.symm d1,Ne.symm d2,d5,d6,d7,m1,m2,out e1 d3 (hn z (by simp)) hz zl,out e2 d4 (hn z (by simp)) hz zl,out e1 d8 (hn TO (by simp)) hO tl,out e2 d9 (hn TO (by simp)) hO tl,out e2 d10 (hn i1 (by simp)) g1 cl1,out e1 (Ne.symm d10) (hn i2 (by simp)) g2 cl2⟩
  have lt:∀b∈[z,TI,TO,i1,i2],b<s.heap.objs.size:=λb hb=>by
   simp at hb;rcases hb with rfl|rfl|rfl|rfl|rfl
   .exact qe hz
   .exact qe hI
   .exact qe hO
   .exact qe g1
   .exact qe g2
  subst hP hw hK;have ty:s.TypeIs (.ref z) "zip":=⟨_,hz,rfl⟩
  refine kk ?_;unfold pyNext;apply qa;apply wpAny_attempt;refine wpAny_callSpecial?_slot (name:=Str.ofString "__next__") ty F.slot_zip_next (zo F.slot_zip_next ty F.entry_zip_next (Rc Zq D1 D2 hz hI hO u1 u2 l1 l2 λx y h1 tk px py hz1 hO1 t1' t2' hT hk=>?_) (F.args_zip_next_1 _));refine qb ⟨_,rfl,?_⟩;refine cps λ_ kk=>?_;obtain⟨y1,ry1,hy1⟩:=v1 x px;obtain⟨y2,ry2,hy2⟩:=v2 y py;refine kk ?_;refine wpAny_letOwnedTupleGo_zip hz1 λh2 hz2 sb=>?_;have nT:s.heap.objs.size≠z:=ne_of_gt (qe hz);have I2:Inv X zU Z (upd H s.heap.objs.size (.tup [y1,y2])) {s with heap:=h2,toks:=tk}:=Oy I (ch:=[z,TI,TO,i1,i2]) (us:=[x,y]) hf lt (by show 2<=_;decide) (.cons ry1 (.cons ry2 .nil)) ⟨_,sb.extBut _ _ nT hT,rfl,rfl,_,rfl⟩ λb o hb q=>by simp at hb;exact sb.extBut _ _ hb.1 (hk b o hb.1 hb.2.2.1 hb.2.2.2.1 hb.2.2.2.2 q)
  obtain⟨ca,cb,hO1⟩:=hO1;refine⟨.ref s.heap.objs.size,_,I2,rfl,⟨s.heap.objs.size,y1,y2,I.hok.fresh (zc _),hy1,hy2,rfl,rfl⟩,⟨hz2,sb.extBut _ _ (Ne.symm d1) (hk _ _ (Ne.symm d1) d5 d6 d7 hI),⟨_,_,sb.extBut _ _ (Ne.symm d2) hO1⟩,S1.keep _ _ _ (w1 _ t1') λo q=>sb.extBut _ _ (Ne.symm d3) q,S2.keep _ _ _ (w2 _ t2') λo q=>sb.extBut _ _ (Ne.symm d4) q⟩,λb hb=>?_⟩;rw[bJ (ne_of_lt (lt b hb))];exact(hf b hb).1
 done:=by
  intro X hP hw hK hc i zU s Z H E I hf st hg;refine cps λG kk=>?_;obtain⟨hz,hI,⟨a,c,hO⟩,q1,q2⟩:=st;have hh:X.A.in1.handled=none:=I.ok.hd hc;simp only[qM,qC,not_mem_nil,or_false,not_or]at nd;obtain⟨⟨d1,d2,d3,d4⟩,⟨d5,d6,d7⟩,⟨d8,d9⟩,d10,_⟩:=nd;have ty:s.TypeIs (.ref z) "zip":=⟨_,hz,rfl⟩
  have stop:∀(h':Heap)(e:Addr)(tk:Nat),(∀b o,b≠z->b≠TO->b≠i1->b≠i2->s.heap.get? b=some o->h'.get? b=some o)->Inv X zU Z H {s with heap:=h',toks:=tk}:=λh' e tk hk=>Er I (ch:=[z,TI,TO,i1,i2]) hf λb o hb q=>by grind
  refine kk ?_;unfold pyNext;apply qa;apply wpAny_attempt;rcases hg with hg|⟨hg1,hg2⟩
  .refine wpAny_callSpecial?_slot (name:=Str.ofString "__next__") ty F.slot_zip_next (zo F.slot_zip_next ty F.entry_zip_next (TN (Ne.symm d3) hz hI (λha sa=>?_) λh' e hk st=>?_) (F.args_zip_next_1 _))
   .have Ia:Inv X zU Z H {s with heap:=ha}:=Er I (t':=s.toks) (ch:=[z]) (λb hb=>hf b (by simp at hb;simp[hb])) λb o hb q=>sa.extBut _ _ (by simpa using hb) q;exact S1.done X hP hw hK i zU {s with heap:=ha} Z H X.A.in1 hh Ia (S1.keep _ _ _ q1 λo q=>sa.extBut _ _ (Ne.symm d3) q) hg
   .obtain⟨o,r1,r2⟩:=st;exact qa (wpAny_isInstance (T:="StopIteration") (b:=true) ⟨o,r1,r2⟩ isSubtype_stop (qb ⟨rfl,stop h' e s.toks λb o c1 c2 c3 c4 q=>hk b o c1 c3 q⟩))
  .obtain⟨f1,n1,P1,T1,D1,u1,l1,m1,e1,v1,w1⟩:=S1.item X hP hw hK i zU s Z H X.A.in1 hh I q1 (hf i1 (m4)).1 hg1;have hn:∀b∈[z,TI,TO,i1,i2],H b=none:=λb hb=>(hf b hb).1;have out:∀{f:List Addr}{it b:Addr}{ob:Obj},(∀x∈f,x=it\/(H x≠none/\∃o,s.heap.get? x=some o/\o.cls=.type "tuple")\/∃o,s.heap.get? x=some o/\o.cls=.type "list")->b≠it->H b=none->s.heap.get? b=some ob->ob.cls≠.type "list"->b∉f:=λ{f it b ob} hf0 n1 n2 g n3 m=>by grind
   have zl:Value.type "zip"≠Value.type "list":=by decide
   have tl:Value.type "tuple"≠Value.type "list":=by decide
   have X1:=hP;have X2:=hw;subst hP hw;refine wpAny_callSpecial?_slot (name:=Str.ofString "__next__") ty F.slot_zip_next (zo F.slot_zip_next ty F.entry_zip_next (Vm D1 m1 (out e1 d3 (hn z (by simp)) hz zl) (out e1 d8 (hn TO (by simp)) hO tl) (Ne.symm d2) (Ne.symm d4) hz hI hO u1 l1 (λhc2 tk sa=>?_) λh' e tk hk st=>?_) (F.args_zip_next_1 _))
   .have Ia:Inv X zU Z H {s with heap:=hc2,toks:=tk}:=Er I (ch:=[z,TO,i1]) (λb hb=>hf b (by simp at hb;rcases hb with q|q|q<;>simp[q])) λb o hb q=>by simp at hb;exact sa b o hb.1 hb.2.1 hb.2.2 q
    exact S2.done X rfl rfl hK i zU {s with heap:=hc2,toks:=tk} Z H X.A.in1 hh Ia (S2.keep _ _ _ q2 λo q=>sa _ _ (Ne.symm d4) (Ne.symm d9) (Ne.symm d10) q) hg2
   .obtain⟨o,r1,r2⟩:=st;exact qa (wpAny_isInstance (T:="StopIteration") (b:=true) ⟨o,r1,r2⟩ isSubtype_stop (qb ⟨rfl,stop h' e tk hk⟩))
 self:=λA i s Q E st h=>wpAny_pyIter_zip st.1 h
def vP(v:Value)(o:Obj)(s:Shared):Prop:=∀(prog:Program)(w:World)(A:Around)(Q:zw)(E:zw),Q (.ref s.heap.objs.size) {s with heap:=s.heap.push o}->wpAny (model prog w) A (pyIter v) Q E s
abbrev zA(h:Heap)(o1:Obj):Heap:=h.push o1
abbrev zB(h:Heap)(o1 o2:Obj):Heap:=(zA h o1).push o2
abbrev zC(h:Heap)(o1 o2:Obj):Heap:=(zB h o1 o2).push {cls:=.type "tuple",data:=.seq #[.ref h.objs.size,.ref (zA h o1).objs.size]}
abbrev zD(h:Heap)(o1 o2:Obj):Heap:=(zC h o1 o2).push {cls:=.type "tuple",data:=.seq #[.none,.none]}
abbrev zE(h:Heap)(o1 o2:Obj):Heap:=(zD h o1 o2).push {cls:=.type "zip",data:=.fields #[.none,.bool false,.bool false,.ref (zB h o1 o2).objs.size,.ref (zC h o1 o2).objs.size]}
def RJ(v1 v2:Value)(o1 o2:Obj):Meets (Builtin.«zip.__new__» ⟨[.type "zip",v1,v2],[]⟩) (λ_ R s=>vP v1 o1 s/\vP v2 o2 {s with heap:=zA s.heap o1}/\R (.ok (.ret (.ref (zD s.heap o1 o2).objs.size))) {s with heap:=zE s.heap o1 o2}):=
 .of_wp λprog w A R s hyp=>by
  obtain⟨hp,g,d,tk,os⟩:=s;obtain⟨k1,k2,hr⟩:=hyp;have ss:=sub_zip;have k1':=λ(A:Around)(Q:zw)(E:zw)=>k1 prog w A Q E;have k2':=λ(A:Around)(Q:zw)(E:zw)=>k2 prog w A Q E
  wp_walk using k1',k2'
  exact⟨_,rfl,hr⟩
def QZ(m1:vP v1 o1 s)(m2:vP v2 o2 {s with heap:=zA s.heap o1})(f1:o1.isFreed=false)(f2:o2.isFreed=false)
  (k:∀h',IsZip h' (s.heap.objs.size+4) (s.heap.objs.size+2) (s.heap.objs.size+3) .none->IsPair h' (s.heap.objs.size+2) (.ref s.heap.objs.size) (.ref (s.heap.objs.size+1))->IsPair h' (s.heap.objs.size+3) .none .none->
   h'.get? s.heap.objs.size=some o1->h'.get? (s.heap.objs.size+1)=some o2->(∀c o,s.heap.get? c=some o->h'.get? c=some o)->Q (.ref (s.heap.objs.size+4)) {s with heap:=h'}):
  wpAny (model prog w) A (call (.type "zip") [v1,v2]) Q E s:=by
 refine callType_new F.called_zip (by decide) (F.typeCall_zip_2 _ _) (F.newCall_zip_2 _ _) (λobj=>F.args_object_init_3 obj _ _) F.entry_zip_new (RJ v1 v2 o1 o2) ⟨m1,m2,?_⟩;have q1:(zA s.heap o1).objs.size=s.heap.objs.size+1:=Heap.size_push ..;have q2:(zB s.heap o1 o2).objs.size=s.heap.objs.size+2:=by rw[Heap.size_push,q1]
 have q3:(zC s.heap o1 o2).objs.size=s.heap.objs.size+3:=by rw[Heap.size_push,q2]
 have q4:(zD s.heap o1 o2).objs.size=s.heap.objs.size+4:=by rw[Heap.size_push,q3]
 have g5:(zE s.heap o1 o2).get? (zD s.heap o1 o2).objs.size=some _:=qd _ rfl;have g4:(zE s.heap o1 o2).get? (zC s.heap o1 o2).objs.size=some _:=qc _ (qd _ rfl);have g3:(zE s.heap o1 o2).get? (zB s.heap o1 o2).objs.size=some _:=qc _ (qc _ (qd _ rfl));have g2:(zE s.heap o1 o2).get? (zA s.heap o1).objs.size=some o2:=qc _ (qc _ (qc _ (qd _ f2)));have g1:(zE s.heap o1 o2).get? s.heap.objs.size=some o1:=qc _ (qc _ (qc _ (qc _ (qd _ f1))));show _/\_;rw[q2,q3,q4]at g5;rw[q1,q2]at g3;rw[q3]at g4;rw[q1]at g2;rw[q4];exact⟨⟨_,g5,rfl⟩,k _ g5 g3 g4 g1 g2 λc o x=>qc _ (qc _ (qc _ (qc _ (qc _ x))))⟩
def Ak(X:Cx)(H:Hp)(v:V)(J:It):Prop:=(∃a xs,v=.ref a/\bR X.K H a xs/\J=DN X.K a)\/(∃a xs,v=.ref a/\H a=some (.tup xs)/\J=Hr a)\/∃x,v=.str x/\J=Dl x
def MP(I:Inv X zU Z H s)(r:zL v u)(h:Ak X H v J):
  ∃o:Obj,vP u o s/\o.isFreed=false/\∀it,∃tn,AW X.prog X.w X.K J it tn/\∀h':Heap,h'.get? it=some o->tn 0 h':=by
 rcases h with⟨a,xs,rfl,hq,rfl⟩|⟨a,xs,rfl,hq,rfl⟩|⟨x,rfl,rfl⟩
 .cases r;obtain⟨zY,rv,pl,hz⟩:=I.list hq;exact⟨{cls:=.type "list_iterator",data:=.fields #[.ref a,.int 0 0]},λprog w A Q E k=>wpAny_pyIter_list pl.isList k,rfl,λit=>⟨_,NQ a it,λh' e=>⟨_,e,rfl,rfl⟩⟩⟩
 .cases r;obtain⟨zY,rv,pl,hz⟩:=I.tuple (bP.of hq);exact⟨{cls:=.type "tuple_iterator",data:=.fields #[.ref a,.int 0 0]},λprog w A Q E k=>wpAny_pyIter_tuple pl k,rfl,λit=>⟨_,Me a it,λh' e=>⟨_,e,rfl,rfl⟩⟩⟩
 .obtain⟨t,rfl⟩:=r;exact⟨{cls:=.type (strIterType x),data:=.fields #[.str x t,.int 0 0]},λprog w A Q E k=>wpAny_pyIter_strU k,rfl,λit=>⟨_,MN it x t,λh' e=>⟨_,e,rfl,rfl⟩⟩⟩
def KL(X:Cx)(tl:TA):TI:=λZ H R=>tl Z H λvs H1=>∃v1 v2 J1 J2,vs=[v1,v2]/\Ak X H1 v1 J1/\Ak X H1 v2 J2/\R (Lg J1 J2) H1
def QQ(hc:X.calm=true)(hg:Gl X "zip")(hm:X.mg "zip"=none)(hv:bootBuiltins "zip"=some (.type "zip"))(hl:PA X [a,b] tl)
  (hs:starEach [a,b] X.env=[(false,eval a X.env),(false,eval b X.env)]:=by rfl)(hs2:starEach [b] X.env=[(false,eval b X.env)]:=by rfl):PI X (.Tuple elts kk tpos) (.Call (.Name "zip" p) [a,b] [] pos) (KL X tl):=by
 intro zU s Z H R I h;refine wpAny_Call_Name_kw (Eb I hg hm hv ?_ (by decide) (by decide));refine PyProof.Rows.callWith_type1 (bK (hl pos zU s Z H _ I h) λus s1 zq=>?_) (by rw[hs,hs2]) (by rw[hs2];rfl);obtain⟨vs,H1,I1,r1,q1⟩:=zq;obtain⟨v1,v2,J1,J2,rfl,k1,k2,q⟩:=q1;cases r1 with
 |cons ra rb=>
  cases rb with
  |cons rb rn=>
   cases rn;obtain⟨o1,m1,f1,g1⟩:=MP I1 ra k1;have I2:Inv X zU Z H1 {s1 with heap:=zA s1.heap o1}:=I1.kept (t':=s1.toks) λ_ _ e=>qc _ e;obtain⟨o2,m2,f2,g2⟩:=MP I2 rb k2;refine QZ m1 m2 f1 f2 λh' hz hI hO e1 e2 kp=>?_;obtain⟨t1,S1,b1⟩:=g1 s1.heap.objs.size;obtain⟨t2,S2,b2⟩:=g2 (s1.heap.objs.size+1);refine wpAny_pyIter_zip (s:={s1 with heap:=h'}) hz ?_;have lt:∀k:Nat,s1.heap.objs.size<=s1.heap.objs.size+k:=λk=>le_add_right _ _;refine⟨s1.heap.objs.size+4,[s1.heap.objs.size+4,s1.heap.objs.size+2,s1.heap.objs.size+3,s1.heap.objs.size,s1.heap.objs.size+1],_,_,H1,rfl,I1.kept (t':=s1.toks) kp,Tr S1 S2 ?_,⟨hz,hI,⟨_,_,hO⟩,b1 h' e1,b2 h' e2⟩,λc hcm=>?_,q⟩
   .simp
   .simp at hcm;rcases hcm with rfl|rfl|rfl|rfl|rfl
    .exact I1.fpOk (lt 4) (I1.hok.fresh (lt 4))
    .exact I1.fpOk (lt 2) (I1.hok.fresh (lt 2))
    .exact I1.fpOk (lt 3) (I1.hok.fresh (lt 3))
    .exact I1.fpOk (lt 0) (I1.hok.fresh (lt 0))
    .exact I1.fpOk (lt 1) (I1.hok.fresh (lt 1))
def TU{K:W.Frag}(h1:fW K J1 l F0)(h2:fW K J2 m F0):fW K (Lg J1 J2) (eV l m) F0:=λi U Z F G H sm zW=>by
 obtain⟨p1,p2⟩:=h1 i U Z F G H sm zW;obtain⟨q1,q2⟩:=h2 i U Z F G H sm zW;refine⟨λd hd=>?_,λhl=>?_⟩
 .obtain⟨e,f,he,hf,rfl⟩:=MU l m i d hd;obtain⟨g1,g2⟩:=p1 e he;obtain⟨g3,g4⟩:=q1 f hf;refine⟨⟨g1,g3⟩,λx H' zq=>?_⟩;refine cps λ_ kk=>?_;obtain⟨p,y1,y2,hp,hy1,hy2,ex,eH⟩:=zq;subst ex eH;obtain⟨F1,s1,r1,rp1⟩:=g2 y1 H hy1;obtain⟨F2,s2,r2,rp2⟩:=(h2 i U Z F1 G H (sm.trans s1) r1).1 f hf|>.2 y2 H hy2;obtain⟨f0,_,_⟩:=r2.free hp;refine kk ?_;exact⟨upd F2 p (.tup [y1,y2]),(s1.trans s2).trans (zH.upd f0),r2.newF hp,.tup (xs:=[y1,y2]) gC (.cons ((rp1.mono s2).mono (zH.upd f0)) (.cons (rp2.mono (zH.upd f0)) .nil))⟩
 .rw[NS]at hl;by_cases h:l.length<=i
  .exact .inl (p2 h)
  .have hlt:i<l.length:=by lia
   exact .inr ⟨(p1 l[i] (qi hlt)).1,q2 (by lia)⟩
def LX:bootBuiltins "zip"=some (.type "zip"):=by decide+kernel
def MI(sm:zH F H)(r:aN X.K F v d)(e:items d=some l):∃J,Ak (wp X pn xe) H v J/\fW X.K J l F:=by
 cases r with
 |lst e0 r0=>cases e;exact⟨_,.inl ⟨_,_,rfl,bR.mono sm e0,rfl⟩,IM e0 r0⟩
 |tup e0 r0=>cases e;exact⟨_,.inr (.inl ⟨_,_,rfl,sm _ _ e0,rfl⟩),MY e0 r0⟩
 |str e0 z0=>cases e;exact⟨_,.inr (.inr ⟨_,rfl,rfl⟩),Iy e0⟩
 |_=>cases e
def Lx(hc:X.calm=true)(hg:Gl X "zip")(hm:X.mg "zip"=none)(hv:bootBuiltins "zip"=some (.type "zip"))(ha:FE X a wa)(hb:FE X b wb)(hs:starEach [a,b] X.env=[(false,eval a X.env),(false,eval b X.env)]:=by rfl)(hs2:starEach [b] X.env=[(false,eval b X.env)]:=by rfl):
  FI X (.Tuple elts kk tpos) (.Call (.Name "zip" p) [a,b] [] pos) (wN wa wb):=λpn xe hp=>by
 refine PI.imp (QQ (X:=wp X pn xe) hc hg hm hv (aB ha (aB hb aI hs2) (by rw[hs,hs2]) pn xe hp) hs hs2) λZ H R q=>?_;obtain⟨F,G,U,P,PX,zW,hw,hok,hx⟩:=q;refine⟨F,G,U,λrs U1=>match rs with|[r,t]=>(zG (give r U1) λp=>zG (give t p.2) λq=>zG (items p.1.toD) λl=>zG (items q.1.toD) λm=>P (eV l m) q.2)|_=>False,PX,zW,hw,λrs U1 vs F1 H1 hk s1 r1 hl rv=>?_,hx⟩;match rs,vs,rv,r1,hk with
 |[r,t],[v,u],rv,r1,hk=>
  dsimp only at hk;refine cps λ_ kk=>?_;obtain⟨⟨s,U2⟩,eg,hk⟩:=bL hk;obtain⟨⟨s',U3⟩,eg',hk⟩:=bL hk;obtain⟨l,el,hk⟩:=bL hk;obtain⟨m,em,hk⟩:=bL hk;obtain⟨F2,s2,ss,e3,l3,r3⟩:∃F2,zH F1 F2/\∃ss,ss=[s,s']/\U3.length=U1.length/\Rel X.K (U3++ss.map some) (Z++[v,u].map some) F2 G H1:=by
   have e:aK [r,t] U1=some ([s,s'],U3):=by show(match give r U1 with|some (s,U1)=>(match aK [t] U1 with|some (ss,U2)=>some (s::ss,U2)|none=>none)|none=>none)=_;rw[eg];show(match(match give t U2 with|some (s,U1)=>some ([s],U1)|none=>none)with|some (ss,U2)=>some (s::ss,U2)|none=>none)=_;rw[eg']
   obtain⟨F2,s2,l2,z,r2⟩:=Ez (rs:=[r,t]) (vs:=[v,u]) (U':=[]) (Z':=[]) (by simpa using r1) hl rv e;exact⟨F2,s2,_,rfl,by simpa using l2,by simpa using r2⟩
  subst e3;obtain⟨F3,s3,rp,r4⟩:=Rel.giveD (U:=U3) (vs:=[v,u]) (ss:=[s,s']) r3 (l3.trans hl);refine kk ?_;have sm:=s1.trans (s2.trans s3);cases rp with
  |cons a0 b0=>
   cases b0 with
   |cons b0 n0=>obtain⟨J1,k1,i1⟩:=MI (pn:=pn) (xe:=xe) r4.fr a0 el;obtain⟨J2,k2,i2⟩:=MI (pn:=pn) (xe:=xe) r4.fr b0 em;exact⟨v,u,J1,J2,rfl,k1,k2,hok _ U3 F3 H1 _ hk sm r4 (TU i1 i2)⟩
 |[],_,_,_,hk=>exact hk.elim
 |[_],_,_,_,hk=>exact hk.elim
 |[_,_],[],rv,_,_=>exact rv.elim
 |[_,_],[_],rv,_,_=>exact rv.2.elim
 |[_,_],_::_::_::_,rv,_,_=>exact rv.2.2.elim
 |_::_::_::_,_,_,_,hk=>exact hk.elim
def NI(hr:bI k A):A.mark none=A:=by first|rfl|assumption|(simp_all;done)
end FL
namespace FL
open Classical in
def iU(ks:List D)(k:D):Option Nat:=ks.findIdx? λx=>decide (x=k)
def eF(t:Bool)(ks:List D)(l:List S)(k:D)(s:S):S:=match iU ks k with
 |some i=>.dct t ks (l.set i s)
 |none=>.dct t (ks++[k]) (l++[s])
def oI(j:Nat)(i e:WE):WS:=λD U=>e U (λr U1=>zx j U1 (λx U2=>i U2 (λy U3=>zG (view y U3) λq=>zG (give r U3) λp=>match x,slot p.2 j with
 |.loc k,some (.dct t ks l)=>k=j/\aH t q=true/\ks.Nodup/\ks.length<big/\D.nx (p.2.set j (some (eF t ks l q p.1)))
 |_,_=>False) D.ex) D.ex) D.ex
end FL
namespace FL
open PySem PySem.Spec PyProof.Rows L2
def Sw:FE X (.Dict [] [] pos) (tF false):=λpn xe hp=>by refine PE.imp UE λZ H Q q=>?_;obtain⟨F,G,U,P,PX,zW,hw,hok,hx⟩:=q;intro p hp;have:=Rel.newO (s:=.dct false [] []) zW hp (.dK (zV:=[]) gC rfl .nil);exact hok _ U _ F _ hw (zH.refl F) this trivial
def IA(h:iU ks k=some i):ks[i]?=some k:=by unfold iU at h;rw[List.findIdx?_eq_some_iff_getElem]at h;obtain⟨hi,h1,_⟩:=h;rw[qi hi];congr 1;simpa using h1
def Tw(h:iU ks k=none):k∉ks:=by unfold iU at h;grind
section
variable{κ:Type}[DecidableEq κ]{kd:κ->D}(inj:∀a b,kd a=kd b->a=b)
include inj
def Tv{zV:List (κ×V)}{k:κ}{v:V}{i:Nat}(hn:(zV.map λp=>kd p.1).Nodup)(h:(zV.map λp=>kd p.1)[i]?=some (kd k)):eG zV k v=zV.set i (k,v):=by
 have hi:i<zV.length:=by have:=(qh.mp h).1;simpa using this
 have hk:zV[i].1=k:=by rw[qG,qi hi]at h;exact inj _ _ (qg h)
 have hany:(zV.any λkv=>decide (kv.1=k))=true:=any_eq_true.mpr ⟨zV[i],getElem_mem hi,by simp[hk]⟩;unfold eG;rw[q8 hany];apply ext_getElem?;intro j;rw[qG,getElem?_set];by_cases hj:i=j
 .subst hj;rw[qi hi];simp[hk];exact hi
 .rw[q9 hj];cases q:zV[j]? with
  |none=>rfl
  |some p=>
   have hne:¬p.1=k:=λz=>by
    apply hj;have h2:(zV.map λp=>kd p.1)[j]?=some (kd k):=by rw[qG,q,<-z];rfl
    exact(List.getElem?_inj (by simpa using hi) hn).mp (h.trans h2.symm)
   simp[hne]
omit inj in
def Ur{zV:List (κ×V)}{k:κ}{v:V}(h:kd k∉zV.map λp=>kd p.1):eG zV k v=zV++[(k,v)]:=by unfold eG;grind
def Mu{zV:List (κ×V)}{k:κ}{v:V}{ks:List D}(hks:ks=zV.map λp=>kd p.1)(hn:ks.Nodup):
  (∀m,iU ks (kd k)=some m->ks=(eG zV k v).map (λp=>kd p.1)/\(zV.map (·.2)).set m v=(eG zV k v).map (·.2))/\(iU ks (kd k)=none->ks++[kd k]=(eG zV k v).map (λp=>kd p.1)/\zV.map (·.2)++[v]=(eG zV k v).map (·.2)):=by
 subst hks;refine⟨λm hm=>?_,λhm=>?_⟩
 .have h:=IA hm;rw[Tv inj hn h,map_set,map_set];refine⟨?_,rfl⟩;apply ext_getElem?;intro j;rw[getElem?_set];by_cases hj:m=j
  .subst hj;rw[q8 rfl,q8 (qh.mp h).1,h]
  .rw[q9 hj]
 .rw[Ur (Tw hm),map_append,map_append];exact⟨rfl,rfl⟩
end
inductive mG(ks:List D)(xs:List V):Bool->HO->Prop
 |k {zV:List (aQ×V)}:ks=zV.map (λp=>aL p.1)->xs=zV.map (·.2)->mG ks xs false (.dK zV)
 |t {zV:List (List aQ×V)}:ks=zV.map (λp=>D.tup (p.1.map aL))->xs=zV.map (·.2)->mG ks xs true (.dT zV)
section
variable{K:W.Frag}
def Bc(r:aM K F H v (.dct t ks l) fp):∃a o xs fl,v=.ref a/\fp=a::fl/\H a=some o/\mG ks xs t o/\zK K F H xs l fl:=by
 cases r with
 |dK e q r=>exact⟨_,_,_,_,rfl,rfl,e,.k q rfl,r⟩
 |dT e q r=>exact⟨_,_,_,_,rfl,rfl,e,.t q rfl,r⟩
def mG.mk{a:Addr}{o:HO}{t:Bool}{ks:List D}{xs:List V}{l:List S}{fl:List Addr}(d:mG ks xs t o)(e:H a=some o)(r:zK K F H xs l fl):aM K F H (.ref a) (.dct t ks l) (a::fl):=by
 cases d with
 |k q z=>subst z;exact .dK e q r
 |t q z=>subst z;exact .dT e q r
def mG.len{o:HO}{t:Bool}{ks:List D}{xs:List V}(d:mG ks xs t o):ks.length=xs.length:=by
 cases d with
 |k q z=>subst z;subst q;simp
 |t q z=>subst z;subst q;simp
def mG.put{a:Addr}{o:HO}{t:Bool}{ks:List D}{xs:List V}{y v:V}{q:D}(d:mG ks xs t o)(e:H a=some o)(r:aN K H y q)(hk:aH t q=true)(hn:ks.Nodup)(hb:ks.length<sizeLine):
  ∃o',nS H a y v (upd H a o')/\(∀m,iU ks q=some m->mG ks (xs.set m v) t o')/\(iU ks q=none->mG (ks++[q]) (xs++[v]) t o'):=by
 cases d with
 |@k zV h1 h2=>subst h2;obtain⟨key,rfl,rfl⟩:=Dx r hk;obtain⟨p1,p2⟩:=Mu (λ_ _=>wI) (k:=key) (v:=v) h1 hn;exact⟨_,.inl ⟨zV,key,e,rfl,by rw[h1,qp]at hb;exact hb,rfl⟩,λm hm=>.k (p1 m hm).1 (p1 m hm).2,λhm=>.k (p2 hm).1 (p2 hm).2⟩
 |@t zV h1 h2=>
  subst h2;cases r with
  |tup e1 q=>obtain⟨keys,rfl,rfl⟩:=Ar q hk;obtain⟨p1,p2⟩:=Mu (kd:=λl:List aQ=>D.tup (l.map aL)) (λa b z=>DC (D.tup.inj z)) (k:=keys) (v:=v) h1 hn;exact⟨_,.inr ⟨zV,keys,_,e,rfl,e1,by rw[h1,qp]at hb;exact hb,rfl⟩,λm hm=>.t (p1 m hm).1 (p1 m hm).2,λhm=>.t (p2 hm).1 (p2 hm).2⟩
  |_=>cases hk
def Rel.dct{D:Addr}(r:Rel K (U++[some s]) (Z++[some v]) F G H)(hs:slot U n=some (.dct t ks l))(hZ:Z[n]?=some (some (.ref D)))(hD:H D=some o)(ho:mG ks xs t o)(ho':mG ks' xs' t o')
  (hin:∀(H':Hp)(fl fs:List Addr),zK K F H' xs l fl->aM K F H' v s fs->∃fl' rest,zK K F H' xs' l' fl'/\(fl'++rest).Perm (fl++fs)):
  Rel K (U.set n (some (.dct t ks' l'))) Z F G (upd H D o'):=by
 have hl:=aS r;obtain⟨fp,e,nd,ap⟩:=r.en;obtain⟨f1,f2,rfl,a,b⟩:=e.cut hl;obtain⟨v',fa,fi,fb,e1,rfl,q,up⟩:=a.at hs;rw[hZ]at e1;have e2:V.ref D=v':=by simpa using e1
 subst e2;obtain⟨a',o2,xs2,fl,z1,rfl,hD2,ho2,rl⟩:=Bc q;cases z1;rw[hD]at hD2;cases hD2;have ex:xs2=xs:=by
  cases ho with
  |k _ z=>cases ho2 with|k _ z'=>rw[z,z']
  |t _ z=>cases ho2 with|t _ z'=>rw[z,z']
 subst ex;cases b with
 |so sr nl=>
  cases nl;rename_i fs;obtain⟨n1,n2,n12⟩:=qy.mp nd;obtain⟨na,nib,nab⟩:=qy.mp n1;obtain⟨ni,nb,nib⟩:=qy.mp nib;obtain⟨nD,nfl⟩:=qM.mp ni;have hDa:D∉fa:=λz=>nab D z D (qk _ qo) rfl;have hDb:D∉fb:=λz=>nib D qo D z rfl;have hDs:D∉fs:=λz=>n12 D (qj _ (qk _ qo)) D (by simpa using z) rfl;have apD:=ap D (qk _ (qj _ (qk _ qo)));have ne:∀{l:List Addr},D∉l->∀x∈l,upd H D o' x=H x:=λh x hx=>bJ λz=>h (z▸hx);obtain⟨fl',rest,rl',pm⟩:=hin (upd H D o') fl fs (rl.mono (zH.refl F) (ne nD)) (sr.mono (zH.refl F) (ne hDs));have a2:=up (F':=F) (H':=upd H D o') (o:=some (.dct t ks' l')) (u:=some (.ref D)) (zH.refl F) (λx hx=>bJ λz=>(qz.mp hx).elim (λw=>hDa (z▸w)) λw=>hDb (z▸w)) (.so (ho'.mk gC rl') .nil);rw[Ex hZ]at a2;have p:(fa++((D::(fl'++rest))++[]++fb)).Perm (fa++((D::fl)++fb)++(fs++[])):=by refine(List.Perm.append_left _ (List.Perm.append_right _ (List.Perm.append_right _ (List.Perm.cons _ pm)))).trans ?_;simp only[qB,qq,qP];refine List.Perm.append_left _ (List.Perm.cons _ (List.Perm.append_left _ qO))
  have sb:List.Sublist (fa++((D::fl')++[]++fb)) (fa++((D::(fl'++rest))++[]++fb)):=by simp only[qB,qq,qP];exact List.Sublist.append (List.Sublist.refl _) (List.Sublist.cons_cons _ (List.Sublist.append (List.Sublist.refl _) (List.sublist_append_right _ _)))
  refine⟨zH.updR r.fr apD.1,λx o w=>?_,_,a2,sb.nodup (p.nodup_iff.mpr nd),λx hx=>ap x (p.mem_iff.mp (sb.subset hx))⟩;have hx:x≠D:=λz=>by rw[z,apD.2]at w;cases w
  rw[bJ hx];exact r.gr x o w
def Rel.dput{D:Addr}(r:Rel K (U++[some s]) (Z++[some v]) F G H)(hs:slot U n=some (.dct t ks l))(hZ:Z[n]?=some (some (.ref D)))(ry:aN K H y q)(hk:aH t q=true)(hn:ks.Nodup)(hb:ks.length<big):
  ∃H',nS H D y v H'/\Rel K (U.set n (some (eF t ks l q s))) Z F G H':=by
 refine cps λ_ kk=>?_;obtain⟨v',fp,e1,sr⟩:=(r.drop (aS r)).at hs;rw[hZ]at e1;have e2:V.ref D=v':=by simpa using e1
 subst e2;obtain⟨a',o,xs,fl,z1,_,hD,ho,rl⟩:=Bc sr;cases z1;have zX:=ho.len;have hll:=rl.len;obtain⟨o',dp,h1,h2⟩:=ho.put (v:=v) hD ry hk hn (by rw[zp];exact lt_trans hb (by decide));refine kk ?_;refine⟨_,dp,?_⟩;cases qf:iU ks q with
 |some m=>
  have ed:eF t ks l q s=.dct t ks (l.set m s):=by unfold eF;rw[qf]
  rw[ed];have hml:m<l.length:=by have:=(qh.mp (IA qf)).1;lia
  refine r.dct hs hZ hD ho (h1 m qf) λH' fl fs rl sr=>?_;obtain⟨ga,gi,gb,rfl,sup⟩:=rl.set hml;refine⟨_,gi,sup (λ_ _=>rfl) sr,?_⟩;simp only[qq];exact List.Perm.append_left _ ((List.Perm.append_left _ qO).trans (qO.trans (by simp)))
 |none=>
  have ed:eF t ks l q s=.dct t (ks++[q]) (l++[s]):=by unfold eF;rw[qf]
  rw[ed];exact r.dct hs hZ hD ho (h2 qf) λH' fl fs rl sr=>⟨fl++fs,[],zK.snoc rl sr,by simp⟩
end
def Mj(hu:X.A.units+1<cLine)(ho:FE X o (zx j))(hi:FE X i wi)(he:FE X e we)(hs:swapsWith e (some (.Subscript o i tpos)) pos.line X.env=pure false:=by rfl):FS X ks (.Assign [.Subscript o i tpos] e pos) (oI j wi we):=λpn xe hp=>by
 refine PS.imp (RU (X:=wp X pn xe) hu (ho pn xe hp) (hi pn xe hp) (he pn xe hp) hs) λD Z H q=>?_;obtain⟨F,G,U,E,zW,hw,n,b,c,r,x⟩:=q;have x0:XC (wp X pn xe) (·=Z) F G E.ex:=x.mono (λZ2 z=>by rw[z];exact KP.refl) (zH.refl F) (zH.refl G);refine⟨F,G,U,_,_,zW,hw,λr U1 v F1 H1 hk s1 r1 rv=>?_,x0⟩;have l1:=aS r1;obtain⟨G1,rel1,gg,back⟩:=r1.hide l1;refine⟨F1,G1,U1,_,_,rel1,hk,λy U2 o' F2 H2 hk2 s2 r2 rv2=>?_,x0.mono (λ_ z=>z) s1 gg⟩;have l2:=aS r2;obtain⟨G2,rel2,gg2,back2⟩:=r2.hide l2;refine⟨F2,G2,U2,_,_,rel2,hk2,λz U3 i' F3 H3 hk3 s3 r3 rv3=>?_,x0.mono (λ_ z=>z) (s1.trans s2) (gg.trans gg2)⟩;have l3:=aS r3;obtain⟨q,eq,hk3⟩:=bL hk3;obtain⟨⟨t,U4⟩,eg,hk4⟩:=bL hk3;have r4:=back (s2.trans s3) (back2 s3 r3);simp only[qq,qP,nil_append]at r4;have ri:=dJ (U':=[zI y,zI r]) (Z':=[some o',some v]) r4 l3 rv3 eq;have r5:Rel X.K (U3++[zI r]) (Z++[some v]) F3 G H3:=Rel.mid (U:=U3) (Z:=Z) (Rel.mid (U:=U3) (Z:=Z) r4 l3) l3;obtain⟨F4,s4,l4,r6⟩:=dF (U':=[]) (Z':=[]) r5 l3 rv eg;cases y with
 |v y0=>exact hk4.elim
 |loc k=>
  cases qs:slot U4 j with
  |none=>simp only[qs]at hk4
  |some sj=>
   rw[qs]at hk4;match sj,qs,hk4 with
   |.dct t kk l,qs,⟨ekj,hkey,hnd,hbig,hnx⟩=>
    subst ekj;have hZ:Z[k]?=some (some o'):=rv2;obtain⟨v',fp,e1,sr⟩:=r6.at (i:=k) (s:=.dct t kk l) (by rw[Ew (Dz qs)];exact qs);have hkl:k<Z.length:=(qh.mp hZ).1;rw[getElem?_append_left hkl,hZ]at e1;have e2:o'=v':=by simpa using e1
    subst e2;obtain⟨a,o2,xs,fl,rfl,_,_,_,_⟩:=Bc sr;obtain⟨H',dp,r7⟩:=Rel.dput r6 qs hZ ri hkey hnd hbig;exact⟨a,_,rfl,dp,n _ Z F4 _ hnx KP.refl (s1.trans (s2.trans (s3.trans s4))) r7⟩
section
variable{K:W.Frag}
def IY:∀{us:List Value},zR (ns.map V.int) us->IntsAre us ns:=by
 induction ns with
 |nil=>intro us r;cases r;exact .nil
 |cons n ns ih=>
  intro us r;rw[qA]at r;cases r with
  |cons r1 r2=>obtain⟨t,rfl⟩:=r1;exact .cons _ t (ih r2)
end
end FL
namespace FL
def sW(i j:Nat)(a:WA):WS:=λD U=>a U (λrs U1=>match rs with
 |[r,t]=>zG (give r U1) λp=>zG (give t p.2) λq=>D.nx ((q.2.set i (some p.1)).set j (some q.1))
 |_=>False) D.ex
end FL
namespace FL
open PySem PySem.Spec PyProof.Rows L2
def Nj{α:Type}{l:List α}{r:List α}{v:α}(h:n<l.length):(l++r).set n v=l.set n v++r:=by rw[List.set_append_left _ _ h]
def LK(hc:X.calm=true)(hN:X.N.Nodup)(hi:X.N[i]?=some x)(hj:X.N[j]?=some y)(hij:i≠j)(hki:i∉ks)(hkj:j∉ks)
  (hx:X.env.scope.names.lookup x=some .local)(hy:X.env.scope.names.lookup y=some .local)(ha:FA X [a,b] wa)
  (hw:swappedStores [.Tuple [.Name x px,.Name y py] kt pt] (.Tuple [a,b] k2 pt2) X.env=pure (some [x,y]):=by rfl)
  (hs:swapsWithSole [.Tuple [.Name x px,.Name y py] kt pt] (.Tuple [a,b] k2 pt2) pos.line X.env=pure false:=by rfl):
  FS X ks (.Assign [.Tuple [.Name x px,.Name y py] kt pt] (.Tuple [a,b] k2 pt2) pos) (sW i j wa):=λpn xe hp zU s Z H D I q=>by
 have hlenN:Z.length=X.N.length:=I.len;have hiZ:i<Z.length:=by rw[hlenN];exact(qh.mp hi).1
 have hjZ:j<Z.length:=by rw[hlenN];exact(qh.mp hj).1
 refine Qz (X:=wp X pn xe) hc hN hi hj hij hx hy (ha pn xe hp) hw hs zU s Z H D I ?_;obtain⟨F,G,U,E,zW,hw2,n,b2,c,r,x2⟩:=q;have x0:XC (wp X pn xe) (·=Z) F G E.ex:=x2.mono (λZ2 z=>by rw[z];exact KP.refl) (zH.refl F) (zH.refl G);refine⟨F,G,U,_,_,zW,hw2,λrs U1 vs F1 H1 hk s1 r1 hl rv=>?_,x0⟩;match rs,vs,rv,r1,hk with
 |[r,t],[v,u],rv,r1,hk=>
  dsimp only at hk;obtain⟨⟨s',U2⟩,eg,hk⟩:=bL hk;obtain⟨⟨t',U3⟩,eg',hk⟩:=bL hk;have e:aK [r,t] U1=some ([s',t'],U3):=by show(match give r U1 with|some (s,U1)=>(match aK [t] U1 with|some (ss,U2)=>some (s::ss,U2)|none=>none)|none=>none)=_;rw[eg];show(match(match give t U2 with|some (s,U1)=>some ([s],U1)|none=>none)with|some (ss,U2)=>some (s'::ss,U2)|none=>none)=_;rw[eg']
  obtain⟨F2,s2,l2,z2,r2⟩:=Ez (rs:=[r,t]) (vs:=[v,u]) (U':=[]) (Z':=[]) (by simpa using r1) hl rv e;have l3:U3.length=Z.length:=l2.trans hl;have r3:Rel X.K ((U3++[some s'])++[some t']) ((Z++[some v])++[some u]) F2 G H1:=by simpa using r2
  have r4:=r3.store (i:=j) (by simp[l3]) (by simp;lia);rw[Nj (by lia),Nj (by lia)]at r4;have r5:=r4.store (i:=i) (by simp[l3]) (by simp;lia);rw[set_comm _ _ (Ne.symm hij),set_comm (α:=Option V) _ _ (Ne.symm hij)]at r5;exact⟨v,u,rfl,n _ _ F2 H1 hk (KP.trans (KP.set hki) (KP.set hkj)) (s1.trans s2) r5⟩
 |[],_,_,_,hk=>exact hk.elim
 |[_],_,_,_,hk=>exact hk.elim
 |[_,_],[],rv,_,_=>exact rv.elim
 |[_,_],[_],rv,_,_=>exact rv.2.elim
 |[_,_],_::_::_::_,rv,_,_=>exact rv.2.2.elim
 |_::_::_::_,_,_,_,hk=>exact hk.elim
end FL
namespace FL
open PySem PySem.W PyProof.Rows
def cN(n:Nat)(rk:Nat->Int){α:Type}:KasT α->(α->Prop)->Prop
 |.ret a,P=>P a
 |.ask i j k,P=>i<n/\j<n/\cN n rk (k (decide (rk i<rk j))) P
def Dv:∀{t:KasT α},cN n rk t (λa=>cN n rk (f a) P)->cN n rk (t.bind f) P
 |.ret _,h=>h
 |.ask _ _ _,h=>⟨h.1,h.2.1,Dv h.2.2⟩
def kA(rk:Nat->Int)(p:Array Nat)(k:Nat):Int:=rk ((p[k]?).getD 0)
def vT(p:Array Nat)(k:Nat):rk (p.getD k 0)=kA rk p k:=by unfold kA;rw[getD_eq_getD_getElem?]
def nR(n:Nat)(p:Array Nat):Prop:=p.size=n/\∀k,p.getD k 0<n
def vN(rk:Nat->Int)(p:Array Nat)(m:Nat):Prop:=∀a b,a<=b->b<m->kA rk p a<=kA rk p b
def Gk(rk:Nat->Int)(p:Array Nat)(m:Nat):Prop:=∀a b,a<=b->b<m->kA rk p b<=kA rk p a
def Es(h:nR n q)(hp:p.Perm q)(hn:0<n):nR n p:=by
 refine⟨hp.size_eq.trans h.1,λk=>?_⟩;rw[getD_eq_getD_getElem?];cases e:p[k]? with
 |none=>exact hn
 |some x=>have hm:x∈q:=hp.mem_iff.mp (Array.mem_of_getElem? e);obtain⟨j,hj,ej⟩:=Array.getElem_of_mem hm;have:=h.2 j;first|rfl|assumption|(simp_all;done)
def HR(hr:nR n p):∀(f m:Nat),1<=m->vN rk p m->(∀m',m<=m'->m'<=m+f->vN rk p m'->(m'<m+f->kA rk p m'<kA rk p (m'-1))->P m')->cN n rk (kas_asc p f m) P
 |0,m,_,hs,h=>h m (zc _) (zc _) hs λz=>absurd z (by lia)
 |f+1,m,h1,hs,h=>by
  refine⟨hr.2 m,hr.2 (m-1),?_⟩;rw[vT (rk:=rk),vT (rk:=rk)];by_cases hc:kA rk p m<kA rk p (m-1)
  .rw[qS hc];exact h m (zc _) (by lia) hs λ_=>hc
  .rw[qT hc];refine HR hr f (m+1) (by lia) (λa b hab hb=>?_) λm' h2 h3 h4 h5=>h m' (by lia) (by lia) h4 λz=>h5 (by lia);by_cases hbm:b<m
   .exact hs a b hab hbm
   .have:b=m:=by lia
    subst this;by_cases ha:a=b
    .rw[ha];exact Int.le_refl _
    .have:=hs a (b-1) (by lia) (by lia);lia
def IL(hr:nR n p)(hs:vN rk p k):∀(f l r:Nat),l<=r->r<=k->r-l<=f->(∀a,a<l->kA rk p a<=kA rk p k)->(∀a,r<=a->a<k->kA rk p k<kA rk p a)->
  (∀l',l'<=k->(∀a,a<l'->kA rk p a<=kA rk p k)->(∀a,l'<=a->a<k->kA rk p k<kA rk p a)->P l')->cN n rk (kas_place p k f l r) P
 |0,l,r,h1,h2,h3,h4,h5,h=>by
  have:l=r:=by lia
  subst this;exact h l h2 h4 h5
 |f+1,l,r,h1,h2,h3,h4,h5,h=>by
  unfold kas_place;by_cases hl:l≥r
  .rw[q8 hl];have:l=r:=by lia
   subst this;exact h l h2 h4 h5
  .rw[q9 hl];refine⟨hr.2 k,hr.2 _,?_⟩;rw[vT (rk:=rk),vT (rk:=rk)];by_cases hc:kA rk p k<kA rk p ((l+r)/2)
   .rw[qS hc];refine IL hr hs f l ((l+r)/2) (by lia) (by lia) (by lia) h4 (λa h6 h7=>?_) h;have:=hs _ a h6 h7;lia
   .rw[qT hc];refine IL hr hs f ((l+r)/2+1) r (by lia) h2 (by lia) (λa h6=>?_) h5 h;have:=hs a ((l+r)/2) (by lia) (by lia);lia
def Of(hk:k<p.size)(hd:d<=k)(j:Nat):kA rk (bubble p k d) j=if j=k-d then kA rk p k else if k-d<j/\j<=k then kA rk p (j-1)else kA rk p j:=by unfold kA;rw[getElem?_bubble hk d hd j];grind
def Ml(hn:0<n):∀(f:Nat)(p:Array Nat)(k:Nat),nR n p->vN rk p k->k+f<=n->(∀p',p'.Perm p->nR n p'->vN rk p' (k+f)->P p')->cN n rk (kas_bin f p k) P
 |0,p,k,hr,hs,_,h=>h p (Array.Perm.refl _) hr hs
 |f+1,p,k,hr,hs,hk,h=>by
  unfold kas_bin;refine Dv (IL hr hs k 0 k (zero_le _) (zc _) (by lia) (λa z=>absurd z (by lia)) (λa z1 z2=>absurd z1 (by lia)) λl hl h1 h2=>?_);have hks:k<p.size:=by rw[hr.1];lia
  have hp:=bubble_perm p k (k-l);refine Ml hn f _ (k+1) (Es hr hp hn) (λa b hab hb=>?_) (by lia) λp' q1 q2 q3=>h p' (q1.trans hp) q2 (by rw[show k+(f+1)=k+1+f by lia];exact q3);rw[Of hks (by lia),Of hks (by lia)];have ekl:k-(k-l)=l:=by lia
  rw[ekl];by_cases ha:a=l
  .rw[q8 ha];by_cases hb2:b=l
   .rw[q8 hb2];exact Int.le_refl _
   .rw[q9 hb2,q8 ⟨by lia,by lia⟩];have:=h2 (b-1) (by lia) (by lia);lia
  .rw[q9 ha];by_cases ha2:l<a/\a<=k
   .rw[q8 ha2,q9 (by lia),q8 ⟨by lia,by lia⟩];exact hs (a-1) (b-1) (by lia) (by lia)
   .rw[q9 ha2];have hal:a<l:=by lia
    by_cases hb2:b=l
    .rw[q8 hb2];exact h1 a hal
    .rw[q9 hb2];by_cases hb3:l<b/\b<=k
     .rw[q8 hb3];exact hs a (b-1) (by lia) (by lia)
     .rw[q9 hb3];exact hs a b hab (by lia)
def DU(hj:j<=p.size)(k:Nat):kA rk (kas_rev p i j) k=if i<=k/\k<j then kA rk p (i+j-1-k)else kA rk p k:=by
 unfold kA kas_rev;rw[getElem?_mirror_all hj];by_cases h:i<=k/\k<j
 .rw[q8 h,q8 h]
 .rw[q9 h,q9 h]
def Bg(p:Array Nat)(i j:Nat):(kas_rev p i j).Perm p:=mirror_perm ..
def Iv(hn:0<n):∀(f:Nat)(p:Array Nat)(m q:Nat),nR n p->Gk rk p m->m+f<=n->q+1<=m->(∀a,m-(q+1)<=a->a<m->kA rk p a=kA rk p (m-1))->
  (∀p' m' q',p'.Perm p->nR n p'->Gk rk p' m'->m'<=m+f->m<=m'->q'+1<=m'->(∀a,m'-(q'+1)<=a->a<m'->kA rk p' a=kA rk p' (m'-1))->P (p',m',q'))->cN n rk (kas_desc f p m q) P
 |0,p,m,q,hr,hd,_,hq,he,h=>h p m q (Array.Perm.refl _) hr hd (zc _) (zc _) hq he
 |f+1,p,m,q,hr,hd,hm,hq,he,h=>by
  unfold kas_desc;refine⟨hr.2 m,hr.2 (m-1),?_⟩;rw[vT (rk:=rk),vT (rk:=rk)];by_cases hc:kA rk p m<kA rk p (m-1)
  ·(rw[qS hc];dsimp only;rw[q8 rfl])
   have go:∀p2:Array Nat,p2.Perm p->(∀k,kA rk p2 k=kA rk p k)->cN n rk (kas_desc f p2 (m+1) 0) P:=by
    intro p2 hp hk;refine Iv hn f p2 (m+1) 0 (Es hr hp hn) (λa b hab hb=>?_) (by lia) (by lia) (λa h1 h2=>?_) λp' m' q' g1 g2 g3 g4 g5 g6 g7=>h p' m' q' (g1.trans hp) g2 g3 (by lia) (by lia) g6 g7
    .rw[hk,hk];by_cases hbm:b<m
     .exact hd a b hab hbm
     .have:b=m:=by lia
      subst this;by_cases ha:a=b
      .rw[ha];exact Int.le_refl _
      .have:=hd a (b-1) (by lia) (by lia);lia
    .have:a=m+1-1:=by lia
     rw[this]
   by_cases hq0:q>0
   .rw[q8 hq0];refine go _ (Bg ..) λk=>?_;rw[DU (by rw[hr.1];lia)];by_cases hk:m-(q+1)<=k/\k<m
    .rw[q8 hk,he k hk.1 hk.2,he _ (by lia) (by lia)]
    .rw[q9 hk]
   .rw[q9 hq0];exact go p (Array.Perm.refl _) λ_=>rfl
  ·(rw[qT hc];dsimp only;rw[q9 qY])
   refine⟨hr.2 (m-1),hr.2 m,?_⟩;rw[vT (rk:=rk),vT (rk:=rk)];by_cases hc2:kA rk p (m-1)<kA rk p m
   ·(rw[qS hc2];dsimp only;rw[q8 rfl])
    exact h p m q (Array.Perm.refl _) hr hd (by lia) (zc _) hq he
   ·(rw[qT hc2];dsimp only;rw[q9 qY])
    have heq:kA rk p m=kA rk p (m-1):=by lia
    refine Iv hn f p (m+1) (q+1) hr (λa b hab hb=>?_) (by lia) (by lia) (λa h1 h2=>?_) λp' m' q' g1 g2 g3 g4 g5 g6 g7=>h p' m' q' g1 g2 g3 (by lia) (by lia) g6 g7
    .by_cases hbm:b<m
     .exact hd a b hab hbm
     .have:b=m:=by lia
      subst this;by_cases ha:a=b
      .rw[ha];exact Int.le_refl _
      .have:=hd a (b-1) (by lia) (by lia);lia
    .show kA rk p a=kA rk p m;by_cases ha:a=m
     .rw[ha]
     .rw[heq];exact he a (by lia) (by lia)
def Tf(hm:m<=p.size)(hd:Gk rk p m):vN rk (kas_rev p 0 m) m:=λa b hab hb=>by rw[DU hm,DU hm,q8 ⟨zero_le _,by lia⟩,q8 ⟨zero_le _,hb⟩];exact hd _ _ (by lia) (by lia)
def Ni(hn:0<n)(hr:nR n p)(hd:Gk rk p m)(h1:1<=m)(hm:m<=n)
  (h:∀m' p',p'.Perm p->nR n p'->m<=m'->m'<=n->vN rk p' m'->P (m',p')):cN n rk (kas_tail3 m n p) P:=by
 have hs:=Tf (by rw[hr.1];exact hm) hd;have hr2:=Es hr (Bg p 0 m) hn;unfold kas_tail3;exact Dv (HR hr2 (n-m) m h1 hs λm' g1 g2 g3 _=>h m' _ (Bg ..) hr2 g1 (by lia) g3)
def Ob(hn:0<n)(hr:nR n p)(hd:Gk rk p (m+1))(h1:1<=m)(hm:m+1<=n)
  (h:∀m' p',p'.Perm p->nR n p'->1<=m'->m'<=n->vN rk p' m'->P (m',p')):cN n rk (kas_descPart m n p) P:=by
 unfold kas_descPart;refine Dv (Iv hn (n-(m+1)) p (m+1) 0 hr hd (by lia) (by lia) (λa g1 g2=>by rw[show a=m+1-1 by lia]) λp' m' q' g1 g2 g3 g4 g5 g6 g7=>?_);show cN n rk (if q'>0 then kas_tail3 m' n (kas_rev p' (m'-(q'+1)) m')else kas_tail3 m' n p') P;by_cases hq:q'>0
 .rw[q8 hq];have hk:∀k,kA rk (kas_rev p' (m'-(q'+1)) m') k=kA rk p' k:=λk=>by
   rw[DU (by rw[g2.1];lia)];by_cases hk:m'-(q'+1)<=k/\k<m'
   .rw[q8 hk,g7 k hk.1 hk.2,g7 _ (by lia) (by lia)]
   .rw[q9 hk]
  refine Ni hn (Es g2 (Bg ..) hn) (λa b hab hb=>by rw[hk,hk];exact g3 a b hab hb) (by lia) (by lia) λm2 p2 e1 e2 e3 e4 e5=>h m2 p2 (e1.trans ((Bg ..).trans g1)) e2 (by lia) e4 e5
 .rw[q9 hq];exact Ni hn g2 g3 (by lia) (by lia) λm2 p2 e1 e2 e3 e4 e5=>h m2 p2 (e1.trans g1) e2 (by lia) e4 e5
def Vu(hn:2<=n)(hr:nR n p)(h:∀m' p',p'.Perm p->nR n p'->1<=m'->m'<=n->vN rk p' m'->P (m',p')):cN n rk (kas_count n p) P:=by
 unfold kas_count;refine Dv (HR hr (n-1) 1 (zc _) (λa b hab hb=>by rw[show a=b by lia];exact Int.le_refl _) λm g1 g2 g3 g4=>?_);by_cases hm:(m==n)=true
 .rw[q8 hm];have:m=n:=by simpa using hm
  exact h m p (Array.Perm.refl _) hr g1 (by lia) g3
 .rw[q9 hm];have hne:m≠n:=by simpa using hm
  have hlt:=g4 (by lia);by_cases hm1:m>1
  .rw[q8 hm1];refine⟨hr.2 0,hr.2 (m-1),?_⟩;rw[vT (rk:=rk),vT (rk:=rk)];by_cases hc:kA rk p 0<kA rk p (m-1)
   ·(rw[qS hc];dsimp only;rw[q8 rfl])
    exact h m p (Array.Perm.refl _) hr g1 (by lia) g3
   ·(rw[qT hc];dsimp only;rw[q9 qY])
    have heq:∀a,a<m->kA rk p a=kA rk p (m-1):=λa ha=>by have e1:=g3 0 a (zero_le _) ha;have e2:=g3 a (m-1) (by lia) (by lia);lia
    have hk:∀k,kA rk (kas_rev p 0 m) k=kA rk p k:=λk=>by rw[DU (by rw[hr.1];lia)];grind
    refine Ob (by lia) (Es hr (Bg ..) (by lia)) (λa b hab hb=>?_) g1 (by lia) λm2 p2 e1 e2 e3 e4 e5=>h m2 p2 (e1.trans (Bg ..)) e2 e3 e4 e5;grind
  .rw[q9 hm1];have:m=1:=by lia
   subst this;refine Ob (by lia) hr (λa b hab hb=>?_) (zc _) (by lia) h;grind
def Vd(hn:0<n):nR n (List.range n).toArray:=by
 refine⟨by simp,λk=>?_⟩;rw[getD_eq_getD_getElem?];by_cases hk:k<n
 .simp[hk]
 .simp[hk];exact hn
def Uc(hn:2<=n)(h:∀p,p.Perm (List.range n).toArray->vN rk p n->P p):cN n rk (kas_sort n) P:=by
 unfold kas_sort;refine Dv (Vu hn (Vd (by lia)) λm p g1 g2 g3 g4 g5=>?_);show cN n rk (if m<n then kas_bin (n-max m 1) p (max m 1)else .ret p) P;have hmax:max m 1=m:=by lia
 rw[hmax];by_cases hm:m<n
 .rw[q8 hm];exact Ml (by lia) (n-m) p m g2 g5 (by lia) λp' e1 e2 e3=>h p' (e1.trans g1) (by rw[show m+(n-m)=n by lia]at e3;exact e3)
 .rw[q9 hm];have:m=n:=by lia
  subst this;exact h p g1 g5
end FL
namespace FL
open PySem PySem.Spec PyProof.Rows L2
def Lz{h:Heap}(x:h.Ns a m)(y:h.Ns a m'):m=m':=by obtain⟨o,es,ep,e,d,_,f⟩:=x;obtain⟨o',es',ep',e',d',_,f'⟩:=y;grind
section
open PySem.W HT
def NU{P:α->Prop}{R:α->Shared->Prop}(hc:∀i j(C:Bool->Shared->Prop),i<n->j<n->C (decide (rk i<rk j)) s->kas_ask prog w A κ vs i j C s):
  ∀(t:KasT α),cN n rk t P->(∀a,P a->R a s)->t.kasWp (kas_ask prog w A κ vs) R s
 |.ret a,h,q=>q a h
 |.ask i j k,h,q=>hc i j _ h.1 h.2.1 (NU hc (k _) h.2.2 q)
def rest(h₀:Heap)(L:Addr)(h:Heap):List (Addr×Obj):=(List.range h.objs.size).filterMap λb=>if b=L then none else if(h₀.get? b).isSome then none else(h.get? b).map λo=>(b,o)
def zbV:p∈rest h₀ L h↔h.get? p.1=some p.2/\p.1≠L/\h₀.get? p.1=none:=by
 unfold rest;rw[mem_filterMap];constructor
 .rintro⟨b,_,e⟩;by_cases h1:b=L
  .rw[q8 h1]at e;cases e
  .rw[q9 h1]at e;cases h2:h₀.get? b with
   |some o=>rw[h2]at e;cases e
   |none=>rw[h2]at e;simp only[Option.isSome_none,false_eq_true,if_false]at e;obtain⟨o,e1,e2⟩:=qZ.mp e;cases e2;exact⟨e1,h1,h2⟩
 .rintro⟨e1,e2,e3⟩;refine⟨p.1,qK.mpr (qe e1),?_⟩;rw[q9 e2,e3,e1];rfl
end
end FL
namespace FL
open PySem PySem.Spec PyProof.Rows L2
open HT
section
variable{K:W.Frag}
def VW{α:Type}(d:α):∀l:List α,(List.range l.length).map (λi=>l.getD i d)=l:=λl=>by refine List.ext_getElem (by simp) λi h1 h2=>?_;simp[h2]
end
end FL
namespace FL
open PySem PySem.Spec PyProof.Rows L2
def SN{vs:List Value}(few:vs.length<2):(vs.toArray.zip vs.toArray).map (·.2)=vs.toArray:=by rw[List.zip_toArray,List.map_toArray,List.map_snd_zip (zc _)]
def Nu(at_:s.heap.get? a=some (seqObj "list" vs.toArray n))(few:vs.length<2)
  (k:P (.done (.ret .none)) {s with heap:=sortedHeap s.heap a vs vs.toArray}):wpAny (model prog w) A (Builtin.«list.sort» ⟨[.ref a],[]⟩) P E s:=by
 rw[list_sort_plain];have few':vs.toArray.size<2:=by simpa using few
 have hmid:∃e,(s.heap.update a (Obj.mapSeq λ_=>#[])).get? a=some (seqObj "list" #[] e):=⟨_,get?_update_seq at_ _⟩
 obtain⟨e,mid⟩:=hmid;have end_:(((s.heap.update a (Obj.mapSeq λ_=>#[])).push (seqObj "tuple" vs.toArray 0)).push (seqObj "list" #[] 0)).get? a=some (seqObj "list" #[] e):=
  qc _ (qc _ mid)
 refine qa (listItems_at at_ rfl (qa (listUpdate_at at_ rfl (qa (seqEpoch_at mid rfl (qa (wpAny_newTuple (qa (wpAny_newList (zt ?_))))))))));show wpAny (model prog w) A _ P E (Shared.mk (((s.heap.update a (Obj.mapSeq λ_=>#[])).push (seqObj "tuple" vs.toArray 0)).push (seqObj "list" #[] 0)) s.gens s.drawn s.toks s.os);dsimp only;rw[q8 few',q8 few'];refine qa (qb (?_:wpAny _ _ _ _ _ _));rw[StateT.run_pure];have eo:(arrOf (SortSt.mk' general' (vs.toArray.zip vs.toArray) #[] 7 none)).map (·.2)=vs.toArray:=by show(vs.toArray.zip vs.toArray).map (·.2)=_;exact SN few
 refine qa (qb (?_:wpAny _ _ _ _ _ _));dsimp only;rw[eo];refine qa (seqEpoch_at end_ rfl (qa (listUpdate_at end_ rfl ?_ (hsz2:=by rw[zp];lia))));simp only[bne_self_eq_false,false_eq_true,if_false];exact qb k
def We(is:s.heap.IsList l vs.toArray)(few:vs.length<2)
  (k:Q (.ref (s.heap.objs.size+1)) {s with heap:=sortedAll s.heap vs vs.toArray}):wpAny (model prog w) A (call (.builtin "sorted") [.ref l]) Q E s:=by
 refine Calls.call_function_entry kind_sorted plain_sorted entry_sorted (args_sorted1 _) (?_:wpAny _ _ _ _ _ _);unfold Builtin.«sorted»;refine qa (m:=checkCount "sorted" 1 1 _) (qb (qa (collect_list is (qa (wpAny_newList ?_)))));generalize eh:((s.heap.push (seqObj "list" #[] 0)).update s.heap.objs.size (Obj.mapSeq (·++vs.toArray)))=h1;have z:h1.objs.size=s.heap.objs.size+1:=by rw[<-eh,Heap.size_update,size_push']
 have new:(h1.push (seqObj "list" vs.toArray 0)).get? (s.heap.objs.size+1)=some (seqObj "list" vs.toArray 0):=z▸qd _ rfl;show wpAny _ _ _ _ _ (Shared.mk (h1.push (seqObj "list" vs.toArray 0)) s.gens s.drawn s.toks s.os);rw[z];refine qa (zt (zo slot_list_sort ⟨_,new,rfl⟩ entry_list_sort (Nu new few ⟨_,rfl,?_⟩) (args_list_sort _)));subst eh;exact qb ⟨_,rfl,k⟩
section
variable{K:W.Frag}
def BV(K:W.Frag):List V->Hp->VK->Prop:=λxs H Q=>∃a ys,xs=[.ref a]/\bR K H a ys/\ys.length<2/\∀q,H q=none->Q (.ref q) (upd H q (.lst ys))
def WC:aX X (.builtin "sorted") (BV X.K):=by
 intro zU s Z H xs us Q I r h;obtain⟨a,ys,rfl,hq,h2,q⟩:=h;cases r with
 |cons r1 r2=>cases r2;cases r1;obtain⟨zY,r,pl,_⟩:=I.list hq;refine We pl.isList (by rw[<-r.length];exact h2) ?_;obtain⟨e,he⟩:=sortedAll_at s.heap zY zY.toArray;refine⟨.ref (s.heap.objs.size+1),_,I.laid (t':=s.toks) (o:=.lst ys) (λb ob w=>sortedAll_old w) (le_succ _) ?_,rfl,q _ (I.hok.fresh (le_succ _))⟩;exact⟨by rw[zp];lia,zY,e,r,he⟩
end
end FL
namespace FL
def rS(a b:D):Option Bool:=match b with
 |.str l=>match a with
  |.str x=>some (iT l x).isSome
  |_=>none
 |d=>DK a d
def fT(a b:D):Option Bool:=(rS a b).map (!·)
def dD(a:WE):WE:=λU Q E=>a U (λr U1=>zG (give r U1) λp=>Q (.v (.sh p.1.toD)) p.2) E
def DJ(d q:D):Option (Option D):=match d with
 |.dct t ks vs=>if aH t q then some (lk ks vs q)else none
 |_=>none
def Da:D->Bool
 |.dct _ _ _=>true
 |_=>false
def sZ(o k d:WE):WE:=λU Q E=>o U (λx U1=>(zG (zQ x U1) λdd=>Da dd=true)/\k U1 (λy U2=>d U2 (λz U3=>
 zG (zQ x U3) λdd=>zG (view y U3) λq=>zG (DJ dd q) λo=>match o with
  |some e=>Q (.v (.sh e)) U3
  |none=>Q z U3) E) E) E
mutual
def gO:D->Bool
 |.non=>true
 |.bl _=>true
 |.int i=>decide (-1000000000000<i)&&decide (i<1000000000000)
 |.str l=>l.all λc=>decide (c<1114112)
 |.tup l=>eC l
 |.lst l=>eC l
 |_=>false
def eC:List D->Bool
 |[]=>true
 |d::r=>gO d&&eC r
end
mutual
def sG:D->Nat
 |.int _=>41
 |.str l=>l.length
 |.tup l=>hW l
 |.lst l=>hW l
 |_=>0
def hW:List D->Nat
 |[]=>0
 |d::r=>sG d+1+hW r
end
def cI(d:D):Bool:=gO d&&(decide (gJ d<=30)&&decide (sG d<=1000000))
def gZ(res:Bool)(a b:WE):WT:=λU Q E=>a U (λx U1=>zG (zQ x U1) λp=>cI p=true/\b U1 (λy U2=>zG (zQ y U2) λq=>p=q/\Q res U2) E) E
def eD(p q:D):Option S:=match p,q with
 |.str x,.int n=>if 0<=n/\n<=1000/\x.length<=500 then some (.sh (.str (List.replicate n.toNat x).flatten))else none
 |p,q=>uG p q
end FL
namespace FL
open PySem PySem.Spec PyProof.Rows L2
section
variable{K:W.Frag}
def WM(x y:Str):Txt.contains x y=(iT x.cps.toList y.cps.toList).isSome:=by
 have h:=RM x y;unfold Txt.find at h;unfold Txt.contains;cases q:Builtin.Str.occurrences x y 0 x.length 1 with
 |nil=>
  rw[q]at h;cases e:iT x.cps.toList y.cps.toList with
  |none=>rfl
  |some i=>rw[e]at h;have h':(-1:Int)=(i:Int):=h;lia
 |cons i r=>
  rw[q]at h;cases e:iT x.cps.toList y.cps.toList with
  |none=>rw[e]at h;have h':((i:Nat):Int)=-1:=h;lia
  |some i=>rfl
def EY(neg:Bool):R2:=λx y H Q=>∃z u,x=.str z/\y=.str u/\Q (.bl (if neg then !(Txt.contains u z)else Txt.contains u z)) H
def Vc:OpR X (compareOp .NotIn) (EY true):=by intro zU s Z H x y v u Q I rx ry h;obtain⟨z,t,rfl,rfl,q⟩:=h;obtain⟨t1,rfl⟩:=rx;obtain⟨t2,rfl⟩:=ry;exact SB.notContains ⟨.bl _,H,I,rfl,q⟩
def Cb(K:W.Frag)(neg:Bool):R2:=λx y H Q=>mX K neg x y H Q\/EY neg x y H Q
def Oh(hu:X.A.units+32<cLine):OpR X (compareOp .NotIn) (Cb X.K true):=FL.OpR.or (Wy hu) Vc
def UD(r1:aN K H x p)(r2:aN K H y q)(e:rS p q=some k)(hq:Q (.bl (if neg then !k else k)) H):Cb K neg x y H Q:=by
 unfold rS at e;split at e
 .split at e
  .cases r1 with
   |str e1 z1=>cases r2 with
    |str e2 z2=>refine .inr ⟨_,_,rfl,rfl,?_⟩;rw[WM,e1,e2,qg e];exact hq
  .cases e
 .exact .inl (Sq r1 r2 e hq)
def OA:fX K (Cb K true) fT:=λH x y p q k Q r1 r2 e hq=>by
 unfold fT at e;cases q1:rS p q with
 |none=>rw[q1]at e;cases e
 |some b=>rw[q1]at e;have e':(!b)=k:=qg e;subst e';exact UD r1 r2 q1 hq
inductive Pn(K:W.Frag)(F H:Hp)(xs:List V)(l:List S)(fp:List Addr)(m:Nat)(s:S):Prop
 |mk (x:V) (fa fi fb:List Addr):xs[m]?=some x->aM K F H x s fi->fp=fa++(fi++fb)->(∀{H':Hp}{v':V}{s':S}{fq:List Addr},(∀a∈fa++fb,H' a=H a)->aM K F H' v' s' fq->zK K F H' (xs.set m v') (l.set m s') (fa++(fq++fb)))->Pn K F H xs l fp m s
def zK.at:∀{xs:List V}{l:List S}{fp:List Addr}{m:Nat}{s:S},zK K F H xs l fp->l[m]?=some s->Pn K F H xs l fp m s
 |_,_,_,_,_,.nil,h=>by simp at h
 |_,_,_,0,_,.cons (fp:=fp) (fq:=fq) a b,h=>by simp at h;subst h;exact⟨_,[],fp,fq,rfl,a,rfl,λhk r=>by rw[nil_append];exact .cons r (b.mono (zH.refl F) λc hc=>hk c hc)⟩
 |_,_,_,m+1,_,.cons (fp:=fp) (fq:=fq) a b,h=>by obtain⟨x,fa,fi,fb,h1,h2,rfl,up⟩:=zK.at (m:=m) b (by simpa using h);refine⟨x,fp++fa,fi,fb,by simpa using h1,h2,(qq ..).symm,λhk r=>?_⟩;rw[qq];exact .cons (a.mono (zH.refl F) λc hc=>hk c (qk _ (qk _ hc))) (up (λc hc=>hk c ((qz.mp hc).elim (λz=>qk _ (qj _ z)) λz=>qj _ z)) r)
def Rel.hide2(r:Rel K (U++[some s]) (Z++[some v]) F G H)(h:U.length=Z.length):∃G' fp,Rel K U Z F G' H/\zH G G'/\aM K F H v s fp/\(∀a∈fp,∃o,G' a=some o/\H a=some o)/\
  ∀{U2:Env}{Z2:St}{F2 H2:Hp},zH F F2->Rel K U2 Z2 F2 G' H2->Rel K (U2++[some s]) (Z2++[some v]) F2 G H2:=by
 classical
 refine cps λ_ kk=>?_;obtain⟨fp,e,nd,ap⟩:=r.en;obtain⟨f1,f2,rfl,a,b⟩:=e.cut h;obtain⟨n1,n2,n12⟩:=qy.mp nd;refine kk ?_;have b':=b;cases b' with
 |@so _ _ _ _ fs fn sr nl=>
 cases nl;refine⟨λx=>if x∈fs++[]then H x else G x,fs,⟨r.fr,λx o q=>?_,f1,a,n1,λx hx=>?_⟩,λx o q=>?_,sr,λx hx=>?_,λ{U2 Z2 F2 H2} sm r2=>?_⟩
 .by_cases z:x∈fs++[]
  .have:=b.in_ x z;grind
  .simp only[z,if_false]at q;exact r.gr x o q
 .grind
 .grind
 .obtain⟨o,q,_⟩:=b.in_ x (qk _ hx);grind
 .obtain⟨fp2,e2,nd2,ap2⟩:=r2.en;have hk:∀x∈fs++[],H2 x=H x/\F2 x=none/\x∉fp2:=λx hx=>by obtain⟨o,q,_⟩:=b.in_ x hx;have w:=r2.gr x o (by simp only[hx,if_true];exact q);grind
  refine⟨r2.fr,λx o q=>?_,fp2++(fs++[]),e2.app (b.mono sm λx hx=>(hk x hx).1),?_,λx hx=>?_⟩
  .have z:x∉fs++[]:=λz=>by grind
   exact r2.gr x o (by simp only[z,if_false];exact q)
  .grind
  grind
def Rel.frzEnd(r:Rel K (U++[some s]) (Z++[some v]) F G H)(h:U.length=Z.length):∃F',zH F F'/\Rel K (U++[some (.sh s.toD)]) (Z++[some v]) F' G H:=by obtain⟨u,F',e1,sm,rp,r'⟩:=r.give (i:=U.length) (s:=s) Av;rw[show(U++[some s]).set U.length (some (S.sh s.toD))=U++[some (S.sh s.toD)] from Je]at r';exact⟨F',sm,r'⟩
end
section
variable{st:Stmt}
def jI(he:FE X e we):FE X e (dD we):=λpn xe hp=>by refine PE.imp (he pn xe hp) λZ H Q q=>?_;obtain⟨F,G,U,P,PX,zW,hw,hok,hx⟩:=q;refine⟨F,G,U,_,PX,zW,hw,λr U1 v F1 H1 hk s1 r1 rv=>?_,hx⟩;obtain⟨⟨s,U2⟩,eg,hk⟩:=bL hk;obtain⟨F2,s2,l2,r2⟩:=dF (U':=[]) (Z':=[]) r1 (aS r1) rv eg;obtain⟨F3,s3,r3⟩:=Rel.frzEnd r2 (aS r2);exact hok _ U2 v F3 H1 hk (s1.trans (s2.trans s3)) r3 trivial
end
section
variable{K:W.Frag}
def Sa(h:DJ d q=some o):∃t ks vs,d=.dct t ks vs/\aH t q=true/\lk ks vs q=o:=by unfold DJ at h;grind
def KA{vs:List α}{P:V->α->Prop}(hl:zV.length=vs.length)(h:∀(i:Nat) x y,(zV.map (·.2))[i]?=some x->vs[i]?=some y->P x y):
  (lk (zV.map λp=>aL p.1) vs (aL key)=none/\dW zV key=none)\/∃x y,dW zV key=some x/\lk (zV.map λp=>aL p.1) vs (aL key)=some y/\P x y:=
 Ek aL (λ_ _=>wI) zV vs key P hl h
def Kz{vs:List α}{key:List aQ}{P:V->α->Prop}(hl:zV.length=vs.length)(h:∀(i:Nat) x y,(zV.map (·.2))[i]?=some x->vs[i]?=some y->P x y):
  (lk (zV.map λp=>D.tup (p.1.map aL)) vs (D.tup (key.map aL))=none/\dW zV key=none)\/∃x y,dW zV key=some x/\lk (zV.map λp=>D.tup (p.1.map aL)) vs (D.tup (key.map aL))=some y/\P x y:=
 Ek (λl=>D.tup (l.map aL)) (λa b z=>DC (D.tup.inj z)) zV vs key P hl h
def SS(r1:aN K H x d)(hk:aH t d=true)
  (r2:(∃zV,t=false/\Rd H a (.dK zV)/\ks=zV.map (λp=>aL p.1)/\zS K F (zV.map (·.2)) vs)\/∃zV,t=true/\Rd H a (.dT zV)/\ks=zV.map (λp=>D.tup (p.1.map aL))/\zS K F (zV.map (·.2)) vs):
  ∃o,jH H a x o/\((lk ks vs d=none/\o=none)\/∃v e,o=some v/\lk ks vs d=some e/\aN K F v e):=by
 rcases r2 with⟨zV,rfl,e,k,r⟩|⟨zV,rfl,e,k,r⟩
 .obtain⟨key,rfl,rfl⟩:=Dx r1 hk;refine⟨_,.inl ⟨zV,key,e,rfl,rfl⟩,?_⟩;rw[k];rcases KA (zV:=zV) (vs:=vs) (key:=key) (P:=λv e=>aN K F v e) (by have:=r.len;simpa using this) (λi x y h1 h2=>by obtain⟨x',hx',rx⟩:=r.get h2;rw[h1]at hx';cases hx';exact rx)with⟨h1,h2⟩|⟨v,e,h1,h2,h3⟩
  .exact .inl ⟨h1,h2⟩
  .exact .inr ⟨v,e,h1,h2,h3⟩
 .cases r1 with
  |tup e1 q=>
   obtain⟨keys,rfl,rfl⟩:=Ar q hk;refine⟨_,.inr ⟨zV,keys,_,e,rfl,e1,rfl⟩,?_⟩;rw[k];rcases Kz (zV:=zV) (vs:=vs) (key:=keys) (P:=λv e=>aN K F v e) (by have:=r.len;simpa using this) (λi x y h1 h2=>by obtain⟨x',hx',rx⟩:=r.get h2;rw[h1]at hx';cases hx';exact rx)with⟨h1,h2⟩|⟨v,e,h1,h2,h3⟩
   .exact .inl ⟨h1,h2⟩
   .exact .inr ⟨v,e,h1,h2,h3⟩
  |_=>cases hk
def bG.dct(r:bG K F H v (.dct t ks vs))(sm:zH F H):∃a,v=.ref a/\((∃zV,t=false/\Rd H a (.dK zV)/\ks=zV.map (λp=>aL p.1)/\zS K F (zV.map (·.2)) vs)\/
  ∃zV,t=true/\Rd H a (.dT zV)/\ks=zV.map (λp=>D.tup (p.1.map aL))/\zS K F (zV.map (·.2)) vs):=by
 rcases r with r|⟨a,xs,ds,e1,e2,e3,r⟩|⟨a,zV,ks',vs',e1,e2,e3,e4,r⟩|⟨a,zV,ks',vs',e1,e2,e3,e4,r⟩
 .cases r with
  |dK e k r=>exact⟨_,rfl,.inl ⟨_,rfl,Rd.mono sm e,k,r⟩⟩
  |dT e k r=>exact⟨_,rfl,.inr ⟨_,rfl,Rd.mono sm e,k,r⟩⟩
 .cases e2
 .cases e2;exact⟨a,e1,.inl ⟨zV,rfl,.inl e3,e4,r⟩⟩
 .cases e2;exact⟨a,e1,.inr ⟨zV,rfl,.inl e3,e4,r⟩⟩
end
def Si(hu:X.A.units+1<cLine)(ho:FE X o wo)(hi:FE X i wi)(hd:FE X d wd)(m:M2 X o "get" apos i d cpos):FE X (.Call (.Attribute o "get" apos) [i,d] [] cpos) (sZ wo wi wd):=λpn xe hp=>by
 refine PE.imp (TF (X:=wp X pn xe) hu (ho pn xe hp) (hi pn xe hp) (hd pn xe hp) ⟨m.base,m.few,m.line,m.trees⟩) λZ H Q q=>?_;obtain⟨F,G,U,P,PX,zW,hw,hok,hx⟩:=q;refine⟨F,G,U,_,PX,zW,hw,λx U1 o' F1 H1 hk s1 r1 rv=>?_,hx⟩;obtain⟨hD,hk⟩:=hk;have l1:=aS r1;obtain⟨d0,e0,hD⟩:=bL hD;have isd:∃a,o'=.ref a/\Gh H1 a:=by
  cases d0 with
  |dct t ks vs=>
   obtain⟨F'',sm',re',rel'⟩:=fQ (U':=[]) (Z':=[]) r1 l1 rv e0;obtain⟨a,ea,h⟩:=re'.dct rel'.fr;rcases h with⟨zV,_,h,_⟩|⟨zV,_,h,_⟩
   .exact⟨a,ea,.inl ⟨zV,h⟩⟩
   .exact⟨a,ea,.inr ⟨zV,h⟩⟩
  |_=>cases hD
 obtain⟨a,rfl,isd⟩:=isd;refine⟨a,rfl,isd,?_⟩;obtain⟨G1,rel1,gg,back⟩:=r1.hide l1;refine⟨F1,G1,U1,_,PX,rel1,hk,λy U2 i' F2 H2 hk2 s2 r2 rv2=>?_,hx.mono (λ_ z=>z) s1 gg⟩;have l2:=aS r2;obtain⟨G2,rel2,gg2,back2⟩:=r2.hide l2;refine⟨F2,G2,U2,_,PX,rel2,hk2,λz U3 d' F3 H3 hk3 s3 r3 rv3=>?_,hx.mono (λ_ z=>z) (s1.trans s2) (gg.trans gg2)⟩;have l3:=aS r3;obtain⟨dd,ed,hk3⟩:=bL hk3;obtain⟨q,eq,hk3⟩:=bL hk3;obtain⟨oo,eo,hk3⟩:=bL hk3;have r4:=back (s2.trans s3) (back2 s3 r3);simp only[qq,qP,nil_append]at r4;have r5:Rel X.K (U3++[zI y,zI x]) (Z++[some i',some (.ref a)]) F3 G H3:=Rel.mid (U:=U3) (Z:=Z) r4 l3;have ri:=dJ (U':=[zI x]) (Z':=[some (.ref a)]) r5 l3 rv2 eq;have r6:Rel X.K ((U3++[zI z])++[zI x]) ((Z++[some d'])++[some (.ref a)]) F3 G H3:=by have:=Rel.mid (U:=U3++[zI z]) (Z:=Z++[some d']) (o:=zI y) (w:=some i') (U':=[zI x]) (Z':=[some (.ref a)]) (by simpa using r4) (by simp[l3]);exact this
 have r7:=Rel.swap (U1:=[zI z]) (Z1:=[some d']) (U2:=[zI x]) (Z2:=[some (.ref a)]) l3 rfl (by simpa using r6);obtain⟨F4,s4,re,r8⟩:=fQ (U':=[zI z]) (Z':=[some d']) r7 l3 rv ed;obtain⟨t,ks,vs,rfl,hkey,rfl⟩:=Sa eo;obtain⟨a',ea,hh⟩:=re.dct r8.fr;cases ea;obtain⟨o2,g,h⟩:=SS ri hkey hh;refine⟨o2,g,?_⟩;rcases h with⟨h1,rfl⟩|⟨v,e,rfl,h1,h2⟩
 .rw[h1]at hk3;exact hok _ U3 d' F4 H3 hk3 (s1.trans (s2.trans (s3.trans s4))) r8 rv3
 .rw[h1]at hk3;exact hok _ U3 v F4 H3 hk3 (s1.trans (s2.trans (s3.trans s4))) ((r8.drop l3).push h2) trivial
def Ib(h1:-1000000000000<i)(h2:i<1000000000000):i.natAbs.log2<40:=by
 have:i.natAbs<2^40:=by lia
 by_cases h0:i.natAbs=0
 .rw[h0];decide
 .exact(Nat.log2_lt h0).mpr this
mutual
def II:∀d:D,gO d=true->lM d=true
 |.non,_=>rfl
 |.bl _,_=>rfl
 |.int i,h=>by have h':(decide (-1000000000000<i)&&decide (i<1000000000000))=true:=h;rw[and_eq_true,qU,qU]at h';have:=Ib h'.1 h'.2;show decide (i.natAbs.log2<1920)=true;rw[qU];lia
 |.str _,_=>rfl
 |.tup l,h=>Jc l h
 |.lst l,h=>Jc l h
 |.dct _ _ _,h=>by cases h
 |.set _,h=>by cases h
 |.exc _ _ _,h=>by cases h
def Jc:∀l:List D,eC l=true->dX l=true
 |[],_=>rfl
 |d::r,h=>by rw[eC,and_eq_true]at h;rw[dX,II d h.1,Jc r h.2];rfl
end
mutual
def GO:∀d:D,gO d=true->(dI d).leavesShort 13=true
 |.non,_=>rfl
 |.bl _,_=>rfl
 |.int i,h=>by have h':(decide (-1000000000000<i)&&decide (i<1000000000000))=true:=h;rw[and_eq_true,qU,qU]at h';have:=int_text_length_le10 (a:=i) (k:=12) (by decide) (by lia);simp only[dI,PyData.leavesShort,qU];show(Str.ofString (toString i)).length<=13;rw[PySem.ofString_length];exact this
 |.str l,h=>by have h':(l.all λc=>decide (c<1114112))=true:=h;simp only[dI,PyData.leavesShort,qJ,qU]at h'⊢;intro c hc;have:=h' c (by simpa using hc);lia
 |.tup l,h=>by simp only[dI,PyData.leavesShort];exact IS l h
 |.lst l,h=>by simp only[dI,PyData.leavesShort];exact IS l h
 |.dct _ _ _,h=>by cases h
 |.set _,h=>by cases h
 |.exc _ _ _,h=>by cases h
def IS:∀l:List D,eC l=true->PyData.leavesShortAll 13 (dE l)=true
 |[],_=>rfl
 |d::r,h=>by rw[eC,and_eq_true]at h;simp only[dE,PyData.leavesShortAll,and_eq_true];exact⟨GO d h.1,IS r h.2⟩
end
mutual
def GN:∀d:D,gO d=true->(dI d).weight<=sG d
 |.non,_=>zc _
 |.bl _,_=>zc _
 |.int i,h=>by have h':(decide (-1000000000000<i)&&decide (i<1000000000000))=true:=h;rw[and_eq_true,qU,qU]at h';have:=Ib h'.1 h'.2;simp only[dI,PyData.weight,sG];split<;>lia
 |.str l,h=>by simp[dI,PyData.weight,sG]
 |.tup l,h=>by simp only[dI,PyData.weight,sG];exact IU l h
 |.lst l,h=>by simp only[dI,PyData.weight,sG];exact IU l h
 |.dct _ _ _,h=>by cases h
 |.set _,h=>by cases h
 |.exc _ _ _,h=>by cases h
def IU:∀l:List D,eC l=true->PyData.weightAll (dE l)<=hW l
 |[],_=>zc _
 |d::r,h=>by rw[eC,and_eq_true]at h;have h1:=GN d h.1;have h2:=IU r h.2;simp only[dE,PyData.weightAll,hW];lia
end
def bG.view{K:W.Frag}(h:bG K F H v d)(sm:zH F H):aN K H v d:=by
 rcases h with h|⟨a,xs,ds,rfl,rfl,e,r⟩|⟨a,zV,ks,vs,rfl,rfl,e,k,r⟩|⟨a,zV,ks,vs,rfl,rfl,e,k,r⟩
 .exact h.mono sm
 .exact .lst (bR.of e) (r.mono sm)
 .exact .dK (.of e) k (r.mono sm)
 .exact .dT (.of e) k (r.mono sm)
def Hf:D->Str
 |.non=>"None"
 |.bl b=>if b then "True" else "False"
 |.int i=>toString i
 |d=>(dI d).shown
def mV(K:W.Frag):List V->Hp->VK->Prop:=λxs H Q=>∃v d,xs=[v]/\aN K H v d/\cI d=true/\Q (.str (Hf d)) H
def NY(hr:bI k X.A):aX X (.builtin "repr") (mV X.K):=by
 intro zU s Z H xs us Q I r h;obtain⟨v,d,rfl,rp,hok,q⟩:=h;unfold cI at hok;rw[and_eq_true,and_eq_true,qU,qU]at hok;obtain⟨hs,hd,hw⟩:=hok;obtain⟨u,rfl,rx⟩:=vals1 r;have seq:∀a,v=.ref a->FH d=true->wpAny (model X.prog X.w) X.A (call (.builtin "repr") [u]) (EP X zU Z Q) X.xe s:=λa e hq=>by
  subst e;cases rx;obtain⟨as,rd⟩:=Uj I rp rfl (II d hs);have h1:=Nh d;have h2:=hr.units;have etx:Hf d=(dI d).shown:=by cases d<;>first|rfl|cases hq
  rw[etx]at q;refine repr_of_reads' (h₀:=s.heap) rd (OF d (II d hs)) (λh=>by rw[Os]at h;cases h) hr.gd (by lia) (λ_ _ z=>z) (λh' u tk hk=>⟨.str _,H,I.kept hk,⟨u,rfl⟩,q⟩) ?_;have hw2:=GN d hs;exact PyData.shown_fits (B:=13) (by decide) (by decide) (GO d hs) (by lia)
 cases rp with
 |non=>cases rx;exact P.repr_of_none ⟨.str _,H,I.kept λ_ _ z=>z,⟨_,rfl⟩,q⟩
 |bl b=>cases rx;exact P.repr_of_bool ⟨.str _,H,I.kept λ_ _ z=>z,⟨_,rfl⟩,q⟩
 |int i=>obtain⟨t,rfl⟩:=rx;have h':(decide (-1000000000000<i)&&decide (i<1000000000000))=true:=hs;rw[and_eq_true,qU,qU]at h';have:=Ib h'.1 h'.2;exact P.repr_of_int (by lia) ⟨.str _,H,I.kept λ_ _ z=>z,⟨_,rfl⟩,q⟩
 |@str x l e z=>
  obtain⟨t,rfl⟩:=rx;have ex:x=⟨l.toArray⟩:=by obtain⟨⟨a⟩⟩:=x;have e':a=l:=e;rw[e']
  subst ex;have hw2:=GN (.str l) hs;exact P.repr_of_str ⟨.str _,H,I.kept λ_ _ z=>z,⟨_,rfl⟩,q⟩ (PyData.shown_fits (d:=dI (.str l)) (B:=13) (by decide) (by decide) (GO _ hs) (by lia))
 |tup e r=>exact seq _ rfl rfl
 |lst e r=>exact seq _ rfl rfl
 |dK e k r=>cases hs
 |dT e k r=>cases hs
 |st e r=>cases hs
 |exc e k=>cases hs
def SQ(hs:cI d=true):(Hf d).cps.toList.length<=16777216:=by
 unfold cI at hs;rw[and_eq_true,and_eq_true,qU,qU]at hs;obtain⟨hs,hd,hw⟩:=hs;have hw2:=GN d hs;have h:=PyData.shown_fits (d:=dI d) (B:=13) (by decide) (by decide) (GO _ hs) (by lia);have e:Hf d=(dI d).shown:=by
  cases d with
  |non=>rfl
  |bl b=>rfl
  |int i=>rfl
  |str l=>rfl
  |tup l=>rfl
  |lst l=>rfl
  |_=>cases hs
 rw[e,qW];exact h
def VX{a b:Expr}{wa wb:WE}{res:Bool}{X':Cx}{Z:St}{H:Hp}{Q:Bool->Hp->Prop}{C:V->V->Hp->Prop}(hC:∀(z:Str) H2,z.cps.toList.length<=16777216->Q res H2->C (.str z) (.str z) H2)(q:lL X' (gZ res wa wb) Z H Q):
  EJ (mV X'.K) (xG X' (zy wa zz)) Z H λv H1=>EJ (mV X'.K) (xG X' (zy wb zz)) Z H1 λu H2=>C v u H2:=by
 obtain⟨F,G,U,P,PX,zW,hw,hok,hx⟩:=q;refine⟨F,G,U,λrs U1=>match rs with|[r]=>(zG (zQ r U1) λp=>cI p=true/\wb U1 (λy U2=>zG (zQ y U2) λq=>p=q/\P res U2) PX)|_=>False,PX,zW,hw,λrs U1 vs F1 H1 hk s1 r1 hl rv=>?_,hx⟩;match rs,vs,rv,r1,hk with
 |[r],[v],rv,r1,hk=>
  dsimp only at hk;obtain⟨d,ed,hsh,hk⟩:=bL hk;obtain⟨F2,s2,re,r2⟩:=fQ (U':=[]) (Z':=[]) r1 hl rv.1 ed;rw[qB,qB]at r2;refine⟨v,d,rfl,re.view r2.fr,hsh,F2,G,U1,λrs U2=>match rs with|[r]=>(zG (zQ r U2) λq=>d=q/\P res U2)|_=>False,PX,r2,hk,λrs U2 us F3 H3 hk2 s3 r3 hl3 rv3=>?_,hx.grow (s1.trans s2)⟩;match rs,us,rv3,r3,hk2 with
  |[r],[u],rv3,r3,hk2=>dsimp only at hk2;obtain⟨d2,ed2,e12,hk2⟩:=bL hk2;subst e12;obtain⟨F4,s4,re4,r4⟩:=fQ (U':=[]) (Z':=[]) r3 hl3 rv3.1 ed2;rw[qB,qB]at r4;exact⟨u,d,rfl,re4.view r4.fr,hsh,hC _ _ (SQ hsh) (hok _ U2 F4 H3 hk2 (s1.trans (s2.trans (s3.trans s4))) r4)⟩
  |[],_,_,_,hk=>exact hk.elim
  |[_],[],rv,_,_=>exact rv.elim
  |[_],_::_::_,rv,_,_=>exact rv.2.elim
  |_::_::_,_,_,_,hk=>exact hk.elim
 |[],_,_,_,hk=>exact hk.elim
 |[_],[],rv,_,_=>exact rv.elim
 |[_],_::_::_,rv,_,_=>exact rv.2.elim
 |_::_::_,_,_,_,hk=>exact hk.elim
def NB:bootBuiltins "repr"=some (.builtin "repr"):=by decide+kernel
def UT(hr:bI k X.A)(hg:Gl X "repr")(hm:X.mg "repr"=none)(ha:FE X a wa)(hb:FE X b wb)(hs:starEach [a] X.env=[(false,eval a X.env)]:=by rfl)(hs2:starEach [b] X.env=[(false,eval b X.env)]:=by rfl):
  FT X (.Compare (.Call (.Name "repr" p) [a] [] pos1) [.NotEq] [.Call (.Name "repr" p2) [b] [] pos2] pos) (gZ false wa wb):=λpn xe hp=>by
 refine PT.imp (MK (DX (X:=wp X pn xe) (BD hr)) (Iz (X:=wp X pn xe) (NY (X:=wp X pn xe) hr) hg hm NB (aB ha aI hs pn xe hp) (by decide) (by decide) hs (by rfl)) (Iz (X:=wp X pn xe) (NY (X:=wp X pn xe) hr) hg hm NB (aB hb aI hs2 pn xe hp) (by decide) (by decide) hs2 (by rfl)) (aR _)) λZ H Q q=>?_;refine VX (a:=a) (b:=b) (C:=λv u H2=>BY X.K v u H2 λz H3=>∃c,z=.bl c/\Q c H3) (λz H2 hz hq=>?_) q;exact⟨.str z.cps.toList,.str z.cps.toList,.str rfl hz,.str rfl hz,rfl,zero_le _,false,by simp,hq⟩
section
variable{K:W.Frag}
def Ov(a:Array Nat):∀(n:Nat)(b:Array Nat),((List.replicate n a).foldl (·++·) b).toList=b.toList++(List.replicate n a.toList).flatten
 |0,b=>by simp
 |n+1,b=>by rw[List.replicate_succ,foldl_cons,Ov a n,List.replicate_succ,List.flatten_cons,toList_append,qq]
def QP(h0:0<=n):(Txt.mul x n).cps.toList=(List.replicate n.toNat x.cps.toList).flatten:=by
 unfold Txt.mul;by_cases h1:n<1
 .rw[q8 h1,show n=0 by lia];rfl
 .rw[q9 h1];by_cases h2:(n==1||x.length==0)=true
  .rw[q8 h2];rw[or_eq_true,beq_iff_eq,beq_iff_eq]at h2;rcases h2 with h2|h2
   .subst h2;simp
   .have:x.cps.toList=[]:=by have e:x.cps.size=0:=h2;rw[<-length_eq_zero_iff,qW];exact e
    rw[this];simp
  .rw[q9 h2];show((List.replicate n.toNat x.cps).foldl (·++·) #[]).toList=_;rw[Ov];simp
def AF:R2:=λx y H Q=>∃z n,x=.str z/\y=.int n/\0<=n/\n<=1000/\z.length<=500/\Q (.str (Txt.mul z n)) H
def Sn:OpR X (binaryOp .Mult) AF:=by
 intro zU s Z H x y v u Q I rx ry h;obtain⟨z,n,rfl,rfl,h0,h1,hz,q⟩:=h;obtain⟨t,rfl⟩:=rx;obtain⟨t',rfl⟩:=ry;refine SB.mul ⟨?_,λh _=>?_,λh _=>?_⟩ λt2 k=>⟨.str _,H,I.kept λ_ _ z=>z,⟨_,rfl⟩,q⟩
 .grind
 .have h3:(9223372036854775807:Int)/1000<=(2^63-1)/n:=by rw[Int.le_ediv_iff_mul_le (by lia)];grind
  grind
 .have h4:z.length*n.toNat<=500*1000:=mul_le_mul hz (by lia);simp only[Builtin.Str.tooLong,decide_eq_false_iff_not,zp];lia
def VE:jG K (λx y H Q=>(rI vS λi j=>.int (i*j)) x y H Q\/AF x y H Q) eD:=by
 intro Z U F G H x y p q s Q zW rx ry e hq;unfold eD at e;split at e
 .rename_i l n;split at e
  .rename_i hc;cases e;obtain⟨h0,h1,hz⟩:=hc;obtain⟨z,rfl,e1,_⟩:=rx.str;have ey:y=.int n:=by
    rcases ry with ry|⟨_,_,_,_,e,_⟩|⟨_,_,_,_,_,e,_⟩|⟨_,_,_,_,_,e,_⟩
    .cases ry;rfl
    .cases e
    .cases e
    .cases e
   subst ey;have hzl:z.length=l.length:=by rw[<-e1,qW];rfl
   refine .inr ⟨z,n,rfl,rfl,h0,h1,by lia,?_⟩;refine hq _ F H (zH.refl F) (zW.push (.str ?_ ?_))
   .rw[QP h0,e1]
   .have h4:n.toNat*l.length<=1000*500:=mul_le_mul (by lia) hz;have e5:∀m,((List.replicate m l).flatten).length=m*l.length:=λm=>by simp[List.length_flatten]
    rw[e5];lia
  .cases e
 .exact .inl (Up Z U F G H x y _ _ s Q zW rx ry e hq)
def As(ha:FE X a wa)(hb:FE X b wb):FE X (.BinOp a .Mult b pos) (zM eD wa wb):=Bb (λ_ _=>OpR.or Qj Sn) VE ha hb
end
end FL
namespace FL
def DH(s0:S)(n k:Nat)(it:WI)(g:WG)(c:WT)(b:WB):WE:=λU Q E=>it U (λl U1=>aO g c b l (U1++some s0::List.replicate k none) (λU2=>zG (slot U2 n) λs=>Q (.v s) (U2.take n)) NX) E
end FL
namespace FL
open PySem PySem.Spec PyProof.Rows L2
def VG(hu:A.units<cLine)(I:Inv X zU Z H s)(g:nS H a y v H')(ry:zL y u)(rv:zL v r)(h:∀s',Inv X zU Z H' s'->Q () s'):
  wpAny (model X.prog X.w) A (dictSet a u r) Q E s:=by
 rcases g with⟨zV,k,e,ey,l,eH⟩|⟨zV,k,b,e,ey,eb,l,eH⟩
 .subst ey eH;obtain⟨z,hd,vs,zW,dd⟩:=Hz I.hok e;refine wpAny_dictSet_pairs (hsz:=by rw[<-zW.length];exact z) (wF ry) dd λh' dd' hs=>h _ ?_;exact Aq I (by rw[e];exact True.intro) hs (let⟨q,_,_,hq,_⟩:=dd';⟨q,hq⟩) (HA (by have:=DB zV k v;lia) hd (zW.put k rv) dd')
 .subst ey eH;cases(show u=Value.ref b from ry);obtain⟨z,hd,xs,zW,dd⟩:=Hx I.hok e;refine wpAny_dictSet_heap (hsz:=by rw[<-Paired.length zW];exact z) hu (rY I.hok eb) dd λh' dd' hs=>h _ ?_;obtain⟨q,es,ep,hq,h2,h3,h4,_,h5⟩:=dd';refine Aq I (by rw[e];exact True.intro) hs ⟨q,hq⟩ ⟨by have:=DB zV k v;lia,hd,_,(zW.put k eb rv).keeps λc ys ec=>?_,q,es,ep,hq,h2,h3,h4,h5⟩;rw[bJ (Gp ec e (λz=>nomatch z))];exact ec
def QS(hr:bI k A):A.units<cLine:=Nat.lt_of_succ_lt (wD hr)
def dO(K:W.Frag)(f:Addr):FuncData:=match K.lookup f with
 |some ⟨_,_,.func d,_⟩=>d
 |_=>default
def Lo{K:W.Frag}(l:K.lookup f=some ⟨oc,od,.func d,sl⟩):dO K f=d:=by unfold dO;rw[l]
inductive Lk(K:W.Frag)(n:Str)(st:Stmt)(f:Addr):Prop
 |mk {oc kV dc pm cd ct:Value} {od an:Option Addr} {sl:Array (Option Value)} (a:W.nsIn K mainGlobals n=some (some (.ref f))) (l:K.lookup f=some ⟨oc,od,.func (W.fnOf n n (eT st) (cR st) (aA st) .none kV dc pm an cd ct),sl⟩)
  (c:W.codeIn K cd n=true) (k:W.keepIn K (.ref f)=true):Lk K n st f
structure Tx(K:W.Frag)(mg:Str->Option Value)(f:Addr)(n:Str)(st:Stmt)(ps:List Str):Prop where
 F:Dm K n n st f (dO K f)
 m:mg n=some (.ref f)
 k:W.keepIn K (.ref f)=true
 b:Binds K (dO K f) ps []
def Pv(n:Str)(st:Stmt)(ps:List Str):Prop:=∀(kV doc pm:Value)(an:Option Addr)(cdv ct:Value)(us:List Value),us.length=ps.length->bindArgs (W.fnOf n n (eT st) (cR st) (aA st) .none kV doc pm an cdv ct) ⟨us,[]⟩=pure (ps.zip us)
section
variable{K:W.Frag}{st:Stmt}
def Lk.mm(t:Lk K n st f)(X:K.In h)(G:h.Ns mainGlobals mg):mg n=some (.ref f):=by obtain⟨a,l,c,k⟩:=t;exact W.mg_of X G a
def Lk.tx(t:Lk K n st f)(X:K.In h)(G:h.Ns mainGlobals mg)(b:Pv n st ps:=by intro _ _ _ _ _ _ us hl;first|(obtain⟨_,rfl⟩:=tG (l:=us) hl;rfl)|(obtain⟨_,_,rfl⟩:=AA (l:=us) hl;rfl)|(obtain⟨_,_,_,rfl⟩:=Az (l:=us) hl;rfl)|(obtain⟨_,_,_,_,rfl⟩:=EB (l:=us) hl;rfl)|(obtain⟨_,_,_,_,_,rfl⟩:=vlen5 (l:=us) hl;rfl)):Tx K mg f n st ps:=by
 obtain⟨a,l,c,k⟩:=t;have e:=Lo l;have F:=PY l c k;refine⟨?_,W.mg_of X G a,k,?_⟩
 .rw[e];exact F
 .rw[e];exact F.binds b
def Lk.bt(t:Lk K n st f)(s:Shared)(v:Value)(b:Pv n st [x]:=by intro _ _ _ _ _ _ us hl;obtain⟨_,rfl⟩:=tG (l:=us) hl;rfl):BindsTo s (dO K f) ⟨[v],[]⟩ [(x,v)]:=by obtain⟨a,l,c,k⟩:=t;have e:=Lo l;rw[e];exact .of_eq (b _ _ _ _ _ _ [v] rfl)
end
def kN{N P:List Str}{sc:Scope}(a:sc.kind=.function:=by rfl)(b:sc.isCoroutine=false:=by rfl)(c:sc.isGenerator=false:=by rfl)(d:N.Nodup:=by decide+kernel)(e:N.take P.length=P:=by rfl)(f:∀x∈P,sc.names.lookup x=some .local\/sc.names.lookup x=some .cell:=by decide+kernel)(g:∀y∈sc.names,y.2≠.free:=by decide+kernel):aG N P sc:=⟨a,b,c,d,e,f,g⟩
abbrev lB(P:Program)(w:World)(K:W.Frag)(mg:Str->Option Value)(base:Heap)(af:Nat->Addr)(k i:Nat)(ps:List Str)(sp:Sp):Prop:=gX P w K mg base (mH P w) k (af i) (dO K (af i)) ps sp
def kQ{K:W.Frag}{st:Stmt}(t:Tx K mg f x st ps)(Sc:aG N ps (aA st))
  (hb:∀(cdv:Value)(A:Around)(outer:List PySem.Env)(s:Shared)(H:Hp)(E:XK),bI k (A.deeper (envOfC x (aA st) s.heap.objs.size f cdv))->wA (gU (mH P w) P w K mg base N x (aA st) f cdv A outer s H E) ks (cR st) wb)(hn:ps.length=n:=by rfl)(hm:N.length=m:=by rfl):
  gX P w K mg base (mH P w) (k+1) f (dO K f) ps (fR K (jB n m ks wb) n):=KR t.F Sc hn hm hb
section
def fw(i:Nat)(hN:X.N[i]?=some x:=by rfl)(hv:FV X.env.scope x:=by first|exact Or.inl rfl|exact Or.inr (Or.inl rfl)|exact Or.inr (Or.inr rfl))(hd:(x==("__debug__":Str))=false:=by decide)
  (hcd:(x==("__classdict__":Str))=false:=by decide):FE X (.Name x pos) (zx i):=Rb hN hv hd hcd
def bN(i:Nat)(hnd:X.N.Nodup)(hk:i∉ks:=by decide)(hi:X.N[i]?=some x:=by rfl)(hx:Loc X.env.scope x:=by first|exact Or.inl rfl|exact Or.inr rfl)(hf:X.fn x=true\/X.env.scope.names.lookup x=some .local:=by exact Or.inl rfl):FG X ks (.Name x pos) (FL.zF i):=MJ hk (λj hj=>Iq hnd hj hi) hi hx hf
def jC(i:Nat)(hk:i∉ks:=by decide)(hu:(X.N.zipIdx.all λp=>!(p.1==x)||p.2==i)=true:=by kernel_rfl)(hi:X.N[i]?=some x:=by rfl)(hx:Loc X.env.scope x:=by first|exact Or.inl rfl|exact Or.inr rfl)(hf:X.fn x=true\/X.env.scope.names.lookup x=some .local:=by first|exact Or.inr rfl|exact Or.inl rfl):FG X ks (.Name x pos) (FL.zF i):=MJ hk (uq hu) hi hx hf
variable{st:Stmt}
def eJ(ms:List Bool)(t:Tx X.K X.mg f x st ps)(Fk:gX X.prog X.w X.K X.mg X.base (mH X.prog X.w) k f (dO X.K f) ps (fR X.K wf n))(hr:bI j X.A)(ha:FA X (e::es) wa)(hj:k<=j:=by decide)(hg:Gl X x:=by rfl)(zX:∀ss P PX,wf ss P PX->ss.length=n:=by exact λ_ _ _ h=>h.1)
  (hdb:(x==("__debug__":Str))=false:=by decide)(he:starEach (e::es) X.env=(false,eval e X.env)::starEach es X.env:=by rfl)(hpl:(backTo pos (starEach es X.env)).any (·.1)=false:=by rfl):
  FE X (.Call (.Name x p) (e::es) [] pos) (zO wf ms wa):=RG Fk (hr.mono hj) hg t.m t.k t.b ha zX hdb he hpl
end
end FL
namespace FL
def cX(l:List D):Bool:=l.all dM||l.all (aH true)
open Classical in
def dB(l:List D)(d:D):List D:=if d∈l then l else l++[d]
def aJ(l:List D):List D:=l.foldl dB []
def mD(n:Nat)(e:WE):WB:=λU Q E=>e U (λr U1=>zG (give r U1) λp=>match slot p.2 n with
 |some (.set l)=>cX (p.1.toD::l)=true/\l.length<=150/\Q (p.2.set n (some (.set (dB l p.1.toD))))
 |_=>False) E
def newS(l:List D):Option S:=if cX l=true/\l.length<=150 then some (.set (aJ l))else none
def Ag:List D->Option S
 |[.lst l]=>newS l
 |[.tup l]=>newS l
 |_=>none
def hV:List Bool->List D->Prop
 |[],[]=>True
 |false::sh,.int _::r=>hV sh r
 |true::sh,.str _::r=>hV sh r
 |_,_=>False
def jZ(sh:List Bool):D->Prop
 |.tup l=>hV sh l
 |_=>False
open Classical in
def cG(l:List D):Option S:=if l.length<64/\(l.length<2\/(fG l).isSome=true\/(eL l).isSome=true\/∃sh,sh≠[]/\∀d∈l,jZ sh d)then some (.lst ((gG l).map .sh))else none
def dN:List D->Option S
 |[.lst l]=>cG l
 |[.set l]=>cG l
 |_=>none
def Kd:D->D->Prop:=λa b=>(∃i j,a=.int i/\b=.int j)\/∃x y,a=.str x/\b=.str y
theorem Em(i j:Int):cH (.int i) (.int j)=if i<j then .lt else if j<i then .gt else .eq:=by rw[cH]
theorem GD(x y:List Nat):cH (.str x) (.str y)=if x<y then .lt else if y<x then .gt else .eq:=by rw[cH]
def UK(x y:List Nat):x<y\/y<x\/x=y:=by grind
def GQ(h:Kd a b):(cH a b=.lt/\cH b a=.gt)\/(cH a b=.gt/\cH b a=.lt)\/(a=b/\cH a b=.eq):=by
 rcases h with⟨i,j,rfl,rfl⟩|⟨x,y,rfl,rfl⟩
 .grind[Em]
 .rw[GD,GD];grind
def PR(h:Kd a b)(h':Kd b c)(e:cH a b=.lt)(e':cH b c=.lt):cH a c=.lt:=by
 rcases h with⟨i,j,rfl,rfl⟩|⟨x,y,rfl,rfl⟩
 .rcases h' with⟨j',k,h1,rfl⟩|⟨x,y,h1,rfl⟩
  .grind[Em,Int.lt_trans]
  .cases h1
 .rcases h' with⟨j',k,h1,rfl⟩|⟨y',z,h1,rfl⟩
  .cases h1
  grind[GD,List.lt_trans]
def GJ(h:hV sh (a::l))(h':hV sh (b::m)):Kd a b/\∃sh',hV sh' l/\hV sh' m:=by
 cases sh with
 |nil=>exact h.elim
 |cons t sh=>
  cases t
  .cases a<;>first|exact h.elim|skip
   cases b<;>first|exact h'.elim|skip
   exact⟨.inl ⟨_,_,rfl,rfl⟩,sh,h,h'⟩
  .cases a<;>first|exact h.elim|skip
   cases b<;>first|exact h'.elim|skip
   exact⟨.inr ⟨_,_,rfl,rfl⟩,sh,h,h'⟩
def Bd(h:hV sh [])(h':hV sh m):m=[]:=by
 cases sh with
 |nil=>cases m with
  |nil=>rfl
  |cons _ _=>exact h'.elim
 |cons t _=>cases t<;>exact h.elim
def Tg{sh sh':List Bool}{l m:List D}(h:hV sh l)(h':hV sh' l):sh=sh':=by
 induction l generalizing sh sh' with
 |nil=>
  cases sh with
  |nil=>cases sh' with
   |nil=>rfl
   |cons t _=>cases t<;>exact h'.elim
  |cons t _=>cases t<;>exact h.elim
 |cons a l ih=>
  cases sh with
  |nil=>exact h.elim
  |cons t sh=>cases sh' with
   |nil=>exact h'.elim
   |cons t' sh'=>cases t<;>cases t'<;>cases a<;>first|exact h.elim|exact h'.elim|rw[ih h h']
def GR(a b:D)(l m:List D):aU (a::l) (b::m)=match cH a b with|.eq=>aU l m|o=>o:=by rw[aU];first|done|(cases cH a b<;>rfl)
def Bf:∀{sh:List Bool}{l m:List D},hV sh l->hV sh m->(aU l m=.lt/\aU m l=.gt)\/(aU l m=.gt/\aU m l=.lt)\/(l=m/\aU l m=.eq)
 |sh,[],m,h,h'=>by rw[Bd h h'];exact .inr (.inr ⟨rfl,by rw[aU]⟩)
 |sh,a::l,[],h,h'=>by cases Bd h' h
 |sh,a::l,b::m,h,h'=>by
  obtain⟨k,sh',k1,k2⟩:=GJ h h';rw[GR,GR];rcases GQ k with⟨e1,e2⟩|⟨e1,e2⟩|⟨rfl,e1⟩
  .rw[e1,e2];exact .inl ⟨rfl,rfl⟩
  .rw[e1,e2];exact .inr (.inl ⟨rfl,rfl⟩)
  .rw[e1];rcases Bf k1 k2 with⟨f1,f2⟩|⟨f1,f2⟩|⟨rfl,f1⟩
   .exact .inl ⟨f1,f2⟩
   .exact .inr (.inl ⟨f1,f2⟩)
   .exact .inr (.inr ⟨rfl,f1⟩)
def Mf:∀{sh:List Bool}{l m n:List D},hV sh l->hV sh m->hV sh n->aU l m=.lt->aU m n=.lt->aU l n=.lt
 |sh,[],m,n,h,h',h'',e,_=>by rw[Bd h h',aU]at e;cases e
 |sh,a::l,[],n,h,h',h'',e,_=>by cases Bd h' h
 |sh,a::l,b::m,[],h,h',h'',e,_=>by cases Bd h'' h
 |sh,a::l,b::m,c::n,h,h',h'',e,e'=>by
  obtain⟨k,sh1,k1,k2⟩:=GJ h h';obtain⟨k',sh2,k3,k4⟩:=GJ h' h'';have es:sh1=sh2:=Tg (m:=[]) k2 k3;subst es;rw[GR]at e e'⊢;rcases GQ k with⟨e1,_⟩|⟨e1,_⟩|⟨rfl,e1⟩
  .rw[e1]at e;rcases GQ k' with⟨e2,_⟩|⟨e2,_⟩|⟨rfl,e2⟩
   .rw[PR k k' e1 e2]
   .rw[e2]at e';cases e'
   .rw[e1]
  .rw[e1]at e;cases e
  .rw[e1]at e;rcases GQ k' with⟨e2,_⟩|⟨e2,_⟩|⟨rfl,e2⟩
   .rw[e2]
   .rw[e2]at e';cases e'
   .rw[e1]at e';rw[e1];exact Mf k1 k3 k4 e e'
def wH(h:hV sh l)(h':hV sh m):fF (.tup l) (.tup m)=!(aU m l==.lt):=by
 unfold fF;rw[show cH (.tup l) (.tup m)=aU l m by rw[cH]];rcases Bf h h' with⟨f1,f2⟩|⟨f1,f2⟩|⟨rfl,f1⟩
 .rw[f1,f2];rfl
 .rw[f1,f2];rfl
 .rw[f1];rfl
def DW(sh:List Bool):gK (jZ sh) where
 tot a b ha hb:=by
  cases a<;>first|exact ha.elim|skip
  cases b<;>first|exact hb.elim|skip
  rw[wH ha hb,wH hb ha];rcases Bf ha hb with⟨f1,f2⟩|⟨f1,f2⟩|⟨_,f1⟩
  .exact .inl (by rw[f2];rfl)
  .exact .inr (by rw[f1];rfl)
  .exact .inr (by rw[f1];rfl)
 tr a b c ha hb hc:=by
  cases a<;>first|exact ha.elim|skip
  cases b<;>first|exact hb.elim|skip
  cases c<;>first|exact hc.elim|skip
  rw[wH ha hb,wH hb hc,wH ha hc];intro h1 h2;rcases Bf ha hb with⟨f1,f2⟩|⟨f1,f2⟩|⟨rfl,f1⟩
  .rcases Bf hb hc with⟨g1,g2⟩|⟨g1,g2⟩|⟨rfl,g1⟩
   .rcases Bf ha hc with⟨k1,k2⟩|⟨k1,k2⟩|⟨rfl,k1⟩
    .rw[k2];rfl
    .rw[Mf ha hb hc f1 g1]at k1;cases k1
    .rw[k1];rfl
   .rw[g2]at h2;cases h2
   .exact h1
  .rw[f2]at h1;cases h1
  .exact h2
 anti a b ha hb:=by
  cases a<;>first|exact ha.elim|skip
  cases b<;>first|exact hb.elim|skip
  rw[wH ha hb,wH hb ha];intro h1 h2;rcases Bf ha hb with⟨f1,f2⟩|⟨f1,f2⟩|⟨rfl,f1⟩
  .rw[f1]at h2;cases h2
  .rw[f2]at h1;cases h1
  .rfl
section
variable{ι κ:Type}[DecidableEq κ](g:ι->κ)
def cD(l:List ι)(i:ι):List ι:=if g i∈l.map g then l else l++[i]
def lE(l:List ι):List ι:=l.foldl (cD g) []
def Tz{f:ι->D}(h:∀i j,f i=f j↔g i=g j)(l:List ι)(i:ι):dB (l.map f) (f i)=(cD g l i).map f:=by unfold dB cD;grind
def Mc{f:ι->D}(h:∀i j,f i=f j↔g i=g j)(l:List ι):aJ (l.map f)=(lE g l).map f:=by
 unfold aJ lE
 suffices ∀zZ:List ι,(l.map f).foldl dB (zZ.map f)=(l.foldl (cD g) zZ).map f from this []
 induction l with
 |nil=>exact λ_=>rfl
 |cons i l ih=>intro zZ;rw[qA,foldl_cons,foldl_cons,Tz g h];exact ih _
def NO{l:List ι}{k:Nat}(h:k<l.length):lE g (l.take (k+1))=cD g (lE g (l.take k)) l[k]:=by unfold lE;rw[List.take_add_one,qi h,List.foldl_append];rfl
def En:∀{l zZ:List ι}{i:ι},i∈l.foldl (cD g) zZ->i∈zZ\/i∈l
 |[],_,_,h=>.inl h
 |j::l,zZ,i,h=>by
  rw[foldl_cons]at h;rcases En h with z|z
  .unfold cD at z;split at z
   .exact .inl z
   .rcases qz.mp z with z|z
    .exact .inl z
    .exact .inr (qC.mpr (.inl (qv.mp z)))
  .exact .inr (qm _ z)
theorem Ef:∀(l zZ:List ι),(l.foldl (cD g) zZ).length<=zZ.length+l.length
 |[],_=>zc _
 |j::l,zZ=>by
  rw[foldl_cons];have h1:=Ef l (cD g zZ j);have h2:(cD g zZ j).length<=zZ.length+1:=by
   unfold cD;split
   .lia
   .rw[qr];exact zc _
  rw[qu];lia
end
def Ut:x∈dB l d↔x∈l\/x=d:=by
 unfold dB;split
 .rename_i h;exact⟨.inl,λz=>z.elim id λe=>e▸h⟩
 .rw[qz,qv]
def zaw:x∈aJ l↔x∈l:=by
 unfold aJ
 suffices ∀zZ:List D,x∈l.foldl dB zZ↔x∈zZ\/x∈l from(this []).trans (by simp)
 induction l with
 |nil=>exact λ_=>by simp
 |cons i l ih=>intro zZ;rw[foldl_cons,ih,Ut,qC,or_assoc]
def Wh(h:l.Nodup):(dB l d).Nodup:=by
 unfold dB;split
 .exact h
 .rename_i z;exact qy.mpr ⟨h,by simp,λa ha b hb=>by rw[qv.mp hb];exact λe=>z (e▸ha)⟩
def Ja(l:List D):(aJ l).Nodup:=by
 unfold aJ
 suffices ∀zZ:List D,zZ.Nodup->(l.foldl dB zZ).Nodup from this [] .nil
 induction l with
 |nil=>exact λ_ h=>h
 |cons i l ih=>exact λzZ h=>ih _ (Wh h)
theorem SJ(l:List D)(d:D):(dB l d).length<=l.length+1:=by
 unfold dB;split
 .lia
 .rw[qr];exact zc _
def IH(l:List D):(aJ l).length<=l.length:=by
 unfold aJ
 suffices ∀zZ:List D,(l.foldl dB zZ).length<=zZ.length+l.length by simpa using this []
 induction l with
 |nil=>exact λ_=>zc _
 |cons i l ih=>grind[foldl_cons,length_cons,dB,SJ]
def bA(ks:List D)(l:List S)(q:D):List D×List S×Nat:=match iU ks q with
 |some m=>(ks,l,m)
 |none=>(ks++[q],l++[.lst []],ks.length)
def fO(j:Nat)(k e:WE):WE:=λU Q E=>match slot U j with
 |some (.dct _ _ _)=>k U (λy U2=>match view y U2,slot U2 j with
  |some q,some (.dct t ks l)=>aH t q=true/\ks.Nodup/\ks.length<big/\(match(bA ks l q).2.1[(bA ks l q).2.2]? with
   |some (.lst l')=>e (U2.set j none) (λr U3=>zG (give r U3) λp=>l'.length<big/\Q (.v (.sh .non)) (p.2.set j (some (.dct t (bA ks l q).1 ((bA ks l q).2.1.set (bA ks l q).2.2 (.lst (l'++[p.1]))))))) E
   |_=>False)
  |_,_=>False) E
 |_=>False
end FL
namespace FL
open PySem PySem.Spec PyProof.Rows L2
def Ea(h:kV a=kV b):a=b:=by cases a<;>cases b<;>cases h<;>rfl
theorem Ej:∀{a b:List aQ},a.map kV=b.map kV->a=b
 |[],[],_=>rfl
 |[],_::_,h=>by cases h
 |_::_,[],h=>by cases h
 |x::a,y::b,h=>by
  rw[qA,qA]at h;injection h with h1 h2
  rw[Ea h1,Ej h2]
def Mz(h:zL (kV k) u):u.scannable=true:=by
 cases k with
 |inl i=>obtain⟨t,rfl⟩:=h;rfl
 |inr x=>obtain⟨t,rfl⟩:=h;rfl
def OD{α β:Type}{f:α->β}(hf:∀a b,f a=f b->a=b){l m:List α}(h:(l.map f).Perm (m.map f)):l.Perm m:=by
 induction l generalizing m with
 |nil=>first|rfl|assumption|(simp_all;done)
 |cons a l ih=>obtain⟨b,hb,e⟩:=qL.mp (h.mem_iff.mp (by simp:f a∈(a::l).map f));have:=hf _ _ e;subst this;obtain⟨m1,m2,rfl⟩:=append_of_mem hb;refine(List.Perm.cons b (ih ?_)).trans perm_middle.symm;rw[map_append];rw[map_append,qA,qA]at h;exact(h.trans perm_middle).cons_inv
def Dj(H:Hp)(vs:List V)(y:V)(b:Bool):Prop:=
 (∃(ks:List aQ)(k:aQ),vs=ks.map kV/\y=kV k/\(b=true↔k∈ks))\/
 ∃(ps:List (List aQ×Addr))(k:List aQ)(c:Addr),vs=ps.map (λp=>V.ref p.2)/\(∀p∈ps,H p.2=some (.tup (p.1.map kV)))/\y=.ref c/\H c=some (.tup (k.map kV))/\(b=true↔k∈ps.map (·.1))
def Ep(I:Inv X zU Z H s)(e:H a=some (.set vs)):s.TypeIs (.ref a) "set":=by
 rcases I.hok a _ e with⟨_,⟨_,h1⟩|⟨_,_,_,o,_,_,_,h1,h2,_⟩|⟨_,_,_,_,o,_,_,_,h1,h2,_⟩⟩
 .exact⟨_,h1,rfl⟩
 .exact⟨o,h1,h2.1⟩
 .exact⟨o,h1,h2.1⟩
def Sl(I:Inv X zU Z H s){ks:List aQ}(e:H a=some (.set vs))(ev:vs=ks.map kV):∃xs:List (aQ×Value),ks.Perm (xs.map (·.1))/\ST.VSet (ST.ldOf X.w) (aE X.prog X.w) s.heap a xs:=by
 rcases I.hok a _ e with⟨_,⟨h0,h1⟩|⟨_,xs,p,V⟩|⟨hne,xs,p,_,_⟩⟩
 .have:ks=[]:=by rw[h0]at ev;simpa using ev.symm
  subst this;exact⟨[],.refl _,ST.vset_new h1⟩
 .refine⟨xs,OD (λ_ _=>Ea) ?_,V⟩;rw[ev]at p;rw[qF];exact p
 .exfalso;cases vs with
  |nil=>exact hne rfl
  |cons v vs=>grind[mem_map,mem_cons_self,kV]
def Ik(I:Inv X zU Z H s){ps:List (List aQ×Addr)}(e:H a=some (.set vs))(ev:vs=ps.map (λp=>V.ref p.2))(hp:∀p∈ps,H p.2=some (.tup (p.1.map kV))):∃xs,ps.Perm xs/\ST.TSet (ST.ldOf X.w) (tupleKind (aE X.prog X.w)) s.heap a xs:=by
 rcases I.hok a _ e with⟨_,⟨h0,h1⟩|⟨hne,xs,p,_⟩|⟨_,xs,p,hx,T⟩⟩
 .have:ps=[]:=by rw[h0]at ev;simpa using ev.symm
  subst this;exact⟨[],.refl _,ST.tset_new h1⟩
 .exfalso;cases vs with
  |nil=>exact hne rfl
  |cons v vs=>
   obtain⟨q,_,hq⟩:=qL.mp (p.mem_iff.mp qo);have h1:v∈ps.map (λp=>V.ref p.2):=by rw[<-ev];exact qo
   obtain⟨k,_,hk⟩:=qL.mp h1;rw[<-hq]at hk;cases q with
   |mk q _=>cases q<;>cases hk
 .refine⟨xs,?_,T.full λx hx'=>rY I.hok (hx x hx')⟩;rw[ev]at p
  --an address tells zY tuple
  have q:(ps.map (·.2)).Perm (xs.map (·.2)):=OD (f:=V.ref) (λ_ _ h=>by cases h;rfl) (by rw[qF,qF];exact p)
  let f:Addr->List aQ×Addr:=λb=>(Classical.epsilon λks:List aQ=>H b=some (HO.tup (ks.map kV)),b)
  have hf:∀p:List aQ×Addr,H p.2=some (.tup (p.1.map kV))->f p.2=p:=λp h=>by have e:H p.2=some (.tup ((Classical.epsilon λks:List aQ=>H p.2=some (HO.tup (ks.map kV))).map kV)):=Classical.epsilon_spec (p:=λks:List aQ=>H p.2=some (HO.tup (ks.map kV))) ⟨p.1,h⟩;grind[Prod.ext,Ej]
  have id_of:∀l:List (List aQ×Addr),(∀p∈l,H p.2=some (.tup (p.1.map kV)))->(l.map (·.2)).map f=l:=λl h=>by rw[qF];exact(map_congr_left λp hp=>hf p (h p hp)).trans (map_id _)
  have:=q.map f;rwa[id_of ps hp,id_of xs hx]at this
def PD(hu:A.units<cLine)(I:Inv X zU Z H s)(e:H a=some (.set vs))(hz:vs.length<=150)(g:Dj H vs y b)(ry:zL y u)
  (h:∀s' r,Inv X zU Z (if b then H else upd H a (.set (vs++[y]))) s'->Q r s'):wpAny (model X.prog X.w) A (setAdd a u) Q E s:=by
 rcases g with⟨ks,k,ev,rfl,hb⟩|⟨ps,k,c,ev,hp,rfl,hc,hb⟩
 .obtain⟨xs,pk,S⟩:=Sl I e ev;have hl:xs.length<=150:=by have:=pk.length_eq;rw[qp]at this;rw[ev,qp]at hz;lia
  refine ST.setAddV (wF ry) (Mz ry) S hl (λhm r=>h _ r ?_) λhm h' ys sb pm S' r=>h _ r ?_
  .rw[q8 (hb.mpr (pk.mem_iff.mpr hm))];exact I.kept λ_ _ z=>z
  .rw[q9 λz=>hm (pk.mem_iff.mp (hb.mp z))];refine Aq I (by rw[e];exact True.intro) sb (let⟨o,_,_,_,ho,_⟩:=S';⟨o,ho⟩) ⟨by rw[qr];exact Nat.add_le_add_right hz 1,.inr (.inl ⟨by simp,ys,?_,S'⟩)⟩;rw[ev];have p1:=pm.map (λp:aQ×Value=>kV p.1);refine(qO.trans ?_).trans p1.symm;rw[qA];refine List.Perm.cons _ ?_;have:=pk.map kV;rw[qF]at this;exact this
 .cases(show u=Value.ref c from ry);obtain⟨xs,pk,S⟩:=Ik I e ev hp;have hl:xs.length<=150:=by have:=pk.length_eq;rw[ev,qp]at hz;lia
  refine ST.setAddT hu (rY I.hok hc) S hl (λhm tk r _=>h _ r ?_) λhm h' ys tk r sb pm S' _=>h _ r ?_
  .rw[q8 (hb.mpr ((pk.map _).mem_iff.mpr hm))];exact I.kept λ_ _ z=>z
  .rw[q9 λz=>hm ((pk.map _).mem_iff.mp (hb.mp z))];have hca:∀d xs,H d=some (.tup xs)->upd H a (.set (vs++[V.ref c])) d=some (.tup xs):=λd xs z=>by rw[bJ (Gp z e (λw=>nomatch w))];exact z
   refine Aq I (by rw[e];exact True.intro) sb (let⟨o,_,_,_,ho,_⟩:=S';⟨o,ho⟩) ⟨by rw[qr];exact Nat.add_le_add_right hz 1,.inr (.inr ⟨by simp,ys,?_,λp hp'=>?_,S'.raw⟩)⟩
   .rw[ev];have p1:=pm.map (λp:List aQ×Addr=>V.ref p.2);refine(qO.trans ?_).trans p1.symm;rw[qA];exact List.Perm.cons _ (pk.map _)
   .rcases qC.mp (pm.mem_iff.mp hp')with rfl|z
    .exact hca _ _ hc
    .exact hca _ _ (hp p (pk.mem_iff.mpr z))
section
variable{K:W.Frag}
def tK(p:List aQ×Addr):D:=.tup (p.1.map aL)
def zbK{a b:List aQ}:D.tup (a.map aL)=D.tup (b.map aL)↔a=b:=⟨λh=>by injection h with h;exact DC h,λh=>by rw[h]⟩
def Mv(r:aN K F x d)(h:aH true d=true):∃p:List aQ×Addr,x=.ref p.2/\d=tK p/\F p.2=some (.tup (p.1.map kV)):=by
 cases r with
 |tup e r=>obtain⟨ks,rfl,rfl⟩:=Ar r h;exact⟨(ks,_),rfl,rfl,e⟩
 |_=>cases h
def GE(r:zS K F xs l):l.all (aH true)=true->∃ps:List (List aQ×Addr),xs=ps.map (λp=>V.ref p.2)/\l=ps.map tK/\∀p∈ps,F p.2=some (.tup (p.1.map kV)):=
 zS.ind (P:=λxs l=>l.all (aH true)=true->∃ps:List (List aQ×Addr),xs=ps.map (λp=>V.ref p.2)/\l=ps.map tK/\∀p∈ps,F p.2=some (.tup (p.1.map kV))) (λ_=>⟨[],rfl,rfl,λ_ z=>nomatch z⟩) (λa _ ih h=>by
  rw[all_cons,and_eq_true]at h;obtain⟨p,rfl,rfl,e⟩:=Mv a h.1;obtain⟨ps,rfl,rfl,es⟩:=ih h.2;refine⟨p::ps,rfl,rfl,λq hq=>?_⟩;rcases qC.mp hq with rfl|z
  .exact e
  .exact es q z) r
def Nn(h:slot U n=some s):U.set n (some s)=U:=by
 have h':=Jh h;apply ext_getElem?;intro j;by_cases hj:n=j
 .subst hj;rw[getElem?_set_self (qh.mp h').1,h']
 .rw[getElem?_set_ne hj]
def RZ(sm:zH F H)(r:zS K F vs l)(rv:aN K F v d)(hk:cX (d::l)=true):∃b,Dj H vs v b/\dB l d=if b then l else l++[d]:=by
 unfold cX at hk;rw[or_eq_true,all_cons,all_cons,and_eq_true,and_eq_true]at hk;have main:∀p:Prop,(d∈l↔p)->∃b,(b=true↔p)/\dB l d=if b then l else l++[d]:=λp h=>by
  unfold dB;by_cases q:p
  .first|rfl|assumption|(simp_all;done)
  first|rfl|assumption|(simp_all;done)
 rcases hk with⟨h1,h2⟩|⟨h1,h2⟩
 .obtain⟨k,rfl,rfl⟩:=Dx rv h1;obtain⟨ks,rfl,rfl⟩:=Ar r h2;obtain⟨b,hb,e⟩:=main (k∈ks) (by rw[qL];exact⟨λ⟨j,hj,z⟩=>wI z▸hj,λz=>⟨k,z,rfl⟩⟩)
  exact⟨b,.inl ⟨ks,k,rfl,rfl,hb⟩,e⟩
 .obtain⟨p,rfl,rfl,ep⟩:=Mv rv h1;obtain⟨ps,rfl,rfl,eps⟩:=GE r h2;obtain⟨b,hb,e⟩:=main (p.1∈ps.map (·.1)) (by rw[qL,qL];exact⟨λ⟨j,hj,z⟩=>⟨j,hj,zbK.mp z⟩,λ⟨j,hj,z⟩=>⟨j,hj,zbK.mpr z⟩⟩)
  exact⟨b,.inr ⟨ps,p.1,p.2,rfl,λq hq=>sm _ _ (eps q hq),rfl,sm _ _ ep,hb⟩,e⟩
def Rel.sadd{D:Addr}(r:Rel K (U++[some s]) (Z++[some v]) F G H)(hs:slot U n=some (.set l))(hZ:Z[n]?=some (some (.ref D)))(hk:cX (s.toD::l)=true):
  ∃vs b,H D=some (.set vs)/\vs.length=l.length/\Dj H vs v b/\Rel K (U.set n (some (.set (dB l s.toD)))) Z F G (if b then H else upd H D (.set (vs++[v]))):=by
 have hl:=aS r;have rd:=r.drop hl;obtain⟨fp,e,nd,ap⟩:=r.en;obtain⟨f1,f2,rfl,a,b⟩:=e.cut hl;obtain⟨v',fa,fi,fb,e1,rfl,q,up⟩:=a.at hs;rw[hZ]at e1;have e2:V.ref D=v':=by simpa using e1
 subst e2;have sh:∃d,s=.sh d:=by
  cases s with
  |sh d=>exact⟨d,rfl⟩
  |lst l=>simp[cX,dM,aH]at hk
  |dct t ks vs=>simp[cX,dM,aH]at hk
  |set l=>simp[cX,dM,aH]at hk
 obtain⟨d,rfl⟩:=sh;rw[S.toD_sh]at hk⊢;cases q with
 |st hD rl=>
  rename_i xs;cases b with
  |so sr nl=>
   cases nl;cases sr with
   |sh rv=>
    obtain⟨b,sa,ea⟩:=RZ r.fr rl rv hk;refine⟨xs,b,hD,rl.len,sa,?_⟩;rw[ea];cases b with
    |true=>simp only[if_true];rw[Nn hs];exact rd
    |false=>
     simp only[false_eq_true,if_false];have nd':(fa++([D]++fb)).Nodup:=by simpa using nd
     obtain⟨na,nib,nab⟩:=qy.mp nd';obtain⟨nD,nb⟩:=qM.mp nib;have hDa:D∉fa:=λz=>nab D z D qo rfl;have apD:=ap D (by simp);have new:aM K F (upd H D (.set (xs++[v]))) (.ref D) (.set (l++[d])) [D]:=.st gC (rl.append (.cons rv .nil));have a2:=up (F':=F) (H':=upd H D (.set (xs++[v]))) (o:=some (.set (l++[d]))) (u:=some (.ref D)) (zH.refl F) (λx hx=>bJ λz=>(qz.mp hx).elim (λw=>hDa (z▸w)) λw=>nD (z▸w)) (.so new .nil);rw[Ex hZ]at a2;refine⟨zH.updR r.fr apD.1,λx o w=>?_,_,a2,by simpa using nd',λx hx=>ap x (by simpa using hx)⟩;have hx:x≠D:=λz=>by rw[z,apD.2]at w;cases w
     rw[bJ hx];exact r.gr x o w
end
section
variable{D:Addr}
def NT(hxe:X.xe=λ_ _=>False)(hu:X.A.units+1<cLine)(h:FE X elt we):pO X (eval elt X.env>>=λv=>standAt p>>=λ_=>call (.builtin "set.add") [.ref D,v]>>=λ_=>pure ()) (AC X n D (mD n we)):=by
 intro zU s Z H Q I q;obtain⟨F,G,U,P,zW,hZ,hw,hok⟩:=q;have hp:PassesOwn (model X.prog X.w) X.A X.env X.xe:=by rw[hxe];exact PassesOwn.never
 have xe0:∀e s',X.xe e s'->False:=λe s' z=>by rw[hxe]at z;exact z
 have he:=h X.pn X.xe hp zU s Z H (λv H1=>∃F1 U1 t l,zH F F1/\Rel X.K (U1++[some t]) (Z++[some v]) F1 G H1/\slot U1 n=some (.set l)/\cX (t.toD::l)=true/\l.length<=150/\P (U1.set n (some (.set (dB l t.toD))))) I
  ⟨F,G,U,_,NX,zW,hw,λr U1 v F1 H1 hk s1 r1 rv=>?_,Hb⟩
 .refine qa (zv he (λu s1 zq=>?_) λe s' z=>xe0 e s' z);obtain⟨v,H1,I1,rv,F1,U1,t,l,sm,r1,hs,hk,hz,hP⟩:=zq;obtain⟨vs,b,hD,zX,sa,r2⟩:=Rel.sadd r1 hs hZ hk;refine qa (wpAny_standAt (qa (ST.call_add_of (Ep I1 hD) (PD hu I1 hD (by lia) sa rv λs' _ I'=>?_))));exact qb ⟨Z,_,I',hok _ Z F1 _ hP KP.refl sm r2⟩
 .obtain⟨⟨t,U2⟩,eg,hk⟩:=bL hk;obtain⟨F2,s2,l2,r2⟩:=dF (U':=[]) (Z':=[]) r1 (aS r1) rv eg;dsimp only at hk;split at hk
  .rename_i l e;exact⟨F2,U2,t,l,s1.trans s2,r2,e,hk.1,hk.2.1,hk.2.2⟩
  .exact hk.elim
end
section
variable{X:Cx}
def MB(H:Hp)(h:Heap)(_:sysModules<h.objs.size):zT X.prog X.w H (h.push (ST.freshSet (ST.ldOf X.w))) h.objs.size (.set []):=⟨zero_le _,.inl ⟨rfl,qd _ rfl⟩⟩
def LS(F H:Hp)(p:Addr)(e:H p=some (.set [])):aM X.K F H (.ref p) (.set []) [p]:=.st e .nil
def PU(hn:X.N.length=n)(hu:X.A.units+1<cLine)(hc:X.calm=true)(Sc:cV X.env.scope scope X.N vars)(hk:vars.length=k)(hi:FI X tg iter wi)
  (hg:∀s H ex,FG (aF X scope vars s H ex) (List.range (n+1)) tg g)(ht:∀s H ex,kZ (aF X scope vars s H ex) ifs (lL (aF X scope vars s H ex) wc))(he:∀s H ex,FE (aF X scope vars s H ex) elt we)
  (hs:∀x,foldedSetIterable iter X.env x=pure x:=by intro _;rfl):FE X (.SetComp elt [⟨tg,iter,ifs,0⟩] scope pos) (DH (.set []) n k wi g wc (mD n we)):=by
 subst hn;intro pn xe hp zU s Z H Q I q;show wpAny (model X.prog X.w) X.A (comprehension (.SetComp elt [⟨tg,iter,ifs,0⟩] scope pos) scope X.env _ (newSet (.type "set")) false (eval iter X.env) none) (EP (wp X pn xe) zU Z Q) xe s;obtain⟨F,G,U,P,PX,zW,hw,hok,hx⟩:=q;refine HU (ty:="set") (dat:=.set #[] 0 (.fresh 0 0 (ST.ldOf X.w))) (λA E s Q h=>ST.newSet_ok h) (s0:=.set []) (o0:=.set []) MB LS rfl hs Sc hk hi (λs H ex D=>?_) (λ_ _ _=>rfl) (λ_ _ _=>rfl) (λ_ _ _=>rfl) (λ_ _ _=>⟨_,rfl⟩) hp I zW hw hx (HQ hok);exact GU (X:=aF X scope vars s H ex) hc rfl (hg s H ex [] (λ_ _=>False) PassesOwn.never) (ht s H ex) (λ_=>(NT (X:=aF X scope vars s H ex) rfl hu (he s H ex)).f) (λ_=>rfl) (λ_=>rfl) (λ_=>rfl) (λ_=>rfl)
set_option maxHeartbeats 4000000 in
def Ma(hn:X.N.length=n)(hu:X.A.units+1<cLine)(hm:X.A.mark none=X.A)(hc:X.calm=true)(Sc:cV X.env.scope scope X.N vars)(hk:vars.length=k)(hi:FI X tg iter wi)
  (hg:∀s H ex,FG (aF X scope vars s H ex) (List.range (n+1)) tg g)(ht:∀s H ex,kZ (aF X scope vars s H ex) ifs (lL (aF X scope vars s H ex) wc))
  (hi2:∀s H ex,FI (aF X scope vars s H ex) tg2 iter2 wi2)(hg2:∀s H ex,FG (aF X scope vars s H ex) (List.range (n+1)) tg2 g2)(ht2:∀s H ex,kZ (aF X scope vars s H ex) ifs2 (lL (aF X scope vars s H ex) wc2))
  (he:∀s H ex,FE (aF X scope vars s H ex) elt we)
  (hs:∀x,foldedSetIterable iter X.env x=pure x:=by intro _;rfl)(hs2:∀env x,foldedSetIterable iter2 env x=pure x:=by intro _ _;rfl):FE X (.SetComp elt [⟨tg,iter,ifs,0⟩,⟨tg2,iter2,ifs2,0⟩] scope pos) (DH (.set []) n k wi g wc (vK wi2 g2 wc2 (mD n we))):=by
 subst hn;intro pn xe hp zU s Z H Q I q;show wpAny (model X.prog X.w) X.A (comprehension (.SetComp elt [⟨tg,iter,ifs,0⟩,⟨tg2,iter2,ifs2,0⟩] scope pos) scope X.env _ (newSet (.type "set")) false (eval iter X.env) none) (EP (wp X pn xe) zU Z Q) xe s;obtain⟨F,G,U,P,PX,zW,hw,hok,hx⟩:=q;refine HU (ty:="set") (dat:=.set #[] 0 (.fresh 0 0 (ST.ldOf X.w))) (λA E s Q h=>ST.newSet_ok h) (s0:=.set []) (o0:=.set []) MB LS rfl hs Sc hk hi (λs H ex D=>?_) (λ_ _ _=>rfl) (λ_ _ _=>rfl) (λ_ _ _=>rfl) (λ_ _ _=>⟨_,rfl⟩) hp I zW hw hx (HQ hok);have inner:mF (aF X scope vars s H ex) (.SetComp elt [⟨tg,iter,ifs,0⟩,⟨tg2,iter2,ifs2,0⟩] scope pos) 1 (.ref D) tg2 _:=
  GU (X:=aF X scope vars s H ex) hc rfl (hg2 s H ex [] (λ_ _=>False) PassesOwn.never) (ht2 s H ex) (λ_=>(NT (X:=aF X scope vars s H ex) (n:=X.N.length) rfl hu (he s H ex)).f) (λ_=>rfl) (λ_=>rfl) (λ_=>rfl) (λ_=>rfl)
 exact GU (X:=aF X scope vars s H ex) hc rfl (hg s H ex [] (λ_ _=>False) PassesOwn.never) (ht s H ex) (λ_=>Vk (X:=aF X scope vars s H ex) rfl (hi2 s H ex) inner (hs2 _) hm (λ_=>rfl) (λ_=>rfl) (λ_=>rfl) (λ_=>⟨_,rfl⟩)) (λ_=>rfl) (λ_=>rfl) (λ_=>rfl) (λ_=>rfl)
end
def kf(p:List aQ×Addr):List aQ:=p.1
section
variable(X:Cx)(s:Shared)
def JK(ks:List aQ)(i:Nat)(h:Heap):Prop:=(∀b o,s.heap.get? b=some o->h.get? b=some o)/\∃xs:List (aQ×Value),(lE id (ks.take i)).Perm (xs.map (·.1))/\ST.VSet (ST.ldOf X.w) (aE X.prog X.w) h s.heap.objs.size xs/\(i=0->h.get? s.heap.objs.size=some (ST.freshSet (ST.ldOf X.w)))
def JT(ps:List (List aQ×Addr))(i:Nat)(h:Heap):Prop:=(∀b o,s.heap.get? b=some o->h.get? b=some o)/\∃xs:List (List aQ×Addr),(lE kf (ps.take i)).Perm xs/\ST.TRaw (ST.ldOf X.w) (tupleKind (aE X.prog X.w)) h s.heap.objs.size xs/\(i=0->h.get? s.heap.objs.size=some (ST.freshSet (ST.ldOf X.w)))
def JK.stay{ks:List aQ}{i:Nat}{h h':Heap}(x:JK X s ks i h)(hk:∀b o,b≠s.heap.objs.size+1->h.get? b=some o->h'.get? b=some o):JK X s ks i h':=by obtain⟨k,xs,p,⟨o,es,ep,t,ho,r⟩,z⟩:=x;have hn:s.heap.objs.size≠s.heap.objs.size+1:=ne_of_lt (lt_succ_self _);exact⟨λb o e=>hk b o (ne_of_lt (lt_succ_of_lt (ST.lt_of_get e))) (k b o e),xs,p,⟨o,es,ep,t,hk _ _ hn ho,r⟩,λi0=>hk _ _ hn (z i0)⟩
def JT.stay{ps:List (List aQ×Addr)}{i:Nat}{h h':Heap}(x:JT X s ps i h)(hk:∀b o,b≠s.heap.objs.size+1->h.get? b=some o->h'.get? b=some o):JT X s ps i h':=by obtain⟨k,xs,p,⟨o,es,ep,t,ho,r⟩,z⟩:=x;have hn:s.heap.objs.size≠s.heap.objs.size+1:=ne_of_lt (lt_succ_self _);exact⟨λb o e=>hk b o (ne_of_lt (lt_succ_of_lt (ST.lt_of_get e))) (k b o e),xs,p,⟨o,es,ep,t,hk _ _ hn ho,r⟩,λi0=>hk _ _ hn (z i0)⟩
end
def PZ:bootBuiltins "set"=some (.type "set"):=by decide+kernel
def WH:isSubtype (.type "tuple") (.type "set")=pure false:=by rw[isSubtype_type];kernel_rfl
def Wx:isSubtype (.type "tuple") (.type "frozenset")=pure false:=by rw[isSubtype_type];kernel_rfl
def US(hh:A.handled=none)(hu:A.units+20<cLine)(I:Inv X zU Z H s)(hT:s.TypeIs x T)(hs1:isSubtype (.type T) (.type "set")=pure false)(hs2:isSubtype (.type T) (.type "frozenset")=pure false)(hne:(Value.type T==Value.type "dict")=false)
  (W:ST.WalkOk X.prog X.w s x zY.toArray.size (λi v=>zY.toArray[i]?=some v))(rv:zR (ks.map kV) zY)(hz:ks.length<=150)
  (h:∀s',Inv X zU Z (upd H s.heap.objs.size (.set ((lE id ks).map kV))) s'->Q (.ref s.heap.objs.size) s'):wpAny (model X.prog X.w) A (call (.type "set") [x]) Q E s:=by
 have hl:zY.toArray.size=ks.length:=by rw[qt,<-rv.length,qp]
 refine ST.call_set (B:=A.units+20) (J:=JK X s ks) hh hT hs1 hs2 hne W (λh e k=>⟨k,[],.refl _,ST.vset_new e,λ_=>e⟩) (λi h h' hi x hk=>JK.stay X s x hk)
  (λA i v s' Q E hi hP⟨kp,xs,p,S,z⟩ hQ hA=>?_) (zc _) λh' tk⟨kp,xs,p,S,z⟩ _ ht=>h _ ?_
 .rw[hl]at hi;obtain⟨u,hu',ru⟩:=rv.get (i:=i) (x:=kV ks[i]) (by rw[qG,qi hi];rfl);have hv:v=u:=by grind
  subst hv;have hlx:xs.length<=150:=by have h1:=p.length_eq;grind[Ef,length_map,lE,cD,length_take,length_nil]
  have kp':∀{h':Heap},Heap.SameBut s.heap.objs.size s'.heap h'->∀b o,s.heap.get? b=some o->h'.get? b=some o:=λsb b o e=>(sb.2 b (ne_of_lt (ST.lt_of_get e))).trans (kp b o e);have hmk:=NO (id:aQ->aQ) hi;refine ST.setAddV (wF ru) (Mz ru) S hlx (λhm r=>hQ s'.heap _ r (le_succ _) (Heap.SameBut.refl _ _) ⟨kp,xs,?_,S,λz=>nomatch z⟩) λhm h' ys sb pm S' r=>hQ h' _ r (le_succ _) sb ⟨kp' sb,ys,?_,S',λz=>nomatch z⟩
  .rw[hmk];unfold cD;grind
  .rw[hmk];unfold cD;rw[map_id,q9 (show¬id ks[i]∈lE id (ks.take i) from λz=>hm (p.mem_iff.mp z))];exact(qO.trans (List.Perm.cons _ p)).trans (pm.map (·.1)).symm
 .rw[hl,List.take_length]at p;refine I.laid (t':=tk) kp (zc _) ⟨?_,?_⟩
  .grind[length_map,Ef,lE,cD,length_nil]
  .cases ks with
   |nil=>exact .inl ⟨rfl,z (by simpa using hl)⟩
   |cons y ks=>
    refine .inr (.inl ⟨λe=>?_,xs,?_,S⟩)
    .have h1:∀(l zZ:List aQ),zZ≠[]->l.foldl (cD id) zZ≠[]:=λl=>by
      induction l with
      |nil=>exact λ_ h=>h
      |cons i l ih=>
       refine λzZ h=>ih _ ?_;unfold cD;split
       .exact h
       .simp
     exact h1 ks (cD id [] y) (by unfold cD;simp) (map_eq_nil_iff.mp e)
    .have:=p.map kV;rw[qF]at this;exact this
def UL(hh:A.handled=none)(hu:A.units+20<cLine)(I:Inv X zU Z H s)(hT:s.TypeIs x T)(hs1:isSubtype (.type T) (.type "set")=pure false)(hs2:isSubtype (.type T) (.type "frozenset")=pure false)(hne:(Value.type T==Value.type "dict")=false)
  (W:ST.WalkOk X.prog X.w s x zY.toArray.size (λi v=>zY.toArray[i]?=some v))(rv:zR (ps.map λp=>V.ref p.2) zY)(hp:∀p∈ps,H p.2=some (.tup (p.1.map kV)))(hz:ps.length<=150)
  (h:∀s',Inv X zU Z (upd H s.heap.objs.size (.set ((lE kf ps).map λp=>V.ref p.2))) s'->Q (.ref s.heap.objs.size) s'):wpAny (model X.prog X.w) A (call (.type "set") [x]) Q E s:=by
 have hl:zY.toArray.size=ps.length:=by rw[qt,<-rv.length,qp]
 have is1:∀{h:Heap},(∀b o,s.heap.get? b=some o->h.get? b=some o)->∀p∈ps,IsTupleKey (aE X.prog X.w) h p.1 p.2:=λk p hq=>by obtain⟨o,zY,n,h1,r⟩:=rY I.hok (hp p hq);exact⟨o,zY,n,k _ _ h1,r⟩
 have isA:∀{h:Heap}{i:Nat}{xs:List (List aQ×Addr)},(∀b o,s.heap.get? b=some o->h.get? b=some o)->(lE kf (ps.take i)).Perm xs->∀p∈xs,IsTupleKey (aE X.prog X.w) h p.1 p.2:=λk pm p hq=>by
  rcases En kf (pm.mem_iff.mpr hq)with z|z
  .cases z
  .exact is1 k p (List.mem_of_mem_take z)
 refine ST.call_set (B:=A.units+20) (J:=JT X s ps) hh hT hs1 hs2 hne W (λh e k=>⟨k,[],.refl _,(ST.tset_new e).raw,λ_=>e⟩) (λi h h' hi x hk=>JT.stay X s x hk)
  (λA i v s' Q E hi hP⟨kp,xs,p,S,z⟩ hQ hA=>?_) (zc _) λh' tk⟨kp,xs,p,S,z⟩ _ ht=>h _ ?_
 .rw[hl]at hi;obtain⟨u,hu',ru⟩:=rv.get (i:=i) (x:=V.ref ps[i].2) (by rw[qG,qi hi];rfl);have hv:v=u:=by rw[List.getElem?_toArray,hu']at hP;exact(qg hP).symm
  subst hv;cases(show v=Value.ref ps[i].2 from ru);have hlx:xs.length<=150:=by have h1:=p.length_eq;have h2:=Ef kf (ps.take i) [];have h3:(lE kf (ps.take i)).length=((ps.take i).foldl (cD kf) []).length:=rfl;rw[qI,qw]at h2;lia
  have kp':∀{h':Heap},Heap.SameBut s.heap.objs.size s'.heap h'->∀b o,s.heap.get? b=some o->h'.get? b=some o:=λsb b o e=>(sb.2 b (ne_of_lt (ST.lt_of_get e))).trans (kp b o e);have hmk:=NO kf hi;refine ST.setAddT (by lia) (is1 kp ps[i] (getElem_mem hi)) (S.full (isA kp p)) hlx (λhm tk r ht=>hQ s'.heap _ r ht (Heap.SameBut.refl _ _) ⟨kp,xs,?_,S,λz=>nomatch z⟩) λhm h' ys tk r sb pm S' ht=>hQ h' _ r ht sb ⟨kp' sb,ys,?_,S'.raw,λz=>nomatch z⟩
  .rw[hmk];unfold cD;rw[q8 (show kf ps[i]∈_ from(p.map kf).mem_iff.mpr hm)];exact p
  .rw[hmk];unfold cD;rw[q9 (show¬kf ps[i]∈_ from λz=>hm ((p.map kf).mem_iff.mp z))];exact(qO.trans (List.Perm.cons _ p)).trans pm.symm
 .rw[hl,List.take_length]at p;have hnew:∀d xs,H d=some (HO.tup xs)->upd H s.heap.objs.size (.set ((lE kf ps).map λp=>V.ref p.2)) d=some (.tup xs):=λd xs z=>by rw[bJ (pP z I.fresh)];exact z
  refine I.laid (t':=tk) kp (zc _) ⟨?_,?_⟩
  .rw[qp];have:=Ef kf ps [];have h3:(lE kf ps).length=(ps.foldl (cD kf) []).length:=rfl;rw[qw]at this;lia
  .cases ps with
   |nil=>exact .inl ⟨rfl,z (by simpa using hl)⟩
   |cons y ps=>
    refine .inr (.inr ⟨λe=>?_,xs,p.map _,λq hq=>?_,S⟩)
    .have h1:∀(l zZ:List (List aQ×Addr)),zZ≠[]->l.foldl (cD kf) zZ≠[]:=λl=>by
      induction l with
      |nil=>exact λ_ h=>h
      |cons i l ih=>
       refine λzZ h=>ih _ ?_;unfold cD;split
       .exact h
       .simp
     exact h1 ps (cD kf [] y) (by unfold cD;simp) (map_eq_nil_iff.mp e)
    .rcases En kf (p.mem_iff.mpr hq)with z|z
     .cases z
     .exact hnew _ _ (hp q z)
def BW(K:W.Frag):List V->Hp->VK->Prop:=λxs H Q=>∃a vs,xs=[.ref a]/\(bR K H a vs\/bP K H a vs)/\vs.length<=150/\
 ((∃ks:List aQ,vs=ks.map kV/\∀p,H p=none->Q (.ref p) (upd H p (.set ((lE id ks).map kV))))\/
  ∃ps:List (List aQ×Addr),vs=ps.map (λp=>V.ref p.2)/\(∀p∈ps,H p.2=some (.tup (p.1.map kV)))/\∀p,H p=none->Q (.ref p) (upd H p (.set ((lE kf ps).map λp=>V.ref p.2))))
def Vr(hr:bI k X.A):aX X (.type "set") (BW X.K):=by
 intro zU s Z H xs us Q I r h;obtain⟨a,vs,rfl,hq,hz,h⟩:=h;have hu:X.A.units+20<cLine:=by have:=hr.units;lia
 cases r with
 |cons r1 r2=>
  cases r2;cases r1;have go:∀{T:String}{zY:List Value},s.TypeIs (.ref a) T->isSubtype (.type T) (.type "set")=pure false->isSubtype (.type T) (.type "frozenset")=pure false->(Value.type T==Value.type "dict")=false->ST.WalkOk X.prog X.w s (.ref a) zY.toArray.size (λi v=>zY.toArray[i]?=some v)->zR vs zY->
    wpAny (model X.prog X.w) X.A (call (.type "set") [.ref a]) (EP X zU Z Q) X.xe s:=λ{T zY} hT h1 h2 h3 W rv=>by
   rcases h with⟨ks,rfl,q⟩|⟨ps,rfl,hp,q⟩
   .exact US hr.hd hu I hT h1 h2 h3 W rv (by simpa using hz) λs' I'=>⟨.ref _,_,I',rfl,q _ I.fresh⟩
   .exact UL hr.hd hu I hT h1 h2 h3 W rv hp (by simpa using hz) λs' I'=>⟨.ref _,_,I',rfl,q _ I.fresh⟩
  rcases hq with hq|hq
  .obtain⟨zY,rv,pl,_⟩:=I.list hq;exact go pl.isList.typeIs F.sub_list_set F.sub_list_frozenset (by decide) (ST.walk_list pl.isList) rv
  .obtain⟨zY,rv,⟨o,e,c,n,d⟩,_⟩:=I.tuple hq;have ht:s.heap.IsTuple a zY.toArray:=⟨o,e,c,n,d⟩
   exact go ⟨o,e,c⟩ WH Wx (by decide) (ST.walk_tuple ht) rv
section
variable{K:W.Frag}
def zS.of_all{ι:Type}{fV:ι->V}{fD:ι->D}:∀{l:List ι},(∀i∈l,aN K F (fV i) (fD i))->zS K F (l.map fV) (l.map fD)
 |[],_=>.nil
 |i::l,h=>.cons (h i qo) (zS.of_all λj hj=>h j (qm _ hj))
def zS.to_all{ι:Type}{fV:ι->V}{fD:ι->D}:∀{l:List ι},zS K F (l.map fV) (l.map fD)->∀i∈l,aN K F (fV i) (fD i)
 |[],_,_,h=>nomatch h
 |j::l,.cons a b,i,h=>by
  rcases qC.mp h with rfl|z
  .exact a
  .exact zS.to_all b i z
def Rel.newS{p:Addr}(zW:Rel K U Z F G H)(hp:H p=none)(r:zS K F vs l):Rel K (U++[some (.set l)]) (Z++[some (.ref p)]) F G (upd H p (.set vs)):=zW.newO hp (.st gC r)
def Uw:dH K (BW K) Ag:=by
 intro Z U F G H vs ds s Q zW re e hq;obtain⟨d,v,rfl,rfl⟩:=kX (λx y r=>by cases x<;>rfl) rfl re e;have main:∀{a:Addr}{xs:List V}{l:List D},(bR K H a xs\/bP K H a xs)->zS K F xs l->newS l=some s->BW K [.ref a] H Q:=λ{a xs l} hq' r e=>by
  unfold newS at e;split at e
  .rename_i hc;cases e;refine⟨a,xs,rfl,hq',by rw[r.len];exact hc.2,?_⟩;have hk:=hc.1;unfold cX at hk;rw[or_eq_true]at hk;rcases hk with hk|hk
   .obtain⟨ks,rfl,rfl⟩:=Ar r hk;refine .inl ⟨ks,rfl,λp hp=>?_⟩;rw[Mc id (f:=aL) λi j=>⟨wI,λz=>by rw[show i=j from z]⟩]at hq;refine hq _ F _ (zH.refl F) (zW.newS hp (zS.of_all λi hi=>zS.to_all r i ?_));rcases En id hi with z|z
    .cases z
    .exact z
   .obtain⟨ps,rfl,rfl,hf⟩:=GE r hk;refine .inr ⟨ps,rfl,λp hp=>zW.fr _ _ (hf p hp),λp hp=>?_⟩;rw[Mc kf (f:=tK) λi j=>zbK]at hq;refine hq _ F _ (zH.refl F) (zW.newS hp (zS.of_all λi hi=>zS.to_all r i ?_));rcases En kf hi with z|z
    .cases z
    .exact z
  .cases e
 cases d with
 |lst l=>obtain⟨a,xs,rfl,h1,r1⟩:=re.1.lst zW.fr;exact main (.inl h1) r1 e
 |tup l=>obtain⟨a,xs,rfl,h1,r1⟩:=re.1.tup;exact main (.inr (bP.of (zW.fr _ _ h1))) r1 e
 |_=>cases e
def RE(hr:bI k X.A)(hg:Gl X "set")(hm:X.mg "set"=none)(hv:bootBuiltins "set"=some (.type "set"))(ha:FA X (e::es) wa)(he:starEach (e::es) X.env=(false,eval e X.env)::starEach es X.env:=by rfl)(hpl:(backTo pos (starEach es X.env)).any (·.1)=false:=by rfl):FE X (.Call (.Name "set" p) (e::es) [] pos) (wB Ag wa):=
 DE (λpn xe=>Vr (X:=wp X pn xe) hr) Uw hg hm hv ha (by decide) (by decide) he hpl
def bG.set(r:bG K F H v (.set l)):∃a xs,v=.ref a/\F a=some (.set xs)/\zS K F xs l:=by
 rcases r with r|⟨_,_,_,_,e,_⟩|⟨_,_,_,_,_,e,_⟩|⟨_,_,_,_,_,e,_⟩
 .cases r with
  |st e r=>exact⟨_,_,rfl,e,r⟩
 .cases e
 .cases e
 .cases e
end
def HZ:∀l:List Nat,(∀x∈l,p x=true->q x=true)->l.countP p<=l.countP q
 |[],_=>zc _
 |a::l,h=>by
  rw[countP_cons,countP_cons];have:=HZ l λx hx=>h x (qm _ hx);cases e:p a with
  |true=>rw[h a qo e];lia
  |false=>simp only[false_eq_true,if_false];lia
def Mm:∀l:List Nat,(∀x∈l,p x=true->q x=true)->(∃x,x∈l/\q x=true/\p x=false)->l.countP p<l.countP q
 |[],_,z=>by obtain⟨_,z,_⟩:=z;cases z
 |a::l,h,z=>by
  rw[countP_cons,countP_cons];obtain⟨x,hx,qx,px⟩:=z;by_cases e:x=a
  .subst e;have:=HZ l λx hx=>h x (qm _ hx);rw[qx,px];simp only[false_eq_true,if_false,if_true];lia
  .have:=Mm l (λx hx=>h x (qm _ hx)) ⟨x,(qC.mp hx).resolve_left e,qx,px⟩;cases e:p a with
   |true=>rw[h a qo e];lia
   |false=>simp only[false_eq_true,if_false];lia
def BS(l:List D)(i:Nat):Int:=((List.range l.length).countP λj=>!fF (l.getD i .non) (l.getD j .non):Nat)
def LB(o:gK P)(hp:∀d∈l,P d)(hi:i<l.length)(hj:j<l.length):decide (BS l i<BS l j)=!fF (l.getD j .non) (l.getD i .non):=by
 have at_:∀k,k<l.length->P (l.getD k .non):=λk hk=>by grind
 have pi:=at_ i hi;have pj:=at_ j hj;unfold BS;cases e:fF (l.getD j .non) (l.getD i .non)with
 |false=>
  refine qS (Int.ofNat_lt.mpr (Mm _ (λk hk h=>?_) ⟨i,qK.mpr hi,by rw[e];rfl,?_⟩))
  .have pk:=at_ k (qK.mp hk);cases q:fF (l.getD j .non) (l.getD k .non)with
   |false=>rfl
   |true=>
    have hik:fF (l.getD i .non) (l.getD k .non)=false:=by simpa using h
    rcases o.tot _ _ pi pj with z|z
    .rw[o.tr _ _ _ pi pj pk z q]at hik;cases hik
    .rw[z]at e;cases e
  .rcases o.tot _ _ pi pi with z|z<;>rw[z]<;>rfl
 |true=>
  refine qT λh=>?_;have:=HZ (p:=λk=>!fF (l.getD j .non) (l.getD k .non)) (q:=λk=>!fF (l.getD i .non) (l.getD k .non)) (List.range l.length) λk hk h=>by
   have pk:=at_ k (qK.mp hk);cases q:fF (l.getD i .non) (l.getD k .non)with
   |false=>rfl
   |true=>rw[o.tr _ _ _ pj pi pk e q]at h;cases h
  lia
section
open PySem.W HT
def WL{ks js:List aQ}(i:Nat)(r:zR (ks.map kV) us)(r':zR (js.map kV) vs)(h:hV sh (ks.map aL))(h':hV sh (js.map aL))(hq:Q (aU (ks.map aL) (js.map aL)==.lt) s):KatLex prog w A b (decide (ks.length<js.length)) Q (us.zip vs) i s:=by
 induction ks generalizing us vs js i sh with
 |nil=>
  have e:js=[]:=by simpa using Bd h h'
  subst e;cases r;rw[map_nil,show(aU [] []==Ordering.lt)=false by rw[aU];rfl]at hq;exact kat_nil hq
 |cons k ks ih=>cases js with
  |nil=>have e:=Bd (m:=(k::ks).map aL) h' h;cases e
  |cons j js=>
   rw[qA]at h h';rw[qA,qA]at hq;obtain⟨kd,sh',h1,h2⟩:=GJ h h';rw[GR]at hq;have e:decide ((k::ks).length<(j::js).length)=decide (ks.length<js.length):=decide_eq_decide.2 Nat.succ_lt_succ_iff;rw[e];cases r with
   |@cons _ u _ us r1 r=>
    cases r' with
    |@cons _ v _ vs r1' r'=>
     cases k with
     |inl n=>
      obtain⟨t,rfl⟩:=r1;cases j with
      |inr y=>rcases kd with⟨_,_,_,z⟩|⟨_,_,z,_⟩<;>cases z
      |inl m=>
       obtain⟨t',rfl⟩:=r1';refine kat_cons (wpAny_eqBool_int ?_);have hq:Q ((match cH (D.int n) (D.int m)with|.eq=>aU (ks.map aL) (js.map aL)|o=>o)==.lt) s:=hq;rw[Em]at hq;by_cases nm:n=m
       .subst nm;rw[q9 (Int.lt_irrefl n),q9 (Int.lt_irrefl n)]at hq;rw[show(n==n)=true by simp];exact kat_yes (ih (i+1) r r' h1 h2 hq)
       .rw[show(n==m)=false by simp[nm]];have hq':Q (decide (n<m)) s:=by
         by_cases z:n<m
         .rw[q8 z]at hq;rw[qS z];exact hq
         .rw[q9 z,q8 (by lia)]at hq;rw[qT z];exact hq
        refine kat_no ?_;cases(b&&i==0)with
        |true=>exact oneLt_int hq'
        |false=>exact kat_one _ _ (PyProof.Rows.lt_int hq')
     |inr x=>
      obtain⟨t,rfl⟩:=r1;cases j with
      |inl y=>rcases kd with⟨_,_,z,_⟩|⟨_,_,_,z⟩<;>cases z
      |inr y=>
       obtain⟨t',rfl⟩:=r1';refine kat_cons (wpAny_eqBool_str ?_);have hq:Q ((match cH (D.str x.cps.toList) (D.str y.cps.toList)with|.eq=>aU (ks.map aL) (js.map aL)|o=>o)==.lt) s:=hq;rw[GD]at hq;by_cases nm:x=y
       .subst nm;rw[q9 (List.lt_irrefl _),q9 (List.lt_irrefl _)]at hq;rw[qS rfl];exact kat_yes (ih (i+1) r r' h1 h2 hq)
       .rw[qT nm];have hq':Q (decide (x.cps.toList<y.cps.toList)) s:=by
         rcases UK x.cps.toList y.cps.toList with z|z|z
         .rw[q8 z]at hq;rw[qS z];exact hq
         .rw[q9 (lt_asymm z),q8 z]at hq;rw[qT (lt_asymm z)];exact hq
         .exact absurd (wI (a:=.inr x) (b:=.inr y) (by show D.str _=D.str _;rw[z])) (λe=>nm (by cases e;rfl))
        refine kat_no ?_;cases(b&&i==0)with
        |true=>exact oneLt_str hq'
        |false=>exact kat_one _ _ (PyProof.Rows.lt_str hq')
def Dh(h:Heap)(b:Addr)(ks:List aQ):Prop:=∃us,zR (ks.map kV) us/\IsTup h b us.toArray
def lX:∀{ps:List (List aQ×Addr)},(∀p∈ps,Dh h p.2 p.1/\hV (t::sh) (p.1.map aL))->∃fs:List Value,KatTups h (ps.map λp=>Value.ref p.2) fs/\fs.length=ps.length/\∀v∈fs,if t then∃z u,v=Value.str z u else∃z u,v=Value.int z u
 |[],_=>⟨[],.nil,rfl,λ_ z=>nomatch z⟩
 |(ks,b)::ps,hp=>by
  obtain⟨fs,t1,t2,t3⟩:=lX (ps:=ps) λp hq=>hp p (qm _ hq);obtain⟨⟨us,r,o,e,c,n,d⟩,hk⟩:=hp (ks,b) qo;dsimp only at r e hk;cases ks with
  |nil=>cases t<;>exact hk.elim
  |cons k ks=>
   cases r with
   |@cons _ u _ us r1 r=>
    refine⟨u::fs,.cons e c d rfl t1,by simp[t2],λv hv=>?_⟩;rcases qC.mp hv with z|z
    .subst z;cases t
     .cases k with
      |inl i=>obtain⟨tk,rfl⟩:=r1;exact⟨_,_,rfl⟩
      |inr x=>exact hk.elim
     .cases k with
      |inl i=>exact hk.elim
      |inr x=>obtain⟨tk,rfl⟩:=r1;exact⟨_,_,rfl⟩
    .exact t3 v z
def NG{L D:Addr}{Q:Shared->Prop}(F':Fr h₀ L s.heap m)(N':News h₀ L s.heap ((D,seqObj "list" #[] e1)::news))(hD:∀q∈news,q.1<D)
  (ht:∀p∈ps,Dh s.heap p.2 p.1/\hV sh (p.1.map aL))(hne:sh≠[])(h2:2<=ps.length)
  (fin:∀qs:List (List aQ×Addr),qs.Perm ps->(qs.map tK).Pairwise (fF · ·=true)->∀h3 c,Fr h₀ L h3 m->News h₀ L h3 ((D,seqObj "list" (qs.map λp=>Value.ref p.2).toArray c)::news)->Q {s with heap:=h3}):
  wpAny (model prog w) A (keyKind' (ps.map λp=>Value.ref p.2).toArray) (λκ s'=>(kas_sort (ps.map λp=>Value.ref p.2).length).kasWp (kas_ask prog w A κ (ps.map λp=>Value.ref p.2)) (λp s''=>KasFin h₀ L m D e1 (p.toList.map λi=>(ps.map λp=>Value.ref p.2).getD i Value.none) Q s'') s') (λ_ _=>False) s:=by
 cases sh with
 |nil=>exact absurd rfl hne
 |cons t sh=>
  obtain⟨fs,t1,t2,t3⟩:=lX ht;have hk:∀d∈ps.map tK,jZ (t::sh) d:=λd hd=>by obtain⟨p,hp,rfl⟩:=qL.mp hd;exact(ht p hp).2
  have hl:(ps.map tK).length=ps.length:=qp ..;have go:∀b,(kas_sort (ps.map λp=>Value.ref p.2).length).kasWp (kas_ask prog w A (tuples' b) (ps.map λp=>Value.ref p.2)) (λp s''=>KasFin h₀ L m D e1 (p.toList.map λi=>(ps.map λp=>Value.ref p.2).getD i Value.none) Q s'') s:=λb=>by
   refine NU (n:=ps.length) (rk:=BS (ps.map tK)) (P:=λp=>p.Perm (List.range ps.length).toArray/\vN (BS (ps.map tK)) p ps.length) (λi j C hi hj hc=>?_) _ (by rw[qp];exact Uc h2 λp a b=>⟨a,b⟩) λp⟨p1,p2⟩=>?_
   .rw[LB (DW (t::sh)) hk (by lia) (by lia)]at hc;have gD:∀i,i<ps.length->(ps.map tK).getD i .non=tK (ps.getD i ([],0)):=λi hi=>by simp[hi]
    have gV:∀i,i<ps.length->(ps.map λp=>Value.ref p.2).getD i Value.none=.ref (ps.getD i ([],0)).2:=λi hi=>by simp[hi]
    have gP:∀i,i<ps.length->ps.getD i ([],0)∈ps:=λi hi=>by
     have e:ps.getD i ([],0)=ps[i]:=by simp[hi]
     rw[e];exact getElem_mem hi
    rw[gD i hi,gD j hj]at hc;obtain⟨⟨us,r,o,e,c,n,d⟩,ki⟩:=ht _ (gP i hi);obtain⟨⟨us',r',o',e',c',n',d'⟩,kj⟩:=ht _ (gP j hj);rw[show fF (tK (ps.getD j ([],0))) (tK (ps.getD i ([],0)))=_ from wH kj ki,Bool.not_not]at hc;unfold kas_ask;rw[gV i hi,gV j hj];refine kat_lt e d e' d' ?_;have l1:us.toArray.size=(ps.getD i ([],0)).1.length:=by rw[qt,<-r.length,qp]
    have l2:us'.toArray.size=(ps.getD j ([],0)).1.length:=by rw[qt,<-r'.length,qp]
    rw[l1,l2];exact WL 0 r r' ki kj hc
   .have hin:∀i∈p.toList,i<ps.length:=λi hi=>by have:=p1.mem_iff.mp (mem_toList_iff.mp hi);simpa using this
    have hsz:p.size=ps.length:=by have:=p1.size_eq;simpa using this
    have pp:p.toList.Perm (List.range ps.length):=by simpa using Array.perm_iff_toList_perm.mp p1
    refine KasFin.intro F' N' (.head λp hp=>ne_of_lt (hD p hp)) λh3 c F3 N3=>fin (p.toList.map λi=>ps.getD i ([],0)) ((pp.map _).trans (by rw[VW])) ?_ h3 c F3 ?_
    .rw[qF,pairwise_map];refine List.pairwise_iff_getElem.mpr λi j hi hj hij=>?_;have hj':j<ps.length:=by rw[<-hsz];simpa using hj
     have k:=p2 i j (by lia) hj';have gi:∀i(h:i<p.toList.length),kA (BS (ps.map tK)) p i=BS (ps.map tK) p.toList[i]:=λi h=>by unfold kA;rw[getElem?_eq_getElem (by simpa using h)];simp
     rw[gi i hi,gi j hj]at k;have hbi:=hin _ (getElem_mem hi);have hbj:=hin _ (getElem_mem hj);have:=LB (DW (t::sh)) hk (i:=p.toList[j]) (j:=p.toList[i]) (by lia) (by lia);rw[qT (by lia)]at this;have e:fF ((ps.map tK).getD p.toList[i] .non) ((ps.map tK).getD p.toList[j] .non)=true:=by simpa using this.symm
     have gD:∀i,i<ps.length->(ps.map tK).getD i .non=tK (ps.getD i ([],0)):=λi hi=>by simp[hi]
     rw[gD _ hbi,gD _ hbj]at e;exact e
    .have eo:(p.toList.map λi=>(ps.map λp=>Value.ref p.2).getD i Value.none)=(p.toList.map λi=>ps.getD i ([],0)).map λp=>Value.ref p.2:=by rw[qF];refine map_congr_left λi hi=>?_;simp[hin i hi]
     rw[<-eo];exact N3
  cases t
  .refine kat_kind (T:=.type "int") t1 (by lia) (λv hv=>?_) (by rfl) (go _);obtain⟨z,u,rfl⟩:=t3 v hv;exact Looks.of_pure rfl
  .refine kat_kind (T:=.type "str") t1 (by lia) (λv hv=>?_) (by rfl) (go _);obtain⟨z,u,rfl⟩:=t3 v hv;exact Looks.of_pure rfl
end
def Inv.laidD(I:Inv X zU Z H s)(hn:∀m,s.heap.Ns X.env.locals m->h'.Ns X.env.locals m)(k:∀b u,b≠X.env.locals->s.heap.get? b=some u->h'.get? b=some u)
  (hp:s.heap.get? a=none)(new:zT X.prog X.w (upd H a o) h' a o):Inv X zU Z (upd H a o) {s with heap:=h',toks:=t',drawn:=d'}:=by
 have ha:H a=none:=by
  cases e:H a with
  |none=>rfl
  |some u=>obtain⟨v,z⟩:=zT.there (I.hok a u e);rw[hp]at z;cases z
 refine I.step (g':=s.gens) (d':=d') (ch:=[]) (λ_ z=>nomatch z) (λb ob nL _ _ e _=>k b ob nL e) (λb ob nL _ _ e _=>⟨ob.slots,k b ob nL e⟩) (λb ob _ e n=>by rw[bJ (λz=>by rw[z,hp]at e;cases e)];exact n)
  (λb ob _ e=>?_) (λb xs q=>by rw[bJ (pP q ha)];exact q) (λb u xs q=>by rw[bJ (pP q ha)];exact q) (λb ps q=>⟨#[],by rw[bJ (pP q ha),q];simp⟩) hn (λb ob e=>?_) I.bare
 .by_cases hb:b=X.env.locals
  .obtain⟨m,x,_⟩:=I.loc;obtain⟨o',_,_,e',_⟩:=hn m x;exact⟨o',by rw[hb];exact e'⟩
  .exact⟨ob,k b ob hb e⟩
 .by_cases hb:b=a
  .subst hb;rw[gC]at e;cases e;exact new
  .rw[bJ hb]at e;refine(I.hok b ob e).stay (λc v hc q=>k c v (λz=>?_) q) (λc q=>by rw[bJ (pP q ha)];exact q) λc xs q=>by rw[bJ (pP q ha)];exact q
   rw[z]at hc;rcases hc with r|r
   .rw[<-r,I.free]at e;cases e
   .rw[I.free]at r;cases r
def SY(h:iP k v=true):zL (kV k) v:=by
 rcases vW h with⟨i,t,rfl,rfl⟩|⟨x,t,rfl,rfl⟩
 .exact⟨t,rfl⟩
 .exact⟨t,rfl⟩
def Om(r:zR xs ys)(p:zs.Perm ys):∃us,us.Perm xs/\zR us zs:=by
 induction p generalizing xs with
 |nil=>cases r;exact⟨[],.refl _,.nil⟩
 |cons x _ ih=>
  cases r with
  |cons r1 r=>obtain⟨us,p,q⟩:=ih r;exact⟨_::us,.cons _ p,.cons r1 q⟩
 |swap x y l=>
  cases r with
  |cons r1 r=>
   cases r with
   |cons r2 r=>exact⟨_,.swap _ _ _,.cons r2 (.cons r1 r)⟩
 |trans _ _ ih1 ih2=>obtain⟨us,p,q⟩:=ih2 r;obtain⟨us',p',q'⟩:=ih1 q;exact⟨us',p'.trans p,q'⟩
def FZ(X:Cx)(s:Shared)(a:Addr)(vs:List V):Prop:=∃es ep t us,ST.SetAt s.heap a es ep t/\ST.Rising t.place/\t.place.size=es.size/\(X.w.params.followText "set-order"=false->t.led=true)/\us.Perm vs/\zR us (es.toList.map (·.2))/\es.size=vs.length
def Qd(I:Inv X zU Z H s)(e:H a=some (.set vs)):FZ X s a vs:=by
 have led:∀{t:SetTable},t.led=ST.ldOf X.w->X.w.params.followText "set-order"=false->t.led=true:=λe h=>by rw[e];unfold ST.ldOf;rw[h];rfl
 have kk:∀{xs:List (aQ×Value)},ST.VSet (ST.ldOf X.w) (aE X.prog X.w) s.heap a xs->vs.Perm (xs.map λp=>kV p.1)->FZ X s a vs:=λ{xs} S p=>by
  obtain⟨es,ep,t,h1,h2,h3,h4,h5⟩:=S.at;have hk:∀p∈xs,(aE X.prog X.w).is p.1 p.2=true/\p.2.scannable=true:=let⟨_,_,_,_,_,_,_,_,_,hk,_⟩:=S;hk
  have hv:zR (xs.map λp=>kV p.1) (es.toList.map (·.2)):=by
   rw[h5]
   clear h5 p S
   induction xs with
   |nil=>exact .nil
   |cons x xs ih=>exact .cons (SY (hk x qo).1) (ih λq hq=>hk q (qm _ hq))
  have hl:es.size=vs.length:=by have:=congrArg List.length h5;rw[qp,qp,qW]at this;rw[p.length_eq,qp,this]
  exact⟨es,ep,t,_,h1,h2,h3,led h4,p.symm,hv,hl⟩
 rcases I.hok a _ e with⟨hz,⟨h0,h1⟩|⟨_,xs,p,S⟩|⟨_,xs,p,hx,S⟩⟩
 .exact kk (xs:=[]) (ST.vset_new h1) (by rw[h0];exact .refl _)
 .exact kk S p
 .obtain⟨es,ep,t,h1,h2,h3,h4,h5⟩:=(S.full λx hx'=>rY I.hok (hx x hx')).at;refine⟨es,ep,t,xs.map λp=>V.ref p.2,h1,h2,h3,led h4,p.symm,?_,?_⟩
  .rw[h5]
   clear h5 p S hx
   induction xs with
   |nil=>exact .nil
   |cons x xs ih=>exact .cons rfl ih
  .have:=congrArg List.length h5;rw[qp,qp,qW]at this;rw[p.length_eq,qp,this]
def Ue{α:Type}{l m:List α}(p:l.Perm m)(h:m.length<2):l=m:=by
 match m,h with
 |[],_=>exact p.eq_nil
 |[a],_=>exact p.eq_singleton
def GH{ι β:Type}{f:ι->β}{us:List β}{ns:List ι}(p:us.Perm (ns.map f)):∃ms:List ι,us=ms.map f/\ms.Perm ns:=by
 induction us generalizing ns with
 |nil=>first|rfl|assumption|(simp_all;done)
 |cons u us ih=>obtain⟨n,hn,rfl⟩:=qL.mp (p.mem_iff.mp qo);obtain⟨l1,l2,rfl⟩:=append_of_mem hn;rw[map_append,qA]at p;obtain⟨ms,rfl,q⟩:=ih (ns:=l1++l2) (by rw[map_append];exact(p.trans perm_middle).cons_inv);exact⟨n::ms,rfl,(List.Perm.cons n q).trans perm_middle.symm⟩
def HM:∀{ps:List (List aQ×Addr)}{zY:List Value},zR (ps.map λp=>V.ref p.2) zY->zY=ps.map λp=>Value.ref p.2
 |[],_,.nil=>rfl
 |p::ps,_,.cons r t=>by have e:_=Value.ref p.2:=r;rw[e,HM t];rfl
def Ie:∀ps:List (List aQ×Addr),zR (ps.map λp=>V.ref p.2) (ps.map λp=>Value.ref p.2)
 |[]=>.nil
 |_::ps=>.cons rfl (Ie ps)
section
variable{K:W.Frag}
def Ca(vs:List V)(H:Hp)(Q:VK):Prop:=
 (vs.length<2/\∀q,H q=none->Q (.ref q) (upd H q (.lst vs)))\/
 (∃ns:List Int,vs=ns.map V.int/\ns.length<64/\∀ns':List Int,ns'.Perm ns->ns'.Pairwise (·<=·)->∀q,H q=none->Q (.ref q) (upd H q (.lst (ns'.map V.int))))\/
 (∃zs:List Str,vs=zs.map V.str/\zs.length<64/\∀zs':List Str,zs'.Perm zs->sortedS zs'=true->∀q,H q=none->Q (.ref q) (upd H q (.lst (zs'.map V.str))))\/
 ∃(ps:List (List aQ×Addr))(sh:List Bool),vs=ps.map (λp=>V.ref p.2)/\2<=ps.length/\ps.length<64/\(∀p∈ps,H p.2=some (.tup (p.1.map kV))/\hV sh (p.1.map aL))/\sh≠[]/\∀qs:List (List aQ×Addr),qs.Perm ps->(qs.map tK).Pairwise (fF · ·=true)->∀q,H q=none->Q (.ref q) (upd H q (.lst (qs.map λp=>V.ref p.2)))
def mU(K:W.Frag):List V->Hp->VK->Prop:=λxs H Q=>∃a vs,xs=[.ref a]/\(bR K H a vs\/H a=some (.set vs))/\Ca vs H Q
def GK{s:Shared}(F:Fr h₀ L s.heap m)(F':Fr h₀ L h' m)(N':News h₀ L h' (rest h₀ L s.heap)):∀b u,b≠L->s.heap.get? b=some u->h'.get? b=some u:=λb u hb e=>by
 cases hb0:h₀.get? b with
 |some o=>rw[F.keep b o hb0]at e;rw[<-e];exact F'.keep b o hb0
 |none=>exact(N' (b,u) (zbV.mpr ⟨e,hb,hb0⟩)).1
def My(I:Inv X zU Z H s)(k:∀b u,b≠X.env.locals->s.heap.get? b=some u->h'.get? b=some u){p:List aQ×Addr}(e:H p.2=some (.tup (p.1.map kV))):Dh h' p.2 p.1:=by obtain⟨us,r,⟨o,e,c,n,d⟩,_⟩:=I.tuple (bP.of e);refine⟨us,r,o,k p.2 o (λz=>?_) e,c,n,d⟩;obtain⟨m,⟨o',es,ep,e',d',_⟩,_⟩:=I.loc;rw[z,e']at e;cases e;rw[d']at d;cases d
def Ws(hh:X.A.handled=none):aX X (.builtin "sorted") (mU X.K):=by
 intro zU s Z H xs us Q I r h;obtain⟨a,vs,rfl,hq,h⟩:=h;cases r with
 |cons r1 r2=>
  cases r2;cases r1;rcases hq with hq|hq
  .rcases h with⟨h2,q⟩|⟨ns,rfl,h64,q⟩|⟨zs,rfl,h64,q⟩|⟨ps,sh,rfl,h2,h64,hp,hne,q⟩
   .exact WC zU s Z H [.ref a] [.ref a] Q I (.cons rfl .nil) ⟨a,vs,rfl,hq,h2,q⟩
   .exact Oz zU s Z H [.ref a] [.ref a] Q I (.cons rfl .nil) ⟨a,rfl,.inl ⟨ns,h64,hq,q⟩⟩
   .exact Oz zU s Z H [.ref a] [.ref a] Q I (.cons rfl .nil) ⟨a,rfl,.inr ⟨zs,h64,hq,q⟩⟩
   .obtain⟨zY,rv,pl,_⟩:=I.list hq;have hv:=HM rv;subst hv;obtain⟨m,F⟩:=I.fr;have N:News X.base X.env.locals s.heap (rest X.base X.env.locals s.heap):=λp hp=>zbV.mp hp;refine W.kat_sorted F N pl.isList (by rw[qp];exact h2) (by rw[qp];exact h64) λD e1 h' F' N' hD=>?_;have tl:∀{h':Heap}{d o news},News X.base X.env.locals h' ((d,o)::news)->News X.base X.env.locals h' news:=λN p hp=>N p (qm _ hp);have hDn:s.heap.get? D=none:=by
     cases e:s.heap.get? D with
     |none=>rfl
     |some u=>obtain⟨_,n1,n2⟩:=N' (D,seqObj "list" #[] e1) qo;exact absurd (hD (D,u) (zbV.mpr ⟨e,n1,n2⟩)) (lt_irrefl _)
    refine NG (s:={s with heap:=h'}) F' N' hD (λp hp'=>⟨My I (GK F F' (tl N')) (hp p hp').1,(hp p hp').2⟩) hne h2 λqs pq pw h3 c F3 N3=>?_;refine⟨.ref D,_,Inv.laidD (s:=s) (t':=s.toks) (d':=s.drawn) (o:=.lst (qs.map λp=>V.ref p.2)) I (λm' x=>by rw[Lz x F.ns];exact F3.ns) (GK F F3 (tl N3)) hDn ?_,rfl,q qs pq pw D ?_⟩
    .exact⟨by rw[qp,pq.length_eq,zp];lia,_,c,Ie qs,(N3 (D,_) qo).1⟩
    .cases e:H D with
     |none=>rfl
     |some u=>obtain⟨v,z⟩:=zT.there (I.hok D u e);rw[hDn]at z;cases z
  .obtain⟨es,ep,t,us,h1,h2,h3,h4,pu,hv,hl⟩:=Qd I hq;have hz:vs.length<=151:=(show zT X.prog X.w H s.heap a (.set vs) from I.hok a _ hq).1
   --the end:a new list
   have fin:∀{s2:Shared}{D:Addr}{out:Array Value}{e:Nat}{ws:List V},zR ws out.toList->ws.length<=1000->s2.heap.get? D=some (seqObj "list" out e)->s.heap.get? D=none->(∀b o,s.heap.get? b=some o->s2.heap.get? b=some o)->s2.gens=s.gens->s2.os=s.os->(∀q,H q=none->Q (.ref q) (upd H q (.lst ws)))->EP X zU Z Q (.ref D) s2:=λ{s2 D out e ws} rv hw hD hDn hk hg ho q=>by
    obtain⟨h2,g2,d2,t2,o2⟩:=s2;dsimp only at hD hk hg ho;subst hg ho;refine⟨.ref D,_,Inv.laidD (s:=s) (t':=t2) (d':=d2) (o:=.lst ws) I (λm x=>x.at' λo e=>hk _ o e) (λb u _ e=>hk b u e) hDn ?_,rfl,q D ?_⟩
    .exact⟨by rw[zp];lia,out.toList,e,rv,by rw[toArray_toList];exact hD⟩
    .cases e:H D with
     |none=>rfl
     |some u=>obtain⟨v,z⟩:=zT.there (I.hok D u e);rw[hDn]at z;cases z
   have none_of:∀{s1:Shared},(∀b o,s.heap.get? b=some o->s1.heap.get? b=some o)->s.heap.get? s1.heap.objs.size=none:=λ{s1} hx=>by
    cases q:s.heap.get? s1.heap.objs.size with
    |none=>rfl
    |some o=>exact absurd (ST.lt_of_get (hx _ _ q)) (lt_irrefl _)
   rcases h with⟨h2',q⟩|⟨ns,rfl,h64,q⟩|⟨zs,rfl,h64,q⟩|⟨ps,sh,rfl,h2',h64,hp,hne,q⟩
   .refine ST.sorted_set hh (Ep I hq) h1 h2 h3 h4 (by lia) λs1 ord hpm hx hg ho ht new=>?_;obtain⟨ws,pw,rw'⟩:=Om hv (hpm.map (·.2));have ew:ws=vs:=Ue (pw.trans pu) h2';subst ew;have hlo:(ord.map (·.2)).length<2:=by rw[<-rw'.length];exact h2'
    refine Nu new hlo ⟨_,rfl,?_⟩;obtain⟨e,he⟩:=ST.sortedHeap_at new (ord.map (·.2)).toArray;exact fin rw' (by lia) he (none_of hx) (λb o e=>ST.sortedHeap_old (ne_of_lt (ST.lt_of_get (hx b o e))) (qc _ (hx b o e)) _) hg ho q
   .obtain⟨ms,rfl,pm⟩:=GH pu;rw[qp]at hl;exact ST.sorted_set_ints hh (Ep I hq) h1 h2 h3 h4 (by lia) (IY hv) λs2 D out e ns' a1 a2 a3 hD hDn hk hg ho ht=>fin (DA a1) (by rw[qp,a2.length_eq,pm.length_eq];lia) hD hDn hk hg ho (q ns' (a2.trans pm) a3)
   .obtain⟨ms,rfl,pm⟩:=GH pu;rw[qp]at hl;exact ST.sorted_set_strs hh (Ep I hq) h1 h2 h3 h4 (by lia) (GM hv) λs2 D out e ns' a1 a2 a3 hD hDn hk hg ho ht=>fin (IG a1) (by rw[qp,a2.length_eq,pm.length_eq];lia) hD hDn hk hg ho (q ns' (a2.trans pm) a3)
   .rw[qp]at hl;refine ST.sorted_set hh (Ep I hq) h1 h2 h3 h4 (by lia) λs1 ord hpm hx hg ho ht new=>?_;obtain⟨ws,pw,rw'⟩:=Om hv (hpm.map (·.2));obtain⟨ps',rfl,pp⟩:=GH (pw.trans pu);have hv':=HM rw';rw[hv']at new⊢;obtain⟨m,F⟩:=I.fr;have N:News X.base X.env.locals s.heap (rest X.base X.env.locals s.heap):=λp hp=>zbV.mp hp;have keep:∀b o,s.heap.get? b=some o->(s1.heap.push (seqObj "list" (ps'.map λp=>Value.ref p.2).toArray 0)).get? b=some o:=λb o e=>qc _ (hx b o e);have hL:X.env.locals<s1.heap.objs.size:=by obtain⟨o',_,_,e',_⟩:=F.ns;exact ST.lt_of_get (hx _ _ e')
    have hDn:=none_of hx;have hb0:X.base.get? s1.heap.objs.size=none:=by
     cases q:X.base.get? s1.heap.objs.size with
     |none=>rfl
     |some o=>rw[F.keep _ _ q]at hDn;cases hDn
    have hlt:∀p∈rest X.base X.env.locals s.heap,p.1<s1.heap.objs.size:=λp hp=>ST.lt_of_get (hx _ _ (N p hp).1);have tl:∀{h':Heap}{d o news},News X.base X.env.locals h' ((d,o)::news)->News X.base X.env.locals h' news:=λN p hp=>N p (qm _ hp);refine W.kat_list_sort (s:={s1 with heap:=s1.heap.push (seqObj "list" (ps'.map λp=>Value.ref p.2).toArray 0)}) (news:=rest X.base X.env.locals s.heap) (F.kept keep) (N.grown keep) new (ne_of_gt hL) hb0 (λp hp=>ne_of_lt (hlt p hp)) (by rw[qp,pp.length_eq];exact h2') (by rw[qp,pp.length_eq];exact h64) λe1 h' F' N'=>?_;refine NG (s:={s1 with heap:=h'}) F' N' hlt (λp hp'=>⟨My I (GK F F' (tl N')) (hp p (pp.mem_iff.mp hp')).1,(hp p (pp.mem_iff.mp hp')).2⟩) hne (by rw[pp.length_eq];exact h2') λqs pq pw' h3 c F3 N3=>⟨_,rfl,?_⟩
    obtain⟨hh1,g1,d1,t1,o1⟩:=s1;dsimp only at hg ho;subst hg ho;refine⟨.ref _,_,Inv.laidD (s:=s) (t':=t1) (d':=d1) (o:=.lst (qs.map λp=>V.ref p.2)) I (λm' x=>by rw[Lz x F.ns];exact F3.ns) (GK F F3 (tl N3)) hDn ?_,rfl,q qs (pq.trans pp) pw' _ ?_⟩
    .exact⟨by rw[qp,pq.length_eq,pp.length_eq,zp];lia,_,c,Ie qs,(N3 (_,_) qo).1⟩
    .cases e:H hh1.objs.size with
     |none=>rfl
     |some u=>obtain⟨v,z⟩:=zT.there (I.hok _ u e);rw[hDn]at z;cases z
def Og(h:l.length<2):gG l=l:=by
 match l,h with
 |[],_=>rfl
 |[_],_=>rfl
def ML:∀{sh:List Bool}{l:List D},hV sh l->l.all dM=true
 |[],[],_=>rfl
 |[],_::_,h=>h.elim
 |t::_,[],h=>by cases t<;>exact h.elim
 |t::sh,a::l,h=>by rw[all_cons];cases t<;>cases a<;>first|exact h.elim|exact ML (sh:=sh) (l:=l) h
def Wq:dH K (mU K) dN:=by
 intro Z U F G H vs ds s Q zW re e hq;obtain⟨d,v,rfl,rfl⟩:=kX (λx y r=>by cases x<;>rfl) rfl re e;have main:∀{a:Addr}{xs:List V}{l:List D},(bR K H a xs\/H a=some (.set xs))->zS K F xs l->cG l=some s->mU K [.ref a] H Q:=λ{a xs l} hq' r e=>by
  unfold cG at e;split at e
  .rename_i hc;cases e;refine⟨a,xs,rfl,hq',?_⟩;obtain⟨h64,hc⟩:=hc;have zX:=r.len;rcases hc with h2|hi|hs|⟨sh,hne,hsh⟩
   .refine .inl ⟨by lia,λq hn=>?_⟩;rw[Og h2]at hq;exact hq _ F _ (zH.refl F) (zW.newLD hn r)
   .obtain⟨ns,q1⟩:=isSome_iff_exists.mp hi;obtain⟨e1,e2⟩:=SU r q1;subst e1 e2;refine .inr (.inl ⟨ns,rfl,by rwa[qp]at h64,λns' p pw q hn=>?_⟩);rw[Du MF (m:=ns'.map D.int) (λd hd=>by obtain⟨z,_,rfl⟩:=qL.mp hd;trivial) (p.map _) (pairwise_map.mpr (pw.imp λ{a b} h=>by rw[Ei];exact qS h))]at hq;exact hq _ F _ (zH.refl F) (zW.newLD hn (IE ns'))
   .obtain⟨ys,q2⟩:=isSome_iff_exists.mp hs;obtain⟨zs,e1,e2⟩:=MH r q2;subst e1;obtain⟨e3,sm⟩:=OH r rfl;subst e3;refine .inr (.inr (.inl ⟨zs,rfl,by rwa[qp]at h64,λzs' p pw q hn=>?_⟩));rw[Du HW (m:=zs'.map λz=>D.str z.cps.toList) (λd hd=>by obtain⟨z,_,rfl⟩:=qL.mp hd;trivial) (p.map _) (VZ zs' pw)]at hq;exact hq _ F _ (zH.refl F) (zW.newLD hn (Ou zs' λz hz=>sm z (p.mem_iff.mp hz)))
   .by_cases h2:l.length<2
    .refine .inl ⟨by lia,λq hn=>?_⟩;rw[Og h2]at hq;exact hq _ F _ (zH.refl F) (zW.newLD hn r)
    .have hall:l.all (aH true)=true:=qJ.mpr λd hd=>by have:=hsh d hd;cases d<;>first|exact this.elim|exact ML this
     obtain⟨ps,rfl,rfl,hf⟩:=GE r hall;rw[qp]at h64 h2;refine .inr (.inr (.inr ⟨ps,sh,rfl,by lia,h64,λp hp=>⟨zW.fr _ _ (hf p hp),hsh (tK p) (qL.mpr ⟨p,hp,rfl⟩)⟩,hne,λqs pq pw q hn=>?_⟩));rw[Du (DW sh) hsh (pq.map tK) pw]at hq;exact hq _ F _ (zH.refl F) (zW.newLD hn (zS.of_all λi hi=>zS.to_all r i (pq.mem_iff.mp hi)))
  .cases e
 cases d with
 |lst l=>obtain⟨a,xs,rfl,h1,r1⟩:=re.1.lst zW.fr;exact main (.inl h1) r1 e
 |set l=>obtain⟨a,xs,rfl,h1,r1⟩:=bG.set re.1;exact main (.inr (zW.fr _ _ h1)) r1 e
 |_=>cases e
def Dw(hr:bI k X.A)(hg:Gl X "sorted")(hm:X.mg "sorted"=none)(hv:bootBuiltins "sorted"=some (.builtin "sorted"))(ha:FA X (e::es) wa)(he:starEach (e::es) X.env=(false,eval e X.env)::starEach es X.env:=by rfl)(hpl:(backTo pos (starEach es X.env)).any (·.1)=false:=by rfl):FE X (.Call (.Name "sorted" p) (e::es) [] pos) (wB dN wa):=
 GG (λpn xe=>Ws (X:=wp X pn xe) hr.hd) Wq hg hm hv ha (by decide) (by decide) he hpl
end
def Uk{K:Type}[DecidableEq K]{knd:KeyKind prog w K}{d:Addr}{zV:List (K×Value)}{k:K}{key v:Value}{Q:zw}(hkey:knd.is k key=true)(hm:s.heap.DictOf knd d zV)(hno:valueAt zV k=none)(hsz:zV.length<=sizeLine)
  (hQ:∀h',h'.DictOf knd d (stored zV k v)->Heap.SameBut d s.heap h'->Q v {s with heap:=h',toks:=s.toks+1}):wpAny (model prog w) A (dictSetDefault d key v) Q E s:=by
 obtain⟨o,es,ep,ho,hc,hd,hk,hp,hn⟩:=hm;have hes:es.size<=sizeLine:=by have e1:=hp.length;rw[qW]at e1;lia
 have hno':∀kv∈zV,¬kv.1=k:=λkv hkv e=>by unfold valueAt at hno;rw[Option.map_eq_none_iff,List.find?_eq_none]at hno;exact hno kv hkv (qS e)
 have hany:¬(zV.any λkv=>decide (kv.1=k))=true:=λz=>by obtain⟨kv,h1,h2⟩:=any_eq_true.mp z;exact hno' kv h1 (qV h2)
 have hidx:(es.findIdx? λe=>knd.is k e.key)=none:=by
  have h1:(es.findIdx? λe=>knd.is k e.key)=zV.findIdx? λkv=>decide (kv.1=k):=by rw[<-hp.findIdx k];obtain⟨l⟩:=es;simp
  rw[h1,List.findIdx?_eq_none_iff];exact λkv h=>qT (hno' kv h)
 unfold dictSetDefault;refine zt (qa (knd.pyHash hkey (qa (wpAny_dictFind_of (s:={s with toks:=s.toks+1}) hkey ho hd hk ?_))));rw[hidx];refine qa (wpAny_rule (qa (wpAny_updateDictKeys (hz:=hes) (s:={s with toks:=s.toks+1}) ho hd (qb (hQ _ ⟨_,_,ep+1,zj _ ho (Obj.isFreed_of_dict (Obj.data_mapDictKeys hd _)),
  hc.mapDictKeys _,Obj.data_mapDictKeys hd _,hk.push hkey _,?_,?_⟩ (Heap.SameBut.update ..))))))
 .rw[stored,q9 hany];have:=hp.append hkey (knd.hash k) v;obtain⟨l⟩:=es;simpa using this
 .rw[stored,q9 hany,map_append];exact qy.mpr ⟨hn,by simp,λa ha b hb e=>by
   obtain⟨kv,h1,h2⟩:=qL.mp ha;have h3:b=k:=by simpa using hb
   exact hno' kv h1 (h2.trans (e.trans h3))⟩
def Mh{K:Type}[DecidableEq K]{knd:HeapKind prog w K}{d a:Addr}{xs:List (K×Addr×Value)}{k:K}{v:Value}{Q:zw}(hu:knd.room A)(hkey:knd.is s.heap k a)(hm:s.heap.DictOfH knd d xs)(hsz:xs.length<=sizeLine)
  (h1:∀p,atKey xs k=some p->Q p.2 {s with toks:=s.toks+knd.draws k})
  (h2:atKey xs k=none->∀h',h'.DictOfH knd d (storedH xs k a v)->Heap.SameBut d s.heap h'->Q v {s with heap:=h',toks:=s.toks+knd.draws k}):wpAny (model prog w) A (dictSetDefault d (.ref a) v) Q E s:=by
 obtain⟨o,es,ep,ho,hc,hd,he,his,hn⟩:=hm;unfold dictSetDefault;refine zt (qa (knd.pyHash hu hkey (qa (wpAny_dictFind_heap (s:={s with toks:=s.toks+knd.draws k}) hu hkey ho hd he his hn (λhno=>?_) λj p hj=>?_))))
 .have hnot:k∉xs.map (·.1):=not_mem_keys_of_get hno;refine qa (wpAny_rule (qa (wpAny_updateDictKeys (hz:=by have e:=size_of_entries he;lia) (s:={s with toks:=s.toks+knd.draws k}) ho hd (qb (h2 (atKey_none_of_get hno) _ ⟨_,_,ep+1,zj _ ho (Obj.isFreed_of_dict (Obj.data_mapDictKeys hd _)),
   hc.mapDictKeys _,Obj.data_mapDictKeys hd _,?_,?_,?_⟩ (Heap.SameBut.update ..))))))
  .rw[storedH_new (atKey_none_of_get hno)];simp[he,entryOfKey]
  .rw[storedH_new (atKey_none_of_get hno)];intro x hx;rcases qz.mp hx with z|z
   .exact knd.keeps (his x z) ho hd (Heap.SameBut.update ..)
   .rw[qv.mp z];exact knd.keeps hkey ho hd (Heap.SameBut.update ..)
  .rw[storedH_new (atKey_none_of_get hno),map_append];exact qy.mpr ⟨hn,by simp,λx hx y hy e=>by
    have h3:y=k:=by simpa using hy
    exact hnot (h3▸e▸hx)⟩
 .refine qa (wpAny_dictEntries (s:={s with toks:=s.toks+knd.draws k}) ho hd ?_);rw[entry_at he j,hj];exact qa (wpAny_rule (qb (h1 p (atKey_of_get hn hj))))
def Gy(hT:s.TypeIs (.ref d) "dict")(hd:(d==sysModules)=false)(h:wpAny (model prog w) A.in1 (dictSetDefault d u r) Q E s):wpAny (model prog w) A (call (.builtin "dict.setdefault") [.ref d,u,r]) Q E s:=by refine zo PySem.F.slot_dict_setdefault hT PySem.F.entry_dict_setdefault ?_ (PySem.F.args_dict_setdefault_3 _ _ _);unfold Builtin.«dict.setdefault» Builtin.Dict.keyAndDefault;refine qa (qa (wpAny_notOrdered_dict hT ?_));show wpAny _ _ (pure (d,u,some r)) _ _ s;refine qb ?_;show wpAny _ _ (if(d==sysModules)=true then _ else(dictSetDefault d u r>>=_)) _ _ s;rw[q9 (by rw[hd];exact qY)];exact qa (zv h (λv s' q=>qb ⟨v,rfl,q⟩) λ_ _ z=>z)
def Dn(H:Hp)(a:Addr)(y d:V)(v:V)(H':Hp):Prop:=(jH H a y (some v)/\H'=H)\/(jH H a y none/\v=d/\nS H a y d H')
def KW(hu:A.units+1<cLine)(I:Inv X zU Z H s)(g:Dn H a y d v H')(ry:zL y u)(rd:zL d r)(h:∀w' s',Inv X zU Z H' s'->zL v w'->Q w' s'):
  wpAny (model X.prog X.w) A (call (.builtin "dict.setdefault") [.ref a,u,r]) Q E s:=by
 rcases g with⟨⟨zV,k,e,ey,l⟩|⟨zV,k,b,e,ey,eb,l⟩,rfl⟩|⟨g,rfl,⟨zV,k,e,ey,hl,eH⟩|⟨zV,k,b,e,ey,eb,hl,eH⟩⟩
 .subst ey;obtain⟨z,hd,vs,zW,dd⟩:=DQ I.hok e;obtain⟨w',hw,rw'⟩:=fU.some_of (v:=v) (o:=valueAt vs k) (by rw[l];exact zW.val k);refine Gy dd.typeIs hd (wpAny_dictSetDefault_of (wF ry) dd.mapOf (λv' hv=>?_) (λhn=>absurd (hn.symm.trans hw) (λz=>nomatch z)) (λo es ep h1 h2=>?_))
  .rw[hw]at hv;cases hv;exact h _ _ (I.tok _) rw'
  .obtain⟨o',es',ep',g1,_,g2,_,g3,_⟩:=dd;rw[g1]at h1;cases h1;rw[g2]at h2;cases h2;have e1:=g3.length;have e2:=zW.length;rw[qW]at e1;lia
 .subst ey;cases(show u=Value.ref b from ry);obtain⟨z,hd,xs,zW,dd⟩:=Do I.hok e;obtain⟨w',hw,rw'⟩:=fU.some_of (v:=v) (o:=(atKey xs k).map (·.2)) (by rw[l];exact zW.val k);refine Gy dd.typeIs hd (Mh (tupleKind_room_in1 hu) (rY I.hok eb) dd (by rw[<-Paired.length zW];exact z) (λp hp=>?_) λhn=>?_)
  .rw[hp]at hw;cases hw;exact h _ _ (I.tok _) rw'
  .rw[hn]at hw;cases hw
 .subst ey eH;obtain⟨z,hd,vs,zW,dd⟩:=Hz I.hok e;have hno:valueAt vs k=none:=by
   rcases g with⟨kvs',k',e',ey',l'⟩|⟨_,_,_,_,ey',_⟩
   .have ek:=Ea ey';subst ek;rcases e' with e'|⟨o',e'⟩
    .rw[e]at e';cases e';have:=zW.val k;rw[<-l']at this;cases q:valueAt vs k with
     |none=>rfl
     |some x=>rw[q]at this;exact this.elim
    .rw[e]at e';cases e'
   .cases k<;>cases ey'
  refine Gy dd.typeIs hd (Uk (wF ry) dd hno (by rw[<-zW.length];exact z) λh' dd' hs=>h _ _ ?_ rd);exact Aq I (by rw[e];exact True.intro) hs (let⟨q,_,_,hq,_⟩:=dd';⟨q,hq⟩) (HA (by have:=DB zV k v;lia) hd (zW.put k rd) dd')
 .subst ey eH;cases(show u=Value.ref b from ry);obtain⟨z,hd,xs,zW,dd⟩:=Hx I.hok e;have hno:∀p,atKey xs k=some p->False:=λp hp=>by
   rcases g with⟨_,k',_,ey',_⟩|⟨kvs',k',b',e',ey',eb',l'⟩
   .cases k'<;>cases ey'
   .cases ey';rw[eb]at eb';have ek:k=k':=Ej (by injection eb' with eb';injection eb');subst ek;rcases e' with e'|⟨o',e'⟩
    .rw[e]at e';cases e';have:=zW.val k;rw[<-l',hp]at this;exact this
    .rw[e]at e';cases e'
  refine Gy dd.typeIs hd (Mh (tupleKind_room_in1 hu) (rY I.hok eb) dd (by rw[<-Paired.length zW];exact z) (λp hp=>(hno p hp).elim) λ_ h' dd' hs=>h _ _ ?_ rd);obtain⟨q,es,ep,hq,h2,h3,h4,_,h5⟩:=dd';refine Aq I (by rw[e];exact True.intro) hs ⟨q,hq⟩ ⟨by have:=DB zV k v;lia,hd,_,(zW.put k eb rd).keeps λc ys ec=>?_,q,es,ep,hq,h2,h3,h4,h5⟩;rw[bJ (Gp ec e (λz=>nomatch z))];exact ec
def EH(td ty tx:TE):TE:=λZ H Q=>td Z H λx H1=>∃a,x=.ref a/\Gh H1 a/\ty Z H1 λy H2=>tx Z H2 λz H3=>∃v H4,Dn H3 a y z v H4/\Q v H4
def SK(hu:X.A.units+1<cLine)(ho:PE X o td)(he:PE X e ty)(hf:PE X f tx)(m:M2 X o "setdefault" apos e f cpos):PE X (.Call (.Attribute o "setdefault" apos) [e,f] [] cpos) (EH td ty tx):=by
 intro zU s Z H Q I h;refine wpAny_Call_method m.base m.few m.line PySem.F.plainAttrs_dict PySem.F.slot_dict_setdefault PySem.F.type_dict_setdefault (bK (ho zU s Z H _ I h) λu s1 zq=>?_);obtain⟨x,H1,I1,rx,a,ex,d,q1⟩:=zq;subst ex;obtain rfl:u=Value.ref a:=rx;obtain⟨t1,t2,_⟩:=LF I1 d;refine⟨t1,t2,?_⟩;rw[m.trees];refine Calls.callWith_builtin rfl (Calls.evalArgs_plain (Calls.spliced_cons (bK (he zU s1 Z H1 _ I1 q1) λiv s2⟨y,H2,I2,ry,q2⟩=>Calls.spliced_cons (bK (hf zU s2 Z H2 _ I2 q2) λfv s3⟨z,H3,I3,rz,v,H4,g,q3⟩=>Calls.spliced_nil ?_))))
 exact KW hu I3 g ry rz λw' s4 I4 rw'=>⟨_,H4,I4,rw',q3⟩
section
variable{K:W.Frag}
def Ti:iU (x::l) k=(open Classical in if x=k then some 0 else(iU l k).map (·+1)):=by grind[iU,List.findIdx]
def Im{κ:Type}[DecidableEq κ]{g:κ->D}(hg:∀a b,g a=g b->a=b):∀(zV:List (κ×V))(k:κ),dW zV k=(iU (zV.map λp=>g p.1) (g k)).bind λm=>(zV.map (·.2))[m]?
 |[],k=>rfl
 |p::r,k=>by
  rw[qA,Ti];by_cases e:p.1=k
  .rw[Dt e,q8 (by rw[e])];rfl
  .rw[Ds e,q9 λz=>e (hg _ _ z),Im hg r k];cases iU (r.map λp=>g p.1) (g k)with
   |none=>rfl
   |some m=>rfl
def mG.get{a:Addr}{o:HO}{t:Bool}{ks:List D}{xs:List V}{y:V}{q:D}(d:mG ks xs t o)(e:H a=some o)(r:aN K H y q)(hk:aH t q=true):jH H a y ((iU ks q).bind λm=>xs[m]?):=by
 cases d with
 |@k zV h1 h2=>subst h1 h2;obtain⟨key,rfl,rfl⟩:=Dx r hk;exact .inl ⟨zV,key,.inl e,rfl,(Im (λ_ _=>wI) zV key).symm⟩
 |@t zV h1 h2=>
  subst h1 h2;cases r with
  |tup e1 q=>obtain⟨keys,rfl,rfl⟩:=Ar q hk;exact .inr ⟨zV,keys,_,.inl e,rfl,e1,(Im (g:=λl:List aQ=>D.tup (l.map aL)) (λa b z=>DC (D.tup.inj z)) zV keys).symm⟩
  |_=>cases hk
def Rel.sdefR{p D:Addr}(r:Rel K (U++[some (.lst [])]) (Z++[some (.ref p)]) F G H)(hs:slot U n=some (.dct t ks l))(hZ:Z[n]?=some (some (.ref D)))(ry:aN K H y q)(hk:aH t q=true)(hn:ks.Nodup)(hb:ks.length<big):
  ∃v H',Dn H D y (.ref p) v H'/\Rel K (U.set n (some (.dct t (bA ks l q).1 (bA ks l q).2.1))) Z F G H'/\∃o xs,H' D=some o/\mG (bA ks l q).1 xs t o/\xs[(bA ks l q).2.2]?=some v:=by
 have rd:=r.drop (aS r);obtain⟨v',fp,e1,sr⟩:=rd.at hs;rw[hZ]at e1;have e2:V.ref D=v':=by simpa using e1
 subst e2;obtain⟨a',o,xs,fl,z1,_,hD,ho,rl⟩:=Bc sr;cases z1;have zX:=ho.len;have hget:=ho.get hD ry hk;cases qf:iU ks q with
 |some m=>
  have es:bA ks l q=(ks,l,m):=by unfold bA;rw[qf]
  have hml:m<xs.length:=by have:=(qh.mp (IA qf)).1;lia
  rw[qf]at hget;have hget:jH H D y xs[m]?:=hget;rw[qi hml]at hget;rw[es];exact⟨xs[m],H,.inl ⟨hget,rfl⟩,by rw[Nn hs];exact rd,o,xs,hD,ho,qi hml⟩
 |none=>
  have es:bA ks l q=(ks++[q],l++[.lst []],ks.length):=by unfold bA;rw[qf]
  rw[qf]at hget;obtain⟨o',dp,h1,h2⟩:=ho.put (v:=.ref p) hD ry hk hn (by rw[zp];exact lt_trans hb (by decide));rw[es];refine⟨.ref p,_,.inr ⟨hget,rfl,dp⟩,r.dct hs hZ hD ho (h2 qf) λH' fl fs rl sr=>⟨fl++fs,[],zK.snoc rl sr,by simp⟩,o',_,gC,h2 qf,?_⟩;rw[zX,getElem?_append_right (zc _),sub_self];rfl
def Rel.appendAtD{D b:Addr}(r:Rel K (U++[some t,some (.dct tb ks l)]) (Z++[some v,some (.ref D)]) F G H)(h:U.length=Z.length)(hm:l[m]?=some (.lst l'))
  (hD:H D=some o)(ho:mG ks xs tb o)(hb:xs[m]?=some (.ref b))(hy:H b=some (.lst ys)):
  ys.length=l'.length/\Rel K (U++[some (.dct tb ks (l.set m (.lst (l'++[t]))))]) (Z++[some (.ref D)]) F G (upd H b (.lst (ys++[v]))):=by
 obtain⟨fp,e,nd,ap⟩:=r.en;obtain⟨f1,f2,rfl,a,c⟩:=e.cut h;cases c with
 |@so _ _ _ _ ft f3 st c=>
 cases c with
 |@so _ _ _ _ fD fn sd nl=>
 cases nl;obtain⟨a',o2,xs',fl,z1,rfl,hD',ho',rl⟩:=Bc sd;cases z1;rw[hD]at hD';cases hD';have ex:xs'=xs:=by
  cases ho with
  |k _ z=>cases ho' with|k _ z'=>rw[z,z']
  |t _ z=>cases ho' with|t _ z'=>rw[z,z']
 subst ex;obtain⟨x,fa,fi,fb,hx,sx,rfl,up⟩:=rl.at hm;rw[hb]at hx;cases hx;cases sx with
 |@lst _ ys' _ fy hy' ry=>
 rw[hy]at hy';cases hy';refine⟨ry.len,?_⟩;have hp:(f1++(ft++(D::(fa++(b::fy++fb))++[]))).Perm (b::(f1++(ft++(D::(fa++(fy++fb)))))):=by simp only[qB,qP];have h1:(fa++b::(fy++fb)).Perm (b::(fa++(fy++fb))):=perm_middle;refine((h1.cons D).append_left (f1++ft)|>.trans ?_|>λz=>(by simpa using z));have h2:(D::b::(fa++(fy++fb))).Perm (b::D::(fa++(fy++fb))):=List.Perm.swap ..;refine(h2.append_left (f1++ft)).trans ?_;exact perm_middle.trans (by rw[qq])
 have nd':=hp.nodup_iff.mp nd;obtain⟨nb,_⟩:=qM.mp nd';have ne:∀{w:List Addr},(∀x∈w,x∈f1++(ft++(D::(fa++(fy++fb)))))->∀x∈w,upd H b (.lst (ys++[v])) x=H x:=λhw x hx=>bJ λz=>nb (z▸hw x hx);have apb:=ap b (hp.mem_iff.mpr qo);have new:aM K F (upd H b (.lst (ys++[v]))) (.ref b) (.lst (l'++[t])) (b::(fy++ft)):=.lst gC (zK.snoc (ry.mono (zH.refl F) (ne λx hx=>by simp[hx])) (st.mono (zH.refl F) (ne λx hx=>by simp[hx])));have r2:=up (H':=upd H b (.lst (ys++[v]))) (ne λx hx=>by rcases qz.mp hx with z|z<;>simp[z]) new
 have e2:xs'.set m (.ref b)=xs':=by
  apply ext_getElem?;intro j;by_cases hj:m=j
  .subst hj;rw[getElem?_set_self (qh.mp hb).1,hb]
  .rw[getElem?_set_ne hj]
 rw[e2]at r2;have hDb:D≠b:=λz=>nb (by simp[z]);have top:aM K F (upd H b (.lst (ys++[v]))) (.ref D) (.dct tb ks (l.set m (.lst (l'++[t])))) (D::(fa++((b::(fy++ft))++fb))):=ho'.mk ((bJ hDb).trans hD) r2;have p:(f1++((D::(fa++((b::(fy++ft))++fb)))++[])).Perm (f1++(ft++(D::(fa++(b::fy++fb))++[]))):=by
  refine List.Perm.append_left _ ?_;simp only[qB,qP,qq];have h1:(fy++(ft++fb)).Perm (ft++(fy++fb)):=by rw[<-qq,<-qq];exact List.Perm.append_right _ qO
  have h2:(fa++b::(fy++(ft++fb))).Perm (ft++(fa++b::(fy++fb))):=by refine((h1.cons b).append_left fa).trans ?_;have h3:(b::(ft++(fy++fb))).Perm (ft++(b::(fy++fb))):=perm_middle.symm;refine(h3.append_left fa).trans ?_;rw[<-qq,<-qq];exact List.Perm.append_right _ qO
  refine(h2.cons D).trans ?_;exact perm_middle.symm
 refine⟨zH.updR r.fr apb.1,λx o w=>?_,_,(a.mono (zH.refl F) (ne λx hx=>by simp[hx])).app (.so top .nil),p.nodup_iff.mpr nd,λx hx=>ap x (p.mem_iff.mp hx)⟩;have hx:x≠b:=λz=>by rw[z,apb.2]at w;cases w
 rw[bJ hx];exact r.gr x o w
end
def set_set{U:Env}:(U.set n a).set n b=U.set n b:=List.set_set ..
def TY(h:slot U n=some s):slot (U.set n (some s')) n=some s':=by
 induction U generalizing n with
 |nil=>cases h
 |cons a U ih=>cases n with
  |zero=>rfl
  |succ n=>exact ih (by simpa using h)
def VA(hu:X.A.units+1<cLine)(ho:FE X o (zx j))(hi:FE X i wi)(he:FE X e we)(m2:M2 X o "setdefault" ap1 i (.List [] lp) cp1)
  (hbase:attributeBase (.Call (.Attribute o "setdefault" ap1) [i,.List [] lp] [] cp1) "append" X.env (eval (.Call (.Attribute o "setdefault" ap1) [i,.List [] lp] [] cp1) X.env)=eval (.Call (.Attribute o "setdefault" ap1) [i,.List [] lp] [] cp1) X.env:=by rfl)
  (hfew:((backTo cpos (starEach [e] X.env)).all (λx=>!x.1)&&(backToKw cpos (keywordEach [] X.env)).all (λx=>x.1.isSome)
   &&decide ([e].length+([]:List Keyword).length+(if([]:List Keyword).isEmpty then 0 else 1)<30))=true:=by rfl)
  (hline:(apos.endLine==cpos.line)=true:=by rfl)(hs:starEach [e] X.env=[(false,eval e X.env)]:=by rfl):FE X (.Call (.Attribute (.Call (.Attribute o "setdefault" ap1) [i,.List [] lp] [] cp1) "append" apos) [e] [] cpos) (fO j wi we):=λpn xe hp=>by
 refine PE.imp (DT (X:=wp X pn xe) PySem.F.plainAttrs_list PySem.F.slot_list_append PySem.F.type_list_append IK (SK (X:=wp X pn xe) hu (ho pn xe hp) (hi pn xe hp) (lG aI pn xe hp) ⟨m2.base,m2.few,m2.line,m2.trees⟩) (aB he aI hs pn xe hp) hbase hfew hline hs rfl) λZ H Q q=>?_;obtain⟨F,G,U,P,PX,zW,hw,hok,hx⟩:=q;unfold fO at hw;cases qs:slot U j with
 |none=>rw[qs]at hw;exact hw.elim
 |some s0=>
  cases s0 with
  |dct t0 ks0 l0=>
   rw[qs]at hw;dsimp only at hw;refine⟨F,G,U,λy U1=>y=.loc j/\U1=U,PX,zW,by unfold zx;rw[qs];exact⟨rfl,rfl⟩,λy U1 o' F1 H1 hk s1 r1 rv=>?_,hx⟩;obtain⟨rfl,rfl⟩:=hk;have l1:=aS r1;have hZ:Z[j]?=some (some o'):=rv;have r2:=r1.drop l1;have isd:∃D,o'=.ref D/\Gh H1 D:=by
    obtain⟨v',fp,e1,sr⟩:=r2.at qs;rw[hZ]at e1;have e2:o'=v':=by simpa using e1
    subst e2;obtain⟨a',o,xs,fl,z1,_,hD,hob,rl⟩:=Bc sr;subst z1;cases hob with
    |k _ _=>exact⟨a',rfl,.inl ⟨_,.inl hD⟩⟩
    |t _ _=>exact⟨a',rfl,.inr ⟨_,.inl hD⟩⟩
   obtain⟨D,rfl,isd⟩:=isd;refine⟨D,rfl,isd,?_⟩;refine⟨F1,G,U1,_,PX,r2,hw,λz U2 i' F2 H2 hk2 s2 r3 rv2=>?_,hx.grow s1⟩;have l2:=aS r3;split at hk2
   .rename_i q t ks l eq ql;obtain⟨hkey,hnd,hbig,hk2⟩:=hk2;split at hk2
    .rename_i l' el;obtain⟨G3,rel3,gg,back3⟩:=r3.hide l2;refine⟨F2,G3,U2,λw U3=>w=.v (.lst [])/\U3=U2,PX,rel3,⟨rfl,rfl⟩,λw U3 d' F3 H3 hk3 s3 r4 rv4=>?_,hx.mono (λ_ z=>z) (s1.trans s2) gg⟩;obtain⟨rfl,rfl⟩:=hk3;have r5:=back3 s3 r4;rw[qq,qq]at r5;have r6:Rel X.K (U3++[zI z,some (.lst [])]) (Z++[some i',some d']) F3 G H3:=Rel.swap (U1:=[some (.lst [])]) (Z1:=[some d']) (U2:=[zI z]) (Z2:=[some i']) l2 rfl r5;have ri:=dJ (U':=[some (.lst [])]) (Z':=[some d']) r6 l2 rv2 eq;have r7:Rel X.K (U3++[some (.lst [])]) (Z++[some d']) F3 G H3:=Rel.mid r6 l2;have hd':∃p,d'=.ref p:=by
      obtain⟨u,fp,e1,sr⟩:=r7.at (i:=U3.length) (s:=.lst []) Av;rw[l2,getElem?_append_right (zc _),sub_self]at e1;have e2:d'=u:=by simpa using e1
      subst e2;cases sr with
      |lst _ _=>exact⟨_,rfl⟩
     obtain⟨p,rfl⟩:=hd';obtain⟨v,H4,ds,r8,ob,xs,hD,hob,hv⟩:=Rel.sdefR r7 ql hZ ri hkey hnd hbig;have hql:=TY (s':=.dct t (bA ks l q).1 (bA ks l q).2.1) ql;have l8:(U3.set j (some (.dct t (bA ks l q).1 (bA ks l q).2.1))).length=Z.length:=by simpa using l2
     have r9:=Rel.lend (U':=[]) (Z':=[]) (r8.pushN (u:=some (.ref D))) l8 hql hZ;rw[set_set]at r9;have l5:(U3.set j none).length=Z.length:=by simpa using l2
     obtain⟨G2,fq,r10,gg2,sq,hG,back⟩:=r9.hide2 l5;obtain⟨a',o2,xs',fl,z1,efq,hD',hob',rl⟩:=Bc sq;cases z1;rw[hD]at hD';cases hD';have ex:xs'=xs:=by
      cases hob with
      |k _ z=>cases hob' with|k _ z'=>rw[z,z']
      |t _ z=>cases hob' with|t _ z'=>rw[z,z']
     subst ex;obtain⟨x,fa,fi,fb,hx1,sx,efl,_⟩:=rl.at el;rw[hv]at hx1;cases hx1;cases sx with
     |@lst b ys _ fy hy ry=>
     refine⟨_,H4,ds,.inl ⟨rfl,_,bR.of hy⟩,F3,G2,U3.set j none,λrs U4=>match rs with|[r]=>(zG (give r U4) λp=>l'.length<big/\P (.v (.sh .non)) (p.2.set j (some (.dct t (bA ks l q).1 ((bA ks l q).2.1.set (bA ks l q).2.2 (.lst (l'++[p.1])))))))|_=>False,PX,r10,hk2,λrs U4 vs F4 H5 hk s4 r11 hl rvs=>?_,hx.mono (λ_ z=>z) (s1.trans (s2.trans s3)) gg2⟩;match rs,vs,rvs,r11,hk with
     |[r],[v],rvs,r11,hk=>
      dsimp only at hk;obtain⟨⟨t',U5⟩,eg,hk⟩:=bL hk;have r12:=back s4 r11;simp only[qA,map_nil,qq,qP,nil_append]at r12;have l3:U4.length=Z.length:=hl;obtain⟨F5,s5,l4,r13⟩:=dF (U':=[some (.dct t (bA ks l q).1 (bA ks l q).2.1)]) (Z':=[some (.ref D)]) r12 l3 rvs.1 eg;have kept:∀c∈D::fl,H5 c=H4 c:=λc hc=>by obtain⟨o,h1,h2⟩:=hG c (efq▸hc);rw[(r11.gr c o h1).1.1,h2]
      have hb:b∈D::fl:=qm _ (by rw[efl];simp);obtain⟨zX,r14⟩:=Rel.appendAtD r13 (l4.trans l3) el ((kept D qo).trans hD) hob hv ((kept b hb).trans hy);have r15:=Rel.back1 (U':=[]) (Z':=[]) (i:=j) r14 (l4.trans l3) hZ;rw[qB,qB]at r15;exact⟨b,ys,v,rfl,rfl,(kept b hb).trans hy,by rw[zX,zp];exact lt_trans hk.1 (by decide),hok _ _ .non F5 _ hk.2 (s1.trans (s2.trans (s3.trans (s4.trans s5)))) (r15.push .non) trivial⟩
     |[],_,_,_,hk=>exact hk.elim
     |[_],[],rvs,_,_=>exact rvs.elim
     |[_],_::_::_,rvs,_,_=>exact rvs.2.elim
     |_::_::_,_,_,_,hk=>exact hk.elim
    .exact hk2.elim
   .exact hk2.elim
  |_=>rw[qs]at hw;exact hw.elim
end FL
namespace FL
def sV(j:Nat):WE:=λU Q _=>match slot U j with
 |some (.lst l)=>zG l[l.length-1]? λs=>Q (.v s) (U.set j (some (.lst l.dropLast)))
 |_=>False
def mS(k v:WE):WE:=λU Q E=>k U (λx U1=>v U1 (λy U2=>zG (view x U2) λq=>zG (give y U2) λp=>aH true q=true/\Q (.v (.dct true [q] [p.1])) p.2) E) E
def yW:D->Bool
 |.tup l=>(fG l).isSome
 |_=>false
def kU:List D->Option S
 |[.dct true ks _]=>if ks.length<=big/\ks.all yW=true then some (.lst (ks.map .sh))else none
 |_=>none
def kW:List D->Option S
 |[.lst [.tup [k,v]]]=>if aH true k=true then some (.dct true [k] [.sh v])else none
 |_=>none
end FL
namespace FL
open PySem PySem.Spec PyProof.Rows L2
def LL{j:Nat}{o:Expr}{apos cpos:Pos}(ho:FE X o (zx j))(hbase:attributeBase o "pop" X.env (eval o X.env)=eval o X.env:=by rfl)(hline:(apos.endLine==cpos.line)=true:=by rfl):
  FE X (.Call (.Attribute o "pop" apos) [] [] cpos) (sV j):=λpn xe hp=>by
 refine PE.imp (Rg (X:=wp X pn xe) PySem.F.plainAttrs_list PySem.F.slot_list_pop PySem.F.type_list_pop Ra (ho pn xe hp) hbase hline) λZ H Q q=>?_;obtain⟨F,G,U,P,PX,zW,hw,hok,hx⟩:=q;have hw':(match slot U j with
  |some (.lst l)=>zG l[l.length-1]? λs=>P (.v s) (U.set j (some (.lst l.dropLast)))
  |_=>False):=hw
 cases qs:slot U j with
 |none=>rw[qs]at hw';exact hw'.elim
 |some s0=>
  cases s0 with
  |lst l0=>
   rw[qs]at hw';obtain⟨s,es,hk⟩:=bL hw';refine⟨F,G,U,λy U1=>y=.loc j/\U1=U,PX,zW,by unfold zx;rw[qs];exact⟨rfl,rfl⟩,λy U1 o' F1 H1 hk1 s1 r1 rv=>?_,hx⟩;obtain⟨rfl,rfl⟩:=hk1;have l1:=aS r1;have hZ:Z[j]?=some (some o'):=rv;have r2:=r1.drop l1;obtain⟨v',fp,e1,sr⟩:=r2.at qs;rw[hZ]at e1;have e2:o'=v':=by simpa using e1
   subst e2;cases sr with
   |lst hD rl=>rename_i a xs fl;obtain⟨ys,y,hD2,zX,hy,r5⟩:=Rel.popItem r2 qs hZ es;rw[hD]at hD2;cases hD2;rw[Jd,<-zX,Jd]at r5;exact⟨.inl ⟨rfl,_,bR.of hD⟩,a,xs,y,rfl,rfl,hD,by rw[zX];exact hy,hok _ _ y F1 _ hk s1 r5 trivial⟩
  |_=>rw[qs]at hw';exact hw'.elim
def Ts{k v:Expr}{pos:Pos}{Q:zw}
  (h:wpAny (model prog w) A (eval k env) (λkv s1=>wpAny (model prog w) A (eval v env) (λvv s2=>wpAny (model prog w) A (dictSet s.heap.objs.size kv vv) (λ_ s3=>Q (.ref s.heap.objs.size) s3) E s2) E s1) E
   {s with heap:=s.heap.push {cls:=.type "dict",data:=.dict #[]}}):wpAny (model prog w) A (eval (.Dict [some k] [v] pos) env) Q E s:=by
 rw[arm_eval_Dict,zip_pairTrees [some k] [v] env pos rfl rfl,dictDisplay_pairs (pairTrees [some k] [v] env pos) (by intro z;cases z) (by show 1<17;decide)];refine qa (wpAny_standAt (qa ?_));unfold subDict;refine qa (wpAny_alloc (qa (zt ?_)));rw[q8 (by show 1<=15;decide)];refine qa (pairTrees_cons_walk (zv h (λkv s1 h1=>zv h1 (λvv s2 h2=>pairTrees_nil_walk ?_) λ_ _ e=>e) λ_ _ e=>e));refine zt ?_;refine qa ?_;rw[forIn_cons];refine qa (qa (zv h2 (λ_ s3 h3=>?_) λ_ _ e=>e));refine qb ?_;simp only[forIn_nil];exact qb (qb (qb (qb h3)))
def BF(tk tv:TE):TE:=λZ H Q=>∀p,H p=none->tk Z (upd H p (.dT [])) λx H1=>tv Z H1 λy H2=>∃H3,nS H2 p x y H3/\Q (.ref p) H3
def TX{k v:Expr}{tk tv:TE}(hu:X.A.units<cLine)(hk:PE X k tk)(hv:PE X v tv):PE X (.Dict [some k] [v] pos) (BF tk tv):=by intro zU s Z H Q I q;have hn:=I.hok.fresh (zc s.heap.objs.size);have I1:=I.laid (a:=s.heap.objs.size) (o:=.dT []) (h':=s.heap.push {cls:=.type "dict",data:=.dict #[]}) (t':=s.toks) (λ_ _ q=>qc _ q) (zc _) (Vh s.heap I.big);exact Ts (zv (hk zU _ Z _ _ I1 (q _ hn)) (λkv s1⟨x,H1,I2,rv,q1⟩=>zv (hv zU s1 Z H1 _ I2 q1) (λvv s2⟨y,H2,I3,ru,H3,dp,q2⟩=>VG hu I3 dp rv ru λs' I'=>⟨.ref _,H3,I',rfl,q2⟩) λ_ _ e=>e) λ_ _ e=>e)
def Vp{k v:Expr}{wk wv:WE}(hu:X.A.units<cLine)(hk:FE X k wk)(hv:FE X v wv):FE X (.Dict [some k] [v] pos) (mS wk wv):=λpn xe hp=>by
 refine PE.imp (TX (X:=wp X pn xe) hu (hk pn xe hp) (hv pn xe hp)) λZ H Q q=>?_;obtain⟨F,G,U,P,PX,zW,hw,hok,hx⟩:=q;intro p hp;have r0:=Rel.newO (s:=.dct true [] []) zW hp (.dT (zV:=[]) gC rfl .nil);obtain⟨G0,rel0,g0,back0⟩:=r0.hide (aS r0);refine⟨F,G0,U,_,PX,rel0,hw,λrx U1 vx F1 H1 hk1 s1 r1 rv1=>?_,hx.mono (λ_ z=>z) (zH.refl F) g0⟩;have l1:=aS r1;obtain⟨G1,rel1,g1,back1⟩:=r1.hide l1;refine⟨F1,G1,U1,_,PX,rel1,hk1,λry U2 vy F2 H2 hk2 s2 r2 rv2=>?_,hx.mono (λ_ z=>z) s1 (g0.trans g1)⟩;have l2:=aS r2;obtain⟨q,eq,hk3⟩:=bL hk2;obtain⟨⟨t,U3⟩,eg,hkey,hk4⟩:=bL hk3;have r3:=back0 (s1.trans s2) (back1 s2 r2);simp only[qq,qP,nil_append]at r3;obtain⟨F3,s3,l3,r4⟩:=dF (U':=[zI rx,some (.dct true [] [])]) (Z':=[some vx,some (.ref p)]) r3 l2 rv2 eg;have r3':Rel X.K (U2++zI rx::[some (.dct true [] [])]) (Z++some vx::[some (.ref p)]) F2 G H2:=r3.mid l2;have rq:=dJ (U':=[some (.dct true [] [])]) (Z':=[some (.ref p)]) r3' l2 rv1 eq;have l3':U3.length=Z.length:=l3.trans l2;have r5:Rel X.K (U3++[some t,some (.dct true [] [])]) (Z++[some vy,some (.ref p)]) F3 G H2:=by have:=Rel.mid (U:=U3++[some t]) (Z:=Z++[some vy]) (U':=[some (.dct true [] [])]) (Z':=[some (.ref p)]) (o:=zI rx) (w:=some vx) (by simpa using r4) (by simp[l3']);simpa using this
 have r6:=Rel.swap (U1:=[some t]) (Z1:=[some vy]) (U2:=[some (.dct true [] [])]) (Z2:=[some (.ref p)]) l3' rfl r5;have r7:Rel X.K ((U3++[some (.dct true [] [])])++[some t]) ((Z++[some (.ref p)])++[some vy]) F3 G H2:=by simpa using r6
 have hs7:slot (U3++[some (.dct true [] [])]) U3.length=some (.dct true [] []):=Av (U':=[]);have hZ7:(Z++[some (V.ref p)])[U3.length]?=some (some (.ref p)):=by rw[l3'];simp
 obtain⟨H',dp,r8⟩:=Rel.dput r7 hs7 hZ7 rq hkey .nil (by decide);have e9:(U3++[some (S.dct true [] [])]).set U3.length (some (eF true [] [] q t))=U3++[some (.dct true [q] [t])]:=Je (U':=[]);rw[e9]at r8;exact⟨H',dp,hok _ U3 _ F3 _ hk4 (s1.trans (s2.trans s3)) r8 trivial⟩
section
variable{K:W.Frag}
def Rel.growT(r:Rel K U Z F G H)(bs:List Addr)(hb:∀b∈bs,∃xs,H b=some (.tup xs)):∃F',zH F F'/\Rel K U Z F' G H/\∀b∈bs,F' b=H b:=by
 obtain⟨fp,e,nd,ap⟩:=r.en;have sm:zH F λa=>(F a).or (if a∈bs then H a else none):=λa o q=>by simp only[q,some_or]
 have key:∀{a o},H a=some o->fC o=true->F a=none->(F a).or (if a∈bs then H a else none)=none:=λ{a o} h1 h2 h3=>by rw[h3,none_or,q9];intro z;obtain⟨xs,q⟩:=hb a z;rw[h1]at q;cases q;cases h2
 refine⟨_,sm,⟨λa o q=>?_,λa o q=>?_,fp,e.mono sm λ_ _=>rfl,nd,λa ha=>?_⟩,λb hb'=>?_⟩
 .cases qf:F a with
  |some u=>rw[qf,some_or]at q;cases q;exact r.fr a _ qf
  |none=>
   rw[qf,none_or]at q;split at q
   .exact q
   .cases q
 .obtain⟨⟨h1,h2⟩,h3⟩:=r.gr a o q;exact⟨⟨h1,h2⟩,key h1 h2 h3⟩
 .obtain⟨o,h1,h2⟩:=e.in_ a ha;exact⟨key h1 h2 (ap a ha).1,(ap a ha).2⟩
 .cases qf:F b with
  |some u=>rw[some_or,r.fr b u qf]
  |none=>rw[none_or,q8 hb']
def tU:List V->Hp->VK->Prop:=λxs H Q=>∃a,∃zV:List (List aQ×V),xs=[.ref a]/\Rd H a (.dT zV)/\∀bs:List Addr,bs.length=zV.length->(∀(i:Nat)(b:Addr)(kv:List aQ×V),bs[i]?=some b->zV[i]?=some kv->H b=some (.tup (kv.1.map kV)))->
 ∀p,H p=none->Q (.ref p) (upd H p (.lst (bs.map .ref)))
def Wn{α β:Type}{R:α->β->Prop}{l:List α}{m:List β}(r:Paired R l m){i:Nat}{x:α}{y:β}(h1:l[i]?=some x)(h2:m[i]?=some y):R x y:=by
 induction r generalizing i with
 |nil=>cases h1
 |cons a b ih=>
  cases i with
  |zero=>cases h1;cases h2;exact a
  |succ i=>exact ih h1 h2
def Wg(hc:X.calm=true):aX X (.type "list") tU:=by
 intro zU s Z H xs us Q I r h;obtain⟨a,zV,rfl,hq,q⟩:=h;obtain⟨u,rfl,rx⟩:=vals1 r;cases(show u=Value.ref a from rx);obtain⟨z,hm,ys,kt,o,es,ep,h1,h2,h3,h4,h5,h6⟩:=Do I.hok hq;have hl:=Paired.length kt;have hes:es.size=ys.length:=by rw[<-qW,h4,qp]
 refine W.kdl_call (ST.raw_src (es:=es) (ep:=ep) hm) (I.ok.hd hc) ⟨o,h1,h2,h3⟩ (by rw[hes,<-hl];exact z) λh' tk acc' c' hk hS' hacc=>?_;have hv:zR ((ys.map (·.2.1)).map .ref) acc'.toList:=IZ (by simp[hacc.1,hes]) λj y v e1 e2=>by
  obtain⟨hj,rfl⟩:=hacc.2 j v (by rw[<-q5];exact e2);have e3:(ys.map (entryOfKey (tupleKind (aE X.prog X.w))))[j]?=some es[j]:=by rw[<-h4,q5,getElem?_eq_getElem hj]
  rw[qG,qZ]at e3;obtain⟨w,e4,e5⟩:=e3;rw[qG,qG,e4]at e1;cases e1;rw[<-e5];exact rfl
 have e7:((ys.map (·.2.1)).map V.ref).length<=sizeLine:=by rw[qp,qp,<-hl];exact z
 refine⟨.ref s.heap.objs.size,_,I.laid (t':=tk) hk (zc _) (show zT X.prog X.w _ h' _ (.lst ((ys.map (·.2.1)).map V.ref)) from⟨e7,acc'.toList,c',hv,by simpa using hS'⟩),rfl,q _ (by rw[qp,hl]) (λi b kv e1 e2=>?_) _ (I.hok.fresh (zc _))⟩;rw[qG,qZ]at e1;obtain⟨w,e3,rfl⟩:=e1;exact(Wn kt e2 e3).2.1
def pG(F:Hp):∀ks:List aQ,(fG (ks.map aL)).isSome=true->zS K F (ks.map kV) (ks.map aL)
 |[],_=>.nil
 |.inl i::ks,h=>.cons (.int i) (pG F ks (by have h':((fG (ks.map aL)).map (i::·)).isSome=true:=h;rwa[isSome_map]at h'))
 |.inr x::ks,h=>nomatch h
def Wr:dH K tU kU:=by
 intro Z U F G H vs ds s Q zW re e hq;obtain⟨d,v,rfl,rfl⟩:=kX (λx y r=>by rcases x with _|_|_|_|_|_|⟨_|_,_,_⟩<;>rfl) rfl re e;cases d with
 |dct t ks vs=>
  cases t with
  |false=>cases e
  |true=>
   have e:(if ks.length<=big/\ks.all yW=true then some (S.lst (ks.map .sh))else none)=some s:=e;split at e
   .rename_i hb;cases e;obtain⟨a,rfl,⟨_,z,_⟩|⟨zV,_,h1,rfl,h2⟩⟩:=re.1.dct zW.fr
    .cases z
    .refine⟨a,zV,rfl,h1,λbs hl hB p hp=>?_⟩;have hT:∀b∈bs,∃xs,H b=some (.tup xs):=λb hb'=>by obtain⟨i,hi⟩:=List.mem_iff_getElem?.mp hb';have hlt:=(qh.mp hi).1;exact⟨_,hB i b zV[i] hi (qi (hl▸hlt))⟩
     obtain⟨F',sm,r',hF⟩:=zW.growT bs hT;have hr:zS K F' (bs.map V.ref) (zV.map λp=>D.tup (p.1.map aL)):=by
      have hall:=hb.2
      clear hq h2 h1 hb hT e re
      induction bs generalizing zV with
      |nil=>cases zV with
       |nil=>exact .nil
       |cons=>cases hl
      |cons b bs ih=>cases zV with
       |nil=>cases hl
       |cons kv zV=>rw[qA,all_cons,and_eq_true]at hall;refine .cons (.tup (xs:=kv.1.map kV) ((hF b qo).trans (hB 0 b kv rfl rfl)) (pG F' kv.1 hall.1)) (ih zV (by simpa using hl) (λi b' kv' e1 e2=>hB (i+1) b' kv' e1 e2) (λb' hb'=>hF b' (qm _ hb')) hall.2)
     exact hq (.ref p) F' _ sm (r'.newLD hp hr)
   .cases e
 |_=>cases e
def Uz(hc:X.calm=true)(hg:Gl X "list")(hm:X.mg "list"=none)(hv:bootBuiltins "list"=some (.type "list"))(ha:FA X (e::es) wa)(he:starEach (e::es) X.env=(false,eval e X.env)::starEach es X.env:=by rfl)(hpl:(backTo pos (starEach es X.env)).any (·.1)=false:=by rfl):FE X (.Call (.Name "list" p) (e::es) [] pos) (wB kU wa):=
 DE (λpn xe=>Wg (X:=wp X pn xe) hc) Wr hg hm hv ha (by decide) (by decide) he hpl
def tX(K:W.Frag):List V->Hp->VK->Prop:=λxs H Q=>∃l t b k v,xs=[.ref l]/\bR K H l [.ref t]/\H t=some (.tup [.ref b,v])/\H b=some (.tup (k.map kV))/\∀p,H p=none->Q (.ref p) (upd H p (.dT [(k,v)]))
def Su:bootBuiltins "dict"=some (.type "dict"):=by decide+kernel
def Wv(hr:bI k X.A):aX X (.type "dict") (tX X.K):=by
 intro zU s Z H xs us Q I r h;obtain⟨l,t,b,k,v,rfl,hl,ht,hb,q⟩:=h;obtain⟨u,rfl,rx⟩:=vals1 r;cases(show u=Value.ref l from rx);have hu:X.A.units+20<cLine:=by have:=hr.units;lia
 obtain⟨zY,rv,⟨⟨c0,d0,data,sl⟩,n,e1,rfl,rfl,rfl⟩,_⟩:=I.list hl;cases rv with
 |cons r1 r2=>
 cases r2;cases r1;obtain⟨_,zY,rt,o,e2,e3,e4⟩:=(show zT X.prog X.w H s.heap t _ from I.hok t _ ht)
 cases rt with
 |cons r1 r2=>
 cases r1;cases r2 with
 |cons rw r2=>
 cases r2;rename_i u;obtain⟨ob,kits,kn,k1,k2⟩:=rY I.hok hb;have isK:∀{h:Heap},(∀b o,s.heap.get? b=some o->h.get? b=some o)->(tupleKind (aE X.prog X.w)).is h k b:=λkp=>⟨ob,kits,kn,kp _ _ k1,k2⟩
 refine ST.call_dictL (B:=X.A.units+20) (J:=λi h=>(∀b o,s.heap.get? b=some o->h.get? b=some o)/\h.DictOfH (tupleKind (aE X.prog X.w)) s.heap.objs.size (if i=0 then[]else[(k,b,u)])) hr.hd e1 (λh e kp=>⟨kp,_,#[],0,e,⟨rfl,rfl,rfl⟩,rfl,rfl,(λ_ hx=>nomatch hx),nodup_nil⟩)
  (λi h h'⟨kp,o,es,ep,g1,g2,g3,g4,g5,g6⟩ hk=>⟨λb o e=>hk b o (le_of_lt (ST.lt_of_get e)) (kp b o e),o,es,ep,hk _ _ (zc _) g1,g2,g3,g4,?_,g6⟩)
  (λA i w s' hA hi hw⟨kp,hD⟩=>?_) (zc _) λh' tk⟨kp,o,es,ep,g1,g2,g3,g4,g5,g6⟩ hk=>⟨.ref _,_,I.laid (o:=.dT [(k,v)]) (t':=tk) hk (zc _) ⟨?_,?_,[(k,b,u)],?_,o,es,ep,g1,g2,g3,g4,g6⟩,rfl,q _ I.fresh⟩
 .intro x hx;split at hx
  .cases hx
  .cases qv.mp hx;exact isK λb o e=>hk b o (le_of_lt (ST.lt_of_get e)) (kp b o e)
 .have h0:i=0:=by simpa using hi
  subst h0;cases hw;refine⟨t,.ref b,u,rfl,⟨o,kp _ _ e2,e3,e4⟩,λQ E hQ=>wpAny_dictSet_heap (hsz:=zero_le _) (by show A.units<cLine;lia) (isK kp) hD λh' dd sb=>hQ h' _ (le_add_right _ _) sb ⟨λb o e=>(sb.2 b (ne_of_lt (ST.lt_of_get e))).trans (kp b o e),dd⟩⟩
 .show 1<=sizeLine;rw[zp];decide
 .exact beq_eq_false_iff_ne.mpr (Ne.symm (ne_of_lt I.big))
 .exact .cons ⟨rfl,by rw[bJ (pP hb I.fresh)];exact hb,rw⟩ .nil
def Wp:dH K (tX K) kW:=by
 intro Z U F G H vs ds s Q zW re e hq;unfold kW at e;split at e
 .split at e
  .rename_i k v hk;cases e;match vs,re with
   |[x],⟨re,_⟩=>
    obtain⟨l,xs,rfl,h1,r1⟩:=re.lst zW.fr;cases r1 with
    |cons r2 r3=>
     cases r3;cases r2 with
     |tup f1 r4=>
      cases r4 with
      |cons r5 r6=>
       cases r6 with
       |cons r7 r8=>
        cases r8;match k,hk,r5 with
        |.tup kl,hk,.tup f2 r9=>obtain⟨ks,rfl,rfl⟩:=Ar r9 hk;exact⟨l,_,_,ks,_,rfl,h1,zW.fr _ _ f1,zW.fr _ _ f2,λp hp=>hq _ F _ (zH.refl F) (zW.newO hp (.dT gC rfl (.cons (.sh r7) .nil)))⟩
  .cases e
 .cases e
def UW(hr:bI k X.A)(hg:Gl X "dict")(hm:X.mg "dict"=none)(hv:bootBuiltins "dict"=some (.type "dict"))(ha:FA X (e::es) wa)(he:starEach (e::es) X.env=(false,eval e X.env)::starEach es X.env:=by rfl)(hpl:(backTo pos (starEach es X.env)).any (·.1)=false:=by rfl):FE X (.Call (.Name "dict" p) (e::es) [] pos) (wB kW wa):=
 DE (λpn xe=>Wv (X:=wp X pn xe) hr) Wp hg hm hv ha (by decide) (by decide) he hpl
end
end FL
namespace FL
mutual
def xT:D->D->Bool
 |.int _,.int _=>true
 |.tup l,.tup m=>gI l m
 |_,_=>false
def gI:List D->List D->Bool
 |a::l,b::m=>xT a b&&gI l m
 |_,_=>true
end
def Hj:D->D->Option S
 |.set l,.set m=>if l.all (aH true)=true/\m.all (aH true)=true/\l.length+m.length<=150/\m≠[]then some (.set (aJ (l++m)))else none
 |_,_=>none
end FL
namespace FL
open PySem PySem.Spec PyProof.Rows L2
open PySem.SeqAt AutoSeq1
def FO:cH (.int i) (.int j)=if i<j then .lt else if j<i then .gt else .eq:=rfl
mutual
def Vi:∀(d:D),xT d d=true->cH d d=.eq
 |.int i,_=>by rw[FO,q9 (Int.lt_irrefl i),q9 (Int.lt_irrefl i)]
 |.tup l,h=>ND l h
 |.non,h|.bl _,h|.str _,h|.lst _,h|.dct ..,h|.set _,h|.exc ..,h=>by cases h
def ND:∀(l:List D),gI l l=true->aU l l=.eq
 |[],_=>by rw[aU]
 |d::l,h=>by rw[gI,and_eq_true]at h;rw[aU,Vi d h.1];exact ND l h.2
end
mutual
def QL:∀(d e:D),xT d e=true->cH d e=.eq->d=e
 |.int i,e,h,c=>by
  cases e with
  |int j=>
   rw[FO]at c;split at c
   .cases c
   .split at c
    .cases c
    .rw[show i=j by lia]
  |_=>cases h
 |.tup l,e,h,c=>by
  cases e with
  |tup m=>rw[Mt l m h c]
  |_=>cases h
 |.non,_,h,_|.bl _,_,h,_|.str _,_,h,_|.lst _,_,h,_|.dct ..,_,h,_|.set _,_,h,_|.exc ..,_,h,_=>by cases h
def Mt:∀(l m:List D),gI l m=true->aU l m=.eq->l=m
 |[],[],_,_=>rfl
 |[],_::_,_,c=>by rw[aU]at c;cases c
 |_::_,[],_,c=>by rw[aU]at c;cases c
 |d::l,e::m,h,c=>by
  rw[gI,and_eq_true]at h;rw[aU]at c;cases q:cH d e with
  |eq=>rw[q]at c;rw[QL d e h.1 q,Mt l m h.2 c]
  |lt=>rw[q]at c;cases c
  |gt=>rw[q]at c;cases c
end
mutual
def Wo:∀(d e:D),xT d e=true->aW d e=false
 |.int i,e,h=>by cases e<;>first|rfl|cases h
 |.tup l,e,h=>by
  cases e with
  |tup m=>exact Ow l m h
  |_=>cases h
 |.non,_,h|.bl _,_,h|.str _,_,h|.lst _,_,h|.dct ..,_,h|.set _,_,h|.exc ..,_,h=>by cases h
def Ow:∀(l m:List D),gI l m=true->bC l m=false
 |[],[],_=>rfl
 |[],_::_,_=>rfl
 |_::_,[],_=>rfl
 |d::l,e::m,h=>by rw[gI,and_eq_true]at h;show(aW d e||bC l m)=false;rw[Wo d e h.1,Ow l m h.2];rfl
end
end FL
namespace FL
open PySem PySem.Spec PyProof.Rows L2
section
variable{K:W.Frag}
abbrev kR(p:List aQ×Addr):V:=V.ref p.2
def OR:R2:=λx y H Q=>∃a b,∃ps qs:List (List aQ×Addr),x=.ref a/\y=.ref b/\H a=some (.set (ps.map kR))/\H b=some (.set (qs.map kR))/\(∀p∈ps,H p.2=some (.tup (p.1.map kV)))/\(∀p∈qs,H p.2=some (.tup (p.1.map kV)))/\ps.length+qs.length<=150/\qs≠[]/\
 ∀rs:List (List aQ×Addr),(∀r∈rs,r∈ps\/r∈qs)->(∀k∈ps.map (·.1),k∈rs.map (·.1))->(∀k∈qs.map (·.1),k∈rs.map (·.1))->(rs.map (·.1)).Nodup->∃ts:List (List aQ×Addr),ts.Perm rs/\∀n,H n=none->Q (.ref n) (upd H n (.set (ts.map kR)))
def UB(I:Inv X zU Z H s):Inv X zU Z H {s with drawn:=d'}:=
 I.step (g':=s.gens) (d':=d') (ch:=[]) (λ_ z=>nomatch z) (λ_ _ _ _ _ e _=>e) (λ_ o _ _ _ e _=>⟨o.slots,e⟩) (λ_ _ _ _ n=>n) (λ_ o _ e=>⟨o,e⟩) (λ_ _ e=>e) (λ_ _ _ e=>e) (λ_ _ e=>⟨#[],by rw[e];simp⟩) (λ_ m=>m) I.hok I.bare
def Lp(hu:X.A.units+1<cLine):OpR X (binaryOp .BitOr) OR:=by
 intro zU s Z H x y v u Q I rx ry h;obtain⟨a,b,ps,qs,rfl,rfl,ha,hb,hp,hq,hl,hn,q⟩:=h;cases rx;cases ry;obtain⟨xs,px,SA⟩:=Ik I ha rfl hp;obtain⟨ys,py,SB⟩:=Ik I hb rfl hq;refine ST.or_op hu SA SB rfl (by rw[<-px.length_eq,<-py.length_eq];exact hl) λh' zs d k T lz c1 c2 c3=>?_;have T':=T;obtain⟨_,_,_,_,_,_,_,_,_,_,_,_,hnd⟩:=T';have src:∀z∈zs,z∈ps\/z∈qs:=λz hz=>(c1 z hz).imp px.mem_iff.mpr py.mem_iff.mpr;obtain⟨ts,pt,g⟩:=q zs src (λk hk=>c2 k ((px.map _).mem_iff.mp hk)) (λk hk=>c3 k ((py.map _).mem_iff.mp hk)) hnd;have hnew:∀d xs,H d=some (HO.tup xs)->upd H s.heap.objs.size (.set (ts.map kR)) d=some (.tup xs):=λd xs z=>by rw[bJ (pP z I.fresh)];exact z
 have ht:ts≠[]:=λz=>by
  subst z;cases qs with
  |nil=>exact hn rfl
  |cons r qs=>have:=c3 r.1 ((py.map _).mem_iff.mp (by simp));rw[length_eq_zero_iff.mp pt.length_eq.symm]at this;cases this
 have I2:=UB (d':=d) (I.laid (h':=h') (t':=s.toks) (a:=s.heap.objs.size) (o:=.set (ts.map kR)) k (zc _) ⟨by rw[qp,pt.length_eq];rw[<-px.length_eq,<-py.length_eq]at lz;lia,.inr (.inr ⟨λe=>ht (map_eq_nil_iff.mp e),zs,pt.map _,λz hz=>hnew _ _ ((src z hz).elim (hp z) (hq z)),T.raw⟩)⟩);exact⟨.ref _,_,I2,rfl,g _ I.fresh⟩
def Oc:∀{ps:List (List aQ×Addr)},zS K F (ps.map kR) (ps.map tK)->∀p∈ps,aN K F (kR p) (tK p)
 |p::ps,r,q,hq=>by
  cases r with
  |cons a b=>
   rcases qC.mp hq with rfl|z
   .exact a
   .exact Oc b q z
def Nt:∀{ts:List (List aQ×Addr)},(∀t∈ts,aN K F (kR t) (tK t))->zS K F (ts.map kR) (ts.map tK)
 |[],_=>.nil
 |t::ts,h=>.cons (h t qo) (Nt λu hu=>h u (qm _ hu))
def LV(sm:zH F H)(r:bG K F H x (.set l))(hk:l.all (aH true)=true):∃a,∃ps:List (List aQ×Addr),x=.ref a/\H a=some (.set (ps.map kR))/\l=ps.map tK/\(∀p∈ps,aN K F (kR p) (tK p))/\∀p∈ps,H p.2=some (.tup (p.1.map kV)):=by
 rcases r with r|⟨_,_,_,_,h,_⟩|⟨_,_,_,_,_,h,_⟩|⟨_,_,_,_,_,h,_⟩
 .cases r with
  |st e r=>obtain⟨ps,rfl,rfl,h⟩:=GE r hk;exact⟨_,ps,rfl,sm _ _ e,rfl,Oc r,λp hp=>sm _ _ (h p hp)⟩
 .cases h
 .cases h
 .cases h
def RI:jG K OR Hj:=by
 intro Z U F G H x y p q s Q zW ex ey e hq;cases p<;>first|(cases e;done)|skip
 rename_i l;cases q<;>first|(cases e;done)|skip
 rename_i m;have e':(if l.all (aH true)=true/\m.all (aH true)=true/\l.length+m.length<=150/\m≠[]then some (S.set (aJ (l++m)))else none)=some s:=e;split at e'
 .rename_i hc;cases e';obtain⟨h1,h2,h3,h4⟩:=hc;obtain⟨a,ps,rfl,ea,rfl,fp,hp⟩:=LV zW.fr ex h1;obtain⟨b,qs,rfl,eb,rfl,fq,hq'⟩:=LV zW.fr ey h2;refine⟨a,b,ps,qs,rfl,rfl,ea,eb,hp,hq',by simpa using h3,λz=>h4 (by rw[z];rfl),λrs src c1 c2 nd=>?_⟩;have pm:(rs.map tK).Perm (aJ (ps.map tK++qs.map tK)):=by
   refine(perm_ext_iff_of_nodup ?_ (Ja _)).mpr λd=>?_
   .exact pairwise_map.mpr ((pairwise_map.mp nd).imp λ{a b} h z=>h (zbK.mp z))
   .rw[zaw,qz,qL,qL,qL];have go:∀p:List aQ×Addr,p.1∈rs.map (·.1)->∃r∈rs,tK r=tK p:=λp hp=>by obtain⟨r,hr,e⟩:=qL.mp hp;exact⟨r,hr,by unfold tK;rw[e]⟩
    constructor
    .rintro⟨r,hr,rfl⟩;exact(src r hr).imp (λz=>⟨r,z,rfl⟩) λz=>⟨r,z,rfl⟩
    .rintro(⟨p,hp,rfl⟩|⟨p,hp,rfl⟩)
     .exact go p (c1 _ (qL.mpr ⟨p,hp,rfl⟩))
     .exact go p (c2 _ (qL.mpr ⟨p,hp,rfl⟩))
  obtain⟨ts,et,pt⟩:=GH pm.symm;refine⟨ts,pt,λn hn=>hq _ F _ (zH.refl F) ?_⟩;rw[et];refine zW.newO hn (.st gC ?_);exact Nt λt ht=>(src t (pt.mem_iff.mp ht)).elim (fp t) (fq t)
 .cases e'
def QY(hu:X.A.units+1<cLine)(ha:FE X a wa)(hb:FE X b wb):FE X (.BinOp a .BitOr b pos) (zM Hj wa wb):=Bb (λ_ _=>Lp hu) RI ha hb
end
end FL
namespace FL
def e_C:wC d U Q E=Q (.v (.sh d)) U:=rfl
def kV(o:Option S)(Q:WQ)(U:Env):Prop:=zG o λs=>Q (.v s) U
def e_V:kV (some s) Q U=Q (.v s) U:=rfl
def pD(o:D->D->Option S)(x y:Option D)(Q:WQ)(U:Env):Prop:=zG x λp=>zG y λq=>kV (o p q) Q U
def lZ(o:D->D->Option S)(x:R)(Q:WQ):WQ:=λy U2=>pD o (zQ x U2) (zQ y U2) Q U2
def AS(o:D->D->Option S)(b:WE)(Q:WQ)(E:WX):WQ:=λx U1=>b U1 (lZ o x Q) E
def zpU:zM o a b U Q E=a U (AS o b Q E) E:=rfl
def zlQ:AS o b Q E x U=b U (lZ o x Q) E:=rfl
def Qo:lZ o x Q y U=pD o (zQ x U) (zQ y U) Q U:=rfl
def zl3:pD o (some p) (some q) Q U=kV (o p q) Q U:=rfl
def Cu(o:D->Option S)(x:Option D)(Q:WQ)(U:Env):Prop:=zG x λp=>kV (o p) Q U
def OX(o:D->Option S)(Q:WQ):WQ:=λx U=>Cu o (zQ x U) Q U
def e_Un{o:D->Option S}:Bo o a U Q E=a U (OX o Q) E:=rfl
def zoK{o:D->Option S}:OX o Q x U=Cu o (zQ x U) Q U:=rfl
def zo1{o:D->Option S}:Cu o (some p) Q U=kV (o p) Q U:=rfl
def kC(o:Option Bool)(Q:Bool->Env->Prop)(U:Env):Prop:=zG o λc=>Q c U
def e_Ck{c:Bool}:kC (some c) QT U=QT c U:=rfl
def pC(o:D->D->Option Bool)(x y:Option D)(Q:Bool->Env->Prop)(U:Env):Prop:=zG x λp=>zG y λq=>kC (o p q) Q U
def lY(o:D->D->Option Bool)(x:R)(Q:Bool->Env->Prop):WQ:=λy U2=>pC o (view x U2) (view y U2) Q U2
def AQ(o:D->D->Option Bool)(b:WE)(Q:Bool->Env->Prop)(E:WX):WQ:=λx U1=>b U1 (lY o x Q) E
def zpK:bW oc a b U QT E=a U (AQ oc b QT E) E:=rfl
def znF:AQ oc b QT E x U=b U (lY oc x QT) E:=rfl
def zlv:pC oc (some p) (some q) QT U=kC (oc p q) QT U:=rfl
def nE(x:Option D)(Q:Bool->Env->Prop)(U:Env):Prop:=zG x λp=>kC (iC p) Q U
def AO(Q:Bool->Env->Prop):WQ:=λx U=>nE (view x U) Q U
def zmn:lJ a U QT E=a U (AO QT) E:=rfl
def zj0:AO QT x U=nE (view x U) QT U:=rfl
def zjT:nE (some p) QT U=kC (iC p) QT U:=rfl
def CZ(b:WT)(Q:Bool->Env->Prop)(E:WX):Bool->Env->Prop:=λc U1=>if c then b U1 Q E else Q false U1
def zqm:gE t u U QT E=t U (CZ u QT E) E:=rfl
def zmu:CZ u QT E true U=u U QT E:=rfl
def zmi:CZ u QT E false U=QT false U:=rfl
def Fy(Q:Bool->Env->Prop):Bool->Env->Prop:=λc U1=>Q (!c) U1
def zoB:sF t U QT E=t U (Fy QT) E:=rfl
def zm9{c:Bool}:Fy QT c U=QT (!c) U:=rfl
def Fx(Q:WQ):Bool->Env->Prop:=λc U1=>Q (.v (.sh (.bl c))) U1
def zpq:sX t U Q E=t U (Fx Q) E:=rfl
def zmL{c:Bool}:Fx Q c U=Q (.v (.sh (.bl c))) U:=rfl
def CM(a b:WE)(Q:WQ)(E:WX):Bool->Env->Prop:=λk U1=>if k then a U1 Q E else b U1 Q E
def zob:Bp t a b U Q E=t U (CM a b Q E) E:=rfl
def zlz:CM a b Q E true U=a U Q E:=rfl
def zno:CM a b Q E false U=b U Q E:=rfl
def zoG:zz U QA E=QA [] U:=rfl
def nF(r:R)(Q:List R->Env->Prop):List R->Env->Prop:=λrs U=>Q (r::rs) U
def uV(b:WA)(Q:List R->Env->Prop)(E:WX):WQ:=λr U1=>b U1 (nF r Q) E
def znn:zy a wa U QA E=a U (uV wa QA E) E:=rfl
def zkv:uV wa QA E r U=wa U (nF r QA) E:=rfl
def zkx:nF r QA rs U=QA (r::rs) U:=rfl
def FN(s:S):Option (List S×Env)->Option (List S×Env)
 |some (ss,U)=>some (s::ss,U)
 |none=>none
def KQ(rs:List R):Option (S×Env)->Option (List S×Env)
 |some (s,U)=>FN s (aK rs U)
 |none=>none
def zqb:aK [] U=some ([],U):=rfl
def e_gA:aK (r::rs) U=KQ rs (give r U):=by
 rw[aK];unfold KQ;cases give r U with
 |none=>rfl
 |some z=>obtain⟨s,U1⟩:=z;show(match aK rs U1 with|some (ss,U2)=>some (s::ss,U2)|none=>none)=FN s (aK rs U1);unfold FN;rfl
def zqH:KQ rs (some (s,U))=FN s (aK rs U):=rfl
def zoy:FN s (some (ss,U))=some (s::ss,U):=rfl
def gv(i:Nat)(U:Env):Option S->Option (S×Env)
 |some s=>some (.sh s.toD,U.set i (some (.sh s.toD)))
 |none=>none
def e_gv:give (.v s) U=some (s,U):=rfl
def e_gl:give (.loc i) U=gv i U (slot U i):=by unfold give gv;rfl
def zqJ:gv i U (some s)=some (.sh s.toD,U.set i (some (.sh s.toD))):=rfl
def oU(l:Bool)(x:Option (List S×Env))(Q:WQ):Prop:=zG (if l then x else none) λp=>Q (.v (.sh (.tup (p.1.map S.toD)))) p.2
def pB(l:Bool)(x:Option (List S×Env))(Q:WQ):Prop:=zG (if l then x else none) λp=>Q (.v (.lst p.1)) p.2
def fE(rs:List R):Bool:=decide (rs.length<=big)
def Cv(Q:WQ):List R->Env->Prop:=λrs U=>oU (fE rs) (aK rs U) Q
def CI(Q:WQ):List R->Env->Prop:=λrs U=>pB (fE rs) (aK rs U) Q
def zpW:cW wa U Q E=wa U (Cv Q) E:=by unfold cW Cv oU fE;simp
def zlW:Cv Q rs U=oU (fE rs) (aK rs U) Q:=rfl
def zmv:oU true (some (ss,U)) Q=Q (.v (.sh (.tup (ss.map S.toD)))) U:=rfl
def zor:dU wa U Q E=wa U (CI Q) E:=by unfold dU CI pB fE;simp
def zmW:CI Q rs U=pB (fE rs) (aK rs U) Q:=rfl
def znp:pB true (some (ss,U)) Q=Q (.v (.lst ss)) U:=rfl
def e_l0:fE []=true:=rfl
def e_l1:fE [r1]=true:=rfl
def e_l2:fE [r1,r2]=true:=rfl
def e_l3:fE [r1,r2,r3]=true:=rfl
def e_vv:view (.v s) U=some s.toD:=rfl
def e_vl:view (.loc i) U=(slot U i).map S.toD:=rfl
def e_cv:zQ (.v s) U=some s.toD:=rfl
def vC:Option S->Option D
 |some s=>if s.flat then some s.toD else none
 |none=>none
def e_cl:zQ (.loc i) U=vC (slot U i):=by unfold zQ vC;rfl
def zne(h:l.all S.isSh=true):vC (some (.lst l))=some (.lst (l.map S.toD)):=by show(if l.all S.isSh=true then some (S.toD (.lst l))else none)=_;rw[q8 h,S.toD_lst]
def e_sh{l:List D}:(l.map S.sh).all S.isSh=true:=by simp[S.isSh]
def zan{l:List D}:(l.map S.sh).map S.toD=l:=by rw[qF];exact map_id l
def zpV:vC (some (.lst (l.map S.sh)))=some (.lst l):=by rw[zne e_sh,zan]
def yG(o:Option S)(Q:WQ)(U:Env):Prop:=match o with|some (.sh d)=>Q (.v (.sh d)) U|_=>False
def yH(o:Option S)(q:D)(Q:WQ)(U:Env):Prop:=match o with|some s=>yG (nH s q) Q U|none=>False
def uT(x:R)(o:Option D)(Q:WQ)(U:Env):Prop:=zG o λq=>match x with|.v s=>kV (nH s q) Q U|.loc i=>yH (slot U i) q Q U
def yI(x:R)(Q:WQ):WQ:=λy U2=>uT x (view y U2) Q U2
def CJ(b:WE)(Q:WQ)(E:WX):WQ:=λx U1=>b U1 (yI x Q) E
def e_Ix:gN a b U Q E=a U (CJ b Q E) E:=by unfold gN CJ yI uT yH yG kV;rfl
def zp3:CJ b Q E x U=b U (yI x Q) E:=rfl
def zpB:yI x Q y U=uT x (view y U) Q U:=rfl
def znH:uT (.v s) (some q) Q U=kV (nH s q) Q U:=rfl
def zlb:uT (.loc i) (some q) Q U=yH (slot U i) q Q U:=rfl
def zov:yH (some s) q Q U=yG (nH s q) Q U:=rfl
def zoI:yG (some (.sh d)) Q U=Q (.v (.sh d)) U:=rfl
def zoC:nH (.sh (.tup l)) (.int z)=(atI l z).map S.sh:=rfl
def zn7:nH (.sh (.lst l)) (.int z)=(atI l z).map S.sh:=rfl
def zqf:nH (.sh (.str l)) (.int z)=(atI l z).map λc=>S.sh (.str [c]):=rfl
def zqv:nH (.lst l) (.int z)=atI l z:=rfl
def Ba(h0:0<=z)(h:l[z.toNat]?=some v):atI l z=some v:=by have:z.toNat<l.length:=(qh.mp h).1;unfold atI ixN;rw[q8 h0,q8 (by lia)];exact h
def znh:atI (v::l) 0=some v:=Ba (by decide) rfl
def zmj:atI (v1::v::l) 1=some v:=Ba (by decide) rfl
def zmd:atI (v1::v2::v::l) 2=some v:=Ba (by decide) rfl
def pA(s:S):Option (List S×Env)->Option (List S×Env)
 |some (ss,U)=>some (s::ss,U)
 |none=>none
def e_p0:cY ms [] U=some ([],U):=by cases ms<;>rfl
def e_pv:cY (h::ms) (.v s::rs) U=pA s (cY ms rs U):=by rw[cY];unfold pA;rfl
def pL(i:Nat)(o:Option S)(ms:List Bool)(rs:List R)(U:Env):Option (List S×Env):=match o with
 |some s=>pA s (cY ms rs (U.set i none))
 |none=>none
def e_pl:cY (true::ms) (.loc i::rs) U=pL i (slot U i) ms rs U:=by rw[cY];unfold pL pA;cases slot U i<;>rfl
def zqr:pL i (some s) ms rs U=pA s (cY ms rs (U.set i none)):=rfl
def e_pA:pA s (some (ss,U))=some (s::ss,U):=rfl
def e_b0:back ms [] ss U=U:=rfl
def e_bv{s t:S}:back (h::ms) (.v s::rs) (t::ss) U=back ms rs ss U:=rfl
def e_bl{t:S}:back (true::ms) (.loc i::rs) (t::ss) U=back ms rs ss (U.set i (some t)):=rfl
def uU(ms:List Bool)(rs:List R)(U:Env)(Q:WQ):S->List S->Prop:=λs ss=>Q (.v s) (back ms rs ss U)
def FD(ms:List Bool)(rs:List R)(U:Env)(E:WX):D->List S->Prop:=λx ss=>E x (back ms rs ss U)
def nG(f:WF)(ms:List Bool)(rs:List R)(o:Option (List S×Env))(Q:WQ)(E:WX):Prop:=zG o λp=>f p.1 (uU ms rs p.2 Q) (FD ms rs p.2 E)
def AR(f:WF)(ms:List Bool)(Q:WQ)(E:WX):List R->Env->Prop:=λrs U=>nG f ms rs (cY ms rs U) Q E
def znG:zO f ms wa U Q E=wa U (AR f ms Q E) E:=rfl
def zkO:AR f ms Q E rs U=nG f ms rs (cY ms rs U) Q E:=rfl
def zj4:nG f ms rs (some (ss,U)) Q E=f ss (uU ms rs U Q) (FD ms rs U E):=rfl
def zl1:uU ms rs U Q s ss=Q (.v s) (back ms rs ss U):=rfl
def vA:Option D->Option (List D)->Option (List D)
 |some d,some ds=>some (d::ds)
 |_,_=>none
def iB(rs:List R)(U:Env):Option (List D):=match rs with
 |[]=>some []
 |r::rs=>vA (zQ r U) (iB rs U)
def HN:∀rs:List R,(rs.mapM λr=>zQ r U)=iB rs U
 |[]=>rfl
 |r::rs=>by
  rw[List.mapM_cons,HN rs,iB];cases zQ r U with
  |none=>rfl
  |some d=>cases iB rs U<;>rfl
def znY:iB [] U=some []:=rfl
def e_vA:iB (r::rs) U=vA (zQ r U) (iB rs U):=rfl
def zps:vA (some d) (some ds)=some (d::ds):=rfl
def CY(f:List D->Option S)(o:Option (List D))(Q:WQ)(U:Env):Prop:=zG o λds=>kV (f ds) Q U
def kB(f:List D->Option S)(Q:WQ):List R->Env->Prop:=λrs U=>CY f (iB rs U) Q U
def e_B:wB f wa U Q E=wa U (kB f Q) E:=by unfold wB kB CY kV;simp only[HN]
def e_B1:kB f Q rs U=CY f (iB rs U) Q U:=rfl
def e_B2:CY f (some ds) Q U=kV (f ds) Q U:=rfl
def yE(f:List Nat->List D->Option S)(l:List Nat)(Q:WQ):List R->Env->Prop:=λrs U=>CY (f l) (iB rs U) Q U
def KF(f:List Nat->List D->Option S)(wa:WA)(Q:WQ)(E:WX):WQ:=λx U=>match x with
 |.v (.sh (.str l))=>wa U (yE f l Q) E
 |_=>False
def e_MS:DG f a wa U Q E=a U (KF f wa Q E) E:=by unfold DG KF yE CY kV;simp only[HN];all_goals rfl
def zpv:KF f wa Q E (.v (.sh (.str l))) U=wa U (yE f l Q) E:=rfl
def zqh:yE f l Q rs U=CY (f l) (iB rs U) Q U:=rfl
def yR(j:Nat)(s:S)(o:Option S)(U:Env)(Q:WQ):Prop:=match o with
 |some (.lst l)=>l.length<big/\Q (.v (.sh .non)) (U.set j (some (.lst (l++[s]))))
 |_=>False
def yS(j:Nat)(o:Option (S×Env))(Q:WQ):Prop:=zG o λp=>yR j p.1 (slot p.2 j) p.2 Q
def yT(j:Nat)(Q:WQ):WQ:=λr U=>yS j (give r U) Q
def KI(j:Nat)(o:Option S)(a:WE)(U:Env)(Q:WQ)(E:WX):Prop:=match o with
 |some (.lst _)=>a U (yT j Q) E
 |_=>False
def e_Ap:bU j a U Q E=KI j (slot U j) a U Q E:=by unfold bU KI yT yS yR;rfl
def zoX:KI j (some (.lst l)) a U Q E=a U (yT j Q) E:=rfl
def zpD:yT j Q r U=yS j (give r U) Q:=rfl
def zpG:yS j (some (s,U)) Q=yR j s (slot U j) U Q:=rfl
def zqk:yR j s (some (.lst l)) U Q=(l.length<big/\Q (.v (.sh .non)) (U.set j (some (.lst (l++[s]))))):=rfl
def oY(j:Nat)(o:Option D)(p:Option S)(U:Env)(Q:WQ):Prop:=match o,p with
 |some (.int i),some (.lst l)=>zG (if l.length<=big then ixN l.length i else none) λk=>zG l[k]? λs=>Q (.v s) (U.set j (some (.lst (l.eraseIdx k))))
 |_,_=>False
def oZ(j:Nat)(Q:WQ):WQ:=λr U=>oY j (view r U) (slot U j) U Q
def CH(j:Nat)(o:Option S)(a:WE)(U:Env)(Q:WQ)(E:WX):Prop:=match o with
 |some (.lst _)=>a U (oZ j Q) E
 |_=>False
def zoF:kJ j a U Q E=CH j (slot U j) a U Q E:=by unfold kJ CH oZ oY;rfl
def znj:CH j (some (.lst l)) a U Q E=a U (oZ j Q) E:=rfl
def zmz:oZ j Q r U=oY j (view r U) (slot U j) U Q:=rfl
def Rq(h0:0<=z)(hb:l.length<=big)(h:l[z.toNat]?=some s)(hq:Q (.v s) (U.set j (some (.lst (l.eraseIdx z.toNat))))):oY j (some (.int z)) (some (.lst l)) U Q:=by
 have:z.toNat<l.length:=(qh.mp h).1;have e:(if l.length<=big then ixN l.length z else none)=some z.toNat:=by unfold ixN;rw[q8 hb,q8 h0,q8 (by lia)]
 show zG (if l.length<=big then ixN l.length z else none) _;rw[e,IC,h];exact hq
def xX(j:Nat)(r:R)(o:Option S)(U:Env)(Q:WQ):Prop:=match r,o with
 |.v (.lst m),some (.lst l)=>l.length+m.length<=big/\Q (.v (.sh .non)) (U.set j (some (.lst (l++m))))
 |_,_=>False
def xY(j:Nat)(Q:WQ):WQ:=λr U=>xX j r (slot U j) U Q
def KC(j:Nat)(o:Option S)(a:WE)(U:Env)(Q:WQ)(E:WX):Prop:=match o with
 |some (.lst _)=>a U (xY j Q) E
 |_=>False
def e_Xt:hE j a U Q E=KC j (slot U j) a U Q E:=by unfold hE KC xY xX;rfl
def zo8:KC j (some (.lst l)) a U Q E=a U (xY j Q) E:=rfl
def zo5:xY j Q r U=xX j r (slot U j) U Q:=rfl
def znR{l m:List S}:xX j (.v (.lst m)) (some (.lst l)) U Q=(l.length+m.length<=big/\Q (.v (.sh .non)) (U.set j (some (.lst (l++m))))):=rfl
def zle{t:Bool}:tF t U Q E=Q (.v (.dct t [] [])) U:=rfl
def CG(o:Option D)(Q:Option Int->Env->Prop)(U:Env):Prop:=match o with|some (.int i)=>Q (some i) U|_=>False
def Pa(Q:Option Int->Env->Prop):WQ:=λx U=>CG (view x U) Q U
def zoi{Q:Option Int->Env->Prop}:gF none U Q E=Q none U:=rfl
def e_Pt{Q:Option Int->Env->Prop}:gF (some a) U Q E=a U (Pa Q) E:=rfl
def zqI{Q:Option Int->Env->Prop}:Pa Q x U=CG (view x U) Q U:=rfl
def zpC{Q:Option Int->Env->Prop}:CG (some (.int z)) Q U=Q (some z) U:=rfl
def Cw(o:Option D)(l h:Option Int)(Q:WQ)(U:Env):Prop:=zG o λd=>kV (oN d l h) Q U
def Cy(x:R)(l:Option Int)(Q:WQ):Option Int->Env->Prop:=λh U=>Cw (zQ x U) l h Q U
def Cz(x:R)(hi:Option WE)(Q:WQ)(E:WX):Option Int->Env->Prop:=λl U=>gF hi U (Cy x l Q) E
def OY(lo hi:Option WE)(Q:WQ)(E:WX):WQ:=λx U=>gF lo U (Cz x hi Q E) E
def e_Sl:Ay a lo hi U Q E=a U (OY lo hi Q E) E:=rfl
def zqz:OY lo hi Q E x U=gF lo U (Cz x hi Q E) E:=rfl
def zqd:Cz x hi Q E l U=gF hi U (Cy x l Q) E:=rfl
def zoO:Cy x l Q h U=Cw (zQ x U) l h Q U:=rfl
def zqi:Cw (some d) l h Q U=kV (oN d l h) Q U:=rfl
def He(D:Ends)(k:Env->Prop):Ends:={D with nx:=k}
def e_nx:(He D' K).nx=K:=rfl
def e_rt:(He D' K).rt=D'.rt:=rfl
def e_ex:(He D' K).ex=D'.ex:=rfl
def zmT:dP D' U=D'.nx U:=rfl
def zoo:zN v w D' U=v (He D' (w D')) U:=rfl
def KG(a b:WS)(D:Ends):Bool->Env->Prop:=λk U=>if k then a D U else b D U
def e_If:oH t v w D' U=t U (KG v w D') D'.ex:=rfl
def zpE:KG v w D' true U=v D' U:=rfl
def zpZ:KG v w D' false U=w D' U:=rfl
def zn9:cE a D' U=a U D'.rt D'.ex:=rfl
def Pf(D:Ends):WQ:=λ_ U=>D.nx U
def zms:wExpr a D' U=a U (Pf D') D'.ex:=rfl
def zkh:Pf D' r U=D'.nx U:=rfl
def uW(g:WG)(D:Ends)(o:Option (S×Env)):Prop:=zG o λp=>g p.1 p.2 D.nx
def FF(g:WG)(D:Ends):WQ:=λr U=>uW g D (give r U)
def zpo:zP g a D' U=a U (FF g D') D'.ex:=rfl
def zl4:FF g D' r U=uW g D' (give r U):=rfl
def zmx:uW g D' (some (s,U))=g s U D'.nx:=rfl
def uO(i j:Nat)(D:Ends)(s:S)(o:Option (S×Env)):Prop:=zG o λq=>D.nx ((q.2.set i (some s)).set j (some q.1))
def uP(i j:Nat)(D:Ends)(t:R)(o:Option (S×Env)):Prop:=zG o λp=>uO i j D p.1 (give t p.2)
def Fw(i j:Nat)(D:Ends):List R->Env->Prop:=λrs U=>match rs with
 |[r,t]=>uP i j D t (give r U)
 |_=>False
def zpm:sW i j wa D' U=wa U (Fw i j D') D'.ex:=by unfold sW;congr 1
def zmS:Fw i j D' [r,x] U=uP i j D' x (give r U):=rfl
def zmI:uP i j D' x (some (s,U))=uO i j D' s (give x U):=rfl
def zlK:uO i j D' s (some (s',U))=D'.nx ((U.set i (some s)).set j (some s')):=rfl
def e_gN:zF i s U K=K (U.set i (some s)):=rfl
def Pd(gs:List WG)(d:D)(U:Env)(Q:Env->Prop):Prop:=match d with|.tup ds=>ds.length=gs.length/\fH gs ds U Q|_=>False
def e_gT:cP gs s U K=Pd gs s.toD U K:=rfl
def zn3:Pd gs (.tup ds) U K=(ds.length=gs.length/\fH gs ds U K):=rfl
def FB(gs:List WG)(ds:List D)(Q:Env->Prop):Env->Prop:=λU=>fH gs ds U Q
def zpi:fH [] [] U K=K U:=rfl
def zoJ:fH (g::gs) (d::ds) U K=g (.sh d) U (FB gs ds K):=rfl
def zos:FB gs ds K U=fH gs ds U K:=rfl
def jV(j:Nat)(D:Ends)(x:R)(q:FL.D)(s:S)(o:Option S)(U:Env):Prop:=match x,q,o with
 |.loc k,.int n,some (.lst l)=>k=j/\zG (ixN l.length n) λm=>D.nx (U.set j (some (.lst (l.set m s))))
 |_,_,_=>False
def oV(j:Nat)(D:Ends)(x:R)(o:Option FL.D)(p:Option (S×Env)):Prop:=zG o λq=>zG p λp=>jV j D x q p.1 (slot p.2 j) p.2
def oW(j:Nat)(D:Ends)(r x:R):WQ:=λy U=>oV j D x (view y U) (give r U)
def oX(j:Nat)(i:WE)(D:Ends)(r:R):WQ:=λx U=>i U (oW j D r x) D.ex
def uN(j:Nat)(i:WE)(D:Ends):WQ:=λr U=>zx j U (oX j i D r) D.ex
def zqs:iA j a b D' U=b U (uN j a D') D'.ex:=by unfold iA uN oX oW oV jV;rfl
def znu:uN j a D' r U=zx j U (oX j a D' r) D'.ex:=rfl
def zlh:oX j a D' r x U=a U (oW j D' r x) D'.ex:=rfl
def zmR:oW j D' r x y U=oV j D' x (view y U) (give r U):=rfl
def zmk:oV j D' x (some q) (some (s,U))=jV j D' x q s (slot U j) U:=rfl
def LO(h0:0<=z)(h1:z<l.length):jV j D' (.loc j) (.int z) s (some (.lst l)) U=D'.nx (U.set j (some (.lst (l.set z.toNat s)))):=by show(j=j/\zG (ixN l.length z) _)=_;unfold ixN;rw[q8 h0,q8 h1,IC];simp
def zk8:jV j D' (.loc j) (.int 0) s (some (.lst [s0,s1])) U=D'.nx (U.set j (some (.lst [s,s1]))):=LO (by decide) (by show(0:Int)<2;decide)
def zkR:jV j D' (.loc j) (.int 1) s (some (.lst [s0,s1])) U=D'.nx (U.set j (some (.lst [s0,s]))):=LO (by decide) (by show(1:Int)<2;decide)
def yM(j:Nat)(D:Ends)(q:FL.D)(s:S)(o:Option S)(U:Env):Prop:=match o with
 |some (.dct t ks l)=>aH t q=true/\ks.Nodup/\ks.length<big/\D.nx (U.set j (some (eF t ks l q s)))
 |_=>False
def yN(j:Nat)(D:Ends)(x:R)(o:Option FL.D)(p:Option (S×Env)):Prop:=zG o λq=>zG p λp=>match x with
 |.loc k=>k=j/\yM j D q p.1 (slot p.2 j) p.2
 |_=>False
def yO(j:Nat)(D:Ends)(r x:R):WQ:=λy U=>yN j D x (view y U) (give r U)
def yP(j:Nat)(i:WE)(D:Ends)(r:R):WQ:=λx U=>i U (yO j D r x) D.ex
def yQ(j:Nat)(i:WE)(D:Ends):WQ:=λr U=>zx j U (yP j i D r) D.ex
def e_Dp:oI j a b D' U=b U (yQ j a D') D'.ex:=by
 have e:(λ(r:R)(U1:Env)=>zx j U1 (λx U2=>a U2 (λy U3=>zG (view y U3) λq=>zG (give r U3) λp=>match x,slot p.2 j with
  |.loc k,some (.dct t ks l)=>k=j/\aH t q=true/\ks.Nodup/\ks.length<big/\D'.nx (p.2.set j (some (eF t ks l q p.1)))
  |_,_=>False) D'.ex) D'.ex)=yQ j a D':=by
  funext r U1
  unfold yQ yP yO yN yM;congr 1
  funext x U2
  congr 1
  funext y U3
  cases view y U3 with
  |none=>rfl
  |some q=>
   cases give r U3 with
   |none=>rfl
   |some p=>
    simp only[IC];cases x with
    |v s=>cases slot p.2 j<;>rfl
    |loc k=>
     cases slot p.2 j with
     |none=>simp
     |some s=>
      cases s with
      |dct t ks l=>simp
      |_=>simp
 exact congrArg (λz=>b U z D'.ex) e
def zpj:yQ j a D' r U=zx j U (yP j a D' r) D'.ex:=rfl
def znO:yP j a D' r x U=a U (yO j D' r x) D'.ex:=rfl
def zpL:yO j D' r x y U=yN j D' x (view y U) (give r U):=rfl
def zp8:yN j D' (.loc j) (some q) (some (s,U))=yM j D' q s (slot U j) U:=by show(j=j/\_)=_;simp
def zmy:yM j D' q s (some (.dct true ks l)) U=(aH true q=true/\ks.Nodup/\ks.length<big/\D'.nx (U.set j (some (eF true ks l q s)))):=rfl
def CK(o:Option (List D))(U:Env)(Q:List D->Env->Prop):Prop:=zG o λl=>Q l U
def CL(o:Option (S×Env))(Q:List D->Env->Prop):Prop:=zG o λp=>CK (items p.1.toD) p.2 Q
def Pc(Q:List D->Env->Prop):WQ:=λr U=>CL (give r U) Q
def e_It:cF a U QI E=a U (Pc QI) E:=rfl
def zqE:Pc QI r U=CL (give r U) QI:=rfl
def zpb:CL (some (s,U)) QI=CK (items s.toD) U QI:=rfl
def zn4:CK (some l) U QI=QI l U:=rfl
def znW:items (.lst l)=some l:=rfl
def zpN:items (.tup l)=some l:=rfl
def zpp:items (.str l)=some (l.map λc=>.str [c]):=rfl
def CT(o:Option (List D))(U:Env)(Q:List D->Env->Prop):Prop:=zG o λl=>Q (dG 0 l) U
def CU(o:Option (S×Env))(Q:List D->Env->Prop):Prop:=zG o λp=>CT (items p.1.toD) p.2 Q
def Pg(Q:List D->Env->Prop):WQ:=λr U=>CU (give r U) Q
def e_En:tE a U QI E=a U (Pg QI) E:=rfl
def zp1:Pg QI r U=CU (give r U) QI:=rfl
def zn0:CU (some (s,U)) QI=CT (items s.toD) U QI:=rfl
def zoc:CT (some l) U QI=QI (dG 0 l) U:=rfl
def Cq(o p:Option (List D))(U:Env)(Q:List D->Env->Prop):Prop:=zG o λl=>zG p λm=>Q (eV l m) U
def Cr(s:S)(o:Option (S×Env))(Q:List D->Env->Prop):Prop:=zG o λq=>Cq (items s.toD) (items q.1.toD) q.2 Q
def Cs(t:R)(o:Option (S×Env))(Q:List D->Env->Prop):Prop:=zG o λp=>Cr p.1 (give t p.2) Q
def Ct(r:R)(Q:List D->Env->Prop):WQ:=λt U=>Cs t (give r U) Q
def OW(b:WE)(Q:List D->Env->Prop)(E:WX):WQ:=λr U=>b U (Ct r Q) E
def e_Zi:wN a b U QI E=a U (OW b QI E) E:=rfl
def zoa:OW b QI E r U=b U (Ct r QI) E:=rfl
def zn8:Ct r QI x U=Cs x (give r U) QI:=rfl
def zoR:Cs x (some (s,U)) QI=Cr s (give x U) QI:=rfl
def zqe:Cr s' (some (s,U)) QI=Cq (items s'.toD) (items s.toD) U QI:=rfl
def zqD{l m:List D}:Cq (some l) (some m) U QI=QI (eV l m) U:=rfl
def CF(o:Option D)(Q:List D->Env->Prop)(U:Env):Prop:=match o with|some (.int j)=>(-big<=j/\j<=big)/\Q (fromTo 0 j.toNat) U|_=>False
def OZ(Q:List D->Env->Prop):WQ:=λr U=>CF (view r U) Q U
def e_R1:bT a U QI E=a U (OZ QI) E:=rfl
def zpT:OZ QI r U=CF (view r U) QI U:=rfl
def zpr:CF (some (.int z)) QI U=((-big<=z/\z<=big)/\QI (fromTo 0 z.toNat) U):=rfl
def kFor(g:WG)(b:WS)(D:Ends):List FL.D->Env->Prop:=λl U=>cK g b l D U
def zqg:fI it g v D' U=it U (kFor g v D') D'.ex:=rfl
def zlo:kFor g v D' l U=cK g v l D' U:=rfl
def OT(g:WG)(b:WS)(xs:List FL.D)(D:Ends):Ends:={D with nx:=cK g b xs D,ct:=cK g b xs D,bk:=D.nx}
def XA(g:WG)(b:WS)(xs:List FL.D)(D:Ends):Env->Prop:=λU=>b (OT g b xs D) U
def KU:cK g v (d::xs) D' U=g (.sh d) U (XA g v xs D'):=rfl
def uQ(n:Nat)(o:Option S)(U:Env)(Q:WQ):Prop:=zG o λs=>Q (.v s) (U.take n)
def uR(n:Nat)(Q:WQ):Env->Prop:=λU=>uQ n (slot U n) U Q
def yF(n:Nat)(E:WX):WX:=NX
def Pb(n k:Nat)(g:WG)(c:WT)(b:WB)(Q:WQ)(E:WX):List D->Env->Prop:=λl U=>aO g c b l (U++some (.lst [])::List.replicate k none) (uR n Q) (yF n E)
def e_LC:sY n m it g c bb U Q E=it U (Pb n m g c bb Q E) E:=rfl
def zpJ:Pb n m g c bb Q E l U=aO g c bb l (U++some (.lst [])::List.replicate m none) (uR n Q) (yF n E):=rfl
def zpa:uR n Q U=uQ n (slot U n) U Q:=rfl
def zlJ:uQ n (some s) U Q=Q (.v s) (U.take n):=rfl
def xW(g:WG)(c:WT)(b:WB)(xs:List D)(Q:Env->Prop)(E:WX):Env->Prop:=λU=>aO g c b xs U Q E
def Cp(g:WG)(c:WT)(b:WB)(xs:List D)(Q:Env->Prop)(E:WX):Bool->Env->Prop:=λk U=>if k then b U (xW g c b xs Q E) E else aO g c b xs U Q E
def OU(g:WG)(c:WT)(b:WB)(xs:List D)(Q:Env->Prop)(E:WX):Env->Prop:=λU=>c U (Cp g c b xs Q E) E
def zpM:aO g c bb [] U QE E=QE U:=rfl
def Dd:aO g c bb (d::xs) U QE E=g (.sh d) U (OU g c bb xs QE E):=rfl
def zoH:OU g c bb xs QE E U=c U (Cp g c bb xs QE E) E:=rfl
def zlg:Cp g c bb xs QE E true U=bb U (xW g c bb xs QE E) E:=rfl
def zpe:xW g c bb xs QE E U=aO g c bb xs U QE E:=rfl
def yK(n:Nat)(s:S)(o:Option S)(U:Env)(Q:Env->Prop):Prop:=match o with
 |some (.lst l)=>l.length<big/\Q (U.set n (some (.lst (l++[s]))))
 |_=>False
def yL(n:Nat)(o:Option (S×Env))(Q:Env->Prop):Prop:=zG o λp=>yK n p.1 (slot p.2 n) p.2 Q
def KH(n:Nat)(Q:Env->Prop):WQ:=λr U=>yL n (give r U) Q
def e_Em:dQ n a U QE E=a U (KH n QE) E:=by unfold dQ KH yL yK;rfl
def zoh:KH n QE r U=yL n (give r U) QE:=rfl
def zpl:yL n (some (s,U)) QE=yK n s (slot U n) U QE:=rfl
def zpS:yK n s (some (.lst l)) U QE=(l.length<big/\QE (U.set n (some (.lst (l++[s]))))):=rfl
def OV(g:WG)(c:WT)(b:WB)(Q:Env->Prop)(E:WX):List D->Env->Prop:=λl U=>aO g c b l U Q E
def e_bF:vK it g c bb U QE E=it U (OV g c bb QE E) E:=rfl
def zqC:OV g c bb QE E l U=aO g c bb l U QE E:=rfl
def znT:eK U QT E=QT true U:=rfl
def CS(o:Option (List S))(P:S->List S->Prop)(s:S):Prop:=zG o λfs=>P s fs
def CA(n:Nat)(ss:List S)(P:S->List S->Prop)(i:Nat)(o:Option S)(U:Env):Prop:=zG o λs=>if i<n then CS (aC ss (U.set i (some (.sh s.toD)))) P (.sh s.toD)else CS (aC ss U) P s
def Hl(n:Nat)(ss:List S)(P:S->List S->Prop):WQ:=λr U=>match r with
 |.v s=>CS (aC ss U) P s
 |.loc i=>CA n ss P i (slot U i) U
def Pi(n:Nat)(ss:List S)(P:S->List S->Prop)(PX:D->List S->Prop):Ends where
 nx:=λU=>CS (aC ss U) P (.sh .non)
 rt:=Hl n ss P
 bk:=λ_=>False
 ct:=λ_=>False
 ex:=λx U=>zG (aC ss U) λfs=>PX x fs
def kE(hl:ss.length=n)(hk:((List.range ss.length).all λi=>decide (i∈ks))=true)(h:v (Pi n ss P PX) (ss.map some++List.replicate (m-n) none)):jB n m ks v ss P PX:=by refine⟨hl,λi s hi=>?_,h⟩;have:=(qh.mp hi).1;exact .inl (by simpa using qJ.mp hk i (by simpa using this))
def zpy:(Pi n ss P PX).rt=Hl n ss P:=rfl
def e_Rt:Hl n ss P (.v s) U=CS (aC ss U) P s:=rfl
def zog:Hl n ss P (.loc i) U=CA n ss P i (slot U i) U:=rfl
def zoQ(h:¬i<n):CA n ss P i (some s) U=CS (aC ss U) P s:=by show(if i<n then _ else _)=_;rw[q9 h]
def e_Fn:CS (some fs) P s=P s fs:=rfl
def fA(s:S):Option (List S)->Option (List S)
 |some fs=>some (s::fs)
 |none=>none
def e_f0:aC [] U=some []:=by cases U<;>rfl
def e_fs:aC (.sh d::ss) (o::U)=fA (.sh d) (aC ss U):=by show(aC ss U).map _=_;cases aC ss U<;>rfl
def e_fl:aC (.lst l::ss) (some s::U)=fA s (aC ss U):=by show(aC ss U).map _=_;cases aC ss U<;>rfl
def e_fA:fA s (some fs)=some (s::fs):=rfl
def zoY:cO (.int i) (.int j)=some (.sh (.int (i+j))):=rfl
def zmM(h:x.length+y.length<=big):cO (.str x) (.str y)=some (.sh (.str (x++y))):=q8 h
def znd(h:l.length+m.length<=big):cO (.lst l) (.lst m)=some (.lst ((l++m).map .sh)):=q8 h
def zo9:rG (.int i) (.int j)=some (.sh (.int (i-j))):=rfl
def zlL(h:-(2^64)<i/\i<2^64):uG (.int i) (.int j)=some (.sh (.int (i*j))):=by show(if oS i j=true then _ else none)=_;rw[q8 (by simp only[oS,h.1,h.2,decide_true,Bool.and_self,Bool.true_or])]
def zn6(h:0<j):gQ (.int i) (.int j)=some (.sh (.int (i %j))):=q8 h
def zlZ(h:0<j)(h2:j<18446744073709551616):jS (.int i) (.int j)=some (.sh (.int (i/j))):=q8 ⟨h,h2⟩
def zoU(h:0<=j/\j<=1000/\i.natAbs<2^64):uF (.int i) (.int j)=some (.sh (.int (i^j.toNat))):=q8 h
def znS:lS (.int i)=some (.sh (.int (-i))):=rfl
def e_lt:Hn (.int i) (.int j)=some (decide (i<j)):=rfl
def e_gt:DL (.int i) (.int j)=some (decide (j<i)):=rfl
def e_ge:Ho (.int i) (.int j)=some (decide (j<=i)):=rfl
def zqA:fM (.int i) (.int j)=some (decide (i=j)):=by unfold fM;rw[q9 (by exact λz=>Bool.noConfusion (show false=true from z))];simp
def zmU:fM (.str x) (.str y)=some (decide (x=y)):=by unfold fM;rw[q9 (by exact λz=>Bool.noConfusion (show false=true from z))];simp
def zqB:mI (.str x) (.str y)=some (!decide (x=y)):=by unfold mI;rw[zmU];rfl
def zlw:fM (.bl b) (.bl c)=some (decide (b=c)):=by unfold fM;rw[q9 (by exact λz=>Bool.noConfusion (show false=true from z))];simp
def zpk:mI (.bl b) (.bl c)=some (!decide (b=c)):=by unfold mI;rw[zlw];rfl
def zqF:iC (.bl b)=some b:=rfl
def zld:eA [.str x]=some (.sh (.int x.length)):=rfl
def zmZ:eA [.tup l]=some (.sh (.int l.length)):=rfl
def zly:eA [.lst l]=some (.sh (.int l.length)):=rfl
def zk9:vJ [.bl b]=some (.sh (.int (if b then 1 else 0))):=rfl
def zlF:cC [.lst l]=some (.sh (.tup l)):=rfl
def znD(h:x.length<=big):iY [.str x]=some (.lst (x.map λc=>.sh (.str [c]))):=q8 h
def zo7:Ai [.int i,.int j]=some (.sh (.int (if j>i then j else i))):=rfl
def zn1:Ah [.int i,.int j]=some (.sh (.int (if j<i then j else i))):=rfl
def zpt:oN (.str x) a b=some (.sh (.str (bV x a b))):=rfl
def zo0:zx 0 (some (.sh d)::U) Q E=Q (.v (.sh d)) (some (.sh d)::U):=rfl
def zpA:zx 0 (some (.lst l)::U) Q E=Q (.loc 0) (some (.lst l)::U):=rfl
def zpn:slot (v::U) 0=v:=rfl
def zok:List.set (u::U) 0 v=v::U:=rfl
def zp4:zx 1 (s0::some (.sh d)::U) Q E=Q (.v (.sh d)) (s0::some (.sh d)::U):=rfl
def zpX:slot (s0::v::U) 1=v:=rfl
def zoV:List.set (s0::u::U) 1 v=s0::v::U:=rfl
def zpO:zx 2 (s0::s1::some (.sh d)::U) Q E=Q (.v (.sh d)) (s0::s1::some (.sh d)::U):=rfl
def zoD:zx 2 (s0::s1::some (.lst l)::U) Q E=Q (.loc 2) (s0::s1::some (.lst l)::U):=rfl
def zo4:slot (s0::s1::v::U) 2=v:=rfl
def zp6:List.set (s0::s1::u::U) 2 v=s0::s1::v::U:=rfl
def zou:zx 3 (s0::s1::s2::some (.sh d)::U) Q E=Q (.v (.sh d)) (s0::s1::s2::some (.sh d)::U):=rfl
def zqo:zx 3 (s0::s1::s2::some (.lst l)::U) Q E=Q (.loc 3) (s0::s1::s2::some (.lst l)::U):=rfl
def zqG:zx 3 (s0::s1::s2::some (.dct t ks l)::U) Q E=Q (.loc 3) (s0::s1::s2::some (.dct t ks l)::U):=rfl
def zqy:slot (s0::s1::s2::v::U) 3=v:=rfl
def zp5:List.set (s0::s1::s2::u::U) 3 v=s0::s1::s2::v::U:=rfl
def zow:zx 4 (s0::s1::s2::s3::some (.sh d)::U) Q E=Q (.v (.sh d)) (s0::s1::s2::s3::some (.sh d)::U):=rfl
def zoj:zx 4 (s0::s1::s2::s3::some (.lst l)::U) Q E=Q (.loc 4) (s0::s1::s2::s3::some (.lst l)::U):=rfl
def zon:zx 4 (s0::s1::s2::s3::some (.dct t ks l)::U) Q E=Q (.loc 4) (s0::s1::s2::s3::some (.dct t ks l)::U):=rfl
def zp7:slot (s0::s1::s2::s3::v::U) 4=v:=rfl
def zpd:List.set (s0::s1::s2::s3::u::U) 4 v=s0::s1::s2::s3::v::U:=rfl
def zoW:zx 5 (s0::s1::s2::s3::s4::some (.sh d)::U) Q E=Q (.v (.sh d)) (s0::s1::s2::s3::s4::some (.sh d)::U):=rfl
def zo6:zx 5 (s0::s1::s2::s3::s4::some (.lst l)::U) Q E=Q (.loc 5) (s0::s1::s2::s3::s4::some (.lst l)::U):=rfl
def zpu:slot (s0::s1::s2::s3::s4::v::U) 5=v:=rfl
def zqu:List.set (s0::s1::s2::s3::s4::u::U) 5 v=s0::s1::s2::s3::s4::v::U:=rfl
def zp2:zx 6 (s0::s1::s2::s3::s4::s5::some (.sh d)::U) Q E=Q (.v (.sh d)) (s0::s1::s2::s3::s4::s5::some (.sh d)::U):=rfl
def zqt:zx 6 (s0::s1::s2::s3::s4::s5::some (.lst l)::U) Q E=Q (.loc 6) (s0::s1::s2::s3::s4::s5::some (.lst l)::U):=rfl
def znV:slot (s0::s1::s2::s3::s4::s5::v::U) 6=v:=rfl
def zpz:List.set (s0::s1::s2::s3::s4::s5::u::U) 6 v=s0::s1::s2::s3::s4::s5::v::U:=rfl
def znQ:zx 7 (s0::s1::s2::s3::s4::s5::s6::some (.sh d)::U) Q E=Q (.v (.sh d)) (s0::s1::s2::s3::s4::s5::s6::some (.sh d)::U):=rfl
def zph:zx 7 (s0::s1::s2::s3::s4::s5::s6::some (.lst l)::U) Q E=Q (.loc 7) (s0::s1::s2::s3::s4::s5::s6::some (.lst l)::U):=rfl
def znU:slot (s0::s1::s2::s3::s4::s5::s6::v::U) 7=v:=rfl
def zqn:List.set (s0::s1::s2::s3::s4::s5::s6::u::U) 7 v=s0::s1::s2::s3::s4::s5::s6::v::U:=rfl
def zqj:zx 8 (s0::s1::s2::s3::s4::s5::s6::s7::some (.sh d)::U) Q E=Q (.v (.sh d)) (s0::s1::s2::s3::s4::s5::s6::s7::some (.sh d)::U):=rfl
def zol:slot (s0::s1::s2::s3::s4::s5::s6::s7::v::U) 8=v:=rfl
def zpx:List.set (s0::s1::s2::s3::s4::s5::s6::s7::u::U) 8 v=s0::s1::s2::s3::s4::s5::s6::s7::v::U:=rfl
def zqx:zx 9 (s0::s1::s2::s3::s4::s5::s6::s7::s8::some (.sh d)::U) Q E=Q (.v (.sh d)) (s0::s1::s2::s3::s4::s5::s6::s7::s8::some (.sh d)::U):=rfl
def zoP:slot (s0::s1::s2::s3::s4::s5::s6::s7::s8::v::U) 9=v:=rfl
def zoz:List.set (s0::s1::s2::s3::s4::s5::s6::s7::s8::u::U) 9 v=s0::s1::s2::s3::s4::s5::s6::s7::s8::v::U:=rfl
def zlr:zx 10 (s0::s1::s2::s3::s4::s5::s6::s7::s8::s9::some (.sh d)::U) Q E=Q (.v (.sh d)) (s0::s1::s2::s3::s4::s5::s6::s7::s8::s9::some (.sh d)::U):=rfl
def zlO:List.set (s0::s1::s2::s3::s4::s5::s6::s7::s8::s9::u::U) 10 v=s0::s1::s2::s3::s4::s5::s6::s7::s8::s9::v::U:=rfl
def zmN:zx 11 (s0::s1::s2::s3::s4::s5::s6::s7::s8::s9::s10::some (.sh d)::U) Q E=Q (.v (.sh d)) (s0::s1::s2::s3::s4::s5::s6::s7::s8::s9::s10::some (.sh d)::U):=rfl
def znz:List.set (s0::s1::s2::s3::s4::s5::s6::s7::s8::s9::s10::u::U) 11 v=s0::s1::s2::s3::s4::s5::s6::s7::s8::s9::s10::v::U:=rfl
def zl0:lZ o (.v (.sh p)) Q (.v (.sh q)) U=kV (o p q) Q U:=rfl
def znC:lY oc (.v (.sh p)) QT (.v (.sh q)) U=kC (oc p q) QT U:=rfl
def zmX:lY oc (.v (.sh p)) QT (.loc k) U=pC oc (some p) (view (.loc k) U) QT U:=rfl
def zmt:lZ o (.v (.lst l)) Q (.v (.lst m)) U=pD o (some (S.lst l).toD) (some (S.lst m).toD) Q U:=rfl
def znl:lY oc (.loc j) QT (.v (.lst m)) U=pC oc (view (.loc j) U) (some (S.lst m).toD) QT U:=rfl
def znZ:rS d (.dct t ks vs)=DK d (.dct t ks vs):=rfl
def zng:fT p q=(rS p q).map (!·):=rfl
def CQ(Q:WQ)(o:Option (S×Env)):Prop:=zG o λp=>Q (.v (.sh p.1.toD)) p.2
def Pe(Q:WQ):WQ:=λr U=>CQ Q (give r U)
def zpf:dD a U Q E=a U (Pe Q) E:=rfl
def znx:Pe Q r U=CQ Q (give r U):=rfl
def zl8:CQ Q (some (s,U))=Q (.v (.sh s.toD)) U:=rfl
def yJ(o:Option (Option D))(z:R)(U:Env)(Q:WQ):Prop:=zG o λo=>match o with
 |some e=>Q (.v (.sh e)) U
 |none=>Q z U
def CN(o p:Option D)(z:R)(U:Env)(Q:WQ):Prop:=zG o λdd=>zG p λq=>yJ (DJ dd q) z U Q
def CO(x y:R)(Q:WQ):WQ:=λz U=>CN (zQ x U) (view y U) z U Q
def CP(x:R)(d:WE)(Q:WQ)(E:WX):WQ:=λy U=>d U (CO x y Q) E
def yX(o:Option D):Prop:=zG o λdd=>Da dd=true
def Fz(k d:WE)(Q:WQ)(E:WX):WQ:=λx U=>yX (zQ x U)/\k U (CP x d Q E) E
def e_Ge:sZ a b c U Q E=a U (Fz b c Q E) E:=rfl
def zn2:Fz b c Q E x U=(yX (zQ x U)/\b U (CP x c Q E) E):=rfl
def zp0:yX (some (.dct t ks vs))=True:=by simp[yX,Da]
def zpg:CP x c Q E y U=c U (CO x y Q) E:=rfl
def zo2:CO x y Q z U=CN (zQ x U) (view y U) z U Q:=rfl
def zot:CN (some p) (some q) z U Q=yJ (DJ p q) z U Q:=rfl
def zlV:yJ (some (some d)) z U Q=Q (.v (.sh d)) U:=rfl
def zmm:yJ (some none) z U Q=Q z U:=rfl
def zm0:vC (some (.dct t ks (vs.map S.sh)))=some (.dct t ks vs):=by show(if(vs.map S.sh).all S.isSh=true then some (S.toD (.dct t ks (vs.map S.sh)))else none)=_;rw[q8 e_sh,S.toD_dct,zan]
def CB(res:Bool)(p:D)(o:Option D)(Q:Bool->Env->Prop)(U:Env):Prop:=zG o λq=>p=q/\Q res U
def CC(res:Bool)(p:D)(Q:Bool->Env->Prop):WQ:=λy U=>CB res p (zQ y U) Q U
def CD(res:Bool)(b:WE)(o:Option D)(Q:Bool->Env->Prop)(E:WX)(U:Env):Prop:=zG o λp=>cI p=true/\b U (CC res p Q) E
def Fv(res:Bool)(b:WE)(Q:Bool->Env->Prop)(E:WX):WQ:=λx U=>CD res b (zQ x U) Q E U
def e_Re:gZ res a b U QT E=a U (Fv res b QT E) E:=rfl
def zpQ:Fv res b QT E x U=CD res b (zQ x U) QT E U:=rfl
def zqa:CD res b (some p) QT E U=(cI p=true/\b U (CC res p QT) E):=rfl
def zoe:CC res p QT y U=CB res p (zQ y U) QT U:=rfl
def zoS:CB res p (some q) QT U=(p=q/\QT res U):=rfl
def znE{z z':Int}:eD (.int z) (.int z')=uG (.int z) (.int z'):=rfl
def uB{w v:WB}(h:w=v)(U:Env)(Q:Env->Prop)(E:WX):w U Q E=v U Q E:=by rw[h]
def uS{w v:WS}(h:w=v)(D':Ends)(U:Env):w D' U=v D' U:=by rw[h]
def Ph(s0:S)(n k:Nat)(g:WG)(c:WT)(b:WB)(Q:WQ)(E:WX):List D->Env->Prop:=λl U=>aO g c b l (U++some s0::List.replicate k none) (uR n Q) (yF n E)
def e_CM:DH s0 n m it g c bb U Q E=it U (Ph s0 n m g c bb Q E) E:=rfl
def zoE:Ph s0 n m g c bb Q E l U=aO g c bb l (U++some s0::List.replicate m none) (uR n Q) (yF n E):=rfl
section
variable{U:Env}{Q:WQ}{QE:Env->Prop}{E:WX}{a b:WE}{x y r:R}{s:S}{q d:D}{n m j:Nat}{l:List D}
def yU(n:Nat)(s:S)(o:Option S)(U:Env)(Q:Env->Prop):Prop:=match o with
 |some (.set l)=>cX (s.toD::l)=true/\l.length<=150/\Q (U.set n (some (.set (dB l s.toD))))
 |_=>False
def yV(n:Nat)(p:Option (S×Env))(Q:Env->Prop):Prop:=zG p λp=>yU n p.1 (slot p.2 n) p.2 Q
def KJ(n:Nat)(Q:Env->Prop):WQ:=λr U=>yV n (give r U) Q
def e_Ad:mD n a U QE E=a U (KJ n QE) E:=by unfold mD KJ yV yU;rfl
def zoL:KJ n QE r U=yV n (give r U) QE:=rfl
def zpc:yV n (some (s,U)) QE=yU n s (slot U n) U QE:=rfl
def zoA:yU n s (some (.set l)) U QE=(cX (s.toD::l)=true/\l.length<=150/\QE (U.set n (some (.set (dB l s.toD))))):=rfl
def znJ:(S.set l).toD=.set l:=rfl
def zlq:dN [.lst l]=cG l:=rfl
def zmG:dN [.set l]=cG l:=rfl
def znX:Ag [.tup l]=newS l:=rfl
def xZ(j:Nat)(t:Bool)(z:List D×List S×Nat)(l':List S)(Q:WQ)(o:Option (S×Env)):Prop:=zG o λp=>l'.length<big/\Q (.v (.sh .non)) (p.2.set j (some (.dct t z.1 (z.2.1.set z.2.2 (.lst (l'++[p.1]))))))
def yA(j:Nat)(t:Bool)(z:List D×List S×Nat)(l':List S)(Q:WQ):WQ:=λr U=>xZ j t z l' Q (give r U)
def yB(j:Nat)(t:Bool)(z:List D×List S×Nat)(e:WE)(o:Option S)(U:Env)(Q:WQ)(E:WX):Prop:=match o with
 |some (.lst l')=>e (U.set j none) (yA j t z l' Q) E
 |_=>False
def yC(j:Nat)(e:WE)(o:Option D)(p:Option S)(U:Env)(Q:WQ)(E:WX):Prop:=match o,p with
 |some q,some (.dct t ks l)=>aH t q=true/\ks.Nodup/\ks.length<big/\yB j t (bA ks l q) e (bA ks l q).2.1[(bA ks l q).2.2]? U Q E
 |_,_=>False
def yD(j:Nat)(e:WE)(Q:WQ)(E:WX):WQ:=λy U=>yC j e (view y U) (slot U j) U Q E
def KE(j:Nat)(o:Option S)(k e:WE)(U:Env)(Q:WQ)(E:WX):Prop:=match o with
 |some (.dct _ _ _)=>k U (yD j e Q E) E
 |_=>False
def e_SA:fO j a b U Q E=KE j (slot U j) a b U Q E:=by unfold fO KE yD yC yB yA xZ;rfl
def zoq{t:Bool}{ks:List D}{l:List S}:KE j (some (.dct t ks l)) a b U Q E=a U (yD j b Q E) E:=rfl
def zox:yD j b Q E y U=yC j b (view y U) (slot U j) U Q E:=rfl
def zof{t:Bool}{ks:List D}{l:List S}:yC j b (some q) (some (.dct t ks l)) U Q E=(aH t q=true/\ks.Nodup/\ks.length<big/\yB j t (bA ks l q) b (bA ks l q).2.1[(bA ks l q).2.2]? U Q E):=rfl
def SV{t:Bool}{z:List D×List S×Nat}{l':List S}(h:z.2.1[z.2.2]?=some (.lst l')):yB j t z b z.2.1[z.2.2]? U Q E=b (U.set j none) (yA j t z l' Q) E:=by rw[h];rfl
def zoN{t:Bool}{z:List D×List S×Nat}{l':List S}:yA j t z l' Q r U=xZ j t z l' Q (give r U):=rfl
def zqc{t:Bool}{z:List D×List S×Nat}{l':List S}:xZ j t z l' Q (some (s,U))=(l'.length<big/\Q (.v (.sh .non)) (U.set j (some (.dct t z.1 (z.2.1.set z.2.2 (.lst (l'++[s]))))))):=rfl
variable{fr:D->Option S}
variable{c:WE}{QI:List D->Env->Prop}
end
section
variable{U:Env}{Q:WQ}{E:WX}{a:WE}{r:R}{j:Nat}{d:D}{l:List D}{x:List Nat}{s:S}{o:Option S}
def Hm(j:Nat)(o:Option S)(U:Env)(Q:WQ):Prop:=match o with
 |some (.lst l)=>zG l[l.length-1]? λs=>Q (.v s) (U.set j (some (.lst l.dropLast)))
 |_=>False
def e_Pp{U:Env}{Q:WQ}{E:WX}{j:Nat}:sV j U Q E=Hm j (slot U j) U Q:=by unfold sV Hm;rfl
def zoM{U:Env}{Q:WQ}{j:Nat}{l:List S}{s:S}:Hm j (some (.lst (l++[s]))) U Q=Q (.v s) (U.set j (some (.lst l))):=by simp[Hm,zG]
def CV(o:Option D)(p:Option (S×Env))(Q:WQ):Prop:=zG o λq=>zG p λp=>aH true q=true/\Q (.v (.dct true [q] [p.1])) p.2
def CW(x:R)(Q:WQ):WQ:=λy U=>CV (view x U) (give y U) Q
def FC(v:WE)(Q:WQ)(E:WX):WQ:=λx U=>v U (CW x Q) E
def e_Dt:mS a b U Q E=a U (FC b Q E) E:=rfl
def zpI{x:R}:FC b Q E x U=b U (CW x Q) E:=rfl
def zpw{x y:R}:CW x Q y U=CV (view x U) (give y U) Q:=rfl
def zpP:CV (some q) (some (s,U)) Q=(aH true q=true/\Q (.v (.dct true [q] [s])) U):=rfl
def zjG{ks vs:List D}(h:ks.length<=big)(h2:ks.all yW=true):kU [.dct true ks vs]=some (.lst (ks.map .sh)):=q8 ⟨h,h2⟩
end
def zlY(h:l.all (aH true)=true/\m.all (aH true)=true/\l.length+m.length<=150/\m≠[]):Hj (.set l) (.set m)=some (.set (aJ (l++m))):=q8 h
def sg(c:Nat):D:=.str [c]
theorem Mo(l:List Nat):eL (l.map sg)=some (l.map λc=>[c]):=by have:=VQ (l.map λc=>[c]);rw[qF]at this;exact this
theorem Nx:∀l:List Nat,((l.map λc=>[c]).map List.length).sum=l.length
 |[]=>rfl
 |c::l=>by have:=Nx l;simp only[qA,sum_cons,qu,qw]at this⊢;lia
theorem NL:∀l:List Nat,(l.map λc=>[c]).flatten=l
 |[]=>rfl
 |c::l=>by have:=NL l;simp only[qA,List.flatten_cons,List.singleton_append];rw[this]
def Mq(h:l.length<=big):lU [] [.lst (l.map sg)]=some (.sh (.str l)):=by show(eL (l.map sg)).bind _=_;grind[Mo,List.length,big,eM,Nx,VS,NL]
def wO:D->Nat
 |.str [c]=>c
 |_=>0
def Sf(h:l.Perm (A.map sg)):∃A':List Nat,A'.Perm A/\l=A'.map sg:=by
 refine⟨l.map wO,?_,?_⟩
 .have:=h.map wO;rw[qF]at this;have e:(wO∘sg)=id:=funext λc=>rfl;rw[e,map_id]at this;exact this
 .rw[qF];have:∀d∈l,(sg∘wO) d=id d:=λd hd=>by obtain⟨c,_,rfl⟩:=qL.mp (h.mem_iff.mp hd);rfl
  rw[map_congr_left this,map_id]
def dS:big=1000000:=rfl
def Au:(fromTo lo n).length=n:=by simp[fromTo]
def Wi{l:List D}{k:Nat}(h:l[k]?=some d):(l.map S.sh)[k]?=some (.sh d):=by rw[qG,h];rfl
def MQ{α β:Type}{f:α->β}{l:List α}{z:Int}(h0:0<=z)(h1:z<l.length):∃v,v∈l/\l[z.toNat]?=some v/\atI (l.map f) z=some (f v):=by
 have hz:z.toNat<l.length:=by lia
 exact⟨l[z.toNat],getElem_mem hz,qi hz,Ba h0 (by rw[qG,qi hz];rfl)⟩
def HI(h0:0<=z)(h1:z<l.length):∃v,v∈l/\l[z.toNat]?=some v/\atI l z=some v:=by
 have hz:z.toNat<l.length:=by lia
 exact⟨l[z.toNat],getElem_mem hz,qi hz,Ba h0 (qi hz)⟩
def IQ{α β:Type}{f:α->β}:∀(l:List α)(k:Nat),(l.map f).eraseIdx k=(l.eraseIdx k).map f
 |[],_=>rfl
 |_::_,0=>rfl
 |x::l,k+1=>by show f x::(l.map f).eraseIdx k=f x::(l.eraseIdx k).map f;rw[IQ l k]
def RC(l:List α){k:Int}(h0:0<=k)(h1:k<=l.length):bV l none (some k)=l.take k.toNat:=by unfold bV sIx;grind
def OL{α:Type}:∀(l:List α)(i:Nat)(h:i<l.length),(l[i]::l.eraseIdx i).Perm l
 |x::l,0,_=>List.Perm.refl _
 |x::l,i+1,h=>by
  have hi:i<l.length:=by simpa using h
  exact(List.Perm.swap x l[i] _).trans (List.Perm.cons x (OL l i hi))
def xU(b:WB)(K:Env->Prop)(E:WX):Bool->Env->Prop:=λk U=>if k then b U K E else K U
def xV(c:WT)(b:WB)(K:Env->Prop)(E:WX):Env->Prop:=λU=>c U (xU b K E) E
def gL:xV c b K E U=c U (xU b K E) E:=rfl
def rW:xU b K E true U=b U K E:=rfl
def Gr:xU b K E false U=K U:=rfl
def Dp{α:Type}{toD:α->D}(I:List α->Env->Prop)(xs:List α)
  (step:∀(pre:List α)(x:α)(post:List α)(K:Env->Prop)(U:Env),pre++x::post=xs->I pre U->(∀U',I (pre++[x]) U'->K U')->g (.sh (toD x)) U (xV c b K E))
  (fin:∀U,I xs U->Q U)(h0:I [] U):aO g c b (xs.map toD) U Q E:=by
 have gen:∀(post pre:List α)(U:Env),pre++post=xs->I pre U->aO g c b (post.map toD) U Q E:=by
  intro post;induction post with
  |nil=>intro pre U e h;rw[qB]at e;subst e;exact fin U h
  |cons x post ih=>intro pre U e h;rw[qA,Dd];exact step pre x post (xW g c b (post.map toD) Q E) U e h λU' h'=>ih (pre++[x]) U' (by rw[<-e];simp) h'
 exact gen xs [] U rfl h0
def rZ{α:Type}{toD:α->D}(I:List α->Env->Prop)(xs:List α)
  (step:∀(pre:List α)(x:α)(post:List α)(D2:Ends)(U:Env),pre++x::post=xs->I pre U->(∀U',I (pre++[x]) U'->D2.nx U')->(∀U',I (pre++[x]) U'->D2.ct U')->D2.rt=D'.rt->D2.bk=D'.nx->g (.sh (toD x)) U (λU=>b D2 U))
  (fin:∀U,I xs U->D'.nx U)(h0:I [] U):cK g b (xs.map toD) D' U:=by
 have gen:∀(post pre:List α)(U:Env),pre++post=xs->I pre U->cK g b (post.map toD) D' U:=by
  intro post;induction post with
  |nil=>intro pre U e h;rw[qB]at e;subst e;exact fin U h
  |cons x post ih=>intro pre U e h;rw[qA,KU];have k:=λU' h'=>ih (pre++[x]) U' (by rw[<-e];simp) h';exact step pre x post (OT g b (post.map toD) D') U e h k k rfl rfl
 exact gen xs [] U rfl h0
def LN{α:Type}{toD:α->D}(I:List α->List S->Env->Prop)(xs:List α)
  (step:∀(pre:List α)(x:α)(post:List α)(l:List S)(U:Env)(vs:List (Option S))(K:Env->Prop),pre++x::post=xs->vs.length=k->I pre l U->(∀l' U1 vs',vs'.length=k->I (pre++[x]) l' U1->K (U1++some (.lst l')::vs'))->g (.sh (toD x)) (U++some (.lst l)::vs) (xV c b K E))
  (fin:∀l U vs,vs.length=k->I xs l U->Q (U++some (.lst l)::vs))(hv:vs.length=k)(h0:I [] [] U):aO g c b (xs.map toD) (U++some (.lst [])::vs) Q E:=by
 refine Dp (λpre U'=>∃l U1 vs',vs'.length=k/\I pre l U1/\U'=U1++some (.lst l)::vs') xs (λpre x post K U' e hI hK=>?_) (λU' hI=>?_) ⟨[],U,vs,hv,h0,rfl⟩
 .obtain⟨l,U1,vs',h1,h2,rfl⟩:=hI;exact step pre x post l U1 vs' K e h1 h2 λl' U2 vs2 h3 h4=>hK _ ⟨l',U2,vs2,h3,h4,rfl⟩
 .obtain⟨l,U1,vs',h1,h2,rfl⟩:=hI;exact fin l U1 vs' h1 h2
def LP{α:Type}{toD:α->D}(xs:List α)(h:α->Option S)
  (step:∀x∈xs,∀(l:List S)(vs:List (Option S))(K:Env->Prop),vs.length=k->l.length<xs.length->(∀vs',vs'.length=k->K (U++some (.lst (l++(h x).toList))::vs'))->g (.sh (toD x)) (U++some (.lst l)::vs) (xV c b K E))
  (fin:∀vs,vs.length=k->Q (U++some (.lst (xs.filterMap h))::vs))(hv:vs.length=k):aO g c b (xs.map toD) (U++some (.lst [])::vs) Q E:=by
 refine LN (λpre l U'=>U'=U/\l=pre.filterMap h) xs (λpre x post l U' vs K e h1 h2 hK=>?_) (λl U' vs h1 h2=>?_) hv ⟨rfl,rfl⟩
 .obtain⟨rfl,rfl⟩:=h2;have hl:(pre.filterMap h).length<xs.length:=by have:=List.length_filterMap_le h pre;rw[<-e];simp only[qr,qu];lia
  refine step x (by rw[<-e];simp) _ vs K h1 hl λvs' h3=>hK _ _ vs' h3 ⟨rfl,?_⟩;rw[filterMap_append];cases q:h x<;>simp[q]
 .obtain⟨rfl,rfl⟩:=h2;exact fin vs h1
theorem oT{vs:List (Option S)}(h:vs.length=1):∃a,vs=[a]:=by
 match vs,h with
 |[a],_=>exact⟨a,rfl⟩
def AN{vs:List (Option S)}(h:vs.length=2):∃a b,vs=[a,b]:=by
 match vs,h with
 |[a,b],_=>exact⟨a,b,rfl⟩
section
variable{α:Type}
def Pk(xs:List α)(h:α->Option S)
  (step:∀x∈xs,∀(l:List S)(o:Option S)(K:Env->Prop),l.length<xs.length->(∀o,K (U.take n++[some (.lst (l++(h x).toList)),o]))->zF (n+1) (.sh (toD x)) (U.take n++[some (.lst l),o]) (xV c b K E))
  (fin:∀o,Q (U.take n++[some (.lst (xs.filterMap h)),o]))(e:U=U.take n++[some (.lst []),o0]:=by rfl):aO (zF (n+1)) c b (xs.map toD) U Q E:=by
 rw[e];refine LP (k:=1) xs h (λx hx l vs K hv hl hK=>?_) (λvs hv=>?_) rfl
 .obtain⟨a,rfl⟩:=oT hv;exact step x hx l a K hl λo=>hK [o] rfl
 .obtain⟨a,rfl⟩:=oT hv;exact fin a
def KY(xs:List α)(h:α->Option S)
  (step:∀x∈xs,∀(l:List S)(o o':Option S)(K:Env->Prop),l.length<xs.length->(∀o o',K (U.take n++[some (.lst (l++(h x).toList)),o,o']))->cP [zF (n+1),zF (n+2)] (.sh (toD x)) (U.take n++[some (.lst l),o,o']) (xV c b K E))
  (fin:∀o o',Q (U.take n++[some (.lst (xs.filterMap h)),o,o']))(e:U=U.take n++[some (.lst []),o0,o1]:=by rfl):aO (cP [zF (n+1),zF (n+2)]) c b (xs.map toD) U Q E:=by
 rw[e];refine LP (k:=2) xs h (λx hx l vs K hv hl hK=>?_) (λvs hv=>?_) rfl
 .obtain⟨a,a',rfl⟩:=AN hv;exact step x hx l a a' K hl λo o'=>hK [o,o'] rfl
 .obtain⟨a,a',rfl⟩:=AN hv;exact fin a a'
def Pj(xs:List α)(h:α->S)
  (step:∀x∈xs,∀(l:List S)(o:Option S)(K:Env->Prop),l.length<xs.length->(∀o,K (U.take n++[some (.lst (l++[h x])),o]))->zF (n+1) (.sh (toD x)) (U.take n++[some (.lst l),o]) (xV c b K E))
  (fin:∀o,Q (U.take n++[some (.lst (xs.map h)),o]))(e:U=U.take n++[some (.lst []),o0]:=by rfl):aO (zF (n+1)) c b (xs.map toD) U Q E:=
 Pk xs (λx=>some (h x)) step (λo=>by rw[show(xs.filterMap λx=>some (h x))=xs.map h from List.filterMap_eq_map▸rfl];exact fin o) e
def XB(xs:List α)(h:α->S)
  (step:∀x∈xs,∀(l:List S)(o o':Option S)(K:Env->Prop),l.length<xs.length->(∀o o',K (U.take n++[some (.lst (l++[h x])),o,o']))->cP [zF (n+1),zF (n+2)] (.sh (toD x)) (U.take n++[some (.lst l),o,o']) (xV c b K E))
  (fin:∀o o',Q (U.take n++[some (.lst (xs.map h)),o,o']))(e:U=U.take n++[some (.lst []),o0,o1]:=by rfl):aO (cP [zF (n+1),zF (n+2)]) c b (xs.map toD) U Q E:=
 KY xs (λx=>some (h x)) step (λo o'=>by rw[show(xs.filterMap λx=>some (h x))=xs.map h from List.filterMap_eq_map▸rfl];exact fin o o') e
end
def XD{β:Type}(emb:β->S)(xs:List D)(I:Env->Prop)(P:β->Prop)
  (step:∀x∈xs,∀(U:Env)(A:List β)(o:Option S)(K:Env->Prop),I U->A.length<xs.length->(∀U1 y o1,I U1->P y->K (U1++[some (.lst (A.map emb++[emb y])),o1]))->zF (n+1) (.sh x) (U++[some (.lst (A.map emb)),o]) (xV c b K E))
  (fin:∀U(A:List β) o,I U->A.length=xs.length->(∀y∈A,P y)->Q (U++[some (.lst (A.map emb)),o]))(h0:I (U.take n))(e:U=U.take n++[some (.lst []),o0]:=by rfl):aO (zF (n+1)) c b xs U Q E:=by
 rw[e];have:=LN (toD:=λx:D=>x) (k:=1) (g:=zF (n+1)) (c:=c) (b:=b) (E:=E) (Q:=Q) (λpre l U'=>I U'/\∃A:List β,l=A.map emb/\A.length=pre.length/\∀y∈A,P y) xs (λpre x post l U' vs K e h1 h2 hK=>?_) (λl U' vs h1 h2=>?_) (U:=U.take n) (vs:=[o0]) rfl ⟨h0,[],rfl,rfl,λy hy=>nomatch hy⟩
 .rwa[List.map_id']at this
 .obtain⟨hI,A,rfl,hA,hP⟩:=h2;obtain⟨a,rfl⟩:=oT h1;refine step x (by rw[<-e];simp) U' A a K hI (by rw[hA,<-e];simp only[qr,qu];lia) λU1 y o1 h3 h4=>hK _ U1 [o1] rfl ⟨h3,A++[y],by simp,by simp[hA],λz hz=>?_⟩;grind
 grind[oT]
def OS(I:Nat->Env->Prop)(xs:List D)
  (step:∀(k:Nat)(x:D),xs[k]?=some x->∀(D2:Ends)(U:Env),I k U->(∀U',I (k+1) U'->D2.nx U')->(∀U',I (k+1) U'->D2.ct U')->D2.rt=D'.rt->D2.bk=D'.nx->g (.sh x) U (λU=>b D2 U))
  (fin:∀U,I xs.length U->D'.nx U)(h0:I 0 U):cK g b xs D' U:=by
 have:=rZ (toD:=λx:D=>x) (g:=g) (b:=b) (D':=D') (λpre U=>I pre.length U) xs (λpre x post D2 U e hI hnx hct hrt hbk=>step pre.length x (by rw[<-e];simp) D2 U hI (λU' h=>hnx U' (by simpa using h)) (λU' h=>hct U' (by simpa using h)) hrt hbk) fin h0;rwa[List.map_id']at this
def TZ:∀l:List Int,∀d∈l.map D.int,AY d:=λl d hd=>by obtain⟨x,_,rfl⟩:=qL.mp hd;trivial
def Ul:∀l:List (List Nat),∀d∈l.map D.str,AX d:=λl d hd=>by obtain⟨x,_,rfl⟩:=qL.mp hd;trivial
def PV:([a]:List Nat)<[b]↔a<b:=by simp[List.cons_lt_cons_iff]
def Vt{l:List Nat}(h:l.Pairwise (·<=·))(hn:l.Nodup):l.Pairwise (·<·):=by have:=h.and hn;exact this.imp λ⟨h1,h2⟩=>by lia
def Hw{α β:Type}(p:α->Bool)(f:α->β):∀l:List α,(l.filterMap λx=>if p x=true then some (f x)else none)=(l.filter p).map f
 |[]=>rfl
 |x::l=>by have ih:=Hw p f l;cases q:p x<;>simp[q,ih]
def Np{α:Type}[DecidableEq α]:∀(l m:List α),l.Nodup->(∀x∈l,x∈m)->l.length<=m.length
 |[],m,_,_=>by simp
 |x::l,m,hn,hs=>by
  obtain⟨h1,h2⟩:=qM.mp hn;have hx:x∈m:=hs x (by simp);have:=Np l (m.erase x) h2 λy hy=>by refine(List.mem_erase_of_ne ?_).mpr (hs y (by simp[hy]));intro z;subst z;exact h1 hy
  rw[List.length_erase_of_mem hx]at this;have hp:=List.length_pos_of_mem hx;rw[qu];lia
def Il:∀l:List D,(∀d∈l,gJ d<=n)->bB l<=n
 |[],_=>zero_le _
 |d::l,h=>by show max (gJ d) (bB l)<=n;have h1:=h d (by simp);have h2:=Il l λx hx=>h x (by simp[hx]);lia
def RT(h:bB l<=29):mI (.lst l) (.lst [])=some (!l.isEmpty):=by
 unfold mI fM;rw[q9 (by
  have:gJ (.lst l)=bB l+1:=rfl;rw[this];cases l with
  |nil=>exact λz=>Bool.noConfusion (show false=true from z)
  |cons x l=>exact λz=>absurd (qV (show decide (30<bB (x::l)+1)=true from z)) (by lia))]
 cases l<;>simp
def oJ{α:Type}{l:List α}(h:l.length=n+1):∃a r,l=a::r/\r.length=n:=by
 cases l with
 |nil=>cases h
 |cons a r=>exact⟨a,r,rfl,Nat.succ.inj h⟩
def Jq{α:Type}{l:List α}(h:l.length=0):l=[]:=length_eq_zero_iff.mp h
def tG{α:Type}{l:List α}(h:l.length=1):∃a,l=[a]:=by obtain⟨a,r,rfl,k⟩:=oJ h;obtain rfl:=Jq k;exact⟨a,rfl⟩
def AA{α:Type}{l:List α}(h:l.length=2):∃a0 a1,l=[a0,a1]:=by obtain⟨a0,r,rfl,k⟩:=oJ h;obtain⟨a1,rfl⟩:=tG k;exact⟨a0,a1,rfl⟩
def Az{α:Type}{l:List α}(h:l.length=3):∃a0 a1 a2,l=[a0,a1,a2]:=by obtain⟨a0,r,rfl,k⟩:=oJ h;obtain⟨a1,a2,rfl⟩:=AA k;exact⟨a0,a1,a2,rfl⟩
def EB{α:Type}{l:List α}(h:l.length=4):∃a0 a1 a2 a3,l=[a0,a1,a2,a3]:=by obtain⟨a0,r,rfl,k⟩:=oJ h;obtain⟨a1,a2,a3,rfl⟩:=Az k;exact⟨a0,a1,a2,a3,rfl⟩
def SF(l:List α)(i j:Nat):bV l (some (i:Int)) (some (j:Int))=(l.drop i).take (j-i):=by
 unfold bV sIx;have h1:¬(i:Int)<0:=by lia
 have h2:¬(j:Int)<0:=by lia
 simp only[q9 h1,q9 h2,qX];by_cases hi:i<=l.length
 .rw[Nat.min_eq_left hi];by_cases hj:j<=l.length
  .rw[Nat.min_eq_left hj]
  .rw[Nat.min_eq_right (by lia),take_of_length_le (by rw[qH];lia),take_of_length_le (by rw[qH];lia)]
 .rw[Nat.min_eq_right (a:=i) (by lia),List.drop_of_length_le (i:=l.length) (zc _),List.drop_of_length_le (i:=i) (by lia),take_nil,take_nil]
def Nc{α:Type}(f:α->D):∀(B:List α)(k:Nat),dG k (B.map f)=(List.range B.length).map λi=>D.tup [.int ((k+i:Nat):Int),(B[i]?).elim .non f]
 |[],k=>rfl
 |b::B,k=>by rw[qA,dG,Nc f B (k+1),qu,List.range_succ_eq_map,qA,qF];congr 1;refine map_congr_left λi _=>?_;show D.tup [.int ((k+1+i:Nat):Int),_]=D.tup [.int ((k+(i+1):Nat):Int),_];rw[show k+1+i=k+(i+1) by lia];rfl
def vE{z:Int}{n:Nat}(h:z=n):fromTo 0 z.toNat=(List.range n).map λ(k:Nat)=>D.int (k:Int):=by subst h;unfold fromTo;rw[qX];refine map_congr_left λk _=>?_;rw[Int.zero_add]
def IP(h:pre++i::post=List.range n):pre.length=i/\i<n:=by
 have h1:(List.range n)[pre.length]?=some i:=by rw[<-h];simp
 obtain⟨h2,h3⟩:=qh.mp h1;rw[List.getElem_range]at h3;rw[qE]at h2;lia
def Ji(D':Ends)(m:Nat)(J:Nat->Env->Prop):Ends:={D' with nx:=λU2=>∃m',m'<m/\J m' U2,ct:=λU2=>∃m',m'<m/\J m' U2,bk:=D'.nx}
def KD(b:WS)(D':Ends)(m:Nat)(J:Nat->Env->Prop)(k:Bool)(U:Env):Prop:=if k then b (Ji D' m J) U else D'.nx U
def Bh:KD b D' m J true U=b (Ji D' m J) U:=rfl
def Bi:KD b D' m J false U=D'.nx U:=rfl
def Gs(hm:m'<m)(h:J m' U):(Ji D' m J).nx U:=⟨m',hm,h⟩
def Hv(J:Nat->Env->Prop)(m:Nat)(h0:J m U)(h:∀m U,J m U->c U (KD b D' m J) D'.ex):hX c b D' U:=⟨J,⟨m,h0⟩,λm U hJ=>h m U hJ⟩
def NP{l:List α}(h:0<l.length):∃v,v∈l/\l.getLast?=some v/\atI l (-1)=some v:=by refine⟨l.getLast (qQ.mp h),List.getLast_mem _,List.getLast?_eq_some_getLast (qQ.mp h),?_⟩;unfold atI ixN;rw[q9 (by decide),q8 (by lia)];show l[((-1:Int)+(l.length:Int)).toNat]?=_;rw[show((-1:Int)+(l.length:Int)).toNat=l.length-1 by lia,qi (by lia),List.getLast_eq_getElem]
def GW:∀l:List D,(∀d∈l,gO d=true)->eC l=true
 |[],_=>rfl
 |a::l,h=>by show(gO a&&eC l)=true;rw[h a (by simp),GW l λd hd=>h d (by simp[hd])];rfl
def Gx:∀l:List D,(∀d∈l,sG d<=n)->hW l<=l.length*(n+1)
 |[],_=>by simp[hW]
 |a::l,h=>by show sG a+1+hW l<=_;have h1:=h a (by simp);have h2:=Gx l λd hd=>h d (by simp[hd]);rw[qu,Nat.add_mul];lia
def Uh(h:∀d∈l,gO d=true/\gJ d<=m/\sG d<=n)(hm:m<=29)(hl:l.length*(n+1)<=1000000):cI (.lst l)=true/\cI (.tup l)=true:=by have h1:=GW l λd hd=>(h d hd).1;have h2:=Il (n:=m) l λd hd=>(h d hd).2.1;have h3:=Gx (n:=n) l λd hd=>(h d hd).2.2;grind[cI,gO,eC,gJ,bB,sG,hW]
end FL
noncomputable section
namespace Law
open FL
def sU:WS:=wExpr (fO 1 (zx 2) (zx 3))
def BC:=uS sU.eq_1
def Jp:WF:=jB 1 4 [0]
 (zN (zP (zF 1) (tF false))
  (zN (fI (cF (zx 0)) (cP [zF 2,zF 3]) sU)
  (cE (zx 1))))
def sR:WB:=dQ 1 (cW (zy (zx 2) (zy (zx 2) zz)))
def By:=uB sR.eq_1
def Jn:WF:=jB 1 1 [0]
 (cE (cW (zy (cW (zy (wC (.int 0)) zz)) (zy (wB cC (zy (sY 1 1 (bT (wB eA (zy (zx 0) zz))) (zF 2) eK sR) zz)) zz))))
def sO:WB:=mD 3 (cW (zy (zx 4) (zy (zx 9) zz)))
def Bv:=uB sO.eq_1
def sN:WB:=vK (cF (zx 6)) (cP [zF 7,zF 8,zF 9]) (gE (bW fM (zx 7) (zx 1)) (bW fM (zx 8) (zx 2))) sO
def Bu:=uB sN.eq_1
def Hd:WF:=jB 3 3 [0,1,2]
 (cE (wB cC (zy (wB dN (zy (DH (.set []) 3 6 (tE (zx 0)) (cP [zF 4,cP [zF 5,zF 6]]) eK sN) zz)) zz)))
def sI:WS:=oH (bW fM (zx 8) (Bp (bW fM (zx 7) (wC (.int 1))) (zx 4) (zx 5))) (wExpr (bU 6 (cW (zy (zM cO (zx 2) (zx 7)) (zy (zx 9) zz))))) dP
def kK:=uS sI.eq_1
def Jk:WF:=jB 4 10 [0,1,2,3]
 (zN (sW 4 5 (zy (Ay (zx 1) (some (zx 2)) (some (zM cO (zx 2) (wC (.int 1))))) (zy (Ay (Ay (zx 1) none (some (zx 2))) (some (Bo lS (wC (.int 1)))) none) zz)))
  (zN (zP (zF 6) (dU zz))
  (zN (fI (cF (gN (gN (zx 0) (zx 3)) (wC (.int 1)))) (cP [zF 7,zF 8,zF 9]) sI)
  (cE (zx 6)))))
def Jj:WF:=jB 2 4 [0,1]
 (zN (zP (zF 2) (zM cO (zM eD (wC (.int 7919)) (zx 1)) (wC (.int 11))))
  (zN (oH (bW Hn (zx 1) (wB eA (zy (zx 0) zz))) (zP (zF 2) (gN (zx 0) (zx 1))) (oH (bW DL (wB eA (zy (zx 0) zz)) (wC (.int 0))) (zP (zF 2) (zM cO (zx 2) (zM eD (zM gQ (gN (zx 0) (zM gQ (zx 1) (wB eA (zy (zx 0) zz)))) (wC (.int 2147483629))) (wC (.int 69623))))) dP))
  (zN (zP (zF 3) (zM cO (zM gQ (zM cO (zM eD (zM gQ (zx 2) (wC (.int 2147483629))) (wC (.int 48271))) (zM eD (wC (.int 40692)) (zx 1))) (wC (.int 2147483629))) (wC (.int 1))))
  (cE (dU (zy (gN (dU (zy (wC (.int 0)) (zy (zx 2) zz))) (wB vJ (zy (sX (bW Ho (zx 2) (zM uF (wC (.int 10)) (wC (.int 18))))) zz))) (zy (zx 3) zz)))))))
def gM:WF:=jB 2 4 [0,1]
 (zN (oH (bW DL (gN (zx 0) (wC (.int 0))) (wC (.int 0))) (zN (zP (zF 2) (zM gQ (gN (zx 0) (wC (.int 0))) (zx 1)))
  (zN (iA 0 (wC (.int 0)) (zM jS (gN (zx 0) (wC (.int 0))) (zx 1)))
  (cE (zx 2)))) dP)
  (zN (zP (zF 3) (zM gQ (zM eD (gN (zx 0) (wC (.int 1))) (wC (.int 69623))) (wC (.int 2147483647))))
  (zN (iA 0 (wC (.int 1)) (zM cO (zM gQ (zM cO (zM eD (zx 3) (wC (.int 48271))) (wC (.int 30103))) (wC (.int 2147483629))) (wC (.int 1))))
  (cE (zM gQ (zM jS (zM cO (zM eD (zx 3) (wC (.int 2147483647))) (gN (zx 0) (wC (.int 1)))) (wC (.int 8191))) (zx 1))))))
def oF:WS:=zN (oH (gE (bW fM (zx 5) (wC (.int 1))) (bW fM (Ay (zx 1) (some (zx 2)) (some (zM cO (zx 2) (wC (.int 1))))) (zx 6))) (wExpr (bU 4 (cW (zy (zM cO (zx 2) (wC (.int 1))) (zy (zx 7) zz))))) dP)
  (oH (gE (bW fM (zx 5) (Bo lS (wC (.int 1)))) (gE (bW DL (zx 2) (wC (.int 0))) (bW fM (gN (zx 1) (zM rG (zx 2) (wC (.int 1)))) (zx 6)))) (wExpr (bU 4 (cW (zy (zM rG (zx 2) (wC (.int 1))) (zy (zx 7) zz))))) dP)
def fP:=uS oF.eq_1
def Bl:WF:=jB 4 8 [0,1,2,3]
 (zN (zP (zF 4) (dU zz))
  (zN (fI (cF (gN (gN (zx 0) (zx 3)) (wC (.int 1)))) (cP [zF 5,zF 6,zF 7]) oF)
  (cE (zx 4))))
def mR:WB:=mD 3 (cW (zy (zx 4) (zy (zx 6) zz)))
def BB:=uB mR.eq_1
def mQ:WB:=vK (cF (sZ (zx 2) (zx 5) (dU zz))) (zF 6) eK mR
def BA:=uB mQ.eq_1
def Ax:WF:=jB 2 3 [0,1]
 (zN (zP (zF 2) (dD (zO Jp [true] (zy (zx 1) zz))))
  (cE (wB cC (zy (wB dN (zy (DH (.set []) 3 3 (cF (zx 0)) (cP [zF 4,zF 5]) eK mQ) zz)) zz))))
def mP:WS:=oH (bW fT (zx 7) (zx 4)) (zN (oI 4 (zx 7) (wC (.bl true)))
  (wExpr (bU 3 (zx 7)))) dP
def tJ:=uS mP.eq_1
def sJ:WS:=zN (zP (cP [zF 5,zF 6]) (sV 3))
  (zN (oH (gE (bW fM (zx 5) (wB eA (zy (zx 2) zz))) (lJ (gN (gN (zx 1) (zx 6)) (wC (.int 0))))) (cE (wC (.bl true))) dP)
  (fI (cF (zO Jk [true,true,true,true] (zy (zx 1) (zy (zx 2) (zy (zx 5) (zy (zx 6) zz)))))) (zF 7) mP))
def Br:=uS sJ.eq_1
def Hc:WF:=jB 3 8 [0,1,2]
 (zN (zP (zF 3) (dU (zy (cW (zy (wC (.int 0)) (zy (wC (.int 0)) zz))) zz)))
  (zN (zP (zF 4) (mS (cW (zy (wC (.int 0)) (zy (wC (.int 0)) zz))) (wC (.bl true))))
  (zN (hX (lJ (zx 3)) sJ)
  (cE (wC (.bl false))))))
def kI:WB:=dQ 3 (dD (kJ 2 (zO gM [true,true] (zy (zx 0) (zy (wB eA (zy (zx 2) zz)) zz)))))
def xF:=uB kI.eq_1
def Bn:WF:=jB 2 3 [0,1]
 (zN (zP (zF 2) (wB iY (zy (wC (.str [97,98,99,100,101,102,103,104,105,106,107,108,109,110,111,112,113,114,115,116,117,118,119,120,121,122])) zz)))
  (cE (DG lU (wC (.str [])) (zy (wB dN (zy (sY 3 1 (bT (zx 1)) (zF 4) eK kI) zz)) zz))))
def kH:WB:=dQ 4 (gN (zx 1) (zO gM [true,true] (zy (zx 0) (zy (wB eA (zy (zx 1) zz)) zz))))
def xE:=uB kH.eq_1
def wM:WF:=jB 3 4 [0,1,2]
 (zN (zP (zF 3) (zM eD (zO gM [true,true] (zy (zx 0) (zy (zM cO (zx 2) (wC (.int 1))) zz))) (wB vJ (zy (sX (bW mI (zx 1) (wC (.str [])))) zz))))
  (cE (DG lU (wC (.str [])) (zy (sY 4 1 (bT (zx 3)) (zF 5) eK kH) zz))))
def kG:WS:=zN (zP (zF 9) (gN (dU (zy (wC (.int 1)) (zy (wC (.int 1)) (zy (Bo lS (wC (.int 1))) zz)))) (zO gM [true,true] (zy (zx 0) (zy (wC (.int 3)) zz)))))
  (wExpr (bU 7 (cW (zy (zx 9) (zy (gN (zx 1) (zO gM [true,true] (zy (zx 0) (zy (wB eA (zy (zx 1) zz)) zz)))) (zy (zO gM [true,true] (zy (zx 0) (zy (zx 4) zz))) zz))))))
def xD:=uS kG.eq_1
def oG:WS:=zN (zP (zF 7) (dU zz))
  (zN (fI (bT (zO gM [true,true] (zy (zx 0) (zy (zM cO (zx 3) (wC (.int 1))) zz)))) (zF 8) kG)
  (wExpr (bU 5 (cW (zy (sX (bW fM (zO gM [true,true] (zy (zx 0) (zy (wC (.int 3)) zz))) (wC (.int 0)))) (zy (wB cC (zy (zx 7) zz)) zz))))))
def xC:=uS oG.eq_1
def Bm:WF:=jB 4 10 [0,1,2,3]
 (zN (zP (zF 4) (zM cO (wC (.int 1)) (zO gM [true,true] (zy (zx 0) (zy (zx 2) zz)))))
  (zN (zP (zF 5) (dU zz))
  (zN (fI (bT (zx 4)) (zF 6) oG)
  (cE (wB cC (zy (zx 5) zz))))))
def oD:WB:=dQ 8 (cW (zy (zx 9) (zy (wC (.bl true)) zz)))
def xA:=uB oD.eq_1
def kF:WS:=oH (bW fT (zx 7) (zx 3)) (zN (oI 3 (zx 7) (wC (.bl true)))
  (wExpr (bU 4 (zx 7)))) dP
def oK:=uS kF.eq_1
def oE:WS:=zN (zP (cP [zF 5,zF 6]) (sV 4))
  (fI (cF (zO Bl [true,true,true,true] (zy (zx 0) (zy (zx 1) (zy (zx 5) (zy (zx 6) zz)))))) (zF 7) kF)
def xB:=uS oE.eq_1
def wL:WF:=jB 3 8 [0,1,2]
 (zN (zP (zF 3) (wB kW (zy (sY 8 1 (cF (zx 2)) (zF 9) eK oD) zz)))
  (zN (zP (zF 4) (wB iY (zy (zx 2) zz)))
  (zN (hX (bW mI (zx 4) (dU zz)) oE)
  (cE (wB kU (zy (zx 3) zz))))))
def sL:WB:=mD 4 (cW (zy (zx 5) (zy (zx 5) zz)))
def Bs:=uB sL.eq_1
def sM:WS:=zN (zP (zF 2) (zx 3))
  (zP (zF 3) (dD (zO Ax [true,true] (zy (zx 2) (zy (zx 2) zz)))))
def Bt:=uS sM.eq_1
def Jl:WF:=jB 2 4 [0,1]
 (zN (zP (zF 2) (wB cC (zy (wB dN (zy (zM Hj (wB Ag (zy (zx 1) zz)) (DH (.set []) 4 1 (bT (zx 0)) (zF 5) eK sL)) zz)) zz)))
  (zN (zP (zF 3) (dD (zO Ax [true,true] (zy (zx 2) (zy (zx 2) zz)))))
  (zN (hX (bW mI (zx 3) (zx 2)) sM)
  (cE (zx 2)))))
def oB:WB:=dQ 6 (zx 8)
def wY:=uB oB.eq_1
def oA:WB:=dQ 6 (cW (zy (zx 4) (zy (zx 8) zz)))
def wX:=uB oA.eq_1
def oC:WS:=zN (zP (zF 5) (dD (zO wL [true,true,true] (zy (zx 0) (zy (zx 1) (zy (dD (dU (zy (cW (zy (wB eA (zy (zx 1) zz)) (zy (zx 4) zz))) zz))) zz))))))
  (wExpr (hE 3 (wB dN (zy (sY 6 2 (cF (zx 5)) (cP [zF 7,zF 8]) (bW fM (zx 7) (wB eA (zy (zx 1) zz))) oA) zz))))
def wZ:=uS oC.eq_1
def Bk:WF:=jB 2 6 [0,1]
 (zN (zP (zF 2) (dD (wB dN (zy (sY 6 2 (cF (zO wL [true,true,true] (zy (zx 0) (zy (zx 1) (zy (dD (dU (zy (cW (zy (wC (.int 0)) (zy (wC (.int 0)) zz))) zz))) zz))))) (cP [zF 7,zF 8]) (bW fM (zx 7) (wB eA (zy (zx 1) zz))) oB) zz))))
  (zN (zP (zF 3) (dU zz))
  (zN (fI (bT (wB eA (zy (zx 0) zz))) (zF 4) oC)
  (cE (cW (zy (wB cC (zy (zx 2) zz)) (zy (wB cC (zy (zx 3) zz)) zz)))))))
def sQ:WB:=dQ 9 (cW (zy (wC (.int 0)) (zy (zx 10) zz)))
def Bx:=uB sQ.eq_1
def sP:WB:=dQ 9 (zx 11)
def Bw:=uB sP.eq_1
def Jm:WF:=jB 3 9 [0,1,2]
 (zN (zP (cP [zF 3,zF 4]) (zx 1))
  (zN (sW 5 6 (zy (zO Hd [true,true,true] (zy (zx 0) (zy (wC (.int 1)) (zy (zx 2) zz)))) (zy (zO Hd [true,true,true] (zy (zx 0) (zy (Bo lS (wC (.int 1))) (zy (zx 2) zz)))) zz)))
  (zN (zP (zF 7) (dD (zO Jl [true,true] (zy (wB eA (zy (zx 0) zz)) (zy (dD (zO Ax [true,true] (zy (zx 6) (zy (dD (zO Ax [true,true] (zy (zx 4) (zy (zx 5) zz)))) zz)))) zz)))))
  (zN (zP (zF 8) (dD (zO Ax [true,true] (zy (wB cC (zy (sY 9 1 (cF (zx 3)) (zF 10) eK sQ) zz)) (zy (zx 5) zz)))))
  (cE (cW (zy (wB cC (zy (sY 9 2 (cF (zO Ax [true,true] (zy (zx 8) (zy (zx 7) zz)))) (cP [zF 10,zF 11]) eK sP) zz)) (zy (zx 7) zz))))))))
def sS:WS:=zP (zF 3) (dD (zO Jm [true,true,true] (zy (zx 1) (zy (zx 3) (zy (zx 4) zz)))))
def Bz:=uS sS.eq_1
def Jo:WF:=jB 3 5 [0,1,2]
 (zN (zP (zF 3) (dD (zO Jn [true] (zy (zx 1) zz))))
  (zN (fI (cF (zx 2)) (zF 4) sS)
  (cE (zx 3))))
def nZ:WS:=zN (wExpr (bU 4 (dD (zO Jo [true,true,true] (zy (zx 0) (zy (zx 1) (zy (zx 5) zz)))))))
  (oH (gZ false (gN (zx 4) (Bo lS (wC (.int 1)))) (zO Bk [true,true] (zy (zx 1) (zy (zx 5) zz)))) (cE (wC (.bl false))) dP)
def wW:=uS nZ.eq_1
def nY:WS:=zN (zP (zF 10) (dD (dU (zy (dD (zO Hc [true,true,true] (zy (zx 0) (zy (zx 1) (zy (zM cO (zx 6) (zx 3)) zz))))) (zy (dD (zO Hc [true,true,true] (zy (zx 0) (zy (zx 1) (zy (zM cO (zx 8) (zx 3)) zz))))) zz)))))
  (oH (gE (bW fM (zx 7) (zx 9)) (bW mI (gN (zx 10) (wC (.int 0))) (gN (zx 10) (wC (.int 1))))) (cE (wC (.bl false))) dP)
def wV:=uS nY.eq_1
def nX:WS:=fI (wN (zx 2) (zx 4)) (cP [zF 8,zF 9]) nY
def wU:=uS nX.eq_1
def Bj:WF:=jB 4 11 [0,1,2,3]
 (zN (zP (zF 4) (dU zz))
  (zN (fI (cF (zx 2)) (zF 5) nZ)
  (zN (fI (wN (zx 2) (zx 4)) (cP [zF 6,zF 7]) nX)
  (cE (wC (.bl true))))))
def nV:WB:=dQ 6 (zO wM [true,true,true] (zy (zx 2) (zy (zx 3) (zy (wC (.int 9)) zz))))
def wQ:=uB nV.eq_1
def nW:WS:=zN (zP (zF 2) (zO Jj [true,true] (zy (zx 0) (zy (zx 1) zz))))
  (zN (zP (zF 3) (zO Bn [true,true] (zy (zx 2) (zy (zM cO (wC (.int 1)) (zO gM [true,true] (zy (zx 2) (zy (wC (.int 2)) zz)))) zz))))
  (zN (zP (zF 4) (dD (zO Bm [true,true,true,true] (zy (zx 2) (zy (zx 3) (zy (wC (.int 4)) (zy (wC (.int 5)) zz)))))))
  (zN (zP (zF 5) (dD (zM cO (dU (zy (wC (.str [])) (zy (gN (zx 3) (wC (.int 0))) zz))) (sY 6 1 (bT (wC (.int 4))) (zF 7) eK nV))))
  (oH (sF (lJ (zO Bj [true,true,true,true] (zy (zx 3) (zy (zx 4) (zy (zx 5) (zy (zO wM [true,true,true] (zy (zx 2) (zy (zx 3) (zy (wC (.int 3)) zz)))) zz))))))) (cE (wC (.bl false))) dP))))
def wR:=uS nW.eq_1
def sT:WF:=jB 1 6 [0]
 (zN (fI (bT (wB Ai (zy (wC (.int 3)) (zy (wB Ah (zy (wB eA (zy (zx 0) zz)) (zy (wC (.int 6)) zz))) zz)))) (zF 1) nW)
  (cE (wC (.bl true))))
end Law
end
end
namespace Law
open FL
variable{P:S->List S->Prop}{PX:D->List S->Prop}
set_option hygiene false in
local macro_rules
 |`(tactic|simp! [$xs,*] $[$l:location]?)=>do
  let ls<-("e_C e_V zpU zlQ zl3 e_Un zoK zo1 e_Ck zpK znF zlv zmn zj0 zjT zqm zmu zmi zoB zm9 zpq zmL zob zlz zno zoG znn zkv zkx zqb e_gA zqH zoy e_gv e_gl zqJ zpW zlW zmv zor zmW znp e_l0 e_l1 e_l2 e_l3 e_vv e_vl e_cv e_cl zne e_sh zan zpV e_Ix zp3 zpB znH zlb zov zoI zoC zn7 zqf zqv znh zmj zmd e_p0 e_pv e_pl zqr e_pA e_b0 e_bv e_bl znG zkO zj4 zl1 znY e_vA zps e_B e_B1 e_B2 e_MS zpv zqh e_Ap zoX zpD zpG zqk zoF znj zmz e_Xt zo8 zo5 znR zle zoi e_Pt zqI zpC e_Sl zqz zqd zoO zqi e_nx e_rt e_ex zmT zoo e_If zpE zpZ zn9 zms zkh zpo zl4 zmx zpm zmS zmI zlK e_gN e_gT zn3 zpi zoJ zos zqs znu zlh zmR zmk zk8 zkR e_Dp zpj znO zpL zp8 zmy e_It zqE zpb zn4 znW zpN zpp e_En zp1 zn0 zoc e_Zi zoa zn8 zoR zqe zqD e_R1 zpT zpr zqg zlo e_LC zpJ zpa zlJ zpM zoH zlg zpe e_Em zoh zpl zpS e_bF zqC znT zpy e_Rt zog zoQ e_Fn e_f0 e_fs e_fl e_fA zoY zmM znd zo9 zlL zn6 zlZ zoU znS e_lt e_gt e_ge zqA zmU zqB zlw zpk zqF zld zmZ zly zk9 zlF znD zo7 zn1 zpt zo0 zpA zpn zok zp4 zpX zoV zpO zoD zo4 zp6 zou zqo zqG zqy zp5 zow zoj zon zp7 zpd zoW zo6 zpu zqu zp2 zqt znV zpz znQ zph znU zqn zqj zol zpx zqx zoP zoz zlr zlO zmN znz zl0 znC zmX zmt znl znZ zng zpf znx zl8 e_Ge zn2 zp0 zpg zo2 zot zlV zmm zm0 e_Re zpQ zqa zoe zoS znE e_CM zoE e_Ad zoL zpc zoA znJ zlq zmG znX e_SA zoq zox zof zoN zqc e_Pp zoM e_Dt zpI zpw zpP zjG zlY map_some S.toD_sh S.toD_lst qA map_nil qP nil_append List.replicate_succ List.replicate_zero Nat.reduceSub Nat.reduceAdd qB List.take_succ_cons take_zero true_and S.toDs_map S.toD_dct Int.reduceEq Int.reduceLT Int.reduceLE decide_true decide_false Bool.not_true Bool.not_false".splitOn " ").toArray.mapM λn=>`(Lean.Parser.Tactic.simpLemma|$(Lean.mkIdent n.toName):ident)
  let ls:=ls++xs.getElems
  `(tactic|simp -implicitDefEqProofs (disch:=first|omega|decide|rfl|(simp only[qp,qr,qu,qw,qE,dS];omega)|(simp only[qp,qr,qu,qw,qE,dS];done)) only[$ls,*] $[$l:location]?)
noncomputable section pu
def cM(a s:Int):S:=.lst [.sh (.int a),.sh (.int s)]
def vV{a s m:Int}(ha:0<=a)(hs:1<=s)(hs2:s<=2147483629)(hm:0<m)(hm2:m<18446744073709551616)
  (h:∀r a' s',0<=r->r<m->0<=a'->1<=s'->s'<=2147483629->P (.sh (.int r)) [cM a' s',.sh (.int m)]):gM [cM a s,.sh (.int m)] P PX:=by
 refine kE rfl rfl ?_;simp! [cM];cases hc:decide (0<a)
 .simp! [e_C];exact h _ _ _ (Int.emod_nonneg _ (by lia)) (Int.emod_lt_of_pos _ hm) ha (by lia) (by lia)
 .simp! [e_C];exact h _ _ _ (Int.emod_nonneg _ (by lia)) (Int.emod_lt_of_pos _ hm) (Int.ediv_nonneg ha (by lia)) hs hs2
def Tn{ns:List Int}{k:Int}(hk:0<=k)
  (h:∀a s,0<=a->1<=s->s<=2147483629->P (cM a s) [.sh (.lst (ns.map .int)),.sh (.int k)]):Jj [.sh (.lst (ns.map .int)),.sh (.int k)] P PX:=by
 refine kE rfl rfl ?_;simp! [length_map];by_cases h1:k<ns.length
 .obtain⟨v,hv,_,e⟩:=MQ (f:=D.int) hk h1;simp! [length_map,h1,decide_true,e];cases hc:decide ((10:Int)^(18:Int).toNat<=v)
  .simp! [if_true,false_eq_true,if_false];exact h _ _ (by decide) (by lia) (by lia)
  .simp! [if_true];have:(0:Int)<=v:=by
    have:=qV hc;have e:(10:Int)^(18:Int).toNat=1000000000000000000:=by decide
    lia
   exact h _ _ this (by lia) (by lia)
 .by_cases h2:0<ns.length
  .have hp:(0:Int)<ns.length:=by lia
   obtain⟨v,hv,_,e⟩:=MQ (f:=D.int) (l:=ns) (z:=k %ns.length) (Int.emod_nonneg _ (by lia)) (Int.emod_lt_of_pos _ hp);simp! [length_map,h1,hp,decide_true,decide_false,e];generalize 7919*k+11+v %2147483629*69623=cell;cases hc:decide ((10:Int)^(18:Int).toNat<=cell)
   .simp! [if_true,false_eq_true,if_false];exact h _ _ (by decide) (by lia) (by lia)
   .simp! [if_true];have:(0:Int)<=cell:=by
     have:=qV hc;have e:(10:Int)^(18:Int).toNat=1000000000000000000:=by decide
     lia
    exact h _ _ this (by lia) (by lia)
  .have hp:¬(0:Int)<ns.length:=by lia
   simp! [length_map,h1,hp,decide_true,decide_false];generalize 7919*k+11=cell;cases hc:decide ((10:Int)^(18:Int).toNat<=cell)
   .simp! [if_true,false_eq_true,if_false];exact h _ _ (by decide) (by lia) (by lia)
   .simp! [if_true];have:(0:Int)<=cell:=by
     have:=qV hc;have e:(10:Int)^(18:Int).toNat=1000000000000000000:=by decide
     lia
    exact h _ _ this (by lia) (by lia)
def Uu{l:List D}(h:(eL l).isSome=true)(h64:l.length<64):cG l=some (.lst ((gG l).map .sh)):=by unfold cG;rw[q8 ⟨h64,.inr (.inr (.inl h))⟩]
def Tq{A:List Nat}(h:A.length<64):∃A':List Nat,A'.Perm A/\A'.Pairwise (·<=·)/\cG (A.map sg)=some (.lst ((A'.map sg).map .sh)):=by
 have e:A.map sg=(A.map λc=>[c]).map D.str:=by rw[qF];rfl
 obtain⟨A',hp,e2⟩:=Sf (EA (A.map sg));refine⟨A',hp,?_,?_⟩
 .have hs:=IV HW (A.map sg) (by rw[e];exact Ul _);rw[e2,pairwise_map]at hs;refine hs.imp λ{a b} h=>?_;have h':(!decide (([b]:List Nat)<[a]))=true:=by rw[<-Eh];exact h
  have h2:¬([b]:List Nat)<[a]:=by simpa using h'
  rw[PV]at h2;lia
 .rw[Uu (by rw[Mo];rfl) (by simpa using h),e2]
def letters:List Nat:=[97,98,99,100,101,102,103,104,105,106,107,108,109,110,111,112,113,114,115,116,117,118,119,120,121,122]
def Uv{Q:Env->Prop}{E:WX}{m:Int}:∀(xs:List D)(a s:Int)(L A:List Nat)(o:Option S),xs.length<=L.length->0<=a->1<=s->s<=2147483629->(A++L).Perm letters->
  (∀a' s'(L' A':List Nat) o',0<=a'->1<=s'->s'<=2147483629->A'.length=A.length+xs.length->(A'++L').Perm letters->Q [some (cM a' s'),some (.sh (.int m)),some (.lst ((L'.map sg).map .sh)),some (.lst ((A'.map sg).map .sh)),o'])->
  aO (zF 4) eK kI xs [some (cM a s),some (.sh (.int m)),some (.lst ((L.map sg).map .sh)),some (.lst ((A.map sg).map .sh)),o] Q E:=by
 intro xs;induction xs with
 |nil=>intro a s L A o h1 ha hs hs2 hnd h;exact h a s L A o ha hs hs2 (by simp) hnd
 |cons x xs ih=>
  intro a s L A o h1 ha hs hs2 hnd h;have zX:=hnd.length_eq;have h26:letters.length=26:=rfl;simp only[qu,qr]at h1 h zX;rw[Dd];simp! [xF,e_sh,zan,cM,length_map];refine vV ha hs hs2 ?_ ?_ λr a' s' hr hr2 ha' hs' hs2'=>?_
  .lia
  .lia
  simp! [e_sh,zan,cM,length_map];obtain⟨c,hc,hg,_⟩:=HI (l:=L) hr hr2;refine Rq hr (by simp only[qp,dS];lia) (Wi (d:=sg c) (by rw[qG,hg];rfl)) ?_;simp! [e_sh,zan,cM,length_map];refine⟨by simp only[dS];lia,?_⟩;have e1:((L.map sg).map S.sh).eraseIdx r.toNat=((L.eraseIdx r.toNat).map sg).map S.sh:=by rw[IQ,IQ]
  have e2:((A.map sg).map S.sh)++[S.sh (sg c)]=(((A++[c]).map sg).map S.sh):=by simp
  rw[e1,e2];have hlt:r.toNat<L.length:=by lia
  have hl:(L.eraseIdx r.toNat).length=L.length-1:=List.length_eraseIdx_of_lt hlt;have hgc:L[r.toNat]=c:=by rw[qi hlt]at hg;exact qg hg
  have hperm:(A++[c]++L.eraseIdx r.toNat).Perm (A++L):=by rw[qq];refine List.Perm.append_left A ?_;have:=OL L r.toNat hlt;rw[hgc]at this;exact this
  refine ih a' s' _ _ _ (by lia) ha' hs' hs2' (hperm.trans hnd) λa2 s2 L' A' o' x1 x2 x3 x4 x5=>h a2 s2 L' A' o' x1 x2 x3 (by rw[x4];simp only[qr,qD];lia) x5
def Xg{a s m:Int}(ha:0<=a)(hs:1<=s)(hs2:s<=2147483629)(hm:0<=m)(hm2:m<=26)
  (h:∀(l:List Nat) a' s',l.length=m.toNat->l.Pairwise (·<·)->(∀c∈l,97<=c/\c<=122)->0<=a'->1<=s'->s'<=2147483629->P (.sh (.str l)) [cM a' s',.sh (.int m)]):Bn [cM a s,.sh (.int m)] P PX:=by
 refine kE rfl rfl ?_;simp! [cM,e_sh,zan];refine⟨by simp only[dS];lia,?_⟩;have hf:(fromTo 0 m.toNat).length=m.toNat:=Au;have h26:letters.length=26:=rfl;refine Uv (fromTo 0 m.toNat) a s letters [] none (by rw[hf,h26];lia) ha hs hs2 (List.Perm.refl _)
  λa' s' L' A' o' ha' hs' hs2' hA hpm=>?_
 rw[hf,qw,zero_add]at hA;have hnd:A'.Nodup:=(qy.mp (hpm.nodup_iff.mpr (by decide))).1;have hle:∀c∈A',97<=c/\c<=122:=λc hc=>by
  have:c∈letters:=hpm.mem_iff.mp (qk _ hc);have hall:∀c∈letters,97<=c/\c<=122:=by decide
  exact hall c this
 obtain⟨A2,hp,hso,e⟩:=Tq (A:=A') (by lia);have hl:A2.length=m.toNat:=hp.length_eq.trans hA;simp! [cM,e_sh,zan,e,Mq (show A2.length<=big by simp only[dS];lia)];exact h A2 a' s' hl (Vt hso (hp.nodup_iff.mpr hnd)) (λc hc=>hle c (hp.mem_iff.mp hc)) ha' hs' hs2'
def UN{Q:Env->Prop}{E:WX}{m many:Int}{col:List Nat}(hc:0<col.length)(hc2:col.length<=26):∀(xs:List D)(a s:Int)(A:List Nat)(o:Option S),0<=a->1<=s->s<=2147483629->A.length+xs.length<=1000->
  (∀a' s'(A':List Nat) o',0<=a'->1<=s'->s'<=2147483629->A'.length=A.length+xs.length->(∀z∈A',z∈A\/z∈col)->Q [some (cM a' s'),some (.sh (.str col)),some (.sh (.int m)),some (.sh (.int many)),some (.lst ((A'.map sg).map .sh)),o'])->
  aO (zF 5) eK kH xs [some (cM a s),some (.sh (.str col)),some (.sh (.int m)),some (.sh (.int many)),some (.lst ((A.map sg).map .sh)),o] Q E:=by
 intro xs;induction xs with
 |nil=>intro a s A o ha hs hs2 h3 h;exact h a s A o ha hs hs2 (by simp) λz hz=>.inl hz
 |cons x xs ih=>
  intro a s A o ha hs hs2 h3 h;simp only[qu]at h3 h;rw[Dd];simp! [xE,e_sh,zan,cM,length_map];refine vV ha hs hs2 (by lia) (by lia) λr a' s' hr hr2 ha' hs' hs2'=>?_;obtain⟨c,hcm,_,e⟩:=HI (l:=col) hr hr2;simp! [e,e_sh,zan,cM,length_map];refine⟨by simp only[dS];lia,?_⟩;have e2:((A.map sg).map S.sh)++[S.sh (.str [c])]=(((A++[c]).map sg).map S.sh):=by simp[sg]
  rw[e2];refine ih a' s' _ _ ha' hs' hs2' (by simp only[qr,qD];lia) λa2 s2 A' o' x1 x2 x3 x4 x5=>h a2 s2 A' o' x1 x2 x3 (by rw[x4];simp only[qr,qD];lia) λz hz=>?_;rcases x5 z hz with q|q
  .rcases qz.mp q with q|q
   .exact .inl q
   .rw[qv.mp q];exact .inr hcm
  .exact .inr q
def Oa{a s m:Int}{col:List Nat}(ha:0<=a)(hs:1<=s)(hs2:s<=2147483629)(hm:0<=m)(hm2:m<=900)(hc:0<col.length)(hc2:col.length<=26)
  (h:∀(l:List Nat) a' s',l.length<=m.toNat->(∀z∈l,z∈col)->0<=a'->1<=s'->s'<=2147483629->P (.sh (.str l)) [cM a' s',.sh (.str col),.sh (.int m)]):wM [cM a s,.sh (.str col),.sh (.int m)] P PX:=by
 refine kE rfl rfl ?_;simp! [cM,e_sh,zan];refine vV ha hs hs2 (by lia) (by lia) λr a1 s1 hr hr2 ha1 hs1 hs21=>?_;have hne:(decide (col=[]))=false:=by simp;intro z;rw[z]at hc;simp at hc
 simp! [cM,e_sh,zan,hne,Bool.not_false,if_true,Int.mul_one];refine⟨by simp only[dS];lia,?_⟩;have hf:(fromTo 0 r.toNat).length=r.toNat:=Au;refine UN (A:=[]) hc hc2 _ a1 s1 none ha1 hs1 hs21 (by rw[hf];simp only[qw];lia) λa' s' A' o' ha' hs' hs2' hA hg=>?_;rw[hf,qw,zero_add]at hA;simp! [cM,e_sh,zan];rw[Mq (by simp only[dS];lia)];simp! [cM,e_sh,zan];exact h A' a' s' (by lia) (λz hz=>(hg z hz).resolve_left (by simp)) ha' hs' hs2'
abbrev Go:=Bool×Nat×Nat
def dC(b:Bool):Int:=if b then 1 else -1
def jE(g:Go):D:=.tup [.int (dC g.1),.str [g.2.1],.int (g.2.2:Int)]
abbrev Row:=Bool×List Go
def aP(r:Row):D:=.tup [.bl r.1,.tup (r.2.map jE)]
abbrev Sd:=Nat×Nat
def bE(s:Sd):D:=.tup [.int (s.1:Int),.int (s.2:Int)]
def MM{a b:Sd}(h:bE a=bE b):a=b:=by simp only[bE,D.tup.injEq,List.cons.injEq,D.int.injEq,Int.ofNat_inj,and_true]at h;exact Prod.ext h.1 h.2
def gR(w:List Nat)(p:Nat)(g:Go):Option Sd:=
 if g.1 then(if w[p]?=some g.2.1 then some (p+1,g.2.2)else none)else if 0<p/\w[p-1]?=some g.2.1 then some (p-1,g.2.2)else none
def aT(rows:List Row)(w:List Nat)(s:Sd):List Sd:=match rows[s.2]? with
 |some r=>r.2.filterMap (gR w s.1)
 |none=>[]
def aV(rows:List Row):Prop:=0<rows.length/\rows.length<=4/\∀r∈rows,r.2.length<=5/\∀g∈r.2,g.2.2<rows.length
def zZ(rows:List Row)(w:List Nat)(s:Sd):Prop:=s.1=w.length/\∃r,rows[s.2]?=some r/\r.1=true
def yY(rows:List Row)(w:List Nat)(s:Sd):Prop:=s.1<=w.length/\s.2<rows.length
def MX{rows:List Row}{w:List Nat}{s t:Sd}(hg:aV rows)(hs:yY rows w s)(h:t∈aT rows w s):yY rows w t:=by
 unfold aT at h;split at h
 .rename_i r hr;obtain⟨g,hgm,he⟩:=mem_filterMap.mp h;have hgo:=(hg.2.2 r (qN hr)).2 g hgm;have h1:=hs.1;unfold gR at he;split at he
  .split at he
   .rename_i hw;cases he;have:=(qh.mp hw).1;exact⟨by show s.1+1<=w.length;lia,hgo⟩
   .cases he
  .split at he
   .cases he;exact⟨by show s.1-1<=w.length;lia,hgo⟩
   .cases he
 .cases h
inductive fL(rows:List Row)(w:List Nat)(b0:Sd):Sd->Prop
 |start:fL rows w b0 b0
 |step {s t:Sd}:fL rows w b0 s->t∈aT rows w s->fL rows w b0 t
def fL.in_{rows:List Row}{w:List Nat}{b0 s:Sd}(h0:yY rows w b0)(hg:aV rows)(h:fL rows w b0 s):yY rows w s:=by
 induction h with
 |start=>exact h0
 |step _ h ih=>exact MX hg ih h
structure Seen(rows:List Row)(w:List Nat)(b0:Sd)(f:Sd->Prop)(seen left:List Sd):Prop where
 st:b0∈seen
 nd:seen.Nodup
 re:∀s∈seen,fL rows w b0 s
 cl:∀s∈seen,s∈left\/f s/\∀t∈aT rows w s,t∈seen
 sub:∀s∈left,s∈seen
 ln:left.length<=seen.length
 in0:yY rows w b0
def Seen.start{rows:List Row}{w:List Nat}{f:Sd->Prop}(h0:yY rows w b0):Seen rows w b0 f [b0] [b0]:=
 ⟨List.mem_singleton_self _,by simp,λs hs=>by rw[qv.mp hs];exact .start,λs hs=>.inl hs,λs hs=>hs,zc _,h0⟩
def Seen.done{rows:List Row}{w:List Nat}{f:Sd->Prop}{seen:List Sd}(h:Seen rows w b0 f seen []){s:Sd}(hr:fL rows w b0 s):s∈seen/\f s:=by
 have key:∀s,fL rows w b0 s->s∈seen:=λs hr=>by
  induction hr with
  |start=>exact h.st
  |step _ ht ih=>
   rcases h.cl _ ih with q|q
   .cases q
   .exact q.2 _ ht
 refine⟨key s hr,?_⟩;rcases h.cl _ (key s hr)with q|q
 .cases q
 .exact q.1
def Seen.push{rows:List Row}{w:List Nat}{f:Sd->Prop}{seen left new:List Sd}{s:Sd}(h:Seen rows w b0 f seen (left++[s]))(hf:f s)(hnd:(seen++new).Nodup)(hn:∀t∈new,t∈aT rows w s)(ha:∀t∈aT rows w s,t∈seen++new):Seen rows w b0 f (seen++new) (left++new):=by
 have hs:s∈seen:=h.sub s (by simp);refine⟨qk _ h.st,hnd,λt ht=>?_,λt ht=>?_,λt ht=>?_,by have:=h.ln;simp only[qr,qD]at this⊢;lia,h.in0⟩
 .rcases qz.mp ht with q|q
  .exact h.re t q
  .exact .step (h.re s hs) (hn t q)
 .rcases qz.mp ht with q|q
  .rcases h.cl t q with z|z
   .rcases qz.mp z with z|z
    .exact .inl (qk _ z)
    .rw[qv.mp z];exact .inr ⟨hf,ha⟩
   .exact .inr ⟨z.1,λu hu=>qk _ (z.2 u hu)⟩
  .exact .inl (qj _ q)
 .rcases qz.mp ht with q|q
  .exact qk _ (h.sub t (qk _ q))
  .exact qj _ q
def Ol{rows:List Row}{w:List Nat}{seen:List Sd}(hg:aV rows)(hw:w.length<=12)(hn:seen.Nodup)(hs:∀s∈seen,yY rows w s):seen.length<=52:=by
 have:=Np seen ((List.range 13).flatMap λp=>(List.range 4).map λr=>(p,r)) hn λs h=>by obtain⟨h1,h2⟩:=hs s h;have:=hg.2.1;exact mem_flatMap.mpr ⟨s.1,qK.mpr (by lia),qL.mpr ⟨s.2,qK.mpr (by lia),rfl⟩⟩
 exact le_trans this (by decide)
def fK(seen:List Sd):S:=.dct true (seen.map bE) (seen.map λ_=>S.sh (.bl true))
def zgk{s:Sd}{seen:List Sd}:bE s∈seen.map bE↔s∈seen:=
 ⟨λh=>let⟨t,ht,e⟩:=qL.mp h;MM e▸ht,λh=>qL.mpr ⟨s,h,rfl⟩⟩
def DY(s:Sd):aH true (bE s)=true:=rfl
open Classical in
def Lm{s:Sd}{seen:List Sd}{vs:List D}(h:s∈seen):DK (bE s) (.dct true (seen.map bE) vs)=some true:=by show(if aH true (bE s)then some (decide (bE s∈seen.map bE))else none)=_;rw[q8 (DY s),qS (zgk.mpr h)]
open Classical in
def LA{s:Sd}{seen:List Sd}{vs:List D}(h:s∉seen):DK (bE s) (.dct true (seen.map bE) vs)=some false:=by show(if aH true (bE s)then some (decide (bE s∈seen.map bE))else none)=_;rw[q8 (DY s),qT λz=>h (zgk.mp z)]
def LD{s:Sd}{seen:List Sd}(h:s∉seen):eF true (seen.map bE) (seen.map λ_=>S.sh (.bl true)) (bE s) (.sh (.bl true))=fK (seen++[s]):=by
 unfold eF;have:iU (seen.map bE) (bE s)=none:=by unfold iU;rw[List.findIdx?_eq_none_iff];intro x hx;rw[decide_eq_false_iff_not];intro e;subst e;exact h (zgk.mp hx)
 rw[this];unfold fK;rw[map_append,map_append];rfl
def Lu{seen:List Sd}(h:seen.Nodup):(seen.map bE).Nodup:=List.Pairwise.map bE (λa b hne e=>hne (MM e)) h
def Ip{w:List Nat}{p c:Nat}:decide ([c]=bV w (some (p:Int)) (some ((p:Int)+1)))=decide (w[p]?=some c):=by
 rw[show((p:Int)+1)=((p+1:Nat):Int) by lia,SF,show p+1-p=1 by lia];refine decide_eq_decide.mpr ?_;cases h:w.drop p with
 |nil=>have:w[p]?=none:=qR (List.drop_eq_nil_iff.mp h);rw[this];simp
 |cons x l=>
  have:w[p]?=some x:=by rw[<-List.head?_drop,h];rfl
  rw[this];simp[eq_comm]
def NK{w:List Nat}{p c:Nat}:decide (bV w (some (p:Int)) (some ((p:Int)+1))=[c])=decide (w[p]?=some c):=by rw[<-Ip];exact decide_eq_decide.mpr eq_comm
def Oq{w:List Nat}{p c:Nat}(hp:p<=w.length):decide ([c]=bV (bV w none (some (p:Int))) (some (-1)) none)=decide (0<p/\w[p-1]?=some c):=by
 refine decide_eq_decide.mpr ?_;rw[RC w (by lia) (by lia),qX];have hl:(w.take p).length=p:=by rw[qI];lia
 unfold bV sIx;simp only[hl,show((-1:Int)<0)=True from eq_true (by decide),if_true];cases p with
 |zero=>simp
 |succ p=>
  rw[show((-1:Int)+((p+1:Nat):Int)).toNat=p by lia,show p+1-p=1 by lia];have hpw:p<w.length:=by lia
  have:(w.take (p+1)).drop p=[w[p]]:=by rw[List.take_succ_eq_append_getElem hpw,List.drop_append_of_le_length (by rw[qI];lia),List.drop_eq_nil_of_le (by rw[qI];lia)];rfl
  rw[this,Nat.add_sub_cancel,qi hpw];simp[eq_comm]
def Gu{rows:List Row}{r:Nat}(h:r<rows.length):atI (rows.map aP) (r:Int)=some (aP rows[r]):=Ba (by lia) (by rw[qX,qG,qi h];rfl)
def Ng{rows:List Row}{w:List Nat}{p r:Nat}(h:r<rows.length):aT rows w (p,r)=rows[r].2.filterMap (gR w p):=by unfold aT;show(match rows[r]? with|some r=>_|none=>_)=_;rw[qi h]
def wK:dC true=1:=rfl
def sH:dC false=-1:=rfl
def cZ(w:List Nat)(p:Nat)(g:Go):Bool:=if g.1 then decide (w[p]?=some g.2.1)else decide (0<p/\w[p-1]?=some g.2.1)
def SX{w:List Nat}{p:Nat}{g:Go}(h:cZ w p g=true):∃t,gR w p g=some t/\(t.1:Int)=(p:Int)+dC g.1/\t.2=g.2.2:=by
 obtain⟨f,c,q⟩:=g;cases f with
 |true=>have h':w[p]?=some c:=qV h;exact⟨(p+1,q),by show(if w[p]?=some c then some (p+1,q)else none)=_;rw[q8 h'],by show((p+1:Nat):Int)=(p:Int)+1;lia,rfl⟩
 |false=>have h':0<p/\w[p-1]?=some c:=qV h;exact⟨(p-1,q),by show(if 0<p/\w[p-1]?=some c then some (p-1,q)else none)=_;rw[q8 h'],by show((p-1:Nat):Int)=(p:Int)+-1;have:=h'.1;lia,rfl⟩
def Qs{w:List Nat}{p:Nat}{g:Go}(h:cZ w p g=false):gR w p g=none:=by
 obtain⟨f,c,q⟩:=g;cases f with
 |true=>exact q9 (show¬w[p]?=some c from of_decide_eq_false h)
 |false=>exact q9 (show¬(0<p/\w[p-1]?=some c) from of_decide_eq_false h)
def LH{w:List Nat}{p:Nat}{pre:List Go}{g:Go}(h:cZ w p g=true):(((pre++[g]).filterMap (gR w p)).map bE).map S.sh=((pre.filterMap (gR w p)).map bE).map .sh++[.sh (.tup [.int ((p:Int)+dC g.1),.int (g.2.2:Int)])]:=by obtain⟨t,ht,t1,t2⟩:=SX h;rw[filterMap_append,show[g].filterMap (gR w p)=[t] by rw[filterMap_cons,ht];rfl,map_append,map_append,<-t1,<-t2];rfl
def Ll{w:List Nat}{p:Nat}{pre:List Go}{g:Go}(h:cZ w p g=false):(((pre++[g]).filterMap (gR w p)).map bE).map S.sh=((pre.filterMap (gR w p)).map bE).map .sh:=by rw[filterMap_append,show[g].filterMap (gR w p)=[] by rw[filterMap_cons,Qs h];rfl,qB]
def Ot{rows:List Row}{w:List Nat}{p r:Nat}(hg:aV rows)(hw:w.length<=12)(hp:p<=w.length)(hr:r<rows.length)
  (h:P (.lst (((aT rows w (p,r)).map bE).map .sh)) [.sh (.tup (rows.map aP)),.sh (.str w),.sh (.int (p:Int)),.sh (.int (r:Int))]):Jk [.sh (.tup (rows.map aP)),.sh (.str w),.sh (.int (p:Int)),.sh (.int (r:Int))] P PX:=by
 refine kE rfl rfl ?_;have hg5:=(hg.2.2 rows[r] (getElem_mem hr)).1;rw[Ng hr]at h;simp! [Gu hr,aP];refine rZ (toD:=jE) (λpre U=>∃o7 o8 o9,U=[some (.sh (.tup (rows.map aP))),some (.sh (.str w)),some (.sh (.int (p:Int))),some (.sh (.int (r:Int))),some (.sh (.str (bV w (some (p:Int)) (some ((p:Int)+1))))),some (.sh (.str (bV (bV w none (some (p:Int))) (some (-1)) none))),some (.lst (((pre.filterMap (gR w p)).map bE).map .sh)),o7,o8,o9]) rows[r].2 (λpre g post D2 U e hI hnx hct hrt hbk=>?_) (λU hI=>?_) ⟨none,none,none,rfl⟩
 .obtain⟨o7,o8,o9,rfl⟩:=hI;have zX:(pre.filterMap (gR w p)).length<=5:=by have h1:=List.length_filterMap_le (gR w p) pre;have h2:=congrArg List.length e;rw[qr]at h2;lia
  have hyes:cZ w p g=true->D2.nx [some (.sh (.tup (rows.map aP))),some (.sh (.str w)),some (.sh (.int (p:Int))),some (.sh (.int (r:Int))),some (.sh (.str (bV w (some (p:Int)) (some ((p:Int)+1))))),some (.sh (.str (bV (bV w none (some (p:Int))) (some (-1)) none))),some (.lst (((pre.filterMap (gR w p)).map bE).map .sh++[.sh (.tup [.int ((p:Int)+dC g.1),.int (g.2.2:Int)])])),some (.sh (.int (dC g.1))),some (.sh (.str [g.2.1])),some (.sh (.int (g.2.2:Int)))]:=λhv=>by rw[<-LH hv];exact hnx _ ⟨_,_,_,rfl⟩
  have hno:cZ w p g=false->D2.nx [some (.sh (.tup (rows.map aP))),some (.sh (.str w)),some (.sh (.int (p:Int))),some (.sh (.int (r:Int))),some (.sh (.str (bV w (some (p:Int)) (some ((p:Int)+1))))),some (.sh (.str (bV (bV w none (some (p:Int))) (some (-1)) none))),some (.lst (((pre.filterMap (gR w p)).map bE).map .sh)),some (.sh (.int (dC g.1))),some (.sh (.str [g.2.1])),some (.sh (.int (g.2.2:Int)))]:=λhv=>by rw[<-Ll hv];exact hnx _ ⟨_,_,_,rfl⟩
  obtain⟨f,c,q⟩:=g;cases f with
  |true=>
   cases hv:decide (w[p]?=some c)
   .simp! [jE,wK,kK,Ip,hv,length_cons,length_nil];exact hno hv
   .simp! [jE,wK,kK,Ip,hv,length_cons,length_nil];exact⟨by simp only[dS,qp];lia,hyes hv⟩
  |false=>
   cases hv:decide (0<p/\w[p-1]?=some c)
   .simp! [jE,sH,kK,Oq hp,hv,length_cons,length_nil];exact hno hv
   .simp! [jE,sH,kK,Oq hp,hv,length_cons,length_nil];exact⟨by simp only[dS,qp];lia,hyes hv⟩
 .obtain⟨o7,o8,o9,rfl⟩:=hI;simp! [e_C];exact h
def RA{w:List Nat}{p:Nat}(h0:0<p)(hp:p<=w.length):∃x,w[p-1]?=some x/\atI w ((p:Int)-1)=some x:=by
 have h:p-1<w.length:=by lia
 exact⟨w[p-1],qi h,Ba (by lia) (by rw[show((p:Int)-1).toNat=p-1 by lia];exact qi h)⟩
def WO{rows:List Row}{w:List Nat}{p r:Nat}(hg:aV rows)(hw:w.length<=12)(hp:p<=w.length)(hr:r<rows.length)
  (h:P (.lst (((aT rows w (p,r)).map bE).map .sh)) [.sh (.tup (rows.map aP)),.sh (.str w),.sh (.int (p:Int)),.sh (.int (r:Int))]):Bl [.sh (.tup (rows.map aP)),.sh (.str w),.sh (.int (p:Int)),.sh (.int (r:Int))] P PX:=by
 refine kE rfl rfl ?_;have hg5:=(hg.2.2 rows[r] (getElem_mem hr)).1;rw[Ng hr]at h;simp! [Gu hr,aP];refine rZ (toD:=jE) (λpre U=>∃o5 o6 o7,U=[some (.sh (.tup (rows.map aP))),some (.sh (.str w)),some (.sh (.int (p:Int))),some (.sh (.int (r:Int))),some (.lst (((pre.filterMap (gR w p)).map bE).map .sh)),o5,o6,o7]) rows[r].2 (λpre g post D2 U e hI hnx hct hrt hbk=>?_) (λU hI=>?_) ⟨none,none,none,rfl⟩
 .obtain⟨o5,o6,o7,rfl⟩:=hI;have zX:(pre.filterMap (gR w p)).length<=5:=by have h1:=List.length_filterMap_le (gR w p) pre;have h2:=congrArg List.length e;rw[qr]at h2;lia
  have hyes:cZ w p g=true->D2.nx [some (.sh (.tup (rows.map aP))),some (.sh (.str w)),some (.sh (.int (p:Int))),some (.sh (.int (r:Int))),some (.lst (((pre.filterMap (gR w p)).map bE).map .sh++[.sh (.tup [.int ((p:Int)+dC g.1),.int (g.2.2:Int)])])),some (.sh (.int (dC g.1))),some (.sh (.str [g.2.1])),some (.sh (.int (g.2.2:Int)))]:=λhv=>by rw[<-LH hv];exact hnx _ ⟨_,_,_,rfl⟩
  have hno:cZ w p g=false->D2.nx [some (.sh (.tup (rows.map aP))),some (.sh (.str w)),some (.sh (.int (p:Int))),some (.sh (.int (r:Int))),some (.lst (((pre.filterMap (gR w p)).map bE).map .sh)),some (.sh (.int (dC g.1))),some (.sh (.str [g.2.1])),some (.sh (.int (g.2.2:Int)))]:=λhv=>by rw[<-Ll hv];exact hnx _ ⟨_,_,_,rfl⟩
  obtain⟨f,c,q⟩:=g;cases f with
  |true=>
   cases hv:decide (w[p]?=some c)
   .simp! [jE,wK,fP,NK,hv,length_cons,length_nil];exact hno hv
   .simp! [jE,wK,fP,NK,hv,length_cons,length_nil];exact⟨by simp only[dS,qp];lia,hyes hv⟩
  |false=>
   by_cases h0:0<p
   .obtain⟨x,e1,e2⟩:=RA h0 hp;have d0:decide ((p:Int)>0)=true:=qS (by lia);have d1:decide ((0:Int)<(p:Int))=true:=qS (by lia);cases hv:decide ([x]=[c])
    .have hs:cZ w p (false,c,q)=false:=qT λz=>by rw[e1]at z;exact of_decide_eq_false hv (by rw[qg z.2])
     simp! [jE,sH,fP,d0,d1,e2,hv,length_cons,length_nil];exact hno hs
    .have hs:cZ w p (false,c,q)=true:=qS ⟨h0,by rw[e1,show x=c by simpa using qV hv]⟩;simp! [jE,sH,fP,d0,d1,e2,hv,length_cons,length_nil];exact⟨by simp only[dS,qp];lia,hyes hs⟩
   .have hs:cZ w p (false,c,q)=false:=qT λz=>h0 z.1;have d0:decide ((p:Int)>0)=false:=qT (by lia);have d1:decide ((0:Int)<(p:Int))=false:=qT (by lia);simp! [jE,sH,fP,d0,d1,length_cons,length_nil];exact hno hs
 .obtain⟨o5,o6,o7,rfl⟩:=hI;simp! [e_C];exact h
def Seen.le{rows:List Row}{w:List Nat}{f:Sd->Prop}{seen left:List Sd}(h:Seen rows w b0 f seen left)(hg:aV rows)(hw:w.length<=12):seen.length<=52:=Ol hg hw h.nd λs hs=>(h.re s hs).in_ h.in0 hg
def Ao{rows:List Row}{w:List Nat}{f:Sd->Prop}{seen left new:List Sd}{s:Sd}(h:Seen rows w b0 f seen left)(hs:s∈seen)(hg:aV rows)(hw:w.length<=12)(hnd:(seen++new).Nodup)(hn:∀t∈new,t∈aT rows w s):(seen++new).length<=52:=
 Ol hg hw hnd λt ht=>(qz.mp ht).elim (λq=>(h.re t q).in_ h.in0 hg) λq=>MX hg ((h.re s hs).in_ h.in0 hg) (hn t q)
def GA{seen:List Sd}{t:Sd}(h:seen.Nodup)(ht:t∉seen):(seen++[t]).Nodup:=by rw[qy];refine⟨h,by simp,λa ha b hb e=>?_⟩;rw[qv.mp hb]at e;exact ht (e▸ha)
def GF{l:List Sd}{t:Sd}:(l.map bE).map S.sh++[S.sh (bE t)]=((l++[t]).map bE).map S.sh:=by simp
def Nl{rows:List Row}{w:List Nat}{D':Ends}{s0 s1 s2 o5 o6 o7:Option S}{f:Sd->Prop}{seen left:List Sd}{s:Sd}(hg:aV rows)(hw:w.length<=12)(h:Seen rows w b0 f seen (left++[s]))
  (fin:∀(new:List Sd) o7,(seen++new).Nodup->(∀t∈new,t∈aT rows w s)->(∀t∈aT rows w s,t∈seen++new)->D'.nx [s0,s1,s2,some (.lst (((left++new).map bE).map .sh)),some (fK (seen++new)),o5,o6,o7]):
  cK (zF 7) mP ((aT rows w s).map bE) D' [s0,s1,s2,some (.lst ((left.map bE).map .sh)),some (fK seen),o5,o6,o7]:=by
 have hs:s∈seen:=h.sub s (by simp);refine rZ (toD:=bE) (λpre U=>∃(new:List Sd)(o7:Option S),(seen++new).Nodup/\(∀t∈new,t∈aT rows w s)/\(∀t∈pre,t∈seen++new)/\U=[s0,s1,s2,some (.lst (((left++new).map bE).map .sh)),some (fK (seen++new)),o5,o6,o7]) (aT rows w s) (λpre t post D2 U e hI hnx hct hrt hbk=>?_) (λU hI=>?_) ⟨[],o7,by simpa using h.nd,by simp,by simp,by simp⟩
 .obtain⟨new,o7,hnd,hn,hp,rfl⟩:=hI;have hle:=Ao h hs hg hw hnd hn;have hll:=h.ln;rw[qr]at hle;rw[qr,qD]at hll;by_cases hin:t∈seen++new
  .have e1:=Lm (vs:=((seen++new).map λ_=>S.sh (.bl true)).map S.toD) hin;simp! [tJ,fK,e1];exact hnx _ ⟨new,_,hnd,hn,λu hu=>(qz.mp hu).elim (hp u) λq=>by rw[qv.mp q];exact hin,rfl⟩
  .have e1:=LA (vs:=((seen++new).map λ_=>S.sh (.bl true)).map S.toD) hin;simp! [tJ,fK,e1,DY,LD hin,GF];refine⟨Lu hnd,by rw[qp,qr];simp only[dS];lia,by rw[qp,qp,qr];simp only[dS];lia,?_⟩;refine hnx _ ⟨new++[t],some (.sh (bE t)),by rw[<-qq];exact GA hnd hin,λu hu=>(qz.mp hu).elim (hn u) λq=>by rw[qv.mp q,<-e];simp,λu hu=>?_,by rw[<-qq,<-qq];rfl⟩;rw[<-qq];exact(qz.mp hu).elim (λq=>qk _ (hp u q)) λq=>qj _ q
 .obtain⟨new,o7,hnd,hn,hp,rfl⟩:=hI;exact fin new o7 hnd hn hp
def RN{rows:List Row}{w:List Nat}{D':Ends}{s0 s1 s2 o5 o6 o7:Option S}{f:Sd->Prop}{seen left:List Sd}{s:Sd}(hg:aV rows)(hw:w.length<=12)(h:Seen rows w b0 f seen (left++[s]))
  (fin:∀(new:List Sd) o7,(seen++new).Nodup->(∀t∈new,t∈aT rows w s)->(∀t∈aT rows w s,t∈seen++new)->D'.nx [s0,s1,s2,some (fK (seen++new)),some (.lst (((left++new).map bE).map .sh)),o5,o6,o7]):
  cK (zF 7) kF ((aT rows w s).map bE) D' [s0,s1,s2,some (fK seen),some (.lst ((left.map bE).map .sh)),o5,o6,o7]:=by
 have hs:s∈seen:=h.sub s (by simp);refine rZ (toD:=bE) (λpre U=>∃(new:List Sd)(o7:Option S),(seen++new).Nodup/\(∀t∈new,t∈aT rows w s)/\(∀t∈pre,t∈seen++new)/\U=[s0,s1,s2,some (fK (seen++new)),some (.lst (((left++new).map bE).map .sh)),o5,o6,o7]) (aT rows w s) (λpre t post D2 U e hI hnx hct hrt hbk=>?_) (λU hI=>?_) ⟨[],o7,by simpa using h.nd,by simp,by simp,by simp⟩
 .obtain⟨new,o7,hnd,hn,hp,rfl⟩:=hI;have hle:=Ao h hs hg hw hnd hn;have hll:=h.ln;rw[qr]at hle;rw[qr,qD]at hll;by_cases hin:t∈seen++new
  .have e1:=Lm (vs:=((seen++new).map λ_=>S.sh (.bl true)).map S.toD) hin;simp! [oK,fK,e1];exact hnx _ ⟨new,_,hnd,hn,λu hu=>(qz.mp hu).elim (hp u) λq=>by rw[qv.mp q];exact hin,rfl⟩
  .have e1:=LA (vs:=((seen++new).map λ_=>S.sh (.bl true)).map S.toD) hin;simp! [oK,fK,e1,DY,LD hin,GF];refine⟨Lu hnd,by rw[qp,qr];simp only[dS];lia,by rw[qp,qp,qr];simp only[dS];lia,?_⟩;refine hnx _ ⟨new++[t],some (.sh (bE t)),by rw[<-qq];exact GA hnd hin,λu hu=>(qz.mp hu).elim (hn u) λq=>by rw[qv.mp q,<-e];simp,λu hu=>?_,by rw[<-qq,<-qq];rfl⟩;rw[<-qq];exact(qz.mp hu).elim (λq=>qk _ (hp u q)) λq=>qj _ q
 .obtain⟨new,o7,hnd,hn,hp,rfl⟩:=hI;exact fin new o7 hnd hn hp
def Rl:iC (.lst [])=some false:=rfl
def Td{l:List D}{d:D}:iC (.lst (l++[d]))=some true:=by cases l<;>rfl
def TK(rows:List Row)(w:List Nat):Prop:=∃s,fL rows w (0,0) s/\zZ rows w s
open Classical in
def OG{rows:List Row}{w col:List Nat}(hg:aV rows)(hw:w.length<=12)
  (h:P (.sh (.bl (decide (TK rows w)))) [.sh (.str col),.sh (.tup (rows.map aP)),.sh (.str w)]):Hc [.sh (.str col),.sh (.tup (rows.map aP)),.sh (.str w)] P PX:=by
 refine kE rfl rfl ?_;simp! [e_C];refine⟨rfl,?_⟩;refine Hv (λm U=>∃(seen left:List Sd)(o5 o6 o7:Option S),Seen rows w (0,0) (λs=>¬zZ rows w s) seen left/\m+2*seen.length=104+left.length/\U=[some (.sh (.str col)),some (.sh (.tup (rows.map aP))),some (.sh (.str w)),some (.lst ((left.map bE).map .sh)),some (fK seen),o5,o6,o7]) 103 ⟨[(0,0)],[(0,0)],none,none,none,Seen.start ⟨zero_le _,hg.1⟩,rfl,rfl⟩ λm U hJ=>?_;obtain⟨seen,left,o5,o6,o7,hS,hm,rfl⟩:=hJ;have hle:=hS.le hg hw;rcases List.eq_nil_or_concat left with rfl|⟨l0,s,rfl⟩
 .simp! [Bi,Rl];rw[qT (show¬TK rows w from λ⟨s,hr,ha⟩=>(hS.done hr).2 ha)]at h;exact h
 .rw[List.concat_eq_append]at hS hm⊢;have hs:s∈seen:=hS.sub s (by simp);have hr:=hS.re s hs;have hi:=hr.in_ hS.in0 hg;rw[<-GF];simp! [Bh,zan,map_append,Td,Br,bE,Gu hi.2,aP,length_cons,length_nil];cases hd:decide ((s.1:Int)=(w.length:Int))
  .simp! [e_C];refine Ot hg hw hi.1 hi.2 ?_;simp! [zan];refine Nl hg hw hS λnew o7 hnd hn ha=>Gs (m':=m-1-new.length) ?_ ⟨seen++new,l0++new,_,_,_,hS.push (λ⟨z,_⟩=>of_decide_eq_false hd (by rw[z])) hnd hn ha,?_,rfl⟩
   .have:=Ao hS hs hg hw hnd hn;rw[qr]at this;rw[qr,qD]at hm;lia
   .have:=Ao hS hs hg hw hnd hn;rw[qr]at this;rw[qr,qD]at hm;rw[qr,qr];lia
  .simp! [Gu hi.2,aP];cases hb:(rows[s.2]'hi.2).1
   .simp! [e_C];refine Ot hg hw hi.1 hi.2 ?_;simp! [zan];refine Nl hg hw hS λnew o7 hnd hn ha=>Gs (m':=m-1-new.length) ?_ ⟨seen++new,l0++new,_,_,_,hS.push (λ⟨_,r,hr,hr1⟩=>by rw[qi hi.2]at hr;cases hr;rw[hb]at hr1;cases hr1) hnd hn ha,?_,rfl⟩
    .have:=Ao hS hs hg hw hnd hn;rw[qr]at this;rw[qr,qD]at hm;lia
    .have:=Ao hS hs hg hw hnd hn;rw[qr]at this;rw[qr,qD]at hm;rw[qr,qr];lia
   .simp! [e_C];rw[qS (show TK rows w from⟨s,hr,by have:=qV hd;lia,_,qi hi.2,hb⟩)]at h;exact h
def So(l:List Sd):bB (l.map bE)<=29:=Il _ λd hd=>by obtain⟨u,_,rfl⟩:=qL.mp hd;show 1<=29;decide
def Lj{l:List Sd}:mI (.lst (l.map bE)) (.lst [])=some (!l.isEmpty):=by rw[RT (So l),List.isEmpty_map]
def PF(l:List Sd):(l.map bE).all yW=true:=by rw[List.all_map,qJ];intro x _;rfl
def Py{seen:List Sd}:vC (some (.dct true (seen.map bE) (seen.map λ_=>S.sh (.bl true))))=some (.dct true (seen.map bE) (seen.map λ_=>.bl true)):=by rw[show(seen.map λ_=>S.sh (.bl true))=(seen.map λ_=>D.bl true).map S.sh by rw[qF];rfl];exact zm0
def Oo{rows:List Row}{w:List Nat}{b0:Sd}(hg:aV rows)(hw:w.length<=12)(h0:yY rows w b0)
  (h:∀seen:List Sd,seen.length<=52->seen.Nodup->(∀s∈seen,yY rows w s)->(∀s,fL rows w b0 s↔s∈seen)->P (.lst ((seen.map bE).map .sh)) [.sh (.tup (rows.map aP)),.sh (.str w),.sh (.lst [bE b0])]):wL [.sh (.tup (rows.map aP)),.sh (.str w),.sh (.lst [bE b0])] P PX:=by
 refine kE rfl rfl ?_;simp! [e_C];refine Pk (n:=8) (toD:=bE) [b0] (λt=>some (.sh (.tup [bE t,.bl true]))) (λt ht l o K hl hK=>?_) λo=>?_
 .simp! [gL,rW,xA];rw[qD]at hl;exact⟨by simp only[dS];lia,hK _⟩
 .simp! [zan,filterMap_cons,List.filterMap_nil,DY];refine Hv (λm U=>∃(seen left:List Sd)(o5 o6 o7:Option S),Seen rows w b0 (λs=>True) seen left/\m+2*seen.length=104+left.length/\U=[some (.sh (.tup (rows.map aP))),some (.sh (.str w)),some (.sh (.lst [bE b0])),some (fK seen),some (.lst ((left.map bE).map .sh)),o5,o6,o7]) 103 ⟨[b0],[b0],none,none,none,Seen.start h0,rfl,rfl⟩ λm U hJ=>?_;obtain⟨seen,left,o5,o6,o7,hS,hm,rfl⟩:=hJ;have hle:=hS.le hg hw;rcases List.eq_nil_or_concat left with rfl|⟨l0,s,rfl⟩
  .have hn:=Lj (l:=[]);rw[map_nil]at hn;have e3:=zjG (ks:=seen.map bE) (vs:=seen.map λ_=>D.bl true) (by rw[qp];simp only[dS];lia) (PF seen);simp! [Bi,hn,isEmpty_nil,fK,Py,e3];exact h seen hle hS.nd (λs hs=>(hS.re s hs).in_ hS.in0 hg) λs=>⟨λhr=>(hS.done hr).1,hS.re s⟩
  .rw[List.concat_eq_append]at hS hm⊢;have hs:s∈seen:=hS.sub s (by simp);have hr:=hS.re s hs;have hi:=hr.in_ hS.in0 hg;have hn:=Lj (l:=l0++[s]);rw[show(l0++[s]).isEmpty=false by cases l0<;>rfl,map_append,qA,map_nil]at hn;rw[<-GF];simp! [Bh,zan,map_append,hn,xB];simp! [bE,length_cons,length_nil];refine WO hg hw hi.1 hi.2 ?_;simp! [zan];refine RN hg hw hS λnew o7 hnd hn ha=>Gs (m':=m-1-new.length) ?_ ⟨seen++new,l0++new,_,_,_,hS.push trivial hnd hn ha,?_,rfl⟩
   .have:=Ao hS hs hg hw hnd hn;rw[qr]at this;rw[qr,qD]at hm;lia
   .have:=Ao hS hs hg hw hnd hn;rw[qr]at this;rw[qr,qD]at hm;rw[qr,qr];lia
def QR{D':Ends}{col:List Nat}{s2 s3 s6:Option S}{many:Int}{F5:Option S}(hc:0<col.length)(hc2:col.length<=1000)(hm:0<many)(hm2:many<=1000)(xs:List D)(hx:xs.length<=1000){a s:Int}(ha:0<=a)(hs:1<=s)(hs2:s<=2147483629)(o8 o9:Option S)
  (fin:∀a s(B:List Go) o8 o9,0<=a->1<=s->s<=2147483629->B.length=xs.length->(∀g∈B,(g.2.2:Int)<many)->D'.nx [some (cM a s),some (.sh (.str col)),s2,s3,some (.sh (.int many)),F5,s6,some (.lst ((B.map jE).map .sh)),o8,o9]):
  cK (zF 8) kG xs D' [some (cM a s),some (.sh (.str col)),s2,s3,some (.sh (.int many)),F5,s6,some (.lst []),o8,o9]:=by
 refine OS (λk U=>∃(a s:Int)(B:List Go)(o8 o9:Option S),0<=a/\1<=s/\s<=2147483629/\B.length=k/\(∀g∈B,(g.2.2:Int)<many)/\U=[some (cM a s),some (.sh (.str col)),s2,s3,some (.sh (.int many)),F5,s6,some (.lst ((B.map jE).map .sh)),o8,o9]) xs (λk x hk D2 U hI hnx hct hrt hbk=>?_) (λU hI=>?_) ⟨a,s,[],o8,o9,ha,hs,hs2,rfl,by simp,rfl⟩
 .obtain⟨a,s,B,o8,o9,ha,hs,hs2,hB,hB2,rfl⟩:=hI;have hkl:=(qh.mp hk).1;simp! [cM,xD];refine vV ha hs hs2 (by decide) (by decide) λr a1 s1 hr hr2 ha1 hs1 hs21=>?_;have hq:∃f:Bool,atI [S.sh (D.int 1),S.sh (D.int 1),S.sh (D.int (-1))] r=some (S.sh (D.int (dC f))):=by
   have:r=0\/r=1\/r=2:=by lia
   rcases this with rfl|rfl|rfl
   .exact⟨true,znh⟩
   .exact⟨true,zmj⟩
   .exact⟨false,zmd⟩
  obtain⟨f,e⟩:=hq;simp! [cM,e];refine vV ha1 hs1 hs21 (by lia) (by lia) λr2 a2 s2 hr2 hr22 ha2 hs2 hs22=>?_;obtain⟨c,hcm,_,ec⟩:=HI (l:=col) hr2 hr22;simp! [cM,ec];refine vV ha2 hs2 hs22 hm (by lia) λr3 a3 s3 hr3 hr32 ha3 hs3 hs23=>?_;obtain⟨q,rfl⟩:=Int.eq_ofNat_of_zero_le hr3;simp! [cM,length_map];rw[show((B.map jE).map S.sh)++[S.sh (.tup [.int (dC f),.str [c],.int (q:Int)])]=((B++[(f,c,q)]).map jE).map S.sh by simp[jE]];exact⟨by simp only[dS];lia,hnx _ ⟨a3,s3,_,_,_,ha3,hs3,hs23,by simp[hB],λx hx=>(qz.mp hx).elim (hB2 x) λq=>by rw[qv.mp q];exact hr32,rfl⟩⟩
 .obtain⟨a,s,B,o8,o9,ha,hs,hs2,hB,hB2,rfl⟩:=hI;exact fin a s B o8 o9 ha hs hs2 hB hB2
def UY{a s:Int}{col:List Nat}(ha:0<=a)(hs:1<=s)(hs2:s<=2147483629)(hc:0<col.length)(hc2:col.length<=1000)
  (h:∀(rows:List Row) a' s',aV rows->0<=a'->1<=s'->s'<=2147483629->P (.sh (.tup (rows.map aP))) [cM a' s',.sh (.str col),.sh (.int 4),.sh (.int 5)]):Bm [cM a s,.sh (.str col),.sh (.int 4),.sh (.int 5)] P PX:=by
 refine kE rfl rfl ?_;simp! [cM];refine vV ha hs hs2 (by decide) (by decide) λr a1 s1 hr hr2 ha1 hs1 hs21=>?_;simp! [cM];refine⟨by simp only[dS];lia,?_⟩;refine OS (λk U=>∃(a s:Int)(A:List Row)(o6 o7 o8 o9:Option S),0<=a/\1<=s/\s<=2147483629/\A.length=k/\(∀x∈A,x.2.length<=5/\∀g∈x.2,(g.2.2:Int)<1+r)/\U=[some (cM a s),some (.sh (.str col)),some (.sh (.int 4)),some (.sh (.int 5)),some (.sh (.int (1+r))),some (.lst ((A.map aP).map .sh)),o6,o7,o8,o9]) _ (λk x hk D2 U hI hnx hct hrt hbk=>?_) (λU hI=>?_) ⟨a1,s1,[],none,none,none,none,ha1,hs1,hs21,rfl,by simp,rfl⟩
 .obtain⟨a,s,A,o6,o7,o8,o9,ha,hs,hs2,hA,hA2,rfl⟩:=hI;have hkl:=(qh.mp hk).1;rw[Au]at hkl;simp! [cM,xC];refine vV ha hs hs2 (by decide) (by decide) λr2 a2 s2 hr2 hr22 ha2 hs2 hs22=>?_;simp! [cM];refine⟨by simp only[dS];lia,?_⟩;refine QR hc hc2 (by lia) (by lia) _ (by rw[Au];lia) ha2 hs2 hs22 _ _ λa3 s3 B o8 o9 ha3 hs3 hs23 hB hB2=>?_;rw[Au]at hB;simp! [cM];refine vV ha3 hs3 hs23 (by decide) (by decide) λr4 a4 s4 hr4 hr42 ha4 hs4 hs24=>?_;simp! [cM,zan,length_map];rw[show((A.map aP).map S.sh)++[S.sh (.tup [.bl (decide (r4=0)),.tup (B.map jE)])]=((A++[(decide (r4=0),B)]).map aP).map S.sh by simp[aP]];refine⟨by simp only[dS];lia,hnx _ ⟨a4,s4,_,_,_,_,_,ha4,hs4,hs24,by simp[hA],λx hx=>?_,rfl⟩⟩;rcases qz.mp hx with q|q
  .exact hA2 x q
  .rw[qv.mp q];exact⟨by show B.length<=5;lia,hB2⟩
 .obtain⟨a,s,A,o6,o7,o8,o9,ha,hs,hs2,hA,hA2,rfl⟩:=hI;rw[Au]at hA;simp! [cM,zan];exact h A a s ⟨by lia,by lia,λx hx=>⟨(hA2 x hx).1,λg hgm=>by have:=(hA2 x hx).2 g hgm;lia⟩⟩ ha hs hs2
def nD(n:Nat):D:=.int (n:Int)
def Ed{a b:Nat}(h:nD a=nD b):a=b:=by
 unfold nD at h;injection h with h
 lia
def bO(pre:List (Nat×Nat))(k:Nat):List Nat:=(pre.filter λt=>decide (t.1=k)).map (·.2)
def GP(pre:List (Nat×Nat))(t:Nat×Nat)(k:Nat):bO (pre++[t]) k=bO pre k++(if t.1=k then[t.2]else[]):=by
 unfold bO;rw[List.filter_append,map_append];congr 1;by_cases h:t.1=k
 .rw[q8 h,List.filter_cons_of_pos (by exact qS h)];rfl
 .rw[q9 h,List.filter_cons_of_neg (by rw[qU];exact h)];rfl
structure vQ(G:List (Nat×List Nat))(pre:List (Nat×Nat)):Prop where
 nd:(G.map (·.1)).Nodup
 val:∀p∈G,p.2=bO pre p.1
 all:∀t∈pre,t.1∈G.map (·.1)
 len:G.length<=pre.length
def eI(G:List (Nat×List Nat)):List D:=G.map λp=>nD p.1
def kP(G:List (Nat×List Nat)):List S:=G.map λp=>S.lst ((p.2.map nD).map S.sh)
def rN(G:List (Nat×List Nat)):List D:=G.map λp=>D.lst (p.2.map nD)
def gS(G:List (Nat×List Nat)):S:=.dct false (eI G) (kP G)
def QU(G:List (Nat×List Nat)):(gS G).toD=.dct false (eI G) (rN G):=by unfold gS kP rN;rw[S.toD_dct,qF];congr 1;refine map_congr_left λp _=>?_;simp[Function.comp_def]
def Rj{G:List (Nat×List Nat)}{k:Nat}:(∃m p,iU (eI G) (nD k)=some m/\G[m]?=some p/\p.1=k)\/(iU (eI G) (nD k)=none/\k∉G.map (·.1)):=by
 unfold iU eI;cases q:(G.map λp=>nD p.1).findIdx? (λx=>open Classical in decide (x=nD k))with
 |some m=>obtain⟨h1,h2,_⟩:=List.findIdx?_eq_some_iff_getElem.mp q;rw[qp]at h1;refine .inl ⟨m,G[m],rfl,qi h1,?_⟩;rw[List.getElem_map]at h2;exact Ed (by simpa using h2)
 |none=>refine .inr ⟨rfl,λz=>?_⟩;obtain⟨p,hp,rfl⟩:=qL.mp z;have:=List.findIdx?_eq_none_iff.mp q (nD p.1) (qL.mpr ⟨p,hp,rfl⟩);simp at this
def Sz{G:List (Nat×List Nat)}{pre:List (Nat×Nat)}(h:vQ G pre)(t:Nat×Nat):∃(G':List (Nat×List Nat))(l':List Nat),vQ G' (pre++[t])/\l'.length<=pre.length/\
  (bA (eI G) (kP G) (nD t.1)).2.1[(bA (eI G) (kP G) (nD t.1)).2.2]?=some (.lst ((l'.map nD).map .sh))/\
  S.dct false (bA (eI G) (kP G) (nD t.1)).1 ((bA (eI G) (kP G) (nD t.1)).2.1.set (bA (eI G) (kP G) (nD t.1)).2.2 (.lst ((l'.map nD).map .sh++[.sh (nD t.2)])))=gS G':=by
 have elen:∀k,(bO pre k).length<=pre.length:=λk=>by unfold bO;rw[qp];exact length_filter_le ..
 rcases Rj (G:=G) (k:=t.1)with⟨m,p,e1,e2,e3⟩|⟨e1,e2⟩
 .have hm:=(qh.mp e2).1;have hp:p∈G:=qN e2;have es:bA (eI G) (kP G) (nD t.1)=(eI G,kP G,m):=by unfold bA;rw[e1]
  have hu:∀j,j<G.length->(G[j]?.map (·.1))=some t.1->j=m:=λj hj z=>by refine(List.getElem?_inj (l:=G.map (·.1)) (by rw[qp];exact hj) h.nd).mp ?_;rw[qG,qG,z,e2];show _=some p.1;rw[e3]
  refine⟨G.set m (p.1,p.2++[t.2]),p.2,⟨?_,λq hq=>?_,λu hu'=>?_,by rw[length_set,qr];have:=h.len;lia⟩,by rw[h.val p hp];exact elen _,?_,?_⟩
  .have:(G.set m (p.1,p.2++[t.2])).map (·.1)=G.map (·.1):=by
    rw[map_set];apply ext_getElem?;intro j;rw[getElem?_set];by_cases hj:m=j
    .subst hj;rw[q8 rfl,q8 (by rw[qp];exact hm),qG,e2];rfl
    .rw[q9 hj]
   rw[this];exact h.nd
  .obtain⟨j,hj,rfl⟩:=getElem_of_mem hq;rw[length_set]at hj;rw[List.getElem_set];by_cases hjm:m=j
   .rw[q8 hjm];show p.2++[t.2]=bO (pre++[t]) p.1;rw[GP,e3,q8 rfl,h.val p hp,e3]
   .rw[q9 hjm,GP,q9 λz=>hjm (hu j hj (by rw[qi hj,z];rfl)).symm,qB];exact h.val _ (getElem_mem hj)
  .have hk:∀k∈G.map (·.1),k∈(G.set m (p.1,p.2++[t.2])).map (·.1):=λk hk=>by
    obtain⟨q,hq,rfl⟩:=qL.mp hk;obtain⟨j,hj,rfl⟩:=getElem_of_mem hq;by_cases hjm:m=j
    .subst hjm;refine qL.mpr ⟨(p.1,p.2++[t.2]),List.mem_set hj _,?_⟩;rw[qi hj]at e2;cases e2;rfl
    .refine qL.mpr ⟨G[j],?_,rfl⟩;have:(G.set m (p.1,p.2++[t.2]))[j]?=some G[j]:=by rw[getElem?_set_ne hjm,qi hj]
     exact qN this
   rcases qz.mp hu' with z|z
   .exact hk _ (h.all u z)
   .rw[qv.mp z];exact hk _ (qL.mpr ⟨p,hp,e3⟩)
  .rw[es];show(kP G)[m]?=_;unfold kP;rw[qG,e2];rfl
  .rw[es];unfold gS eI kP;show S.dct false (G.map λp=>nD p.1) ((G.map λp=>S.lst ((p.2.map nD).map S.sh)).set m _)=_;congr 1
   .rw[map_set];apply ext_getElem?;intro j;rw[getElem?_set];by_cases hj:m=j
    .subst hj;rw[q8 rfl,q8 (by rw[qp];exact hm),qG,e2];rfl
    .rw[q9 hj]
   .rw[map_set];congr 2;simp
 .have es:bA (eI G) (kP G) (nD t.1)=(eI G++[nD t.1],kP G++[.lst []],(eI G).length):=by unfold bA;rw[e1]
  have hl:(eI G).length=(kP G).length:=by unfold eI kP;simp
  have hnil:bO pre t.1=[]:=by unfold bO;rw[map_eq_nil_iff,filter_eq_nil_iff];intro u hu z;rw[qU]at z;exact e2 (z▸h.all u hu)
  refine⟨G++[(t.1,[t.2])],[],⟨?_,λq hq=>?_,λu hu=>?_,by rw[qr,qr];have:=h.len;simp only[qD];lia⟩,zero_le _,?_,?_⟩
  .rw[map_append];exact qy.mpr ⟨h.nd,by simp,λa ha b hb e=>by rw[qA,map_nil,qv]at hb;have h3:b=t.1:=hb;rw[e,h3]at ha;exact e2 ha⟩
  .rcases qz.mp hq with z|z
   .rw[GP,q9 λy=>e2 (qL.mpr ⟨q,z,y.symm⟩),qB];exact h.val q z
   .rw[qv.mp z,GP,q8 rfl,hnil];rfl
  .rw[map_append];rcases qz.mp hu with z|z
   .exact qk _ (h.all u z)
   .rw[qv.mp z];exact qj _ (by simp)
  .rw[es];show(kP G++[S.lst []])[(eI G).length]?=_;rw[hl,getElem?_append_right (zc _),sub_self];rfl
  .rw[es];show S.dct false (eI G++[nD t.1]) ((kP G++[S.lst []]).set (eI G).length _)=_;rw[hl,List.set_append_right _ _ (zc _),sub_self];unfold gS eI kP;rw[map_append,map_append];rfl
def Lw{f:Nat->List Nat}{k:Nat}:∀{G:List (Nat×List Nat)},(∀p∈G,p.2=f p.1)->lk (eI G) (rN G) (nD k)=some (.lst ((f k).map nD))\/(lk (eI G) (rN G) (nD k)=none/\k∉G.map (·.1))
 |[],_=>.inr ⟨rfl,λz=>nomatch z⟩
 |p::G,h=>by
  have e:lk (eI (p::G)) (rN (p::G)) (nD k)=(open Classical in if nD p.1=nD k then some (D.lst (p.2.map nD))else lk (eI G) (rN G) (nD k)):=rfl;by_cases hk:p.1=k
  .left
   rw[e,q8 (by rw[hk]),h p qo,hk]
  .rw[e,q9 λz=>hk (Ed z)];rcases Lw (G:=G) (f:=f) (k:=k) λq hq=>h q (qm _ hq)with z|⟨z,y⟩
   .exact .inl z
   .refine .inr ⟨z,λw=>?_⟩;rw[qA,qC]at w;rcases w with w|w
    .exact hk w.symm
    .exact y w
def HB:∀{l m:List D},l.Nodup->(∀d∈l,d∈m)->l.length<=m.length
 |[],_,_,_=>zero_le _
 |d::l,m,h,hs=>by
  obtain⟨m1,m2,rfl⟩:=append_of_mem (hs d qo);obtain⟨h1,h2⟩:=qM.mp h;have:=HB (l:=l) (m:=m1++m2) h2 λe he=>by
   rcases qz.mp (hs e (qm _ he))with z|z
   .exact qk _ z
   .rcases qC.mp z with rfl|z
    .exact absurd he h1
    .exact qj _ z
  simp only[qr,qu]at this⊢;lia
def Jf(l:List D)(d:D):aJ (l++[d])=dB (aJ l) d:=by unfold aJ;rw[List.foldl_append];rfl
def hU(m:Nat)(f:Nat->Nat->Bool):List (Nat×Nat):=(List.range m).flatMap λx=>((List.range m).filter (f x)).map λy=>(x,y)
def pN(p:Nat×Nat):D:=.tup [nD p.1,nD p.2]
def tD(m:Nat)(f:Nat->Nat->Bool):List D:=(hU m f).map pN
def Dq{a b:Nat×Nat}(h:pN a=pN b):a=b:=by
 unfold pN at h;injection h with h
 injection h with h1 h2
 injection h2 with h2 _
 exact Prod.ext (Ed h1) (Ed h2)
def zao{m:Nat}{f:Nat->Nat->Bool}{p:Nat×Nat}:p∈hU m f↔p.1<m/\p.2<m/\f p.1 p.2=true:=by
 unfold hU;simp only[mem_flatMap,qL,mem_filter,qK];constructor
 .rintro⟨x,hx,y,⟨hy,hf⟩,rfl⟩;exact⟨hx,hy,hf⟩
 .rintro⟨h1,h2,h3⟩;exact⟨p.1,h1,p.2,⟨h2,h3⟩,rfl⟩
def LZ(m:Nat)(f:Nat->Nat->Bool):(hU m f).Pairwise λp q=>p.1<q.1\/p.1=q.1/\p.2<q.2:=by
 unfold hU;rw[List.pairwise_flatMap];refine⟨λx _=>?_,pairwise_lt_range.imp λ{a b} h x hx y hy=>?_⟩
 .rw[pairwise_map];exact(pairwise_lt_range.sublist filter_sublist).imp λ{a b} h=>.inr ⟨rfl,h⟩
 .obtain⟨_,_,rfl⟩:=qL.mp hx;obtain⟨_,_,rfl⟩:=qL.mp hy;exact .inl h
def GS{m:Nat}{f g:Nat->Nat->Bool}(h:∀x y,x<m->y<m->f x y=g x y):tD m f=tD m g:=by unfold tD hU;rw[flatMap_def,flatMap_def];refine congrArg (λl=>List.map pN (List.flatten l)) (map_congr_left λx hx=>?_);rw[filter_congr λy hy=>h x y (qK.mp hx) (qK.mp hy)]
def Nr(m:Nat)(f:Nat->Nat->Bool):(tD m f).Nodup:=by unfold tD;refine pairwise_map.mpr ((LZ m f).imp λ{a b} h z=>?_);obtain rfl:=Dq z;lia
def Ap(m:Nat)(f:Nat->Nat->Bool):(tD m f).length<=m*m:=by
 unfold tD hU;rw[qp,List.length_flatMap];have:∀l:List Nat,(l.map λx=>(((List.range m).filter (f x)).map λy=>(x,y)).length).sum<=l.length*m:=λl=>by
  induction l with
  |nil=>simp
  |cons x l ih=>have h1:=length_filter_le (f x) (List.range m);rw[qE]at h1;rw[qA,sum_cons,qu,Nat.succ_mul,qp];lia
 have h:=this (List.range m);rwa[qE]at h
def DS(p:Nat×Nat):jZ [false,false] (pN p):=by show True;trivial
def Ls{p q:Nat×Nat}(h:p.1<q.1\/p.1=q.1/\p.2<q.2):fF (pN p) (pN q)=true:=by
 rw[show fF (pN p) (pN q)=_ from wH (DS p) (DS q)];show(!((match cH (.int q.1) (.int p.1)with|.eq=>(match cH (.int q.2) (.int p.2)with|.eq=>Ordering.eq|o=>o)|o=>o)==.lt))=true;rw[Em,Em];by_cases e:(q.1:Int)=p.1
 .rw[q9 (by lia),q9 (by lia),q9 (by lia),q8 (by lia)];rfl
 .rw[q9 (by lia),q8 (by lia)];rfl
def SR{m:Nat}{f:Nat->Nat->Bool}{l:List (Nat×Nat)}(h:∀p,p∈l↔p∈hU m f):gG (aJ (l.map pN))=tD m f:=by
 refine Du (DW [false,false]) (λd hd=>?_) ?_ ?_
 .obtain⟨p,_,rfl⟩:=qL.mp (zaw.mp hd);exact DS p
 .refine(perm_ext_iff_of_nodup (Nr m f) (Ja _)).mpr λd=>?_;rw[zaw];unfold tD;simp only[qL];exact⟨λ⟨p,hp,e⟩=>⟨p,(h p).mpr hp,e⟩,λ⟨p,hp,e⟩=>⟨p,(h p).mp hp,e⟩⟩
 .unfold tD;exact pairwise_map.mpr ((LZ m f).imp Ls)
def HV{m:Nat}{l:List (Nat×Nat)}(h:∀p∈l,p.1<m/\p.2<m):(aJ (l.map pN)).length<=m*m:=by
 have h1:=HB (l:=aJ (l.map pN)) (m:=tD m λ_ _=>true) (Ja _) λd hd=>by obtain⟨p,hp,rfl⟩:=qL.mp (zaw.mp hd);exact qL.mpr ⟨p,zao.mpr ⟨(h p hp).1,(h p hp).2,rfl⟩,rfl⟩
 exact le_trans h1 (Ap m _)
def Ic{m:Nat}{f:Nat->Nat->Bool}{l:List (Nat×Nat)}(hm:m<=4)(h:∀p,p∈l↔p∈hU m f):cG (aJ (l.map pN))=some (.lst ((tD m f).map .sh)):=by
 have h1:=HV (m:=m) (l:=l) λp hp=>by have:=zao.mp ((h p).mp hp);exact⟨this.1,this.2.1⟩
 have h2:m*m<=4*4:=mul_le_mul hm hm;unfold cG;have hs:∀d∈aJ (l.map pN),jZ [false,false] d:=λd hd=>by obtain⟨p,_,rfl⟩:=qL.mp (zaw.mp hd);exact DS p
 rw[q8 ⟨by lia,.inr (.inr (.inr ⟨[false,false],by simp,hs⟩))⟩,SR h]
def Ih{p:Nat×Nat}{l:List (Nat×Nat)}:cX (pN p::aJ (l.map pN))=true:=by
 unfold cX;rw[or_eq_true];refine .inr (qJ.mpr λd hd=>?_);rcases qC.mp hd with rfl|z
 .rfl
 .obtain⟨j,_,rfl⟩:=qL.mp (zaw.mp z);rfl
def WK{ps:List (Nat×Nat)}(hl:ps.length<=64)(h:∀G,vQ G ps->P (gS G) [.sh (.tup (ps.map pN))]):Jp [.sh (.tup (ps.map pN))] P PX:=by
 refine kE rfl rfl ?_;simp! [e_C];refine rZ (toD:=pN) (λpre U=>∃(G:List (Nat×List Nat))(o2 o3:Option S),vQ G pre/\U=[some (.sh (.tup (ps.map pN))),some (gS G),o2,o3]) ps (λpre t post D2 U e hI hnx hct hrt hbk=>?_) (λU hI=>?_) ⟨[],none,none,⟨.nil,λ_ z=>(nomatch z),λ_ z=>(nomatch z),zc _⟩,rfl⟩
 .obtain⟨G,o2,o3,hG,rfl⟩:=hI;have hpl:pre.length<=ps.length:=by rw[<-e];simp
  obtain⟨G',l',hG',hl',e1,e2⟩:=Sz hG t;have hnd:(eI G).Nodup:=by unfold eI;have:=hG.nd;rw[show(G.map λp=>nD p.1)=(G.map (·.1)).map nD by rw[qF];rfl];exact List.Pairwise.map _ (λa b hab z=>hab (Ed z)) this
  have hgl:(eI G).length<=64:=by have:=hG.len;unfold eI;rw[qp];lia
  simp! [BC,pN,length_cons,length_nil,gS];refine⟨rfl,hnd,by simp only[dS];lia,?_⟩;rw[SV e1];simp! [length_map];refine⟨by simp only[dS];lia,?_⟩;rw[e2];exact hnx _ ⟨G',_,_,hG',rfl⟩
 .obtain⟨G,o2,o3,hG,rfl⟩:=hI;simp! [e_C];exact h G hG
def cps(other one:List (Nat×Nat)):List (Nat×Nat):=one.flatMap λp=>(bO other p.2).map λz=>(p.1,z)
def zhQ{other one:List (Nat×Nat)}{p:Nat×Nat}:p∈cps other one↔∃y,(p.1,y)∈one/\(y,p.2)∈other:=by
 unfold cps bO;simp only[mem_flatMap,qL,mem_filter,qU];constructor
 .rintro⟨q,hq,z,⟨r,⟨hr,e⟩,rfl⟩,rfl⟩;exact⟨q.2,hq,by rw[<-e];exact hr⟩
 .rintro⟨y,h1,h2⟩;exact⟨(p.1,y),h1,p.2,⟨(y,p.2),⟨h2,rfl⟩,rfl⟩,rfl⟩
def VN{Q:Env->Prop}{E:WX}{G:List (Nat×List Nat)}{m:Nat}{one other:List (Nat×Nat)}{s0 s1 o4 o5 o6:Option S}(hm:m<=8)(hG:vQ G other)(h1:∀p∈one,p.1<m)(h2:∀p∈other,p.2<m)
  (fin:∀o4 o5 o6,Q [s0,s1,some (.sh (.dct false (eI G) (rN G))),some (.set (aJ ((cps other one).map pN))),o4,o5,o6]):
  aO (cP [zF 4,zF 5]) eK mQ (one.map pN) [s0,s1,some (.sh (.dct false (eI G) (rN G))),some (.set []),o4,o5,o6] Q E:=by
 refine Dp (λpre U=>∃o4 o5 o6,U=[s0,s1,some (.sh (.dct false (eI G) (rN G))),some (.set (aJ ((cps other pre).map pN))),o4,o5,o6]) one (λpre r post K U e hI hK=>?_) (λU hI=>?_) ⟨o4,o5,o6,rfl⟩
 .obtain⟨o4,o5,o6,rfl⟩:=hI;have hr:r∈one:=by rw[<-e];simp
  have eb:cps other (pre++[r])=cps other pre++(bO other r.2).map λz=>(r.1,z):=by unfold cps;rw[flatMap_append];simp
  have hin:∀q∈cps other one,q.1<m/\q.2<m:=λq hq=>by obtain⟨y,z1,z2⟩:=zhQ.mp hq;exact⟨h1 (q.1,y) z1,h2 (y,q.2) z2⟩
  have inner:∀(xs:List Nat)(o6:Option S),xs=bO other r.2->aO (zF 6) eK mR (xs.map nD) [s0,s1,some (.sh (.dct false (eI G) (rN G))),some (.set (aJ ((cps other pre).map pN))),some (.sh (nD r.1)),some (.sh (nD r.2)),o6] K E:=λxs o6 ex=>by
   refine Dp (λpre2 U=>∃o6,U=[s0,s1,some (.sh (.dct false (eI G) (rN G))),some (.set (aJ ((cps other pre++pre2.map λz=>(r.1,z)).map pN))),some (.sh (nD r.1)),some (.sh (nD r.2)),o6]) xs (λpre2 z post2 K2 U e2 hI2 hK2=>?_) (λU hI2=>?_) ⟨o6,by simp⟩
   .obtain⟨o6,rfl⟩:=hI2;have hb:=HV (m:=m) (l:=cps other pre++pre2.map λz=>(r.1,z)) λq hq=>hin q (by
     rw[<-e];unfold cps;rw[flatMap_append,qz];rcases qz.mp hq with y|y
     .exact .inl y
     .refine .inr (mem_flatMap.mpr ⟨r,qo,?_⟩);rw[<-ex,<-e2,map_append];exact qk _ y)
    have h64:m*m<=8*8:=mul_le_mul hm hm;simp! [gL,rW,BB];refine⟨Ih (p:=(r.1,z)),by lia,?_⟩;rw[show D.tup [nD r.1,nD z]=pN (r.1,z) from rfl,<-Jf];exact hK2 _ ⟨some (.sh (nD z)),by simp⟩
   .obtain⟨o6,rfl⟩:=hI2;rw[ex,<-eb];exact hK _ ⟨_,_,_,rfl⟩
  simp! [gL,rW,BA,pN,length_cons,length_nil];have el:DJ (.dct false (eI G) (rN G)) (nD r.2)=some (lk (eI G) (rN G) (nD r.2)):=rfl;rcases Lw (k:=r.2) hG.val with z|⟨z,y⟩
  .simp! [el,z];exact inner _ _ rfl
  .have hn:[]=bO other r.2:=by
    unfold bO
    symm
    rw[map_eq_nil_iff,filter_eq_nil_iff];intro u hu w;rw[qU]at w;exact y (w▸hG.all u hu)
   simp! [el,z];exact inner [] _ hn
 .obtain⟨o4,o5,o6,rfl⟩:=hI;exact fin o4 o5 o6
def bZ(m:Nat)(f g:Nat->Nat->Bool)(x z:Nat):Bool:=(List.range m).any λy=>f x y&&g y z
def RR{m:Nat}{f g:Nat->Nat->Bool}(p:Nat×Nat):p∈cps (hU m g) (hU m f)↔p∈hU m (bZ m f g):=by
 rw[zhQ,zao];unfold bZ;simp only[zao,any_eq_true,qK,and_eq_true];constructor
 .rintro⟨y,⟨h1,h2,h3⟩,h4,h5,h6⟩;exact⟨h1,h5,y,h2,h3,h6⟩
 .rintro⟨h1,h5,y,h2,h3,h6⟩;exact⟨y,⟨h1,h2,h3⟩,h2,h5,h6⟩
def DD{m:Nat}{f g:Nat->Nat->Bool}(hm:m<=4)(h:P (.sh (.tup (tD m (bZ m f g)))) [.sh (.tup (tD m f)),.sh (.tup (tD m g))]):Ax [.sh (.tup (tD m f)),.sh (.tup (tD m g))] P PX:=by
 have h64:m*m<=8*8:=mul_le_mul (le_trans hm (by decide:4<=8)) (le_trans hm (by decide:4<=8));have hl:∀f,(hU m f).length<=m*m:=λf=>by have:=Ap m f;unfold tD at this;rwa[qp]at this
 have hg:=hl g;have hc:=Ap m (bZ m f g);refine kE rfl rfl ?_;simp! [e_C];unfold tD at h⊢;refine WK (ps:=hU m g) (by lia) λG hG=>?_;simp! [QU];refine VN (le_trans hm (by decide)) hG (λp hp=>(zao.mp hp).1) (λp hp=>(zao.mp hp).2.1) λo4 o5 o6=>?_;simp! [Ic hm RR,zan];exact h
def gone(rows:List Row)(b:Bool)(c r o:Nat):Prop:=∃x,rows[r]?=some x/\(b,c,o)∈x.2
def zaK{rows:List Row}{w:List Nat}{s t:Sd}:t∈aT rows w s↔(∃c,w[s.1]?=some c/\gone rows true c s.2 t.2/\t.1=s.1+1)\/(0<s.1/\∃c,w[s.1-1]?=some c/\gone rows false c s.2 t.2/\t.1=s.1-1):=by
 unfold aT gone;cases q:rows[s.2]? with
 |none=>simp
 |some x=>
  simp only[Option.some.injEq,exists_eq_left',mem_filterMap];constructor
  .rintro⟨⟨b,c,o⟩,hg,e⟩;cases b
   .have e':(if 0<s.1/\w[s.1-1]?=some c then some (s.1-1,o)else none)=some t:=e;split at e'
    .rename_i h;cases e';exact .inr ⟨h.1,c,h.2,hg,rfl⟩
    .cases e'
   .have e':(if w[s.1]?=some c then some (s.1+1,o)else none)=some t:=e;split at e'
    .rename_i h;cases e';exact .inl ⟨c,h,hg,rfl⟩
    .cases e'
  .rintro(⟨c,h1,h2,h3⟩|⟨h0,c,h1,h2,h3⟩)
   .refine⟨(true,c,t.2),h2,?_⟩;show(if w[s.1]?=some c then some (s.1+1,t.2)else none)=some t;rw[q8 h1,<-h3]
   .refine⟨(false,c,t.2),h2,?_⟩;show(if 0<s.1/\w[s.1-1]?=some c then some (s.1-1,t.2)else none)=some t;rw[q8 ⟨h0,h1⟩,<-h3]
inductive eX(R:Nat->Nat->Prop)(r:Nat):Nat->Prop
 |refl:eX R r r
 |step {q q':Nat}:eX R r q->R q q'->eX R r q'
def eX.trans{R:Nat->Nat->Prop}{a b c:Nat}(h:eX R a b)(k:eX R b c):eX R a c:=by
 induction k with
 |refl=>exact h
 |step _ r ih=>exact .step ih r
def fL.trans{rows:List Row}{w:List Nat}{a b c:Sd}(h:fL rows w a b)(k:fL rows w b c):fL rows w a c:=by
 induction k with
 |start=>exact h
 |step _ r ih=>exact .step ih r
def Ht(rows:List Row)(w:List Nat)(c:Nat)(A:Sd->Prop)(D:Nat->Prop)(s:Sd):Prop:=(s.1<=w.length/\(A s\/∃q a,D q/\gone rows false c q a/\fL rows w (w.length,a) s))\/(s.1=w.length+1/\D s.2)
def Na{rows:List Row}{w:List Nat}{c:Nat}{A:Sd->Prop}{D:Nat->Prop}(hA:∀s t,A s->t∈aT rows w s->A t)(hAD:∀b q,A (w.length,b)->gone rows true c b q->D q)
  (hD:∀q a b q',D q->gone rows false c q a->fL rows w (w.length,a) (w.length,b)->gone rows true c b q'->D q'){s t:Sd}(h:Ht rows w c A D s)(ht:t∈aT rows (w++[c]) s):Ht rows w c A D t:=by
 obtain⟨t1,t2⟩:=t;obtain⟨s1,s2⟩:=s;rcases h with⟨hl,h⟩|⟨hl,h⟩
 .rcases zaK.mp ht with⟨e,h1,h2,h3⟩|⟨h0,e,h1,h2,h3⟩
  .dsimp only at hl h1 h2 h3 h;by_cases hn:s1<w.length
   .rw[getElem?_append_left hn]at h1;have hs:(t1,t2)∈aT rows w (s1,s2):=zaK.mpr (.inl ⟨e,h1,h2,h3⟩);refine .inl ⟨by show t1<=_;lia,?_⟩;rcases h with h|⟨q,a,a1,a2,a3⟩
    .exact .inl (hA _ _ h hs)
    .exact .inr ⟨q,a,a1,a2,.step a3 hs⟩
   .have e1:s1=w.length:=by lia
    subst e1;rw[getElem?_append_right (zc _),sub_self]at h1;cases h1;refine .inr ⟨h3,?_⟩;rcases h with h|⟨q,a,a1,a2,a3⟩
    .exact hAD _ _ h h2
    .exact hD _ _ _ _ a1 a2 a3 h2
  .dsimp only at hl h0 h1 h2 h3 h;rw[getElem?_append_left (by lia)]at h1;have hs:(t1,t2)∈aT rows w (s1,s2):=zaK.mpr (.inr ⟨h0,e,h1,h2,h3⟩);refine .inl ⟨by show t1<=_;lia,?_⟩;rcases h with h|⟨q,a,a1,a2,a3⟩
   .exact .inl (hA _ _ h hs)
   .exact .inr ⟨q,a,a1,a2,.step a3 hs⟩
 .rcases zaK.mp ht with⟨e,h1,h2,h3⟩|⟨h0,e,h1,h2,h3⟩
  .dsimp only at hl h1;rw[qR (by rw[qr,qD];lia)]at h1;cases h1
  .dsimp only at hl h0 h1 h2 h3 h;subst hl;rw[show w.length+1-1=w.length by lia,getElem?_append_right (zc _),sub_self]at h1;cases h1;have e3:t1=w.length:=by lia
   subst e3;exact .inl ⟨zc _,.inr ⟨_,_,h,h2,.start⟩⟩
def MV{rows:List Row}{w:List Nat}{c:Nat}{b s:Sd}(h:fL rows w b s):fL rows (w++[c]) b s:=by
 induction h with
 |start=>exact .start
 |step _ h ih=>
  refine .step ih (zaK.mpr ?_);rcases zaK.mp h with⟨e,h1,h2,h3⟩|⟨h0,e,h1,h2,h3⟩
  .exact .inl ⟨e,by rw[getElem?_append_left (qh.mp h1).1];exact h1,h2,h3⟩
  .exact .inr ⟨h0,e,by rw[getElem?_append_left (qh.mp h1).1];exact h1,h2,h3⟩
def Tb(rows:List Row)(w:List Nat)(r r':Nat):Prop:=fL rows w (w.length,r) (w.length,r')
def Cm(rows:List Row)(w:List Nat)(r:Nat):Prop:=fL rows w (0,0) (w.length,r)
def Ab(rows:List Row)(w:List Nat)(c r r':Nat):Prop:=∃a b,gone rows false c r a/\Tb rows w a b/\gone rows true c b r'
def Nq(w:List Nat)(c:Nat):(w++[c]).length=w.length+1:=by simp
def Mk(w:List Nat)(c:Nat):(w++[c])[w.length]?=some c:=by simp
def Mn{rows:List Row}{w:List Nat}{c b q:Nat}(h:gone rows true c b q):(w.length+1,q)∈aT rows (w++[c]) (w.length,b):=zaK.mpr (.inl ⟨c,Mk w c,h,rfl⟩)
def Vz{rows:List Row}{w:List Nat}{c q a:Nat}(h:gone rows false c q a):(w.length,a)∈aT rows (w++[c]) (w.length+1,q):=zaK.mpr (.inr ⟨Nat.succ_pos _,c,Mk w c,h,rfl⟩)
def NA{rows:List Row}{w:List Nat}{c r q:Nat}(h:eX (Ab rows w c) r q):fL rows (w++[c]) (w.length+1,r) (w.length+1,q):=by
 induction h with
 |refl=>exact .start
 |step _ h ih=>obtain⟨a,b,h1,h2,h3⟩:=h;exact .step ((fL.step ih (Vz h1)).trans (MV h2)) (Mn h3)
def zcz{rows:List Row}{w:List Nat}{c r q:Nat}:Tb rows (w++[c]) r q↔eX (Ab rows w c) r q:=by
 unfold Tb;rw[Nq];refine⟨λh=>?_,NA⟩;have key:∀s,fL rows (w++[c]) (w.length+1,r) s->Ht rows w c (λ_=>False) (eX (Ab rows w c) r) s:=λs hs=>by
  induction hs with
  |start=>exact .inr ⟨rfl,.refl⟩
  |step _ h ih=>exact Na (λ_ _ z _=>z) (λ_ _ z _=>z.elim) (λq a b q' d h1 h2 h3=>.step d ⟨a,b,h1,h2,h3⟩) ih h
 rcases key _ h with⟨z,_⟩|⟨_,z⟩
 .exact absurd z (by show¬w.length+1<=w.length;lia)
 .exact z
def HY{rows:List Row}{w:List Nat}{c q:Nat}:Cm rows (w++[c]) q↔∃b q0,Cm rows w b/\gone rows true c b q0/\eX (Ab rows w c) q0 q:=by
 unfold Cm;rw[Nq];constructor
 .intro h;have key:∀s,fL rows (w++[c]) (0,0) s->Ht rows w c (fL rows w (0,0)) (λq=>∃b q0,fL rows w (0,0) (w.length,b)/\gone rows true c b q0/\eX (Ab rows w c) q0 q) s:=λs hs=>by
   induction hs with
   |start=>exact .inl ⟨zero_le _,.inl .start⟩
   |step _ h ih=>exact Na (λ_ _ z k=>.step z k) (λb q z k=>⟨b,q,z,k,.refl⟩) (λq a b q'⟨b0,q0,d1,d2,d3⟩ h1 h2 h3=>⟨b0,q0,d1,d2,.step d3 ⟨a,b,h1,h2,h3⟩⟩) ih h
  rcases key _ h with⟨z,_⟩|⟨_,z⟩
  .exact absurd z (by show¬w.length+1<=w.length;lia)
  .exact z
 .rintro⟨b,q0,h1,h2,h3⟩;exact(fL.step (MV h1) (Mn h2)).trans (NA h3)
def LR{rows:List Row}{r q:Nat}:Tb rows [] r q↔r=q:=by
 unfold Tb;constructor
 .intro h;have key:∀s,fL rows [] (0,r) s->s=(0,r):=λs hs=>by
   induction hs with
   |start=>rfl
   |step _ h ih=>
    subst ih;rcases zaK.mp h with⟨e,h1,_⟩|⟨h0,_⟩
    .cases h1
    .exact absurd h0 (lt_irrefl 0)
  exact(Prod.mk.inj (key _ h)).2.symm
 .rintro rfl;exact .start
def QG{rows:List Row}{q:Nat}:Cm rows [] q↔0=q:=LR
def UJ{rows:List Row}{w w':List Nat}(ht:∀r q,Tb rows w r q↔Tb rows w' r q)(hc:∀q,Cm rows w q↔Cm rows w' q):∀v:List Nat,(∀r q,Tb rows (w++v) r q↔Tb rows (w'++v) r q)/\∀q,Cm rows (w++v) q↔Cm rows (w'++v) q:=λv=>by
 induction v generalizing w w' with
 |nil=>simpa using⟨ht,hc⟩
 |cons c v ih=>
  have e:∀u:List Nat,u++c::v=(u++[c])++v:=λu=>by simp
  rw[e,e];have ea:Ab rows w c=Ab rows w' c:=by
   funext r q
   unfold Ab;simp only[ht]
  refine ih (λr q=>?_) λq=>?_
  .rw[zcz,zcz,ea]
  .rw[HY,HY,ea];simp only[hc]
def Lv{rows:List Row}{w:List Nat}:TK rows w↔∃r x,Cm rows w r/\rows[r]?=some x/\x.1=true:=by
 unfold TK zZ Cm;constructor
 .rintro⟨⟨p,r⟩,h,e,x,h1,h2⟩;dsimp only at e h1;subst e;exact⟨r,x,h,h1,h2⟩
 .rintro⟨r,x,h,h1,h2⟩;exact⟨_,h,rfl,x,h1,h2⟩
def Aa(rows:List Row)(b:Bool)(c x y:Nat):Bool:=((rows[x]?.map (·.2)).getD []).any λg=>decide (g=(b,c,y))
def zb1{rows:List Row}{b:Bool}{c x y:Nat}:Aa rows b c x y=true↔gone rows b c x y:=by
 unfold Aa gone;cases q:rows[x]? with
 |none=>simp
 |some r=>simp only[map_some,getD_some,any_eq_true,qU,Option.some.injEq,exists_eq_left'];exact⟨λ⟨g,hg,e⟩=>e▸hg,λh=>⟨_,h,rfl⟩⟩
def uZ(rows:List Row)(b:Bool)(c i:Nat)(l:List Go):List (Nat×Nat):=l.filterMap λg=>if g.1=b/\g.2.1=c then some (i,g.2.2)else none
def vB(rows:List Row)(b:Bool)(c:Nat)(pre:List Nat):List (Nat×Nat):=pre.flatMap λi=>uZ rows b c i ((rows[i]?.map (·.2)).getD [])
def zdp{rows:List Row}{b:Bool}{c i:Nat}{l:List Go}{p:Nat×Nat}:p∈uZ rows b c i l↔p.1=i/\(b,c,p.2)∈l:=by
 unfold uZ;rw[mem_filterMap];constructor
 .rintro⟨⟨b',c',o⟩,hg,e⟩;split at e
  .rename_i h;cases e;obtain⟨rfl,rfl⟩:=h;exact⟨rfl,hg⟩
  .cases e
 .rintro⟨rfl,h⟩;exact⟨_,h,q8 ⟨rfl,rfl⟩⟩
def ME{rows:List Row}{b:Bool}{c:Nat}(hg:aV rows){p:Nat×Nat}:p∈vB rows b c (List.range rows.length)↔p∈hU rows.length (Aa rows b c):=by
 rw[zao,zb1];unfold vB gone;rw[mem_flatMap];constructor
 .rintro⟨i,hi,h⟩;obtain⟨rfl,h⟩:=zdp.mp h;have hi':=qK.mp hi;rw[qi hi',map_some,getD_some]at h;exact⟨hi',(hg.2.2 _ (getElem_mem hi')).2 _ h,_,qi hi',h⟩
 .rintro⟨h1,h2,x,h3,h4⟩;exact⟨p.1,qK.mpr h1,zdp.mpr ⟨rfl,by rw[h3];exact h4⟩⟩
def OE{rows:List Row}{b:Bool}{c:Nat}(hg:aV rows)
  (h:P (.sh (.tup (tD rows.length (Aa rows b c)))) [.sh (.tup (rows.map aP)),.sh (.int (dC b)),.sh (.str [c])]):Hd [.sh (.tup (rows.map aP)),.sh (.int (dC b)),.sh (.str [c])] P PX:=by
 have h4:=hg.2.1;refine kE rfl rfl ?_;simp! [e_C];rw[Nc];refine Dp (toD:=λi=>D.tup [.int ((0+i:Nat):Int),(rows[i]?).elim .non aP]) (λpre U=>∃o4 o5 o6 o7 o8 o9:Option S,U=[some (.sh (.tup (rows.map aP))),some (.sh (.int (dC b))),some (.sh (.str [c])),some (.set (aJ ((vB rows b c pre).map pN))),o4,o5,o6,o7,o8,o9]) (List.range rows.length) (λpre i post K U e hI hK=>?_) (λU hI=>?_) ⟨none,none,none,none,none,none,rfl⟩
 .obtain⟨o4,o5,o6,o7,o8,o9,rfl⟩:=hI;obtain⟨hi1,hi⟩:=IP e;have hr:=qi hi;have eg:vB rows b c (pre++[i])=vB rows b c pre++uZ rows b c i rows[i].2:=by unfold vB;rw[flatMap_append];simp[hr]
  have hin:∀l:List (Nat×Nat),(∀p∈l,p∈vB rows b c pre++uZ rows b c i rows[i].2)->(aJ (l.map pN)).length<=16:=λl hl=>by
   have:=HV (m:=rows.length) (l:=l) λp hp=>by
    have h1:=hl p hp;rw[<-eg]at h1;have h2:p∈vB rows b c (List.range rows.length):=by rw[<-e];unfold vB at h1⊢;obtain⟨j,hj,z⟩:=mem_flatMap.mp h1;exact mem_flatMap.mpr ⟨j,by simp at hj⊢;rcases hj with hj|hj<;>simp[hj],z⟩
    have h3:=zao.mp ((ME hg).mp h2);exact⟨h3.1,h3.2.1⟩
   have h16:rows.length*rows.length<=4*4:=mul_le_mul h4 h4;lia
  simp! [gL,rW,Bu,hr,Option.elim_some,aP,length_cons,length_nil];rw[zero_add];refine Dp (toD:=jE) (λpre2 U=>∃o7 o8 o9:Option S,U=[some (.sh (.tup (rows.map aP))),some (.sh (.int (dC b))),some (.sh (.str [c])),some (.set (aJ ((vB rows b c pre++uZ rows b c i pre2).map pN))),some (.sh (.int (i:Int))),some (.sh (.bl rows[i].1)),some (.sh (.tup (rows[i].2.map jE))),o7,o8,o9]) rows[i].2 (λpre2 g post2 K2 U e2 hI2 hK2=>?_) (λU hI2=>?_) ⟨o7,o8,o9,by simp[uZ]⟩
  .obtain⟨o7,o8,o9,rfl⟩:=hI2;obtain⟨gb,gc,go⟩:=g;have hs:uZ rows b c i (pre2++[(gb,gc,go)])=uZ rows b c i pre2++(if gb=b/\gc=c then[(i,go)]else[]):=by
    unfold uZ;rw[filterMap_append];by_cases hc:gb=b/\gc=c
    .simp[hc]
    .simp[hc]
   have e1:decide (dC gb=dC b)=decide (gb=b):=by cases gb<;>cases b<;>rfl
   simp! [gL,jE,length_cons,length_nil,e1];cases q1:decide (gb=b)
   .simp! [Gr];refine hK2 _ ⟨some (.sh (.int (dC gb))),some (.sh (.str [gc])),some (.sh (.int (go:Int))),?_⟩;rw[hs,q9 λz=>of_decide_eq_false q1 z.1,qB]
   .have e2':decide (([gc]:List Nat)=[c])=decide (gc=c):=decide_eq_decide.mpr (by simp);simp! [e2'];cases q2:decide (gc=c)
    .simp! [Gr];refine hK2 _ ⟨some (.sh (.int (dC gb))),some (.sh (.str [gc])),some (.sh (.int (go:Int))),?_⟩;rw[hs,q9 λz=>of_decide_eq_false q2 z.2,qB]
    .simp! [rW,Bv,length_cons,length_nil];have hb:=hin (vB rows b c pre++uZ rows b c i pre2) λp hp=>by
      rcases qz.mp hp with z|z
      .exact qk _ z
      .obtain⟨z1,z2⟩:=zdp.mp z;exact qj _ (zdp.mpr ⟨z1,by rw[<-e2];exact qk _ z2⟩)
     rw[show D.tup [.int (i:Int),.int (go:Int)]=pN (i,go) from rfl];refine⟨Ih,by lia,?_⟩;rw[<-Jf];refine hK2 _ ⟨some (.sh (.int (dC gb))),some (.sh (.str [gc])),some (.sh (.int (go:Int))),?_⟩;rw[hs,q8 ⟨qV q1,qV q2⟩,<-qq,map_append (l₂:=[(i,go)])];rfl
  .obtain⟨o7,o8,o9,rfl⟩:=hI2;rw[<-eg];exact hK _ ⟨_,_,_,_,_,_,rfl⟩
 .obtain⟨o4,o5,o6,o7,o8,o9,rfl⟩:=hI;simp! [Ic h4 (λp=>ME hg),zan];exact h
def lF(x y:Nat):Bool:=x==y
def Io:∀{m i:Nat},i<m->(List.range m).filter (lF i)=[i]
 |m+1,i,h=>by
  rw[List.range_succ,List.filter_append];by_cases e:i=m
  .subst e;rw[filter_eq_nil_iff.mpr λj hj=>by have:=qK.mp hj;unfold lF;simp;lia];simp[lF]
  .rw[Io (by lia)];simp[lF,e]
def UA(m:Nat):(List.range m).map (λi=>pN (i,i))=tD m lF:=by unfold tD hU;rw[List.map_flatMap,<-List.flatMap_singleton' (l:=(List.range m).map λi=>pN (i,i)),List.flatMap_map];rw[flatMap_def,flatMap_def];refine congrArg List.flatten (map_congr_left λi hi=>?_);rw[Io (qK.mp hi)];rfl
def Wu{rows:List Row}(hg:aV rows)
  (h:P (.sh (.tup [.tup [nD 0],.tup (tD rows.length lF)])) [.sh (.tup (rows.map aP))]):Jn [.sh (.tup (rows.map aP))] P PX:=by
 have h4:=hg.2.1;refine kE rfl rfl ?_;simp! [length_map];refine⟨by simp only[dS];lia,?_⟩;rw[vE (n:=rows.length) rfl];refine Pj (n:=1) (List.range rows.length) (λi=>.sh (pN (i,i))) (λi hi l o K hl hK=>?_) λo=>?_
 .rw[qE]at hl;simp! [gL,rW,By,length_cons,length_nil];exact⟨by simp only[dS];lia,hK _⟩
 .rw[show((List.range rows.length).map λi=>S.sh (pN (i,i)))=((List.range rows.length).map λi=>pN (i,i)).map S.sh by rw[qF];rfl,UA];simp! [zan,length_cons,length_nil];exact h
def Rm(m:Nat)(f:Nat->Nat->Bool)(x y:Nat):Prop:=x<m/\y<m/\f x y=true
def uE(f:Nat->Nat->Bool)(x y:Nat):Bool:=lF x y||f x y
def zbf{m:Nat}{f g:Nat->Nat->Bool}{x z:Nat}:bZ m f g x z=true↔∃y,y<m/\f x y=true/\g y z=true:=by unfold bZ;simp only[any_eq_true,qK,and_eq_true]
structure lA(m:Nat)(f0 f:Nat->Nat->Bool):Prop where
 rf:∀x,x<m->f x x=true
 lo:∀x y,x<m->y<m->f0 x y=true->f x y=true
 up:∀x y,x<m->y<m->f x y=true->eX (Rm m f0) x y
def lA.next{m:Nat}{f0 f:Nat->Nat->Bool}(h:lA m f0 f):lA m f0 (bZ m f f):=by refine⟨λx hx=>zbf.mpr ⟨x,hx,h.rf x hx,h.rf x hx⟩,λx y hx hy e=>zbf.mpr ⟨x,hx,h.rf x hx,h.lo x y hx hy e⟩,λx y hx hy e=>?_⟩;obtain⟨z,hz,h1,h2⟩:=zbf.mp e;exact(h.up x z hx hz h1).trans (h.up z y hz hy h2)
def lA.end{m:Nat}{f0 f:Nat->Nat->Bool}(h:lA m f0 f)(hc:tD m (bZ m f f)=tD m f){x y:Nat}(hx:x<m):f x y=true/\y<m↔eX (Rm m f0) x y:=by
 have tr:∀x y z,x<m->y<m->z<m->f x y=true->f y z=true->f x z=true:=λx y z hx hy hz h1 h2=>by have h3:pN (x,z)∈tD m (bZ m f f):=qL.mpr ⟨_,zao.mpr ⟨hx,hz,zbf.mpr ⟨y,hy,h1,h2⟩⟩,rfl⟩;rw[hc]at h3;obtain⟨p,hp,e⟩:=qL.mp h3;rw[Dq e]at hp;exact(zao.mp hp).2.2
 refine⟨λz=>h.up x y hx z.2 z.1,λk=>?_⟩;induction k with
 |refl=>exact⟨h.rf x hx,hx⟩
 |step _ r ih=>exact⟨tr _ _ _ hx r.1 r.2.1 ih.1 (h.lo _ _ r.1 r.2.1 r.2.2),r.2.1⟩
def lA.less{m:Nat}{f0 f:Nat->Nat->Bool}(h:lA m f0 f)(hc:¬tD m (bZ m f f)=tD m f):(tD m f).length<(tD m (bZ m f f)).length:=by
 have sub:∀d∈tD m f,d∈tD m (bZ m f f):=λd hd=>by obtain⟨p,hp,rfl⟩:=qL.mp hd;obtain⟨h1,h2,h3⟩:=zao.mp hp;exact qL.mpr ⟨p,zao.mpr ⟨h1,h2,zbf.mpr ⟨p.1,h1,h.rf _ h1,h3⟩⟩,rfl⟩
 refine Nat.lt_of_not_le λhl=>hc (GS λx y hx hy=>?_);have sub2:∀d∈tD m (bZ m f f),d∈tD m f:=λd hd=>by
  by_cases z:d∈tD m f
  .exact z
  .have:=HB (l:=d::tD m f) (m:=tD m (bZ m f f)) (qM.mpr ⟨z,Nr m f⟩) λe he=>by
    rcases qC.mp he with rfl|he
    .exact hd
    .exact sub e he
   rw[qu]at this;lia
 have mem:∀(g:Nat->Nat->Bool),g x y=true↔pN (x,y)∈tD m g:=λg=>⟨λe=>qL.mpr ⟨_,zao.mpr ⟨hx,hy,e⟩,rfl⟩,λe=>by obtain⟨p,hp,e⟩:=qL.mp e;rw[Dq e]at hp;exact(zao.mp hp).2.2⟩
 rw[Bool.eq_iff_iff,mem,mem];exact⟨sub2 _,sub _⟩
def Nb:∀{L:List D},(∀d∈L,∃p,d=pN p)->∃l:List (Nat×Nat),L=l.map pN
 |[],_=>⟨[],rfl⟩
 |d::L,h=>by obtain⟨p,rfl⟩:=h d qo;obtain⟨l,rfl⟩:=Nb (L:=L) λe he=>h e (qm _ he);exact⟨p::l,rfl⟩
def RW{m:Nat}{f:Nat->Nat->Bool}{L:List D}(hm:m<=4)(h:∀d,d∈L↔d∈tD m f):cG (aJ L)=some (.lst ((tD m f).map .sh)):=by
 obtain⟨l,rfl⟩:=Nb (L:=L) λd hd=>by obtain⟨p,_,rfl⟩:=qL.mp ((h d).mp hd);exact⟨p,rfl⟩
 refine Ic hm λp=>?_;have:=h (pN p);unfold tD at this;rw[qL,qL]at this;constructor
 .intro z;obtain⟨q,hq,e⟩:=this.mp ⟨p,z,rfl⟩;rw[<-Dq e];exact hq
 .intro z;obtain⟨q,hq,e⟩:=this.mpr ⟨p,z,rfl⟩;rw[<-Dq e];exact hq
def LY(m:Nat)(f:Nat->Nat->Bool):(tD m f).all (aH true)=true:=qJ.mpr λd hd=>by obtain⟨p,_,rfl⟩:=qL.mp hd;rfl
def LU{L:List D}(h:L.all (aH true)=true):(aJ L).all (aH true)=true:=qJ.mpr λd hd=>qJ.mp h d (zaw.mp hd)
def GC:∀ps:List (Nat×Nat),bB (ps.map pN)<=1
 |[]=>zero_le _
 |p::ps=>by show max (gJ (pN p)) (bB (ps.map pN))<=1;have:=GC ps;have h:gJ (pN p)=1:=rfl;lia
def IR:∀ps qs:List (Nat×Nat),bC (ps.map pN) (qs.map pN)=false
 |[],[]=>rfl
 |[],_::_=>rfl
 |_::_,[]=>rfl
 |p::ps,q::qs=>by show(aW (pN p) (pN q)||bC (ps.map pN) (qs.map pN))=false;rw[IR ps qs];rfl
open Classical in
def Px(m:Nat)(f g:Nat->Nat->Bool):mI (.tup (tD m f)) (.tup (tD m g))=some (!decide (tD m f=tD m g)):=by unfold mI fM;have h1:aW (.tup (tD m f)) (.tup (tD m g))=false:=IR (hU m f) (hU m g);have h2:∀f,gJ (.tup (tD m f))=bB (tD m f)+1:=λ_=>rfl;have h3:∀f,bB (tD m f)<=1:=λf=>GC (hU m f);have a:=h3 f;have b:=h3 g;rw[h1,h2,q9 (by simp;lia)];simp
open Classical in
def Wj{m:Nat}{f:Nat->Nat->Bool}(hm0:0<m)(hm:m<=4)
  (h:∀g:Nat->Nat->Bool,(∀x y,x<m->((g x y=true/\y<m)↔eX (Rm m f) x y))->P (.sh (.tup (tD m g))) [.sh (.int (m:Int)),.sh (.tup (tD m f))]):Jl [.sh (.int (m:Int)),.sh (.tup (tD m f))] P PX:=by
 have h16:m*m<=4*4:=mul_le_mul hm hm;have hl:=Ap m f;have hset:newS (tD m f)=some (.set (aJ (tD m f))):=q8 ⟨by unfold cX;rw[or_eq_true];exact .inr (LY m f),by lia⟩
 refine kE rfl rfl ?_;simp! [hset];refine⟨by simp only[dS];lia,?_⟩;rw[vE (n:=m) rfl];refine Dp (λpre U=>∃o5:Option S,U=[some (.sh (.int (m:Int))),some (.sh (.tup (tD m f))),none,none,some (.set (aJ ((pre.map λi=>(i,i)).map pN))),o5]) (List.range m) (λpre i post K U e hI hK=>?_) (λU hI=>?_) ⟨none,rfl⟩
 .obtain⟨o5,rfl⟩:=hI;obtain⟨hi1,hi⟩:=IP e;have hb:=IH ((pre.map λi=>(i,i)).map pN);rw[qp,qp]at hb;simp! [gL,rW,Bs,length_cons,length_nil];rw[show D.tup [.int (i:Int),.int (i:Int)]=pN (i,i) from rfl];refine⟨Ih,by lia,?_⟩;rw[<-Jf];exact hK _ ⟨some (.sh (.int (i:Int))),by simp⟩
 .obtain⟨o5,rfl⟩:=hI;have l1:=IH (tD m f);have l2:=IH (((List.range m).map λi=>(i,i)).map pN);rw[qp,qp,qE]at l2;have hk:((((List.range m).map λi=>(i,i)).map pN)).all (aH true)=true:=qJ.mpr λd hd=>by obtain⟨p,_,rfl⟩:=qL.mp hd;rfl
  have hne:aJ (((List.range m).map λi=>(i,i)).map pN)≠[]:=λz=>by have:pN (0,0)∈aJ (((List.range m).map λi=>(i,i)).map pN):=zaw.mpr (qL.mpr ⟨(0,0),qL.mpr ⟨0,qK.mpr hm0,rfl⟩,rfl⟩);rw[z]at this;cases this
  have hbor:=zlY (l:=aJ (tD m f)) (m:=aJ (((List.range m).map λi=>(i,i)).map pN)) ⟨LU (LY m f),LU hk,by lia,hne⟩;have hso:cG (aJ (aJ (tD m f)++aJ (((List.range m).map λi=>(i,i)).map pN)))=some (.lst ((tD m (uE f)).map .sh)):=RW hm λd=>by
   rw[qz,zaw,zaw];constructor
   .rintro(z|z)
    .obtain⟨p,hp,rfl⟩:=qL.mp z;obtain⟨a1,a2,a3⟩:=zao.mp hp;exact qL.mpr ⟨p,zao.mpr ⟨a1,a2,by unfold uE;rw[a3,Bool.or_true]⟩,rfl⟩
    .obtain⟨p,hp,rfl⟩:=qL.mp z;obtain⟨i,hi,rfl⟩:=qL.mp hp;have:=qK.mp hi;exact qL.mpr ⟨_,zao.mpr ⟨this,this,by unfold uE lF;simp⟩,rfl⟩
   .intro z;obtain⟨p,hp,rfl⟩:=qL.mp z;obtain⟨a1,a2,a3⟩:=zao.mp hp;unfold uE lF at a3;rw[or_eq_true,beq_iff_eq]at a3;rcases a3 with a3|a3
    .refine .inr (qL.mpr ⟨p,qL.mpr ⟨p.1,qK.mpr a1,Prod.ext rfl a3⟩,rfl⟩)
    .exact .inl (qL.mpr ⟨p,zao.mpr ⟨a1,a2,a3⟩,rfl⟩)
  simp! [Qo,hbor,hso,zan];refine DD hm ?_;simp! [e_C];have M0:lA m f (uE f):=⟨λx _=>by unfold uE lF;simp,λx y _ _ e=>by unfold uE;rw[e,Bool.or_true],λx y hx hy e=>by
   unfold uE lF at e;rw[or_eq_true,beq_iff_eq]at e;rcases e with rfl|e
   .exact .refl
   .exact .step .refl ⟨hx,hy,e⟩⟩
  refine Hv (λk U=>∃g,lA m f g/\k+(tD m g).length=16/\U=[some (.sh (.int (m:Int))),some (.sh (.tup (tD m f))),some (.sh (.tup (tD m g))),some (.sh (.tup (tD m (bZ m g g))))]) (16-(tD m (uE f)).length) ⟨uE f,M0,by have:=Ap m (uE f);lia,rfl⟩ λk U hJ=>?_;obtain⟨g,M,hk,rfl⟩:=hJ;have hne2:mI (.tup (tD m (bZ m g g))) (.tup (tD m g))=some (!decide (tD m (bZ m g g)=tD m g)):=Px _ _ _;by_cases hc:tD m (bZ m g g)=tD m g
  .rw[qS hc]at hne2;simp! [Bi,hne2];exact h g λx y hx=>M.end hc hx
  .rw[qT hc]at hne2;simp! [Bh,hne2,Bt];refine DD hm ?_;simp! [e_C];have hl2:=M.less hc;have hl3:=Ap m (bZ m g g);exact Gs (m':=16-(tD m (bZ m g g)).length) (by lia) ⟨bZ m g g,M.next,by lia,rfl⟩
open Classical in
def tB(rows:List Row)(w:List Nat)(x y:Nat):Bool:=decide (Tb rows w x y)
open Classical in
def cB(rows:List Row)(w:List Nat)(y:Nat):Bool:=decide (Cm rows w y)
def eE(rows:List Row)(w:List Nat):D:=.tup [.tup (((List.range rows.length).filter (cB rows w)).map nD),.tup (tD rows.length (tB rows w))]
def Eg{rows:List Row}{b:Bool}{c x y:Nat}(hg:aV rows)(h:gone rows b c x y):x<rows.length/\y<rows.length:=by obtain⟨r,h1,h2⟩:=h;have hx:=(qh.mp h1).1;exact⟨hx,(hg.2.2 r (qN h1)).2 _ h2⟩
def PJ{rows:List Row}{w:List Nat}{x y:Nat}(hg:aV rows)(hx:x<rows.length)(h:Tb rows w x y):y<rows.length:=(fL.in_ ⟨zc _,hx⟩ hg h).2
def zca{rows:List Row}{w:List Nat}{x y:Nat}:tB rows w x y=true↔Tb rows w x y:=by unfold tB;simp
def zda{rows:List Row}{w:List Nat}{y:Nat}:cB rows w y=true↔Cm rows w y:=by unfold cB;simp
def Hq(rows:List Row)(w:List Nat)(c:Nat):Nat->Nat->Bool:=bZ rows.length (Aa rows false c) (bZ rows.length (tB rows w) (Aa rows true c))
def PQ{rows:List Row}{w:List Nat}{c x y:Nat}(hg:aV rows):Rm rows.length (Hq rows w c) x y↔Ab rows w c x y:=by
 unfold Rm Hq Ab;rw[zbf];constructor
 .rintro⟨_,_,a,ha,h1,h2⟩;obtain⟨b,hb,h3,h4⟩:=zbf.mp h2;exact⟨a,b,zb1.mp h1,zca.mp h3,zb1.mp h4⟩
 .rintro⟨a,b,h1,h2,h3⟩;have k1:=Eg hg h1;have k3:=Eg hg h3;exact⟨k1.1,k3.2,a,k1.2,zb1.mpr h1,zbf.mpr ⟨b,k3.1,zca.mpr h2,zb1.mpr h3⟩⟩
def Uy{rows:List Row}{w:List Nat}{c x y:Nat}(hg:aV rows):eX (Rm rows.length (Hq rows w c)) x y↔Tb rows (w++[c]) x y:=by rw[zcz,show Rm rows.length (Hq rows w c)=Ab rows w c by funext x y;exact propext (PQ hg)]
def zB(k:Nat->Bool)(x y:Nat):Bool:=lF x 0&&k y
def Lq{m:Nat}(hm:0<m)(k:Nat->Bool):hU m (zB k)=((List.range m).filter k).map λy=>(0,y):=by
 obtain⟨n,rfl⟩:∃n,m=n+1:=⟨m-1,by lia⟩
 unfold hU;rw[List.range_succ_eq_map,List.flatMap_cons,<-List.range_succ_eq_map];have h1:(List.range (n+1)).filter (zB k 0)=(List.range (n+1)).filter k:=filter_congr λy _=>by unfold zB lF;simp
 rw[h1];have h2:((List.range n).map Nat.succ).flatMap (λx=>((List.range (n+1)).filter (zB k x)).map λy=>(x,y))=[]:=by rw[List.flatMap_eq_nil_iff];intro x hx;obtain⟨z,_,rfl⟩:=qL.mp hx;rw[filter_eq_nil_iff.mpr λy _=>by unfold zB lF;simp];rfl
 rw[h2,qB]
def Lr{m:Nat}{k:Nat->Bool}{g:Nat->Nat->Bool}(hm:0<m){x z:Nat}:bZ m (zB k) g x z=zB (λz=>(List.range m).any λy=>k y&&g y z) x z:=by
 rw[Bool.eq_iff_iff,zbf];unfold zB;simp only[and_eq_true,any_eq_true,qK];constructor
 .rintro⟨y,h1,⟨h2,h3⟩,h4⟩;exact⟨h2,y,h1,h3,h4⟩
 .rintro⟨h2,y,h1,h3,h4⟩;exact⟨y,h1,⟨h2,h3⟩,h4⟩
def Xf{rows:List Row}{w:List Nat}{c:Nat}(hg:aV rows)
  (h:P (.sh (eE rows (w++[c]))) [.sh (.tup (rows.map aP)),.sh (eE rows w),.sh (.str [c])]):Jm [.sh (.tup (rows.map aP)),.sh (eE rows w),.sh (.str [c])] P PX:=by
 have h0:=hg.1;have h4:=hg.2.1;refine kE rfl rfl ?_;simp! [eE,length_cons,length_nil];refine OE (rows:=rows) (b:=true) (c:=c) hg ?_;simp! [e_C];refine OE (rows:=rows) (b:=false) (c:=c) hg ?_;simp! [length_map];refine DD h4 ?_;simp! [e_C];refine DD h4 ?_;simp! [e_C];refine Wj h0 h4 λg hgg=>?_;have eg:tD rows.length g=tD rows.length (tB rows (w++[c])):=GS λx y hx hy=>by rw[Bool.eq_iff_iff,zca,<-Uy hg];exact⟨λz=>(hgg x y hx).mp ⟨z,hy⟩,λz=>((hgg x y hx).mpr z).1⟩
 rw[eg];simp! [e_C];refine Pj (n:=9) (toD:=nD) ((List.range rows.length).filter (cB rows w)) (λy=>.sh (pN (0,y))) (λy hy l o K hl hK=>?_) λo=>?_
 .have hf:=length_filter_le (cB rows w) (List.range rows.length);rw[qE]at hf;simp! [gL,rW,Bx,length_cons,length_nil];exact⟨by simp only[dS];lia,hK _⟩
 rw[show(((List.range rows.length).filter (cB rows w)).map λy=>S.sh (pN (0,y)))=(tD rows.length (zB (cB rows w))).map S.sh by unfold tD;rw[Lq h0,qF,qF];rfl];have hl1:=Ap rows.length (zB (cB rows w));have h16:rows.length*rows.length<=4*4:=mul_le_mul h4 h4;simp! [zan];refine DD h4 ?_;simp! [e_C];refine DD h4 ?_;simp! [zan];have ez:tD rows.length (bZ rows.length (bZ rows.length (zB (cB rows w)) (Aa rows true c)) (tB rows (w++[c])))=((List.range rows.length).filter (cB rows (w++[c]))).map λy=>pN (0,y):=by
  rw[GS (g:=zB (cB rows (w++[c]))) λx y hx hy=>?_]
  .unfold tD;rw[Lq h0,qF];rfl
  .rw[show bZ rows.length (zB (cB rows w)) (Aa rows true c)=zB (λz=>(List.range rows.length).any λy=>cB rows w y&&Aa rows true c y z) by funext x z;exact Lr h0,Lr h0];unfold zB;congr 1;rw[Bool.eq_iff_iff,zda,HY];simp only[any_eq_true,qK,and_eq_true,zda,zb1,zca];constructor
   .rintro⟨q0,_,⟨b,_,h1,h2⟩,h3⟩;exact⟨b,q0,h1,h2,zcz.mp h3⟩
   .rintro⟨b,q0,h1,h2,h3⟩;have k:=Eg hg h2;exact⟨q0,k.2,⟨b,k.1,h1,h2⟩,zcz.mpr h3⟩
 rw[ez];refine XB (n:=9) (toD:=λy=>pN (0,y)) ((List.range rows.length).filter (cB rows (w++[c]))) (λy=>.sh (nD y)) (λy hy l o o' K hl hK=>?_) λo o'=>?_
 .have hf:=length_filter_le (cB rows (w++[c])) (List.range rows.length);rw[qE]at hf;simp! [gL,rW,Bw,pN,length_cons,length_nil];exact⟨by simp only[dS];lia,hK _ _⟩
 .rw[show(((List.range rows.length).filter (cB rows (w++[c]))).map λy=>S.sh (nD y))=(((List.range rows.length).filter (cB rows (w++[c]))).map nD).map S.sh by rw[qF];rfl];simp! [zan,length_cons,length_nil];exact h
def Wz{rows:List Row}{w col:List Nat}(hg:aV rows)
  (h:P (.sh (eE rows w)) [.sh (.str col),.sh (.tup (rows.map aP)),.sh (.str w)]):Jo [.sh (.str col),.sh (.tup (rows.map aP)),.sh (.str w)] P PX:=by
 have h0:=hg.1;refine kE rfl rfl ?_;simp! [e_C];refine Wu hg ?_;have e0:D.tup [.tup [nD 0],.tup (tD rows.length lF)]=eE rows []:=by
  unfold eE;rw[show(List.range rows.length).filter (cB rows [])=[0] by rw[<-Io h0];exact filter_congr λy _=>by rw[Bool.eq_iff_iff,zda,QG];unfold lF;simp]
  rw[GS (f:=lF) (g:=tB rows []) λx y _ _=>by rw[Bool.eq_iff_iff,zca,LR];unfold lF;simp];rfl
 rw[e0];simp! [e_C];refine rZ (toD:=sg) (λpre U=>∃o4:Option S,U=[some (.sh (.str col)),some (.sh (.tup (rows.map aP))),some (.sh (.str w)),some (.sh (eE rows pre)),o4]) w (λpre c post D2 U e hI hnx hct hrt hbk=>?_) (λU hI=>?_) ⟨none,rfl⟩
 .obtain⟨o4,rfl⟩:=hI;simp! [Bz,sg];refine Xf hg ?_;simp! [e_C];exact hnx _ ⟨_,rfl⟩
 .obtain⟨o4,rfl⟩:=hI;simp! [e_C];exact h
def gT(w:List Nat)(seen:List Sd):List Nat:=(seen.filter λs=>decide (s.1=w.length)).map (·.2)
def Nv{w:List Nat}{seen:List Sd}{r:Nat}:r∈gT w seen↔(w.length,r)∈seen:=by
 unfold gT;simp only[qL,mem_filter,qU];constructor
 .rintro⟨⟨a,b⟩,⟨h1,h2⟩,rfl⟩;dsimp only at h2;rw[<-h2];exact h1
 .exact λh=>⟨_,⟨h,rfl⟩,rfl⟩
def Md{w:List Nat}{seen:List Sd}(h:seen.Nodup):(gT w seen).Nodup:=by unfold gT;refine pairwise_map.mpr ?_;refine List.Pairwise.imp_of_mem (R:=λa b=>a≠b) (λ{a b} ha hb hne e=>hne ?_) (h.sublist filter_sublist);have h1:=qV (mem_filter.mp ha).2;have h2:=qV (mem_filter.mp hb).2;exact Prod.ext (h1.trans h2.symm) e
def Nw{w:List Nat}{seen:List Sd}(h:seen.length<=52):(gT w seen).length<=52:=by unfold gT;rw[qp];exact le_trans (length_filter_le _ _) h
def SM{m:Nat}{k:Nat->Bool}{l:List Nat}(hl:l.length<=52)(hn:l.Nodup)(h:∀r,r∈l↔r<m/\k r=true):cG (l.map nD)=some (.lst ((((List.range m).filter k).map nD).map .sh)):=by
 have e:∀l:List Nat,l.map nD=(l.map λ(q:Nat)=>(q:Int)).map D.int:=λl=>by rw[qF];rfl
 unfold cG;rw[q8 ⟨by rw[qp];lia,.inr (.inl (by rw[e,VF];rfl))⟩,Du MF (m:=((List.range m).filter k).map nD) (by rw[e];exact TZ _) (List.Perm.map _ ?_) ?_]
 .refine(perm_ext_iff_of_nodup (nodup_range.sublist filter_sublist) hn).mpr λr=>?_;rw[mem_filter,qK,h]
 .refine pairwise_map.mpr ((pairwise_lt_range.sublist filter_sublist).imp λ{a b} h=>?_);show fF (.int a) (.int b)=true;rw[Ei];exact qS (by lia)
def RB{m i:Nat}{k:Nat->Bool}{l:List Nat}(hl:l.length<=52)(hn:l.Nodup)(h:∀r,r∈l↔r<m/\k r=true):cG (l.map λr=>pN (i,r))=some (.lst ((((List.range m).filter k).map λr=>pN (i,r)).map .sh)):=by
 have hs:∀d∈l.map (λr=>pN (i,r)),jZ [false,false] d:=λd hd=>by obtain⟨r,_,rfl⟩:=qL.mp hd;exact DS _
 unfold cG;rw[q8 ⟨by rw[qp];lia,.inr (.inr (.inr ⟨[false,false],by simp,hs⟩))⟩,Du (DW _) (m:=((List.range m).filter k).map λr=>pN (i,r)) hs (List.Perm.map _ ?_) ?_]
 .refine(perm_ext_iff_of_nodup (nodup_range.sublist filter_sublist) hn).mpr λr=>?_;rw[mem_filter,qK,h]
 .refine pairwise_map.mpr ((pairwise_lt_range.sublist filter_sublist).imp λ{a b} h=>?_);exact Ls (p:=(i,a)) (q:=(i,b)) (.inr ⟨rfl,h⟩)
def TM{rows:List Row}{w:List Nat}(hg:aV rows)(hw:w.length<=12)
  (h:P (.sh (eE rows w)) [.sh (.tup (rows.map aP)),.sh (.str w)]):Bk [.sh (.tup (rows.map aP)),.sh (.str w)] P PX:=by
 have h0:=hg.1;have h4:=hg.2.1;have h16:rows.length*rows.length<=4*4:=mul_le_mul h4 h4;refine kE rfl rfl ?_;simp! [length_cons,length_nil];refine Oo (b0:=(0,0)) hg hw ⟨zero_le _,h0⟩ λseen hl hn hin hr=>?_;have hm:∀r,r∈gT w seen↔r<rows.length/\cB rows w r=true:=λr=>by rw[Nv,<-hr,zda];exact⟨λz=>⟨(hin _ ((hr _).mp z)).2,z⟩,λz=>z.2⟩
 simp! [zan];refine KY (n:=6) (toD:=bE) seen (λs=>if decide (s.1=w.length)=true then some (.sh (nD s.2))else none) (λs hs l o o' K hl2 hK=>?_) λo o'=>?_
 .have e1:decide ((s.1:Int)=(w.length:Int))=decide (s.1=w.length):=decide_eq_decide.mpr (by lia);simp! [gL,bE,length_cons,length_nil,e1];cases q:decide (s.1=w.length)
  .rw[q]at hK;simp! [Gr];have:=hK (some (.sh (.int (s.1:Int)))) (some (.sh (.int (s.2:Int))));rw[q9 (by decide),toList_none,qB]at this;exact this
  .rw[q]at hK;simp! [rW,wY];exact⟨by simp only[dS];lia,hK _ _⟩
 rw[Hw (λs:Sd=>decide (s.1=w.length)) (λs=>S.sh (nD s.2)),show((seen.filter λs:Sd=>decide (s.1=w.length)).map λs=>S.sh (nD s.2))=((gT w seen).map nD).map S.sh by unfold gT;rw[qF,qF];rfl];simp! [zan,SM (Nw hl) (Md hn) hm,length_map];refine⟨by simp only[dS];lia,?_⟩;rw[vE (n:=rows.length) rfl];refine rZ (λpre U=>∃o4 o5:Option S,U=[some (.sh (.tup (rows.map aP))),some (.sh (.str w)),some (.sh (.lst (((List.range rows.length).filter (cB rows w)).map nD))),some (.lst ((pre.flatMap λx=>((List.range rows.length).filter (tB rows w x)).map λy=>pN (x,y)).map .sh)),o4,o5]) (List.range rows.length) (λpre i post D2 U e hI hnx hct hrt hbk=>?_) (λU hI=>?_) ⟨none,none,rfl⟩
 .obtain⟨o4,o5,rfl⟩:=hI;obtain⟨hi1,hi⟩:=IP e;simp! [wZ,length_cons,length_nil];refine Oo (b0:=(w.length,i)) hg hw ⟨zc _,hi⟩ λseen hl hn hin hr=>?_;have hm:∀r,r∈gT w seen↔r<rows.length/\tB rows w i r=true:=λr=>by rw[Nv,<-hr,zca];exact⟨λz=>⟨(hin _ ((hr _).mp z)).2,z⟩,λz=>z.2⟩
  simp! [zan];refine KY (n:=6) (toD:=bE) seen (λs=>if decide (s.1=w.length)=true then some (.sh (pN (i,s.2)))else none) (λs hs l o o' K hl2 hK=>?_) λo o'=>?_
  .have e1:decide ((s.1:Int)=(w.length:Int))=decide (s.1=w.length):=decide_eq_decide.mpr (by lia);simp! [gL,bE,length_cons,length_nil,e1];cases q:decide (s.1=w.length)
   .rw[q]at hK;simp! [Gr];have:=hK (some (.sh (.int (s.1:Int)))) (some (.sh (.int (s.2:Int))));rw[q9 (by decide),toList_none,qB]at this;exact this
   .rw[q]at hK;simp! [rW,wX,length_cons,length_nil];exact⟨by simp only[dS];lia,hK _ _⟩
  rw[Hw (λs:Sd=>decide (s.1=w.length)) (λs=>S.sh (pN (i,s.2))),show((seen.filter λs:Sd=>decide (s.1=w.length)).map λs=>S.sh (pN (i,s.2)))=((gT w seen).map λr=>pN (i,r)).map S.sh by unfold gT;rw[qF,qF];rfl];simp! [zan,RB (i:=i) (Nw hl) (Md hn) hm,length_map];have hfe:∀x,((List.range rows.length).filter (tB rows w x)).length<=4:=λx=>by have:=length_filter_le (tB rows w x) (List.range rows.length);rw[qE]at this;lia
  have hfl:∀l:List Nat,(l.flatMap λx=>((List.range rows.length).filter (tB rows w x)).map λy=>pN (x,y)).length<=l.length*4:=λl=>by
   induction l with
   |nil=>simp
   |cons x l ih=>have:=hfe x;rw[List.flatMap_cons,qr,qp,qu];lia
  have h1:=hfl pre;have h2:=hfe i;refine⟨by simp only[dS];lia,hnx _ ⟨some (.sh (.int (i:Int))),some (.sh (.lst (seen.map bE))),?_⟩⟩;rw[flatMap_append,map_append];simp
 .obtain⟨o4,o5,rfl⟩:=hI;simp! [zan,length_cons,length_nil];have:=h;unfold eE tD hU at this;rw[List.map_flatMap]at this;simp only[qF]at this⊢;exact this
def LJ{rows:List Row}{w:List Nat}{r q:Nat}(hg:aV rows)(hr:¬r<rows.length):Tb rows w r q↔r=q:=by
 unfold Tb;constructor
 .intro h;have key:∀s,fL rows w (w.length,r) s->s=(w.length,r):=λs hs=>by
   induction hs with
   |start=>rfl
   |step _ h ih=>
    subst ih;rcases zaK.mp h with⟨c,_,h1,_⟩|⟨_,c,_,h1,_⟩
    .exact absurd (Eg hg h1).1 hr
    .exact absurd (Eg hg h1).1 hr
  exact(Prod.mk.inj (key _ h)).2.symm
 .rintro rfl;exact .start
def PN{rows:List Row}{w:List Nat}{q:Nat}(hg:aV rows)(h:Cm rows w q):q<rows.length:=(fL.in_ (b0:=(0,0)) ⟨zero_le _,hg.1⟩ hg h).2
def Vo{rows:List Row}{u v:List Nat}(hg:aV rows)(h:eE rows u=eE rows v):(∀r q,Tb rows u r q↔Tb rows v r q)/\∀q,Cm rows u q↔Cm rows v q:=by
 unfold eE at h;injection h with h
 injection h with h1 h2
 injection h2 with h2 _
 injection h1 with h1
 injection h2 with h2
 have mt:∀{w r q},r<rows.length->(Tb rows w r q↔pN (r,q)∈tD rows.length (tB rows w)):=λ{w r q} hr=>by
  constructor
  .exact λz=>qL.mpr ⟨_,zao.mpr ⟨hr,PJ hg hr z,zca.mpr z⟩,rfl⟩
  .intro z;obtain⟨p,hp,e⟩:=qL.mp z;obtain rfl:=Dq e;exact zca.mp (zao.mp hp).2.2
 have mc:∀{w q},Cm rows w q↔nD q∈((List.range rows.length).filter (cB rows w)).map nD:=λ{w q}=>by
  constructor
  .exact λz=>qL.mpr ⟨_,mem_filter.mpr ⟨qK.mpr (PN hg z),zda.mpr z⟩,rfl⟩
  .intro z;obtain⟨p,hp,e⟩:=qL.mp z;have e2:p=q:=by
    injection e with e
    lia
   subst e2;exact zda.mp (mem_filter.mp hp).2
 refine⟨λr q=>?_,λq=>by rw[mc,mc,h1]⟩;by_cases hr:r<rows.length
 .rw[mt hr,mt hr,h2]
 .rw[LJ hg hr,LJ hg hr]
def Re{rows:List Row}{u v:List Nat}(hg:aV rows)(h:eE rows u=eE rows v)(m:List Nat):TK rows (u++m)↔TK rows (v++m):=by obtain⟨a,b⟩:=Vo hg h;have:=(UJ a b m).2;rw[Lv,Lv];simp only[this]
def HS:∀l:List Nat,bB (l.map nD)<=0
 |[]=>zc _
 |_::l=>by exact Nat.max_le.2 ⟨zc 0,HS l⟩
def Ny:∀k l:List Nat,bC (k.map nD) (l.map nD)=false
 |[],[]=>rfl
 |[],_::_=>rfl
 |_::_,[]=>rfl
 |a::k,b::l=>by exact Ny k l
open Classical in
def Ql(rows:List Row)(u v:List Nat):fM (eE rows u) (eE rows v)=some (decide (eE rows u=eE rows v)):=by
 have h1:aW (eE rows u) (eE rows v)=false:=by show(bC (((List.range rows.length).filter (cB rows u)).map nD) (((List.range rows.length).filter (cB rows v)).map nD)||(bC (tD rows.length (tB rows u)) (tD rows.length (tB rows v))||false))=false;rw[Ny];unfold tD;rw[IR];rfl
 have h2:gJ (eE rows u)=max (bB (((List.range rows.length).filter (cB rows u)).map nD)+1) (max (bB (tD rows.length (tB rows u))+1) 0)+1:=rfl;have a:=HS ((List.range rows.length).filter (cB rows u));have b:bB (tD rows.length (tB rows u))<=1:=GC (hU rows.length (tB rows u));unfold fM;rw[h1,h2,q9 (by simp;lia)]
def Rh{rows:List Row}{w:List Nat}(hg:aV rows):cI (eE rows w)=true:=by
 have h4:=hg.2.1;have hl1:((List.range rows.length).filter (cB rows w)).length<=4:=by have:=length_filter_le (cB rows w) (List.range rows.length);rw[qE]at this;lia
 have hl2:=Ap rows.length (tB rows w);have h16:rows.length*rows.length<=4*4:=mul_le_mul h4 h4;have okn:∀n:Nat,n<rows.length->gO (nD n)=true:=λn hn=>by show(decide (-1000000000000<(n:Int))&&decide ((n:Int)<1000000000000))=true;rw[qS (by lia),qS (by lia)];rfl
 refine(Uh (n:=2000) (m:=2) (λd hd=>?_) (by decide) (by simp only[qu,qw];decide)).2;simp only[qC,not_mem_nil,or_false]at hd;rcases hd with rfl|rfl
 .refine⟨GW _ λd hd=>?_,?_,?_⟩
  .obtain⟨n,hn,rfl⟩:=qL.mp hd;exact okn n (qK.mp (mem_filter.mp hn).1)
  .show bB _+1<=2;have:=HS ((List.range rows.length).filter (cB rows w));lia
  .have:=Gx (n:=41) (((List.range rows.length).filter (cB rows w)).map nD) λd hd=>by obtain⟨n,_,rfl⟩:=qL.mp hd;exact zc _
   rw[qp]at this;show hW _<=2000;lia
 .refine⟨GW _ λd hd=>?_,?_,?_⟩
  .obtain⟨p,hp,rfl⟩:=qL.mp hd;obtain⟨h1,h2,_⟩:=zao.mp hp;show(gO (nD p.1)&&(gO (nD p.2)&&true))=true;rw[okn _ h1,okn _ h2];rfl
  .show bB _+1<=2;have:bB (tD rows.length (tB rows w))<=1:=GC (hU rows.length (tB rows w));lia
  .have:=Gx (n:=84) (tD rows.length (tB rows w)) λd hd=>by obtain⟨p,_,rfl⟩:=qL.mp hd;exact zc _
   show hW _<=2000;lia
def HG{rows:List Row}:∀ws:List (List Nat),eV (ws.map D.str) (ws.map (eE rows))=ws.map λw=>.tup [.str w,eE rows w]
 |[]=>rfl
 |_::ws=>congrArg _ (HG ws)
open Classical in
def Wl{rows:List Row}{more col:List Nat}{ws:List (List Nat)}(hg:aV rows)(hl:ws.length<=6)(hw:∀w∈ws,w.length<=9)(hm:more.length<=3)
  (h:P (.sh (.bl true)) [.sh (.str col),.sh (.tup (rows.map aP)),.sh (.lst (ws.map .str)),.sh (.str more)]):Bj [.sh (.str col),.sh (.tup (rows.map aP)),.sh (.lst (ws.map .str)),.sh (.str more)] P PX:=by
 refine kE rfl rfl ?_;simp! [length_cons,length_nil];refine rZ (toD:=D.str) (λpre U=>∃o5:Option S,U=[some (.sh (.str col)),some (.sh (.tup (rows.map aP))),some (.sh (.lst (ws.map .str))),some (.sh (.str more)),some (.lst ((pre.map (eE rows)).map .sh)),o5,none,none,none,none,none]) ws (λpre w post D2 U e hI hnx hct hrt hbk=>?_) (λU hI=>?_) ⟨none,rfl⟩
 .obtain⟨o5,rfl⟩:=hI;have hin:w∈ws:=by rw[<-e];simp
  have hlp:pre.length<=6:=by have:=congrArg List.length e;simp at this;lia
  have hww:=hw w hin;simp! [wW,length_cons,length_nil];refine Wz hg ?_;have hlast:atI (List.map S.sh (List.map (eE rows) pre)++[S.sh (eE rows w)]) (-1)=some (S.sh (eE rows w)):=by obtain⟨v,_,h1,h2⟩:=NP (l:=List.map S.sh (List.map (eE rows) pre)++[S.sh (eE rows w)]) (by simp);rw[h2,<-h1];simp
  simp! [zan,hlast,length_cons,length_nil];refine⟨by simp only[dS,qp];lia,Rh hg,?_⟩;refine TM hg (by lia) ?_;simp! [zan,length_cons,length_nil];refine hnx _ ⟨some (.sh (.str w)),?_⟩;rw[map_append,map_append];rfl
 .obtain⟨o5,rfl⟩:=hI;simp! [zan,HG,length_cons,length_nil];refine rZ (toD:=λw=>D.tup [D.str w,eE rows w]) (λpre U=>∃o5 o6 o7 o8 o9 o10:Option S,U=[some (.sh (.str col)),some (.sh (.tup (rows.map aP))),some (.sh (.lst (ws.map .str))),some (.sh (.str more)),some (.sh (.lst (ws.map (eE rows)))),o5,o6,o7,o8,o9,o10]) ws (λpre u post D2 U e hI hnx hct hrt hbk=>?_) (λU hI=>?_) ⟨_,none,none,none,none,none,rfl⟩
  .obtain⟨o5,o6,o7,o8,o9,o10,rfl⟩:=hI;have hu:=hw u (by rw[<-e];simp);simp! [wU,zan,HG,length_cons,length_nil];refine rZ (toD:=λw=>D.tup [D.str w,eE rows w]) (λpre U=>∃o5 o8 o9 o10:Option S,U=[some (.sh (.str col)),some (.sh (.tup (rows.map aP))),some (.sh (.lst (ws.map .str))),some (.sh (.str more)),some (.sh (.lst (ws.map (eE rows)))),o5,some (.sh (.str u)),some (.sh (eE rows u)),o8,o9,o10]) ws (λpre v post D3 U e hI hnx3 hct3 hrt3 hbk3=>?_) (λU hI=>?_) ⟨_,_,_,_,rfl⟩
   .obtain⟨o5,o8,o9,o10,rfl⟩:=hI;have hv:=hw v (by rw[<-e];simp);simp! [wV,zan,length_cons,length_nil];refine OG hg (by rw[qr];lia) ?_;simp! [zan,length_cons,length_nil];refine OG hg (by rw[qr];lia) ?_;simp! [zan,Ql,length_cons,length_nil];cases q:decide (eE rows u=eE rows v)
    .simp! [length_cons,length_nil];exact hnx3 _ ⟨_,_,_,_,rfl⟩
    .rw[show decide (TK rows (u++more))=decide (TK rows (v++more)) from decide_eq_decide.mpr (Re hg (qV q) more)];cases decide (TK rows (v++more))
     .simp! [length_cons,length_nil];exact hnx3 _ ⟨_,_,_,_,rfl⟩
     .simp! [length_cons,length_nil];exact hnx3 _ ⟨_,_,_,_,rfl⟩
   .obtain⟨o5,o8,o9,o10,rfl⟩:=hI;exact hnx _ ⟨_,_,_,_,_,_,rfl⟩
  .obtain⟨o5,o6,o7,o8,o9,o10,rfl⟩:=hI;simp! [zan,length_cons,length_nil];exact h
def uA:∀ns:List Int,ns.length<=63->sT [.sh (.lst (ns.map .int))] (λs _=>s=.sh (.bl true)) λ_ _=>False:=by
 intro ns hl;refine kE rfl rfl ?_;simp! [length_map];have hn:∀z:Int,z=(if(if(6:Int)<(ns.length:Int)then 6 else(ns.length:Int))>3 then if(6:Int)<(ns.length:Int)then 6 else(ns.length:Int)else 3)->0<=z/\z<=7:=λz hz=>by split at hz<;>split at hz<;>lia
 obtain⟨n0,n7⟩:=hn _ rfl;refine⟨⟨by simp only[dS];lia,by simp only[dS];lia⟩,?_⟩;refine rZ (toD:=λk:Nat=>D.int (0+(k:Int))) (λpre U=>∃(o1 o2 o3 o4 o5:Option S),U=[some (.sh (.lst (ns.map .int))),o1,o2,o3,o4,o5]) (List.range _) (λpre k post D2 U e hI hnx hct hrt hbk=>?_) (λU hI=>?_) ⟨none,none,none,none,none,rfl⟩
 .obtain⟨o1,o2,o3,o4,o5,rfl⟩:=hI;simp! [wR];refine Tn (by lia) λa s ha hs hs2=>?_;simp! [cM];refine vV ha hs hs2 (by decide) (by decide) λr a1 s1 hr hr2 ha1 hs1 hs21=>?_;simp! [cM];refine Xg ha1 hs1 hs21 (by lia) (by lia) λcol a2 s2 hcol hso hle ha2 hs2 hs22=>?_;simp! [cM];refine UY ha2 hs2 hs22 (by lia) (by lia) λrows a3 s3 hg ha3 hs3 hs23=>?_;obtain⟨c0,cs,rfl⟩:∃c0 cs,col=c0::cs:=by
   cases col with
   |nil=>rw[qw]at hcol;lia
   |cons c0 cs=>exact⟨c0,cs,rfl⟩
  simp! [cM,zan];refine⟨by simp only[dS];lia,?_⟩;refine XD (n:=6) (λw:List Nat=>S.sh (.str w)) _ (λU=>∃a s,0<=a/\1<=s/\s<=2147483629/\U=[some (.sh (.lst (ns.map .int))),some (.sh (.int (0+(k:Int)))),some (cM a s),some (.sh (.str (c0::cs))),some (.sh (.tup (rows.map aP))),o5]) (λw=>w.length<=9) (λx hx U B o K hI hB hK=>?_) (λU B o hI hB hP=>?_) ⟨a3,s3,ha3,hs3,hs23,rfl⟩
  .obtain⟨a,s,ha,hs,hs2,rfl⟩:=hI;rw[Au]at hB;simp! [gL,rW,wQ,cM];refine Oa ha hs hs2 (by decide) (by decide) (by lia) (by lia) λw a4 s4 hwl hwm ha4 hs4 hs24=>?_;simp! [cM,length_map];exact⟨by simp only[dS];lia,hK _ _ _ ⟨a4,s4,ha4,hs4,hs24,rfl⟩ hwl⟩
  .obtain⟨a,s,ha,hs,hs2,rfl⟩:=hI;rw[Au]at hB;rw[show B.map (λw:List Nat=>S.sh (.str w))=(B.map D.str).map S.sh by rw[qF];rfl];simp! [cM,zan];refine Oa ha hs hs2 (by decide) (by decide) (by lia) (by lia) λw a4 s4 hwl hwm ha4 hs4 hs24=>?_;simp! [cM,zan];refine Wl (ws:=[]::[c0]::B) hg (by rw[qu,qu];lia) (λw hw=>?_) hwl ?_
   .simp only[qC]at hw;rcases hw with rfl|rfl|hw
    .exact zero_le _
    .exact Nat.le_of_ble_eq_true rfl
    .exact hP _ hw
   simp! [cM,zan];exact hnx _ ⟨_,_,_,_,_,rfl⟩
 .obtain⟨o1,o2,o3,o4,o5,rfl⟩:=hI;simp! [zan]
end pu
end Law
section
set_option maxHeartbeats 4000000
namespace Law
open PySem PySem.Spec PyProof.Rows L2 FL
local macro_rules
 |`(tactic|trivial)=>`(tactic|first|exact Or.inl rfl|exact Or.inr rfl)
def top(i:Nat):Stmt:=PySem.Challenge.pw_walktold_k60_ends_of_words.main.body.getD i (.Pass ⟨0,0,0,0⟩)
abbrev JU:Stmt:=top 1
def Xz:List Str:=["pairs","ends","begin","end"]
abbrev Ki:List Str:=["pairs"]
def xJ:aG Xz Ki (aA JU):=kN
abbrev JS:Stmt:=top 2
def Xy:List Str:=["one","other","ends"]
abbrev Kh:List Str:=["one","other"]
def EL:aG Xy Kh (aA JS):=kN
abbrev JR:Stmt:=top 4
def Xx:List Str:=["colours","two","word","ends","colour"]
abbrev Kg:List Str:=["colours","two","word"]
def xI:aG Xx Kg (aA JR):=kN
abbrev JQ:Stmt:=top 5
def Xw:List Str:=["two"]
abbrev Kf:List Str:=["two"]
def JI:aG Xw Kf (aA JQ):=kN
abbrev JP:Stmt:=top 6
def Xv:List Str:=["two","ends","colour","come","table","on","back","about","begun"]
abbrev Ke:List Str:=["two","ends","colour"]
def rB:aG Xv Ke (aA JP):=kN
abbrev JO:Stmt:=top 7
def Xu:List Str:=["two","way","colour"]
abbrev Kc:List Str:=["two","way","colour"]
def JH:aG Xu Kc (aA JO):=kN
abbrev JN:Stmt:=top 8
def Xt:List Str:=["many","pairs","told","longer"]
abbrev Kb:List Str:=["many","pairs"]
def tP:aG Xt Kb (aA JN):=kN
abbrev JM:Stmt:=top 10
def Xs:List Str:=["colours","two","word","stands","seen","place","row","stand"]
abbrev Ka:List Str:=["colours","two","word"]
def rA:aG Xs Ka (aA JM):=kN
abbrev JL:Stmt:=top 11
def Xr:List Str:=["two","word","place","row","ahead","behind","told","way","colour","other"]
abbrev JZ:List Str:=["two","word","place","row"]
def pZ:aG Xr JZ (aA JL):=kN
abbrev JJ:Stmt:=top 13
def Xq:List Str:=["_law_script","_law_k","_law_cell","_law_seed"]
abbrev JY:List Str:=["_law_script","_law_k"]
def tO:aG Xq JY (aA JJ):=kN
abbrev BR:Stmt:=top 14
def Ky:List Str:=["_law_box_here","_law_many","_law_digit","_law_one"]
abbrev Cn:List Str:=["_law_box_here","_law_many"]
def tQ:aG Ky Cn (aA BR):=kN
abbrev BQ:Stmt:=top 15
def Kx:List Str:=["_law_box_here","_law_many","_law_left"]
abbrev Ck:List Str:=["_law_box_here","_law_many"]
def AE:aG Kx Ck (aA BQ):=kN
abbrev BP:Stmt:=top 16
def Kw:List Str:=["_law_box_here","_law_colours_here","_law_most","_law_many"]
abbrev Cj:List Str:=["_law_box_here","_law_colours_here","_law_most"]
def AD:aG Kw Cj (aA BP):=kN
abbrev BO:Stmt:=top 17
def Kv:List Str:=["_law_box_here","_law_colours_here","_law_rows","_law_goes","_law_many","_law_found","_law_k","_law_own","_law_j","_law_way"]
abbrev Ci:List Str:=["_law_box_here","_law_colours_here","_law_rows","_law_goes"]
def iH:aG Kv Ci (aA BO):=kN
abbrev BN:Stmt:=top 18
def Ku:List Str:=["_law_two_here","_law_word_here","_law_place","_law_row","_law_found","_law_way","_law_colour","_law_goal"]
abbrev Cg:List Str:=["_law_two_here","_law_word_here","_law_place","_law_row"]
def lP:aG Ku Cg (aA BN):=kN
abbrev BM:Stmt:=top 19
def Kt:List Str:=["_law_two_here","_law_word_here","_law_starts","_law_found","_law_left","_law_place","_law_row","_law_one"]
abbrev Cf:List Str:=["_law_two_here","_law_word_here","_law_starts"]
def jQ:aG Kt Cf (aA BM):=kN
abbrev BL:Stmt:=top 21
def Ks:List Str:=["_law_two_here","_law_word_here","_law_come_here","_law_pairs","_law_row","_law_there"]
abbrev Ce:List Str:=["_law_two_here","_law_word_here"]
def lO:aG Ks Ce (aA BL):=kN
abbrev BK:Stmt:=top 22
def Kr:List Str:=["_law_colours_here","_law_two_here","_law_words","_law_more","_law_ends","_law_word_here","_law_one","_law_end","_law_other","_law_last","_law_taken_here"]
abbrev Cd:List Str:=["_law_colours_here","_law_two_here","_law_words","_law_more"]
def gH:aG Kr Cd (aA BK):=kN
abbrev BJ:Stmt:=top 23
def Kq:List Str:=["_law_script","_law_k","_law_box_here","_law_colours_here","_law_two_here","_law_words"]
abbrev Cc:List Str:=["_law_script"]
def jP:aG Kq Cc (aA BJ):=kN
structure Txt(K:W.Frag)(mg:Str->Option Value)(af:Nat->Addr):Prop where
 t_0:Tx K mg (af 0) "ends_by_begin" JU Ki
 t_1:Tx K mg (af 1) "over" JS Kh
 t_2:Tx K mg (af 2) "ends_of" JR Kg
 t_3:Tx K mg (af 3) "first_ends" JQ Kf
 t_4:Tx K mg (af 4) "ends_on" JP Ke
 t_5:Tx K mg (af 5) "goings" JO Kc
 t_6:Tx K mg (af 6) "any_often" JN Kb
 t_7:Tx K mg (af 7) "two_takes" JM Ka
 t_8:Tx K mg (af 8) "next_stands" JL JZ
 t_9:Tx K mg (af 9) "_law_box" JJ JY
 t_10:Tx K mg (af 10) "_law_take" BR Cn
 t_11:Tx K mg (af 11) "_law_colours" BQ Ck
 t_12:Tx K mg (af 12) "_law_word" BP Cj
 t_13:Tx K mg (af 13) "_law_two" BO Ci
 t_14:Tx K mg (af 14) "_law_onward" BN Cg
 t_15:Tx K mg (af 15) "_law_come" BM Cf
 t_17:Tx K mg (af 16) "_law_due" BL Ce
 t_18:Tx K mg (af 17) "_law_right" BK Cd
 t_19:Tx K mg (af 18) "law" BJ Cc
 n_dict:mg "dict"=none
 n_enumerate:mg "enumerate"=none
 n_int:mg "int"=none
 n_len:mg "len"=none
 n_list:mg "list"=none
 n_max:mg "max"=none
 n_min:mg "min"=none
 n_range:mg "range"=none
 n_repr:mg "repr"=none
 n_set:mg "set"=none
 n_sorted:mg "sorted"=none
 n_tuple:mg "tuple"=none
 n_zip:mg "zip"=none
section
variable{P:Program}{w:World}{K:W.Frag}{mg:Str->Option Value}{base:Heap}{af:Nat->Addr}
def Kp(T:Txt K mg af):lB P w K mg base af 1 0 Ki (fR K Jp 1):=kQ T.t_0 xJ λ_ _ _ _ _ _ hr=>bS (dR Sw (bN 1 xJ.nd))
  (bS (pR (by rfl) (mM (fw 0)) (mL (by rfl) (eW (bN 2 xJ.nd) (eW (bN 3 xJ.nd) mK))) (cS (vX (VA (j:=1) (wD hr) (fw 1) (fw 2) (fw 3) ⟨rfl,rfl,rfl,rfl⟩))))
  (cS (gY (fw 1))))
def Kn(T:Txt K mg af):lB P w K mg base af 1 3 Kf (fR K Jn 1):=kQ T.t_3 JI λ_ _ _ _ _ _ hr=>cS (gY (jJ (aB (jJ (aB bD aI)) (aB (vU (by rfl) T.n_tuple vY (aB (wG (vars:=["row"]) rfl (by rfl) (cJ (by kernel_rfl)) rfl (wJ (by rfl) T.n_range (nU (by rfl) T.n_len (aB (fw 0) aI))) (λ_ _ _=>jC 2) (λ_ _ _=>sE) (λ_ _ _=>jJ (aB (fw 2) (aB (fw 2) aI)))) aI)) aI))))
def Fh(T:Txt K mg af):lB P w K mg base af 1 5 Kc (fR K Hd 3):=kQ T.t_5 JH λ_ _ _ _ _ _ hr=>cS (gY (vU (by rfl) T.n_tuple vY (aB (Dw hr (by rfl) T.n_sorted DF (aB (Ma (vars:=["row","mark","goes","gone","seen","other"]) rfl (wD hr) (NI hr) (by rfl) (cJ (by kernel_rfl)) rfl (SD (by rfl) (by rfl) T.n_enumerate Xe (fw 0)) (λ_ _ _=>mL (by rfl) (eW (jC 4) (eW (mL (by rfl) (eW (jC 5) (eW (jC 6) mK))) mK))) (λ_ _ _=>sE) (λ_ _ _=>mM (fw 6)) (λ_ _ _=>mL (by rfl) (eW (jC 7) (eW (jC 8) (eW (jC 9) mK)))) (λ_ _ _=>HP rfl (DR (Dr (jD (λ_ _=>pS (pV hr)) pQ (fw 7) (fw 1) (aR _)) (Ee (jD (λ_ _=>pS (pV hr)) pQ (fw 8) (fw 2) (aR _)))))) (λ_ _ _=>jJ (aB (fw 4) (aB (fw 9) aI)))) aI)) aI)))
def Kk(T:Txt K mg af):lB P w K mg base af 1 8 JZ (fR K Jk 4):=kQ T.t_8 pZ λ_ _ _ _ _ _ hr=>bS (LK (i:=4) (j:=5) (by rfl) pZ.nd (by rfl) (by rfl) (by decide) (by decide) (by decide) (by rfl) (by rfl) (aB (LQ (fw 1) (fw 2) (lD (fw 2) bD)) (aB (Qr (Rf (fw 1) (fw 2)) (DZ bD)) aI)))
  (bS (dR (lG aI) (bN 6 pZ.nd))
  (bS (pR (by rfl) (mM (jA (jA (fw 0) (fw 3)) bD)) (mL (by rfl) (eW (bN 7 pZ.nd) (eW (bN 8 pZ.nd) (eW (bN 9 pZ.nd) mK)))) (cS (rX (jD (λ_ _=>pS (pV hr)) pQ (fw 8) (SI (jD (λ_ _=>pS (pV hr)) pQ (fw 7) bD (aR _)) (fw 4) (fw 5)) (aR _)) (cS (vX (Aw (j:=6) (fw 6) (jJ (aB (lD (fw 2) (fw 7)) (aB (fw 9) aI)))))) sD)))
  (cS (gY (fw 6)))))
def Kj(T:Txt K mg af):lB P w K mg base af 1 9 JY (fR K Jj 2):=kQ T.t_9 tO λ_ _ _ _ _ _ hr=>bS (dR (lD (As bD (fw 1)) bD) (bN 2 tO.nd))
  (bS (rX (jD (λ_ _=>Rr) RP (fw 1) (nU (by rfl) T.n_len (aB (fw 0) aI)) (aR _)) (cS (dR (jA (fw 0) (fw 1)) (bN 2 tO.nd))) (cS (rX (jD (λ_ _=>HD) HX (nU (by rfl) T.n_len (aB (fw 0) aI)) bD (aR _)) (cS (dR (lD (fw 2) (As (An (jA (fw 0) (An (fw 1) (nU (by rfl) T.n_len (aB (fw 0) aI)))) bD) bD)) (bN 2 tO.nd))) sD)))
  (bS (dR (lD (An (lD (As (An (fw 2) bD) bD) (As bD (fw 1))) bD) bD) (bN 3 tO.nd))
  (cS (gY (lG (aB (jA (lG (aB bD (aB (fw 2) aI))) (MD (by rfl) T.n_int Mb (aB (HH (λ_ _=>Rt) Rz (fw 2) (QB bD bD) (aR _)) aI))) (aB (fw 3) aI)))))))
def fB(T:Txt K mg af):lB P w K mg base af 1 10 Cn (fR K gM 2):=kQ T.t_10 tQ λ_ _ _ _ _ _ hr=>bS (rX (jD (λ_ _=>HD) HX (jA (fw 0) bD) bD (aR _)) (bS (dR (An (jA (fw 0) bD) (fw 1)) (bN 2 tQ.nd))
  (bS (NR (j:=0) (fw 0) bD (Mp (jA (fw 0) bD) (fw 1)))
  (cS (gY (fw 2))))) sD)
  (bS (dR (An (As (jA (fw 0) bD) bD) bD) (bN 3 tQ.nd))
  (bS (NR (j:=0) (fw 0) bD (lD (An (lD (As (fw 3) bD) bD) bD) bD))
  (cS (gY (An (Mp (lD (As (fw 3) bD) (jA (fw 0) bD)) bD) (fw 1))))))
def Fo(T:Txt K mg af):lB P w K mg base af 1 14 Cg (fR K Bl 4):=kQ T.t_14 lP λ_ _ _ _ _ _ hr=>bS (dR (lG aI) (bN 4 lP.nd))
  (bS (pR (by rfl) (mM (jA (jA (fw 0) (fw 3)) bD)) (mL (by rfl) (eW (bN 5 lP.nd) (eW (bN 6 lP.nd) (eW (bN 7 lP.nd) mK)))) (bS (rX (DR (Dr (jD (λ_ _=>pS (pV hr)) pQ (fw 5) bD (aR _)) (Ee (jD (λ_ _=>pS (pV hr)) pQ (LQ (fw 1) (fw 2) (lD (fw 2) bD)) (fw 6) (aR _))))) (cS (vX (Aw (j:=4) (fw 4) (jJ (aB (lD (fw 2) bD) (aB (fw 7) aI)))))) sD)
  (cS (rX (DR (Dr (jD (λ_ _=>pS (pV hr)) pQ (fw 5) (DZ bD) (aR _)) (Dr (jD (λ_ _=>HD) HX (fw 2) bD (aR _)) (Ee (jD (λ_ _=>pS (pV hr)) pQ (jA (fw 1) (LC (fw 2) bD)) (fw 6) (aR _)))))) (cS (vX (Aw (j:=4) (fw 4) (jJ (aB (LC (fw 2) bD) (aB (fw 7) aI)))))) sD))))
  (cS (gY (fw 4))))
def rF(T:Txt K mg af):lB P w K mg base af 2 1 Kh (fR K Ax 2):=kQ T.t_1 EL λ_ _ _ _ _ _ hr=>bS (dR (jI (eJ [true] T.t_0 (Kp T) hr (aB (fw 1) aI))) (bN 2 EL.nd))
  (cS (gY (vU (by rfl) T.n_tuple vY (aB (Dw hr (by rfl) T.n_sorted DF (aB (Ma (vars:=["x","y","z"]) rfl (wD hr) (NI hr) (by rfl) (cJ (by kernel_rfl)) rfl (mM (fw 0)) (λ_ _ _=>mL (by rfl) (eW (jC 4) (eW (jC 5) mK))) (λ_ _ _=>sE) (λ_ _ _=>mM (Si (wD hr) (fw 2) (fw 5) (lG aI) ⟨rfl,rfl,rfl,rfl⟩)) (λ_ _ _=>jC 6) (λ_ _ _=>sE) (λ_ _ _=>jJ (aB (fw 4) (aB (fw 6) aI)))) aI)) aI))))
def Fg(T:Txt K mg af):lB P w K mg base af 2 7 Ka (fR K Hc 3):=kQ T.t_7 rA λ_ _ _ _ _ _ hr=>bS (dR (lG (aB (jJ (aB bD (aB bD aI))) aI)) (bN 3 rA.nd))
  (bS (dR (Vp (QS hr) (jJ (aB bD (aB bD aI))) sC) (bN 4 rA.nd))
  (bS (Iu (HF (fw 3)) (bS (dR (LL (j:=3) (fw 3)) (mL (by rfl) (eW (bN 5 rA.nd) (eW (bN 6 rA.nd) mK))))
  (bS (rX (DR (Dr (jD (λ_ _=>pS (pV hr)) pQ (fw 5) (nU (by rfl) T.n_len (aB (fw 2) aI)) (aR _)) (Ee (HF (jA (jA (fw 1) (fw 6)) bD))))) (cS (gY sC)) sD)
  (cS (pR (by rfl) (mM (eJ [true,true,true,true] T.t_8 (Kk T) hr (aB (fw 1) (aB (fw 2) (aB (fw 5) (aB (fw 6) aI)))))) (bN 7 rA.nd) (cS (rX (jD (λ_ _=>Oh (BD hr)) OA (fw 7) (fw 4) (by with_unfolding_all rfl)) (bS (Mj (j:=4) (wD hr) (fw 4) (fw 7) sC)
  (cS (vX (Aw (j:=3) (fw 3) (fw 7))))) sD)))))))
  (cS (gY sC))))
def Fq(T:Txt K mg af):lB P w K mg base af 2 11 Ck (fR K Bn 2):=kQ T.t_11 AE λ_ _ _ _ _ _ hr=>bS (dR (NN (by rfl) (by rfl) T.n_list Ij (aB (Ec (by rfl) (by decide)) aI)) (bN 2 AE.nd))
  (cS (gY (MO (Ec (by rfl) (by decide)) (aB (Dw hr (by rfl) T.n_sorted DF (aB (wG (vars:=["_law_k"]) rfl (by rfl) (cJ (by kernel_rfl)) rfl (wJ (by rfl) T.n_range (fw 1)) (λ_ _ _=>jC 4) (λ_ _ _=>sE) (λ_ _ _=>jI (Uq (j:=2) (fw 2) (eJ [true,true] T.t_10 (fB T) hr (aB (fw 0) (aB (nU (by rfl) T.n_len (aB (fw 2) aI)) aI)))))) aI)) aI))))
def AK(T:Txt K mg af):lB P w K mg base af 2 12 Cj (fR K wM 3):=kQ T.t_12 AD λ_ _ _ _ _ _ hr=>bS (dR (As (eJ [true,true] T.t_10 (fB T) hr (aB (fw 0) (aB (lD (fw 2) bD) aI))) (MD (by rfl) T.n_int Mb (aB (HH (λ_ _=>DX (BD hr)) Gz (fw 1) (Ec (by rfl) (by decide)) (aR _)) aI))) (bN 3 AD.nd))
  (cS (gY (MO (Ec (by rfl) (by decide)) (aB (wG (vars:=["_law_k"]) rfl (by rfl) (cJ (by kernel_rfl)) rfl (wJ (by rfl) T.n_range (fw 3)) (λ_ _ _=>jC 5) (λ_ _ _=>sE) (λ_ _ _=>jA (fw 1) (eJ [true,true] T.t_10 (fB T) hr (aB (fw 0) (aB (nU (by rfl) T.n_len (aB (fw 1) aI)) aI))))) aI))))
def Fp(T:Txt K mg af):lB P w K mg base af 2 13 Ci (fR K Bm 4):=kQ T.t_13 iH λ_ _ _ _ _ _ hr=>bS (dR (lD bD (eJ [true,true] T.t_10 (fB T) hr (aB (fw 0) (aB (fw 2) aI)))) (bN 4 iH.nd))
  (bS (dR (lG aI) (bN 5 iH.nd))
  (bS (pR (by rfl) (wJ (by rfl) T.n_range (fw 4)) (bN 6 iH.nd) (bS (dR (lG aI) (bN 7 iH.nd))
  (bS (pR (by rfl) (wJ (by rfl) T.n_range (eJ [true,true] T.t_10 (fB T) hr (aB (fw 0) (aB (lD (fw 3) bD) aI)))) (bN 8 iH.nd) (bS (dR (jA (lG (aB bD (aB bD (aB (DZ bD) aI)))) (eJ [true,true] T.t_10 (fB T) hr (aB (fw 0) (aB bD aI)))) (bN 9 iH.nd))
  (cS (vX (Aw (j:=7) (fw 7) (jJ (aB (fw 9) (aB (jA (fw 1) (eJ [true,true] T.t_10 (fB T) hr (aB (fw 0) (aB (nU (by rfl) T.n_len (aB (fw 1) aI)) aI)))) (aB (eJ [true,true] T.t_10 (fB T) hr (aB (fw 0) (aB (fw 4) aI))) aI)))))))))
  (cS (vX (Aw (j:=5) (fw 5) (jJ (aB (HH (λ_ _=>pS (pV hr)) pQ (eJ [true,true] T.t_10 (fB T) hr (aB (fw 0) (aB bD aI))) bD (aR _)) (aB (vU (by rfl) T.n_tuple vY (aB (fw 7) aI)) aI)))))))))
  (cS (gY (vU (by rfl) T.n_tuple vY (aB (fw 5) aI))))))
def AJ(T:Txt K mg af):lB P w K mg base af 2 15 Cf (fR K wL 3):=kQ T.t_15 jQ λ_ _ _ _ _ _ hr=>bS (dR (UW hr (by rfl) T.n_dict Su (aB (wG (vars:=["_law_one"]) rfl (by rfl) (cJ (by kernel_rfl)) rfl (mM (fw 2)) (λ_ _ _=>jC 9) (λ_ _ _=>sE) (λ_ _ _=>jJ (aB (fw 9) (aB sC aI)))) aI)) (bN 3 jQ.nd))
  (bS (dR (NN (by rfl) (by rfl) T.n_list Ij (aB (fw 2) aI)) (bN 4 jQ.nd))
  (bS (Iu (jD (λ_ _=>DX (BD hr)) Gz (fw 4) (lG aI) (aR _)) (bS (dR (LL (j:=4) (fw 4)) (mL (by rfl) (eW (bN 5 jQ.nd) (eW (bN 6 jQ.nd) mK))))
  (cS (pR (by rfl) (mM (eJ [true,true,true,true] T.t_14 (Fo T) hr (aB (fw 0) (aB (fw 1) (aB (fw 5) (aB (fw 6) aI)))))) (bN 7 jQ.nd) (cS (rX (jD (λ_ _=>Oh (BD hr)) OA (fw 7) (fw 3) (by with_unfolding_all rfl)) (bS (Mj (j:=3) (wD hr) (fw 3) (fw 7) sC)
  (cS (vX (Aw (j:=4) (fw 4) (fw 7))))) sD))))))
  (cS (gY (Uz (by rfl) (by rfl) T.n_list Ij (aB (fw 3) aI))))))
def Kl(T:Txt K mg af):lB P w K mg base af 3 6 Kb (fR K Jl 2):=kQ T.t_6 tP λ_ _ _ _ _ _ hr=>bS (dR (vU (by rfl) T.n_tuple vY (aB (Dw hr (by rfl) T.n_sorted DF (aB (QY (wD hr) (RE hr (by rfl) T.n_set PZ (aB (fw 1) aI)) (PU (vars:=["row"]) rfl (wD hr) (by rfl) (cJ (by kernel_rfl)) rfl (wJ (by rfl) T.n_range (fw 0)) (λ_ _ _=>jC 5) (λ_ _ _=>sE) (λ_ _ _=>jJ (aB (fw 5) (aB (fw 5) aI))))) aI)) aI)) (bN 2 tP.nd))
  (bS (dR (jI (eJ [true,true] T.t_1 (rF T) hr (aB (fw 2) (aB (fw 2) aI)))) (bN 3 tP.nd))
  (bS (Iu (jD (λ_ _=>DX (BD hr)) Gz (fw 3) (fw 2) (aR _)) (bS (dR (fw 3) (bN 2 tP.nd))
  (cS (dR (jI (eJ [true,true] T.t_1 (rF T) hr (aB (fw 2) (aB (fw 2) aI)))) (bN 3 tP.nd)))))
  (cS (gY (fw 2)))))
def Fm(T:Txt K mg af):lB P w K mg base af 3 16 Ce (fR K Bk 2):=kQ T.t_17 lO λ_ _ _ _ _ _ hr=>bS (dR (jI (Dw hr (by rfl) T.n_sorted DF (aB (wG (vars:=["_law_place","_law_row"]) rfl (by rfl) (cJ (by kernel_rfl)) rfl (mM (eJ [true,true,true] T.t_15 (AJ T) hr (aB (fw 0) (aB (fw 1) (aB (jI (lG (aB (jJ (aB bD (aB bD aI))) aI))) aI))))) (λ_ _ _=>mL (by rfl) (eW (jC 7) (eW (jC 8) mK))) (λ_ _ _=>HP rfl (jD (λ_ _=>pS (pV hr)) pQ (fw 7) (nU (by rfl) T.n_len (aB (fw 1) aI)) (aR _))) (λ_ _ _=>fw 8)) aI))) (bN 2 lO.nd))
  (bS (dR (lG aI) (bN 3 lO.nd))
  (bS (pR (by rfl) (wJ (by rfl) T.n_range (nU (by rfl) T.n_len (aB (fw 0) aI))) (bN 4 lO.nd) (bS (dR (jI (eJ [true,true,true] T.t_15 (AJ T) hr (aB (fw 0) (aB (fw 1) (aB (jI (lG (aB (jJ (aB (nU (by rfl) T.n_len (aB (fw 1) aI)) (aB (fw 4) aI))) aI))) aI))))) (bN 5 lO.nd))
  (cS (vX (Vs (j:=3) (fw 3) (Dw hr (by rfl) T.n_sorted DF (aB (wG (vars:=["_law_place","_law_goal"]) rfl (by rfl) (cJ (by kernel_rfl)) rfl (mM (fw 5)) (λ_ _ _=>mL (by rfl) (eW (jC 7) (eW (jC 8) mK))) (λ_ _ _=>HP rfl (jD (λ_ _=>pS (pV hr)) pQ (fw 7) (nU (by rfl) T.n_len (aB (fw 1) aI)) (aR _))) (λ_ _ _=>jJ (aB (fw 4) (aB (fw 8) aI)))) aI)))))))
  (cS (gY (jJ (aB (vU (by rfl) T.n_tuple vY (aB (fw 2) aI)) (aB (vU (by rfl) T.n_tuple vY (aB (fw 3) aI)) aI)))))))
def Km(T:Txt K mg af):lB P w K mg base af 4 4 Ke (fR K Jm 3):=kQ T.t_4 rB λ_ _ _ _ _ _ hr=>bS (dR (fw 1) (mL (by rfl) (eW (bN 3 rB.nd) (eW (bN 4 rB.nd) mK))))
  (bS (LK (i:=5) (j:=6) (by rfl) rB.nd (by rfl) (by rfl) (by decide) (by decide) (by decide) (by rfl) (by rfl) (aB (eJ [true,true,true] T.t_5 (Fh T) hr (aB (fw 0) (aB bD (aB (fw 2) aI)))) (aB (eJ [true,true,true] T.t_5 (Fh T) hr (aB (fw 0) (aB (DZ bD) (aB (fw 2) aI)))) aI)))
  (bS (dR (jI (eJ [true,true] T.t_6 (Kl T) hr (aB (nU (by rfl) T.n_len (aB (fw 0) aI)) (aB (jI (eJ [true,true] T.t_1 (rF T) hr (aB (fw 6) (aB (jI (eJ [true,true] T.t_1 (rF T) hr (aB (fw 4) (aB (fw 5) aI)))) aI)))) aI)))) (bN 7 rB.nd))
  (bS (dR (jI (eJ [true,true] T.t_1 (rF T) hr (aB (vU (by rfl) T.n_tuple vY (aB (wG (vars:=["row"]) rfl (by rfl) (cJ (by kernel_rfl)) rfl (mM (fw 3)) (λ_ _ _=>jC 10) (λ_ _ _=>sE) (λ_ _ _=>jJ (aB bD (aB (fw 10) aI)))) aI)) (aB (fw 5) aI)))) (bN 8 rB.nd))
  (cS (gY (jJ (aB (vU (by rfl) T.n_tuple vY (aB (wG (vars:=["begin","row"]) rfl (by rfl) (cJ (by kernel_rfl)) rfl (mM (eJ [true,true] T.t_1 (rF T) hr (aB (fw 8) (aB (fw 7) aI)))) (λ_ _ _=>mL (by rfl) (eW (jC 10) (eW (jC 11) mK))) (λ_ _ _=>sE) (λ_ _ _=>fw 11)) aI)) (aB (fw 7) aI))))))))
def Ko(T:Txt K mg af):lB P w K mg base af 5 2 Kg (fR K Jo 3):=kQ T.t_2 xI λ_ _ _ _ _ _ hr=>bS (dR (jI (eJ [true] T.t_3 (Kn T) hr (aB (fw 1) aI))) (bN 3 xI.nd))
  (bS (pR (by rfl) (mM (fw 2)) (bN 4 xI.nd) (cS (dR (jI (eJ [true,true,true] T.t_4 (Km T) hr (aB (fw 1) (aB (fw 3) (aB (fw 4) aI))))) (bN 3 xI.nd))))
  (cS (gY (fw 3))))
def Fj(T:Txt K mg af):lB P w K mg base af 6 17 Cd (fR K Bj 4):=kQ T.t_18 gH λ_ _ _ _ _ _ hr=>bS (dR (lG aI) (bN 4 gH.nd))
  (bS (pR (by rfl) (mM (fw 2)) (bN 5 gH.nd) (bS (vX (Aw (j:=4) (fw 4) (jI (eJ [true,true,true] T.t_2 (Ko T) hr (aB (fw 0) (aB (fw 1) (aB (fw 5) aI)))))))
  (cS (rX (UT hr (by rfl) T.n_repr (jA (fw 4) (DZ bD)) (eJ [true,true] T.t_17 (Fm T) hr (aB (fw 1) (aB (fw 5) aI)))) (cS (gY sC)) sD))))
  (bS (pR (by rfl) (Lx (by rfl) (by rfl) T.n_zip LX (fw 2) (fw 4)) (mL (by rfl) (eW (bN 6 gH.nd) (eW (bN 7 gH.nd) mK))) (cS (pR (by rfl) (Lx (by rfl) (by rfl) T.n_zip LX (fw 2) (fw 4)) (mL (by rfl) (eW (bN 8 gH.nd) (eW (bN 9 gH.nd) mK))) (bS (dR (jI (lG (aB (jI (eJ [true,true,true] T.t_7 (Fg T) hr (aB (fw 0) (aB (fw 1) (aB (lD (fw 6) (fw 3)) aI))))) (aB (jI (eJ [true,true,true] T.t_7 (Fg T) hr (aB (fw 0) (aB (fw 1) (aB (lD (fw 8) (fw 3)) aI))))) aI)))) (bN 10 gH.nd))
  (cS (rX (DR (Dr (jD (λ_ _=>pS (pV hr)) pQ (fw 7) (fw 9) (aR _)) (Ee (jD (λ_ _=>DX (BD hr)) Gz (jA (fw 10) bD) (jA (fw 10) bD) (aR _))))) (cS (gY sC)) sD))))))
  (cS (gY sC))))
def Fi(T:Txt K mg af):lB P w K mg base af 7 18 Cc (fR K sT 1):=kQ T.t_19 jP λ_ _ _ _ _ _ hr=>bS (pR (by rfl) (wJ (by rfl) T.n_range (Qv (by rfl) (by rfl) T.n_max Qc (aB bD (aB (Rp (by rfl) (by rfl) T.n_min QW (aB (nU (by rfl) T.n_len (aB (fw 0) aI)) (aB bD aI))) aI)))) (bN 1 jP.nd) (bS (dR (eJ [true,true] T.t_9 (Kj T) hr (aB (fw 0) (aB (fw 1) aI))) (bN 2 jP.nd))
  (bS (dR (eJ [true,true] T.t_11 (Fq T) hr (aB (fw 2) (aB (lD bD (eJ [true,true] T.t_10 (fB T) hr (aB (fw 2) (aB bD aI)))) aI))) (bN 3 jP.nd))
  (bS (dR (jI (eJ [true,true,true,true] T.t_13 (Fp T) hr (aB (fw 2) (aB (fw 3) (aB bD (aB bD aI)))))) (bN 4 jP.nd))
  (bS (dR (jI (lD (lG (aB (Ec (by rfl) (by decide)) (aB (jA (fw 3) bD) aI))) (wG (vars:=["_law_turn"]) rfl (by rfl) (cJ (by kernel_rfl)) rfl (wJ (by rfl) T.n_range bD) (λ_ _ _=>jC 7) (λ_ _ _=>sE) (λ_ _ _=>eJ [true,true,true] T.t_12 (AK T) hr (aB (fw 2) (aB (fw 3) (aB bD aI))))))) (bN 5 jP.nd))
  (cS (rX (QO (HF (eJ [true,true,true,true] T.t_18 (Fj T) hr (aB (fw 3) (aB (fw 4) (aB (fw 5) (aB (eJ [true,true,true] T.t_12 (AK T) hr (aB (fw 2) (aB (fw 3) (aB bD aI)))) aI))))))) (cS (gY sC)) sD)))))))
  (cS (gY sC))
end
def all_mk{l:W.OpenLaw}{w:World}{K:W.Frag}{h:Heap}{mg:Str->Option Value}{fa:Addr}(X:K.In h)(G:h.Ns mainGlobals mg)(hfa:mg "law"=some (.ref fa))
  {f_0 f_1 f_2 f_3 f_4 f_5 f_6 f_7 f_8 f_9 f_10 f_11 f_12 f_13 f_14 f_15 f_17 f_18 f_19:Addr}
  (h_0:Lk K "ends_by_begin" JU f_0)
  (h_1:Lk K "over" JS f_1)
  (h_2:Lk K "ends_of" JR f_2)
  (h_3:Lk K "first_ends" JQ f_3)
  (h_4:Lk K "ends_on" JP f_4)
  (h_5:Lk K "goings" JO f_5)
  (h_6:Lk K "any_often" JN f_6)
  (h_7:Lk K "two_takes" JM f_7)
  (h_8:Lk K "next_stands" JL f_8)
  (h_9:Lk K "_law_box" JJ f_9)
  (h_10:Lk K "_law_take" BR f_10)
  (h_11:Lk K "_law_colours" BQ f_11)
  (h_12:Lk K "_law_word" BP f_12)
  (h_13:Lk K "_law_two" BO f_13)
  (h_14:Lk K "_law_onward" BN f_14)
  (h_15:Lk K "_law_come" BM f_15)
  (h_17:Lk K "_law_due" BL f_17)
  (h_18:Lk K "_law_right" BK f_18)
  (h_19:Lk K "law" BJ f_19)
  (z_dict:W.nsIn K mainGlobals "dict"=some none)
  (z_enumerate:W.nsIn K mainGlobals "enumerate"=some none)
  (z_int:W.nsIn K mainGlobals "int"=some none)
  (z_len:W.nsIn K mainGlobals "len"=some none)
  (z_list:W.nsIn K mainGlobals "list"=some none)
  (z_max:W.nsIn K mainGlobals "max"=some none)
  (z_min:W.nsIn K mainGlobals "min"=some none)
  (z_range:W.nsIn K mainGlobals "range"=some none)
  (z_repr:W.nsIn K mainGlobals "repr"=some none)
  (z_set:W.nsIn K mainGlobals "set"=some none)
  (z_sorted:W.nsIn K mainGlobals "sorted"=some none)
  (z_tuple:W.nsIn K mainGlobals "tuple"=some none)
  (z_zip:W.nsIn K mainGlobals "zip"=some none):
  ∃fd:FuncData,(∀(s:Shared)(v:Value),BindsTo s fd ⟨[v],[]⟩ [("_law_script",v)])/\∀base:Heap,K.In base->base.Ns mainGlobals mg->gX l.prog w K mg base (mH l.prog w) 7 fa fd ["_law_script"] (fR K sT 1):=by
 have e:=hfa.symm.trans (h_19.mm X G);cases e;have T:Txt K mg (λn=>[f_0,f_1,f_2,f_3,f_4,f_5,f_6,f_7,f_8,f_9,f_10,f_11,f_12,f_13,f_14,f_15,f_17,f_18,fa].getD n 0):=⟨h_0.tx X G,h_1.tx X G,h_2.tx X G,h_3.tx X G,h_4.tx X G,h_5.tx X G,h_6.tx X G,h_7.tx X G,h_8.tx X G,h_9.tx X G,h_10.tx X G,h_11.tx X G,h_12.tx X G,h_13.tx X G,h_14.tx X G,h_15.tx X G,h_17.tx X G,h_18.tx X G,h_19.tx X G,W.mg_none_of X G z_dict,W.mg_none_of X G z_enumerate,W.mg_none_of X G z_int,W.mg_none_of X G z_len,W.mg_none_of X G z_list,W.mg_none_of X G z_max,W.mg_none_of X G z_min,W.mg_none_of X G z_range,W.mg_none_of X G z_repr,W.mg_none_of X G z_set,W.mg_none_of X G z_sorted,W.mg_none_of X G z_tuple,W.mg_none_of X G z_zip⟩
 exact⟨_,λs v=>h_19.bt s v,λbase _ _=>Fi T⟩
def walk{l:W.OpenLaw}{q:Program}{loose:List Str}{XP:(Str->Option Value)->Heap->Prop}{YP:World->Heap->Prop}{d:DefRec}{K:Params->W.Frag}(hn:l.most=some 63)(hdf:d.params.defaults=[])
  (hY:∀(w:World)(h:Heap),YP w h->(K w.params).In h)
  (F:∀(w:World)(mg:Str->Option Value)(fa:Addr)(h:Heap),(K w.params).In h->h.Ns mainGlobals mg->mg d.name=some (.ref fa)->
   ∃fd:FuncData,(∀(s:Shared)(u:Value),BindsTo s fd ⟨[u],[]⟩ [("_law_script",u)])/\∀base:Heap,(K w.params).In base->base.Ns mainGlobals mg->gX l.prog w (K w.params) mg base (mH l.prog w) 7 fa fd ["_law_script"] (fR (K w.params) sT 1)):
  W.WalkO q loose XP YP l.row.toRowW d [] (λf vs=>PySem.call f vs):=
 L2.walk_of (n:=63) (k:=7) (x:="_law_script") (CX:=λw=>mH l.prog w) (sp:=λw=>fR (K w.params) sT 1) hn (by decide) hdf ⟨rfl,by decide,by decide,rfl⟩ hY F (λ_ H a ns hl _ hS=>QN uA H a ns hl hS) λ_ _ _ _ _ h=>(show False from h).elim
end Law
end
open PySem PySem.W PyProof.Rows
namespace PySem.W.Fast
def tw13839630936245524180:=0
def tw6444690802221179195:=0
def tw2621109597057106777:=0
def tw9521212586620942211:=0
def tw17780950435354473237:=0
def tw10484659857656685884:=0
def tw10750713030858484771:=0
def tw17571835845544992113:=0
def tw5606372830779819039:=0
def tw11950708489297181846:=0
def tw16126253352842638349:=0
def tw15772245020181879247:=0
def tw2143006159575907706:=0
def tw15757386085194293230:=0
def tw16651877520317648986:=0
def tw18025630333363720449:=0
def tw3707215937893137082:=0
def tw14915725618836347794:=0
def tw4743430941098339145:=0
def tw16721653443873591376:=0
def tw14860654188698036113:=0
def tw14731612565508443256:=0
def tw4984695270896143164:=0
def tw15968663635380140572:=0
def tw11902822302311846623:=0
def tw15332722381039041729:=0
def tw10574410088695522280:=0
def tw5406766485298675773:=0
def tw7146520447953733226:=0
def tw7993330452957158289:=0
def tw6295161014900341047:=0
def tw15723958241038841871:=0
def tw287240774072564561:=0
def tw2615739121111912070:=0
def tw15217962249098619263:=0
def tw5350410504795484739:=0
def tw3434105558449828225:=0
def tw6433662304861410275:=0
def tw15460303021961848529:=0
def tw4265432812858196664:=0
def tw4583580798507837273:=0
def tw16504882553503276681:=0
def tw4823983644246231873:=0
def tw10255434488982896610:=0
def tw5926018462125301659:=0
def tw1403347957542896352:=0
def tw5680800052540287265:=0
def tw606293286025369020:=0
def tw12998260069389290162:=0
def tw8698109026164724996:=0
def tw13999808973139182372:=0
def tw12820929660583317736:=0
def tw7448542980087309380:=0
def tw16980664154055020166:=0
def tw6330040947972807690:=0
def tw13444348135817533906:=0
def tw7976786157890596557:=0
def tw9798141238559966884:=0
def tw12884421331991988864:=0
def tw8495592548350371243:=0
def tw12205693810032968960:=0
def tw3631224488484250952:=0
def tw5539389618562513932:=0
def tw2595559695584431740:=0
def tw16276786816525302653:=0
def tw9655891839314728591:=0
def tw9844533208321633932:=0
def tw18211989999952505062:=0
def tw3259253414692312555:=0
def tw4950508548132389524:=0
def tw5103885650740424582:=0
def tw7750497182434714557:=0
def tw2185172171679753562:=0
def tw16938888950064548105:=0
def tw12270707137923490219:=0
def tw10410804785787515476:=0
def tw4057739319549678430:=0
def tw9483821566077718002:=0
def tw8407445741402575060:=0
def tw274150523935658251:=0
def tw1344127238248377068:=0
def tw1801719929369370793:=0
def tw18382859542550507659:=0
def tw7291562241725441988:=0
def tw11075163326066857759:=0
end PySem.W.Fast
set_option maxRecDepth 100000 in
set_option maxHeartbeats 0 in
theorem PySem.Challenge.cw_walktold_k60_ends_of_words_holds : PySem.Challenge.rw_walktold_k60_ends_of_words.Holds := by
 w_on; o_law; k_head; (case hw=>w_witness2)
 k_fill
 refine Law.walk (l:=PySem.Challenge.rw_walktold_k60_ends_of_words) rfl rfl (fun w h Y=>PySem.W.kIn_of Y) ?F
 case F=>
  intro w mg fa h KX G hmg
  refine' Law.all_mk KX G hmg ..
  all_goals try first | k_is | (refine' ⟨?_,?_,?_,?_⟩ <;> try k_is)
