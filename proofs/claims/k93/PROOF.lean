import PyProof.Rows.All
import Wide.All
import OpenK.AllK
import Wide.FinOn
import PySem.Challenge.RW_walktold_k93_words_that_help
set_option Elab.async false
set_option linter.all false
set_option maxRecDepth 100000
set_option compiler.extract_closed false
set_option bootstrap.genMatcherCode false
open Array (getElem?_eq_getElem getElem?_toList getElem_extract getElem_mem_toList getElem_toList length_toList mem_toList_iff perm_iff_toList_perm size_extract toArray_toList toList_append toList_extract toList_push)
open Bool (and_eq_true false_eq_true or_eq_true)
open Int (mul_one natCast_add ofNat_le toNat_natCast)
open List (all_cons all_eq_true any_cons append_assoc append_nil append_of_mem cons_append cons_lt_cons_iff countP_cons drop_drop drop_of_length_le drop_zero ext_getElem? extract_eq_take_drop filterMap_cons find?_cons flatMap_append flatMap_cons foldl_cons getElem?_append_left getElem?_append_right getElem?_eq_none getElem?_map getElem?_range getElem?_set getElem?_set_ne getElem?_set_self getElem_drop getElem_mem getElem_of_mem getElem_take isEmpty_nil length_append length_cons length_drop length_filter_le length_map length_nil length_pos_iff length_range length_singleton length_take lookup_cons lt_asymm map_append map_congr_left map_cons map_id map_map map_nil map_set mem_append mem_cons mem_cons_self mem_filter mem_filterMap mem_flatMap mem_map mem_of_getElem? mem_of_mem_drop mem_of_mem_take mem_range mem_singleton nil_append nodup_append nodup_cons nodup_range of_mem_zip pairwise_append pairwise_cons pairwise_iff_getElem pairwise_lt_range pairwise_map perm_append_comm perm_middle reverse_perm size_toArray sum_cons take_append_drop take_nil take_of_length_le take_zero)
open Nat (le_of_lt le_of_lt_succ le_refl le_succ le_trans lt_irrefl lt_of_le_of_lt lt_of_lt_of_le lt_or_ge lt_succ_of_lt lt_succ_self lt_trans lt_trichotomy min_eq_left min_eq_right min_le_right mod_lt ne_of_gt ne_of_lt not_lt sub_le sub_self sub_zero zero_add zero_le)
open Option (isSome_iff_exists isSome_map isSome_some map_eq_some_iff map_some none_or toList_none)
def qa:=@PySem.wpAny_bind
def qb:=@PySem.wpAny_pure
def qc:=@PySem.Heap.get?_push_of_some
def qd:=@PySem.Heap.get?_push_size
def qe:=@PySem.Heap.lt_size
def qg.{u}:=@Option.some.inj.{u}
def qh.{u}:=@List.getElem?_eq_some_iff.{u}
def qi.{u}:=@List.getElem?_eq_getElem.{u}
def qj.{u}:=@List.mem_append_right.{u}
def qk.{u}:=@List.mem_append_left.{u}
def qm.{u}:=@List.mem_cons_of_mem.{u}
def qo.{u}:=@List.mem_cons_self.{u}
def qp:=@List.length_map
def qq:=@List.append_assoc
def qr:=@List.length_append
def qt:=@List.size_toArray
def qv:=@List.length_cons
def qw:=@List.mem_singleton
def qy:=@List.length_nil
def qz:=@List.nodup_append
def qA:=@List.mem_append
def qB:=@List.map_cons
def qC:=@List.append_nil
def qD:=@List.mem_cons
def qE:=@List.length_singleton
def qF:=@List.cons_lt_cons_iff
def qG:=@List.length_range
def qH:=@List.map_map
def qI:=@List.getElem?_map
def qJ:=@List.length_drop
def qK:=@List.length_take
def qL:=@List.all_eq_true
def qM:=@List.mem_range
def qN:=@List.mem_map
def qO:=@List.nodup_cons
def qP:=@List.mem_of_getElem?
def qQ:=@List.perm_append_comm
def qR:=@List.cons_append
def qS:=@List.length_pos_iff
def qT:=@List.getElem?_eq_none
def qU:=@decide_eq_true
def qV:=@decide_eq_false
def qW:=@decide_eq_true_eq
def qX:=@of_decide_eq_true
def qY:=@Array.length_toList
def qZ:=@Int.toNat_natCast
def q5:=Bool.false_ne_true
def q8:=@Option.map_eq_some_iff
def q9:=@Array.getElem?_toList
def za:=@if_pos
def zc:=@if_neg
def zd:=@Nat.le_refl
def ze:=@PySem.Heap.get?_update_other
def zf:=@PySem.Heap.get?_update_self
def zg:=@PySem.wpAny_field
def zh:=@PySem.wpAny_newObj_type
def zi:=@PySem.wpAny_call_entry
def zj:=@PySem.sizeLine_eq
def zk:=@PySem.wpAny_holding
def zl:=@PySem.wpAny_of_eq
def zm:=@PySem.wpAny_mono
abbrev zo:=PySem.Value->PySem.Shared->Prop
noncomputable section
namespace ST
open PySem PySem.SetTable
def Rising(xs:Array Nat):Prop:=∀i j(hi:i<xs.size)(hj:j<xs.size),i<j->xs[i]<xs[j]
theorem AA{xs:Array Nat}(h:i<xs.size):xs.getD i d=xs[i]:=by simp[Array.getD,h]
theorem Az(hr:Rising xs):∀(fuel lo hi:Nat),hi<=xs.size->lo<=hi->hi-lo<=fuel->(∀i(h:i<xs.size),i<lo->xs[i]<j)->(∀i(h:i<xs.size),hi<=i->j<=xs[i])->
  below.go xs j fuel lo hi<=xs.size/\(∀i(h:i<xs.size),i<below.go xs j fuel lo hi->xs[i]<j)/\∀i(h:i<xs.size),below.go xs j fuel lo hi<=i->j<=xs[i]:=by
 intro fuel;induction fuel with
 |zero=>
  intro lo hi h1 h2 h3 h4 h5;have:lo=hi:=by lia
  subst this;exact⟨by show lo<=_;lia,λi h hl=>h4 i h hl,λi h hl=>h5 i h hl⟩
 |succ fuel ih=>
  intro lo hi h1 h2 h3 h4 h5;unfold below.go;by_cases hlt:lo<hi
  .rw[za hlt];have hm:(lo+hi)/2<xs.size:=by lia
   dsimp only;rw[AA hm];by_cases hc:xs[(lo+hi)/2]<j
   .rw[za hc];refine ih _ _ h1 (by lia) (by lia) (λi h hl=>?_) h5;by_cases he:i=(lo+hi)/2
    .subst he;exact hc
    .have:=hr i ((lo+hi)/2) h hm (by lia);lia
   .rw[zc hc];refine ih _ _ (by lia) (by lia) (by lia) h4 λi h hl=>?_;by_cases he:i=(lo+hi)/2
    .subst he;lia
    .have:=hr ((lo+hi)/2) i hm h (by lia);lia
  .rw[zc hlt];have:lo=hi:=by lia
   subst this;exact⟨by lia,λi h hl=>h4 i h hl,λi h hl=>h5 i h hl⟩
theorem dA(hr:Rising xs):below xs j<=xs.size/\(∀i(h:i<xs.size),i<below xs j->xs[i]<j)/\∀i(h:i<xs.size),below xs j<=i->j<=xs[i]:=
 Az hr xs.size 0 xs.size (zd _) (zero_le _) (by lia) (λi h hl=>by lia) λi h hl=>by lia
theorem wW(hr:Rising xs)(h:i<xs.size)(e:xs[i]=j):below xs j=i:=by
 obtain⟨h1,h2,h3⟩:=dA (j:=j) hr;rcases lt_trichotomy (below xs j) i with hl|hl|hl
 .have h4:=h3 (below xs j) (by lia) (zd _);have:=hr (below xs j) i (by lia) h hl;lia
 .exact hl
 .have:=h2 i h hl;lia
theorem kX{t:SetTable}(hr:Rising t.place)(h:i<t.place.size)(e:t.place[i]=j):t.slot j=.live i:=by
 unfold slot;dsimp only;rw[wW hr h e];have:t.place[i]?=some j:=by rw[getElem?_eq_getElem h,e]
 rw[this];simp
theorem kY{t:SetTable}(hd:t.dummies=#[])(h:∀i(hi:i<t.place.size),t.place[i]≠j):t.slot j=.empty:=by
 unfold slot;dsimp only;have h1:(t.place[below t.place j]?==some j)=false:=by
  cases q:t.place[below t.place j]? with
  |none=>rfl
  |some v=>obtain⟨hi,e⟩:=Array.getElem?_eq_some_iff.mp q;have:=h _ hi;rw[e]at this;simpa using this
 rw[h1,hd];rfl
theorem cL{t:SetTable}(hr:Rising t.place)(hd:t.dummies=#[])(j:Nat):(t.slot j=.empty/\∀i(hi:i<t.place.size),t.place[i]≠j)\/∃i,∃hi:i<t.place.size,t.place[i]=j/\t.slot j=.live i:=by
 by_cases h:∃i,∃hi:i<t.place.size,t.place[i]=j
 .obtain⟨i,hi,e⟩:=h;exact .inr ⟨i,hi,e,kX hr hi e⟩
 .have h':∀i(hi:i<t.place.size),t.place[i]≠j:=λi hi e=>h ⟨i,hi,e⟩;exact .inl ⟨kY hd h',h'⟩
def aE(t:SetTable)(p:Probe):Nat->Probe
 |0=>p
 |n+1=>aE t (t.advance p) n
theorem gY(t:SetTable):∀(n:Nat)(p:Probe),aE t p (n+1)=t.advance (aE t p n)
 |0,_=>rfl
 |n+1,p=>gY t n (t.advance p)
theorem bI(t:SetTable):∀(m n:Nat)(p:Probe),aE t p (m+n)=aE t (aE t p m) n
 |0,n,p=>by rw[zero_add];rfl
 |m+1,n,p=>by rw[Nat.add_right_comm];exact bI t m n (t.advance p)
theorem vJ(hr:Rising t.place)(hd:t.dummies=#[]):∀(fuel n:Nat)(p:Probe),p.dummy=none->t.slot (aE t p n).j=.empty->(∀m,m<n->t.slot (aE t p m).j≠.empty)->n<fuel->
  (probe.go t hashAt h fuel p=some (.empty (aE t p n).j none)/\∀m,m<n->∀i,t.slot (aE t p m).j=.live i->hashAt i≠h)\/
  ∃m i,m<n/\t.slot (aE t p m).j=.live i/\hashAt i=h/\probe.go t hashAt h fuel p=some (.candidate (aE t p m).j i (aE t p (m+1)))/\∀m',m'<m->∀i',t.slot (aE t p m').j=.live i'->hashAt i'≠h:=by
 intro fuel;induction fuel with
 |zero=>intro n p _ _ _ h;lia
 |succ fuel ih=>
  intro n p hdm he hne hf;cases n with
  |zero=>refine .inl ⟨?_,λm hm=>by lia⟩;unfold probe.go;have he':t.slot p.j=.empty:=he;rw[he'];show some (Met.empty p.j p.dummy)=_;rw[hdm];rfl
  |succ n=>
   rcases cL hr hd p.j with⟨hemp,_⟩|⟨i,hi,ei,hl⟩
   .exact absurd hemp (hne 0 (by lia))
   .by_cases hh:hashAt i=h
    .refine .inr ⟨0,i,by lia,hl,hh,?_,λm' hm'=>by lia⟩;unfold probe.go;rw[hl];show(if(hashAt i==h)=true then _ else _)=_;rw[za (by rw[hh];simp)];rfl
    .have hgo:probe.go t hashAt h (fuel+1) p=probe.go t hashAt h fuel (t.advance p):=by
      conv=>lhs;unfold probe.go
      grind
     have hadm:(t.advance p).dummy=none:=by
      unfold advance;split
      .exact hdm
      .exact hdm
     rcases ih n (t.advance p) hadm he (λm hm=>hne (m+1) (by lia)) (by lia)with⟨h1,h2⟩|⟨m,i',hm,h1,h2,h3,h4⟩
     .refine .inl ⟨by rw[hgo,h1];rfl,λm hm i' hl'=>?_⟩;cases m with
      |zero=>have:t.slot p.j=.live i':=hl';rw[hl]at this;cases this;exact hh
      |succ m=>exact h2 m (by lia) i' hl'
     .refine .inr ⟨m+1,i',by lia,h1,h2,by rw[hgo,h3];rfl,λm' hm' i'' hl'=>?_⟩;cases m' with
      |zero=>have:t.slot p.j=.live i'':=hl';rw[hl]at this;cases this;exact hh
      |succ m'=>exact h4 m' (by lia) i'' hl'
def bK(mask:Nat)(b:Nat):Nat->Nat×Nat
 |0=>(b %(mask+1),b)
 |k+1=>leap mask (bK mask b k).1 (bK mask b k).2
def bH(mask:Nat)(p:Nat×Nat):Probe:={j:=p.1,more:=runEnd mask p.1-p.1,i:=p.1,perturb:=p.2,dummy:=none}
theorem zW(mask i:Nat):runEnd mask i-i<=9:=by unfold runEnd;split<;>lia
theorem jG:∀m,m<=runEnd t.mask p.1-p.1->aE t (bH t.mask p) m={bH t.mask p with j:=p.1+m,more:=runEnd t.mask p.1-p.1-m}
 |0,_=>rfl
 |m+1,h=>by rw[gY,jG m (by lia)];unfold advance;rw[za (by show runEnd t.mask p.1-p.1-m>0;lia)];rfl
theorem lD:aE t (bH t.mask p) (runEnd t.mask p.1-p.1+1)=bH t.mask (leap t.mask p.1 p.2):=by rw[gY,jG _ (zd _)];unfold advance;rw[zc (by show¬(runEnd t.mask p.1-p.1-(runEnd t.mask p.1-p.1)>0);lia)];rfl
theorem jH:∀k,∃n,n<=10*k/\aE t (t.probeStart h) n=bH t.mask (bK t.mask (bits h) k)
 |0=>⟨0,by lia,rfl⟩
 |k+1=>by obtain⟨n,hn,e⟩:=jH (t:=t) (h:=h) k;have:=zW t.mask (bK t.mask (bits h) k).1;refine⟨n+(runEnd t.mask (bK t.mask (bits h) k).1-(bK t.mask (bits h) k).1+1),by lia,?_⟩;rw[bI,e,lD];rfl
theorem AD(h:Int):bits h<2^64:=by unfold bits;grind
theorem jO(mask b:Nat):∀k,(bK mask b k).2=b/32^k
 |0=>by simp[bK]
 |k+1=>by show(bK mask b k).2/32=_;rw[jO mask b k,Nat.div_div_eq_div_mul,Nat.pow_succ]
theorem oT{mask:Nat}(hk:13<=k):(bK mask (bits h) k).2=0:=by
 rw[jO];refine Nat.div_eq_of_lt (lt_of_lt_of_le (AD h) ?_)
 calc 2^64<=32^13:=by decide
  _<=32^k:=Nat.pow_le_pow_right (by decide) hk
def LM(M i:Nat):Nat:=(i*5+1) %M
def it(M:Nat):Nat->Nat->Nat
 |0,i=>i
 |k+1,i=>it M k (LM M i)
theorem jR(M:Nat):∀a b i,it M (a+b) i=it M b (it M a i)
 |0,b,i=>by rw[zero_add];rfl
 |a+1,b,i=>by rw[Nat.add_right_comm];exact jR M a b (LM M i)
theorem jP{mask:Nat}:∀k,(bK mask (bits h) (13+k)).1=it (mask+1) k (bK mask (bits h) 13).1
 |0=>rfl
 |k+1=>by rw[jR (mask+1) k 1,<-jP k];show(leap mask (bK mask (bits h) (13+k)).1 (bK mask (bits h) (13+k)).2).1=_;rw[oT (by lia)];rfl
def hit(M e:Nat):Nat->Nat->Bool
 |0,_=>false
 |n+1,i=>bif Nat.beq i e then true else hit M e n (LM M i)
theorem oZ:∀{n i:Nat},hit M e n i=true->∃k,k<n/\it M k i=e
 |0,_,h=>by cases h
 |n+1,i,h=>by
  unfold hit at h;cases q:Nat.beq i e with
  |true=>exact⟨0,by lia,Nat.eq_of_beq_eq_true q⟩
  |false=>rw[q]at h;obtain⟨k,hk,e'⟩:=oZ (n:=n) h;exact⟨k+1,by lia,e'⟩
def cD(mask:Nat):Prop:=mask=7\/mask=15\/mask=31\/mask=63\/mask=127\/mask=255\/mask=511
theorem AG{mask:Nat}(h:cD mask):(List.range (mask+1)).all (λe=>hit (mask+1) e (mask+1) 0)=true/\it (mask+1) (mask+1) 0=0:=by rcases h with rfl|rfl|rfl|rfl|rfl|rfl|rfl<;>exact⟨by decide+kernel,by decide+kernel⟩
theorem GQ{mask s e:Nat}(h:cD mask)(hs:s<=mask)(he:e<=mask):∃k,k<=mask/\it (mask+1) k s=e:=by
 obtain⟨h1,h2⟩:=AG h;rw[qL]at h1;obtain⟨a,ha,ea⟩:=oZ (h1 s (qM.mpr (by lia)));obtain⟨b,hb,eb⟩:=oZ (h1 e (qM.mpr (by lia)));by_cases hab:a<=b
 .exact⟨b-a,by lia,by rw[<-ea,<-jR,show a+(b-a)=b by lia,eb]⟩
 .refine⟨mask+1-a+b,by lia,?_⟩;rw[<-ea,<-jR,show a+(mask+1-a+b)=mask+1+b by lia,jR,h2,eb]
theorem oQ(hm:cD t.mask)(he:e<=t.mask):∃n,n<10*turns t.mask/\(aE t (t.probeStart h) n).j=e:=by
 have hs:(bK t.mask (bits h) 13).1<=t.mask:=by have:(bK t.mask (bits h) 13).1<t.mask+1:=mod_lt _ (by lia);lia
 obtain⟨k,hk,ek⟩:=GQ hm hs he;obtain⟨n,hn,en⟩:=jH (t:=t) (h:=h) (13+k);refine⟨n,by unfold turns;lia,?_⟩;rw[en];show(bK t.mask (bits h) (13+k)).1=e;rw[jP,ek]
theorem Gy{P:Nat->Prop}[DecidablePred P]:∀n,P n->∃m,m<=n/\P m/\∀k,k<m->¬P k:=by
 intro n;induction n using Nat.strongRecOn with
 |ind n ih=>
  intro hn;by_cases h:∃k,k<n/\P k
  .obtain⟨k,hk,hp⟩:=h;obtain⟨m,h1,h2,h3⟩:=ih k hk hp;exact⟨m,by lia,h2,h3⟩
  .exact⟨n,zd _,hn,λk hk hp=>h ⟨k,hk,hp⟩⟩
structure lL(t:SetTable)(hs:List Int):Prop where
 ris:Rising t.place
 dum:t.dummies=#[]
 mask:cD t.mask
 size:t.place.size=hs.length
 le:∀i(hi:i<t.place.size),t.place[i]<=t.mask
 few:hs.length<=t.mask
 reach:∀i(hi:i<t.place.size)(h:Int),hs[i]?=some h->∃n,(aE t (t.probeStart h) n).j=t.place[i]/\∀m,m<n->t.slot (aE t (t.probeStart h) m).j≠.empty
theorem Bh:∀(l m:List Nat),l.Nodup->(∀x∈l,x∈m)->l.length<=m.length
 |[],m,_,_=>by simp
 |x::l,m,hn,hs=>by
  obtain⟨h1,h2⟩:=qO.mp hn;have hx:x∈m:=hs x (by simp);have:=Bh l (m.erase x) h2 λy hy=>by refine(List.mem_erase_of_ne ?_).mpr (hs y (by simp[hy]));intro z;subst z;exact h1 hy
  rw[List.length_erase_of_mem hx]at this;have hp:=List.length_pos_of_mem hx;rw[qv];lia
theorem vK:∀(m:Nat)(l:List Nat),l.Nodup->(∀x∈l,x<m)->l.length<m->∃e,e<m/\e∉l:=by
 intro m l hn hx hl;by_cases h:∃e,e<m/\e∉l
 .exact h
 .exfalso;have:∀e∈List.range m,e∈l:=λe he=>by
   by_cases q:e∈l
   .exact q
   .exact absurd ⟨e,qM.mp he,q⟩ h
  have:=Bh (List.range m) l nodup_range this;rw[qG]at this;lia
theorem lL.free(T:lL t hs)(h:Int):∃n,n<10*turns t.mask/\t.slot (aE t (t.probeStart h) n).j=.empty/\∀m,m<n->t.slot (aE t (t.probeStart h) m).j≠.empty:=by
 obtain⟨e,he,hne⟩:=vK (t.mask+1) t.place.toList (by
  rw[List.Nodup,pairwise_iff_getElem];intro i j hi hj hij;have:=T.ris i j (by simpa using hi) (by simpa using hj) hij;simp only[getElem_toList];lia) (λx hx=>by
   obtain⟨i,hi,e⟩:=getElem_of_mem hx;have:=T.le i (by simpa using hi);rw[getElem_toList]at e;lia) (by
   have:=T.few;have:=T.size;rw[qY];lia)
 obtain⟨n,hn,en⟩:=oQ (h:=h) T.mask (show e<=t.mask by lia);have hemp:t.slot (aE t (t.probeStart h) n).j=.empty:=by rw[en];refine kY T.dum λi hi z=>hne ?_;rw[<-z];exact getElem_mem_toList hi
 obtain⟨m,h1,h2,h3⟩:=Gy (P:=λn=>t.slot (aE t (t.probeStart h) n).j=.empty) n hemp;exact⟨m,by lia,h2,h3⟩
theorem ris_list:Rising xs↔xs.toList.Pairwise (·<·):=by rw[pairwise_iff_getElem];first|rfl|assumption|(simp_all;done)
theorem jS(hr:Rising xs)(hn:∀i(hi:i<xs.size),xs[i]≠j):Rising (insertAt xs (below xs j) j):=by
 obtain⟨h1,h2,h3⟩:=dA (j:=j) hr;rw[ris_list,toList_insertAt];have hp:=ris_list.mp hr;rw[<-take_append_drop (below xs j) xs.toList]at hp;obtain⟨p1,p2,p3⟩:=pairwise_append.mp hp;refine pairwise_append.mpr ⟨p1,pairwise_cons.mpr ⟨λy hy=>?_,p2⟩,λx hx y hy=>?_⟩
 .obtain⟨i,hi,e⟩:=getElem_of_mem hy;rw[getElem_drop,getElem_toList]at e;have hi':below xs j+i<xs.size:=by simp at hi;lia
  have a:=h3 (below xs j+i) hi' (by lia);have b:=hn (below xs j+i) hi';lia
 .have hxj:x<j:=by
   obtain⟨i,hi,e⟩:=getElem_of_mem hx;rw[getElem_take,getElem_toList]at e;have hi':i<xs.size/\i<below xs j:=by simp at hi;lia
   have:=h2 i hi'.1 hi'.2;lia
  rcases qD.mp hy with rfl|hy
  .exact hxj
  .exact p3 x hx y hy
theorem mem_insert:x∈(insertAt xs p j).toList↔x=j\/x∈xs.toList:=by rw[toList_insertAt,qA,qD];grind[take_append_drop,mem_append]
theorem cM(h:t'.mask=t.mask):∀(n:Nat)(p:Probe),aE t' p n=aE t p n
 |0,_=>rfl
 |n+1,p=>by
  have e:t'.advance p=t.advance p:=by unfold advance;rw[h]
  show aE t' (t'.advance p) n=aE t (t.advance p) n;rw[e,cM h n]
theorem cK{t t':SetTable}(h:t'.mask=t.mask)(b:Int):t'.probeStart b=t.probeStart b:=by unfold probeStart;rw[h]
theorem jN{t:SetTable}(hr:Rising t.place)(hd:t.dummies=#[])(j:Nat):t.slot j≠.empty↔j∈t.place.toList:=by
 rcases cL hr hd j with⟨h,hn⟩|⟨i,hi,e,h⟩
 .refine⟨λz=>absurd h z,λhj=>?_⟩;obtain⟨i,hi,e⟩:=getElem_of_mem hj;rw[getElem_toList]at e;exact absurd e (hn i (by simpa using hi))
 .refine⟨λ_=>?_,λ_=>by rw[h];exact nofun⟩;rw[<-e];exact getElem_mem_toList hi
theorem fO{t:SetTable}(hd:t.dummies=#[]):(t.put j).1.place=insertAt t.place (below t.place j) j/\(t.put j).1.mask=t.mask/\(t.put j).1.dummies=#[]/\(t.put j).2=below t.place j:=by unfold put;dsimp only;refine⟨rfl,rfl,?_,rfl⟩;rw[hd];rfl
theorem lL.put(T:lL t hs)(he:t.slot (aE t (t.probeStart h) n).j=.empty)(hne:∀m,m<n->t.slot (aE t (t.probeStart h) m).j≠.empty)(hj:(aE t (t.probeStart h) n).j<=t.mask)(hf:hs.length+1<=t.mask):
  lL (t.put (aE t (t.probeStart h) n).j).1 (hs.take (t.put (aE t (t.probeStart h) n).j).2++h::hs.drop (t.put (aE t (t.probeStart h) n).j).2):=by
 generalize hjj:(aE t (t.probeStart h) n).j=j at*;have hnot:∀i(hi:i<t.place.size),t.place[i]≠j:=by
  rcases cL T.ris T.dum j with⟨_,hn⟩|⟨i,hi,e,hl⟩
  .exact hn
  .rw[hl]at he;cases he
 obtain⟨e1,e2,e3,e4⟩:=fO (t:=t) (j:=j) T.dum;have hris:=jS T.ris hnot;obtain⟨b1,b2,b3⟩:=dA (j:=j) T.ris;have hsz:(insertAt t.place (below t.place j) j).size=t.place.size+1:=by rw[<-qY,toList_insertAt,qr,qv,qK,qJ,qY];lia
 have more:∀k,t.slot k≠.empty->(t.put j).1.slot k≠.empty:=λk hk=>by rw[jN (by rw[e1];exact hris) e3,e1,mem_insert];exact .inr ((jN T.ris T.dum k).mp hk)
 refine⟨by rw[e1];exact hris,e3,by rw[e2];exact T.mask,?_,λi hi=>?_,?_,λi hi g hg=>?_⟩
 .rw[e1,hsz,qr,qv,qK,qJ,e4,T.size];have:=T.size;lia
 .have hm:(t.put j).1.place[i]∈(insertAt t.place (below t.place j) j).toList:=by rw[<-e1];exact getElem_mem_toList hi
  rw[e2];rcases mem_insert.mp hm with z|z
  .rw[z];exact hj
  .obtain⟨k,hk,e⟩:=getElem_of_mem z;rw[getElem_toList]at e;rw[<-e];exact T.le k (by simpa using hk)
 .rw[e2,qr,qv,qK,qJ];lia
 .rw[e4]at hg;have hpl:(t.put j).1.place[i]?=(t.place.toList.take (below t.place j)++j::t.place.toList.drop (below t.place j))[i]?:=by rw[e1,<-q9,toList_insertAt]
  rw[getElem?_eq_getElem hi]at hpl;have hlt:(t.place.toList.take (below t.place j)).length=below t.place j:=by rw[qK,qY];lia
  have hlh:(hs.take (below t.place j)).length=below t.place j:=by have:=T.size;rw[qK];lia
  have old:∀k(hk:k<t.place.size),hs[k]?=some g->(t.put j).1.place[i]=t.place[k]->∃n,(aE (t.put j).1 ((t.put j).1.probeStart g) n).j=(t.put j).1.place[i]/\∀m,m<n->(t.put j).1.slot (aE (t.put j).1 ((t.put j).1.probeStart g) m).j≠.empty:=λk hk hg' e=>by obtain⟨n',a,b⟩:=T.reach k hk g hg';refine⟨n',by rw[cM e2,cK e2,a,e],λm hm=>?_⟩;rw[cM e2,cK e2];exact more _ (b m hm)
  rcases lt_trichotomy i (below t.place j)with hl|hl|hl
  .rw[getElem?_append_left (by rw[hlt];exact hl),List.getElem?_take_of_lt hl]at hpl;rw[getElem?_append_left (by rw[hlh];exact hl),List.getElem?_take_of_lt hl]at hg;have hk:i<t.place.size:=by lia
   rw[q9,getElem?_eq_getElem hk]at hpl;exact old i hk hg (qg hpl)
  .subst hl;rw[getElem?_append_right (by rw[hlt];exact zd _),hlt,sub_self,List.getElem?_cons_zero]at hpl;rw[getElem?_append_right (by rw[hlh];exact zd _),hlh,sub_self,List.getElem?_cons_zero]at hg;have eg:=qg hg;subst eg;refine⟨n,by rw[cM e2,cK e2,hjj,qg hpl],λm hm=>?_⟩;rw[cM e2,cK e2];exact more _ (hne m hm)
  .obtain⟨k,rfl⟩:∃k,i=k+1:=⟨i-1,by lia⟩
   rw[getElem?_append_right (by rw[hlt];lia),hlt,show k+1-below t.place j=(k-below t.place j)+1 by lia,List.getElem?_cons_succ,List.getElem?_drop,show below t.place j+(k-below t.place j)=k by lia]at hpl;rw[getElem?_append_right (by rw[hlh];lia),hlh,show k+1-below t.place j=(k-below t.place j)+1 by lia,List.getElem?_cons_succ,List.getElem?_drop,show below t.place j+(k-below t.place j)=k by lia]at hg;have hk:k<t.place.size:=by have:=hi;simp only[e1,hsz]at this;lia
   rw[q9,getElem?_eq_getElem hk]at hpl;exact old k hk hg (qg hpl)
def fG(o:Array (Option Nat))(j:Nat):Bool:=(o.getD j (some 0)).isNone
def bare(mask:Nat):SetTable:={fresh 0 0 true with mask:=mask}
theorem sY{mask:Nat}:∀(fuel:Nat)(p:Nat×Nat)(K:Nat),K<fuel->(∃q,fG o q.1=true/\q=(Nat.repeat (λx:Nat×Nat=>leap mask x.1 x.2) K p))->
  ∃j n,layClean.free mask o fuel p.1 p.2=some j/\(aE (bare mask) (bH mask p) n).j=j/\fG o j=true/\∀m,m<n->fG o (aE (bare mask) (bH mask p) m).j=false:=by
 intro fuel;induction fuel with
 |zero=>intro p K h;lia
 |succ fuel ih=>
  intro p K hK hq;have run:∀m,m<=runEnd mask p.1-p.1->(aE (bare mask) (bH mask p) m).j=p.1+m:=λm hm=>by have:=jG (t:=bare mask) (p:=p) m hm;have e:(aE (bare mask) (bH mask p) m).j=({bH mask p with j:=p.1+m,more:=runEnd mask p.1-p.1-m}:Probe).j:=congrArg Probe.j this;exact e
  have hre:p.1<=runEnd mask p.1:=by unfold runEnd;split<;>lia
  unfold layClean.free;cases hf:(List.range (runEnd mask p.1+1-p.1)).find? (λk=>(o.getD (p.1+k) (some 0)).isNone)with
  |some k=>rw[List.find?_range_eq_some]at hf;obtain⟨h1,h2,h3⟩:=hf;rw[qM]at h2;refine⟨p.1+k,k,rfl,run k (by lia),h1,λm hm=>?_⟩;rw[run m (by lia)];have:=h3 m hm;simpa[fG] using this
  |none=>
   rw[List.find?_range_eq_none]at hf;have hall:∀m,m<=runEnd mask p.1-p.1->fG o (aE (bare mask) (bH mask p) m).j=false:=λm hm=>by rw[run m hm];have:=hf m (by lia);simpa[fG] using this
   cases K with
   |zero=>obtain⟨q,h1,h2⟩:=hq;have h3:q=p:=h2;have:=hall 0 (by lia);have e:(aE (bare mask) (bH mask p) 0).j=p.1:=rfl;rw[e,<-h3,h1]at this;cases this
   |succ K=>
    obtain⟨q,h1,h2⟩:=hq;have rep:∀(K:Nat)(p:Nat×Nat),Nat.repeat (λx:Nat×Nat=>leap mask x.1 x.2) (K+1) p=Nat.repeat (λx:Nat×Nat=>leap mask x.1 x.2) K (leap mask p.1 p.2):=by
     intro K;induction K with
     |zero=>intro p;rfl
     |succ K ih=>intro p;show leap mask (Nat.repeat (λx:Nat×Nat=>leap mask x.1 x.2) (K+1) p).1 (Nat.repeat (λx:Nat×Nat=>leap mask x.1 x.2) (K+1) p).2=leap mask (Nat.repeat (λx:Nat×Nat=>leap mask x.1 x.2) K (leap mask p.1 p.2)).1 (Nat.repeat (λx:Nat×Nat=>leap mask x.1 x.2) K (leap mask p.1 p.2)).2;rw[ih p]
    obtain⟨j,n,a1,a2,a3,a4⟩:=ih (leap mask p.1 p.2) K (by lia) ⟨q,h1,by rw[h2,rep]⟩;have pl:=lD (t:=bare mask) (p:=p);have pl':aE (bare mask) (bH mask p) (runEnd mask p.1-p.1+1)=bH mask (leap mask p.1 p.2):=pl;refine⟨j,runEnd mask p.1-p.1+1+n,a1,by rw[bI,pl'];exact a2,a3,λm hm=>?_⟩;by_cases hm2:m<=runEnd mask p.1-p.1
    .exact hall m hm2
    .obtain⟨k,rfl⟩:∃k,m=runEnd mask p.1-p.1+1+k:=⟨m-(runEnd mask p.1-p.1+1),by lia⟩
     rw[bI,pl'];exact a4 k (by lia)
theorem lF(mask b:Nat):∀k,bK mask b k=Nat.repeat (λx:Nat×Nat=>leap mask x.1 x.2) k (b %(mask+1),b)
 |0=>rfl
 |k+1=>by show leap mask (bK mask b k).1 (bK mask b k).2=_;rw[lF mask b k];rfl
structure xC(mask:Nat)(o:Array (Option Nat))(hs:List Int)(ps:List Nat):Prop where
 size:o.size=mask+1
 len:ps.length=hs.length
 nd:ps.Nodup
 le:∀j∈ps,j<=mask
 own:∀(j i:Nat),o.getD j none=some i↔ps[i]?=some j
 reach:∀(i:Nat)(h:Int)(j:Nat),hs[i]?=some h->ps[i]?=some j->∃n,(aE (bare mask) ((bare mask).probeStart h) n).j=j/\∀m,m<n->(aE (bare mask) ((bare mask).probeStart h) m).j∈ps
theorem jV{mask:Nat}(O:xC mask o hs ps)(hj:j<=mask):fG o j=true↔j∉ps:=by
 have hlt:j<o.size:=by rw[O.size];lia
 unfold fG;have e1:o.getD j (some 0)=o[j]:=by simp[Array.getD,hlt]
 have e2:o.getD j none=o[j]:=by simp[Array.getD,hlt]
 rw[e1];constructor
 .intro h hm;obtain⟨i,hi,e⟩:=getElem_of_mem hm;have:=(O.own j i).mpr (by rw[qi hi,e]);rw[e2]at this;rw[this]at h;cases h
 .intro hn;cases q:o[j]with
  |none=>rfl
  |some i=>have:=(O.own j i).mp (by rw[e2,q]);exact absurd (qP this) hn
theorem mG(hm:cD t.mask):∀n,(aE t (t.probeStart h) n).j<=t.mask:=by
 have gen:∀n(p:Probe),(p.j+p.more<=t.mask)->(aE t p n).j+(aE t p n).more<=t.mask:=by
  intro n;induction n with
  |zero=>intro p hp;exact hp
  |succ n ih=>
   intro p hp;refine ih (t.advance p) ?_;unfold advance;split
   .show p.j+1+(p.more-1)<=t.mask;lia
   .have hi:(p.i*5+1+p.perturb/32) %(t.mask+1)<=t.mask:=by have:=mod_lt (p.i*5+1+p.perturb/32) (show 0<t.mask+1 by lia);lia
    show(p.i*5+1+p.perturb/32) %(t.mask+1)+(runEnd t.mask ((p.i*5+1+p.perturb/32) %(t.mask+1))-(p.i*5+1+p.perturb/32) %(t.mask+1))<=t.mask;generalize (p.i*5+1+p.perturb/32) %(t.mask+1)=x at hi;unfold runEnd;split<;>lia
 intro n;have:=gen n (t.probeStart h) (by
  unfold probeStart;have hi:bits h %(t.mask+1)<=t.mask:=by have:=mod_lt (bits h) (show 0<t.mask+1 by lia);lia
  show bits h %(t.mask+1)+(runEnd t.mask (bits h %(t.mask+1))-bits h %(t.mask+1))<=t.mask;generalize bits h %(t.mask+1)=x at hi;unfold runEnd;split<;>lia)
 lia
theorem xC.step{mask:Nat}(hmk:cD mask)(O:xC mask o hs ps)(hf:hs.length<mask+1):
  ∃j,layClean.free mask o (turns mask) (bits h %(mask+1)) (bits h)=some j/\xC mask (o.setIfInBounds j (some hs.length)) (hs++[h]) (ps++[j]):=by
 obtain⟨e,he,hne⟩:=vK (mask+1) ps O.nd (λx hx=>by have:=O.le x hx;lia) (by rw[O.len];exact hf);have hs0:(bK mask (bits h) 13).1<=mask:=by have:(bK mask (bits h) 13).1<mask+1:=mod_lt _ (by lia);lia
 obtain⟨k,hk,ek⟩:=GQ hmk hs0 (show e<=mask by lia);obtain⟨j,n,a1,a2,a3,a4⟩:=sY (o:=o) (turns mask) (bits h %(mask+1),bits h) (13+k) (by unfold turns;lia) ⟨bK mask (bits h) (13+k),by rw[jP,ek];exact(jV O (by lia)).mpr hne,lF _ _ _⟩;have hst:bH mask (bits h %(mask+1),bits h)=(bare mask).probeStart h:=rfl;rw[hst]at a2 a4;have hjm:j<=mask:=by rw[<-a2];exact mG (t:=bare mask) hmk n
 have hjn:j∉ps:=(jV O hjm).mp a3;have hlt:j<o.size:=by rw[O.size];lia
 refine⟨j,a1,?_,?_,?_,?_,?_,?_⟩
 .rw[Array.size_setIfInBounds,O.size]
 .rw[qr,qr,O.len];rfl
 .refine qz.mpr ⟨O.nd,by simp,λa ha b hb e=>?_⟩;rw[qw.mp hb]at e;exact hjn (e▸ha)
 .intro x hx;rcases qA.mp hx with z|z
  .exact O.le x z
  .rw[qw.mp z];exact hjm
 .intro x i;have hg:(o.setIfInBounds j (some hs.length)).getD x none=if x=j then some hs.length else o.getD x none:=by
   simp only[Array.getD_eq_getD_getElem?,Array.getElem?_setIfInBounds];by_cases hx:j=x
   .subst hx;simp[hlt]
   .rw[zc hx,zc (Ne.symm hx)]
  rw[hg];by_cases hx:x=j
  .subst hx;rw[za rfl];constructor
   .intro z;have:=qg z;subst this;rw[<-O.len,getElem?_append_right (zd _),sub_self];rfl
   .intro z;by_cases hi:i<ps.length
    .rw[getElem?_append_left hi]at z;exact absurd (qP z) hjn
    .have hil:=(qh.mp z).1;rw[qr,qE]at hil;rw[show i=hs.length by rw[<-O.len];lia]
  .rw[zc hx,O.own x i];by_cases hi:i<ps.length
   .rw[getElem?_append_left hi]
   .rw[qT (by lia)];constructor
    .intro z;cases z
    .intro z;rw[getElem?_append_right (by lia)]at z;have:i-ps.length=0:=by have:=(qh.mp z).1;simp at this;lia
     rw[this]at z;exact absurd (qg z).symm hx
 .intro i g x hg hx;by_cases hi:i<ps.length
  .rw[getElem?_append_left hi]at hx;rw[getElem?_append_left (by rw[<-O.len];exact hi)]at hg;obtain⟨n',b1,b2⟩:=O.reach i g x hg hx;exact⟨n',b1,λm hm=>qk _ (b2 m hm)⟩
  .have hil:=(qh.mp hx).1;rw[qr,qE]at hil;have hie:i=ps.length:=by lia
   subst hie;rw[getElem?_append_right (zd _),sub_self]at hx;rw[getElem?_append_right (by rw[O.len];exact zd _),O.len,sub_self]at hg;have e1:j=x:=qg hx;have e2:h=g:=qg hg;subst e1 e2;refine⟨n,a2,λm hm=>qk _ ?_⟩;have:=a4 m hm;cases q:decide ((aE (bare mask) ((bare mask).probeStart h) m).j∈ps)with
   |true=>exact qX q
   |false=>have h2:=(jV O (mG (t:=bare mask) hmk m)).mpr (of_decide_eq_false q);rw[h2]at this;cases this
theorem nJ{mask:Nat}(hmk:cD mask):∀(hs2 hs1:List Int)(o:Array (Option Nat))(ps:List Nat),xC mask o hs1 ps->(hs1++hs2).length<=mask->
  ∃o' ps',List.foldl (λ(zQ:Option (Array (Option Nat)×Nat))(h:Int)=>do
   let(owner,k)<-zQ
   let j<-layClean.free mask owner (turns mask) (bits h %(mask+1)) (bits h)
   pure (owner.setIfInBounds j (some k),k+1)) (some (o,hs1.length)) hs2=some (o',(hs1++hs2).length)/\xC mask o' (hs1++hs2) ps'
 |[],hs1,o,ps,O,_=>⟨o,ps,by simp,by simpa using O⟩
 |h::hs2,hs1,o,ps,O,hl=>by
  obtain⟨j,e,O'⟩:=O.step (h:=h) hmk (by rw[qr,qv]at hl;lia);obtain⟨o',ps',e',O''⟩:=nJ hmk hs2 (hs1++[h]) _ _ O' (by simpa using hl);refine⟨o',ps',?_,by simpa using O''⟩;rw[foldl_cons];have:(do
   let(owner,k)<-(some (o,hs1.length):Option (Array (Option Nat)×Nat))
   let j<-layClean.free mask owner (turns mask) (bits h %(mask+1)) (bits h)
   pure (owner.setIfInBounds j (some k),k+1))=some (o.setIfInBounds j (some hs1.length),(hs1++[h]).length):=by
   show(do
    let j<-layClean.free mask o (turns mask) (bits h %(mask+1)) (bits h)
    pure (o.setIfInBounds j (some hs1.length),hs1.length+1))=_
   rw[e,qr];rfl
  rw[this];simpa using e'
theorem vT{mask:Nat}(hmk:cD mask)(hl:hs.size<=mask):∃o ps,layClean mask hs=some o/\xC mask o hs.toList ps:=by
 have O0:xC mask (Array.replicate (mask+1) none) [] []:=⟨by simp,rfl,by simp,by simp,λj i=>by simp only[Array.getD_eq_getD_getElem?,Array.getElem?_replicate];by_cases h:j<mask+1<;>simp[h],λi h j hg=>by simp at hg⟩
 obtain⟨o,ps,e,O⟩:=nJ hmk hs.toList [] _ _ O0 (by simpa using hl);refine⟨o,ps,?_,by simpa using O⟩;unfold layClean;rw[<-Array.foldl_toList];have e':=e;simp only[nil_append,qy]at e';show Option.map _ (List.foldl _ (some (Array.replicate (mask+1) none,0)) hs.toList)=some o;rw[e'];rfl
theorem wQ{α β:Type}{f:α->Option β}:∀(l:List α),(∀x∈l,(f x).isSome=true)->∀k:Nat,(l.filterMap f)[k]?=l[k]?.bind f
 |[],_,k=>by simp
 |x::l,h,k=>by
  obtain⟨y,hy⟩:=isSome_iff_exists.mp (h x (by simp));rw[filterMap_cons,hy];cases k with
  |zero=>simp[hy]
  |succ k=>simp only[List.getElem?_cons_succ];exact wQ l (λz hz=>h z (by simp[hz])) k
theorem vU{α:Type}{mask finger moves:Nat}{led plain:Bool}{es:Array (Int×α)}(hmk:cD mask)(hl:es.size<=mask):
  ∃t order,laid mask finger moves led plain (es.map (·.1))=some (t,order)/\(order.filterMap (es[·]?)).toList.Perm es.toList/\lL t ((order.filterMap (es[·]?)).toList.map (·.1))/\t.mask=mask/\t.led=led/\t.plain=plain:=by
 obtain⟨o,ps,e,O⟩:=vT hmk (hs:=es.map (·.1)) (by simpa using hl);have zO:ps.length=es.size:=by rw[O.len];simp
 generalize hlv:((List.range (mask+1)).filterMap λj=>(o.getD j none).map (j,·))=live;have hin:∀x:Nat×Nat,x∈live↔ps[x.2]?=some x.1:=λx=>by
  rw[<-hlv,mem_filterMap];constructor
  .rintro⟨j,hj,hx⟩;obtain⟨i,hi,rfl⟩:=q8.mp hx;exact(O.own j i).mp hi
  .intro h;refine⟨x.1,qM.mpr (by have:=O.le x.1 (qP h);lia),?_⟩;rw[(O.own x.1 x.2).mpr h];rfl
 have hris:(live.map (·.1)).Pairwise (·<·):=by rw[<-hlv,pairwise_map,List.pairwise_filterMap];refine pairwise_lt_range.imp λ{a b} hab x hx y hy=>?_;obtain⟨_,_,rfl⟩:=q8.mp hx;obtain⟨_,_,rfl⟩:=q8.mp hy;exact hab
 have hmem:∀j,j∈live.map (·.1)↔j∈ps:=λj=>by
  rw[qN];constructor
  .rintro⟨x,hx,rfl⟩;exact qP ((hin x).mp hx)
  .intro hj;obtain⟨i,hi,ei⟩:=getElem_of_mem hj;exact⟨(j,i),(hin (j,i)).mpr (by rw[qi hi,ei]),rfl⟩
 have hond:(live.map (·.2)).Nodup:=by rw[List.Nodup,pairwise_map];have h2:live.Pairwise λa b=>a.1<b.1:=pairwise_map.mp hris;refine List.Pairwise.imp_of_mem (λ{a b} ha hb hab e=>?_) h2;have h3:=(hin a).mp ha;have h4:=(hin b).mp hb;rw[e,h4]at h3;have:=qg h3;lia
 have hoin:∀i,i∈live.map (·.2)↔i<es.size:=λi=>by
  rw[qN];constructor
  .rintro⟨x,hx,rfl⟩;have:=(qh.mp ((hin x).mp hx)).1;lia
  .intro hi;exact⟨(ps[i]'(by lia),i),(hin _).mpr (qi (by lia)),rfl⟩
 have hperm:(live.map (·.2)).Perm (List.range es.size):=(List.perm_ext_iff_of_nodup hond nodup_range).mpr λi=>by rw[hoin,qM]
 have hll:live.length=es.size:=by have:=hperm.length_eq;rw[qp,qG]at this;exact this
 refine⟨{mask,place:=(live.map (·.1)).toArray,dummies:=#[],finger,led,moves,plain},(live.map (·.2)).toArray,?_,?_,?_,rfl,rfl,rfl⟩
 .unfold laid;rw[e];show some _=some _;rw[<-hlv]
 .rw[Array.toList_filterMap];have:=hperm.filterMap (es[·]?);rw[filterMap_getElem?_range]at this;exact this
 .have hsome:∀i∈live.map (·.2),(es[i]?).isSome=true:=λi hi=>by rw[getElem?_eq_getElem ((hoin i).mp hi)];rfl
  have hget:∀k:Nat,(((live.map (·.2)).toArray.filterMap (es[·]?)).toList.map (·.1))[k]?=(live[k]?).bind λ(x:Nat×Nat)=>(es.map (·.1)).toList[x.2]?:=λk=>by
   rw[Array.toList_filterMap,qI,wQ _ hsome,qI];cases live[k]? with
   |none=>rfl
   |some x=>simp
  have hris':Rising (live.map (·.1)).toArray:=by rw[ris_list];exact hris
  have hlen2:(((live.map (·.2)).toArray.filterMap (es[·]?)).toList.map (·.1)).length=es.size:=by rw[qp];have:=(hperm.filterMap (es[·]?)).length_eq;rw[filterMap_getElem?_range,qY]at this;rw[Array.toList_filterMap];exact this
  have hpm:∀n p,aE {mask,place:=(live.map (·.1)).toArray,dummies:=#[],finger,led,moves,plain} p n=aE (bare mask) p n:=cM rfl;have hsm:∀b,SetTable.probeStart {mask,place:=(live.map (·.1)).toArray,dummies:=#[],finger,led,moves,plain} b=(bare mask).probeStart b:=cK rfl;refine⟨hris',rfl,hmk,?_,λi hi=>?_,?_,λi hi h hh=>?_⟩
  .rw[hlen2,qt,qp,hll]
  .have:(live.map (·.1)).toArray[i]∈live.map (·.1):=getElem_mem_toList hi;exact O.le _ ((hmem _).mp this)
  .rw[hlen2];exact hl
  .have hi':i<live.length:=by simpa using hi
   rw[hget,qi hi']at hh;obtain⟨n,a,b⟩:=O.reach live[i].2 h live[i].1 hh ((hin live[i]).mp (getElem_mem hi'));refine⟨n,?_,λm hm=>?_⟩
   .rw[hpm,hsm,a];simp
   .rw[jN hris' rfl,hpm,hsm];exact(hmem _).mpr (b m hm)
theorem lL.fits(T:lL t hs)(hn:hs.length=n):t.fits n=true:=by unfold SetTable.fits;rw[T.size,hn,and_eq_true,beq_iff_eq,qW];refine⟨rfl,?_⟩;unfold fill;rw[T.size,T.dum];have:=T.few;simp;lia
theorem lL.odd(T:lL t hs):t.gaveWay=false:=by unfold SetTable.gaveWay;rcases T.mask with h|h|h|h|h|h|h<;>rw[h]<;>rfl
theorem oP(n:Nat):(aE t (t.probeStart h) n).dummy=none:=by
 have gen:∀n(p:Probe),p.dummy=none->(aE t p n).dummy=none:=by
  intro n;induction n with
  |zero=>intro p hp;exact hp
  |succ n ih=>intro p hp;refine ih _ ?_;unfold advance;split<;>exact hp
 exact gen n _ rfl
section
variable{prog:Program}{w:World}{K:Type}[DecidableEq K](knd:HeapKind prog w K)
def gP(xs:List (K×Addr)):List (Int×Value):=xs.map λp=>(knd.hash p.1,Value.ref p.2)
variable{knd}
theorem BK(hcl:∀{k:K}{b:Addr}{Q:Bool->Shared->Prop},knd.is s.heap k b->Q false s->wpAny (model prog w) A (ofAClassStatement 8 (.ref b)) Q E s){stored:List Value}(hk:knd.is s.heap k b)
  (hst:∀v∈stored,∃k' c,v=.ref c/\knd.is s.heap k' c)(h:Q false s):wpAny (model prog w) A (searchCouldBeSeen (.ref b) stored) Q E s:=by
 unfold searchCouldBeSeen;refine qa ?_;refine wpAny_forIn_list _ (λrest r s'=>s'=s/\r=(none,())/\∀v∈rest,∃k' c,v=.ref c/\knd.is s.heap k' c) _ ?_ ?_ _ _ ⟨rfl,rfl,hst⟩
 .rintro x rest r s' ⟨rfl,rfl,hr⟩;obtain⟨k',c,rfl,hc⟩:=hr x qo;have fin:∀v∈rest,∃k' c,v=.ref c/\knd.is s'.heap k' c:=λv hv=>hr v (qm _ hv);dsimp only;split
  .exact qb ⟨rfl,rfl,fin⟩
  .refine qa (knd.quiet hk ?_);simp only[Bool.not_true,false_eq_true,if_false];refine qa (knd.quiet hc ?_);simp only[Bool.not_true,false_eq_true,if_false];refine qa (hcl hk ?_);simp only[false_eq_true,if_false];refine qa (hcl hc ?_);simp only[false_eq_true,if_false];exact qb ⟨rfl,rfl,fin⟩
 .rintro r s' ⟨rfl,rfl,_⟩;exact qb h
theorem mZ(hcl:∀{k:K}{b:Addr}{Q:Bool->Shared->Prop},knd.is s.heap k b->Q false s->wpAny (model prog w) A (ofAClassStatement 8 (.ref b)) Q E s)
  (hu:knd.room A)(hk:knd.is s.heap k b)(ho:s.heap.get? a=some o)(hd:o.data=.set es ep t)(he:es.toList=gP knd xs)(his:∀x∈xs,knd.is s.heap x.1 x.2)(T:lL t (es.toList.map (·.1)))
  (hf:n<10*turns t.mask)(hemp:t.slot (aE t (t.probeStart (knd.hash k)) n).j=.empty)(hne:∀m,m<n->t.slot (aE t (t.probeStart (knd.hash k)) m).j≠.empty)
  (h1:k∈xs.map (·.1)->Q (.there none) s)(h2:k∉xs.map (·.1)->Q (.free (aE t (t.probeStart (knd.hash k)) n).j false) s):
  ∀(r n0:Nat)(stand:Option Probe),n0<=n->n-n0<r->stand.getD (t.probeStart (knd.hash k))=aE t (t.probeStart (knd.hash k)) n0->
   (∀m,m<n0->∀i,t.slot (aE t (t.probeStart (knd.hash k)) m).j=.live i->(xs[i]?).map (·.1)≠some k)->wpAny (model prog w) A (setSearchFrom a (.ref b) (knd.hash k) true r stand) Q E s:=by
 have hsz:t.fits es.size=true:=T.fits (by simp);have zO:es.size=xs.length:=by rw[<-qY,he];simp[gP]
 have hent:∀i:Nat,es[i]?=(xs[i]?).map λp=>(knd.hash p.1,Value.ref p.2):=λi=>by rw[<-q9,he];simp[gP]
 intro r;induction r with
 |zero=>intro n0 stand _ h;lia
 |succ r ih=>
  intro n0 stand hn0 hr hst hsofar;unfold setSearchFrom;refine qa (wpAny_setState_of ho hd hsz ?_);dsimp only;rw[T.odd];simp only[false_eq_true,if_false];have hgo:=vJ (t:=t) (hashAt:=λi=>(es[i]?.map (·.1)).getD 0) (h:=knd.hash k) T.ris T.dum (10*turns t.mask) (n-n0) (aE t (t.probeStart (knd.hash k)) n0) (oP n0)
   (by rw[<-bI,show n0+(n-n0)=n by lia];exact hemp) (λm hm=>by rw[<-bI];exact hne _ (by lia)) (by lia)
  rw[hst];rcases hgo with⟨g1,g2⟩|⟨m,i,g1,g2,g3,g4,g5⟩
  .have e:t.probe (λi=>(es[i]?.map (·.1)).getD 0) (knd.hash k) (aE t (t.probeStart (knd.hash k)) n0)=some (.empty (aE t (t.probeStart (knd.hash k)) n).j none):=by unfold probe;rw[g1,<-bI,show n0+(n-n0)=n by lia]
   have none_hit:k∉xs.map (·.1):=λhmem=>by
    obtain⟨x,hx,hxk⟩:=qN.mp hmem;obtain⟨i,hi,ei⟩:=getElem_of_mem hx;have hip:i<t.place.size:=by rw[T.size];simp;lia
    have hh:(es.toList.map (·.1))[i]?=some (knd.hash k):=by rw[qI,q9,hent,qi hi,ei,<-hxk];rfl
    obtain⟨q,q1,q2⟩:=T.reach i hip _ hh;have hql:t.slot (aE t (t.probeStart (knd.hash k)) q).j=.live i:=by rw[q1];exact kX T.ris hip rfl
    have hqn:q<n:=by
     rcases lt_trichotomy q n with z|z|z
     .exact z
     .subst z;rw[hql]at hemp;cases hemp
     .exact absurd hemp (q2 n z)
    by_cases hq0:q<n0
    .exact hsofar q hq0 i hql (by rw[qi hi,ei,<-hxk];rfl)
    .have:=g2 (q-n0) (by lia) i (by rw[<-bI,show n0+(q-n0)=q by lia];exact hql);apply this;show(es[i]?.map (·.1)).getD 0=knd.hash k;rw[hent,qi hi,ei,<-hxk];rfl
   split
   .rename_i met heq;have h3:t.probe (λi=>(es[i]?.map (·.1)).getD 0) (knd.hash k) (aE t (t.probeStart (knd.hash k)) n0)=some met:=heq;rw[e]at h3;cases h3;exact qb (h2 none_hit)
   .rename_i heq;exact absurd e (heq _)
  .have e:t.probe (λi=>(es[i]?.map (·.1)).getD 0) (knd.hash k) (aE t (t.probeStart (knd.hash k)) n0)=some (.candidate (aE t (t.probeStart (knd.hash k)) (n0+m)).j i (aE t (t.probeStart (knd.hash k)) (n0+m+1))):=by unfold probe;rw[g4,<-bI,<-bI];rfl
   rw[<-bI]at g2;have hip:∃hi:i<t.place.size,t.place[i]=(aE t (t.probeStart (knd.hash k)) (n0+m)).j:=by
    rcases cL T.ris T.dum (aE t (t.probeStart (knd.hash k)) (n0+m)).j with⟨h,_⟩|⟨i',hi',ei',hl'⟩
    .rw[h]at g2;cases g2
    .rw[hl']at g2;cases g2;exact⟨hi',ei'⟩
   obtain⟨hip,_⟩:=hip;have hix:i<xs.length:=by rw[T.size]at hip;simp at hip;lia
   have hei:es[i]?=some (knd.hash xs[i].1,Value.ref xs[i].2):=by rw[hent,qi hix];rfl
   have hxi:=his xs[i] (getElem_mem hix);have body:wpAny (model prog w) A (match es[i]? with
     |some (_,y)=>do
      let equal<-holding [y] (eqBool y (Value.ref b))
      let __x<-setState a
      if(true&&equal)=true then pure (SetFound.there none)
       else
        match __x.2.snd.sameMemory t.moves t.mask with
        |some same=>
         match if same=true then __x.2.snd.slot (aE t (t.probeStart (knd.hash k)) (n0+m)).j else Slot.empty with
         |Slot.live i'=>
          match __x.fst[i']? with
          |some (_,y')=>do
           let __do_lift<-isSame y' y
           let still<-pure (if __do_lift=true then some i' else none)
           match still with
            |none=>do
             rule "set.search.anew"
             setSearchFrom a (Value.ref b) (knd.hash k) true r none
            |some i'=>
             if equal=true then pure (SetFound.there (some i'))
             else setSearchFrom a (Value.ref b) (knd.hash k) true r (some (aE t (t.probeStart (knd.hash k)) (n0+m+1)))
          |none=>do
           let still<-pure none
           match still with
            |none=>do
             rule "set.search.anew"
             setSearchFrom a (Value.ref b) (knd.hash k) true r none
            |some i'=>
             if equal=true then pure (SetFound.there (some i'))
             else setSearchFrom a (Value.ref b) (knd.hash k) true r (some (aE t (t.probeStart (knd.hash k)) (n0+m+1)))
         |x=>do
          let still<-pure none
          match still with
           |none=>do
            rule "set.search.anew"
            setSearchFrom a (Value.ref b) (knd.hash k) true r none
           |some i'=>
            if equal=true then pure (SetFound.there (some i'))
            else setSearchFrom a (Value.ref b) (knd.hash k) true r (some (aE t (t.probeStart (knd.hash k)) (n0+m+1)))
        |x=>unsupported "set.changed-during-lookup:is-the-new-block-at-the-old-address"
     |x=>unsupported "internal:set-entry") Q E s:=by
    rw[hei];dsimp only;refine qa (zk (knd.eqBool hu hxi hk ?_));refine qa (wpAny_setState_of ho hd hsz ?_);dsimp only;by_cases hkk:xs[i].1=k
    .rw[qU hkk];exact qb (h1 (qN.mpr ⟨xs[i],getElem_mem hix,hkk⟩))
    .rw[qV hkk];simp only[Bool.and_false,false_eq_true,if_false];have hsm:t.sameMemory t.moves t.mask=some true:=by unfold sameMemory;simp
     rw[hsm];dsimp only;rw[za rfl,g2];dsimp only;rw[hei];dsimp only;refine qa (wpAny_isSame_ref_self ?_);rw[za rfl];refine qa (qb ?_);dsimp only;refine ih (n0+m+1) _ (by lia) (by lia) rfl λq hq i' hl'=>?_;rcases lt_or_ge q n0 with z|z
     .exact hsofar q z i' hl'
     .rcases lt_or_ge q (n0+m)with z2|z2
      .intro hc;refine g5 (q-n0) (by lia) i' (by rw[<-bI,show n0+(q-n0)=q by lia];exact hl') ?_;show(es[i']?.map (·.1)).getD 0=knd.hash k;rw[hent];cases hx:xs[i']? with
       |none=>rw[hx]at hc;cases hc
       |some x=>rw[hx]at hc;have:x.1=k:=qg hc;rw[<-this];rfl
      .have:q=n0+m:=by lia
       subst this;rw[g2]at hl';cases hl';rw[qi hix];exact λz=>hkk (qg z)
   split
   .rename_i met heq;have h3:t.probe (λi=>(es[i]?.map (·.1)).getD 0) (knd.hash k) (aE t (t.probeStart (knd.hash k)) n0)=some met:=heq;rw[e]at h3;cases h3;dsimp only;split
    .refine qa (BK hcl hk (λv hv=>?_) ?_)
     .obtain⟨p,hp,rfl⟩:=qN.mp hv;have hp2:p∈es.toList:=by have:=mem_toList_iff.mp hp;exact mem_toList_iff.mpr (Array.mem_filter.mp this).1
      rw[he]at hp2;obtain⟨x,hx,rfl⟩:=qN.mp hp2;exact⟨x.1,x.2,rfl,his x hx⟩
     .simp only[false_eq_true,if_false];exact body
    .exact body
   .rename_i heq;exact absurd e (heq _)
def gZ(t:SetTable)(n:Nat):Prop:=n*5<t.mask*3
def TSet(ld:Bool)(knd:HeapKind prog w K)(h:Heap)(a:Addr)(xs:List (K×Addr)):Prop:=∃o es ep t,h.get? a=some o/\o.ExactSet/\o.data=.set es ep t/\t.led=ld/\lL t (es.toList.map (·.1))/\gZ t es.size/\es.toList=gP knd xs/\(∀x∈xs,knd.is h x.1 x.2)/\(xs.map (·.1)).Nodup
theorem sP(T:lL t hs):lL {t with plain:=p} hs:=by have e1:∀n q,aE {t with plain:=p} q n=aE t q n:=cM rfl;have e2:∀b,SetTable.probeStart {t with plain:=p} b=t.probeStart b:=cK rfl;have e3:∀j,SetTable.slot {t with plain:=p} j=t.slot j:=λj=>rfl;refine⟨T.ris,T.dum,T.mask,T.size,T.le,T.few,λi hi h hh=>?_⟩;obtain⟨n,a,b⟩:=T.reach i hi h hh;exact⟨n,by rw[e1,e2,a],λm hm=>by rw[e1,e2,e3];exact b m hm⟩
theorem mX(h:n<=1000):n<=sizeLine:=by rw[zj];lia
theorem fM{h:Heap}(ho:h.get? a=some o)(hd:o.data=.set es ep t):(h.update a (Obj.putSet es' t')).get? a=some {o with data:=.set es' (ep+1) t'}:=by have:=zf (Obj.putSet es' t') ho (by rw[putSet_of es' t' hd];rfl);rw[putSet_of es' t' hd]at this;exact this
theorem uY(ho:s.heap.get? a=some o)(hd:o.data=.set es ep t)(T:lL t (es.toList.map (·.1)))(hn:es.size=n)(hok:cD (sizeAbove wd-1))(hr:n*5<(sizeAbove wd-1)*3)
  (h:∀es' t',es'.toList.Perm es.toList->lL t' (es'.toList.map (·.1))->t'.mask=sizeAbove wd-1->t'.led=t.led->Q () {s with heap:=s.heap.update a (Obj.putSet es' t')}):wpAny (model prog w) A (setRelay a wd) Q E s:=by
 have hm:sizeAbove wd-1<=511:=by rcases hok with z|z|z|z|z|z|z<;>lia
 have hle:es.size<=sizeAbove wd-1:=by lia
 obtain⟨t',order,e1,e2,e3,e4,e5,e6⟩:=vU (finger:=t.finger) (moves:=t.movedTo (sizeAbove wd-1)) (led:=t.led) (plain:=t.plain) hok hle;have hsz:(order.filterMap (es[·]?)).size=es.size:=by rw[<-qY,e2.length_eq,qY]
 unfold setRelay;refine qa (wpAny_setState_of ho hd (T.fits (by simp)) ?_);dsimp only;have hline:¬(sizeAbove wd>sizeLine):=by rw[zj];lia
 rw[zc hline];have e1':t.relaid (es.map (·.1)) wd=some (t',order):=e1;rw[e1'];refine qa ?_;show wpAny (model prog w) A (if((order.filterMap (es[·]?)).size !=es.size)=true then _ else _) _ E s;rw[hsz];simp only[bne_self_eq_false,false_eq_true,if_false];refine qb ?_;dsimp only;exact wpAny_storeSet_of ho hd (h _ t' e2 e3 e4 e5) (mX (by rw[hsz];lia))
theorem Aa(h:cD m):7<=m/\m<=511:=by rcases h with z|z|z|z|z|z|z<;>lia
theorem sZ(h:l.Perm (gP knd xs)):∃ys,ys.Perm xs/\l=gP knd ys:=by
 unfold gP at h;induction l generalizing xs with
 |nil=>
  have:=h.length_eq;have hx:xs=[]:=by simpa using this.symm
  subst hx;exact⟨[],.refl _,rfl⟩
 |cons e l ih=>
  have he:e∈xs.map λp=>(knd.hash p.1,Value.ref p.2):=h.mem_iff.mp (by simp);obtain⟨x,hx,rfl⟩:=qN.mp he;obtain⟨l1,l2,rfl⟩:=append_of_mem hx;have h2:l.Perm ((l1++l2).map λp=>(knd.hash p.1,Value.ref p.2)):=by rw[map_append,qB]at h;have:=h.trans perm_middle;rw[map_append];exact this.cons_inv
  obtain⟨ys,p,rfl⟩:=ih h2;exact⟨x::ys,(List.Perm.cons x p).trans perm_middle.symm,rfl⟩
theorem DU(hcl:∀{k:K}{b:Addr}{Q:Bool->Shared->Prop},knd.is s.heap k b->Q false s->wpAny (model prog w) A (ofAClassStatement 8 (.ref b)) Q E s)(hbv:∀{k:K}{b:Addr}{Q:Bool->Shared->Prop},knd.is s.heap k b->(∀r,Q r s)->wpAny (model prog w) A (hashByValue 8 (.ref b)) Q E s)
  (hkp:∀{h h':Heap}{k:K}{c:Addr}{o:Obj}{es:Array (Int×Value)}{ep:Nat}{t:SetTable},knd.is h k c->h.get? a=some o->o.data=.set es ep t->Heap.SameBut a h h'->knd.is h' k c)
  (hu:knd.room A)(hk:knd.is s.heap k b)(hS:TSet ld knd s.heap a xs)(hroom:xs.length<=150)
  (h1:k∈xs.map (·.1)->Q false s)(h2:k∉xs.map (·.1)->∀h' ys,Heap.SameBut a s.heap h'->ys.Perm ((k,b)::xs)->TSet ld knd h' a ys->Q true {s with heap:=h'}):
  wpAny (model prog w) A (setAddHashed a (.ref b) (knd.hash k)) Q E s:=by
 obtain⟨o,es,ep,t,ho,hex,hd,hld,T,hrm,he,his,hnd⟩:=hS;have hsz:t.fits es.size=true:=T.fits (by simp);have zO:es.size=xs.length:=by rw[<-qY,he];simp[gP]
 obtain⟨n,hf,hemp,hne⟩:=T.free (knd.hash k);have hmk:t.mask<=511:=by rcases T.mask with z|z|z|z|z|z|z<;>lia
 unfold setAddHashed setAddHashedIn;refine zk (qa (wpAny_setState_of ho hd hsz ?_));dsimp only;have hbs:byScan (.ref b) es=false:=by simp[byScan,Value.scannable]
 rw[hbs];simp only[false_eq_true,if_false];refine qa ?_;unfold setSearch;refine mZ hcl hu hk ho hd he his T hf hemp hne (λhm=>?_) (λhm=>?_) 100000 0 none (zero_le _) (by unfold turns at hf;lia) rfl (λm hm=>by lia)
 .exact qb (h1 hm)
 .dsimp only;refine qa (wpAny_setState_of ho hd hsz ?_);dsimp only;have hjm:=mG (t:=t) (h:=knd.hash k) T.mask n;have hfew:(es.toList.map (·.1)).length+1<=t.mask:=by rw[qp,qY];have:=Aa T.mask;unfold gZ at hrm;lia
  have TP:=T.put hemp hne hjm hfew;generalize hj:(aE t (t.probeStart (knd.hash k)) n).j=j at*;obtain⟨e1,e2,e3,e4⟩:=fO (t:=t) (j:=j) T.dum;have epl:(t.put j).1.led=t.led:=by unfold SetTable.put;first|rfl|(split<;>rfl)
  generalize hp:t.put j=tp at*;obtain⟨t1,p⟩:=tp;dsimp only at*
  --the things behind it
  have hel:(insertAt es p (knd.hash k,Value.ref b)).toList=es.toList.take p++(knd.hash k,Value.ref b)::es.toList.drop p:=toList_insertAt ..;have TP':lL t1 ((insertAt es p (knd.hash k,Value.ref b)).toList.map (·.1)):=by rw[hel,map_append,qB,List.map_take,List.map_drop];exact TP
  have hys:(insertAt es p (knd.hash k,Value.ref b)).toList=gP knd (xs.take p++(k,b)::xs.drop p):=by rw[hel,he];unfold gP;rw[map_append,qB,List.map_take,List.map_drop]
  have hyp:(xs.take p++(k,b)::xs.drop p).Perm ((k,b)::xs):=by refine perm_middle.trans ?_;rw[take_append_drop]
  have hsz1:(insertAt es p (knd.hash k,Value.ref b)).size=es.size+1:=by rw[<-qY,hys];have:=hyp.length_eq;simp only[gP,qp];rw[this,qv,zO]
  have all:∀{h':Heap}{ys:List (K×Addr)},Heap.SameBut a s.heap h'->ys.Perm ((k,b)::xs)->(∀x∈ys,knd.is h' x.1 x.2)/\(ys.map (·.1)).Nodup:=λ{h' ys} sb pm=>by
   refine⟨λx hx=>?_,?_⟩
   .rcases qD.mp (pm.mem_iff.mp hx)with rfl|hx
    .exact hkp hk ho hd sb
    .exact hkp (his x hx) ho hd sb
   .exact(pm.map (·.1)).nodup_iff.mpr (qO.mpr ⟨hm,hnd⟩)
  have tail:∀t2:SetTable,lL t2 ((insertAt es p (knd.hash k,Value.ref b)).toList.map (·.1))->t2.mask=t.mask->t2.led=t.led->wpAny (model prog w) A (do
    storeSet a (insertAt es p (knd.hash k,Value.ref b)) t2
    if(!false&&t2.tooFull)=true then do
       setRelay a (grown (es.size+1))
       pure true
     else pure true) Q E s:=λt2 T2 em el=>by
   refine qa (wpAny_storeSet_of ho hd ?_ (mX (by lia)));have ho1:=fM (es':=insertAt es p (knd.hash k,Value.ref b)) (t':=t2) ho hd;have hsb1:=Heap.SameBut.update s.heap a (Obj.putSet (insertAt es p (knd.hash k,Value.ref b)) t2);have hfill:t2.fill=es.size+1:=by unfold fill;rw[T2.size,T2.dum,qp,qY,hsz1];rfl
   by_cases hfull:t2.tooFull=true
   .rw[hfull];simp only[Bool.not_false,Bool.and_self,if_true];have hn5:cD (sizeAbove (grown (es.size+1))-1)/\(es.size+1)*5<(sizeAbove (grown (es.size+1))-1)*3:=by
     unfold tooFull at hfull;rw[hfill,em,qW]at hfull;unfold gZ at hrm;rcases T.mask with z|z|z|z|z|z|z
     .rw[show es.size+1=5 by lia];exact⟨.inr (.inr (.inl (by decide))),by decide⟩
     .rw[show es.size+1=9 by lia];exact⟨.inr (.inr (.inr (.inl (by decide)))),by decide⟩
     .rw[show es.size+1=19 by lia];exact⟨.inr (.inr (.inr (.inr (.inl (by decide))))),by decide⟩
     .rw[show es.size+1=38 by lia];exact⟨.inr (.inr (.inr (.inr (.inr (.inl (by decide)))))),by decide⟩
     .rw[show es.size+1=77 by lia];exact⟨.inr (.inr (.inr (.inr (.inr (.inr (by decide)))))),by decide⟩
     .lia
     .lia
    refine qa (uY (s:={s with heap:=s.heap.update a (Obj.putSet (insertAt es p (knd.hash k,Value.ref b)) t2)}) ho1 rfl T2 hsz1 hn5.1 hn5.2 λes' t' pm T' rm rl=>qb ?_);rw[hys]at pm;obtain⟨ys,pm2,ey⟩:=sZ pm;have sb2:=hsb1.trans (Heap.SameBut.update (s.heap.update a (Obj.putSet (insertAt es p (knd.hash k,Value.ref b)) t2)) a (Obj.putSet es' t'));have hz':es'.size=es.size+1:=by rw[<-qY,ey];have:=(pm2.trans hyp).length_eq;simp only[gP,qp];rw[this,qv,zO]
    obtain⟨i1,i2⟩:=all sb2 (pm2.trans hyp);exact h2 hm _ ys sb2 (pm2.trans hyp) ⟨_,es',_,t',fM ho1 rfl,hex,rfl,rl.trans (el.trans hld),T',by unfold gZ;rw[hz',rm];exact hn5.2,ey,i1,i2⟩
   .rw[Bool.not_eq_true]at hfull;rw[hfull];simp only[Bool.and_false,false_eq_true,if_false];obtain⟨i1,i2⟩:=all hsb1 hyp;refine qb (h2 hm _ _ hsb1 hyp ⟨_,_,_,t2,ho1,hex,rfl,el.trans hld,T2,?_,hys,i1,i2⟩);unfold tooFull at hfull;rw[hfill,em,decide_eq_false_iff_not]at hfull;unfold gZ;rw[em,hsz1];lia
  split
  .refine qa (hbv hk λr=>?_);cases r with
   |true=>exact tail t1 TP' e2 epl
   |false=>exact tail {t1 with plain:=false} (sP TP') e2 epl
  .refine qa (qb ?_);exact tail t1 TP' e2 epl
end
end ST
namespace ST
open PySem
section
variable{prog:Program}{w:World}{K:Type}[DecidableEq K]{knd:KeyKind prog w K}{A:Around}{E:zo}{s:Shared}{ks:List K}{b:Addr}
theorem tD(h:carriedByValue v=true):ofAClassStatement n v=pure false:=by
 cases v with
 |ref a=>simp[carriedByValue]at h
 |_=>first|rfl|simp[ofAClassStatement]|(unfold ofAClassStatement;rfl)
theorem wM(h:carriedByValue v=true):∃r,hashByValue n v=pure r:=by
 cases v with
 |ref a=>simp[carriedByValue]at h
 |float bits t=>exact⟨(Float64.hash? bits).isSome,by rw[hashByValue]⟩
 |none|bool _|int _ _=>exact⟨true,by rw[hashByValue]⟩
 |_=>exact⟨false,by rw[hashByValue]⟩
theorem sO(hk:IsTupleKey knd s.heap ks b)(h:Q false s):wpAny (model prog w) A (ofAClassStatement 8 (.ref b)) Q E s:=by
 have hT:=hk.typeIs;obtain⟨o,items,n,ho,_,hd,hi⟩:=hk;unfold ofAClassStatement;refine qa (wpAny_typeOf hT ?_);dsimp only;rw[za (by rfl)];refine qa (qb ?_);simp only[Bool.not_true,false_eq_true,if_false];refine qa (wpAny_seqItems ho hd ?_);refine qa ?_;show wpAny _ _ (forIn items _ _) _ _ s;rw[<-Array.forIn_toList];refine wpAny_forIn_list _ (λrest r s'=>r.1=none/\s'=s/\∀v∈rest,carriedByValue v=true) _ ?_ ?_ _ _ ⟨rfl,rfl,hi.byValue⟩
 .rintro v rest r s' ⟨hr,rfl,hall⟩;rw[tD (hall v qo)];refine qa (qb ?_);rw[zc (by decide)];exact qb ⟨rfl,rfl,λx hx=>hall x (qm _ hx)⟩
 .rintro r s' ⟨hr,rfl,_⟩;rw[hr];exact qb h
theorem uR(hk:IsTupleKey knd s.heap ks b)(h:∀r,Q r s):wpAny (model prog w) A (hashByValue 8 (.ref b)) Q E s:=by
 have hT:=hk.typeIs;obtain⟨o,items,n,ho,_,hd,hi⟩:=hk;unfold hashByValue;refine qa (wpAny_specialOf hT F.slot_tuple_hash.lookup ?_);dsimp only;refine qa (wpAny_seqItems ho hd ?_);refine qa ?_;show wpAny _ _ (forIn items _ _) _ _ s;rw[<-Array.forIn_toList];refine wpAny_forIn_list _ (λrest r s'=>s'=s/\∀v∈rest,carriedByValue v=true) _ ?_ ?_ _ _ ⟨rfl,hi.byValue⟩
 .rintro v rest r s' ⟨rfl,hall⟩;obtain⟨c,e⟩:=wM (n:=7) (hall v qo);rw[e];refine qa (qb ?_);cases c
  .exact qb (qb (h _))
  .exact qb ⟨rfl,λx hx=>hall x (qm _ hx)⟩
 .rintro r s' ⟨rfl,_⟩;cases r.1<;>exact qb (h _)
theorem sN(x:IsTupleKey knd h ks b)(ho:h.get? a=some o)(hd:o.data=.set es ep t)(hs:Heap.SameBut a h h'):IsTupleKey knd h' ks b:=by
 obtain⟨o',items,n,ho',hc,hd',hi⟩:=x;have hne:b≠a:=by grind
 exact⟨o',items,n,(hs.2 b hne).trans ho',hc,hd',hi⟩
end
theorem pG(hn:n≠0)(h:∀i,i<n->∀d,Q i {s with drawn:=d}):wpAny (model prog w) A (choose .order n) Q E s:=
 λ_ _ _=>⟨hn,h _ (mod_lt _ (Nat.pos_of_ne_zero hn)) _⟩
theorem nN:∀(n:Nat){xs:List α}{s:Shared}{Q:List α->Shared->Prop},xs.length=n->(∀ys d,ys.Perm xs->Q ys {s with drawn:=d})->wpAny (model prog w) A (drawOrder n xs) Q E s
 |0,xs,s,Q,e,h=>by
  cases xs with
  |nil=>exact qb (h [] s.drawn .nil)
  |cons _ _=>cases e
 |n+1,xs,s,Q,e,h=>by
  cases xs with
  |nil=>cases e
  |cons x xs=>unfold drawOrder;refine qa (pG (by simp) λi hi d=>?_);rw[qi hi];refine qa (nN n (by rw[List.length_eraseIdx,za hi,e];rfl) λys d' hp=>?_);refine qb (h _ d' ((hp.cons _).trans ?_));rw[List.eraseIdx_eq_take_drop_succ];refine perm_middle.symm.trans ?_;rw[List.getElem_cons_drop,take_append_drop]
theorem eJ(h:Q (w.params.followText "set-order") s):wpAny (model prog w) A setsByText Q E s:=qa (wpAny_askSetting (qb h))
theorem slot_next:Slot "set_iterator" "__next__" "set_iterator.__next__":=
 .of (owner:="set_iterator") (n:="__next__") (by rw[typeLookup_type,builtinLookup_eq_fast];kernel_rfl) (by decide+kernel) (by decide+kernel) (by decide+kernel)
  (by first|exact .inl (by decide+kernel)|exact .inr (by decide+kernel)) (by rw[isSubtype_type];kernel_rfl)
theorem eI:entryFor table "set_iterator.__next__"=some Builtin.«set_iterator.__next__»:=entryFor_of_tree (by kernel_rfl)
theorem fR(a:Value):argsOk "set_iterator.__next__" ⟨[a],[]⟩:=by unfold argsOk;kernel_rfl
theorem kW:Slot "set_iterator" "__iter__" "set_iterator.__iter__":=
 .of (owner:="set_iterator") (n:="__iter__") (by rw[typeLookup_type,builtinLookup_eq_fast];kernel_rfl) (by decide+kernel) (by decide+kernel) (by decide+kernel)
  (by first|exact .inl (by decide+kernel)|exact .inr (by decide+kernel)) (by rw[isSubtype_type];kernel_rfl)
theorem pD:entryFor table "set_iterator.__iter__"=some Builtin.«dict_keyiterator.__iter__»:=
 entryFor_alias (id':="dict_keyiterator.__iter__") (by kernel_rfl) rfl (by decide+kernel) (by kernel_rfl)
theorem tG(a:Value):argsOk "set_iterator.__iter__" ⟨[a],[]⟩:=by unfold argsOk;kernel_rfl
def tT(h:Heap)(I a:Addr)(f:Value)(i n ep:Nat):Prop:=∃o,h.get? I=some o/\o.cls=.type "set_iterator"/\o.data=.fields #[f,.int i 0,.ref a,.int n 0,.int ep 0]
def SetAt(h:Heap)(a:Addr)(es:Array (Int×Value))(ep:Nat)(t:SetTable):Prop:=∃o,h.get? a=some o/\o.data=.set es ep t/\t.fits es.size=true
def TupAt(h:Heap)(p:Addr)(ys:List Nat):Prop:=∃o c,h.get? p=some o/\o.data=.seq (ys.map λi:Nat=>rawInt (i:Int)).toArray c
theorem tT.typeIs{s:Shared}(x:tT s.heap I a f i n ep):s.TypeIs (.ref I) "set_iterator":=let⟨o,ho,hc,_⟩:=x;⟨o,ho,hc⟩
theorem oS(hit:tT s.heap I a (.ref p) i es.size ep)(hs:SetAt s.heap a es ep t)(ht:TupAt s.heap p ys)(hj:ys[i]?=some j)(he:es[j]?=some e)
  (hQ:∀h',tT h' I a (.ref p) (i+1) es.size ep->Heap.SameBut I s.heap h'->Q (some e.2) {s with heap:=h'}):wpAny (model prog w) A (pyNext (.ref I)) Q E s:=by
 obtain⟨o,ho,hc,hd⟩:=id hit;obtain⟨o',ho',hd',hf⟩:=hs;obtain⟨o'',c,ho'',hd''⟩:=ht;unfold pyNext;refine qa (wpAny_attempt (wpAny_callSpecial?_slot (name:=Str.ofString "__next__") hit.typeIs slot_next
  (zi slot_next hit.typeIs eI ?_ (fR _))))
 show wpAny _ _ (fieldsOf (.ref I)>>=_) _ _ s;refine qa (wpAny_fieldsOf ho hd ?_);dsimp only;refine qa (qa (wpAny_setState_of ho' hd' hf (qb ?_)));rw[zc (by simp)];refine qa (wpAny_seqItems ho'' hd'' ?_);dsimp only;rw[qZ,List.getElem?_toArray,qI,hj];dsimp only[map_some,rawInt];refine qa (qa (wpAny_setState_of ho' hd' hf ?_));dsimp only;rw[zc (by simp),qZ,he];refine qb (qa (wpAny_setField ho hd (by simp) (qb ⟨_,rfl,qb (hQ _ ?_ (Heap.SameBut.update ..))⟩)));exact⟨_,zf _ ho (Obj.isFreed_of_fields (Obj.data_mapFields hd _)),(Obj.cls_mapFields ..).trans hc,by rw[Obj.data_mapFields hd];simp[rawInt]⟩
theorem tB(hh:A.handled=none)(hit:tT s.heap I a (.ref p) i es.size ep)(hs:SetAt s.heap a es ep t)(ht:TupAt s.heap p ys)(hj:ys[i]?=none)
  (hQ:∀h',Heap.ExtBut I s.heap h'->Q none {s with heap:=h'}):wpAny (model prog w) A (pyNext (.ref I)) Q E s:=by
 obtain⟨o,ho,hc,hd⟩:=id hit;obtain⟨o',ho',hd',hf⟩:=hs;obtain⟨o'',c,ho'',hd''⟩:=ht;unfold pyNext;refine qa (wpAny_attempt (wpAny_callSpecial?_slot (name:=Str.ofString "__next__") hit.typeIs slot_next
  (zi slot_next hit.typeIs eI ?_ (fR _))))
 show wpAny _ _ (fieldsOf (.ref I)>>=_) _ _ s;refine qa (wpAny_fieldsOf ho hd ?_);dsimp only;refine qa (qa (wpAny_setState_of ho' hd' hf (qb ?_)));rw[zc (by simp)];refine qa (wpAny_seqItems ho'' hd'' ?_);dsimp only;rw[qZ,List.getElem?_toArray,qI,hj];dsimp only[Option.map_none];refine qa (wpAny_setField ho hd (by simp) ?_);refine qa (wpAny_setField (zf _ ho (Obj.isFreed_of_fields (Obj.data_mapFields hd _))) (Obj.data_mapFields hd _) (by simp) ?_);refine qa ?_;simp only[newExc,newTuple];refine qa (zh ?_ (by size_fits));refine qa (m:=firstArgMember _ _) (zl (a:=Value.none) (by first|rfl|(simp only[firstArgMember];rfl)) ?_);refine zh ?_ (by size_fits);simp only[raiseNew];refine qa (wpAny_handled ?_);rw[show A.in1.handled=none from hh];refine qa (qb (wpAny_throw ?_));refine qa (wpAny_isInstance (T:="StopIteration") (b:=true) ⟨_,qd _ rfl,rfl⟩ isSubtype_stop ?_);exact qb (hQ _ ((((Heap.SameBut.update ..).trans (Heap.SameBut.update ..)).extBut.push _).push _))
theorem nF{slot slot':Nat}(hit:tT s.heap I a (.int slot 0) i es.size ep)(hs:SetAt s.heap a es ep t)
  (hn:∀(A:Around)(E:zo)(R:Option (Value×Nat)->Shared->Prop),R (some (v,slot')) s->wpAny (model prog w) A (setNext a slot i ep) R E s)
  (hQ:∀h',tT h' I a (.int slot' 0) (i+1) es.size ep->Heap.SameBut I s.heap h'->Q (some v) {s with heap:=h'}):wpAny (model prog w) A (pyNext (.ref I)) Q E s:=by
 obtain⟨o,ho,hc,hd⟩:=id hit;obtain⟨o',ho',hd',hf⟩:=hs;unfold pyNext;refine qa (wpAny_attempt (wpAny_callSpecial?_slot (name:=Str.ofString "__next__") hit.typeIs slot_next
  (zi slot_next hit.typeIs eI ?_ (fR _))))
 show wpAny _ _ (fieldsOf (.ref I)>>=_) _ _ s;refine qa (wpAny_fieldsOf ho hd ?_);dsimp only;refine qa (qa (wpAny_setState_of ho' hd' hf (qb ?_)));rw[zc (by simp)];rw[qZ,qZ,qZ];refine qa (hn _ _ _ ?_);dsimp only;refine qa (wpAny_setField ho hd (by simp) ?_);refine qa (wpAny_setField (zf _ ho (Obj.isFreed_of_fields (Obj.data_mapFields hd _))) (Obj.data_mapFields hd _) (by simp) ?_);refine qb ⟨_,rfl,qb (hQ _ ?_ ((Heap.SameBut.update ..).trans (Heap.SameBut.update ..)))⟩;exact⟨_,zf _ (zf _ ho (Obj.isFreed_of_fields (Obj.data_mapFields hd _))) (Obj.isFreed_of_fields (Obj.data_mapFields (Obj.data_mapFields hd _) _)),(Obj.cls_mapFields ..).trans ((Obj.cls_mapFields ..).trans hc),by rw[Obj.data_mapFields (Obj.data_mapFields hd _)];simp[rawInt]⟩
theorem sG{slot:Nat}(hh:A.handled=none)(hit:tT s.heap I a (.int slot 0) i es.size ep)(hs:SetAt s.heap a es ep t)
  (hn:∀(A:Around)(E:zo)(R:Option (Value×Nat)->Shared->Prop),R none s->wpAny (model prog w) A (setNext a slot i ep) R E s)
  (hQ:∀h',Heap.ExtBut I s.heap h'->Q none {s with heap:=h'}):wpAny (model prog w) A (pyNext (.ref I)) Q E s:=by
 obtain⟨o,ho,hc,hd⟩:=id hit;obtain⟨o',ho',hd',hf⟩:=hs;unfold pyNext;refine qa (wpAny_attempt (wpAny_callSpecial?_slot (name:=Str.ofString "__next__") hit.typeIs slot_next
  (zi slot_next hit.typeIs eI ?_ (fR _))))
 show wpAny _ _ (fieldsOf (.ref I)>>=_) _ _ s;refine qa (wpAny_fieldsOf ho hd ?_);dsimp only;refine qa (qa (wpAny_setState_of ho' hd' hf (qb ?_)));rw[zc (by simp)];rw[qZ,qZ,qZ];refine qa (hn _ _ _ ?_);dsimp only;refine qa (wpAny_setField ho hd (by simp) ?_);refine qa ?_;simp only[newExc,newTuple];refine qa (zh ?_ (by size_fits));refine qa (m:=firstArgMember _ _) (zl (a:=Value.none) (by first|rfl|(simp only[firstArgMember];rfl)) ?_);refine zh ?_ (by size_fits);simp only[raiseNew];refine qa (wpAny_handled ?_);rw[show A.in1.handled=none from hh];refine qa (qb (wpAny_throw ?_));refine qa (wpAny_isInstance (T:="StopIteration") (b:=true) ⟨_,qd _ rfl,rfl⟩ isSubtype_stop ?_);exact qb (hQ _ (((Heap.SameBut.update ..).extBut.push _).push _))
theorem jB(hit:tT s.heap I a f i n ep)(h:Q (.ref I) s):wpAny (model prog w) A (pyIter (.ref I)) Q E s:=by refine wpAny_pyIter_slot hit.typeIs kW (zi kW hit.typeIs pD ?_ (tG _));show wpAny _ _ (ret (.ref I)) _ _ s;exact qb ⟨_,rfl,"set_iterator",_,hit.typeIs,slot_next.lookup,h⟩
end ST
namespace ST
open PySem PySem.SetTable
section
variable{prog:Program}{w:World}{A:Around}{E:zo}{s:Shared}{I a p:Addr}{es:Array (Int×Value)}{ep i slot:Nat}{t:SetTable}{ys:List Nat}
theorem fX(hs:SetAt s.heap a es ep t)(hb:w.params.followText "set-order"=false)(hnd:¬(!t.plain&&decide (es.size>1))=true)(hl:t.led=true)
  (h:R (match es[below t.place slot]?,t.place[below t.place slot]? with|some (_,x),some j=>some (x,j+1)|_,_=>none) s):wpAny (model prog w) A (setNext a slot i ep) R E s:=by
 obtain⟨o',ho',hd',hf⟩:=hs;unfold setNext;refine qa (wpAny_setState_of ho' hd' hf ?_);dsimp only;refine qa (eJ ?_);rw[hb,zc (by decide)];split
 .rename_i hc;exact absurd hc hnd
 .refine qa ?_;show wpAny _ _ (if(!t.led&& !es.isEmpty)=true then _ else _) _ _ _;rw[hl,zc (by simp)];refine qb ?_;exact qb h
theorem gL(hs:SetAt s.heap a es ep t)(hb:w.params.followText "set-order"=true)
  (h:R (((pickOrder (w.params.setOrder a ep) es)[i]?).map λe=>(e.2,slot)) s):wpAny (model prog w) A (setNext a slot i ep) R E s:=by
 obtain⟨o',ho',hd',hf⟩:=hs;unfold setNext;refine qa (wpAny_setState_of ho' hd' hf ?_);dsimp only;refine qa (eJ ?_);rw[hb,za rfl,zc (by simp)];refine qa ?_;unfold setWalk;refine qa (wpAny_setState_of ho' hd' hf ?_);dsimp only;refine qa (eJ ?_);rw[hb,za rfl];refine qa (wpAny_askSetting ?_);exact qb (qb h)
theorem pH(hr:Rising xs):below xs 0=0:=by
 obtain⟨h1,h2,h3⟩:=dA (j:=0) hr;rcases Nat.eq_zero_or_pos (below xs 0)with z|z
 .exact z
 .exact absurd (h2 0 (by lia) z) (Nat.not_lt_zero _)
theorem pI(hr:Rising xs)(hi:i<xs.size):below xs (xs[i]+1)=i+1:=by
 obtain⟨h1,h2,h3⟩:=dA (j:=xs[i]+1) hr;have a:i<below xs (xs[i]+1):=Nat.lt_of_not_le λz=>absurd (h3 i hi z) (by lia);rcases lt_or_ge (i+1) (below xs (xs[i]+1))with z|z
 .have b:=h2 (i+1) (by lia) z;have c:=hr i (i+1) hi (by lia) (by lia);lia
 .lia
end
theorem rP(f:Nat->Nat):∀(n k:Nat)(left:List α)(out:Array α),left.length=n->((pickOrder.go f n k left out).toList).Perm (out.toList++left)
 |0,k,left,out,e=>by
  cases left with
  |nil=>unfold pickOrder.go;simp
  |cons _ _=>cases e
 |n+1,k,left,out,e=>by have hi:f k %left.length<left.length:=mod_lt _ (by lia);unfold pickOrder.go;rw[qi hi];refine(rP f n (k+1) _ _ (by rw[List.length_eraseIdx,za hi,e];rfl)).trans ?_;rw[toList_push,qq];refine List.Perm.append_left _ ?_;show(left[f k %left.length]::left.eraseIdx (f k %left.length)).Perm left;rw[List.eraseIdx_eq_take_drop_succ];refine perm_middle.symm.trans ?_;rw[List.getElem_cons_drop,take_append_drop]
theorem gX(f:Nat->Nat)(xs:Array α):((pickOrder f xs).toList).Perm xs.toList:=by have:=rP f xs.size 0 xs.toList #[] (by simp);first|rfl|assumption|(simp_all;done)
theorem SetAt.same(x:SetAt h a es ep t)(hs:Heap.SameBut I h h')(hne:a≠I):SetAt h' a es ep t:=let⟨o,ho,r⟩:=x;⟨o,(hs.2 a hne).trans ho,r⟩
theorem TupAt.same(x:TupAt h p ys)(hs:Heap.SameBut I h h')(hne:p≠I):TupAt h' p ys:=let⟨o,c,ho,r⟩:=x;⟨o,c,(hs.2 p hne).trans ho,r⟩
def kH(ord:List (Int×Value))(i:Nat)(v:Value):Prop:=∃e,ord[i]?=some e/\v=e.2
theorem mU(hh:A.handled=none){ord:List (Int×Value)}(ho:ord.length=es.size)(hy:ys.length=es.size)(hor:∀(i j:Nat),ys[i]?=some j->es[j]?=ord[i]?/\j<es.size)(ha:a≠I)(hp:p≠I):
  Walks prog w A I [I,a,p] [I] es.size (kH ord) (λi h=>tT h I a (.ref p) i es.size ep/\SetAt h a es ep t/\TupAt h p ys) where
 sub:=λb hb=>by rw[qw.mp hb];simp
 frame:=λi h h' st hk=>by obtain⟨⟨o,h1,h2⟩,⟨o',h3,h4⟩,⟨o'',c,h5,h6⟩⟩:=st;exact⟨⟨o,hk I (by simp) o h1,h2⟩,⟨o',hk a (by simp) o' h3,h4⟩,⟨o'',c,hk p (by simp) o'' h5,h6⟩⟩
 item:=λi s Q E hi st hQ=>by have hj:ys[i]?=some (ys[i]'(by lia)):=qi (by lia);obtain⟨he,hlt⟩:=hor i _ hj;have hoi:ord[i]?=some (ord[i]'(by lia)):=qi (by lia);refine oS st.1 st.2.1 st.2.2 hj (he.trans hoi) λh' hit' hs'=>?_;exact hQ _ h' s.toks ⟨_,hoi,rfl⟩ ⟨hit',st.2.1.same hs' ha,st.2.2.same hs' hp⟩ λb o hb e=>hs'.extBut b o (λz=>hb (by simp[z])) e
 done:=λs Q E st hQ=>tB hh st.1 st.2.1 st.2.2 (qT (by lia)) λh' he'=>hQ h' s.toks λb o hb e=>he' b o (λz=>hb (by simp[z])) e
 self:=λ_ _ _ _ st hQ=>jB st.1 hQ
theorem oD(hh:A.handled=none)(hb:w.params.followText "set-order"=true)(ha:a≠I):
  Walks prog w A I [I,a] [I] es.size (kH (pickOrder (w.params.setOrder a ep) es).toList) (λi h=>tT h I a (.int ((0:Nat):Int) 0) i es.size ep/\SetAt h a es ep t) where
 sub:=λb hb=>by rw[qw.mp hb];simp
 frame:=λi h h' st hk=>by obtain⟨⟨o,h1,h2⟩,⟨o',h3,h4⟩⟩:=st;exact⟨⟨o,hk I (by simp) o h1,h2⟩,⟨o',hk a (by simp) o' h3,h4⟩⟩
 item:=λi s Q E hi st hQ=>by have hl:=(gX (w.params.setOrder a ep) es).length_eq;rw[qY,qY]at hl;have hoi:(pickOrder (w.params.setOrder a ep) es)[i]?=some ((pickOrder (w.params.setOrder a ep) es)[i]'(by lia)):=getElem?_eq_getElem (by lia);refine nF (slot':=0) st.1 st.2 (λA E R hR=>gL st.2 hb (by rw[hoi];exact hR)) λh' hit' hs'=>?_;exact hQ _ h' s.toks ⟨_,by rw[q9];exact hoi,rfl⟩ ⟨hit',st.2.same hs' ha⟩ λb o hb e=>hs'.extBut b o (λz=>hb (by simp[z])) e
 done:=λs Q E st hQ=>by have hl:=(gX (w.params.setOrder a ep) es).length_eq;rw[qY,qY]at hl;exact sG hh st.1 st.2 (λA E R hR=>gL st.2 hb (by rw[Array.getElem?_eq_none (by lia)];exact hR)) λh' he'=>hQ h' s.toks λb o hb e=>he' b o (λz=>hb (by simp[z])) e
 self:=λ_ _ _ _ st hQ=>jB st.1 hQ
theorem mT(hh:A.handled=none)(hb:w.params.followText "set-order"=false)(hnd:¬(!t.plain&&decide (es.size>1))=true)(hl:t.led=true)(hr:Rising t.place)(hz:t.place.size=es.size)(ha:a≠I):
  Walks prog w A I [I,a] [I] es.size (kH es.toList) (λi h=>∃slot:Nat,tT h I a (.int slot 0) i es.size ep/\below t.place slot=i/\SetAt h a es ep t) where
 sub:=λb hb=>by rw[qw.mp hb];simp
 frame:=λi h h' st hk=>by obtain⟨sl,⟨o,h1,h2⟩,hbl,⟨o',h3,h4⟩⟩:=st;exact⟨sl,⟨o,hk I (by simp) o h1,h2⟩,hbl,⟨o',hk a (by simp) o' h3,h4⟩⟩
 item:=λi s Q E hi st hQ=>by
  obtain⟨sl,hit,hbl,hs⟩:=st;have hi':i<t.place.size:=by lia
  refine nF (slot':=t.place[i]+1) (v:=es[i].2) hit hs (λA E R hR=>fX hs hb hnd hl (by rw[hbl,getElem?_eq_getElem hi,getElem?_eq_getElem hi'];exact hR)) λh' hit' hs'=>?_;exact hQ _ h' s.toks ⟨es[i],by rw[q9];exact getElem?_eq_getElem hi,rfl⟩ ⟨_,hit',pI hr hi',hs.same hs' ha⟩ λb o hb e=>hs'.extBut b o (λz=>hb (by simp[z])) e
 done:=λs Q E st hQ=>by obtain⟨sl,hit,hbl,hs⟩:=st;exact sG hh hit hs (λA E R hR=>fX hs hb hnd hl (by rw[hbl,Array.getElem?_eq_none (zd _)];exact hR)) λh' he'=>hQ h' s.toks λb o hb e=>he' b o (λz=>hb (by simp[z])) e
 self:=λ_ _ _ _ st hQ=>by obtain⟨sl,hit,_⟩:=st;exact jB hit hQ
theorem pE:entryFor table "set.__iter__"=some Builtin.«frozenset.__iter__»:=
 entryFor_alias (id':="frozenset.__iter__") (by kernel_rfl) rfl (by decide+kernel) (by kernel_rfl)
theorem lt_of_get{h:Heap}(e:h.get? b=some o):b<h.objs.size:=Nat.lt_of_not_le λz=>by
 have:h.get? b=none:=by unfold Heap.get?;rw[Array.getElem?_eq_none z]
 rw[this]at e;cases e
def nC(es:Array (Int×Value))(j:Nat):Int×Value:=(es[j]?).getD (0,.none)
theorem sT(es:Array (Int×Value)):(List.range es.size).map (nC es)=es.toList:=by refine List.ext_getElem (by simp) λi h1 h2=>?_;simp only[qp,qG]at h1;rw[List.getElem_map,List.getElem_range];unfold nC;rw[getElem?_eq_getElem h1];rfl
theorem wI(hT:s.TypeIs (.ref a) "set")(hs:SetAt s.heap a es ep t)(hr:Rising t.place)(hz:t.place.size=es.size)(hled:w.params.followText "set-order"=false->t.led=true)(hn:es.size<=300)
  (hQ:∀(I:Addr)(h':Heap)(d:Drawn)(ord:List (Int×Value))(fp:List Addr)(St:Nat->Heap->Prop),ord.Perm es.toList->(∀A':Around,A'.handled=none->Walks prog w A' I fp [I] es.size (kH ord) St)->St 0 h'->I∈fp->
   (∀b∈fp,(b=a\/s.heap.objs.size<=b)/\b<h'.objs.size)->(∀b o,s.heap.get? b=some o->h'.get? b=some o)->s.heap.objs.size<=I->Q (.ref I) {s with heap:=h',drawn:=d}):wpAny (model prog w) A (pyIter (.ref a)) Q E s:=by
 obtain⟨o',ho',hd',hf⟩:=id hs;have halt:=lt_of_get ho';refine wpAny_pyIter_slot hT F.slot_set_iter (zi F.slot_set_iter hT pE ?_ (F.args_set_iter_1 _));unfold Builtin.«frozenset.__iter__» Builtin.Frozenset.slot0 slotArgs;simp only[isEmpty_nil,Bool.not_true,false_eq_true,↓reduceIte,bind_assoc,qy,bne_self_eq_false];unfold Builtin.Frozenset.addrOf Builtin.Frozenset.sizeOf;refine qa (qb ?_);try dsimp only
 refine qa (qb ?_);refine qa (qa (wpAny_setEntries_of ho' hd' hf (qb ?_)));unfold setDrawn;refine qa (qa (wpAny_setState_of ho' hd' hf ?_));dsimp only;refine qa (eJ (qb ?_));have hk:∀(h:Heap)(o:Obj)(b:Addr)(o2:Obj),h.get? b=some o2->(h.push o).get? b=some o2:=λh o b o2 e=>qc _ e;show wpAny _ _ (if(!w.params.followText "set-order"&&(!t.plain&&decide (es.size>1)))=true then _ else _) _ _ _;by_cases hc:(!w.params.followText "set-order"&&(!t.plain&&decide (es.size>1)))=true
 .rw[za hc];refine qa (nN es.size (by simp) λys d hp=>?_);have hyl:ys.length=es.size:=by rw[hp.length_eq];simp
  have hylt:∀j∈ys,j<es.size:=λj hj=>qM.mp (hp.mem_iff.mp hj);refine qa (wpAny_newTuple ?_ (by rw[qp,hyl];exact le_trans hn (by decide)));unfold setEpoch;refine qa (qa (wpAny_setState_of (hk _ _ _ _ ho') hd' hf (qb ?_)));refine qa (zh (qb ⟨_,rfl,"set_iterator",_,⟨_,qd _ rfl,rfl⟩,slot_next.lookup,?_⟩) (by size_fits));have g1:∀j,j<es.size->es[j]?=some (nC es j):=λj hj=>by unfold nC;rw[getElem?_eq_getElem hj];rfl
  have hpo:(s.heap.push {cls:=.type "tuple",data:=.seq (ys.map λi:Nat=>rawInt (i:Int)).toArray}).get? s.heap.objs.size=some {cls:=.type "tuple",data:=.seq (ys.map λi:Nat=>rawInt (i:Int)).toArray}:=qd _ rfl;refine hQ _ _ d (ys.map (nC es)) [_,a,s.heap.objs.size] _ ((hp.map _).trans (by rw[sT])) (λA' hA=>mU (ep:=ep) (t:=t) (ys:=ys) hA (by rw[qp,hyl]) hyl (λi j hj=>⟨?_,hylt j (qP hj)⟩) ?_ ?_) ⟨⟨_,qd _ rfl,rfl,rfl⟩,⟨_,hk _ _ _ _ (hk _ _ _ _ ho'),hd',hf⟩,⟨_,_,hk _ _ _ _ hpo,rfl⟩⟩ (by simp) (λb hb=>?_) (λb o e=>hk _ _ _ _ (hk _ _ _ _ e)) ?_
  .rw[qI,hj];exact g1 j (hylt j (qP hj))
  .rw[Heap.size_push];exact ne_of_lt (lt_succ_of_lt halt)
  .rw[Heap.size_push];exact ne_of_lt (lt_succ_self _)
  .rw[Heap.size_push,Heap.size_push];rw[Heap.size_push]at hb;rcases qD.mp hb with rfl|hb
   .exact⟨.inr (le_succ _),lt_succ_self _⟩
   .rcases qD.mp hb with rfl|hb
    .exact⟨.inl rfl,lt_succ_of_lt (lt_succ_of_lt halt)⟩
    .rw[qw.mp hb];exact⟨.inr (zd _),lt_succ_of_lt (lt_succ_self _)⟩
  .rw[Heap.size_push];exact le_succ _
 .rw[zc hc];refine qa (qb ?_);unfold setEpoch;refine qa (qa (wpAny_setState_of ho' hd' hf (qb ?_)));refine qa (zh (qb ⟨_,rfl,"set_iterator",_,⟨_,qd _ rfl,rfl⟩,slot_next.lookup,?_⟩) (by size_fits));have hne:a≠s.heap.objs.size:=ne_of_lt halt;have hfp:∀(o:Obj),∀b∈[s.heap.objs.size,a],(b=a\/s.heap.objs.size<=b)/\b<(s.heap.push o).objs.size:=λo b hb=>by
   rw[Heap.size_push];rcases qD.mp hb with rfl|hb
   .exact⟨.inr (zd _),lt_succ_self _⟩
   .rw[qw.mp hb];exact⟨.inl rfl,lt_succ_of_lt halt⟩
  by_cases hb:w.params.followText "set-order"=true
  .exact hQ _ _ s.drawn _ [_,a] _ (gX (w.params.setOrder a ep) es) (λA' hA=>oD (ep:=ep) (t:=t) hA hb hne) ⟨⟨_,qd _ rfl,rfl,rfl⟩,⟨_,hk _ _ _ _ ho',hd',hf⟩⟩ (by simp) (hfp _) (λb o e=>hk _ _ _ _ e) (zd _)
  .have hb':w.params.followText "set-order"=false:=by simpa using hb
   exact hQ _ _ s.drawn _ [_,a] _ (.refl _) (λA' hA=>mT (ep:=ep) (t:=t) hA hb' (λz=>hc (by rw[hb',z];rfl)) (hled hb') hr hz hne) ⟨0,⟨_,qd _ rfl,rfl,rfl⟩,pH hr,⟨_,hk _ _ _ _ ho',hd',hf⟩⟩ (by simp) (hfp _) (λb o e=>hk _ _ _ _ e) (zd _)
theorem sV(hn:ord.length=n)(h:ItemsOf (kH ord) zQ n):zQ.toList=ord.map (·.2):=by
 refine ext_getElem? λi=>?_;rw[q9,qI];rcases lt_or_ge i n with hi|hi
 .have h1:zQ[i]?=some (zQ[i]'(by rw[h.1];exact hi)):=getElem?_eq_getElem _;obtain⟨e,he,hv⟩:=h.2 i _ h1;rw[h1,he,hv];rfl
 .rw[Array.getElem?_eq_none (by rw[h.1];exact hi),qT (by rw[hn];exact hi)];rfl
theorem nP(hh:A.handled=none)(hT:s.TypeIs (.ref a) "set")(hs:SetAt s.heap a es ep t)(hr:Rising t.place)(hz:t.place.size=es.size)(hled:w.params.followText "set-order"=false->t.led=true)(hn:es.size<=300)
  (hQ:∀(s':Shared)(ord:List (Int×Value)),ord.Perm es.toList->(∀b o,s.heap.get? b=some o->s'.heap.get? b=some o)->s'.gens=s.gens->s'.os=s.os->s.toks<=s'.toks->Q (ord.map (·.2)) s'):wpAny (model prog w) A (collect (.ref a)) Q E s:=by
 obtain⟨o',ho',hd',hf⟩:=id hs;have halt:=lt_of_get ho';unfold collect;refine qa (wpAny_runValue (codeAny_builtin F.entry_proto_collect ?_));rw[Around.under_plainId F.plain_proto_collect _];show wpAny _ A.in1 (newList []>>=λl=>again (.builtin "list.__iadd__" ⟨[l,.ref a],[]⟩)) _ _ s;refine qa (zh ?_);refine qb ⟨plainId_quiet F.plain_list_iadd _,codeAny_builtin F.entry_list_iadd ?_⟩;rw[Around.under_plainId F.plain_list_iadd _];have hS₁:(s.heap.push {cls:=.type "list",data:=.seq ([]:List Value).toArray}).get? s.heap.objs.size=some {cls:=.type "list",data:=.seq ([]:List Value).toArray}:=qd _ rfl;have h1:Builtin.List.listSameRef (.ref s.heap.objs.size) (.ref a)=false:=by simp[Builtin.List.listSameRef];exact(ne_of_gt halt)
 have hs1:SetAt (s.heap.push {cls:=.type "list",data:=.seq ([]:List Value).toArray}) a es ep t:=⟨o',qc _ ho',hd',hf⟩
 have hT1:Shared.TypeIs {s with heap:=s.heap.push {cls:=.type "list",data:=.seq ([]:List Value).toArray}} (.ref a) "set":=by obtain⟨o2,e1,e2⟩:=hT;exact⟨o2,qc _ e1,e2⟩
 show wpAny _ A.in1 (Builtin.List.listExtendWith (.ref s.heap.objs.size) (.ref a) (.ref s.heap.objs.size)) _ _ _;unfold Builtin.List.listExtendWith;refine qa (wpAny_typeOf hT1 ?_);rw[zc (by rw[h1];decide)];refine qa (wI hT1 hs1 hr hz hled hn λI h' d ord fp St hp W st0 hI hfp hext hIs=>?_);have hT2:Shared.TypeIs {s with heap:=h',drawn:=d} (.ref a) "set":=by obtain⟨o2,e1,e2⟩:=hT1;exact⟨o2,hext _ _ e1,e2⟩
 refine qa (zk ?_);unfold Builtin.List.listLengthHint;refine qa (wpAny_specialOf hT2 F.slot_set_len.lookup ?_);generalize hid:("set.__len__":String)=id0
 wp_delta
 rw[show splitId id0=some ("set","__len__") from by subst hid;decide+kernel];subst hid;refine qa (wpAny_isInstance (b:=true) hT2 (by rw[isSubtype_type];kernel_rfl) ?_);refine qa (wpAny_typeOf hT2 ?_);refine qb ?_;have hS₂:=hext _ _ hS₁;have WS:=(W A.in1 hh).toS;show wpAny _ A.in1 (rule "list.extend.makes-room">>=λ_=>Builtin.List.listTouch (.ref s.heap.objs.size)>>=λ_=>again (.builtin "list.extend.loop" ⟨[.ref s.heap.objs.size,.ref I,.ref s.heap.objs.size],[]⟩)) _ _ _
 refine qa (wpAny_rule ?_);refine qa ?_;show wpAny _ A.in1 (updateSeq s.heap.objs.size (·.push .none)>>=λ_=>updateSeq s.heap.objs.size (·.pop)) _ _ _;refine qa (wpAny_updateSeq hS₂ rfl ?_);have hS₃:=zf (Obj.mapSeq (·.push Value.none)) hS₂ rfl;refine wpAny_updateSeq (hz:=by seq_fits) hS₃ rfl ?_;have hS₄:=zf (Obj.mapSeq (·.pop)) hS₃ rfl;have oth:∀b o,b≠s.heap.objs.size->h'.get? b=some o->((h'.update s.heap.objs.size (Obj.mapSeq (·.push Value.none))).update s.heap.objs.size (Obj.mapSeq (·.pop))).get? b=some o:=
  λb o hb e=>(ze _ _ (Ne.symm hb)).trans ((ze _ _ (Ne.symm hb)).trans e)
 have hSf:s.heap.objs.size∉fp:=λhm=>by
  rcases(hfp _ hm).1 with z|z
  .exact ne_of_gt halt z
  .rw[Heap.size_push]at z;exact Nat.not_succ_le_self _ z
 have hsz:es.size<=sizeLine:=le_trans hn (by decide);refine qb ⟨plainId_quiet F.plain_extend_loop _,codeAny_extend_loopS WS hsz _ hSf _ es.size 0 _ _ _ rfl (zero_le _) ((W A.in1 hh).frame 0 _ _ st0 λb hb o e=>oth b o (λz=>hSf (z▸hb)) e) hS₄ (ItemsOf.nil _) λs' acc' c' hm hS' hacc=>?_⟩;show wpAny _ A (load s.heap.objs.size>>=_) _ _ s';refine qa (wpAny_load hS' ?_);refine qb ?_;rw[sV (by rw[hp.length_eq,qY]) hacc];refine hQ s' ord hp (λb o e=>?_) hm.gens hm.os hm.toks;have hb:=lt_of_get e;refine hm.heap b o (λz=>?_) (oth b o (ne_of_lt hb) (hext _ _ (qc _ e)));rcases qD.mp z with z|z
 .exact ne_of_lt hb z
 .rw[qw.mp z]at hb;rw[Heap.size_push]at hIs;exact lt_irrefl _ (lt_of_lt_of_le hb (le_trans (le_succ _) hIs))
end ST
namespace ST
open PySem PySem.SetTable PyProof.Rows
section
variable{prog:Program}{w:World}{A:Around}{E:zo}{s:Shared}{I a p:Addr}{es:Array (Int×Value)}{ep i slot:Nat}{t:SetTable}{ys:List Nat}{h h':Heap}
theorem sorted_set(hh:A.handled=none)(hT:s.TypeIs (.ref a) "set")(hs:SetAt s.heap a es ep t)(hr:Rising t.place)(hz:t.place.size=es.size)(hled:w.params.followText "set-order"=false->t.led=true)(hn:es.size<=300)
  (k:∀(s1:Shared)(ord:List (Int×Value)),ord.Perm es.toList->(∀b o,s.heap.get? b=some o->s1.heap.get? b=some o)->s1.gens=s.gens->s1.os=s.os->s.toks<=s1.toks->
   (s1.heap.push (seqObj "list" (ord.map (·.2)).toArray 0)).get? s1.heap.objs.size=some (seqObj "list" (ord.map (·.2)).toArray 0)->
   wpAny (model prog w) A.in1.in1 (Builtin.«list.sort» ⟨[.ref s1.heap.objs.size],[]⟩) (λfin s2=>∃r,fin=.done (.ret r)/\Q (.ref s1.heap.objs.size) s2) E {s1 with heap:=s1.heap.push (seqObj "list" (ord.map (·.2)).toArray 0)}):
  wpAny (model prog w) A (call (.builtin "sorted") [.ref a]) Q E s:=by
 refine Calls.call_function_entry kind_sorted plain_sorted entry_sorted (args_sorted1 _) (?_:wpAny _ _ _ _ _ _);unfold Builtin.«sorted»;refine qa (m:=checkCount "sorted" 1 1 _) (qb (qa (nP hh hT hs hr hz hled hn λs1 ord hp hx hg ho ht=>?_)));have hsz:ord.length<=sizeLine:=by rw[hp.length_eq,qY];exact le_trans hn (by decide)
 refine qa (wpAny_newList ?_ (by rw[qp];exact hsz));have new:(s1.heap.push (seqObj "list" (ord.map (·.2)).toArray 0)).get? s1.heap.objs.size=some (seqObj "list" (ord.map (·.2)).toArray 0):=qd _ rfl;refine qa (zk (zi slot_list_sort ⟨_,new,rfl⟩ entry_list_sort (zm (k s1 ord hp hx hg ho ht new) ?_ λe s' z=>z) (args_list_sort _)));rintro fin s2 ⟨r,rfl,q⟩;exact⟨_,rfl,qb ⟨_,rfl,q⟩⟩
end
def Bn:Value->Int
 |.int n _=>n
 |_=>0
theorem ints_map(h:IntsAre vs ns):ns=vs.map Bn/\∀v∈vs,∃n t,v=.int n t:=by
 induction h with
 |nil=>exact⟨rfl,λv hv=>nomatch hv⟩
 |cons n t _ ih=>refine⟨by rw[qB,<-ih.1];rfl,λv hv=>?_⟩;grind
theorem sE:∀{vs:List Value},(∀v∈vs,∃n t,v=.int n t)->IntsAre vs (vs.map Bn)
 |[],_=>.nil
 |v::vs,h=>by obtain⟨n,t,rfl⟩:=h v qo;exact .cons n t (sE λu hu=>h u (qm _ hu))
theorem sW(h:IntsAre vs ns)(hp:us.Perm vs):∃ms,IntsAre us ms/\ms.Perm ns:=by obtain⟨rfl,h2⟩:=ints_map h;exact⟨_,sE λv hv=>h2 v (hp.mem_iff.mp hv),hp.map _⟩
theorem sortedHeap_at(ho:h.get? a=some (seqObj "list" vs.toArray n))(out:Array Value):∃e,(sortedHeap h a vs out).get? a=some (seqObj "list" out e):=
 ⟨_,get?_update_seq (qc _ (qc _ (get?_update_seq ho _))) _⟩
theorem sortedHeap_old(hne:b≠a)(ho:h.get? b=some o)(out:Array Value):(sortedHeap h a vs out).get? b=some o:=
 (ze _ _ (Ne.symm hne)).trans (qc _ (qc _ ((ze _ _ (Ne.symm hne)).trans ho)))
section
variable{prog:Program}{w:World}{A:Around}{E:zo}{s:Shared}{a:Addr}{es:Array (Int×Value)}{ep:Nat}{t:SetTable}
theorem sorted_set_ints(hh:A.handled=none)(hT:s.TypeIs (.ref a) "set")(hs:SetAt s.heap a es ep t)(hr:Rising t.place)(hz:t.place.size=es.size)(hled:w.params.followText "set-order"=false->t.led=true)(hn:es.size<64)
  (hI:IntsAre (es.toList.map (·.2)) ns)
  (k:∀(s2:Shared)(D:Addr)(out:Array Value)(e:Nat)(ns':List Int),IntsAre out.toList ns'->ns'.Perm ns->ns'.Pairwise (·<=·)->s2.heap.get? D=some (seqObj "list" out e)->s.heap.get? D=none->(∀b o,s.heap.get? b=some o->s2.heap.get? b=some o)->
   s2.gens=s.gens->s2.os=s.os->s.toks<=s2.toks->Q (.ref D) s2):wpAny (model prog w) A (call (.builtin "sorted") [.ref a]) Q E s:=by
 refine sorted_set hh hT hs hr hz hled (by lia) λs1 ord hp hx hg ho ht new=>?_;obtain⟨ms,hm,hpm⟩:=sW hI (hp.map _);have hl:(ord.map (·.2)).length<64:=by rw[qp,hp.length_eq,qY];exact hn
 refine list_sort_tree new hm hl λout ns' a1 a2 a3=>⟨_,rfl,?_⟩
 obtain⟨e,he⟩:=sortedHeap_at new out;have hle:s.heap.get? s1.heap.objs.size=none:=by
  cases q:s.heap.get? s1.heap.objs.size with
  |none=>rfl
  |some o=>exact absurd (lt_of_get (hx _ _ q)) (lt_irrefl _)
 exact k _ _ out e ns' a1 (a2.trans hpm) a3 he hle (λb o q=>sortedHeap_old (ne_of_lt (lt_of_get (hx b o q))) (qc _ (hx b o q)) out) hg ho ht
end
def textOf:Value->Str
 |.str x _=>x
 |_=>Str.empty
theorem strs_map(h:StrsAre vs ss):ss=vs.map textOf/\∀v∈vs,∃x t,v=.str x t:=by
 induction h with
 |nil=>exact⟨rfl,λv hv=>nomatch hv⟩
 |cons n t _ ih=>refine⟨by rw[qB,<-ih.1];rfl,λv hv=>?_⟩;grind
theorem rK:∀{vs:List Value},(∀v∈vs,∃x t,v=.str x t)->StrsAre vs (vs.map textOf)
 |[],_=>.nil
 |v::vs,h=>by obtain⟨n,t,rfl⟩:=h v qo;exact .cons n t (rK λu hu=>h u (qm _ hu))
theorem sQ(h:StrsAre vs ss)(hp:us.Perm vs):∃ms,StrsAre us ms/\ms.Perm ss:=by obtain⟨rfl,h2⟩:=strs_map h;exact⟨_,rK λv hv=>h2 v (hp.mem_iff.mp hv),hp.map _⟩
section
variable{prog:Program}{w:World}{A:Around}{E:zo}{s:Shared}{a:Addr}{es:Array (Int×Value)}{ep:Nat}{t:SetTable}
theorem sorted_set_strs(hh:A.handled=none)(hT:s.TypeIs (.ref a) "set")(hs:SetAt s.heap a es ep t)(hr:Rising t.place)(hz:t.place.size=es.size)(hled:w.params.followText "set-order"=false->t.led=true)(hn:es.size<64)
  (hI:StrsAre (es.toList.map (·.2)) ss)
  (k:∀(s2:Shared)(D:Addr)(out:Array Value)(e:Nat)(ss':List Str),StrsAre out.toList ss'->ss'.Perm ss->sortedS ss'=true->s2.heap.get? D=some (seqObj "list" out e)->s.heap.get? D=none->(∀b o,s.heap.get? b=some o->s2.heap.get? b=some o)->
   s2.gens=s.gens->s2.os=s.os->s.toks<=s2.toks->Q (.ref D) s2):wpAny (model prog w) A (call (.builtin "sorted") [.ref a]) Q E s:=by
 refine sorted_set hh hT hs hr hz hled (by lia) λs1 ord hp hx hg ho ht new=>?_;obtain⟨ms,hm,hpm⟩:=sQ hI (hp.map _);have hl:(ord.map (·.2)).length<64:=by rw[qp,hp.length_eq,qY];exact hn
 refine list_sort_treeK strKind_oneLt new hm.keysOf (λv₁ v₂ rest e=>keyKind_strs (by rw[<-e];exact hm)) hl λst' a1 a2=>⟨_,rfl,?_⟩
 obtain⟨ss',b1,b2,b3⟩:=sorted_out_str hm a1 a2;obtain⟨e,he⟩:=sortedHeap_at new ((arrOf st').map (·.2));have hle:s.heap.get? s1.heap.objs.size=none:=by
  cases q:s.heap.get? s1.heap.objs.size with
  |none=>rfl
  |some o=>exact absurd (lt_of_get (hx _ _ q)) (lt_irrefl _)
 exact k _ _ _ e ss' b1 (b2.trans hpm) b3 he hle (λb o q=>sortedHeap_old (ne_of_lt (lt_of_get (hx b o q))) (qc _ (hx b o q)) _) hg ho ht
theorem TSet.at{K:Type}[DecidableEq K]{knd:HeapKind prog w K}{ld:Bool}{h:Heap}{xs:List (K×Addr)}(x:TSet ld knd h a xs):∃es ep t,SetAt h a es ep t/\Rising t.place/\t.place.size=es.size/\t.led=ld/\es.toList.map (·.2)=xs.map λp=>Value.ref p.2:=by
 obtain⟨o,es,ep,t,ho,hex,hd,hld,T,hrm,he,his,hnd⟩:=x;refine⟨es,ep,t,⟨o,ho,hd,T.fits (by simp)⟩,T.ris,?_,hld,?_⟩
 .rw[T.size];simp
 .rw[he];unfold gP;rw[qH];rfl
end
end ST
namespace ST
open PySem PySem.SetTable
theorem fN(n:Nat):Rising (Array.range n):=by rw[ris_list];simp[pairwise_lt_range]
theorem sF(hr:Rising t.place)(hd:t.dummies=#[]):∀(fuel:Nat)(p:Probe){j:Nat}{d:Option Nat},p.dummy=none->probe.go t hashAt h fuel p=some (.empty j d)->d=none/\t.slot j=.empty
 |0,_,_,_,_,e=>by cases e
 |fuel+1,p,j,d,hp,e=>by
  rw[probe.go]at e;have adv:(t.advance p).dummy=none:=by
   unfold advance;split
   .exact hp
   .exact hp
  rcases cL hr hd p.j with⟨z,_⟩|⟨i,hi,_,z⟩
  .rw[z]at e;cases e;exact⟨hp,z⟩
  .rw[z]at e;dsimp only at e;split at e
   .cases e
   .exact sF hr hd fuel _ adv e
theorem vV{mask finger moves:Nat}{led plain:Bool}(e:laid mask finger moves led plain hs=some (t',order)):Rising t'.place/\t'.dummies=#[]/\t'.led=led:=by
 unfold laid at e;cases q:layClean mask hs with
 |none=>rw[q]at e;cases e
 |some owner=>rw[q]at e;cases e;refine⟨?_,rfl,rfl⟩;rw[ris_list];dsimp only;rw[pairwise_map,List.pairwise_filterMap];refine List.Pairwise.imp (λ{a b} hab x hx y hy=>?_) pairwise_lt_range;obtain⟨_,_,rfl⟩:=q8.mp hx;obtain⟨_,_,rfl⟩:=q8.mp hy;exact hab
structure WTab(t:SetTable)(n:Nat)(ld:Bool):Prop where
 ris:Rising t.place
 dum:t.dummies=#[]
 fit:t.fits n=true
 ldd:t.led=ld
theorem vS(T:WTab t es.size ld):WTab (layNew t es h x).2.1 (layNew t es h x).1.size ld:=by
 refine⟨?_,?_,layNew_fits t es h x,?_⟩;all_goals
  unfold layNew;split
 .rename_i slot wd e;dsimp only;unfold orStandIn;split
  .unfold freeSlot at e;split at e
   .rename_i j d q;cases e;obtain⟨rfl,z⟩:=sF T.ris T.dum _ (t.probeStart h) rfl q;show Rising (t.put j).1.place;rw[(fO T.dum).1];rcases cL T.ris T.dum j with⟨_,y⟩|⟨i,hi,_,y⟩
    .exact jS T.ris y
    .rw[z]at y;cases y
   .cases e
  .exact fN _
 .exact fN _
 .dsimp only;unfold orStandIn;split
  .exact(fO T.dum).2.2.1
  .rfl
 .rfl
 .dsimp only;unfold orStandIn;split
  .exact T.ldd
  .exact T.ldd
 .exact T.ldd
theorem oK(T:WTab t m ld):WTab (relayAll t es n).2.1 (relayAll t es n).1.size ld:=by
 refine⟨?_,?_,relayAll_fits t es n,?_⟩;all_goals
  unfold relayAll;split
 all_goals first
  |(rename_i t' order e;dsimp only;obtain⟨a,b,c⟩:=vV e;split
    .first|exact a|exact b|exact c.trans T.ldd
    .first|exact fN _|rfl|exact T.ldd)
  |exact fN _
  |rfl
  |exact T.ldd
theorem oO(T:WTab t n ld):WTab {t with plain:=p} n ld:=⟨T.ris,T.dum,by have:=T.fit;cases t;exact this,T.ldd⟩
section
variable{prog:Program}{w:World}{A:Around}{E:zo}{s:Shared}{a:Addr}{K:Type}[DecidableEq K]{knd:KeyKind prog w K}{xs:List (K×Value)}
def jZ(knd:KeyKind prog w K)(xs:List (K×Value)):List (Int×Value):=xs.map λp=>(knd.hash p.1,p.2)
def VSet(ld:Bool)(knd:KeyKind prog w K)(h:Heap)(a:Addr)(xs:List (K×Value)):Prop:=∃o es ep t,h.get? a=some o/\o.ExactSet/\o.data=.set es ep t/\WTab t es.size ld/\es.toList=jZ knd xs/\(∀p∈xs,knd.is p.1 p.2=true/\p.2.scannable=true)/\(xs.map (·.1)).Nodup
theorem lJ(h:l.Perm (jZ knd xs)):∃ys,ys.Perm xs/\l=jZ knd ys:=by
 unfold jZ at h;induction l generalizing xs with
 |nil=>
  have hx:xs=[]:=by simpa using h.length_eq.symm
  subst hx;exact⟨[],.refl _,rfl⟩
 |cons e l ih=>obtain⟨x,hx,rfl⟩:=qN.mp (h.mem_iff.mp qo);obtain⟨l1,l2,rfl⟩:=append_of_mem hx;rw[map_append,qB]at h;obtain⟨ys,p,rfl⟩:=ih (xs:=l1++l2) (by rw[map_append];exact(h.trans perm_middle).cons_inv);exact⟨x::ys,(List.Perm.cons x p).trans perm_middle.symm,rfl⟩
theorem AB{es:Array (Int×Value)}(he:es.toList=jZ knd xs)(hk:∀p∈xs,knd.is p.1 p.2=true/\p.2.scannable=true):ElemsOf knd es.toList:=λe hm=>by rw[he]at hm;obtain⟨p,hp,rfl⟩:=qN.mp hm;exact⟨⟨p.1,(hk p hp).1,rfl⟩,(hk p hp).2⟩
theorem nQ{g:Bool->Sem Unit}(hg:∀(b:Bool)(s₁:Shared)(Q':Unit->Shared->Prop),Q' () s₁->wpAny (model prog w) A (g b) Q' E s₁)(ho:s.heap.get? a=some o)(hex:o.ExactSet)(hd:o.data=.set es ep t)
  (T:WTab t2 es1.size ld)(he:es1.toList=jZ knd ys)(hk:∀p∈ys,knd.is p.1 p.2=true/\p.2.scannable=true)(hnd:(ys.map (·.1)).Nodup)(hz:ys.length<=1000)
  (h:∀h' zs,Heap.SameBut a s.heap h'->zs.Perm ys->VSet ld knd h' a zs->R (some true) {s with heap:=h'}):
  wpAny (model prog w) A (do
    storeSet a es1 t2
    if(!wd&&t2.tooFull)=true then do
       g (relayAll t2 es1 (grown es1.size)).2.2
       storeSet a (relayAll t2 es1 (grown es1.size)).1 (relayAll t2 es1 (grown es1.size)).2.1
       pure (some true)
     else pure (some true)) R E s:=by
 have hz1:es1.size<=sizeLine:=by rw[<-qY,he];unfold jZ;rw[qp,zj];lia
 refine qa (wpAny_storeSet_of ho hd ?_ hz1);have ho1:=fM (es':=es1) (t':=t2) ho hd;have sb1:=Heap.SameBut.update s.heap a (Obj.putSet es1 t2);split
 .have hp:=relayAll_perm t2 es1 (grown es1.size);have T2:=oK (es:=es1) (n:=grown es1.size) T;generalize relayAll t2 es1 (grown es1.size)=R3 at hp T2⊢;obtain⟨es2,t3,gave⟩:=R3;dsimp only at hp T2⊢;rw[he]at hp;obtain⟨zs,pz,ez⟩:=lJ hp;have hz2:es2.size<=sizeLine:=by rw[<-qY,ez];unfold jZ;rw[qp,pz.length_eq,zj];lia
  refine qa (hg _ _ _ (qa (wpAny_storeSet_of ho1 rfl (qb ?_) hz2)));exact h _ zs (sb1.trans (Heap.SameBut.update _ a _)) pz ⟨_,es2,_,t3,fM ho1 rfl,hex,rfl,T2,ez,λp hp=>hk p (pz.mem_iff.mp hp),(pz.map _).nodup_iff.mpr hnd⟩
 .exact qb (h _ ys sb1 (.refl _) ⟨_,es1,_,t2,ho1,hex,rfl,T,he,hk,hnd⟩)
theorem MC(hkey:knd.is k x=true)(hsc:x.scannable=true)(hS:VSet ld knd s.heap a xs)(hroom:xs.length<=150)
  (h1:k∈xs.map (·.1)->Q false s)(h2:k∉xs.map (·.1)->∀h' ys,Heap.SameBut a s.heap h'->ys.Perm ((k,x)::xs)->VSet ld knd h' a ys->Q true {s with heap:=h'}):
  wpAny (model prog w) A (setAddHashed a x (knd.hash k)) Q E s:=by
 obtain⟨o,es,ep,t,ho,hex,hd,T,he,hk,hnd⟩:=hS;have hel:=AB he hk;have zO:es.size=xs.length:=by rw[<-qY,he];simp[jZ]
 have hb:es.size<scanBound:=by show es.size<4096;lia
 unfold setAddHashed setAddHashedIn;refine zk (qa (wpAny_setState_of ho hd T.fit ?_));dsimp only;rw[byScan_of hsc hb hel];simp only[if_true];unfold setAddByScan;refine qa (qa (wpAny_rule (qa (wpAny_setScan_of hkey ho hd T.fit hel ?_))));have key:∀p∈xs,knd.is k p.2=true↔p.1=k:=λp hp=>⟨λz=>(knd.inj p.2 k p.1 z (hk p hp).1).symm,λz=>z▸(hk p hp).1⟩
 cases hr:List.findIdx? (λe=>knd.is k e.2) es.toList with
 |some j=>dsimp only;obtain⟨hj,hpj,_⟩:=List.findIdx?_eq_some_iff_getElem.mp hr;have hm:=getElem_mem hj;generalize es.toList[j]=e at hm hpj;rw[he]at hm;obtain⟨p,hp,rfl⟩:=qN.mp hm;exact qb (qb (h1 (qN.mpr ⟨p,hp,(key p hp).mp hpj⟩)))
 |none=>
  dsimp only;have hn:k∉xs.map (·.1):=λz=>by obtain⟨p,hp,e⟩:=qN.mp z;have q:=List.findIdx?_eq_none_iff.mp hr (knd.hash p.1,p.2) (by rw[he];exact qN.mpr ⟨p,hp,rfl⟩);rw[(key p hp).mpr e]at q;cases q
  have hperm:=layNew_perm t es (knd.hash k) x;have T1:=vS (es:=es) (h:=knd.hash k) (x:=x) T;generalize layNew t es (knd.hash k) x=L at hperm T1⊢;obtain⟨es1,t1,wd,gave⟩:=L;dsimp only at hperm T1⊢;rw[toList_push,he]at hperm;obtain⟨ys,py,ey⟩:=lJ (knd:=knd) (xs:=(k,x)::xs) (hperm.trans (qQ.trans (by unfold jZ;exact .refl _)));have hky:∀p∈ys,knd.is p.1 p.2=true/\p.2.scannable=true:=λp hp=>by
   rcases qD.mp (py.mem_iff.mp hp)with rfl|z
   .exact⟨hkey,hsc⟩
   .exact hk p z
  have hny:(ys.map (·.1)).Nodup:=(py.map _).nodup_iff.mpr (qO.mpr ⟨hn,hnd⟩);have hzy:ys.length<=1000:=by rw[py.length_eq,qv];lia
  have gw:∀(b:Bool)(s₁:Shared)(Q':Unit->Shared->Prop),Q' () s₁->wpAny (model prog w) A (match b with|true=>rule "set.scan.the-table-gave-way"|false=>pure ()) Q' E s₁:=λb s₁ Q' q=>by
   cases b
   .exact qb q
   .exact wpAny_rule q
  have fin:∀h' zs,Heap.SameBut a s.heap h'->zs.Perm ys->VSet ld knd h' a zs->Q true {s with heap:=h'}:=λh' zs sb pz V=>h2 hn h' zs sb (pz.trans py) V;refine qa (gw gave _ _ ?_);split
  .refine qa ?_;rw[hashByValue_scannable 8 hsc];refine qb (nQ gw ho hex hd (es1:=es1) (t2:=_) ?_ ey hky hny hzy λh' zs sb pz V=>qb (fin h' zs sb pz V));split
   .exact T1
   .exact oO T1
  .refine qa (qb ?_);simp only[if_true];exact nQ gw ho hex hd T1 ey hky hny hzy λh' zs sb pz V=>qb (fin h' zs sb pz V)
theorem setAddV(hkey:knd.is k x=true)(hsc:x.scannable=true)(hS:VSet ld knd s.heap a xs)(hroom:xs.length<=150)
  (h1:k∈xs.map (·.1)->∀r,Q r {s with toks:=s.toks+1})(h2:k∉xs.map (·.1)->∀h' ys,Heap.SameBut a s.heap h'->ys.Perm ((k,x)::xs)->VSet ld knd h' a ys->∀r,Q r {s with heap:=h',toks:=s.toks+1}):
  wpAny (model prog w) A (setAdd a x) Q E s:=by
 unfold setAdd;refine zk (qa (knd.pyHash hkey ?_));exact MC (s:={s with toks:=s.toks+1}) hkey hsc hS hroom (λhm=>h1 hm _) λhm h' ys sb pm T=>h2 hm h' ys sb pm T _
theorem VSet.at(x:VSet ld knd h a xs):∃es ep t,SetAt h a es ep t/\Rising t.place/\t.place.size=es.size/\t.led=ld/\es.toList.map (·.2)=xs.map (·.2):=by
 obtain⟨o,es,ep,t,ho,hex,hd,T,he,_⟩:=x;refine⟨es,ep,t,⟨o,ho,hd,T.fit⟩,T.ris,?_,T.ldd,?_⟩
 .have:=T.fit;unfold fits at this;grind
 .rw[he];unfold jZ;rw[qH];rfl
end
end ST
namespace ST
open PySem PySem.SetTable PyProof.Rows
def freshSet(ld:Bool):Obj:={cls:=.type "set",dict:=none,data:=.set #[] 0 (.fresh 0 0 ld)}
def ldOf(w:World):Bool:=!w.params.followText "set-order"
theorem newSet_ok(h:Q (.ref s.heap.objs.size) {s with heap:=s.heap.push (freshSet (ldOf w))}):wpAny (model prog w) A (newSet (.type "set")) Q E s:=by unfold newSet setsByText;refine qa (qa (wpAny_askSetting (qb ?_)));dsimp only;simp only[newObj];exact qa (wpAny_alloc (qb h))
theorem kT(ld:Bool):lL (.fresh 0 0 ld) []:=by
 have hp:∀{i:Nat},i<(SetTable.fresh 0 0 ld).place.size->False:=λh=>by simp[SetTable.fresh]at h
 exact⟨λi j hi _ _=>(hp hi).elim,rfl,.inl rfl,rfl,λi hi=>(hp hi).elim,by simp,λi hi=>(hp hi).elim⟩
theorem vset_new{K:Type}[DecidableEq K]{knd:KeyKind prog w K}{ld:Bool}{h:Heap}{a:Addr}(e:h.get? a=some (freshSet ld)):VSet ld knd h a []:=
 ⟨_,#[],0,_,e,⟨rfl,rfl,rfl⟩,rfl,⟨(kT ld).ris,rfl,rfl,rfl⟩,rfl,λ_ z=>(nomatch z),.nil⟩
theorem tset_new{K:Type}[DecidableEq K]{knd:HeapKind prog w K}{ld:Bool}{h:Heap}{a:Addr}(e:h.get? a=some (freshSet ld)):TSet ld knd h a []:=
 ⟨_,#[],0,_,e,⟨rfl,rfl,rfl⟩,rfl,rfl,kT ld,(by show 0*5<7*3;decide),rfl,λ_ z=>(nomatch z),.nil⟩
theorem uQ{St:Nat->Shared->Prop}(W:WalksS prog w A.in1 I fp wr G n P St)(S:Addr)(hSf:S∉fp){J:Nat->Heap->Prop}
  (stay:∀i h h',i<=n->J i h->(∀b o,b∉wr->h.get? b=some o->h'.get? b=some o)->J i h')
  (step:∀i v(s:Shared)(Q:Bool->Shared->Prop)(E:zo),i<n->P i v->J i s.heap->(∀h' tk r,s.toks<=tk->Heap.SameBut S s.heap h'->J (i+1) h'->Q r {s with heap:=h',toks:=tk})->wpAny (model prog w) A.in1 (setAdd S v) Q E s):
  ∀(k i:Nat)(s:Shared),n-i=k->i<=n->St i s->J i s.heap->(∀s',Moved (S::wr) G s s'->J n s'.heap->R (.ok (.ret .none)) s')->
   codeAny (model prog w) A (.builtin "set.update.loop" ⟨[.ref S,.ref I],[]⟩) R s:=by
 have hSw:S∉wr:=λh=>hSf (W.sub _ h);intro k;induction k with
 |zero=>
  intro i s hk hi st hJ hR;have e:i=n:=by lia
  subst e;refine codeAny_builtin F.entry_set_update_loop ?_;rw[Around.under_plainId F.plain_set_update_loop _];show wpAny _ A.in1 (pyNext (.ref I)>>=_) _ _ s;refine qa (W.done s _ _ st λs' hm=>?_);show wpAny _ A.in1 (ret Value.none) _ _ s';exact qb (hR s' (hm.mono λb hb=>qm _ hb) (stay _ _ _ (zd _) hJ hm.heap))
 |succ k ih=>
  intro i s hk hi st hJ hR;have hlt:i<n:=by lia
  refine codeAny_builtin F.entry_set_update_loop ?_;rw[Around.under_plainId F.plain_set_update_loop _];show wpAny _ A.in1 (pyNext (.ref I)>>=_) _ _ s;refine qa (W.item i s _ _ hlt st λv s' hP st' hm=>?_);show wpAny _ A.in1 (holding [v] (setAdd S v)>>=_) _ _ s';refine qa (zk (step i v s' _ _ hlt hP (stay _ _ _ hi hJ hm.heap) λh' tk r ht sb hJ'=>?_));refine qb ⟨plainId_quiet F.plain_set_update_loop _,ih (i+1) _ (by lia) hlt (W.frame _ s' _ _ st' ht λb hb o e=>?_) hJ' λs'' hm'' hJ''=>?_⟩
  .rw[sb.2 b (λz=>hSf (z▸hb))];exact e
  .refine hR s'' (Moved.trans W.gtrans ((hm.mono λb hb=>qm _ hb).then_heap ht λb o hb e=>?_) hm'') hJ'';rw[sb.2 b (λz=>hb (z▸qo))];exact e
theorem uT(x:Value)(h:Q (.ref s.heap.objs.size) {s with heap:=s.heap.push (freshSet (ldOf w))}):
  codeAny (model prog w) A (.call (.builtin "set.__new__") ⟨[.type "set",x],[]⟩) (wants Q E) s:=by
 refine codeAny_of_tree ?_;show wpAny _ A.in1 (do checkBuiltinCall "set.__new__" ⟨[.type "set",x],[]⟩;again (.builtin "set.__new__" ⟨[.type "set",x],[]⟩)) _ _ s;refine qa (zl (F.newCall_set_1 x) (qb ⟨plainId_quiet F.plain_set_new _,codeAny_builtin F.entry_set_new ?_⟩));rw[Around.under_plainId F.plain_set_new _];unfold Builtin.«set.__new__» Builtin.Frozenset.newClass;have hsub:=sub_set_self;obtain⟨hp,g,d,tk,os⟩:=s;dsimp only
 wp_walk
 refine wpAny_askSetting (qb ?_);dsimp only;simp only[newObj];refine qa (wpAny_alloc (qb ?_));exact qb h
def WalkOk(prog:Program)(w:World)(s:Shared)(x:Value)(n:Nat)(P:Nat->Value->Prop):Prop:=∀(A:Around)(E:zo)(s1:Shared)(Q:zo),(∀b o,s.heap.get? b=some o->s1.heap.get? b=some o)->
 (∀(o:Obj)(fp:List Addr)(St:Nat->Heap->Prop),(∀A:Around,A.handled=none->Walks prog w A s1.heap.objs.size fp [s1.heap.objs.size] n P St)->St 0 (s1.heap.push o)->(∀b∈fp,b=s1.heap.objs.size\/b<s.heap.objs.size)->Q (.ref s1.heap.objs.size) {s1 with heap:=s1.heap.push o})->
 wpAny (model prog w) A (pyIter x) Q E s1
theorem Gx(hT:s.TypeIs x T)(hs1:isSubtype (.type T) (.type "set")=pure false)(hs2:isSubtype (.type T) (.type "frozenset")=pure false)(h:Q false s):wpAny (model prog w) A (Builtin.Frozenset.isAnySet x) Q E s:=by unfold Builtin.Frozenset.isAnySet;refine qa (wpAny_isInstance hT hs1 ?_);exact wpAny_isInstance hT hs2 h
set_option maxHeartbeats 3200000 in
theorem call_set{J:Nat->Heap->Prop}(hh:A.handled=none)(hT:s.TypeIs x T)(hs1:isSubtype (.type T) (.type "set")=pure false)(hs2:isSubtype (.type T) (.type "frozenset")=pure false)(hne:(Value.type T==Value.type "dict")=false)
  (W:WalkOk prog w s x n P)(h0:∀h,h.get? s.heap.objs.size=some (freshSet (ldOf w))->(∀b o,s.heap.get? b=some o->h.get? b=some o)->J 0 h)
  (stay:∀i h h',i<=n->J i h->(∀b o,b≠s.heap.objs.size+1->h.get? b=some o->h'.get? b=some o)->J i h')
  (step:∀(A:Around) i v(s':Shared)(Q:Bool->Shared->Prop)(E:zo),i<n->P i v->J i s'.heap->(∀h' tk r,s'.toks<=tk->Heap.SameBut s.heap.objs.size s'.heap h'->J (i+1) h'->Q r {s' with heap:=h',toks:=tk})->A.units<=B->wpAny (model prog w) A (setAdd s.heap.objs.size v) Q E s')
  (hB:A.units+20<=B)
  (h:∀(h':Heap)(tk:Nat),J n h'->(∀b o,s.heap.get? b=some o->h'.get? b=some o)->s.toks<=tk->Q (.ref s.heap.objs.size) {s with heap:=h',toks:=tk}):
  wpAny (model prog w) A (call (.type "set") [x]) Q E s:=by
 obtain⟨c,tl,hmro⟩:=F.called_set.mro;have hmade:=F.called_set.made;have hsub:=F.called_set.sub;refine wpAny_call (codeAny_of_tree ?_);show wpAny _ _ (callAny (.type "set") _) _ _ _;refine qb ⟨Code.quiet_builtin _ (by decide+kernel),codeAny_builtin F.entry_type_call ?_⟩;rw[Around.under_plain (weight_type_call_type "set" [x] []) rfl];have h1:=F.called_set.notType;have h2:=F.called_set.canCreate;have hct:=F.typeCall_set_1 x
 repeat (any_goals (first|assumption|wp_step))
 refine codeAny_mono (uT x (E:=E) (Q:=λobj s₁=>obj=.ref s.heap.objs.size/\s₁={s with heap:=s.heap.push (freshSet (ldOf w))}) ⟨rfl,rfl⟩) λr s₁ hr=>?_;cases r with
 |error e=>exact hr
 |ok fl=>
  cases fl with
  |ret obj=>
   obtain⟨rfl,rfl⟩:=hr;have hS:(s.heap.push (freshSet (ldOf w))).get? s.heap.objs.size=some (freshSet (ldOf w)):=qd _ rfl;have hTS:Shared.TypeIs {s with heap:=s.heap.push (freshSet (ldOf w))} (.ref s.heap.objs.size) "set":=⟨_,hS,rfl⟩
   have hli:=F.called_set.init.lookup;have hbi:=F.called_set.init.bind (.ref s.heap.objs.size)
   repeat (any_goals (first|assumption|wp_step))
   refine codeAny_mono (codeAny_call_builtin (R:=wants (λr s₂=>r=.none/\∃h' tk,s₂={s with heap:=h',toks:=tk}/\J n h'/\(∀b o,s.heap.get? b=some o->h'.get? b=some o)/\s.toks<=tk) E) F.called_set.init.plain F.entry_set_init (check_set_init_1 hTS ?_)) λr₂ s₂ hr₂=>?_
   .have hTx:Shared.TypeIs {s with heap:=s.heap.push (freshSet (ldOf w))} x T:=by
     cases x with
     |ref l=>obtain⟨o,e,q⟩:=hT;exact⟨o,qc _ e,q⟩
     |_=>exact hT
    unfold Builtin.«set.__init__» noKeywords;generalize hUF:Builtin.Frozenset.updateFrom=UF;unfold freshSet at hS hTS hTx⊢
    wp_walk
    subst hUF;unfold Builtin.Frozenset.updateFrom;refine qa (Gx hTx hs1 hs2 ?_);simp only[false_eq_true,if_false];refine qa (wpAny_typeOf hTx ?_);rw[hne];simp only[false_eq_true,if_false];refine qa (W _ _ _ _ (λb o e=>qc _ e) λo fp St wk st0 hfp=>?_);have hz:(s.heap.push (freshSet (ldOf w))).objs.size=s.heap.objs.size+1:=Heap.size_push ..;have hSf:s.heap.objs.size∉fp:=λz=>by
     rcases hfp _ z with y|y
     .rw[show s.heap.objs.size=(s.heap.push (freshSet (ldOf w))).objs.size from y]at hz;exact absurd hz (ne_of_lt (lt_succ_self _))
     .exact lt_irrefl _ y
    refine qa (wpAny_runValue ?_);refine uQ (wk A.in1.in1.in1 hh).toS s.heap.objs.size hSf (J:=J) (λi h h' hi hJ hk=>stay i h h' hi hJ λb o hb e=>hk b o (λz=>hb (by rw[<-hz];exact qw.mp z)) e)
     (λi v s' Q E hi hP hJ hk=>step _ i v s' Q E hi hP hJ hk (by show A.units+1+1+1<=B;lia)) (n-0) 0 _ rfl (zero_le _) st0 (h0 _ (qc _ hS) λb o e=>qc _ (qc _ e)) λs' hm hJ=>?_
    obtain⟨h',g',d',tk',os'⟩:=s';have eg:g'=s.gens:=hm.gens;have ed:d'=s.drawn:=hm.drawn;have eo:os'=s.os:=hm.os;subst eg ed eo;refine qb ?_;show wpAny _ _ (ret Value.none) _ _ _;refine qb ⟨rfl,h',tk',rfl,hJ,λb o e=>?_,hm.toks⟩;have hb:=lt_of_get e;refine hm.heap b o (λz=>?_) (qc _ (qc _ e));rcases qD.mp z with z|z
    .exact ne_of_lt hb z
    .have:=qw.mp z;rw[this]at hb;exact absurd hb (by show¬(s.heap.push (freshSet (ldOf w))).objs.size<_;rw[hz];exact not_lt.mpr (le_succ _))
   .cases r₂ with
    |error e=>exact hr₂
    |ok fl₂=>
     cases fl₂ with
     |ret r=>
      obtain⟨rfl,h',tk,rfl,hJ,hk,ht⟩:=hr₂
      repeat (any_goals (first|assumption|wp_step))
      exact h _ _ hJ hk ht
     |_=>exact hr₂.elim
  |_=>exact hr.elim
theorem walk_list(hl:s.heap.IsList l items):WalkOk prog w s (.ref l) items.size (λi v=>items[i]?=some v):=λA E s1 Q hk h=>by
 obtain⟨o,e,r⟩:=hl;have hl1:s1.heap.IsList l items:=⟨o,hk _ _ e,r⟩
 have hlt:=lt_of_get e;have hlt1:=lt_of_get (hk _ _ e);exact wpAny_pyIter_list hl1 (h _ [s1.heap.objs.size,l] _ (λA hA=>Walks.list hA _ l (ne_of_lt hlt1) items) ⟨⟨_,qd _ rfl,rfl,rfl⟩,hl1.push _⟩ λb hb=>by
  rcases qD.mp hb with z|z
  .exact .inl z
  .exact .inr (by rw[qw.mp z];exact hlt))
theorem walk_tuple(hl:s.heap.IsTuple l items):WalkOk prog w s (.ref l) items.size (λi v=>items[i]?=some v):=λA E s1 Q hk h=>by
 obtain⟨o,e,r⟩:=hl;have hl1:s1.heap.IsTuple l items:=⟨o,hk _ _ e,r⟩
 have hlt:=lt_of_get e;have hlt1:=lt_of_get (hk _ _ e);exact wpAny_pyIter_tuple hl1 (h _ [s1.heap.objs.size,l] _ (λA hA=>Walks.tuple hA _ l (ne_of_lt hlt1) items) ⟨⟨_,qd _ rfl,rfl,rfl⟩,let⟨o,e,r⟩:=hl1;⟨o,qc _ e,r⟩⟩ λb hb=>by
  rcases qD.mp hb with z|z
  .exact .inl z
  .exact .inr (by rw[qw.mp z];exact hlt))
end ST
theorem m1{α:Type}{a:α}{l:List α}:a∈a::l:=.head _
theorem m2{α:Type}{a b:α}{l:List α}:b∈a::b::l:=.tail _ m1
theorem Bp(i:Int)(n:Nat):max 0 (min (if i<0 then i+(n:Int)else i) (n:Int))=(((if i<0 then(i+(n:Int)).toNat else min i.toNat n):Nat):Int):=by
 by_cases h:i<0
 .rw[za h,za h,Int.min_eq_left (by lia),Int.ofNat_toNat,Int.max_comm]
 .rw[zc h,zc h];obtain⟨k,rfl⟩:=Int.eq_ofNat_of_zero_le (Int.not_lt.mp h);rw[qZ];rcases Nat.le_total k n with q|q
  .rw[min_eq_left q,Int.min_eq_left (ofNat_le.mpr q),Int.max_eq_right (Int.natCast_nonneg k)]
  .rw[min_eq_right q,Int.min_eq_right (ofNat_le.mpr q),Int.max_eq_right (Int.natCast_nonneg n)]
theorem cps{A:Prop}(h:∀G:Prop,(A->G)->G):A:=h A id
namespace ST
open PySem PySem.SetTable
section
variable{prog:Program}{w:World}{A:Around}{E:zo}{s:Shared}{a b:Addr}{K:Type}[DecidableEq K]{knd:KeyKind prog w K}{ks:List K}{ld:Bool}{xs:List (List K×Addr)}
theorem setAddT(hu:A.units<cLine)(hk:IsTupleKey knd s.heap ks b)(hS:TSet ld (tupleKind knd) s.heap a xs)(hroom:xs.length<=150)
  (h1:ks∈xs.map (·.1)->∀tk r,s.toks<=tk->Q r {s with toks:=tk})
  (h2:ks∉xs.map (·.1)->∀h' ys tk r,Heap.SameBut a s.heap h'->ys.Perm ((ks,b)::xs)->TSet ld (tupleKind knd) h' a ys->s.toks<=tk->Q r {s with heap:=h',toks:=tk}):
  wpAny (model prog w) A (setAdd a (.ref b)) Q E s:=by
 unfold setAdd;refine zk (qa ((tupleKind knd).pyHash hu hk ?_));exact DU (s:={s with toks:=s.toks+(tupleKind knd).draws ks}) (knd:=tupleKind knd) (λhk q=>sO hk q) (λhk q=>uR hk q) (λhk ho hd hs=>sN hk ho hd hs) hu hk hS hroom (λhm=>h1 hm _ _ (Nat.le_add_right _ _)) λhm h' ys sb pm T=>h2 hm h' ys _ _ sb pm T (Nat.le_add_right _ _)
theorem call_add_of(hT:s.TypeIs (.ref a) "set")(h:wpAny (model prog w) A.in1 (setAdd a v) (λ_ s'=>Q .none s') E s):wpAny (model prog w) A (call (.builtin "set.add") [.ref a,v]) Q E s:=by
 refine zi F.slot_set_add hT F.entry_set_add ?_ (F.args_set_add_2 _ _);unfold Builtin.«set.add» Builtin.Frozenset.oneOther;simp only[isEmpty_nil,bind_assoc];unfold Builtin.Frozenset.addrOf;refine qa (qb ?_);try dsimp only
 refine qa (qb ?_);try dsimp only
 exact qa (zm h (λr s' q=>qb ⟨_,rfl,q⟩) λ_ _ z=>z)
def TRaw(ld:Bool)(knd:HeapKind prog w K)(h:Heap)(a:Addr)(xs:List (K×Addr)):Prop:=∃o es ep t,h.get? a=some o/\o.ExactSet/\o.data=.set es ep t/\t.led=ld/\lL t (es.toList.map (·.1))/\gZ t es.size/\es.toList=gP knd xs/\(xs.map (·.1)).Nodup
theorem TRaw.full{knd:HeapKind prog w K}{xs:List (K×Addr)}(x:TRaw ld knd h a xs)(k:∀x∈xs,knd.is h x.1 x.2):TSet ld knd h a xs:=by obtain⟨o,es,ep,t,h1,h2,h3,h4,h5,h6,h7,h8⟩:=x;exact⟨o,es,ep,t,h1,h2,h3,h4,h5,h6,h7,k,h8⟩
theorem TSet.raw{knd:HeapKind prog w K}{xs:List (K×Addr)}(x:TSet ld knd h a xs):TRaw ld knd h a xs:=by obtain⟨o,es,ep,t,h1,h2,h3,h4,h5,h6,h7,k,h8⟩:=x;exact⟨o,es,ep,t,h1,h2,h3,h4,h5,h6,h7,h8⟩
end
instance okDec(m:Nat):Decidable (cD m):=by unfold cD;infer_instance
end ST
namespace L2
open PySem PySem.Spec PyProof.Rows
abbrev aR:=Sum Int Str
def jQ:aR->Value->Bool
 |.inl k,v=>Value.isInt k v
 |.inr x,v=>Value.isStrOf x v
def Mj(w:World):aR->Int
 |.inl k=>hashInt k
 |.inr x=>hashStr w x
theorem xM:∀{k:aR}{v:Value},jQ k v=true->(∃i t,k=Sum.inl i/\v=Value.int i t)\/(∃x t,k=Sum.inr x/\v=Value.str x t)
 |.inl i,v,h=>by obtain⟨t,e⟩:=Value.isInt_shape (k:=i) (v:=v) h;exact .inl ⟨i,t,rfl,e⟩
 |.inr x,v,h=>by obtain⟨t,e⟩:=Value.isStrOf_shape (x:=x) (v:=v) h;exact .inr ⟨x,t,rfl,e⟩
theorem Xx(i:Int)(t:Tok):jQ (.inl i) (.int i t)=true:=by simp[jQ,Value.isInt]
theorem Wj(x:Str)(t:Tok):jQ (.inr x) (.str x t)=true:=by simp[jQ,Value.isStrOf]
theorem SS(a b:Int):decide ((Sum.inl a:aR)=Sum.inl b)=(a==b):=by grind
theorem SK(a b:Str):decide ((Sum.inr a:aR)=Sum.inr b)=decide (a=b):=by grind
theorem RL(a:Int)(b:Str):decide ((Sum.inl a:aR)=Sum.inr b)=false:=qV (λq=>nomatch q)
theorem RM(a:Str)(b:Int):decide ((Sum.inr a:aR)=Sum.inl b)=false:=qV (λq=>nomatch q)
def aI(prog:Program)(w:World):PySem.KeyKind prog w aR where
 is:=jQ
 hash:=Mj w
 inj:=λv a b ha hb=>by
  rcases xM ha with⟨i,t,rfl,rfl⟩|⟨x,t,rfl,rfl⟩
  .rcases xM hb with⟨j,u,rfl,e⟩|⟨y,u,rfl,e⟩
   .injection e with e1 _;rw[e1]
   .exact nomatch e
  .rcases xM hb with⟨j,u,rfl,e⟩|⟨y,u,rfl,e⟩
   .exact nomatch e
   .injection e with e1 _;rw[e1]
 byValue:=λk v h=>by rcases xM h with⟨i,t,rfl,rfl⟩|⟨x,t,rfl,rfl⟩<;>rfl
 pyHash:=λhv h=>by
  rcases xM hv with⟨i,t,rfl,rfl⟩|⟨x,t,rfl,rfl⟩
  .exact wpAny_pyHash_int h
  .exact wpAny_pyHash_str h
 eqBool:=λhu hv h=>by
  rcases xM hu with⟨i,t,rfl,rfl⟩|⟨x,t,rfl,rfl⟩
  .rcases xM hv with⟨j,u,rfl,rfl⟩|⟨y,u,rfl,rfl⟩
   .rw[SS]at h;exact wpAny_eqBool_int h
   .rw[RL]at h;exact SeqAt.EqAt.int_str i t y u _ _ _ _ h
  .rcases xM hv with⟨j,u,rfl,rfl⟩|⟨y,u,rfl,rfl⟩
   .rw[RM]at h;exact SeqAt.EqAt.str_int x t j u _ _ _ _ h
   .rw[SK]at h;exact wpAny_eqBool_str h
 «strs»:=λk x t v h=>by
  rcases xM h with⟨i,u,rfl,e⟩|⟨y,u,rfl,e⟩
  .exact nomatch e
  .injection e with e1 _
   subst e1;cases v<;>rfl
theorem Yp(prog:Program)(w:World)(i:Int)(t:Tok):(aI prog w).is (.inl i) (.int i t)=true:=Xx i t
theorem Ys(prog:Program)(w:World)(x:Str)(t:Tok):(aI prog w).is (.inr x) (.str x t)=true:=Wj x t
inductive V where
 |non|bl(b:Bool)|int(i:Int)|str(x:Str)|byt(b:Array UInt8)|flt(b:UInt64)|ref(a:Addr)|ty(n:String)
 deriving DecidableEq
def zA:V->Value->Prop
 |.non,u=>u=Value.none
 |.bl b,u=>u=Value.bool b
 |.int i,u=>∃t,u=Value.int i t
 |.str x,u=>∃t,u=Value.str x t
 |.byt b,u=>∃t,u=Value.bytes b t
 |.flt b,u=>∃t,u=Value.float b t
 |.ref a,u=>u=Value.ref a
 |.ty n,u=>u=Value.type n
abbrev zI:List V->List Value->Prop:=Paired zA
theorem zI.length(r:zI xs us):xs.length=us.length:=Paired.length r
theorem zI.get:∀{xs:List V}{us:List Value}{i:Nat}{x:V},zI xs us->xs[i]?=some x->∃u,us[i]?=some u/\zA x u
 |_,_,_,_,.nil,e=>by simp at e
 |_,_,0,_,.cons r _,e=>by simp at e;subst e;exact⟨_,rfl,r⟩
 |_,_,i+1,x,.cons _ t,e=>by obtain⟨u,h1,h2⟩:=zI.get (i:=i) (x:=x) t (by simpa using e);exact⟨u,by simpa using h1,h2⟩
theorem zI.set(r:zA x u):∀{xs:List V}{us:List Value}(i:Nat),zI xs us->zI (xs.set i x) (us.set i u)
 |_,_,_,.nil=>.nil
 |_,_,0,.cons _ t=>.cons r t
 |_,_,i+1,.cons q t=>.cons q (zI.set r i t)
theorem zI.append:∀{xs ys:List V}{us ws:List Value},zI xs us->zI ys ws->zI (xs++ys) (us++ws):=by
 intro xs ys us ws r s;induction r with
 |nil=>exact s
 |cons r _ ih=>exact .cons r ih
theorem zI.take:∀{xs:List V}{us:List Value}(n:Nat),zI xs us->zI (xs.take n) (us.take n)
 |_,_,0,_=>.nil
 |_,_,_+1,.nil=>.nil
 |_,_,n+1,.cons r t=>.cons r (zI.take n t)
theorem zI.drop:∀{xs:List V}{us:List Value}(n:Nat),zI xs us->zI (xs.drop n) (us.drop n)
 |_,_,0,r=>r
 |_,_,_+1,.nil=>.nil
 |_,_,n+1,.cons _ t=>zI.drop n t
theorem zI.none_of:∀{xs:List V}{us:List Value}{i:Nat},zI xs us->xs[i]?=none->us[i]?=none:=λ{xs us i} r e=>by have h1:=r.length;have h2:xs.length<=i:=List.getElem?_eq_none_iff.mp e;exact List.getElem?_eq_none_iff.mpr (by lia)
def iK:Option V->Option Value->Prop
 |some v,some u=>zA v u
 |none,none=>True
 |_,_=>False
def KV{κ:Type}:List (κ×V)->List (κ×Value)->Prop:=Paired λ(p:κ×V)(q:κ×Value)=>p.1=q.1/\zA p.2 q.2
def kV:aR->V
 |.inl i=>.int i
 |.inr x=>.str x
inductive HO where
 |lst(xs:List V)
 |tup(xs:List V)
 |dK(zM:List (aR×V))|dT(zM:List (List aR×V))
 |set(vs:List V)
 |ins(C dx:Addr)(fs:List (Str×V))
 |own(x:Addr)
 |xd(fs:List (Str×V))
 |met(f x:Addr)
 |rng(lo hi:Int)
 |frz(o:Obj)(u:HO)
 |tbl(ps:Array Value)
 |ext(φ:Heap->Prop)
abbrev Hp:=Addr->Option HO
def upd(H:Hp)(a:Addr)(o:HO):Hp:=λb=>if b=a then some o else H b
theorem kJ:upd H a o a=some o:=by unfold upd;rw[za rfl]
theorem cH(h:b≠a):upd H a o b=H b:=by unfold upd;rw[zc h]
theorem MT{H:Hp}(h:H a=some o)(h':H b=some u)(d:o≠u):a≠b:=by grind
theorem tX{H:Hp}(h:H a=some o)(h':H b=none):a≠b:=by intro e;subst e;rw[h]at h';cases h'
section
variable(P:Program)(w:World)
def nU(h:Heap)(a:Addr):Prop:=∀o,h.get? a=some o->o.dict=none
theorem nU.new{h:Heap}{c:Value}{x:Data}{n:Addr}(e:n=h.objs.size)(hx:(h.push {cls:=c,data:=x}).get? h.objs.size=some {cls:=c,data:=x}):nU (h.push {cls:=c,data:=x}) n:=λo q=>by subst e;rw[hx]at q;cases q;rfl
def zK(H:Hp)(h:Heap)(a:Addr):HO->Prop
 |.lst xs=>xs.length<=sizeLine/\∃(zP:List Value)(n:Nat),zI xs zP/\h.get? a=some {cls:=.type "list",data:=.seq zP.toArray n}
 |.tup xs=>(xs.length<=sizeLine/\nU h a)/\∃zP:List Value,zI xs zP/\IsTup h a zP.toArray
 |.dK zM=>zM.length<=sizeLine/\(a==sysModules)=false/\∃vs,KV zM vs/\h.DictOf (aI P w) a vs
 |.dT zM=>zM.length<=sizeLine/\(a==sysModules)=false/\∃xs:List (List aR×Addr×Value),
  Paired (λ(p:List aR×V)(q:List aR×Addr×Value)=>p.1=q.1/\H q.2.1=some (.tup (p.1.map kV))/\zA p.2 q.2.2) zM xs/\
  ∃o es ep,h.get? a=some o/\o.ExactDict/\o.data=.dict es ep/\es.toList=xs.map (entryOfKey (tupleKind (aI P w)))/\(xs.map (·.1)).Nodup
 |.set vs=>vs.length<=151/\((vs=[]/\h.get? a=some (ST.freshSet (ST.ldOf w)))\/(vs≠[]/\∃xs:List (aR×Value),vs.Perm (xs.map λp=>kV p.1)/\ST.VSet (ST.ldOf w) (aI P w) h a xs)\/vs≠[]/\∃xs:List (List aR×Addr),vs.Perm (xs.map λp=>V.ref p.2)/\(∀p∈xs,H p.2=some (.tup (p.1.map kV)))/\ST.TRaw (ST.ldOf w) (tupleKind (aI P w)) h a xs)
 |.ins C dx fs=>H dx=some (.own a)/\fs.length<=1000/\dx≠a/\h.get? a=some (W.instObj C dx)/\
  ∃mA,h.Ns1 dx mA/\(∀f,iK (fs.lookup f) (mA f))/\PySem.Within mA (fs.map (·.1))
 |.own _=>∃o,h.get? a=some o
 |.xd fs=>∃mA,h.Ns1 a mA/\∀f,iK (fs.lookup f) (mA f)
 |.rng lo hi=>∃t u v,h.get? a=some {cls:=.type "range",data:=.fields #[.int lo t,.int hi u,.int 1 v]}
 |.frz o u=>h.get? a=some o/\zK H h a u
 |.tbl ps=>h.get? a=some {cls:=.none,data:=.fields ps}
 |.met f x=>h.get? a=some (W.methodObj (.ref f) (.ref x))
 |.ext φ=>φ h/\(∃o,h.get? a=some o)/\∀h1 h2:Heap,φ h1->(∀o,h1.get? a=some o->h2.get? a=some o)->φ h2
def gR(H:Hp)(h:Heap):Prop:=∀a o,H a=some o->zK P w H h a o
end
section
variable{P:Program}{w:World}{H H':Hp}{h h':Heap}{a:Addr}{o:HO}
theorem zK.lt(x:zK P w H h a o):a<h.objs.size:=by
 cases o with
 |lst xs=>obtain⟨_,_,_,_,e⟩:=x;exact qe e
 |tup xs=>obtain⟨_,_,_,p⟩:=x;exact p.lt
 |dK zM=>obtain⟨_,_,_,_,o,_,_,e,_⟩:=x;exact qe e
 |dT zM=>obtain⟨_,_,_,_,o,_,_,e,_⟩:=x;exact qe e
 |set vs=>
  rcases x with⟨_,⟨_,e⟩|⟨_,_,_,_,_,_,_,e,_⟩|⟨_,_,_,_,_,_,_,_,e,_⟩⟩
  .exact qe e
  .exact qe e
  .exact qe e
 |ins C dx fs=>obtain⟨_,_,_,e,_⟩:=x;exact qe e
 |own y=>obtain⟨_,e⟩:=x;exact qe e
 |xd fs=>obtain⟨_,⟨_,_,_,e,_⟩,_⟩:=x;exact qe e
 |rng lo hi=>obtain⟨_,_,_,e⟩:=x;exact qe e
 |frz ob u=>obtain⟨e,_⟩:=x;exact qe e
 |tbl ps=>exact qe (show h.get? a=some _ from x)
 |met f y=>exact qe (show h.get? a=some _ from x)
 |ext φ=>obtain⟨_,⟨_,e⟩,_⟩:=x;exact qe e
theorem Paired.mapP:∀{l₁:List α}{l₂:List β},Paired F l₁ l₂->(∀a b,F a b->G a b)->Paired G l₁ l₂
 |_,_,.nil,_=>.nil
 |_,_,.cons r t,f=>.cons (f _ _ r) (Paired.mapP t f)
theorem zK.stay(x:zK P w H h a o)(k:∀b u,(b=a\/H b=some (.own a))->h.get? b=some u->h'.get? b=some u)
  (ho:∀b,H b=some (.own a)->H' b=some (.own a))(ht:∀b xs,H b=some (.tup xs)->H' b=some (.tup xs)):zK P w H' h' a o:=by
 induction o with
 |lst xs=>obtain⟨z,zP,n,r,e⟩:=x;exact⟨z,zP,n,r,k _ _ (.inl rfl) e⟩
 |tup xs=>obtain⟨⟨z,nd⟩,zP,r,ob,e,c⟩:=x;exact⟨⟨z,λo q=>by rw[k _ _ (.inl rfl) e]at q;cases q;exact nd _ e⟩,zP,r,ob,k _ _ (.inl rfl) e,c⟩
 |dK zM=>obtain⟨z,y,vs,r,ob,es,ep,e,c⟩:=x;exact⟨z,y,vs,r,ob,es,ep,k _ _ (.inl rfl) e,c⟩
 |dT zM=>obtain⟨z,y,xs,r,ob,es,ep,e,c⟩:=x;exact⟨z,y,xs,Paired.mapP r λp q z=>⟨z.1,ht _ _ z.2.1,z.2.2⟩,ob,es,ep,k _ _ (.inl rfl) e,c⟩
 |set vs=>
  rcases x with⟨z,⟨n,e⟩|⟨n,xs,p,ob,es,ep,t,e,c⟩|⟨n,xs,p,hx,ob,es,ep,t,e,c⟩⟩
  .exact⟨z,.inl ⟨n,k _ _ (.inl rfl) e⟩⟩
  .exact⟨z,.inr (.inl ⟨n,xs,p,ob,es,ep,t,k _ _ (.inl rfl) e,c⟩)⟩
  .exact⟨z,.inr (.inr ⟨n,xs,p,λq hq=>ht _ _ (hx q hq),ob,es,ep,t,k _ _ (.inl rfl) e,c⟩)⟩
 |ins C dx fs=>obtain⟨d,z,ne,e,mA,⟨od,es,ep,e2,c⟩,r⟩:=x;exact⟨ho _ d,z,ne,k _ _ (.inl rfl) e,mA,⟨od,es,ep,k _ _ (.inr d) e2,c⟩,r⟩
 |own y=>obtain⟨ob,e⟩:=x;exact⟨ob,k _ _ (.inl rfl) e⟩
 |xd fs=>obtain⟨mA,⟨od,es,ep,e,c⟩,r⟩:=x;exact⟨mA,⟨od,es,ep,k _ _ (.inl rfl) e,c⟩,r⟩
 |rng lo hi=>obtain⟨t,u,v,e⟩:=x;exact⟨t,u,v,k _ _ (.inl rfl) e⟩
 |frz ob u ih=>obtain⟨e,q⟩:=x;exact⟨k _ _ (.inl rfl) e,ih q⟩
 |tbl ps=>have e:h.get? a=some {cls:=.none,data:=.fields ps}:=x;show h'.get? a=some {cls:=.none,data:=.fields ps};exact k a _ (.inl rfl) e
 |met f y=>have e:h.get? a=some (W.methodObj (.ref f) (.ref y)):=x;show h'.get? a=some (W.methodObj (.ref f) (.ref y));exact k a _ (.inl rfl) e
 |ext φ=>obtain⟨p,⟨o,e⟩,st⟩:=x;exact⟨st _ _ p λo q=>k _ _ (.inl rfl) q,⟨o,k _ _ (.inl rfl) e⟩,st⟩
theorem gR.lt(x:gR P w H h)(e:H a=some o):a<h.objs.size:=(x a o e).lt
theorem gR.fresh(x:gR P w H h)(e:h.objs.size<=a):H a=none:=by
 cases q:H a with
 |none=>rfl
 |some u=>exact absurd (lt_of_lt_of_le (x.lt q) e) (lt_irrefl _)
theorem gR.kept(x:gR P w H h)(k:∀b u,h.get? b=some u->h'.get? b=some u):gR P w H h':=λa o e=>(x a o e).stay (λb u _ q=>k b u q) (λ_ q=>q) λ_ _ q=>q
theorem gR.laid(x:gR P w H h)(k:∀b u,h.get? b=some u->h'.get? b=some u)(hp:h.objs.size<=a)(new:zK P w (upd H a o) h' a o):gR P w (upd H a o) h':=λb u e=>by
 have hn:=x.fresh hp;by_cases hb:b=a
 .subst hb;rw[kJ]at e;cases e;exact new
 .rw[cH hb]at e;exact(x b u e).stay (λc v _ q=>k c v q) (λc q=>by rw[cH (tX q hn)];exact q) λc xs q=>by rw[cH (tX q hn)];exact q
end
def Rd(H:Hp)(a:Addr)(u:HO):Prop:=H a=some u\/∃o,H a=some (.frz o u)
theorem Rd.of(h:H a=some u):Rd H a u:=.inl h
theorem Rd.ok(r:Rd H a u)(x:gR P w H h):zK P w H h a u:=by
 rcases r with r|⟨o,r⟩
 .exact x a u r
 .obtain⟨_,q⟩:=x a _ r;exact q
def Hi:Option HO->Prop
 |some (.lst _)=>True
 |some (.dK _)=>True
 |some (.dT _)=>True
 |some (.set _)=>True
 |some (.ins _ _ _)=>True
 |some (.ext _)=>True
 |_=>False
section
variable{P:Program}{w:World}{H:Hp}{h h':Heap}{x e:Addr}{o':HO}
theorem gR.write(ok:gR P w H h)(mu:Hi (H x))(he:e=x\/H e=some (.own x))(k:∀b u,b≠e->h.get? b=some u->h'.get? b=some u)(heo:∃u,h'.get? e=some u)
  (new:zK P w (upd H x o') h' x o'):gR P w (upd H x o') h':=λb u q=>by
 have nown:∀c y,H c=some (.own y)->c≠x:=λc y r z=>by subst z;rw[r]at mu;exact mu
 have ntup:∀c xs,H c=some (.tup xs)->c≠x:=λc xs r z=>by subst z;rw[r]at mu;exact mu
 by_cases hb:b=x
 .subst hb;rw[kJ]at q;cases q;exact new
 .rw[cH hb]at q;by_cases hbe:b=e
  .have q':H b=some (.own x):=by grind
   rw[q]at q';cases q';obtain⟨v,hv⟩:=heo;exact⟨v,by rw[hbe];exact hv⟩
  .refine(ok b u q).stay (λc v hc r=>k c v ?_ r) (λc r=>by rw[cH (nown c b r)];exact r) λc xs r=>by rw[cH (ntup c xs r)];exact r
   grind
end
structure Un(fs ex:List Addr)(H H':Hp)(h h':Heap):Prop where
 keep:∀b o,h.get? b=some o->H b=none->b∉fs->b∉ex->h'.get? b=some o
 slot:∀b o,h.get? b=some o->H b=none->b∈fs->b∉ex->∃sl,h'.get? b=some {o with slots:=sl}
 free:∀b o,h.get? b=some o->H b=none->b∉ex->H' b=none
 there:∀b o,h.get? b=some o->b∉ex->∃o',h'.get? b=some o'
 tups:∀b xs,H b=some (.tup xs)->H' b=some (.tup xs)
 frzs:∀b o u,H b=some (.frz o u)->H' b=some (.frz o u)
 tbls:∀b ps,H b=some (.tbl ps)->∃more,H' b=some (.tbl (ps++more))
section
variable{fs fs' ex ex':List Addr}{H H1 H2:Hp}{h h1 h2 h':Heap}{a x e:Addr}{o:HO}
theorem Un.any(u:Un fs ex H H1 h h1)(q:h.get? b=some ob)(n:H b=none)(hx:b∉ex):∃sl,h1.get? b=some {ob with slots:=sl}:=by
 by_cases hb:b∈fs
 .exact u.slot b ob q n hb hx
 .exact⟨ob.slots,u.keep b ob q n hb hx⟩
theorem Un.kept(k:∀b u,h.get? b=some u->h'.get? b=some u):Un fs ex H H h h':=
 ⟨λb ob q _ _ _=>k b ob q,λb ob q _ _ _=>⟨ob.slots,k b ob q⟩,λ_ _ _ n _=>n,λb ob q _=>⟨ob,k b ob q⟩,λ_ _ q=>q,λ_ _ _ q=>q,λ_ ps q=>⟨#[],by rw[q];simp⟩⟩
theorem Un.refl:Un fs ex H H h h:=Un.kept λ_ _ q=>q
theorem Un.laid(k:∀b u,h.get? b=some u->h'.get? b=some u)(hp:h.objs.size<=a)(hn:H a=none):Un fs ex H (upd H a o) h h' where
 keep:=λb u q _ _ _=>k b u q
 slot:=λb u q _ _ _=>⟨u.slots,k b u q⟩
 free:=λb u q n _=>by rw[cH (ne_of_lt (lt_of_lt_of_le (qe q) hp))];exact n
 there:=λb u q _=>⟨u,k b u q⟩
 tups:=λb xs q=>by rw[cH (tX q hn)];exact q
 frzs:=λb u xs q=>by rw[cH (tX q hn)];exact q
 tbls:=λb ps q=>⟨#[],by rw[cH (tX q hn),q];simp⟩
theorem Un.write(mu:Hi (H x))(he:e=x\/H e=some (.own x))(k:∀b u,b≠e->h.get? b=some u->h'.get? b=some u)(heo:∃u,h'.get? e=some u):Un fs ex H (upd H x o) h h':=by
 have hx:∀b,H b=none->b≠x:=λb n z=>by subst z;rw[n]at mu;exact mu
 have hb:∀b,H b=none->b≠e:=λb n z=>by grind
 have hm:∀b u,H b=some u->¬Hi (some u)->b≠x:=λb u q nm z=>by subst z;rw[q]at mu;exact nm mu
 refine⟨λb u q n _ _=>k b u (hb b n) q,λb u q n _ _=>⟨u.slots,k b u (hb b n) q⟩,λb u q n _=>by rw[cH (hx b n)];exact n,λb u q _=>?_,
  λb xs q=>by rw[cH (hm b _ q λz=>z)];exact q,λb u xs q=>by rw[cH (hm b _ q λz=>z)];exact q,λb ps q=>⟨#[],by rw[cH (hm b _ q λz=>z),q];simp⟩⟩
 grind
end
def KI(h:Heap)(H:Hp):List Addr:=(List.range h.objs.size).filter λa=>(H a).isSome
def mH(h:Heap)(H:Hp):Heap:=W.hideAll h (KI h H)
theorem XG(h:Heap)(H:Hp):(mH h H).objs.size=h.objs.size:=W.hideAll_size _ _
theorem UR(e:h.get? b=some o)(n:H b=none):(mH h H).get? b=some o:=
 W.hideAll_get _ e λhm=>by have q:(H b).isSome=true:=(mem_filter.mp hm).2;rw[n]at q;simp at q
theorem TR(e:(mH h H).get? b=some o):h.get? b=some o/\H b=none:=by
 have e':h.get? b=some o:=W.of_hideAll (KI h H) e;refine⟨e',?_⟩;cases q:H b with
 |none=>rfl
 |some x=>grind[KI,mem_filter,mem_range,Heap.lt_size,mH,W.hideAll_none]
def AH(g h:Heap)(L:Addr):List (Addr×Obj):=(List.range h.objs.size).filterMap λa=>if a=L\/(g.get? a).isSome=true then none else(h.get? a).map λo=>(a,o)
def rest(g h:Heap)(L d:Addr):List (Addr×Obj):=(AH g h L).filter λp=>decide (p.1≠d)
structure Mod(K:W.Frag)(mg:Str->Option Value)(base:Heap):Prop where
 kin:K.In base
 glob:base.Ns mainGlobals mg
 blt:∃mb,base.Ns builtinsNs mb/\∀x:Str,x≠"__name__"->mb x=bootBuiltins x
 nolimit:base.NoLimit
structure Cx where
 prog:Program
 w:World
 K:W.Frag
 mg:Str->Option Value
 base:Heap
 A:Around
 N:List Str
 s₀:Shared
 H₀:Hp
 env:Env
 outer:List Env
 stack:List Env
 ex:List Addr
 fn:Str->Bool
 calm:Bool
 pn:List (Addr×Obj)
 xe:zo
def wN(l:List Env):List Addr:=l.filterMap (·.frame)
abbrev Cx.fs(X:Cx):List Addr:=wN X.outer
def GY(sc:Scope)(x:Str):Prop:=sc.names.lookup x=some .local\/sc.names.lookup x=some .cell\/sc.names.lookup x=some .free
def Loc(sc:Scope)(x:Str):Prop:=sc.names.lookup x=some .local\/sc.names.lookup x=some .cell
def Look(env:Env)(h:Heap)(m:Str->Option Value)(x:Str)(u:Value):Prop:=
 (env.kindOf x=some .local/\m x=some u)\/((env.kindOf x=some .cell\/env.kindOf x=some .free)/\∃c,env.cells.lookup x=some c/\h.IsCell c (some u))
structure Cx.Ok(X:Cx):Prop where
 mod:Mod X.K X.mg X.base
 kind:X.env.scope.kind=.function
 glob:X.env.globals=mainGlobals
 blt:X.env.builtins=builtinsNs
 above:X.s₀.heap.objs.size<=X.env.locals
 inj:∀x y c,X.env.cells.lookup x=some c->X.env.cells.lookup y=some c->x=y
 has:∀x,(X.env.kindOf x=some .cell\/X.env.kindOf x=some .free)->∃c,X.env.cells.lookup x=some c
 cab:∀x c,X.fn x=true->X.env.cells.lookup x=some c->X.s₀.heap.objs.size<=c
 hd:X.calm=true->X.A.handled=none
 frames:X.A.frames=some X.stack
 stk:X.stack=X.outer\/(X.stack=X.env::X.outer/\X.env.frame=some X.env.locals)
 exf:∀b∈X.ex,b≠X.env.locals/\∀x c,X.env.cells.lookup x=some c->c≠b
 bs:∀b o,X.base.get? b=some o->X.s₀.heap.get? b=some o/\X.H₀ b=none
 bsz:X.base.objs.size<=X.s₀.heap.objs.size
 noex:∀b o,X.base.get? b=some o->b∉X.ex
 exfs:∀b∈X.ex,b∉X.fs
 funs:X.s₀.heap.FunFrames X.base X.outer
 frf:∀b∈X.fs,X.H₀ b=none
structure Inv(X:Cx)(zL:List (Addr×Obj))(Z:List (Option V))(H:Hp)(s:Shared):Prop where
 ok:X.Ok
 os:s.os=X.s₀.os
 bare:AllBare s.gens
 base:Un X.fs X.ex X.H₀ H X.s₀.heap s.heap
 loc:∃m,s.heap.Ns X.env.locals m/\∀(i:Nat)(x:Str)(v:V),X.N[i]?=some x->Z[i]?=some (some v)->GY X.env.scope x->∃u,zA v u/\Look X.env s.heap m x u
 cell:∀x c,X.env.cells.lookup x=some c->∃v,s.heap.IsCell c v
 free:H X.env.locals=none
 freeC:∀x c,X.env.cells.lookup x=some c->H c=none
 pin:∀p∈X.pn++zL,s.heap.get? p.1=some p.2/\H p.1=none/\p.1≠X.env.locals/\p.1∉X.fs/\∀v,p.2.data≠.cell v
 hok:gR X.prog X.w H s.heap
 len:Z.length=X.N.length
section
variable{X:Cx}{zL:List (Addr×Obj)}{Z:List (Option V)}{H H':Hp}{s:Shared}{h':Heap}
theorem Cx.Ok.nofr(ok:X.Ok)(e:X.base.get? b=some o):b∉X.fs:=λhb=>by have:=(ok.funs.mem hb).1;rw[e]at this;cases this
theorem Inv.bs(I:Inv X zL Z H s):∀b o,X.base.get? b=some o->s.heap.get? b=some o/\H b=none:=λb o e=>⟨I.base.keep b o (I.ok.bs b o e).1 (I.ok.bs b o e).2 (I.ok.nofr e) (I.ok.noex b o e),I.base.free b o (I.ok.bs b o e).1 (I.ok.bs b o e).2 (I.ok.noex b o e)⟩
theorem Inv.bk(I:Inv X zL Z H s):∀b o,X.base.get? b=some o->s.heap.get? b=some o:=λb o e=>(I.bs b o e).1
theorem Inv.mod(I:Inv X zL Z H s):Mod X.K X.mg X.base:=I.ok.mod
theorem Inv.kIn(I:Inv X zL Z H s):X.K.In s.heap:=I.ok.mod.kin.keeps I.bk
theorem Inv.lt(I:Inv X zL Z H s):X.env.locals<s.heap.objs.size:=let⟨_,hn,_⟩:=I.loc;hn.lt
theorem Inv.sz(I:Inv X zL Z H s):X.s₀.heap.objs.size<=s.heap.objs.size:=le_trans I.ok.above (le_of_lt I.lt)
theorem Inv.nofs(I:Inv X zL Z H s)(h:s.heap.objs.size<=a):a∉X.fs:=λhb=>by obtain⟨_,o,ho,_⟩:=I.ok.funs.mem hb;exact absurd (lt_of_lt_of_le (qe ho) (le_trans I.sz h)) (lt_irrefl _)
theorem Inv.cne(I:Inv X zL Z H s):∀x c,X.env.cells.lookup x=some c->c≠X.env.locals:=λx c e z=>by obtain⟨v,o,ho,hd⟩:=I.cell x c e;obtain⟨m,⟨o',es,ep,ho',hd',_⟩,_⟩:=I.loc;rw[z,ho']at ho;cases ho;rw[hd']at hd;cases hd
theorem Inv.funs(I:Inv X zL Z H s):s.heap.FunFrames X.base X.outer:=by
 have all:∀(l:List Env),(∀b∈wN l,b∈X.fs)->X.s₀.heap.FunFrames X.base l->s.heap.FunFrames X.base l:=by
  intro l;induction l with
  |nil=>intro _ _;trivial
  |cons env r ih=>intro hs hl;obtain⟨hk,⟨L,o,hf,hn,ho,hd⟩,hr⟩:=hl;have hL:L∈X.fs:=hs L (by unfold wN;rw[filterMap_cons,hf];exact qo);obtain⟨sl,e⟩:=I.base.slot L o ho (I.ok.frf L hL) hL λz=>I.ok.exfs L z hL;exact⟨hk,⟨L,_,hf,hn,e,hd⟩,ih (λb hb=>hs b (by unfold wN;rw[filterMap_cons,hf];exact qm _ hb)) hr⟩
 exact all X.outer (λ_ hb=>hb) I.ok.funs
theorem Inv.stack(I:Inv X zL Z H s):s.heap.FunFrames X.base X.stack:=by
 rcases I.ok.stk with e|⟨e,hf⟩
 .rw[e];exact I.funs
 .rw[e];obtain⟨m,hn,_⟩:=I.loc;refine .cons (by rw[I.ok.kind];decide) hf hn ?_ I.funs;exact Heap.get?_none_of_le (le_trans I.ok.bsz I.ok.above)
theorem Inv.stkSub(I:Inv X zL Z H s):∀b∈wN X.stack,b∈X.env.locals::X.fs:=λb hb=>by
 rcases I.ok.stk with e|⟨e,hf⟩
 .rw[e]at hb;exact qm _ hb
 .rw[e]at hb;unfold wN at hb;rw[filterMap_cons,hf]at hb;exact hb
theorem Inv.stkFree(I:Inv X zL Z H s):∀b∈wN X.stack,H b=none:=λb hb=>by
 rcases qD.mp (I.stkSub b hb)with e|hb
 .rw[e];exact I.free
 .obtain⟨_,o,ho,_⟩:=I.ok.funs.mem hb;exact I.base.free b o ho (I.ok.frf b hb) λz=>I.ok.exfs b z hb
theorem Inv.step{ch:List Addr}(I:Inv X zL Z H s)
  (hch:∀b∈ch,(b∈X.ex\/X.s₀.heap.get? b=none)/\b≠X.env.locals/\(∀x c,X.env.cells.lookup x=some c->c≠b)/\∀p∈X.pn++zL,p.1≠b)
  (keep:∀b o,b≠X.env.locals->b∉X.fs->b∉ch->s.heap.get? b=some o->H b=none->h'.get? b=some o)
  (slot:∀b o,b≠X.env.locals->b∈X.fs->b∉ch->s.heap.get? b=some o->H b=none->∃sl,h'.get? b=some {o with slots:=sl})(free:∀b o,b∉ch->s.heap.get? b=some o->H b=none->H' b=none)
  (there:∀b o,b∉ch->s.heap.get? b=some o->∃o',h'.get? b=some o')
  (tups:∀b xs,H b=some (.tup xs)->H' b=some (.tup xs))(frzs:∀b o u,H b=some (.frz o u)->H' b=some (.frz o u))(tbls:∀b ps,H b=some (.tbl ps)->∃more,H' b=some (.tbl (ps++more)))
  (ns:∀m,s.heap.Ns X.env.locals m->h'.Ns X.env.locals m)(hok:gR X.prog X.w H' h')(hg:AllBare g'):
  Inv X zL Z H' {s with heap:=h',gens:=g',drawn:=d',toks:=t'}:=by
 have neL:∀b o,X.s₀.heap.get? b=some o->b≠X.env.locals:=λb o e=>ne_of_lt (lt_of_lt_of_le (qe e) I.ok.above);have neC:∀b o,X.s₀.heap.get? b=some o->b∉X.ex->b∉ch:=λb o e hx hb=>by
  rcases(hch b hb).1 with z|z
  .exact hx z
  .rw[z]at e;cases e
 have cellK:∀x c,X.env.cells.lookup x=some c->∀v,s.heap.IsCell c v->h'.IsCell c v:=λx c e v⟨o,ho,hd⟩=>by
  have nch:c∉ch:=λz=>(hch c z).2.2.1 x c e rfl;by_cases hc:c∈X.fs
  .obtain⟨sl,q⟩:=slot c o (I.cne x c e) hc nch ho (I.freeC x c e);exact⟨_,q,hd⟩
  .exact⟨o,keep c o (I.cne x c e) hc nch ho (I.freeC x c e),hd⟩
 refine⟨I.ok,I.os,hg,⟨λb o e n hb hx=>?_,λb o e n hb hx=>?_,λb o e n hx=>?_,λb o e hx=>?_,λb xs e=>tups b xs (I.base.tups b xs e),λb o xs e=>frzs b o xs (I.base.frzs b o xs e),λb ps e=>?_⟩,?_,λx c e=>?_,?_,λx c e=>?_,λp hp=>?_,hok,I.len⟩
 .exact keep b o (neL b o e) hb (neC b o e hx) (I.base.keep b o e n hb hx) (I.base.free b o e n hx)
 .obtain⟨sl,e1⟩:=I.base.slot b o e n hb hx;obtain⟨sl',e2⟩:=slot b _ (neL b o e) hb (neC b o e hx) e1 (I.base.free b o e n hx);exact⟨sl',e2⟩
 .obtain⟨o',e1⟩:=I.base.there b o e hx;exact free b o' (neC b o e hx) e1 (I.base.free b o e n hx)
 .obtain⟨o',e1⟩:=I.base.there b o e hx;exact there b o' (neC b o e hx) e1
 .obtain⟨m1,e1⟩:=I.base.tbls b ps e;obtain⟨m2,e2⟩:=tbls b _ e1;exact⟨m1++m2,by rw[e2,Array.append_assoc]⟩
 .obtain⟨m,hn,hl⟩:=I.loc;refine⟨m,ns m hn,λi x v e1 e2 e3=>?_⟩;obtain⟨u,r,l⟩:=hl i x v e1 e2 e3;refine⟨u,r,?_⟩;rcases l with l|⟨k,c,e,z⟩
  .exact .inl l
  .exact .inr ⟨k,c,e,cellK x c e _ z⟩
 .obtain⟨v,z⟩:=I.cell x c e;exact⟨v,cellK x c e v z⟩
 .obtain⟨m,⟨o,_,_,ho,_⟩,_⟩:=I.loc;exact free _ o (λz=>(hch _ z).2.1 rfl) ho I.free
 .obtain⟨v,o,ho,hd⟩:=I.cell x c e;exact free c o (λz=>(hch c z).2.2.1 x c e rfl) ho (I.freeC x c e)
 .obtain⟨e,n,ne,nf,d⟩:=I.pin p hp;have nch:p.1∉ch:=λz=>(hch p.1 z).2.2.2 p hp rfl;exact⟨keep p.1 p.2 ne nf nch e n,free p.1 p.2 nch e n,ne,nf,d⟩
theorem Inv.un(I:Inv X zL Z H s)(u:Un X.fs [] H H' s.heap h')(hok:gR X.prog X.w H' h'):Inv X zL Z H' {s with heap:=h',toks:=t'}:=by obtain⟨m,⟨o,es,ep,ho,r⟩,_⟩:=id I.loc;obtain⟨sl,hL⟩:=u.any ho I.free (by simp);exact I.step (g':=s.gens) (d':=s.drawn) (ch:=[]) (λ_ z=>nomatch z) (λb o _ hb _ e n=>u.keep b o e n hb (by simp)) (λb o _ hb _ e n=>u.slot b o e n hb (by simp)) (λb o _ e n=>u.free b o e n (by simp)) (λb o _ e=>u.there b o e (by simp)) u.tups u.frzs u.tbls (λm' hm=>by obtain⟨o',es',ep',ho',r'⟩:=hm;rw[ho]at ho';cases ho';exact⟨_,es',ep',hL,r'⟩) hok I.bare
theorem Inv.call(I:Inv X zL Z H s)(u:Un (wN X.stack) ch H H' s.heap h')(hok:gR X.prog X.w H' h')(hg:AllBare g')
  (hch:∀b∈ch,(b∈X.ex\/X.s₀.heap.get? b=none)/\b≠X.env.locals/\(∀x c,X.env.cells.lookup x=some c->c≠b)/\∀p∈X.pn++zL,p.1≠b):
  Inv X zL Z H' {s with heap:=h',gens:=g',drawn:=d',toks:=t'}:=by
 obtain⟨m,⟨o,es,ep,ho,r⟩,_⟩:=id I.loc;obtain⟨sl,hL⟩:=u.any ho I.free λz=>(hch _ z).2.1 rfl;exact I.step (ch:=ch) hch (λb o hL hb hc e n=>u.keep b o e n (λz=>(qD.mp (I.stkSub b z)).elim hL hb) hc) (λb o _ _ hc e n=>u.any e n hc) (λb o hc e n=>u.free b o e n hc) (λb o hc e=>u.there b o e hc) u.tups u.frzs u.tbls (λm' hm=>by obtain⟨o',es',ep',ho',r'⟩:=hm;rw[ho]at ho';cases ho';exact⟨_,es',ep',hL,r'⟩) hok hg
theorem Inv.turned(I:Inv X zL Z H s)(k:∀b o,b≠it->s.heap.get? b=some o->h'.get? b=some o)(hn:H it=none)(hL:it≠X.env.locals)
  (h1:it∈X.ex\/X.s₀.heap.get? it=none)(h2:∀x c,X.env.cells.lookup x=some c->c≠it)(h3:∀p∈X.pn++zL,p.1≠it):Inv X zL Z H {s with heap:=h',toks:=t'}:=by
 have nit:∀b u,H b=some u->b≠it:=λb u e z=>by rw[z,hn]at e;cases e
 refine I.step (g':=s.gens) (d':=s.drawn) (ch:=[it]) (λb hb=>?_) (λb o _ _ hc e _=>k b o (λz=>hc (by simp[z])) e) (λb o _ _ hc e _=>⟨o.slots,k b o (λz=>hc (by simp[z])) e⟩) (λ_ _ _ _ n=>n)
  (λb o hc e=>⟨o,k b o (λz=>hc (by simp[z])) e⟩) (λ_ _ e=>e) (λ_ _ _ e=>e) (λb ps e=>⟨#[],by rw[e];simp⟩) (λm hm=>?_) (λb u e=>?_) I.bare
 .have e:b=it:=by simpa using hb
  subst e;exact⟨h1,hL,h2,h3⟩
 .obtain⟨o,es,ep,ho,r⟩:=hm;exact⟨o,es,ep,k _ o (Ne.symm hL) ho,r⟩
 .refine(I.hok b u e).stay (λc v hc q=>k c v ?_ q) (λ_ q=>q) λ_ _ q=>q;rcases hc with z|z
  .rw[z];exact nit b u e
  .exact nit c _ z
theorem Inv.tok(I:Inv X zL Z H s)(t:Nat):Inv X zL Z H {s with toks:=t}:=I.un (h':=s.heap) (t':=t) Un.refl I.hok
theorem Inv.kept(I:Inv X zL Z H s)(k:∀b u,s.heap.get? b=some u->h'.get? b=some u):Inv X zL Z H {s with heap:=h',toks:=t'}:=I.un (Un.kept k) (I.hok.kept k)
theorem Inv.laid(I:Inv X zL Z H s)(k:∀b u,s.heap.get? b=some u->h'.get? b=some u)(hp:s.heap.objs.size<=a)(new:zK X.prog X.w (upd H a o) h' a o):
  Inv X zL Z (upd H a o) {s with heap:=h',toks:=t'}:=I.un (Un.laid k hp (I.hok.fresh hp)) (I.hok.laid k hp new)
theorem Inv.write(I:Inv X zL Z H s)(mu:Hi (H x))(he:e=x\/H e=some (.own x))(k:∀b u,b≠e->s.heap.get? b=some u->h'.get? b=some u)(heo:∃u,h'.get? e=some u)
  (new:zK X.prog X.w (upd H x o) h' x o):Inv X zL Z (upd H x o) {s with heap:=h',toks:=t'}:=I.un (Un.write mu he k heo) (I.hok.write mu he k heo new)
theorem Inv.pins_of(I:Inv X zL Z H s)(h:∀p∈pins',s.heap.get? p.1=some p.2/\H p.1=none/\p.1≠X.env.locals/\p.1∉X.fs/\∀v,p.2.data≠.cell v):Inv X pins' Z H s:=
 ⟨I.ok,I.os,I.bare,I.base,I.loc,I.cell,I.free,I.freeC,λp hp=>(qA.mp hp).elim (λz=>I.pin p (qk _ z)) (h p),I.hok,I.len⟩
theorem HS{N:List Str}(hN:N.Nodup){i j:Nat}(a:N[i]?=some x)(b:N[j]?=some x):i=j:=by obtain⟨h1,e1⟩:=qh.mp a;obtain⟨h2,e2⟩:=qh.mp b;exact(List.getElem_inj hN).mp (e1.trans e2.symm)
theorem Inv.call'(I:Inv X zL Z H s)(ho:s'.os=s.os)(u:Un (wN X.stack) ch H H' s.heap s'.heap)(hok:gR X.prog X.w H' s'.heap)(hg:AllBare s'.gens)
  (hch:∀b∈ch,(b∈X.ex\/X.s₀.heap.get? b=none)/\b≠X.env.locals/\(∀x c,X.env.cells.lookup x=some c->c≠b)/\∀p∈X.pn++zL,p.1≠b):Inv X zL Z H' s':=by
 obtain⟨h',g',d',t',o'⟩:=s';have e:o'=s.os:=ho;subst e;exact I.call (g':=g') (t':=t') (d':=d') u hok hg hch
end
abbrev XK:=Value->Option Addr->Hp->Prop
abbrev St:=List (Option V)
abbrev VK:=V->Hp->Prop
abbrev TE:=St->Hp->VK->Prop
abbrev TT:=St->Hp->(Bool->Hp->Prop)->Prop
abbrev TA:=St->Hp->(List V->Hp->Prop)->Prop
structure Ends where
 nx:St->Hp->Prop
 rt:VK
 bk:St->Hp->Prop:=λ_ _=>False
 ct:St->Hp->Prop:=λ_ _=>False
abbrev TS:=Ends->St->Hp->Prop
inductive EP(X:Cx)(zL:List (Addr×Obj))(Z:St)(Q:VK)(u:Value)(s':Shared):Prop
 |mk (v:V) (H':Hp):Inv X zL Z H' s'->zA v u->Q v H'->EP X zL Z Q u s'
inductive TP(X:Cx)(zL:List (Addr×Obj))(Z:St)(Q:Bool->Hp->Prop)(b:Bool)(s':Shared):Prop
 |mk (H':Hp):Inv X zL Z H' s'->Q b H'->TP X zL Z Q b s'
inductive AP(X:Cx)(zL:List (Addr×Obj))(Z:St)(Q:List V->Hp->Prop)(us:List Value)(s':Shared):Prop
 |mk (vs:List V) (H':Hp):Inv X zL Z H' s'->zI vs us->Q vs H'->AP X zL Z Q us s'
def SP(X:Cx)(zL:List (Addr×Obj))(D:Ends)(f:Flow)(s':Shared):Prop:=
 match f with
 |.next=>∃Z' H',Inv X zL Z' H' s'/\D.nx Z' H'
 |.brk=>∃Z' H',Inv X zL Z' H' s'/\D.bk Z' H'
 |.cont=>∃Z' H',Inv X zL Z' H' s'/\D.ct Z' H'
 |.ret u=>∃v Z' H',Inv X zL Z' H' s'/\zA v u/\D.rt v H'
def PE(X:Cx)(e:Expr)(t:TE):Prop:=
 ∀(zL:List (Addr×Obj))(s:Shared)(Z:St)(H:Hp)(Q:VK),Inv X zL Z H s->t Z H Q->wpAny (model X.prog X.w) X.A (eval e X.env) (EP X zL Z Q) X.xe s
def PT(X:Cx)(e:Expr)(t:TT):Prop:=
 ∀(zL:List (Addr×Obj))(s:Shared)(Z:St)(H:Hp)(Q:Bool->Hp->Prop),Inv X zL Z H s->t Z H Q->wpAny (model X.prog X.w) X.A (isTrue e X.env (eval e X.env)) (TP X zL Z Q) X.xe s
def PW(X:Cx)(e:Expr)(t:TT):Prop:=
 ∀(whole:Sem Value)(zL:List (Addr×Obj))(s:Shared)(Z:St)(H:Hp)(Q:Bool->Hp->Prop),Inv X zL Z H s->t Z H Q->wpAny (model X.prog X.w) X.A (isTrue e X.env whole) (TP X zL Z Q) X.xe s
theorem PW.pt(h:PW X e t):PT X e t:=h _
def PA(X:Cx)(es:List Expr)(t:TA):Prop:=
 ∀(pos:Pos)(zL:List (Addr×Obj))(s:Shared)(Z:St)(H:Hp)(Q:List V->Hp->Prop),Inv X zL Z H s->t Z H Q->wpAny (model X.prog X.w) X.A (spliced (backTo pos (starEach es X.env))) (AP X zL Z Q) X.xe s
def PS(X:Cx)(st:Stmt)(t:TS):Prop:=
 ∀(zL:List (Addr×Obj))(s:Shared)(Z:St)(H:Hp)(D:Ends),Inv X zL Z H s->t D Z H->wpAny (model X.prog X.w) X.A (exec st X.env) (SP X zL D) X.xe s
def nY(X:Cx)(st:List Stmt)(t:TS):Prop:=
 ∀(zL:List (Addr×Obj))(s:Shared)(Z:St)(H:Hp)(D:Ends),Inv X zL Z H s->t D Z H->wpAny (model X.prog X.w) X.A (execs st X.env) (SP X zL D) X.xe s
theorem cB(h:wpAny M A t Q E s)(hQ:∀a s,Q a s->Q' a s):wpAny M A t Q' E s:=zm h hQ λ_ _ x=>x
section
variable{X:Cx}
def KJ(i:Nat):TE:=λZ H Q=>∃v,Z[i]?=some (some v)/\Q v H
def tC(v:V):TE:=λ_ H Q=>Q v H
theorem RQ(hN:X.N[i]?=some x)(hv:GY X.env.scope x)(hd:(x==("__debug__":Str))=false:=by decide)(hcd:(x==("__classdict__":Str))=false:=by decide):PE X (.Name x pos) (KJ i):=by
 intro zL s Z H Q I h;obtain⟨v,e,h⟩:=h;obtain⟨m,hn,hl⟩:=I.loc;obtain⟨u,r,l⟩:=hl i x v hN e hv;have fin:EP X zL Z Q u s:=⟨v,H,I,r,h⟩
 rcases l with⟨hk,hm⟩|⟨hk,c,hc,hcell⟩
 .exact wpAny_Name (wpAny_loadName_local I.ok.kind hk hn hm fin) hd
 .rcases hk with hk|hk
  .exact wpAny_Name (wpAny_loadName_cell I.ok.kind hk hc hcell fin) hd
  .exact wpAny_Name (wpAny_loadName_free I.ok.kind hk hc hcell fin hcd) hd
theorem Sm:PE X (.Constant (.int i) j pos) (tC (.int i)):=λ_ _ _ H _ I h=>wpAny_Constant_int ⟨.int i,H,I.tok _,⟨_,rfl⟩,h⟩
theorem RK:PE X (.Constant .none j pos) (tC .non):=λ_ _ _ H _ I h=>Constant_none ⟨.non,H,I,rfl,h⟩
theorem SI:PE X (.Constant (.str x) j pos) (tC (.str x)):=λ_ _ _ H _ I h=>Calls.Constant_str ⟨.str x,H,I.tok _,⟨_,rfl⟩,h⟩
def Gl(X:Cx)(x:Str):Prop:=X.env.kindOf x=some .globalImplicit
theorem TM(I:Inv X zL Z H s)(hg:Gl X x)(hm:X.mg x=some u)(h:Q u s)
  (hd:(x==("__debug__":Str))=false:=by decide):wpAny (model X.prog X.w) X.A (eval (.Name x pos) X.env) Q E s:=
 Calls.Name_function_global I.ok.kind hg (Calls.loadGlobal_global (by rw[I.ok.glob];exact I.mod.glob.keeps I.bk) hm h) hd
theorem Ee(I:Inv X zL Z H s)(hg:Gl X x)(hm:X.mg x=none)(hv:bootBuiltins x=some u)(h:Q u s)
  (hn:x≠"__name__":=by decide)(hd:(x==("__debug__":Str))=false:=by decide):wpAny (model X.prog X.w) X.A (eval (.Name x pos) X.env) Q E s:=by
 obtain⟨mb,h1,h2⟩:=I.mod.blt;exact Calls.Name_function_global I.ok.kind hg (Calls.loadGlobal_builtin (by rw[I.ok.glob];exact I.mod.glob.keeps I.bk) hm (by rw[I.ok.blt];exact h1.keeps I.bk) ((h2 x hn).trans hv) h) hd
variable{a b:Expr}{ta tb:TE}{pos:Pos}
theorem vO(b:Expr)(h:op≠.In)(h2:op≠.NotIn):behindInMarks op b=false:=by
 have e1:(op==CmpOp.In)=false:=by cases op<;>first|rfl|exact absurd rfl h
 have e2:(op==CmpOp.NotIn)=false:=by cases op<;>first|rfl|exact absurd rfl h2
 cases b<;>first|rfl|(show(_&&(op==.In||op==.NotIn)&&_)=false;rw[e1,e2,Bool.or_false,Bool.and_false];rfl)
variable{tA tB':TT}{rest:List Expr}
def KW(t u:TT):TT:=λZ H Q=>t Z H λc H1=>if c=true then u Z H1 Q else Q false H1
theorem Tw(ha:PT X a tA):PW X (.BoolOp .And [a] pos) tA:=by
 intro wh zL s Z H Q I h;refine isTrue_and (cB (ha zL s Z H Q I h) λc s1 e=>?_);cases c with
 |true=>exact isTrue_and_nil e
 |false=>exact e
theorem RD(ha:PT X a tA)(hb:PW X (.BoolOp .And (b::rest) pos) tB'):PW X (.BoolOp .And (a::b::rest) pos) (KW tA tB'):=by
 intro wh zL s Z H Q I h;refine isTrue_and (cB (ha zL s Z H _ I h) λc s1 zq=>?_);obtain⟨H1,I1,q1⟩:=zq;cases c with
 |true=>exact hb wh zL s1 Z H1 Q I1 q1
 |false=>exact⟨H1,I1,q1⟩
def YN(t:TT)(ta tb:TE):TE:=λZ H Q=>t Z H λc H1=>if c=true then ta Z H1 Q else tb Z H1 Q
theorem VI(hc:PT X c tA)(ha:PE X a ta)(hb:PE X b tb):PE X (.IfExp c a b pos) (YN tA ta tb):=by
 intro zL s Z H Q I h;refine wpAny_IfExp (cB (hc zL s Z H _ I h) λd s1 zq=>?_);obtain⟨H1,I1,q1⟩:=zq;cases d with
 |true=>exact ha zL s1 Z H1 Q I1 q1
 |false=>exact hb zL s1 Z H1 Q I1 q1
end
def cA(K:W.Frag)(H:Hp)(a:Addr)(xs:List V):Prop:=
 Rd H a (.lst xs)\/
  ∃(o:Obj)(zP:Array Value)(n:Nat),K.lookup a=some o/\o.cls=.type "list"/\o.dict=none/\o.data=.seq zP n/\zP.size<=sizeLine/\zI xs zP.toList
def bX(K:W.Frag)(H:Hp)(a:Addr)(xs:List V):Prop:=
 Rd H a (.tup xs)\/
  ∃(o:Obj)(zP:Array Value)(n:Nat),K.lookup a=some o/\o.cls=.type "tuple"/\o.data=.seq zP n/\zP.size<=sizeLine/\zI xs zP.toList
def MD:Value->Option V
 |.none=>some .non
 |.bool b=>some (.bl b)
 |.int i _=>some (.int i)
 |.str x _=>some (.str x)
 |.bytes b _=>some (.byt b)
 |.float b _=>some (.flt b)
 |.ref a=>some (.ref a)
 |.type n=>some (.ty n)
 |_=>none
theorem zA.abs(r:zA x u):MD u=some x:=by
 cases x with
 |non=>cases r;rfl
 |bl _=>cases r;rfl
 |int _=>obtain⟨t,rfl⟩:=r;rfl
 |str _=>obtain⟨t,rfl⟩:=r;rfl
 |byt _=>obtain⟨t,rfl⟩:=r;rfl
 |flt _=>obtain⟨t,rfl⟩:=r;rfl
 |ref _=>cases r;rfl
 |ty _=>cases r;rfl
theorem zA.inj(r:zA x u)(q:zA y u):x=y:=qg (r.abs.symm.trans q.abs)
theorem zI.inj:∀{xs ys:List V}{us:List Value},zI xs us->zI ys us->xs=ys:=by
 intro xs ys us r q;induction r generalizing ys with
 |nil=>cases q;rfl
 |cons r _ ih=>cases q with
  |cons r' t'=>rw[r.inj r',ih t']
inductive Hm(xs:List V)(h:Heap)(a:Addr):Prop
 |mk (zP:List Value):zI xs zP->PlainL h a zP.toArray->xs.length<=sizeLine->Hm xs h a
inductive Hl(xs:List V)(h:Heap)(a:Addr):Prop
 |mk (zP:List Value):zI xs zP->IsTup h a zP.toArray->xs.length<=sizeLine->Hl xs h a
section
variable{X:Cx}{zL:List (Addr×Obj)}{Z:St}{H:Hp}{s:Shared}{a:Addr}{xs ys:List V}
theorem cA.of{K:W.Frag}(h:H a=some (.lst xs)):cA K H a xs:=.inl (.inl h)
theorem bX.of{K:W.Frag}(h:H a=some (.tup xs)):bX K H a xs:=.inl (.inl h)
theorem Inv.list(I:Inv X zL Z H s)(h:cA X.K H a xs):Hm xs s.heap a:=by
 rcases h with h|⟨o,zP,n,hk,hc,hd,hs,hz,r⟩
 .obtain⟨z,zP,n,r,e⟩:=h.ok I.hok;exact⟨zP,r,⟨_,n,e,rfl,rfl,rfl⟩,z⟩
 .refine⟨zP.toList,r,⟨o,n,I.kIn a o hk,hc,hd,by simpa using hs⟩,?_⟩;have e:=r.length;simp only[qY]at e;lia
theorem Inv.tuple(I:Inv X zL Z H s)(h:bX X.K H a xs):Hl xs s.heap a:=by
 rcases h with h|⟨o,zP,n,hk,hc,hs,hz,r⟩
 .obtain⟨z,zP,r,p⟩:=h.ok I.hok;exact⟨zP,r,p,z.1⟩
 .refine⟨zP.toList,r,⟨o,I.kIn a o hk,hc,n,by simpa using hs⟩,?_⟩;have e:=r.length;simp only[qY]at e;lia
theorem Inv.list_inj(I:Inv X zL Z H s)(h:cA X.K H a xs)(h':cA X.K H a ys):xs=ys:=by
 obtain⟨zP,r,⟨o,n,e,_,_,d⟩,_⟩:=I.list h;obtain⟨its',r',⟨o',n',e',_,_,d'⟩,_⟩:=I.list h';rw[e]at e';cases e';rw[d]at d';injection d' with d1 _
 have:zP=its':=by simpa using congrArg Array.toList d1
 subst this;exact r.inj r'
theorem Inv.tuple_inj(I:Inv X zL Z H s)(h:bX X.K H a xs)(h':bX X.K H a ys):xs=ys:=by
 obtain⟨zP,r,⟨o,e,_,n,d⟩,_⟩:=I.tuple h;obtain⟨its',r',⟨o',e',_,n',d'⟩,_⟩:=I.tuple h';rw[e]at e';cases e';rw[d]at d';injection d' with d1 _
 have:zP=its':=by simpa using congrArg Array.toList d1
 subst this;exact r.inj r'
end
section
variable{X:Cx}{st:Stmt}{rest:List Stmt}{t u:TS}{e:Expr}{te:TE}{pos:Pos}
def FB:TS:=λD Z H=>D.nx Z H
def KM(t u:TS):TS:=λD Z H=>t {D with nx:=u D} Z H
theorem TX:nY X [] FB:=λ_ _ Z H _ I h=>wpAny_execs_nil ⟨Z,H,I,h⟩
theorem UE(h1:PS X st t)(h2:nY X rest u):nY X (st::rest) (KM t u):=by
 intro zL s Z H D I h;refine wpAny_execs_cons (cB (h1 zL s Z H {D with nx:=u D} I h) λf s1 q=>?_);cases f with
 |next=>obtain⟨Z',H',I',q⟩:=q;exact h2 zL s1 Z' H' D I' q
 |ret v=>exact q
 |brk=>exact q
 |cont=>exact q
theorem SW(h1:PS X st t):nY X [st] t:=by
 intro zL s Z H D I h;refine wpAny_execs_cons (cB (h1 zL s Z H D I h) λf s1 q=>?_);cases f with
 |next=>exact wpAny_execs_nil q
 |ret v=>exact q
 |brk=>exact q
 |cont=>exact q
theorem Inv.quiet(I:Inv X zL Z H s):interactive X.env=false:=by simp[interactive,I.ok.kind]
def FC(te:TE):TS:=λD Z H=>te Z H λ_ H1=>D.nx Z H1
theorem Ue(he:PE X e te)(hs:swapsWith e none pos.line X.env=pure false:=by rfl):PS X (.Expr e pos) (FC te):=by intro zL s Z H D I h;exact wpAny_Expr_any (cB (he zL s Z H _ I h) λv s1⟨x,H1,I1,r1,q1⟩=>⟨Z,H1,I1,q1⟩) I.quiet hs
def KN(te:TE):TS:=λD Z H=>te Z H D.rt
theorem RT(he:PE X e te):PS X (.Return (some e) pos) (KN te):=by intro zL s Z H D I h;exact wpAny_Return_some (cB (he zL s Z H _ I h) λv s1⟨x,H1,I1,r1,q1⟩=>⟨x,Z,H1,I1,r1,q1⟩)
def KR(c:TT)(t u:TS):TS:=λD Z H=>c Z H λb H1=>if b=true then t D Z H1 else u D Z H1
theorem Ri(hc:PT X c tc)(ha:nY X a t)(hb:nY X b u):PS X (.If c a b pos) (KR tc t u):=by
 intro zL s Z H D I h;refine wpAny_If (cB (hc zL s Z H _ I h) λd s1 zq=>?_);obtain⟨H1,I1,q1⟩:=zq;cases d with
 |true=>exact ha zL s1 Z H1 D I1 q1
 |false=>exact hb zL s1 Z H1 D I1 q1
end
abbrev TG:=V->St->Hp->(St->Hp->Prop)->Prop
abbrev Ha:=List V->St->Hp->(St->Hp->Prop)->Prop
def PG(X:Cx)(target:Expr)(t:TG):Prop:=
 ∀(zL:List (Addr×Obj))(s:Shared)(Z:St)(H:Hp)(v:V)(u:Value)(Q:St->Hp->Prop),Inv X zL Z H s->zA v u->t v Z H Q->
  wpAny (model X.prog X.w) X.A (assign target X.env u) (λ_ s'=>∃Z' H',Inv X zL Z' H' s'/\Q Z' H') X.xe s
def Hh(X:Cx)(ts:List Expr)(t:Ha):Prop:=
 ∀(zL:List (Addr×Obj))(s:Shared)(Z:St)(H:Hp)(vs:List V)(us:List Value)(Q:St->Hp->Prop),Inv X zL Z H s->zI vs us->t vs Z H Q->
  wpAny (model X.prog X.w) X.A (assignInOrder ((assignEach ts X.env).map (·.2)) us) (λ_ s'=>∃Z' H',Inv X zL Z' H' s'/\Q Z' H') X.xe s
abbrev TSet:=V->V->V->Hp->(Hp->Prop)->Prop
def Hf(X:Cx)(t:TSet):Prop:=
 ∀(zL:List (Addr×Obj))(s:Shared)(Z:St)(H:Hp)(o i v:V)(ov iv u:Value)(Q:Hp->Prop),Inv X zL Z H s->zA o ov->zA i iv->zA v u->t o i v H Q->
  wpAny (model X.prog X.w) X.A (setItem ov iv u) (λ_ s'=>∃H',Inv X zL Z H' s'/\Q H') X.xe s
section
variable{X:Cx}{pos:Pos}
def Mu:Ha:=λvs Z H Q=>vs=[]/\Q Z H
def GO(t:TG)(u:Ha):Ha:=λvs Z H Q=>∃v r,vs=v::r/\t v Z H λZ' H'=>u r Z' H' Q
theorem Va:Hh X [] Mu:=by intro zL s Z H vs us Q I r h;obtain⟨e,h⟩:=h;subst e;cases r;exact assignInOrder_nil ⟨Z,H,I,h⟩
theorem Wc(h1:PG X e t)(h2:Hh X es u)
  (hs:(assignEach (e::es) X.env).map (·.2)=assign e X.env::(assignEach es X.env).map (·.2):=by rfl):Hh X (e::es) (GO t u):=by
 intro zL s Z H vs us Q I r h;obtain⟨v,vr,e1,h⟩:=h;subst e1;cases r with
 |cons r rr=>rw[hs];refine assignInOrder_cons (cB (h1 zL s Z H _ _ _ I r h) λ_ s1 zq=>?_);obtain⟨Z1,H1,I1,q1⟩:=zq;exact h2 zL s1 Z1 H1 _ _ Q I1 rr q1
def dI(K:W.Frag)(n:Nat)(t:Ha):TG:=λv Z H Q=>∃a xs,v=.ref a/\bX K H a xs/\xs.length=n/\t xs Z H Q
theorem RJ(hc:X.calm=true)(h:Hh X es t)
  (hn:(assignEach es X.env).length=n:=by rfl)(hst:(assignEach es X.env).findIdx? (·.1)=none:=by rfl):PG X (.Tuple es k pos) (dI X.K n t):=by
 intro zL s Z H v u Q I r hw;obtain⟨a,xs,e1,hq,hl,hw⟩:=hw;subst e1;cases r;obtain⟨zP,rv,ht,hz⟩:=I.tuple hq;refine assign_Tuple_tuple (I.ok.hd hc) ht (by simp[hn,<-hl,rv.length]) hst λh' hx=>?_;have I1:Inv X zL Z H {s with heap:=h'}:=I.kept (t':=s.toks) λb o e=>hx b o (ne_of_lt (qe e)) e;exact h zL _ Z H xs _ Q I1 (by simpa using rv) hw
def Mt(to ti:TE)(t:TSet):TG:=λv Z H Q=>to Z H λo H1=>ti Z H1 λi H2=>t o i v H2 λH3=>Q Z H3
theorem Rt(ho:PE X o to)(hi:PE X i ti)(hs:Hf X t)
  (ha:∀v,assign (.Subscript o i pos) X.env v=(do
   let ov<-holding [v] (eval o X.env)
   let iv<-holding [v,ov] (eval i X.env)
   standAt pos
   holding [v,ov,iv] (setItem ov iv v)
   release [v,ov,iv] []):=by intro _;rfl):PG X (.Subscript o i pos) (Mt to ti t):=by
 intro zL s Z H v u Q I r h;rw[ha];refine qa (zk (cB (ho zL s Z H _ I h) λov s1 zq=>?_));obtain⟨x,H1,I1,r1,q1⟩:=zq;refine qa (zk (cB (hi zL s1 Z H1 _ I1 q1) λiv s2 zq=>?_));obtain⟨y,H2,I2,r2,q2⟩:=zq;refine qa (wpAny_standAt (qa (zk (cB (hs zL s2 Z H2 x y v ov iv u _ I2 r1 r2 r q2) λ_ s3 zq=>?_))));obtain⟨H3,I3,q3⟩:=zq;exact wpAny_release ⟨Z,H3,I3,q3⟩
def KU(te:TE)(g:TG):TS:=λD Z H=>te Z H λx H1=>g x Z H1 D.nx
theorem Np(he:PE X e te)(hg:PG X tg g)(hs:swapsWithSole [tg] e pos.line X.env=pure false:=by rfl)(hw:swappedStores [tg] e X.env=pure none:=by rfl)
  (h1:(assignEach [tg] X.env).map (·.2)=[assign tg X.env]:=by rfl):PS X (.Assign [tg] e pos) (KU te g):=by
 intro zL s Z H D I h;refine wpAny_Assign_stores (cB (he zL s Z H _ I h) λv s1 zq=>?_) hs hw;obtain⟨x,H1,I1,r1,q1⟩:=zq;rw[h1];exact cB (hg zL s1 Z H1 x v _ I1 r1 q1) λ_ s2 q=>q
def BX(c:TT)(tb:TS):TS:=λD Z H=>∃W:Nat->St->Hp->Prop,(∃m,W m Z H)/\∀m Z H,W m Z H->
 c Z H λb H1=>if b=true then∃N:St->Hp->Prop,(∀Z' H',N Z' H'->∃m',m'<m/\W m' Z' H')/\tb {D with nx:=N,ct:=N,bk:=D.nx} Z H1 else D.nx Z H1
theorem Vj(hp:PassesOwn (model X.prog X.w) X.A X.env X.xe)(hc:PT X c tc)(hb:nY X body tb):PS X (.While c body [] pos) (BX tc tb):=by
 intro zL s Z H D I h;obtain⟨W,⟨m0,w0⟩,turn⟩:=h;refine wpAny_While (codeAny_whileLoop (λn s'=>∃Z' H',Inv X zL Z' H' s'/\W n Z' H') ?_ m0 ⟨Z,H,I,w0⟩);rintro n s1 ⟨Z1,H1,I1,w1⟩;refine wpAny_passesOwn hp (cB (hc zL s1 Z1 H1 _ I1 (turn n Z1 H1 w1)) λb s2 zq=>?_);obtain⟨H2,I2,q2⟩:=zq;cases b with
 |true=>
  obtain⟨N,hN,q2⟩:=q2;rw[za rfl];refine wpAny_passesOwn hp (cB (hb zL s2 Z1 H2 _ I2 q2) λf s3 q3=>?_);cases f with
  |next=>obtain⟨Z3,H3,I3,n3⟩:=q3;obtain⟨m',hm,w3⟩:=hN Z3 H3 n3;exact⟨m',hm,Z3,H3,I3,w3⟩
  |cont=>obtain⟨Z3,H3,I3,n3⟩:=q3;obtain⟨m',hm,w3⟩:=hN Z3 H3 n3;exact⟨m',hm,Z3,H3,I3,w3⟩
  |brk=>exact q3
  |ret v=>exact q3
 |false=>rw[zc q5];exact wpAny_execs_nil ⟨Z1,H2,I2,q2⟩
end
structure It where
 go:Nat->Hp->Prop
 yld:Nat->Hp->V->Hp->Prop
 stop:Nat->Hp->Prop
def eM(X:Cx)(zL:List (Addr×Obj))(H:Hp)(b:Addr):Prop:=
 H b=none/\b≠X.env.locals/\b∉X.fs/\(b∈X.ex\/X.s₀.heap.get? b=none)/\(∀x c,X.env.cells.lookup x=some c->c≠b)/\∀p∈X.pn++zL,p.1≠b
theorem Inv.fpOk(I:Inv X zL Z H s)(hb:s.heap.objs.size<=b)(hn:H' b=none):eM X zL H' b:=by
 refine⟨hn,ne_of_gt (lt_of_lt_of_le I.lt hb),I.nofs hb,.inr (Heap.get?_none_of_le (le_trans I.sz hb)),λx c e z=>?_,λp hp z=>?_⟩
 .obtain⟨v,q⟩:=I.cell x c e;exact absurd (lt_of_lt_of_le q.lt (by rw[z];exact hb)) (lt_irrefl _)
 .exact absurd (lt_of_lt_of_le (qe (I.pin p hp).1) (by rw[z];exact hb)) (lt_irrefl _)
structure nR(P:Program)(w:World)(K:W.Frag)(tg:Expr)(J:It)(fp:List Addr)(it:Addr)(tn:Nat->Heap->Prop):Prop where
 mem:it∈fp
 obj:∀i h,tn i h->∀b∈fp,∃o,h.get? b=some o/\∀v,o.data≠.cell v
 keep:∀i h h',tn i h->(∀b∈fp,∀o,h.get? b=some o->h'.get? b=some o)->tn i h'
 item:∀(X:Cx),X.prog=P->X.w=w->X.K=K->X.calm=true->∀(i:Nat)(zL:List (Addr×Obj))(s:Shared)(Z:St)(H:Hp)(E:zo),Inv X zL Z H s->(∀b∈fp,eM X zL H b)->tn i s.heap->J.go i H->
  wpAny (model P w) X.A (pyNext (.ref it)) (λr s1=>∃u,r=some u/\
   wpAny (model P w) X.A (letOwnedTupleGo tg (.ref it) u) (λ_ s2=>∃x H',Inv X zL Z H' s2/\zA x u/\J.yld i H x H'/\tn (i+1) s2.heap/\∀b∈fp,H' b=none) E s1) E s
 done:∀(X:Cx),X.prog=P->X.w=w->X.K=K->X.calm=true->∀(i:Nat)(zL:List (Addr×Obj))(s:Shared)(Z:St)(H:Hp)(E:zo),Inv X zL Z H s->(∀b∈fp,eM X zL H b)->tn i s.heap->J.stop i H->
  wpAny (model P w) X.A (pyNext (.ref it)) (λr s1=>r=none/\Inv X zL Z H s1) E s
 self:∀(A:Around)(i:Nat)(s:Shared)(Q:zo)(E:zo),tn i s.heap->Q (.ref it) s->wpAny (model P w) A (pyIter (.ref it)) Q E s
abbrev TI:=St->Hp->(It->Hp->Prop)->Prop
inductive Hg(X:Cx)(zL:List (Addr×Obj))(Z:St)(tg:Expr)(R:It->Hp->Prop)(itv:Value)(s2:Shared):Prop
 |mk (it:Addr) (fp:List Addr) (tn:Nat->Heap->Prop) (J:It) (H':Hp):itv=.ref it->Inv X zL Z H' s2->nR X.prog X.w X.K tg J fp it tn->tn 0 s2.heap->(∀b∈fp,eM X zL H' b)->R J H'->Hg X zL Z tg R itv s2
def PI(X:Cx)(tg iter:Expr)(wi:TI):Prop:=
 ∀(zL:List (Addr×Obj))(s:Shared)(Z:St)(H:Hp)(R:It->Hp->Prop),Inv X zL Z H s->wi Z H R->
  wpAny (model X.prog X.w) X.A (eval iter X.env) (λv s1=>wpAny (model X.prog X.w) X.A (pyIter v) (Hg X zL Z tg R) X.xe s1) X.xe s
theorem Hx(ho:s.heap.get? it=some o)(hc:o.cls=.type n)(hd:o.data=.fields vs)
  (hn:["enumerate","zip","dict_itemiterator","dict_reverseitemiterator","odict_iterator","itertools.zip_longest","itertools.pairwise"].contains n=false)(hQ:Q () s):wpAny M A (letOwnedTupleGo tg (.ref it) u) Q E s:=by
 unfold letOwnedTupleGo;cases tg<;>first
  |exact qb hQ
  |(cases u<;>first
   |exact qb hQ
   |(refine qa (wpAny_load ho ?_);rw[hc,hd];show wpAny M A (if(["enumerate","zip","dict_itemiterator","dict_reverseitemiterator","odict_iterator","itertools.zip_longest","itertools.pairwise"].contains n&&vs[0]?==some (rawInt _))=true then _ else _) Q E s;rw[zc (by intro h;rw[hn,Bool.false_and]at h;cases h)];exact qb hQ))
def Ho(K:W.Frag)(a:Addr):It:=
 ⟨λi H=>∃xs x,cA K H a xs/\xs[i]?=some x,λi H x H'=>H'=H/\∀xs,cA K H a xs->xs[i]?=some x,λi H=>∃xs,cA K H a xs/\xs.length<=i⟩
def MK(K:W.Frag)(a:Addr):It:=
 ⟨λi H=>∃xs x,bX K H a xs/\xs[i]?=some x,λi H x H'=>H'=H/\∀xs,bX K H a xs->xs[i]?=some x,λi H=>∃xs,bX K H a xs/\xs.length<=i⟩
def Hn(lo:Int)(n:Nat):It:=⟨λi _=>i<n,λi H x H'=>H'=H/\x=.int (lo+i),λi _=>n<=i⟩
theorem Xy{P:Program}{w:World}{K:W.Frag}{tg:Expr}(a it:Addr):nR P w K tg (Ho K a) [it] it (λi h=>h.IsListIter it a i) where
 mem:=by simp
 obj:=λi h st b hb=>by
  have e:b=it:=by simpa using hb
  subst e;obtain⟨o,e,c,d⟩:=st;exact⟨o,e,λv z=>by rw[d]at z;cases z⟩
 keep:=λi h h' st k=>st.at λo e=>k it (by simp) o e
 item:=by intro X hP hw hK hc i zL s Z H E I hf st hg;subst hP hw hK;obtain⟨xs,x,hq,hx⟩:=hg;obtain⟨zP,rv,p,hz⟩:=I.list hq;obtain⟨u,hu,ru⟩:=rv.get hx;obtain⟨f0,f1,f2,f3,f4,f5⟩:=hf it (by simp);refine wpAny_pyNext_list_item st p.isList (x:=u) (by simpa using hu) λh' st' sb=>?_;have I1:Inv X zL Z H {s with heap:=h'}:=I.turned (t':=s.toks) (λb o hb e=>(sb.2 b hb).trans e) f0 f1 f3 f4 f5;obtain⟨o,e,c,d⟩:=id st';exact⟨u,rfl,Hx (s:={s with heap:=h'}) e c d (by decide) ⟨x,H,I1,ru,⟨rfl,λys hy=>by rw[I.list_inj hy hq];exact hx⟩,st',λb hb=>(hf b hb).1⟩⟩
 done:=by intro X hP hw hK hc i zL s Z H E I hf st hg;subst hP hw hK;obtain⟨xs,hq,hx⟩:=hg;obtain⟨zP,rv,p,hz⟩:=I.list hq;obtain⟨f0,f1,f2,f3,f4,f5⟩:=hf it (by simp);have hl:=rv.length;exact wpAny_pyNext_list_end (I.ok.hd hc) st p.isList (by simp;lia) λh' eb=>⟨rfl,I.turned (t':=s.toks) (λb o hb e=>eb b o hb e) f0 f1 f3 f4 f5⟩
 self:=λ_ _ _ _ _ st h=>wpAny_pyIter_listiter st h
theorem XR{P:Program}{w:World}{K:W.Frag}{tg:Expr}(a it:Addr):nR P w K tg (MK K a) [it] it (λi h=>h.IsTupleIter it a i) where
 mem:=by simp
 obj:=λi h st b hb=>by
  have e:b=it:=by simpa using hb
  subst e;obtain⟨o,e,c,d⟩:=st;exact⟨o,e,λv z=>by rw[d]at z;cases z⟩
 keep:=λi h h' st k=>st.at λo e=>k it (by simp) o e
 item:=by intro X hP hw hK hc i zL s Z H E I hf st hg;subst hP hw hK;obtain⟨xs,x,hq,hx⟩:=hg;obtain⟨zP,rv,p,hz⟩:=I.tuple hq;obtain⟨u,hu,ru⟩:=rv.get hx;obtain⟨f0,f1,f2,f3,f4,f5⟩:=hf it (by simp);refine wpAny_pyNext_tuple_item st (show s.heap.IsTuple a zP.toArray from p) (x:=u) (by simpa using hu) λh' st' sb=>?_;have I1:Inv X zL Z H {s with heap:=h'}:=I.turned (t':=s.toks) (λb o hb e=>(sb.2 b hb).trans e) f0 f1 f3 f4 f5;obtain⟨o,e,c,d⟩:=id st';exact⟨u,rfl,Hx (s:={s with heap:=h'}) e c d (by decide) ⟨x,H,I1,ru,⟨rfl,λys hy=>by rw[I.tuple_inj hy hq];exact hx⟩,st',λb hb=>(hf b hb).1⟩⟩
 done:=by intro X hP hw hK hc i zL s Z H E I hf st hg;subst hP hw hK;obtain⟨xs,hq,hx⟩:=hg;obtain⟨zP,rv,p,hz⟩:=I.tuple hq;obtain⟨f0,f1,f2,f3,f4,f5⟩:=hf it (by simp);have hl:=rv.length;exact wpAny_pyNext_tuple_end (I.ok.hd hc) st (show s.heap.IsTuple a zP.toArray from p) (by simp;lia) λh' eb=>⟨rfl,I.turned (t':=s.toks) (λb o hb e=>eb b o hb e) f0 f1 f3 f4 f5⟩
 self:=λ_ _ _ _ _ st h=>wpAny_pyIter_tupleiter st h
theorem XO{P:Program}{w:World}{K:W.Frag}{tg:Expr}(it:Addr)(lo:Int)(n:Nat):nR P w K tg (Hn lo n) [it] it (λi h=>IsRangeIter h it (lo+(i:Nat)*1) ((n:Int)-(i:Nat)) 1) where
 mem:=by simp
 obj:=λi h st b hb=>by
  have e:b=it:=by simpa using hb
  subst e;exact⟨_,st,λv z=>by have z':Data.fields _=Data.cell v:=z;cases z'⟩
 keep:=λi h h' st k=>k it (by simp) _ st
 item:=by intro X hP hw hK hc i zL s Z H E I hf st hg;subst hP hw hK;obtain⟨f0,f1,f2,f3,f4,f5⟩:=hf it (by simp);have W:=Walks.range (prog:=X.prog) (w:=X.w) (I.ok.hd hc) it lo 1 n;refine W.item i s _ _ hg st λv h' tk hv st' kk=>?_;obtain⟨t,rfl⟩:=hv;have I1:Inv X zL Z H {s with heap:=h',toks:=tk}:=I.turned (λb o hb e=>kk b o (by simpa using hb) e) f0 f1 f3 f4 f5;refine⟨_,rfl,Hx (s:={s with heap:=h',toks:=tk}) (n:="range_iterator") st' rfl rfl (by decide) ⟨.int (lo+i),H,I1,⟨t,?_⟩,⟨rfl,rfl⟩,st',λb hb=>(hf b hb).1⟩⟩;rw[mul_one]
 done:=by intro X hP hw hK hc i zL s Z H E I hf st hg;subst hP hw hK;obtain⟨f0,f1,f2,f3,f4,f5⟩:=hf it (by simp);exact wpAny_pyNext_range_end (I.ok.hd hc) st (by have:n<=i:=hg;lia) λh' eb=>⟨rfl,I.turned (t':=s.toks) (λb o hb e=>eb b o hb e) f0 f1 f3 f4 f5⟩
 self:=λ_ _ _ _ _ st h=>wpAny_pyIter_rangeiter st h
section
variable{X:Cx}{tg:Expr}
theorem OP{lo hi:Int}(I:Inv X zL Z H s)(h1:-(2^62)<=lo)(h2:lo<2^62)(h3:-(2^62)<=hi)(h4:hi<2^62)
  (q:R (Hn lo (hi-lo).toNat) H):wpAny (model X.prog X.w) X.A (pyIter (.ref s.heap.objs.size)) (Hg X zL Z tg R) E {s with heap:=s.heap.push {cls:=.type "range",data:=.fields #[.int lo t,.int hi u,.int 1 v]},toks:=tk}:=by
 refine wpAny_pyIter_range (IsRange.new ..) (small_one h1 h2 h3 h4) ?_;have I1:Inv X zL Z H {s with heap:=s.heap.push {cls:=.type "range",data:=.fields #[.int lo t,.int hi u,.int 1 v]},toks:=tk}:=I.kept λb o e=>qc _ e;refine⟨(s.heap.push {cls:=.type "range",data:=.fields #[.int lo t,.int hi u,.int 1 v]}).objs.size,[(s.heap.push {cls:=.type "range",data:=.fields #[.int lo t,.int hi u,.int 1 v]}).objs.size],_,_,H,rfl,
  I1.kept (t':=tk) λb o e=>qc _ e,XO _ lo (hi-lo).toNat,?_,λb hb=>?_,q⟩
 .have e1:lo+((0:Nat):Int)*1=lo:=by simp
  have e2:(((hi-lo).toNat:Nat):Int)-((0:Nat):Int)=Builtin.Range.rangeSize lo hi 1:=by rw[rangeSize_one];split<;>lia
  show IsRangeIter _ _ (lo+((0:Nat):Int)*1) ((((hi-lo).toNat:Nat):Int)-((0:Nat):Int)) 1;rw[e1,e2];exact qd _ rfl
 .have e:b=(s.heap.push {cls:=.type "range",data:=.fields #[.int lo t,.int hi u,.int 1 v]}).objs.size:=by simpa using hb
  subst e;exact I1.fpOk (zd _) (I1.hok.fresh (zd _))
def GL(ta:TA):TI:=λZ H R=>ta Z H λvs H1=>∃j:Int,vs=[.int j]/\-(2^62)<=j/\j<2^62/\R (Hn 0 j.toNat) H1
def GK(ta:TA):TI:=λZ H R=>ta Z H λvs H1=>∃i j:Int,vs=[.int i,.int j]/\(-(2^62)<=i/\i<2^62/\-(2^62)<=j/\j<2^62)/\R (Hn i (j-i).toNat) H1
theorem Wh(hg:Gl X "range")(hm:X.mg "range"=none)(ha:PA X [a] ta)(hs:starEach [a] X.env=[(false,eval a X.env)]:=by rfl):PI X tg (.Call (.Name "range" p) [a] [] pos) (GL ta):=by
 intro zL s Z H R I h;refine Call_ (Ee I hg hm boot_range (PyProof.Rows.callWith_type1 (cB (ha pos zL s Z H _ I h) λus s1 zq=>?_) hs rfl));obtain⟨vs,H1,I1,r1,q1⟩:=zq;obtain⟨j,e,q1,q2,q⟩:=q1;subst e;cases r1 with
 |cons r rr=>cases rr;obtain⟨t,rfl⟩:=r;exact call_range_1 (OP I1 (by lia) (by lia) q1 q2 (by simpa using q))
theorem Wz(hg:Gl X "range")(hm:X.mg "range"=none)(ha:PA X [a,b] ta)(hs:starEach [a,b] X.env=[(false,eval a X.env),(false,eval b X.env)]:=by rfl)(hs2:starEach [b] X.env=[(false,eval b X.env)]:=by rfl):
  PI X tg (.Call (.Name "range" p) [a,b] [] pos) (GK ta):=by
 intro zL s Z H R I h;refine Call_ (Ee I hg hm boot_range (PyProof.Rows.callWith_type1 (cB (ha pos zL s Z H _ I h) λus s1 zq=>?_) (by rw[hs,hs2]) (by rw[hs2];rfl)));obtain⟨vs,H1,I1,r1,q1⟩:=zq;obtain⟨i,j,e,⟨q1,q2,q3,q4⟩,q⟩:=q1;subst e;cases r1 with
 |cons r rr=>
  cases rr with
  |cons r' rr=>cases rr;obtain⟨t,rfl⟩:=r;obtain⟨t',rfl⟩:=r';exact call_range_2 (OP I1 q1 q2 q3 q4 q)
def KS(wi:TI)(g:TG)(tb:TS):TS:=λD Z H=>wi Z H λJ H1=>∃W:Nat->Nat->St->Hp->Prop,(∃m,W 0 m Z H1)/\∀i m Z H,W i m Z H->
 (J.stop i H/\D.nx Z H)\/(J.go i H/\∃N:St->Hp->Prop,(∀Z' H',N Z' H'->∃m',m'<m/\W (i+1) m' Z' H')/\∀x H',J.yld i H x H'->g x Z H' λZ2 H2=>tb {D with nx:=N,ct:=N,bk:=D.nx} Z2 H2)
def jF(fp:List Addr)(h:Heap):List (Addr×Obj):=fp.filterMap λb=>(h.get? b).map λo=>(b,o)
theorem Ia(hb:b∈fp)(e:h.get? b=some o):(b,o)∈jF fp h:=mem_filterMap.mpr ⟨b,hb,by rw[e];rfl⟩
theorem Wr(hp:p∈jF fp h):p.1∈fp/\h.get? p.1=some p.2:=by
 obtain⟨b,hb,e⟩:=mem_filterMap.mp hp;cases q:h.get? b with
 |none=>rw[q]at e;cases e
 |some o=>grind
theorem Inv.pinned(I:Inv X zL Z H s)(hf:∀b∈fp,eM X zL H b)(ho:∀b∈fp,∃o,s.heap.get? b=some o/\∀v,o.data≠.cell v):Inv X (zL++jF fp s.heap) Z H s:=
 I.pins_of λp hp=>(qA.mp hp).elim (λz=>I.pin p (qj _ z)) λz=>by obtain⟨hb,e⟩:=Wr z;obtain⟨f0,f1,f2,_⟩:=hf p.1 hb;obtain⟨o,e',d⟩:=ho p.1 hb;rw[e]at e';cases e';exact⟨e,f0,f1,f2,d⟩
theorem Inv.unpinned(I:Inv X (zL++pl) Z H s):Inv X zL Z H s:=I.pins_of λp hp=>I.pin p (qj _ (qk _ hp))
theorem SJ(hp:PassesOwn (model X.prog X.w) X.A X.env X.xe)(hc:X.calm=true)(hi:PI X tg iter wi)(hg:PG X tg g)(hb:nY X body tb)
  (hs:∀x,foldedSetIterable iter X.env x=pure x:=by intro _;rfl):PS X (.For tg iter body [] pos) (KS wi g tb):=by
 intro zL s Z H D I h;refine wpAny_For (cB (hi zL s Z H _ I h) λv s1 h1=>cB h1 λitv s2 h2=>?_) hs;obtain⟨it,fp,tn,J,H2,e,I2,T,st2,f2,W,⟨m0,w0⟩,turn⟩:=h2;subst e
 --what stays true of the iterator's objects through the loop
 have stat:∀{H':Hp},(∀b∈fp,H' b=none)->∀b∈fp,eM X zL H' b:=λhn b hb=>⟨hn b hb,(f2 b hb).2⟩
 refine codeAny_forLoop_any (λn s'=>∃i Z' H',Inv X zL Z' H' s'/\tn i s'.heap/\(∀b∈fp,H' b=none)/\W i n Z' H') ?_ m0 ⟨0,Z,H2,I2,st2,λb hb=>(f2 b hb).1,w0⟩;rintro n s3 ⟨i,Z3,H3,I3,st3,fr3,w3⟩;rcases turn i n Z3 H3 w3 with⟨stop,qn⟩|⟨go,N,hN,step⟩
 .refine wpAny_passesOwn hp (cB (T.done X rfl rfl rfl hc i zL s3 Z3 H3 X.xe I3 (stat fr3) st3 stop) λr s4⟨hr,I4⟩=>?_);subst hr;exact wpAny_execs_nil ⟨Z3,H3,I4,qn⟩
 .refine wpAny_passesOwn hp (cB (T.item X rfl rfl rfl hc i zL s3 Z3 H3 X.xe I3 (stat fr3) st3 go) λr s4 zq=>?_);obtain⟨u,hr,h4⟩:=zq;subst hr;refine wpAny_passesOwn hp (cB h4 λ_ s5 zq=>?_);obtain⟨x,H5,I5,r5,y5,st5,fr5⟩:=zq;have I5':=I5.pinned (stat fr5) (T.obj _ _ st5);refine wpAny_passesOwn hp (cB (hg _ s5 Z3 H5 x u _ I5' r5 (step x H5 y5)) λ_ s6 zq=>?_);obtain⟨Z6,H6,I6,q6⟩:=zq;refine wpAny_passesOwn hp (cB (hb _ s6 Z6 H6 _ I6 q6) λf s7 q7=>?_);have again:∀{Z7:St}{H7:Hp},Inv X (zL++jF fp s5.heap) Z7 H7 s7->N Z7 H7->∃m,m<n/\∃i Z' H',Inv X zL Z' H' s7/\tn i s7.heap/\(∀b∈fp,H' b=none)/\W i m Z' H':=λ{Z7 H7} I7 n7=>by obtain⟨m',hm,w7⟩:=hN Z7 H7 n7;refine⟨m',hm,i+1,Z7,H7,I7.unpinned,T.keep _ _ _ st5 λb hb o e=>(I7.pin (b,o) (qj _ (qj _ (Ia hb e)))).1,λb hb=>?_,w7⟩;obtain⟨o,e,d⟩:=T.obj _ _ st5 b hb;exact(I7.pin (b,o) (qj _ (qj _ (Ia hb e)))).2.1
  cases f with
  |next=>obtain⟨Z7,H7,I7,n7⟩:=q7;exact again I7 n7
  |cont=>obtain⟨Z7,H7,I7,n7⟩:=q7;exact again I7 n7
  |brk=>obtain⟨Z7,H7,I7,q7⟩:=q7;exact⟨Z7,H7,I7.unpinned,q7⟩
  |ret v=>obtain⟨x7,Z7,H7,I7,r7,q7⟩:=q7;exact⟨x7,Z7,H7,I7.unpinned,r7,q7⟩
end
abbrev R2:=V->V->Hp->VK->Prop
def OpR(X:Cx)(f:Value->Value->Sem Value)(r:R2):Prop:=
 ∀(zL:List (Addr×Obj))(s:Shared)(Z:St)(H:Hp)(x y:V)(v u:Value)(Q:VK),Inv X zL Z H s->zA x v->zA y u->r x y H Q->
  wpAny (model X.prog X.w) X.A (f v u) (EP X zL Z Q) X.xe s
def MF(X:Cx)(f:Value->Sem Value)(r:V->Hp->VK->Prop):Prop:=
 ∀(zL:List (Addr×Obj))(s:Shared)(Z:St)(H:Hp)(x:V)(v:Value)(Q:VK),Inv X zL Z H s->zA x v->r x H Q->
  wpAny (model X.prog X.w) X.A (f v) (EP X zL Z Q) X.xe s
def bA(X:Cx)(f:Value)(r:List V->Hp->VK->Prop):Prop:=
 ∀(zL:List (Addr×Obj))(s:Shared)(Z:St)(H:Hp)(xs:List V)(us:List Value)(Q:VK),Inv X zL Z H s->zI xs us->r xs H Q->
  wpAny (model X.prog X.w) X.A (call f us) (EP X zL Z Q) X.xe s
def MI(X:Cx)(r:V->Hp->(Bool->Hp->Prop)->Prop):Prop:=
 ∀(zL:List (Addr×Obj))(s:Shared)(Z:St)(H:Hp)(x:V)(v:Value)(Q:Bool->Hp->Prop),Inv X zL Z H s->zA x v->r x H Q->
  wpAny (model X.prog X.w) X.A (truthy v) (TP X zL Z Q) X.xe s
def IF(r:R2)(ta tb:TE):TE:=λZ H Q=>ta Z H λx H1=>tb Z H1 λy H2=>r x y H2 Q
def YL(r:V->Hp->VK->Prop)(ta:TE):TE:=λZ H Q=>ta Z H λx H1=>r x H1 Q
def rI(C:Int->Int->Prop)(g:Int->Int->V):R2:=λx y H Q=>∃i j,x=.int i/\y=.int j/\C i j/\Q (g i j) H
def Bc(g:Int->Int->V):R2:=λx y H Q=>∃i j,x=.int i/\y=.int j/\Q (g i j) H
def rU(g:Int->V):V->Hp->VK->Prop:=λx H Q=>∃i,x=.int i/\Q (g i) H
section
variable{X:Cx}{a b c:Expr}{ta tb tc:TE}{pos:Pos}
theorem DS(ha:PE X a ta)(hb:PE X b tb){R:V->V->Hp->Prop}(I:Inv X zL Z H s)
  (h:ta Z H λx H1=>tb Z H1 λy H2=>R x y H2){f:Value->Value->Sem Value}
  (hf:∀v u s2 x y H2,Inv X zL Z H2 s2->zA x v->zA y u->R x y H2->wpAny (model X.prog X.w) X.A (f v u) Q X.xe s2):
  wpAny (model X.prog X.w) X.A (eval a X.env) (λv s₁=>wpAny (model X.prog X.w) X.A (eval b X.env) (λu s₂=>wpAny (model X.prog X.w) X.A (f v u) Q X.xe s₂) X.xe s₁) X.xe s:=by
 refine cB (ha zL s Z H _ I h) λv s1 zq=>?_;obtain⟨x,H1,I1,r1,q1⟩:=zq;refine cB (hb zL s1 Z H1 _ I1 q1) λu s2 zq=>?_;obtain⟨y,H2,I2,r2,q2⟩:=zq;exact hf v u s2 x y H2 I2 r1 r2 q2
theorem RB(ho:OpR X (binaryOp op) r)(ha:PE X a ta)(hb:PE X b tb):PE X (.BinOp a op b pos) (IF r ta tb):=by intro zL s Z H Q I h;exact wpAny_BinOp (DS ha hb I h λv u s2 x y H2 I2 rx ry q=>ho zL s2 Z H2 x y v u Q I2 rx ry q)
theorem Rl(ho:MF X (unaryOp op) r)(ha:PE X a ta):PE X (.UnaryOp op a pos) (YL r ta):=by intro zL s Z H Q I h;exact UnaryOp_ (cB (ha zL s Z H _ I h) λv s1⟨x,H1,I1,r1,q1⟩=>ho zL s1 Z H1 x v Q I1 r1 q1)
theorem Gg{g:Int->Int->Int}
  (rule:∀(i j:Int)(t u:Tok)(s:Shared)(Q:zo)(E:zo),C i j->Q (.int (g i j) s.toks) {s with toks:=s.toks+1}->wpAny (model X.prog X.w) X.A (f (.int i t) (.int j u)) Q E s):
  OpR X f (rI C λi j=>.int (g i j)):=by
 intro zL s Z H x y v u Q I rx ry h;obtain⟨i,j,rfl,rfl,hc,q⟩:=h;obtain⟨t,rfl⟩:=rx;obtain⟨t',rfl⟩:=ry;exact rule i j t t' s _ _ hc ⟨.int (g i j),H,I.tok _,⟨_,rfl⟩,q⟩
theorem LC{g:Int->Int->Int}
  (rule:∀(i j:Int)(t u:Tok)(s:Shared)(Q:zo)(E:zo),Q (.int (g i j) s.toks) {s with toks:=s.toks+1}->wpAny (model X.prog X.w) X.A (f (.int i t) (.int j u)) Q E s):
  OpR X f (Bc λi j=>.int (g i j)):=by
 intro zL s Z H x y v u Q I rx ry h;obtain⟨i,j,rfl,rfl,q⟩:=h;obtain⟨t,rfl⟩:=rx;obtain⟨t',rfl⟩:=ry;exact rule i j t t' s _ _ ⟨.int (g i j),H,I.tok _,⟨_,rfl⟩,q⟩
theorem zV{g:Int->Int->Bool}
  (rule:∀(i j:Int)(t u:Tok)(s:Shared)(Q:zo)(E:zo),Q (.bool (g i j)) s->wpAny (model X.prog X.w) X.A (f (.int i t) (.int j u)) Q E s):
  OpR X f (Bc λi j=>.bl (g i j)):=by
 intro zL s Z H x y v u Q I rx ry h;obtain⟨i,j,rfl,rfl,q⟩:=h;obtain⟨t,rfl⟩:=rx;obtain⟨t',rfl⟩:=ry;exact rule i j t t' s _ _ ⟨.bl (g i j),H,I,rfl,q⟩
def Ht(i j:Int):Prop:=0<=j/\j<=1000000/\i.natAbs<2^64
def xF(i j:Int):Prop:=(-(2^64)<i/\i<2^64)\/(-(2^64)<j/\j<2^64)
theorem xF.ok(h:xF i j):IntMulOk i j:=by
 rcases h with⟨h1,h2⟩|⟨h1,h2⟩
 .exact .of_left (intBits_le_64 h1 h2)
 .exact .of_right (intBits_le_64 h1 h2)
theorem Sd:OpR X (binaryOp .Add) (Bc λi j=>.int (i+j)):=LC λ_ _ _ _ _ _ _ q=>add_int q
theorem Rr:OpR X (binaryOp .Mult) (rI xF λi j=>.int (i*j)):=Gg λ_ _ _ _ _ _ _ hc q=>mul_int q hc.ok
theorem Sl:OpR X (binaryOp .Mod) (rI (λ_ j=>0<j) λi j=>.int (i %j)):=Gg λi j _ _ _ _ _ hc q=>by have h1:(0:Int)<j:=hc;exact mod_int' (by lia) (by rw[Int.fmod_eq_emod_of_nonneg i (by lia)];exact q)
theorem SO:OpR X (binaryOp .Pow) (rI Ht λi j=>.int (i^j.toNat)):=Gg λ_ _ _ _ _ _ _ hc q=>pow_int_small hc.1 hc.2.1 hc.2.2 q
theorem YK{g:Int->Int}
  (rule:∀(i:Int)(t:Tok)(s:Shared)(Q:zo)(E:zo),Q (.int (g i) s.toks) {s with toks:=s.toks+1}->wpAny (model X.prog X.w) X.A (f (.int i t)) Q E s):
  MF X f (rU λi=>.int (g i)):=by
 intro zL s Z H x v Q I rx h;obtain⟨i,rfl,q⟩:=h;obtain⟨t,rfl⟩:=rx;exact rule i t s _ _ ⟨.int (g i),H,I.tok _,⟨_,rfl⟩,q⟩
theorem RF:MF X (unaryOp .USub) (rU λi=>.int (-i)):=YK λ_ _ _ _ _ q=>neg_int q
end
def FJ:V->V->Bool
 |.non,.non=>true|.non,.int _=>true|.int _,.non=>true|.non,.bl _=>true|.bl _,.non=>true|.non,.str _=>true|.str _,.non=>true
 |.int _,.int _=>true|.bl _,.bl _=>true|.str _,.str _=>true|.byt _,.byt _=>true
 |.int _,.str _=>true|.str _,.int _=>true|.bl _,.str _=>true|.str _,.bl _=>true
 |_,_=>false
def YQ:R2:=λx y H Q=>FJ x y=true/\Q (.bl (!decide (x=y))) H
theorem TC:decide (V.int i=V.int j)=(i==j):=by rw[Bool.eq_iff_iff];simp
theorem RU:decide (V.bl i=V.bl j)=(i==j):=by rw[Bool.eq_iff_iff];simp
theorem TK:decide (V.str i=V.str j)=(i==j):=by rw[Bool.eq_iff_iff];simp
theorem SD:decide (V.byt i=V.byt j)=(i.toList==j.toList):=by rw[Bool.eq_iff_iff];cases i;cases j;simp
section
variable{X:Cx}{a b c:Expr}{ta tb tc:TE}{pos:Pos}
theorem oB(I:Inv X zL Z H s)(q:Q (.bl k) H)(e:k=k'):EP X zL Z Q (.bool k') s:=by subst e;exact⟨.bl k,H,I,rfl,q⟩
theorem Ro:OpR X (compareOp .NotEq) YQ:=by
 intro zL s Z H x y v u Q I rx ry h;obtain⟨hs,q⟩:=h;cases x with
 |non=>
  cases rx;cases y with
  |non=>cases ry;exact PySem.EqNone.ne_none_none (oB I q (by simp))
  |bl j=>cases ry;exact PySem.EqNone.ne_none_bool (oB I q (by simp))
  |int j=>obtain⟨t',rfl⟩:=ry;exact PySem.EqNone.ne_none_int (oB I q (by simp))
  |str j=>obtain⟨t',rfl⟩:=ry;exact PySem.EqNone.ne_none_str (oB I q (by simp))
  |_=>exact absurd (show false=true from hs) q5
 |bl i=>
  cases rx;cases y with
  |non=>cases ry;exact PySem.EqNone.ne_bool_none (oB I q (by simp))
  |bl j=>cases ry;exact ne_bool (oB I q (congrArg not RU))
  |str j=>obtain⟨t',rfl⟩:=ry;exact PySem.EqMixed.ne_bool_str (oB I q (by simp))
  |_=>exact absurd (show false=true from hs) q5
 |int i=>
  obtain⟨t,rfl⟩:=rx;cases y with
  |non=>cases ry;exact PySem.EqNone.ne_int_none (oB I q (by simp))
  |int j=>obtain⟨t',rfl⟩:=ry;exact ne_int (oB I q (congrArg not TC))
  |str j=>obtain⟨t',rfl⟩:=ry;exact PySem.EqMixed.ne_int_str (oB I q (by simp))
  |_=>exact absurd (show false=true from hs) q5
 |str i=>
  obtain⟨t,rfl⟩:=rx;cases y with
  |non=>cases ry;exact PySem.EqNone.ne_str_none (oB I q (by simp))
  |bl j=>cases ry;exact PySem.EqMixed.ne_str_bool (oB I q (by simp))
  |int j=>obtain⟨t',rfl⟩:=ry;exact PySem.EqMixed.ne_str_int (oB I q (by simp))
  |str j=>obtain⟨t',rfl⟩:=ry;exact ne_str (oB I q (congrArg not TK))
  |_=>exact absurd (show false=true from hs) q5
 |byt i=>
  obtain⟨t,rfl⟩:=rx;cases y with
  |byt j=>obtain⟨t',rfl⟩:=ry;exact W.ne_bytes (oB I q (congrArg not SD))
  |_=>exact absurd (show false=true from hs) q5
 |_=>cases y<;>exact absurd (show false=true from hs) q5
theorem RH:OpR X (compareOp .Lt) (Bc λi j=>.bl (decide (i<j))):=zV λ_ _ _ _ _ _ _ q=>lt_int q
theorem Rp:OpR X (compareOp .LtE) (Bc λi j=>.bl (decide (i<=j))):=zV λ_ _ _ _ _ _ _ q=>le_int q
theorem Rg:OpR X (compareOp .Gt) (Bc λi j=>.bl (decide (j<i))):=zV λ_ _ _ _ _ _ _ q=>gt_int q
theorem Rh:OpR X (compareOp .GtE) (Bc λi j=>.bl (decide (j<=i))):=zV λ_ _ _ _ _ _ _ q=>ge_int q
theorem aJ(b:Expr)(h:op≠.In:=by decide)(h2:op≠.NotIn:=by decide):behindInMarks op b=false:=vO b h h2
theorem Nu(ho:OpR X (compareOp op) r)(ha:PE X a ta)(hb:PE X b tb)(hm:behindInMarks op b=false):PE X (.Compare a [op] [b] pos) (IF r ta tb):=by intro zL s Z H Q I h;exact wpAny_Compare1 (DS ha hb I h λv u s2 x y H2 I2 rx ry q=>ho zL s2 Z H2 x y v u Q I2 rx ry q) hm
def Fx(t:TE):TT:=λZ H Q=>t Z H λx H'=>∃k,x=.bl k/\Q k H'
theorem Te(ho:OpR X (compareOp op) r)(ha:PE X a ta)(hb:PE X b tb)(hm:behindInMarks op b=false):PT X (.Compare a [op] [b] pos) (Fx (IF r ta tb)):=by
 intro zL s Z H Q I h;refine wpAny_isTrue_Compare1 (cB (ha zL s Z H _ I h) λv s1⟨x,H1,I1,r1,q1⟩=>cB (hb zL s1 Z H1 _ I1 q1) λu s2⟨y,H2,I2,r2,q2⟩=>cB (ho zL s2 Z H2 x y v u _ I2 r1 r2 q2) λc s3⟨z,H3,I3,r3,k,e,q3⟩=>?_) hm
 subst e;cases r3;exact wpAny_truthy_bool ⟨H3,I3,q3⟩
def DV(K:W.Frag)(x:V)(H:Hp)(k:Bool):Prop:=
 match x with
 |.non=>k=false
 |.bl b=>k=b
 |.int i=>k=(i !=0)
 |.str y=>y.length<=sizeLine/\k=((y.length:Int) !=0)
 |.byt y=>y.size<=sizeLine/\k=((y.size:Int) !=0)
 |.ref p=>(∃xs,cA K H p xs/\k=!xs.isEmpty)\/(∃xs,bX K H p xs/\k=!xs.isEmpty)\/∃zM,H p=some (.dK zM)/\k=!zM.isEmpty
 |_=>False
theorem Xh(r:KV zM vs):(!vs.isEmpty)=!zM.isEmpty:=by cases r<;>rfl
theorem PF(r:zI xs zP):(!zP.toArray.isEmpty)=!xs.isEmpty:=by cases r<;>simp
theorem gD:(sizeLine:Nat)<2^63:=by rw[zj];decide
theorem RN:MI X (λx H Q=>∃k,DV X.K x H k/\Q k H):=by
 intro zL s Z H x v Q I rx h;obtain⟨k,e,q⟩:=h;have hl:=gD;have hs:sizeLine=16777216:=zj;cases x with
 |non=>cases rx;have e':k=false:=e;subst e';exact truthy_none ⟨H,I,q⟩
 |bl b=>cases rx;have e':k=b:=e;subst e';exact wpAny_truthy_bool ⟨H,I,q⟩
 |int i=>obtain⟨t,rfl⟩:=rx;have e':k=(i !=0):=e;subst e';exact PySem.P.truthy_int ⟨H,I,q⟩
 |str y=>obtain⟨t,rfl⟩:=rx;obtain⟨hy,e'⟩:y.length<=sizeLine/\k=((y.length:Int) !=0):=e;subst e';exact PySem.P.truthy_str (by lia) ⟨H,I.tok _,q⟩
 |byt y=>obtain⟨t,rfl⟩:=rx;obtain⟨hy,e'⟩:y.size<=sizeLine/\k=((y.size:Int) !=0):=e;subst e';exact W.truthy_bytes (by lia) ⟨H,I.tok _,q⟩
 |ref p=>
  cases rx;have e':(∃xs,cA X.K H p xs/\k=!xs.isEmpty)\/(∃xs,bX X.K H p xs/\k=!xs.isEmpty)\/∃zM,H p=some (.dK zM)/\k=!zM.isEmpty:=e;rcases e' with⟨xs,hx,e'⟩|⟨xs,hx,e'⟩|⟨zM,hx,e'⟩
  .subst e';obtain⟨zP,r,pl,hz⟩:=I.list hx;have zO:=r.length;exact wpAny_truthy_list pl.isList (by simp only[qt];lia) ⟨H,I.tok _,by rw[PF r];exact q⟩
  .subst e';obtain⟨zP,r,pl,hz⟩:=I.tuple hx;have zO:=r.length;exact truthy_tuple pl (by simp only[qt];lia) ⟨H,I.tok _,by rw[PF r];exact q⟩
  .subst e';obtain⟨hz,hS,vs,r,m⟩:zM.length<=sizeLine/\(p==sysModules)=false/\∃vs,KV zM vs/\s.heap.DictOf (aI X.prog X.w) p vs:=I.hok p _ hx;have zO:zM.length=vs.length:=Paired.length r;exact wpAny_truthy_dict hS m (by lia) ⟨H,I.tok _,by rw[Xh r];exact q⟩
 |_=>exact(show False from e).elim
theorem Uv(ha:PE X a ta)(he:∀whole,isTrue a X.env whole=(do let v<-whole;standAt a.pos;holding [v] (truthy v))):
  PT X a (λZ H Q=>ta Z H λx H'=>∃k,DV X.K x H' k/\Q k H'):=by
 intro zL s Z H Q I h;exact isTrue_plain (cB (ha zL s Z H _ I h) λv s1⟨x,H1,I1,r1,q1⟩=>RN zL s1 Z H1 x v Q I1 r1 q1) (he _)
theorem XM:OpR X (binaryOp .Add) (λx y H Q=>∃i j,x=.str i/\y=.str j/\i.length+j.length<=sizeLine/\Q (.str (i++j)) H):=by intro zL s Z H x y v u Q I rx ry h;obtain⟨i,j,rfl,rfl,hz,q⟩:=h;obtain⟨t,rfl⟩:=rx;obtain⟨t',rfl⟩:=ry;exact add_str (λt' tk=>⟨.str (i++j),H,I.tok _,⟨_,rfl⟩,q⟩) hz
theorem vals1(r:zI [x] us):∃u,us=[u]/\zA x u:=by
 cases r with
 |cons r1 r2=>cases r2;exact⟨_,rfl,r1⟩
theorem vals2(r:zI [x,y] us):∃u w',us=[u,w']/\zA x u/\zA y w':=by
 cases r with
 |cons r1 r2=>
  cases r2 with
  |cons r3 r4=>cases r4;exact⟨_,_,rfl,r1,r3⟩
theorem WJ(hc:X.calm=true):bA X (.builtin "max") (λxs H Q=>∃i j,xs=[.int i,.int j]/\Q (.int (if j>i then j else i)) H):=by
 intro zL s Z H xs us Q I r h;obtain⟨i,j,rfl,q⟩:=h;obtain⟨u,w',rfl,⟨t,rfl⟩,⟨t',rfl⟩⟩:=vals2 r;refine max_two_ints (I.ok.hd hc) λh' tk k=>⟨_,H,I.kept k,?_,q⟩
 by_cases hj:j>i
 .rw[za hj,za hj];exact⟨_,rfl⟩
 .rw[zc hj,zc hj];exact⟨_,rfl⟩
theorem WU(hc:X.calm=true):bA X (.builtin "min") (λxs H Q=>∃i j,xs=[.int i,.int j]/\Q (.int (if j<i then j else i)) H):=by
 intro zL s Z H xs us Q I r h;obtain⟨i,j,rfl,q⟩:=h;obtain⟨u,w',rfl,⟨t,rfl⟩,⟨t',rfl⟩⟩:=vals2 r;refine min_two_ints (I.ok.hd hc) λh' tk k=>⟨_,H,I.kept k,?_,q⟩
 by_cases hj:j<i
 .rw[za hj,za hj];exact⟨_,rfl⟩
 .rw[zc hj,zc hj];exact⟨_,rfl⟩
theorem Wp:bA X (.type "int") (λxs H Q=>(∃i,xs=[.int i]/\Q (.int i) H)\/∃k,xs=[.bl k]/\Q (.int (if k then 1 else 0)) H):=by
 intro zL s Z H xs us Q I r h;rcases h with⟨i,rfl,q⟩|⟨k,rfl,q⟩
 .obtain⟨u,rfl,t,rfl⟩:=vals1 r;exact call_int_int ⟨.int i,H,I,⟨_,rfl⟩,q⟩
 .obtain⟨u,rfl,r1⟩:=vals1 r;cases r1;exact call_int_bool ⟨.int (if k then 1 else 0),H,I.tok _,⟨_,rfl⟩,q⟩
end
theorem iK.some_of(r:iK (some v) o):∃u,o=some u/\zA v u:=by
 cases o with
 |none=>exact(show False from r).elim
 |some u=>exact⟨u,rfl,r⟩
theorem iK.none_of(r:iK none o):o=none:=by
 cases o with
 |none=>rfl
 |some u=>exact(show False from r).elim
structure cE(k:Nat)(A:Around):Prop where
 hd:A.handled=none
 dp:A.depth+3*k+5<recursionLimit
 un:A.units+16*k+200<cLine
 gd:A.guards=some []
theorem cE.mono(r:cE k A)(h:j<=k):cE j A:=⟨r.hd,by have:=r.dp;lia,by have:=r.un;lia,r.gd⟩
theorem cE.deeper(r:cE (k+1) A)(env:Env):cE k (A.deeper env):=
 ⟨r.hd,by have:=r.dp;show A.depth+1+3*k+5<_;lia,by have:=r.un;show A.units+3+16*k+200<_;lia,r.gd⟩
theorem cE.depth(r:cE k A):A.depth<recursionLimit:=by have:=r.dp;lia
theorem cE.units(r:cE k A):A.units+64<cLine:=by have:=r.un;lia
def KO:TA:=λ_ H Q=>Q [] H
def FF(ta:TE)(tr:TA):TA:=λZ H Q=>ta Z H λx H1=>tr Z H1 λxs H2=>Q (x::xs) H2
section
variable{X:Cx}{e:Expr}{es:List Expr}{te:TE}{t:TA}{pos:Pos}
theorem Nt:PA X [] KO:=λ_ _ _ _ H Q I h=>Calls.spliced_nil ⟨[],H,I,.nil,h⟩
theorem Nw(ha:PE X e te)(hr:PA X es t)(hs:starEach (e::es) X.env=(false,eval e X.env)::starEach es X.env:=by rfl):PA X (e::es) (FF te t):=by intro pos zL s Z H Q I h;rw[hs];show wpAny _ _ (spliced ((false,eval e X.env)::backTo pos (starEach es X.env))) _ _ s;refine Calls.spliced_cons (cB (ha zL s Z H _ I h) λu s1 zq=>?_);obtain⟨x,H1,I1,r1,q1⟩:=zq;exact cB (hr pos zL s1 Z H1 _ I1 q1) λus s2⟨xs,H2,I2,r2,q2⟩=>⟨x::xs,H2,I2,.cons r1 r2,q2⟩
def KL(t:TA):TE:=λZ H Q=>t Z H λxs H1=>xs.length<=sizeLine/\∀p,H1 p=none->Q (.ref p) (upd H1 p (.tup xs))
def KQ(t:TA):TE:=λZ H Q=>t Z H λxs H1=>xs.length<=sizeLine/\∀p,H1 p=none->Q (.ref p) (upd H1 p (.lst xs))
theorem Sr(h:PA X es t):PE X (.Tuple es x1 pos) (KL t):=by intro zL s Z H Q I hq;refine wpAny_Tuple_spliced (cB (h pos zL s Z H _ I hq) λus s1⟨xs,H1,I1,r,z,q⟩=>⟨by rw[<-r.length];exact z,?_⟩);have hf:H1 s1.heap.objs.size=none:=I1.hok.fresh (zd _);refine⟨.ref s1.heap.objs.size,upd H1 s1.heap.objs.size (.tup xs),I1.laid (t':=s1.toks) (λb u e=>qc _ e) (zd _) ?_,rfl,q _ hf⟩;exact⟨⟨z,nU.new rfl (qd _ rfl)⟩,us,r,⟨_,qd _ rfl,rfl,_,rfl⟩⟩
theorem RO(h:PA X es t):PE X (.List es pos) (KQ t):=by intro zL s Z H Q I hq;refine wpAny_List_spliced (cB (h pos zL s Z H _ I hq) λus s1⟨xs,H1,I1,r,z,q⟩=>⟨by rw[<-r.length];exact z,?_⟩);have hf:H1 s1.heap.objs.size=none:=I1.hok.fresh (zd _);refine⟨.ref s1.heap.objs.size,upd H1 s1.heap.objs.size (.lst xs),I1.laid (t':=s1.toks) (λb u e=>qc _ e) (zd _) ?_,rfl,q _ hf⟩;exact⟨z,us,0,r,qd _ rfl⟩
end
abbrev Sp:=List V->Hp->VK->XK->Prop
abbrev Hs:=List Env->Hp->Shared->XK->Value->Shared->Prop
structure AI(P:Program)(w:World)(K:W.Frag)(mg:Str->Option Value)(base:Heap)(A:Around)(outer:List Env)(s:Shared)(H:Hp):Prop where
 frames:A.frames=some outer
 mod:Mod K mg base
 bs:∀b o,base.get? b=some o->s.heap.get? b=some o/\H b=none
 bsz:base.objs.size<=s.heap.objs.size
 funs:s.heap.FunFrames base outer
 frf:∀b∈wN outer,H b=none
 hok:gR P w H s.heap
 bare:AllBare s.gens
def CE(outer:List Env)(P:Program)(w:World)(H:Hp)(s:Shared)(Q:VK)(u:Value)(s':Shared):Prop:=
 ∃v H',s'.os=s.os/\AllBare s'.gens/\Un (wN outer) [] H H' s.heap s'.heap/\gR P w H' s'.heap/\zA v u/\Q v H'
def CR(CX:Hs)(outer:List Env)(P:Program)(w:World)(H:Hp)(s:Shared)(Q:VK)(E:XK)(r:Result)(s':Shared):Prop:=
 match r with
 |.ok (.ret u)=>CE outer P w H s Q u s'
 |.ok _=>False
 |.error e=>CX outer H s E e s'
structure iL(P:Program)(w:World)(K:W.Frag)(mg:Str->Option Value)(base:Heap)(CX:Hs)(k:Nat)(f:Addr)(fd:FuncData)(ps:List Str)(sp:Sp):Prop where
 len:∀vs H Q E,sp vs H Q E->vs.length=ps.length
 run:∀(A:Around)(outer:List Env)(s:Shared)(H:Hp)(args:Args)(us:List Value)(vs:List V)(Q:VK)(E:XK),cE k A->AI P w K mg base A outer s H->BindsTo s fd args (ps.zip us)->zI vs us->sp vs H Q E->
  codeAny (model P w) A (.call (.ref f) args) (CR CX outer P w H s Q E) s
section
variable{X:Cx}{zL:List (Addr×Obj)}{Z:St}{H:Hp}{s s':Shared}
theorem Inv.env0(I:Inv X zL Z H s):AI X.prog X.w X.K X.mg X.base X.A X.stack s H:=
 ⟨I.ok.frames,I.ok.mod,I.bs,le_trans I.ok.bsz I.sz,I.stack,I.stkFree,I.hok,I.bare⟩
theorem Inv.after(I:Inv X zL Z H s)(h:CE X.stack X.prog X.w H s Q u s'):EP X zL Z Q u s':=by obtain⟨v,H',os,bare,un,hok,r,q⟩:=h;obtain⟨hh,g,d,t,os'⟩:=s';obtain rfl:os'=s.os:=os;exact⟨v,H',I.call (h':=hh) (g':=g) (d':=d) (t':=t) (ch:=[]) un hok bare (λb z=>absurd z (by simp)),r,q⟩
end
def Binds(K:W.Frag)(fd:FuncData)(ps:List Str)(ds:List Value):Prop:=
 ∀(s:Shared)(us:List Value),K.In s.heap->(us++ds).length=ps.length->BindsTo s fd ⟨us,[]⟩ (ps.zip (us++ds))
theorem Binds.all{K:W.Frag}(h:∀us:List Value,us.length=ps.length->bindArgs fd ⟨us,[]⟩=pure (ps.zip us)):Binds K fd ps []:=λs us _ hl=>by rw[qC]at hl⊢;exact .of_eq (h us hl)
structure aF(N P:List Str)(sc:Scope):Prop where
 kind:sc.kind=.function
 co:sc.isCoroutine=false
 gen:sc.isGenerator=false
 nd:N.Nodup
 pre:N.take P.length=P
 par:∀x∈P,sc.names.lookup x=some .local\/sc.names.lookup x=some .cell
 nofree:∀y∈sc.names,y.2≠.free
theorem Qe{kindOf:Str->Option NameKind}:∀{binds:List (Str×Value)}{m:Str->Option Value},(∀v,(x,v)∉binds)->bindL kindOf binds m x=m x
 |[],_,_=>rfl
 |(n,v)::r,m,h=>by
  unfold bindL;rw[Qe λw hw=>h w (qm _ hw)];split
  .have:x≠n:=by rintro rfl;exact h v qo
   simp[this]
  .rfl
theorem PV{kindOf:Str->Option NameKind}:∀{binds:List (Str×Value)}{m:Str->Option Value},(∀v,(x,v)∉binds)->bindC kindOf binds m x=m x
 |[],_,_=>rfl
 |(n,v)::r,m,h=>by
  unfold bindC;rw[PV λw hw=>h w (qm _ hw)];split
  .rfl
  .have:x≠n:=by rintro rfl;exact h v qo
   simp[this]
theorem Qc{kindOf:Str->Option NameKind}:∀{P:List Str}{vs:List Value}{i:Nat}{m:Str->Option Value},P.Nodup->P[i]?=some x->vs[i]?=some v->kindOf x=some .local->
  bindL kindOf (P.zip vs) m x=some v
 |[],_,_,_,_,h,_,_=>by simp at h
 |_::_,[],_,_,_,_,h,_=>by simp at h
 |p::P,w::vs,0,m,nd,h1,h2,hk=>by simp at h1 h2;subst h1;subst h2;show bindL kindOf ((p,w)::P.zip vs) m p=_;unfold bindL;rw[Qe λv hv=>(qO.mp nd).1 (of_mem_zip hv).1,za hk];simp
 |p::P,w::vs,i+1,m,nd,h1,h2,hk=>by show bindL kindOf ((p,w)::P.zip vs) m x=_;unfold bindL;exact Qc (i:=i) (qO.mp nd).2 (by simpa using h1) (by simpa using h2) hk
theorem Pe{kindOf:Str->Option NameKind}:∀{P:List Str}{vs:List Value}{i:Nat}{m:Str->Option Value},P.Nodup->P[i]?=some x->vs[i]?=some v->kindOf x≠some .local->
  bindC kindOf (P.zip vs) m x=some v
 |[],_,_,_,_,h,_,_=>by simp at h
 |_::_,[],_,_,_,_,h,_=>by simp at h
 |p::P,w::vs,0,m,nd,h1,h2,hk=>by simp at h1 h2;subst h1;subst h2;show bindC kindOf ((p,w)::P.zip vs) m p=_;unfold bindC;rw[PV λv hv=>(qO.mp nd).1 (of_mem_zip hv).1,zc hk];simp
 |p::P,w::vs,i+1,m,nd,h1,h2,hk=>by show bindC kindOf ((p,w)::P.zip vs) m x=_;unfold bindC;exact Pe (i:=i) (qO.mp nd).2 (by simpa using h1) (by simpa using h2) hk
def start(N:List Str)(vs:List V):St:=vs.map some++List.replicate (N.length-vs.length) none
def iI(CX:Hs)(P:Program)(w:World)(K:W.Frag)(mg:Str->Option Value)(base:Heap)(N:List Str)(qual:Str)(scope:Scope)(f:Addr)(cd:Value)(A:Around)(outer:List Env)(s:Shared)(H:Hp)(E:XK):Cx where
 prog:=P
 w:=w
 K:=K
 mg:=mg
 base:=base
 A:=A.deeper (envOfC qual scope s.heap.objs.size f cd)
 N:=N
 s₀:=s
 H₀:=H
 env:=envOfC qual scope s.heap.objs.size f cd
 outer:=outer
 stack:=envOfC qual scope s.heap.objs.size f cd::outer
 ex:=[]
 calm:=true
 fn:=λ_=>true
 pn:=[]
 xe:=λe s'=>wpAny (model P w) (A.deeper (envOfC qual scope s.heap.objs.size f cd)) (leaving (envOfC qual scope s.heap.objs.size f cd) e) (λ_ s''=>CX outer H s E e s'') (λe' s''=>CX outer H s E e' s'') s'
theorem Ou{sc:Scope}(h:sc.names.lookup x=some .cell):∃c,(cellsFrom n sc.names []).lookup x=some c:=by have q:=W.cellsFrom_some sc.names n [] (.inl h);exact isSome_iff_exists.mp q
theorem WR{K:W.Frag}
  (S:aF N ps scope)(hd:A.handled=none)(e0:AI P w K mg base A outer s H)(hl:vs.length=ps.length)(r:zI vs us)
  (x:InCallC s s.heap.objs.size (bindL (envOfC qual scope s.heap.objs.size f cd).kindOf (ps.zip us) λ_=>none) (cellsFrom (s.heap.objs.size+1) scope.names []) (bindC (envOfC qual scope s.heap.objs.size f cd).kindOf (ps.zip us) λ_=>none) s1):
  Inv (iI CX P w K mg base N qual scope f cd A outer s H E) [] (start N vs) H s1:=by
 have hpl:ps.length<=N.length:=by have:=congrArg List.length S.pre;rw[qK]at this;lia
 obtain⟨h1,tk,rfl,hk⟩:=x.done;have noA:∀b:Addr,b∉(iI CX P w K mg base N qual scope f cd A outer s H E).ex:=λb z=>absurd (show b∈([]:List Addr) from z) (by simp);refine⟨⟨e0.mod,S.kind,rfl,rfl,zd _,λy z c h1 h2=>?_,λy hy=>?_,λy c _ h=>?_,λ_=>hd,Around.frames_deeper e0.frames,.inr ⟨rfl,rfl⟩,λb z=>absurd z (noA b),e0.bs,e0.bsz,λb _ _=>noA b,λb z=>absurd z (noA b),e0.funs,e0.frf⟩,
  rfl,e0.bare,Un.kept hk,⟨_,x.toInCall.ns,λi y v h1 h2 h3=>?_⟩,λy c h=>⟨_,x.cell y c h⟩,e0.hok.fresh (zd _),λy c h=>?_,λp hp=>absurd (show p∈([]:List (Addr×Obj)) from hp) (by simp),e0.hok.kept hk,?_⟩
 .exact name_of_addr x.apart (PySem.mem_of_lookup h1) (PySem.mem_of_lookup h2)
 .have hy:scope.names.lookup y=some .cell\/scope.names.lookup y=some .free:=hy;rcases hy with hy|hy
  .exact Ou hy
  .exact absurd rfl (S.nofree _ (PySem.mem_of_lookup hy))
 .exact le_of_lt (x.above y c (PySem.mem_of_lookup h))
 .have hi:i<vs.length:=by
   unfold start at h2;by_cases hi:i<vs.length
   .exact hi
   .rw[getElem?_append_right (by simpa using hi)]at h2;rw[List.getElem?_replicate]at h2;split at h2<;>cases h2
  have ha:vs[i]?=some v:=by
   unfold start at h2;rw[getElem?_append_left (by simpa using hi),qI]at h2;cases e:vs[i]? with
   |none=>rw[e]at h2;cases h2
   |some a=>rw[e]at h2;cases h2;rfl
  obtain⟨u,hu,rv⟩:=r.get ha;have hp:ps[i]?=some y:=by rw[<-S.pre,List.getElem?_take_of_lt (by lia)];exact h1
  have ndP:ps.Nodup:=by rw[<-S.pre];exact S.nd.sublist (List.take_sublist _ _)
  refine⟨u,rv,?_⟩;rcases S.par y (qP hp)with k|k
  .exact .inl ⟨k,Qc ndP hp hu k⟩
  .obtain⟨c,e⟩:=Ou (n:=s.heap.objs.size+1) k;refine .inr ⟨.inl k,c,e,?_⟩;have q:=x.cell y c e;rw[Pe ndP hp hu (by show scope.names.lookup y≠_;rw[k];decide)]at q;exact q
 .exact e0.hok.fresh (le_of_lt (x.above y c (PySem.mem_of_lookup h)))
 .unfold start;show _=N.length;rw[qr,qp,List.length_replicate];lia
theorem Rc{K:W.Frag}{dV kV doc pm cdv ct oc:Value}(lk:K.lookup f=some ⟨oc,od,.func (W.fnOf name qual params body scope dV kV doc pm an cdv ct),osl⟩)(hcd:W.codeIn K cdv qual=true)(S:aF N ps scope)
  (len:∀vs H Q E,sp vs H Q E->vs.length=ps.length)
  (hbody:∀(A:Around)(outer:List Env)(s:Shared)(H:Hp)(vs:List V)(Q:VK)(E:XK),cE k (A.deeper (envOfC qual scope s.heap.objs.size f cdv))->sp vs H Q E->
   ∃t,nY (iI CX P w K mg base N qual scope f cdv A outer s H E) body t/\t {nx:=λ_ H'=>Q .non H',rt:=Q} (start N vs) H):
  iL P w K mg base CX (k+1) f (W.fnOf name qual params body scope dV kV doc pm an cdv ct) ps sp:=by
 refine⟨len,λA outer s H args us vs Q E hr e0 hb r hsp=>?_⟩;have hl:=len _ _ _ _ hsp;have KX:K.In s.heap:=e0.mod.kin.keeps λb o e=>(e0.bs b o e).1;have lim:s.heap.NoLimit:=e0.mod.nolimit.keeps λb o e=>(e0.bs b o e).1;have hkind:∀y∈ps.zip us,scope.names.lookup y.1=some .local\/(scope.names.lookup y.1=some .cell/\((cellsFrom (s.heap.objs.size+1) scope.names []).lookup y.1).isSome=true):=λ⟨n,v⟩ hy=>by
  rcases S.par n (of_mem_zip hy).1 with q|q
  .exact .inl q
  .exact .inr ⟨q,W.cellsFrom_some _ _ _ (.inl q)⟩
 refine codeAny_call_function hr.depth (KX _ _ lk) rfl S.co S.gen rfl (W.codeRec_of KX hcd) (hb _ _ _ _ ?_);refine wpAny_newFunctionEnv_cells S.kind hkind λenv he s1 x=>?_;subst he;refine⟨lim.keeps x.toInCall.keep,codeAny_func ?_⟩;obtain⟨t,ht,hq⟩:=hbody A outer s H vs Q E (hr.deeper _) hsp;have I:Inv (iI CX P w K mg base N qual scope f cdv A outer s H E) [] (start N vs) H s1:=WR S hr.hd e0 hl r x;refine zm (ht [] s1 (start N vs) H _ I hq) (λfl s' hs=>?_) λe s' hs=>hs;have fin:∀{Z':St}{H':Hp}{v:V}{u:Value},Inv (iI CX P w K mg base N qual scope f cdv A outer s H E) [] Z' H' s'->zA v u->Q v H'->CE outer P w H s Q u s':=
  λ{Z' H' v u} J rv q=>⟨v,H',J.os,J.bare,J.base,J.hok,rv,q⟩
 cases fl with
 |ret u=>obtain⟨v,Z',H',J,rv,q⟩:=hs;exact fin J rv q
 |next=>obtain⟨Z',H',J,q⟩:=hs;exact fin (v:=V.non) (u:=Value.none) J rfl q
 |brk=>obtain⟨_,_,_,q⟩:=hs;exact False.elim q
 |cont=>obtain⟨_,_,_,q⟩:=hs;exact False.elim q
section
variable{X:Cx}{x:Str}{p pos:Pos}{e:Expr}{es:List Expr}{t:TA}{id T:String}{r:List V->Hp->VK->Prop}
def FH(r:List V->Hp->VK->Prop)(t:TA):TE:=λZ H Q=>t Z H λvs H1=>r vs H1 Q
theorem JJ(hc:bA X (.builtin id) r)(hg:Gl X x)(hm:X.mg x=none)(hv:bootBuiltins x=some (.builtin id))(ha:PA X (e::es) t)(hn:x≠"__name__":=by decide)(hdb:(x==("__debug__":Str))=false:=by decide)
  (he:starEach (e::es) X.env=(false,eval e X.env)::starEach es X.env:=by rfl)(hpl:(backTo pos (starEach es X.env)).any (·.1)=false:=by rfl):PE X (.Call (.Name x p) (e::es) [] pos) (FH r t):=by
 intro zL s Z H Q I h;refine wpAny_Call_Name_kw (Ee I hg hm hv ?_ hn hdb);exact PyProof.Rows.callWith_builtin1 (cB (ha pos zL s Z H _ I h) λus s1⟨vs,H1,I1,r1,q1⟩=>hc zL s1 Z H1 vs us Q I1 r1 q1) he hpl
theorem Pf(hc:bA X (.type T) r)(hg:Gl X x)(hm:X.mg x=none)(hv:bootBuiltins x=some (.type T))(ha:PA X (e::es) t)(hn:x≠"__name__":=by decide)(hdb:(x==("__debug__":Str))=false:=by decide)
  (he:starEach (e::es) X.env=(false,eval e X.env)::starEach es X.env:=by rfl)(hpl:(backTo pos (starEach es X.env)).any (·.1)=false:=by rfl):PE X (.Call (.Name x p) (e::es) [] pos) (FH r t):=by
 intro zL s Z H Q I h;refine wpAny_Call_Name_kw (Ee I hg hm hv ?_ hn hdb);exact PyProof.Rows.callWith_type1 (cB (ha pos zL s Z H _ I h) λus s1⟨vs,H1,I1,r1,q1⟩=>hc zL s1 Z H1 vs us Q I1 r1 q1) he hpl
end
section
variable{κ:Type}[DecidableEq κ]
def eT(zM:List (κ×V))(k:κ):Option V:=(zM.find? λkv=>decide (kv.1=k)).map (·.2)
def dF(zM:List (κ×V))(k:κ)(v:V):List (κ×V):=
 if(zM.any λkv=>decide (kv.1=k))=true then zM.map (λkv=>if kv.1=k then(kv.1,v)else kv)else zM++[(k,v)]
theorem Fm{p:κ×V}{r:List (κ×V)}{k:κ}(e:p.1=k):eT (p::r) k=some p.2:=by simp[eT,find?_cons,e]
theorem Fh{p:κ×V}{r:List (κ×V)}{k:κ}(e:¬p.1=k):eT (p::r) k=eT r k:=by simp[eT,find?_cons,e]
theorem OM(k:κ):∀zM:List (κ×V),(zM.any λkv=>decide (kv.1=k))=(eT zM k).isSome
 |[]=>rfl
 |p::r=>by
  rw[any_cons];by_cases e:p.1=k
  .simp only[Fm e,qU e,Bool.true_or,isSome_some]
  .rw[Fh e,qV e,Bool.false_or];exact OM k r
theorem Km(zM:List (κ×V))(k:κ)(v:V):(dF zM k v).length<=zM.length+1:=by unfold dF;grind
theorem iK.isSome_eq(r:iK o u):o.isSome=u.isSome:=by
 cases o with
 |none=>cases u with
  |none=>rfl
  |some _=>exact(show False from r).elim
 |some _=>cases u with
  |none=>exact(show False from r).elim
  |some _=>rfl
theorem KV.val{zM:List (κ×V)}{vs:List (κ×Value)}(r:KV zM vs)(k:κ):iK (eT zM k) (valueAt vs k):=by
 unfold KV at r;induction r with
 |nil=>exact True.intro
 |@cons p q ps qs h t ih=>
  obtain⟨h1,h2⟩:=h;by_cases e:p.1=k
  .have e':q.1=k:=h1.symm.trans e;have b:valueAt (q::qs) k=some q.2:=by simp[valueAt,find?_cons,e']
   rw[Fm e,b];exact h2
  .have e':¬q.1=k:=λz=>e (h1.trans z);have b:valueAt (q::qs) k=valueAt qs k:=by simp[valueAt,find?_cons,e']
   rw[Fh e,b];exact ih
theorem KV.any(r:KV zM vs)(k:κ):(zM.any λkv=>decide (kv.1=k))=vs.any λkv=>decide (kv.1=k):=by
 unfold KV at r;induction r with
 |nil=>rfl
 |cons h t ih=>rw[any_cons,any_cons,ih,h.1]
theorem KV.repl(r:KV zM vs)(k:κ)(ry:zA y u):
  KV (zM.map λkv=>if kv.1=k then(kv.1,y)else kv) (vs.map λkv=>if kv.1=k then(kv.1,u)else kv):=by
 unfold KV at r⊢;induction r with
 |nil=>exact .nil
 |@cons p q ps qs h t ih=>rw[qB,qB];refine .cons ?_ ih;grind
theorem KV.put(r:KV zM vs)(k:κ)(ry:zA y u):KV (dF zM k y) (stored vs k u):=by
 unfold dF stored;rw[r.any k];by_cases e:(vs.any λkv=>decide (kv.1=k))=true
 .rw[za e,za e];exact r.repl k ry
 .rw[zc e,zc e];exact Paired.snoc r ⟨rfl,ry⟩
theorem KV.length(r:KV zM vs):zM.length=vs.length:=Paired.length r
end
theorem AK(r:zA (kV k) u):(aI P w).is k u=true:=by
 cases k with
 |inl i=>obtain⟨t,e⟩:=(show∃t,u=Value.int i t from r);subst e;exact Yp P w i t
 |inr x=>obtain⟨t,e⟩:=(show∃t,u=Value.str x t from r);subst e;exact Ys P w x t
theorem HA(e:kV a=kV b):a=b:=by
 cases a with
 |inl i=>cases b with
  |inl j=>have e':V.int i=V.int j:=e;injection e' with e';rw[e']
  |inr y=>exact nomatch (show V.int i=V.str y from e)
 |inr x=>cases b with
  |inl j=>exact nomatch (show V.str x=V.int j from e)
  |inr y=>have e':V.str x=V.str y:=e;injection e' with e';rw[e']
theorem HJ:∀{a b:List aR},a.map kV=b.map kV->a=b
 |[],[],_=>rfl
 |[],_::_,e=>by simp at e
 |_::_,[],e=>by simp at e
 |x::xs,y::ys,e=>by
  rw[qB,qB]at e;injection e with e1 e2
  rw[HA e1,HJ e2]
theorem Qb:∀{ks:List aR}{us:List Value},zI (ks.map kV) us->ItemsAre (aI P w) ks us
 |[],_,r=>by rw[map_nil]at r;cases r;exact .nil
 |k::ks,_,r=>by
  rw[qB]at r;cases r with
  |cons h t=>exact .cons (AK h) (Qb t)
abbrev KT(H:Hp):List (List aR×V)->List (List aR×Addr×Value)->Prop:=Paired λp q=>p.1=q.1/\H q.2.1=some (.tup (p.1.map kV))/\zA p.2 q.2.2
theorem KT.val{H:Hp}{zM:List (List aR×V)}{xs:List (List aR×Addr×Value)}(r:KT H zM xs)(k:List aR):iK (eT zM k) ((atKey xs k).map (·.2)):=by
 induction r with
 |nil=>exact True.intro
 |@cons p q ps qs h t ih=>
  obtain⟨h1,_,h2⟩:=h;by_cases e:p.1=k
  .have e':q.1=k:=h1.symm.trans e;have b:atKey (q::qs) k=some q.2:=by simp[atKey,find?_cons,e']
   rw[Fm e,b];exact h2
  .have e':¬q.1=k:=λz=>e (h1.trans z);have b:atKey (q::qs) k=atKey qs k:=by simp[atKey,find?_cons,e']
   rw[Fh e,b];exact ih
theorem KT.repl(r:KT H zM xs)(k:List aR)(ry:zA y u):
  KT H (zM.map λkv=>if kv.1=k then(kv.1,y)else kv) (xs.map (putAt k u)):=by
 induction r with
 |nil=>exact .nil
 |@cons p q ps qs h t ih=>
  rw[qB,qB];refine .cons ?_ ih;obtain⟨h1,h2,h3⟩:=h;unfold putAt;by_cases e:p.1=k
  .rw[za e,za (h1.symm.trans e)];exact⟨h1,h2,ry⟩
  .rw[zc e,zc (λz=>e (h1.trans z))];exact⟨h1,h2,h3⟩
theorem KT.put(r:KT H zM xs)(k:List aR)(hb:H b=some (.tup (k.map kV)))(ry:zA y u):
  KT H (dF zM k y) (storedH xs k b u):=by
 have e:(zM.any λkv=>decide (kv.1=k))=(atKey xs k).isSome:=by rw[OM,(r.val k).isSome_eq,isSome_map]
 unfold dF storedH;rw[e];by_cases q:(atKey xs k).isSome=true
 .rw[za q,za q];exact r.repl k ry
 .rw[zc q,zc q];exact Paired.snoc r ⟨rfl,hb,ry⟩
theorem KT.keeps(r:KT H zM xs)(ht:∀b ys,H b=some (.tup ys)->H' b=some (.tup ys)):KT H' zM xs:=
 Paired.mapP r λ_ _ z=>⟨z.1,ht _ _ z.2.1,z.2.2⟩
theorem MO(ok:gR P w H h)(e:Rd H a u):zK P w H h a u:=e.ok ok
theorem EE(ok:gR P w H h)(e:Rd H a (.dK zM)):zM.length<=sizeLine/\(a==sysModules)=false/\∃vs,KV zM vs/\h.DictOf (aI P w) a vs:=
 show zK P w H h a (.dK zM) from MO ok e
theorem MQ(ok:gR P w H h)(e:H a=some (.dK zM)):zM.length<=sizeLine/\(a==sysModules)=false/\∃vs,KV zM vs/\h.DictOf (aI P w) a vs:=EE ok (.inl e)
theorem xT(ok:gR P w H h)(e:H a=some (.tup (ks.map kV))):(tupleKind (aI P w)).is h ks a:=by
 obtain⟨_,zP,r,o,h1,h2,n,h3⟩:=(show zK P w H h a (.tup (ks.map kV)) from ok a _ e)
 exact⟨o,zP.toArray,n,h1,h2,h3,by simpa using Qb r⟩
theorem EI(ok:gR P w H h)(e:Rd H a (.dT zM)):zM.length<=sizeLine/\(a==sysModules)=false/\
  ∃xs,KT H zM xs/\h.DictOfH (tupleKind (aI P w)) a xs:=by
 obtain⟨z,y,xs,r,o,es,ep,h1,h2,h3,h4,h5⟩:=(show zK P w H h a (.dT zM) from MO ok e)
 refine⟨z,y,xs,r,o,es,ep,h1,h2,h3,h4,λx hx=>?_,h5⟩;have all:∀{l:List (List aR×V)}{m:List (List aR×Addr×Value)},KT H l m->∀x∈m,(tupleKind (aI P w)).is h x.1 x.2.1:=by
  intro l m q;induction q with
  |nil=>intro x hx;exact nomatch hx
  |@cons p q ps qs hq t ih=>
   intro x hx;rcases qD.mp hx with e|hx
   .subst e;exact xT ok (by rw[<-hq.1];exact hq.2.1)
   .exact ih x hx
 exact all r x hx
theorem RI(ok:gR P w H h)(e:H a=some (.dT zM)):zM.length<=sizeLine/\(a==sysModules)=false/\
  ∃xs,KT H zM xs/\h.DictOfH (tupleKind (aI P w)) a xs:=EI ok (.inl e)
def nV(H:Hp)(a:Addr)(y:V)(r:Option V):Prop:=
 (∃zM k,Rd H a (.dK zM)/\y=kV k/\r=eT zM k)\/∃zM k b,Rd H a (.dT zM)/\y=.ref b/\H b=some (.tup (k.map kV))/\r=eT zM k
def AJ(H:Hp)(a:Addr)(y v:V)(H':Hp):Prop:=
 (∃zM k,H a=some (.dK zM)/\y=kV k/\zM.length<sizeLine/\H'=upd H a (.dK (dF zM k v)))\/
 ∃zM k b,H a=some (.dT zM)/\y=.ref b/\H b=some (.tup (k.map kV))/\zM.length<sizeLine/\H'=upd H a (.dT (dF zM k v))
theorem Inv.big(I:Inv X zL Z H s):sysModules<s.heap.objs.size:=by have h:mainGlobals<s.heap.objs.size:=(I.mod.glob.keeps I.bk).lt;exact lt_trans (by decide) h
theorem WM(hu:A.units+1<cLine)(I:Inv X zL Z H s)(g:nV H a y (some v))(ry:zA y u)(h:∀w' s',Inv X zL Z H s'->zA v w'->Q w' s'):
  wpAny (model X.prog X.w) A (getItem (.ref a) u) Q E s:=by
 rcases g with⟨zM,k,e,ey,l⟩|⟨zM,k,b,e,ey,eb,l⟩
 .subst ey;obtain⟨z,hd,vs,zN,dd⟩:=EE I.hok e;obtain⟨w',hw,rw'⟩:=iK.some_of (v:=v) (o:=valueAt vs k) (by rw[l];exact zN.val k);exact wpAny_getItem_of (AK ry) dd.mapOf hw (h w' _ (I.tok _) rw')
 .subst ey;cases(show u=Value.ref b from ry);obtain⟨z,hd,xs,zN,dd⟩:=EI I.hok e;obtain⟨w',hw,rw'⟩:=iK.some_of (v:=v) (o:=(atKey xs k).map (·.2)) (by rw[l];exact zN.val k);obtain⟨p,hp,hp2⟩:=q8.mp hw;refine wpAny_getItem_heap (tupleKind_room_in1 hu) (xT I.hok eb) dd hp ?_;rw[hp2];exact h w' _ (I.tok _) rw'
theorem MB(hu:A.units+1<cLine)(I:Inv X zL Z H s)(g:nV H a y o)(ry:zA y u)(h:∀s',Inv X zL Z H s'->Q (.bool o.isSome) s'):
  wpAny (model X.prog X.w) A (compareOp .In u (.ref a)) Q E s:=by
 rcases g with⟨zM,k,e,ey,l⟩|⟨zM,k,b,e,ey,eb,l⟩
 .subst ey;obtain⟨z,hd,vs,zN,dd⟩:=EE I.hok e;refine wpAny_in_of (AK ry) hd dd.mapOf ?_;rw[<-(zN.val k).isSome_eq,<-l];exact h _ (I.tok _)
 .subst ey;cases(show u=Value.ref b from ry);obtain⟨z,hd,xs,zN,dd⟩:=EI I.hok e;refine wpAny_in_heap (tupleKind_room_in1 hu) (xT I.hok eb) hd dd ?_;have q:=(zN.val k).isSome_eq;rw[isSome_map]at q;rw[<-q,<-l];exact h _ (I.tok _)
theorem Um(hu:A.units+1<cLine)(I:Inv X zL Z H s)(g:nV H a y o)(ry:zA y u)(h:∀s',Inv X zL Z H s'->Q (.bool (!o.isSome)) s'):
  wpAny (model X.prog X.w) A (compareOp .NotIn u (.ref a)) Q E s:=by
 rcases g with⟨zM,k,e,ey,l⟩|⟨zM,k,b,e,ey,eb,l⟩
 .subst ey;obtain⟨z,hd,vs,zN,dd⟩:=EE I.hok e;refine wpAny_notIn_of (AK ry) hd dd.mapOf ?_;rw[<-(zN.val k).isSome_eq,<-l];exact h _ (I.tok _)
 .subst ey;cases(show u=Value.ref b from ry);obtain⟨z,hd,xs,zN,dd⟩:=EI I.hok e;refine wpAny_notIn_heap (tupleKind_room_in1 hu) (xT I.hok eb) hd dd ?_;have q:=(zN.val k).isSome_eq;rw[isSome_map]at q;rw[<-q,<-l];exact h _ (I.tok _)
theorem EW(I:Inv X zL Z H s)(mu:Hi (H a))(hs:Heap.SameBut a s.heap h')(he:∃q,h'.get? a=some q)(new:zK X.prog X.w (upd H a ob) h' a ob):
  Inv X zL Z (upd H a ob) {s with heap:=h',toks:=t'}:=
 I.write (x:=a) (e:=a) mu (.inl rfl) (λb q hb z=>(hs.2 b hb).trans z) he new
theorem MU(z:zM.length<=sizeLine)(hd:(a==sysModules)=false)(zN:KV zM vs)(dd:h'.DictOf (aI P w) a vs):
  zK P w H' h' a (.dK zM):=⟨z,hd,vs,zN,dd⟩
theorem Vp(hu:A.units+1<cLine)(I:Inv X zL Z H s)(g:AJ H a y v H')(ry:zA y u)(rv:zA v r)(h:∀s',Inv X zL Z H' s'->Q () s'):
  wpAny (model X.prog X.w) A (setItem (.ref a) u r) Q E s:=by
 rcases g with⟨zM,k,e,ey,l,eH⟩|⟨zM,k,b,e,ey,eb,l,eH⟩
 .subst ey eH;obtain⟨z,hd,vs,zN,dd⟩:=MQ I.hok e;have hz:vs.length<=sizeLine:=by rw[<-zN.length];exact z
  have hl:(dF zM k v).length<=sizeLine:=by have:=Km zM k v;lia
  refine wpAny_setItem_pairs (hsz:=hz) (AK ry) dd λh' dd' hs=>h _ ?_;have he:∃q,h'.get? a=some q:=let⟨q,_,_,hq,_⟩:=dd';⟨q,hq⟩
  exact EW I (by rw[e];exact True.intro) hs he (MU hl hd (zN.put k rv) dd')
 .subst ey eH;cases(show u=Value.ref b from ry);obtain⟨z,hd,xs,zN,dd⟩:=RI I.hok e;have hz:xs.length<=sizeLine:=by rw[<-Paired.length zN];exact z
  have hl:(dF zM k v).length<=sizeLine:=by have:=Km zM k v;lia
  refine wpAny_setItem_heap (hsz:=hz) (tupleKind_room_in1 hu) (xT I.hok eb) dd λh' dd' hs=>h _ ?_;obtain⟨q,es,ep,hq,h2,h3,h4,_,h5⟩:=dd';refine EW I (by rw[e];exact True.intro) hs ⟨q,hq⟩ ⟨hl,hd,_,(zN.put k eb rv).keeps λc ys ec=>?_,q,es,ep,hq,h2,h3,h4,h5⟩;rw[cH (MT ec e (λz=>nomatch z))];exact ec
theorem Yh(I:Inv X zL Z H s)(g:nV H a y o):s.TypeIs (.ref a) "dict":=by
 rcases g with⟨zM,k,e,_,_⟩|⟨zM,k,b,e,_,_,_⟩
 .obtain⟨_,_,vs,_,dd⟩:=EE I.hok e;exact dd.typeIs
 .obtain⟨_,_,xs,_,dd⟩:=EI I.hok e;exact dd.typeIs
def FO(td ty tv:TE):TS:=λD Z H=>tv Z H λv H1=>td Z H1 λx H2=>ty Z H2 λy H3=>∃a H4,x=.ref a/\AJ H3 a y v H4/\D.nx Z H4
theorem SC(hu:X.A.units+1<cLine)(ho:PE X o td)(hi:PE X i ty)(hv:PE X value tv)(hs:swapsWith value (some (.Subscript o i pos')) pos.line X.env=pure false):
  PS X (.Assign [.Subscript o i pos'] value pos) (FO td ty tv):=by
 intro zL s Z H D I h;refine wpAny_Assign_Subscript (cB (hv zL s Z H _ I h) λr s1⟨v,H1,I1,rv,q1⟩=>cB (ho zL s1 Z H1 _ I1 q1) λu s2⟨x,H2,I2,rx,q2⟩=>cB (hi zL s2 Z H2 _ I2 q2) λiv s3 zq=>?_) hs;obtain⟨y,H3,I3,ry,a,H4,ex,g,q3⟩:=zq;subst ex;obtain rfl:u=Value.ref a:=rx;exact Vp hu I3 g ry rv λs4 I4=>⟨Z,H4,I4,q3⟩
theorem Vx(h:Heap)(hb:sysModules<h.objs.size):zK P w H (h.push {cls:=.type "dict",data:=.dict #[]}) h.objs.size (.dK []):=
 ⟨zero_le _,beq_eq_false_iff_ne.mpr (Ne.symm (ne_of_lt hb)),[],.nil,Heap.DictOf.new h⟩
def oH:List (TE×TE)->St->Hp->(List (V×V)->Hp->Prop)->Prop
 |[],_,H,Q=>Q [] H
 |(tk,tv)::r,Z,H,Q=>tk Z H λx H1=>tv Z H1 λy H2=>oH r Z H2 λps H3=>Q ((x,y)::ps) H3
abbrev VV:List (V×V)->List (Value×Value)->Prop:=Paired λp q=>zA p.1 q.1/\zA p.2 q.2
def IW(X:Cx)(pos:Pos)(keys:List (Option Expr))(values:List Expr)(trs:List (TE×TE)):Prop:=
 ∀(zL:List (Addr×Obj))(s:Shared)(Z:St)(H:Hp)(Q:List (V×V)->Hp->Prop),Inv X zL Z H s->oH trs Z H Q->
  wpAny (model X.prog X.w) X.A (evalPairs (pairTrees keys values X.env pos)) (λvs s'=>∃ps H',Inv X zL Z H' s'/\VV ps vs/\Q ps H') X.xe s
theorem Tp:IW X pos [] [] []:=λzL s Z H Q I h=>pairTrees_nil_walk ⟨[],H,I,.nil,h⟩
theorem Wb(hk:PE X k tk)(hv:PE X v tv)(hr:IW X pos ks vs trs):
  IW X pos (some k::ks) (v::vs) ((tk,tv)::trs):=λzL s Z H Q I h=>
 pairTrees_cons_walk (cB (hk zL s Z H _ I h) λu s1⟨x,H1,I1,rx,q1⟩=>cB (hv zL s1 Z H1 _ I1 q1) λw2 s2⟨y,H2,I2,ry,q2⟩=>cB (hr zL s2 Z H2 _ I2 q2) λws s3⟨ps,H3,I3,zN,q3⟩=>⟨(x,y)::ps,H3,I3,.cons ⟨rx,ry⟩ zN,q3⟩)
def jL(zM more:List (aR×V)):List (aR×V):=more.foldl (λzQ kv=>dF zQ kv.1 kv.2) zM
theorem KV.merge:∀{more:List (aR×V)}{rs:List (aR×Value)}{zM:List (aR×V)}{vs:List (aR×Value)},KV more rs->KV zM vs->KV (jL zM more) (merged vs rs):=by
 intro more rs zM vs r;unfold KV at r;induction r generalizing zM vs with
 |nil=>intro q;exact q
 |@cons p q ps qs h t ih=>
  intro r0;have e:KV (dF zM p.1 p.2) (stored vs q.1 q.2):=by have:=r0.put p.1 h.2;rw[<-h.1];exact this
  exact ih e
theorem Qv:∀(more zM:List (aR×V)),(jL zM more).length<=zM.length+more.length
 |[],zM=>by show zM.length<=zM.length+0;lia
 |p::r,zM=>by have h1:=Qv r (dF zM p.1 p.2);have h2:=Km zM p.1 p.2;show(jL (dF zM p.1 p.2) r).length<=_;rw[qv];lia
theorem PC:∀{zM:List (aR×V)}{ws:List (Value×Value)},VV (zM.map λkv=>(kV kv.1,kv.2)) ws->∃rs,Carries (aI P w) ws rs/\KV zM rs
 |[],_,r=>by rw[map_nil]at r;cases r;exact⟨[],True.intro,.nil⟩
 |p::zM,_,r=>by
  rw[qB]at r;cases r with
  |@cons a b as bs h t=>obtain⟨rs,c,q⟩:=PC (P:=P) (w:=w) t;obtain⟨b1,b2⟩:=b;exact⟨(p.1,b2)::rs,⟨AK h.1,rfl,c⟩,.cons ⟨rfl,h.2⟩ q⟩
def FD(trs:List (TE×TE)):TE:=λZ H Q=>∀p,H p=none->oH trs Z (upd H p (.dK [])) λps H2=>H2 p=some (.dK [])/\∃zM:List (aR×V),ps=zM.map (λkv=>(kV kv.1,kv.2))/\zM.length<=15/\Q (.ref p) (upd H2 p (.dK (jL [] zM)))
theorem SZ(h:IW X pos keys values trs)(hall:keys.all (·.isSome)=true)(hl:keys.length=values.length)(h0:keys≠[])
  (h15:keys.length<=15):PE X (.Dict keys values pos) (FD trs):=by
 intro zL s Z H Q I q;have hn:=I.hok.fresh (zd s.heap.objs.size);have I1:=I.laid (a:=s.heap.objs.size) (o:=.dK []) (h':=s.heap.push {cls:=.type "dict",data:=.dict #[]}) (t':=s.toks) (λ_ _ q=>qc _ q) (zd _) (Vx s.heap I.big);refine wpAny_Dict_walk (knd:=aI X.prog X.w) hall hl h0 h15 (cB (h zL _ Z _ _ I1 (q _ hn)) λws s2 zq=>?_);obtain⟨ps,H2,I2,zN,e,zM,ep,lk,q2⟩:=zq;subst ep;obtain⟨rs,c,rk⟩:=PC (P:=X.prog) (w:=X.w) zN;obtain⟨z,hd,vs0,r0,dd⟩:=MQ I2.hok e;cases r0;refine⟨rs,c,dd,λh' dd' hs=>⟨.ref s.heap.objs.size,_,?_,rfl,q2⟩⟩;have hz:(jL [] zM).length<=sizeLine:=by have h1:=Qv zM [];rw[qy]at h1;rw[zj];lia
 have he:∃q,h'.get? s.heap.objs.size=some q:=let⟨q,_,_,hq,_⟩:=dd';⟨q,hq⟩
 exact EW I2 (by rw[e];exact True.intro) hs he (MU hz hd (rk.merge .nil) dd')
end L2
namespace HT
open PySem PyProof.Rows
theorem cat_tup(ht:IsTup s.heap t vs.toArray)(hb:IsTup s.heap b ws.toArray)(hv:vs≠[])
  (h1:ws=[]->Q (.ref t) s)(h2:ws≠[]->Q (.ref s.heap.objs.size) {s with heap:=s.heap.push {cls:=.type "tuple",data:=.seq (vs++ws).toArray}})
  (hsz:vs.length+ws.length<=sizeLine):wpAny (model prog w) A (binaryOp .Add (.ref t) (.ref b)) Q E s:=by
 obtain⟨⟨cls,dd,data,sl⟩,ho,hc,n,hd⟩:=id ht;obtain⟨⟨cls2,dd2,data2,sl2⟩,ho2,hc2,n2,hd2⟩:=id hb;simp only at hc hd hc2 hd2;subst hc hd hc2 hd2;have e:vs.toArray++ws.toArray=(vs++ws).toArray:=by simp
 by_cases hw:ws=[]
 .exact concat_meets ⟨_,ho,rfl⟩ ⟨_,ho2,rfl⟩ noFill_tuple_add seq_tuple_add PySem.F.slot_tuple_add PySem.F.entry_tuple_add (PySem.F.args_tuple_add_2 _ _)
   (tuple_addW1 t b vs.toArray ws.toArray n n2 dd dd2 sl sl2 (by simpa using hv) (by simp[hw])) ⟨ho,ho2,h1 hw⟩
 .refine concat_meets ⟨_,ho,rfl⟩ ⟨_,ho2,rfl⟩ noFill_tuple_add seq_tuple_add PySem.F.slot_tuple_add PySem.F.entry_tuple_add (PySem.F.args_tuple_add_2 _ _)
   (tuple_addW2 t b vs.toArray ws.toArray n n2 dd dd2 sl sl2 (by simpa using hv) (by simpa using hw) (by rw[qt,qt];exact hsz)) ⟨ho,ho2,?_⟩
  rw[e];exact h2 hw
def sIx(n d:Nat):Option Int->Nat
 |none=>d
 |some v=>if v<0 then(v+(n:Int)).toNat else min v.toNat n
theorem sIx_le(n d:Nat)(hd:d<=n)(o:Option Int):sIx n d o<=n:=by
 cases o with
 |none=>exact hd
 |some v=>
  show(if v<0 then(v+(n:Int)).toNat else min v.toNat n)<=n;by_cases hv:v<0
  .rw[za hv];lia
  .rw[zc hv];exact min_le_right _ _
theorem NQ(v:Int)(n d:Nat):(if v<0 then max (v+(n:Int)) 0 else min v (n:Int))=((sIx n d (some v):Nat):Int):=by show(if v<0 then max (v+(n:Int)) 0 else min v (n:Int))=(((if v<0 then(v+(n:Int)).toNat else min v.toNat n):Nat):Int);grind
theorem WY(lo hi:Option Int)(n:Nat):Builtin.Slice.sliceAdjust lo hi 1 (n:Int)=(((sIx n 0 lo:Nat):Int),((sIx n n hi:Nat):Int)):=by
 have h1:¬((1:Int)<0):=by lia
 unfold Builtin.Slice.sliceAdjust;simp only[h1,if_false];refine Prod.ext ?_ ?_
 .cases lo with
  |none=>rfl
  |some v=>exact NQ v n 0
 .cases hi with
  |none=>rfl
  |some v=>exact NQ v n n
theorem Xl(i j:Nat):Builtin.Slice.slicePlaces (i:Int) (j:Int) 1=j-i:=by
 unfold Builtin.Slice.slicePlaces;have h1:(1:Int)>0:=by lia
 simp only[h1,if_true,Int.ediv_one];split<;>lia
theorem PP(p:IsPart v o)(h:Q o s):wpAny (model prog w) A (Builtin.Slice.slicePartIndex v) Q E s:=by
 cases p with
 |none=>exact slicePart_none h
 |int i t=>exact slicePart_int h
theorem sliceApplied_gen{lo hi:Option Int}{n:Nat}(hs:s.heap.IsSliceOf sl vl vu .none)(pl:IsPart vl lo)(pu:IsPart vu hi)
  (h:Q (((sIx n 0 lo:Nat):Int),1,sIx n n hi-sIx n 0 lo) s):wpAny (model prog w) A (Builtin.Slice.sliceApplied (.ref sl) (pure (n:Int))) Q E s:=by
 obtain⟨os,hos,hcs,hds⟩:=id hs;unfold Builtin.Slice.sliceApplied Builtin.Slice.sliceFields;refine qa (qa (zg hos hds (x:=vl) rfl (qa (zg hos hds (x:=vu) rfl (qa (zg hos hds (x:=.none) rfl (qb ?_)))))));refine qa (slicePart_none ?_);show wpAny _ _ (if((1:Int)==0)=true then _ else _) _ _ s;rw[zc (by decide)];refine qa (PP pl (qa (PP pu (qa (qb ?_)))));show wpAny _ _ (match Builtin.Slice.sliceAdjust lo hi 1 (n:Int)with|(lo,hi)=>pure (lo,(1:Int),Builtin.Slice.slicePlaces lo hi 1)) _ _ s;rw[WY lo hi n];show wpAny _ _ (pure (((sIx n 0 lo:Nat):Int),(1:Int),Builtin.Slice.slicePlaces ((sIx n 0 lo:Nat):Int) ((sIx n n hi:Nat):Int) 1)) _ _ s;rw[Xl];exact qb h
theorem UU(xs:Array Value)(i k:Nat):((List.range k).filterMap λ(m:Nat)=>xs[((i:Int)+(m:Int)*1).toNat]?).toArray=((xs.toList.drop i).take k).toArray:=by
 have e:(λ(m:Nat)=>xs[((i:Int)+(m:Int)*1).toNat]?)=λm=>xs[i+m]?:=by
  funext m
  have:((i:Int)+(m:Int)*1).toNat=i+m:=by lia
  rw[this]
 rw[e];have:=pick_run xs i k;rw[List.filterMap_map]at this;have e2:((λx=>xs[x]?)∘λx=>i+x)=λm=>xs[i+m]?:=rfl;rw[e2]at this;rw[this]
theorem getItem_tuple_cut{lo hi:Option Int}(ht:IsTup s.heap t items)(hs:s.heap.IsSliceOf sl vl vu .none)(pl:IsPart vl lo)(pu:IsPart vu hi)
  (hw:¬(sIx items.size 0 lo=0/\sIx items.size items.size hi=items.size))
  (h:Q (.ref s.heap.objs.size) {s with heap:=s.heap.push {cls:=.type "tuple",data:=.seq ((items.toList.drop (sIx items.size 0 lo)).take (sIx items.size items.size hi-sIx items.size 0 lo)).toArray}})
  (hsz:items.size<=sizeLine):wpAny (model prog w) A (getItem (.ref t) (.ref sl)) Q E s:=by
 have htake:sizeOk (.seq ((items.toList.drop (sIx items.size 0 lo)).take (sIx items.size items.size hi-sIx items.size 0 lo)).toArray):=by show((items.toList.drop (sIx items.size 0 lo)).take (sIx items.size items.size hi-sIx items.size 0 lo)).toArray.size<=sizeLine;rw[qt,qK,qJ];exact le_trans (min_le_right ..) (le_trans (sub_le ..) hsz)
 have hj:sIx items.size items.size hi<=items.size:=sIx_le _ _ (zd _) hi;obtain⟨os,hos,hcs,hds⟩:=id hs;have hTs:s.TypeIs (.ref sl) "slice":=⟨os,hos,hcs⟩
 unfold getItem;try with_reducible refine zk ?_
 first|refine qa (qb ?_)|skip
 refine qa (wpAny_sequenceKey ht.typeIs (by decide) ?_);refine qa (wpAny_callSpecial?_slot (name:=Str.ofString "__getitem__") ht.typeIs PyProof.Rows.slot_tuple_getitem
  (zi PyProof.Rows.slot_tuple_getitem ht.typeIs entry_tuple_getitem ?_ (args_tuple_getitem _ _)))
 show wpAny _ _ (Builtin.Tuple.tupleItemsOf (.ref t)>>=_) _ _ s;refine qa (tupleItemsOf_ ht ?_);refine qa (wpAny_typeOf hTs ?_);rw[za (by decide)];refine qa (sliceApplied_gen hs pl pu ?_);have hno:¬((((sIx items.size 0 lo:Nat):Int)==0&&(1:Int)==1&&(sIx items.size items.size hi-sIx items.size 0 lo)==items.size)=true):=by grind
 show wpAny _ _ (if(((sIx items.size 0 lo:Nat):Int)==0&&(1:Int)==1&&(sIx items.size items.size hi-sIx items.size 0 lo)==items.size)=true then _ else _) _ _ s;rw[zc hno,UU];first
  |exact qa (m:=Builtin.Tuple.tupleExact _) (zh (qb ⟨_,rfl,qb h⟩) htake)
  |exact qa (m:=Builtin.Tuple.tupleExact _) (zh (qa (qb (qb ⟨_,rfl,qb h⟩))) htake)
  |exact qa (qa (m:=Builtin.Tuple.tupleExact _) (zh (qb (qb ⟨_,rfl,qb h⟩)) htake))
  |exact qa (qa (m:=Builtin.Tuple.tupleExact _) (zh (qb ⟨_,rfl,qb h⟩) htake))
end HT
namespace L2
open PySem PySem.Spec PyProof.Rows
abbrev TO:=St->Hp->(Option Int->Hp->Prop)->Prop
def PO(X:Cx)(e:Option Expr)(t:TO):Prop:=
 ∀(zL:List (Addr×Obj))(s:Shared)(Z:St)(H:Hp)(Q:Option Int->Hp->Prop),Inv X zL Z H s->t Z H Q->
  wpAny (model X.prog X.w) X.A (evalPart e X.env) (λu s'=>∃o H',Inv X zL Z H' s'/\IsPart u o/\Q o H') X.xe s
def yX:TO:=λ_ H Q=>Q none H
def Fz(t:TE):TO:=λZ H Q=>t Z H λx H1=>∃i,x=.int i/\Q (some i) H1
theorem Ic:∀{us:List Value},zI (ns.map V.int) us->IntsAre us ns:=by
 induction ns with
 |nil=>intro us r;rw[map_nil]at r;cases r;exact .nil
 |cons n ns ih=>
  intro us r;rw[qB]at r;cases r with
  |cons r1 r2=>obtain⟨t,e⟩:=r1;subst e;exact .cons n t (ih r2)
section
variable{lo hi:Option Expr}
theorem NY:PO X none yX:=by intro zL s Z H Q I h;rw[evalPart_none];exact qb ⟨none,H,I,.none,h⟩
theorem HG(h:PE X e te):PO X (some e) (Fz te):=by intro zL s Z H Q I hw;rw[evalPart_some];refine cB (h zL s Z H _ I hw) λu s1 zq=>?_;obtain⟨x,H1,I1,r1,q1⟩:=zq;obtain⟨i,rfl,q⟩:=q1;obtain⟨t,rfl⟩:=r1;exact⟨some i,H1,I1,.int i t,q⟩
def tJ(X:Cx)(r:V->Option Int->Option Int->Hp->VK->Prop):Prop:=
 ∀(zL:List (Addr×Obj))(s:Shared)(Z:St)(H:Hp)(x:V)(v vl vu:Value)(lo hi:Option Int)(sl:Addr)(Q:VK),Inv X zL Z H s->zA x v->s.heap.IsSliceOf sl vl vu .none->IsPart vl lo->IsPart vu hi->r x lo hi H Q->
  ∃T id,typeLookup (.type T) "__getitem__"=pure (some (.builtin id))/\s.TypeIs v T/\wpAny (model X.prog X.w) X.A (getItem v (.ref sl)) (EP X zL Z Q) X.xe s
theorem tJ.or(h:tJ X r)(h':tJ X r'):tJ X (λx lo hi H Q=>r x lo hi H Q\/r' x lo hi H Q):=by
 intro zL s Z H x v vl vu lo hi sl Q I rx hs pl pu q;rcases q with q|q
 .exact h zL s Z H x v vl vu lo hi sl Q I rx hs pl pu q
 .exact h' zL s Z H x v vl vu lo hi sl Q I rx hs pl pu q
def YM(r:V->Option Int->Option Int->Hp->VK->Prop)(te:TE)(tl th:TO):TE:=λZ H Q=>te Z H λx H1=>tl Z H1 λl H2=>th Z H2 λu H3=>r x l u H3 Q
theorem JQ(hr:tJ X r)(he:PE X e te)(hl:PO X lo tl)(hu:PO X hi th):PE X (.Subscript e (.Slice lo hi none p2) pos) (YM r te tl th):=by intro zL s Z H Q I h;refine Subscript_ (cB (he zL s Z H _ I h) λv s1 zq=>?_);obtain⟨x,H1,I1,r1,q1⟩:=zq;refine wpAny_Slice (cB (hl zL s1 Z H1 _ I1 q1) λvl s2⟨l,H2,I2,pl,q2⟩=>cB (hu zL s2 Z H2 _ I2 q2) λvu s3 zq=>?_);obtain⟨u,H3,I3,pu,q3⟩:=zq;rw[evalPart_none];refine qb ?_;have I4:Inv X zL Z H3 {s3 with heap:=s3.heap.push {cls:=.type "slice",data:=.fields #[vl,vu,.none]}}:=I3.kept (t':=s3.toks) λb ob q=>qc _ q;obtain⟨T,id,hT,ht,hg⟩:=hr zL {s3 with heap:=s3.heap.push {cls:=.type "slice",data:=.fields #[vl,vu,.none]}} Z H3 x v vl vu l u s3.heap.objs.size Q I4 r1 (Heap.IsSliceOf.new ..) pl pu q3;show wpAny (model X.prog X.w) X.A (subscriptTail e (.Slice lo hi none p2) v (.ref s3.heap.objs.size)) (EP X zL Z Q) X.xe {s3 with heap:=s3.heap.push {cls:=.type "slice",data:=.fields #[vl,vu,.none]}};exact tail_any (ops:=[.ref s3.heap.objs.size,v]) ht hT hg (by with_unfolding_all rfl)
def nO(xs:List V)(lo hi:Option Int):List V:=(xs.drop (HT.sIx xs.length 0 lo)).take (HT.sIx xs.length xs.length hi-HT.sIx xs.length 0 lo)
theorem Qr(xs:List V)(lo hi:Option Int):(nO xs lo hi).length<=xs.length:=by unfold nO;rw[qK,qJ];exact le_trans (min_le_right ..) (sub_le ..)
def FR(K:W.Frag):V->Option Int->Option Int->Hp->VK->Prop:=λx lo hi H Q=>∃a xs,x=.ref a/\bX K H a xs/\
 ¬(HT.sIx xs.length 0 lo=0/\HT.sIx xs.length xs.length hi=xs.length)/\∀p,H p=none->Q (.ref p) (upd H p (.tup (nO xs lo hi)))
theorem RE:tJ X (FR X.K):=by
 intro zL s Z H x v vl vu lo hi sl Q I rx hs pl pu h;obtain⟨a,xs,rfl,hx,hw,q⟩:=h;cases rx;obtain⟨zP,r,ht,hz⟩:=I.tuple hx;have zO:zP.toArray.size=xs.length:=by rw[qt];exact r.length.symm
 refine⟨"tuple",_,PyProof.Rows.slot_tuple_getitem.lookup,ht.typeIs,?_⟩;refine HT.getItem_tuple_cut ht hs pl pu (by rw[zO];exact hw) ?_ (by rw[zO];exact hz);rw[zO];refine⟨.ref s.heap.objs.size,_,I.laid (t':=s.toks) (o:=.tup (nO xs lo hi)) (λb ob q=>qc _ q) (zd _) ?_,rfl,q _ (I.hok.fresh (zd _))⟩;exact⟨⟨le_trans (Qr xs lo hi) hz,nU.new rfl (qd _ rfl)⟩,_,(r.drop (HT.sIx xs.length 0 lo)).take (HT.sIx xs.length xs.length hi-HT.sIx xs.length 0 lo),IsTup.new _ _⟩
def Ge(K:W.Frag):R2:=λx y H Q=>∃a b xs ys,x=.ref a/\y=.ref b/\bX K H a xs/\bX K H b ys/\xs≠[]/\xs.length+ys.length<=sizeLine/\
 (ys=[]->Q (.ref a) H)/\(ys≠[]->∀p,H p=none->Q (.ref p) (upd H p (.tup (xs++ys))))
theorem zI.nil_iff(r:zI xs us):us=[]↔xs=[]:=by
 cases r with
 |nil=>simp
 |cons _ _=>simp
theorem Ui:OpR X (binaryOp .Add) (Ge X.K):=by intro zL s Z H x y v u Q I rx ry h;obtain⟨a,b,xs,ys,rfl,rfl,ha,hb,hx,hz,q1,q2⟩:=h;cases rx;cases ry;obtain⟨zP,r1,p1,_⟩:=I.tuple ha;obtain⟨its2,r2,p2,_⟩:=I.tuple hb;refine HT.cat_tup p1 p2 (λz=>hx (r1.nil_iff.mp z)) (λz=>⟨.ref a,H,I,rfl,q1 (r2.nil_iff.mp z)⟩) (λz=>?_) (by rw[<-r1.length,<-r2.length];exact hz);refine⟨.ref s.heap.objs.size,_,I.laid (t':=s.toks) (o:=.tup (xs++ys)) (λb ob q=>qc _ q) (zd _) ?_,rfl,q2 (λw=>z (r2.nil_iff.mpr w)) _ (I.hok.fresh (zd _))⟩;exact⟨⟨by rw[qr];exact hz,nU.new rfl (qd _ rfl)⟩,_,r1.append r2,IsTup.new _ _⟩
end
def ixN(n:Nat)(i:Int):Option Nat:=if 0<=i then(if i<n then some i.toNat else none)else if -(n:Int)<=i then some (i+n).toNat else none
def atI{α:Type}(xs:List α)(i:Int):Option α:=(ixN xs.length i).bind λj=>xs[j]?
theorem Jy(h:ixN n i=some j):seqIndex? i n=some j/\j<n/\-(n:Int)<=i/\i<n:=by
 unfold ixN at h;by_cases h0:0<=i
 .rw[za h0]at h;by_cases h1:i<n
  .rw[za h1]at h;have e:i.toNat=j:=qg h;exact⟨by rw[seqIndex_of h0 h1,e],by lia,by lia,h1⟩
  .rw[zc h1]at h;cases h
 .rw[zc h0]at h;by_cases h1:-(n:Int)<=i
  .rw[za h1]at h;have e:(i+n).toNat=j:=qg h;exact⟨by rw[seqIndex_neg (by lia) h1,e],by lia,h1,by lia⟩
  .rw[zc h1]at h;cases h
theorem Jv(h:atI xs i=some v):∃j,seqIndex? i xs.length=some j/\xs[j]?=some v/\j<xs.length/\-(xs.length:Int)<=i/\i<xs.length:=by
 unfold atI at h;cases e:ixN xs.length i with
 |none=>rw[e]at h;cases h
 |some j=>rw[e]at h;obtain⟨h1,h2,h3,h4⟩:=Jy e;exact⟨j,h1,h,h2,h3,h4⟩
theorem OC(xs:List α)(v:α):atI (xs++[v]) (-1)=some v:=by
 have hl:(xs++[v]).length=xs.length+1:=by simp
 have e:ixN (xs++[v]).length (-1)=some xs.length:=by unfold ixN;rw[hl,zc (by decide),za (by lia)];congr 1;lia
 unfold atI;rw[e];show(xs++[v])[xs.length]?=some v;simp
def iR(b:Expr):Prop:=∀o i,subscripted b false o i=operate [o,i] (getItem o i)
def xQ(X:Cx)(r:R2):Prop:=
 ∀(value slice:Expr)(zL:List (Addr×Obj))(s:Shared)(Z:St)(H:Hp)(x y:V)(v u:Value)(Q:VK),Inv X zL Z H s->zA x v->zA y u->r x y H Q->
  subscripted slice false v u=operate [v,u] (getItem v u)->wpAny (model X.prog X.w) X.A (subscriptTail value slice v u) (EP X zL Z Q) X.xe s
def Zj(X:Cx)(id:String)(r:V->List V->Hp->VK->Prop):Prop:=
 ∀(zL:List (Addr×Obj))(s:Shared)(Z:St)(H:Hp)(x:V)(xs:List V)(v:Value)(us:List Value)(Q:VK),Inv X zL Z H s->zA x v->zI xs us->r x xs H Q->
  wpAny (model X.prog X.w) X.A (call (.builtin id) (v::us)) (EP X zL Z Q) X.xe s
section
theorem xQ.or(h:xQ X r)(h':xQ X r'):xQ X (λx y H Q=>r x y H Q\/r' x y H Q):=by
 intro value slice zL s Z H x y v u Q I rx ry q hs;rcases q with q|q
 .exact h value slice zL s Z H x y v u Q I rx ry q hs
 .exact h' value slice zL s Z H x y v u Q I rx ry q hs
theorem Jd(hr:xQ X r)(ha:PE X a ta)(hb:PE X b tb)(hs:iR b):PE X (.Subscript a b pos) (IF r ta tb):=by intro zL s Z H Q I h;exact Subscript_ (DS ha hb I h λv u s2 x y H2 I2 rx ry q=>hr a b zL s2 Z H2 x y v u Q I2 rx ry q (hs _ _))
def Gc(K:W.Frag):R2:=λx y H Q=>∃p xs i v,x=.ref p/\y=.int i/\cA K H p xs/\atI xs i=some v/\Q v H
def Ga(K:W.Frag):R2:=λx y H Q=>∃p xs i v,x=.ref p/\y=.int i/\bX K H p xs/\atI xs i=some v/\Q v H
def Gb:R2:=λx y H Q=>∃z i c,x=.str z/\y=.int i/\z.length<=sizeLine/\atI z.cps.toList i=some c/\Q (.str ⟨#[c]⟩) H
theorem zk3:xQ X (Gc X.K):=by
 intro value slice zL s Z H x y v u Q I rx ry h hs;obtain⟨p,xs,i,z,rfl,rfl,hq,he,q⟩:=h;cases rx;obtain⟨t,rfl⟩:=ry;obtain⟨zP,r,pl,hz⟩:=I.list hq;obtain⟨j,h1,h2,h3,h4,h5⟩:=Jv he;obtain⟨w,ew,rw'⟩:=r.get h2;have hl:=r.length;have hn:=gD;have fin:EP X zL Z Q w s:=⟨z,H,I,rw',q⟩
 by_cases h0:0<=i
 .have hj:i.toNat=j:=by rw[seqIndex_of h0 h5]at h1;exact qg h1
  exact item_listR pl.isList h0 (by lia) (by rw[hj];simpa using ew) fin hs
 .have hj:(i+(zP.toArray.size:Int)).toNat=j:=by rw[seqIndex_neg (by lia) h4]at h1;rw[qt,<-hl];exact qg h1
  exact subscriptTail_builtinR (x:=w) pl.isList.typeIs slot_list_getitem.lookup
   (wpAny_getItem_list_neg (Q:=λr s'=>r=w/\EP X zL Z Q r s') pl.isList (by lia) (by rw[qt]<;>lia) (by lia) (by rw[hj];simpa using ew) ⟨rfl,fin⟩) hs
theorem zmi:xQ X (Ga X.K):=by
 intro value slice zL s Z H x y v u Q I rx ry h hs;obtain⟨p,xs,i,z,rfl,rfl,hq,he,q⟩:=h;cases rx;obtain⟨t,rfl⟩:=ry;obtain⟨zP,r,pl,hz⟩:=I.tuple hq;obtain⟨j,h1,h2,h3,h4,h5⟩:=Jv he;obtain⟨w,ew,rw'⟩:=r.get h2;have hl:=r.length;have hn:=gD;have fin:EP X zL Z Q w s:=⟨z,H,I,rw',q⟩
 exact subscriptTail_builtinR (x:=w) pl.typeIs slot_tuple_getitem.lookup
  (getItem_tuple (j:=j) (Q:=λr s'=>r=w/\EP X zL Z Q r s') pl (by lia) (by lia) (by rw[qt,<-hl];exact h1) (by simpa using ew) ⟨rfl,fin⟩) hs
theorem SN:xQ X Gb:=by
 intro value slice zL s Z H x y v u Q I rx ry h hs;obtain⟨z,i,c,rfl,rfl,hz,he,q⟩:=h;obtain⟨t,rfl⟩:=rx;obtain⟨t',rfl⟩:=ry;obtain⟨j,h1,h2,h3,h4,h5⟩:=Jv he;have hl:z.cps.toList.length=z.length:=by simp[Str.length]
 rw[hl]at h1 h4 h5;have hn:=gD;exact tail_any (typeIs_str s z t) slot_str_getitem.lookup (getItem_str (c:=c) (by have e1:decide (i< -(2^63:Int))=false:=qV (by lia);have e2:decide (i≥2^63)=false:=qV (by lia);rw[e1,e2,Bool.or_false]) (by rw[h1];simpa using h2) ⟨.str ⟨#[c]⟩,H,I.tok _,⟨_,rfl⟩,q⟩) hs
def IG(K:W.Frag):R2:=λx y H Q=>Gc K x y H Q\/Ga K x y H Q\/Gb x y H Q
theorem MX:xQ X (IG X.K):=zk3.or (zmi.or SN)
theorem WZ(zP:List Value)(n j:Nat)(u:Value):Obj.mapSeq (·.setIfInBounds j u) {cls:=.type "list",data:=.seq zP.toArray n}={cls:=.type "list",data:=.seq (zP.set j u).toArray n}:=by simp[Obj.mapSeq]
theorem Inv.lst(I:Inv X zL Z H s)(h:H p=some (.lst xs)):
  ∃(zP:List Value)(n:Nat),zI xs zP/\s.heap.get? p=some {cls:=.type "list",data:=.seq zP.toArray n}/\xs.length<=sizeLine:=by
 obtain⟨z,zP,n,r,e⟩:=I.hok p _ h;exact⟨zP,n,r,e,z⟩
theorem Inv.lstUpd{zP its':List Value}(I:Inv X zL Z H s)(h:H p=some (.lst xs))
  (ho:s.heap.get? p=some {cls:=.type "list",data:=.seq zP.toArray n})(hf:f {cls:=.type "list",data:=.seq zP.toArray n}={cls:=.type "list",data:=.seq its'.toArray n'})(r:zI ys its')(hz:ys.length<=sizeLine)(t:Nat):
  Inv X zL Z (upd H p (.lst ys)) {s with heap:=s.heap.update p f,toks:=t}:=by
 have e:(s.heap.update p f).get? p=some {cls:=.type "list",data:=.seq its'.toArray n'}:=by rw[zf f ho (by rw[hf]<;>rfl),hf]
 refine I.write (x:=p) (e:=p) (by rw[h];trivial) (.inl rfl) (λb u hb q=>(ze _ _ (Ne.symm hb)).trans q) ⟨_,e⟩ ?_;exact⟨hz,its',n',r,e⟩
def FX:V->V->V->Hp->(Hp->Prop)->Prop:=λo i v H Q=>∃p xs k j,o=.ref p/\i=.int k/\H p=some (.lst xs)/\ixN xs.length k=some j/\Q (upd H p (.lst (xs.set j v)))
theorem Vl:Hf X FX:=by
 intro zL s Z H o i v ov iv u Q I ro ri rv h;obtain⟨p,xs,k,j,rfl,rfl,hp,hj,q⟩:=h;cases ro;obtain⟨t,rfl⟩:=ri;obtain⟨zP,n,r,ho,hz⟩:=I.lst hp;obtain⟨h1,h2,h3,h4⟩:=Jy hj;have hl:=r.length;have hn:=gD;have I':Inv X zL Z (upd H p (.lst (xs.set j v))) {s with heap:=s.heap.update p (Obj.mapSeq (·.setIfInBounds j u))}:=
  I.lstUpd hp ho (WZ zP n j u) (r.set rv j) (by rw[List.length_set];exact hz) s.toks
 by_cases h0:0<=k
 .have hk:k.toNat=j:=by rw[seqIndex_of h0 h4]at h1;exact qg h1
  exact W.ki_setAt ho h0 (by lia) (by rw[qt,<-hl];exact h4) (by rw[hk];exact⟨_,I',q⟩)
 .have hk:(k+(zP.toArray.size:Int)).toNat=j:=by rw[seqIndex_neg (by lia) h3]at h1;rw[qt,<-hl];exact qg h1
  exact W.ki_setBack ho (by lia) (by rw[qt,<-hl];exact h3) (by lia) (by rw[hk];exact⟨_,I',q⟩)
theorem YD(lo hi:Option Int)(n:Nat):(sliceBounds lo hi none n).1=((HT.sIx n 0 lo:Nat):Int)/\(sliceBounds lo hi none n).2.1=((HT.sIx n n hi:Nat):Int)/\(sliceBounds lo hi none n).2.2=1:=by
 have clip:∀(i:Int)(n d:Nat),max 0 (min (if i<0 then i+(n:Int)else i) (n:Int))=((HT.sIx n d (some i):Nat):Int):=λi n _=>Bp i n;refine⟨?_,?_,rfl⟩
 .cases lo with
  |none=>rfl
  |some i=>exact clip i n 0
 .cases hi with
  |none=>rfl
  |some i=>exact clip i n n
theorem Yy(zP:List Value)(lo hi:Option Int):slicePick zP.toArray lo hi none=((zP.drop (HT.sIx zP.length 0 lo)).take (HT.sIx zP.length zP.length hi-HT.sIx zP.length 0 lo)).toArray:=by obtain⟨h1,h2,h3⟩:=YD lo hi zP.toArray.size;unfold slicePick;rw[h1,h2,h3];simp only[sliceRange_one,pick_run,qt]<;>rfl
def FV(K:W.Frag):V->Option Int->Option Int->Hp->VK->Prop:=λx lo hi H Q=>∃a xs,x=.ref a/\cA K H a xs/\∀p,H p=none->Q (.ref p) (upd H p (.lst (nO xs lo hi)))
theorem TZ:tJ X (FV X.K):=by intro zL s Z H x v vl vu lo hi sl Q I rx hs pl pu h;obtain⟨a,xs,rfl,hx,q⟩:=h;cases rx;obtain⟨zP,r,ht,hz⟩:=I.list hx;have zO:=r.length;refine⟨"list",_,slot_list_getitem.lookup,ht.isList.typeIs,?_⟩;refine wpAny_getItem_list_slice ht.isList hs pl pu .none (by simp) ?_ (by rw[qt]<;>lia);rw[Yy,<-zO];refine⟨.ref s.heap.objs.size,_,I.laid (t':=s.toks) (o:=.lst (nO xs lo hi)) (λb ob q=>qc _ q) (zd _) ?_,rfl,q _ (I.hok.fresh (zd _))⟩;exact⟨le_trans (Qr xs lo hi) hz,_,0,(r.drop (HT.sIx xs.length 0 lo)).take (HT.sIx xs.length xs.length hi-HT.sIx xs.length 0 lo),qd _ rfl⟩
theorem Yd:bA X (.builtin "len") (λxs H Q=>∃p ys,xs=[.ref p]/\(cA X.K H p ys\/bX X.K H p ys)/\Q (.int ys.length) H):=by
 intro zL s Z H xs us Q I r h;obtain⟨p,ys,rfl,hq,q⟩:=h;obtain⟨u,rfl,rx⟩:=vals1 r;cases rx;have hn:=gD;rcases hq with hq|hq
 .obtain⟨zP,r',pl,hz⟩:=I.list hq;have zO:=r'.length;exact Calls.call_len_list pl.isList (by simp only[qt]<;>lia) ⟨.int ys.length,H,I.tok _,⟨s.toks+1,by rw[qt,zO]⟩,q⟩
 .obtain⟨zP,r',pl,hz⟩:=I.tuple hq;have zO:=r'.length;exact len_tuple pl (by simp only[qt]<;>lia) ⟨.int ys.length,H,I.tok _,⟨s.toks+1,by rw[qt,zO]⟩,q⟩
theorem YE:bA X (.builtin "len") (λxs H Q=>∃z,xs=[.str z]/\z.length<=sizeLine/\Q (.int z.length) H):=by intro zL s Z H xs us Q I r h;obtain⟨z,rfl,hz,q⟩:=h;obtain⟨u,rfl,t,rfl⟩:=vals1 r;have hn:=gD;exact len_str (by lia) ⟨.int z.length,H,I.tok _,⟨_,rfl⟩,q⟩
theorem Yw:bA X (.type "list") (λxs H Q=>∃p ys,xs=[.ref p]/\(cA X.K H p ys\/bX X.K H p ys)/\∀l,H l=none->Q (.ref l) (upd H l (.lst ys))):=by
 intro zL s Z H xs us Q I r h;obtain⟨p,ys,rfl,hq,q⟩:=h;obtain⟨u,rfl,rx⟩:=vals1 r;cases rx;have fin:∀(zP:List Value),zI ys zP->ys.length<=sizeLine->∀(h':Heap)(c':Nat),(∀b o',s.heap.get? b=some o'->h'.get? b=some o')->
   h'.get? s.heap.objs.size=some {cls:=.type "list",dict:=none,data:=.seq zP.toArray c',slots:=#[]}->EP X zL Z Q (.ref s.heap.objs.size) {s with heap:=h'}:=λzP r' hz h' c' kp e=>
  ⟨.ref s.heap.objs.size,_,I.laid (t':=s.toks) kp (zd _) (show zK X.prog X.w _ h' _ (.lst ys) from⟨hz,zP,c',r',e⟩),rfl,q _ (I.hok.fresh (zd _))⟩
 rcases hq with hq|hq
 .obtain⟨zP,r',pl,hz⟩:=I.list hq;have zO:=r'.length;obtain⟨o,ho,hc,n,hd⟩:=pl.isList;exact call_list_seq p (.inl rfl) ho hc hd (λh' c' kp e=>fin zP r' hz h' c' kp e) (by simp only[qt]<;>lia)
 .obtain⟨zP,r',pl,hz⟩:=I.tuple hq;have zO:=r'.length;obtain⟨o,ho,hc,n,hd⟩:=pl;exact call_list_seq p (.inr rfl) ho hc hd (λh' c' kp e=>fin zP r' hz h' c' kp e) (by simp only[qt]<;>lia)
theorem YB:bA X (.type "tuple") (λxs H Q=>∃p ys,xs=[.ref p]/\((cA X.K H p ys/\∀l,H l=none->Q (.ref l) (upd H l (.tup ys)))\/(bX X.K H p ys/\Q (.ref p) H))):=by
 intro zL s Z H xs us Q I r h;obtain⟨p,ys,rfl,h⟩:=h;obtain⟨u,rfl,rx⟩:=vals1 r;cases rx;rcases h with⟨hq,q⟩|⟨hq,q⟩
 .obtain⟨zP,r',pl,hz⟩:=I.list hq;have zO:=r'.length;refine call_tuple_list pl.isList (λh' kp=>?_) (by simp only[qt]<;>lia);have I1:Inv X zL Z H {s with heap:=h'}:=I.kept (t':=s.toks) kp;have I2:Inv X zL Z (upd H h'.objs.size (.tup ys)) {s with heap:=h'.push {cls:=.type "tuple",data:=.seq zP.toArray}}:=
   I1.laid (t':=s.toks) (λb o e=>qc _ e) (zd _) (show zK X.prog X.w _ _ _ (.tup ys) from⟨⟨hz,nU.new rfl (qd _ rfl)⟩,zP,r',IsTup.new _ _⟩)
  exact⟨.ref h'.objs.size,_,I2,rfl,q _ (I1.hok.fresh (zd _))⟩
 .obtain⟨zP,r',pl,hz⟩:=I.tuple hq;exact call_tuple_same pl ⟨.ref p,H,I,rfl,q⟩
def Qx(K:W.Frag)(T:String)(x:V)(H:Hp):Prop:=match x with
 |.str _=>T="str"
 |.int _=>T="int"
 |.ref p=>(T="list"/\∃xs,cA K H p xs)\/(T="tuple"/\∃o,K.lookup p=some o/\o.cls=.type "tuple"/\o.dict=none)\/
  (T="dict"/\((∃zM,H p=some (.dK zM))\/∃zM,H p=some (.dT zM)))
 |_=>False
theorem SH(I:Inv X zL Z H s)(r:zA x v)(ty:Qx X.K T x H):
  s.TypeIs v T/\∀a,v=.ref a->∃ob,s.heap.get? a=some ob/\ob.dict=none:=by
 cases x with
 |str z=>obtain⟨t,rfl⟩:=r;cases(show T="str" from ty);exact⟨typeIs_str s z t,λ_ e=>nomatch e⟩
 |int i=>obtain⟨t,rfl⟩:=r;cases(show T="int" from ty);exact⟨typeIs_int s i t,λ_ e=>nomatch e⟩
 |ref p=>
  cases r;rcases ty with⟨rfl,xs,hq⟩|⟨rfl,o,hk,hc,hd⟩|⟨rfl,hk⟩
  .obtain⟨zP,_,pl,_⟩:=I.list hq;refine⟨pl.isList.typeIs,λa e=>?_⟩;cases e;obtain⟨o,n,e,c,hd,_⟩:=pl;exact⟨o,e,hd⟩
  .refine⟨⟨o,I.kIn p o hk,hc⟩,λa e=>?_⟩;cases e;exact⟨o,I.kIn _ o hk,hd⟩
  .have z:∃o,s.heap.get? p=some o/\o.ExactDict:=by
    rcases hk with⟨zM,hk⟩|⟨zM,hk⟩
    .obtain⟨_,_,_,_,o,_,_,e,ex,_⟩:=I.hok p _ hk;exact⟨o,e,ex⟩
    .obtain⟨_,_,_,_,o,_,_,e,ex,_⟩:=I.hok p _ hk;exact⟨o,e,ex⟩
   obtain⟨o,e,ex⟩:=z;refine⟨⟨o,e,ex.1⟩,λa e2=>?_⟩;cases e2;exact⟨o,e,ex.2.1⟩
 |_=>exact False.elim ty
def YO(K:W.Frag)(T:String)(r:V->List V->Hp->VK->Prop)(to:TE)(t:TA):TE:=λZ H Q=>to Z H λx H1=>Qx K T x H1/\t Z H1 λxs H2=>r x xs H2 Q
variable{T id:String}
theorem Hv(pa:PlainAttrs T)(slot:Slot T name id)(hty:typeOf (.builtin id)=pure (.type "method_descriptor"))(hm:Zj X id r)(ho:PE X o to)(ha:PA X (e::es) t)
  (hbase:attributeBase o name X.env (eval o X.env)=eval o X.env:=by rfl)
  (hfew:((backTo cpos (starEach (e::es) X.env)).all (λx=>!x.1)&&(backToKw cpos (keywordEach [] X.env)).all (λx=>x.1.isSome)
   &&decide ((e::es).length+([]:List Keyword).length+(if([]:List Keyword).isEmpty then 0 else 1)<30))=true:=by rfl)
  (hline:(apos.endLine==cpos.line)=true:=by rfl)(hs:starEach (e::es) X.env=(false,eval e X.env)::starEach es X.env:=by rfl)(hplain:(backTo cpos (starEach es X.env)).any (·.1)=false:=by rfl):
  PE X (.Call (.Attribute o name apos) (e::es) [] cpos) (YO X.K T r to t):=by
 intro zL s Z H Q I h;refine wpAny_Call_method_late hbase hfew hline rfl (cB (ho zL s Z H _ I h) λv s1 zq=>?_);obtain⟨x,H1,I1,r1,ty,q1⟩:=zq;obtain⟨h1,h2⟩:=SH I1 r1 ty;refine⟨T,id,pa,slot,hty,h1,h2,?_⟩;have hA:=ha cpos zL s1 Z H1 _ I1 q1;rw[hs]at hA⊢;refine Calls.callWith_builtin (by show(false||(backTo cpos (starEach es X.env)).any (·.1))=false;rw[hplain]<;>rfl) (Calls.evalArgs_plain ?_);exact cB hA λus s2⟨vs,H2,I2,r2,q2⟩=>hm zL s2 Z H2 x vs v us Q I2 r1 r2 q2
end
def IX(X:Cx)(id:String)(r:V->List V->Hp->VK->Prop):Prop:=
 ∀(zL:List (Addr×Obj))(s:Shared)(Z:St)(H:Hp)(x:V)(xs:List V)(v:Value)(us:List Value)(Q:VK),Inv X zL Z H s->zA x v->zI xs us->r x xs H Q->
  wpAny (model X.prog X.w) X.A (call (.builtin id) (v::us)) (EP X zL Z Q) X.xe s
theorem zI.one:∀{x:V}{us:List Value},zI [x] us->∃u,us=[u]/\zA x u:=by
 intro x us h;cases h with
 |cons r t=>cases t;exact⟨_,rfl,r⟩
theorem zI.eraseIdx:∀{xs:List V}{us:List Value}(i:Nat),zI xs us->zI (xs.eraseIdx i) (us.eraseIdx i)
 |_,_,_,.nil=>.nil
 |_,_,0,.cons _ t=>t
 |_,_,i+1,.cons r t=>.cons r (zI.eraseIdx i t)
theorem Qa{α:Type}:∀(l:List α)(i:Nat),(l.eraseIdx i).length<=l.length
 |[],_=>zd _
 |_::_,0=>le_succ _
 |_::r,i+1=>Nat.succ_le_succ (Qa r i)
theorem Inv.lset{zP its':List Value}(I:Inv X zL Z H s)(hH:H l=some (.lst xs))
  (e:s.heap.get? l=some {cls:=.type "list",data:=.seq zP.toArray n})(hf:f zP.toArray=its'.toArray)(hv:zI ys its')(hz:ys.length<=sizeLine):
  Inv X zL Z (upd H l (.lst ys)) {s with heap:=s.heap.update l (Obj.mapSeq f),toks:=t'}:=by
 have q:=PySem.IsL.update e f;rw[hf]at q;refine I.write (x:=l) (e:=l) (by rw[hH];exact trivial) (.inl rfl) (λb' u hb hu=>(ze s.heap (Obj.mapSeq f) (Ne.symm hb)).trans hu) ⟨_,q⟩ ?_;exact⟨hz,its',_,hv,q⟩
theorem Inv.lnew(I:Inv X zL Z H s)(hv:zI ys zP)(hz:ys.length<=sizeLine):
  Inv X zL Z (upd H s.heap.objs.size (.lst ys)) {s with heap:=s.heap.push {cls:=.type "list",data:=.seq zP.toArray},toks:=t'}:=
 I.laid (λ_ _ q=>qc _ q) (zd _) ⟨hz,zP,0,hv,qd _ rfl⟩
theorem Inv.fresh(I:Inv X zL Z H s):H s.heap.objs.size=none:=I.hok.fresh (zd _)
theorem Inv.lstM(I:Inv X zL Z H s)(hH:H l=some (.lst xs)):xs.length<=sizeLine/\∃(zP:List Value)(n:Nat),zI xs zP/\xs.length=zP.length/\s.heap.get? l=some {cls:=.type "list",data:=.seq zP.toArray n}:=by obtain⟨z,zP,n,r,e⟩:=I.hok l _ hH;exact⟨z,zP,n,r,r.length,e⟩
def zU:V->List V->Hp->VK->Prop:=λx vs H Q=>∃l xs y,x=.ref l/\vs=[y]/\H l=some (.lst xs)/\xs.length<sizeLine/\Q .non (upd H l (.lst (xs++[y])))
theorem JY:IX X "list.append" zU:=by intro zL s Z H x vs v us Q I rx rv h;obtain⟨l,xs,y,rfl,rfl,hH,hz,q⟩:=h;cases rx;obtain⟨u,rfl,ru⟩:=rv.one;obtain⟨z,zP,n,r,hl,e⟩:=I.lstM hH;refine call_meets F.slot_list_append ⟨_,e,rfl⟩ F.entry_list_append (F.args_list_append_2 _ _) (PySem.list_append l zP.toArray n u (by rw[qt];lia)) ⟨e,?_⟩;refine⟨.non,_,I.lset (its':=zP++[u]) hH e (by simp) (r.append (.cons ru .nil)) ?_,rfl,q⟩;rw[qr,qE];lia
def Ct:V->List V->Hp->VK->Prop:=λx vs H Q=>∃l xs i k y,x=.ref l/\vs=[.int i]/\H l=some (.lst xs)/\-(2^63)<=i/\i<2^63/\seqIndex? i xs.length=some k/\xs[k]?=some y/\Q y (upd H l (.lst (xs.eraseIdx k)))
theorem Uw:IX X "list.pop" Ct:=by
 intro zL s Z H x vs v us Q I rx rv h;obtain⟨l,xs,i,k,y,rfl,rfl,hH,h1,h2,hk,hy,q⟩:=h;cases rx;obtain⟨u,rfl,ru⟩:=rv.one;obtain⟨t,rfl⟩:=ru;obtain⟨z,zP,n,r,hl,e⟩:=I.lstM hH;obtain⟨w,hw,rw'⟩:=r.get hy;refine call_meets F.slot_list_pop ⟨_,e,rfl⟩ F.entry_list_pop (F.args_list_pop_2 _ _)
  (MeetsSeq.list_pop_at l zP.toArray n i t k w (fitsIndex_both h1 h2) (by rw[qt,<-hl];exact hk) (by rw[<-q9];exact hw) (by rw[qt];lia)) ⟨e,?_⟩
 refine⟨y,_,I.lset (its':=zP.eraseIdx k) hH e ?_ (r.eraseIdx k) ?_,rw',q⟩
 .show zP.toArray.eraseIdxIfInBounds k=(zP.eraseIdx k).toArray;rw[List.eraseIdxIfInBounds_toArray]
 .have:=Qa xs k;lia
end L2
namespace Att
open PySem PySem.W PySem.Calls PyProof.Rows
theorem YH:∀(ns:List Int)(vs:List Value),WellAll P h vs (ns.map WData.int)->IntsAre vs ns:=by
 intro ns;induction ns with
 |nil=>intro vs w;rw[map_nil]at w;cases w;exact .nil
 |cons n ns ih=>
  intro vs w;rw[qB]at w;cases w with
  |cons a b=>cases a;exact .cons _ _ (ih _ b)
theorem WV{l:OpenLaw}(hn:l.most=some n)
  (hpre:l.row.toRowW.claim.pre args=true)(hwl:WellAll P h vals args):
  ∃a vs ns,vals=[Value.ref a]/\args=[WData.list (ns.map WData.int)]/\h.get? a=some {cls:=.type "list",data:=.seq vs.toArray}/\IntsAre vs ns/\ns.length<=n:=by
 have hsh:WShape.hasAll [] args [.list .int]=true:=(pre_splitW hpre).1;have hc:l.pre.holds [] {args:=args}=true:=(pre_splitW hpre).2;obtain⟨d,r,rfl,h1,h2⟩:=hasAllW_cons hsh;obtain rfl:=hasAllW_nil h2;obtain⟨xs,rfl,h3⟩:=hasW_list h1;obtain⟨ns,rfl⟩:=items_int h3;have zO:ns.length<=n:=by
  unfold OpenLaw.pre at hc;have h4:(WTm.not (.lt (.lit (.int (n:Int))) (.len (.arg 0)))).holds [] {args:=[.list (ns.map .int)]}=true:=by have h4:=(holds_andW hc).1;rw[hn]at h4;exact h4
  have h5:=condW_of h4 (w_not (w_lt w_lit (w_len_list (w_arg rfl))));grind
 cases hwl with
 |cons w1 w2=>
  cases w2;cases w1 with
  |list ho hall=>exact⟨_,_,ns,rfl,rfl,ho,YH ns _ hall,zO⟩
theorem Wn(l:OpenLaw)(args:List WData):l.row.toRowW.claim.post args (.bool true) args=true:=
 postW_of (r:=l.row.toRowW) (X:=(true==true))
  (show WShape.has [] (.bool true) .bool=true by first|rfl|decide|simp[WShape.has,WShape.arms,WShape.armsAll])
  (show(WTm.eq .res (.lit (.bool true))).value [] {args:=args,res:=some (.bool true),after:=args}=some (.bool (true==true)) from w_eq_bool (w_res rfl) w_lit) rfl
theorem attach_call{l:OpenLaw}
  (hn:l.most=some n)(hdf:d.params.defaults=[])
  (call:∀(w:World)(s₀ s₁:Shared)(mg mb:Str->Option Value)(fa:Addr)(o:Obj)(pm cd doc:Value)(a:Addr)(vs:List Value)(ns:List Int),
   Ground q loose [] XP w s₀ mg mb s₁.heap->YP w s₁.heap->
   s₁.heap.get? fa=some o->o.data=.func (docDef d.name d.params d.body d.scope pm cd doc)->s₁.heap.CodeRec cd d.name->mg d.name=some (.ref fa)->
   s₁.heap.get? a=some {cls:=.type "list",data:=.seq vs.toArray}->IntsAre vs ns->ns.length<=n->s₁.gens=#[]->
   codeAny (model l.prog w) callerA (.call (.ref fa) ⟨[.ref a],[]⟩) (λr s'=>r=.ok (.ret (.bool true))/\OldK s₁.heap s'.heap/\s'.os=s₁.os/\AllBare s'.gens) s₁):
  WalkO q loose XP YP l.row.toRowW d [] (λf vs=>PySem.call f vs):=by
 intro w s₀ s₁ mg mb G Y fa o pm cd doc dV kV ho hd hcd hD hmg hg args vals as hpre hlay hrd hwl hlo;obtain rfl:dV=.none:=Dflts.none hD hdf;obtain rfl:kV=.none:=Dflts.noKw hD;obtain⟨a,vs,ns,rfl,rfl,hobj,hints,zO⟩:=WV hn hpre hwl;refine enter_call (codeAny_mono (call w s₀ s₁ mg mb fa o pm cd doc a vs ns G Y ho (fd_plain hd) hcd hmg hobj hints zO hg) λr s' hq=>?_);obtain⟨rfl,h2,h3,h4⟩:=hq;exact⟨.inl ⟨.bool true,.bool true,[],rfl,λ_=>rfl,.bool true,Wn l _,λ_=>⟨List.Pairwise.nil,λ_ hm=>(nomatch hm)⟩⟩,h2,h3,h4⟩
end Att
namespace L2
open PySem PySem.Spec PyProof.Rows
theorem Eu:∀{vs:List Value}{ns:List Int},IntsAre vs ns->zI (ns.map V.int) vs
 |_,_,.nil=>.nil
 |_,_,.cons n t h=>.cons ⟨t,rfl⟩ (Eu h)
def DX(H:Hp):Prop:=∀b,H b=none\/∃o xs,H b=some (.frz o (.lst xs))
theorem Vv{K:W.Frag}
  (KX:K.In s₁.heap)(hns:s₁.heap.Ns mainGlobals mg)(hb:s₁.heap.Ns builtinsNs mb)(hbb:∀x:Str,x≠"__name__"->mb x=bootBuiltins x)(hlim:s₁.heap.NoLimit)(hg:s₁.gens=#[])
  (ha:s₁.heap.get? a=some {cls:=.type "list",data:=.seq vs.toArray})(hi:IntsAre vs ns)(hl:ns.length<=sizeLine)(hr:cE k callerA)
  (F:∀base:Heap,K.In base->base.Ns mainGlobals mg->iL P w K mg base CX k fa fd [x] sp)(hbind:∀(s:Shared)(u:Value),BindsTo s fd ⟨[u],[]⟩ [(x,u)])
  (hsp:∀H:Hp,DX H->cA K H a (ns.map V.int)->sp [.ref a] H (λv _=>v=.bl true) λ_ _ _=>False)
  (hCX:∀H e s',CX [] H s₁ (λ_ _ _=>False) e s'->False):
  codeAny (model P w) callerA (.call (.ref fa) ⟨[.ref a],[]⟩) (λr s'=>r=.ok (.ret (.bool true))/\OldK s₁.heap s'.heap/\s'.os=s₁.os/\AllBare s'.gens) s₁:=by
 have rv:=Eu hi;have lenV:=hi.length
 --from an abstract heap in which nothing but the script may be tracked
 have core:∀H:Hp,DX H->cA K H a (ns.map V.int)->gR P w H s₁.heap->(∀b,H b≠none->b=a)->(H a≠none->K.lookup a=none)->
   codeAny (model P w) callerA (.call (.ref fa) ⟨[.ref a],[]⟩) (λr s'=>r=.ok (.ret (.bool true))/\OldK s₁.heap s'.heap/\s'.os=s₁.os/\AllBare s'.gens) s₁:=by
  intro H hO hS hok hA hK;have base_of:∀{b:Addr}{o:Obj},s₁.heap.get? b=some o->H b=none->(mH s₁.heap H).get? b=some o:=λe n=>UR e n;have noA:∀{b:Addr}{o:Obj}{es:Array DictEntry}{ep:Nat},s₁.heap.get? b=some o->o.data=.dict es ep->H b=none:=λ{b o es ep} e d=>by
   cases q:H b with
   |none=>rfl
   |some u=>grind
  have nsK:∀{b:Addr}{m:Str->Option Value},s₁.heap.Ns b m->(mH s₁.heap H).Ns b m:=λ{b m}⟨o,es,ep,e,d,r⟩=>⟨o,es,ep,base_of e (noA e d),d,r⟩
  have hKb:K.In (mH s₁.heap H):=λb o e=>base_of (KX b o e) (by
   cases q:H b with
   |none=>rfl
   |some u=>have e':b=a:=hA b (by rw[q];simp);subst e';rw[hK (by rw[q];simp)]at e;cases e)
  have hM:Mod K mg (mH s₁.heap H):=⟨hKb,nsK hns,⟨mb,nsK hb,hbb⟩,let⟨mc,h1,h2⟩:=hlim;⟨mc,nsK h1,h2⟩⟩
  have e0:AI P w K mg (mH s₁.heap H) callerA [] s₁ H:=⟨rfl,hM,λb o e=>TR e,Nat.le_of_eq (XG _ _),trivial,λb hb=>absurd (show b∈([]:List Addr) from hb) (by simp),hok,.of_eq hg⟩
  refine codeAny_mono ((F _ hKb (nsK hns)).run callerA [] s₁ H ⟨[.ref a],[]⟩ [.ref a] [.ref a] _ _ hr e0 (hbind s₁ (.ref a)) (.cons rfl .nil) (hsp H hO hS)) λr s' h=>?_;cases r with
  |error e=>exact(hCX H e s' h).elim
  |ok fl=>
   cases fl with
   |next=>exact False.elim h
   |brk=>exact False.elim h
   |cont=>exact False.elim h
   |ret u=>
    obtain⟨v,H',os,bare,un,hok',r',q⟩:=h;have q':v=.bl true:=q;subst q';obtain rfl:u=Value.bool true:=r';refine⟨rfl,OldK.of_keep λb o e=>?_,os,bare⟩;cases q:H b with
    |none=>exact un.keep b o e q (by intro z;exact absurd (show b∈([]:List Addr) from z) (by simp)) (by simp)
    |some u=>
     rcases hO b with z|⟨ob,xs,z⟩
     .rw[q]at z;cases z
     .have z2:=un.frzs b ob _ z;obtain⟨e1,_⟩:=hok b _ z;obtain⟨e2,_⟩:=hok' b _ z2;rw[e]at e1;cases e1;exact e2
 cases hk:K.lookup a with
 |some o=>
  --the script is one of the module's own objects
  have e:=KX a o hk;rw[ha]at e;cases e;refine core (λ_=>none) (λ_=>.inl rfl) (.inr ⟨_,vs.toArray,_,hk,rfl,rfl,rfl,by rw[qt,lenV];exact hl,by simpa using rv⟩) (λb u z=>by have z':(none:Option HO)=some u:=z;cases z') (λb z=>absurd rfl z) λz=>absurd rfl z
 |none=>
  refine core (λb=>if b=a then some (.frz {cls:=.type "list",data:=.seq vs.toArray} (.lst (ns.map V.int)))else none) (λb=>?_) (.inl (.inr ⟨{cls:=.type "list",data:=.seq vs.toArray},za rfl⟩)) (λb u z=>?_) (λb z=>?_) λ_=>hk
  .grind
  .by_cases hb:b=a
   .have z':=(za hb).symm.trans z;cases z';subst hb;exact⟨ha,by rw[qp];exact hl,vs,_,rv,ha⟩
   .have z':=(zc hb).symm.trans z;cases z'
  grind
theorem walk_of{l:W.OpenLaw}{K:Params->W.Frag}{CX:World->Hs}{sp:World->Sp}
  (hn:l.most=some n)(hn2:n<=sizeLine)(hdf:d.params.defaults=[])(hr:cE k callerA)
  (hY:∀(w:World)(h:Heap),YP w h->(K w.params).In h)
  (F:∀(w:World)(mg:Str->Option Value)(fa:Addr)(h:Heap),(K w.params).In h->h.Ns mainGlobals mg->mg d.name=some (.ref fa)->
   ∃fd:FuncData,(∀(s:Shared)(u:Value),BindsTo s fd ⟨[u],[]⟩ [(x,u)])/\
    ∀base:Heap,(K w.params).In base->base.Ns mainGlobals mg->iL l.prog w (K w.params) mg base (CX w) k fa fd [x] (sp w))
  (hsp:∀(w:World)(H:Hp)(a:Addr)(ns:List Int),ns.length<=n->DX H->cA (K w.params) H a (ns.map V.int)->sp w [.ref a] H (λv _=>v=.bl true) λ_ _ _=>False)
  (hCX:∀(w:World)(H:Hp)(s:Shared)(e:Value)(s':Shared),CX w [] H s (λ_ _ _=>False) e s'->False):
  W.WalkO q loose XP YP l.row.toRowW d [] (λf vs=>PySem.call f vs):=by
 refine Att.attach_call hn hdf λw s₀ s₁ mg mb fa o pm cd doc a vs ns G Y ho hd hcd hmg hobj hints zO hg=>?_;have KX:=hY w _ Y;obtain⟨fd,hb,hF⟩:=F w mg fa _ KX G.T.g hmg;exact Vv KX G.T.g G.T.b G.T.builtins G.T.nolimit hg hobj hints (le_trans zO hn2) hr hF hb (λH hO hS=>hsp w H a ns zO hO hS) λH e s'=>hCX w H s₁ e s'
def fQ(s:Stmt):Arguments:=match s with
 |.FunctionDef _ a _ _ _ _ _ _ _ _=>a
 |_=>{posonlyargs:=[],args:=[],vararg:=none,kwonlyargs:=[],kw_defaults:=[],kwarg:=none,defaults:=[]}
def cV(s:Stmt):List Stmt:=match s with
 |.FunctionDef _ _ b _ _ _ _ _ _ _=>b
 |_=>[]
def aA(s:Stmt):Scope:=match s with
 |.FunctionDef _ _ _ _ _ _ sc _ _ _=>sc
 |_=>{kind:=.function,names:=[],isGenerator:=false,isCoroutine:=false}
structure DY(K:W.Frag)(x qual:Str)(st:Stmt)(f:Addr)(fd:FuncData):Prop where
 ex:∃(oc:Value)(od:Option Addr)(kV doc pm:Value)(an:Option Addr)(cdv ct:Value)(osl:Array (Option Value)),
  fd=W.fnOf x qual (fQ st) (cV st) (aA st) .none kV doc pm an cdv ct/\K.lookup f=some ⟨oc,od,.func fd,osl⟩/\W.codeIn K cdv qual=true
 kp:W.keepIn K (.ref f)=true
section
variable{K:W.Frag}
theorem DY.binds{st:Stmt}(F:DY K x qual st f fd)
  (h:∀(kV doc pm:Value)(an:Option Addr)(cdv ct:Value)(us:List Value),us.length=ps.length->bindArgs (W.fnOf x qual (fQ st) (cV st) (aA st) .none kV doc pm an cdv ct) ⟨us,[]⟩=pure (ps.zip us)):Binds K fd ps []:=by
 obtain⟨oc,od,kV,doc,pm,an,cdv,ct,osl,rfl,lk,hcd⟩:=F.ex;exact .all (h kV doc pm an cdv ct)
theorem Rz{st:Stmt}{kV doc pm cdv ct:Value}(l:K.lookup f=some ⟨oc,od,.func (W.fnOf x qual (fQ st) (cV st) (aA st) .none kV doc pm an cdv ct),osl⟩)
  (c:W.codeIn K cdv qual=true)(k:W.keepIn K (.ref f)=true):DY K x qual st f (W.fnOf x qual (fQ st) (cV st) (aA st) .none kV doc pm an cdv ct):=⟨⟨oc,od,kV,doc,pm,an,cdv,ct,osl,rfl,l,c⟩,k⟩
end
theorem EH(hr:cE k A):A.units+1<cLine:=lt_of_le_of_lt (Nat.add_le_add_left (by decide:1<=64) _) hr.units
def zw(H H':Hp):Prop:=∀b o,H b=some o->H' b=some o
theorem zw.refl(H:Hp):zw H H:=λ_ _ h=>h
theorem zw.trans(a:zw H H1)(b:zw H1 H2):zw H H2:=λc o h=>b c o (a c o h)
theorem zK.there(x:zK P w H h a o):∃u,h.get? a=some u:=by
 cases o with
 |lst xs=>obtain⟨_,_,_,_,e⟩:=x;exact⟨_,e⟩
 |tup xs=>obtain⟨_,_,_,u,e,_⟩:=x;exact⟨_,e⟩
 |dK zM=>obtain⟨_,_,_,_,o,_,_,e,_⟩:=x;exact⟨_,e⟩
 |dT zM=>obtain⟨_,_,_,_,o,_,_,e,_⟩:=x;exact⟨_,e⟩
 |set vs=>
  rcases x with⟨_,⟨_,e⟩|⟨_,_,_,_,_,_,_,e,_⟩|⟨_,_,_,_,_,_,_,_,e,_⟩⟩
  .exact⟨_,e⟩
  .exact⟨_,e⟩
  .exact⟨_,e⟩
 |ins C dx fs=>obtain⟨_,_,_,e,_⟩:=x;exact⟨_,e⟩
 |own y=>exact x
 |xd fs=>obtain⟨_,⟨_,_,_,e,_⟩,_⟩:=x;exact⟨_,e⟩
 |rng lo hi=>obtain⟨_,_,_,e⟩:=x;exact⟨_,e⟩
 |frz ob u=>exact⟨_,x.1⟩
 |tbl ps=>exact⟨_,(show h.get? a=some _ from x)⟩
 |met f y=>exact⟨_,(show h.get? a=some _ from x)⟩
 |ext φ=>exact x.2.1
def ED(X:Cx)(zL:List (Addr×Obj))(H:Hp)(h:Heap)(e:Addr)(cls:Value)(dx:Option Addr):Prop:=False
theorem eM.few(f:eM X zL H b):eM X [] H b:=⟨f.1,f.2.1,f.2.2.1,f.2.2.2.1,f.2.2.2.2.1,λp hp=>f.2.2.2.2.2 p (qk _ (by simpa using hp))⟩
theorem ED.few(F:ED X zL H h e cls dx):ED X [] H h e cls dx:=(show False from F).elim
theorem Inv.few(I:Inv X zL Z H s):Inv X [] Z H s:=I.pins_of λp hp=>I.pin p (qk _ (by simpa using hp))
def nW(P:Program)(w:World):Hs:=λ_ _ _ _ _ _=>False
section
variable{K:W.Frag}
theorem UI(I:Inv (iI (nW P w) P w K mg base N qual scope f cd A outer s H E) [] Z H' s')(F:ED (iI (nW P w) P w K mg base N qual scope f cd A outer s H E) [] H' s'.heap e cls dx)(q:E cls dx H'):
  (iI (nW P w) P w K mg base N qual scope f cd A outer s H E).xe (.ref e) s':=(show False from F).elim
end
def XW(X:Cx)(Z:St):XK:=λcls dx H'=>∀(a:Addr)(s':Shared),Inv X [] Z H' s'->ED X [] H' s'.heap a cls dx->X.xe (.ref a) s'
def BY(X:Cx)(sp:Sp)(t:TA):TE:=λZ H Q=>t Z H λvs H1=>sp vs H1 Q (XW X Z)
theorem UN(F:iL X.prog X.w X.K X.mg X.base (nW X.prog X.w) k f fd ps sp)(hr:cE k X.A)(hg:Gl X x)(hm:X.mg x=some (.ref f))(hk:W.keepIn X.K (.ref f)=true)(hb:Binds X.K fd ps [])
  (ha:PA X (e::es) t)(hdb:(x==("__debug__":Str))=false:=by decide)(he:starEach (e::es) X.env=(false,eval e X.env)::starEach es X.env:=by rfl)(hpl:(backTo pos (starEach es X.env)).any (·.1)=false:=by rfl):
  PE X (.Call (.Name x p) (e::es) [] pos) (BY X sp t):=by
 intro zL s Z H Q I h;refine wpAny_Call_Name_kw (TM I hg hm ?_ hdb);refine W.callWith_K (h₀:=X.base) I.ok.mod.kin hk (cB (ha pos zL s Z H _ I h) λus s1 zq=>?_) he hpl;obtain⟨vs,H1,I1,r,q⟩:=zq;refine⟨I1.kIn,?_⟩;have hl:(us++[]).length=ps.length:=by rw[qC,<-r.length];exact F.len _ _ _ _ q
 refine wpAny_call (codeAny_mono (F.run X.A X.stack s1 H1 ⟨us,[]⟩ us vs Q (XW X Z) hr I1.env0 (by have:=hb s1 us I1.kIn hl;rwa[qC]at this) r q) λr s' hq=>?_);cases r with
 |error e=>exact(show False from hq).elim
 |ok fl=>
  cases fl with
  |ret u=>exact I1.after hq
  |next=>exact False.elim hq
  |brk=>exact False.elim hq
  |cont=>exact False.elim hq
section
variable{K:W.Frag}
theorem DY.okX{st:Stmt}(F:DY K x qual st f fd)(S:aF N ps (aA st))(len:∀vs H Q E,sp vs H Q E->vs.length=ps.length)
  (hbody:∀(cdv:Value)(A:Around)(outer:List Env)(s:Shared)(H:Hp)(vs:List V)(Q:VK)(E:XK),cE k (A.deeper (envOfC qual (aA st) s.heap.objs.size f cdv))->sp vs H Q E->
   ∃t,nY (iI (nW P w) P w K mg base N qual (aA st) f cdv A outer s H E) (cV st) t/\t {nx:=λ_ H'=>Q .non H',rt:=Q} (start N vs) H):iL P w K mg base (nW P w) (k+1) f fd ps sp:=by
 obtain⟨oc,od,kV,doc,pm,an,cdv,ct,osl,rfl,lk,hcd⟩:=F.ex;exact Rc lk hcd S len λA outer s H vs Q E hr hsp=>hbody cdv A outer s H vs Q E hr hsp
end
end L2
namespace FL
open PySem
inductive D where
 |non
 |bl(b:Bool)
 |int(i:Int)
 |str(l:List Nat)
 |tup(l:List D)
 |lst(l:List D)
 |dct(t:Bool)(ks vs:List D)
 |set(l:List D)
 |exc(c:List Nat)(fs:List (List Nat))(vs:List D)
 deriving Inhabited
inductive S where
 |sh(d:D)
 |lst(l:List S)
 |dct(t:Bool)(ks:List D)(vs:List S)
 |set(l:List D)
 deriving Inhabited
mutual
def S.toD:S->D
 |.sh d=>d
 |.lst l=>.lst (S.toDs l)
 |.dct t ks vs=>.dct t ks (S.toDs vs)
 |.set l=>.set l
def S.toDs:List S->List D
 |[]=>[]
 |s::r=>S.toD s::S.toDs r
end
@[simp] theorem S.toDs_map:∀l:List S,S.toDs l=l.map S.toD
  |[]=>rfl
  |s::r=>by rw[S.toDs,S.toDs_map r,qB]
@[simp] theorem S.toD_sh(d:D):(S.sh d).toD=d:=rfl
@[simp] theorem S.toD_lst(l:List S):(S.lst l).toD=.lst (l.map S.toD):=by rw[<-S.toDs_map];rfl
@[simp] theorem S.toD_dct(t:Bool)(ks:List D)(l:List S):(S.dct t ks l).toD=.dct t ks (l.map S.toD):=by rw[<-S.toDs_map];rfl
@[simp] theorem S.toD_set(l:List D):(S.set l).toD=.set l:=rfl
def S.isSh:S->Bool
 |.sh _=>true
 |_=>false
def S.flat:S->Bool
 |.sh _=>true
 |.lst l=>l.all S.isSh
 |.dct _ _ vs=>vs.all S.isSh
 |.set _=>false
inductive R where
 |v(s:S)
 |loc(i:Nat)
abbrev Env:=List (Option S)
abbrev WQ:=R->Env->Prop
abbrev WX:=D->Env->Prop
def NX:WX:=λ_ _=>False
abbrev WE:=Env->WQ->WX->Prop
abbrev WT:=Env->(Bool->Env->Prop)->WX->Prop
abbrev WA:=Env->(List R->Env->Prop)->WX->Prop
structure Ends where
 nx:Env->Prop
 rt:WQ
 bk:Env->Prop
 ct:Env->Prop
 ex:WX
abbrev WS:=Ends->Env->Prop
def slot(U:Env)(i:Nat):Option S:=match U,i with
 |[],_=>none
 |s::_,0=>s
 |_::r,i+1=>slot r i
@[simp] theorem Zm(s:Option S)(r:Env):slot (s::r) 0=s:=rfl
@[simp] theorem Zl(s:Option S)(r:Env)(i:Nat):slot (s::r) (i+1)=slot r i:=rfl
def view(r:R)(U:Env):Option D:=match r with
 |.v s=>some s.toD
 |.loc i=>(slot U i).map S.toD
def zH(r:R)(U:Env):Option D:=match r with
 |.v s=>some s.toD
 |.loc i=>match slot U i with
  |some s=>if s.flat then some s.toD else none
  |none=>none
def give(r:R)(U:Env):Option (S×Env):=match r with
 |.v s=>some (s,U)
 |.loc i=>match slot U i with
  |some s=>some (.sh s.toD,U.set i (some (.sh s.toD)))
  |none=>none
def aU:List R->Env->Option (List S×Env)
 |[],U=>some ([],U)
 |r::rs,U=>match give r U with
  |some (s,U1)=>match aU rs U1 with
   |some (ss,U2)=>some (s::ss,U2)
   |none=>none
  |none=>none
def ixN(n:Nat)(i:Int):Option Nat:=if 0<=i then(if i<n then some i.toNat else none)else if -(n:Int)<=i then some (i+n).toNat else none
def atI{α:Type}(xs:List α)(i:Int):Option α:=(ixN xs.length i).bind λj=>xs[j]?
def sIx(n d:Nat):Option Int->Nat
 |none=>d
 |some i=>if i<0 then(i+n).toNat else min i.toNat n
def aM{α:Type}(xs:List α)(lo hi:Option Int):List α:=(xs.drop (sIx xs.length 0 lo)).take (sIx xs.length xs.length hi-sIx xs.length 0 lo)
def big:Nat:=1000000
def zv{α:Type}(o:Option α)(k:α->Prop):Prop:=match o with
 |some a=>k a
 |none=>False
@[simp] theorem Ik{α:Type}(a:α)(k:α->Prop):zv (some a) k=k a:=rfl
@[simp] theorem Zn{α:Type}(k:α->Prop):zv (none:Option α) k=False:=rfl
@[simp] theorem Zk{α:Type}{c:Prop}[Decidable c](a:α)(k:α->Prop):zv (if c then some a else none) k=(c/\k a):=by by_cases h:c<;>simp[h]
def zp(i:Nat):WE:=λU Q _=>match slot U i with
 |some (.sh d)=>Q (.v (.sh d)) U
 |some _=>Q (.loc i) U
 |none=>False
def wC(d:D):WE:=λU Q _=>Q (.v (.sh d)) U
def zC(op:D->D->Option S)(a b:WE):WE:=λU Q E=>a U (λx U1=>b U1 (λy U2=>zv (zH x U2) λp=>zv (zH y U2) λq=>zv (op p q) λs=>Q (.v s) U2) E) E
def BI(op:D->Option S)(a:WE):WE:=λU Q E=>a U (λx U1=>zv (zH x U1) λp=>zv (op p) λs=>Q (.v s) U1) E
def aQ:D->D->Option S
 |.int i,.int j=>some (.sh (.int (i+j)))
 |.str x,.str y=>if x.length+y.length<=big then some (.sh (.str (x++y)))else none
 |.lst x,.lst y=>if x.length+y.length<=big then some (.lst ((x++y).map .sh))else none
 |.tup x,.tup y=>if x.length+y.length<=big then some (.sh (.tup (x++y)))else none
 |_,_=>none
def fB:D->D->Option S
 |.int i,.int j=>some (.sh (.int (i-j)))
 |_,_=>none
def rQ(i j:Int):Bool:=(decide (-(2^64)<i)&&decide (i<2^64))||(decide (-(2^64)<j)&&decide (j<2^64))
def vN:D->D->Option S
 |.int i,.int j=>if rQ i j then some (.sh (.int (i*j)))else none
 |_,_=>none
def lE:D->D->Option S
 |.int i,.int j=>if 0<j/\j<18446744073709551616 then some (.sh (.int (i/j)))else none
 |_,_=>none
def iH:D->D->Option S
 |.int i,.int j=>if 0<j then some (.sh (.int (i %j)))else none
 |_,_=>none
def vM:D->D->Option S
 |.int i,.int j=>if 0<=j/\j<=1000/\i.natAbs<2^64 then some (.sh (.int (i^j.toNat)))else none
 |_,_=>none
def nE:D->Option S
 |.int i=>some (.sh (.int (-i)))
 |_=>none
mutual
def bG:D->D->Bool
 |.tup l,.tup m=>cN l m
 |.lst l,.lst m=>cN l m
 |.int _,.int _=>false
 |.int _,.str _=>false
 |.int _,.non=>false
 |.str _,.int _=>false
 |.str _,.str _=>false
 |.str _,.non=>false
 |.str _,.bl _=>false
 |.bl _,.bl _=>false
 |.bl _,.str _=>false
 |.bl _,.non=>false
 |.non,.int _=>false
 |.non,.str _=>false
 |.non,.bl _=>false
 |.non,.non=>false
 |_,_=>true
def cN:List D->List D->Bool
 |a::l,b::m=>bG a b||cN l m
 |_,_=>false
end
mutual
def hU:D->Nat
 |.tup l=>bM l+1
 |.lst l=>bM l+1
 |_=>0
def bM:List D->Nat
 |[]=>0
 |a::l=>max (hU a) (bM l)
end
open Classical in
def gB(a b:D):Option Bool:=if bG a b||decide (30<hU a)then none else some (decide (a=b))
def gF(a b:D):Option Bool:=(gB a b).map (!·)
def IH:D->D->Option Bool
 |.int i,.int j=>some (decide (i<j))
 |.str x,.str y=>some (decide (x<y))
 |_,_=>none
def IS(a b:D):Option Bool:=IH a b
def AC(a b:D):Option Bool:=IH b a
def IT:D->D->Option Bool
 |.int i,.int j=>some (decide (i<=j))
 |.str x,.str y=>some (!decide (y<x))
 |_,_=>none
def Ey:D->D->Option Bool
 |.int i,.int j=>some (decide (j<=i))
 |.str x,.str y=>some (!decide (x<y))
 |_,_=>none
def bV:D->Bool
 |.int _=>true
 |.str _=>true
 |_=>false
def bZ:Bool->D->Bool
 |true,.tup l=>l.all bV
 |false,d=>bV d
 |_,_=>false
open Classical in
def wV(a:D):D->Option Bool
 |.lst l=>if l.any (λx=>bG x a||decide (30<hU x))then none else some (decide (a∈l))
 |.tup l=>if l.any (λx=>bG x a||decide (30<hU x))then none else some (decide (a∈l))
 |.dct t ks _=>if bZ t a then some (decide (a∈ks))else none
 |_=>none
def mW:D->Option Bool
 |.non=>some false
 |.bl b=>some b
 |.int i=>some (decide (i≠0))
 |.str l=>some (!l.isEmpty)
 |.tup l=>some (!l.isEmpty)
 |.lst l=>some (!l.isEmpty)
 |_=>none
def aV(op:D->D->Option Bool)(a b:WE):WT:=λU Q E=>a U (λx U1=>b U1 (λy U2=>zv (view x U2) λp=>zv (view y U2) λq=>zv (op p q) λc=>Q c U2) E) E
def kS(a:WE):WT:=λU Q E=>a U (λx U1=>zv (view x U1) λp=>zv (mW p) λc=>Q c U1) E
def fW(a b:WT):WT:=λU Q E=>a U (λc U1=>if c then b U1 Q E else Q false U1) E
def lX(t:WT):WE:=λU Q E=>t U (λc U1=>Q (.v (.sh (.bl c))) U1) E
def BJ(c:WT)(a b:WE):WE:=λU Q E=>c U (λk U1=>if k then a U1 Q E else b U1 Q E) E
def zt:WA:=λU Q _=>Q [] U
def zr(a:WE)(b:WA):WA:=λU Q E=>a U (λr U1=>b U1 (λrs U2=>Q (r::rs) U2) E) E
def dS(a:WA):WE:=λU Q E=>a U (λrs U1=>zv (if rs.length<=big then aU rs U1 else none) λp=>Q (.v (.sh (.tup (p.1.map S.toD)))) p.2) E
def eS(a:WA):WE:=λU Q E=>a U (λrs U1=>zv (if rs.length<=big then aU rs U1 else none) λp=>Q (.v (.lst p.1)) p.2) E
open Classical in
def lk{α:Type}:List D->List α->D->Option α
 |k'::ks,v::vs,k=>if k'=k then some v else lk ks vs k
 |_,_,_=>none
def oX:S->D->Option S
 |.sh (.tup l),.int i=>(atI l i).map .sh
 |.sh (.lst l),.int i=>(atI l i).map .sh
 |.sh (.str l),.int i=>(atI l i).map λc=>.sh (.str [c])
 |.lst l,.int i=>atI l i
 |_,_=>none
def fL(a b:WE):WE:=λU Q E=>a U (λx U1=>b U1 (λy U2=>zv (view y U2) λq=>match x with
 |.v s=>zv (oX s q) λt=>Q (.v t) U2
 |.loc i=>match slot U2 i with
  |some s=>match oX s q with
   |some (.sh d)=>Q (.v (.sh d)) U2
   |_=>False
  |none=>False) E) E
def hX(a:Option WE):Env->(Option Int->Env->Prop)->WX->Prop:=match a with
 |none=>λU Q _=>Q none U
 |some a=>λU Q E=>a U (λx U1=>match view x U1 with
  |some (.int i)=>Q (some i) U1
  |_=>False) E
def nX(d:D)(lo hi:Option Int):Option S:=match d with
 |.str l=>some (.sh (.str (aM l lo hi)))
 |.tup l=>some (.sh (.tup (aM l lo hi)))
 |.lst l=>some (.lst ((aM l lo hi).map .sh))
 |_=>none
def gV(a:WE)(lo hi:Option WE):WE:=λU Q E=>a U (λx U1=>hX lo U1 (λl U2=>hX hi U2 (λh U3=>zv (zH x U3) λd=>zv (nX d l h) λs=>Q (.v s) U3) E) E) E
abbrev WF:=List S->(S->List S->Prop)->(D->List S->Prop)->Prop
def cY:List Bool->List R->Env->Option (List S×Env)
 |_,[],U=>some ([],U)
 |ms,.v s::rs,U=>match cY ms.tail rs U with
  |some (ss,U1)=>some (s::ss,U1)
  |none=>none
 |ms,.loc i::rs,U=>match slot U i with
  |some s=>if ms.headD false then(match cY ms.tail rs (U.set i none)with
   |some (ss,U1)=>some (s::ss,U1)
   |none=>none)
   else(match cY ms.tail rs (U.set i (some (.sh s.toD)))with
    |some (ss,U1)=>some (.sh s.toD::ss,U1)
    |none=>none)
  |none=>none
def back:List Bool->List R->List S->Env->Env
 |ms,.v _::rs,_::ss,U=>back ms.tail rs ss U
 |ms,.loc i::rs,s::ss,U=>if ms.headD false then back ms.tail rs ss (U.set i (some s))else back ms.tail rs ss U
 |_,_,_,U=>U
def zE(f:WF)(ms:List Bool)(a:WA):WE:=λU Q E=>a U (λrs U1=>zv (cY ms rs U1) λp=>f p.1 (λs ss=>Q (.v s) (back ms rs ss p.2)) (λx ss=>E x (back ms rs ss p.2))) E
def wB(f:List D->Option S)(a:WA):WE:=λU Q E=>a U (λrs U1=>zv (rs.mapM λr=>zH r U1) λds=>zv (f ds) λs=>Q (.v s) U1) E
def cQ(j:Nat)(e:WE):WE:=λU Q E=>match slot U j with
 |some (.lst _)=>e U (λr U2=>zv (give r U2) λp=>match slot p.2 j with
  |some (.lst l)=>l.length<big/\Q (.v (.sh .non)) (p.2.set j (some (.lst (l++[p.1]))))
  |_=>False) E
 |_=>False
def aW:List D->Option S
 |[.str l]=>some (.sh (.int l.length))
 |[.tup l]=>some (.sh (.int l.length))
 |[.lst l]=>some (.sh (.int l.length))
 |_=>none
def tE:List D->Option S
 |[.int i]=>some (.sh (.int i))
 |[.bl b]=>some (.sh (.int (if b then 1 else 0)))
 |_=>none
def eK:List D->Option S
 |[.tup l]=>some (.sh (.tup l))
 |[.lst l]=>some (.sh (.tup l))
 |_=>none
def GU:List D->Option S
 |[.tup l]=>some (.lst (l.map .sh))
 |[.lst l]=>some (.lst (l.map .sh))
 |_=>none
def wY:List D->Option S
 |[.int i,.int j]=>some (.sh (.int (if j>i then j else i)))
 |_=>none
def wX:List D->Option S
 |[.int i,.int j]=>some (.sh (.int (if j<i then j else i)))
 |_=>none
def bF:WS:=λD U=>D.nx U
def zD(a b:WS):WS:=λD U=>a {D with nx:=b D} U
def gW(c:WT)(a b:WS):WS:=λD U=>c U (λk U1=>if k then a D U1 else b D U1) D.ex
def bT(a:WE):WS:=λD U=>a U D.rt D.ex
def wExpr(a:WE):WS:=λD U=>a U (λ_ U1=>D.nx U1) D.ex
abbrev WG:=S->Env->(Env->Prop)->Prop
def zu(i:Nat):WG:=λs U Q=>Q (U.set i (some s))
def gA:List WG->List D->Env->(Env->Prop)->Prop
 |[],[],U,Q=>Q U
 |g::gs,d::ds,U,Q=>g (.sh d) U λU1=>gA gs ds U1 Q
 |_,_,_,_=>False
def dI(gs:List WG):WG:=λs U Q=>match s.toD with
 |.tup ds=>ds.length=gs.length/\gA gs ds U Q
 |_=>False
def iU(j:Nat)(i e:WE):WS:=λD U=>e U (λr U1=>zp j U1 (λx U2=>i U2 (λy U3=>zv (view y U3) λq=>zv (give r U3) λp=>match x,q,slot p.2 j with
 |.loc k,.int n,some (.lst l)=>k=j/\zv (ixN l.length n) λm=>D.nx (p.2.set j (some (.lst (l.set m p.1))))
 |_,_,_=>False) D.ex) D.ex) D.ex
def zF(g:WG)(a:WE):WS:=λD U=>a U (λr U1=>zv (give r U1) λp=>g p.1 p.2 D.nx) D.ex
abbrev WI:=Env->(List D->Env->Prop)->WX->Prop
def items:D->Option (List D)
 |.lst l=>some l
 |.tup l=>some l
 |.str l=>some (l.map λc=>.str [c])
 |_=>none
def dJ(a:WE):WI:=λU Q E=>a U (λr U1=>zv (give r U1) λp=>zv (items p.1.toD) λl=>Q l p.2) E
def fromTo(lo:Int)(n:Nat):List D:=(List.range n).map λ(k:Nat)=>.int (lo+(k:Int))
def aZ(a:WE):WI:=λU Q E=>a U (λr U1=>match view r U1 with
 |some (.int j)=>(-big<=j/\j<=big)/\Q (fromTo 0 j.toNat) U1
 |_=>False) E
def gK(a b:WE):WI:=λU Q E=>a U (λr U1=>b U1 (λt U2=>match view r U2,view t U2 with
 |some (.int i),some (.int j)=>(-big<=i/\i<=big/\-big<=j/\j<=big)/\Q (fromTo i (j-i).toNat) U2
 |_,_=>False) E) E
def dX(g:WG)(body:WS):List D->WS
 |[],D,U=>D.nx U
 |x::xs,D,U=>g (.sh x) U λU1=>body {D with nx:=dX g body xs D,ct:=dX g body xs D,bk:=D.nx} U1
def iG(it:WI)(g:WG)(body:WS):WS:=λD U=>it U (λl U1=>dX g body l D U1) D.ex
def gU(c:WT)(body:WS):WS:=λD U=>∃J:Nat->Env->Prop,(∃m,J m U)/\∀m U,J m U->c U (λk U1=>if k then
 body {D with nx:=λU2=>∃m',m'<m/\J m' U2,ct:=λU2=>∃m',m'<m/\J m' U2,bk:=D.nx} U1 else D.nx U1) D.ex
abbrev WB:=Env->(Env->Prop)->WX->Prop
def eV:WT:=λU Q _=>Q true U
def aP(g:WG)(c:WT)(b:WB):List D->WB
 |[],U,Q,_=>Q U
 |x::xs,U,Q,E=>g (.sh x) U λU1=>c U1 (λk U2=>if k then b U2 (λU3=>aP g c b xs U3 Q E) E else aP g c b xs U2 Q E) E
def tF(it:WI)(g:WG)(c:WT)(b:WB):WB:=λU Q E=>it U (λl U1=>aP g c b l U1 Q E) E
def bS(n:Nat)(a:WE):WB:=λU Q E=>a U (λr U1=>zv (give r U1) λp=>match slot p.2 n with
 |some (.lst l)=>l.length<big/\Q (p.2.set n (some (.lst (l++[p.1]))))
 |_=>False) E
def lY(n k:Nat)(it:WI)(g:WG)(c:WT)(b:WB):WE:=λU Q E=>it U (λl U1=>aP g c b l (U1++some (.lst [])::List.replicate k none) (λU2=>zv (slot U2 n) λs=>Q (.v s) (U2.take n)) NX) E
def aD:List S->Env->Option (List S)
 |[],_=>some []
 |.sh d::ss,_::U=>(aD ss U).map (.sh d::·)
 |_::ss,some s::U=>(aD ss U).map (s::·)
 |_,_=>none
def iA(n m:Nat)(ks:List Nat)(body:WS):WF:=λss P PX=>ss.length=n/\(∀i s,ss[i]?=some s->i∈ks\/s.isSh=true)/\
 body {nx:=λU=>zv (aD ss U) λfs=>P (.sh .non) fs
       rt:=λr U=>match r with
        |.v s=>zv (aD ss U) λfs=>P s fs
        |.loc i=>zv (slot U i) λs=>if i<n then zv (aD ss (U.set i (some (.sh s.toD)))) λfs=>P (.sh s.toD) fs else zv (aD ss U) λfs=>P s fs
       bk:=λ_=>False
       ct:=λ_=>False
       ex:=λx U=>zv (aD ss U) λfs=>PX x fs} (ss.map some++List.replicate (m-n) none)
end FL
namespace FL
open PySem L2
def aK:aR->D
 |.inl i=>.int i
 |.inr x=>.str x.cps.toList
def Mz(a C:Addr)(dx:Option Addr)(h:Heap):Prop:=∃o vs,h.get? a=some o/\o.cls=.ref C/\o.dict=dx/\o.data=.fields vs
def gN:HO->Bool
 |.tup _=>false
 |_=>true
def xB(F:Hp)(dx:Option Addr)(fs:List (List Nat))(vs:List D):Prop:=(dx=none/\fs=[]/\vs=[])\/∃p f i,dx=some p/\fs=[f]/\vs=[.int i]/\F p=some (.xd [((⟨f.toArray⟩:Str),.int i)])
mutual
inductive aS(K:W.Frag)(F:Hp):V->D->Prop
 |non:aS K F .non .non
 |bl (b:Bool):aS K F (.bl b) (.bl b)
 |int (i:Int):aS K F (.int i) (.int i)
 |str {x:Str} {l:List Nat}:x.cps.toList=l->l.length<=16777216->aS K F (.str x) (.str l)
 |tup {a:Addr} {xs:List V} {ds:List D}:F a=some (.tup xs)->zJ K F xs ds->aS K F (.ref a) (.tup ds)
 |lst {a:Addr} {xs:List V} {ds:List D}:cA K F a xs->zJ K F xs ds->aS K F (.ref a) (.lst ds)
 |dK {a:Addr} {zM:List (aR×V)} {ks vs:List D}:Rd F a (.dK zM)->ks=zM.map (λp=>aK p.1)->zJ K F (zM.map (·.2)) vs->aS K F (.ref a) (.dct false ks vs)
 |dT {a:Addr} {zM:List (List aR×V)} {ks vs:List D}:Rd F a (.dT zM)->ks=zM.map (λp=>D.tup (p.1.map aK))->zJ K F (zM.map (·.2)) vs->aS K F (.ref a) (.dct true ks vs)
 |st {a:Addr} {xs:List V} {ds:List D}:F a=some (.set xs)->zJ K F xs ds->aS K F (.ref a) (.set ds)
 |exc {a C:Addr} {dx:Option Addr} {c:List Nat} {fs:List (List Nat)} {vs:List D}:F a=some (.ext (Mz a C dx))->W.nsIn K mainGlobals (⟨c.toArray⟩:Str)=some (some (.ref C))->xB F dx fs vs->aS K F (.ref a) (.exc c fs vs)
inductive zJ(K:W.Frag)(F:Hp):List V->List D->Prop
 |nil:zJ K F [] []
 |cons {x:V} {d:D} {xs:List V} {ds:List D}:aS K F x d->zJ K F xs ds->zJ K F (x::xs) (d::ds)
end
mutual
inductive aN(K:W.Frag)(F H:Hp):V->S->List Addr->Prop
 |sh {v:V} {d:D}:aS K F v d->aN K F H v (.sh d) []
 |lst {a:Addr} {xs:List V} {l:List S} {fp:List Addr}:H a=some (.lst xs)->zz K F H xs l fp->aN K F H (.ref a) (.lst l) (a::fp)
 |dK {a:Addr} {zM:List (aR×V)} {ks:List D} {l:List S} {fp:List Addr}:H a=some (.dK zM)->ks=zM.map (λp=>aK p.1)->zz K F H (zM.map (·.2)) l fp->aN K F H (.ref a) (.dct false ks l) (a::fp)
 |dT {a:Addr} {zM:List (List aR×V)} {ks:List D} {l:List S} {fp:List Addr}:H a=some (.dT zM)->ks=zM.map (λp=>D.tup (p.1.map aK))->zz K F H (zM.map (·.2)) l fp->aN K F H (.ref a) (.dct true ks l) (a::fp)
 |st {a:Addr} {xs:List V} {ds:List D}:H a=some (.set xs)->zJ K F xs ds->aN K F H (.ref a) (.set ds) [a]
inductive zz(K:W.Frag)(F H:Hp):List V->List S->List Addr->Prop
 |nil:zz K F H [] [] []
 |cons {x:V} {s:S} {xs:List V} {l:List S} {fp fq:List Addr}:aN K F H x s fp->zz K F H xs l fq->zz K F H (x::xs) (s::l) (fp++fq)
end
theorem Rd.mono(h:zw F F')(r:Rd F a u):Rd F' a u:=by
 rcases r with r|⟨o,r⟩
 .exact .inl (h _ _ r)
 .exact .inr ⟨o,h _ _ r⟩
theorem cA.mono(h:zw F F')(r:cA K F a xs):cA K F' a xs:=r.elim (λr=>.inl (Rd.mono h r)) .inr
theorem bX.mono(h:zw F F')(r:bX K F a xs):bX K F' a xs:=r.elim (λr=>.inl (Rd.mono h r)) .inr
theorem zJ.ind{P:List V->List D->Prop}(hn:P [] [])(hc:∀{x:V}{d:D}{xs:List V}{ds:List D},aS K F x d->zJ K F xs ds->P xs ds->P (x::xs) (d::ds))(r:zJ K F xs ds):P xs ds:=
 zJ.rec (motive_1:=λ_ _ _=>True) (motive_2:=λxs ds _=>P xs ds) trivial (λ_=>trivial) (λ_=>trivial) (λ_ _=>trivial) (λ_ _ _=>trivial) (λ_ _ _=>trivial) (λ_ _ _ _=>trivial) (λ_ _ _ _=>trivial) (λ_ _ _=>trivial) (λ_ _ _=>trivial) hn (λa b _ ih=>hc a b ih) r
theorem zz.ind{P:List V->List S->List Addr->Prop}(hn:P [] [] [])(hc:∀{x:V}{s:S}{xs:List V}{l:List S}{fp fq:List Addr},aN K F H x s fp->zz K F H xs l fq->P xs l fq->P (x::xs) (s::l) (fp++fq))(r:zz K F H xs l fp):P xs l fp:=
 zz.rec (motive_1:=λ_ _ _ _=>True) (motive_2:=λxs l fp _=>P xs l fp) (λ_=>trivial) (λ_ _ _=>trivial) (λ_ _ _ _=>trivial) (λ_ _ _ _=>trivial) (λ_ _=>trivial) hn (λa b _ ih=>hc a b ih) r
theorem xB.mono(h:zw F F')(x:xB F dx fs vs):xB F' dx fs vs:=x.imp id λ⟨p,f,i,e1,e2,e3,e4⟩=>⟨p,f,i,e1,e2,e3,h _ _ e4⟩
theorem aS.mono(h:zw F F')(r:aS K F v d):aS K F' v d:=
 aS.rec (motive_1:=λv d _=>aS K F' v d) (motive_2:=λv d _=>zJ K F' v d) .non .bl .int (λe z=>.str e z) (λe _ ih=>.tup (h _ _ e) ih) (λe _ ih=>.lst (cA.mono h e) ih) (λe k _ ih=>.dK (Rd.mono h e) k ih) (λe k _ ih=>.dT (Rd.mono h e) k ih) (λe _ ih=>.st (h _ _ e) ih) (λe k x=>.exc (h _ _ e) k (x.mono h)) .nil (λ_ _ a b=>.cons a b) r
theorem zJ.mono(h:zw F F')(r:zJ K F v d):zJ K F' v d:=zJ.ind .nil (λa _ ih=>.cons (aS.mono h a) ih) r
theorem aN.mono(h:zw F F')(r:aN K F H v s fp):(∀a∈fp,H' a=H a)->aN K F' H' v s fp:=
 aN.rec (motive_1:=λv s fp _=>(∀a∈fp,H' a=H a)->aN K F' H' v s fp) (motive_2:=λv s fp _=>(∀a∈fp,H' a=H a)->zz K F' H' v s fp)
  (λr _=>.sh (aS.mono h r)) (λe _ ih k=>.lst ((k _ qo).trans e) (ih λa ha=>k a (qm _ ha)))
  (λe q _ ih k=>.dK ((k _ qo).trans e) q (ih λa ha=>k a (qm _ ha))) (λe q _ ih k=>.dT ((k _ qo).trans e) q (ih λa ha=>k a (qm _ ha)))
  (λe r k=>.st ((k _ qo).trans e) (zJ.mono h r)) (λ_=>.nil) (λ_ _ a b k=>.cons (a λc hc=>k c (qk _ hc)) (b λc hc=>k c (qj _ hc))) r
theorem zz.mono(h:zw F F')(r:zz K F H v s fp):(∀a∈fp,H' a=H a)->zz K F' H' v s fp:=
 zz.ind (P:=λv s fp=>(∀a∈fp,H' a=H a)->zz K F' H' v s fp) (λ_=>.nil) (λa _ b k=>.cons (aN.mono h a λc hc=>k c (qk _ hc)) (b λc hc=>k c (qj _ hc))) r
theorem aN.frz(h:zw F F')(r:aN K F H v s fp):(∀a∈fp,F' a=H a)->aS K F' v s.toD:=
 aN.rec (motive_1:=λv s fp _=>(∀a∈fp,F' a=H a)->aS K F' v s.toD) (motive_2:=λv s fp _=>(∀a∈fp,F' a=H a)->zJ K F' v (S.toDs s))
  (λr _=>aS.mono h r) (λe _ ih k=>.lst (cA.of ((k _ qo).trans e)) (ih λa ha=>k a (qm _ ha)))
  (λe q _ ih k=>.dK (.of ((k _ qo).trans e)) q (ih λa ha=>k a (qm _ ha))) (λe q _ ih k=>.dT (.of ((k _ qo).trans e)) q (ih λa ha=>k a (qm _ ha)))
  (λe r k=>.st ((k _ qo).trans e) (zJ.mono h r)) (λ_=>.nil) (λ_ _ a b k=>.cons (a λc hc=>k c (qk _ hc)) (b λc hc=>k c (qj _ hc))) r
theorem zz.frz(h:zw F F')(r:zz K F H v s fp):(∀a∈fp,F' a=H a)->zJ K F' v (S.toDs s):=
 zz.ind (P:=λv s fp=>(∀a∈fp,F' a=H a)->zJ K F' v (S.toDs s)) (λ_=>.nil) (λa _ b k=>.cons (aN.frz h a λc hc=>k c (qk _ hc)) (b λc hc=>k c (qj _ hc))) r
theorem aN.view(h:zw F H)(r:aN K F H v s fp):aS K H v s.toD:=aN.frz h r λ_ _=>rfl
theorem aN.in_:∀{v:V}{s:S}{fp:List Addr},aN K F H v s fp->∀a∈fp,∃o,H a=some o/\gN o=true:=by
 intro v s fp r;refine aN.rec (motive_1:=λv s fp _=>∀a∈fp,∃o,H a=some o/\gN o=true) (motive_2:=λv s fp _=>∀a∈fp,∃o,H a=some o/\gN o=true) ?_ ?_ ?_ ?_ ?_ ?_ ?_ r
 .intro v d r a ha;cases ha
 .grind[gN]
 .grind[gN]
 .grind[gN]
 .grind[gN]
 .intro a ha;cases ha
 grind
inductive zy(K:W.Frag)(F H:Hp):Env->St->List Addr->Prop
 |nil:zy K F H [] [] []
 |no {U:Env} {Z:St} {o:Option V} {fp:List Addr}:zy K F H U Z fp->zy K F H (none::U) (o::Z) fp
 |so {U:Env} {Z:St} {v:V} {s:S} {fp fq:List Addr}:aN K F H v s fp->zy K F H U Z fq->zy K F H (some s::U) (some v::Z) (fp++fq)
theorem zy.len(r:zy K F H U Z fp):U.length=Z.length:=by
 induction r with
 |nil=>rfl
 |no _ ih=>exact congrArg (·+1) ih
 |so _ _ ih=>exact congrArg (·+1) ih
theorem zy.mono(h:zw F F')(r:zy K F H U Z fp)(k:∀a∈fp,H' a=H a):zy K F' H' U Z fp:=by
 induction r with
 |nil=>exact .nil
 |no _ ih=>exact .no (ih k)
 |so a _ ih=>exact .so (aN.mono h a λc hc=>k c (qk _ hc)) (ih λc hc=>k c (qj _ hc))
theorem zy.in_(r:zy K F H U Z fp):∀a∈fp,∃o,H a=some o/\gN o=true:=by
 induction r with
 |nil=>exact λa ha=>nomatch ha
 |no _ ih=>exact ih
 |so q _ ih=>exact λa ha=>(qA.mp ha).elim (λz=>aN.in_ q a z) λz=>ih a z
theorem zy.app(r:zy K F H U Z fp)(r':zy K F H U' Z' fq):zy K F H (U++U') (Z++Z') (fp++fq):=by
 induction r with
 |nil=>exact r'
 |no _ ih=>exact .no ih
 |so a _ ih=>rw[qq];exact .so a ih
inductive Hr(K:W.Frag)(F H:Hp)(U:Env)(Z:St)(U':Env)(Z':St)(fp:List Addr):Prop
 |mk (f1 f2:List Addr):fp=f1++f2->zy K F H U Z f1->zy K F H U' Z' f2->Hr K F H U Z U' Z' fp
theorem zy.cut(e:U.length=Z.length)(r:zy K F H (U++U') (Z++Z') fp):Hr K F H U Z U' Z' fp:=by
 induction U generalizing Z fp with
 |nil=>cases Z with
  |nil=>exact⟨[],fp,rfl,.nil,r⟩
  |cons _ _=>exact absurd e.symm (Nat.succ_ne_zero _)
 |cons x U ih=>cases Z with
  |nil=>exact absurd e (Nat.succ_ne_zero _)
  |cons y Z=>cases r with
   |no r=>obtain⟨f1,f2,rfl,a,b⟩:=ih (Nat.succ.inj e) r;exact⟨f1,f2,rfl,.no a,b⟩
   |so q r=>obtain⟨f1,f2,rfl,a,b⟩:=ih (Nat.succ.inj e) r;exact⟨_,f2,(qq ..).symm,.so q a,b⟩
def QZ(K:W.Frag)(F H:Hp)(U:Env)(Z:St)(i:Nat)(fa fb:List Addr):Prop:=∀{F' H':Hp}{o:Option S}{u:Option V}{fi':List Addr},zw F F'->(∀a∈fa++fb,H' a=H a)->(zy K F' H' [o] [u] fi')->zy K F' H' (U.set i o) (Z.set i u) (fa++(fi'++fb))
inductive Ra(K:W.Frag)(F H:Hp)(U:Env)(Z:St)(fp:List Addr)(i:Nat)(s:S):Prop
 |mk (v:V) (fa fi fb:List Addr):Z[i]?=some (some v)->fp=fa++(fi++fb)->aN K F H v s fi->QZ K F H U Z i fa fb->Ra K F H U Z fp i s
inductive Hq(K:W.Frag)(F H:Hp)(U:Env)(Z:St)(fp:List Addr)(i:Nat):Prop
 |mk (fa fi fb:List Addr):fp=fa++(fi++fb)->QZ K F H U Z i fa fb->Hq K F H U Z fp i
theorem zy.at:∀{U:Env}{Z:St}{fp:List Addr}{i:Nat}{s:S},zy K F H U Z fp->slot U i=some s->Ra K F H U Z fp i s
 |_,_,_,_,_,.nil,e=>by simp[slot]at e
 |_,_,_,0,_,.no r,e=>by simp at e
 |_,_,_,0,s,.so (fp:=fp) (fq:=fq) q r,e=>by simp at e;subst e;refine⟨_,[],fp,fq,rfl,rfl,q,λ{F' H' o u fi'} h k x=>?_⟩;have r':=zy.mono (H':=H') h r λa ha=>k a ha;exact x.app r'
 |_,_,_,i+1,s,.no r,e=>by obtain⟨v,fa,fi,fb,e1,rfl,q,up⟩:=zy.at r (by simpa using e);exact⟨v,fa,fi,fb,by simpa using e1,rfl,q,λh k x=>.no (up h k x)⟩
 |_,_,_,i+1,s,.so (fp:=fp) (fq:=fq) p r,e=>by obtain⟨v,fa,fi,fb,e1,rfl,q,up⟩:=zy.at r (by simpa using e);refine⟨v,fp++fa,fi,fb,by simpa using e1,(qq ..).symm,q,λ{F' H' o u fi'} h k x=>?_⟩;rw[qq];exact .so (aN.mono h p λa ha=>k a (qk _ (qk _ ha))) (up h (λa ha=>k a ((qA.mp ha).elim (λz=>qk _ (qj _ z)) λz=>qj _ z)) x)
theorem zy.put:∀{U:Env}{Z:St}{fp:List Addr}{i:Nat},zy K F H U Z fp->i<U.length->Hq K F H U Z fp i
 |_,_,_,_,.nil,e=>by simp at e
 |_,_,fp,0,.no r,e=>⟨[],[],fp,rfl,λ{F' H' o u fi'} h k x=>x.app (zy.mono (H':=H') h r λa ha=>k a ha)⟩
 |_,_,_,0,.so (fp:=fp) (fq:=fq) q r,e=>⟨[],fp,fq,rfl,λ{F' H' o u fi'} h k x=>x.app (zy.mono (H':=H') h r λa ha=>k a ha)⟩
 |_,_,_,i+1,.no r,e=>by obtain⟨fa,fi,fb,rfl,up⟩:=zy.put (i:=i) r (by simpa using e);exact⟨fa,fi,fb,rfl,λh k x=>.no (up h k x)⟩
 |_,_,_,i+1,.so (fp:=fp) (fq:=fq) p r,e=>by obtain⟨fa,fi,fb,rfl,up⟩:=zy.put (i:=i) r (by simpa using e);refine⟨fp++fa,fi,fb,(qq ..).symm,λ{F' H' o u fi'} h k x=>?_⟩;rw[qq];exact .so (aN.mono h p λa ha=>k a (qk _ (qk _ ha))) (up h (λa ha=>k a ((qA.mp ha).elim (λz=>qk _ (qj _ z)) λz=>qj _ z)) x)
inductive xC(K:W.Frag)(U:Env)(Z:St)(F G H:Hp):Prop
 |mk (fp:List Addr):zy K F H U Z fp->fp.Nodup->(∀a∈fp,F a=none/\G a=none)->xC K U Z F G H
structure Rel(K:W.Frag)(U:Env)(Z:St)(F G H:Hp):Prop where
 fr:zw F H
 gr:∀a o,G a=some o->(H a=some o/\gN o=true)/\F a=none
 en:xC K U Z F G H
theorem Rel.len(r:Rel K U Z F G H):U.length=Z.length:=let⟨_,e,_,_⟩:=r.en;e.len
theorem Rel.free(r:Rel K U Z F G H)(h:H p=none):F p=none/\G p=none/\∀fp,zy K F H U Z fp->p∉fp:=by
 refine⟨?_,?_,λfp e hp=>?_⟩
 .cases q:F p with
  |none=>rfl
  |some o=>rw[r.fr p o q]at h;cases h
 .cases q:G p with
  |none=>rfl
  |some o=>rw[(r.gr p o q).1.1]at h;cases h
 .obtain⟨o,q,_⟩:=e.in_ p hp;rw[h]at q;cases q
theorem zw.upd(h:F p=none):zw F (upd F p o):=λb u e=>by rw[cH (λz=>by rw[z,h]at e;cases e)];exact e
theorem zw.upd2(h:zw F H):zw (L2.upd F p o) (L2.upd H p o):=λb u e=>by
 by_cases q:b=p
 .subst q;rw[kJ]at e⊢;exact e
 .rw[cH q]at e⊢;exact h b u e
theorem zw.updR(h:zw F H)(n:F p=none):zw F (L2.upd H p o):=λb u e=>by rw[cH (λz=>by rw[z,n]at e;cases e)];exact h b u e
theorem Rel.newF(r:Rel K U Z F G H)(h:H p=none):Rel K U Z (upd F p o) G (upd H p o):=by
 obtain⟨f0,g0,n0⟩:=r.free h;obtain⟨fp,e,nd,ap⟩:=r.en;have hne:∀a∈fp,a≠p:=λa ha z=>n0 fp e (z▸ha);refine⟨zw.upd2 r.fr,λa u q=>?_,fp,e.mono (zw.upd f0) λa ha=>cH (hne a ha),nd,λa ha=>?_⟩
 .have hp:a≠p:=λz=>by rw[z,g0]at q;cases q
  rw[cH hp,cH hp];exact r.gr a u q
 .rw[cH (hne a ha)];exact ap a ha
theorem Rel.newO(r:Rel K U Z F G H)(h:H p=none)(q:aN K F (upd H p o) (.ref p) s [p]):Rel K (U++[some s]) (Z++[some (.ref p)]) F G (upd H p o):=by
 obtain⟨f0,g0,n0⟩:=r.free h;obtain⟨fp,e,nd,ap⟩:=r.en;have hne:∀a∈fp,a≠p:=λa ha z=>n0 fp e (z▸ha);refine⟨zw.updR r.fr f0,λa u q=>?_,fp++([p]++[]),(e.mono (zw.refl F) λa ha=>cH (hne a ha)).app (.so q .nil),?_,λa ha=>?_⟩
 .have hp:a≠p:=λz=>by rw[z,g0]at q;cases q
  rw[cH hp];exact r.gr a u q
 .grind
 grind
theorem Rel.drop(r:Rel K (U++U') (Z++Z') F G H)(h:U.length=Z.length):Rel K U Z F G H:=by obtain⟨fp,e,nd,ap⟩:=r.en;obtain⟨f1,f2,rfl,a,b⟩:=e.cut h;exact⟨r.fr,r.gr,f1,a,(qz.mp nd).1,λc hc=>ap c (qk _ hc)⟩
theorem Rel.hide(r:Rel K (U++U') (Z++Z') F G H)(h:U.length=Z.length):∃G',Rel K U Z F G' H/\zw G G'/\
  ∀{U2:Env}{Z2:St}{F2 H2:Hp},zw F F2->Rel K U2 Z2 F2 G' H2->Rel K (U2++U') (Z2++Z') F2 G H2:=by
 classical
 obtain⟨fp,e,nd,ap⟩:=r.en;obtain⟨f1,f2,rfl,a,b⟩:=e.cut h;obtain⟨n1,n2,n12⟩:=qz.mp nd;refine⟨λx=>if x∈f2 then H x else G x,⟨r.fr,λx o q=>?_,f1,a,n1,λx hx=>?_⟩,λx o q=>?_,λ{U2 Z2 F2 H2} sm r2=>?_⟩
 .by_cases z:x∈f2
  .have:=b.in_ x z;grind
  .simp only[z,if_false]at q;exact r.gr x o q
 .grind
 .grind
 .obtain⟨fp2,e2,nd2,ap2⟩:=r2.en;have hk:∀x∈f2,H2 x=H x/\F2 x=none/\x∉fp2:=λx hx=>by obtain⟨o,q,_⟩:=b.in_ x hx;have w:=r2.gr x o (by simp only[hx,if_true];exact q);grind
  refine⟨r2.fr,λx o q=>?_,fp2++f2,e2.app (b.mono sm λx hx=>(hk x hx).1),?_,λx hx=>?_⟩
  .have z:x∉f2:=λz=>by grind
   exact r2.gr x o (by simp only[z,if_false];exact q)
  .grind
  grind
theorem Rel.weakG(r:Rel K U Z F G' H)(h:zw G G'):Rel K U Z F G H:=by
 obtain⟨fp,e,nd,ap⟩:=r.en;refine⟨r.fr,λa o q=>r.gr a o (h a o q),fp,e,nd,λa ha=>⟨(ap a ha).1,?_⟩⟩;cases q:G a with
 |none=>rfl
 |some o=>have:=(ap a ha).2;rw[h a o q]at this;cases this
theorem Rel.swap(h:U.length=Z.length)(h1:U1.length=Z1.length)(r:Rel K (U++(U1++U2)) (Z++(Z1++Z2)) F G H):Rel K (U++(U2++U1)) (Z++(Z2++Z1)) F G H:=by obtain⟨fp,e,nd,ap⟩:=r.en;obtain⟨f0,f12,rfl,a,b⟩:=e.cut h;obtain⟨f1,f2,rfl,b1,c⟩:=b.cut h1;have p:(f0++(f2++f1)).Perm (f0++(f1++f2)):=List.Perm.append_left _ qQ;exact⟨r.fr,r.gr,_,a.app (c.app b1),p.nodup_iff.mpr nd,λx hx=>ap x (p.mem_iff.mp hx)⟩
theorem Rel.push(r:Rel K U Z F G H)(h:aS K F v d):Rel K (U++[some (.sh d)]) (Z++[some v]) F G H:=by
 obtain⟨fp,e,nd,ap⟩:=r.en;refine⟨r.fr,r.gr,fp++([]++[]),e.app (.so (.sh h) .nil),?_,λx hx=>ap x ?_⟩
 .simpa using nd
 .simpa using hx
theorem Rel.pushN(r:Rel K U Z F G H):Rel K (U++[none]) (Z++[u]) F G H:=by
 obtain⟨fp,e,nd,ap⟩:=r.en;refine⟨r.fr,r.gr,fp++[],e.app (.no .nil),?_,λx hx=>ap x ?_⟩
 .simpa using nd
 .simpa using hx
theorem Kv(h:slot U i=some s):U[i]?=some (some s):=by
 induction U generalizing i with
 |nil=>simp[slot]at h
 |cons a r ih=>cases i with
  |zero=>simp at h;simp[h]
  |succ i=>simp at h;simpa using ih h
theorem Em(h:slot U i=some s):i<U.length:=(qh.mp (Kv h)).1
theorem Fj(h:i<U.length):slot (U++U') i=slot U i:=by
 induction U generalizing i with
 |nil=>simp at h
 |cons a r ih=>cases i with
  |zero=>rfl
  |succ i=>simpa using ih (by simpa using h)
theorem Ep:slot (U++o::U') U.length=o:=by
 induction U with
 |nil=>rfl
 |cons a r ih=>simpa using ih
inductive QX(K:W.Frag)(F H:Hp)(Z:St)(i:Nat)(s:S):Prop
 |mk (v:V) (fp:List Addr):Z[i]?=some (some v)->aN K F H v s fp->QX K F H Z i s
theorem Rel.at(r:Rel K U Z F G H)(h:slot U i=some s):QX K F H Z i s:=by obtain⟨fp,e,nd,ap⟩:=r.en;obtain⟨v,fa,fi,fb,e1,_,q,_⟩:=e.at h;exact⟨v,fi,e1,q⟩
theorem Rel.give(r:Rel K U Z F G H)(h:slot U i=some s):∃v F',Z[i]?=some (some v)/\zw F F'/\aS K F' v s.toD/\Rel K (U.set i (some (.sh s.toD))) Z F' G H:=by
 classical
 obtain⟨fp,e,nd,ap⟩:=r.en;obtain⟨v,fa,fi,fb,e1,rfl,q,up⟩:=e.at h;obtain⟨na,nib,nab⟩:=qz.mp nd;obtain⟨ni,nb,nib⟩:=qz.mp nib;have nofi:∀x∈fa++fb,x∉fi:=λx hx z=>by grind
 have sm:zw F (λx=>if x∈fi then H x else F x):=λx o w=>by grind
 have rp:aS K (λx=>if x∈fi then H x else F x) v s.toD:=q.frz sm λx hx=>by simp only[hx,if_true]
 have e2:Z.set i (some v)=Z:=by apply ext_getElem?;grind
 refine⟨v,_,e1,sm,rp,λx o w=>?_,λx o w=>?_,fa++([]++fb),?_,?_,λx hx=>?_⟩
 .by_cases z:x∈fi
  .simp only[z,if_true]at w;exact w
  .simp only[z,if_false]at w;exact r.fr x o w
 .have w2:=r.gr x o w;grind
 .have:=up (F':=λx=>if x∈fi then H x else F x) (H':=H) (o:=some (.sh s.toD)) (u:=some v) (fi':=[]) sm (λ_ _=>rfl) (.so (.sh rp) .nil);rw[e2]at this;exact this
 .grind
 grind
theorem Rel.store(r:Rel K (U++[o]) (Z++[u]) F G H)(h:U.length=Z.length)(hi:i<U.length):Rel K (U.set i o) (Z.set i u) F G H:=by
 obtain⟨fp,e,nd,ap⟩:=r.en;obtain⟨f1,f2,rfl,a,b⟩:=e.cut h;obtain⟨fa,fi,fb,rfl,up⟩:=a.put hi;obtain⟨n1,n2,n12⟩:=qz.mp nd;obtain⟨na,nib,nab⟩:=qz.mp n1;obtain⟨ni,nb,nib⟩:=qz.mp nib;refine⟨r.fr,r.gr,fa++(f2++fb),up (zw.refl F) (λ_ _=>rfl) b,?_,λx hx=>?_⟩
 .grind
 grind
end FL
namespace FL
open PySem PySem.Spec PyProof.Rows L2
abbrev St:=L2.St
abbrev wp(X:Cx)(pn:List (Addr×Obj))(xe:zo):Cx:={X with pn:=pn,xe:=xe}
def zx:R->Option S
 |.v s=>some s
 |.loc _=>none
def RV(Z:St)(v:V):R->Prop
 |.v _=>True
 |.loc i=>Z[i]?=some (some v)
def xO(Z:St):List V->List R->Prop
 |[],[]=>True
 |v::vs,r::rs=>RV Z v r/\xO Z vs rs
 |_,_=>False
def GS(K:W.Frag)(F:Hp)(d:D)(C:Addr)(dx:Option Addr):Prop:=∃c fs vs,d=.exc c fs vs/\W.nsIn K mainGlobals (⟨c.toArray⟩:Str)=some (some (.ref C))/\xB F dx fs vs
def ME(X:Cx)(F H:Hp)(h:Heap)(u:Value)(d:D):Prop:=∃e C dx,u=.ref e/\GS X.K F d C dx/\ED X [] H h e (.ref C) dx
def KP(ks:List Nat)(Z Z':St):Prop:=∀i∈ks,Z'[i]?=Z[i]?
def XC(X:Cx)(T:St->Prop)(F G:Hp)(PX:WX):Prop:=∀(d:D)(U':Env)(Z':St)(F' H':Hp)(u:Value)(s':Shared),PX d U'->T Z'->zw F F'->Rel X.K U' Z' F' G H'->Inv X [] Z' H' s'->ME X F' H' s'.heap u d->X.xe u s'
theorem XC.mono(h:XC X T F G PX)(t:∀Z,T' Z->T Z)(f:zw F F')(g:zw G G'):XC X T' F' G' PX:=
 λd U' Z' F2 H2 u s' p q sm r I x=>h d U' Z' F2 H2 u s' p (t _ q) (f.trans sm) (r.weakG g) I x
theorem XC.grow(h:XC X T F G PX)(f:zw F F'):XC X T F' G PX:=h.mono (λ_ z=>z) f (zw.refl G)
inductive tW(X:Cx)(w:WE)(Z:St)(H:Hp)(Q:VK):Prop
 |mk (F G:Hp) (U:Env) (P:WQ) (PX:WX) (zN:Rel X.K U Z F G H) (hw:w U P PX) (hok:∀r U' v F' H',P r U'->zw F F'->Rel X.K (U'++[zx r]) (Z++[some v]) F' G H'->RV Z v r->Q v H') (hx:XC X (·=Z) F G PX):tW X w Z H Q
def FE(X:Cx)(e:Expr)(w:WE):Prop:=∀(pn:List (Addr×Obj))(xe:zo),PassesOwn (model X.prog X.w) X.A X.env xe->PE (wp X pn xe) e (tW (wp X pn xe) w)
inductive mB(X:Cx)(w:WT)(Z:St)(H:Hp)(Q:Bool->Hp->Prop):Prop
 |mk (F G:Hp) (U:Env) (P:Bool->Env->Prop) (PX:WX) (zN:Rel X.K U Z F G H) (hw:w U P PX) (hok:∀b U' F' H',P b U'->zw F F'->Rel X.K U' Z F' G H'->Q b H') (hx:XC X (·=Z) F G PX):mB X w Z H Q
def FT(X:Cx)(e:Expr)(w:WT):Prop:=∀(pn:List (Addr×Obj))(xe:zo),PassesOwn (model X.prog X.w) X.A X.env xe->PT (wp X pn xe) e (mB (wp X pn xe) w)
def FW(X:Cx)(e:Expr)(w:WT):Prop:=∀(pn:List (Addr×Obj))(xe:zo),PassesOwn (model X.prog X.w) X.A X.env xe->PW (wp X pn xe) e (mB (wp X pn xe) w)
inductive yW(X:Cx)(w:WA)(Z:St)(H:Hp)(Q:List V->Hp->Prop):Prop
 |mk (F G:Hp) (U:Env) (P:List R->Env->Prop) (PX:WX) (zN:Rel X.K U Z F G H) (hw:w U P PX) (hok:∀rs U' vs F' H',P rs U'->zw F F'->Rel X.K (U'++rs.map zx) (Z++vs.map some) F' G H'->U'.length=Z.length->xO Z vs rs->Q vs H') (hx:XC X (·=Z) F G PX):yW X w Z H Q
def FA(X:Cx)(es:List Expr)(w:WA):Prop:=∀(pn:List (Addr×Obj))(xe:zo),PassesOwn (model X.prog X.w) X.A X.env xe->PA (wp X pn xe) es (yW (wp X pn xe) w)
theorem PE.imp(h:PE X e t)(k:∀Z H Q,t' Z H Q->t Z H Q):PE X e t':=λzL s Z H Q I q=>h zL s Z H Q I (k Z H Q q)
theorem PT.imp(h:PT X e t)(k:∀Z H Q,t' Z H Q->t Z H Q):PT X e t':=λzL s Z H Q I q=>h zL s Z H Q I (k Z H Q q)
theorem PW.imp(h:PW X e t)(k:∀Z H Q,t' Z H Q->t Z H Q):PW X e t':=λwh zL s Z H Q I q=>h wh zL s Z H Q I (k Z H Q q)
theorem PA.imp(h:PA X e t)(k:∀Z H Q,t' Z H Q->t Z H Q):PA X e t':=λp zL s Z H Q I q=>h p zL s Z H Q I (k Z H Q q)
section
variable{K:W.Frag}
theorem Rel.mid(r:Rel K (U++o::U') (Z++w::Z') F G H)(h:U.length=Z.length):Rel K (U++U') (Z++Z') F G H:=by obtain⟨fp,e,nd,ap⟩:=r.en;obtain⟨f1,f2,rfl,a,b⟩:=e.cut h;obtain⟨f2,f3,rfl,b,c⟩:=zy.cut (U:=[o]) (Z:=[w]) rfl b;obtain⟨n1,n2,n3⟩:=qz.mp nd;obtain⟨n4,n5,n6⟩:=qz.mp n2;refine⟨r.fr,r.gr,f1++f3,a.app c,qz.mpr ⟨n1,n5,λx hx y hy=>n3 x hx y (qj _ hy)⟩,λx hx=>ap x ?_⟩;grind
theorem bD(r:Rel K (U++[o]) (Z++[w]) F G H):U.length=Z.length:=by have:=r.len;simpa using this
theorem Kr:(U++o::U').set U.length o'=U++o'::U':=by
 induction U with
 |nil=>rfl
 |cons a r ih=>simpa using ih
inductive Nd{α:Type}(o:Option α)(k:α->Prop):Prop
 |mk (a:α):o=some a->k a->Nd o k
theorem cF(h:zv o k):Nd o k:=by
 cases o with
 |none=>exact h.elim
 |some a=>exact⟨a,rfl,h⟩
def bN(K:W.Frag)(F H:Hp)(v:V)(d:D):Prop:=aS K F v d\/
 (∃a xs ds,v=.ref a/\d=.lst ds/\H a=some (.lst xs)/\zJ K F xs ds)\/
 (∃a zM ks vs,v=.ref a/\d=.dct false ks vs/\H a=some (.dK zM)/\ks=zM.map (λp=>aK p.1)/\zJ K F (zM.map (·.2)) vs)\/
 (∃a zM ks vs,v=.ref a/\d=.dct true ks vs/\H a=some (.dT zM)/\ks=zM.map (λp=>D.tup (p.1.map aK))/\zJ K F (zM.map (·.2)) vs)
theorem bN.mono(h:zw F F')(r:bN K F H v d):bN K F' H v d:=by
 rcases r with r|⟨a,xs,ds,e1,e2,e3,r⟩|⟨a,zM,ks,vs,e1,e2,e3,e4,r⟩|⟨a,zM,ks,vs,e1,e2,e3,e4,r⟩
 .exact .inl (r.mono h)
 .exact .inr (.inl ⟨a,xs,ds,e1,e2,e3,r.mono h⟩)
 .exact .inr (.inr (.inl ⟨a,zM,ks,vs,e1,e2,e3,e4,r.mono h⟩))
 .exact .inr (.inr (.inr ⟨a,zM,ks,vs,e1,e2,e3,e4,r.mono h⟩))
theorem zz.sh(r:zz K F H xs l fp):l.all S.isSh=true->zJ K F xs (l.map S.toD)/\fp=[]:=
 zz.ind (P:=λxs l fp=>l.all S.isSh=true->zJ K F xs (l.map S.toD)/\fp=[]) (λ_=>⟨.nil,rfl⟩) (λa _ ih h=>by
  rw[all_cons,and_eq_true]at h;obtain⟨q,e⟩:=ih h.2;cases a with
  |sh r=>exact⟨.cons r q,e⟩
  |_=>exact absurd h.1 (by simp[S.isSh])) r
theorem dH(r:Rel K (U++(zx x::U')) (Z++(some v::Z')) F G H)(h:U.length=Z.length)(rv:RV Z v x)(e:view x U=some d):aS K H v d:=by
 cases x with
 |v s=>
  obtain⟨u,fp,e1,q⟩:=r.at (i:=U.length) (s:=s) Ep;rw[h,getElem?_append_right (zd _),sub_self]at e1;have e2:v=u:=by simpa using e1
  subst e2;have e3:s.toD=d:=qg e;rw[<-e3];exact q.view r.fr
 |loc i=>
  have e':(slot U i).map S.toD=some d:=e;cases q:slot U i with
  |none=>rw[q]at e';cases e'
  |some s=>
   rw[q]at e';have e3:s.toD=d:=qg e';have hi:=Em q;obtain⟨u,fp,e1,w⟩:=r.at (i:=i) (s:=s) (by rw[Fj hi];exact q);rw[getElem?_append_left (h▸hi)]at e1;have rv':Z[i]?=some (some v):=rv;rw[rv']at e1;have e2:v=u:=by simpa using e1
   subst e2;rw[<-e3];exact w.view r.fr
inductive QV(K:W.Frag)(U:Env)(Z:St)(F G H:Hp)(v:V)(d:D):Prop
 |mk (F':Hp):zw F F'->bN K F' H v d->Rel K U Z F' G H->QV K U Z F G H v d
theorem iB(r:Rel K (U++(zx x::U')) (Z++(some v::Z')) F G H)(h:U.length=Z.length)(rv:RV Z v x)(e:zH x U=some d):
  QV K (U++U') (Z++Z') F G H v d:=by
 cases x with
 |v s=>
  obtain⟨u,F',e1,sm,rp,r'⟩:=r.give (i:=U.length) (s:=s) Ep;rw[h,getElem?_append_right (zd _),sub_self]at e1;have e2:v=u:=by simpa using e1
  subst e2;have e3:s.toD=d:=qg e;rw[show(U++zx (.v s)::U').set U.length (some (S.sh s.toD))=U++some (S.sh s.toD)::U' from Kr]at r';exact⟨F',sm,.inl (e3▸rp),r'.mid h⟩
 |loc i=>
  have e':(match slot U i with|some s=>if s.flat then some s.toD else none|none=>none)=some d:=e;cases q:slot U i with
  |none=>rw[q]at e';cases e'
  |some s=>
   rw[q]at e';have hi:=Em q;obtain⟨u,fp,e1,w⟩:=r.at (i:=i) (s:=s) (by rw[Fj hi];exact q);rw[getElem?_append_left (h▸hi)]at e1;have rv':Z[i]?=some (some v):=rv;rw[rv']at e1;have e2:v=u:=by simpa using e1
   subst e2;refine⟨F,zw.refl F,?_,r.mid h⟩;by_cases hf:s.flat=true
   .have e3:s.toD=d:=by grind
    subst e3;cases w with
    |sh r=>exact .inl r
    |lst e0 r0=>obtain⟨r1,_⟩:=r0.sh hf;exact .inr (.inl ⟨_,_,_,rfl,by simp,e0,r1⟩)
    |dK e0 k0 r0=>obtain⟨r1,_⟩:=r0.sh hf;exact .inr (.inr (.inl ⟨_,_,_,_,rfl,by simp,e0,k0,r1⟩))
    |dT e0 k0 r0=>obtain⟨r1,_⟩:=r0.sh hf;exact .inr (.inr (.inr ⟨_,_,_,_,rfl,by simp,e0,k0,r1⟩))
    |st _ _=>exact absurd hf (by simp[S.flat])
   grind
inductive QY(K:W.Frag)(L:Prop)(U:Env)(Z:St)(F G H:Hp):Prop
 |mk (F':Hp):zw F F'->L->Rel K U Z F' G H->QY K L U Z F G H
theorem dN(r:Rel K (U++(zx x::U')) (Z++(some v::Z')) F G H)(h:U.length=Z.length)(rv:RV Z v x)(e:give x U=some (s,U1)):
  QY K (U1.length=U.length) (U1++(some s::U')) (Z++(some v::Z')) F G H:=by
 cases x with
 |v t=>have e':some (t,U)=some (s,U1):=e;cases e';exact⟨F,zw.refl F,rfl,r⟩
 |loc i=>
  have e':(match slot U i with|some s=>some (S.sh s.toD,U.set i (some (.sh s.toD)))|none=>none)=some (s,U1):=e;cases q:slot U i with
  |none=>rw[q]at e';cases e'
  |some t=>
   rw[q]at e';cases e';have hi:=Em q;obtain⟨u,F',e1,sm,rp,r'⟩:=r.give (i:=i) (s:=t) (by rw[Fj hi];exact q);rw[getElem?_append_left (h▸hi)]at e1;have rv':Z[i]?=some (some v):=rv;rw[rv']at e1;have e2:v=u:=by simpa using e1
   subst e2;rw[List.set_append_left _ _ hi]at r';refine⟨F',sm,by simp,?_⟩;obtain⟨fp,en,nd,ap⟩:=r'.en;have hl:(U.set i (some (S.sh t.toD))).length=Z.length:=by simpa using h
   obtain⟨f1,f2,rfl,a,b⟩:=en.cut hl;have b':zy K F' H (none::U') (some v::Z') f2:=b;cases b' with
   |no b=>exact⟨r'.fr,r'.gr,f1++([]++f2),a.app (.so (.sh rp) b),by simpa using nd,λx hx=>ap x (by simpa using hx)⟩
end
theorem tW.mono(h:tW X w Z H Q)(k:∀v H',Q v H'->Q' v H'):tW X w Z H Q':=by obtain⟨F,G,U,P,PX,zN,hw,hok,hx⟩:=h;exact⟨F,G,U,P,PX,zN,hw,λr U' v F' H' a b c d=>k _ _ (hok r U' v F' H' a b c d),hx⟩
inductive Bq(X:Cx)(Z:St)(k:R->R->Env->WQ->WX->Prop)(Q:VK)(v u:V)(H:Hp):Prop
 |mk (F G:Hp) (U:Env) (x y:R) (P:WQ) (PX:WX) (zN:Rel X.K (U++[zx x,zx y]) (Z++[some v,some u]) F G H) (hl:U.length=Z.length) (rx:RV Z v x) (ry:RV Z u y) (hk:k x y U P PX) (hok:∀r U' v F' H',P r U'->zw F F'->Rel X.K (U'++[zx r]) (Z++[some v]) F' G H'->RV Z v r->Q v H') (hx:XC X (·=Z) F G PX):Bq X Z k Q v u H
theorem BV(h:tW X (λU Q E=>wa U (λx U1=>wb U1 (λy U2=>k x y U2 Q E) E) E) Z H Q):
  tW X wa Z H λv H1=>tW X wb Z H1 λu H2=>Bq X Z k Q v u H2:=by
 obtain⟨F,G,U,P,PX,zN,hw,hok,hx⟩:=h;refine⟨F,G,U,_,PX,zN,hw,λx U1 v F1 H1 hp1 s1 r1 rv1=>?_,hx⟩;have h1:=bD r1;obtain⟨G1,rel1,gg,back⟩:=r1.hide h1;refine⟨F1,G1,U1,_,PX,rel1,hp1,λy U2 u F2 H2 hp2 s2 r2 rv2=>?_,hx.mono (λ_ z=>z) s1 gg⟩;have h2:=bD r2;have r3:=back s2 r2;rw[qq,qq]at r3;exact⟨F2,G,U2,x,y,P,PX,Rel.swap (U1:=[zx y]) (Z1:=[some u]) (U2:=[zx x]) (Z2:=[some v]) h2 rfl r3,h2,rv1,rv2,hp2,λr U' v F' H' a b c d=>hok r U' v F' H' a (s1.trans (s2.trans b)) c d,hx.grow (s1.trans s2)⟩
inductive One(X:Cx)(Z:St)(k:R->Env->WQ->WX->Prop)(Q:VK)(v:V)(H:Hp):Prop
 |mk (F G:Hp) (U:Env) (x:R) (P:WQ) (PX:WX) (zN:Rel X.K (U++[zx x]) (Z++[some v]) F G H) (hl:U.length=Z.length) (rx:RV Z v x) (hk:k x U P PX) (hok:∀r U' v F' H',P r U'->zw F F'->Rel X.K (U'++[zx r]) (Z++[some v]) F' G H'->RV Z v r->Q v H') (hx:XC X (·=Z) F G PX):One X Z k Q v H
theorem one(h:tW X (λU Q E=>wa U (λx U1=>k x U1 Q E) E) Z H Q):tW X wa Z H λv H1=>One X Z k Q v H1:=by obtain⟨F,G,U,P,PX,zN,hw,hok,hx⟩:=h;exact⟨F,G,U,_,PX,zN,hw,λx U1 v F1 H1 hp1 s1 r1 rv1=>⟨F1,G,U1,x,P,PX,r1,bD r1,rv1,hp1,λr U' v F' H' a b c d=>hok r U' v F' H' a (s1.trans b) c d,hx.grow s1⟩,hx⟩
theorem Su(hN:X.N[i]?=some x)(hv:GY X.env.scope x)(hd:(x==("__debug__":Str))=false:=by decide)(hcd:(x==("__classdict__":Str))=false:=by decide):FE X (.Name x pos) (zp i):=by
 intro pn xe hp;refine PE.imp (RQ (X:=wp X pn xe) hN hv hd hcd) λZ H Q h=>?_;obtain⟨F,G,U,P,PX,zN,hw,hok,hx⟩:=h;unfold zp at hw;cases q:slot U i with
 |none=>rw[q]at hw;exact hw.elim
 |some s=>
  obtain⟨v,fp,e1,sr⟩:=zN.at q;rw[q]at hw;cases s with
  |sh d=>
   cases sr with
   |sh r=>exact⟨v,e1,hok _ _ v F H hw (zw.refl F) (zN.push r) trivial⟩
  |lst l=>exact⟨v,e1,hok _ _ v F H hw (zw.refl F) zN.pushN e1⟩
  |dct t a b=>exact⟨v,e1,hok _ _ v F H hw (zw.refl F) zN.pushN e1⟩
  |set l=>exact⟨v,e1,hok _ _ v F H hw (zw.refl F) zN.pushN e1⟩
theorem DL(h:∀X:Cx,PE X e (tC v))(r:∀K F,aS K F v d):FE X e (wC d):=by intro pn xe hp;refine PE.imp (h _) λZ H Q h=>?_;obtain⟨F,G,U,P,PX,zN,hw,hok,hx⟩:=h;exact hok _ _ v F H hw (zw.refl F) (zN.push (r _ _)) trivial
theorem bB:FE X (.Constant (.int i) j pos) (wC (.int i)):=DL (λ_=>Sm) λ_ _=>.int i
theorem Nm:FE X (.Constant .none j pos) (wC .non):=DL (λ_=>RK) λ_ _=>.non
theorem xW(e:x.cps.toList=l)(z:l.length<=16777216):FE X (.Constant (.str x) j pos) (wC (.str l)):=DL (λ_=>SI) λ_ _=>.str e z
theorem OpR.or(h:OpR X f r)(h':OpR X f r'):OpR X f (λx y H Q=>r x y H Q\/r' x y H Q):=λzL s Z H x y v u Q I rx ry q=>q.elim (λz=>h zL s Z H x y v u Q I rx ry z) λz=>h' zL s Z H x y v u Q I rx ry z
def mL(K:W.Frag)(r:R2)(op:D->D->Option S):Prop:=∀(Z:St)(U:Env)(F G H:Hp)(x y:V)(p q:D)(s:S)(Q:VK),Rel K U Z F G H->bN K F H x p->bN K F H y q->op p q=some s->
 (∀v F' H',zw F F'->Rel K (U++[some s]) (Z++[some v]) F' G H'->Q v H')->r x y H Q
theorem Ea(ho:∀pn xe,OpR (wp X pn xe) (binaryOp op) r)(hd:mL X.K r o)(ha:FE X a wa)(hb:FE X b wb):FE X (.BinOp a op b pos) (zC o wa wb):=by intro pn xe hp;refine PE.imp (RB (ho pn xe) (ha pn xe hp) (hb pn xe hp)) λZ H Q h=>?_;refine(BV (k:=λx y U2 Q E=>zv (zH x U2) λp=>zv (zH y U2) λq=>zv (o p q) λs=>Q (.v s) U2) h).mono λv H1 h1=>h1.mono λu H2 h2=>?_;obtain⟨F,G,U,x,y,P,PX,zN,hl,rx,ry,hk,hok,hx⟩:=h2;obtain⟨p,ep,hk⟩:=cF hk;obtain⟨q,eq,hk⟩:=cF hk;obtain⟨t,et,hk⟩:=cF hk;obtain⟨F1,s1,re1,rel1⟩:=iB zN hl rx ep;obtain⟨F2,s2,re2,rel2⟩:=iB (U':=[]) (Z':=[]) rel1 hl ry eq;rw[qC,qC]at rel2;exact hd Z U F2 G H2 v u p q t Q rel2 (re1.mono s2) re2 et λv' F' H' sm r'=>hok (.v t) U v' F' H' hk (s1.trans (s2.trans sm)) r' trivial
theorem yW.mono(h:yW X w Z H Q)(k:∀v H',Q v H'->Q' v H'):yW X w Z H Q':=by obtain⟨F,G,U,P,PX,zN,hw,hok,hx⟩:=h;exact⟨F,G,U,P,PX,zN,hw,λr U' v F' H' a b c d e=>k _ _ (hok r U' v F' H' a b c d e),hx⟩
inductive GZ(X:Cx)(Z:St)(k:R->R->Env->(Bool->Env->Prop)->WX->Prop)(Q:Bool->Hp->Prop)(v u:V)(H:Hp):Prop
 |mk (F G:Hp) (U:Env) (x y:R) (P:Bool->Env->Prop) (PX:WX) (zN:Rel X.K (U++[zx x,zx y]) (Z++[some v,some u]) F G H) (hl:U.length=Z.length) (rx:RV Z v x) (ry:RV Z u y) (hk:k x y U P PX) (hok:∀r U' F' H',P r U'->zw F F'->Rel X.K U' Z F' G H'->Q r H') (hx:XC X (·=Z) F G PX):GZ X Z k Q v u H
theorem KH(h:mB X (λU Q E=>wa U (λx U1=>wb U1 (λy U2=>k x y U2 Q E) E) E) Z H Q):
  tW X wa Z H λv H1=>tW X wb Z H1 λu H2=>GZ X Z k Q v u H2:=by
 obtain⟨F,G,U,P,PX,zN,hw,hok,hx⟩:=h;refine⟨F,G,U,_,PX,zN,hw,λx U1 v F1 H1 hp1 s1 r1 rv1=>?_,hx⟩;have h1:=bD r1;obtain⟨G1,rel1,gg,back⟩:=r1.hide h1;refine⟨F1,G1,U1,_,PX,rel1,hp1,λy U2 u F2 H2 hp2 s2 r2 rv2=>?_,hx.mono (λ_ z=>z) s1 gg⟩;have h2:=bD r2;have r3:=back s2 r2;rw[qq,qq]at r3;exact⟨F2,G,U2,x,y,P,PX,Rel.swap (U1:=[zx y]) (Z1:=[some u]) (U2:=[zx x]) (Z2:=[some v]) h2 rfl r3,h2,rv1,rv2,hp2,λr U' F' H' a b c=>hok r U' F' H' a (s1.trans (s2.trans b)) c,hx.grow (s1.trans s2)⟩
def fK(K:W.Frag)(r:R2)(op:D->D->Option Bool):Prop:=∀(H:Hp)(x y:V)(p q:D)(k:Bool)(Q:VK),aS K H x p->aS K H y q->op p q=some k->Q (.bl k) H->r x y H Q
theorem vP{K:W.Frag}(zN:Rel K (U++[zx x,zx y]) (Z++[some v,some u]) F G H)(hl:U.length=Z.length)(rx:RV Z v x)(ry:RV Z u y)(ep:view x U=some p)(eq:view y U=some q):
  aS K H v p/\aS K H u q/\Rel K U Z F G H:=by
 have rel':Rel K (U++[zx y]) (Z++[some u]) F G H:=zN.mid hl;exact⟨dH zN hl rx ep,dH (U':=[]) (Z':=[]) rel' hl ry eq,rel'.drop hl⟩
theorem gH(ho:∀pn xe,OpR (wp X pn xe) (compareOp op) r)(hd:fK X.K r o)(ha:FE X a wa)(hb:FE X b wb)(hm:behindInMarks op b=false):FT X (.Compare a [op] [b] pos) (aV o wa wb):=by intro pn xe hp;refine PT.imp (Te (ho pn xe) (ha pn xe hp) (hb pn xe hp) hm) λZ H Q h=>?_;refine(KH (k:=λx y U2 Q E=>zv (view x U2) λp=>zv (view y U2) λq=>zv (o p q) λc=>Q c U2) h).mono λv H1 h1=>h1.mono λu H2 h2=>?_;obtain⟨F,G,U,x,y,P,PX,zN,hl,rx,ry,hk,hok,hx⟩:=h2;obtain⟨p,ep,hk⟩:=cF hk;obtain⟨q,eq,hk⟩:=cF hk;obtain⟨t,et,hk⟩:=cF hk;obtain⟨r1,r2,rel'⟩:=vP zN hl rx ry ep eq;exact hd H2 v u p q t _ r1 r2 et ⟨t,rfl,hok t U F H2 hk (zw.refl F) rel'⟩
theorem EJ(ho:∀pn xe,OpR (wp X pn xe) (compareOp op) r)(hd:fK X.K r o)(ha:FE X a wa)(hb:FE X b wb)(hm:behindInMarks op b=false):FE X (.Compare a [op] [b] pos) (lX (aV o wa wb)):=by intro pn xe hp;refine PE.imp (Nu (ho pn xe) (ha pn xe hp) (hb pn xe hp) hm) λZ H Q h=>?_;refine(BV (k:=λx y U2 Q E=>zv (view x U2) λp=>zv (view y U2) λq=>zv (o p q) λc=>Q (.v (.sh (.bl c))) U2) h).mono λv H1 h1=>h1.mono λu H2 h2=>?_;obtain⟨F,G,U,x,y,P,PX,zN,hl,rx,ry,hk,hok,hx⟩:=h2;obtain⟨p,ep,hk⟩:=cF hk;obtain⟨q,eq,hk⟩:=cF hk;obtain⟨t,et,hk⟩:=cF hk;obtain⟨r1,r2,rel'⟩:=vP zN hl rx ry ep eq;exact hd H2 v u p q t _ r1 r2 et (hok _ U (.bl t) F H2 hk (zw.refl F) (rel'.push (.bl t)) trivial)
theorem Uj{K:W.Frag}(r:aS K H v d)(e:mW d=some k):DV K v H k:=by
 cases r with
 |non=>exact(qg e).symm
 |bl b=>exact(qg e).symm
 |int i=>have e':=(qg e).symm;rw[e'];show decide (i≠0)=(i !=0);by_cases h:i=0<;>simp[h]
 |str e1 z=>
  rename_i x l;have e':=(qg e).symm;have hl:x.length=l.length:=by rw[<-e1];rfl
  refine⟨by rw[hl,zj];exact z,?_⟩;rw[e',hl];cases l with
  |nil=>rfl
  |cons a r=>simp;lia
 |tup h r=>refine .inr (.inl ⟨_,bX.of h,?_⟩);have e':=(qg e).symm;rw[e'];cases r<;>rfl
 |lst h r=>refine .inl ⟨_,h,?_⟩;have e':=(qg e).symm;rw[e'];cases r<;>rfl
 |dK h k r=>cases e
 |dT h k r=>cases e
 |st h r=>cases e
 |exc h k=>cases e
theorem HC(ha:FE X a wa)(he:∀whole,isTrue a X.env whole=(do let v<-whole;standAt a.pos;holding [v] (truthy v)):=by intro _;rfl):FT X a (kS wa):=by intro pn xe hp;refine PT.imp (Uv (ha pn xe hp) he) λZ H Q h=>?_;obtain⟨F,G,U,P,PX,zN,hw,hok,hx⟩:=h;refine⟨F,G,U,_,PX,zN,hw,λx U1 v F1 H1 hk s1 r1 rv1=>?_,hx⟩;obtain⟨p,ep,hk⟩:=cF hk;obtain⟨t,et,hk⟩:=cF hk;have hl:=bD r1;exact⟨t,Uj (dH (U':=[]) (Z':=[]) r1 hl rv1 ep) et,hok t U1 F1 H1 hk s1 (r1.drop hl)⟩
theorem Fv{k:Bool->Env->(Bool->Env->Prop)->WX->Prop}(h:mB X (λU Q E=>ta U (λc U1=>k c U1 Q E) E) Z H Q)
  (hk:∀(c:Bool)(F G:Hp)(U:Env)(P:Bool->Env->Prop)(PX:WX)(H1:Hp),Rel X.K U Z F G H1->k c U P PX->(∀r U' F' H',P r U'->zw F F'->Rel X.K U' Z F' G H'->Q r H')->XC X (·=Z) F G PX->Q' c H1):mB X ta Z H Q':=by
 obtain⟨F,G,U,P,PX,zN,hw,hok,hx⟩:=h;exact⟨F,G,U,_,PX,zN,hw,λc U1 F1 H1 hp s1 r1=>hk c F1 G U1 P PX H1 r1 hp (λr U' F' H' a b c=>hok r U' F' H' a (s1.trans b) c) (hx.grow s1),hx⟩
theorem DZ(h:FW X a ta):FT X a ta:=λpn xe hp=>(h pn xe hp).pt
theorem En(h:FT X a ta):FW X (.BoolOp .And [a] pos) ta:=λpn xe hp=>Tw (h pn xe hp)
theorem Ef{rest:List Expr}(h:FT X a ta)(h':FW X (.BoolOp .And (b::rest) pos) tb):FW X (.BoolOp .And (a::b::rest) pos) (fW ta tb):=λpn xe hp=>by
 refine PW.imp (RD (h pn xe hp) (h' pn xe hp)) λZ H Q q=>?_;refine Fv (k:=λc U1 Q E=>if c then tb U1 Q E else Q false U1) q λc F G U P PX H1 zN hk hok hx=>?_;cases c with
 |true=>exact⟨F,G,U,P,PX,zN,hk,hok,hx⟩
 |false=>exact hok false U F H1 hk (zw.refl F) zN
theorem UX(hc:FT X c tc)(ha:FE X a wa)(hb:FE X b wb):FE X (.IfExp c a b pos) (BJ tc wa wb):=λpn xe hp=>by
 refine PE.imp (VI (hc pn xe hp) (ha pn xe hp) (hb pn xe hp)) λZ H Q q=>?_;obtain⟨F,G,U,P,PX,zN,hw,hok,hx⟩:=q;refine⟨F,G,U,_,PX,zN,hw,λc U1 F1 H1 hk s1 r1=>?_,hx⟩;cases c with
 |true=>exact⟨F1,G,U1,P,PX,r1,hk,λr U' v F' H' a b c d=>hok r U' v F' H' a (s1.trans b) c d,hx.grow s1⟩
 |false=>exact⟨F1,G,U1,P,PX,r1,hk,λr U' v F' H' a b c d=>hok r U' v F' H' a (s1.trans b) c d,hx.grow s1⟩
theorem aG:FA X [] zt:=λpn xe hp=>PA.imp Nt λZ H Q q=>by obtain⟨F,G,U,P,PX,zN,hw,hok,hx⟩:=q;exact hok [] U [] F H hw (zw.refl F) (by simpa using zN) zN.len trivial
theorem aB(ha:FE X e wa)(hb:FA X es wb)(hs:starEach (e::es) X.env=(false,eval e X.env)::starEach es X.env:=by rfl):FA X (e::es) (zr wa wb):=λpn xe hp=>by
 refine PA.imp (Nw (ha pn xe hp) (hb pn xe hp) hs) λZ H Q q=>?_;obtain⟨F,G,U,P,PX,zN,hw,hok,hx⟩:=q;refine⟨F,G,U,_,PX,zN,hw,λx U1 v F1 H1 hp1 s1 r1 rv1=>?_,hx⟩;have h1:=bD r1;obtain⟨G1,rel1,gg,back⟩:=r1.hide h1;refine⟨F1,G1,U1,_,PX,rel1,hp1,λrs U2 vs F2 H2 hp2 s2 r2 h2 rv2=>?_,hx.mono (λ_ z=>z) s1 gg⟩;have r3:=back s2 r2;rw[qq,qq]at r3;have hl:(rs.map zx).length=(vs.map some).length:=by have:=r2.len;grind
 exact hok (x::rs) U2 (v::vs) F2 H2 hp2 (s1.trans s2) (Rel.swap (U1:=rs.map zx) (Z1:=vs.map some) (U2:=[zx x]) (Z2:=[some v]) h2 hl r3) h2 ⟨rv1,rv2⟩
section
variable{K:W.Frag}
theorem xO.len:∀{vs:List V}{rs:List R},xO Z vs rs->vs.length=rs.length
 |[],[],_=>rfl
 |[],_::_,h=>h.elim
 |_::_,[],h=>h.elim
 |_::vs,_::rs,h=>by simp[xO.len h.2]
theorem JV:∀{rs:List R}{vs:List V}{U U' U1:Env}{ss:List S}{F:Hp}{Z':St},Rel K (U++(rs.map zx++U')) (Z++(vs.map some++Z')) F G H->U.length=Z.length->xO Z vs rs->aU rs U=some (ss,U1)->
  ∃F',zw F F'/\U1.length=U.length/\ss.length=rs.length/\Rel K (U1++(ss.map some++U')) (Z++(vs.map some++Z')) F' G H
 |[],[],U,U',U1,ss,F,Z',r,h,_,e=>by have e':some (([]:List S),U)=some (ss,U1):=e;cases e';exact⟨F,zw.refl F,rfl,rfl,r⟩
 |[],_::_,_,_,_,_,_,_,_,_,h,_=>h.elim
 |_::_,[],_,_,_,_,_,_,_,_,h,_=>h.elim
 |x::rs,v::vs,U,U',U1,ss,F,Z',r,h,rv,e=>by
  have e':(match give x U with|some (s,U1)=>(match aU rs U1 with|some (ss,U2)=>some (s::ss,U2)|none=>none)|none=>none)=some (ss,U1):=e;cases q:give x U with
  |none=>rw[q]at e';cases e'
  |some p=>
   obtain⟨s,U2⟩:=p;rw[q]at e';cases q2:aU rs U2 with
   |none=>simp only[q2]at e';cases e'
   |some p2=>
    obtain⟨ts,U3⟩:=p2;simp only[q2]at e';cases e';obtain⟨F1,s1,l1,r1⟩:=dN (U':=rs.map zx++U') (Z':=vs.map some++Z') r h rv.1 q;have h2:U2.length=Z.length:=l1.trans h;have hl:(rs.map zx++U').length=(vs.map some++Z').length:=by have:=r1.len;rw[qr,qr,h2,qv,qv]at this;lia
    have hl':U'.length=Z'.length:=by have:=rv.2.len;simp at hl;lia
    have r2:=Rel.swap (U1:=[some s]) (Z1:=[some v]) (U2:=rs.map zx++U') (Z2:=vs.map some++Z') h2 rfl r1;rw[qq,qq]at r2;obtain⟨F2,s2,l2,l3,r3⟩:=JV (rs:=rs) (vs:=vs) r2 h2 rv.2 q2;have h3:U1.length=Z.length:=l2.trans h2;rw[<-qq (ts.map some),<-qq (vs.map some)]at r3;have r4:=Rel.swap (U1:=ts.map some++U') (Z1:=vs.map some++Z') (U2:=[some s]) (Z2:=[some v]) h3 (by simp[l3,rv.2.len,hl']) r3;exact⟨F2,s1.trans s2,l2.trans l1,by simp[l3],r4⟩
theorem mI:∀{vs:List V}{ss:List S}{fp:List Addr},zy K F H (ss.map some) (vs.map some) fp->zz K F H vs ss fp
 |[],[],_,.nil=>.nil
 |[],_::_,_,h=>nomatch h
 |_::_,[],_,h=>nomatch h
 |v::vs,s::ss,_,.so a b=>.cons a (mI b)
theorem Rel.newL(r:Rel K (U++ss.map some) (Z++vs.map some) F G H)(h:U.length=Z.length)(hp:H p=none):
  Rel K (U++[some (.lst ss)]) (Z++[some (.ref p)]) F G (upd H p (.lst vs)):=by
 obtain⟨f0,g0,n0⟩:=r.free hp;obtain⟨fp,e,nd,ap⟩:=r.en;have hne:∀a∈fp,a≠p:=λa ha z=>n0 fp e (z▸ha);obtain⟨f1,f2,rfl,en1,en2⟩:=(e.mono (H':=upd H p (.lst vs)) (zw.refl F) λa ha=>cH (hne a ha)).cut h;refine⟨zw.updR r.fr f0,λa u q=>?_,f1++((p::f2)++[]),en1.app (.so (.lst kJ (mI en2)) .nil),?_,λa ha=>?_⟩
 .have hp:a≠p:=λz=>by rw[z,g0]at q;cases q
  rw[cH hp];exact r.gr a u q
 .grind
 grind
theorem Rel.giveD{ss:List S}(r:Rel K (U++ss.map some) (Z++vs.map some) F G H)(h:U.length=Z.length):∃F',zw F F'/\zJ K F' vs (ss.map S.toD)/\Rel K U Z F' G H:=by
 classical
 obtain⟨fp,e,nd,ap⟩:=r.en;obtain⟨f1,f2,rfl,a,b⟩:=e.cut h;obtain⟨n1,n2,n3⟩:=qz.mp nd;have sm:zw F (λx=>if x∈f2 then H x else F x):=λx o w=>by grind
 have rp:=(mI b).frz sm λx hx=>by simp only[hx,if_true]
 rw[S.toDs_map]at rp;refine⟨_,sm,rp,λx o w=>?_,λx o w=>?_,f1,a.mono sm λ_ _=>rfl,n1,λx hx=>?_⟩
 .by_cases z:x∈f2
  .simp only[z,if_true]at w;exact w
  .simp only[z,if_false]at w;exact r.fr x o w
 .have w2:=r.gr x o w;grind
 grind
end
inductive Hj(X:Cx)(Z:St)(k:List R->Env->WQ->WX->Prop)(Q:VK)(vs:List V)(H:Hp):Prop
 |mk (F G:Hp) (U:Env) (rs:List R) (P:WQ) (PX:WX) (zN:Rel X.K (U++rs.map zx) (Z++vs.map some) F G H) (hl:U.length=Z.length) (rv:xO Z vs rs) (hk:k rs U P PX) (hok:∀r U' v F' H',P r U'->zw F F'->Rel X.K (U'++[zx r]) (Z++[some v]) F' G H'->RV Z v r->Q v H') (hx:XC X (·=Z) F G PX):Hj X Z k Q vs H
theorem many(h:tW X (λU Q E=>wa U (λrs U1=>k rs U1 Q E) E) Z H Q):yW X wa Z H λvs H1=>Hj X Z k Q vs H1:=by obtain⟨F,G,U,P,PX,zN,hw,hok,hx⟩:=h;exact⟨F,G,U,_,PX,zN,hw,λrs U1 vs F1 H1 hp1 s1 r1 h1 rv1=>⟨F1,G,U1,rs,P,PX,r1,h1,rv1,hp1,λr U' v F' H' a b c d=>hok r U' v F' H' a (s1.trans b) c d,hx.grow s1⟩,hx⟩
theorem sM(h:FA X es wa):FE X (.List es pos) (eS wa):=λpn xe hp=>by
 refine PE.imp (RO (h pn xe hp)) λZ H Q q=>?_;refine(many (k:=λrs U1 Q E=>zv (if rs.length<=big then aU rs U1 else none) λp=>Q (.v (.lst p.1)) p.2) q).mono λvs H1 h1=>?_;obtain⟨F,G,U,rs,P,PX,zN,hl,rv,hk,hok,hx⟩:=h1;obtain⟨⟨ss,U1⟩,ep,hk⟩:=cF hk;by_cases hz:rs.length<=big
 .rw[za hz]at ep;obtain⟨F1,s1,l1,l2,r1⟩:=JV (U':=[]) (Z':=[]) (by simpa using zN) hl rv ep;refine⟨by rw[rv.len,zj];exact le_trans hz (by decide),λp hp=>hok _ U1 (.ref p) F1 _ hk s1 (Rel.newL (by simpa using r1) (l1.trans hl) hp) trivial⟩
 .rw[zc hz]at ep;cases ep
theorem oA(h:FA X es wa):FE X (.Tuple es k pos) (dS wa):=λpn xe hp=>by
 refine PE.imp (Sr (h pn xe hp)) λZ H Q q=>?_;refine(many (k:=λrs U1 Q E=>zv (if rs.length<=big then aU rs U1 else none) λp=>Q (.v (.sh (.tup (p.1.map S.toD)))) p.2) q).mono λvs H1 h1=>?_;obtain⟨F,G,U,rs,P,PX,zN,hl,rv,hk,hok,hx⟩:=h1;obtain⟨⟨ss,U1⟩,ep,hk⟩:=cF hk;by_cases hz:rs.length<=big
 .rw[za hz]at ep;obtain⟨F1,s1,l1,l2,r1⟩:=JV (U':=[]) (Z':=[]) (by simpa using zN) hl rv ep;obtain⟨F2,s2,rp,r2⟩:=Rel.giveD (U:=U1) (by simpa using r1) (l1.trans hl);refine⟨by rw[rv.len,zj];exact le_trans hz (by decide),λp hp=>?_⟩;have n2:=(r2.free hp).1;exact hok _ U1 (.ref p) _ _ hk (s1.trans (s2.trans (zw.upd n2))) ((r2.newF hp).push (.tup kJ (rp.mono (zw.upd n2)))) trivial
 .rw[zc hz]at ep;cases ep
theorem KP.refl:KP ks Z Z:=λ_ _=>rfl
theorem KP.trans(a:KP ks Z Z1)(b:KP ks Z1 Z2):KP ks Z Z2:=λi h=>(b i h).trans (a i h)
inductive IE(X:Cx)(ks:List Nat)(w:WS)(D:L2.Ends)(Z:St)(H:Hp):Prop
 |mk (F G:Hp) (U:Env) (E:Ends) (zN:Rel X.K U Z F G H) (hw:w E U) (n:∀U' Z' F' H',E.nx U'->KP ks Z Z'->zw F F'->Rel X.K U' Z' F' G H'->D.nx Z' H') (b:∀U' Z' F' H',E.bk U'->KP ks Z Z'->zw F F'->Rel X.K U' Z' F' G H'->D.bk Z' H') (c:∀U' Z' F' H',E.ct U'->KP ks Z Z'->zw F F'->Rel X.K U' Z' F' G H'->D.ct Z' H') (r:∀r U' Z' v F' H',E.rt r U'->KP ks Z Z'->zw F F'->Rel X.K (U'++[zx r]) (Z'++[some v]) F' G H'->RV Z' v r->D.rt v H') (hx:XC X (KP ks Z) F G E.ex):IE X ks w D Z H
def FS(X:Cx)(ks:List Nat)(st:Stmt)(w:WS):Prop:=∀(pn:List (Addr×Obj))(xe:zo),PassesOwn (model X.prog X.w) X.A X.env xe->PS (wp X pn xe) st (IE (wp X pn xe) ks w)
def xR(X:Cx)(ks:List Nat)(st:List Stmt)(w:WS):Prop:=∀(pn:List (Addr×Obj))(xe:zo),PassesOwn (model X.prog X.w) X.A X.env xe->nY (wp X pn xe) st (IE (wp X pn xe) ks w)
theorem PS.imp(h:PS X e t)(k:∀D Z H,t' D Z H->t D Z H):PS X e t':=λzL s Z H D I q=>h zL s Z H D I (k D Z H q)
theorem nY.imp(h:nY X e t)(k:∀D Z H,t' D Z H->t D Z H):nY X e t':=λzL s Z H D I q=>h zL s Z H D I (k D Z H q)
inductive Ex(X:Cx)(ks:List Nat)(g:WG)(v:V)(Z:St)(H:Hp)(Q:St->Hp->Prop):Prop
 |mk (F G:Hp) (U:Env) (s:S) (P:Env->Prop) (zN:Rel X.K (U++[some s]) (Z++[some v]) F G H) (hw:g s U P) (n:∀U' Z' F' H',P U'->KP ks Z Z'->zw F F'->Rel X.K U' Z' F' G H'->Q Z' H'):Ex X ks g v Z H Q
def FG(X:Cx)(ks:List Nat)(tg:Expr)(g:WG):Prop:=∀(pn:List (Addr×Obj))(xe:zo),PassesOwn (model X.prog X.w) X.A X.env xe->PG (wp X pn xe) tg (Ex (wp X pn xe) ks g)
theorem PG.imp(h:PG X e t)(k:∀v Z H Q,t' v Z H Q->t v Z H Q):PG X e t':=λzL s Z H v u Q I r q=>h zL s Z H v u Q I r (k v Z H Q q)
section
variable{st:Stmt}{rest:List Stmt}
theorem lQ:xR X ks [] bF:=λpn xe hp=>nY.imp TX λD Z H q=>by obtain⟨F,G,U,E,zN,hw,n,b,c,r,x⟩:=q;exact n U Z F H hw KP.refl (zw.refl F) zN
theorem cC(h1:FS X ks st w1)(h2:xR X ks rest w2):xR X ks (st::rest) (zD w1 w2):=λpn xe hp=>nY.imp (UE (h1 pn xe hp) (h2 pn xe hp)) λD Z H q=>by
 obtain⟨F,G,U,E,zN,hw,n,b,c,r,x⟩:=q;refine⟨F,G,U,{E with nx:=w2 E},zN,hw,λU1 Z1 F1 H1 hp k s1 r1=>?_,b,c,r,x⟩;exact⟨F1,G,U1,E,r1,hp,λU' Z' F' H' h k' s r=>n U' Z' F' H' h (k.trans k') (s1.trans s) r,λU' Z' F' H' h k' s r=>b U' Z' F' H' h (k.trans k') (s1.trans s) r,
  λU' Z' F' H' h k' s r=>c U' Z' F' H' h (k.trans k') (s1.trans s) r,λa U' Z' v F' H' h k' s q rv=>r a U' Z' v F' H' h (k.trans k') (s1.trans s) q rv,x.mono (λZ2 k'=>k.trans k') s1 (zw.refl G)⟩
theorem cI(h1:FS X ks st w1):xR X ks [st] w1:=λpn xe hp=>SW (h1 pn xe hp)
theorem Bu(h:FE X e we)(hs:swapsWith e none pos.line X.env=pure false:=by rfl):FS X ks (.Expr e pos) (wExpr we):=λpn xe hp=>PS.imp (Ue (h pn xe hp) hs) λD Z H q=>by obtain⟨F,G,U,E,zN,hw,n,b,c,r,x⟩:=q;exact⟨F,G,U,_,_,zN,hw,λa U1 v F1 H1 hp s1 r1 rv=>n U1 Z F1 H1 hp KP.refl s1 (r1.drop (bD r1)),x.mono (λZ2 z=>by rw[z];exact KP.refl) (zw.refl F) (zw.refl G)⟩
theorem gS(h:FE X e we):FS X ks (.Return (some e) pos) (bT we):=λpn xe hp=>PS.imp (RT (h pn xe hp)) λD Z H q=>by obtain⟨F,G,U,E,zN,hw,n,b,c,r,x⟩:=q;exact⟨F,G,U,_,_,zN,hw,λa U1 v F1 H1 hp s1 r1 rv=>r a U1 Z v F1 H1 hp KP.refl s1 r1 rv,x.mono (λZ2 z=>by rw[z];exact KP.refl) (zw.refl F) (zw.refl G)⟩
theorem kQ(hc:FT X c tc)(ha:xR X ks a w1)(hb:xR X ks b w2):FS X ks (.If c a b pos) (gW tc w1 w2):=λpn xe hp=>PS.imp (Ri (hc pn xe hp) (ha pn xe hp) (hb pn xe hp)) λD Z H q=>by
 obtain⟨F,G,U,E,zN,hw,n,b,c,r,x⟩:=q;refine⟨F,G,U,_,_,zN,hw,λk U1 F1 H1 hp s1 r1=>?_,x.mono (λZ2 z=>by rw[z];exact KP.refl) (zw.refl F) (zw.refl G)⟩;have go:∀w:WS,w E U1->IE (wp X pn xe) ks w D Z H1:=λw hw=>⟨F1,G,U1,E,r1,hw,λU' Z' F' H' h k' s r=>n U' Z' F' H' h k' (s1.trans s) r,λU' Z' F' H' h k' s r=>b U' Z' F' H' h k' (s1.trans s) r,
  λU' Z' F' H' h k' s r=>c U' Z' F' H' h k' (s1.trans s) r,λa U' Z' v F' H' h k' s q rv=>r a U' Z' v F' H' h k' (s1.trans s) q rv,x.grow s1⟩
 cases k with
 |true=>exact go _ hp
 |false=>exact go _ hp
theorem dW(he:FE X e we)(hg:FG X ks tg g)(hs:swapsWithSole [tg] e pos.line X.env=pure false:=by rfl)(hw:swappedStores [tg] e X.env=pure none:=by rfl)
  (h1:(assignEach [tg] X.env).map (·.2)=[assign tg X.env]:=by rfl):FS X ks (.Assign [tg] e pos) (zF g we):=λpn xe hp=>PS.imp (Np (he pn xe hp) (hg pn xe hp) hs hw h1) λD Z H q=>by
 obtain⟨F,G,U,E,zN,hw,n,b,c,r,x⟩:=q;refine⟨F,G,U,_,_,zN,hw,λa U1 v F1 H1 hp s1 r1 rv=>?_,x.mono (λZ2 z=>by rw[z];exact KP.refl) (zw.refl F) (zw.refl G)⟩;obtain⟨⟨s,U2⟩,eg,hk⟩:=cF hp;obtain⟨F2,s2,l2,r2⟩:=dN (U':=[]) (Z':=[]) r1 (bD r1) rv eg;exact⟨F2,G,U2,s,_,r2,hk,λU' Z' F' H' h k' s r=>n U' Z' F' H' h k' (s1.trans (s2.trans s)) r⟩
end
theorem Pq(I:Inv X zL Z H s)(hN:∀j,X.N[j]?=some x->j=i)(hi:X.N[i]?=some x)(hx:Loc X.env.scope x)(r:zA v u)
  (h:∀s',Inv X zL (Z.set i (some v)) H s'->(∃a,Heap.SameBut a s.heap s'.heap/\(a=X.env.locals\/X.env.cells.lookup x=some a))->Q () s')(hf:X.fn x=true\/X.env.scope.names.lookup x=some .local):wpAny M A (storeName X.env x u) Q E s:=by
 obtain⟨m,hn,hl⟩:=id I.loc;have hcls:(X.env.scope.kind==.class||(X.env.scope.kind==.module&&X.env.locals !=X.env.globals))=false:=by rw[I.ok.kind];rfl
 have hiZ:i<Z.length:=by rw[I.len];exact(qh.mp hi).1
 have cne:=I.cne;have tracked:∀{a:Addr}{h':Heap},(∃o,s.heap.get? a=some o/\H a=none)->Heap.SameBut a s.heap h'->gR X.prog X.w H h':=λ{a h'} ha hs b ob e=>by
  obtain⟨_,_,hfree⟩:=ha;refine(I.hok b ob e).stay (λc w' hc q=>(hs.2 c ?_).trans q) (λ_ q=>q) λ_ _ q=>q;rintro rfl;rcases hc with rfl|hc
  .rw[hfree]at e;cases e
  .rw[hfree]at hc;cases hc
 rcases hx with hk|hk
 .refine wpAny_storeName_local hk hn (λh' hn' hs=>?_) hcls;obtain⟨oL,_,_,hoL,_⟩:=id hn;refine h _ ⟨I.ok,I.os,I.bare,⟨λb o e n hb hx=>?_,λb o e n hb hx=>?_,I.base.free,λb o e hx=>?_,I.base.tups,I.base.frzs,I.base.tbls⟩,⟨_,hn',λj y v' e1 e2 e3=>?_⟩,λy c e=>?_,I.free,I.freeC,λp hp=>?_,tracked ⟨oL,hoL,I.free⟩ hs,by simpa using I.len⟩ ⟨_,hs,.inl rfl⟩
  .exact(hs.2 b (ne_of_lt (lt_of_lt_of_le (qe e) I.ok.above))).trans (I.base.keep b o e n hb hx)
  .obtain⟨sl,e1⟩:=I.base.slot b o e n hb hx;exact⟨sl,(hs.2 b (ne_of_lt (lt_of_lt_of_le (qe e) I.ok.above))).trans e1⟩
  .obtain⟨o',e1⟩:=I.base.there b o e hx;exact⟨o',(hs.2 b (ne_of_lt (lt_of_lt_of_le (qe e) I.ok.above))).trans e1⟩
  .by_cases hj:j=i
   .subst hj;rw[hi]at e1;cases e1;rw[getElem?_set_self hiZ]at e2;cases e2;exact⟨u,r,.inl ⟨hk,by simp⟩⟩
   .rw[getElem?_set_ne (Ne.symm hj)]at e2;obtain⟨u',r',q⟩:=hl j y v' e1 e2 e3;refine⟨u',r',?_⟩;rcases q with⟨k,e⟩|⟨k,c,e,z⟩
    .refine .inl ⟨k,?_⟩;have:y≠x:=λe=>hj (hN j (e▸e1));simp[this,e]
    .exact .inr ⟨k,c,e,z.sameBut hs (cne y c e)⟩
  .obtain⟨w',z⟩:=I.cell y c e;exact⟨w',z.sameBut hs (cne y c e)⟩
  .obtain⟨e,n,ne,nf,d⟩:=I.pin p hp;exact⟨(hs.2 p.1 ne).trans e,n,ne,nf,d⟩
 .have hfn:X.fn x=true:=by
   rcases hf with z|z
   .exact z
   .rw[z]at hk;cases hk
  obtain⟨c,hc⟩:=I.ok.has x (.inl hk);obtain⟨w',z⟩:=I.cell x c hc;refine wpAny_storeName_cell I.ok.kind hk hc z (λh' hc' hs=>?_);obtain⟨oc,hoc,hocd⟩:=id z;refine h {s with heap:=h'} ⟨I.ok,I.os,I.bare,⟨λb o e n hb hx=>?_,λb o e n hb hx=>?_,I.base.free,λb o e hx=>?_,I.base.tups,I.base.frzs,I.base.tbls⟩,⟨m,hn.sameBut hs (Ne.symm (cne x c hc)),λj y v' e1 e2 e3=>?_⟩,λy c' e=>?_,I.free,I.freeC,λp hp=>?_,tracked ⟨oc,hoc,I.freeC x c hc⟩ hs,by simpa using I.len⟩ ⟨c,hs,.inr hc⟩
  .exact(hs.2 b (ne_of_lt (lt_of_lt_of_le (qe e) (I.ok.cab x c hfn hc)))).trans (I.base.keep b o e n hb hx)
  .obtain⟨sl,e1⟩:=I.base.slot b o e n hb hx;exact⟨sl,(hs.2 b (ne_of_lt (lt_of_lt_of_le (qe e) (I.ok.cab x c hfn hc)))).trans e1⟩
  .obtain⟨o',e1⟩:=I.base.there b o e hx;exact⟨o',(hs.2 b (ne_of_lt (lt_of_lt_of_le (qe e) (I.ok.cab x c hfn hc)))).trans e1⟩
  .by_cases hj:j=i
   .subst hj;rw[hi]at e1;cases e1;rw[getElem?_set_self hiZ]at e2;cases e2;exact⟨u,r,.inr ⟨.inl hk,c,hc,hc'⟩⟩
   .rw[getElem?_set_ne (Ne.symm hj)]at e2;obtain⟨u',r',q⟩:=hl j y v' e1 e2 e3;refine⟨u',r',?_⟩;rcases q with q|⟨k,c',e,z'⟩
    .exact .inl q
    .refine .inr ⟨k,c',e,z'.sameBut hs ?_⟩;rintro rfl;exact hj (hN j (I.ok.inj _ _ _ e hc▸e1))
  .by_cases hcc:c'=c
   .subst hcc;exact⟨_,hc'⟩
   .obtain⟨w2,z2⟩:=I.cell y c' e;exact⟨w2,z2.sameBut hs hcc⟩
  .obtain⟨e,n,ne,nf,d⟩:=I.pin p hp;refine⟨(hs.2 p.1 ?_).trans e,n,ne,nf,d⟩;intro q;rw[q,hoc]at e;have q':oc=p.2:=qg e;exact d w' (by rw[<-q'];exact hocd)
theorem KP.set(h:i∉ks):KP ks Z (Z.set i u):=λj hj=>getElem?_set_ne (λ(z:i=j)=>h (z▸hj))
theorem Oj(hk:i∉ks)(hN:∀j,X.N[j]?=some x->j=i)(hi:X.N[i]?=some x)(hx:Loc X.env.scope x)(hf:X.fn x=true\/X.env.scope.names.lookup x=some .local):FG X ks (.Name x pos) (zu i):=by
 intro pn xe hp zL s Z H v u Q I rv q;obtain⟨F,G,U,t,P,zN,hw,n⟩:=q;have hl:=bD zN;have hiU:i<U.length:=by rw[hl,I.len];exact(qh.mp hi).1
 exact wpAny_assign_Name (Pq (X:=wp X pn xe) I hN hi hx rv (λs' I' _=>⟨_,H,I',n _ _ F H hw (KP.set hk) (zw.refl F) (zN.store hl hiU)⟩) hf)
inductive Fw(X:Cx)(ks:List Nat)(gs:List WG)(vs:List V)(Z:St)(H:Hp)(Q:St->Hp->Prop):Prop
 |mk (F G:Hp) (U:Env) (ds:List D) (P:Env->Prop) (zN:Rel X.K U Z F G H) (rp:zJ X.K F vs ds) (hw:gA gs ds U P) (n:∀U' Z' F' H',P U'->KP ks Z Z'->zw F F'->Rel X.K U' Z' F' G H'->Q Z' H'):Fw X ks gs vs Z H Q
def IY(X:Cx)(ks:List Nat)(tg:List Expr)(g:List WG):Prop:=∀(pn:List (Addr×Obj))(xe:zo),PassesOwn (model X.prog X.w) X.A X.env xe->Hh (wp X pn xe) tg (Fw (wp X pn xe) ks g)
theorem xX:IY X ks [] []:=λpn xe hp zL s Z H vs us Q I r q=>by
 obtain⟨F,G,U,ds,P,zN,rp,hw,n⟩:=q;refine Va zL s Z H vs us Q I r ?_;cases rp with
 |nil=>exact⟨rfl,n U Z F H hw KP.refl (zw.refl F) zN⟩
 |cons a b=>exact hw.elim
theorem kP(h1:FG X ks e g)(h2:IY X ks es gs)
  (hs:(assignEach (e::es) X.env).map (·.2)=assign e X.env::(assignEach es X.env).map (·.2):=by rfl):IY X ks (e::es) (g::gs):=λpn xe hp zL s Z H vs us Q I r q=>by
 obtain⟨F,G,U,ds,P,zN,rp,hw,n⟩:=q;refine Wc (X:=wp X pn xe) (h1 pn xe hp) (h2 pn xe hp) hs zL s Z H vs us Q I r ?_;cases rp with
 |nil=>exact hw.elim
 |cons a b=>refine⟨_,_,rfl,F,G,U,_,_,zN.push a,hw,λU1 Z1 F1 H1 hp k s1 r1=>⟨F1,G,U1,_,P,r1,b.mono s1,hp,λU' Z' F' H' h k' s r=>n U' Z' F' H' h (k.trans k') (s1.trans s) r⟩⟩
theorem zJ.len{K:W.Frag}(r:zJ K F xs ds):xs.length=ds.length:=zJ.ind (P:=λxs ds=>xs.length=ds.length) rfl (λ_ _ ih=>congrArg (·+1) ih) r
theorem xS(hc:X.calm=true)(h:IY X ks es gs)(hn:(assignEach es X.env).length=gs.length:=by rfl)(hst:(assignEach es X.env).findIdx? (·.1)=none:=by rfl):FG X ks (.Tuple es k pos) (dI gs):=λpn xe hp=>by
 refine PG.imp (RJ (X:=wp X pn xe) hc (h pn xe hp) hn hst) λv Z H Q q=>?_;obtain⟨F,G,U,s,P,zN,hw,n⟩:=q;obtain⟨F1,s1,rp,r1⟩:=Rel.giveD (U:=U) (vs:=[v]) (ss:=[s]) zN (bD zN);cases rp with
 |cons a b=>
  have hw':(match s.toD with|.tup ds=>ds.length=gs.length/\gA gs ds U P|_=>False):=hw;generalize s.toD=d at a hw';cases a with
  |tup e r=>exact⟨_,_,rfl,bX.of (r1.fr _ _ e),by rw[r.len];exact hw'.1,F1,G,U,_,P,r1,r,hw'.2,λU' Z' F' H' h k' s r=>n U' Z' F' H' h k' (s1.trans s) r⟩
  |_=>exact hw'.elim
def kO(K:W.Frag)(J:It)(l:List D)(F0:Hp):Prop:=∀(i:Nat)(U:Env)(Z:St)(F G H:Hp),zw F0 F->Rel K U Z F G H->
 (∀d,l[i]?=some d->J.go i H/\∀x H',J.yld i H x H'->∃F',zw F F'/\Rel K U Z F' G H'/\aS K F' x d)/\(l.length<=i->J.stop i H)
inductive Qy(X:Cx)(wi:WI)(Z:St)(H:Hp)(R:It->Hp->Prop):Prop
 |mk (F G:Hp) (U:Env) (P:List D->Env->Prop) (PX:WX) (zN:Rel X.K U Z F G H) (hw:wi U P PX) (hok:∀l U' F' H' J,P l U'->zw F F'->Rel X.K U' Z F' G H'->kO X.K J l F'->R J H') (hx:XC X (·=Z) F G PX):Qy X wi Z H R
def FI(X:Cx)(tg iter:Expr)(wi:WI):Prop:=∀(pn:List (Addr×Obj))(xe:zo),PassesOwn (model X.prog X.w) X.A X.env xe->PI (wp X pn xe) tg iter (Qy (wp X pn xe) wi)
theorem PI.imp(h:PI X tg e t)(k:∀Z H R,t' Z H R->t Z H R):PI X tg e t':=λzL s Z H R I q=>h zL s Z H R I (k Z H R q)
theorem zJ.get{K:W.Frag}{i:Nat}(r:zJ K F xs ds)(h:ds[i]?=some d):∃x,xs[i]?=some x/\aS K F x d:=
 zJ.ind (P:=λxs ds=>∀i d,ds[i]?=some d->∃x,xs[i]?=some x/\aS K F x d) (λ_ _ e=>by cases e) (λa _ ih i d e=>by
  cases i with
  |zero=>cases e;exact⟨_,rfl,a⟩
  |succ i=>exact ih i d e) r i d h
section
variable{K:W.Frag}
theorem Pg(e:cA K F0 a xs)(r:zJ K F0 xs l):kO K (Ho K a) l F0:=λi U Z F G H sm zN=>by have e':cA K H a xs:=cA.mono (sm.trans zN.fr) e;refine⟨λd hd=>?_,λh=>⟨xs,e',by rw[r.len];exact h⟩⟩;obtain⟨x,hx,rx⟩:=r.get hd;refine⟨⟨xs,x,e',hx⟩,λy H' hy=>?_⟩;obtain⟨rfl,hy⟩:=hy;have:x=y:=qg (hx.symm.trans (hy xs e'));subst this;exact⟨F,zw.refl F,zN,rx.mono sm⟩
theorem VD(e:bX K F0 a xs)(r:zJ K F0 xs l):kO K (MK K a) l F0:=λi U Z F G H sm zN=>by have e':bX K H a xs:=bX.mono (sm.trans zN.fr) e;refine⟨λd hd=>?_,λh=>⟨xs,e',by rw[r.len];exact h⟩⟩;obtain⟨x,hx,rx⟩:=r.get hd;refine⟨⟨xs,x,e',hx⟩,λy H' hy=>?_⟩;obtain⟨rfl,hy⟩:=hy;have:x=y:=qg (hx.symm.trans (hy xs e'));subst this;exact⟨F,zw.refl F,zN,rx.mono sm⟩
theorem Xe{lo:Int}(h:(fromTo lo n)[i]?=some d):i<n/\d=.int (lo+i):=by
 unfold fromTo at h;rw[qI]at h;by_cases hi:i<n
 .rw[getElem?_range hi]at h;exact⟨hi,(qg h).symm⟩
 .rw[qT (by simpa using hi)]at h;cases h
theorem PJ{lo:Int}:kO K (Hn lo n) (fromTo lo n) F0:=λi U Z F G H sm zN=>by
 refine⟨λd hd=>?_,λh=>?_⟩
 .obtain⟨hi,rfl⟩:=Xe hd;refine⟨hi,λx H' hy=>?_⟩;obtain⟨rfl,rfl⟩:=hy;exact⟨F,zw.refl F,zN,.int _⟩
 .have:n<=i:=by simpa[fromTo] using h
  exact this
end
def Ez(x:Str):It:=⟨λi _=>i<x.cps.size,λi H v H'=>H'=H/\∃c,x.cps[i]?=some c/\v=.str ⟨#[c]⟩,λi _=>x.cps.size<=i⟩
theorem Vf{P:Program}{w:World}{K:W.Frag}{tg:Expr}(it:Addr)(x:Str)(t:Tok)(ty:String)(hty:ty="str_ascii_iterator"\/ty="str_iterator"):nR P w K tg (Ez x) [it] it (λi h=>h.IsStrIter it ty x t i) where
 mem:=m1
 obj:=λi h st b hb=>by
  have e:b=it:=by simpa using hb
  subst e;obtain⟨o,e,c,d⟩:=st;exact⟨o,e,λv z=>by rw[d]at z;cases z⟩
 keep:=λi h h' st k=>by obtain⟨o,e,r⟩:=st;exact⟨o,k it (m1) o e,r⟩
 item:=by
  intro X hP hw hK hc i zL s Z H E I hf st hg;subst hP hw hK;obtain⟨f0,f1,f2,f3,f4,f5⟩:=hf it (m1);have W:Walks X.prog X.w X.A it [it] [it] x.cps.size (SignAt x) (λi h=>h.IsStrIter it ty x t i):=by
   rcases hty with rfl|rfl
   .exact Walks.strAscii (I.ok.hd hc) it x t
   .exact Walks.strWide (I.ok.hd hc) it x t
  refine W.item i s _ _ hg st λv h' tk hv st' kk=>?_;obtain⟨c,u,e1,rfl⟩:=hv;have I1:Inv X zL Z H {s with heap:=h',toks:=tk}:=I.turned (λb o hb e=>kk b o (by simpa using hb) e) f0 f1 f3 f4 f5;obtain⟨o,e,cl,d⟩:=id st';exact⟨_,rfl,Hx (s:={s with heap:=h',toks:=tk}) e cl d (by rcases hty with rfl|rfl<;>decide) ⟨.str ⟨#[c]⟩,H,I1,⟨u,rfl⟩,⟨rfl,c,e1,rfl⟩,st',λb hb=>(hf b hb).1⟩⟩
 done:=by
  intro X hP hw hK hc i zL s Z H E I hf st hg;subst hP hw hK;obtain⟨f0,f1,f2,f3,f4,f5⟩:=hf it (m1);have hn:x.cps[i]?=none:=by have:x.cps.size<=i:=hg;simp[this]
  rcases hty with rfl|rfl
  .exact wpAny_pyNext_ascii_end (I.ok.hd hc) st hn λh' eb=>⟨rfl,I.turned (t':=s.toks) (λb o hb e=>eb b o hb e) f0 f1 f3 f4 f5⟩
  .exact wpAny_pyNext_wide_end (I.ok.hd hc) st hn λh' eb=>⟨rfl,I.turned (t':=s.toks) (λb o hb e=>eb b o hb e) f0 f1 f3 f4 f5⟩
 self:=λA i s Q E st h=>by
  rcases hty with rfl|rfl
  .exact wpAny_pyIter_striter_ascii st h
  .exact wpAny_pyIter_striter_wide st h
def Mr(K:W.Frag)(tl:TE):TI:=λZ H R=>tl Z H λv H1=>(∃a,v=.ref a/\(∃xs,cA K H1 a xs)/\R (Ho K a) H1)\/(∃a,v=.ref a/\(∃xs,bX K H1 a xs)/\R (MK K a) H1)\/∃x,v=.str x/\R (Ez x) H1
theorem Ss(hl:PE X l tl):PI X tg l (Mr X.K tl):=by
 intro zL s Z H R I h;refine cB (hl zL s Z H _ I h) λv s1 zq=>?_;obtain⟨y,H1,I1,r1,q1⟩:=zq;rcases q1 with⟨a,e,⟨xs,hq⟩,q⟩|⟨a,e,⟨xs,hq⟩,q⟩|⟨x,e,q⟩
 .subst e;cases r1;obtain⟨zP,rv,p,hz⟩:=I1.list hq;refine wpAny_pyIter_list p.isList ?_;refine⟨s1.heap.objs.size,[s1.heap.objs.size],_,_,H1,rfl,I1.kept (t':=s1.toks) λb o e=>qc _ e,Xy a _,⟨_,qd _ rfl,rfl,rfl⟩,λb hb=>?_,q⟩;have e:b=s1.heap.objs.size:=by simpa using hb
  subst e;exact I1.fpOk (zd _) (I1.hok.fresh (zd _))
 .subst e;cases r1;obtain⟨zP,rv,p,hz⟩:=I1.tuple hq;refine wpAny_pyIter_tuple (show s1.heap.IsTuple a zP.toArray from p) ?_;refine⟨s1.heap.objs.size,[s1.heap.objs.size],_,_,H1,rfl,I1.kept (t':=s1.toks) λb o e=>qc _ e,XR a _,⟨_,qd _ rfl,rfl,rfl⟩,λb hb=>?_,q⟩;have e:b=s1.heap.objs.size:=by simpa using hb
  subst e;exact I1.fpOk (zd _) (I1.hok.fresh (zd _))
 .subst e;obtain⟨t,rfl⟩:=r1;have fin:∀(ty:String)(o:Obj),(ty="str_ascii_iterator"\/ty="str_iterator")->o.cls=.type ty->o.data=.fields #[.str x t,.int 0 0]->o.isFreed=false->Hg X zL Z tg R (.ref s1.heap.objs.size) {s1 with heap:=s1.heap.push o}:=λty o hty hc hd hf=>by
   refine⟨s1.heap.objs.size,[s1.heap.objs.size],_,_,H1,rfl,I1.kept (t':=s1.toks) λb o e=>qc _ e,Vf _ x t ty hty,⟨_,qd _ hf,hc,hd⟩,λb hb=>?_,q⟩;have e:b=s1.heap.objs.size:=by simpa using hb
   subst e;exact I1.fpOk (zd _) (I1.hok.fresh (zd _))
  cases ha:x.cps.all (·<128)
  .exact wpAny_pyIter_wide ha (fin "str_iterator" _ (.inr rfl) rfl rfl rfl)
  .exact wpAny_pyIter_ascii ha (fin "str_ascii_iterator" _ (.inl rfl) rfl rfl rfl)
section
variable{K:W.Frag}
theorem OI(e:x.cps.toList=l):kO K (Ez x) (l.map λc=>.str [c]) F0:=λi U Z F G H sm zN=>by
 have hs:x.cps.size=l.length:=by rw[<-e];simp
 refine⟨λd hd=>?_,λh=>by show x.cps.size<=i;rw[hs];simpa using h⟩;rw[qI]at hd;cases q:l[i]? with
 |none=>rw[q]at hd;cases hd
 |some c=>
  rw[q]at hd;have hd':D.str [c]=d:=qg hd;have hi:i<l.length:=(qh.mp q).1;have hx:x.cps[i]?=some c:=by rw[<-q9,e];exact q
  refine⟨by show i<x.cps.size;rw[hs];exact hi,λy H' hy=>?_⟩;obtain⟨rfl,c',e1,rfl⟩:=hy;rw[hx]at e1;have:c=c':=qg e1;subst this;rw[<-hd'];exact⟨F,zw.refl F,zN,.str rfl (by show 1<=_;decide)⟩
theorem tP(h:FE X e we):FI X tg e (dJ we):=λpn xe hp=>by
 refine PI.imp (Ss (h pn xe hp)) λZ H R q=>?_;obtain⟨F,G,U,P,PX,zN,hw,hok,hx⟩:=q;refine⟨F,G,U,_,PX,zN,hw,λr U1 v F1 H1 hk s1 r1 rv=>?_,hx⟩;obtain⟨⟨s,U2⟩,eg,hk⟩:=cF hk;obtain⟨l,el,hk⟩:=cF hk;obtain⟨F2,s2,l2,r2⟩:=dN (U':=[]) (Z':=[]) r1 (bD r1) rv eg;obtain⟨F3,s3,rp,r3⟩:=Rel.giveD (U:=U2) (vs:=[v]) (ss:=[s]) r2 (bD r2);have sm:=s1.trans (s2.trans s3);cases rp with
 |cons a b=>
  have el':items s.toD=some l:=el;generalize s.toD=d at a el';cases a with
  |lst e r=>have:l=_:=(qg el').symm;subst this;exact .inl ⟨_,rfl,⟨_,cA.mono r3.fr e⟩,hok _ U2 F3 H1 _ hk sm r3 (Pg e r)⟩
  |tup e r=>have:l=_:=(qg el').symm;subst this;exact .inr (.inl ⟨_,rfl,⟨_,bX.of (r3.fr _ _ e)⟩,hok _ U2 F3 H1 _ hk sm r3 (VD (bX.of e) r)⟩)
  |str e z=>have:l=_:=(qg el').symm;subst this;exact .inr (.inr ⟨_,rfl,hok _ U2 F3 H1 _ hk sm r3 (OI e)⟩)
  |_=>cases el'
theorem tV(hg:Gl X "range")(hm:X.mg "range"=none)(ha:FE X a we)(hs:starEach [a] X.env=[(false,eval a X.env)]:=by rfl):FI X tg (.Call (.Name "range" p) [a] [] pos) (aZ we):=λpn xe hp=>by
 refine PI.imp (Wh (X:=wp X pn xe) hg hm (aB ha aG hs pn xe hp) hs) λZ H R q=>?_;obtain⟨F,G,U,P,PX,zN,hw,hok,hx⟩:=q;refine⟨F,G,U,λrs U1=>match rs with|[r]=>(match view r U1 with|some (.int j)=>(-big<=j/\j<=big)/\P (fromTo 0 j.toNat) U1|_=>False)|_=>False,PX,zN,hw,λrs U1 vs F1 H1 hk s1 r1 hl rv=>?_,hx⟩;match rs,vs,rv,r1,hk with
 |[r],[v],rv,r1,hk=>
  dsimp only at hk;split at hk
  .rename_i j ej;have rp:=dH (U':=[]) (Z':=[]) r1 hl rv.1 ej;cases rp;obtain⟨⟨h1,h2⟩,hk⟩:=hk;have eb:(big:Int)=1000000:=rfl;rw[eb]at h1 h2;exact⟨j,rfl,by lia,by lia,hok _ U1 F1 H1 _ hk s1 ((show Rel X.K (U1++[zx r]) (Z++[some (.int j)]) F1 G H1 from r1).drop hl) PJ⟩
  .exact hk.elim
 |[],_,_,_,hk=>exact hk.elim
 |[_],[],rv,_,_=>exact rv.elim
 |[_],_::_::_,rv,_,_=>exact rv.2.elim
 |_::_::_,_,_,_,hk=>exact hk.elim
theorem Kb(hg:Gl X "range")(hm:X.mg "range"=none)(ha:FE X a we)(hb:FE X b wb)(hs:starEach [a,b] X.env=[(false,eval a X.env),(false,eval b X.env)]:=by rfl)(hs2:starEach [b] X.env=[(false,eval b X.env)]:=by rfl):
  FI X tg (.Call (.Name "range" p) [a,b] [] pos) (gK we wb):=λpn xe hp=>by
 refine PI.imp (Wz (X:=wp X pn xe) hg hm (aB ha (aB hb aG hs2) (by rw[hs,hs2]) pn xe hp) hs hs2) λZ H R q=>?_;obtain⟨F,G,U,P,PX,zN,hw,hok,hx⟩:=q;refine⟨F,G,U,λrs U1=>match rs with|[r,t]=>(match view r U1,view t U1 with|some (.int i),some (.int j)=>(-big<=i/\i<=big/\-big<=j/\j<=big)/\P (fromTo i (j-i).toNat) U1|_,_=>False)|_=>False,PX,zN,hw,λrs U1 vs F1 H1 hk s1 r1 hl rv=>?_,hx⟩;match rs,vs,rv,r1,hk with
 |[r,t],[v,u],rv,r1,hk=>
  dsimp only at hk;split at hk
  .rename_i i j ei ej;obtain⟨rp,rq,r2⟩:=vP r1 hl rv.1 rv.2.1 ei ej;cases rp;cases rq;obtain⟨⟨h1,h2,h3,h4⟩,hk⟩:=hk;have eb:(big:Int)=1000000:=rfl;rw[eb]at h1 h2 h3 h4;exact⟨i,j,rfl,⟨by lia,by lia,by lia,by lia⟩,hok _ U1 F1 H1 _ hk s1 r2 PJ⟩
  .exact hk.elim
 |[],_,_,_,hk=>exact hk.elim
 |[_],_,_,_,hk=>exact hk.elim
 |[_,_],[],rv,_,_=>exact rv.elim
 |[_,_],[_],rv,_,_=>exact rv.2.elim
 |[_,_],_::_::_::_,rv,_,_=>exact rv.2.2.elim
 |_::_::_::_,_,_,_,hk=>exact hk.elim
end
theorem xI(hc:X.calm=true)(hi:FI X tg iter wi)(hg:FG X ks tg g)(hb:xR X ks body wb)(hs:∀x,foldedSetIterable iter X.env x=pure x:=by intro _;rfl):FS X ks (.For tg iter body [] pos) (iG wi g wb):=λpn xe hp=>by
 refine PS.imp (SJ (X:=wp X pn xe) hp hc (hi pn xe hp) (hg pn xe hp) (hb pn xe hp) hs) λD Z H q=>?_;obtain⟨F,G,U,E,zN,hw,n,b,c,r,x⟩:=q;refine⟨F,G,U,_,_,zN,hw,λl U1 F1 H1 J hk s1 r1 it=>?_,x.mono (λZ2 z=>by rw[z];exact KP.refl) (zw.refl F) (zw.refl G)⟩;refine⟨λi m Z2 H2=>m=l.length-i/\i<=l.length/\∃F2 U2,KP ks Z Z2/\zw F1 F2/\Rel X.K U2 Z2 F2 G H2/\dX g wb (l.drop i) E U2,⟨l.length,rfl,zero_le _,F1,U1,KP.refl,zw.refl F1,r1,by simpa using hk⟩,?_⟩;rintro i m Z2 H2 ⟨rfl,hi,F2,U2,kp,s2,r2,hw2⟩;obtain⟨it1,it2⟩:=it i U2 Z2 F2 G H2 s2 r2;by_cases hlt:i<l.length
 .obtain⟨go,yld⟩:=it1 l[i] (by simp[hlt]);refine .inr ⟨go,λZ3 H3=>i+1<=l.length/\∃F3 U3,KP ks Z Z3/\zw F1 F3/\Rel X.K U3 Z3 F3 G H3/\dX g wb (l.drop (i+1)) E U3,λZ3 H3 h=>⟨l.length-(i+1),by lia,rfl,h⟩,λy H3 hy=>?_⟩;obtain⟨F3,s3,r3,rp⟩:=yld y H3 hy;rw[List.drop_eq_getElem_cons hlt]at hw2;refine⟨F3,G,U2,_,_,r3.push rp,hw2,λU4 Z4 F4 H4 hp4 k4 s4 r4=>?_⟩;have kp4:=kp.trans k4;have sm4:=s1.trans (s2.trans (s3.trans s4));exact⟨F4,G,U4,_,r4,hp4,λU' Z' F' H' h k' s r=>⟨hlt,F',U',kp4.trans k',s2.trans (s3.trans (s4.trans s)),r,h⟩,λU' Z' F' H' h k' s r=>n U' Z' F' H' h (kp4.trans k') (sm4.trans s) r,
   λU' Z' F' H' h k' s r=>⟨hlt,F',U',kp4.trans k',s2.trans (s3.trans (s4.trans s)),r,h⟩,λa U' Z' v F' H' h k' s q rv=>r a U' Z' v F' H' h (kp4.trans k') (sm4.trans s) q rv,x.mono (λZ5 k'=>kp4.trans k') sm4 (zw.refl G)⟩
 .have e:i=l.length:=Nat.le_antisymm hi (not_lt.mp hlt);subst e;rw[List.drop_length]at hw2;exact .inl ⟨it2 (zd _),n U2 Z2 F2 H2 hw2 kp (s1.trans s2) r2⟩
theorem OD(hc:FT X c wc)(hb:xR X ks body wb):FS X ks (.While c body [] pos) (gU wc wb):=λpn xe hp=>by
 refine PS.imp (Vj (X:=wp X pn xe) hp (hc pn xe hp) (hb pn xe hp)) λD Z H q=>?_;obtain⟨F,G,U,E,zN,⟨J,⟨m0,j0⟩,step⟩,n,b,c,r,x⟩:=q;refine⟨λm Z2 H2=>∃F2 U2,KP ks Z Z2/\zw F F2/\Rel X.K U2 Z2 F2 G H2/\J m U2,⟨m0,F,U,KP.refl,zw.refl F,zN,j0⟩,?_⟩;rintro m Z2 H2 ⟨F2,U2,kp,s2,r2,j2⟩;refine⟨F2,G,U2,_,_,r2,step m U2 j2,λk U3 F3 H3 hk s3 r3=>?_,x.mono (λZ5 z=>by rw[z];exact kp) s2 (zw.refl G)⟩;have sm3:=s2.trans s3;cases k with
 |true=>
  dsimp only;rw[za rfl];refine⟨λZ4 H4=>∃m',m'<m/\∃F2 U2,KP ks Z Z4/\zw F F2/\Rel X.K U2 Z4 F2 G H4/\J m' U2,λZ4 H4 h=>h,?_⟩;exact⟨F3,G,U3,_,r3,hk,λU' Z' F' H'⟨m',hm,h⟩ k' s r=>⟨m',hm,F',U',kp.trans k',sm3.trans s,r,h⟩,λU' Z' F' H' h k' s r=>n U' Z' F' H' h (kp.trans k') (sm3.trans s) r,
   λU' Z' F' H'⟨m',hm,h⟩ k' s r=>⟨m',hm,F',U',kp.trans k',sm3.trans s,r,h⟩,λa U' Z' v F' H' h k' s q rv=>r a U' Z' v F' H' h (kp.trans k') (sm3.trans s) q rv,x.mono (λZ5 k'=>kp.trans k') sm3 (zw.refl G)⟩
 |false=>dsimp only;rw[zc q5];exact n U3 Z2 F3 H3 hk kp sm3 r3
inductive fS(K:W.Frag)(f:WF)(n:Nat)(vs:List V)(H:Hp)(Q:VK)(Zq:XK):Prop
 |mk (F G:Hp) (ss:List S) (P:S->List S->Prop) (PX:D->List S->Prop) (hn:vs.length=n) (zN:Rel K (ss.map some) (vs.map some) F G H) (hw:f ss P PX) (hok:∀s ss' v F' H',P s ss'->zw F F'->ss'.length=ss.length->Rel K (ss'.map some++[some s]) (vs.map some++[some v]) F' G H'->Q v H') (hex:∀d ss' F' H' C dx,PX d ss'->zw F F'->ss'.length=ss.length->Rel K (ss'.map some) (vs.map some) F' G H'->GS K F' d C dx->Zq (.ref C) dx H'):fS K f n vs H Q Zq
section
variable{K:W.Frag}
theorem Rel.comm(h:U.length=Z.length)(r:Rel K (U++U') (Z++Z') F G H):Rel K (U'++U) (Z'++Z) F G H:=by have:=Rel.swap (U:=[]) (Z:=[]) (U1:=U) (Z1:=Z) (U2:=U') (Z2:=Z') rfl h (by simpa using r);simpa using this
theorem Rel.lend(r:Rel K (U++(none::U')) (Z++(some v::Z')) F G H)(h:U.length=Z.length)(hs:slot U i=some s)(hv:Z[i]?=some (some v)):
  Rel K (U.set i none++(some s::U')) (Z++(some v::Z')) F G H:=by
 obtain⟨fp,e,nd,ap⟩:=r.en;obtain⟨f1,f2,rfl,a,b⟩:=e.cut h;obtain⟨v',fa,fi,fb,e1,rfl,q,up⟩:=a.at hs;rw[hv]at e1;have e2:v=v':=by simpa using e1
 subst e2;have a2:=up (F':=F) (H':=H) (o:=none) (u:=some v) (fi':=[]) (zw.refl F) (λ_ _=>rfl) (.no .nil);have es:Z.set i (some v)=Z:=by
  apply ext_getElem?;intro j;by_cases hj:i=j
  .subst hj;rw[getElem?_set_self (qh.mp hv).1,hv]
  .rw[getElem?_set_ne hj]
 rw[es]at a2;cases b with
 |no b=>
  have p:((fa++([]++fb))++(fi++f2)).Perm ((fa++(fi++fb))++f2):=by simp only[nil_append,qq];refine List.Perm.append_left _ ?_;rw[<-qq,<-qq fi];exact List.Perm.append_right _ qQ
  exact⟨r.fr,r.gr,_,a2.app (.so q b),p.nodup_iff.mpr nd,λx hx=>ap x (p.mem_iff.mp hx)⟩
theorem Rel.back1(r:Rel K (U++(some s::U')) (Z++(some v::Z')) F G H)(h:U.length=Z.length)(hv:Z[i]?=some (some v)):Rel K (U.set i (some s)++U') (Z++Z') F G H:=by
 have hi:i<Z.length:=(qh.mp hv).1;have es:Z.set i (some v)=Z:=by apply ext_getElem?;grind
 have hl:U'.length=Z'.length:=by have:=r.len;grind
 have r1:=Rel.swap (U1:=[some s]) (Z1:=[some v]) (U2:=U') (Z2:=Z') h rfl r;rw[<-qq,<-qq]at r1;have r2:=Rel.store (i:=i) r1 (by simp[h,hl]) (by simp[h];lia);grind
theorem NL:∀{rs:List R}{vs:List V}{ms:List Bool}{U U' U1:Env}{ss:List S}{F:Hp}{Z':St},Rel K (U++(rs.map zx++U')) (Z++(vs.map some++Z')) F G H->U.length=Z.length->xO Z vs rs->cY ms rs U=some (ss,U1)->
  ∃F',zw F F'/\U1.length=U.length/\ss.length=rs.length/\Rel K (U1++(ss.map some++U')) (Z++(vs.map some++Z')) F' G H
 |[],[],ms,U,U',U1,ss,F,Z',r,h,_,e=>by
  have e':some (([]:List S),U)=some (ss,U1):=by cases ms<;>exact e
  cases e';exact⟨F,zw.refl F,rfl,rfl,r⟩
 |[],_::_,_,_,_,_,_,_,_,_,_,h,_=>h.elim
 |_::_,[],_,_,_,_,_,_,_,_,_,h,_=>h.elim
 |x::rs,v::vs,ms,U,U',U1,ss,F,Z',r,h,rv,e=>by
  --the first one,as it is handed on
  have first:∃s U2 ts F1,cY ms.tail rs U2=some (ts,U1)/\ss=s::ts/\zw F F1/\U2.length=U.length/\Rel K (U2++(some s::(rs.map zx++U'))) (Z++(some v::(vs.map some++Z'))) F1 G H:=by
   cases x with
   |v s=>
    have e':(match cY ms.tail rs U with|some (ss,U1)=>some (s::ss,U1)|none=>none)=some (ss,U1):=by cases ms<;>exact e
    cases q:cY ms.tail rs U with
    |none=>rw[q]at e';cases e'
    |some p=>obtain⟨ts,U3⟩:=p;rw[q]at e';cases e';exact⟨s,U,ts,F,q,rfl,zw.refl F,rfl,r⟩
   |loc i=>
    have e':(match slot U i with
     |some s=>if ms.headD false then(match cY ms.tail rs (U.set i none)with
      |some (ss,U1)=>some (s::ss,U1)
      |none=>none)
      else(match cY ms.tail rs (U.set i (some (.sh s.toD)))with
       |some (ss,U1)=>some (.sh s.toD::ss,U1)
       |none=>none)
     |none=>none)=some (ss,U1):=by cases ms<;>exact e
    cases q:slot U i with
    |none=>rw[q]at e';cases e'
    |some s=>
     rw[q]at e';dsimp only at e';by_cases hm:ms.headD false=true
     .rw[za hm]at e';cases q2:cY ms.tail rs (U.set i none)with
      |none=>rw[q2]at e';cases e'
      |some p=>obtain⟨ts,U3⟩:=p;rw[q2]at e';cases e';exact⟨s,U.set i none,ts,F,q2,rfl,zw.refl F,by simp,Rel.lend r h q rv.1⟩
     .rw[zc hm]at e';cases q2:cY ms.tail rs (U.set i (some (.sh s.toD)))with
      |none=>rw[q2]at e';cases e'
      |some p=>obtain⟨ts,U3⟩:=p;rw[q2]at e';cases e';obtain⟨F1,s1,l1,r1⟩:=dN (x:=.loc i) (s:=.sh s.toD) (U1:=U.set i (some (.sh s.toD))) r h rv.1 (by show(match slot U i with|some s=>some (S.sh s.toD,U.set i (some (.sh s.toD)))|none=>none)=_;rw[q]);exact⟨_,_,ts,F1,q2,rfl,s1,by simp,r1⟩
  obtain⟨s,U2,ts,F1,q2,rfl,s1,l1,r1⟩:=first
  have h2:U2.length=Z.length:=l1.trans h;have hl:(rs.map zx++U').length=(vs.map some++Z').length:=by have:=r1.len;rw[qr,qr,h2,qv,qv]at this;lia
  have hl':U'.length=Z'.length:=by have:=rv.2.len;simp at hl;lia
  have r2:=Rel.swap (U1:=[some s]) (Z1:=[some v]) (U2:=rs.map zx++U') (Z2:=vs.map some++Z') h2 rfl r1;rw[qq,qq]at r2;obtain⟨F2,s2,l2,l3,r3⟩:=NL (rs:=rs) (vs:=vs) r2 h2 rv.2 q2;have h3:U1.length=Z.length:=l2.trans h2;rw[<-qq (ts.map some),<-qq (vs.map some)]at r3;have r4:=Rel.swap (U1:=ts.map some++U') (Z1:=vs.map some++Z') (U2:=[some s]) (Z2:=[some v]) h3 (by simp[l3,rv.2.len,hl']) r3;exact⟨F2,s1.trans s2,l2.trans l1,by simp[l3],r4⟩
theorem ES:∀{rs:List R}{vs:List V}{ms:List Bool}{U U':Env}{ss:List S}{Z':St},Rel K (U++(ss.map some++U')) (Z++(vs.map some++Z')) F G H->U.length=Z.length->ss.length=rs.length->xO Z vs rs->
  (back ms rs ss U).length=U.length/\Rel K (back ms rs ss U++U') (Z++Z') F G H
 |[],[],ms,U,U',[],Z',r,h,_,_=>by
  have e:back ms [] [] U=U:=by cases ms<;>rfl
  rw[e];exact⟨rfl,r⟩
 |[],_,_,_,_,_::_,_,_,_,hl,_=>by simp at hl
 |_::_,_,_,_,_,[],_,_,_,hl,_=>by simp at hl
 |[],_::_,_,_,_,_,_,_,_,_,h=>h.elim
 |_::_,[],_,_,_,_,_,_,_,_,h=>h.elim
 |x::rs,v::vs,ms,U,U',s::ss,Z',r,h,hl,rv=>by
  cases x with
  |v t=>
   have e:back ms (.v t::rs) (s::ss) U=back ms.tail rs ss U:=by cases ms<;>rfl
   rw[e];exact ES (rs:=rs) (vs:=vs) (r.mid h) h (by simpa using hl) rv.2
  |loc i=>
   have e:back ms (.loc i::rs) (s::ss) U=if ms.headD false then back ms.tail rs ss (U.set i (some s))else back ms.tail rs ss U:=by cases ms<;>rfl
   rw[e];by_cases hm:ms.headD false=true
   .rw[za hm];have q:=ES (rs:=rs) (vs:=vs) (ms:=ms.tail) (U:=U.set i (some s)) (Rel.back1 r h rv.1) (by simpa using h) (by simpa using hl) rv.2;exact⟨q.1.trans (by simp),q.2⟩
   .rw[zc hm];exact ES (rs:=rs) (vs:=vs) (r.mid h) h (by simpa using hl) rv.2
end
theorem Ub(Fk:iL X.prog X.w X.K X.mg X.base (nW X.prog X.w) k f fd ps (fS X.K wf n))(hr:cE k X.A)(hg:Gl X x)(hm:X.mg x=some (.ref f))(hk:W.keepIn X.K (.ref f)=true)(hb:Binds X.K fd ps [])
  (ha:FA X (e::es) wa)(zO:∀ss P PX,wf ss P PX->ss.length=n)(hdb:(x==("__debug__":Str))=false:=by decide)(he:starEach (e::es) X.env=(false,eval e X.env)::starEach es X.env:=by rfl)(hpl:(backTo pos (starEach es X.env)).any (·.1)=false:=by rfl):
  FE X (.Call (.Name x p) (e::es) [] pos) (zE wf ms wa):=λpn xe hp=>by
 refine PE.imp (UN (X:=wp X pn xe) Fk hr hg hm hk hb (ha pn xe hp) hdb he hpl) λZ H Q q=>?_;refine(many (k:=λrs U1 Q E=>zv (cY ms rs U1) λp=>wf p.1 (λs ss=>Q (.v s) (back ms rs ss p.2)) (λx ss=>E x (back ms rs ss p.2))) q).mono λvs H1 h1=>?_;obtain⟨F,G,U,rs,P,PX,zN,hl,rv,hk,hok,hx⟩:=h1;obtain⟨⟨ss,U1⟩,ep,hk⟩:=cF hk;obtain⟨F1,s1,l1,l2,r1⟩:=NL (U':=[]) (Z':=[]) (by simpa using zN) hl rv ep;have h1:U1.length=Z.length:=l1.trans hl;have r2:=Rel.comm (U':=ss.map some) (Z':=vs.map some) h1 (by simpa using r1);have hsv:(ss.map some).length=(vs.map some).length:=by simp[l2,rv.len]
 obtain⟨G',r3,gg,bk⟩:=r2.hide hsv;have hn:=zO _ _ _ hk;show fS X.K wf n vs H1 Q (XW (wp X pn xe) Z);refine⟨F1,G',ss,_,_,by rw[rv.len,<-l2];exact hn,r3,hk,λs ss' v F2 H2 hp s2 l3 r4=>?_,λd ss' F2 H2 C dx hp s2 l3 r4 cd a s' I Fl=>?_⟩
 .have r5:=bk s2 r4;have hsv':(ss'.map some++[some s]).length=(vs.map some++[some v]).length:=by simp[l3,l2,rv.len]
  have r6:=Rel.comm hsv' r5;obtain⟨l7,r7⟩:=ES (ms:=ms) (rs:=rs) (vs:=vs) (U':=[some s]) (Z':=[some v]) r6 h1 (l3.trans l2) rv;exact hok _ _ v F2 H2 hp (s1.trans s2) r7 trivial
 .have r5:=bk s2 r4;have hsv':(ss'.map some).length=(vs.map some).length:=by simp[l3,l2,rv.len]
  have r6:=Rel.comm hsv' r5;obtain⟨l7,r7⟩:=ES (ms:=ms) (rs:=rs) (vs:=vs) (U':=[]) (Z':=[]) (by simpa using r6) h1 (l3.trans l2) rv;exact hx d _ Z F2 H2 (.ref a) s' hp rfl (s1.trans s2) (by simpa using r7) I ⟨a,C,dx,rfl,cd,Fl⟩
section
variable{K:W.Frag}
theorem Rel.pushNs(r:Rel K U Z F G H):∀m:Nat,Rel K (U++List.replicate m none) (Z++List.replicate m none) F G H
 |0=>by simpa using r
 |m+1=>by have:=(Rel.pushNs r m).pushN (u:=none);rw[qq,qq,<-List.replicate_succ',<-List.replicate_succ']at this;exact this
def Args(K:W.Frag)(F:Hp):List S->List V->St->Prop
 |[],[],_=>True
 |s::ss,v::vs,u::Z=>((∃d,s=.sh d/\aS K F v d)\/(s.isSh=false/\u=some v))/\Args K F ss vs Z
 |_,_,_=>False
theorem Io:∀{ss:List S}{vs:List V}{fs:List S}{U U' Ua:Env}{Z Z' Za:St},aD ss U=some fs->Rel K (Ua++(U++U')) (Za++(Z++Z')) F G H->Ua.length=Za.length->U.length=Z.length->Args K F ss vs Z->
  fs.length=ss.length/\vs.length=ss.length/\Rel K (Ua++(fs.map some++U')) (Za++(vs.map some++Z')) F G H
 |[],[],fs,U,U',Ua,Z,Z',Za,e,r,h,h2,_=>by
  have e':some ([]:List S)=some fs:=by cases U<;>exact e
  cases e';refine⟨rfl,rfl,?_⟩;have r1:=Rel.swap (U1:=U) (Z1:=Z) (U2:=U') (Z2:=Z') h h2 r;rw[<-qq,<-qq]at r1;have hl:(Ua++U').length=(Za++Z').length:=by have:=r.len;simp at this;simp;lia
  simpa using r1.drop hl
 |[],_::_,_,_,_,_,_,_,_,_,_,_,_,h=>by cases h
 |_::_,[],_,_,_,_,_,_,_,_,_,_,_,h=>by cases h
 |_::_,_::_,_,_,_,_,[],_,_,_,_,_,_,h=>by cases h
 |_::_,_::_,_,[],_,_,_::_,_,_,_,_,_,h2,_=>by simp at h2
 |s::ss,v::vs,fs,o::U,U',Ua,u::Z,Z',Za,e,r,h,h2,ha=>by
  have h2':U.length=Z.length:=by simpa using h2
  obtain⟨ha1,ha2⟩:=ha;rcases ha1 with⟨d,rfl,rp⟩|⟨hs,hu⟩
  .have e':(aD ss U).map (S.sh d::·)=some fs:=e;cases q:aD ss U with
   |none=>rw[q]at e';cases e'
   |some gs=>
    rw[q]at e';have e'':S.sh d::gs=fs:=qg e';subst e'';have r1:Rel K (Ua++(U++U')) (Za++(Z++Z')) F G H:=Rel.mid (U:=Ua) (Z:=Za) r h;obtain⟨l1,l2,r2⟩:=Io q r1 h h2' ha2;have hl:(gs.map some++U').length=(vs.map some++Z').length:=by have:=r2.len;simp at this;simp;lia
    have r3:=r2.push rp;rw[qq Ua,qq Za]at r3;have r4:=Rel.swap (U1:=gs.map some++U') (Z1:=vs.map some++Z') (U2:=[some (.sh d)]) (Z2:=[some v]) h hl r3;exact⟨by simp[l1],by simp[l2],r4⟩
  .subst hu;have e':∃t gs,o=some t/\aD ss U=some gs/\fs=t::gs:=by
    cases s with
    |sh d=>cases hs
    |_=>
     cases o with
     |none=>cases e
     |some t=>
      have e':(aD ss U).map (t::·)=some fs:=e;cases q:aD ss U with
      |none=>rw[q]at e';cases e'
      |some gs=>rw[q]at e';exact⟨t,gs,rfl,rfl,(qg e').symm⟩
   obtain⟨t,gs,rfl,q,rfl⟩:=e';have r1:Rel K ((Ua++[some t])++(U++U')) ((Za++[some v])++(Z++Z')) F G H:=by simpa using r
   obtain⟨l1,l2,r2⟩:=Io q r1 (by simp[h]) h2' ha2;exact⟨by simp[l1],by simp[l2],by simpa using r2⟩
theorem NT{ks:List Nat}:∀{ss:List S}{vs:List V}{Z:St}{j:Nat}{fp:List Addr},zy K F0 H (ss.map some) (vs.map some) fp->zw F0 F->(∀i s,ss[i]?=some s->(j+i)∈ks\/s.isSh=true)->
  (∀i v,vs[i]?=some v->(j+i)∈ks->Z[i]?=some (some v))->vs.length<=Z.length->Args K F ss vs Z
 |[],[],_,_,_,_,_,_,_,_=>trivial
 |[],_::_,_,_,_,r,_,_,_,_=>by cases r
 |_::_,[],_,_,_,r,_,_,_,_=>by cases r
 |_::_,_::_,[],_,_,_,_,_,_,h=>by simp at h
 |s::ss,v::vs,u::Z,j,_,.so a b,sm,hk,hv,hl=>by
  refine⟨?_,NT (j:=j+1) b sm (λi t e=>by have:=hk (i+1) t (by simpa using e);rwa[show j+(i+1)=j+1+i by lia]at this) (λi t e z=>by simpa using hv (i+1) t (by simpa using e) (by rwa[show j+(i+1)=j+1+i by lia])) (by simpa using hl)⟩;cases hs:s.isSh with
  |true=>
   cases s with
   |sh d=>cases a with
    |sh r=>exact .inl ⟨d,rfl,r.mono sm⟩
   |_=>cases hs
  |false=>refine .inr ⟨rfl,?_⟩;have:=hk 0 s rfl;rw[hs]at this;have z:(j+0)∈ks:=this.resolve_right (by simp);simpa using hv 0 v rfl z
theorem Mx{st:Stmt}(Fn:DY K x qual st f fd)(Sc:aF N ps (aA st))(hn:ps.length=n)(hm:N.length=m)
  (hb:∀(cdv:Value)(A:Around)(outer:List PySem.Env)(s:Shared)(H:Hp)(E:XK),cE k (A.deeper (envOfC qual (aA st) s.heap.objs.size f cdv))->xR (iI (nW P w) P w K mg base N qual (aA st) f cdv A outer s H E) ks (cV st) wb):
  iL P w K mg base (nW P w) (k+1) f fd ps (fS K (iA n m ks wb) n):=by
 refine Fn.okX Sc (λvs H Q E h=>?_) (λcdv A outer s H vs Q E hr h=>?_)
 .obtain⟨F,G,ss,P',PX,hl,_⟩:=h;rw[hl,hn]
 .obtain⟨F,G,ss,P',PX,hvl,zN,⟨hsl,hks,hbody⟩,hok,hex⟩:=h;refine⟨_,hb cdv A outer s H E hr [] (iI (nW P w) P w K mg base N qual (aA st) f cdv A outer s H E).xe PassesOwn.leaving,?_⟩;have hmn:N.length-vs.length=m-n:=by rw[hvl,hm]
  have hr0:Rel K (ss.map some++List.replicate (m-n) none) (L2.start N vs) F G H:=by unfold L2.start;rw[hmn];exact zN.pushNs (m-n)
  have hpl:ps.length<=N.length:=by have:=congrArg List.length Sc.pre;rw[qK]at this;lia
  have hst:∀i v,vs[i]?=some v->(L2.start N vs)[i]?=some (some v):=λi v e=>by unfold L2.start;have hi:i<vs.length:=(qh.mp e).1;rw[getElem?_append_left (by simpa using hi),qI,e];rfl
  --how the arguments are at an end
  have arg:∀{U':Env}{Z':St}{F':Hp}{fs:List S},KP ks (L2.start N vs) Z'->zw F F'->U'.length=Z'.length->aD ss U'=some fs->Args K F' ss vs Z':=by
   intro U' Z' F' fs kp sm zO e;obtain⟨fp,en,_⟩:=zN.en;have hZ:vs.length<=Z'.length:=by
    --aD reads as many slots as there are arguments
    have:∀(ss:List S)(U:Env)(fs:List S),aD ss U=some fs->ss.length<=U.length:=by
     intro ss;induction ss with
     |nil=>intro U fs _;simp
     |cons s ss ih=>
      intro U fs e;cases U with
      |nil=>cases s<;>cases e
      |cons o U=>
       have:∃gs,aD ss U=some gs:=by
        cases q:aD ss U with
        |some gs=>exact⟨gs,rfl⟩
        |none=>
         cases s with
         |sh d=>have e':(aD ss U).map (S.sh d::·)=some fs:=e;rw[q]at e';cases e'
         |_=>
          cases o with
          |none=>cases e
          |some t=>have e':(aD ss U).map (t::·)=some fs:=e;rw[q]at e';cases e'
       obtain⟨gs,q⟩:=this;have:=ih U gs q;simp;exact this
    have:=this ss U' fs e;rw[hsl]at this;lia
   exact NT (ks:=ks) (F:=F') (Z:=Z') (j:=0) en sm (λi s e=>by simpa using hks i s e) (λi v e z=>by rw[kp i (by simpa using z)];exact hst i v e) hZ
  have fin:∀{U':Env}{Z':St}{F' H':Hp}{t:S}{v:V}{fs:List S},KP ks (L2.start N vs) Z'->zw F F'->Rel K (U'++[some t]) (Z'++[some v]) F' G H'->aD ss U'=some fs->P' t fs->Q v H':=by intro U' Z' F' H' t v fs kp sm r e hp;have zO:U'.length=Z'.length:=bD r;obtain⟨l1,l2,r1⟩:=Io (Ua:=[]) (Za:=[]) (U':=[some t]) (Z':=[some v]) e (by simpa using r) rfl zO (arg kp sm zO e);exact hok t fs v F' H' hp sm l1 (by simpa using r1)
  refine⟨F,G,_,_,hr0,hbody,λU' Z' F' H' h kp sm r=>?_,λU' Z' F' H' h=>h.elim,λU' Z' F' H' h=>h.elim,λa U' Z' v F' H' h kp sm r rv=>?_,λd U' Z' F' H' u s' h kp sm r I xr=>?_⟩
  .obtain⟨fs,e,h⟩:=cF h;exact fin kp sm (r.push .non) e h
  .cases a with
   |v t=>obtain⟨fs,e,h⟩:=cF h;exact fin kp sm r e h
   |loc i=>
    obtain⟨t,et,h⟩:=cF h;have hl:=bD r;by_cases hi:i<n
    .rw[za hi]at h;obtain⟨fs,e,h⟩:=cF h;obtain⟨F2,s2,_,r2⟩:=dN (x:=.loc i) (s:=.sh t.toD) (U1:=U'.set i (some (.sh t.toD))) (U':=[]) (Z':=[]) r hl rv (by show(match slot U' i with|some s=>some (S.sh s.toD,U'.set i (some (.sh s.toD)))|none=>none)=_;rw[et]);exact fin kp (sm.trans s2) r2 e h
    .rw[zc hi]at h;obtain⟨fs,e,h⟩:=cF h;have r2:=Rel.lend (U':=[]) (Z':=[]) r hl et rv;refine fin kp sm r2 ?_ h
     --the slot lies behind the parameters
     have:∀(ss:List S)(U:Env)(i:Nat),ss.length<=i->aD ss (U.set i none)=aD ss U:=by
      intro ss;induction ss with
      |nil=>intro U i _;cases U<;>cases i<;>rfl
      |cons s ss ih=>
       intro U i hi;cases U with
       |nil=>rfl
       |cons o U=>
        cases i with
        |zero=>simp at hi
        |succ i=>
         have e:=ih U i (by simpa using hi);show aD (s::ss) (o::U.set i none)=aD (s::ss) (o::U);cases s with
         |sh d=>show(aD ss (U.set i none)).map _=(aD ss U).map _;rw[e]
         |_=>
          cases o with
          |none=>rfl
          |some t=>show(aD ss (U.set i none)).map _=(aD ss U).map _;rw[e]
     rw[this ss U' i (by lia)];exact e
  .obtain⟨fs,e,h⟩:=cF h;obtain⟨a,C,dx,rfl,cd,Fl⟩:=xr;obtain⟨l1,l2,r1⟩:=Io (K:=K) (Ua:=[]) (Za:=[]) (U':=[]) (Z':=[]) e (by simpa using(show Rel K U' Z' F' G H' from r)) rfl r.len (arg kp sm r.len e);exact UI I Fl (hex d fs F' H' C dx h sm l1 (by simpa using r1) cd)
end
end FL
namespace L2
open PySem PySem.Spec PyProof.Rows
def cU(cells:List (Str×Addr)):List (Str×NameKind)->List (Str×Addr)->List (Str×Addr)
 |[],zQ=>zQ
 |(n,k)::r,zQ=>if k==.free then(match cells.lookup n with|some c=>cU cells r ((n,c)::zQ)|none=>cU cells r zQ)else cU cells r zQ
theorem Ks(f:Str×NameKind->List (Str×Addr)->Sem (ForInStep (List (Str×Addr))))
  (hf:∀n k cs,f (n,k) cs=if k==.free then(do let a<-cellOf env n;pure (.yield ((n,a)::cs)))else pure (.yield cs)):
  ∀(names:List (Str×NameKind))(zQ:List (Str×Addr)),(∀x∈names,x.2=.free->∃c,env.cells.lookup x.1=some c)->(forIn names zQ f:Sem _)=pure (cU env.cells names zQ)
 |[],zQ,_=>by rw[List.forIn_nil];rfl
 |(n,k)::r,zQ,h=>by
  rw[List.forIn_cons,hf];have hr:∀x∈r,x.2=.free->∃c,env.cells.lookup x.1=some c:=λx hx=>h x (qm _ hx);by_cases hk:(k==.free)=true
  .obtain⟨c,hc⟩:=h (n,k) qo (by simpa using hk);have hc':env.cells.lookup n=some c:=hc;have e:cellOf env n=pure c:=by unfold cellOf;rw[hc']
   rw[za hk,e];have ih:=Ks f hf r ((n,c)::zQ) hr;unfold cU;rw[za hk,hc'];rw[<-ih];simp
  .rw[zc hk];have ih:=Ks f hf r zQ hr;unfold cU;rw[zc hk,<-ih];simp
theorem Yz(h:∀x∈scope.names,x.2=.free->∃c,env.cells.lookup x.1=some c):closureFor scope env=pure (cU env.cells scope.names []):=by show(forIn scope.names ([]:List (Str×Addr)) _>>=λcs=>pure cs)=_;rw[Ks (env:=env) _ (λn k cs=>rfl) scope.names [] h];rfl
theorem Im:∀{names:List (Str×NameKind)}{zQ:List (Str×Addr)},(n,c)∈cU cells names zQ->(n,c)∈zQ\/((n,NameKind.free)∈names/\cells.lookup n=some c)
 |[],_,h=>.inl h
 |(m,k)::r,zQ,h=>by
  unfold cU at h;by_cases hk:(k==.free)=true
  .rw[za hk]at h;have hk':k=.free:=by simpa using hk
   cases q:cells.lookup m with
   |none=>
    rw[q]at h;rcases Im h with z|⟨z,w⟩
    .exact .inl z
    .exact .inr ⟨qm _ z,w⟩
   |some d=>
    rw[q]at h;rcases Im h with z|⟨z,w⟩
    .rcases qD.mp z with e|z
     .cases e;exact .inr ⟨by rw[<-hk'];exact qo,q⟩
     .exact .inl z
    .exact .inr ⟨qm _ z,w⟩
  .rw[zc hk]at h;rcases Im h with z|⟨z,w⟩
   .exact .inl z
   .exact .inr ⟨qm _ z,w⟩
theorem EY(hc:cells.lookup n=some c):∀{names:List (Str×NameKind)}{zQ:List (Str×Addr)},((n,c)∈zQ\/(n,NameKind.free)∈names)->(n,c)∈cU cells names zQ
 |[],_,h=>h.elim id λz=>by simp at z
 |(m,k)::r,zQ,h=>by
  unfold cU;by_cases hk:(k==.free)=true
  .rw[za hk];have hk':k=.free:=by simpa using hk
   cases q:cells.lookup m with
   |none=>
    refine EY hc ?_;rcases h with z|z
    .exact .inl z
    .rcases qD.mp z with e|z
     .cases e;rw[hc]at q;cases q
     .exact .inr z
   |some d=>
    refine EY hc ?_;rcases h with z|z
    .exact .inl (qm _ z)
    .rcases qD.mp z with e|z
     .cases e;rw[hc]at q;cases q;exact .inl qo
     .exact .inr z
  .rw[zc hk];refine EY hc ?_;rcases h with z|z
   .exact .inl z
   .rcases qD.mp z with e|z
    .cases e;exact(hk (by decide)).elim
    .exact .inr z
theorem Qw{α:Type}:∀{l:List (Str×α)}{n:Str}{c:α},(n,c)∈l->(∀c',(n,c')∈l->c'=c)->l.lookup n=some c
 |[],_,_,h,_=>by simp at h
 |(m,d)::r,n,c,h,u=>by
  rw[lookup_cons];cases hb:n==m with
  |true=>
   have e:n=m:=by simpa using hb
   subst e;exact congrArg some (u d qo)
  |false=>
   refine Qw (l:=r) ?_ λc' hc=>u c' (qm _ hc);rcases qD.mp h with e|h
   .cases e;simp at hb
   .exact h
theorem Ku:∀{names:List (Str×NameKind)}{n:Nat}{zQ:List (Str×Addr)}{x:Str}{c:Addr},(x,c)∈cellsFrom n names zQ->(x,c)∈zQ\/((x,NameKind.cell)∈names/\n<=c)
 |[],_,_,_,_,h=>.inl h
 |(m,k)::r,n,zQ,x,c,h=>by
  unfold cellsFrom at h;by_cases hk:(k==.cell)=true
  .rw[za hk]at h;have hk':k=.cell:=by simpa using hk
   rcases Ku h with z|⟨z,w⟩
   .rcases qD.mp z with e|z
    .cases e;exact .inr ⟨by rw[<-hk'];exact qo,zd _⟩
    .exact .inl z
   .exact .inr ⟨qm _ z,by lia⟩
  .rw[zc hk]at h;rcases Ku h with z|⟨z,w⟩
   .exact .inl z
   .exact .inr ⟨qm _ z,w⟩
theorem Fo:∀{names:List (Str×NameKind)}{n:Nat}{zQ:List (Str×Addr)}{x:Str},((x,NameKind.cell)∈names\/∃c,(x,c)∈zQ)->∃c,(x,c)∈cellsFrom n names zQ
 |[],_,_,_,h=>h.elim (λz=>by simp at z) id
 |(m,k)::r,n,zQ,x,h=>by
  unfold cellsFrom;by_cases hk:(k==.cell)=true
  .rw[za hk];refine Fo ?_;rcases h with z|⟨c,z⟩
   .rcases qD.mp z with e|z
    .cases e;exact .inr ⟨n,qo⟩
    .exact .inl z
   .exact .inr ⟨c,qm _ z⟩
  .rw[zc hk];refine Fo ?_;rcases h with z|z
   .rcases qD.mp z with e|z
    .cases e;exact(hk (by decide)).elim
    .exact .inl z
   .exact .inr z
theorem Iq{α:Type}:∀{l:List (Str×α)}{x:Str},(∃c,(x,c)∈l)->∃c,l.lookup x=some c
 |[],_,⟨_,h⟩=>by simp at h
 |(m,d)::r,x,⟨c,h⟩=>by
  rw[lookup_cons];cases hb:x==m with
  |true=>exact⟨d,rfl⟩
  |false=>
   refine Iq (l:=r) ⟨c,?_⟩;rcases qD.mp h with e|h
   .cases e;simp at hb
   .exact h
theorem Kt:∀{names:List (Str×NameKind)}{n:Nat}{zQ:List (Str×Addr)},(∀p∈zQ,p.2<n)->(∀p∈zQ,∀q∈zQ,p.2=q.2->p.1=q.1)->
  ∀p∈cellsFrom n names zQ,∀q∈cellsFrom n names zQ,p.2=q.2->p.1=q.1
 |[],_,_,_,h=>h
 |(m,k)::r,n,zQ,hb,h=>by
  unfold cellsFrom;by_cases hk:(k==.cell)=true
  .rw[za hk];refine Kt (λp hp=>?_) λp hp q hq e=>?_
   .rcases qD.mp hp with rfl|hp
    .exact lt_succ_self _
    .exact lt_succ_of_lt (hb p hp)
   .rcases qD.mp hp with rfl|hp<;>rcases qD.mp hq with rfl|hq
    .rfl
    .have h1:=hb q hq;have e':n=q.2:=e;exact absurd h1 (by rw[<-e'];exact lt_irrefl _)
    .have h1:=hb p hp;have e':p.2=n:=e;exact absurd h1 (by rw[e'];exact lt_irrefl _)
    .exact h p hp q hq e
  .rw[zc hk];exact Kt hb h
theorem Yk
  (hQ:∀h':Heap,(∀b o,s.heap.get? b=some o->h'.get? b=some o)->h'.Ns s.heap.objs.size (λ_=>none)->(∀x c,(x,c)∈cellsFrom (s.heap.objs.size+1) scope.names cl->(x,c)∈cl\/h'.IsCell c none)->
   Q {scope:=scope,locals:=s.heap.objs.size,globals:=globals,cells:=cellsFrom (s.heap.objs.size+1) scope.names cl,qual:=qual,func:=none,code:=env.code,frame:=env.frame,builtins:=env.builtins} {s with heap:=h'}):
  wpAny M A (newFunctionEnv scope globals cl [] qual none .none (some env)) Q E s:=by
 simp only[newFunctionEnv,isSome_some,if_true];refine qa (wpAny_alloc ?_);refine qa (wpAny_layCells _ (λname kind cells=>by cases hkc:kind==NameKind.cell<;>simp[hkc]) _ _ _ _ ?_);rw[show({s with heap:=s.heap.push {cls:=.type "dict",data:=.dict #[]}}:Shared).heap.objs.size=s.heap.objs.size+1 from Heap.size_push ..];refine qb (hQ _ (λb o e=>pushCells_keeps _ _ b o (qc _ e)) ((Heap.Ns.new s.heap (.type "dict")).keeps (pushCells_keeps _ _)) λx c h=>?_)
 --the new cells are empty
 have all:∀(names:List (Str×NameKind))(h:Heap)(zQ:List (Str×Addr)),(∀p∈zQ,p∈cl\/h.IsCell p.2 none)->∀p∈cellsFrom h.objs.size names zQ,p∈cl\/(pushCells h names).IsCell p.2 none:=by
  intro names;induction names with
  |nil=>intro h zQ ha p hp;exact ha p hp
  |cons q r ih=>
   intro h zQ ha p hp;obtain⟨m,k⟩:=q;unfold cellsFrom at hp;unfold pushCells;by_cases hk:(k==.cell)=true
   .rw[za hk]at hp⊢;have e:(h.push {cls:=.type "cell",data:=.cell none}).objs.size=h.objs.size+1:=Heap.size_push ..;rw[<-e]at hp;refine ih _ _ (λp hp=>?_) p hp;rcases qD.mp hp with rfl|hp
    .exact .inr ⟨_,qd _ rfl,rfl⟩
    .rcases ha p hp with z|z
     .exact .inl z
     .exact .inr (z.keeps λb o e=>qc _ e)
   .rw[zc hk]at hp⊢;exact ih h zQ ha p hp
 have:=all scope.names (s.heap.push {cls:=.type "dict",data:=.dict #[]}) cl (λp hp=>.inl hp) (x,c) (by rw[Heap.size_push];exact h);exact this
def kA(N vars:List Str):List Str:=N.map (λx=>if x∈vars then Str.empty else x)++Str.empty::vars
def aC(X:Cx)(scope:Scope)(vars:List Str)(s:Shared)(H:Hp)(ex:List Addr):Cx where
 prog:=X.prog
 w:=X.w
 K:=X.K
 mg:=X.mg
 base:=X.base
 A:=X.A
 N:=kA X.N vars
 s₀:=s
 H₀:=H
 env:=compEnvC scope (cellsFrom (s.heap.objs.size+1) scope.names (cU X.env.cells scope.names [])) s.heap.objs.size X.env
 outer:=X.stack
 stack:=X.stack
 ex:=ex
 fn:=λx=>decide ((x,NameKind.cell)∈scope.names)
 calm:=X.calm
 pn:=[]
 xe:=λ_ _=>False
structure cP(outer scope:Scope)(N vars:List Str):Prop where
 kind:scope.kind=.function
 fr:∀x∈scope.names,x.2=.free->outer.names.lookup x.1=some .cell\/outer.names.lookup x.1=some .free
 nd:(scope.names.map (·.1)).Nodup
 own:∀x∈N,x∉vars->(x,NameKind.local)∉scope.names/\(x,NameKind.cell)∉scope.names
 emp:scope.names.lookup Str.empty=none
theorem Iv{α:Type}{l:List (Str×α)}{c:α}(nd:(l.map (·.1)).Nodup):l.lookup n=some c↔(n,c)∈l:=by
 refine⟨mem_of_lookup,λh=>Qw h λc' h'=>?_⟩;induction l with
 |nil=>simp at h
 |cons p r ih=>grind
theorem Qs{α β:Type}(g:Str->α->β):∀(l:List (Str×α))(n:Str),(l.map λp=>(p.1,g p.1 p.2)).lookup n=(l.lookup n).map (g n)
 |[],_=>rfl
 |(m,d)::r,n=>by
  rw[qB,lookup_cons,lookup_cons];cases hb:n==m with
  |true=>have e:n=m:=by simpa using hb
         subst e;rfl
  |false=>exact Qs g r n
def rl(env:PySem.Env)(n:Str)(k:NameKind):NameKind:=if(k==NameKind.free&&env.scope.kind==.function&&env.kindOf n==some .cell)then NameKind.cell else k
theorem YC(scope:Scope)(env:PySem.Env):(relabel scope env).names=scope.names.map λp=>(p.1,rl env p.1 p.2):=by
 unfold relabel;show scope.names.map _=scope.names.map _;refine map_congr_left λp _=>?_;obtain⟨n,k⟩:=p;show(if(k==NameKind.free&&env.scope.kind==.function&&env.kindOf n==some .cell)=true then(n,NameKind.cell)else(n,k))=(n,rl env n k);unfold rl;by_cases h:(k==NameKind.free&&env.scope.kind==.function&&env.kindOf n==some .cell)=true
 .rw[za h,za h]
 .rw[zc h,zc h]
theorem Iu(scope:Scope)(env:PySem.Env)(x:Str):(relabel scope env).names.lookup x=(scope.names.lookup x).map (rl env x):=by rw[YC,Qs]
theorem EK(h:k≠.free):rl env x k=k:=by unfold rl;rw[zc];intro z;simp at z;exact h z.1.1
theorem Uc:rl env x .free=.cell\/rl env x .free=.free:=by
 unfold rl;split
 .exact .inl rfl
 .exact .inr rfl
theorem Vq(h:(kA N vars)[i]?=some x)(hi:i<N.length):(N[i]?=some x/\x∉vars)\/x=Str.empty:=by
 unfold kA at h;rw[getElem?_append_left (by simpa using hi),qI]at h;cases q:N[i]? with
 |none=>rw[q]at h;cases h
 |some y=>grind
theorem Inv.comp(I:Inv X zL Z H s)(S:cP X.env.scope scope X.N vars)(hex:∀b∈ex,eM X zL H b/\b<s.heap.objs.size)(kept:∀b o,s.heap.get? b=some o->h'.get? b=some o)(hns:h'.Ns s.heap.objs.size (λ_=>none))
  (hcl:∀x c,(x,c)∈cellsFrom (s.heap.objs.size+1) scope.names (cU X.env.cells scope.names [])->(x,c)∈cU X.env.cells scope.names []\/h'.IsCell c none)(hk:vars.length=k)(w0:Option V):
  Inv (aC X scope vars s H ex) [] (Z++w0::List.replicate k none) H {s with heap:=h'}:=by
 have cm:∀{x:Str}{c:Addr},(x,c)∈cU X.env.cells scope.names []->(x,NameKind.free)∈scope.names/\X.env.cells.lookup x=some c:=λ{x c} h=>by
  rcases Im h with z|z
  .simp at z
  .exact z
 have lt:∀{x:Str}{c:Addr},X.env.cells.lookup x=some c->c<s.heap.objs.size:=λ{x c} h=>by obtain⟨v,z⟩:=I.cell x c h;exact z.lt
 have dH:∀{x:Str}{c:Addr},(aC X scope vars s H ex).env.cells.lookup x=some c->(X.env.cells.lookup x=some c/\(x,NameKind.free)∈scope.names)\/((x,NameKind.cell)∈scope.names/\s.heap.objs.size+1<=c):=λ{x c} h=>by
  rcases Ku (mem_of_lookup h)with z|z
  .exact .inl ⟨(cm z).2,(cm z).1⟩
  .exact .inr z
 have uniq:∀{x:Str}{a b:NameKind},(x,a)∈scope.names->(x,b)∈scope.names->a=b:=λ{x a b} h1 h2=>by have e1:=(Iv S.nd).mpr h1;have e2:=(Iv S.nd).mpr h2;rw[e1]at e2;exact qg e2
 --what a visible name is,seen from around
 have vis:∀{x:Str},((relabel scope X.env).names.lookup x=some .cell\/(relabel scope X.env).names.lookup x=some .free)->(x,NameKind.cell)∈scope.names\/(x,NameKind.free)∈scope.names:=λ{x} h=>by
  rw[Iu]at h;cases q:scope.names.lookup x with
  |none=>rw[q]at h;rcases h with h|h<;>cases h
  |some k=>
   have hm:=mem_of_lookup q;rw[q]at h;have h0:some (rl X.env x k)=some .cell\/some (rl X.env x k)=some .free:=h;cases k with
   |cell=>exact .inl hm
   |free=>exact .inr hm
   |«local»=>rw[EK (by decide)]at h0;rcases h0 with h|h<;>cases h
   |globalImplicit=>rw[EK (by decide)]at h0;rcases h0 with h|h<;>cases h
   |globalExplicit=>rw[EK (by decide)]at h0;rcases h0 with h|h<;>cases h
 have ok:(aC X scope vars s H ex).Ok:=by
  refine⟨I.ok.mod,S.kind,I.ok.glob,I.ok.blt,zd _,λx y c h1 h2=>?_,λx h=>?_,λx c hf h=>?_,I.ok.hd,I.ok.frames,.inl rfl,λb hb=>⟨?_,λx c h z=>?_⟩,I.bs,le_trans I.ok.bsz I.sz,λb o e hb=>?_,λb hb z=>?_,I.stack,I.stkFree⟩
  .refine Kt (λp hp=>?_) (λp hp q hq e=>?_) (x,c) (mem_of_lookup h1) (y,c) (mem_of_lookup h2) rfl
   .exact lt_succ_of_lt (lt (cm (x:=p.1) (c:=p.2) hp).2)
   .exact I.ok.inj _ _ _ (cm (x:=p.1) (c:=p.2) hp).2 (e▸(cm (x:=q.1) (c:=q.2) hq).2)
  .rcases vis h with z|z
   .exact Iq (Fo (.inl z))
   .obtain⟨c,hc⟩:=I.ok.has x (S.fr (x,.free) z rfl);exact Iq (Fo (.inr ⟨c,EY hc (.inr z)⟩))
  .have hf':(x,NameKind.cell)∈scope.names:=qX hf;rcases dH h with⟨_,z⟩|⟨_,z⟩
   .cases uniq hf' z
   .exact Nat.le_of_succ_le z
  .exact ne_of_lt (hex b hb).2
  .rcases dH h with⟨w,_⟩|⟨_,w⟩
   .exact(hex b hb).1.2.2.2.2.1 x c w z
   .have h1:=(hex b hb).2;rw[<-z]at h1;exact absurd (lt_of_lt_of_le h1 (Nat.le_of_succ_le w)) (lt_irrefl _)
  .obtain⟨_,_,_,h1,_⟩:=(hex b hb).1;rcases h1 with z|z
   .exact I.ok.noex b o e z
   .rw[(I.ok.bs b o e).1]at z;cases z
  .obtain⟨_,h2,h3,_⟩:=(hex b hb).1;rcases qD.mp (I.stkSub b z)with w|w
   .exact h2 w
   .exact h3 w
 have cellK:∀{c:Addr}{v:Option Value},s.heap.IsCell c v->h'.IsCell c v:=λz=>z.keeps kept;refine⟨ok,rfl,I.bare,Un.kept kept,⟨_,hns,λi x v h1 h2 h3=>?_⟩,λx c h=>?_,I.hok.fresh (zd _),λx c h=>?_,λp hp=>absurd (show p∈([]:List (Addr×Obj)) from hp) (by simp),I.hok.kept kept,?_⟩
 ·--a slot of the context
  have noE:¬GY (aC X scope vars s H ex).env.scope Str.empty:=λh3=>by have h3':(relabel scope X.env).names.lookup Str.empty=some .local\/(relabel scope X.env).names.lookup Str.empty=some .cell\/(relabel scope X.env).names.lookup Str.empty=some .free:=h3;rw[Iu,S.emp]at h3';rcases h3' with z|z|z<;>cases z
  have hi:i<Z.length:=by
   by_cases hi:i<Z.length
   .exact hi
   .exfalso;rw[getElem?_append_right (not_lt.mp hi)]at h2;cases q:i-Z.length with
    |zero=>
     have e:i=X.N.length:=by have:=I.len;lia
     rw[e]at h1;have h1':(kA X.N vars)[X.N.length]?=some x:=h1;unfold kA at h1';rw[getElem?_append_right (by simp)]at h1';simp at h1';subst h1';exact noE h3
    |succ j=>rw[q,List.getElem?_cons_succ,List.getElem?_replicate]at h2;split at h2<;>cases h2
  rw[getElem?_append_left hi]at h2;rcases Vq h1 (by rw[<-I.len];exact hi)with⟨h1,hx⟩|rfl
  .have own:=S.own x (qP h1) hx;have hfree:(x,NameKind.free)∈scope.names:=by
    have h3':(relabel scope X.env).names.lookup x=some .local\/(relabel scope X.env).names.lookup x=some .cell\/(relabel scope X.env).names.lookup x=some .free:=h3;rcases h3' with z|z
    .rw[Iu]at z;cases q:scope.names.lookup x with
     |none=>rw[q]at z;cases z
     |some kk=>
      rw[q]at z;have z0:some (rl X.env x kk)=some .local:=z;have hm:=mem_of_lookup q;cases kk with
      |«local»=>exact absurd hm own.1
      |cell=>exact absurd hm own.2
      |free=>exact hm
      |globalImplicit=>rw[EK (by decide)]at z0;cases z0
      |globalExplicit=>rw[EK (by decide)]at z0;cases z0
    .rcases vis z with w|w
     .exact absurd w own.2
     .exact w
   have hout:=S.fr (x,.free) hfree rfl;obtain⟨m,hm,hl⟩:=I.loc;obtain⟨u,r,l⟩:=hl i x v h1 h2 (hout.elim (λz=>.inr (.inl z)) λz=>.inr (.inr z));refine⟨u,r,.inr ⟨?_,?_⟩⟩
   .show(relabel scope X.env).names.lookup x=some .cell\/(relabel scope X.env).names.lookup x=some .free;rw[Iu,(Iv S.nd).mpr hfree];show some (rl X.env x .free)=_\/some (rl X.env x .free)=_;rcases Uc (env:=X.env) (x:=x)with e|e<;>rw[e]
    .exact .inl rfl
    .exact .inr rfl
   .rcases l with⟨z,_⟩|⟨_,c,hc,z⟩
    .have z':X.env.scope.names.lookup x=some .local:=z;rcases hout with w|w<;>(have w':X.env.scope.names.lookup x=_:=w;rw[w']at z';cases z')
    .refine⟨c,?_,cellK z⟩;show(cellsFrom (s.heap.objs.size+1) scope.names (cU X.env.cells scope.names [])).lookup x=some c;obtain⟨c',hc'⟩:=Iq (Fo (n:=s.heap.objs.size+1) (names:=scope.names) (.inr ⟨c,EY hc (.inr hfree)⟩));rcases dH hc' with⟨w,_⟩|⟨w,_⟩
     .rw[hc]at w;cases w;exact hc'
     .cases uniq hfree w
  .exact absurd h3 noE
 .rcases hcl x c (mem_of_lookup h)with z|z
  .obtain⟨v,w⟩:=I.cell x c (cm z).2;exact⟨v,cellK w⟩
  .exact⟨none,z⟩
 .rcases dH h with⟨w,_⟩|⟨_,w⟩
  .exact I.freeC x c w
  .exact I.hok.fresh (Nat.le_of_succ_le w)
 .show _=(kA X.N vars).length;unfold kA;simp[I.len,hk]
abbrev TB:=St->Hp->(St->Hp->Prop)->Prop
def sL(X:Cx)(m:Sem Unit)(t:TB):Prop:=∀(zL:List (Addr×Obj))(s:Shared)(Z:St)(H:Hp)(Q:St->Hp->Prop),Inv X zL Z H s->t Z H Q->
 wpAny (model X.prog X.w) X.A m (λ_ s'=>∃Z' H',Inv X zL Z' H' s'/\Q Z' H') (λ_ _=>False) s
def kG(X:Cx)(ifs:List Expr)(t:TT):Prop:=∀(zL:List (Addr×Obj))(s:Shared)(Z:St)(H:Hp)(Q:Bool->Hp->Prop),Inv X zL Z H s->t Z H Q->
 wpAny (model X.prog X.w) X.A (forIn ifs true λc r=>if r=true then do let ok<-isTrue c X.env (eval c X.env);pure (ForInStep.yield ok)else pure (ForInStep.yield r)) (TP X zL Z Q) X.xe s
theorem VJ:kG X [] (λ_ H Q=>Q true H):=λzL s Z H Q I q=>wpAny_tests_nil ⟨H,I,q⟩
theorem UC(h:PT X c t):kG X [c] t:=λzL s Z H Q I q=>wpAny_tests_one (h zL s Z H Q I q)
def iZ(g:TG)(tc:TT)(tb:TB)(J:It):TB:=λZ H Q=>∃W:Nat->Nat->St->Hp->Prop,(∃m,W 0 m Z H)/\∀i m Z H,W i m Z H->
 (J.stop i H/\Q Z H)\/(J.go i H/\∃N:St->Hp->Prop,(∀Z' H',N Z' H'->∃m',m'<m/\W (i+1) m' Z' H')/\∀x H',J.yld i H x H'->g x Z H' λZ2 H2=>tc Z2 H2 λb H3=>if b=true then tb Z2 H3 N else N Z2 H3)
def lP(X:Cx)(e:Expr)(d:Nat)(zQ:Value)(tg:Expr)(tl:It->TB):Prop:=∀(zL:List (Addr×Obj))(s:Shared)(Z:St)(H:Hp)(J:It)(fp:List Addr)(it:Addr)(tn:Nat->Heap->Prop)(Q:St->Hp->Prop),Inv X zL Z H s->
 nR X.prog X.w X.K tg J fp it tn->tn 0 s.heap->(∀b∈fp,eM X zL H b)->tl J Z H Q->
 codeAny (model X.prog X.w) X.A (.compLoop e d (.ref it) zQ X.env) (λr s'=>∃Z' H',r=.ok .next/\Inv X zL Z' H' s'/\Q Z' H') s
def pJ(X:Cx)(m:Sem Fin)(c:Code)(t:TB):Prop:=∀(zL:List (Addr×Obj))(s:Shared)(Z:St)(H:Hp)(Q:St->Hp->Prop),Inv X zL Z H s->t Z H Q->
 wpAny (model X.prog X.w) X.A m (λf s'=>f=.again c/\∃Z' H',Inv X zL Z' H' s'/\Q Z' H') (λ_ _=>False) s
theorem sL.f(h:sL X m t):pJ X (m>>=λ_=>again c) c t:=λzL s Z H Q I q=>qa (zm (h zL s Z H Q I q) (λ_ s' z=>qb ⟨rfl,z⟩) λ_ _ z=>z)
theorem Et{inner:Addr->Sem Fin}(hc:X.calm=true)(hxe:X.xe=λ_ _=>False)(hg:PG X tg g)(ht:kG X ifs tc)(hr:∀it,pJ X (inner it) (.compLoop e d (.ref it) zQ X.env) tb)
  (hq:∀it,(Code.compLoop e d (.ref it) zQ X.env).quiet=true)(hun:∀it,X.A.under (.compLoop e d (.ref it) zQ X.env)=X.A)
  (hden:∀it,(model X.prog X.w).den (.compLoop e d (.ref it) zQ X.env)=(compTurn e d (.ref it) zQ X.env).onRaise (λx=>do noteFrame x X.env;theTreesLotGoes x))
  (heq:∀it,compTurn e d (.ref it) zQ X.env=(standAt ipos>>=λ_=>pyNext (.ref it)>>=λr=>match r with
   |none=>pure (.done .next)
   |some v=>letOwnedTupleGo tg (.ref it) v>>=λ_=>assign tg X.env v>>=λ_=>(forIn ifs true λc r=>if r=true then do let ok<-isTrue c X.env (eval c X.env);pure (ForInStep.yield ok)else pure (ForInStep.yield r))>>=λok=>if ok=true then inner it else again (.compLoop e d (.ref it) zQ X.env))):
  lP X e d zQ tg (iZ g tc tb):=by
 intro zL s Z H J fp it tn Q I T st f ⟨W,⟨m0,w0⟩,turn⟩;have stat:∀{H':Hp},(∀b∈fp,H' b=none)->∀b∈fp,eM X zL H' b:=λhn b hb=>⟨hn b hb,(f b hb).2⟩
 have nox:∀{α:Type}{m:Sem α}{Q:α->Shared->Prop}{E:zo}{s:Shared},wpAny (model X.prog X.w) X.A m Q X.xe s->wpAny (model X.prog X.w) X.A m Q E s:=λh=>zm h (λ_ _ q=>q) λ_ _ x=>by rw[hxe]at x;exact x.elim
 refine codeAny_loop (hq it) (λn s'=>∃i Z' H',Inv X zL Z' H' s'/\tn i s'.heap/\(∀b∈fp,H' b=none)/\W i n Z' H') ?_ m0 ⟨0,Z,H,I,st,λb hb=>(f b hb).1,w0⟩;rintro n s3 ⟨i,Z3,H3,I3,st3,fr3,w3⟩;rw[hun,hden];refine wpAny_noted ?_;rw[heq];refine qa (wpAny_standAt (qa ?_));rcases turn i n Z3 H3 w3 with⟨stop,qn⟩|⟨go,N,hN,step⟩
 .refine cB (T.done X rfl rfl rfl hc i zL s3 Z3 H3 _ I3 (stat fr3) st3 stop) λr s4⟨hr,I4⟩=>?_;subst hr;exact qb ⟨Z3,H3,rfl,I4,qn⟩
 .refine cB (T.item X rfl rfl rfl hc i zL s3 Z3 H3 _ I3 (stat fr3) st3 go) λr s4 zq=>?_;obtain⟨u,hr',h4⟩:=zq;subst hr';refine qa (cB h4 λ_ s5 zq=>?_);refine cps λ_ kk=>?_;obtain⟨x,H5,I5,r5,y5,st5,fr5⟩:=zq;refine kk ?_;have I5':=I5.pinned (stat fr5) (T.obj _ _ st5);refine qa (nox (cB (hg _ s5 Z3 H5 x u _ I5' r5 (step x H5 y5)) λ_ s6 zq=>?_));obtain⟨Z6,H6,I6,q6⟩:=zq;have again:∀{Z7:St}{H7:Hp}{s7:Shared},Inv X (zL++jF fp s5.heap) Z7 H7 s7->N Z7 H7->∃m,m<n/\∃i Z' H',Inv X zL Z' H' s7/\tn i s7.heap/\(∀b∈fp,H' b=none)/\W i m Z' H':=λ{Z7 H7 s7} I7 n7=>by obtain⟨m',hm,w7⟩:=hN Z7 H7 n7;refine⟨m',hm,i+1,Z7,H7,I7.unpinned,T.keep _ _ _ st5 λb hb o e=>(I7.pin (b,o) (qj _ (qj _ (Ia hb e)))).1,λb hb=>?_,w7⟩;obtain⟨o,e,d⟩:=T.obj _ _ st5 b hb;exact(I7.pin (b,o) (qj _ (qj _ (Ia hb e)))).2.1
  refine qa (nox (cB (ht _ s6 Z6 H6 _ I6 q6) λb s7 zq=>?_));obtain⟨H7,I7,q7⟩:=zq;cases b with
  |true=>rw[za rfl]at q7;rw[za rfl];refine zm (hr it _ s7 Z6 H7 _ I7 q7) (λf s8 zq=>?_) λ_ _ z=>z.elim;obtain⟨ef,Z8,H8,I8,n8⟩:=zq;subst ef;exact⟨rfl,again I8 n8⟩
  |false=>rw[zc q5]at q7;rw[zc q5];exact qb ⟨rfl,again I7 q7⟩
theorem PD(hl:lP X e d zQ tg tl)
  (hq:∀it,(Code.compLoop e d (.ref it) zQ X.env).quiet=true)(hun:∀it,X.A.under (.compStart e d (.ref it) zQ X.env)=X.A)
  (hden:∀it,(model X.prog X.w).den (.compStart e d (.ref it) zQ X.env)=(compStart e d (.ref it) zQ X.env).onRaise (λx=>do noteFrame x X.env;standAt theWindowsPlace))
  (heq:∀it,∃p,compStart e d (.ref it) zQ X.env=(ask>>=λc=>if c.params.followText "comprehension-iter-twice"=true then again (.compLoop e d (.ref it) zQ X.env)else
   rule "comprehension.iter-twice">>=λ_=>standAt p>>=λ_=>pyIter (.ref it)>>=λit'=>again (.compLoop e d it' zQ X.env)))(I:Inv X zL Z H s)
  (T:nR X.prog X.w X.K tg J fp it tn)(st:tn 0 s.heap)(f:∀b∈fp,eM X zL H b)(q:tl J Z H Q):
  codeAny (model X.prog X.w) X.A (.compStart e d (.ref it) zQ X.env) (λr s'=>∃Z' H',r=.ok .next/\Inv X zL Z' H' s'/\Q Z' H') s:=by
 have h0:=hl zL s Z H J fp it tn Q I T st f q;refine codeAny_of_tree ?_;rw[hun,hden];refine wpAny_notedAt ?_;obtain⟨p,e⟩:=heq it;rw[e];refine qa (wpAny_askSetting (wpAny_ite ?_));split
 .exact qb ⟨hq it,h0⟩
 .exact qa (wpAny_rule (qa (wpAny_standAt (qa (T.self X.A 0 s _ _ st (qb ⟨hq it,h0⟩))))))
end L2
namespace FL
open PySem PySem.Spec PyProof.Rows L2
inductive AV(X:Cx)(n:Nat)(D:Addr)(b:WB)(Z:St)(H:Hp)(Q:St->Hp->Prop):Prop
 |mk (F G:Hp) (U:Env) (P:Env->Prop) (zN:Rel X.K U Z F G H) (hs:Z[n]?=some (some (.ref D))) (hw:b U P NX) (hn:∀U' Z' F' H',P U'->KP (List.range (n+1)) Z Z'->zw F F'->Rel X.K U' Z' F' G H'->Q Z' H'):AV X n D b Z H Q
theorem IA:XC X T F G NX:=λ_ _ _ _ _ _ _ z=>z.elim
section
variable{K:W.Frag}
theorem zz.snoc(b:zz K F H xs l fp)(r:aN K F H v s fq):zz K F H (xs++[v]) (l++[s]) (fp++fq):=
 zz.ind (P:=λxs l fp=>zz K F H (xs++[v]) (l++[s]) (fp++fq)) (by have:=zz.cons r .nil;rwa[qC]at this) (λa _ ih=>by rw[qq];exact .cons a ih) b
theorem zz.len(r:zz K F H xs l fp):xs.length=l.length:=zz.ind (P:=λxs l _=>xs.length=l.length) rfl (λ_ _ ih=>congrArg (·+1) ih) r
theorem Rel.append{D:Addr}(r:Rel K (U++[some s]) (Z++[some v]) F G H)(hs:slot U n=some (.lst l))(hZ:Z[n]?=some (some (.ref D))):
  ∃xs,H D=some (.lst xs)/\xs.length=l.length/\Rel K (U.set n (some (.lst (l++[s])))) Z F G (upd H D (.lst (xs++[v]))):=by
 have hl:=bD r;obtain⟨fp,e,nd,ap⟩:=r.en;obtain⟨f1,f2,rfl,a,b⟩:=e.cut hl;obtain⟨v',fa,fi,fb,e1,rfl,q,up⟩:=a.at hs;rw[hZ]at e1;have e2:V.ref D=v':=by simpa using e1
 subst e2;cases q with
 |lst hD rl=>
  rename_i xs fl;cases b with
  |so sr nl=>
   cases nl;rename_i fs;refine⟨xs,hD,rl.len,?_⟩;have es:Z.set n (some (.ref D))=Z:=by
    apply ext_getElem?;intro j;by_cases hj:n=j
    .subst hj;rw[getElem?_set_self (qh.mp hZ).1,hZ]
    .rw[getElem?_set_ne hj]
   --D is nobody else's
   obtain⟨n1,n2,n12⟩:=qz.mp nd;obtain⟨na,nib,nab⟩:=qz.mp n1;obtain⟨ni,nb,nib⟩:=qz.mp nib;obtain⟨nD,nfl⟩:=qO.mp ni;have hDa:D∉fa:=λz=>nab D z D (qk _ qo) rfl;have hDb:D∉fb:=λz=>nib D qo D z rfl;have hDs:D∉fs:=λz=>n12 D (qj _ (qk _ qo)) D (by simpa using z) rfl;have apD:=ap D (qk _ (qj _ (qk _ qo)));have ne:∀{l:List Addr},D∉l->∀x∈l,upd H D (.lst (xs++[v])) x=H x:=λh x hx=>cH λz=>h (z▸hx);have new:aN K F (upd H D (.lst (xs++[v]))) (.ref D) (.lst (l++[s])) (D::(fl++fs)):=.lst kJ (zz.snoc (rl.mono (zw.refl F) (ne nD)) (sr.mono (zw.refl F) (ne hDs)));have a2:=up (F':=F) (H':=upd H D (.lst (xs++[v]))) (o:=some (.lst (l++[s]))) (u:=some (.ref D)) (zw.refl F) (λx hx=>cH λz=>(qA.mp hx).elim (λw=>hDa (z▸w)) λw=>hDb (z▸w)) (.so new .nil);rw[es]at a2;have p:(fa++((D::(fl++fs))++[]++fb)).Perm (fa++((D::fl)++fb)++(fs++[])):=by simp only[qC,qq,qR];refine List.Perm.append_left _ (List.Perm.cons _ (List.Perm.append_left _ qQ))
   refine⟨zw.updR r.fr apD.1,λx o w=>?_,_,a2,p.nodup_iff.mpr (by simpa using nd),λx hx=>ap x (by simpa using p.mem_iff.mp hx)⟩;have hx:x≠D:=λz=>by rw[z,apD.2]at w;cases w
   rw[cH hx];exact r.gr x o w
end
section
variable{D:Addr}
theorem JX(hxe:X.xe=λ_ _=>False)(h:FE X elt we):sL X (eval elt X.env>>=λx=>call (.builtin "list.append") [.ref D,x]>>=λ_=>pure ()) (AV X n D (bS n we)):=by
 intro zL s Z H Q I q;obtain⟨F,G,U,P,zN,hZ,hw,hok⟩:=q;have hp:PassesOwn (model X.prog X.w) X.A X.env X.xe:=by rw[hxe];exact PassesOwn.never
 have he:=h X.pn X.xe hp zL s Z H (λv H1=>∃F1 U1 t l,zw F F1/\Rel X.K (U1++[some t]) (Z++[some v]) F1 G H1/\slot U1 n=some (.lst l)/\l.length<big/\P (U1.set n (some (.lst (l++[t]))))) I
  ⟨F,G,U,_,NX,zN,hw,λr U1 v F1 H1 hk s1 r1 rv=>?_,IA⟩
 .have xe0:∀e s',X.xe e s'->False:=λe s' z=>by rw[hxe]at z;exact z
  refine qa (zm he (λu s1 zq=>?_) λe s' z=>xe0 e s' z);refine cps λ_ kk=>?_;obtain⟨v,H1,I1,rv,F1,U1,t,l,sm,r1,hs,hz,hP⟩:=zq;obtain⟨xs,hD,zO,r2⟩:=Rel.append r1 hs hZ;refine kk ?_;refine qa (zm (JY zL s1 Z H1 (.ref D) [v] (.ref D) [u] (λw H'=>w=.non/\H'=upd H1 D (.lst (xs++[v]))) I1 rfl (.cons rv .nil) ⟨D,xs,v,rfl,rfl,hD,by rw[zO,zj];exact lt_trans hz (by decide),rfl,rfl⟩) (λw s2 zq=>?_) λe s' z=>xe0 e s' z);obtain⟨w',H2,I2,_,_,e2⟩:=zq;subst e2;exact qb ⟨Z,_,I2,hok _ Z F1 _ hP KP.refl sm r2⟩
 .obtain⟨⟨t,U2⟩,eg,hk⟩:=cF hk;obtain⟨F2,s2,l2,r2⟩:=dN (U':=[]) (Z':=[]) r1 (bD r1) rv eg;dsimp only at hk;split at hk
  .rename_i l e;exact⟨F2,U2,t,l,s1.trans s2,r2,e,hk.1,hk.2⟩
  .exact hk.elim
theorem tN:kG X [] (mB X eV):=λzL s Z H Q I q=>VJ zL s Z H Q I (by obtain⟨F,G,U,P,PX,zN,hw,hok,hx⟩:=q;exact hok true U F H hw (zw.refl F) zN)
theorem EN(hxe:X.xe=λ_ _=>False)(h:FT X c wc):kG X [c] (mB X wc):=UC (h X.pn X.xe (by rw[hxe];exact PassesOwn.never))
theorem OW(it:kO X.K J l F)(zN:Rel X.K U Z F G H)(hZ:Z[n]?=some (some (.ref D)))
  (hw:aP g wc b l U P NX)(hok:∀U' Z' F' H',P U'->KP (List.range (n+1)) Z Z'->zw F F'->Rel X.K U' Z' F' G H'->Q Z' H'):
  iZ (Ex X (List.range (n+1)) g) (mB X wc) (AV X n D b) J Z H Q:=by
 have hZ':∀{Z':St},KP (List.range (n+1)) Z Z'->Z'[n]?=some (some (.ref D)):=λk=>by rw[k n (by simp)];exact hZ
 refine⟨λi m Z2 H2=>m=l.length-i/\i<=l.length/\∃F2 U2,KP (List.range (n+1)) Z Z2/\zw F F2/\Rel X.K U2 Z2 F2 G H2/\aP g wc b (l.drop i) U2 P NX,⟨l.length,by simp,zero_le _,F,U,KP.refl,zw.refl F,zN,by simpa using hw⟩,?_⟩;rintro i m Z2 H2 ⟨rfl,hi,F2,U2,kp,s2,r2,hw2⟩;obtain⟨it1,it2⟩:=it i U2 Z2 F2 G H2 s2 r2;by_cases hlt:i<l.length
 .obtain⟨go,yld⟩:=it1 l[i] (by simp[hlt]);refine .inr ⟨go,λZ3 H3=>i+1<=l.length/\∃F3 U3,KP (List.range (n+1)) Z Z3/\zw F F3/\Rel X.K U3 Z3 F3 G H3/\aP g wc b (l.drop (i+1)) U3 P NX,λZ3 H3 h=>⟨l.length-(i+1),by lia,rfl,h⟩,λy H3 hy=>?_⟩;obtain⟨F3,s3,r3,rp⟩:=yld y H3 hy;rw[List.drop_eq_getElem_cons hlt]at hw2;refine⟨F3,G,U2,_,_,r3.push rp,hw2,λU4 Z4 F4 H4 hp4 k4 s4 r4=>?_⟩;have kp4:=kp.trans k4;have sm4:=s2.trans (s3.trans s4);refine⟨F4,G,U4,_,_,r4,hp4,λk U5 F5 H5 hp5 s5 r5=>?_,IA⟩;cases k with
  |true=>dsimp only;rw[za rfl];exact⟨F5,G,U5,_,r5,hZ' kp4,hp5,λU' Z' F' H' h k' s r=>⟨hlt,F',U',kp4.trans k',sm4.trans (s5.trans s),r,h⟩⟩
  |false=>dsimp only;rw[zc q5];exact⟨hlt,F5,U5,kp4,sm4.trans s5,r5,hp5⟩
 .have e:i=l.length:=Nat.le_antisymm hi (not_lt.mp hlt);subst e;rw[List.drop_length]at hw2;exact .inl ⟨it2 (zd _),hok U2 Z2 F2 H2 hw2 kp s2 r2⟩
theorem OE(hxe:X.xe=λ_ _=>False)(hi:FI X tg iter wi)(hl:lP X e d (.ref D) tg (iZ (Ex X (List.range (n+1)) g) (mB X wc) (AV X n D b)))
  (hs:∀x,foldedSetIterable iter X.env x=pure x)(hm:X.A.mark none=X.A)
  (hq:∀it,(Code.compLoop e d (.ref it) (.ref D) X.env).quiet=true)(hun:∀it,X.A.under (.compStart e d (.ref it) (.ref D) X.env)=X.A)
  (hden:∀it,(model X.prog X.w).den (.compStart e d (.ref it) (.ref D) X.env)=(compStart e d (.ref it) (.ref D) X.env).onRaise (λx=>do noteFrame x X.env;standAt theWindowsPlace))
  (heq:∀it,∃p,compStart e d (.ref it) (.ref D) X.env=(ask>>=λc=>if c.params.followText "comprehension-iter-twice"=true then again (.compLoop e d (.ref it) (.ref D) X.env)else
   rule "comprehension.iter-twice">>=λ_=>standAt p>>=λ_=>pyIter (.ref it)>>=λit'=>again (.compLoop e d it' (.ref D) X.env))):
  pJ X (eval iter X.env>>=λx=>standAt ip>>=λ_=>foldedSetIterable iter X.env x>>=λx=>holding [x] (pyIter x)>>=λit=>runOwn (.compStart e d it (.ref D) X.env) X.env>>=λ_=>again c0) c0 (AV X n D (tF wi g wc b)):=by
 intro zL s Z H Q I q;obtain⟨F,G,U,P,zN,hZ,hw,hok⟩:=q;have hp:PassesOwn (model X.prog X.w) X.A X.env X.xe:=by rw[hxe];exact PassesOwn.never
 have xe0:∀e s',X.xe e s'->False:=λe s' z=>by rw[hxe]at z;exact z
 have hi':=hi X.pn X.xe hp zL s Z H (λJ H1=>iZ (Ex X (List.range (n+1)) g) (mB X wc) (AV X n D b) J Z H1 Q) I
  ⟨F,G,U,_,NX,zN,hw,λl U1 F1 H1 J hk s1 r1 it=>OW it r1 hZ hk λU' Z' F' H' a k s r=>hok U' Z' F' H' a k (s1.trans s) r,IA⟩
 refine qa (zm hi' (λx s1 h1=>?_) λe s' z=>xe0 e s' z);refine qa (wpAny_standAt (qa (zl (hs x) (qa (zk (zm h1 (λitv s2 h2=>?_) λe s' z=>xe0 e s' z))))));obtain⟨it,fp,tn,J,H2,e1,I2,T,st,f,q2⟩:=h2;subst e1;refine qa (wpAny_runOwn ?_);rw[hm];refine codeAny_mono (PD hl hq hun hden heq I2 T st f q2) λr s3 zq=>?_;obtain⟨Z3,H3,er,I3,q3⟩:=zq;subst er;exact qb ⟨rfl,Z3,H3,I3,q3⟩
end
theorem Qj{α:Type}{l:List α}{a:α}(h:l[n]?=some a):l=l.take n++a::l.drop (n+1):=by obtain⟨hn,e⟩:=qh.mp h;rw[<-e,<-List.drop_eq_getElem_cons hn,take_append_drop]
section
variable{X:Cx}
theorem HH(hmk:∀(A:Around)(E:zo)(s:Shared)(Q:zo),Q (.ref s.heap.objs.size) {s with heap:=s.heap.push {cls:=.type ty,dict:=none,data:=dat}}->wpAny (model X.prog X.w) A mk Q E s)(ho:∀(H:Hp)(h:Heap),sysModules<h.objs.size->zK X.prog X.w H (h.push {cls:=.type ty,dict:=none,data:=dat}) h.objs.size o0)(hs0:∀(F H:Hp)(p:Addr),H p=some o0->aN X.K F H (.ref p) s0 [p])(hcl:clausesOf e=⟨tg,iter,ifs,0⟩::gs)(hs:∀x,foldedSetIterable iter X.env x=pure x)
  (Sc:cP X.env.scope scope X.N vars)(hk:vars.length=k)(hi:FI X tg iter wi)
  (hb:∀(s:Shared)(H:Hp)(ex:List Addr)(D:Addr),lP (aC X scope vars s H ex) e 0 (.ref D) tg (iZ (Ex (aC X scope vars s H ex) (List.range (X.N.length+1)) g) (mB (aC X scope vars s H ex) wc) (AV (aC X scope vars s H ex) X.N.length D b)))
  (hq:∀it zQ env,(Code.compLoop e 0 (.ref it) zQ env).quiet=true)(hun:∀it zQ env,X.A.under (.compStart e 0 (.ref it) zQ env)=X.A)
  (hden:∀it zQ env,(model X.prog X.w).den (.compStart e 0 (.ref it) zQ env)=(compStart e 0 (.ref it) zQ env).onRaise (λx=>do noteFrame x env;standAt theWindowsPlace))
  (heq:∀it zQ env,∃p,compStart e 0 (.ref it) zQ env=(ask>>=λc=>if c.params.followText "comprehension-iter-twice"=true then again (.compLoop e 0 (.ref it) zQ env)else
   rule "comprehension.iter-twice">>=λ_=>standAt p>>=λ_=>pyIter (.ref it)>>=λit'=>again (.compLoop e 0 it' zQ env)))(hp:PassesOwn (model X.prog X.w) X.A X.env xe){P:WQ}(I:Inv (wp X pn xe) zL Z H s)
  (zN:Rel X.K U Z F G H)(hw:wi U (λl U1=>aP g wc b l (U1++some s0::List.replicate k none) (λU2=>zv (slot U2 X.N.length) λs=>P (.v s) (U2.take X.N.length)) NX) PX)(hx:XC (wp X pn xe) (·=Z) F G PX)
  (fin:∀(D C:Addr)(s4:Shared)(H4 F4:Hp)(m:Str->Option Value)(t:S)(U4:Env),s4.heap.Ns C m->Inv (wp X pn xe) zL Z H4 s4->H4 C=none->C≠X.env.locals->X.s₀.heap.objs.size<=C->(∀x c,X.env.cells.lookup x=some c->c≠C)->(∀p∈pn++zL,p.1≠C)->
   P (.v t) U4->zw F F4->Rel X.K (U4++[some t]) (Z++[some (.ref D)]) F4 G H4->compPost (model X.prog X.w) X.A xe use Q' (.ref D) C (.ok .next) s4):
  wpAny (model X.prog X.w) X.A (comprehension e scope X.env cpos mk false (eval iter X.env) use) Q' xe s:=by
 have hi':=hi pn xe hp zL s Z H (λJ H1=>∃F1 U1 l,zw F F1/\Rel X.K U1 Z F1 G H1/\kO X.K J l F1/\
   aP g wc b l (U1++some s0::List.replicate k none) (λU2=>zv (slot U2 X.N.length) λs=>P (.v s) (U2.take X.N.length)) NX) I
  ⟨F,G,U,_,PX,zN,hw,λl U1 F1 H1 J hk s1 r1 it=>⟨F1,U1,l,s1,r1,it,hk⟩,hx⟩
 have hfree:∀x∈scope.names,x.2=.free->∃c,X.env.cells.lookup x.1=some c:=λx hx hf=>I.ok.has x.1 (Sc.fr x hx hf);refine wpAny_comprehension_free (use:=use) hcl hs (Yz hfree) Sc.kind (λx hx hl=>(Iv Sc.nd).mpr (by obtain⟨a,b⟩:=x;have hl':b=.local:=hl;subst hl';exact hx)) (zm hi' (λv s1 h1=>zm h1 (λitv s2 h2=>?_) λ_ _ z=>z) λ_ _ z=>z);refine cps λ_ kk=>?_;obtain⟨it,fp,tn,J,H2,e1,I2,T,st,f,F1,U1,l,s1',r1,ito,hk2⟩:=h2;refine kk ?_;subst e1
 --the zQ
 refine hmk _ _ _ _ ?_;generalize hs3:({s2 with heap:=s2.heap.push {cls:=.type ty,dict:=none,data:=dat}}:Shared)=s3;have k23:∀b o,s2.heap.get? b=some o->s3.heap.get? b=some o:=λb o e=>by rw[<-hs3];exact qc _ e
 have sz3:s3.heap.objs.size=s2.heap.objs.size+1:=by rw[<-hs3];exact Heap.size_push ..
 have hD:H2 s2.heap.objs.size=none:=I2.hok.fresh (zd _);have I3:Inv (wp X pn xe) zL Z (upd H2 s2.heap.objs.size o0) s3:=by rw[<-hs3];exact I2.laid (t':=s2.toks) (λb o e=>qc _ e) (zd _) (ho _ _ I2.big)
 have r3:Rel X.K (U1++[some s0]) (Z++[some (.ref s2.heap.objs.size)]) F1 G (upd H2 s2.heap.objs.size o0):=r1.newO hD (hs0 _ _ _ kJ);have fplt:∀b∈fp,b<s2.heap.objs.size:=λb hb=>by obtain⟨o,e,_⟩:=T.obj _ _ st b hb;exact qe e
 have fne:∀b∈fp,b≠s2.heap.objs.size:=λb hb=>ne_of_lt (fplt b hb);have f3:∀b∈fp,eM (wp X pn xe) zL (upd H2 s2.heap.objs.size o0) b:=λb hb=>by obtain⟨h1,h2⟩:=f b hb;exact⟨by rw[cH (fne b hb)];exact h1,h2⟩
 refine Yk λh' kept hns hcl'=>?_;have I4:=Inv.comp (X:=wp X pn xe) (ex:=fp) I3 Sc (λb hb=>⟨f3 b hb,by rw[sz3];exact lt_succ_of_lt (fplt b hb)⟩) kept hns hcl' hk (some (.ref s2.heap.objs.size));have hZn:(Z++some (.ref s2.heap.objs.size)::List.replicate k none)[X.N.length]?=some (some (.ref s2.heap.objs.size)):=by have hl:X.N.length=Z.length:=I2.len.symm;rw[hl,getElem?_append_right (zd _),sub_self];rfl
 have r4:Rel X.K (U1++some s0::List.replicate k none) (Z++some (.ref s2.heap.objs.size)::List.replicate k none) F1 G (upd H2 s2.heap.objs.size o0):=by have:=r3.pushNs k;simpa using this
 have st4:tn 0 h':=T.keep _ _ _ st λb hb o e=>kept b o (k23 b o e);have f4:∀b∈fp,eM (aC X scope vars s3 (upd H2 s2.heap.objs.size o0) fp) [] (upd H2 s2.heap.objs.size o0) b:=λb hb=>by obtain⟨h1,h2,h3,h4,h5,h6⟩:=f3 b hb;have e:=I4.ok.exf b hb;exact⟨h1,e.1,I4.ok.exfs b hb,.inl hb,e.2,λp hp=>absurd (show p∈([]:List (Addr×Obj)) from hp) (by simp)⟩
 have go:=PD (hb s3 (upd H2 s2.heap.objs.size o0) fp s2.heap.objs.size) (λit=>hq it _ _) (λit=>hun it _ _) (λit=>hden it _ _) (λit=>heq it _ _) I4 T st4 f4
  (Q:=λZ' H'=>∃F' U',zv (slot U' X.N.length) (λs=>P (.v s) (U'.take X.N.length))/\KP (List.range (X.N.length+1)) (Z++some (.ref s2.heap.objs.size)::List.replicate k none) Z'/\zw F1 F'/\Rel X.K U' Z' F' G H')
  (OW ito r4 hZn hk2 λU' Z' F' H' a kp sm r=>⟨F',U',a,kp,sm,r⟩)
 refine codeAny_mono go λr s4 zq=>?_;refine cps λ_ kk=>?_;obtain⟨Z4,H4,er,I5,F4,U4,hn4,kp4,sm4,r5⟩:=zq;subst er;obtain⟨m,hm,_⟩:=id I5.loc;refine kk ?_;have I6:Inv (wp X pn xe) zL Z H4 s4:=Inv.call' (ch:=fp) I3 I5.os I5.base I5.hok I5.bare λb hb=>by obtain⟨h1,h2,h3,h4,h5,h6⟩:=f3 b hb;exact⟨h4,h2,h5,h6⟩
 --the block's names go
 obtain⟨t,et,hP⟩:=cF hn4;have hl:X.N.length=Z.length:=I2.len.symm;have hZ4:Z4[X.N.length]?=some (some (.ref s2.heap.objs.size)):=by rw[kp4 X.N.length (by simp)];exact hZn
 have eZ:Z4.take X.N.length=Z:=by
  apply ext_getElem?;intro j;by_cases hj:j<X.N.length
  .rw[List.getElem?_take_of_lt hj,kp4 j (by simp;lia),getElem?_append_left (by lia)]
  .rw[List.getElem?_take_eq_none (not_lt.mp hj),qT (by lia)]
 have e1:=Qj (Kv et);have e2:=Qj hZ4;rw[e1,e2,eZ]at r5;have r6:Rel X.K ((U4.take X.N.length++[some t])++U4.drop (X.N.length+1)) ((Z++[some (.ref s2.heap.objs.size)])++Z4.drop (X.N.length+1)) F4 G H4:=by simpa using r5
 have hlt:X.N.length<U4.length:=Em et;have ltC:∀{b:Addr}{o:Obj},s3.heap.get? b=some o->b≠s3.heap.objs.size:=λe=>ne_of_lt (qe e);refine fin s2.heap.objs.size s3.heap.objs.size s4 H4 F4 m t (U4.take X.N.length) hm I6 I5.free (Ne.symm (ne_of_lt I3.lt)) I3.sz (λx c e z=>?_) (λp hp z=>?_) hP (s1'.trans sm4) (r6.drop (by simp;lia))
 .obtain⟨v,o,ho,_⟩:=I3.cell x c e;exact ltC ho z
 .exact ltC (I3.pin p hp).1 z
theorem JC{P:WQ}(hok:∀r U' v F' H',P r U'->zw F F'->Rel X.K (U'++[zx r]) (Z++[some v]) F' G H'->RV Z v r->Q v H'):
  ∀(D C:Addr)(s4:Shared)(H4 F4:Hp)(m:Str->Option Value)(t:S)(U4:Env),s4.heap.Ns C m->Inv (wp X pn xe) zL Z H4 s4->H4 C=none->C≠X.env.locals->X.s₀.heap.objs.size<=C->(∀x c,X.env.cells.lookup x=some c->c≠C)->(∀p∈pn++zL,p.1≠C)->
   P (.v t) U4->zw F F4->Rel X.K (U4++[some t]) (Z++[some (.ref D)]) F4 G H4->compPost (model X.prog X.w) X.A xe none (EP (wp X pn xe) zL Z Q) (.ref D) C (.ok .next) s4:=
 λD C s4 H4 F4 m t U4 hm I n1 n2 n3 n4 n5 hP sm r=>⟨m,hm,λh'' sb=>⟨.ref D,H4,I.turned (t':=s4.toks) (λb o hb e=>(sb.2 b hb).trans e) n1 n2 (.inr (Heap.get?_none_of_le n3)) n4 n5,rfl,hok (.v t) U4 _ F4 H4 hP sm r trivial⟩⟩
theorem Uh{P:WQ}{Nx:Env->Prop}(hk:i∉ks)(hN:∀j,X.N[j]?=some y->j=i)(hi:X.N[i]?=some y)(hy:X.env.scope.names.lookup y=some .local)
  (hP:∀s U,P (.v s) U->Nx (U.set i (some s)))(hok:∀U' Z' F' H',Nx U'->KP ks Z Z'->zw F F'->Rel X.K U' Z' F' G H'->DD.nx Z' H'):
  ∀(D C:Addr)(s4:Shared)(H4 F4:Hp)(m:Str->Option Value)(t:S)(U4:Env),s4.heap.Ns C m->Inv (wp X pn xe) zL Z H4 s4->H4 C=none->C≠X.env.locals->X.s₀.heap.objs.size<=C->(∀x c,X.env.cells.lookup x=some c->c≠C)->(∀p∈pn++zL,p.1≠C)->
   P (.v t) U4->zw F F4->Rel X.K (U4++[some t]) (Z++[some (.ref D)]) F4 G H4->compPost (model X.prog X.w) X.A xe (some (assign (.Name y py) X.env)) (λ_ s'=>SP (wp X pn xe) zL DD .next s') (.ref D) C (.ok .next) s4:=
 λD C s4 H4 F4 m t U4 hm I n1 n2 n3 n4 n5 hp sm r=>by
  have hl:=bD r;have hiU:i<U4.length:=by rw[hl,I.len];exact(qh.mp hi).1
  refine wpAny_assign_Name (Pq (X:=wp X pn xe) (v:=.ref D) I hN hi (.inl hy) rfl (λs5 I5 zq=>?_) (.inr hy));obtain⟨a,sb,ha⟩:=zq;have haC:C≠a:=by
   rcases ha with e|e
   .rw[e];exact n2
   .exact Ne.symm (n4 y a e)
  refine⟨m,hm.sameBut sb haC,λh'' sb2=>⟨_,H4,I5.turned (t':=s5.toks) (λb o hb e=>(sb2.2 b hb).trans e) n1 n2 (.inr (Heap.get?_none_of_le n3)) n4 n5,?_⟩⟩;exact hok _ _ F4 H4 (hP t U4 hp) (KP.set hk) sm (r.store hl hiU)
theorem JE(A:Around)(E:zo)(s:Shared)(Q:zo)(h:Q (.ref s.heap.objs.size) {s with heap:=s.heap.push {cls:=.type ty,dict:=none,data:=dat}})(hz:sizeOk dat:=by size_fits):wpAny (model X.prog X.w) A (newObj (.type ty) dat) Q E s:=zh h hz
theorem JF(H:Hp)(h:Heap)(_:sysModules<h.objs.size):zK X.prog X.w H (h.push {cls:=.type "list",dict:=none,data:=.seq ([]:List Value).toArray}) h.objs.size (.lst []):=⟨zero_le _,[],0,.nil,qd _ rfl⟩
theorem Jl(F H:Hp)(p:Addr)(e:H p=some (.lst [])):aN X.K F H (.ref p) (.lst []) [p]:=.lst e .nil
theorem xH(hn:X.N.length=n)(hc:X.calm=true)(Sc:cP X.env.scope scope X.N vars)(hk:vars.length=k)(hi:FI X tg iter wi)
  (hg:∀s H ex,FG (aC X scope vars s H ex) (List.range (n+1)) tg g)(ht:∀s H ex,kG (aC X scope vars s H ex) ifs (mB (aC X scope vars s H ex) wc))(he:∀s H ex,FE (aC X scope vars s H ex) elt we)
  (hs:∀x,foldedSetIterable iter X.env x=pure x:=by intro _;rfl):FE X (.ListComp elt [⟨tg,iter,ifs,0⟩] scope pos) (lY n k wi g wc (bS n we)):=by
 subst hn;intro pn xe hp zL s Z H Q I q;show wpAny (model X.prog X.w) X.A (eval (.ListComp elt [⟨tg,iter,ifs,0⟩] scope pos) X.env) (EP (wp X pn xe) zL Z Q) xe s;rw[eval_ListComp];obtain⟨F,G,U,P,PX,zN,hw,hok,hx⟩:=q;refine HH (λA E s Q h=>JE A E s Q h) (s0:=.lst []) JF Jl rfl hs Sc hk hi (λs H ex D=>?_) (λ_ _ _=>rfl) (λ_ _ _=>rfl) (λ_ _ _=>rfl) (λ_ _ _=>⟨_,rfl⟩) hp I zN hw hx (JC hok);exact Et (X:=aC X scope vars s H ex) hc rfl (hg s H ex [] (λ_ _=>False) PassesOwn.never) (ht s H ex) (λ_=>(JX (X:=aC X scope vars s H ex) rfl (he s H ex)).f) (λ_=>rfl) (λ_=>rfl) (λ_=>rfl) (λ_=>rfl)
theorem JZ(hki:i∉ks)(hN:∀j,X.N[j]?=some y->j=i)(hiN:X.N[i]?=some y)(hy:X.env.scope.names.lookup y=some .local)
  (hsw:swapsWith (.ListComp elt [⟨tg,iter,ifs,0⟩] scope pos) (some (.Name y py)) spos.line X.env=pure true)
  (hn:X.N.length=n)(hc:X.calm=true)(Sc:cP X.env.scope scope X.N vars)(hk:vars.length=k)(hi:FI X tg iter wi)
  (hg:∀s H ex,FG (aC X scope vars s H ex) (List.range (n+1)) tg g)(ht:∀s H ex,kG (aC X scope vars s H ex) ifs (mB (aC X scope vars s H ex) wc))(he:∀s H ex,FE (aC X scope vars s H ex) elt we)
  (hs:∀x,foldedSetIterable iter X.env x=pure x:=by intro _;rfl):FS X ks (.Assign [.Name y py] (.ListComp elt [⟨tg,iter,ifs,0⟩] scope pos) spos) (zF (zu i) (lY n k wi g wc (bS n we))):=by
 subst hn;intro pn xe hp zL s Z H D I q;show wpAny (model X.prog X.w) X.A (exec (.Assign [.Name y py] (.ListComp elt [⟨tg,iter,ifs,0⟩] scope pos) spos) X.env) (SP (wp X pn xe) zL D) xe s;rw[exec_Assign_Name_used _ _ _ _ hsw];refine qa (wpAny_standAt (qa ?_));obtain⟨F,G,U,E,zN,hw,n,b,c,r,x⟩:=q;show wpAny _ X.A (do let _<-comprehension (.ListComp elt [⟨tg,iter,ifs,0⟩] scope pos) scope X.env _ (newList []) false (eval iter X.env) (some (assign (.Name y py) X.env))) _ _ s;refine qa (zm (HH (λA E s Q h=>JE A E s Q h) (s0:=.lst []) (P:=λr U1=>zv (give r U1) λp=>zu i p.1 p.2 E.nx) (PX:=E.ex) (g:=g) (wc:=wc) (b:=bS X.N.length we) (Q':=λ_ s'=>SP (wp X pn xe) zL D .next s') JF Jl rfl hs Sc hk hi (λs H ex D=>?_) (λ_ _ _=>rfl) (λ_ _ _=>rfl) (λ_ _ _=>rfl) (λ_ _ _=>⟨_,rfl⟩) hp I zN hw (x.mono (λZ2 z=>by rw[z];exact KP.refl) (zw.refl F) (zw.refl G))
  (Uh (P:=λr U1=>zv (give r U1) λp=>zu i p.1 p.2 E.nx) (Nx:=E.nx) hki hN hiN hy (λs U h=>h) n)) (λ_ s' hq=>qb (qb hq)) λ_ _ e=>e)
 exact Et (X:=aC X scope vars s H ex) hc rfl (hg s H ex [] (λ_ _=>False) PassesOwn.never) (ht s H ex) (λ_=>(JX (X:=aC X scope vars s H ex) rfl (he s H ex)).f) (λ_=>rfl) (λ_=>rfl) (λ_=>rfl) (λ_=>rfl)
set_option maxHeartbeats 4000000 in
theorem RS(hn:X.N.length=n)(hm:X.A.mark none=X.A)(hc:X.calm=true)(Sc:cP X.env.scope scope X.N vars)(hk:vars.length=k)(hi:FI X tg iter wi)
  (hg:∀s H ex,FG (aC X scope vars s H ex) (List.range (n+1)) tg g)(ht:∀s H ex,kG (aC X scope vars s H ex) ifs (mB (aC X scope vars s H ex) wc))
  (Bo:∀s H ex,FI (aC X scope vars s H ex) tg2 iter2 wi2)(hg2:∀s H ex,FG (aC X scope vars s H ex) (List.range (n+1)) tg2 g2)(ht2:∀s H ex,kG (aC X scope vars s H ex) ifs2 (mB (aC X scope vars s H ex) wc2))
  (he:∀s H ex,FE (aC X scope vars s H ex) elt we)
  (hs:∀x,foldedSetIterable iter X.env x=pure x:=by intro _;rfl)(hs2:∀env x,foldedSetIterable iter2 env x=pure x:=by intro _ _;rfl):FE X (.ListComp elt [⟨tg,iter,ifs,0⟩,⟨tg2,iter2,ifs2,0⟩] scope pos) (lY n k wi g wc (tF wi2 g2 wc2 (bS n we))):=by
 subst hn;intro pn xe hp zL s Z H Q I q;show wpAny (model X.prog X.w) X.A (eval (.ListComp elt [⟨tg,iter,ifs,0⟩,⟨tg2,iter2,ifs2,0⟩] scope pos) X.env) (EP (wp X pn xe) zL Z Q) xe s;rw[eval_ListComp];obtain⟨F,G,U,P,PX,zN,hw,hok,hx⟩:=q;refine HH (λA E s Q h=>JE A E s Q h) (s0:=.lst []) JF Jl rfl hs Sc hk hi (λs H ex D=>?_) (λ_ _ _=>rfl) (λ_ _ _=>rfl) (λ_ _ _=>rfl) (λ_ _ _=>⟨_,rfl⟩) hp I zN hw hx (JC hok);have inner:lP (aC X scope vars s H ex) (.ListComp elt [⟨tg,iter,ifs,0⟩,⟨tg2,iter2,ifs2,0⟩] scope pos) 1 (.ref D) tg2 _:=
  Et (X:=aC X scope vars s H ex) hc rfl (hg2 s H ex [] (λ_ _=>False) PassesOwn.never) (ht2 s H ex) (λ_=>(JX (X:=aC X scope vars s H ex) (n:=X.N.length) rfl (he s H ex)).f) (λ_=>rfl) (λ_=>rfl) (λ_=>rfl) (λ_=>rfl)
 exact Et (X:=aC X scope vars s H ex) hc rfl (hg s H ex [] (λ_ _=>False) PassesOwn.never) (ht s H ex) (λ_=>OE (X:=aC X scope vars s H ex) rfl (Bo s H ex) inner (hs2 _) hm (λ_=>rfl) (λ_=>rfl) (λ_=>rfl) (λ_=>⟨_,rfl⟩)) (λ_=>rfl) (λ_=>rfl) (λ_=>rfl) (λ_=>rfl)
end
section
variable{K:W.Frag}
theorem El{x:Str}(e:x.cps.toList=l):x.length=l.length:=by rw[<-e];rfl
theorem Tq{x y:Str}(e:x.cps.toList=l)(e':y.cps.toList=m):(x++y).cps.toList=l++m:=by show(x.cps++y.cps).toList=_;rw[toList_append,e,e']
theorem bN.int(h:bN K F H v (.int i)):v=.int i:=by
 rcases h with h|⟨_,_,_,_,h,_⟩|⟨_,_,_,_,_,h,_⟩|⟨_,_,_,_,_,h,_⟩
 .cases h;rfl
 .cases h
 .cases h
 .cases h
theorem bN.str(h:bN K F H v (.str l)):∃x,v=.str x/\x.cps.toList=l/\l.length<=16777216:=by
 rcases h with h|⟨_,_,_,_,h,_⟩|⟨_,_,_,_,_,h,_⟩|⟨_,_,_,_,_,h,_⟩
 .cases h with
  |str e z=>exact⟨_,rfl,e,z⟩
 .cases h
 .cases h
 .cases h
theorem bN.tup(h:bN K F H v (.tup l)):∃a xs,v=.ref a/\F a=some (.tup xs)/\zJ K F xs l:=by
 rcases h with h|⟨_,_,_,_,h,_⟩|⟨_,_,_,_,_,h,_⟩|⟨_,_,_,_,_,h,_⟩
 .cases h with
  |tup e r=>exact⟨_,_,rfl,e,r⟩
 .cases h
 .cases h
 .cases h
theorem bN.lst(sm:zw F H)(h:bN K F H v (.lst l)):∃a xs,v=.ref a/\cA K H a xs/\zJ K F xs l:=by
 rcases h with h|⟨a,xs,ds,e1,h,e2,r⟩|⟨_,_,_,_,_,h,_⟩|⟨_,_,_,_,_,h,_⟩
 .cases h with
  |lst e r=>exact⟨_,_,rfl,cA.mono sm e,r⟩
 .cases h;exact⟨a,xs,e1,cA.of e2,r⟩
 .cases h
 .cases h
theorem zJ.append(a:zJ K F xs l)(r:zJ K F ys m):zJ K F (xs++ys) (l++m):=zJ.ind (P:=λxs l=>zJ K F (xs++ys) (l++m)) r (λa _ ih=>.cons a ih) a
theorem Rel.newLD(r:Rel K U Z F G H)(hp:H p=none)(rx:zJ K F xs l):Rel K (U++[some (.lst (l.map .sh))]) (Z++[some (.ref p)]) F G (upd H p (.lst xs)):=by
 have sr:∀{xs:List V}{l:List D},zJ K F xs l->zz K F (upd H p (.lst xs)) xs (l.map .sh) []:=by
  intro xs l h;generalize upd H p (.lst xs)=H';induction xs generalizing l with
  |nil=>cases h;exact .nil
  |cons x xs ih=>cases h with
   |cons a b=>have:=zz.cons (aN.sh (H:=H') a) (ih b);exact this
 refine r.newO hp (.lst kJ ?_);have:=sr rx;exact this
def Bd(K:W.Frag):R2:=λx y H Q=>∃l b xs zs,x=.ref l/\y=.ref b/\cA K H l xs/\cA K H b zs/\xs.length+zs.length<=sizeLine/\∀p,H p=none->Q (.ref p) (upd H p (.lst (xs++zs)))
theorem Tf:OpR X (binaryOp .Add) (Bd X.K):=by
 intro zL s Z H x y v u Q I rx ry h;obtain⟨l,b,xs,zs,rfl,rfl,hl,hb,hz,q⟩:=h;cases rx;cases ry;obtain⟨zP,r1,⟨⟨cls,dd,data,sl⟩,n,ho,hc,hd0,hd⟩,_⟩:=I.list hl;obtain⟨its2,r2,⟨⟨cls2,dd2,data2,sl2⟩,n2,ho2,hc2,hd02,hd2⟩,_⟩:=I.list hb;simp only at hc hd0 hd hc2 hd02 hd2;subst hc hd0 hd hc2 hd02 hd2;refine concat_meets ⟨_,ho,rfl⟩ ⟨_,ho2,rfl⟩ noFill_list_add seq_list_add PySem.F.slot_list_add PySem.F.entry_list_add (PySem.F.args_list_add_2 _ _) (list_addW l b zP.toArray its2.toArray n n2 none none sl sl2 (by rw[qt,qt,<-r1.length,<-r2.length];exact hz)) ⟨ho,ho2,?_⟩;have ea:zP.toArray++its2.toArray=(zP++its2).toArray:=by simp
 rw[ea];exact⟨.ref _,_,I.lnew (t':=s.toks) (r1.append r2) (by rw[qr];exact hz),rfl,q _ I.fresh⟩
def vF(K:W.Frag):R2:=λx y H Q=>∃a b xs ys,x=.ref a/\y=.ref b/\bX K H a xs/\bX K H b ys/\xs.length+ys.length<=sizeLine/\
 (xs=[]->Q (.ref b) H)/\(xs≠[]->ys=[]->Q (.ref a) H)/\(xs≠[]->ys≠[]->∀p,H p=none->Q (.ref p) (upd H p (.tup (xs++ys))))
theorem Ut:OpR X (binaryOp .Add) (vF X.K):=by
 intro zL s Z H x y v u Q I rx ry h;obtain⟨a,b,xs,ys,rfl,rfl,ha,hb,hz,q0,q1,q2⟩:=h;by_cases hx:xs=[]
 .cases rx;cases ry;obtain⟨zP,r1,p1,_⟩:=I.tuple ha;obtain⟨its2,r2,p2,_⟩:=I.tuple hb;obtain⟨⟨cls,dd,data,sl⟩,ho,hc,n,hd⟩:=id p1;obtain⟨⟨cls2,dd2,data2,sl2⟩,ho2,hc2,n2,hd2⟩:=id p2;simp only at hc hd hc2 hd2;subst hc hd hc2 hd2;have hi:zP=[]:=r1.nil_iff.mpr hx;exact concat_meets ⟨_,ho,rfl⟩ ⟨_,ho2,rfl⟩ noFill_tuple_add seq_tuple_add PySem.F.slot_tuple_add PySem.F.entry_tuple_add (PySem.F.args_tuple_add_2 _ _)
   (tuple_addW0 a b zP.toArray its2.toArray n n2 dd dd2 sl sl2 (by simp[hi])) ⟨ho,ho2,.ref b,H,I,rfl,q0 hx⟩
 .exact Ui zL s Z H _ _ v u Q I rx ry ⟨a,b,xs,ys,rfl,rfl,ha,hb,hx,hz,q1 hx,q2 hx⟩
def zS:R2:=λx y H Q=>∃i j,x=.str i/\y=.str j/\i.length+j.length<=sizeLine/\Q (.str (i++j)) H
def rO(K:W.Frag):R2:=λx y H Q=>Bc (λi j=>.int (i+j)) x y H Q\/(zS x y H Q\/(Bd K x y H Q\/vF K x y H Q))
theorem XF:OpR X (binaryOp .Add) (rO X.K):=OpR.or Sd (OpR.or XM (OpR.or Tf Ut))
theorem HW(h:n<=big):n<=sizeLine:=by rw[zj];exact le_trans h (by decide)
theorem VQ:mL K (rO K) aQ:=by
 intro Z U F G H x y p q s Q zN ex ey e hq;unfold aQ at e;split at e
 .cases e;have h1:=ex.int;have h2:=ey.int;subst h1 h2;exact .inl ⟨_,_,rfl,rfl,hq _ F H (zw.refl F) (zN.push (.int _))⟩
 .rename_i a b;split at e
  .rename_i hz;cases e;obtain⟨x,rfl,e1,z1⟩:=ex.str;obtain⟨y,rfl,e2,z2⟩:=ey.str;refine .inr (.inl ⟨_,_,rfl,rfl,by rw[El e1,El e2];exact HW hz,hq _ F H (zw.refl F) (zN.push (.str (Tq e1 e2) (by rw[qr];exact le_trans hz (by decide))))⟩)
  .cases e
 .rename_i a b;split at e
  .rename_i hz;cases e;obtain⟨l,xs,rfl,h1,r1⟩:=ex.lst zN.fr;obtain⟨m,ys,rfl,h2,r2⟩:=ey.lst zN.fr;refine .inr (.inr (.inl ⟨l,m,xs,ys,rfl,rfl,h1,h2,by rw[r1.len,r2.len];exact HW hz,λp hp=>?_⟩));exact hq _ F _ (zw.refl F) (zN.newLD hp (r1.append r2))
  .cases e
 .rename_i a b;split at e
  .rename_i hz;cases e;obtain⟨l,xs,rfl,h1,r1⟩:=ex.tup;obtain⟨m,ys,rfl,h2,r2⟩:=ey.tup;refine .inr (.inr (.inr ⟨l,m,xs,ys,rfl,rfl,bX.of (zN.fr _ _ h1),bX.of (zN.fr _ _ h2),by rw[r1.len,r2.len];exact HW hz,λhx=>?_,λ_ hy=>?_,λ_ _ p hp=>?_⟩))
   .subst hx;cases r1;exact hq _ F H (zw.refl F) (zN.push (.tup h2 r2))
   .subst hy;cases r2;rw[qC]at hq;exact hq _ F H (zw.refl F) (zN.push (.tup h1 r1))
   .have n2:=(zN.free hp).1;exact hq _ _ _ (zw.upd n2) ((zN.newF hp).push (.tup kJ ((r1.append r2).mono (zw.upd n2))))
  .cases e
 .cases e
theorem Fg{g:Int->Int->Int}(ho:∀p q s,o p q=some s->∃i j,p=.int i/\q=.int j/\C i j/\s=.sh (.int (g i j))):mL K (rI C λi j=>.int (g i j)) o:=by intro Z U F G H x y p q s Q zN ex ey e hq;obtain⟨i,j,rfl,rfl,hc,rfl⟩:=ho p q s e;have h1:=ex.int;have h2:=ey.int;subst h1 h2;exact⟨i,j,rfl,rfl,hc,hq _ F H (zw.refl F) (zN.push (.int _))⟩
theorem Vw:mL K (rI (λ_ _=>True) λi j=>.int (i-j)) fB:=Fg λp q s e=>by
 unfold fB at e;split at e
 .cases e;exact⟨_,_,rfl,rfl,trivial,rfl⟩
 .cases e
theorem Sy:OpR X (binaryOp .Sub) (rI (λ_ _=>True) λi j=>.int (i-j)):=Gg λ_ _ _ _ _ _ _ _ q=>sub_int q
theorem UO:mL K (rI xF λi j=>.int (i*j)) vN:=Fg λp q s e=>by
 unfold vN at e;split at e
 .rename_i i j;split at e
  .rename_i h;cases e;refine⟨_,_,rfl,rfl,?_,rfl⟩;simp only[rQ,or_eq_true,and_eq_true,qW]at h;exact h
  .cases e
 .cases e
theorem UA:mL K (rI (λ_ j=>0<j) λi j=>.int (i %j)) iH:=Fg λp q s e=>by
 unfold iH at e;split at e
 .split at e
  .rename_i h;cases e;exact⟨_,_,rfl,rfl,h,rfl⟩
  .cases e
 .cases e
theorem VU:mL K (rI Ht λi j=>.int (i^j.toNat)) vM:=Fg λp q s e=>by
 unfold vM at e;split at e
 .split at e
  .rename_i h;cases e;exact⟨_,_,rfl,rfl,⟨h.1,by lia,h.2.2⟩,rfl⟩
  .cases e
 .cases e
def Bs(i j:Int):Prop:=0<j/\j<18446744073709551616
theorem Vt:OpR X (binaryOp .FloorDiv) (rI Bs λi j=>.int (i/j)):=Gg λi j _ _ _ _ _ hc q=>by
 have h1:(0:Int)<j:=hc.1;have h2:j<18446744073709551616:=hc.2;refine floordiv_int (by lia) ?_ (.inl (PyProof.noPylong_of_log2 ?_))
 .rw[Int.fdiv_eq_ediv_of_nonneg _ (by lia)];exact q
 .have h0:j.natAbs≠0:=by lia
  have:j.natAbs.log2<64:=(Nat.log2_lt h0).mpr (by lia);lia
theorem Wi:mL K (rI Bs λi j=>.int (i/j)) lE:=Fg λp q s e=>by
 unfold lE at e;split at e
 .split at e
  .rename_i h;cases e;exact⟨_,_,rfl,rfl,h,rfl⟩
  .cases e
 .cases e
end
theorem dR(ha:FE X a wa)(hb:FE X b wb):FE X (.BinOp a .Add b pos) (zC aQ wa wb):=Ea (λ_ _=>XF) VQ ha hb
theorem xJ(ha:FE X a wa)(hb:FE X b wb):FE X (.BinOp a .Sub b pos) (zC fB wa wb):=Ea (λ_ _=>Sy) Vw ha hb
theorem AL(ha:FE X a wa)(hb:FE X b wb):FE X (.BinOp a .Mod b pos) (zC iH wa wb):=Ea (λ_ _=>Sl) UA ha hb
theorem Ny(ha:FE X a wa)(hb:FE X b wb):FE X (.BinOp a .FloorDiv b pos) (zC lE wa wb):=Ea (λ_ _=>Vt) Wi ha hb
theorem Sh(ha:FE X a wa)(hb:FE X b wb):FE X (.BinOp a .Pow b pos) (zC vM wa wb):=Ea (λ_ _=>SO) VU ha hb
section
open PySem.SeqAt
theorem Wq(h:bG (.tup l) (.tup m)=false):cN l m=false:=h
theorem Ij:∀{l m:List D}{j:Nat}{a b:D},cN l m=false->l[j]?=some a->m[j]?=some b->bG a b=false
 |[],_,_,_,_,_,h,_=>by simp at h
 |_::_,[],_,_,_,_,_,h=>by simp at h
 |x::l,y::m,0,a,b,h,h1,h2=>by simp at h1 h2;subst h1 h2;have h':(bG x y||cN l m)=false:=h;rw[Bool.or_eq_false_iff]at h';exact h'.1
 |x::l,y::m,j+1,a,b,h,h1,h2=>by have h':(bG x y||cN l m)=false:=h;rw[Bool.or_eq_false_iff]at h';exact Ij h'.2 (by simpa using h1) (by simpa using h2)
theorem HI:∀{l:List D}{j:Nat}{a:D},l[j]?=some a->hU a<=bM l
 |[],_,_,h=>by simp at h
 |x::l,0,a,h=>by simp at h;subst h;show hU x<=max (hU x) (bM l);lia
 |x::l,j+1,a,h=>by have:=HI (l:=l) (j:=j) (a:=a) (by simpa using h);show hU a<=max (hU x) (bM l);lia
open Classical in
theorem HB{l m:List D}(n:Nat)(hn:n=min l.length m.length):((List.range n).all (λj=>decide (l[j]?=m[j]?))&&(l.length==m.length))=decide (l=m):=by
 by_cases h:l=m
 .subst h;simp
 .rw[qV h];by_cases hl:l.length=m.length
  .have:(List.range n).all (λj=>decide (l[j]?=m[j]?))=false:=by
    cases q:(List.range n).all (λj=>decide (l[j]?=m[j]?))with
    |false=>rfl
    |true=>
     exfalso;apply h;apply ext_getElem?;intro j;by_cases hj:j<n
     .exact qX (qL.mp q j (by simpa using hj))
     .rw[qT (by lia),qT (by lia)]
   rw[this];rfl
  .have:(l.length==m.length)=false:=by simpa using hl
   rw[this,Bool.and_false]
inductive Sc:V->D->Prop
 |non:Sc .non .non
 |bl (b:Bool):Sc (.bl b) (.bl b)
 |int (i:Int):Sc (.int i) (.int i)
 |str {x:Str} {l:List Nat}:x.cps.toList=l->Sc (.str x) (.str l)
theorem MM{K:W.Frag}(r:aS K H v d)(hc:bG d e=false)(h1:∀l,d≠.tup l)(h2:∀l,d≠.lst l):Sc v d:=by
 cases r with
 |tup=>exact absurd rfl (h1 _)
 |lst=>exact absurd rfl (h2 _)
 |dK=>cases e<;>cases hc
 |dT=>cases e<;>cases hc
 |st=>cases e<;>cases hc
 |exc=>cases e<;>cases hc
 |non=>exact .non
 |bl=>exact .bl _
 |int=>exact .int _
 |str e _=>exact .str e
theorem Nh{K:W.Frag}(r:aS K H u e)(s:Sc v d)(hc:bG d e=false):Sc u e:=by
 cases r with
 |non=>exact .non
 |bl=>exact .bl _
 |int=>exact .int _
 |str e _=>exact .str e
 |_=>cases s<;>cases hc
open Classical in
theorem Oe{K:W.Frag}(r1:aS K H v d)(r2:aS K H u e)(rv:zA v vv)(ru:zA u uu)(hc:bG d e=false)(h1:∀l,d≠.tup l)(h2:∀l,d≠.lst l):
  EqAt A s vv uu (decide (d=e))/\RcAt A s vv uu (decide (d=e)):=by
 have s1:=MM r1 hc h1 h2;have s2:=Nh r2 s1 hc
 clear r1 r2 h1 h2
 cases s1 with
 |non=>
  cases rv;cases s2 with
  |non=>cases ru;simp;exact⟨EqAt.same _,RcAt.none_none⟩
  |bl b=>cases ru;simp;exact⟨EqAt.none_bool _,RcAt.none_bool _⟩
  |int i=>obtain⟨t,rfl⟩:=ru;simp;exact⟨EqAt.none_int _ _,RcAt.none_int _ _⟩
  |str e=>obtain⟨t,rfl⟩:=ru;simp;exact⟨EqAt.none_str _ _,RcAt.none_str _ _⟩
 |bl a=>
  cases rv;cases s2 with
  |non=>cases ru;simp;exact⟨EqAt.bool_none _,RcAt.bool_none _⟩
  |bl b=>
   cases ru;have e:(decide (D.bl a=D.bl b))=(a==b):=by cases a<;>cases b<;>simp
   rw[e];exact⟨EqAt.bool_bool _ _,RcAt.bool_bool _ _⟩
  |str e=>obtain⟨t,rfl⟩:=ru;simp;exact⟨EqAt.bool_str _ _ _,RcAt.bool_str _ _ _⟩
  |int=>cases hc
 |int i=>
  obtain⟨t,rfl⟩:=rv;cases s2 with
  |non=>cases ru;simp;exact⟨EqAt.int_none _ _,RcAt.int_none _ _⟩
  |int j=>
   obtain⟨t',rfl⟩:=ru;have e:(decide (D.int i=D.int j))=(i==j):=by by_cases h:i=j<;>simp[h]
   rw[e];exact⟨EqAt.int_int _ _ _ _,RcAt.int_int _ _ _ _⟩
  |str e=>obtain⟨t',rfl⟩:=ru;simp;exact⟨EqAt.int_str _ _ _ _,RcAt.int_str _ _ _ _⟩
  |bl=>cases hc
 |str e1=>
  obtain⟨t,rfl⟩:=rv;cases s2 with
  |non=>cases ru;simp;exact⟨EqAt.str_none _ _,RcAt.str_none _ _⟩
  |bl b=>cases ru;simp;exact⟨EqAt.str_bool _ _ _,RcAt.str_bool _ _ _⟩
  |int j=>obtain⟨t',rfl⟩:=ru;simp;exact⟨EqAt.str_int _ _ _ _,RcAt.str_int _ _ _ _⟩
  |str e2=>
   obtain⟨t',rfl⟩:=ru;rename_i x l y m;have e:(decide (D.str l=D.str m))=(x==y):=by
    by_cases h:x=y
    .subst h;rw[<-e1,<-e2];simp
    .have hb:(x==y)=false:=by simpa using h
     rw[hb];refine qV λq=>h ?_;obtain⟨⟨a⟩⟩:=x;obtain⟨⟨b⟩⟩:=y;have a1:a=l:=e1;have b1:b=m:=e2;rw[a1,b1,D.str.inj q]
   rw[e];exact⟨EqAt.str_str _ _ _ _,RcAt.str_str _ _ _ _⟩
theorem Bw(r:zI xs us)(h:j<us.toArray.size):∃x,xs[j]?=some x/\zA x us.toArray[j]:=by
 have hl:=r.length;have hj:j<us.length:=by simpa using h
 have hj':j<xs.length:=by lia
 obtain⟨u,hu,ru⟩:=r.get (i:=j) (x:=xs[j]) (by simp[hj']);refine⟨xs[j],by simp[hj'],?_⟩;have:us.toArray[j]=u:=by have:=qh.mp hu;simpa using this.2
 rw[this];exact ru
mutual
theorem aS.uniq(I:Inv X zL Z H s)(r:aS X.K H v d)(q:aS X.K H v e)(hc:bG d e=false):d=e:=by
 cases r with
 |non=>cases q;rfl
 |bl _=>cases q;rfl
 |int _=>cases q;rfl
 |str e1 _=>cases q with|str e2 _=>rw[<-e1,<-e2]
 |tup e1 r1=>cases q with
  |tup e2 r2=>cases I.tuple_inj (bX.of e1) (bX.of e2);rw[zJ.uniq I r1 r2 hc]
  |_=>cases hc
 |lst e1 r1=>cases q with
  |lst e2 r2=>cases I.list_inj e1 e2;rw[zJ.uniq I r1 r2 hc]
  |_=>cases hc
 |dK=>cases e<;>cases hc
 |dT=>cases e<;>cases hc
 |st=>cases e<;>cases hc
 |exc=>cases e<;>cases hc
theorem zJ.uniq(I:Inv X zL Z H s)(r:zJ X.K H v d)(q:zJ X.K H v e)(hc:cN d e=false):d=e:=by
 cases r with
 |nil=>cases q;rfl
 |@cons _ a _ l a1 b1=>cases q with
  |@cons _ b _ m a2 b2=>have h':(bG a b||cN l m)=false:=hc;rw[Bool.or_eq_false_iff]at h';rw[aS.uniq I a1 a2 h'.1,zJ.uniq I b1 b2 h'.2]
end
open Classical in
theorem Jc:∀(n:Nat){A:Around}{v u:V}{vv uu:Value}{d e:D},hU d<=n->Inv X zL Z H s->aS X.K H v d->aS X.K H u e->zA v vv->zA u uu->bG d e=false->A.units+n<cLine->
  EqAt A s vv uu (decide (d=e))/\RcAt A s vv uu (decide (d=e)):=by
 intro n;induction n with
 |zero=>intro A v u vv uu d e hd I r1 r2 rv ru hc hu;exact Oe r1 r2 rv ru hc (λl z=>by subst z;exact absurd hd (by show¬bM l+1<=0;lia)) (λl z=>by subst z;exact absurd hd (by show¬bM l+1<=0;lia))
 |succ n ih=>
  intro A v u vv uu d e hd I r1 r2 rv ru hc hu;have hin:A.in1.units+n<cLine:=by show A.units+1+n<cLine;lia
  cases r1 with
  |tup e1 q1=>
   cases r2 with
   |tup e2 q2=>
    rename_i a xs l b ys m;cases rv;cases ru;obtain⟨zP,w1,p1,_⟩:=I.tuple (bX.of e1);obtain⟨its2,w2,p2,_⟩:=I.tuple (bX.of e2);have hdl:bM l<=n:=by have:bM l+1<=n+1:=hd;lia
    have el1:zP.toArray.size=l.length:=by rw[qt,<-w1.length,q1.len]
    have el2:its2.toArray.size=m.length:=by rw[qt,<-w2.length,q2.len]
    have items:∀j(h1:j<zP.toArray.size)(h2:j<its2.toArray.size),EqAt A.in1 s zP.toArray[j] its2.toArray[j] (decide (l[j]?=m[j]?)):=λj h1 h2=>by
     obtain⟨x,hx,rx⟩:=Bw w1 h1;obtain⟨y,hy,ry⟩:=Bw w2 h2;have hj1:j<l.length:=by lia
     have hj2:j<m.length:=by lia
     obtain⟨x',hx',rp1⟩:=q1.get (i:=j) (d:=l[j]) (by simp[hj1]);obtain⟨y',hy',rp2⟩:=q2.get (i:=j) (d:=m[j]) (by simp[hj2]);rw[hx]at hx';cases hx';rw[hy]at hy';cases hy';have:=(ih (A:=A.in1) (le_trans (HI (l:=l) (j:=j) (by simp[hj1])) hdl) I rp1 rp2 rx ry (Ij (j:=j) (a:=l[j]) (b:=m[j]) (Wq hc) (by simp[hj1]) (by simp[hj2])) hin).1;have e:decide (l[j]?=m[j]?)=decide (l[j]=m[j]):=by simp[hj1,hj2]
     rw[e];exact this
    have hrc:RcAt A s (.ref a) (.ref b) (decide (D.tup l=D.tup m)):=by
     have:=RcAt.tuples (s:=s) (show s.heap.IsTuple a zP.toArray from p1) (show s.heap.IsTuple b its2.toArray from p2) (by lia) items;rw[el1,el2,HB (l:=l) (m:=m) _ rfl]at this;have e:decide (D.tup l=D.tup m)=decide (l=m):=by by_cases h:l=m<;>simp[h]
     rw[e];exact this
    refine⟨?_,hrc⟩;by_cases hab:a=b
    .subst hab;have hxy:l=m:=by have z:=aS.uniq I (.tup e1 q1) (.tup e2 q2) hc;cases z;rfl
     subst hxy;simp;exact EqAt.same _
    .exact EqAt.of_refs hab hrc
   |_=>cases hc
  |lst e1 q1=>
   cases r2 with
   |lst e2 q2=>
    rename_i a xs l b ys m;cases rv;cases ru;obtain⟨zP,w1,p1,_⟩:=I.list e1;obtain⟨its2,w2,p2,_⟩:=I.list e2;have hdl:bM l<=n:=by have:bM l+1<=n+1:=hd;lia
    have el1:zP.toArray.size=l.length:=by rw[qt,<-w1.length,q1.len]
    have el2:its2.toArray.size=m.length:=by rw[qt,<-w2.length,q2.len]
    have items:∀j(h1:j<zP.toArray.size)(h2:j<its2.toArray.size),EqAt A.in1 s zP.toArray[j] its2.toArray[j] (decide (l[j]?=m[j]?)):=λj h1 h2=>by
     obtain⟨x,hx,rx⟩:=Bw w1 h1;obtain⟨y,hy,ry⟩:=Bw w2 h2;have hj1:j<l.length:=by lia
     have hj2:j<m.length:=by lia
     obtain⟨x',hx',rp1⟩:=q1.get (i:=j) (d:=l[j]) (by simp[hj1]);obtain⟨y',hy',rp2⟩:=q2.get (i:=j) (d:=m[j]) (by simp[hj2]);rw[hx]at hx';cases hx';rw[hy]at hy';cases hy';have hc':cN l m=false:=hc;have:=(ih (A:=A.in1) (le_trans (HI (l:=l) (j:=j) (by simp[hj1])) hdl) I rp1 rp2 rx ry (Ij (j:=j) (a:=l[j]) (b:=m[j]) hc' (by simp[hj1]) (by simp[hj2])) hin).1;have e:decide (l[j]?=m[j]?)=decide (l[j]=m[j]):=by simp[hj1,hj2]
     rw[e];exact this
    have hrc:RcAt A s (.ref a) (.ref b) (decide (D.lst l=D.lst m)):=by
     have e:decide (D.lst l=D.lst m)=decide (l=m):=by by_cases h:l=m<;>simp[h]
     rw[e];by_cases zO:l.length=m.length
     .have:=RcAt.lists (s:=s) p1.isList p2.isList (by lia) (by lia) items;rw[el1]at this;have e2:=HB (l:=l) (m:=m) l.length (by lia);have e3:(l.length==m.length)=true:=by simpa using zO
      rw[e3,Bool.and_true]at e2;rw[<-e2];exact this
     .have:=RcAt.lists_lengths (A:=A) (s:=s) p1.isList p2.isList (by simp only[el1,el2];simpa using zO) (by lia);have e2:decide (l=m)=false:=qV λz=>zO (by rw[z]);rw[e2];exact this
    refine⟨?_,hrc⟩;by_cases hab:a=b
    .subst hab;have hxy:l=m:=by have z:=aS.uniq I (.lst e1 q1) (.lst e2 q2) hc;cases z;rfl
     subst hxy;simp;exact EqAt.same _
    .exact EqAt.of_refs hab hrc
   |_=>cases hc
  |_=>exact Oe (by first|exact .non|exact .bl _|exact .int _|(rename_i e z;exact .str e z)|(rename_i e k r;exact .dK e k r)|(rename_i e k r;exact .dT e k r)|(rename_i e r;exact .st e r)|(rename_i e k z;exact .exc e k z)) r2 rv ru hc (λl z=>by cases z) (λl z=>by cases z)
end
section
variable{K:W.Frag}
open PySem.SeqAt
open Classical in
def Cy(K:W.Frag):R2:=λx y H Q=>∃p q,aS K H x p/\aS K H y q/\bG p q=false/\hU p<=30/\Q (.bl (decide (p=q))) H
theorem tO(hu:X.A.units+31<cLine):OpR X (compareOp .Eq) (Cy X.K):=by intro zL s Z H x y v u Q I rx ry h;obtain⟨p,q,r1,r2,hc,hd,hq⟩:=h;exact(Jc 30 hd I r1 r2 rx ry hc (by lia)).2 X.prog X.w X.xe _ ⟨.bl _,H,I,rfl,hq⟩
theorem Nc(h:gB p q=some k):bG p q=false/\hU p<=30:=by grind[gB]
open Classical in
theorem Of(h:gB p q=some k):k=decide (p=q):=by
 unfold gB at h;split at h
 .cases h
 .exact(qg h).symm
theorem tY:fK K (Cy K) gB:=by intro H x y p q k Q r1 r2 e hq;obtain⟨h1,h2⟩:=Nc e;have:=Of e;subst this;exact⟨p,q,r1,r2,h1,h2,hq⟩
open Classical in
def FY(K:W.Frag):R2:=λx y H Q=>∃p q,aS K H x p/\aS K H y q/\bG p q=false/\hU p<=30/\Q (.bl (!decide (p=q))) H
theorem Ov(I:Inv X zL Z H s)(q1:zJ X.K H xs l)(q2:zJ X.K H ys m)(w1:zI xs us)(w2:zI ys ws)(hc:cN l m=false)(hd:bM l<=30)(hu:A.units+30<cLine):
  ∀j(h1:j<us.toArray.size)(h2:j<ws.toArray.size),EqAt A s us.toArray[j] ws.toArray[j] (open Classical in decide (l[j]?=m[j]?)):=λj h1 h2=>by
 obtain⟨x,hx,rx⟩:=Bw w1 h1;obtain⟨y,hy,ry⟩:=Bw w2 h2;have el1:us.toArray.size=l.length:=by rw[qt,<-w1.length,q1.len]
 have el2:ws.toArray.size=m.length:=by rw[qt,<-w2.length,q2.len]
 have hj1:j<l.length:=by lia
 have hj2:j<m.length:=by lia
 obtain⟨x',hx',rp1⟩:=q1.get (i:=j) (d:=l[j]) (by simp[hj1]);obtain⟨y',hy',rp2⟩:=q2.get (i:=j) (d:=m[j]) (by simp[hj2]);rw[hx]at hx';cases hx';rw[hy]at hy';cases hy';have:=(Jc 30 (A:=A) (le_trans (HI (l:=l) (j:=j) (by simp[hj1])) hd) I rp1 rp2 rx ry (Ij (j:=j) (a:=l[j]) (b:=m[j]) hc (by simp[hj1]) (by simp[hj2])) hu).1;have e:(open Classical in decide (l[j]?=m[j]?))=(open Classical in decide (l[j]=m[j])):=by simp[hj1,hj2]
 rw[e];exact this
theorem Gz(p:D):(∃l,p=.tup l)\/(∃l,p=.lst l)\/((∀l,p≠.tup l)/\∀l,p≠.lst l):=by
 cases p with
 |tup l=>exact .inl ⟨l,rfl⟩
 |lst l=>exact .inr (.inl ⟨l,rfl⟩)
 |_=>exact .inr (.inr ⟨λl z=>D.noConfusion z,λl z=>D.noConfusion z⟩)
theorem SA(h:bG (.tup l) q=false):∃m,q=.tup m:=by
 cases q with
 |tup m=>exact⟨m,rfl⟩
 |_=>cases h
theorem SU(h:bG (.lst l) q=false):∃m,q=.lst m:=by
 cases q with
 |lst m=>exact⟨m,rfl⟩
 |_=>cases h
theorem Sw(r1:aS K H x p)(r2:aS K H y q)(hc:bG p q=false)(h1:∀l,p≠.tup l)(h2:∀l,p≠.lst l):FJ x y=true/\(p=q↔x=y):=by
 have s1:=MM r1 hc h1 h2;have s2:=Nh r2 s1 hc
 clear r1 r2 h1 h2
 cases s1 with
 |str e1=>
  cases s2 with
  |str e2=>
   rename_i x l y m;refine⟨rfl,λz=>?_,λz=>?_⟩
   .obtain⟨⟨a⟩⟩:=x;obtain⟨⟨b⟩⟩:=y;grind
   .cases z;rw[<-e1,<-e2]
  |_=>exact⟨rfl,λz=>D.noConfusion z,λz=>V.noConfusion z⟩
 |_=>cases s2<;>first|exact⟨rfl,λz=>D.noConfusion z,λz=>V.noConfusion z⟩|exact⟨rfl,λz=>by cases z;rfl,λz=>by cases z;rfl⟩|cases hc
theorem xG(hu:X.A.units+32<cLine):OpR X (compareOp .NotEq) (FY X.K):=by
 classical
 intro zL s Z H x y v u Q I rx ry h;obtain⟨p,q,r1,r2,hc,hd,hq⟩:=h;have fin:EP X zL Z Q (.bool (!decide (p=q))) s:=⟨.bl _,H,I,rfl,hq⟩
 have hin:X.A.in1.units+30<cLine:=by show X.A.units+1+30<cLine;lia
 rcases Gz p with⟨l,rfl⟩|⟨l,rfl⟩|⟨n1,n2⟩
 .obtain⟨m,rfl⟩:=SA hc;cases r1 with
  |tup e1 q1=>
  cases r2 with
  |tup e2 q2=>
   rename_i a xs b ys;cases rx;cases ry;obtain⟨zP,w1,p1,_⟩:=I.tuple (bX.of e1);obtain⟨its2,w2,p2,_⟩:=I.tuple (bX.of e2);have hdl:bM l<=30:=by have:bM l+1<=30:=hd;lia
   have el1:zP.toArray.size=l.length:=by rw[qt,<-w1.length,q1.len]
   have el2:its2.toArray.size=m.length:=by rw[qt,<-w2.length,q2.len]
   have:=RcNeAt.tuples (A:=X.A) (s:=s) (show s.heap.IsTuple a zP.toArray from p1) (show s.heap.IsTuple b its2.toArray from p2) (by lia) (Ov I q1 q2 w1 w2 hc hdl hin);rw[el1,el2,HB (l:=l) (m:=m) _ rfl]at this;have e:decide (D.tup l=D.tup m)=decide (l=m):=by by_cases h:l=m<;>simp[h]
   rw[e]at fin;exact this X.prog X.w X.xe _ fin
 .obtain⟨m,rfl⟩:=SU hc;cases r1 with
  |lst e1 q1=>
  cases r2 with
  |lst e2 q2=>
   rename_i a xs b ys;cases rx;cases ry;obtain⟨zP,w1,p1,_⟩:=I.list e1;obtain⟨its2,w2,p2,_⟩:=I.list e2;have hdl:bM l<=30:=by have:bM l+1<=30:=hd;lia
   have el1:zP.toArray.size=l.length:=by rw[qt,<-w1.length,q1.len]
   have el2:its2.toArray.size=m.length:=by rw[qt,<-w2.length,q2.len]
   have e:decide (D.lst l=D.lst m)=decide (l=m):=by by_cases h:l=m<;>simp[h]
   rw[e]at fin;by_cases zO:l.length=m.length
   .have:=RcNeAt.lists (A:=X.A) (s:=s) p1.isList p2.isList (by lia) (by lia) (Ov I q1 q2 w1 w2 hc hdl hin);rw[el1]at this;have e2:=HB (l:=l) (m:=m) l.length (by lia);have e3:(l.length==m.length)=true:=by simpa using zO
    rw[e3,Bool.and_true]at e2;rw[<-e2]at fin;exact this X.prog X.w X.xe _ fin
   .have:=RcNeAt.lists_lengths (A:=X.A) (s:=s) p1.isList p2.isList (by simp only[el1,el2];simpa using zO) (by lia);have e2:decide (l=m)=false:=qV λz=>zO (by rw[z]);rw[e2]at fin;exact this X.prog X.w X.xe _ fin
 .obtain⟨h1,h2⟩:=Sw r1 r2 hc n1 n2;rw[decide_eq_decide.mpr h2]at hq;exact Ro zL s Z H x y v u Q I rx ry ⟨h1,hq⟩
theorem xN:fK K (FY K) gF:=by
 intro H x y p q k Q r1 r2 e hq;unfold gF at e;cases q1:gB p q with
 |none=>rw[q1]at e;cases e
 |some b=>rw[q1]at e;have e':(!b)=k:=qg e;obtain⟨h1,h2⟩:=Nc q1;have:=Of q1;subst this;subst e';exact⟨p,q,r1,r2,h1,h2,hq⟩
def mD(f:Int->Int->Bool)(g:List Nat->List Nat->Bool):R2:=λx y H Q=>(∃i j,x=.int i/\y=.int j/\Q (.bl (f i j)) H)\/∃i j,x=.str i/\y=.str j/\Q (.bl (g i.cps.toList j.cps.toList)) H
theorem HL{g:List Nat->List Nat->Bool}(rule:∀(i j:Str)(t u:Tok)(s:Shared)(Q:zo)(E:zo),Q (.bool (g i.cps.toList j.cps.toList)) s->wpAny (model X.prog X.w) X.A (compareOp op (.str i t) (.str j u)) Q E s):
  OpR X (compareOp op) (λx y H Q=>∃i j,x=.str i/\y=.str j/\Q (.bl (g i.cps.toList j.cps.toList)) H):=by
 intro zL s Z H x y v u Q I rx ry h;obtain⟨i,j,rfl,rfl,q⟩:=h;obtain⟨t,rfl⟩:=rx;obtain⟨t',rfl⟩:=ry;exact rule i j t t' s _ _ ⟨.bl _,H,I,rfl,q⟩
theorem SQ:OpR X (compareOp .Lt) (mD (λi j=>decide (i<j)) λl m=>decide (l<m)):=FL.OpR.or RH (HL (g:=λl m=>decide (l<m)) λ_ _ _ _ _ _ _ q=>PyProof.Rows.lt_str q)
theorem SL:OpR X (compareOp .LtE) (mD (λi j=>decide (i<=j)) λl m=>!decide (m<l)):=FL.OpR.or Rp (HL (g:=λl m=>!decide (m<l)) λ_ _ _ _ _ _ _ q=>PySem.P.le_str q)
theorem EL:OpR X (compareOp .Gt) (mD (λi j=>decide (j<i)) λl m=>decide (m<l)):=FL.OpR.or Rg (HL (g:=λl m=>decide (m<l)) λ_ _ _ _ _ _ _ q=>PySem.P.gt_str q)
theorem Na:OpR X (compareOp .GtE) (mD (λi j=>decide (j<=i)) λl m=>!decide (l<m)):=FL.OpR.or Rh (HL (g:=λl m=>!decide (l<m)) λ_ _ _ _ _ _ _ q=>PySem.P.ge_str q)
theorem HY(h:∀p q k,o p q=some k->(∃i j,p=.int i/\q=.int j/\k=f i j)\/∃l m,p=.str l/\q=.str m/\k=g l m):fK K (mD f g) o:=by
 intro H x y p q k Q r1 r2 e hq;rcases h p q k e with⟨i,j,rfl,rfl,rfl⟩|⟨l,m,rfl,rfl,rfl⟩
 .cases r1;cases r2;exact .inl ⟨i,j,rfl,rfl,hq⟩
 .cases r1 with
  |str e1 z1=>cases r2 with
   |str e2 z2=>subst e1 e2;exact .inr ⟨_,_,rfl,rfl,hq⟩
theorem SX:fK K (mD (λi j=>decide (i<j)) λl m=>decide (l<m)) IS:=HY λp q k e=>by
 unfold IS IH at e;split at e
 .exact .inl ⟨_,_,rfl,rfl,(qg e).symm⟩
 .exact .inr ⟨_,_,rfl,rfl,(qg e).symm⟩
 .cases e
theorem ER:fK K (mD (λi j=>decide (j<i)) λl m=>decide (m<l)) AC:=HY λp q k e=>by
 unfold AC IH at e;split at e
 .exact .inl ⟨_,_,rfl,rfl,(qg e).symm⟩
 .exact .inr ⟨_,_,rfl,rfl,(qg e).symm⟩
 .cases e
theorem TU:fK K (mD (λi j=>decide (i<=j)) λl m=>!decide (m<l)) IT:=HY λp q k e=>by
 unfold IT at e;split at e
 .exact .inl ⟨_,_,rfl,rfl,(qg e).symm⟩
 .exact .inr ⟨_,_,rfl,rfl,(qg e).symm⟩
 .cases e
theorem NB:fK K (mD (λi j=>decide (j<=i)) λl m=>!decide (l<m)) Ey:=HY λp q k e=>by
 unfold Ey at e;split at e
 .exact .inl ⟨_,_,rfl,rfl,(qg e).symm⟩
 .exact .inr ⟨_,_,rfl,rfl,(qg e).symm⟩
 .cases e
end
section
open PySem.SeqAt
open Classical in
def Cw(K:W.Frag)(neg:Bool):R2:=λx y H Q=>∃p l,aS K H x p/\(aS K H y (.lst l)\/aS K H y (.tup l))/\(∀d∈l,bG d p=false/\hU d<=30)/\Q (.bl (if neg then !decide (p∈l)else decide (p∈l))) H
theorem HR(I:Inv X zL Z H s)(rx:zA x v)(r1:aS X.K H x p)(q1:zJ X.K H xs l)(w1:zI xs us)(hc:∀d∈l,bG d p=false/\hU d<=30)(hu:A.units+30<cLine):
  ∃e:Value->Bool,(∀y,y∈us.toArray->EqAt A s y v (e y))/\us.toArray.any e=(open Classical in decide (p∈l)):=by
 classical
 have item:∀{y:Value},y∈us->∃z d,zA z y/\aS X.K H z d/\d∈l:=λ{y} hy=>by
  obtain⟨j,hj,e⟩:=getElem_of_mem hy;obtain⟨z,hz,rz⟩:=Bw (j:=j) w1 (by simpa using hj);have hl:j<l.length:=by rw[<-q1.len,w1.length];exact hj
  obtain⟨z',hz',rp⟩:=q1.get (i:=j) (d:=l[j]) (by simp[hl]);rw[hz]at hz';cases hz';refine⟨z,l[j],?_,rp,by simp⟩;have:us.toArray[j]=y:=by simpa using e
  rw[<-this];exact rz
 refine⟨λy=>decide (∃z,zA z y/\aS X.K H z p),λy hy=>?_,?_⟩
 .have hy':y∈us:=by simpa using hy
  obtain⟨z,d,rz,rp,hd⟩:=item hy';have hcd:=hc d hd;have:=(Jc 30 (A:=A) hcd.2 I rp r1 rz rx hcd.1 hu).1;have e:decide (d=p)=decide (∃z,zA z y/\aS X.K H z p):=by
   by_cases h:d=p
   .subst h;rw[qU rfl,qU ⟨z,rz,rp⟩]
   .rw[qV h];refine(qV ?_).symm;rintro⟨z',rz',rp'⟩;have:z=z':=rz.inj rz';subst this;exact h (aS.uniq I rp rp' hcd.1)
  show EqAt A s y v (decide (∃z,zA z y/\aS X.K H z p));rw[<-e];exact this
 .by_cases h:p∈l
  .rw[qU h];obtain⟨j,hj,e⟩:=getElem_of_mem h;obtain⟨z,hz,rp⟩:=q1.get (i:=j) (d:=l[j]) (by simp[hj]);obtain⟨u,hu',ru⟩:=w1.get hz;rw[Array.any_eq_true'];exact⟨u,by simpa using qP hu',qU ⟨z,ru,e▸rp⟩⟩
  .rw[qV h];rw[Array.any_eq_false'];intro y hy z;obtain⟨z',rz',rp'⟩:=qX z;obtain⟨z2,d,rz,rp,hd⟩:=item (y:=y) (by simpa using hy);have:z2=z':=rz.inj rz';subst this;exact h (aS.uniq I rp rp' (hc d hd).1▸hd)
theorem Sn(hu:X.A.units+32<cLine):OpR X (compareOp .In) (Cw X.K false):=by
 intro zL s Z H x y v u Q I rx ry h;obtain⟨p,l,r1,r2,hc,hq⟩:=h;have hin:X.A.in1.units+30<cLine:=by show X.A.units+1+30<cLine;lia
 rcases r2 with r2|r2
 .cases r2 with
  |lst e q=>cases ry;obtain⟨zP,w1,p1,_⟩:=I.list e;obtain⟨f,hf,ha⟩:=HR (A:=X.A.in1) I rx r1 q w1 hc hin;exact in_listAt f p1.isList hf ⟨.bl _,H,I,rfl,by rw[ha];exact hq⟩
 .cases r2 with
  |tup e q=>cases ry;obtain⟨zP,w1,p1,_⟩:=I.tuple (bX.of e);obtain⟨f,hf,ha⟩:=HR (A:=X.A.in1) I rx r1 q w1 hc hin;exact in_tupleAt f (show s.heap.IsTuple _ zP.toArray from p1) hf ⟨.bl _,H,I,rfl,by rw[ha];exact hq⟩
theorem WK(hu:X.A.units+32<cLine):OpR X (compareOp .NotIn) (Cw X.K true):=by
 intro zL s Z H x y v u Q I rx ry h;obtain⟨p,l,r1,r2,hc,hq⟩:=h;have hin:X.A.in1.units+30<cLine:=by show X.A.units+1+30<cLine;lia
 rcases r2 with r2|r2
 .cases r2 with
  |lst e q=>cases ry;obtain⟨zP,w1,p1,_⟩:=I.list e;obtain⟨f,hf,ha⟩:=HR (A:=X.A.in1) I rx r1 q w1 hc hin;exact notIn_listAt f p1.isList hf ⟨.bl _,H,I,rfl,by rw[ha];exact hq⟩
 .cases r2 with
  |tup e q=>cases ry;obtain⟨zP,w1,p1,_⟩:=I.tuple (bX.of e);obtain⟨f,hf,ha⟩:=HR (A:=X.A.in1) I rx r1 q w1 hc hin;exact notIn_tupleAt f (show s.heap.IsTuple _ zP.toArray from p1) hf ⟨.bl _,H,I,rfl,by rw[ha];exact hq⟩
end
section
variable{K:W.Frag}
theorem Jg(hl:xs.length=l.length)(h:atI l i=some d):∃j,ixN l.length i=some j/\l[j]?=some d/\∀x,xs[j]?=some x->L2.atI xs i=some x:=by
 unfold atI at h;cases q:ixN l.length i with
 |none=>rw[q]at h;cases h
 |some j=>
  rw[q]at h;refine⟨j,rfl,h,λx hx=>?_⟩;have e:L2.ixN xs.length i=some j:=by rw[hl];exact q
  unfold L2.atI;rw[e];exact hx
theorem zJ.atI(r:zJ K F xs l)(h:FL.atI l i=some d):∃x,L2.atI xs i=some x/\aS K F x d:=by obtain⟨j,_,h1,h2⟩:=Jg (xs:=xs) r.len h;obtain⟨x,hx,rx⟩:=r.get h1;exact⟨x,h2 x hx,rx⟩
theorem zz.get{j:Nat}(r:zz K F H xs l fp)(h:l[j]?=some t):∃x fa fi fb,xs[j]?=some x/\aN K F H x t fi/\fp=fa++(fi++fb):=
 zz.ind (P:=λxs l fp=>∀j t,l[j]?=some t->∃x fa fi fb,xs[j]?=some x/\aN K F H x t fi/\fp=fa++(fi++fb)) (λ_ _ e=>by cases e) (λa _ ih j t e=>by
  cases j with
  |zero=>cases e;exact⟨_,[],_,_,rfl,a,rfl⟩
  |succ j=>obtain⟨x,fa,fi,fb,h1,h2,rfl⟩:=ih j t e;exact⟨x,_++fa,fi,fb,h1,h2,(qq ..).symm⟩) r j t h
theorem Rel.item{j:Nat}(r:Rel K (U++[some (.lst l)]) (Z++[some (.ref a)]) F G H)(h:l[j]?=some t):∃xs x,H a=some (.lst xs)/\xs.length=l.length/\xs[j]?=some x/\Rel K (U++[some t]) (Z++[some x]) F G H:=by
 obtain⟨fp,e,nd,ap⟩:=r.en;obtain⟨f1,f2,rfl,en,b⟩:=e.cut (bD r);cases b with
 |so sr nl=>
  cases nl;cases sr with
  |lst hD rl=>
   rename_i xs fl;obtain⟨x,fa,fi,fb,h1,h2,rfl⟩:=rl.get h;refine⟨xs,x,hD,rl.len,h1,r.fr,r.gr,f1++(fi++[]),en.app (.so h2 .nil),?_,λy hy=>ap y ?_⟩
   .have sub:List.Sublist (f1++(fi++[])) (f1++(a::(fa++(fi++fb))++[])):=by refine List.Sublist.append (List.Sublist.refl _) ?_;simp only[qC];exact(List.Sublist.cons _ ((List.sublist_append_left fi fb).trans (List.sublist_append_right fa _)))
    exact sub.nodup nd
   .rcases qA.mp hy with z|z
    .exact qk _ z
    .refine qj _ ?_;simp only[qC]at z⊢;exact qm _ (qj _ (qk _ z))
end
theorem Ti{K:W.Frag}(e:bX K H c xs)(r:zJ K F xs l)(h:atI l i=some d)(hq:∀x,aS K F x d->Q x H):IG K (.ref c) (.int i) H Q:=by obtain⟨x,hx,rx⟩:=r.atI h;exact .inr (.inl ⟨c,xs,i,x,rfl,rfl,e,hx,hq x rx⟩)
theorem Th{K:W.Frag}(e:cA K H c xs)(r:zJ K F xs l)(h:atI l i=some d)(hq:∀x,aS K F x d->Q x H):IG K (.ref c) (.int i) H Q:=by obtain⟨x,hx,rx⟩:=r.atI h;exact .inl ⟨c,xs,i,x,rfl,rfl,e,hx,hq x rx⟩
theorem Tc(h:oX s q=some t):(∃l i d,s=.sh (.tup l)/\q=.int i/\atI l i=some d/\t=.sh d)\/(∃l i d,s=.sh (.lst l)/\q=.int i/\atI l i=some d/\t=.sh d)\/
  (∃l i c,s=.sh (.str l)/\q=.int i/\atI l i=some c/\t=.sh (.str [c]))\/∃l i,s=.lst l/\q=.int i/\atI l i=some t:=by
 refine cps λ_ kk=>?_;rcases s with d|l|_|_
 .rcases d with _|_|_|l|l|l|_|_|_;case str|tup|lst=>
   rcases q with _|_|i|_|_|_|_|_|_;case int=>obtain⟨d,e,e'⟩:=q8.mp h;first|exact kk (.inl ⟨_,_,d,rfl,rfl,e,e'.symm⟩)|exact kk (.inr (.inl ⟨_,_,d,rfl,rfl,e,e'.symm⟩))|exact kk (.inr (.inr (.inl ⟨_,_,d,rfl,rfl,e,e'.symm⟩)))
   all_goals cases h
  all_goals cases h
 .rcases q with _|_|i|_|_|_|_|_|_;case int=>exact kk (.inr (.inr (.inr ⟨_,_,rfl,rfl,h⟩)))
  all_goals cases h
 all_goals cases h
theorem Jz{K:W.Frag}(h:aN K F H v (.sh d) fp):aS K F v d:=by cases h;assumption
theorem OY{K:W.Frag}(h:aN K F H v (.lst l) fp):∃a xs fq,v=.ref a/\H a=some (.lst xs)/\zz K F H xs l fq:=by
 cases h with
 |lst h1 h2=>exact⟨_,_,_,rfl,h1,h2⟩
theorem MV{K:W.Frag}(fr:zw F H)(r:aS K F v d)(ru:aS K F2 u q)(et:oX (.sh d) q=some t)(done:∀e x,t=.sh e->aS K F x e->Q x H):IG K v u H Q:=by
 rcases Tc et with⟨l,i,e,e1,rfl,ed,rfl⟩|⟨l,i,e,e1,rfl,ed,rfl⟩|⟨l,i,c,e1,rfl,ec,rfl⟩|⟨l,i,e1,_⟩
 .injection e1 with e1
  subst e1;obtain rfl:=bN.int (H:=H) (.inl ru);obtain⟨a,xs,rfl,h1,r1⟩:=bN.tup (H:=H) (.inl r);exact Ti (bX.of (fr _ _ h1)) r1 ed λx rx=>done _ x rfl rx
 .injection e1 with e1
  subst e1;obtain rfl:=bN.int (H:=H) (.inl ru);obtain⟨a,xs,rfl,h1,r1⟩:=bN.lst (H:=H) fr (.inl r);exact Th h1 r1 ed λx rx=>done _ x rfl rx
 .injection e1 with e1
  subst e1;obtain rfl:=bN.int (H:=H) (.inl ru);obtain⟨x,rfl,h1,z⟩:=bN.str (H:=H) (.inl r);exact .inr (.inr ⟨_,i,c,rfl,rfl,by rw[El h1,zj];exact z,by rw[h1];exact ec,done _ _ rfl (.str rfl (by show 1<=_;decide))⟩)
 .cases e1
theorem NF(h:oX (.lst l) q=some t):∃i,q=.int i/\atI l i=some t:=by
 cases q with
 |int i=>exact⟨i,rfl,h⟩
 |_=>cases h
theorem gI(ha:FE X a wa)(hb:FE X b wb)(hs:iR b:=by intro _ _;rfl):FE X (.Subscript a b pos) (fL wa wb):=λpn xe hp=>by
 refine PE.imp (Jd (MX (X:=wp X pn xe)) (ha pn xe hp) (hb pn xe hp) hs) λZ H Q q=>?_;refine(BV (k:=λx y U2 Q E=>zv (view y U2) λq=>match x with
  |.v s=>zv (oX s q) λt=>Q (.v t) U2
  |.loc i=>match slot U2 i with
   |some s=>match oX s q with
    |some (.sh d)=>Q (.v (.sh d)) U2
    |_=>False
   |none=>False) q).mono λv H1 h1=>h1.mono λu H2 h2=>?_
 obtain⟨F,G,U,x,y,P,PX,zN,hl,rx,ry,hk,hok,hx⟩:=h2;obtain⟨q,eq,hk⟩:=cF hk;have relx:Rel X.K (U++[zx x]) (Z++[some v]) F G H2:=by have:=Rel.swap (U1:=[zx x]) (Z1:=[some v]) (U2:=[zx y]) (Z2:=[some u]) hl rfl zN;exact Rel.mid (U:=U) (Z:=Z) this hl
 have rely:Rel X.K (U++[zx y]) (Z++[some u]) F G H2:=zN.mid hl;have ru:=dH (U':=[]) (Z':=[]) rely hl ry eq;have done:∀{d:D}{x:V},P (.v (.sh d)) U->aS X.K F x d->Q x H2:=λhP r=>hok _ U _ F H2 hP (zw.refl F) ((relx.drop hl).push r) trivial;cases x with
 |v s=>
  obtain⟨t,et,hP⟩:=cF hk;obtain⟨w,fp,e1,sr⟩:=relx.at (i:=U.length) (s:=s) Ep;rw[hl,getElem?_append_right (zd _),sub_self]at e1;have e2:v=w:=by simpa using e1
  subst e2;cases s with
  |sh d=>exact MV relx.fr (Jz sr) ru et λe x z rx=>done (by rw[<-z];exact hP) rx
  |lst l=>obtain⟨i,rfl,et⟩:=NF et;obtain rfl:=bN.int (H:=H2) (.inl ru);obtain⟨a,ys,fq,rfl,hD,rl⟩:=OY sr;obtain⟨j,_,hj,hat⟩:=Jg rl.len et;obtain⟨xs,x,hD',zO,hxj,r2⟩:=Rel.item relx hj;rw[hD]at hD';cases hD';exact .inl ⟨_,_,i,x,rfl,rfl,cA.of hD,hat x hxj,hok _ U _ F H2 hP (zw.refl F) r2 trivial⟩
  |_=>cases q<;>cases et
 |loc k=>
  dsimp only at hk;cases qs:slot U k with
  |none=>rw[qs]at hk;exact hk.elim
  |some s=>
   rw[qs]at hk;dsimp only at hk;split at hk
   .rename_i d et;obtain⟨w,fp,e1,sr⟩:=(relx.drop hl).at qs;have rx':Z[k]?=some (some v):=rx;rw[rx']at e1;have e2:v=w:=by simpa using e1
    subst e2;cases s with
    |sh d'=>exact MV relx.fr (Jz sr) ru et λe x z rx=>done (by injection z with z;rw[<-z];exact hk) rx
    |lst l=>obtain⟨i,rfl,et⟩:=NF et;obtain rfl:=bN.int (H:=H2) (.inl ru);obtain⟨a,ys,fq,rfl,hD,rl⟩:=OY sr;obtain⟨j,_,hj,hat⟩:=Jg rl.len et;obtain⟨x,fa,fi,fb,hxj,sx,_⟩:=rl.get hj;exact .inl ⟨_,_,i,x,rfl,rfl,cA.of hD,hat x hxj,done hk (Jz sx)⟩
    |_=>cases q<;>cases et
   .exact hk.elim
section
variable{K:W.Frag}{Z:St}
theorem zz.set:∀{xs:List V}{l:List S}{fp:List Addr}{m:Nat},zz K F H xs l fp->m<l.length->∃fa fi fb,fp=fa++(fi++fb)/\
  ∀{H':Hp}{v:V}{s:S}{fq:List Addr},(∀a∈fa++fb,H' a=H a)->aN K F H' v s fq->zz K F H' (xs.set m v) (l.set m s) (fa++(fq++fb))
 |_,_,_,_,.nil,h=>by simp at h
 |_,_,_,0,.cons (fp:=fp) (fq:=fq) a b,h=>⟨[],fp,fq,rfl,λhk r=>by rw[nil_append];exact .cons r (b.mono (zw.refl F) λc hc=>hk c hc)⟩
 |_,_,_,m+1,.cons (fp:=fp) (fq:=fq) a b,h=>by obtain⟨fa,fi,fb,rfl,up⟩:=zz.set (m:=m) b (by simpa using h);refine⟨fp++fa,fi,fb,(qq ..).symm,λhk r=>?_⟩;rw[qq];exact .cons (a.mono (zw.refl F) λc hc=>hk c (qk _ (qk _ hc))) (up (λc hc=>hk c ((qA.mp hc).elim (λz=>qk _ (qj _ z)) λz=>qj _ z)) r)
theorem HX(h:Z[n]?=some (some v)):Z.set n (some v)=Z:=by
 apply ext_getElem?;intro j;by_cases hj:n=j
 .subst hj;rw[getElem?_set_self (qh.mp h).1,h]
 .rw[getElem?_set_ne hj]
theorem Rel.setItem{D:Addr}(r:Rel K (U++[some s]) (Z++[some v]) F G H)(hs:slot U n=some (.lst l))(hZ:Z[n]?=some (some (.ref D)))(hm:m<l.length):
  ∃xs,H D=some (.lst xs)/\xs.length=l.length/\Rel K (U.set n (some (.lst (l.set m s)))) Z F G (upd H D (.lst (xs.set m v))):=by
 have hl:=bD r;obtain⟨fp,e,nd,ap⟩:=r.en;obtain⟨f1,f2,rfl,a,b⟩:=e.cut hl;obtain⟨v',fa,fi,fb,e1,rfl,q,up⟩:=a.at hs;rw[hZ]at e1;have e2:V.ref D=v':=by simpa using e1
 subst e2;cases q with
 |lst hD rl=>
  rename_i xs fl;cases b with
  |so sr nl=>
   cases nl;rename_i fs;obtain⟨ga,gi,gb,rfl,sup⟩:=rl.set hm;refine⟨xs,hD,rl.len,?_⟩;obtain⟨n1,n2,n12⟩:=qz.mp nd;obtain⟨na,nib,nab⟩:=qz.mp n1;obtain⟨ni,nb,nib⟩:=qz.mp nib;obtain⟨nD,nfl⟩:=qO.mp ni;have hDa:D∉fa:=λz=>nab D z D (qk _ qo) rfl;have hDb:D∉fb:=λz=>nib D qo D z rfl;have hDs:D∉fs:=λz=>n12 D (qj _ (qk _ qo)) D (by simpa using z) rfl;have apD:=ap D (qk _ (qj _ (qk _ qo)));have ne:∀{l:List Addr},D∉l->∀x∈l,upd H D (.lst (xs.set m v)) x=H x:=λh x hx=>cH λz=>h (z▸hx);have hDg:D∉ga++gb:=λz=>nD ((qA.mp z).elim (λw=>qk _ w) λw=>qj _ (qj _ w));have new:aN K F (upd H D (.lst (xs.set m v))) (.ref D) (.lst (l.set m s)) (D::(ga++(fs++gb))):=.lst kJ (sup (ne hDg) (sr.mono (zw.refl F) (ne hDs)));have a2:=up (F':=F) (H':=upd H D (.lst (xs.set m v))) (o:=some (.lst (l.set m s))) (u:=some (.ref D)) (zw.refl F) (λx hx=>cH λz=>(qA.mp hx).elim (λw=>hDa (z▸w)) λw=>hDb (z▸w)) (.so new .nil);rw[HX hZ]at a2;have sub:∃l2,l2.Perm (fa++((D::(ga++(gi++gb)))++fb)++(fs++[]))/\List.Sublist (fa++((D::(ga++(fs++gb)))++[]++fb)) l2:=by
    refine⟨fa++((D::(ga++(fs++(gi++gb))))++[]++fb),?_,?_⟩
    .simp only[qC,qq,qR];refine List.Perm.append_left _ (List.Perm.cons _ (List.Perm.append_left _ ?_));exact qQ.trans (by simp)
    first|rfl|assumption|(simp_all;done)
   obtain⟨l2,p,sb⟩:=sub;refine⟨zw.updR r.fr apD.1,λx o w=>?_,_,a2,sb.nodup (p.nodup_iff.mpr nd),λx hx=>ap x (p.mem_iff.mp (sb.subset hx))⟩;have hx:x≠D:=λz=>by rw[z,apD.2]at w;cases w
   rw[cH hx];exact r.gr x o w
end
theorem OF(ho:FE X o (zp j))(hi:FE X i wi)(he:FE X e we)(hs:swapsWithSole [.Subscript o i tpos] e pos.line X.env=pure false:=by rfl)(hw:swappedStores [.Subscript o i tpos] e X.env=pure none:=by rfl)
  (h1:(assignEach [.Subscript o i tpos] X.env).map (·.2)=[assign (.Subscript o i tpos) X.env]:=by rfl)
  (ha:∀v,assign (.Subscript o i tpos) X.env v=(do
   let ov<-holding [v] (eval o X.env)
   let iv<-holding [v,ov] (eval i X.env)
   standAt tpos
   holding [v,ov,iv] (setItem ov iv v)
   release [v,ov,iv] []):=by intro _;rfl):FS X ks (.Assign [.Subscript o i tpos] e pos) (iU j wi we):=λpn xe hp=>by
 refine PS.imp (Np (X:=wp X pn xe) (he pn xe hp) (Rt (X:=wp X pn xe) (ho pn xe hp) (hi pn xe hp) Vl ha) hs hw h1) λD Z H q=>?_;obtain⟨F,G,U,E,zN,hw,n,b,c,r,x⟩:=q;have x0:XC (wp X pn xe) (·=Z) F G E.ex:=x.mono (λZ2 z=>by rw[z];exact KP.refl) (zw.refl F) (zw.refl G);refine⟨F,G,U,_,_,zN,hw,λr U1 v F1 H1 hk s1 r1 rv=>?_,x0⟩;have l1:=bD r1;obtain⟨G1,rel1,gg,back⟩:=r1.hide l1;refine⟨F1,G1,U1,_,_,rel1,hk,λy U2 o' F2 H2 hk2 s2 r2 rv2=>?_,x0.mono (λ_ z=>z) s1 gg⟩;have l2:=bD r2;obtain⟨G2,rel2,gg2,back2⟩:=r2.hide l2;refine⟨F2,G2,U2,_,_,rel2,hk2,λz U3 i' F3 H3 hk3 s3 r3 rv3=>?_,x0.mono (λ_ z=>z) (s1.trans s2) (gg.trans gg2)⟩;have l3:=bD r3;obtain⟨q,eq,hk3⟩:=cF hk3;obtain⟨⟨t,U4⟩,eg,hk4⟩:=cF hk3
 --all three stand at the end
 have r4:=back (s2.trans s3) (back2 s3 r3);simp only[qq,qR,nil_append]at r4;have ri:=dH (U':=[zx y,zx r]) (Z':=[some o',some v]) r4 l3 rv3 eq;have r5:Rel X.K (U3++[zx r]) (Z++[some v]) F3 G H3:=Rel.mid (U:=U3) (Z:=Z) (Rel.mid (U:=U3) (Z:=Z) r4 l3) l3;obtain⟨F4,s4,l4,r6⟩:=dN (U':=[]) (Z':=[]) r5 l3 rv eg;cases y with
 |v y0=>exact hk4.elim
 |loc k=>
  cases q with
  |int m=>
   cases qs:slot U4 j with
   |none=>simp only[qs]at hk4
   |some sj=>
    cases sj with
    |lst l=>
     simp only[qs]at hk4;obtain⟨rfl,hk4⟩:=hk4;obtain⟨w,ew,hnx⟩:=cF hk4;have hZ:Z[k]?=some (some o'):=rv2;obtain⟨v',fp,e1,sr⟩:=r6.at (i:=k) (s:=.lst l) (by rw[Fj (Em qs)];exact qs);have hkl:k<Z.length:=(qh.mp hZ).1;rw[getElem?_append_left hkl,hZ]at e1;have e2:o'=v':=by simpa using e1
     subst e2;have hw:w<l.length:=by
      unfold ixN at ew;split at ew
      .split at ew
       .have e:=qg ew;lia
       .cases ew
      .split at ew
       .have e:=qg ew;lia
       .cases ew
     cases sr with
     |lst hD rl=>rename_i a xs fl;obtain⟨xs',hD',zO,r7⟩:=Rel.setItem r6 qs hZ hw;rw[hD]at hD';cases hD';cases ri;exact⟨a,xs,m,w,rfl,rfl,hD,by rw[zO];exact ew,n _ Z F4 _ hnx KP.refl (s1.trans (s2.trans (s3.trans s4))) r7⟩
    |_=>simp only[qs]at hk4
  |_=>exact hk4.elim
theorem Fc(ho:FE X o (zp j))(he:FE X e we)
  (hbase:attributeBase o "append" X.env (eval o X.env)=eval o X.env:=by rfl)
  (hfew:((backTo cpos (starEach [e] X.env)).all (λx=>!x.1)&&(backToKw cpos (keywordEach [] X.env)).all (λx=>x.1.isSome)
   &&decide ([e].length+([]:List Keyword).length+(if([]:List Keyword).isEmpty then 0 else 1)<30))=true:=by rfl)
  (hline:(apos.endLine==cpos.line)=true:=by rfl)(hs:starEach [e] X.env=[(false,eval e X.env)]:=by rfl):FE X (.Call (.Attribute o "append" apos) [e] [] cpos) (cQ j we):=λpn xe hp=>by
 refine PE.imp (Hv (X:=wp X pn xe) PySem.F.plainAttrs_list PySem.F.slot_list_append PySem.F.type_list_append JY (ho pn xe hp) (aB he aG hs pn xe hp) hbase hfew hline hs rfl) λZ H Q q=>?_;obtain⟨F,G,U,P,PX,zN,hw,hok,hx⟩:=q;have hw':(match slot U j with
  |some (.lst _)=>we U (λr U2=>zv (give r U2) λp=>(match slot p.2 j with
   |some (.lst l)=>l.length<big/\P (.v (.sh .non)) (p.2.set j (some (.lst (l++[p.1]))))
   |_=>False)) PX
  |_=>False):=hw
 cases qs:slot U j with
 |none=>rw[qs]at hw';exact hw'.elim
 |some s0=>
  cases s0 with
  |lst l0=>
   rw[qs]at hw';refine⟨F,G,U,λy U1=>y=.loc j/\U1=U,PX,zN,by unfold zp;rw[qs];exact⟨rfl,rfl⟩,λy U1 o' F1 H1 hk s1 r1 rv=>?_,hx⟩;obtain⟨rfl,rfl⟩:=hk;have l1:=bD r1;have hZ:Z[j]?=some (some o'):=rv;have r2:=r1.drop l1;obtain⟨v',fp,e1,sr⟩:=r2.at qs;rw[hZ]at e1;have e2:o'=v':=by simpa using e1
   subst e2;cases sr with
   |lst hD rl=>
    rename_i a xs fl;refine⟨.inl ⟨rfl,_,cA.of hD⟩,F1,G,U1,λrs U2=>match rs with|[r]=>(zv (give r U2) λp=>match slot p.2 j with|some (.lst l)=>l.length<big/\P (.v (.sh .non)) (p.2.set j (some (.lst (l++[p.1]))))|_=>False)|_=>False,PX,r2,hw',λrs U2 vs F2 H2 hk s2 r3 hl rvs=>?_,hx.grow s1⟩;match rs,vs,rvs,r3,hk with
    |[r],[v],rvs,r3,hk=>
     dsimp only at hk;obtain⟨⟨t,U3⟩,eg,hk⟩:=cF hk;obtain⟨F3,s3,l3,r4⟩:=dN (U':=[]) (Z':=[]) r3 hl rvs.1 eg;dsimp only at hk;split at hk
     .rename_i l ql;obtain⟨ys,hD2,zO,r5⟩:=Rel.append r4 ql hZ;exact⟨a,ys,v,rfl,rfl,hD2,by rw[zO,zj];exact lt_trans hk.1 (by decide),hok _ _ .non F3 _ hk.2 (s1.trans (s2.trans s3)) (r5.push .non) trivial⟩
     .exact hk.elim
    |[],_,_,_,hk=>exact hk.elim
    |[_],[],rvs,_,_=>exact rvs.elim
    |[_],_::_::_,rvs,_,_=>exact rvs.2.elim
    |_::_::_,_,_,_,hk=>exact hk.elim
  |_=>rw[qs]at hw';exact hw'.elim
section
variable{K:W.Frag}
def lO(K:W.Frag)(F H:Hp):List V->List D->Prop
 |[],[]=>True
 |v::vs,d::ds=>bN K F H v d/\lO K F H vs ds
 |_,_=>False
theorem kE{b:List D->Option S}(h2:∀x y r,b (x::y::r)=none)(h0:b []=none)(re:lO K F H vs ds)(e:b ds=some s):∃d v,ds=[d]/\vs=[v]:=by
 cases ds with
 |nil=>rw[h0]at e;cases e
 |cons x ds=>
  cases ds with
  |cons y r=>rw[h2]at e;cases e
  |nil=>
   cases vs with
   |nil=>exact re.elim
   |cons v vs=>
    cases vs with
    |nil=>exact⟨x,v,rfl,rfl⟩
    |cons u vs=>exact re.2.elim
theorem GX{b:List D->Option S}(h1:∀x,b [x]=none)(h3:∀x y z r,b (x::y::z::r)=none)(h0:b []=none)(re:lO K F H vs ds)(e:b ds=some s):∃d d2 v u,ds=[d,d2]/\vs=[v,u]:=by
 cases ds with
 |nil=>rw[h0]at e;cases e
 |cons x ds=>
  cases ds with
  |nil=>rw[h1]at e;cases e
  |cons y ds=>
   cases ds with
   |cons z r=>rw[h3]at e;cases e
   |nil=>
    cases vs with
    |nil=>exact re.elim
    |cons v vs=>
     cases vs with
     |nil=>exact re.2.elim
     |cons u vs=>
      cases vs with
      |nil=>exact⟨x,y,v,u,rfl,rfl⟩
      |cons u vs=>exact re.2.2.elim
theorem lZ:∀{rs:List R}{vs:List V}{ds:List D}{U U':Env}{F:Hp}{Z':St},Rel K (U++(rs.map zx++U')) (Z++(vs.map some++Z')) F G H->U.length=Z.length->xO Z vs rs->(rs.mapM λr=>zH r U)=some ds->
  ∃F',zw F F'/\lO K F' H vs ds/\Rel K (U++U') (Z++Z') F' G H
 |[],[],ds,U,U',F,Z',r,h,_,e=>by
  have e':ds=[]:=by simpa using e.symm
  subst e';exact⟨F,zw.refl F,trivial,r⟩
 |[],_::_,_,_,_,_,_,_,_,h,_=>h.elim
 |_::_,[],_,_,_,_,_,_,_,h,_=>h.elim
 |x::rs,v::vs,ds,U,U',F,Z',r,h,rv,e=>by
  rw[List.mapM_cons]at e;cases q:zH x U with
  |none=>rw[q]at e;cases e
  |some d=>
   rw[q]at e;cases q2:(rs.mapM λr=>zH r U)with
   |none=>rw[q2]at e;cases e
   |some es=>rw[q2]at e;have e':d::es=ds:=qg e;subst e';obtain⟨F1,s1,re,r1⟩:=iB (U':=rs.map zx++U') (Z':=vs.map some++Z') r h rv.1 q;obtain⟨F2,s2,res,r2⟩:=lZ (rs:=rs) (vs:=vs) r1 h rv.2 q2;exact⟨F2,s1.trans s2,⟨re.mono s2,res⟩,r2⟩
def dC(K:W.Frag)(r:List V->Hp->VK->Prop)(f:List D->Option S):Prop:=∀(Z:St)(U:Env)(F G H:Hp)(vs:List V)(ds:List D)(s:S)(Q:VK),Rel K U Z F G H->lO K F H vs ds->f ds=some s->
 (∀v F' H',zw F F'->Rel K (U++[some s]) (Z++[some v]) F' G H'->Q v H')->r vs H Q
end
section
variable{id T:String}
theorem OQ(hd:dC X.K r f)(Z:St)(H:Hp)(Q:VK)(q:tW (wp X pn xe) (wB f wa) Z H Q):FH r (yW (wp X pn xe) wa) Z H Q:=by refine(many (k:=λrs U1 Q E=>zv (rs.mapM λr=>zH r U1) λds=>zv (f ds) λs=>Q (.v s) U1) q).mono λvs H1 h1=>?_;obtain⟨F,G,U,rs,P,PX,zN,hl,rv,hk,hok,hx⟩:=h1;obtain⟨ds,ed,hk⟩:=cF hk;obtain⟨s,es,hk⟩:=cF hk;obtain⟨F1,s1,re,r1⟩:=lZ (U':=[]) (Z':=[]) (by simpa using zN) hl rv ed;exact hd Z U F1 G H1 vs ds s Q (by simpa using r1) re es λv F' H' sm r'=>hok _ U v F' H' hk (s1.trans sm) r' trivial
theorem Eg(hc:∀pn xe,bA (wp X pn xe) (.builtin id) r)(hd:dC X.K r f)(hg:Gl X x)(hm:X.mg x=none)(hv:bootBuiltins x=some (.builtin id))(ha:FA X (e::es) wa)(hn:x≠"__name__":=by decide)(hdb:(x==("__debug__":Str))=false:=by decide)
  (he:starEach (e::es) X.env=(false,eval e X.env)::starEach es X.env:=by rfl)(hpl:(backTo pos (starEach es X.env)).any (·.1)=false:=by rfl):FE X (.Call (.Name x p) (e::es) [] pos) (wB f wa):=λpn xe hp=>
 PE.imp (JJ (X:=wp X pn xe) (hc pn xe) hg hm hv (ha pn xe hp) hn hdb he hpl) (OQ hd)
theorem Ig(hc:∀pn xe,bA (wp X pn xe) (.type T) r)(hd:dC X.K r f)(hg:Gl X x)(hm:X.mg x=none)(hv:bootBuiltins x=some (.type T))(ha:FA X (e::es) wa)(hn:x≠"__name__":=by decide)(hdb:(x==("__debug__":Str))=false:=by decide)
  (he:starEach (e::es) X.env=(false,eval e X.env)::starEach es X.env:=by rfl)(hpl:(backTo pos (starEach es X.env)).any (·.1)=false:=by rfl):FE X (.Call (.Name x p) (e::es) [] pos) (wB f wa):=λpn xe hp=>
 PE.imp (Pf (X:=wp X pn xe) (hc pn xe) hg hm hv (ha pn xe hp) hn hdb he hpl) (OQ hd)
def FZ(K:W.Frag):List V->Hp->VK->Prop:=λxs H Q=>(∃p ys,xs=[.ref p]/\(cA K H p ys\/bX K H p ys)/\Q (.int ys.length) H)\/∃z,xs=[.str z]/\z.length<=sizeLine/\Q (.int z.length) H
theorem bA.or'{f:Value}(h:bA X f r)(h':bA X f r'):bA X f (λx H Q=>r x H Q\/r' x H Q):=λzL s Z H xs us Q I rr q=>q.elim (h zL s Z H xs us Q I rr) (h' zL s Z H xs us Q I rr)
theorem Wy:bA X (.builtin "len") (FZ X.K):=bA.or' Yd YE
theorem Ve{K:W.Frag}:dC K (FZ K) aW:=by
 intro Z U F G H vs ds s Q zN re e hq;obtain⟨d,v,rfl,rfl⟩:=kE (λx y r=>by cases x<;>rfl) rfl re e;cases d with
 |str l=>cases e;obtain⟨x,rfl,e1,z⟩:=re.1.str;exact .inr ⟨x,rfl,by rw[El e1,zj];exact z,by rw[El e1];exact hq _ F H (zw.refl F) (zN.push (.int _))⟩
 |tup l=>cases e;obtain⟨a,xs,rfl,h1,r1⟩:=re.1.tup;exact .inl ⟨a,xs,rfl,.inr (bX.of (zN.fr _ _ h1)),by rw[r1.len];exact hq _ F H (zw.refl F) (zN.push (.int _))⟩
 |lst l=>cases e;obtain⟨a,xs,rfl,h1,r1⟩:=re.1.lst zN.fr;exact .inl ⟨a,xs,rfl,.inl h1,by rw[r1.len];exact hq _ F H (zw.refl F) (zN.push (.int _))⟩
 |_=>cases e
theorem eR(hg:Gl X "len")(hm:X.mg "len"=none)(ha:FA X (e::es) wa)(he:starEach (e::es) X.env=(false,eval e X.env)::starEach es X.env:=by rfl)(hpl:(backTo pos (starEach es X.env)).any (·.1)=false:=by rfl):FE X (.Call (.Name "len" p) (e::es) [] pos) (wB aW wa):=
 Eg (λ_ _=>Wy) Ve hg hm PySem.boot_len ha (by decide) (by decide) he hpl
end
section
variable{K:W.Frag}
def Lq:List V->Hp->VK->Prop:=λxs H Q=>(∃i,xs=[.int i]/\Q (.int i) H)\/∃k,xs=[.bl k]/\Q (.int (if k then 1 else 0)) H
theorem bN.bl(h:bN K F H v (.bl b)):v=.bl b:=by
 rcases h with h|⟨_,_,_,_,h,_⟩|⟨_,_,_,_,_,h,_⟩|⟨_,_,_,_,_,h,_⟩
 .cases h;rfl
 .cases h
 .cases h
 .cases h
theorem Xw:dC K Lq tE:=by
 intro Z U F G H vs ds s Q zN re e hq;obtain⟨d,v,rfl,rfl⟩:=kE (λx y r=>by cases x<;>rfl) rfl re e;cases d with
 |int i=>cases e;have:=re.1.int;subst this;exact .inl ⟨i,rfl,hq _ F H (zw.refl F) (zN.push (.int _))⟩
 |bl b=>cases e;have:=re.1.bl;subst this;exact .inr ⟨b,rfl,hq _ F H (zw.refl F) (zN.push (.int _))⟩
 |_=>cases e
theorem Ju(hg:Gl X "int")(hm:X.mg "int"=none)(hv:bootBuiltins "int"=some (.type "int"))(ha:FA X (e::es) wa)(he:starEach (e::es) X.env=(false,eval e X.env)::starEach es X.env:=by rfl)(hpl:(backTo pos (starEach es X.env)).any (·.1)=false:=by rfl):FE X (.Call (.Name "int" p) (e::es) [] pos) (wB tE wa):=
 Ig (λ_ _=>Wp) Xw hg hm hv ha (by decide) (by decide) he hpl
def Cq(K:W.Frag):List V->Hp->VK->Prop:=λxs H Q=>∃p ys,xs=[.ref p]/\((cA K H p ys/\∀l,H l=none->Q (.ref l) (upd H l (.tup ys)))\/(bX K H p ys/\Q (.ref p) H))
theorem XI:dC K (Cq K) eK:=by
 intro Z U F G H vs ds s Q zN re e hq;obtain⟨d,v,rfl,rfl⟩:=kE (λx y r=>by cases x<;>rfl) rfl re e;cases d with
 |tup l=>cases e;obtain⟨a,xs,rfl,h1,r1⟩:=re.1.tup;exact⟨a,xs,rfl,.inr ⟨bX.of (zN.fr _ _ h1),hq _ F H (zw.refl F) (zN.push (.tup h1 r1))⟩⟩
 |lst l=>cases e;obtain⟨a,xs,rfl,h1,r1⟩:=re.1.lst zN.fr;refine⟨a,xs,rfl,.inl ⟨h1,λp hp=>?_⟩⟩;have n2:=(zN.free hp).1;exact hq _ _ _ (zw.upd n2) ((zN.newF hp).push (.tup kJ (r1.mono (zw.upd n2))))
 |_=>cases e
theorem EZ(hg:Gl X "tuple")(hm:X.mg "tuple"=none)(hv:bootBuiltins "tuple"=some (.type "tuple"))(ha:FA X (e::es) wa)(he:starEach (e::es) X.env=(false,eval e X.env)::starEach es X.env:=by rfl)(hpl:(backTo pos (starEach es X.env)).any (·.1)=false:=by rfl):FE X (.Call (.Name "tuple" p) (e::es) [] pos) (wB eK wa):=
 Ig (λ_ _=>YB) XI hg hm hv ha (by decide) (by decide) he hpl
def Bb(K:W.Frag):List V->Hp->VK->Prop:=λxs H Q=>∃p ys,xs=[.ref p]/\(cA K H p ys\/bX K H p ys)/\∀l,H l=none->Q (.ref l) (upd H l (.lst ys))
theorem Py:dC K (Bb K) GU:=by
 intro Z U F G H vs ds s Q zN re e hq;obtain⟨d,v,rfl,rfl⟩:=kE (λx y r=>by cases x<;>rfl) rfl re e;cases d with
 |tup l=>cases e;obtain⟨a,xs,rfl,h1,r1⟩:=re.1.tup;exact⟨a,xs,rfl,.inr (bX.of (zN.fr _ _ h1)),λp hp=>hq _ F _ (zw.refl F) (zN.newLD hp r1)⟩
 |lst l=>cases e;obtain⟨a,xs,rfl,h1,r1⟩:=re.1.lst zN.fr;exact⟨a,xs,rfl,.inl h1,λp hp=>hq _ F _ (zw.refl F) (zN.newLD hp r1)⟩
 |_=>cases e
end
theorem AQ(h:aK a=aK b):a=b:=by
 cases a with
 |inl i=>cases b with
  |inl j=>have h':D.int i=D.int j:=h;cases h';rfl
  |inr y=>have h':D.int i=D.str y.cps.toList:=h;cases h'
 |inr x=>cases b with
  |inl j=>have h':D.str x.cps.toList=D.int j:=h;cases h'
  |inr y=>have h':D.str x.cps.toList=D.str y.cps.toList:=h;obtain⟨⟨a⟩⟩:=x;first|rfl|assumption|(simp_all;done)
theorem Fb:∀{a b:List aR},a.map aK=b.map aK->a=b
 |[],[],_=>rfl
 |[],_::_,h=>by simp at h
 |_::_,[],h=>by simp at h
 |x::a,y::b,h=>by
  rw[qB,qB]at h;injection h with h1 h2
  rw[AQ h1,Fb h2]
section
variable{K:W.Frag}
theorem Ej(r:aS K H x d)(h:bV d=true):∃k:aR,x=kV k/\d=aK k:=by
 cases r with
 |int i=>exact⟨.inl i,rfl,rfl⟩
 |str e z=>exact⟨.inr _,rfl,by rw[<-e];rfl⟩
 |_=>cases h
theorem Ek(r:zJ K H xs l):l.all bV=true->∃ks:List aR,xs=ks.map kV/\l=ks.map aK:=
 zJ.ind (P:=λxs l=>l.all bV=true->∃ks:List aR,xs=ks.map kV/\l=ks.map aK) (λ_=>⟨[],rfl,rfl⟩) (λa _ ih h=>by rw[all_cons,and_eq_true]at h;obtain⟨k,rfl,rfl⟩:=Ej a h.1;obtain⟨ks,rfl,rfl⟩:=ih h.2;exact⟨k::ks,rfl,rfl⟩) r
open Classical in
theorem JR{κ:Type}[DecidableEq κ](g:κ->D)(hg:∀a b,g a=g b->a=b):∀(zM:List (κ×V))(k:κ),(eT zM k).isSome=decide (g k∈zM.map λp=>g p.1)
 |[],k=>by simp[eT]
 |p::r,k=>by
  by_cases e:p.1=k
  .rw[Fm e];have:g k∈(p::r).map λp=>g p.1:=by rw[qB,e];exact qo
   exact(qU this).symm
  .rw[Fh e,JR g hg r k];have:(g k∈(p::r).map λp=>g p.1)↔(g k∈r.map λp=>g p.1):=by rw[qB,qD];exact⟨λz=>z.elim (λw=>absurd (hg _ _ w).symm e) id,.inr⟩
   exact(decide_eq_decide.2 this).symm
open Classical in
theorem EO{κ:Type}[DecidableEq κ](g:κ->D)(hg:∀a b,g a=g b->a=b){α:Type}:∀(zM:List (κ×V))(vs:List α)(k:κ)(P:V->α->Prop),zM.length=vs.length->(∀(i:Nat) x y,(zM.map (·.2))[i]?=some x->vs[i]?=some y->P x y)->
  (lk (zM.map λp=>g p.1) vs (g k)=none/\eT zM k=none)\/∃x y,eT zM k=some x/\lk (zM.map λp=>g p.1) vs (g k)=some y/\P x y
 |[],[],k,P,_,_=>.inl ⟨rfl,rfl⟩
 |[],_::_,_,_,h,_=>by simp at h
 |_::_,[],_,_,h,_=>by simp at h
 |p::r,v::vs,k,P,hl,h=>by
  by_cases e:p.1=k
  .refine .inr ⟨p.2,v,Fm e,?_,h 0 p.2 v rfl rfl⟩;show(if g p.1=g k then some v else lk (r.map λp=>g p.1) vs (g k))=some v;rw[za (by rw[e])]
  .have hne:¬g p.1=g k:=λz=>e (hg _ _ z);rw[Fh e];have e2:lk ((p::r).map λp=>g p.1) (v::vs) (g k)=lk (r.map λp=>g p.1) vs (g k):=by show(if g p.1=g k then some v else lk (r.map λp=>g p.1) vs (g k))=_;rw[zc hne]
   rw[e2];exact EO g hg r vs k P (by simpa using hl) λi x y h1 h2=>h (i+1) x y (by simpa using h1) (by simpa using h2)
theorem Uo(r1:aS K H x d)(r2:aS K H (.ref a) (.dct t ks vs))(hk:bZ t d=true):∃o,nV H a x o/\o.isSome=(open Classical in decide (d∈ks))/\
  ((lk ks vs d=none/\o=none)\/∃v e,o=some v/\lk ks vs d=some e/\aS K H v e):=by
 cases r2 with
 |dK e k r=>
  rename_i zM;obtain⟨key,rfl,rfl⟩:=Ej r1 hk;refine⟨_,.inl ⟨zM,key,e,rfl,rfl⟩,?_,?_⟩
  .rw[k];exact JR aK (λ_ _=>AQ) zM key
  .rw[k];rcases EO aK (λ_ _=>AQ) zM vs key (λv e=>aS K H v e) (by have:=r.len;simpa using this) (λi x y h1 h2=>by obtain⟨x',hx',rx⟩:=r.get h2;rw[h1]at hx';cases hx';exact rx)with⟨h1,h2⟩|⟨v,e,h1,h2,h3⟩
   .exact .inl ⟨h1,h2⟩
   .exact .inr ⟨v,e,h1,h2,h3⟩
 |dT e k r=>
  rename_i zM;cases r1 with
  |tup e1 q=>
   obtain⟨keys,rfl,rfl⟩:=Ek q hk;have inj:∀a b:List aR,D.tup (a.map aK)=D.tup (b.map aK)->a=b:=λa b z=>Fb (D.tup.inj z);refine⟨_,.inr ⟨zM,keys,_,e,rfl,e1,rfl⟩,?_,?_⟩
   .rw[k];exact JR (λl=>D.tup (l.map aK)) inj zM keys
   .rw[k];rcases EO (λl=>D.tup (l.map aK)) inj zM vs keys (λv e=>aS K H v e) (by have:=r.len;simpa using this) (λi x y h1 h2=>by obtain⟨x',hx',rx⟩:=r.get h2;rw[h1]at hx';cases hx';exact rx)with⟨h1,h2⟩|⟨v,e,h1,h2,h3⟩
    .exact .inl ⟨h1,h2⟩
    .exact .inr ⟨v,e,h1,h2,h3⟩
  |_=>cases hk
def mE(neg:Bool):R2:=λx y H Q=>∃a o,y=.ref a/\nV H a x o/\Q (.bl (if neg then !o.isSome else o.isSome)) H
theorem Wm(hu:X.A.units+1<cLine):OpR X (compareOp .In) (mE false):=by intro zL s Z H x y v u Q I rx ry h;obtain⟨a,o,rfl,g,q⟩:=h;cases ry;exact MB hu I g rx λs' I'=>⟨.bl _,H,I',rfl,q⟩
theorem Yc(hu:X.A.units+1<cLine):OpR X (compareOp .NotIn) (mE true):=by intro zL s Z H x y v u Q I rx ry h;obtain⟨a,o,rfl,g,q⟩:=h;cases ry;exact Um hu I g rx λs' I'=>⟨.bl _,H,I',rfl,q⟩
def mF(K:W.Frag)(neg:Bool):R2:=λx y H Q=>Cw K neg x y H Q\/mE neg x y H Q
theorem VW(hu:X.A.units+32<cLine):OpR X (compareOp .In) (mF X.K false):=FL.OpR.or (Sn hu) (Wm (by lia))
theorem Yo(hu:X.A.units+32<cLine):OpR X (compareOp .NotIn) (mF X.K true):=FL.OpR.or (WK hu) (Yc (by lia))
open Classical in
theorem TH(r1:aS K H x p)(r2:aS K H y q)(e:wV p q=some k)(hq:Q (.bl (if neg then !k else k)) H):mF K neg x y H Q:=by
 unfold wV at e;split at e
 .rename_i l;split at e
  .cases e
  .rename_i h;have e':=qg e;subst e';refine .inl ⟨p,l,r1,.inl r2,λd hd=>?_,hq⟩;grind
 .rename_i l;split at e
  .cases e
  .rename_i h;have e':=qg e;subst e';refine .inl ⟨p,l,r1,.inr r2,λd hd=>?_,hq⟩;grind
 .rename_i t ks vs;split at e
  .rename_i h;have e':=qg e;cases y with
   |ref a=>obtain⟨o,g,ho,_⟩:=Uo r1 r2 h;refine .inr ⟨a,o,rfl,g,?_⟩;rw[ho,e'];exact hq
   |_=>cases r2
  .cases e
 .cases e
end
open PySem.Builtin.Str (strSliceIndices)
theorem Ff(n d:Nat)(o:Option Int):HT.sIx n d o=FL.sIx n d o:=by cases o<;>rfl
theorem NR(n d:Nat)(hd:d<=n)(o:Option Int):FL.sIx n d o<=n:=by rw[<-Ff];exact HT.sIx_le n d hd o
def DN(z:Str)(lo hi:Option Int):Str:=⟨(aM z.cps.toList lo hi).toArray⟩
theorem Xd(lo hi:Option Int)(n:Nat):strSliceIndices lo hi 1 n=(List.range (FL.sIx n n hi-FL.sIx n 0 lo)).map (FL.sIx n 0 lo+·):=by rw[<-sliceRange_one];unfold strSliceIndices;cases lo<;>cases hi<;>simp only[show(1:Int)>0 by decide,if_true,FL.sIx,Bp]<;>rfl
theorem WL(x:Str)(lo hi:Option Int):Txt.slice x lo hi=DN x lo hi:=by
 have zO:x.length=x.cps.toList.length:=by show x.cps.size=_;rw[qY]
 unfold Txt.slice DN aM;rw[Xd,pick_run,<-zO];split
 .rename_i h;simp only[beq_self_eq_true,Bool.true_and,qp,qG,beq_iff_eq]at h;have h1:=NR x.length x.length (zd _) hi;have h2:FL.sIx x.length 0 lo=0\/x.length=0:=by lia
  have h3:FL.sIx x.length 0 lo=0:=h2.elim id λz=>by have:=NR x.length 0 (zero_le _) lo;lia
  rw[h,h3,drop_zero,take_of_length_le (by rw[zO];exact zd _)]
 .rfl
def FU:V->Option Int->Option Int->Hp->VK->Prop:=λx lo hi H Q=>∃z,x=.str z/\z.length<=sizeLine/\Q (.str (DN z lo hi)) H
theorem NI(p:IsPart v o):∃l:Option (Int×Tok),v=partValue l/\o=l.map (·.1):=by
 cases p with
 |none=>exact⟨none,rfl,rfl⟩
 |int i t=>exact⟨some (i,t),rfl,rfl⟩
theorem SR:tJ X FU:=by
 intro zL s Z H x v vl vu lo hi sl Q I rx hs pl pu h;obtain⟨z,rfl,hz,q⟩:=h;obtain⟨t,rfl⟩:=rx;obtain⟨l,rfl,rfl⟩:=NI pl;obtain⟨u,rfl,rfl⟩:=NI pu;rw[<-WL]at q;exact⟨"str",_,F.slot_str_getitem.lookup,typeIs_str _ _ _,wpAny_getItem_str_slice (l:=l) (u:=u) (st:=none) hs rfl
  (post_val_or_str ⟨le_trans (Txt.slice_le z _ _) hz,λt' k=>⟨.str (Txt.slice z (l.map (·.1)) (u.map (·.1))),H,I.tok _,⟨_,rfl⟩,q⟩⟩)⟩
def FQ(K:W.Frag):V->Option Int->Option Int->Hp->VK->Prop:=λx lo hi H Q=>∃a xs,x=.ref a/\bX K H a xs/\
 (HT.sIx xs.length 0 lo=0/\HT.sIx xs.length xs.length hi=xs.length)/\Q (.ref a) H
theorem YJ{items:Array Value}{lo hi:Option Int}(ht:IsTup s.heap t items)(hs:s.heap.IsSliceOf sl vl vu .none)(pl:IsPart vl lo)(pu:IsPart vu hi)
  (hw:HT.sIx items.size 0 lo=0/\HT.sIx items.size items.size hi=items.size)(h:Q (.ref t) s):wpAny (model prog w) A (getItem (.ref t) (.ref sl)) Q E s:=by
 obtain⟨os,hos,hcs,hds⟩:=id hs;have hTs:s.TypeIs (.ref sl) "slice":=⟨os,hos,hcs⟩
 unfold getItem;try with_reducible refine zk ?_
 first|refine qa (qb ?_)|skip
 refine qa (wpAny_sequenceKey ht.typeIs (by decide) ?_);refine qa (wpAny_callSpecial?_slot (name:=Str.ofString "__getitem__") ht.typeIs PyProof.Rows.slot_tuple_getitem
  (zi PyProof.Rows.slot_tuple_getitem ht.typeIs entry_tuple_getitem ?_ (args_tuple_getitem _ _)))
 show wpAny _ _ (Builtin.Tuple.tupleItemsOf (.ref t)>>=_) _ _ s;refine qa (tupleItemsOf_ ht ?_);refine qa (wpAny_typeOf hTs ?_);rw[za (by decide)];refine qa (HT.sliceApplied_gen hs pl pu ?_);have hyes:(((HT.sIx items.size 0 lo:Nat):Int)==0&&(1:Int)==1&&(HT.sIx items.size items.size hi-HT.sIx items.size 0 lo)==items.size)=true:=by rw[hw.1,hw.2];simp
 show wpAny _ _ (if(((HT.sIx items.size 0 lo:Nat):Int)==0&&(1:Int)==1&&(HT.sIx items.size items.size hi-HT.sIx items.size 0 lo)==items.size)=true then _ else _) _ _ s;rw[za hyes];unfold Builtin.Tuple.tupleIsExact;refine qa (qa (wpAny_typeOf ht.typeIs (qb ?_)));rw[za (by decide)];first
  |exact qa (wpAny_rule (qb ⟨_,rfl,qb h⟩))
  |exact qa (qb (qb ⟨_,rfl,qb h⟩))
  |exact qb ⟨_,rfl,qb h⟩
theorem Vm:tJ X (FQ X.K):=by
 intro zL s Z H x v vl vu lo hi sl Q I rx hs pl pu h;obtain⟨a,xs,rfl,hx,hw,q⟩:=h;cases rx;obtain⟨zP,r,ht,hz⟩:=I.tuple hx;have zO:zP.toArray.size=xs.length:=by rw[qt];exact r.length.symm
 refine⟨"tuple",_,PyProof.Rows.slot_tuple_getitem.lookup,ht.typeIs,?_⟩;exact YJ ht hs pl pu (by rw[zO];exact hw) ⟨.ref a,H,I,rfl,q⟩
section
variable{K:W.Frag}
theorem zJ.drop:∀{xs:List V}{l:List D}(n:Nat),zJ K F xs l->zJ K F (xs.drop n) (l.drop n)
 |_,_,0,r=>by rw[drop_zero,drop_zero];exact r
 |_,_,n+1,.nil=>by rw[List.drop_nil,List.drop_nil];exact .nil
 |_,_,n+1,.cons a b=>by rw[List.drop_succ_cons,List.drop_succ_cons];exact zJ.drop n b
theorem zJ.take:∀{xs:List V}{l:List D}(n:Nat),zJ K F xs l->zJ K F (xs.take n) (l.take n)
 |_,_,0,r=>by rw[take_zero,take_zero];exact .nil
 |_,_,n+1,.nil=>by rw[take_nil,take_nil];exact .nil
 |_,_,n+1,.cons a b=>by rw[List.take_succ_cons,List.take_succ_cons];exact .cons a (zJ.take n b)
theorem zJ.cut{lo hi:Option Int}(r:zJ K F xs l):zJ K F (nO xs lo hi) (aM l lo hi):=by unfold nO aM;rw[Ff,Ff,r.len];exact(r.drop _).take _
def Lo(K:W.Frag):V->Option Int->Option Int->Hp->VK->Prop:=λx lo hi H Q=>FV K x lo hi H Q\/FR K x lo hi H Q\/FQ K x lo hi H Q\/FU x lo hi H Q
theorem Je:tJ X (Lo X.K):=tJ.or TZ (tJ.or RE (tJ.or Vm SR))
theorem Td{lo hi:Option Int}(zN:Rel K U Z F G H)(re:bN K F H v d)(e:nX d lo hi=some s)
  (hq:∀v F' H',zw F F'->Rel K (U++[some s]) (Z++[some v]) F' G H'->Q v H'):Lo K v lo hi H Q:=by
 cases d with
 |str l=>
  cases e;obtain⟨x,rfl,h1,h2⟩:=re.str;subst h1;refine .inr (.inr (.inr ⟨x,rfl,?_,hq _ F H (zw.refl F) (zN.push (.str rfl ?_))⟩))
  .have:x.length=x.cps.toList.length:=by show x.cps.size=_;rw[qY]
   rw[this];exact h2
  .refine le_trans ?_ h2;unfold aM;rw[qK,qJ];lia
 |tup l=>
  cases e;obtain⟨a,xs,rfl,h1,r1⟩:=re.tup;by_cases hw:HT.sIx xs.length 0 lo=0/\HT.sIx xs.length xs.length hi=xs.length
  .refine .inr (.inr (.inl ⟨a,xs,rfl,bX.of (zN.fr _ _ h1),hw,hq _ F H (zw.refl F) (zN.push ?_)⟩));have:aM l lo hi=l:=by unfold aM;rw[<-r1.len,<-Ff,<-Ff,hw.1,hw.2,drop_zero,take_of_length_le (by rw[<-r1.len];lia)]
   rw[this];exact .tup h1 r1
  .refine .inr (.inl ⟨a,xs,rfl,bX.of (zN.fr _ _ h1),hw,λp hp=>?_⟩);have n2:=(zN.free hp).1;exact hq _ _ _ (zw.upd n2) ((zN.newF hp).push (.tup kJ (r1.cut.mono (zw.upd n2))))
 |lst l=>cases e;obtain⟨a,xs,rfl,h1,r1⟩:=re.lst zN.fr;exact .inl ⟨a,xs,rfl,h1,λp hp=>hq _ F _ (zw.refl F) (zN.newLD hp r1.cut)⟩
 |_=>cases e
end
theorem nextOf(r1:Rel X.K (U1++[zx x]) (Z++[some v]) F G H1)(rv1:RV Z v x)(hp1:wb U1 (λy U2=>k x y U2 P PX) PX)
  (hok:∀r U' v F' H',P r U'->zw F F'->Rel X.K (U'++[zx r]) (Z++[some v]) F' G H'->RV Z v r->Q v H')(hx:XC X (·=Z) F G PX):tW X wb Z H1 λu H2=>Bq X Z k Q v u H2:=by
 have h1:=bD r1;obtain⟨G1,rel1,gg,back⟩:=r1.hide h1;refine⟨F,G1,U1,_,PX,rel1,hp1,λy U2 u F2 H2 hp2 s2 r2 rv2=>?_,hx.mono (λ_ z=>z) (zw.refl F) gg⟩;have h2:=bD r2;have r3:=back s2 r2;rw[qq,qq]at r3;exact⟨F2,G,U2,x,y,P,PX,Rel.swap (U1:=[zx y]) (Z1:=[some u]) (U2:=[zx x]) (Z2:=[some v]) h2 rfl r3,h2,rv1,rv2,hp2,λr U' v F' H' a b c d=>hok r U' v F' H' a (s2.trans b) c d,hx.grow s2⟩
theorem fP{U:Env}{o:Option D}{k:Int->Prop}(h:(match o with|some (.int i)=>k i|_=>False)):∃i,o=some (.int i)/\k i:=by
 split at h
 .exact⟨_,rfl,h⟩
 .exact h.elim
theorem Jm{K:W.Frag}{U:Env}{Z:St}{F G H:Hp}{x y:R}{v u:V}{lo hi:Option Int}{P:WQ}{Q:VK}{q:D}(zN:Rel K (U++[zx x,zx y]) (Z++[some v,some u]) F G H)(hl:U.length=Z.length)(rx:RV Z v x)
  (hk:zv (zH x U) λd=>zv (nX d lo hi) λs=>P (.v s) U)
  (hok:∀r U' v F' H',P r U'->zw F F'->Rel K (U'++[zx r]) (Z++[some v]) F' G H'->RV Z v r->Q v H'):Lo K v lo hi H Q:=by
 obtain⟨d,ed,hk⟩:=cF hk;obtain⟨s,es,hk⟩:=cF hk;have relx:Rel K (U++[zx x]) (Z++[some v]) F G H:=by have:=Rel.swap (U1:=[zx x]) (Z1:=[some v]) (U2:=[zx y]) (Z2:=[some u]) hl rfl zN;exact Rel.mid (U:=U) (Z:=Z) this hl
 obtain⟨F1,s1,re,r1⟩:=iB (U':=[]) (Z':=[]) relx hl rx ed;exact Td (U:=U) (Z:=Z) (by simpa using r1) re es λv F' H' sm r'=>hok _ U v F' H' hk (s1.trans sm) r' trivial
theorem Hy(ha:FE X a wa)(hb:FE X b wb):FE X (.Subscript a (.Slice (some b) none none p2) pos) (gV wa (some wb) none):=λpn xe hp=>by
 refine PE.imp (JQ (Je (X:=wp X pn xe)) (ha pn xe hp) (HG (hb pn xe hp)) NY) λZ H Q q=>?_;refine(BV (k:=λx y U2 Q E=>match view y U2 with
  |some (.int i)=>zv (zH x U2) λd=>zv (nX d (some i) none) λs=>Q (.v s) U2
  |_=>False) q).mono λv H1 h1=>h1.mono λu H2 h2=>?_
 obtain⟨F,G,U,x,y,P,PX,zN,hl,rx,ry,hk,hok,hx⟩:=h2;obtain⟨i,ei,hk⟩:=fP (U:=U) (k:=λi=>zv (zH x U) λd=>zv (nX d (some i) none) λs=>P (.v s) U) hk;have ru:=dH (U':=[]) (Z':=[]) (zN.mid hl) hl ry ei;cases ru;exact⟨i,rfl,Jm (q:=.non) zN hl rx hk hok⟩
theorem AM(ha:FE X a wa)(hb:FE X b wb):FE X (.Subscript a (.Slice none (some b) none p2) pos) (gV wa none (some wb)):=λpn xe hp=>by
 refine PE.imp (JQ (Je (X:=wp X pn xe)) (ha pn xe hp) NY (HG (hb pn xe hp))) λZ H Q q=>?_;refine(BV (k:=λx y U2 Q E=>match view y U2 with
  |some (.int i)=>zv (zH x U2) λd=>zv (nX d none (some i)) λs=>Q (.v s) U2
  |_=>False) q).mono λv H1 h1=>h1.mono λu H2 h2=>?_
 obtain⟨F,G,U,x,y,P,PX,zN,hl,rx,ry,hk,hok,hx⟩:=h2;obtain⟨i,ei,hk⟩:=fP (U:=U) (k:=λi=>zv (zH x U) λd=>zv (nX d none (some i)) λs=>P (.v s) U) hk;have ru:=dH (U':=[]) (Z':=[]) (zN.mid hl) hl ry ei;cases ru;exact⟨i,rfl,Jm (q:=.non) zN hl rx hk hok⟩
theorem Bt(ha:FE X a wa)(hb:FE X b wb)(hc:FE X c wc):FE X (.Subscript a (.Slice (some b) (some c) none p2) pos) (gV wa (some wb) (some wc)):=λpn xe hp=>by
 refine PE.imp (JQ (Je (X:=wp X pn xe)) (ha pn xe hp) (HG (hb pn xe hp)) (HG (hc pn xe hp))) λZ H Q q=>?_;refine(BV (k:=λx y U2 Q E=>match view y U2 with
  |some (.int i)=>wc U2 (λz U3=>match view z U3 with
   |some (.int j)=>zv (zH x U3) λd=>zv (nX d (some i) (some j)) λs=>Q (.v s) U3
   |_=>False) E
  |_=>False) q).mono λv H1 h1=>h1.mono λu H2 h2=>?_
 obtain⟨F,G,U,x,y,P,PX,zN,hl,rx,ry,hk,hok,hx⟩:=h2;obtain⟨i,ei,hk⟩:=fP (U:=U) (k:=λi=>wc U (λz U3=>match view z U3 with
   |some (.int j)=>zv (zH x U3) λd=>zv (nX d (some i) (some j)) λs=>P (.v s) U3
   |_=>False) PX) hk
 have ru:=dH (U':=[]) (Z':=[]) (zN.mid hl) hl ry ei;cases ru;have relx:Rel X.K (U++[zx x]) (Z++[some v]) F G H2:=by have:=Rel.swap (U1:=[zx x]) (Z1:=[some v]) (U2:=[zx y]) (Z2:=[some (.int i)]) hl rfl zN;exact Rel.mid (U:=U) (Z:=Z) this hl
 refine⟨i,rfl,(nextOf (X:=wp X pn xe) (k:=λx z U3 P PX=>match view z U3 with
   |some (.int j)=>zv (zH x U3) λd=>zv (nX d (some i) (some j)) λs=>P (.v s) U3
   |_=>False) relx rx hk hok hx).mono λt H3 h3=>?_⟩
 obtain⟨F,G,U,x,y,P,PX,zN,hl,rx,ry,hk,hok,hx⟩:=h3;obtain⟨j,ej,hk⟩:=fP (U:=U) (k:=λj=>zv (zH x U) λd=>zv (nX d (some i) (some j)) λs=>P (.v s) U) hk;have ru:=dH (U':=[]) (Z':=[]) (zN.mid hl) hl ry ej;cases ru;exact⟨j,rfl,Jm (q:=.non) zN hl rx hk hok⟩
end FL
namespace FL
open PySem
def AR(f:List Nat->List D->Option S)(o:WE)(a:WA):WE:=λU Q E=>o U (λx U1=>match x with
 |.v (.sh (.str l))=>a U1 (λrs U2=>zv (rs.mapM λr=>zH r U2) λds=>zv (f l ds) λs=>Q (.v s) U2) E
 |_=>False) E
def cS:List D->Option (List (List Nat))
 |[]=>some []
 |.str x::r=>(cS r).map (x::·)
 |_::_=>none
@[simp] theorem XH(l:List (List Nat)):cS (l.map .str)=some l:=by
  induction l with
  |nil=>rfl
  |cons a r ih=>rw[qB,cS,ih];rfl
def eQ(sep:List Nat):List (List Nat)->List Nat
 |[]=>[]
 |[x]=>x
 |x::r=>x++sep++eQ sep r
theorem Qi(sep:List Nat):∀ys:List (List Nat),(eQ sep ys).length<=(ys.map List.length).sum+ys.length*sep.length
 |[]=>zero_le _
 |[x]=>by simp[eQ]
 |x::y::r=>by
  have:=Qi sep (y::r);rw[eQ,qr,qr,qB,sum_cons,qv (a:=x),Nat.succ_mul]
  .lia
  .intro h;cases h
theorem Pk(ys:List (List Nat)):eQ [] ys=ys.flatten:=by
 induction ys with
 |nil=>rfl
 |cons x r ih=>
  cases r with
  |nil=>simp[eQ]
  |cons y r=>rw[eQ,ih];simp;intro h;cases h
def sD(sep:List Nat)(l:List D):Option S:=(cS l).bind λys=>if(ys.map List.length).sum+ys.length*sep.length<=big then some (.sh (.str (eQ sep ys)))else none
def iD(sep:List Nat):List D->Option S
 |[.lst l]=>sD sep l
 |[.tup l]=>sD sep l
 |_=>none
def iV(j:Nat)(e:WE):WE:=λU Q E=>match slot U j with
 |some (.lst _)=>e U (λr U2=>match view r U2,slot U2 j with
  |some (.int i),some (.lst l)=>zv (if l.length<=big then ixN l.length i else none) λk=>zv l[k]? λs=>Q (.v s) (U2.set j (some (.lst (l.eraseIdx k))))
  |_,_=>False) E
 |_=>False
def kD:List D->Option (List Bool)
 |[]=>some []
 |.bl x::r=>(kD r).map (x::·)
 |_::_=>none
@[simp] theorem XA(l:List Bool):kD (l.map .bl)=some l:=by
  induction l with
  |nil=>rfl
  |cons a r ih=>rw[qB,kD,ih];rfl
def AF:List D->Option S
 |[.lst l]=>(kD l).map λbs=>.sh (.bl (bs.all id))
 |_=>none
end FL
namespace FL
open PySem PySem.Spec PyProof.Rows L2
section
variable{id:String}
def xE(K:W.Frag)(r:V->List V->Hp->VK->Prop)(f:List Nat->List D->Option S):Prop:=∀(Z:St)(U:Env)(F G H:Hp)(x:Str)(vs:List V)(ds:List D)(s:S)(Q:VK),Rel K U Z F G H->x.cps.toList.length<=16777216->lO K F H vs ds->f x.cps.toList ds=some s->
 (∀v F' H',zw F F'->Rel K (U++[some s]) (Z++[some v]) F' G H'->Q v H')->r (.str x) vs H Q
theorem Re(hm:∀pn xe,IX (wp X pn xe) id r)(hd:xE X.K r f)(slot:Slot "str" name id)(hty:typeOf (.builtin id)=pure (.type "method_descriptor"))(ho:FE X o wo)(ha:FA X (e::es) wa)
  (hbase:attributeBase o name X.env (eval o X.env)=eval o X.env:=by rfl)
  (hfew:((backTo cpos (starEach (e::es) X.env)).all (λx=>!x.1)&&(backToKw cpos (keywordEach [] X.env)).all (λx=>x.1.isSome)
   &&decide ((e::es).length+([]:List Keyword).length+(if([]:List Keyword).isEmpty then 0 else 1)<30))=true:=by rfl)
  (hline:(apos.endLine==cpos.line)=true:=by rfl)(hs:starEach (e::es) X.env=(false,eval e X.env)::starEach es X.env:=by rfl)(hplain:(backTo cpos (starEach es X.env)).any (·.1)=false:=by rfl):
  FE X (.Call (.Attribute o name apos) (e::es) [] cpos) (AR f wo wa):=λpn xe hp=>by
 refine PE.imp (Hv (X:=wp X pn xe) PySem.F.plainAttrs_str slot hty (hm pn xe) (ho pn xe hp) (ha pn xe hp) hbase hfew hline hs hplain) λZ H Q q=>?_;refine(one (k:=λx U1 Q E=>match x with
  |.v (.sh (.str l))=>wa U1 (λrs U2=>zv (rs.mapM λr=>zH r U2) λds=>zv (f l ds) λs=>Q (.v s) U2) E
  |_=>False) q).mono λv H1 h1=>?_
 obtain⟨F,G,U,x,P,PX,zN,hl,rx,hk,hok,hx⟩:=h1;split at hk
 .rename_i l;have rp:=dH (U':=[]) (Z':=[]) (x:=.v (.sh (.str l))) zN hl rx rfl;cases rp with
  |str e1 z=>rename_i y;subst e1;refine⟨rfl,F,G,U,_,PX,zN.drop hl,hk,λrs U2 vs F2 H2 hk2 s2 r2 hl2 rvs=>?_,hx⟩;obtain⟨ds,ed,hk2⟩:=cF hk2;obtain⟨s,es,hk2⟩:=cF hk2;obtain⟨F3,s3,re,r3⟩:=lZ (U':=[]) (Z':=[]) (by simpa using r2) hl2 rvs ed;exact hd Z U2 F3 G H2 y vs ds s Q (by simpa using r3) z re es λv F' H' sm r'=>hok _ U2 v F' H' hk2 (s2.trans (s3.trans sm)) r' trivial
 .exact hk.elim
end
section
variable{K:W.Frag}
theorem NJ(r:zJ K F xs l)(h:cS l=some ys):∃zs:List Str,xs=zs.map V.str/\ys=zs.map λz=>z.cps.toList:=
 zJ.ind (P:=λxs l=>∀ys,cS l=some ys->∃zs:List Str,xs=zs.map V.str/\ys=zs.map λz=>z.cps.toList) (λys h=>by cases h;exact⟨[],rfl,rfl⟩) (λa _ ih ys h=>by
  cases a with
  |@str x _ e z=>rw[cS]at h;obtain⟨ys',h1,rfl⟩:=q8.mp h;obtain⟨zs,rfl,rfl⟩:=ih _ h1;exact⟨x::zs,rfl,by rw[qB,e]⟩
  |_=>cases h) r ys h
theorem OT(sep:Str):∀zs:List Str,(Str.join sep zs).cps.toList=eQ sep.cps.toList (zs.map λz=>z.cps.toList)
 |[]=>rfl
 |[x]=>rfl
 |x::y::r=>by show((x++sep++Str.join sep (y::r):Str)).cps.toList=x.cps.toList++sep.cps.toList++eQ sep.cps.toList ((y::r).map λz=>z.cps.toList);rw[<-OT sep (y::r)];show(x.cps++sep.cps++(Str.join sep (y::r)).cps).toList=_;rw[toList_append,toList_append]
theorem Ib:∀{us:List Value},zI (ys.map V.str) us->StrsAre us ys:=by
 induction ys with
 |nil=>intro us r;rw[map_nil]at r;cases r;exact .nil
 |cons n ns ih=>
  intro us r;rw[qB]at r;cases r with
  |cons r1 r2=>obtain⟨t,e⟩:=r1;subst e;exact .cons n t (ih r2)
def vD(K:W.Frag):V->List V->Hp->VK->Prop:=λx vs H Q=>∃z a ys,x=.str z/\vs=[.ref a]/\(cA K H a (ys.map V.str)\/bX K H a (ys.map V.str))/\(ys.map (·.length)).sum+ys.length*z.length<=16777216/\Q (.str (Str.join z ys)) H
theorem SY:IX X "str.join" (vD X.K):=by
 intro zL s Z H x vs v us Q I rx rv h;obtain⟨z,a,ys,rfl,rfl,hq,hz,q⟩:=h;obtain⟨t,rfl⟩:=rx;cases rv with
 |cons r1 r2=>
  cases r2;cases r1;have e:Txt.join z ys=Str.join z ys:=StrLaws.glued_eq_join z ys;rcases hq with hq|hq
  .obtain⟨zP,r,pl,_⟩:=I.list hq;exact join_list pl.isList (Ib r) hz λt' k=>⟨.str (Str.join z ys),H,I.tok _,⟨_,by rw[e]⟩,q⟩
  .obtain⟨zP,r,pl,_⟩:=I.tuple hq;exact join_tuple pl (Ib r) hz λt' k=>⟨.str (Str.join z ys),H,I.tok _,⟨_,by rw[e]⟩,q⟩
theorem Pa(zN:Rel K U Z F G H)(hq:cA K H a xs\/bX K H a xs)(r:zJ K F xs l)(e:sD x.cps.toList l=some s)
  (k:∀v F' H',zw F F'->Rel K (U++[some s]) (Z++[some v]) F' G H'->Q v H'):vD K (.str x) [.ref a] H Q:=by
 unfold sD at e;obtain⟨ys,e1,e2⟩:=Option.bind_eq_some_iff.mp e;obtain⟨zs,rfl,rfl⟩:=NJ r e1;split at e2
 .rename_i hz;cases e2;have hl:∀z:Str,z.cps.toList.length=z.length:=λz=>by rw[qY];rfl
  have e3:((zs.map λz=>z.cps.toList).map List.length)=zs.map (·.length):=by rw[qH];exact map_congr_left λz _=>hl z
  have hz2:=hz;rw[e3,qp,hl]at hz;refine⟨x,a,zs,rfl,rfl,hq,le_trans hz (by decide),k _ F H (zw.refl F) (zN.push (.str (OT x zs) ?_))⟩;exact le_trans (Qi _ _) (le_trans hz2 (by decide))
 .cases e2
theorem Wf:xE K (vD K) iD:=by
 intro Z U F G H x vs ds s Q zN hz re e hq;obtain⟨d,v,rfl,rfl⟩:=kE (λx y r=>by cases x<;>rfl) rfl re e;cases d with
 |tup l=>obtain⟨a,xs,rfl,h1,r1⟩:=re.1.tup;exact Pa zN (.inr (bX.of (zN.fr _ _ h1))) r1 e hq
 |lst l=>obtain⟨a,xs,rfl,h1,r1⟩:=re.1.lst zN.fr;exact Pa zN (.inl h1) r1 e hq
 |_=>cases e
end
theorem Jt(ho:FE X o wo)(ha:FA X [e] wa)
  (hbase:attributeBase o "join" X.env (eval o X.env)=eval o X.env:=by rfl)
  (hfew:((backTo cpos (starEach [e] X.env)).all (λx=>!x.1)&&(backToKw cpos (keywordEach [] X.env)).all (λx=>x.1.isSome)
   &&decide ([e].length+([]:List Keyword).length+(if([]:List Keyword).isEmpty then 0 else 1)<30))=true:=by rfl)
  (hline:(apos.endLine==cpos.line)=true:=by rfl)(hs:starEach [e] X.env=(false,eval e X.env)::starEach [] X.env:=by rfl)(hplain:(backTo cpos (starEach [] X.env)).any (·.1)=false:=by rfl):
  FE X (.Call (.Attribute o "join" apos) [e] [] cpos) (AR iD wo wa):=Re (λ_ _=>SY) Wf PySem.F.slot_str_join PySem.F.type_str_join ho ha hbase hfew hline hs hplain
section
variable{K:W.Frag}
theorem zz.erase:∀{xs:List V}{l:List S}{fp:List Addr}{m:Nat}{s:S},zz K F H xs l fp->l[m]?=some s->∃y fa fi fb,fp=fa++(fi++fb)/\xs[m]?=some y/\aN K F H y s fi/\zz K F H (xs.eraseIdx m) (l.eraseIdx m) (fa++fb)
 |_,_,_,_,_,.nil,h=>by simp at h
 |_,_,_,0,s,.cons (x:=x) (fp:=fp) (fq:=fq) a b,h=>by have e:=qg h;subst e;exact⟨x,[],fp,fq,rfl,rfl,a,b⟩
 |_,_,_,m+1,s,.cons (fp:=fp) (fq:=fq) a b,h=>by obtain⟨y,fa,fi,fb,rfl,h1,h2,h3⟩:=zz.erase (m:=m) b (by simpa using h);refine⟨y,fp++fa,fi,fb,(qq ..).symm,by simpa using h1,h2,?_⟩;rw[qq];exact .cons a h3
theorem Rel.popItem{D:Addr}(r:Rel K U Z F G H)(hs:slot U n=some (.lst l))(hZ:Z[n]?=some (some (.ref D)))(hm:l[m]?=some s):
  ∃xs y,H D=some (.lst xs)/\xs.length=l.length/\xs[m]?=some y/\Rel K (U.set n (some (.lst (l.eraseIdx m)))++[some s]) (Z++[some y]) F G (upd H D (.lst (xs.eraseIdx m))):=by
 obtain⟨fp,e,nd,ap⟩:=r.en;obtain⟨v',fa,fi,fb,e1,rfl,q,up⟩:=e.at hs;rw[hZ]at e1;have e2:V.ref D=v':=by simpa using e1
 subst e2;cases q with
 |lst hD rl=>
  rename_i xs fl;obtain⟨y,ga,gi,gb,rfl,hy,sr,rl2⟩:=rl.erase hm;refine⟨xs,y,hD,rl.len,hy,?_⟩;obtain⟨na,nib,nab⟩:=qz.mp nd;obtain⟨ni,nb,nib⟩:=qz.mp nib;obtain⟨nD,nfl⟩:=qO.mp ni;have hDa:D∉fa:=λz=>nab D z D (qk _ qo) rfl;have hDb:D∉fb:=λz=>nib D qo D z rfl;have apD:=ap D (qj _ (qk _ qo));have ne:∀{l:List Addr},D∉l->∀x∈l,upd H D (.lst (xs.eraseIdx m)) x=H x:=λh x hx=>cH λz=>h (z▸hx);have hDg:D∉ga++gb:=λz=>nD ((qA.mp z).elim (λw=>qk _ w) λw=>qj _ (qj _ w));have hDi:D∉gi:=λz=>nD (qj _ (qk _ z));have new:aN K F (upd H D (.lst (xs.eraseIdx m))) (.ref D) (.lst (l.eraseIdx m)) (D::(ga++gb)):=.lst kJ (rl2.mono (zw.refl F) (ne hDg));have a2:=up (F':=F) (H':=upd H D (.lst (xs.eraseIdx m))) (o:=some (.lst (l.eraseIdx m))) (u:=some (.ref D)) (zw.refl F) (λx hx=>cH λz=>(qA.mp hx).elim (λw=>hDa (z▸w)) λw=>hDb (z▸w)) (.so new .nil);rw[HX hZ]at a2;have a3:=a2.app (.so (sr.mono (zw.refl F) (ne hDi)) .nil);have pm:(fa++((D::(ga++gb))++[]++fb)++(gi++[])).Perm (fa++((D::(ga++(gi++gb)))++fb)):=by simp only[qC,qq,qR];refine List.Perm.append_left _ (List.Perm.cons _ (List.Perm.append_left _ ?_));rw[<-qq gi gb fb,<-qq gb fb gi];refine(qQ (l₁:=gb++fb) (l₂:=gi)).trans ?_;rw[qq]
  refine⟨zw.updR r.fr apD.1,λx o w=>?_,_,a3,pm.nodup_iff.mpr nd,λx hx=>ap x (pm.mem_iff.mp hx)⟩;have hx:x≠D:=λz=>by rw[z,apD.2]at w;cases w
  rw[cH hx];exact r.gr x o w
end
theorem Oo(ho:FE X o (zp j))(he:FE X e we)
  (hbase:attributeBase o "pop" X.env (eval o X.env)=eval o X.env:=by rfl)
  (hfew:((backTo cpos (starEach [e] X.env)).all (λx=>!x.1)&&(backToKw cpos (keywordEach [] X.env)).all (λx=>x.1.isSome)
   &&decide ([e].length+([]:List Keyword).length+(if([]:List Keyword).isEmpty then 0 else 1)<30))=true:=by rfl)
  (hline:(apos.endLine==cpos.line)=true:=by rfl)(hs:starEach [e] X.env=[(false,eval e X.env)]:=by rfl):FE X (.Call (.Attribute o "pop" apos) [e] [] cpos) (iV j we):=λpn xe hp=>by
 refine PE.imp (Hv (X:=wp X pn xe) PySem.F.plainAttrs_list PySem.F.slot_list_pop PySem.F.type_list_pop Uw (ho pn xe hp) (aB he aG hs pn xe hp) hbase hfew hline hs rfl) λZ H Q q=>?_;obtain⟨F,G,U,P,PX,zN,hw,hok,hx⟩:=q;have hw':(match slot U j with
  |some (.lst _)=>we U (λr U2=>match view r U2,slot U2 j with
   |some (.int i),some (.lst l)=>zv (if l.length<=big then ixN l.length i else none) λk=>zv l[k]? λs=>P (.v s) (U2.set j (some (.lst (l.eraseIdx k))))
   |_,_=>False) PX
  |_=>False):=hw
 cases qs:slot U j with
 |none=>rw[qs]at hw';exact hw'.elim
 |some s0=>
  cases s0 with
  |lst l0=>
   rw[qs]at hw';refine⟨F,G,U,λy U1=>y=.loc j/\U1=U,PX,zN,by unfold zp;rw[qs];exact⟨rfl,rfl⟩,λy U1 o' F1 H1 hk s1 r1 rv=>?_,hx⟩;obtain⟨rfl,rfl⟩:=hk;have l1:=bD r1;have hZ:Z[j]?=some (some o'):=rv;have r2:=r1.drop l1;obtain⟨v',fp,e1,sr⟩:=r2.at qs;rw[hZ]at e1;have e2:o'=v':=by simpa using e1
   subst e2;cases sr with
   |lst hD rl=>
    rename_i a xs fl;refine⟨.inl ⟨rfl,_,cA.of hD⟩,F1,G,U1,λrs U2=>match rs with|[r]=>(match view r U2,slot U2 j with|some (.int i),some (.lst l)=>zv (if l.length<=big then ixN l.length i else none) λk=>zv l[k]? λs=>P (.v s) (U2.set j (some (.lst (l.eraseIdx k))))|_,_=>False)|_=>False,PX,r2,hw',λrs U2 vs F2 H2 hk s2 r3 hl rvs=>?_,hx.grow s1⟩;match rs,vs,rvs,r3,hk with
    |[r],[v],rvs,r3,hk=>
     dsimp only at hk;split at hk
     .rename_i i l ei ql;obtain⟨m,em,hk⟩:=cF hk;obtain⟨s,es,hk⟩:=cF hk;have rp:=dH (U':=[]) (Z':=[]) r3 hl rvs.1 ei;cases rp;split at em
      .rename_i hz;have r4:=r3.drop hl;obtain⟨ys,y,hD2,zO,hy,r5⟩:=Rel.popItem r4 ql hZ es;rw[<-zO]at em hz;obtain⟨b1,b2,b3,b4⟩:=Jy em;have hb:ys.length<=1000000:=hz;exact⟨a,ys,i,m,y,rfl,rfl,hD2,by lia,by lia,b1,hy,hok _ _ y F2 _ hk (s1.trans s2) r5 trivial⟩
      .cases em
     .exact hk.elim
    |[],_,_,_,hk=>exact hk.elim
    |[_],[],rvs,_,_=>exact rvs.elim
    |[_],_::_::_,rvs,_,_=>exact rvs.2.elim
    |_::_::_,_,_,_,hk=>exact hk.elim
  |_=>rw[qs]at hw';exact hw'.elim
section
variable{K:W.Frag}
theorem Uy:dC K (λxs H Q=>∃i j,xs=[.int i,.int j]/\Q (.int (if j>i then j else i)) H) wY:=by
 intro Z U F G H vs ds s Q zN re e hq;obtain⟨d,d2,v,u,rfl,rfl⟩:=GX (λx=>by cases x<;>rfl) (λx y z r=>by cases x<;>first|rfl|(cases y<;>rfl)) rfl re e;cases d with
 |int i=>
  cases d2 with
  |int j=>cases e;have h1:=re.1.int;have h2:=re.2.1.int;subst h1;subst h2;exact⟨i,j,rfl,hq _ F H (zw.refl F) (zN.push (.int _))⟩
  |_=>cases e
 |_=>cases e
theorem Vy:dC K (λxs H Q=>∃i j,xs=[.int i,.int j]/\Q (.int (if j<i then j else i)) H) wX:=by
 intro Z U F G H vs ds s Q zN re e hq;obtain⟨d,d2,v,u,rfl,rfl⟩:=GX (λx=>by cases x<;>rfl) (λx y z r=>by cases x<;>first|rfl|(cases y<;>rfl)) rfl re e;cases d with
 |int i=>
  cases d2 with
  |int j=>cases e;have h1:=re.1.int;have h2:=re.2.1.int;subst h1;subst h2;exact⟨i,j,rfl,hq _ F H (zw.refl F) (zN.push (.int _))⟩
  |_=>cases e
 |_=>cases e
theorem MY(hc:X.calm=true)(hg:Gl X "max")(hm:X.mg "max"=none)(hv:bootBuiltins "max"=some (.builtin "max"))(ha:FA X (e::es) wa)(he:starEach (e::es) X.env=(false,eval e X.env)::starEach es X.env:=by rfl)(hpl:(backTo pos (starEach es X.env)).any (·.1)=false:=by rfl):FE X (.Call (.Name "max" p) (e::es) [] pos) (wB wY wa):=
 Eg (λ_ _=>WJ hc) Uy hg hm hv ha (by decide) (by decide) he hpl
theorem Ni(hc:X.calm=true)(hg:Gl X "min")(hm:X.mg "min"=none)(hv:bootBuiltins "min"=some (.builtin "min"))(ha:FA X (e::es) wa)(he:starEach (e::es) X.env=(false,eval e X.env)::starEach es X.env:=by rfl)(hpl:(backTo pos (starEach es X.env)).any (·.1)=false:=by rfl):FE X (.Call (.Name "min" p) (e::es) [] pos) (wB wX wa):=
 Eg (λ_ _=>WU hc) Vy hg hm hv ha (by decide) (by decide) he hpl
theorem OR:∀{xs:List V}{l:List D}{ys:List Bool},zJ K F xs l->kD l=some ys->xs=ys.map V.bl
 |_,_,ys,.nil,h=>by cases h;rfl
 |_,d::l,ys,.cons a b,h=>by
  cases a with
  |bl c=>rw[kD]at h;obtain⟨ys',h1,rfl⟩:=q8.mp h;rw[OR b h1];rfl
  |_=>cases h
theorem Yq:∀{us:List Value},zI (ys.map V.bl) us->LSm.BoolsAre us ys:=by
 induction ys with
 |nil=>intro us r;rw[map_nil]at r;cases r;exact .nil
 |cons n ns ih=>
  intro us r;rw[qB]at r;cases r with
  |cons r1 r2=>cases r1;exact .cons n (ih r2)
end
theorem XN(hh:A.handled=none)(hl:s.heap.IsList l vs.toArray)(hb:LSm.BoolsAre vs bs)(h:∀h' tk,(∀b x,s.heap.get? b=some x->h'.get? b=some x)->Q (.bool (bs.all id)) {s with heap:=h',toks:=tk}):
  wpAny (model prog w) A (call (.builtin "all") [.ref l]) Q E s:=by
 have hlt:l<s.heap.objs.size:=by obtain⟨_,e,_⟩:=hl;exact qe e
 refine call_all_walk (wpAny_pyIter_list hl ?_);refine⟨s.heap.objs.size,[s.heap.objs.size,l],[s.heap.objs.size],vs.toArray.size,_,_,λi=>(bs[i]?).getD true,rfl,Walks.list (A:=A.in1) hh _ l (ne_of_lt hlt) vs.toArray,
  ⟨⟨_,qd _ rfl,rfl,rfl⟩,hl.push _⟩,λi v s' Q' E' hP hQ=>?_,λh' tk hk=>?_⟩
 .obtain⟨b,e,rfl⟩:=hb.get i v (by simpa using hP);simp only[e,Option.getD_some]at hQ;exact wpAny_truthy_bool hQ
 .have e:((List.range vs.toArray.size).all λi=>(bs[i]?).getD true)=bs.all id:=by rw[qt,hb.length];exact LSm.range_all bs
  rw[e];exact h h' tk (LSm.kept_iter hk)
section
variable{K:W.Frag}
def Gf(K:W.Frag):List V->Hp->VK->Prop:=λxs H Q=>∃(a:Addr)(bs:List Bool),xs=[.ref a]/\cA K H a (bs.map V.bl)/\Q (.bl (bs.all id)) H
theorem Xs(hc:X.calm=true):bA X (.builtin "all") (Gf X.K):=by
 intro zL s Z H xs us Q I r h;obtain⟨a,bs,rfl,hq,q⟩:=h;cases r with
 |cons r1 r2=>cases r2;cases r1;obtain⟨zP,r,pl,_⟩:=I.list hq;exact XN (I.ok.hd hc) pl.isList (Yq r) λh' tk k=>⟨.bl _,H,I.kept k,rfl,q⟩
theorem Vi:dC K (Gf K) AF:=by
 intro Z U F G H vs ds s Q zN re e hq;obtain⟨d,v,rfl,rfl⟩:=kE (λx y r=>by cases x<;>rfl) rfl re e;cases d with
 |lst l=>obtain⟨bs,e1,rfl⟩:=q8.mp e;obtain⟨a,xs,rfl,h1,r1⟩:=re.1.lst zN.fr;have:=OR r1 e1;subst this;exact⟨a,bs,rfl,h1,hq _ F H (zw.refl F) (zN.push (.bl _))⟩
 |_=>cases e
theorem RW(hc:X.calm=true)(hg:Gl X "all")(hm:X.mg "all"=none)(hv:bootBuiltins "all"=some (.builtin "all"))(ha:FA X (e::es) wa)(he:starEach (e::es) X.env=(false,eval e X.env)::starEach es X.env:=by rfl)(hpl:(backTo pos (starEach es X.env)).any (·.1)=false:=by rfl):FE X (.Call (.Name "all" p) (e::es) [] pos) (wB AF wa):=
 Eg (λpn xe=>Xs (X:=wp X pn xe) hc) Vi hg hm hv ha (by decide) (by decide) he hpl
end
end FL
namespace FL
open PySem
mutual
def cR:D->D->Ordering
 |.int i,.int j=>if i<j then .lt else if j<i then .gt else .eq
 |.str x,.str y=>if x<y then .lt else if y<x then .gt else .eq
 |.tup l,.tup m=>aL l m
 |_,_=>.eq
def aL:List D->List D->Ordering
 |[],[]=>.eq
 |[],_::_=>.lt
 |_::_,[]=>.gt
 |a::l,b::m=>match cR a b with
  |.eq=>aL l m
  |o=>o
end
def fZ(a b:D):Bool:=match cR a b with
 |.gt=>false
 |_=>true
@[simp] theorem EV(i j:Int):fZ (.int i) (.int j)=decide (i<=j):=by
  show(match(if i<j then Ordering.lt else if j<i then .gt else .eq)with|.gt=>false|_=>true)=_;by_cases h:i<j
  .rw[za h,qU (by lia)]
  .rw[zc h];by_cases h2:j<i
   .rw[za h2,qV (by lia)]
   .rw[zc h2,qU (by lia)]
@[simp] theorem Eo(x y:List Nat):fZ (.str x) (.str y)=!decide (y<x):=by
  show(match(if x<y then Ordering.lt else if y<x then .gt else .eq)with|.gt=>false|_=>true)=_;by_cases h:x<y
  .rw[za h,qV (λh'=>lt_asymm h h')];rfl
  .rw[zc h];by_cases h2:y<x
   .rw[za h2,qU h2];rfl
   .rw[zc h2,qV h2];rfl
def sX(x:D):List D->List D
 |[]=>[x]
 |y::r=>if fZ x y then x::y::r else y::sX x r
def eN:List D->List D
 |[]=>[]
 |x::r=>sX x (eN r)
theorem Kf(x:D):∀l:List D,(sX x l).Perm (x::l)
 |[]=>.refl _
 |y::r=>by
  unfold sX;split
  .exact .refl _
  .exact(List.Perm.cons y (Kf x r)).trans (.swap x y r)
theorem AN:∀l:List D,(eN l).Perm l
 |[]=>.refl _
 |x::r=>(Kf x _).trans (.cons x (AN r))
structure iF(P:D->Prop):Prop where
 tot:∀a b,P a->P b->fZ a b=true\/fZ b a=true
 tr:∀a b c,P a->P b->P c->fZ a b=true->fZ b c=true->fZ a c=true
 anti:∀a b,P a->P b->fZ a b=true->fZ b a=true->a=b
theorem Qg(o:iF P)(x:D)(hx:P x):∀l:List D,(∀d∈l,P d)->l.Pairwise (fZ · ·=true)->(sX x l).Pairwise (fZ · ·=true)
 |[],_,_=>List.pairwise_singleton _ _
 |y::r,hp,h=>by
  obtain⟨h1,h2⟩:=pairwise_cons.mp h;have hy:=hp y qo;have hr:∀d∈r,P d:=λd hd=>hp d (qm _ hd);unfold sX;split
  .rename_i c;refine pairwise_cons.mpr ⟨λd hd=>?_,h⟩;rcases qD.mp hd with rfl|hd
   .exact c
   .exact o.tr x y d hx hy (hr d hd) c (h1 d hd)
  .rename_i c;refine pairwise_cons.mpr ⟨λd hd=>?_,Qg o x hx r hr h2⟩;rcases qD.mp ((Kf x r).mem_iff.mp hd)with rfl|hd
   .exact(o.tot d y hx hy).resolve_left c
   .exact h1 d hd
theorem Ir(o:iF P):∀l:List D,(∀d∈l,P d)->(eN l).Pairwise (fZ · ·=true)
 |[],_=>.nil
 |x::r,hp=>Qg o x (hp x qo) _ (λd hd=>hp d (qm _ ((AN r).mem_iff.mp hd))) (Ir o r λd hd=>hp d (qm _ hd))
theorem Qu(o:iF P):∀l m:List D,(∀d∈l,P d)->l.Perm m->l.Pairwise (fZ · ·=true)->m.Pairwise (fZ · ·=true)->l=m
 |[],m,_,p,_,_=>(List.nil_perm.mp p).symm
 |x::r,[],_,p,_,_=>absurd p.length_eq (by simp)
 |x::r,y::t,hp,p,h1,h2=>by
  obtain⟨a1,a2⟩:=pairwise_cons.mp h1;obtain⟨b1,b2⟩:=pairwise_cons.mp h2;have hx:=hp x qo;have hy:P y:=hp y (p.mem_iff.mpr qo);have e:x=y:=by
   have m1:x∈y::t:=p.mem_iff.mp qo;have m2:y∈x::r:=p.mem_iff.mpr qo;rcases qD.mp m1 with e|m1
   .exact e
   .rcases qD.mp m2 with e|m2
    .exact e.symm
    .exact o.anti x y hx hy (a1 y m2) (b1 x m1)
  subst e;rw[Qu o r t (λd hd=>hp d (qm _ hd)) (List.Perm.cons_inv p) a2 b2]
theorem Ei(o:iF P)(hp:∀d∈l,P d)(p:m.Perm l)(h:m.Pairwise (fZ · ·=true)):eN l=m:=
 Qu o _ _ (λd hd=>hp d ((AN l).mem_iff.mp hd)) ((AN l).trans p.symm) (Ir o l hp) h
def Br:D->Prop
 |.int _=>True
 |_=>False
def xD:D->Prop
 |.str _=>True
 |_=>False
theorem NH:iF Br where
 tot
  |.int a,.int b,_,_=>by simp only[EV,qW];lia
 tr
  |.int a,.int b,.int c,_,_,_=>by simp only[EV,qW];lia
 anti
  |.int a,.int b,_,_=>by simp only[EV,qW];intro h1 h2;rw[Int.le_antisymm h1 h2]
theorem HK:iF xD where
 tot
  |.str a,.str b,_,_=>by
   simp only[Eo,Bool.not_eq_true',decide_eq_false_iff_not];by_cases h:b<a
   .exact .inr λh'=>lt_asymm h h'
   .exact .inl h
 tr
  |.str a,.str b,.str c,_,_,_=>by simp only[Eo,Bool.not_eq_true',decide_eq_false_iff_not];intro h1 h2;exact λh=>(List.le_trans (l₁:=a) (l₂:=b) (l₃:=c) h1 h2) h
 anti
  |.str a,.str b,_,_=>by simp only[Eo,Bool.not_eq_true',decide_eq_false_iff_not];intro h1 h2;have:a=b:=List.le_antisymm (as:=a) (bs:=b) h1 h2;rw[this]
def gO:List D->Option (List Int)
 |[]=>some []
 |.int x::r=>(gO r).map (x::·)
 |_::_=>none
@[simp] theorem Pm(l:List Int):gO (l.map .int)=some l:=by
  induction l with
  |nil=>rfl
  |cons a r ih=>rw[qB,gO,ih];rfl
end FL
namespace FL
open PySem PySem.Spec PyProof.Rows L2
section
variable{K:W.Frag}
theorem NV(r:zJ K F xs l)(h:gO l=some ys):xs=ys.map V.int/\l=ys.map D.int:=
 zJ.ind (P:=λxs l=>∀ys,gO l=some ys->xs=ys.map V.int/\l=ys.map D.int) (λys h=>by cases h;exact⟨rfl,rfl⟩) (λa _ ih ys h=>by
  cases a with
  |int c=>rw[gO]at h;obtain⟨ys',h1,rfl⟩:=q8.mp h;obtain⟨e1,e2⟩:=ih _ h1;rw[e1,e2];exact⟨rfl,rfl⟩
  |_=>cases h) r ys h
theorem Eu:∀{us:List Value}{ns:List Int},IntsAre us ns->zI (ns.map V.int) us
 |_,_,.nil=>.nil
 |_,_,.cons i t r=>.cons ⟨t,rfl⟩ (Eu r)
theorem Ki:∀{us:List Value}{ns:List Str},StrsAre us ns->zI (ns.map V.str) us
 |_,_,.nil=>.nil
 |_,_,.cons i t r=>.cons ⟨t,rfl⟩ (Ki r)
def zT(K:W.Frag):List V->Hp->VK->Prop:=λxs H Q=>∃a,xs=[.ref a]/\
 ((∃ns:List Int,ns.length<64/\cA K H a (ns.map V.int)/\∀ns':List Int,ns'.Perm ns->ns'.Pairwise (·<=·)->∀q,H q=none->Q (.ref q) (upd H q (.lst (ns'.map V.int))))\/
  (∃zs:List Str,zs.length<64/\cA K H a (zs.map V.str)/\∀zs':List Str,zs'.Perm zs->sortedS zs'=true->∀q,H q=none->Q (.ref q) (upd H q (.lst (zs'.map V.str)))))
theorem Qh:bA X (.builtin "sorted") (zT X.K):=by
 intro zL s Z H xs us Q I r h;obtain⟨a,rfl,h⟩:=h;cases r with
 |cons r1 r2=>
  cases r2;cases r1;rcases h with⟨ns,h64,hq,q⟩|⟨zs,h64,hq,q⟩
  .obtain⟨zP,r,pl,_⟩:=I.list hq;have zO:zP.length=ns.length:=by have:=r.length;rw[qp]at this;exact this.symm
   refine sorted_ints pl.isList (Ic r) (by rw[zO];exact h64) λout ns' a1 a2 a3=>?_;obtain⟨e,he⟩:=sortedAll_at s.heap zP out;have hz:ns'.length<=sizeLine:=by rw[a2.length_eq,zj];lia
   refine⟨.ref (s.heap.objs.size+1),_,I.laid (t':=s.toks) (o:=.lst (ns'.map V.int)) (λb ob w=>sortedAll_old w) (le_succ _) ?_,rfl,q ns' a2 a3 _ (I.hok.fresh (le_succ _))⟩;exact⟨by rw[qp];exact hz,out.toList,e,Eu a1,by rw[toArray_toList];exact he⟩
  .obtain⟨zP,r,pl,_⟩:=I.list hq;have zO:zP.length=zs.length:=by have:=r.length;rw[qp]at this;exact this.symm
   refine sorted_strs pl.isList (Ib r) (by rw[zO];exact h64) λout ns' a1 a2 a3=>?_;obtain⟨e,he⟩:=sortedAll_at s.heap zP out;have hz:ns'.length<=sizeLine:=by rw[a2.length_eq,zj];lia
   refine⟨.ref (s.heap.objs.size+1),_,I.laid (t':=s.toks) (o:=.lst (ns'.map V.str)) (λb ob w=>sortedAll_old w) (le_succ _) ?_,rfl,q ns' a2 a3 _ (I.hok.fresh (le_succ _))⟩;exact⟨by rw[qp];exact hz,out.toList,e,Ki a1,by rw[toArray_toList];exact he⟩
theorem Kh:∀ns:List Int,zJ K F (ns.map V.int) (ns.map D.int)
 |[]=>.nil
 |n::ns=>.cons (.int n) (Kh ns)
theorem Pj:∀zs:List Str,(∀z∈zs,z.cps.toList.length<=16777216)->zJ K F (zs.map V.str) (zs.map λz=>D.str z.cps.toList)
 |[],_=>.nil
 |z::zs,h=>.cons (.str rfl (h z qo)) (Pj zs λy hy=>h y (qm _ hy))
theorem PL:∀{xs:List V}{l:List D}{zs:List Str},zJ K F xs l->xs=zs.map V.str->l=(zs.map λz=>D.str z.cps.toList)/\∀z∈zs,z.cps.toList.length<=16777216
 |_,_,[],.nil,_=>⟨rfl,λ_ h=>by cases h⟩
 |_,_,_::_,.nil,h=>by simp at h
 |_,_,[],.cons _ _,h=>by simp at h
 |_,_,z::zs,.cons a b,h=>by
  rw[qB]at h;injection h with h1 h2
  subst h1;obtain⟨e,k⟩:=PL b h2;cases a with
  |str e1 z1=>
   subst e1;refine⟨by rw[e];rfl,λy hy=>?_⟩;rcases qD.mp hy with rfl|hy
   .exact z1
   .exact k y hy
theorem Pu:∀(r:List Str)(p:Str),risingS p r=true->((p::r).map λz=>D.str z.cps.toList).Pairwise (fZ · ·=true)
 |[],p,_=>List.pairwise_singleton _ _
 |x::r,p,h=>by
  have h':(!ltCps x.cps.toList p.cps.toList&&risingS x r)=true:=h;rw[and_eq_true,ltCps_eq]at h';have ih:=Pu r x h'.2;have px:fZ (.str p.cps.toList) (.str x.cps.toList)=true:=by rw[Eo];exact h'.1
  rw[qB];refine pairwise_cons.mpr ⟨λd hd=>?_,ih⟩;rw[qB]at hd ih;rcases qD.mp hd with rfl|hd
  .exact px
  .obtain⟨z,_,rfl⟩:=qN.mp hd;exact HK.tr _ (.str x.cps.toList) _ trivial trivial trivial px ((pairwise_cons.mp ih).1 _ hd)
theorem Xi:∀r:List Str,sortedS r=true->(r.map λz=>D.str z.cps.toList).Pairwise (fZ · ·=true)
 |[],_=>.nil
 |x::r,h=>Pu r x h
end
mutual
def dU:D->PyData
 |.non=>.none
 |.bl b=>.bool b
 |.int i=>.int i
 |.str l=>.str ⟨l.toArray⟩
 |.tup l=>.tuple (dM l)
 |.lst l=>.list (dM l)
 |_=>.none
def dM:List D->List PyData
 |[]=>[]
 |d::r=>dU d::dM r
end
mutual
def mY:D->Bool
 |.non=>true
 |.bl _=>true
 |.int i=>decide (i.natAbs.log2<1920)
 |.str _=>true
 |.tup l=>eF l
 |.lst l=>eF l
 |_=>false
def eF:List D->Bool
 |[]=>true
 |d::r=>mY d&&eF r
end
def GJ:D->Bool
 |.tup _=>true
 |.lst _=>true
 |_=>false
mutual
theorem Ql:∀d:D,mY d=true->(dU d).showable=true
 |.non,_=>rfl
 |.bl _,_=>rfl
 |.int i,h=>h
 |.str _,_=>rfl
 |.tup l,h=>Ko l h
 |.lst l,h=>Ko l h
 |.dct _ _ _,h=>by cases h
 |.set _,h=>by cases h
 |.exc _ _ _,h=>by cases h
theorem Ko:∀l:List D,eF l=true->PyData.showableAll (dM l)=true
 |[],_=>rfl
 |d::r,h=>by rw[eF,and_eq_true]at h;rw[dM,PyData.showableAll,Ql d h.1,Ko r h.2];rfl
end
mutual
theorem Ph:∀d:D,(dU d).hasDict=false
 |.non=>rfl
 |.bl _=>rfl
 |.int i=>rfl
 |.str _=>rfl
 |.tup l=>JS l
 |.lst l=>JS l
 |.dct _ _ _=>rfl
 |.set _=>rfl
 |.exc _ _ _=>rfl
theorem JS:∀l:List D,PyData.hasDictAll (dM l)=false
 |[]=>rfl
 |d::r=>by rw[dM,PyData.hasDictAll,Ph d,JS r];rfl
end
mutual
theorem On:∀d:D,(dU d).depth<=hU d
 |.non=>zd _
 |.bl _=>zd _
 |.int i=>zd _
 |.str _=>zd _
 |.tup l=>Nat.succ_le_succ (Kg l)
 |.lst l=>Nat.succ_le_succ (Kg l)
 |.dct _ _ _=>zd _
 |.set _=>zd _
 |.exc _ _ _=>zd _
theorem Kg:∀l:List D,PyData.depthAll (dM l)<=bM l
 |[]=>zd _
 |d::r=>by have h1:=On d;have h2:=Kg r;simp only[dM,PyData.depthAll,bM];lia
end
theorem UJ(I:Inv X zL Z H s)(q:aS X.K H v d)(r:zA v u)(h:mY d=true):∃as,Reads s.heap u (dU d) as:=by
 refine aS.rec (motive_1:=λv d _=>∀u,zA v u->mY d=true->∃as,Reads s.heap u (dU d) as) (motive_2:=λvs l _=>∀us,zI vs us->eF l=true->∃as,ReadsAll s.heap us (dM l) as) ?_ ?_ ?_ ?_ ?_ ?_ ?_ ?_ ?_ ?_ ?_ ?_ q u r h
 .intro u r _;cases r;exact⟨[],.none⟩
 .intro b u r _;cases r;exact⟨[],.bool b⟩
 .intro i u r _;obtain⟨t,rfl⟩:=r;exact⟨[],.int i t⟩
 .intro x l e z u r _;obtain⟨t,rfl⟩:=r;subst e;exact⟨[],.str _ t⟩
 .intro a xs ds e q ih u r h;cases r;obtain⟨zP,rv,⟨o,g,c,n,dt⟩,_⟩:=I.tuple (bX.of e);obtain⟨as,ra⟩:=ih _ rv h;exact⟨as,.tuple g c dt ra⟩
 .intro a xs ds e q ih u r h;cases r;obtain⟨zP,rv,⟨o,n,g,c,_,dt⟩,_⟩:=I.list e;obtain⟨as,ra⟩:=ih _ rv h;exact⟨_::as,.list g c dt ra⟩
 .intro _ _ _ _ _ _ _ _ _ _ h;cases h
 .intro _ _ _ _ _ _ _ _ _ _ h;cases h
 .intro _ _ _ _ _ _ _ _ h;cases h
 .intro _ _ _ _ _ _ _ _ _ _ _ h;cases h
 .intro us r _;cases r;exact⟨[],.nil⟩
 .intro x d xs ds _ _ i1 i2 us r h;rw[eF,and_eq_true]at h;cases r with
  |cons r1 r2=>obtain⟨as,h1⟩:=i1 _ r1 h.1;obtain⟨bs,h2⟩:=i2 _ r2 h.2;exact⟨as++bs,.cons h1 h2⟩
end FL
namespace FL
open PySem
def GV(l m:List Nat)(i:Nat):Bool:=decide (i+m.length<=l.length)&&decide ((l.drop i).take m.length=m)
def jX(l m:List Nat):Option Nat:=(List.range (l.length+1)).find? (GV l m)
def hV:List D->Option S
 |[.tup l]=>some (.lst (l.map .sh))
 |[.lst l]=>some (.lst (l.map .sh))
 |[.str l]=>if l.length<=big then some (.lst (l.map λc=>.sh (.str [c])))else none
 |_=>none
theorem find?_first(h:i<n)(hp:p i=true)(hn:∀k,k<i->p k=false):(List.range n).find? p=some i:=by first|rfl|assumption|(simp_all;done)
theorem find?_not(hn:∀k,p k=false):(List.range n).find? p=none:=by grind
end FL
namespace FL
open PySem PySem.Spec PyProof.Rows L2
section
variable{K:W.Frag}
theorem zjZ:StrLaws.At x y x.length i↔GV x.cps.toList y.cps.toList i=true:=by
 have h1:x.length=x.cps.toList.length:=by show x.cps.size=_;rw[qY]
 have h2:y.length=y.cps.toList.length:=by show y.cps.size=_;rw[qY]
 unfold StrLaws.At GV Builtin.Str.subAt;rw[and_eq_true,qW,qW,h1,h2,beq_iff_eq];refine and_congr_right λ_=>?_;rw[<-Array.toList_inj,toList_extract,extract_eq_take_drop];have:i+y.cps.toList.length-i=y.cps.toList.length:=by lia
 rw[this]
theorem SV(x y:Str):Txt.find x y=(match jX x.cps.toList y.cps.toList with|some i=>(i:Int)|none=>-1):=by
 have hn:∀{i},¬StrLaws.At x y x.length i->GV x.cps.toList y.cps.toList i=false:=λ{i} h=>by
  cases q:GV x.cps.toList y.cps.toList i with
  |false=>rfl
  |true=>exact absurd (zjZ.mpr q) h
 rcases find_whole x y with⟨e,h⟩|⟨i,e,hi,h⟩
 .rw[e];unfold jX;rw[find?_not λk=>hn (h k)]
 .rw[e];unfold jX;have h3:=hi.1;have h1:x.length=x.cps.toList.length:=by show x.cps.size=_;rw[qY]
  rw[find?_first (i:=i) (by rw[<-h1];lia) (zjZ.mp hi) λk hk=>hn (h k hk)]
def vB:List V->Hp->VK->Prop:=λxs H Q=>∃x:Str,xs=[.str x]/\x.length<=sizeLine/\∀l,H l=none->Q (.ref l) (upd H l (.lst (x.cps.toList.map λc=>.str ⟨#[c]⟩)))
theorem Kq:∀{xs:List V}{us:List Value},xs.length=us.length->(∀(j:Nat) x u,xs[j]?=some x->us[j]?=some u->zA x u)->zI xs us
 |[],[],_,_=>.nil
 |[],_::_,h,_=>by simp at h
 |_::_,[],h,_=>by simp at h
 |x::xs,u::us,h,k=>.cons (k 0 x u rfl rfl) (Kq (by simpa using h) λj x' u' h1 h2=>k (j+1) x' u' (by simpa using h1) (by simpa using h2))
theorem Yu(hc:X.calm=true):bA X (.type "list") vB:=by
 intro zL s Z H xs us Q I r h;obtain⟨x,rfl,hz,q⟩:=h;obtain⟨u,rfl,rx⟩:=vals1 r;obtain⟨t,rfl⟩:=rx;refine call_list_str (I.ok.hd hc) x t (hn:=hz) λh' tk acc' c' hk hS' hacc=>?_;have hv:zI (x.cps.toList.map λc=>V.str ⟨#[c]⟩) acc'.toList:=Kq (by rw[qp,qY,qY,hacc.1]) λj y v h1 h2=>by obtain⟨c,u,hc,rfl⟩:=hacc.2 j v (by rw[<-q9];exact h2);rw[qI,q9,hc]at h1;cases h1;exact⟨u,rfl⟩
 refine⟨.ref s.heap.objs.size,_,I.laid (t':=tk) hk (zd _) (show zK X.prog X.w _ h' _ (.lst (x.cps.toList.map λc=>V.str ⟨#[c]⟩)) from⟨?_,acc'.toList,c',hv,by simpa using hS'⟩),rfl,q _ (I.hok.fresh (zd _))⟩;rw[qp,qY];exact hz
def Cu(K:W.Frag):List V->Hp->VK->Prop:=λxs H Q=>Bb K xs H Q\/vB xs H Q
theorem PQ:∀l:List Nat,zJ K F (l.map λc=>V.str ⟨#[c]⟩) (l.map λc=>D.str [c])
 |[]=>.nil
 |c::l=>.cons (.str rfl (by show 1<=16777216;decide)) (PQ l)
theorem Xn:dC K (Cu K) hV:=by
 intro Z U F G H vs ds s Q zN re e hq;obtain⟨d,v,rfl,rfl⟩:=kE (λx y r=>by cases x<;>rfl) rfl re e;cases d with
 |tup l=>exact .inl (Py Z U F G H [v] [.tup l] s Q zN re e hq)
 |lst l=>exact .inl (Py Z U F G H [v] [.lst l] s Q zN re e hq)
 |str l=>
  obtain⟨x,rfl,e1,z⟩:=re.1.str;have e:(if l.length<=big then some (S.lst (l.map λc=>S.sh (.str [c])))else none)=some s:=e;split at e
  .rename_i hb;cases e;refine .inr ⟨x,rfl,by rw[El e1];exact HW hb,λp hp=>?_⟩;rw[e1];have h:=zN.newLD hp (PQ l);rw[qH]at h;exact hq (.ref p) F (upd H p (.lst (l.map λc=>V.str ⟨#[c]⟩))) (zw.refl F) h
  .cases e
 |_=>cases e
theorem Ow(hc:X.calm=true)(hg:Gl X "list")(hm:X.mg "list"=none)(hv:bootBuiltins "list"=some (.type "list"))(ha:FA X (e::es) wa)(he:starEach (e::es) X.env=(false,eval e X.env)::starEach es X.env:=by rfl)(hpl:(backTo pos (starEach es X.env)).any (·.1)=false:=by rfl):FE X (.Call (.Name "list" p) (e::es) [] pos) (wB hV wa):=
 Ig (λpn xe=>bA.or' Yw (Yu (X:=wp X pn xe) hc)) Xn hg hm hv ha (by decide) (by decide) he hpl
end
theorem Jh:bootBuiltins "int"=some (.type "int"):=by decide+kernel
theorem Eh:bootBuiltins "tuple"=some (.type "tuple"):=by decide+kernel
theorem Oi:bootBuiltins "list"=some (.type "list"):=by decide+kernel
theorem Nq:bootBuiltins "max"=some (.builtin "max"):=by decide+kernel
theorem Jo:bootBuiltins "min"=some (.builtin "min"):=by decide+kernel
theorem Si:bootBuiltins "all"=some (.builtin "all"):=by decide+kernel
theorem Fe:bootBuiltins "sorted"=some (.builtin "sorted"):=by decide+kernel
theorem oF(hr:cE k A):A.units+32<cLine:=by have:=hr.units;lia
theorem tQ(hr:cE k A):A.units+31<cLine:=by have:=hr.units;lia
theorem uq{N:List Str}(h:(N.zipIdx.all λp=>!(p.1==x)||p.2==i)=true):∀j,N[j]?=some x->j=i:=by intro j hj;have hj':j<N.length:=(qh.mp hj).1;have:=qL.mp h (x,j) (by rw[List.mem_zipIdx_iff_getElem?];simpa using hj);simpa using this
instance(outer scope:Scope)(N vars:List Str):Decidable (scope.kind=.function/\(∀x∈scope.names,x.2=.free->outer.names.lookup x.1=some .cell\/outer.names.lookup x.1=some .free)/\(scope.names.map (·.1)).Nodup/\
  (∀x∈N,x∉vars->(x,NameKind.local)∉scope.names/\(x,NameKind.cell)∉scope.names)/\scope.names.lookup Str.empty=none):=inferInstance
def DP(outer scope:Scope)(N vars:List Str):Bool:=decide (scope.kind=.function/\(∀x∈scope.names,x.2=.free->outer.names.lookup x.1=some .cell\/outer.names.lookup x.1=some .free)/\(scope.names.map (·.1)).Nodup/\
    (∀x∈N,x∉vars->(x,NameKind.local)∉scope.names/\(x,NameKind.cell)∉scope.names)/\scope.names.lookup Str.empty=none)
theorem bW(h:DP outer scope N vars=true):cP outer scope N vars:=
 let⟨a,b,c,d,e⟩:=qX h
 ⟨a,b,c,d,e⟩
theorem UV{K:W.Frag}(r:aN K F H v (.sh (.bl true)) fp):v=.bl true:=by
 cases r with
 |sh r=>cases r;rfl
theorem Se{K:W.Frag}(h:∀ns:List Int,ns.length<=63->wf [.sh (.lst (ns.map .int))] (λs _=>s=.sh (.bl true)) λ_ _=>False)(H:Hp)(a:Addr)(ns:List Int)(hl:ns.length<=63)(hS:cA K H a (ns.map V.int)):
  fS K wf 1 [.ref a] H (λv _=>v=.bl true) λ_ _ _=>False:=by
 refine⟨H,λ_=>none,[.sh (.lst (ns.map .int))],_,_,rfl,⟨zw.refl H,λ_ _ z=>(nomatch z),[]++[],.so (.sh (.lst hS (Kh ns))) .nil,List.nodup_nil,λ_ z=>(nomatch z)⟩,h ns hl,λs ss' v F' H' hs sm zO r=>?_,λ_ _ _ _ _ _ z=>z.elim⟩;subst hs;obtain⟨u,fp,e1,q⟩:=r.at (i:=ss'.length) (s:=.sh (.bl true)) (by have:=Ep (U:=ss'.map some) (o:=some (.sh (.bl true))) (U':=[]);simpa using this)
 have hl1:ss'.length=1:=zO;rw[hl1]at e1;have:u=v:=by simpa using e1.symm
 rw[<-this];exact UV q
end FL
namespace FL
open PySem PySem.Spec PyProof.Rows L2
theorem HF(ha:FE X a wa):FE X (.UnaryOp .USub a pos) (BI nE wa):=λpn xe hp=>by
 refine PE.imp (Rl RF (ha pn xe hp)) λZ H Q q=>?_;refine(one (k:=λx U1 Q E=>zv (zH x U1) λp=>zv (nE p) λs=>Q (.v s) U1) q).mono λv H1 h1=>?_;obtain⟨F,G,U,x,P,PX,zN,hl,rx,hk,hok,hx⟩:=h1;obtain⟨p,ep,hk⟩:=cF hk;obtain⟨s,es,hk⟩:=cF hk;obtain⟨F1,s1,re,r1⟩:=iB (U':=[]) (Z':=[]) zN hl rx ep;cases p with
 |int i=>cases es;have e:=re.int;subst e;exact⟨i,rfl,hok _ U _ F1 H1 hk s1 ((show Rel _ U Z F1 G H1 by simpa using r1).push (.int _)) trivial⟩
 |_=>cases es
open AutoSeq1 (wpAny_loadPart')
theorem Sj(hu:s.heap.IsTupleIter u z n)(hz:s.heap.IsTuple z xs)(hv:xs[n]?=some v)(k:∀h',h'.IsTupleIter u z (n+1)->Heap.SameBut u s.heap h'->Q v {s with heap:=h'}):
  wpAny (model prog w) A (Builtin.SmallTypes.nextOf (.ref u)) Q E s:=by
 obtain⟨ob,e0,e1,e2⟩:=id hu;obtain⟨zb,f0,_,zn,f2⟩:=hz;unfold Builtin.SmallTypes.nextOf;apply qa;refine wpAny_callSpecial?_slot (name:=Str.ofString "__next__") hu.typeIs F.slot_tuple_iterator_next (zi F.slot_tuple_iterator_next hu.typeIs F.entry_tuple_iterator_next ?_ (F.args_tuple_iterator_next_1 _));show wpAny _ _ (field (.ref u) 0>>=_) _ _ _;apply qa;refine zg e0 e2 (x:=.ref z) rfl ?_;show wpAny _ _ (if(Value.ref z==Value.none)=true then _ else _) _ _ _;rw[zc (show¬((Value.ref z==Value.none)=true) from q5)];show wpAny _ _ (field (.ref u) 1>>=_) _ _ _;apply qa;refine zg e0 e2 (x:=.int n 0) rfl ?_;show wpAny _ _ (seqItems? (.ref z)>>=_) _ _ _;apply qa;refine wpAny_seqItems f0 f2 ?_;simp only[qZ,hv];apply qa;refine wpAny_setField e0 e2 (by simp) (qb ⟨v,rfl,qb (k _ ⟨_,zf _ e0 (Obj.isFreed_of_fields (Obj.data_mapFields e2 _)),(Obj.cls_mapFields ..).trans e1,?_⟩ (Heap.SameBut.update ..))⟩);rw[Obj.data_mapFields e2];simp[rawInt]
theorem PM(hh:A.handled=none)(hu:s.heap.IsTupleIter u z n)(hz:s.heap.IsTuple z xs)(hv:xs[n]?=none)
  (k:∀h' e,Heap.ExtBut u s.heap h'->(∃o,h'.get? e=some o/\o.cls=.type "StopIteration")->E (.ref e) {s with heap:=h'}):wpAny (model prog w) A (Builtin.SmallTypes.nextOf (.ref u)) Q E s:=by
 obtain⟨ob,e0,e1,e2⟩:=id hu;obtain⟨zb,f0,_,zn,f2⟩:=hz;unfold Builtin.SmallTypes.nextOf;apply qa;refine wpAny_callSpecial?_slot (name:=Str.ofString "__next__") hu.typeIs F.slot_tuple_iterator_next (zi F.slot_tuple_iterator_next hu.typeIs F.entry_tuple_iterator_next ?_ (F.args_tuple_iterator_next_1 _));show wpAny _ _ (field (.ref u) 0>>=_) _ _ _;apply qa;refine zg e0 e2 (x:=.ref z) rfl ?_;show wpAny _ _ (if(Value.ref z==Value.none)=true then _ else _) _ _ _;rw[zc (show¬((Value.ref z==Value.none)=true) from q5)];show wpAny _ _ (field (.ref u) 1>>=_) _ _ _;apply qa;refine zg e0 e2 (x:=.int n 0) rfl ?_;show wpAny _ _ (seqItems? (.ref z)>>=_) _ _ _;apply qa;refine wpAny_seqItems f0 f2 ?_;simp only[qZ,hv];apply qa;apply wpAny_rule;apply qa;refine wpAny_setField e0 e2 (by simp) ?_;show wpAny _ _ (newExc (.type "StopIteration") []>>=_) _ _ _;apply qa;simp only[newExc,newTuple];apply qa;refine zh ?_ (by size_fits);refine qa (m:=firstArgMember _ _) (zl (a:=Value.none) (by first|rfl|(simp only[firstArgMember];rfl)) (zh ?_ (by size_fits)));simp only[raiseNew];apply qa;refine wpAny_handled ?_;first|rw[show A.in1.handled=none from hh]|rw[hh]
 exact qa (qb (wpAny_throw (k _ _ (((Heap.SameBut.update ..).extBut.push _).push _) ⟨_,qd _ rfl,rfl⟩)))
theorem Xq{prog:Program}{w:World}{A:Around}(hh:A.handled=none)(u z:Addr)(hne:z≠u)(xs:Array Value):
  Draws prog w A u [u,z] xs.size (λi v=>xs[i]?=some v) (λi h=>h.IsTupleIter u z i/\h.IsTuple z xs) where
 live:=λ_ _ st=>let⟨o,e,_⟩:=st.1;⟨o,e⟩
 frame:=λ_ _ _ st k=>⟨st.1.at λo e=>k u (by simp) o e,by obtain⟨o,e,r⟩:=st.2;exact⟨o,k z (by simp) o e,r⟩⟩
 item:=λi s Q E hi st k=>Sj st.1 st.2 (v:=xs[i]) (by simp[hi]) λh' a b=>k _ h' s.toks (by simp[hi]) ⟨a,by obtain⟨o,e,r⟩:=st.2;exact⟨o,b.extBut _ _ hne e,r⟩⟩ b
 done:=λs Q E st k=>PM hh st.1 st.2 (by simp) k
inductive SrcI(P:Program)(w:World)(A:Around)(it:Addr)(J:It)(tn:Nat->Heap->Prop)(i:Nat)(s:Shared)(H:Hp):Prop
 |mk (fp:List Addr) (n:Nat) (Pr:Nat->Value->Prop) (Sx:Nat->Heap->Prop):Draws P w A it fp n Pr Sx->Sx i s.heap->i<n->it∈fp->(∀b∈fp,b=it\/(H b≠none/\∃o,s.heap.get? b=some o/\o.cls=.type "tuple")\/∃o,s.heap.get? b=some o/\o.cls=.type "list")->(∀v,Pr i v->∃x,zA x v/\J.yld i H x H)->(∀h',Sx (i+1) h'->tn (i+1) h')->SrcI P w A it J tn i s H
structure Hd(P:Program)(w:World)(K:W.Frag)(J:It)(it:Addr)(tn:Nat->Heap->Prop):Prop where
 live:∀i h,tn i h->∃o,h.get? it=some o/\(∀v,o.data≠.cell v)/\o.cls≠.type "enumerate"/\o.cls≠.type "zip"/\o.cls≠.type "tuple"/\o.cls≠.type "list"
 keep:∀i h h',tn i h->(∀o,h.get? it=some o->h'.get? it=some o)->tn i h'
 yl:∀i H x H',J.yld i H x H'->H'=H
 item:∀(X:Cx),X.prog=P->X.w=w->X.K=K->∀(i:Nat)(zL:List (Addr×Obj))(s:Shared)(Z:St)(H:Hp)(A:Around),A.handled=none->Inv X zL Z H s->tn i s.heap->H it=none->J.go i H->
  SrcI P w A it J tn i s H
 done:∀(X:Cx),X.prog=P->X.w=w->X.K=K->∀(i:Nat)(zL:List (Addr×Obj))(s:Shared)(Z:St)(H:Hp)(A:Around),A.handled=none->Inv X zL Z H s->tn i s.heap->J.stop i H->∀(Q:zo)(E:zo),
  (∀h' e,Heap.ExtBut it s.heap h'->(∃o,h'.get? e=some o/\o.cls=.type "StopIteration")->E (.ref e) {s with heap:=h'})->wpAny (model P w) A (Builtin.SmallTypes.nextOf (.ref it)) Q E s
theorem VR{P:Program}{w:World}{K:W.Frag}(a it:Addr):Hd P w K (Ho K a) it (λi h=>h.IsListIter it a i) where
 live:=λi h st=>by obtain⟨o,e,c,d⟩:=st;exact⟨o,e,λv z=>by(rw[d]at z;cases z),by rw[c];decide,by rw[c];decide,by rw[c];decide,by rw[c];decide⟩
 keep:=λi h h' st k=>st.at k
 yl:=λi H x H' h=>h.1
 item:=by
  intro X hP hw hK i zL s Z H A hh I st hn hg;subst hP hw hK;obtain⟨xs,x,hq,hx⟩:=hg;obtain⟨zP,rv,p,hz⟩:=I.list hq;obtain⟨lo,l1,l2,l3⟩:=id p.isList;have hne:a≠it:=λz=>by obtain⟨o,e,c,d⟩:=id st;rw[<-z,l1]at e;cases e;rw[l2]at c;exact absurd c (by decide)
  have hl:=rv.length;have hi:i<zP.toArray.size:=by have:=(qh.mp hx).1;rw[qt];lia
  refine⟨_,_,_,_,Draws.list hh it a hne zP.toArray,⟨st,p.isList⟩,hi,m1,λb hb=>?_,λv hv=>?_,λh' z=>z.1⟩
  .simp at hb;rcases hb with rfl|rfl
   .exact .inl rfl
   .exact .inr (.inr ⟨lo,l1,l2⟩)
  .obtain⟨u,hu,ru⟩:=rv.get hx;have:u=v:=by
    have hv':zP[i]?=some v:=by simpa using hv
    rw[hu]at hv';exact qg hv'
   subst this;exact⟨x,ru,rfl,λys hy=>by rw[I.list_inj hy hq];exact hx⟩
 done:=by intro X hP hw hK i zL s Z H A hh I st hg Q E k;subst hP hw hK;obtain⟨xs,hq,hx⟩:=hg;obtain⟨zP,rv,p,hz⟩:=I.list hq;have hl:=rv.length;exact wpAny_nextOf_list_end hh st p.isList (by simp;lia) k
def MJ(a:Addr):It:=⟨λi H=>∃xs x,H a=some (.tup xs)/\xs[i]?=some x,λi H x H'=>H'=H/\∀xs,H a=some (.tup xs)->xs[i]?=some x,λi H=>∃xs,H a=some (.tup xs)/\xs.length<=i⟩
theorem Uk{P:Program}{w:World}{K:W.Frag}(a it:Addr):Hd P w K (MJ a) it (λi h=>h.IsTupleIter it a i) where
 live:=λi h st=>by obtain⟨o,e,c,d⟩:=st;exact⟨o,e,λv z=>by(rw[d]at z;cases z),by rw[c];decide,by rw[c];decide,by rw[c];decide,by rw[c];decide⟩
 keep:=λi h h' st k=>st.at k
 yl:=λi H x H' h=>h.1
 item:=by
  intro X hP hw hK i zL s Z H A hh I st hn hg;subst hP hw hK;obtain⟨xs,x,hq,hx⟩:=hg;obtain⟨zP,rv,p,hz⟩:=I.tuple (bX.of hq);obtain⟨lo,l1,l2,l3⟩:=id p;have hne:a≠it:=λz=>by rw[z,hn]at hq;cases hq
  have hl:=rv.length;have hi:i<zP.toArray.size:=by grind
  refine⟨_,_,_,_,Xq hh it a hne zP.toArray,⟨st,p⟩,hi,m1,λb hb=>?_,λv hv=>?_,λh' z=>z.1⟩
  .grind
  .obtain⟨u,hu,ru⟩:=rv.get hx;have:u=v:=by grind
   subst this;exact⟨x,ru,rfl,λys hy=>by rw[hq]at hy;cases hy;exact hx⟩
 done:=by intro X hP hw hK i zL s Z H A hh I st hg Q E k;subst hP hw hK;obtain⟨xs,hq,hx⟩:=hg;obtain⟨zP,rv,p,hz⟩:=I.tuple (bX.of hq);have hl:=rv.length;exact PM hh st p (by simp;lia) k
theorem TV{P:Program}{w:World}{K:W.Frag}(it:Addr)(x:Str)(t:Tok):Hd P w K (Ez x) it (λi h=>h.IsStrIter it (strIterType x) x t i) where
 live:=λi h st=>by
  obtain⟨o,e,c,d⟩:=st;have hc:o.cls=.type "str_ascii_iterator"\/o.cls=.type "str_iterator":=by
   rw[c];unfold strIterType;split
   .exact .inl rfl
   .exact .inr rfl
  grind
 keep:=λi h h' st k=>by obtain⟨o,e,r⟩:=st;exact⟨o,k o e,r⟩
 yl:=λi H x H' h=>h.1
 item:=by
  intro X hP hw hK i zL s Z H A hh I st hn hg;subst hP hw hK;have fin:∀v:Value,(∃c u,x.cps[i]?=some c/\v=.str ⟨#[c]⟩ u)->∃y,zA y v/\(Ez x).yld i H y H:=λv⟨c,u,e,ev⟩=>⟨.str ⟨#[c]⟩,by rw[ev];exact⟨u,rfl⟩,rfl,c,e,rfl⟩
  cases ha:x.cps.all (·<128)
  .have e:strIterType x="str_iterator":=by unfold strIterType;rw[ha];rfl
   rw[e]at st⊢;exact⟨_,_,_,_,Draws.strWide hh it x t,st,hg,m1,λb hb=>.inl (by simpa using hb),fin,λ_ z=>z⟩
  .have e:strIterType x="str_ascii_iterator":=by unfold strIterType;rw[ha];rfl
   rw[e]at st⊢;exact⟨_,_,_,_,Draws.strAscii hh it x t,st,hg,m1,λb hb=>.inl (by simpa using hb),fin,λ_ z=>z⟩
 done:=by
  intro X hP hw hK i zL s Z H A hh I st hg Q E k;have hn:x.cps[i]?=none:=by have:x.cps.size<=i:=hg;simp[this]
  cases ha:x.cps.all (·<128)
  .have e:strIterType x="str_iterator":=by unfold strIterType;rw[ha];rfl
   rw[e]at st;exact wpAny_nextOf_wide_end hh st hn k
  .have e:strIterType x="str_ascii_iterator":=by unfold strIterType;rw[ha];rfl
   rw[e]at st;exact wpAny_nextOf_ascii_end hh st hn k
end FL
namespace FL
def cZ(k:Nat):List D->List D
 |[]=>[]
 |d::l=>.tup [.int k,d]::cZ (k+1) l
def uN(a:WE):WI:=λU Q E=>a U (λr U1=>zv (give r U1) λp=>zv (items p.1.toD) λl=>Q (cZ 0 l) p.2) E
theorem Po:∀(l:List D)(k i:Nat)(d:D),(cZ k l)[i]?=some d->∃e,l[i]?=some e/\d=.tup [.int ((k+i:Nat):Int),e]
 |[],_,_,_,h=>by simp[cZ]at h
 |e::l,k,0,d,h=>by simp[cZ]at h;exact⟨e,rfl,by simpa using h.symm⟩
 |e::l,k,i+1,d,h=>by obtain⟨e',h1,h2⟩:=Po l (k+1) i d (by simpa[cZ] using h);exact⟨e',by simpa using h1,by rw[h2];congr 4;lia⟩
theorem Pw:∀(l:List D)(k:Nat),(cZ k l).length=l.length
 |[],_=>rfl
 |_::l,k=>by simp[cZ,Pw l]
end FL
namespace FL
open PySem PySem.Spec PyProof.Rows L2
open AutoSeq1 (wpAny_loadPart')
theorem Pt{ch:List Addr}(I:Inv X zL Z H s)(hf:∀b∈ch,eM X zL H b)(k:∀b o,b∉ch->s.heap.get? b=some o->h'.get? b=some o):Inv X zL Z H {s with heap:=h',toks:=t'}:=by
 have nit:∀b u,H b=some u->b∉ch:=λb u e z=>by rw[(hf b z).1]at e;cases e
 refine I.step (g':=s.gens) (d':=s.drawn) (ch:=ch) (λb hb=>?_) (λb o _ _ hc e _=>k b o hc e) (λb o _ _ hc e _=>⟨o.slots,k b o hc e⟩) (λ_ _ _ _ n=>n)
  (λb o hc e=>⟨o,k b o hc e⟩) (λ_ _ e=>e) (λ_ _ _ e=>e) (λb ps e=>⟨#[],by rw[e];simp⟩) (λm hm=>?_) (λb u e=>?_) I.bare
 .obtain⟨f0,f1,f2,f3,f4,f5⟩:=hf b hb;exact⟨f3,f1,f4,f5⟩
 .obtain⟨o,es,ep,ho,r⟩:=hm;exact⟨o,es,ep,k _ o (λz=>(hf _ z).2.1 rfl) ho,r⟩
 .refine(I.hok b u e).stay (λc v hc q=>k c v ?_ q) (λ_ q=>q) λ_ _ q=>q;grind
theorem VF(f:eM X zL H b)(h:b≠T):eM X zL (L2.upd H T o) b:=⟨by rw[cH h];exact f.1,f.2⟩
theorem Ym{ch:List Addr}(I:Inv X zL Z H s)(hf:∀b∈ch,eM X zL H b)(hl:∀b∈ch,b<s.heap.objs.size)(hz:xs.length<=sizeLine)(rv:zI xs us)
  (hT:∃o,h'.get? s.heap.objs.size=some o/\o.cls=.type "tuple"/\o.dict=none/\∃n,o.data=.seq us.toArray n)(k:∀b o,b∉ch->s.heap.get? b=some o->h'.get? b=some o):
  Inv X zL Z (L2.upd H s.heap.objs.size (.tup xs)) {s with heap:=h',toks:=t'}:=by
 obtain⟨o,e,c,nd,n,d⟩:=hT;have hfree:o.isFreed=false:=by obtain⟨oc,od,odt,osl⟩:=o;have d':odt=.seq us.toArray n:=d;subst d';rfl
 have I1:Inv X zL Z (L2.upd H s.heap.objs.size (.tup xs)) {s with heap:=s.heap.push o}:=I.laid (t':=s.toks) (λb u q=>qc _ q) (zd _) ⟨⟨hz,λo' q=>by rw[qd _ hfree]at q;cases q;exact nd⟩,us,rv,⟨o,qd _ hfree,c,n,d⟩⟩;have I2:=Pt I1 (h':=h') (t':=t') (ch:=ch) (λb hb=>VF (hf b hb) (ne_of_lt (hl b hb))) λb u hb q=>by
  rcases Heap.get?_push_cases q with⟨rfl,rfl⟩|q
  .exact e
  .exact k b u hb q
 exact I2
def EA(J:It):It:=⟨J.go,λi H x H'=>∃p y,H p=none/\J.yld i H y H/\x=.ref p/\H'=upd H p (.tup [.int i,y]),J.stop⟩
theorem UM(he:IsEnum s.heap e it i old)(hd:∀(Q:zo)(E:zo),(∀h' x,Heap.ExtBut it s.heap h'->(∃o,h'.get? x=some o/\o.cls=.type "StopIteration")->E (.ref x) {s with heap:=h'})->wpAny (model prog w) A.in1 (Builtin.SmallTypes.nextOf (.ref it)) Q E s)
  (hQ:∀h',Heap.ExtBut it s.heap h'->Q none {s with heap:=h'}):wpAny (model prog w) A (pyNext (.ref e)) Q E s:=by
 have ty:s.TypeIs (.ref e) "enumerate":=⟨_,he,rfl⟩
 unfold pyNext;apply qa;apply wpAny_attempt;refine wpAny_callSpecial?_slot (name:=Str.ofString "__next__") ty F.slot_enumerate_next (zi F.slot_enumerate_next ty F.entry_enumerate_next ?_ (F.args_enumerate_next_1 _));show wpAny _ _ (field (.ref e) 2>>=_) _ _ _;apply qa;refine zg he rfl (x:=.ref it) rfl (qa (hd _ _ λh' x hx1 hx2=>?_));obtain⟨o,ho,hc⟩:=hx2;exact qa (wpAny_isInstance (T:="StopIteration") (b:=true) ⟨o,ho,hc⟩ isSubtype_stop (qb (hQ _ hx1)))
theorem Wg{P:Program}{w:World}{K:W.Frag}{J:It}{it e:Addr}{tn:Nat->Heap->Prop}{elts:List Expr}{k:Nat}{pos:Pos}(S:Hd P w K J it tn)(hei:e≠it):
  nR P w K (.Tuple elts k pos) (EA J) [e,it] e (λi h=>(∃old,IsEnum h e it i old)/\tn i h) where
 mem:=m1
 obj:=λi h st b hb=>by
  simp at hb;rcases hb with rfl|rfl
  .obtain⟨old,q⟩:=st.1;exact⟨_,q,λv z=>by cases z⟩
  .obtain⟨o,h1,h2,_⟩:=S.live i h st.2;exact⟨o,h1,h2⟩
 keep:=λi h h' st kk=>by obtain⟨⟨old,q⟩,t⟩:=st;exact⟨⟨old,kk e (m1) _ q⟩,S.keep i h h' t λo q=>kk it (m2) o q⟩
 item:=by
  intro X hP hw hK hc i zL s Z H E I hf st hg;obtain⟨⟨old,he⟩,ht⟩:=st;have hh:X.A.in1.handled=none:=I.ok.hd hc;obtain⟨fp,n,Pr,Sx,D,hS,hin,hif,hfp,hv,hs⟩:=S.item X hP hw hK i zL s Z H X.A.in1 hh I ht (hf it (m2)).1 hg;have hef:e∉fp:=λz=>by grind
  have hel:e<s.heap.objs.size:=qe he;obtain⟨oi,hoi,_⟩:=S.live i _ ht;have hil:it<s.heap.objs.size:=qe hoi;subst hP hw hK;refine wpAny_pyNext_enum_itemD (A:=X.A) D he hS hin hei hef λx h1 tk hPx ho hS1 hT hsz hk=>?_;obtain⟨y,ry,hy⟩:=hv x hPx;refine⟨_,rfl,wpAny_letOwnedTupleGo_enum ho λh2 he2 sb=>?_⟩;have ne:s.heap.objs.size≠e:=ne_of_gt hel;have I2:Inv X zL Z (upd H s.heap.objs.size (.tup [.int i,y])) {s with heap:=h2,toks:=tk+1}:=Ym I (ch:=[e,it]) (us:=[.int i tk,x]) hf (λb hb=>by
    simp at hb;rcases hb with rfl|rfl
    .exact hel
    .exact hil) (by show 2<=_;decide) (.cons ⟨_,rfl⟩ (.cons ry .nil)) ⟨_,sb.extBut _ _ ne hT,rfl,rfl,_,rfl⟩ λb o hb q=>by
   simp at hb;exact sb.extBut _ _ hb.1 (hk b o hb.1 hb.2 q)
  refine⟨.ref s.heap.objs.size,_,I2,rfl,⟨s.heap.objs.size,y,I.hok.fresh (zd _),hy,rfl,rfl⟩,⟨⟨x,by simpa using he2⟩,S.keep _ _ _ (hs _ hS1) λo q=>sb.extBut _ _ (Ne.symm hei) q⟩,λb hb=>?_⟩;simp at hb;rcases hb with rfl|rfl
  .rw[cH (ne_of_lt hel)];exact(hf _ (m1)).1
  .rw[cH (ne_of_lt hil)];exact(hf _ (m2)).1
 done:=by intro X hP hw hK hc i zL s Z H E I hf st hg;obtain⟨⟨old,he⟩,ht⟩:=st;have hh:X.A.in1.handled=none:=I.ok.hd hc;refine UM he (S.done X hP hw hK i zL s Z H X.A.in1 hh I ht hg) λh' hx=>⟨rfl,Pt I (t':=s.toks) (ch:=[it]) (λb hb=>hf b (by simp at hb;simp[hb])) λb o hb q=>hx b o (by simpa using hb) q⟩
 self:=λA i s Q E st h=>by obtain⟨⟨old,he⟩,_⟩:=st;exact wpAny_pyIter_enum he h
abbrev wU(h:Heap)(z:Addr):Heap:=(h.push {cls:=.type "tuple_iterator",data:=.fields #[.ref z,.int 0 0]}).push {cls:=.type "enumerate",data:=.fields #[.none,.bool false,.ref h.objs.size,rawInt 0,.none,.none]}
set_option maxHeartbeats 1000000 in
theorem Xz(z:Addr)(xs:Array Value)(n:Nat)(dd:Option Addr)(sl:Array (Option Value)):Meets (Builtin.«enumerate.__new__» ⟨[.type "enumerate",.ref z],[]⟩) (λ_ R s=>s.heap.get? z=some {cls:=.type "tuple",dict:=dd,data:=.seq xs n,slots:=sl}/\
  R (.ok (.ret (.ref (s.heap.objs.size+1)))) {s with heap:=wU s.heap z}):=
 .of_wp λprog w A R s hyp=>by
  obtain⟨hp,g,d,tk,os⟩:=s;obtain⟨hl,hr⟩:=hyp;have ss:=sub_enumerate;have hz:(hp.push {cls:=.type "tuple_iterator",data:=.fields #[.ref z,.int 0 0]}).objs.size=hp.objs.size+1:=Heap.size_push ..;have hr':R (.ok (.ret (.ref (hp.push {cls:=.type "tuple_iterator",data:=.fields #[.ref z,.int 0 0]}).objs.size))) {heap:=wU hp z,gens:=g,drawn:=d,toks:=tk,os:=os}:=by rw[hz];exact hr
  have hT:Heap.IsTuple (Shared.heap ⟨hp,g,d,tk,os⟩) z xs:=⟨_,hl,rfl,n,rfl⟩
  wp_walk using wpAny_loadPart' hl
  refine wpAny_stack_any λst=>qb ?_;split
  .rename_i c _ _ _ _ _;cases(c==Value.type "enumerate")<;>(wp_walk using wpAny_loadPart' hl,wpAny_pyIter_tuple hT;exact⟨_,rfl,hr'⟩)
  .wp_walk using wpAny_loadPart' hl,wpAny_pyIter_tuple hT
   exact⟨_,rfl,hr'⟩
theorem Vh(hT:s.heap.IsTuple z xs)
  (k:∀h',IsEnum h' (s.heap.objs.size+1) s.heap.objs.size 0 .none->h'.IsTupleIter s.heap.objs.size z 0->(∀b o,s.heap.get? b=some o->h'.get? b=some o)->Q (.ref (s.heap.objs.size+1)) {s with heap:=h'}):
  wpAny (model prog w) A (call (.type "enumerate") [.ref z]) Q E s:=by
 obtain⟨⟨c,dd,dt,sl⟩,hl,hc,n,hd⟩:=hT;have e1:c=.type "tuple":=hc;have e2:dt=.seq xs n:=hd;subst e1 e2;refine callType_new F.called_enumerate (by decide) (F.typeCall_enumerate_1 _) (F.newCall_enumerate_1 _) (λobj=>F.args_object_init_2 obj _) F.entry_enumerate_new (Xz z xs n dd sl) ⟨hl,?_⟩;have hz:(s.heap.push {cls:=.type "tuple_iterator",data:=.fields #[.ref z,.int 0 0]}).objs.size=s.heap.objs.size+1:=Heap.size_push ..;have he:IsEnum (wU s.heap z) (s.heap.objs.size+1) s.heap.objs.size 0 .none:=by have:=qd (s.heap.push {cls:=.type "tuple_iterator",data:=.fields #[.ref z,.int 0 0]}) (o:={cls:=.type "enumerate",data:=.fields #[.none,.bool false,.ref s.heap.objs.size,rawInt 0,.none,.none]}) rfl;rw[hz]at this;exact this
 exact⟨⟨_,he,rfl⟩,k _ he ⟨_,qc _ (qd _ rfl),rfl,rfl⟩ λb o x=>qc _ (qc _ x)⟩
def GM(K:W.Frag)(tl:TA):TI:=λZ H R=>tl Z H λvs H1=>(∃a,vs=[.ref a]/\(∃xs,cA K H1 a xs)/\R (EA (Ho K a)) H1)\/(∃a,vs=[.ref a]/\(∃xs,H1 a=some (.tup xs))/\R (EA (MJ a)) H1)\/∃x,vs=[.str x]/\R (EA (Ez x)) H1
theorem Tu(hc:X.calm=true)(hg:Gl X "enumerate")(hm:X.mg "enumerate"=none)(hv:bootBuiltins "enumerate"=some (.type "enumerate"))(hl:PA X [a] tl)
  (hs:starEach [a] X.env=[(false,eval a X.env)]:=by rfl):PI X (.Tuple elts kk tpos) (.Call (.Name "enumerate" p) [a] [] pos) (GM X.K tl):=by
 intro zL s Z H R I h;refine wpAny_Call_Name_kw (Ee I hg hm hv ?_ (by decide) (by decide));refine PyProof.Rows.callWith_type1 (cB (hl pos zL s Z H _ I h) λus s1 zq=>?_) hs rfl;obtain⟨vs,H1,I1,r1,q1⟩:=zq;have fin:∀{J:It}{tn:Nat->Heap->Prop}{h':Heap},Hd X.prog X.w X.K J s1.heap.objs.size tn->R (EA J) H1->IsEnum h' (s1.heap.objs.size+1) s1.heap.objs.size 0 .none->tn 0 h'->(∀b o,s1.heap.get? b=some o->h'.get? b=some o)->
   wpAny (model X.prog X.w) X.A (pyIter (.ref (s1.heap.objs.size+1))) (Hg X zL Z (.Tuple elts kk tpos) R) X.xe {s1 with heap:=h'}:=λ{J tn h'} S hR he ht kp=>by
  refine wpAny_pyIter_enum (s:={s1 with heap:=h'}) he ?_;refine⟨s1.heap.objs.size+1,[s1.heap.objs.size+1,s1.heap.objs.size],_,_,H1,rfl,I1.kept (t':=s1.toks) kp,Wg S (Nat.succ_ne_self _),⟨⟨_,he⟩,ht⟩,λb hb=>?_,hR⟩;simp at hb;rcases hb with rfl|rfl
  .exact I1.fpOk (le_succ _) (I1.hok.fresh (le_succ _))
  .exact I1.fpOk (zd _) (I1.hok.fresh (zd _))
 rcases q1 with⟨b,e,⟨xs,hq⟩,q⟩|⟨b,e,⟨xs,hq⟩,q⟩|⟨x,e,q⟩
 .subst e;obtain⟨u,rfl,ru⟩:=vals1 r1;cases ru;obtain⟨zP,rv,pl,hz⟩:=I1.list hq;exact call_enumerate_list pl.isList λh' he hi _ kp=>fin (VR b _) q he hi kp
 .subst e;obtain⟨u,rfl,ru⟩:=vals1 r1;cases ru;obtain⟨zP,rv,pl,hz⟩:=I1.tuple (bX.of hq);exact Vh pl λh' he hi kp=>fin (Uk b _) q he hi kp
 .subst e;obtain⟨u,rfl,ru⟩:=vals1 r1;obtain⟨t,rfl⟩:=ru;exact call_enumerate_str λh' he hi _ kp=>fin (TV _ x t) q he hi kp
theorem Kl{K:W.Frag}(hy:∀i H x H',J.yld i H x H'->H'=H)(h:kO K J l F0):kO K (EA J) (cZ 0 l) F0:=λi U Z F G H sm zN=>by obtain⟨h1,h2⟩:=h i U Z F G H sm zN;refine⟨λd hd=>?_,λhl=>h2 (by rw[Pw]at hl;exact hl)⟩;obtain⟨e,he,rfl⟩:=Po l 0 i d hd;obtain⟨g1,g2⟩:=h1 e he;refine⟨g1,λx H' zq=>?_⟩;obtain⟨p,y,hp,hyl,ex,eH⟩:=zq;subst ex eH;obtain⟨F',s1,r1,rp⟩:=g2 y H hyl;obtain⟨f0,_,_⟩:=r1.free hp;refine⟨upd F' p (.tup [.int i,y]),s1.trans (zw.upd f0),r1.newF hp,?_⟩;have:=aS.tup (K:=K) (F:=upd F' p (.tup [.int i,y])) (a:=p) (xs:=[.int i,y]) (ds:=[.int i,e]) kJ (.cons (.int i) (.cons (rp.mono (zw.upd f0)) .nil));simpa using this
theorem UL{K:W.Frag}{a:Addr}(e:F0 a=some (.tup xs))(r:zJ K F0 xs l):kO K (MJ a) l F0:=λi U Z F G H sm zN=>by have e':H a=some (.tup xs):=(sm.trans zN.fr) _ _ e;refine⟨λd hd=>?_,λh=>⟨xs,e',by rw[r.len];exact h⟩⟩;obtain⟨x,hx,rx⟩:=r.get hd;refine⟨⟨xs,x,e',hx⟩,λy H' hy=>?_⟩;obtain⟨rfl,hy⟩:=hy;have:x=y:=qg (hx.symm.trans (hy xs e'));subst this;exact⟨F,zw.refl F,zN,rx.mono sm⟩
theorem Ye:bootBuiltins "enumerate"=some (.type "enumerate"):=by decide+kernel
theorem Sz(hc:X.calm=true)(hg:Gl X "enumerate")(hm:X.mg "enumerate"=none)(hv:bootBuiltins "enumerate"=some (.type "enumerate"))(ha:FE X a we)(hs:starEach [a] X.env=[(false,eval a X.env)]:=by rfl):
  FI X (.Tuple elts kk tpos) (.Call (.Name "enumerate" p) [a] [] pos) (uN we):=λpn xe hp=>by
 refine PI.imp (Tu (X:=wp X pn xe) hc hg hm hv (aB ha aG hs pn xe hp) hs) λZ H R q=>?_;obtain⟨F,G,U,P,PX,zN,hw,hok,hx⟩:=q;refine⟨F,G,U,λrs U1=>match rs with|[r]=>(zv (give r U1) λp=>zv (items p.1.toD) λl=>P (cZ 0 l) p.2)|_=>False,PX,zN,hw,λrs U1 vs F1 H1 hk s1 r1 hl rv=>?_,hx⟩;match rs,vs,rv,r1,hk with
 |[r],[v],rv,r1,hk=>
  dsimp only at hk;obtain⟨⟨s,U2⟩,eg,hk⟩:=cF hk;obtain⟨l,el,hk⟩:=cF hk;obtain⟨F2,s2,l2,r2⟩:=dN (U':=[]) (Z':=[]) r1 hl rv.1 eg;obtain⟨F3,s3,rp,r3⟩:=Rel.giveD (U:=U2) (vs:=[v]) (ss:=[s]) r2 (l2.trans hl);have sm:=s1.trans (s2.trans s3);cases rp with
  |cons a0 b0=>
   have el':items s.toD=some l:=el;generalize s.toD=d at a0 el';cases a0 with
   |lst e0 r0=>cases el';exact .inl ⟨_,rfl,⟨_,cA.mono r3.fr e0⟩,hok _ U2 F3 H1 _ hk sm r3 (Kl (λ_ _ _ _ z=>z.1) (Pg e0 r0))⟩
   |tup e0 r0=>cases el';exact .inr (.inl ⟨_,rfl,⟨_,r3.fr _ _ e0⟩,hok _ U2 F3 H1 _ hk sm r3 (Kl (λ_ _ _ _ z=>z.1) (UL e0 r0))⟩)
   |str e0 z0=>cases el';exact .inr (.inr ⟨_,rfl,hok _ U2 F3 H1 _ hk sm r3 (Kl (λ_ _ _ _ z=>z.1) (OI e0))⟩)
   |_=>cases el'
 |[],_,_,_,hk=>exact hk.elim
 |[_],[],rv,_,_=>exact rv.elim
 |[_],_::_::_,rv,_,_=>exact rv.2.elim
 |_::_::_,_,_,_,hk=>exact hk.elim
end FL
namespace FL
open PySem PySem.Spec PyProof.Rows L2
theorem OZ(hr:cE k A):A.mark none=A:=by first|rfl|assumption|(simp_all;done)
end FL
namespace FL
open Classical in
def tS(ks:List D)(k:D):Option Nat:=ks.findIdx? λx=>decide (x=k)
def fH(t:Bool)(ks:List D)(l:List S)(k:D)(s:S):S:=match tS ks k with
 |some i=>.dct t ks (l.set i s)
 |none=>.dct t (ks++[k]) (l++[s])
def uO(j:Nat)(i e:WE):WS:=λD U=>e U (λr U1=>zp j U1 (λx U2=>i U2 (λy U3=>zv (view y U3) λq=>zv (give r U3) λp=>match x,slot p.2 j with
 |.loc k,some (.dct t ks l)=>k=j/\bZ t q=true/\ks.Nodup/\ks.length<big/\D.nx (p.2.set j (some (fH t ks l q p.1)))
 |_,_=>False) D.ex) D.ex) D.ex
end FL
namespace FL
open PySem PySem.Spec PyProof.Rows L2
theorem OL(h:tS ks k=some i):ks[i]?=some k:=by unfold tS at h;rw[List.findIdx?_eq_some_iff_getElem]at h;obtain⟨hi,h1,_⟩:=h;rw[qi hi];congr 1;simpa using h1
theorem VA(h:tS ks k=none):k∉ks:=by unfold tS at h;grind
section
variable{κ:Type}[DecidableEq κ]{kd:κ->D}(inj:∀a b,kd a=kd b->a=b)
include inj
theorem Vz{zM:List (κ×V)}{k:κ}{v:V}{i:Nat}(hn:(zM.map λp=>kd p.1).Nodup)(h:(zM.map λp=>kd p.1)[i]?=some (kd k)):dF zM k v=zM.set i (k,v):=by
 have hi:i<zM.length:=by have:=(qh.mp h).1;simpa using this
 have hk:zM[i].1=k:=by rw[qI,qi hi]at h;exact inj _ _ (qg h)
 have hany:(zM.any λkv=>decide (kv.1=k))=true:=List.any_eq_true.mpr ⟨zM[i],getElem_mem hi,by simp[hk]⟩;unfold dF;rw[za hany];apply ext_getElem?;intro j;rw[qI,getElem?_set];by_cases hj:i=j
 .subst hj;rw[qi hi];simp[hk];exact hi
 .rw[zc hj];cases q:zM[j]? with
  |none=>rfl
  |some p=>
   have hne:¬p.1=k:=λz=>by
    apply hj;have h2:(zM.map λp=>kd p.1)[j]?=some (kd k):=by rw[qI,q,<-z];rfl
    exact(List.getElem?_inj (by simpa using hi) hn).mp (h.trans h2.symm)
   simp[hne]
omit inj in
theorem VT{zM:List (κ×V)}{k:κ}{v:V}(h:kd k∉zM.map λp=>kd p.1):dF zM k v=zM++[(k,v)]:=by unfold dF;grind
theorem NN{zM:List (κ×V)}{k:κ}{v:V}{ks:List D}(hks:ks=zM.map λp=>kd p.1)(hn:ks.Nodup):
  (∀m,tS ks (kd k)=some m->ks=(dF zM k v).map (λp=>kd p.1)/\(zM.map (·.2)).set m v=(dF zM k v).map (·.2))/\(tS ks (kd k)=none->ks++[kd k]=(dF zM k v).map (λp=>kd p.1)/\zM.map (·.2)++[v]=(dF zM k v).map (·.2)):=by
 subst hks;refine⟨λm hm=>?_,λhm=>?_⟩
 .have h:=OL hm;rw[Vz inj hn h,map_set,map_set];refine⟨?_,rfl⟩;apply ext_getElem?;intro j;rw[getElem?_set];by_cases hj:m=j
  .subst hj;rw[za rfl,za (qh.mp h).1,h]
  .rw[zc hj]
 .rw[VT (VA hm),map_append,map_append];exact⟨rfl,rfl⟩
end
inductive tL(ks:List D)(xs:List V):Bool->HO->Prop
 |k {zM:List (aR×V)}:ks=zM.map (λp=>aK p.1)->xs=zM.map (·.2)->tL ks xs false (.dK zM)
 |t {zM:List (List aR×V)}:ks=zM.map (λp=>D.tup (p.1.map aK))->xs=zM.map (·.2)->tL ks xs true (.dT zM)
section
variable{K:W.Frag}
theorem JM(r:aN K F H v (.dct t ks l) fp):∃a o xs fl,v=.ref a/\fp=a::fl/\H a=some o/\tL ks xs t o/\zz K F H xs l fl:=by
 cases r with
 |dK e q r=>exact⟨_,_,_,_,rfl,rfl,e,.k q rfl,r⟩
 |dT e q r=>exact⟨_,_,_,_,rfl,rfl,e,.t q rfl,r⟩
theorem tL.mk{a:Addr}{o:HO}{t:Bool}{ks:List D}{xs:List V}{l:List S}{fl:List Addr}(d:tL ks xs t o)(e:H a=some o)(r:zz K F H xs l fl):aN K F H (.ref a) (.dct t ks l) (a::fl):=by
 cases d with
 |k q z=>subst z;exact .dK e q r
 |t q z=>subst z;exact .dT e q r
theorem tL.len{o:HO}{t:Bool}{ks:List D}{xs:List V}(d:tL ks xs t o):ks.length=xs.length:=by
 cases d with
 |k q z=>subst z;subst q;simp
 |t q z=>subst z;subst q;simp
theorem tL.put{a:Addr}{o:HO}{t:Bool}{ks:List D}{xs:List V}{y v:V}{q:D}(d:tL ks xs t o)(e:H a=some o)(r:aS K H y q)(hk:bZ t q=true)(hn:ks.Nodup)(hb:ks.length<sizeLine):
  ∃o',AJ H a y v (upd H a o')/\(∀m,tS ks q=some m->tL ks (xs.set m v) t o')/\(tS ks q=none->tL (ks++[q]) (xs++[v]) t o'):=by
 cases d with
 |@k zM h1 h2=>subst h2;obtain⟨key,rfl,rfl⟩:=Ej r hk;obtain⟨p1,p2⟩:=NN (λ_ _=>AQ) (k:=key) (v:=v) h1 hn;exact⟨_,.inl ⟨zM,key,e,rfl,by rw[h1,qp]at hb;exact hb,rfl⟩,λm hm=>.k (p1 m hm).1 (p1 m hm).2,λhm=>.k (p2 hm).1 (p2 hm).2⟩
 |@t zM h1 h2=>
  subst h2;cases r with
  |tup e1 q=>obtain⟨keys,rfl,rfl⟩:=Ek q hk;obtain⟨p1,p2⟩:=NN (kd:=λl:List aR=>D.tup (l.map aK)) (λa b z=>Fb (D.tup.inj z)) (k:=keys) (v:=v) h1 hn;exact⟨_,.inr ⟨zM,keys,_,e,rfl,e1,by rw[h1,qp]at hb;exact hb,rfl⟩,λm hm=>.t (p1 m hm).1 (p1 m hm).2,λhm=>.t (p2 hm).1 (p2 hm).2⟩
  |_=>cases hk
theorem Rel.dct{D:Addr}(r:Rel K (U++[some s]) (Z++[some v]) F G H)(hs:slot U n=some (.dct t ks l))(hZ:Z[n]?=some (some (.ref D)))(hD:H D=some o)(ho:tL ks xs t o)(ho':tL ks' xs' t o')
  (hin:∀(H':Hp)(fl fs:List Addr),zz K F H' xs l fl->aN K F H' v s fs->∃fl' rest,zz K F H' xs' l' fl'/\(fl'++rest).Perm (fl++fs)):
  Rel K (U.set n (some (.dct t ks' l'))) Z F G (upd H D o'):=by
 have hl:=bD r;obtain⟨fp,e,nd,ap⟩:=r.en;obtain⟨f1,f2,rfl,a,b⟩:=e.cut hl;obtain⟨v',fa,fi,fb,e1,rfl,q,up⟩:=a.at hs;rw[hZ]at e1;have e2:V.ref D=v':=by simpa using e1
 subst e2;obtain⟨a',o2,xs2,fl,z1,rfl,hD2,ho2,rl⟩:=JM q;cases z1;rw[hD]at hD2;cases hD2;have ex:xs2=xs:=by
  cases ho with
  |k _ z=>cases ho2 with|k _ z'=>rw[z,z']
  |t _ z=>cases ho2 with|t _ z'=>rw[z,z']
 subst ex;cases b with
 |so sr nl=>
  cases nl;rename_i fs;obtain⟨n1,n2,n12⟩:=qz.mp nd;obtain⟨na,nib,nab⟩:=qz.mp n1;obtain⟨ni,nb,nib⟩:=qz.mp nib;obtain⟨nD,nfl⟩:=qO.mp ni;have hDa:D∉fa:=λz=>nab D z D (qk _ qo) rfl;have hDb:D∉fb:=λz=>nib D qo D z rfl;have hDs:D∉fs:=λz=>n12 D (qj _ (qk _ qo)) D (by simpa using z) rfl;have apD:=ap D (qk _ (qj _ (qk _ qo)));have ne:∀{l:List Addr},D∉l->∀x∈l,upd H D o' x=H x:=λh x hx=>cH λz=>h (z▸hx);obtain⟨fl',rest,rl',pm⟩:=hin (upd H D o') fl fs (rl.mono (zw.refl F) (ne nD)) (sr.mono (zw.refl F) (ne hDs));have a2:=up (F':=F) (H':=upd H D o') (o:=some (.dct t ks' l')) (u:=some (.ref D)) (zw.refl F) (λx hx=>cH λz=>(qA.mp hx).elim (λw=>hDa (z▸w)) λw=>hDb (z▸w)) (.so (ho'.mk kJ rl') .nil);rw[HX hZ]at a2;have p:(fa++((D::(fl'++rest))++[]++fb)).Perm (fa++((D::fl)++fb)++(fs++[])):=by refine(List.Perm.append_left _ (List.Perm.append_right _ (List.Perm.append_right _ (List.Perm.cons _ pm)))).trans ?_;simp only[qC,qq,qR];refine List.Perm.append_left _ (List.Perm.cons _ (List.Perm.append_left _ qQ))
  have sb:List.Sublist (fa++((D::fl')++[]++fb)) (fa++((D::(fl'++rest))++[]++fb)):=by simp only[qC,qq,qR];exact List.Sublist.append (List.Sublist.refl _) (List.Sublist.cons_cons _ (List.Sublist.append (List.Sublist.refl _) (List.sublist_append_right _ _)))
  refine⟨zw.updR r.fr apD.1,λx o w=>?_,_,a2,sb.nodup (p.nodup_iff.mpr nd),λx hx=>ap x (p.mem_iff.mp (sb.subset hx))⟩;have hx:x≠D:=λz=>by rw[z,apD.2]at w;cases w
  rw[cH hx];exact r.gr x o w
theorem Rel.dput{D:Addr}(r:Rel K (U++[some s]) (Z++[some v]) F G H)(hs:slot U n=some (.dct t ks l))(hZ:Z[n]?=some (some (.ref D)))(ry:aS K H y q)(hk:bZ t q=true)(hn:ks.Nodup)(hb:ks.length<big):
  ∃H',AJ H D y v H'/\Rel K (U.set n (some (fH t ks l q s))) Z F G H':=by
 refine cps λ_ kk=>?_;obtain⟨v',fp,e1,sr⟩:=(r.drop (bD r)).at hs;rw[hZ]at e1;have e2:V.ref D=v':=by simpa using e1
 subst e2;obtain⟨a',o,xs,fl,z1,_,hD,ho,rl⟩:=JM sr;cases z1;have zO:=ho.len;have hll:=rl.len;obtain⟨o',dp,h1,h2⟩:=ho.put (v:=v) hD ry hk hn (by rw[zj];exact lt_trans hb (by decide));refine kk ?_;refine⟨_,dp,?_⟩;cases qf:tS ks q with
 |some m=>
  have ed:fH t ks l q s=.dct t ks (l.set m s):=by unfold fH;rw[qf]
  rw[ed];have hml:m<l.length:=by have:=(qh.mp (OL qf)).1;lia
  refine r.dct hs hZ hD ho (h1 m qf) λH' fl fs rl sr=>?_;obtain⟨ga,gi,gb,rfl,sup⟩:=rl.set hml;refine⟨_,gi,sup (λ_ _=>rfl) sr,?_⟩;simp only[qq];exact List.Perm.append_left _ ((List.Perm.append_left _ qQ).trans (qQ.trans (by simp)))
 |none=>
  have ed:fH t ks l q s=.dct t (ks++[q]) (l++[s]):=by unfold fH;rw[qf]
  rw[ed];exact r.dct hs hZ hD ho (h2 qf) λH' fl fs rl sr=>⟨fl++fs,[],zz.snoc rl sr,by simp⟩
end
theorem TL(hu:X.A.units+1<cLine)(ho:FE X o (zp j))(hi:FE X i wi)(he:FE X e we)(hs:swapsWith e (some (.Subscript o i tpos)) pos.line X.env=pure false:=by rfl):FS X ks (.Assign [.Subscript o i tpos] e pos) (uO j wi we):=λpn xe hp=>by
 refine PS.imp (SC (X:=wp X pn xe) hu (ho pn xe hp) (hi pn xe hp) (he pn xe hp) hs) λD Z H q=>?_;obtain⟨F,G,U,E,zN,hw,n,b,c,r,x⟩:=q;have x0:XC (wp X pn xe) (·=Z) F G E.ex:=x.mono (λZ2 z=>by rw[z];exact KP.refl) (zw.refl F) (zw.refl G);refine⟨F,G,U,_,_,zN,hw,λr U1 v F1 H1 hk s1 r1 rv=>?_,x0⟩;have l1:=bD r1;obtain⟨G1,rel1,gg,back⟩:=r1.hide l1;refine⟨F1,G1,U1,_,_,rel1,hk,λy U2 o' F2 H2 hk2 s2 r2 rv2=>?_,x0.mono (λ_ z=>z) s1 gg⟩;have l2:=bD r2;obtain⟨G2,rel2,gg2,back2⟩:=r2.hide l2;refine⟨F2,G2,U2,_,_,rel2,hk2,λz U3 i' F3 H3 hk3 s3 r3 rv3=>?_,x0.mono (λ_ z=>z) (s1.trans s2) (gg.trans gg2)⟩;have l3:=bD r3;obtain⟨q,eq,hk3⟩:=cF hk3;obtain⟨⟨t,U4⟩,eg,hk4⟩:=cF hk3;have r4:=back (s2.trans s3) (back2 s3 r3);simp only[qq,qR,nil_append]at r4;have ri:=dH (U':=[zx y,zx r]) (Z':=[some o',some v]) r4 l3 rv3 eq;have r5:Rel X.K (U3++[zx r]) (Z++[some v]) F3 G H3:=Rel.mid (U:=U3) (Z:=Z) (Rel.mid (U:=U3) (Z:=Z) r4 l3) l3;obtain⟨F4,s4,l4,r6⟩:=dN (U':=[]) (Z':=[]) r5 l3 rv eg;cases y with
 |v y0=>exact hk4.elim
 |loc k=>
  cases qs:slot U4 j with
  |none=>simp only[qs]at hk4
  |some sj=>
   rw[qs]at hk4;match sj,qs,hk4 with
   |.dct t kk l,qs,⟨ekj,hkey,hnd,hbig,hnx⟩=>
    subst ekj;have hZ:Z[k]?=some (some o'):=rv2;obtain⟨v',fp,e1,sr⟩:=r6.at (i:=k) (s:=.dct t kk l) (by rw[Fj (Em qs)];exact qs);have hkl:k<Z.length:=(qh.mp hZ).1;rw[getElem?_append_left hkl,hZ]at e1;have e2:o'=v':=by simpa using e1
    subst e2;obtain⟨a,o2,xs,fl,rfl,_,_,_,_⟩:=JM sr;obtain⟨H',dp,r7⟩:=Rel.dput r6 qs hZ ri hkey hnd hbig;exact⟨a,_,rfl,dp,n _ Z F4 _ hnx KP.refl (s1.trans (s2.trans (s3.trans s4))) r7⟩
end FL
namespace FL
def oE(k v:WE):WE:=λU Q E=>k U (λx U1=>v U1 (λy U2=>zv (view x U2) λq=>zv (give y U2) λp=>bV q=true/\Q (.v (.dct false [q] [p.1])) p.2) E) E
end FL
namespace FL
open PySem PySem.Spec PyProof.Rows L2
theorem Vc(hk:FE X k wk)(hv:FE X v wv):FE X (.Dict [some k] [v] pos) (oE wk wv):=λpn xe hp=>by
 refine PE.imp (SZ (X:=wp X pn xe) (Wb (hk pn xe hp) (hv pn xe hp) Tp) rfl rfl (by simp) (by show 1<=15;decide)) λZ H Q q=>?_;obtain⟨F,G,U,P,PX,zN,hw,hok,hx⟩:=q;intro p hp;have r0:=Rel.newO (s:=.dct false [] []) zN hp (.dK (zM:=[]) kJ rfl .nil);obtain⟨G0,rel0,g0,back0⟩:=r0.hide (bD r0);refine⟨F,G0,U,_,PX,rel0,hw,λrx U1 vx F1 H1 hk1 s1 r1 rv1=>?_,hx.mono (λ_ z=>z) (zw.refl F) g0⟩;have l1:=bD r1;obtain⟨G1,rel1,g1,back1⟩:=r1.hide l1;refine⟨F1,G1,U1,_,PX,rel1,hk1,λry U2 vy F2 H2 hk2 s2 r2 rv2=>?_,hx.mono (λ_ z=>z) s1 (g0.trans g1)⟩;have l2:=bD r2;obtain⟨q,eq,hk3⟩:=cF hk2;obtain⟨⟨t,U3⟩,eg,hkey,hk4⟩:=cF hk3;have r3:=back0 (s1.trans s2) (back1 s2 r2);simp only[qq,qR,nil_append]at r3
 --y,x,the dict
 obtain⟨F3,s3,l3,r4⟩:=dN (U':=[zx rx,some (.dct false [] [])]) (Z':=[some vx,some (.ref p)]) r3 l2 rv2 eg;have r3':Rel X.K (U2++zx rx::[some (.dct false [] [])]) (Z++some vx::[some (.ref p)]) F2 G H2:=r3.mid l2;have rq:=dH (U':=[some (.dct false [] [])]) (Z':=[some (.ref p)]) r3' l2 rv1 eq;obtain⟨key,rfl,rfl⟩:=Ej rq hkey;have l3':U3.length=Z.length:=l3.trans l2;have r5:Rel X.K (U3++[some t,some (.dct false [] [])]) (Z++[some vy,some (.ref p)]) F3 G H2:=by have:=Rel.mid (U:=U3++[some t]) (Z:=Z++[some vy]) (U':=[some (.dct false [] [])]) (Z':=[some (.ref p)]) (o:=zx rx) (w:=some (kV key)) (by simpa using r4) (by simp[l3']);simpa using this
 have r6:=Rel.swap (U1:=[some t]) (Z1:=[some vy]) (U2:=[some (.dct false [] [])]) (Z2:=[some (.ref p)]) l3' rfl r5;have r7:Rel X.K ((U3++[some (.dct false [] [])])++[some t]) ((Z++[some (.ref p)])++[some vy]) F3 G H2:=by simpa using r6
 have hs7:slot (U3++[some (.dct false [] [])]) U3.length=some (.dct false [] []):=Ep (U':=[]);have hZ7:(Z++[some (V.ref p)])[U3.length]?=some (some (.ref p)):=by rw[l3'];simp
 have hp2:H2 p=some (.dK []):=by
  obtain⟨v',fp,e1,sr⟩:=(r7.drop (bD r7)).at hs7;rw[hZ7]at e1;have e2:V.ref p=v':=by simpa using e1
  subst e2;cases sr with
  |@dK _ zM _ _ fl hH hks rl=>first|rfl|assumption|(simp_all;done)
 have r8:=r7.dct (ks':=[aK key]) (l':=[t]) (o':=.dK [(key,vy)]) hs7 hZ7 hp2 (.k rfl rfl) (.k rfl rfl) λH' fl fs rl sr=>⟨fs++[],[],.cons sr .nil,by cases rl;simp⟩
 refine⟨hp2,[(key,vy)],rfl,by show 1<=15;decide,?_⟩;have e9:(U3++[some (S.dct false [] [])]).set U3.length (some (.dct false [aK key] [t]))=U3++[some (.dct false [aK key] [t])]:=Kr (U':=[]);rw[e9]at r8;exact hok _ U3 _ F3 _ hk4 (s1.trans (s2.trans s3)) r8 trivial
section
variable{K:W.Frag}
theorem Ic:∀{us:List Value},zI (ns.map V.int) us->IntsAre us ns:=by
 induction ns with
 |nil=>intro us r;cases r;exact .nil
 |cons n ns ih=>
  intro us r;rw[qB]at r;cases r with
  |cons r1 r2=>obtain⟨t,rfl⟩:=r1;exact .cons _ t (ih r2)
end
section
open PySem.W HT
def rest(h₀:Heap)(L:Addr)(h:Heap):List (Addr×Obj):=(List.range h.objs.size).filterMap λb=>if b=L then none else if(h₀.get? b).isSome then none else(h.get? b).map λo=>(b,o)
end
end FL
namespace FL
def tI(ns:List Int):D:=.tup (ns.map .int)
end FL
namespace FL
open PySem PySem.Spec PyProof.Rows L2
theorem Tn{vs:List Value}(few:vs.length<2):(vs.toArray.zip vs.toArray).map (·.2)=vs.toArray:=by rw[List.zip_toArray,List.map_toArray,List.map_snd_zip (zd _)]
theorem OH(at_:s.heap.get? a=some (seqObj "list" vs.toArray n))(few:vs.length<2)
  (k:P (.done (.ret .none)) {s with heap:=sortedHeap s.heap a vs vs.toArray}):wpAny (model prog w) A (Builtin.«list.sort» ⟨[.ref a],[]⟩) P E s:=by
 rw[list_sort_plain];have few':vs.toArray.size<2:=by simpa using few
 have hmid:∃e,(s.heap.update a (Obj.mapSeq λ_=>#[])).get? a=some (seqObj "list" #[] e):=⟨_,get?_update_seq at_ _⟩
 obtain⟨e,mid⟩:=hmid;have end_:(((s.heap.update a (Obj.mapSeq λ_=>#[])).push (seqObj "tuple" vs.toArray 0)).push (seqObj "list" #[] 0)).get? a=some (seqObj "list" #[] e):=
  qc _ (qc _ mid)
 refine qa (listItems_at at_ rfl (qa (listUpdate_at at_ rfl (qa (seqEpoch_at mid rfl (qa (wpAny_newTuple (qa (wpAny_newList (zk ?_))))))))));show wpAny (model prog w) A _ P E (Shared.mk (((s.heap.update a (Obj.mapSeq λ_=>#[])).push (seqObj "tuple" vs.toArray 0)).push (seqObj "list" #[] 0)) s.gens s.drawn s.toks s.os);dsimp only;rw[za few',za few'];refine qa (qb (?_:wpAny _ _ _ _ _ _));rw[StateT.run_pure];have eo:(arrOf (SortSt.mk' general' (vs.toArray.zip vs.toArray) #[] 7 none)).map (·.2)=vs.toArray:=by show(vs.toArray.zip vs.toArray).map (·.2)=_;exact Tn few
 refine qa (qb (?_:wpAny _ _ _ _ _ _));dsimp only;rw[eo];refine qa (seqEpoch_at end_ rfl (qa (listUpdate_at end_ rfl ?_ (hsz2:=by rw[zj];lia))));simp only[bne_self_eq_false,false_eq_true,if_false];exact qb k
theorem XQ(is:s.heap.IsList l vs.toArray)(few:vs.length<2)
  (k:Q (.ref (s.heap.objs.size+1)) {s with heap:=sortedAll s.heap vs vs.toArray}):wpAny (model prog w) A (call (.builtin "sorted") [.ref l]) Q E s:=by
 refine Calls.call_function_entry kind_sorted plain_sorted entry_sorted (args_sorted1 _) (?_:wpAny _ _ _ _ _ _);unfold Builtin.«sorted»;refine qa (m:=checkCount "sorted" 1 1 _) (qb (qa (collect_list is (qa (wpAny_newList ?_)))));generalize eh:((s.heap.push (seqObj "list" #[] 0)).update s.heap.objs.size (Obj.mapSeq (·++vs.toArray)))=h1;have z:h1.objs.size=s.heap.objs.size+1:=by rw[<-eh,Heap.size_update,size_push']
 have new:(h1.push (seqObj "list" vs.toArray 0)).get? (s.heap.objs.size+1)=some (seqObj "list" vs.toArray 0):=z▸qd _ rfl;show wpAny _ _ _ _ _ (Shared.mk (h1.push (seqObj "list" vs.toArray 0)) s.gens s.drawn s.toks s.os);rw[z];refine qa (zk (zi slot_list_sort ⟨_,new,rfl⟩ entry_list_sort (OH new few ⟨_,rfl,?_⟩) (args_list_sort _)));subst eh;exact qb ⟨_,rfl,k⟩
section
variable{K:W.Frag}
def Cr(K:W.Frag):List V->Hp->VK->Prop:=λxs H Q=>∃a ys,xs=[.ref a]/\cA K H a ys/\ys.length<2/\∀q,H q=none->Q (.ref q) (upd H q (.lst ys))
theorem Yb:bA X (.builtin "sorted") (Cr X.K):=by
 intro zL s Z H xs us Q I r h;obtain⟨a,ys,rfl,hq,h2,q⟩:=h;cases r with
 |cons r1 r2=>cases r2;cases r1;obtain⟨zP,r,pl,_⟩:=I.list hq;refine XQ pl.isList (by rw[<-r.length];exact h2) ?_;obtain⟨e,he⟩:=sortedAll_at s.heap zP zP.toArray;refine⟨.ref (s.heap.objs.size+1),_,I.laid (t':=s.toks) (o:=.lst ys) (λb ob w=>sortedAll_old w) (le_succ _) ?_,rfl,q _ (I.hok.fresh (le_succ _))⟩;exact⟨by rw[zj];lia,zP,e,r,he⟩
end
end FL
namespace FL
def iJ(a b:D):Option Bool:=match b with
 |.str l=>match a with
  |.str x=>some (jX l x).isSome
  |_=>none
 |d=>wV a d
def dQ(a b:D):Option Bool:=(iJ a b).map (!·)
def dY(j:Nat)(i e:WE):WE:=λU Q E=>match slot U j with
 |some (.lst _)=>i U (λy U1=>match view y U1,slot U1 j with
  |some (.int n),some (.lst l)=>zv (ixN l.length n) λm=>match l[m]? with
   |some (.lst l')=>e (U1.set j none) (λr U2=>zv (give r U2) λp=>l'.length<big/\Q (.v (.sh .non)) (p.2.set j (some (.lst (l.set m (.lst (l'++[p.1]))))))) E
   |_=>False
  |_,_=>False) E
 |_=>False
def eW(a:WE):WE:=λU Q E=>a U (λr U1=>zv (give r U1) λp=>Q (.v (.sh p.1.toD)) p.2) E
def IC(i:Nat)(w:WS):WS:=λD U=>w {D with nx:=λU1=>zv (slot U1 i) λs=>D.nx (U1.set i (some (.sh s.toD)))} U
def CS(d q:D):Option (Option D):=match d with
 |.dct t ks vs=>if bZ t q then some (lk ks vs q)else none
 |_=>none
def uM(a b:WE):WE:=λU Q E=>a U (λx U1=>b U1 (λy U2=>zv (zH x U2) λdd=>zv (view y U2) λq=>zv (CS dd q) λo=>zv o λe=>Q (.v (.sh e)) U2) E) E
def sJ:List D->Option S
 |[.lst l]=>(gO l).bind λns=>(ns.min?).map λm=>S.sh (.int m)
 |_=>none
def uL(it:WI):WE:=λU Q E=>it U (λl U1=>l.length<=big/\Q (.v (.sh (.tup l))) U1) E
mutual
def vL:D->Bool
 |.non=>true
 |.bl _=>true
 |.int i=>decide (-1000000000000<i)&&decide (i<1000000000000)
 |.str l=>l.all λc=>decide (c<1114112)
 |.tup l=>gM l
 |.lst l=>gM l
 |_=>false
def gM:List D->Bool
 |[]=>true
 |d::r=>vL d&&gM r
end
mutual
def By:D->Nat
 |.int _=>41
 |.str l=>l.length
 |.tup l=>tZ l
 |.lst l=>tZ l
 |_=>0
def tZ:List D->Nat
 |[]=>0
 |d::r=>By d+1+tZ r
end
def eG(d:D):Bool:=vL d&&(decide (hU d<=30)&&decide (By d<=1000000))
def iO(res:Bool)(a b:WE):WT:=λU Q E=>a U (λx U1=>zv (zH x U1) λp=>eG p=true/\b U1 (λy U2=>zv (zH y U2) λq=>p=q/\Q res U2) E) E
def eA(p q:D):Option S:=match p,q with
 |.str x,.int n=>if 0<=n/\n<=1000/\x.length<=500 then some (.sh (.str (List.replicate n.toNat x).flatten))else none
 |p,q=>vN p q
end FL
namespace FL
open PySem PySem.Spec PyProof.Rows L2
section
variable{K:W.Frag}
theorem Yj(x y:Str):Txt.contains x y=(jX x.cps.toList y.cps.toList).isSome:=by
 have h:=SV x y;unfold Txt.find at h;unfold Txt.contains;cases q:Builtin.Str.occurrences x y 0 x.length 1 with
 |nil=>
  rw[q]at h;cases e:jX x.cps.toList y.cps.toList with
  |none=>rfl
  |some i=>rw[e]at h;have h':(-1:Int)=(i:Int):=h;lia
 |cons i r=>
  rw[q]at h;cases e:jX x.cps.toList y.cps.toList with
  |none=>rw[e]at h;have h':((i:Nat):Int)=-1:=h;lia
  |some i=>rfl
def Cv(neg:Bool):R2:=λx y H Q=>∃z u,x=.str z/\y=.str u/\Q (.bl (if neg then !(Txt.contains u z)else Txt.contains u z)) H
theorem RZ:OpR X (compareOp .In) (Cv false):=by intro zL s Z H x y v u Q I rx ry h;obtain⟨z,t,rfl,rfl,q⟩:=h;obtain⟨t1,rfl⟩:=rx;obtain⟨t2,rfl⟩:=ry;exact SB.contains ⟨.bl _,H,I,rfl,q⟩
theorem Vr:OpR X (compareOp .NotIn) (Cv true):=by intro zL s Z H x y v u Q I rx ry h;obtain⟨z,t,rfl,rfl,q⟩:=h;obtain⟨t1,rfl⟩:=rx;obtain⟨t2,rfl⟩:=ry;exact SB.notContains ⟨.bl _,H,I,rfl,q⟩
def vE(K:W.Frag)(neg:Bool):R2:=λx y H Q=>mF K neg x y H Q\/Cv neg x y H Q
theorem RX(hu:X.A.units+32<cLine):OpR X (compareOp .In) (vE X.K false):=FL.OpR.or (VW hu) RZ
theorem Il(hu:X.A.units+32<cLine):OpR X (compareOp .NotIn) (vE X.K true):=FL.OpR.or (Yo hu) Vr
theorem ON(r1:aS K H x p)(r2:aS K H y q)(e:iJ p q=some k)(hq:Q (.bl (if neg then !k else k)) H):vE K neg x y H Q:=by
 unfold iJ at e;split at e
 .split at e
  .cases r1 with
   |str e1 z1=>cases r2 with
    |str e2 z2=>refine .inr ⟨_,_,rfl,rfl,?_⟩;rw[Yj,e1,e2,qg e];exact hq
  .cases e
 .exact .inl (TH r1 r2 e hq)
theorem UH:fK K (vE K false) iJ:=λH x y p q k Q r1 r2 e hq=>ON r1 r2 e hq
theorem Iw:fK K (vE K true) dQ:=λH x y p q k Q r1 r2 e hq=>by
 unfold dQ at e;cases q1:iJ p q with
 |none=>rw[q1]at e;cases e
 |some b=>rw[q1]at e;have e':(!b)=k:=qg e;subst e';exact ON r1 r2 q1 hq
inductive QW(K:W.Frag)(F H:Hp)(xs:List V)(l:List S)(fp:List Addr)(m:Nat)(s:S):Prop
 |mk (x:V) (fa fi fb:List Addr):xs[m]?=some x->aN K F H x s fi->fp=fa++(fi++fb)->(∀{H':Hp}{v':V}{s':S}{fq:List Addr},(∀a∈fa++fb,H' a=H a)->aN K F H' v' s' fq->zz K F H' (xs.set m v') (l.set m s') (fa++(fq++fb)))->QW K F H xs l fp m s
theorem zz.at:∀{xs:List V}{l:List S}{fp:List Addr}{m:Nat}{s:S},zz K F H xs l fp->l[m]?=some s->QW K F H xs l fp m s
 |_,_,_,_,_,.nil,h=>by simp at h
 |_,_,_,0,_,.cons (fp:=fp) (fq:=fq) a b,h=>by simp at h;subst h;exact⟨_,[],fp,fq,rfl,a,rfl,λhk r=>by rw[nil_append];exact .cons r (b.mono (zw.refl F) λc hc=>hk c hc)⟩
 |_,_,_,m+1,_,.cons (fp:=fp) (fq:=fq) a b,h=>by obtain⟨x,fa,fi,fb,h1,h2,rfl,up⟩:=zz.at (m:=m) b (by simpa using h);refine⟨x,fp++fa,fi,fb,by simpa using h1,h2,(qq ..).symm,λhk r=>?_⟩;rw[qq];exact .cons (a.mono (zw.refl F) λc hc=>hk c (qk _ (qk _ hc))) (up (λc hc=>hk c ((qA.mp hc).elim (λz=>qk _ (qj _ z)) λz=>qj _ z)) r)
theorem Rel.hide2(r:Rel K (U++[some s]) (Z++[some v]) F G H)(h:U.length=Z.length):∃G' fp,Rel K U Z F G' H/\zw G G'/\aN K F H v s fp/\(∀a∈fp,∃o,G' a=some o/\H a=some o)/\
  ∀{U2:Env}{Z2:St}{F2 H2:Hp},zw F F2->Rel K U2 Z2 F2 G' H2->Rel K (U2++[some s]) (Z2++[some v]) F2 G H2:=by
 classical
 refine cps λ_ kk=>?_;obtain⟨fp,e,nd,ap⟩:=r.en;obtain⟨f1,f2,rfl,a,b⟩:=e.cut h;obtain⟨n1,n2,n12⟩:=qz.mp nd;refine kk ?_;have b':=b;cases b' with
 |@so _ _ _ _ fs fn sr nl=>
 cases nl;refine⟨λx=>if x∈fs++[]then H x else G x,fs,⟨r.fr,λx o q=>?_,f1,a,n1,λx hx=>?_⟩,λx o q=>?_,sr,λx hx=>?_,λ{U2 Z2 F2 H2} sm r2=>?_⟩
 .by_cases z:x∈fs++[]
  .have:=b.in_ x z;grind
  .simp only[z,if_false]at q;exact r.gr x o q
 .grind
 .grind
 .obtain⟨o,q,_⟩:=b.in_ x (qk _ hx);grind
 .obtain⟨fp2,e2,nd2,ap2⟩:=r2.en;have hk:∀x∈fs++[],H2 x=H x/\F2 x=none/\x∉fp2:=λx hx=>by obtain⟨o,q,_⟩:=b.in_ x hx;have w:=r2.gr x o (by simp only[hx,if_true];exact q);grind
  refine⟨r2.fr,λx o q=>?_,fp2++(fs++[]),e2.app (b.mono sm λx hx=>(hk x hx).1),?_,λx hx=>?_⟩
  .have z:x∉fs++[]:=λz=>by grind
   exact r2.gr x o (by simp only[z,if_false];exact q)
  .grind
  grind
theorem Rel.appendAt{D b:Addr}(r:Rel K (U++[some t,some (.lst l)]) (Z++[some v,some (.ref D)]) F G H)(h:U.length=Z.length)(hm:l[m]?=some (.lst l'))
  (hD:H D=some (.lst xs))(hb:xs[m]?=some (.ref b))(hy:H b=some (.lst ys)):
  ys.length=l'.length/\Rel K (U++[some (.lst (l.set m (.lst (l'++[t]))))]) (Z++[some (.ref D)]) F G (upd H b (.lst (ys++[v]))):=by
 obtain⟨fp,e,nd,ap⟩:=r.en;obtain⟨f1,f2,rfl,a,c⟩:=e.cut h;cases c with
 |@so _ _ _ _ ft f3 st c=>
 cases c with
 |@so _ _ _ _ fD fn sd nl=>
 cases nl;cases sd with
 |@lst _ xs' _ fl hD' rl=>
 rw[hD]at hD';cases hD';obtain⟨x,fa,fi,fb,hx,sx,rfl,up⟩:=rl.at hm;rw[hb]at hx;cases hx;cases sx with
 |@lst _ ys' _ fy hy' ry=>
 rw[hy]at hy';cases hy';refine⟨ry.len,?_⟩;have hp:(f1++(ft++(D::(fa++(b::fy++fb))++[]))).Perm (b::(f1++(ft++(D::(fa++(fy++fb)))))):=by simp only[qC,qR];have h1:(fa++b::(fy++fb)).Perm (b::(fa++(fy++fb))):=perm_middle;refine((h1.cons D).append_left (f1++ft)|>.trans ?_|>λz=>(by simpa using z));have h2:(D::b::(fa++(fy++fb))).Perm (b::D::(fa++(fy++fb))):=List.Perm.swap ..;refine(h2.append_left (f1++ft)).trans ?_;exact perm_middle.trans (by rw[qq])
 have nd':=hp.nodup_iff.mp nd;obtain⟨nb,_⟩:=qO.mp nd';have ne:∀{w:List Addr},(∀x∈w,x∈f1++(ft++(D::(fa++(fy++fb)))))->∀x∈w,upd H b (.lst (ys++[v])) x=H x:=λhw x hx=>cH λz=>nb (z▸hw x hx);have apb:=ap b (hp.mem_iff.mpr qo);have new:aN K F (upd H b (.lst (ys++[v]))) (.ref b) (.lst (l'++[t])) (b::(fy++ft)):=.lst kJ (zz.snoc (ry.mono (zw.refl F) (ne λx hx=>by simp[hx])) (st.mono (zw.refl F) (ne λx hx=>by simp[hx])));have r2:=up (H':=upd H b (.lst (ys++[v]))) (ne λx hx=>by rcases qA.mp hx with z|z<;>simp[z]) new
 have e2:xs.set m (.ref b)=xs:=by
  apply ext_getElem?;intro j;by_cases hj:m=j
  .subst hj;rw[getElem?_set_self (qh.mp hb).1,hb]
  .rw[getElem?_set_ne hj]
 rw[e2]at r2;have hDb:D≠b:=λz=>nb (by simp[z]);have top:aN K F (upd H b (.lst (ys++[v]))) (.ref D) (.lst (l.set m (.lst (l'++[t])))) (D::(fa++((b::(fy++ft))++fb))):=.lst ((cH hDb).trans hD) r2;have p:(f1++((D::(fa++((b::(fy++ft))++fb)))++[])).Perm (f1++(ft++(D::(fa++(b::fy++fb))++[]))):=by
  refine List.Perm.append_left _ ?_;simp only[qC,qR,qq];have h1:(fy++(ft++fb)).Perm (ft++(fy++fb)):=by rw[<-qq,<-qq];exact List.Perm.append_right _ qQ
  have h2:(fa++b::(fy++(ft++fb))).Perm (ft++(fa++b::(fy++fb))):=by refine((h1.cons b).append_left fa).trans ?_;have h3:(b::(ft++(fy++fb))).Perm (ft++(b::(fy++fb))):=perm_middle.symm;refine(h3.append_left fa).trans ?_;rw[<-qq,<-qq];exact List.Perm.append_right _ qQ
  refine(h2.cons D).trans ?_;exact perm_middle.symm
 refine⟨zw.updR r.fr apb.1,λx o w=>?_,_,(a.mono (zw.refl F) (ne λx hx=>by simp[hx])).app (.so top .nil),p.nodup_iff.mpr nd,λx hx=>ap x (p.mem_iff.mp hx)⟩;have hx:x≠b:=λz=>by rw[z,apb.2]at w;cases w
 rw[cH hx];exact r.gr x o w
end
theorem Qp(ho:FE X o (zp j))(hi:FE X i wi)(he:FE X e we)(hix:iR i:=by intro _ _;rfl)
  (hbase:attributeBase (.Subscript o i spos) "append" X.env (eval (.Subscript o i spos) X.env)=eval (.Subscript o i spos) X.env:=by rfl)
  (hfew:((backTo cpos (starEach [e] X.env)).all (λx=>!x.1)&&(backToKw cpos (keywordEach [] X.env)).all (λx=>x.1.isSome)
   &&decide ([e].length+([]:List Keyword).length+(if([]:List Keyword).isEmpty then 0 else 1)<30))=true:=by rfl)
  (hline:(apos.endLine==cpos.line)=true:=by rfl)(hs:starEach [e] X.env=[(false,eval e X.env)]:=by rfl):FE X (.Call (.Attribute (.Subscript o i spos) "append" apos) [e] [] cpos) (dY j wi we):=λpn xe hp=>by
 refine PE.imp (Hv (X:=wp X pn xe) PySem.F.plainAttrs_list PySem.F.slot_list_append PySem.F.type_list_append JY (Jd (MX (X:=wp X pn xe)) (ho pn xe hp) (hi pn xe hp) hix) (aB he aG hs pn xe hp) hbase hfew hline hs rfl) λZ H Q q=>?_;obtain⟨F,G,U,P,PX,zN,hw,hok,hx⟩:=q;unfold dY at hw;cases qs:slot U j with
 |none=>rw[qs]at hw;exact hw.elim
 |some s0=>
  cases s0 with
  |lst l0=>
   rw[qs]at hw;dsimp only at hw;refine⟨F,G,U,λy U1=>y=.loc j/\U1=U,PX,zN,by unfold zp;rw[qs];exact⟨rfl,rfl⟩,λy U1 o' F1 H1 hk s1 r1 rv=>?_,hx⟩;obtain⟨rfl,rfl⟩:=hk;have l1:=bD r1;have hZ:Z[j]?=some (some o'):=rv;have r2:=r1.drop l1;refine⟨F1,G,U1,_,PX,r2,hw,λz U2 i' F2 H2 hk2 s2 r3 rv2=>?_,hx.grow s1⟩;have l2:=bD r3;split at hk2
   .rename_i n l ei ql;obtain⟨m,em,hk2⟩:=cF hk2;split at hk2
    .rename_i l' el;have ri:=dH (U':=[]) (Z':=[]) r3 l2 rv2 ei;have r4:=r3.drop l2;obtain⟨v',fp,e1,sr⟩:=r4.at ql;rw[hZ]at e1;have e2:o'=v':=by simpa using e1
     subst e2;have r5:=Rel.lend (U':=[]) (Z':=[]) (r4.pushN (u:=some o')) l2 ql hZ;have l5:(U2.set j none).length=Z.length:=by simpa using l2
     obtain⟨G2,fq,r6,gg,sq,hG,back⟩:=r5.hide2 l5;cases sq with
     |@lst a xs _ fl hD rl=>
     obtain⟨x,fa,fi,fb,hx1,sx,efl,_⟩:=rl.at el;cases sx with
     |@lst b ys _ fy hy ry=>
     cases ri;have hat:L2.atI xs n=some (.ref b):=by
      have e':L2.ixN xs.length n=some m:=by rw[rl.len];exact em
      unfold L2.atI;rw[e'];exact hx1
     refine .inl ⟨a,xs,n,_,rfl,rfl,cA.of hD,hat,.inl ⟨rfl,_,cA.of hy⟩,F2,G2,U2.set j none,λrs U3=>match rs with|[r]=>(zv (give r U3) λp=>l'.length<big/\P (.v (.sh .non)) (p.2.set j (some (.lst (l.set m (.lst (l'++[p.1])))))))|_=>False,PX,r6,hk2,λrs U3 vs F3 H3 hk s3 r7 hl rvs=>?_,hx.mono (λ_ z=>z) (s1.trans s2) gg⟩;match rs,vs,rvs,r7,hk with
     |[r],[v],rvs,r7,hk=>
      dsimp only at hk;obtain⟨⟨t,U4⟩,eg,hk⟩:=cF hk;have r8:=back s3 r7;simp only[qB,map_nil,qq,qR,nil_append]at r8;have l3:U3.length=Z.length:=hl;obtain⟨F4,s4,l4,r9⟩:=dN (U':=[some (.lst l)]) (Z':=[some (.ref a)]) r8 l3 rvs.1 eg;have kept:∀c∈a::fl,H3 c=H2 c:=λc hc=>by obtain⟨o,h1,h2⟩:=hG c hc;rw[(r7.gr c o h1).1.1,h2]
      have hb:b∈a::fl:=qm _ (by rw[efl];simp);obtain⟨zO,r10⟩:=Rel.appendAt r9 (l4.trans l3) el ((kept a qo).trans hD) hx1 ((kept b hb).trans hy);have r11:=Rel.back1 (U':=[]) (Z':=[]) (i:=j) r10 (l4.trans l3) hZ;rw[qC,qC]at r11;exact⟨b,ys,v,rfl,rfl,(kept b hb).trans hy,by rw[zO,zj];exact lt_trans hk.1 (by decide),hok _ _ .non F4 _ hk.2 (s1.trans (s2.trans (s3.trans s4))) (r11.push .non) trivial⟩
     |[],_,_,_,hk=>exact hk.elim
     |[_],[],rvs,_,_=>exact rvs.elim
     |[_],_::_::_,rvs,_,_=>exact rvs.2.elim
     |_::_::_,_,_,_,hk=>exact hk.elim
    .exact hk2.elim
   .exact hk2.elim
  |_=>rw[qs]at hw;exact hw.elim
section
variable{K:W.Frag}
theorem Rel.frzEnd(r:Rel K (U++[some s]) (Z++[some v]) F G H)(h:U.length=Z.length):∃F',zw F F'/\Rel K (U++[some (.sh s.toD)]) (Z++[some v]) F' G H:=by obtain⟨u,F',e1,sm,rp,r'⟩:=r.give (i:=U.length) (s:=s) Ep;rw[show(U++[some s]).set U.length (some (S.sh s.toD))=U++[some (S.sh s.toD)] from Kr]at r';exact⟨F',sm,r'⟩
end
section
variable{st:Stmt}
theorem oC(he:FE X e we):FE X e (eW we):=λpn xe hp=>by refine PE.imp (he pn xe hp) λZ H Q q=>?_;obtain⟨F,G,U,P,PX,zN,hw,hok,hx⟩:=q;refine⟨F,G,U,_,PX,zN,hw,λr U1 v F1 H1 hk s1 r1 rv=>?_,hx⟩;obtain⟨⟨s,U2⟩,eg,hk⟩:=cF hk;obtain⟨F2,s2,l2,r2⟩:=dN (U':=[]) (Z':=[]) r1 (bD r1) rv eg;obtain⟨F3,s3,r3⟩:=Rel.frzEnd r2 (bD r2);exact hok _ U2 v F3 H1 hk (s1.trans (s2.trans s3)) r3 trivial
theorem MR(h:FS X ks st w):FS X ks st (IC i w):=λpn xe hp=>by refine PS.imp (h pn xe hp) λD Z H q=>?_;obtain⟨F,G,U,E,zN,hw,n,b,c,r,x⟩:=q;refine⟨F,G,U,_,zN,hw,λU' Z' F' H' hk kp sm rel'=>?_,b,c,r,x⟩;obtain⟨s,es,hk⟩:=cF hk;obtain⟨v,F2,_,s2,_,r2⟩:=rel'.give es;exact n _ Z' F2 H' hk kp (sm.trans s2) r2
end
section
variable{K:W.Frag}
theorem SF(h:CS d q=some o):∃t ks vs,d=.dct t ks vs/\bZ t q=true/\lk ks vs q=o:=by unfold CS at h;grind
def Lp:R2:=λx y H Q=>∃a v,x=.ref a/\nV H a y (some v)/\Q v H
theorem Tv(hu:X.A.units+1<cLine):xQ X Lp:=by
 intro value slice zL s Z H x y v u Q I rx ry h hs;obtain⟨a,r,rfl,g,q⟩:=h;cases rx;unfold subscriptTail;have hT:=Yh I g;have h2:=WM (E:=X.xe) hu I g ry (Q:=EP X zL Z Q) λw' s3 I3 rw'=>⟨r,H,I3,rw',q⟩
 refine qa ?_;rw[getitemInPython_of_ne hT.not_modules];refine qa (wpAny_specialOf hT PySem.F.slot_dict_getitem.lookup ?_);have fin:wpAny (model X.prog X.w) X.A (subscripted slice false (.ref a) u) (λr s₃=>wpAny (model X.prog X.w) X.A (letTemporaryGo value (.ref a) r>>=λ_=>pure r) (EP X zL Z Q) X.xe s₃) X.xe s:=by rw[hs];exact wpAny_operating (zm h2 (λr s₃ h₃=>qa (wpAny_letTemporaryGo (qb h₃))) λ_ _ x=>x)
 first
  |exact qb (qa fin)
  |exact qa (qb (qa fin))
  |exact qa fin
theorem Mi{vs:List α}{P:V->α->Prop}(hl:zM.length=vs.length)(h:∀(i:Nat) x y,(zM.map (·.2))[i]?=some x->vs[i]?=some y->P x y):
  (lk (zM.map λp=>aK p.1) vs (aK key)=none/\eT zM key=none)\/∃x y,eT zM key=some x/\lk (zM.map λp=>aK p.1) vs (aK key)=some y/\P x y:=
 EO aK (λ_ _=>AQ) zM vs key P hl h
theorem Mg{vs:List α}{key:List aR}{P:V->α->Prop}(hl:zM.length=vs.length)(h:∀(i:Nat) x y,(zM.map (·.2))[i]?=some x->vs[i]?=some y->P x y):
  (lk (zM.map λp=>D.tup (p.1.map aK)) vs (D.tup (key.map aK))=none/\eT zM key=none)\/∃x y,eT zM key=some x/\lk (zM.map λp=>D.tup (p.1.map aK)) vs (D.tup (key.map aK))=some y/\P x y:=
 EO (λl=>D.tup (l.map aK)) (λa b z=>Fb (D.tup.inj z)) zM vs key P hl h
theorem UY(r1:aS K H x d)(hk:bZ t d=true)
  (r2:(∃zM,t=false/\Rd H a (.dK zM)/\ks=zM.map (λp=>aK p.1)/\zJ K F (zM.map (·.2)) vs)\/∃zM,t=true/\Rd H a (.dT zM)/\ks=zM.map (λp=>D.tup (p.1.map aK))/\zJ K F (zM.map (·.2)) vs):
  ∃o,nV H a x o/\((lk ks vs d=none/\o=none)\/∃v e,o=some v/\lk ks vs d=some e/\aS K F v e):=by
 rcases r2 with⟨zM,rfl,e,k,r⟩|⟨zM,rfl,e,k,r⟩
 .obtain⟨key,rfl,rfl⟩:=Ej r1 hk;refine⟨_,.inl ⟨zM,key,e,rfl,rfl⟩,?_⟩;rw[k];rcases Mi (zM:=zM) (vs:=vs) (key:=key) (P:=λv e=>aS K F v e) (by have:=r.len;simpa using this) (λi x y h1 h2=>by obtain⟨x',hx',rx⟩:=r.get h2;rw[h1]at hx';cases hx';exact rx)with⟨h1,h2⟩|⟨v,e,h1,h2,h3⟩
  .exact .inl ⟨h1,h2⟩
  .exact .inr ⟨v,e,h1,h2,h3⟩
 .cases r1 with
  |tup e1 q=>
   obtain⟨keys,rfl,rfl⟩:=Ek q hk;refine⟨_,.inr ⟨zM,keys,_,e,rfl,e1,rfl⟩,?_⟩;rw[k];rcases Mg (zM:=zM) (vs:=vs) (key:=keys) (P:=λv e=>aS K F v e) (by have:=r.len;simpa using this) (λi x y h1 h2=>by obtain⟨x',hx',rx⟩:=r.get h2;rw[h1]at hx';cases hx';exact rx)with⟨h1,h2⟩|⟨v,e,h1,h2,h3⟩
   .exact .inl ⟨h1,h2⟩
   .exact .inr ⟨v,e,h1,h2,h3⟩
  |_=>cases hk
theorem bN.dct(r:bN K F H v (.dct t ks vs))(sm:zw F H):∃a,v=.ref a/\((∃zM,t=false/\Rd H a (.dK zM)/\ks=zM.map (λp=>aK p.1)/\zJ K F (zM.map (·.2)) vs)\/
  ∃zM,t=true/\Rd H a (.dT zM)/\ks=zM.map (λp=>D.tup (p.1.map aK))/\zJ K F (zM.map (·.2)) vs):=by
 rcases r with r|⟨a,xs,ds,e1,e2,e3,r⟩|⟨a,zM,ks',vs',e1,e2,e3,e4,r⟩|⟨a,zM,ks',vs',e1,e2,e3,e4,r⟩
 .cases r with
  |dK e k r=>exact⟨_,rfl,.inl ⟨_,rfl,Rd.mono sm e,k,r⟩⟩
  |dT e k r=>exact⟨_,rfl,.inr ⟨_,rfl,Rd.mono sm e,k,r⟩⟩
 .cases e2
 .cases e2;exact⟨a,e1,.inl ⟨zM,rfl,.inl e3,e4,r⟩⟩
 .cases e2;exact⟨a,e1,.inr ⟨zM,rfl,.inl e3,e4,r⟩⟩
end
theorem Jf(hu:X.A.units+1<cLine)(ha:FE X a wa)(hb:FE X b wb)(hs:iR b:=by intro _ _;rfl):FE X (.Subscript a b pos) (uM wa wb):=λpn xe hp=>by
 refine PE.imp (Jd (Tv (X:=wp X pn xe) hu) (ha pn xe hp) (hb pn xe hp) hs) λZ H Q q=>?_;refine(BV (k:=λx y U2 Q E=>zv (zH x U2) λdd=>zv (view y U2) λq=>zv (CS dd q) λo=>zv o λe=>Q (.v (.sh e)) U2) q).mono λv H1 h1=>h1.mono λu H2 h2=>?_;obtain⟨F,G,U,x,y,P,PX,zN,hl,rx,ry,hk,hok,hx⟩:=h2;obtain⟨dd,ed,hk1⟩:=cF hk;obtain⟨q,eq,hk2⟩:=cF hk1;obtain⟨o,eo,hk3⟩:=cF hk2;obtain⟨e,ee,hk4⟩:=cF hk3;have relx:Rel X.K (U++[zx x]) (Z++[some v]) F G H2:=Rel.mid (U:=U) (Z:=Z) (Rel.swap (U1:=[zx x]) (Z1:=[some v]) (U2:=[zx y]) (Z2:=[some u]) hl rfl zN) hl;have ru:=dH (U':=[]) (Z':=[]) (zN.mid hl) hl ry eq;obtain⟨F4,s4,re,r8⟩:=iB (U':=[]) (Z':=[]) relx hl rx ed;rw[qC,qC]at r8;obtain⟨t,ks,vs,rfl,hkey,hlk⟩:=SF eo;obtain⟨c,rfl,hh⟩:=re.dct r8.fr;obtain⟨o2,g,h⟩:=UY ru hkey hh;rcases h with⟨h1,rfl⟩|⟨w,e',rfl,h1,h2⟩
 .rw[hlk,ee]at h1;cases h1
 .rw[hlk,ee]at h1;cases h1;exact⟨c,w,rfl,g,hok _ U _ F4 H2 hk4 s4 (r8.push h2) trivial⟩
theorem Ww(hh:A.handled=none)(hl:s.heap.IsList l vs.toArray)(hi:IntsAre vs ns)(hne:0<ns.length)
  (h:∀h' M(t:Tok) tk,(∀b x,s.heap.get? b=some x->h'.get? b=some x)->M∈ns->(∀a,a∈ns->M<=a)->Q (.int M t) {s with heap:=h',toks:=tk}):wpAny (model prog w) A (call (.builtin "min") [.ref l]) Q E s:=by
 obtain⟨xs,e⟩:=hi.allInts.items;have hns:ns=xs.toList.map (·.1):=by rw[<-hi.numsOf,<-nums_intItems,<-e]
 have hsz:0<xs.size:=by grind
 rw[e]at hl;refine min_intList hh hl hsz λv h' tk hv hk=>?_;obtain⟨t,rfl⟩:=intItems_at hv;obtain⟨h1,h2⟩:=argBest_lt (numAt xs) (xs.size-1);refine h _ _ t tk hk ?_ λa ha=>?_
 .rw[hns,numAt_eq];exact getD_mem (by rw[qp,qY];lia)
 .rw[hns]at ha;obtain⟨j,hj,rfl⟩:=mem_getD ha;rw[qp,qY]at hj;rw[<-numAt_eq];exact h2 j (by lia)
section
variable{K:W.Frag}
def Ba(K:W.Frag):List V->Hp->VK->Prop:=λxs H Q=>∃(a:Addr)(ns:List Int),xs=[.ref a]/\cA K H a (ns.map V.int)/\0<ns.length/\∀M,M∈ns->(∀a,a∈ns->M<=a)->Q (.int M) H
theorem WN(hc:X.calm=true):bA X (.builtin "min") (Ba X.K):=by intro zL s Z H xs us Q I r h;obtain⟨a,ns,rfl,hq,hne,q⟩:=h;obtain⟨u,rfl,rx⟩:=vals1 r;cases rx;obtain⟨zP,rv,pl,hz⟩:=I.list hq;exact Ww (I.ok.hd hc) pl.isList (Ic rv) hne λh' M t tk kp h1 h2=>⟨.int _,H,I.kept kp,⟨_,rfl⟩,q M h1 h2⟩
theorem WD:dC K (Ba K) sJ:=by
 intro Z U F G H vs ds s Q zN re e hq;obtain⟨d,v,rfl,rfl⟩:=kE (λx y r=>by cases x<;>rfl) rfl re e;cases d with
 |lst l=>obtain⟨a,xs,rfl,h1,r1⟩:=re.1.lst zN.fr;obtain⟨ns,en,e⟩:=Option.bind_eq_some_iff.mp e;obtain⟨m,em,rfl⟩:=q8.mp e;obtain⟨rfl,_⟩:=NV r1 en;refine⟨a,ns,rfl,h1,by cases ns with|nil=>cases em|cons _ _=>simp,λM h2 h3=>?_⟩;obtain⟨h4,h5⟩:=List.min?_eq_some_iff.mp em;have:M=m:=Int.le_antisymm (h3 m h4) (h5 M h2);subst this;exact hq _ F H (zw.refl F) (zN.push (.int _))
 |_=>cases e
theorem Tt(hc:X.calm=true)(hg:Gl X "min")(hm:X.mg "min"=none)(hv:bootBuiltins "min"=some (.builtin "min"))(ha:FA X (e::es) wa)(he:starEach (e::es) X.env=(false,eval e X.env)::starEach es X.env:=by rfl)(hpl:(backTo pos (starEach es X.env)).any (·.1)=false:=by rfl):FE X (.Call (.Name "min" p) (e::es) [] pos) (wB sJ wa):=
 Eg (λpn xe=>WN (X:=wp X pn xe) hc) WD hg hm hv ha (by decide) (by decide) he hpl
end
theorem YA{n:Nat}(hh:A.handled=none)(hr:IsRange s.heap r a b c t u v)(hsmall:Builtin.Range.small a b c=true)
  (hn:Builtin.Range.rangeSize a b c=n)(zO:n<=2^24)
  (hQ:∀(h':Heap) tk zQ,(∀b o,s.heap.get? b=some o->Heap.get? h' b=some o)->s.heap.objs.size<=h'.objs.size->ItemsOf (λi v=>∃t,v=.int (a+i*c) t) zQ n->Q zQ.toList {s with heap:=h',toks:=tk}):wpAny (model prog w) A (collect (.ref r)) Q E s:=by
 unfold collect;refine qa (wpAny_runValue (codeAny_builtin F.entry_proto_collect ?_));rw[Around.under_plainId F.plain_proto_collect _];show wpAny _ A.in1 (newList []>>=λl=>again (.builtin "list.__iadd__" ⟨[l,.ref r],[]⟩)) _ _ s;refine qa (zh ?_);refine qb ⟨plainId_quiet F.plain_list_iadd _,codeAny_builtin F.entry_list_iadd ?_⟩;rw[Around.under_plainId F.plain_list_iadd _];show wpAny _ A.in1 (Builtin.List.listExtendWith (.ref s.heap.objs.size) (.ref r) (.ref s.heap.objs.size)) _ _ _;have hS₁:(s.heap.push {cls:=.type "list",data:=.seq ([]:List Value).toArray}).get? s.heap.objs.size=some {cls:=.type "list",data:=.seq #[]}:=qd _ rfl;refine wpAny_extend_range (R:=λr s'=>match r with
  |.ok (.ret v)=>wpAny (model prog w) A (match v with
   |.ref a=>do
    let __do_lift<-load a
    match __do_lift.data with
     |.seq xs epoch=>pure xs.toList
     |x=>unsupported "internal:collect"
   |x=>unsupported "internal:collect") Q E s'
  |.ok a=>False
  |.error e=>E e s') (s:={s with heap:=s.heap.push {cls:=.type "list",data:=.seq ([]:List Value).toArray}}) hh (qc _ hr) hsmall hn zO _ _ 0 hS₁ λh' tk acc' c' hk hS' hacc=>?_
 show wpAny _ A (load s.heap.objs.size>>=_) _ _ _;refine qa (wpAny_load hS' ?_);exact qb (hQ h' tk acc' (λb o e=>hk b o (ne_of_lt (qe e)) (qc _ e)) (le_of_lt (qe hS')) hacc)
theorem YF{n:Nat}(hh:A.handled=none)(hr:IsRange s.heap r a b c t u v)(hsmall:Builtin.Range.small a b c=true)
  (hn:Builtin.Range.rangeSize a b c=n)(zO:n<=2^24)
  (h:∀(h':Heap) tk zQ,(∀b o,s.heap.get? b=some o->Heap.get? h' b=some o)->s.heap.objs.size<=h'.objs.size->ItemsOf (λi v=>∃t,v=.int (a+i*c) t) zQ n->Q₁ (.ref h'.objs.size) {s with heap:=h'.push {cls:=.type "tuple",data:=.seq zQ},toks:=tk}):
  codeAny (model prog w) A (.call (.builtin "tuple.__new__") ⟨[.type "tuple",.ref r],[]⟩) (wants Q₁ E) s:=by
 refine codeAny_of_tree ?_;show wpAny _ A.in1 (do checkBuiltinCall "tuple.__new__" ⟨[.type "tuple",.ref r],[]⟩;again (.builtin "tuple.__new__" ⟨[.type "tuple",.ref r],[]⟩)) _ _ s;refine qa (zl (F.newCall_tuple_1 _) (qb ⟨plainId_quiet F.plain_tuple_new _,codeAny_builtin F.entry_tuple_new ?_⟩));rw[Around.under_plainId F.plain_tuple_new _];have hsub:=sub_tuple_self;have hinit:=init_tuple_lookup;have hmh:=madeHere_tuple;have hTI:s.TypeIs (.ref r) "range":=⟨_,hr,rfl⟩
 wp_walk using wpAny_typeOf hTI,YA (A:=A.in1) hh hr hsmall hn zO
 intro h' tk zQ hm hle hacc;show wpAny _ _ (Builtin.Tuple.tupleExact zQ.toList.toArray>>=λv=>ret v) _ _ _;unfold Builtin.Tuple.tupleExact;refine qa (zh ?_ (by show zQ.toList.toArray.size<=sizeLine;simp only[toArray_toList];rw[hacc.1,zj];exact zO));refine qb ?_;have e:zQ.toList.toArray=zQ:=by simp
 rw[e];exact h h' tk zQ hm hle hacc
theorem YG{n:Nat}(hh:A.handled=none)(hr:IsRange s.heap r a b c t u v)(hsmall:Builtin.Range.small a b c=true)
  (hn:Builtin.Range.rangeSize a b c=n)(zO:n<=2^24)
  (hQ:∀(h':Heap) tk zQ,(∀b o,s.heap.get? b=some o->Heap.get? h' b=some o)->s.heap.objs.size<=h'.objs.size->ItemsOf (λi v=>∃t,v=.int (a+i*c) t) zQ n->Q (.ref h'.objs.size) {s with heap:=h'.push {cls:=.type "tuple",data:=.seq zQ},toks:=tk}):
  wpAny (model prog w) A (call (.type "tuple") [.ref r]) Q E s:=by
 refine callType_codes (Q₁:=λobj s₁=>s₁.TypeIs obj "tuple"/\Q obj s₁) F.called_tuple (F.typeCall_tuple_1 _) F.entry_object_init
  (YF (A:=A.in1) hh hr hsmall hn zO λs' tk zQ hm hle hacc=>⟨⟨_,qd _ rfl,rfl⟩,hQ s' tk zQ hm hle hacc⟩) λobj s₁ h₁=>?_
 exact⟨h₁.1,F.args_object_init_2 obj _,object_init_meets F.called_tuple.init.lookup F.called_tuple.made (by decide) prog w A.in1 _ s₁ ⟨h₁.1,rfl,h₁.2⟩⟩
section
variable{K:W.Frag}
def Fy(ta:TA):TE:=λZ H Q=>ta Z H λvs H1=>∃j:Int,vs=[.int j]/\∀p,H1 p=none->Q (.ref p) (upd H1 p (.rng 0 j))
theorem WO(hg:Gl X "range")(hm:X.mg "range"=none)(ha:PA X [a] ta)(hs:starEach [a] X.env=[(false,eval a X.env)]):PE X (.Call (.Name "range" p) [a] [] pos) (Fy ta):=by
 intro zL s Z H Q I h;refine Call_ (Ee I hg hm boot_range (PyProof.Rows.callWith_type1 (cB (ha pos zL s Z H _ I h) λus s1 zq=>?_) hs rfl));obtain⟨vs,H1,I1,r1,q1⟩:=zq;obtain⟨j,e,q⟩:=q1;subst e;cases r1 with
 |cons r rr=>cases rr;obtain⟨t,rfl⟩:=r;refine call_range_1 ⟨.ref s1.heap.objs.size,_,I1.laid (a:=s1.heap.objs.size) (o:=.rng 0 j) (t':=s1.toks+1+1) (λ_ _ q=>qc _ q) (zd _) ?_,rfl,q _ (I1.hok.fresh (zd _))⟩;exact⟨_,_,_,qd _ rfl⟩
def iC(i:Int)(n:Nat):List V:=(List.range n).map λ(k:Nat)=>V.int (i+(k:Int))
def uZ(f:List V->HO):List V->Hp->VK->Prop:=λxs H Q=>∃(a:Addr)(i j:Int),xs=[.ref a]/\H a=some (.rng i j)/\(-(2^62)<=i/\i<2^62/\-(2^62)<=j/\j<2^62)/\j-i<=2^24/\∀p,H p=none->Q (.ref p) (upd H p (f (iC i (j-i).toNat)))
theorem UP(h:ItemsOf (λk v=>∃t,v=.int (i+k*1) t) zQ n):zI (iC i n) zQ.toList:=by
 unfold iC;refine Kq (by rw[qp,qG,qY,h.1]) λj y v h1 h2=>?_;obtain⟨t,rfl⟩:=h.2 j v (by rw[<-q9];exact h2);rw[qI]at h1;have hj:j<n:=by have:=(qh.mp h2).1;rw[qY,h.1]at this;exact this
 rw[getElem?_range hj]at h1;cases h1;exact⟨t,by simp⟩
theorem Yt(hc:X.calm=true):bA X (.type "tuple") (uZ .tup):=by
 intro zL s Z H xs us Q I r h;obtain⟨a,i,j,rfl,hH,⟨b1,b2,b3,b4⟩,hz,q⟩:=h;obtain⟨u,rfl,rx⟩:=vals1 r;cases rx;obtain⟨t,u,v,ho⟩:=I.hok a _ hH;have hn:Builtin.Range.rangeSize i j 1=((j-i).toNat:Nat):=by rw[rangeSize_one];split<;>lia
 refine YG (I.ok.hd hc) (show IsRange s.heap a i j 1 t u v from ho) (small_one b1 b2 b3 b4) hn (by lia) λh' tk zQ hk hle hacc=>?_;refine⟨.ref h'.objs.size,_,I.laid (t':=tk) (λb o e=>qc _ (hk b o e)) hle (show zK X.prog X.w _ (h'.push _) _ (.tup (iC i (j-i).toNat)) from⟨⟨?_,nU.new rfl (qd _ rfl)⟩,zQ.toList,UP hacc,?_⟩),rfl,q _ (I.hok.fresh hle)⟩
 .unfold iC;rw[qp,qG,zj];lia
 .simpa using IsTup.new h' zQ
theorem Ux:zJ K F (iC i n) (fromTo i n):=by
 unfold iC fromTo;generalize List.range n=l;induction l with
 |nil=>exact .nil
 |cons k l ih=>exact .cons (.int _) ih
theorem UZ{k:List D->Env->WQ->Prop}(hcall:∀pn xe,bA (wp X pn xe) (.type T) (uZ f))(hg:Gl X x)(hm:X.mg x=none)(hv:bootBuiltins x=some (.type T))(hgr:Gl X "range")(hmr:X.mg "range"=none)(ha:FE X a wa)
  (hk:∀{U:Env}{Z:St}{F G H:Hp}{l:List D}{xs:List V}{P:WQ}{q:Addr},Rel X.K U Z F G H->zJ X.K F xs l->k l U P->H q=none->∃r F',zw F F'/\P r U/\RV Z (.ref q) r/\Rel X.K (U++[zx r]) (Z++[some (.ref q)]) F' G (upd H q (f xs)))
  (hs:starEach [a] X.env=[(false,eval a X.env)])(he:starEach [.Call (.Name "range" p1) [a] [] pos1] X.env=[(false,eval (.Call (.Name "range" p1) [a] [] pos1) X.env)])(hn:x≠"__name__")(hdb:(x==("__debug__":Str))=false):
  FE X (.Call (.Name x p) [.Call (.Name "range" p1) [a] [] pos1] [] pos) (λU Q E=>aZ wa U (λl U1=>l.length<=big/\k l U1 Q) E):=λpn xe hp=>by
 refine PE.imp (Pf (X:=wp X pn xe) (hcall pn xe) hg hm hv (Nw (WO (X:=wp X pn xe) hgr hmr (aB ha aG hs pn xe hp) hs) Nt (by rw[he];rfl)) hn hdb (by rw[he];rfl) (by rfl)) λZ H Q q=>?_;obtain⟨F,G,U,P,PX,zN,hw,hok,hx⟩:=q;refine⟨F,G,U,λrs U1=>match rs with|[r]=>(match view r U1 with|some (.int j)=>(-big<=j/\j<=big)/\(fromTo 0 j.toNat).length<=big/\k (fromTo 0 j.toNat) U1 P|_=>False)|_=>False,PX,zN,hw,λrs U1 vs F1 H1 hk1 s1 r1 hl rv=>?_,hx⟩;match rs,vs,rv,r1,hk1 with
 |[r],[v],rv,r1,hk1=>
  dsimp only at hk1;split at hk1
  .rename_i j ej;have rp:=dH (U':=[]) (Z':=[]) r1 hl rv.1 ej;cases rp;obtain⟨⟨h1,h2⟩,_,hk1⟩:=hk1;have eb:(big:Int)=1000000:=rfl;rw[eb]at h1 h2;have r2:Rel X.K U1 Z F1 G H1:=(show Rel X.K (U1++[zx r]) (Z++[some (.int j)]) F1 G H1 from r1).drop hl;refine⟨j,rfl,λp hp=>?_⟩;have r3:=r2.newF (o:=.rng 0 j) hp;obtain⟨f0,_,_⟩:=r2.free hp;refine⟨p,0,j,rfl,kJ,⟨by lia,by lia,by lia,by lia⟩,by lia,λq hq=>?_⟩;rw[Int.sub_zero];obtain⟨r,F',s',hP,rv',r4⟩:=hk (xs:=iC 0 j.toNat) r3 Ux hk1 hq;exact hok r U1 _ F' _ hP (s1.trans ((zw.upd f0).trans s')) r4 rv'
  .exact hk1.elim
 |[],_,_,_,hk=>exact hk.elim
 |[_],[],rv,_,_=>exact rv.elim
 |[_],_::_::_,rv,_,_=>exact rv.2.elim
 |_::_::_,_,_,_,hk=>exact hk.elim
theorem UG(hc:X.calm=true)(hg:Gl X "tuple")(hm:X.mg "tuple"=none)(hv:bootBuiltins "tuple"=some (.type "tuple"))(hgr:Gl X "range")(hmr:X.mg "range"=none)(ha:FE X a wa)
  (hs:starEach [a] X.env=[(false,eval a X.env)]:=by rfl)(he:starEach [.Call (.Name "range" p1) [a] [] pos1] X.env=[(false,eval (.Call (.Name "range" p1) [a] [] pos1) X.env)]:=by rfl):
  FE X (.Call (.Name "tuple" p) [.Call (.Name "range" p1) [a] [] pos1] [] pos) (uL (aZ wa)):=
 UZ (f:=.tup) (k:=λl U1 Q=>Q (.v (.sh (.tup l))) U1) (λpn xe=>Yt (X:=wp X pn xe) hc) hg hm hv hgr hmr ha (λzN rx hP hq=>by obtain⟨f0,_,_⟩:=zN.free hq;exact⟨_,_,zw.upd f0,hP,trivial,(zN.newF (o:=.tup _) hq).push (.tup kJ (rx.mono (zw.upd f0)))⟩) hs he (by decide) (by decide)
end
theorem Jr(h1:-1000000000000<i)(h2:i<1000000000000):i.natAbs.log2<40:=by
 have:i.natAbs<2^40:=by lia
 by_cases h0:i.natAbs=0
 .rw[h0];decide
 .exact(Nat.log2_lt h0).mpr this
mutual
theorem Kk:∀d:D,vL d=true->mY d=true
 |.non,_=>rfl
 |.bl _,_=>rfl
 |.int i,h=>by have h':(decide (-1000000000000<i)&&decide (i<1000000000000))=true:=h;rw[and_eq_true,qW,qW]at h';have:=Jr h'.1 h'.2;show decide (i.natAbs.log2<1920)=true;rw[qW];lia
 |.str _,_=>rfl
 |.tup l,h=>JW l h
 |.lst l,h=>JW l h
 |.dct _ _ _,h=>by cases h
 |.set _,h=>by cases h
 |.exc _ _ _,h=>by cases h
theorem JW:∀l:List D,gM l=true->eF l=true
 |[],_=>rfl
 |d::r,h=>by rw[gM,and_eq_true]at h;rw[eF,Kk d h.1,JW r h.2];rfl
end
mutual
theorem Iz:∀d:D,vL d=true->(dU d).leavesShort 13=true
 |.non,_=>rfl
 |.bl _,_=>rfl
 |.int i,h=>by have h':(decide (-1000000000000<i)&&decide (i<1000000000000))=true:=h;rw[and_eq_true,qW,qW]at h';have:=int_text_length_le10 (a:=i) (k:=12) (by decide) (by lia);simp only[dU,PyData.leavesShort,qW];show(Str.ofString (toString i)).length<=13;rw[PySem.ofString_length];exact this
 |.str l,h=>by have h':(l.all λc=>decide (c<1114112))=true:=h;simp only[dU,PyData.leavesShort,qL,qW]at h'⊢;intro c hc;have:=h' c (by simpa using hc);lia
 |.tup l,h=>by simp only[dU,PyData.leavesShort];exact Kn l h
 |.lst l,h=>by simp only[dU,PyData.leavesShort];exact Kn l h
 |.dct _ _ _,h=>by cases h
 |.set _,h=>by cases h
 |.exc _ _ _,h=>by cases h
theorem Kn:∀l:List D,gM l=true->PyData.leavesShortAll 13 (dM l)=true
 |[],_=>rfl
 |d::r,h=>by rw[gM,and_eq_true]at h;simp only[dM,PyData.leavesShortAll,and_eq_true];exact⟨Iz d h.1,Kn r h.2⟩
end
mutual
theorem Iy:∀d:D,vL d=true->(dU d).weight<=By d
 |.non,_=>zd _
 |.bl _,_=>zd _
 |.int i,h=>by have h':(decide (-1000000000000<i)&&decide (i<1000000000000))=true:=h;rw[and_eq_true,qW,qW]at h';have:=Jr h'.1 h'.2;simp only[dU,PyData.weight,By];split<;>lia
 |.str l,h=>by simp[dU,PyData.weight,By]
 |.tup l,h=>by simp only[dU,PyData.weight,By];exact Kp l h
 |.lst l,h=>by simp only[dU,PyData.weight,By];exact Kp l h
 |.dct _ _ _,h=>by cases h
 |.set _,h=>by cases h
 |.exc _ _ _,h=>by cases h
theorem Kp:∀l:List D,gM l=true->PyData.weightAll (dM l)<=tZ l
 |[],_=>zd _
 |d::r,h=>by rw[gM,and_eq_true]at h;have h1:=Iy d h.1;have h2:=Kp r h.2;simp only[dM,PyData.weightAll,tZ];lia
end
theorem bN.view{K:W.Frag}(h:bN K F H v d)(sm:zw F H):aS K H v d:=by
 rcases h with h|⟨a,xs,ds,rfl,rfl,e,r⟩|⟨a,zM,ks,vs,rfl,rfl,e,k,r⟩|⟨a,zM,ks,vs,rfl,rfl,e,k,r⟩
 .exact h.mono sm
 .exact .lst (cA.of e) (r.mono sm)
 .exact .dK (.of e) k (r.mono sm)
 .exact .dT (.of e) k (r.mono sm)
def ID:D->Str
 |.non=>"None"
 |.bl b=>if b then "True" else "False"
 |.int i=>toString i
 |d=>(dU d).shown
def oN(K:W.Frag):List V->Hp->VK->Prop:=λxs H Q=>∃v d,xs=[v]/\aS K H v d/\eG d=true/\Q (.str (ID d)) H
theorem PH(hr:cE k X.A):bA X (.builtin "repr") (oN X.K):=by
 intro zL s Z H xs us Q I r h;obtain⟨v,d,rfl,rp,hok,q⟩:=h;unfold eG at hok;rw[and_eq_true,and_eq_true,qW,qW]at hok;obtain⟨hs,hd,hw⟩:=hok;obtain⟨u,rfl,rx⟩:=vals1 r;have seq:∀a,v=.ref a->GJ d=true->wpAny (model X.prog X.w) X.A (call (.builtin "repr") [u]) (EP X zL Z Q) X.xe s:=λa e hq=>by
  subst e;cases rx;obtain⟨as,rd⟩:=UJ I rp rfl (Kk d hs);have h1:=On d;have h2:=hr.units;have etx:ID d=(dU d).shown:=by cases d<;>first|rfl|cases hq
  rw[etx]at q;refine repr_of_reads' (h₀:=s.heap) rd (Ql d (Kk d hs)) (λh=>by rw[Ph]at h;cases h) hr.gd (by lia) (λ_ _ z=>z) (λh' u tk hk=>⟨.str _,H,I.kept hk,⟨u,rfl⟩,q⟩) ?_;have hw2:=Iy d hs;exact PyData.shown_fits (B:=13) (by decide) (by decide) (Iz d hs) (by lia)
 cases rp with
 |non=>cases rx;exact P.repr_of_none ⟨.str _,H,I.kept λ_ _ z=>z,⟨_,rfl⟩,q⟩
 |bl b=>cases rx;exact P.repr_of_bool ⟨.str _,H,I.kept λ_ _ z=>z,⟨_,rfl⟩,q⟩
 |int i=>obtain⟨t,rfl⟩:=rx;have h':(decide (-1000000000000<i)&&decide (i<1000000000000))=true:=hs;rw[and_eq_true,qW,qW]at h';have:=Jr h'.1 h'.2;exact P.repr_of_int (by lia) ⟨.str _,H,I.kept λ_ _ z=>z,⟨_,rfl⟩,q⟩
 |@str x l e z=>
  obtain⟨t,rfl⟩:=rx;have ex:x=⟨l.toArray⟩:=by obtain⟨⟨a⟩⟩:=x;have e':a=l:=e;rw[e']
  subst ex;have hw2:=Iy (.str l) hs;exact P.repr_of_str ⟨.str _,H,I.kept λ_ _ z=>z,⟨_,rfl⟩,q⟩ (PyData.shown_fits (d:=dU (.str l)) (B:=13) (by decide) (by decide) (Iz _ hs) (by lia))
 |tup e r=>exact seq _ rfl rfl
 |lst e r=>exact seq _ rfl rfl
 |dK e k r=>cases hs
 |dT e k r=>cases hs
 |st e r=>cases hs
 |exc e k=>cases hs
theorem Ts(hs:eG d=true):(ID d).cps.toList.length<=16777216:=by
 unfold eG at hs;rw[and_eq_true,and_eq_true,qW,qW]at hs;obtain⟨hs,hd,hw⟩:=hs;have hw2:=Iy d hs;have h:=PyData.shown_fits (d:=dU d) (B:=13) (by decide) (by decide) (Iz _ hs) (by lia);have e:ID d=(dU d).shown:=by
  cases d with
  |non=>rfl
  |bl b=>rfl
  |int i=>rfl
  |str l=>rfl
  |tup l=>rfl
  |lst l=>rfl
  |_=>cases hs
 rw[e,qY];exact h
theorem Xg{a b:Expr}{wa wb:WE}{res:Bool}{X':Cx}{Z:St}{H:Hp}{Q:Bool->Hp->Prop}{C:V->V->Hp->Prop}(hC:∀(z:Str) H2,z.cps.toList.length<=16777216->Q res H2->C (.str z) (.str z) H2)(q:mB X' (iO res wa wb) Z H Q):
  FH (oN X'.K) (yW X' (zr wa zt)) Z H λv H1=>FH (oN X'.K) (yW X' (zr wb zt)) Z H1 λu H2=>C v u H2:=by
 obtain⟨F,G,U,P,PX,zN,hw,hok,hx⟩:=q;refine⟨F,G,U,λrs U1=>match rs with|[r]=>(zv (zH r U1) λp=>eG p=true/\wb U1 (λy U2=>zv (zH y U2) λq=>p=q/\P res U2) PX)|_=>False,PX,zN,hw,λrs U1 vs F1 H1 hk s1 r1 hl rv=>?_,hx⟩;match rs,vs,rv,r1,hk with
 |[r],[v],rv,r1,hk=>
  dsimp only at hk;obtain⟨d,ed,hsh,hk⟩:=cF hk;obtain⟨F2,s2,re,r2⟩:=iB (U':=[]) (Z':=[]) r1 hl rv.1 ed;rw[qC,qC]at r2;refine⟨v,d,rfl,re.view r2.fr,hsh,F2,G,U1,λrs U2=>match rs with|[r]=>(zv (zH r U2) λq=>d=q/\P res U2)|_=>False,PX,r2,hk,λrs U2 us F3 H3 hk2 s3 r3 hl3 rv3=>?_,hx.grow (s1.trans s2)⟩;match rs,us,rv3,r3,hk2 with
  |[r],[u],rv3,r3,hk2=>dsimp only at hk2;obtain⟨d2,ed2,e12,hk2⟩:=cF hk2;subst e12;obtain⟨F4,s4,re4,r4⟩:=iB (U':=[]) (Z':=[]) r3 hl3 rv3.1 ed2;rw[qC,qC]at r4;exact⟨u,d,rfl,re4.view r4.fr,hsh,hC _ _ (Ts hsh) (hok _ U2 F4 H3 hk2 (s1.trans (s2.trans (s3.trans s4))) r4)⟩
  |[],_,_,_,hk=>exact hk.elim
  |[_],[],rv,_,_=>exact rv.elim
  |[_],_::_::_,rv,_,_=>exact rv.2.elim
  |_::_::_,_,_,_,hk=>exact hk.elim
 |[],_,_,_,hk=>exact hk.elim
 |[_],[],rv,_,_=>exact rv.elim
 |[_],_::_::_,rv,_,_=>exact rv.2.elim
 |_::_::_,_,_,_,hk=>exact hk.elim
theorem OO:bootBuiltins "repr"=some (.builtin "repr"):=by decide+kernel
theorem XD(hr:cE k X.A)(hg:Gl X "repr")(hm:X.mg "repr"=none)(ha:FE X a wa)(hb:FE X b wb)(hs:starEach [a] X.env=[(false,eval a X.env)]:=by rfl)(hs2:starEach [b] X.env=[(false,eval b X.env)]:=by rfl):
  FE X (.Compare (.Call (.Name "repr" p) [a] [] pos1) [.Eq] [.Call (.Name "repr" p2) [b] [] pos2] pos) (lX (iO true wa wb)):=λpn xe hp=>by
 refine PE.imp (Nu (tO (X:=wp X pn xe) (tQ hr)) (JJ (X:=wp X pn xe) (PH (X:=wp X pn xe) hr) hg hm OO (aB ha aG hs pn xe hp) (by decide) (by decide) hs (by rfl)) (JJ (X:=wp X pn xe) (PH (X:=wp X pn xe) hr) hg hm OO (aB hb aG hs2 pn xe hp) (by decide) (by decide) hs2 (by rfl)) (aJ _)) λZ H Q q=>?_;obtain⟨F,G,U,P,PX,zN,hw,hok,hx⟩:=q;refine Xg (a:=a) (b:=b) (C:=λv u H2=>Cy X.K v u H2 λz H3=>Q z H3) (Q:=λc H3=>Q (.bl c) H3) (λz H2 hz hq=>?_) ⟨F,G,U,λc U1=>P (.v (.sh (.bl c))) U1,PX,zN,hw,λc U' F' H' hk s r=>hok _ U' (.bl c) F' H' hk s (r.push (.bl c)) trivial,hx⟩;exact⟨.str z.cps.toList,.str z.cps.toList,.str rfl hz,.str rfl hz,rfl,zero_le _,by simpa using hq⟩
section
variable{K:W.Frag}
theorem Pn(a:Array Nat):∀(n:Nat)(b:Array Nat),((List.replicate n a).foldl (·++·) b).toList=b.toList++(List.replicate n a.toList).flatten
 |0,b=>by simp
 |n+1,b=>by rw[List.replicate_succ,foldl_cons,Pn a n,List.replicate_succ,List.flatten_cons,toList_append,qq]
theorem Sg(h0:0<=n):(Txt.mul x n).cps.toList=(List.replicate n.toNat x.cps.toList).flatten:=by
 unfold Txt.mul;by_cases h1:n<1
 .rw[za h1,show n=0 by lia];rfl
 .rw[zc h1];by_cases h2:(n==1||x.length==0)=true
  .rw[za h2];rw[or_eq_true,beq_iff_eq,beq_iff_eq]at h2;rcases h2 with h2|h2
   .subst h2;simp
   .have:x.cps.toList=[]:=by have e:x.cps.size=0:=h2;rw[<-List.length_eq_zero_iff,qY];exact e
    rw[this];simp
  .rw[zc h2];show((List.replicate n.toNat x.cps).foldl (·++·) #[]).toList=_;rw[Pn];simp
def AZ:R2:=λx y H Q=>∃z n,x=.str z/\y=.int n/\0<=n/\n<=1000/\z.length<=500/\Q (.str (Txt.mul z n)) H
theorem TF:OpR X (binaryOp .Mult) AZ:=by
 intro zL s Z H x y v u Q I rx ry h;obtain⟨z,n,rfl,rfl,h0,h1,hz,q⟩:=h;obtain⟨t,rfl⟩:=rx;obtain⟨t',rfl⟩:=ry;refine SB.mul ⟨?_,λh _=>?_,λh _=>?_⟩ λt2 k=>⟨.str _,H,I.kept λ_ _ z=>z,⟨_,rfl⟩,q⟩
 .grind
 .have h3:(9223372036854775807:Int)/1000<=(2^63-1)/n:=by rw[Int.le_ediv_iff_mul_le (by lia)];grind
  grind
 .have h4:z.length*n.toNat<=500*1000:=Nat.mul_le_mul hz (by lia);simp only[Builtin.Str.tooLong,decide_eq_false_iff_not,zj];lia
theorem Wl:mL K (λx y H Q=>(rI xF λi j=>.int (i*j)) x y H Q\/AZ x y H Q) eA:=by
 intro Z U F G H x y p q s Q zN rx ry e hq;unfold eA at e;split at e
 .rename_i l n;split at e
  .rename_i hc;cases e;obtain⟨h0,h1,hz⟩:=hc;obtain⟨z,rfl,e1,_⟩:=rx.str;have ey:y=.int n:=by
    rcases ry with ry|⟨_,_,_,_,e,_⟩|⟨_,_,_,_,_,e,_⟩|⟨_,_,_,_,_,e,_⟩
    .cases ry;rfl
    .cases e
    .cases e
    .cases e
   subst ey;have hzl:z.length=l.length:=by rw[<-e1,qY];rfl
   refine .inr ⟨z,n,rfl,rfl,h0,h1,by lia,?_⟩;refine hq _ F H (zw.refl F) (zN.push (.str ?_ ?_))
   .rw[Sg h0,e1]
   .have h4:n.toNat*l.length<=1000*500:=Nat.mul_le_mul (by lia) hz;have e5:∀m,((List.replicate m l).flatten).length=m*l.length:=λm=>by simp[List.length_flatten]
    rw[e5];lia
  .cases e
 .exact .inl (UO Z U F G H x y _ _ s Q zN rx ry e hq)
theorem xZ(ha:FE X a wa)(hb:FE X b wb):FE X (.BinOp a .Mult b pos) (zC eA wa wb):=Ea (λ_ _=>OpR.or Rr TF) Wl ha hb
end
end FL
namespace FL
def KF(s0:S)(n k:Nat)(it:WI)(g:WG)(c:WT)(b:WB):WE:=λU Q E=>it U (λl U1=>aP g c b l (U1++some s0::List.replicate k none) (λU2=>zv (slot U2 n) λs=>Q (.v s) (U2.take n)) NX) E
end FL
namespace FL
open PySem PySem.Spec PyProof.Rows L2
def dO(K:W.Frag)(f:Addr):FuncData:=match K.lookup f with
 |some ⟨_,_,.func d,_⟩=>d
 |_=>default
theorem MP{K:W.Frag}(l:K.lookup f=some ⟨oc,od,.func d,sl⟩):dO K f=d:=by unfold dO;rw[l]
inductive Lk(K:W.Frag)(n:Str)(st:Stmt)(f:Addr):Prop
 |mk {oc kV dc pm cd ct:Value} {od an:Option Addr} {sl:Array (Option Value)} (a:W.nsIn K mainGlobals n=some (some (.ref f))) (l:K.lookup f=some ⟨oc,od,.func (W.fnOf n n (fQ st) (cV st) (aA st) .none kV dc pm an cd ct),sl⟩)
  (c:W.codeIn K cd n=true) (k:W.keepIn K (.ref f)=true):Lk K n st f
structure Tx(K:W.Frag)(mg:Str->Option Value)(f:Addr)(n:Str)(st:Stmt)(ps:List Str):Prop where
 F:DY K n n st f (dO K f)
 m:mg n=some (.ref f)
 k:W.keepIn K (.ref f)=true
 b:Binds K (dO K f) ps []
def Rb(n:Str)(st:Stmt)(ps:List Str):Prop:=∀(kV doc pm:Value)(an:Option Addr)(cdv ct:Value)(us:List Value),us.length=ps.length->bindArgs (W.fnOf n n (fQ st) (cV st) (aA st) .none kV doc pm an cdv ct) ⟨us,[]⟩=pure (ps.zip us)
section
variable{K:W.Frag}{st:Stmt}
theorem Lk.mm(t:Lk K n st f)(X:K.In h)(G:h.Ns mainGlobals mg):mg n=some (.ref f):=by obtain⟨a,l,c,k⟩:=t;exact W.mg_of X G a
theorem Lk.tx(t:Lk K n st f)(X:K.In h)(G:h.Ns mainGlobals mg)(b:Rb n st ps:=by intro _ _ _ _ _ _ us hl;first|(obtain⟨_,rfl⟩:=uP (l:=us) hl;rfl)|(obtain⟨_,_,rfl⟩:=AU (l:=us) hl;rfl)|(obtain⟨_,_,_,rfl⟩:=AS (l:=us) hl;rfl)|(obtain⟨_,_,_,_,rfl⟩:=Ft (l:=us) hl;rfl)|(obtain⟨_,_,_,_,_,rfl⟩:=vlen5 (l:=us) hl;rfl)):Tx K mg f n st ps:=by
 obtain⟨a,l,c,k⟩:=t;have e:=MP l;have F:=Rz l c k;refine⟨?_,W.mg_of X G a,k,?_⟩
 .rw[e];exact F
 .rw[e];exact F.binds b
theorem Lk.bt(t:Lk K n st f)(s:Shared)(v:Value)(b:Rb n st [x]:=by intro _ _ _ _ _ _ us hl;obtain⟨_,rfl⟩:=uP (l:=us) hl;rfl):BindsTo s (dO K f) ⟨[v],[]⟩ [(x,v)]:=by obtain⟨a,l,c,k⟩:=t;have e:=MP l;rw[e];exact .of_eq (b _ _ _ _ _ _ [v] rfl)
end
theorem jJ{N P:List Str}{sc:Scope}(a:sc.kind=.function:=by rfl)(b:sc.isCoroutine=false:=by rfl)(c:sc.isGenerator=false:=by rfl)(d:N.Nodup:=by decide+kernel)(e:N.take P.length=P:=by rfl)(f:∀x∈P,sc.names.lookup x=some .local\/sc.names.lookup x=some .cell:=by decide+kernel)(g:∀y∈sc.names,y.2≠.free:=by decide+kernel):aF N P sc:=⟨a,b,c,d,e,f,g⟩
abbrev kI(P:Program)(w:World)(K:W.Frag)(mg:Str->Option Value)(base:Heap)(af:Nat->Addr)(k i:Nat)(ps:List Str)(sp:Sp):Prop:=iL P w K mg base (nW P w) k (af i) (dO K (af i)) ps sp
theorem jW{K:W.Frag}{st:Stmt}(t:Tx K mg f x st ps)(Sc:aF N ps (aA st))
  (hb:∀(cdv:Value)(A:Around)(outer:List PySem.Env)(s:Shared)(H:Hp)(E:XK),cE k (A.deeper (envOfC x (aA st) s.heap.objs.size f cdv))->xR (iI (nW P w) P w K mg base N x (aA st) f cdv A outer s H E) ks (cV st) wb)(hn:ps.length=n:=by rfl)(hm:N.length=m:=by rfl):
  iL P w K mg base (nW P w) (k+1) f (dO K f) ps (fS K (iA n m ks wb) n):=Mx t.F Sc hn hm hb
section
theorem fw(i:Nat)(hN:X.N[i]?=some x:=by rfl)(hv:GY X.env.scope x:=by first|exact Or.inl rfl|exact Or.inr (Or.inl rfl)|exact Or.inr (Or.inr rfl))(hd:(x==("__debug__":Str))=false:=by decide)
  (hcd:(x==("__classdict__":Str))=false:=by decide):FE X (.Name x pos) (zp i):=Su hN hv hd hcd
theorem cG(i:Nat)(hnd:X.N.Nodup)(hk:i∉ks:=by decide)(hi:X.N[i]?=some x:=by rfl)(hx:Loc X.env.scope x:=by first|exact Or.inl rfl|exact Or.inr rfl)(hf:X.fn x=true\/X.env.scope.names.lookup x=some .local:=by exact Or.inl rfl):FG X ks (.Name x pos) (FL.zu i):=Oj hk (λj hj=>HS hnd hj hi) hi hx hf
theorem kL(i:Nat)(hk:i∉ks:=by decide)(hu:(X.N.zipIdx.all λp=>!(p.1==x)||p.2==i)=true:=by kernel_rfl)(hi:X.N[i]?=some x:=by rfl)(hx:Loc X.env.scope x:=by first|exact Or.inl rfl|exact Or.inr rfl)(hf:X.fn x=true\/X.env.scope.names.lookup x=some .local:=by first|exact Or.inr rfl|exact Or.inl rfl):FG X ks (.Name x pos) (FL.zu i):=Oj hk (uq hu) hi hx hf
variable{st:Stmt}
theorem dE(ms:List Bool)(t:Tx X.K X.mg f x st ps)(Fk:iL X.prog X.w X.K X.mg X.base (nW X.prog X.w) k f (dO X.K f) ps (fS X.K wf n))(hr:cE j X.A)(ha:FA X (e::es) wa)(hj:k<=j:=by decide)(hg:Gl X x:=by rfl)(zO:∀ss P PX,wf ss P PX->ss.length=n:=by exact λ_ _ _ h=>h.1)
  (hdb:(x==("__debug__":Str))=false:=by decide)(he:starEach (e::es) X.env=(false,eval e X.env)::starEach es X.env:=by rfl)(hpl:(backTo pos (starEach es X.env)).any (·.1)=false:=by rfl):
  FE X (.Call (.Name x p) (e::es) [] pos) (zE wf ms wa):=Ub Fk (hr.mono hj) hg t.m t.k t.b ha zO hdb he hpl
end
end FL
namespace FL
def cX(l:List D):Bool:=l.all bV||l.all (bZ true)
open Classical in
def dB(l:List D)(d:D):List D:=if d∈l then l else l++[d]
def bE(l:List D):List D:=l.foldl dB []
def wZ(n:Nat)(e:WE):WB:=λU Q E=>e U (λr U1=>zv (give r U1) λp=>match slot p.2 n with
 |some (.set l)=>cX (p.1.toD::l)=true/\l.length<=150/\Q (p.2.set n (some (.set (dB l p.1.toD))))
 |_=>False) E
def newS(l:List D):Option S:=if cX l=true/\l.length<=150 then some (.set (bE l))else none
def AE:List D->Option S
 |[.lst l]=>newS l
 |[.tup l]=>newS l
 |_=>none
def gG:List Bool->List D->Prop
 |[],[]=>True
 |false::sh,.int _::r=>gG sh r
 |true::sh,.str _::r=>gG sh r
 |_,_=>False
def lK(sh:List Bool):D->Prop
 |.tup l=>gG sh l
 |_=>False
def Kd:D->D->Prop:=λa b=>(∃i j,a=.int i/\b=.int j)\/∃x y,a=.str x/\b=.str y
theorem HM(i j:Int):cR (.int i) (.int j)=if i<j then .lt else if j<i then .gt else .eq:=by rw[cR]
theorem EX(x y:List Nat):cR (.str x) (.str y)=if x<y then .lt else if y<x then .gt else .eq:=by rw[cR]
theorem Pc(x y:List Nat):x<y\/y<x\/x=y:=by grind
theorem Ip(h:Kd a b):(cR a b=.lt/\cR b a=.gt)\/(cR a b=.gt/\cR b a=.lt)\/(a=b/\cR a b=.eq):=by
 rcases h with⟨i,j,rfl,rfl⟩|⟨x,y,rfl,rfl⟩
 .grind[HM]
 .rw[EX,EX];grind
theorem Rx(h:Kd a b)(h':Kd b c)(e:cR a b=.lt)(e':cR b c=.lt):cR a c=.lt:=by
 rcases h with⟨i,j,rfl,rfl⟩|⟨x,y,rfl,rfl⟩
 .rcases h' with⟨j',k,h1,rfl⟩|⟨x,y,h1,rfl⟩
  .grind[HM,Int.lt_trans]
  .cases h1
 .rcases h' with⟨j',k,h1,rfl⟩|⟨y',z,h1,rfl⟩
  .cases h1
  grind[EX,List.lt_trans]
theorem HZ(h:gG sh (a::l))(h':gG sh (b::m)):Kd a b/\∃sh',gG sh' l/\gG sh' m:=by
 cases sh with
 |nil=>exact h.elim
 |cons t sh=>
  cases t
  .cases a<;>first|exact h.elim|skip
   cases b<;>first|exact h'.elim|skip
   exact⟨.inl ⟨_,_,rfl,rfl⟩,sh,h,h'⟩
  .cases a<;>first|exact h.elim|skip
   cases b<;>first|exact h'.elim|skip
   exact⟨.inr ⟨_,_,rfl,rfl⟩,sh,h,h'⟩
theorem Bv(h:gG sh [])(h':gG sh m):m=[]:=by
 cases sh with
 |nil=>cases m with
  |nil=>rfl
  |cons _ _=>exact h'.elim
 |cons t _=>cases t<;>exact h.elim
theorem Wa{sh sh':List Bool}{l m:List D}(h:gG sh l)(h':gG sh' l):sh=sh':=by
 induction l generalizing sh sh' with
 |nil=>
  cases sh with
  |nil=>cases sh' with
   |nil=>rfl
   |cons t _=>cases t<;>exact h'.elim
  |cons t _=>cases t<;>exact h.elim
 |cons a l ih=>
  cases sh with
  |nil=>exact h.elim
  |cons t sh=>cases sh' with
   |nil=>exact h'.elim
   |cons t' sh'=>cases t<;>cases t'<;>cases a<;>first|exact h.elim|exact h'.elim|rw[ih h h']
theorem Es(a b:D)(l m:List D):aL (a::l) (b::m)=match cR a b with|.eq=>aL l m|o=>o:=by rw[aL];first|done|(cases cR a b<;>rfl)
theorem Bx:∀{sh:List Bool}{l m:List D},gG sh l->gG sh m->(aL l m=.lt/\aL m l=.gt)\/(aL l m=.gt/\aL m l=.lt)\/(l=m/\aL l m=.eq)
 |sh,[],m,h,h'=>by rw[Bv h h'];exact .inr (.inr ⟨rfl,by rw[aL]⟩)
 |sh,a::l,[],h,h'=>by cases Bv h' h
 |sh,a::l,b::m,h,h'=>by
  obtain⟨k,sh',k1,k2⟩:=HZ h h';rw[Es,Es];rcases Ip k with⟨e1,e2⟩|⟨e1,e2⟩|⟨rfl,e1⟩
  .rw[e1,e2];exact .inl ⟨rfl,rfl⟩
  .rw[e1,e2];exact .inr (.inl ⟨rfl,rfl⟩)
  .rw[e1];rcases Bx k1 k2 with⟨f1,f2⟩|⟨f1,f2⟩|⟨rfl,f1⟩
   .exact .inl ⟨f1,f2⟩
   .exact .inr (.inl ⟨f1,f2⟩)
   .exact .inr (.inr ⟨rfl,f1⟩)
theorem NP:∀{sh:List Bool}{l m n:List D},gG sh l->gG sh m->gG sh n->aL l m=.lt->aL m n=.lt->aL l n=.lt
 |sh,[],m,n,h,h',h'',e,_=>by rw[Bv h h',aL]at e;cases e
 |sh,a::l,[],n,h,h',h'',e,_=>by cases Bv h' h
 |sh,a::l,b::m,[],h,h',h'',e,_=>by cases Bv h'' h
 |sh,a::l,b::m,c::n,h,h',h'',e,e'=>by
  obtain⟨k,sh1,k1,k2⟩:=HZ h h';obtain⟨k',sh2,k3,k4⟩:=HZ h' h'';have es:sh1=sh2:=Wa (m:=[]) k2 k3;subst es;rw[Es]at e e'⊢;rcases Ip k with⟨e1,_⟩|⟨e1,_⟩|⟨rfl,e1⟩
  .rw[e1]at e;rcases Ip k' with⟨e2,_⟩|⟨e2,_⟩|⟨rfl,e2⟩
   .rw[Rx k k' e1 e2]
   .rw[e2]at e';cases e'
   .rw[e1]
  .rw[e1]at e;cases e
  .rw[e1]at e;rcases Ip k' with⟨e2,_⟩|⟨e2,_⟩|⟨rfl,e2⟩
   .rw[e2]
   .rw[e2]at e';cases e'
   .rw[e1]at e';rw[e1];exact NP k1 k3 k4 e e'
theorem xV(h:gG sh l)(h':gG sh m):fZ (.tup l) (.tup m)=!(aL m l==.lt):=by
 unfold fZ;rw[show cR (.tup l) (.tup m)=aL l m by rw[cR]];rcases Bx h h' with⟨f1,f2⟩|⟨f1,f2⟩|⟨rfl,f1⟩
 .rw[f1,f2];rfl
 .rw[f1,f2];rfl
 .rw[f1];rfl
theorem HD(sh:List Bool):iF (lK sh) where
 tot a b ha hb:=by
  cases a<;>first|exact ha.elim|skip
  cases b<;>first|exact hb.elim|skip
  rw[xV ha hb,xV hb ha];rcases Bx ha hb with⟨f1,f2⟩|⟨f1,f2⟩|⟨_,f1⟩
  .exact .inl (by rw[f2];rfl)
  .exact .inr (by rw[f1];rfl)
  .exact .inr (by rw[f1];rfl)
 tr a b c ha hb hc:=by
  cases a<;>first|exact ha.elim|skip
  cases b<;>first|exact hb.elim|skip
  cases c<;>first|exact hc.elim|skip
  rw[xV ha hb,xV hb hc,xV ha hc];intro h1 h2;rcases Bx ha hb with⟨f1,f2⟩|⟨f1,f2⟩|⟨rfl,f1⟩
  .rcases Bx hb hc with⟨g1,g2⟩|⟨g1,g2⟩|⟨rfl,g1⟩
   .rcases Bx ha hc with⟨k1,k2⟩|⟨k1,k2⟩|⟨rfl,k1⟩
    .rw[k2];rfl
    .rw[NP ha hb hc f1 g1]at k1;cases k1
    .rw[k1];rfl
   .rw[g2]at h2;cases h2
   .exact h1
  .rw[f2]at h1;cases h1
  .exact h2
 anti a b ha hb:=by
  cases a<;>first|exact ha.elim|skip
  cases b<;>first|exact hb.elim|skip
  rw[xV ha hb,xV hb ha];intro h1 h2;rcases Bx ha hb with⟨f1,f2⟩|⟨f1,f2⟩|⟨rfl,f1⟩
  .rw[f1]at h2;cases h2
  .rw[f2]at h1;cases h1
  .rfl
section
variable{ι κ:Type}[DecidableEq κ](g:ι->κ)
def cO(l:List ι)(i:ι):List ι:=if g i∈l.map g then l else l++[i]
def mM(l:List ι):List ι:=l.foldl (cO g) []
theorem VB{f:ι->D}(h:∀i j,f i=f j↔g i=g j)(l:List ι)(i:ι):dB (l.map f) (f i)=(cO g l i).map f:=by unfold dB cO;grind
theorem NO{f:ι->D}(h:∀i j,f i=f j↔g i=g j)(l:List ι):bE (l.map f)=(mM g l).map f:=by
 unfold bE mM
 suffices ∀zQ:List ι,(l.map f).foldl dB (zQ.map f)=(l.foldl (cO g) zQ).map f from this []
 induction l with
 |nil=>exact λ_=>rfl
 |cons i l ih=>intro zQ;rw[qB,foldl_cons,foldl_cons,VB g h];exact ih _
theorem OB{l:List ι}{k:Nat}(h:k<l.length):mM g (l.take (k+1))=cO g (mM g (l.take k)) l[k]:=by unfold mM;rw[List.take_add_one,qi h,List.foldl_append];rfl
theorem EU:∀{l zQ:List ι}{i:ι},i∈l.foldl (cO g) zQ->i∈zQ\/i∈l
 |[],_,_,h=>.inl h
 |j::l,zQ,i,h=>by
  rw[foldl_cons]at h;rcases EU h with z|z
  .unfold cO at z;split at z
   .exact .inl z
   .rcases qA.mp z with z|z
    .exact .inl z
    .exact .inr (qD.mpr (.inl (qw.mp z)))
  .exact .inr (qm _ z)
theorem EM:∀(l zQ:List ι),(l.foldl (cO g) zQ).length<=zQ.length+l.length
 |[],_=>zd _
 |j::l,zQ=>by
  rw[foldl_cons];have h1:=EM l (cO g zQ j);have h2:(cO g zQ j).length<=zQ.length+1:=by
   unfold cO;split
   .lia
   .rw[qr];exact zd _
  rw[qv];lia
end
theorem VX:x∈dB l d↔x∈l\/x=d:=by
 unfold dB;split
 .rename_i h;exact⟨.inl,λz=>z.elim id λe=>e▸h⟩
 .rw[qA,qw]
theorem zbi:x∈bE l↔x∈l:=by
 unfold bE
 suffices ∀zQ:List D,x∈l.foldl dB zQ↔x∈zQ\/x∈l from(this []).trans (by simp)
 induction l with
 |nil=>exact λ_=>by simp
 |cons i l ih=>intro zQ;rw[foldl_cons,ih,VX,qD,or_assoc]
theorem XT(h:l.Nodup):(dB l d).Nodup:=by
 unfold dB;split
 .exact h
 .rename_i z;exact qz.mpr ⟨h,by simp,λa ha b hb=>by rw[qw.mp hb];exact λe=>z (e▸ha)⟩
theorem Qn(l:List D):(bE l).Nodup:=by
 unfold bE
 suffices ∀zQ:List D,zQ.Nodup->(l.foldl dB zQ).Nodup from this [] .nil
 induction l with
 |nil=>exact λ_ h=>h
 |cons i l ih=>exact λzQ h=>ih _ (XT h)
theorem Uq(l:List D)(d:D):(dB l d).length<=l.length+1:=by
 unfold dB;split
 .lia
 .rw[qr];exact zd _
theorem Kj(l:List D):(bE l).length<=l.length:=by
 unfold bE
 suffices ∀zQ:List D,(l.foldl dB zQ).length<=zQ.length+l.length by simpa using this []
 induction l with
 |nil=>exact λ_=>zd _
 |cons i l ih=>grind[foldl_cons,length_cons,dB,Uq]
end FL
namespace FL
open PySem PySem.Spec PyProof.Rows L2
theorem HA(h:kV a=kV b):a=b:=by cases a<;>cases b<;>cases h<;>rfl
theorem HJ:∀{a b:List aR},a.map kV=b.map kV->a=b
 |[],[],_=>rfl
 |[],_::_,h=>by cases h
 |_::_,[],h=>by cases h
 |x::a,y::b,h=>by
  rw[qB,qB]at h;injection h with h1 h2
  rw[HA h1,HJ h2]
theorem NU(h:zA (kV k) u):u.scannable=true:=by
 cases k with
 |inl i=>obtain⟨t,rfl⟩:=h;rfl
 |inr x=>obtain⟨t,rfl⟩:=h;rfl
theorem Qk{α β:Type}{f:α->β}(hf:∀a b,f a=f b->a=b){l m:List α}(h:(l.map f).Perm (m.map f)):l.Perm m:=by
 induction l generalizing m with
 |nil=>first|rfl|assumption|(simp_all;done)
 |cons a l ih=>obtain⟨b,hb,e⟩:=qN.mp (h.mem_iff.mp (by simp:f a∈(a::l).map f));have:=hf _ _ e;subst this;obtain⟨m1,m2,rfl⟩:=append_of_mem hb;refine(List.Perm.cons b (ih ?_)).trans perm_middle.symm;rw[map_append];rw[map_append,qB,qB]at h;exact(h.trans perm_middle).cons_inv
def DW(H:Hp)(vs:List V)(y:V)(b:Bool):Prop:=
 (∃(ks:List aR)(k:aR),vs=ks.map kV/\y=kV k/\(b=true↔k∈ks))\/
 ∃(ps:List (List aR×Addr))(k:List aR)(c:Addr),vs=ps.map (λp=>V.ref p.2)/\(∀p∈ps,H p.2=some (.tup (p.1.map kV)))/\y=.ref c/\H c=some (.tup (k.map kV))/\(b=true↔k∈ps.map (·.1))
theorem Fd(I:Inv X zL Z H s)(e:H a=some (.set vs)):s.TypeIs (.ref a) "set":=by
 rcases I.hok a _ e with⟨_,⟨_,h1⟩|⟨_,_,_,o,_,_,_,h1,h2,_⟩|⟨_,_,_,_,o,_,_,_,h1,h2,_⟩⟩
 .exact⟨_,h1,rfl⟩
 .exact⟨o,h1,h2.1⟩
 .exact⟨o,h1,h2.1⟩
theorem Tz(I:Inv X zL Z H s){ks:List aR}(e:H a=some (.set vs))(ev:vs=ks.map kV):∃xs:List (aR×Value),ks.Perm (xs.map (·.1))/\ST.VSet (ST.ldOf X.w) (aI X.prog X.w) s.heap a xs:=by
 rcases I.hok a _ e with⟨_,⟨h0,h1⟩|⟨_,xs,p,V⟩|⟨hne,xs,p,_,_⟩⟩
 .have:ks=[]:=by rw[h0]at ev;simpa using ev.symm
  subst this;exact⟨[],.refl _,ST.vset_new h1⟩
 .refine⟨xs,Qk (λ_ _=>HA) ?_,V⟩;rw[ev]at p;rw[qH];exact p
 .exfalso;cases vs with
  |nil=>exact hne rfl
  |cons v vs=>grind[mem_map,mem_cons_self,kV]
theorem Tb(I:Inv X zL Z H s){ps:List (List aR×Addr)}(e:H a=some (.set vs))(ev:vs=ps.map (λp=>V.ref p.2))(hp:∀p∈ps,H p.2=some (.tup (p.1.map kV))):∃xs,ps.Perm xs/\ST.TSet (ST.ldOf X.w) (tupleKind (aI X.prog X.w)) s.heap a xs:=by
 rcases I.hok a _ e with⟨_,⟨h0,h1⟩|⟨hne,xs,p,_⟩|⟨_,xs,p,hx,T⟩⟩
 .have:ps=[]:=by rw[h0]at ev;simpa using ev.symm
  subst this;exact⟨[],.refl _,ST.tset_new h1⟩
 .exfalso;cases vs with
  |nil=>exact hne rfl
  |cons v vs=>
   obtain⟨q,_,hq⟩:=qN.mp (p.mem_iff.mp qo);have h1:v∈ps.map (λp=>V.ref p.2):=by rw[<-ev];exact qo
   obtain⟨k,_,hk⟩:=qN.mp h1;rw[<-hq]at hk;cases q with
   |mk q _=>cases q<;>cases hk
 .refine⟨xs,?_,T.full λx hx'=>xT I.hok (hx x hx')⟩;rw[ev]at p
  --an address tells zP tuple
  have q:(ps.map (·.2)).Perm (xs.map (·.2)):=Qk (f:=V.ref) (λ_ _ h=>by cases h;rfl) (by rw[qH,qH];exact p)
  let f:Addr->List aR×Addr:=λb=>(Classical.epsilon λks:List aR=>H b=some (HO.tup (ks.map kV)),b)
  have hf:∀p:List aR×Addr,H p.2=some (.tup (p.1.map kV))->f p.2=p:=λp h=>by have e:H p.2=some (.tup ((Classical.epsilon λks:List aR=>H p.2=some (HO.tup (ks.map kV))).map kV)):=Classical.epsilon_spec (p:=λks:List aR=>H p.2=some (HO.tup (ks.map kV))) ⟨p.1,h⟩;grind[Prod.ext,HJ]
  have id_of:∀l:List (List aR×Addr),(∀p∈l,H p.2=some (.tup (p.1.map kV)))->(l.map (·.2)).map f=l:=λl h=>by rw[qH];exact(map_congr_left λp hp=>hf p (h p hp)).trans (map_id _)
  have:=q.map f;rwa[id_of ps hp,id_of xs hx]at this
theorem Rf(hu:A.units<cLine)(I:Inv X zL Z H s)(e:H a=some (.set vs))(hz:vs.length<=150)(g:DW H vs y b)(ry:zA y u)
  (h:∀s' r,Inv X zL Z (if b then H else upd H a (.set (vs++[y]))) s'->Q r s'):wpAny (model X.prog X.w) A (setAdd a u) Q E s:=by
 rcases g with⟨ks,k,ev,rfl,hb⟩|⟨ps,k,c,ev,hp,rfl,hc,hb⟩
 .obtain⟨xs,pk,S⟩:=Tz I e ev;have hl:xs.length<=150:=by have:=pk.length_eq;rw[qp]at this;rw[ev,qp]at hz;lia
  refine ST.setAddV (AK ry) (NU ry) S hl (λhm r=>h _ r ?_) λhm h' ys sb pm S' r=>h _ r ?_
  .rw[za (hb.mpr (pk.mem_iff.mpr hm))];exact I.kept λ_ _ z=>z
  .rw[zc λz=>hm (pk.mem_iff.mp (hb.mp z))];refine EW I (by rw[e];exact True.intro) sb (let⟨o,_,_,_,ho,_⟩:=S';⟨o,ho⟩) ⟨by rw[qr];exact Nat.add_le_add_right hz 1,.inr (.inl ⟨by simp,ys,?_,S'⟩)⟩;rw[ev];have p1:=pm.map (λp:aR×Value=>kV p.1);refine(qQ.trans ?_).trans p1.symm;rw[qB];refine List.Perm.cons _ ?_;have:=pk.map kV;rw[qH]at this;exact this
 .cases(show u=Value.ref c from ry);obtain⟨xs,pk,S⟩:=Tb I e ev hp;have hl:xs.length<=150:=by have:=pk.length_eq;rw[ev,qp]at hz;lia
  refine ST.setAddT hu (xT I.hok hc) S hl (λhm tk r _=>h _ r ?_) λhm h' ys tk r sb pm S' _=>h _ r ?_
  .rw[za (hb.mpr ((pk.map _).mem_iff.mpr hm))];exact I.kept λ_ _ z=>z
  .rw[zc λz=>hm ((pk.map _).mem_iff.mp (hb.mp z))];have hca:∀d xs,H d=some (.tup xs)->upd H a (.set (vs++[V.ref c])) d=some (.tup xs):=λd xs z=>by rw[cH (MT z e (λw=>nomatch w))];exact z
   refine EW I (by rw[e];exact True.intro) sb (let⟨o,_,_,_,ho,_⟩:=S';⟨o,ho⟩) ⟨by rw[qr];exact Nat.add_le_add_right hz 1,.inr (.inr ⟨by simp,ys,?_,λp hp'=>?_,S'.raw⟩)⟩
   .rw[ev];have p1:=pm.map (λp:List aR×Addr=>V.ref p.2);refine(qQ.trans ?_).trans p1.symm;rw[qB];exact List.Perm.cons _ (pk.map _)
   .rcases qD.mp (pm.mem_iff.mp hp')with rfl|z
    .exact hca _ _ hc
    .exact hca _ _ (hp p (pk.mem_iff.mpr z))
section
variable{K:W.Frag}
def tK(p:List aR×Addr):D:=.tup (p.1.map aK)
theorem zcB{a b:List aR}:D.tup (a.map aK)=D.tup (b.map aK)↔a=b:=⟨λh=>by injection h with h;exact Fb h,λh=>by rw[h]⟩
theorem Ob(r:aS K F x d)(h:bZ true d=true):∃p:List aR×Addr,x=.ref p.2/\d=tK p/\F p.2=some (.tup (p.1.map kV)):=by
 cases r with
 |tup e r=>obtain⟨ks,rfl,rfl⟩:=Ek r h;exact⟨(ks,_),rfl,rfl,e⟩
 |_=>cases h
theorem JL(r:zJ K F xs l):l.all (bZ true)=true->∃ps:List (List aR×Addr),xs=ps.map (λp=>V.ref p.2)/\l=ps.map tK/\∀p∈ps,F p.2=some (.tup (p.1.map kV)):=
 zJ.ind (P:=λxs l=>l.all (bZ true)=true->∃ps:List (List aR×Addr),xs=ps.map (λp=>V.ref p.2)/\l=ps.map tK/\∀p∈ps,F p.2=some (.tup (p.1.map kV))) (λ_=>⟨[],rfl,rfl,λ_ z=>nomatch z⟩) (λa _ ih h=>by
  rw[all_cons,and_eq_true]at h;obtain⟨p,rfl,rfl,e⟩:=Ob a h.1;obtain⟨ps,rfl,rfl,es⟩:=ih h.2;refine⟨p::ps,rfl,rfl,λq hq=>?_⟩;rcases qD.mp hq with rfl|z
  .exact e
  .exact es q z) r
theorem VG(h:slot U n=some s):U.set n (some s)=U:=by
 have h':=Kv h;apply ext_getElem?;intro j;by_cases hj:n=j
 .subst hj;rw[getElem?_set_self (qh.mp h').1,h']
 .rw[getElem?_set_ne hj]
theorem SE(sm:zw F H)(r:zJ K F vs l)(rv:aS K F v d)(hk:cX (d::l)=true):∃b,DW H vs v b/\dB l d=if b then l else l++[d]:=by
 unfold cX at hk;rw[or_eq_true,all_cons,all_cons,and_eq_true,and_eq_true]at hk;have main:∀p:Prop,(d∈l↔p)->∃b,(b=true↔p)/\dB l d=if b then l else l++[d]:=λp h=>by
  unfold dB;by_cases q:p
  .first|rfl|assumption|(simp_all;done)
  first|rfl|assumption|(simp_all;done)
 rcases hk with⟨h1,h2⟩|⟨h1,h2⟩
 .obtain⟨k,rfl,rfl⟩:=Ej rv h1;obtain⟨ks,rfl,rfl⟩:=Ek r h2;obtain⟨b,hb,e⟩:=main (k∈ks) (by rw[qN];exact⟨λ⟨j,hj,z⟩=>AQ z▸hj,λz=>⟨k,z,rfl⟩⟩)
  exact⟨b,.inl ⟨ks,k,rfl,rfl,hb⟩,e⟩
 .obtain⟨p,rfl,rfl,ep⟩:=Ob rv h1;obtain⟨ps,rfl,rfl,eps⟩:=JL r h2;obtain⟨b,hb,e⟩:=main (p.1∈ps.map (·.1)) (by rw[qN,qN];exact⟨λ⟨j,hj,z⟩=>⟨j,hj,zcB.mp z⟩,λ⟨j,hj,z⟩=>⟨j,hj,zcB.mpr z⟩⟩)
  exact⟨b,.inr ⟨ps,p.1,p.2,rfl,λq hq=>sm _ _ (eps q hq),rfl,sm _ _ ep,hb⟩,e⟩
theorem Rel.sadd{D:Addr}(r:Rel K (U++[some s]) (Z++[some v]) F G H)(hs:slot U n=some (.set l))(hZ:Z[n]?=some (some (.ref D)))(hk:cX (s.toD::l)=true):
  ∃vs b,H D=some (.set vs)/\vs.length=l.length/\DW H vs v b/\Rel K (U.set n (some (.set (dB l s.toD)))) Z F G (if b then H else upd H D (.set (vs++[v]))):=by
 have hl:=bD r;have rd:=r.drop hl;obtain⟨fp,e,nd,ap⟩:=r.en;obtain⟨f1,f2,rfl,a,b⟩:=e.cut hl;obtain⟨v',fa,fi,fb,e1,rfl,q,up⟩:=a.at hs;rw[hZ]at e1;have e2:V.ref D=v':=by simpa using e1
 subst e2;have sh:∃d,s=.sh d:=by
  cases s with
  |sh d=>exact⟨d,rfl⟩
  |lst l=>simp[cX,bV,bZ]at hk
  |dct t ks vs=>simp[cX,bV,bZ]at hk
  |set l=>simp[cX,bV,bZ]at hk
 obtain⟨d,rfl⟩:=sh;rw[S.toD_sh]at hk⊢;cases q with
 |st hD rl=>
  rename_i xs;cases b with
  |so sr nl=>
   cases nl;cases sr with
   |sh rv=>
    obtain⟨b,sa,ea⟩:=SE r.fr rl rv hk;refine⟨xs,b,hD,rl.len,sa,?_⟩;rw[ea];cases b with
    |true=>simp only[if_true];rw[VG hs];exact rd
    |false=>
     simp only[false_eq_true,if_false];have nd':(fa++([D]++fb)).Nodup:=by simpa using nd
     obtain⟨na,nib,nab⟩:=qz.mp nd';obtain⟨nD,nb⟩:=qO.mp nib;have hDa:D∉fa:=λz=>nab D z D qo rfl;have apD:=ap D (by simp);have new:aN K F (upd H D (.set (xs++[v]))) (.ref D) (.set (l++[d])) [D]:=.st kJ (rl.append (.cons rv .nil));have a2:=up (F':=F) (H':=upd H D (.set (xs++[v]))) (o:=some (.set (l++[d]))) (u:=some (.ref D)) (zw.refl F) (λx hx=>cH λz=>(qA.mp hx).elim (λw=>hDa (z▸w)) λw=>nD (z▸w)) (.so new .nil);rw[HX hZ]at a2;refine⟨zw.updR r.fr apD.1,λx o w=>?_,_,a2,by simpa using nd',λx hx=>ap x (by simpa using hx)⟩;have hx:x≠D:=λz=>by rw[z,apD.2]at w;cases w
     rw[cH hx];exact r.gr x o w
end
section
variable{D:Addr}
theorem Vk(hxe:X.xe=λ_ _=>False)(hu:X.A.units+1<cLine)(h:FE X elt we):sL X (eval elt X.env>>=λv=>standAt p>>=λ_=>call (.builtin "set.add") [.ref D,v]>>=λ_=>pure ()) (AV X n D (wZ n we)):=by
 intro zL s Z H Q I q;obtain⟨F,G,U,P,zN,hZ,hw,hok⟩:=q;have hp:PassesOwn (model X.prog X.w) X.A X.env X.xe:=by rw[hxe];exact PassesOwn.never
 have xe0:∀e s',X.xe e s'->False:=λe s' z=>by rw[hxe]at z;exact z
 have he:=h X.pn X.xe hp zL s Z H (λv H1=>∃F1 U1 t l,zw F F1/\Rel X.K (U1++[some t]) (Z++[some v]) F1 G H1/\slot U1 n=some (.set l)/\cX (t.toD::l)=true/\l.length<=150/\P (U1.set n (some (.set (dB l t.toD))))) I
  ⟨F,G,U,_,NX,zN,hw,λr U1 v F1 H1 hk s1 r1 rv=>?_,IA⟩
 .refine qa (zm he (λu s1 zq=>?_) λe s' z=>xe0 e s' z);obtain⟨v,H1,I1,rv,F1,U1,t,l,sm,r1,hs,hk,hz,hP⟩:=zq;obtain⟨vs,b,hD,zO,sa,r2⟩:=Rel.sadd r1 hs hZ hk;refine qa (wpAny_standAt (qa (ST.call_add_of (Fd I1 hD) (Rf hu I1 hD (by lia) sa rv λs' _ I'=>?_))));exact qb ⟨Z,_,I',hok _ Z F1 _ hP KP.refl sm r2⟩
 .obtain⟨⟨t,U2⟩,eg,hk⟩:=cF hk;obtain⟨F2,s2,l2,r2⟩:=dN (U':=[]) (Z':=[]) r1 (bD r1) rv eg;dsimp only at hk;split at hk
  .rename_i l e;exact⟨F2,U2,t,l,s1.trans s2,r2,e,hk.1,hk.2.1,hk.2.2⟩
  .exact hk.elim
end
section
variable{X:Cx}
theorem Vb(H:Hp)(h:Heap)(_:sysModules<h.objs.size):zK X.prog X.w H (h.push (ST.freshSet (ST.ldOf X.w))) h.objs.size (.set []):=⟨zero_le _,.inl ⟨rfl,qd _ rfl⟩⟩
theorem RG(F H:Hp)(p:Addr)(e:H p=some (.set [])):aN X.K F H (.ref p) (.set []) [p]:=.st e .nil
set_option maxHeartbeats 4000000 in
theorem Sk(hn:X.N.length=n)(hu:X.A.units+1<cLine)(hm:X.A.mark none=X.A)(hc:X.calm=true)(Sc:cP X.env.scope scope X.N vars)(hk:vars.length=k)(hi:FI X tg iter wi)
  (hg:∀s H ex,FG (aC X scope vars s H ex) (List.range (n+1)) tg g)(ht:∀s H ex,kG (aC X scope vars s H ex) ifs (mB (aC X scope vars s H ex) wc))
  (Bo:∀s H ex,FI (aC X scope vars s H ex) tg2 iter2 wi2)(hg2:∀s H ex,FG (aC X scope vars s H ex) (List.range (n+1)) tg2 g2)(ht2:∀s H ex,kG (aC X scope vars s H ex) ifs2 (mB (aC X scope vars s H ex) wc2))
  (he:∀s H ex,FE (aC X scope vars s H ex) elt we)
  (hs:∀x,foldedSetIterable iter X.env x=pure x:=by intro _;rfl)(hs2:∀env x,foldedSetIterable iter2 env x=pure x:=by intro _ _;rfl):FE X (.SetComp elt [⟨tg,iter,ifs,0⟩,⟨tg2,iter2,ifs2,0⟩] scope pos) (KF (.set []) n k wi g wc (tF wi2 g2 wc2 (wZ n we))):=by
 subst hn;intro pn xe hp zL s Z H Q I q;show wpAny (model X.prog X.w) X.A (comprehension (.SetComp elt [⟨tg,iter,ifs,0⟩,⟨tg2,iter2,ifs2,0⟩] scope pos) scope X.env _ (newSet (.type "set")) false (eval iter X.env) none) (EP (wp X pn xe) zL Z Q) xe s;obtain⟨F,G,U,P,PX,zN,hw,hok,hx⟩:=q;refine HH (ty:="set") (dat:=.set #[] 0 (.fresh 0 0 (ST.ldOf X.w))) (λA E s Q h=>ST.newSet_ok h) (s0:=.set []) (o0:=.set []) Vb RG rfl hs Sc hk hi (λs H ex D=>?_) (λ_ _ _=>rfl) (λ_ _ _=>rfl) (λ_ _ _=>rfl) (λ_ _ _=>⟨_,rfl⟩) hp I zN hw hx (JC hok);have inner:lP (aC X scope vars s H ex) (.SetComp elt [⟨tg,iter,ifs,0⟩,⟨tg2,iter2,ifs2,0⟩] scope pos) 1 (.ref D) tg2 _:=
  Et (X:=aC X scope vars s H ex) hc rfl (hg2 s H ex [] (λ_ _=>False) PassesOwn.never) (ht2 s H ex) (λ_=>(Vk (X:=aC X scope vars s H ex) (n:=X.N.length) rfl hu (he s H ex)).f) (λ_=>rfl) (λ_=>rfl) (λ_=>rfl) (λ_=>rfl)
 exact Et (X:=aC X scope vars s H ex) hc rfl (hg s H ex [] (λ_ _=>False) PassesOwn.never) (ht s H ex) (λ_=>OE (X:=aC X scope vars s H ex) rfl (Bo s H ex) inner (hs2 _) hm (λ_=>rfl) (λ_=>rfl) (λ_=>rfl) (λ_=>⟨_,rfl⟩)) (λ_=>rfl) (λ_=>rfl) (λ_=>rfl) (λ_=>rfl)
end
def kf(p:List aR×Addr):List aR:=p.1
section
variable(X:Cx)(s:Shared)
def JK(ks:List aR)(i:Nat)(h:Heap):Prop:=(∀b o,s.heap.get? b=some o->h.get? b=some o)/\∃xs:List (aR×Value),(mM id (ks.take i)).Perm (xs.map (·.1))/\ST.VSet (ST.ldOf X.w) (aI X.prog X.w) h s.heap.objs.size xs/\(i=0->h.get? s.heap.objs.size=some (ST.freshSet (ST.ldOf X.w)))
def JT(ps:List (List aR×Addr))(i:Nat)(h:Heap):Prop:=(∀b o,s.heap.get? b=some o->h.get? b=some o)/\∃xs:List (List aR×Addr),(mM kf (ps.take i)).Perm xs/\ST.TRaw (ST.ldOf X.w) (tupleKind (aI X.prog X.w)) h s.heap.objs.size xs/\(i=0->h.get? s.heap.objs.size=some (ST.freshSet (ST.ldOf X.w)))
theorem JK.stay{ks:List aR}{i:Nat}{h h':Heap}(x:JK X s ks i h)(hk:∀b o,b≠s.heap.objs.size+1->h.get? b=some o->h'.get? b=some o):JK X s ks i h':=by obtain⟨k,xs,p,⟨o,es,ep,t,ho,r⟩,z⟩:=x;have hn:s.heap.objs.size≠s.heap.objs.size+1:=ne_of_lt (lt_succ_self _);exact⟨λb o e=>hk b o (ne_of_lt (lt_succ_of_lt (ST.lt_of_get e))) (k b o e),xs,p,⟨o,es,ep,t,hk _ _ hn ho,r⟩,λi0=>hk _ _ hn (z i0)⟩
theorem JT.stay{ps:List (List aR×Addr)}{i:Nat}{h h':Heap}(x:JT X s ps i h)(hk:∀b o,b≠s.heap.objs.size+1->h.get? b=some o->h'.get? b=some o):JT X s ps i h':=by obtain⟨k,xs,p,⟨o,es,ep,t,ho,r⟩,z⟩:=x;have hn:s.heap.objs.size≠s.heap.objs.size+1:=ne_of_lt (lt_succ_self _);exact⟨λb o e=>hk b o (ne_of_lt (lt_succ_of_lt (ST.lt_of_get e))) (k b o e),xs,p,⟨o,es,ep,t,hk _ _ hn ho,r⟩,λi0=>hk _ _ hn (z i0)⟩
end
theorem RA:bootBuiltins "set"=some (.type "set"):=by decide+kernel
theorem Yr:isSubtype (.type "tuple") (.type "set")=pure false:=by rw[isSubtype_type];kernel_rfl
theorem Yn:isSubtype (.type "tuple") (.type "frozenset")=pure false:=by rw[isSubtype_type];kernel_rfl
theorem We(hh:A.handled=none)(hu:A.units+20<cLine)(I:Inv X zL Z H s)(hT:s.TypeIs x T)(hs1:isSubtype (.type T) (.type "set")=pure false)(hs2:isSubtype (.type T) (.type "frozenset")=pure false)(hne:(Value.type T==Value.type "dict")=false)
  (W:ST.WalkOk X.prog X.w s x zP.toArray.size (λi v=>zP.toArray[i]?=some v))(rv:zI (ks.map kV) zP)(hz:ks.length<=150)
  (h:∀s',Inv X zL Z (upd H s.heap.objs.size (.set ((mM id ks).map kV))) s'->Q (.ref s.heap.objs.size) s'):wpAny (model X.prog X.w) A (call (.type "set") [x]) Q E s:=by
 have hl:zP.toArray.size=ks.length:=by rw[qt,<-rv.length,qp]
 refine ST.call_set (B:=A.units+20) (J:=JK X s ks) hh hT hs1 hs2 hne W (λh e k=>⟨k,[],.refl _,ST.vset_new e,λ_=>e⟩) (λi h h' hi x hk=>JK.stay X s x hk)
  (λA i v s' Q E hi hP⟨kp,xs,p,S,z⟩ hQ hA=>?_) (zd _) λh' tk⟨kp,xs,p,S,z⟩ _ ht=>h _ ?_
 .rw[hl]at hi;obtain⟨u,hu',ru⟩:=rv.get (i:=i) (x:=kV ks[i]) (by rw[qI,qi hi];rfl);have hv:v=u:=by grind
  subst hv;have hlx:xs.length<=150:=by have h1:=p.length_eq;grind[EM,length_map,mM,cO,length_take,length_nil]
  have kp':∀{h':Heap},Heap.SameBut s.heap.objs.size s'.heap h'->∀b o,s.heap.get? b=some o->h'.get? b=some o:=λsb b o e=>(sb.2 b (ne_of_lt (ST.lt_of_get e))).trans (kp b o e);have hmk:=OB (id:aR->aR) hi;refine ST.setAddV (AK ru) (NU ru) S hlx (λhm r=>hQ s'.heap _ r (le_succ _) (Heap.SameBut.refl _ _) ⟨kp,xs,?_,S,λz=>nomatch z⟩) λhm h' ys sb pm S' r=>hQ h' _ r (le_succ _) sb ⟨kp' sb,ys,?_,S',λz=>nomatch z⟩
  .rw[hmk];unfold cO;grind
  .rw[hmk];unfold cO;rw[map_id,zc (show¬id ks[i]∈mM id (ks.take i) from λz=>hm (p.mem_iff.mp z))];exact(qQ.trans (List.Perm.cons _ p)).trans (pm.map (·.1)).symm
 .rw[hl,List.take_length]at p;refine I.laid (t':=tk) kp (zd _) ⟨?_,?_⟩
  .grind[length_map,EM,mM,cO,length_nil]
  .cases ks with
   |nil=>exact .inl ⟨rfl,z (by simpa using hl)⟩
   |cons y ks=>
    refine .inr (.inl ⟨λe=>?_,xs,?_,S⟩)
    .have h1:∀(l zQ:List aR),zQ≠[]->l.foldl (cO id) zQ≠[]:=λl=>by
      induction l with
      |nil=>exact λ_ h=>h
      |cons i l ih=>
       refine λzQ h=>ih _ ?_;unfold cO;split
       .exact h
       .simp
     exact h1 ks (cO id [] y) (by unfold cO;simp) (List.map_eq_nil_iff.mp e)
    .have:=p.map kV;rw[qH]at this;exact this
theorem Wx(hh:A.handled=none)(hu:A.units+20<cLine)(I:Inv X zL Z H s)(hT:s.TypeIs x T)(hs1:isSubtype (.type T) (.type "set")=pure false)(hs2:isSubtype (.type T) (.type "frozenset")=pure false)(hne:(Value.type T==Value.type "dict")=false)
  (W:ST.WalkOk X.prog X.w s x zP.toArray.size (λi v=>zP.toArray[i]?=some v))(rv:zI (ps.map λp=>V.ref p.2) zP)(hp:∀p∈ps,H p.2=some (.tup (p.1.map kV)))(hz:ps.length<=150)
  (h:∀s',Inv X zL Z (upd H s.heap.objs.size (.set ((mM kf ps).map λp=>V.ref p.2))) s'->Q (.ref s.heap.objs.size) s'):wpAny (model X.prog X.w) A (call (.type "set") [x]) Q E s:=by
 have hl:zP.toArray.size=ps.length:=by rw[qt,<-rv.length,qp]
 have is1:∀{h:Heap},(∀b o,s.heap.get? b=some o->h.get? b=some o)->∀p∈ps,IsTupleKey (aI X.prog X.w) h p.1 p.2:=λk p hq=>by obtain⟨o,zP,n,h1,r⟩:=xT I.hok (hp p hq);exact⟨o,zP,n,k _ _ h1,r⟩
 have isA:∀{h:Heap}{i:Nat}{xs:List (List aR×Addr)},(∀b o,s.heap.get? b=some o->h.get? b=some o)->(mM kf (ps.take i)).Perm xs->∀p∈xs,IsTupleKey (aI X.prog X.w) h p.1 p.2:=λk pm p hq=>by
  rcases EU kf (pm.mem_iff.mpr hq)with z|z
  .cases z
  .exact is1 k p (mem_of_mem_take z)
 refine ST.call_set (B:=A.units+20) (J:=JT X s ps) hh hT hs1 hs2 hne W (λh e k=>⟨k,[],.refl _,(ST.tset_new e).raw,λ_=>e⟩) (λi h h' hi x hk=>JT.stay X s x hk)
  (λA i v s' Q E hi hP⟨kp,xs,p,S,z⟩ hQ hA=>?_) (zd _) λh' tk⟨kp,xs,p,S,z⟩ _ ht=>h _ ?_
 .rw[hl]at hi;obtain⟨u,hu',ru⟩:=rv.get (i:=i) (x:=V.ref ps[i].2) (by rw[qI,qi hi];rfl);have hv:v=u:=by rw[List.getElem?_toArray,hu']at hP;exact(qg hP).symm
  subst hv;cases(show v=Value.ref ps[i].2 from ru);have hlx:xs.length<=150:=by have h1:=p.length_eq;have h2:=EM kf (ps.take i) [];have h3:(mM kf (ps.take i)).length=((ps.take i).foldl (cO kf) []).length:=rfl;rw[qK,qy]at h2;lia
  have kp':∀{h':Heap},Heap.SameBut s.heap.objs.size s'.heap h'->∀b o,s.heap.get? b=some o->h'.get? b=some o:=λsb b o e=>(sb.2 b (ne_of_lt (ST.lt_of_get e))).trans (kp b o e);have hmk:=OB kf hi;refine ST.setAddT (by lia) (is1 kp ps[i] (getElem_mem hi)) (S.full (isA kp p)) hlx (λhm tk r ht=>hQ s'.heap _ r ht (Heap.SameBut.refl _ _) ⟨kp,xs,?_,S,λz=>nomatch z⟩) λhm h' ys tk r sb pm S' ht=>hQ h' _ r ht sb ⟨kp' sb,ys,?_,S'.raw,λz=>nomatch z⟩
  .rw[hmk];unfold cO;rw[za (show kf ps[i]∈_ from(p.map kf).mem_iff.mpr hm)];exact p
  .rw[hmk];unfold cO;rw[zc (show¬kf ps[i]∈_ from λz=>hm ((p.map kf).mem_iff.mp z))];exact(qQ.trans (List.Perm.cons _ p)).trans pm.symm
 .rw[hl,List.take_length]at p;have hnew:∀d xs,H d=some (HO.tup xs)->upd H s.heap.objs.size (.set ((mM kf ps).map λp=>V.ref p.2)) d=some (.tup xs):=λd xs z=>by rw[cH (tX z I.fresh)];exact z
  refine I.laid (t':=tk) kp (zd _) ⟨?_,?_⟩
  .rw[qp];have:=EM kf ps [];have h3:(mM kf ps).length=(ps.foldl (cO kf) []).length:=rfl;rw[qy]at this;lia
  .cases ps with
   |nil=>exact .inl ⟨rfl,z (by simpa using hl)⟩
   |cons y ps=>
    refine .inr (.inr ⟨λe=>?_,xs,p.map _,λq hq=>?_,S⟩)
    .have h1:∀(l zQ:List (List aR×Addr)),zQ≠[]->l.foldl (cO kf) zQ≠[]:=λl=>by
      induction l with
      |nil=>exact λ_ h=>h
      |cons i l ih=>
       refine λzQ h=>ih _ ?_;unfold cO;split
       .exact h
       .simp
     exact h1 ps (cO kf [] y) (by unfold cO;simp) (List.map_eq_nil_iff.mp e)
    .rcases EU kf (p.mem_iff.mpr hq)with z|z
     .cases z
     .exact hnew _ _ (hp q z)
def Cs(K:W.Frag):List V->Hp->VK->Prop:=λxs H Q=>∃a vs,xs=[.ref a]/\(cA K H a vs\/bX K H a vs)/\vs.length<=150/\
 ((∃ks:List aR,vs=ks.map kV/\∀p,H p=none->Q (.ref p) (upd H p (.set ((mM id ks).map kV))))\/
  ∃ps:List (List aR×Addr),vs=ps.map (λp=>V.ref p.2)/\(∀p∈ps,H p.2=some (.tup (p.1.map kV)))/\∀p,H p=none->Q (.ref p) (upd H p (.set ((mM kf ps).map λp=>V.ref p.2))))
theorem Xr(hr:cE k X.A):bA X (.type "set") (Cs X.K):=by
 intro zL s Z H xs us Q I r h;obtain⟨a,vs,rfl,hq,hz,h⟩:=h;have hu:X.A.units+20<cLine:=by have:=hr.units;lia
 cases r with
 |cons r1 r2=>
  cases r2;cases r1;have go:∀{T:String}{zP:List Value},s.TypeIs (.ref a) T->isSubtype (.type T) (.type "set")=pure false->isSubtype (.type T) (.type "frozenset")=pure false->(Value.type T==Value.type "dict")=false->ST.WalkOk X.prog X.w s (.ref a) zP.toArray.size (λi v=>zP.toArray[i]?=some v)->zI vs zP->
    wpAny (model X.prog X.w) X.A (call (.type "set") [.ref a]) (EP X zL Z Q) X.xe s:=λ{T zP} hT h1 h2 h3 W rv=>by
   rcases h with⟨ks,rfl,q⟩|⟨ps,rfl,hp,q⟩
   .exact We hr.hd hu I hT h1 h2 h3 W rv (by simpa using hz) λs' I'=>⟨.ref _,_,I',rfl,q _ I.fresh⟩
   .exact Wx hr.hd hu I hT h1 h2 h3 W rv hp (by simpa using hz) λs' I'=>⟨.ref _,_,I',rfl,q _ I.fresh⟩
  rcases hq with hq|hq
  .obtain⟨zP,rv,pl,_⟩:=I.list hq;exact go pl.isList.typeIs F.sub_list_set F.sub_list_frozenset (by decide) (ST.walk_list pl.isList) rv
  .obtain⟨zP,rv,⟨o,e,c,n,d⟩,_⟩:=I.tuple hq;have ht:s.heap.IsTuple a zP.toArray:=⟨o,e,c,n,d⟩
   exact go ⟨o,e,c⟩ Yr Yn (by decide) (ST.walk_tuple ht) rv
section
variable{K:W.Frag}
theorem zJ.of_all{ι:Type}{fV:ι->V}{fD:ι->D}:∀{l:List ι},(∀i∈l,aS K F (fV i) (fD i))->zJ K F (l.map fV) (l.map fD)
 |[],_=>.nil
 |i::l,h=>.cons (h i qo) (zJ.of_all λj hj=>h j (qm _ hj))
theorem zJ.to_all{ι:Type}{fV:ι->V}{fD:ι->D}:∀{l:List ι},zJ K F (l.map fV) (l.map fD)->∀i∈l,aS K F (fV i) (fD i)
 |[],_,_,h=>nomatch h
 |j::l,.cons a b,i,h=>by
  rcases qD.mp h with rfl|z
  .exact a
  .exact zJ.to_all b i z
theorem Rel.newS{p:Addr}(zN:Rel K U Z F G H)(hp:H p=none)(r:zJ K F vs l):Rel K (U++[some (.set l)]) (Z++[some (.ref p)]) F G (upd H p (.set vs)):=zN.newO hp (.st kJ r)
theorem Ur:dC K (Cs K) AE:=by
 intro Z U F G H vs ds s Q zN re e hq;obtain⟨d,v,rfl,rfl⟩:=kE (λx y r=>by cases x<;>rfl) rfl re e;have main:∀{a:Addr}{xs:List V}{l:List D},(cA K H a xs\/bX K H a xs)->zJ K F xs l->newS l=some s->Cs K [.ref a] H Q:=λ{a xs l} hq' r e=>by
  unfold newS at e;split at e
  .rename_i hc;cases e;refine⟨a,xs,rfl,hq',by rw[r.len];exact hc.2,?_⟩;have hk:=hc.1;unfold cX at hk;rw[or_eq_true]at hk;rcases hk with hk|hk
   .obtain⟨ks,rfl,rfl⟩:=Ek r hk;refine .inl ⟨ks,rfl,λp hp=>?_⟩;rw[NO id (f:=aK) λi j=>⟨AQ,λz=>by rw[show i=j from z]⟩]at hq;refine hq _ F _ (zw.refl F) (zN.newS hp (zJ.of_all λi hi=>zJ.to_all r i ?_));rcases EU id hi with z|z
    .cases z
    .exact z
   .obtain⟨ps,rfl,rfl,hf⟩:=JL r hk;refine .inr ⟨ps,rfl,λp hp=>zN.fr _ _ (hf p hp),λp hp=>?_⟩;rw[NO kf (f:=tK) λi j=>zcB]at hq;refine hq _ F _ (zw.refl F) (zN.newS hp (zJ.of_all λi hi=>zJ.to_all r i ?_));rcases EU kf hi with z|z
    .cases z
    .exact z
  .cases e
 cases d with
 |lst l=>obtain⟨a,xs,rfl,h1,r1⟩:=re.1.lst zN.fr;exact main (.inl h1) r1 e
 |tup l=>obtain⟨a,xs,rfl,h1,r1⟩:=re.1.tup;exact main (.inr (bX.of (zN.fr _ _ h1))) r1 e
 |_=>cases e
theorem TY(hr:cE k X.A)(hg:Gl X "set")(hm:X.mg "set"=none)(hv:bootBuiltins "set"=some (.type "set"))(ha:FA X (e::es) wa)(he:starEach (e::es) X.env=(false,eval e X.env)::starEach es X.env:=by rfl)(hpl:(backTo pos (starEach es X.env)).any (·.1)=false:=by rfl):FE X (.Call (.Name "set" p) (e::es) [] pos) (wB AE wa):=
 Ig (λpn xe=>Xr (X:=wp X pn xe) hr) Ur hg hm hv ha (by decide) (by decide) he hpl
theorem bN.set(r:bN K F H v (.set l)):∃a xs,v=.ref a/\F a=some (.set xs)/\zJ K F xs l:=by
 rcases r with r|⟨_,_,_,_,e,_⟩|⟨_,_,_,_,_,e,_⟩|⟨_,_,_,_,_,e,_⟩
 .cases r with
  |st e r=>exact⟨_,_,rfl,e,r⟩
 .cases e
 .cases e
 .cases e
end
theorem JG:∀l:List Nat,(∀x∈l,p x=true->q x=true)->l.countP p<=l.countP q
 |[],_=>zd _
 |a::l,h=>by
  rw[countP_cons,countP_cons];have:=JG l λx hx=>h x (qm _ hx);cases e:p a with
  |true=>rw[h a qo e];lia
  |false=>simp only[false_eq_true,if_false];lia
theorem NA:∀l:List Nat,(∀x∈l,p x=true->q x=true)->(∃x,x∈l/\q x=true/\p x=false)->l.countP p<l.countP q
 |[],_,z=>by obtain⟨_,z,_⟩:=z;cases z
 |a::l,h,z=>by
  rw[countP_cons,countP_cons];obtain⟨x,hx,qx,px⟩:=z;by_cases e:x=a
  .subst e;have:=JG l λx hx=>h x (qm _ hx);rw[qx,px];simp only[false_eq_true,if_false,if_true];lia
  .have:=NA l (λx hx=>h x (qm _ hx)) ⟨x,(qD.mp hx).resolve_left e,qx,px⟩;cases e:p a with
   |true=>rw[h a qo e];lia
   |false=>simp only[false_eq_true,if_false];lia
def FP(l:List D)(i:Nat):Int:=((List.range l.length).countP λj=>!fZ (l.getD i .non) (l.getD j .non):Nat)
theorem RY(o:iF P)(hp:∀d∈l,P d)(hi:i<l.length)(hj:j<l.length):decide (FP l i<FP l j)=!fZ (l.getD j .non) (l.getD i .non):=by
 have at_:∀k,k<l.length->P (l.getD k .non):=λk hk=>by grind
 have pi:=at_ i hi;have pj:=at_ j hj;unfold FP;cases e:fZ (l.getD j .non) (l.getD i .non)with
 |false=>
  refine qU (Int.ofNat_lt.mpr (NA _ (λk hk h=>?_) ⟨i,qM.mpr hi,by rw[e];rfl,?_⟩))
  .have pk:=at_ k (qM.mp hk);cases q:fZ (l.getD j .non) (l.getD k .non)with
   |false=>rfl
   |true=>
    have hik:fZ (l.getD i .non) (l.getD k .non)=false:=by simpa using h
    rcases o.tot _ _ pi pj with z|z
    .rw[o.tr _ _ _ pi pj pk z q]at hik;cases hik
    .rw[z]at e;cases e
  .rcases o.tot _ _ pi pi with z|z<;>rw[z]<;>rfl
 |true=>
  refine qV λh=>?_;have:=JG (p:=λk=>!fZ (l.getD j .non) (l.getD k .non)) (q:=λk=>!fZ (l.getD i .non) (l.getD k .non)) (List.range l.length) λk hk h=>by
   have pk:=at_ k (qM.mp hk);cases q:fZ (l.getD i .non) (l.getD k .non)with
   |false=>rfl
   |true=>rw[o.tr _ _ _ pj pi pk e q]at h;cases h
  lia
section
open PySem.W HT
theorem Yi{ks js:List aR}(i:Nat)(r:zI (ks.map kV) us)(r':zI (js.map kV) vs)(h:gG sh (ks.map aK))(h':gG sh (js.map aK))(hq:Q (aL (ks.map aK) (js.map aK)==.lt) s):KatLex prog w A b (decide (ks.length<js.length)) Q (us.zip vs) i s:=by
 induction ks generalizing us vs js i sh with
 |nil=>
  have e:js=[]:=by simpa using Bv h h'
  subst e;cases r;rw[map_nil,show(aL [] []==Ordering.lt)=false by rw[aL];rfl]at hq;exact kat_nil hq
 |cons k ks ih=>cases js with
  |nil=>have e:=Bv (m:=(k::ks).map aK) h' h;cases e
  |cons j js=>
   rw[qB]at h h';rw[qB,qB]at hq;obtain⟨kd,sh',h1,h2⟩:=HZ h h';rw[Es]at hq;have e:decide ((k::ks).length<(j::js).length)=decide (ks.length<js.length):=decide_eq_decide.2 Nat.succ_lt_succ_iff;rw[e];cases r with
   |@cons _ u _ us r1 r=>
    cases r' with
    |@cons _ v _ vs r1' r'=>
     cases k with
     |inl n=>
      obtain⟨t,rfl⟩:=r1;cases j with
      |inr y=>rcases kd with⟨_,_,_,z⟩|⟨_,_,z,_⟩<;>cases z
      |inl m=>
       obtain⟨t',rfl⟩:=r1';refine kat_cons (wpAny_eqBool_int ?_);have hq:Q ((match cR (D.int n) (D.int m)with|.eq=>aL (ks.map aK) (js.map aK)|o=>o)==.lt) s:=hq;rw[HM]at hq;by_cases nm:n=m
       .subst nm;rw[zc (Int.lt_irrefl n),zc (Int.lt_irrefl n)]at hq;rw[show(n==n)=true by simp];exact kat_yes (ih (i+1) r r' h1 h2 hq)
       .rw[show(n==m)=false by simp[nm]];have hq':Q (decide (n<m)) s:=by
         by_cases z:n<m
         .rw[za z]at hq;rw[qU z];exact hq
         .rw[zc z,za (by lia)]at hq;rw[qV z];exact hq
        refine kat_no ?_;cases(b&&i==0)with
        |true=>exact oneLt_int hq'
        |false=>exact kat_one _ _ (PyProof.Rows.lt_int hq')
     |inr x=>
      obtain⟨t,rfl⟩:=r1;cases j with
      |inl y=>rcases kd with⟨_,_,z,_⟩|⟨_,_,_,z⟩<;>cases z
      |inr y=>
       obtain⟨t',rfl⟩:=r1';refine kat_cons (wpAny_eqBool_str ?_);have hq:Q ((match cR (D.str x.cps.toList) (D.str y.cps.toList)with|.eq=>aL (ks.map aK) (js.map aK)|o=>o)==.lt) s:=hq;rw[EX]at hq;by_cases nm:x=y
       .subst nm;rw[zc (List.lt_irrefl _),zc (List.lt_irrefl _)]at hq;rw[qU rfl];exact kat_yes (ih (i+1) r r' h1 h2 hq)
       .rw[qV nm];have hq':Q (decide (x.cps.toList<y.cps.toList)) s:=by
         rcases Pc x.cps.toList y.cps.toList with z|z|z
         .rw[za z]at hq;rw[qU z];exact hq
         .rw[zc (lt_asymm z),za z]at hq;rw[qV (lt_asymm z)];exact hq
         .exact absurd (AQ (a:=.inr x) (b:=.inr y) (by show D.str _=D.str _;rw[z])) (λe=>nm (by cases e;rfl))
        refine kat_no ?_;cases(b&&i==0)with
        |true=>exact oneLt_str hq'
        |false=>exact kat_one _ _ (PyProof.Rows.lt_str hq')
def tH(h:Heap)(b:Addr)(ks:List aR):Prop:=∃us,zI (ks.map kV) us/\IsTup h b us.toArray
theorem nK:∀{ps:List (List aR×Addr)},(∀p∈ps,tH h p.2 p.1/\gG (t::sh) (p.1.map aK))->∃fs:List Value,KatTups h (ps.map λp=>Value.ref p.2) fs/\fs.length=ps.length/\∀v∈fs,if t then∃z u,v=Value.str z u else∃z u,v=Value.int z u
 |[],_=>⟨[],.nil,rfl,λ_ z=>nomatch z⟩
 |(ks,b)::ps,hp=>by
  obtain⟨fs,t1,t2,t3⟩:=nK (ps:=ps) λp hq=>hp p (qm _ hq);obtain⟨⟨us,r,o,e,c,n,d⟩,hk⟩:=hp (ks,b) qo;dsimp only at r e hk;cases ks with
  |nil=>cases t<;>exact hk.elim
  |cons k ks=>
   cases r with
   |@cons _ u _ us r1 r=>
    refine⟨u::fs,.cons e c d rfl t1,by simp[t2],λv hv=>?_⟩;rcases qD.mp hv with z|z
    .subst z;cases t
     .cases k with
      |inl i=>obtain⟨tk,rfl⟩:=r1;exact⟨_,_,rfl⟩
      |inr x=>exact hk.elim
     .cases k with
      |inl i=>exact hk.elim
      |inr x=>obtain⟨tk,rfl⟩:=r1;exact⟨_,_,rfl⟩
    .exact t3 v z
end
theorem Inv.laidD(I:Inv X zL Z H s)(hn:∀m,s.heap.Ns X.env.locals m->h'.Ns X.env.locals m)(k:∀b u,b≠X.env.locals->s.heap.get? b=some u->h'.get? b=some u)
  (hp:s.heap.get? a=none)(new:zK X.prog X.w (upd H a o) h' a o):Inv X zL Z (upd H a o) {s with heap:=h',toks:=t',drawn:=d'}:=by
 have ha:H a=none:=by
  cases e:H a with
  |none=>rfl
  |some u=>obtain⟨v,z⟩:=zK.there (I.hok a u e);rw[hp]at z;cases z
 refine I.step (g':=s.gens) (d':=d') (ch:=[]) (λ_ z=>nomatch z) (λb ob nL _ _ e _=>k b ob nL e) (λb ob nL _ _ e _=>⟨ob.slots,k b ob nL e⟩) (λb ob _ e n=>by rw[cH (λz=>by rw[z,hp]at e;cases e)];exact n)
  (λb ob _ e=>?_) (λb xs q=>by rw[cH (tX q ha)];exact q) (λb u xs q=>by rw[cH (tX q ha)];exact q) (λb ps q=>⟨#[],by rw[cH (tX q ha),q];simp⟩) hn (λb ob e=>?_) I.bare
 .by_cases hb:b=X.env.locals
  .obtain⟨m,x,_⟩:=I.loc;obtain⟨o',_,_,e',_⟩:=hn m x;exact⟨o',by rw[hb];exact e'⟩
  .exact⟨ob,k b ob hb e⟩
 .by_cases hb:b=a
  .subst hb;rw[kJ]at e;cases e;exact new
  .rw[cH hb]at e;refine(I.hok b ob e).stay (λc v hc q=>k c v (λz=>?_) q) (λc q=>by rw[cH (tX q ha)];exact q) λc xs q=>by rw[cH (tX q ha)];exact q
   rw[z]at hc;rcases hc with r|r
   .rw[<-r,I.free]at e;cases e
   .rw[I.free]at r;cases r
theorem Ta(h:jQ k v=true):zA (kV k) v:=by
 rcases xM h with⟨i,t,rfl,rfl⟩|⟨x,t,rfl,rfl⟩
 .exact⟨t,rfl⟩
 .exact⟨t,rfl⟩
theorem PU(r:zI xs ys)(p:zs.Perm ys):∃us,us.Perm xs/\zI us zs:=by
 induction p generalizing xs with
 |nil=>cases r;exact⟨[],.refl _,.nil⟩
 |cons x _ ih=>
  cases r with
  |cons r1 r=>obtain⟨us,p,q⟩:=ih r;exact⟨_::us,.cons _ p,.cons r1 q⟩
 |swap x y l=>
  cases r with
  |cons r1 r=>
   cases r with
   |cons r2 r=>exact⟨_,.swap _ _ _,.cons r2 (.cons r1 r)⟩
 |trans _ _ ih1 ih2=>obtain⟨us,p,q⟩:=ih2 r;obtain⟨us',p',q'⟩:=ih1 q;exact⟨us',p'.trans p,q'⟩
def He(X:Cx)(s:Shared)(a:Addr)(vs:List V):Prop:=∃es ep t us,ST.SetAt s.heap a es ep t/\ST.Rising t.place/\t.place.size=es.size/\(X.w.params.followText "set-order"=false->t.led=true)/\us.Perm vs/\zI us (es.toList.map (·.2))/\es.size=vs.length
theorem Nr(I:Inv X zL Z H s)(e:H a=some (.set vs)):He X s a vs:=by
 have led:∀{t:SetTable},t.led=ST.ldOf X.w->X.w.params.followText "set-order"=false->t.led=true:=λe h=>by rw[e];unfold ST.ldOf;rw[h];rfl
 have kk:∀{xs:List (aR×Value)},ST.VSet (ST.ldOf X.w) (aI X.prog X.w) s.heap a xs->vs.Perm (xs.map λp=>kV p.1)->He X s a vs:=λ{xs} S p=>by
  obtain⟨es,ep,t,h1,h2,h3,h4,h5⟩:=S.at;have hk:∀p∈xs,(aI X.prog X.w).is p.1 p.2=true/\p.2.scannable=true:=let⟨_,_,_,_,_,_,_,_,_,hk,_⟩:=S;hk
  have hv:zI (xs.map λp=>kV p.1) (es.toList.map (·.2)):=by
   rw[h5]
   clear h5 p S
   induction xs with
   |nil=>exact .nil
   |cons x xs ih=>exact .cons (Ta (hk x qo).1) (ih λq hq=>hk q (qm _ hq))
  have hl:es.size=vs.length:=by have:=congrArg List.length h5;rw[qp,qp,qY]at this;rw[p.length_eq,qp,this]
  exact⟨es,ep,t,_,h1,h2,h3,led h4,p.symm,hv,hl⟩
 rcases I.hok a _ e with⟨hz,⟨h0,h1⟩|⟨_,xs,p,S⟩|⟨_,xs,p,hx,S⟩⟩
 .exact kk (xs:=[]) (ST.vset_new h1) (by rw[h0];exact .refl _)
 .exact kk S p
 .obtain⟨es,ep,t,h1,h2,h3,h4,h5⟩:=(S.full λx hx'=>xT I.hok (hx x hx')).at;refine⟨es,ep,t,xs.map λp=>V.ref p.2,h1,h2,h3,led h4,p.symm,?_,?_⟩
  .rw[h5]
   clear h5 p S hx
   induction xs with
   |nil=>exact .nil
   |cons x xs ih=>exact .cons rfl ih
  .have:=congrArg List.length h5;rw[qp,qp,qY]at this;rw[p.length_eq,qp,this]
theorem UD{α:Type}{l m:List α}(p:l.Perm m)(h:m.length<2):l=m:=by
 match m,h with
 |[],_=>exact p.eq_nil
 |[a],_=>exact p.eq_singleton
theorem HU{ι β:Type}{f:ι->β}{us:List β}{ns:List ι}(p:us.Perm (ns.map f)):∃ms:List ι,us=ms.map f/\ms.Perm ns:=by
 induction us generalizing ns with
 |nil=>first|rfl|assumption|(simp_all;done)
 |cons u us ih=>obtain⟨n,hn,rfl⟩:=qN.mp (p.mem_iff.mp qo);obtain⟨l1,l2,rfl⟩:=append_of_mem hn;rw[map_append,qB]at p;obtain⟨ms,rfl,q⟩:=ih (ns:=l1++l2) (by rw[map_append];exact(p.trans perm_middle).cons_inv);exact⟨n::ms,rfl,(List.Perm.cons n q).trans perm_middle.symm⟩
theorem JA:∀{ps:List (List aR×Addr)}{zP:List Value},zI (ps.map λp=>V.ref p.2) zP->zP=ps.map λp=>Value.ref p.2
 |[],_,.nil=>rfl
 |p::ps,_,.cons r t=>by have e:_=Value.ref p.2:=r;rw[e,JA t];rfl
theorem Js:∀ps:List (List aR×Addr),zI (ps.map λp=>V.ref p.2) (ps.map λp=>Value.ref p.2)
 |[]=>.nil
 |_::ps=>.cons rfl (Js ps)
section
variable{K:W.Frag}
theorem Og(I:Inv X zL Z H s)(k:∀b u,b≠X.env.locals->s.heap.get? b=some u->h'.get? b=some u){p:List aR×Addr}(e:H p.2=some (.tup (p.1.map kV))):tH h' p.2 p.1:=by obtain⟨us,r,⟨o,e,c,n,d⟩,_⟩:=I.tuple (bX.of e);refine⟨us,r,o,k p.2 o (λz=>?_) e,c,n,d⟩;obtain⟨m,⟨o',es,ep,e',d',_⟩,_⟩:=I.loc;rw[z,e']at e;cases e;rw[d']at d;cases d
theorem Xu(h:l.length<2):eN l=l:=by
 match l,h with
 |[],_=>rfl
 |[_],_=>rfl
theorem Oa:∀{sh:List Bool}{l:List D},gG sh l->l.all bV=true
 |[],[],_=>rfl
 |[],_::_,h=>h.elim
 |t::_,[],h=>by cases t<;>exact h.elim
 |t::sh,a::l,h=>by rw[all_cons];cases t<;>cases a<;>first|exact h.elim|exact Oa (sh:=sh) (l:=l) h
end
end FL
namespace FL
open Classical in
def kU(l:List D):Option S:=if l.length<128/\(l.length<2\/∃sh,sh≠[]/\∀d∈l,lK sh d)then some (.lst ((eN l).map .sh))else none
def DT:List D->Option S
 |[.lst l]=>kU l
 |[.set l]=>kU l
 |_=>none
open Classical in
def cT(l:List D):Option S:=if(l.length<64/\((gO l).isSome=true\/(cS l).isSome=true))\/l.length<128/\(l.length<2\/∃sh,sh≠[]/\∀d∈l,lK sh d)then some (.lst ((eN l).map .sh))else none
def eL:List D->Option S
 |[.lst l]=>cT l
 |[.set l]=>cT l
 |_=>none
end FL
namespace TS
open PySem PyProof.Rows
def dP:Bool->Keyed->Array Keyed->Nat->Nat->Nat->StateT SortSt Sem (Option Nat):=sortPriv%PySem.Builtin.gallop
def ask(left:Bool)(key:Keyed)(arr:Array Keyed)(i:Nat):StateT SortSt Sem (Option Bool):=do
 let x<-elem' arr i
 if left then lt' x key else return(<-lt' key x).map (!·)
def pB(left:Bool)(key:Keyed)(arr:Array Keyed)(base n u0 v0:Nat):StateT SortSt Sem (Option Nat):=do
 let mut u:=u0
 let mut v:=v0
 for _ in[0:n] do
  if u≥v then break
  let m:=u+(v-u)/2
  let some y<-ask left key arr (base+m)|return none
  if y then u:=m+1 else v:=m
 return some v
theorem pC(left:Bool)(key:Keyed)(arr:Array Keyed)(base n hint:Nat):dP left key arr base n hint=(do
 let mut p:=0
 let mut q:=1
 let mut u:=0
 let mut v:=0
 let some z<-ask left key arr (base+hint)|return none
 if z then
  let m:=n-hint
  for _ in[0:n] do
   if q≥m then break
   let some y<-ask left key arr (base+(hint+q))|return none
   if !y then break
   p:=q
   q:=2*q+1
  u:=hint+p+1
  v:=hint+min q m
 else
  let m:=hint+1
  for _ in[0:n] do
   if q≥m then break
   let some y<-ask left key arr (base+(hint-q))|return none
   if y then break
   p:=q
   q:=2*q+1
  u:=hint+1-min q m
  v:=hint-p
 pB left key arr base n u v):=rfl
structure Cmp(M:Model)(A:Around)(E:zo)(s:Shared)(κ:SortKind)(ok:Keyed->Prop)(rk:Keyed->Int):Prop where
 lt:∀(x y:Keyed)(Q:Option Bool->SortSt->Prop)(st:SortSt),kindOf st=κ->ok x->ok y->Q (some (decide (rk x<rk y))) st->wpS M A E s (lt' x y) Q st
theorem aH{arr:Array Keyed}{i:Nat}{Q:Keyed->SortSt->Prop}{st:SortSt}(h:i<arr.size)(hQ:Q arr[i] st):wpS M A E s (elem' arr i) Q st:=by rw[elem'_eq,getElem?_eq_getElem h];exact wpS_pure hQ
def bC(rk:Keyed->Int)(xs:Array Keyed)(i:Nat):Int:=(xs[i]?).elim 0 rk
def fU(rk:Keyed->Int)(left:Bool)(key:Keyed)(arr:Array Keyed)(i:Nat):Bool:=if left then decide (bC rk arr i<rk key)else decide (bC rk arr i<=rk key)
theorem aT{arr:Array Keyed}{i:Nat}(h:i<arr.size):bC rk arr i=rk arr[i]:=by unfold bC;rw[getElem?_eq_getElem h];rfl
theorem iN(C:Cmp M A E s κ ok rk){left:Bool}{key:Keyed}{arr:Array Keyed}(hk:ok key)(ha:∀i(h:i<arr.size),ok arr[i]){i:Nat}(hi:i<arr.size){Q:Option Bool->SortSt->Prop}{st:SortSt}(hst:kindOf st=κ)
  (hQ:Q (some (fU rk left key arr i)) st):wpS M A E s (ask left key arr i) Q st:=by
 refine wpS_bind (aH hi ?_);unfold fU at hQ;rw[aT hi]at hQ;cases left
 .refine wpS_bind (C.lt _ _ _ _ hst hk (ha _ hi) (wpS_pure ?_));rw[show decide (rk arr[i]<=rk key)=!decide (rk key<rk arr[i]) by simp[<-Int.not_lt]]at hQ;exact hQ
 .exact C.lt _ _ _ _ hst (ha _ hi) hk hQ
def Up(rk:Keyed->Int)(xs:Array Keyed)(lo hi:Nat):Prop:=∀i j,lo<=i->i<=j->j<hi->bC rk xs i<=bC rk xs j
theorem fI{left:Bool}{key:Keyed}{arr:Array Keyed}{base n:Nat}(hu:Up rk arr base (base+n)){i j:Nat}(hij:i<=j)(hj:j<n)(h:fU rk left key arr (base+j)=true):fU rk left key arr (base+i)=true:=by have:=hu (base+i) (base+j) (by lia) (by lia) (by lia);unfold fU at h⊢;cases left<;>simp_all<;>lia
def tM(rk:Keyed->Int)(left:Bool)(key:Keyed)(arr:Array Keyed)(base n u v:Nat):Prop:=u<=v/\v<=n/\(∀i,i<u->fU rk left key arr (base+i)=true)/\∀i,v<=i->i<n->fU rk left key arr (base+i)=false
theorem iT(C:Cmp M A E s κ ok rk){left:Bool}{key:Keyed}{arr:Array Keyed}{base n u v:Nat}{Q:Option Nat->SortSt->Prop}{st:SortSt}(hk:ok key)(ha:∀i(h:i<arr.size),ok arr[i])(hn:base+n<=arr.size)(hu:Up rk arr base (base+n))(hst:kindOf st=κ)(hc:tM rk left key arr base n u v)
  (h:∀k,tM rk left key arr base n k k->Q (some k) st):wpS M A E s (pB left key arr base n u v) Q st:=by
 have no_up:∀{i j:Nat},i<=j->j<n->fU rk left key arr (base+i)=false->fU rk left key arr (base+j)=false:=λ{i j} hij hj hb=>by
  cases q:fU rk left key arr (base+j)with
  |false=>rfl
  |true=>rw[fI hu hij hj q]at hb;cases hb
 unfold pB;refine wpS_bind (wpS_mono (wpS_forRange (I:=λx c st'=>st'=st/\c.1=none/\tM rk left key arr base n c.2.1 c.2.2/\c.2.2-c.2.1<=n-x)
  (Q:=λc st'=>st'=st/\c.1=none/\tM rk left key arr base n c.2.2 c.2.2) ?step ?fin ⟨rfl,rfl,hc,by have:=hc.2.1;simp only;lia⟩) ?post)
 case fin=>
  rintro⟨r,l,u⟩ st' ⟨rfl,hr,⟨g1,g2,g3,g4⟩,g5⟩;simp only at g1 g5;obtain rfl:l=u:=by lia
  exact⟨rfl,hr,g1,g2,g3,g4⟩
 case step=>
  rintro x ⟨r,l,u⟩ st' _ hx ⟨rfl,hr,⟨g1,g2,g3,g4⟩,g5⟩;simp only at hr g1 g2 g3 g4 g5⊢;by_cases hlu:l≥u
  .rw[za hlu];obtain rfl:l=u:=by lia
   exact wpS_pure ⟨rfl,rfl,g1,g2,g3,g4⟩
  .rw[zc hlu];refine wpS_bind (iN C hk ha (by lia) hst ?_);cases q:fU rk left key arr (base+(l+(u-l)/2))with
   |true=>exact wpS_pure ⟨rfl,rfl,⟨by simp only;lia,g2,λi hi=>fI hu (show i<=l+(u-l)/2 by simp only at hi;lia) (by lia) q,g4⟩,by simp only;lia⟩
   |false=>exact wpS_pure ⟨rfl,rfl,⟨by simp only;lia,by simp only;lia,g3,λi hi hin=>no_up (show l+(u-l)/2<=i from hi) hin q⟩,by simp only;lia⟩
 case post=>rintro⟨r,l,u⟩ st' ⟨rfl,hr,g⟩;simp only at hr g;subst hr;exact wpS_pure (h u g)
theorem cJ(C:Cmp M A E s κ ok rk){left:Bool}{key:Keyed}{arr:Array Keyed}{base n hint:Nat}{Q:Option Nat->SortSt->Prop}{st:SortSt}(hk:ok key)(ha:∀i(h:i<arr.size),ok arr[i])(hn:base+n<=arr.size)(hh:hint<n)(hu:Up rk arr base (base+n))(hst:kindOf st=κ)
  (h:∀k,tM rk left key arr base n k k->Q (some k) st):wpS M A E s (dP left key arr base n hint) Q st:=by
 have no_up:∀{i j:Nat},i<=j->j<n->fU rk left key arr (base+i)=false->fU rk left key arr (base+j)=false:=λ{i j} hij hj hb=>by
  cases q:fU rk left key arr (base+j)with
  |false=>rfl
  |true=>rw[fI hu hij hj q]at hb;cases hb
 rw[pC];refine wpS_bind (iN C hk ha (by lia) hst ?_);cases q:fU rk left key arr (base+hint)with
 |true=>
  refine wpS_bind (wpS_mono (wpS_forRange (I:=λx c st'=>st'=st/\c.1=none/\c.2.1<c.2.2/\x<c.2.2/\hint+c.2.1<n/\fU rk left key arr (base+(hint+c.2.1))=true)
   (Q:=λc st'=>st'=st/\c.1=none/\c.2.1<c.2.2/\hint+c.2.1<n/\fU rk left key arr (base+(hint+c.2.1))=true/\(n<=hint+c.2.2\/fU rk left key arr (base+(hint+c.2.2))=false)) ?step ?fin ⟨rfl,rfl,by decide,by decide,by simpa using hh,by simpa using q⟩) ?post)
  case fin=>rintro⟨r,l,u⟩ st' ⟨rfl,hr,g1,g2,g3,g4⟩;exact⟨rfl,hr,g1,g3,g4,.inl (by simp only at g2⊢;lia)⟩
  case step=>
   rintro x ⟨r,l,u⟩ st' _ hx ⟨rfl,hr,g1,g2,g3,g4⟩;simp only at g1 g2 g3 g4⊢;by_cases hlu:u≥n-hint
   .rw[za hlu];exact wpS_pure ⟨rfl,rfl,g1,g3,g4,.inl (by simp only;lia)⟩
   .rw[zc hlu];refine wpS_bind (iN C hk ha (by lia) hst ?_);cases q2:fU rk left key arr (base+(hint+u))with
    |true=>exact wpS_pure ⟨rfl,rfl,by simp only;lia,by simp only;lia,by simp only;lia,q2⟩
    |false=>exact wpS_pure ⟨rfl,rfl,g1,g3,g4,.inr q2⟩
  case post=>
   rintro⟨r,l,u⟩ st1 ⟨rfl,hr,g1,g3,g4,g5⟩;simp only at g1 g3 g4 g5 hr;subst hr;refine iT C hk ha hn hu hst ⟨by lia,by lia,λi hi=>fI hu (show i<=hint+l by lia) g3 g4,λi hi hin=>?_⟩ h;rcases g5 with g5|g5
   .lia
   .exact no_up (show hint+u<=i by lia) hin g5
 |false=>
  refine wpS_bind (wpS_mono (wpS_forRange (I:=λx c st'=>st'=st/\c.1=none/\c.2.1<c.2.2/\x<c.2.2/\c.2.1<=hint/\fU rk left key arr (base+(hint-c.2.1))=false)
   (Q:=λc st'=>st'=st/\c.1=none/\c.2.1<c.2.2/\c.2.1<=hint/\fU rk left key arr (base+(hint-c.2.1))=false/\(hint<c.2.2\/fU rk left key arr (base+(hint-c.2.2))=true)) ?step ?fin ⟨rfl,rfl,by decide,by decide,by simp,by simpa using q⟩) ?post)
  case fin=>rintro⟨r,l,u⟩ st' ⟨rfl,hr,g1,g2,g3,g4⟩;exact⟨rfl,hr,g1,g3,g4,.inl (by simp only at g2⊢;lia)⟩
  case step=>
   rintro x ⟨r,l,u⟩ st' _ hx ⟨rfl,hr,g1,g2,g3,g4⟩;simp only at g1 g2 g3 g4⊢;by_cases hlu:u≥hint+1
   .rw[za hlu];exact wpS_pure ⟨rfl,rfl,g1,g3,g4,.inl (by simp only;lia)⟩
   .rw[zc hlu];refine wpS_bind (iN C hk ha (by lia) hst ?_);cases q2:fU rk left key arr (base+(hint-u))with
    |true=>exact wpS_pure ⟨rfl,rfl,g1,g3,g4,.inr q2⟩
    |false=>exact wpS_pure ⟨rfl,rfl,by simp only;lia,by simp only;lia,by simp only;lia,q2⟩
  case post=>
   rintro⟨r,l,u⟩ st1 ⟨rfl,hr,g1,g3,g4,g5⟩;simp only at g1 g3 g4 g5 hr;subst hr;refine iT C hk ha hn hu hst ⟨by lia,by lia,λi hi=>?_,λi hi hin=>no_up (show hint-l<=i by lia) hin g4⟩ h;rcases g5 with g5|g5
   .lia
   .exact fI hu (show i<=hint-u by lia) (by lia) g5
def jA(g:Nat):StateT SortSt Sem Unit:=modify λs=>SortSt.mk' (kindOf s) (arrOf s) (pendingOf s) g (failedOf s)
def jK:Array Keyed->Array Keyed->StateT SortSt Sem (Array Keyed):=sortPriv%PySem.Builtin.mergeLo
def kM(a b o:Array Keyed)(i j:Nat):Array Keyed:=o++a.extract i a.size++b.extract j b.size
def fin2(a b o:Array Keyed)(i j:Nat):Array Keyed:=o++b.extract j b.size++a.extract i a.size
abbrev Mo:=Array Keyed×Nat×Nat×Nat×Nat×Nat
abbrev LS(α:Type):=ForInStep (Option (Array Keyed)×α)
def IK(a b:Array Keyed)(g c d i:Nat)(o:Array Keyed)(j:Nat):StateT SortSt Sem (LS Mo):=do
 let x<-elem' a i
 if i+1+1==a.size then return .done (some (fin2 a b (o.push x) (i+1) j),o.push x,i+1,j,g,c,d)
 if c<7&&d<7 then return .done (none,o.push x,i+1,j,g,c,d)
 return .yield (none,o.push x,i+1,j,g,c,d)
def IL(a b:Array Keyed)(g c d j:Nat)(o:Array Keyed)(i:Nat):StateT SortSt Sem (LS Mo):=do
 let x<-elem' b j
 if j+1==b.size then return .done (some (kM a b (o.push x) i (j+1)),o.push x,i,j+1,g,c,d)
 match<-dP true (<-elem' a i) b (j+1) (b.size-(j+1)) 0 with
 |some k=>
  if k>0 then
   if j+1+k==b.size then return .done (some (kM a b (o.push x++b.extract (j+1) (j+1+k)) i (j+1+k)),o.push x++b.extract (j+1) (j+1+k),i,j+1+k,g,c,k)
   IK a b g c k i (o.push x++b.extract (j+1) (j+1+k)) (j+1+k)
  else IK a b g c k i (o.push x) (j+1)
 |_=>return .done (some (kM a b (o.push x) i (j+1)),o.push x,i,j+1,g,c,d)
def lo1(a b o:Array Keyed)(i j c d g:Nat):StateT SortSt Sem (LS Mo):=do
 jA g
 match<-dP false (<-elem' b j) a i (a.size-i) 0 with
 |some k=>
  if k>0 then
   if i+k+1==a.size then return .done (some (fin2 a b (o++a.extract i (i+k)) (i+k) j),o++a.extract i (i+k),i+k,j,g,k,d)
   if i+k==a.size then return .done (some (kM a b (o++a.extract i (i+k)) (i+k) j),o++a.extract i (i+k),i+k,j,g,k,d)
   IL a b g k d j (o++a.extract i (i+k)) (i+k)
  else IL a b g k d j o i
 |_=>return .done (some (kM a b o i j),o,i,j,g,c,d)
def Mf(a b:Array Keyed)(g:Nat)(s:Option (Array Keyed)×Array Keyed×Nat×Nat×Nat×Nat):StateT SortSt Sem (LS (Array Keyed×Nat×Nat×Nat×Nat)):=do
 match<-lt' (<-elem' b s.2.2.2.1) (<-elem' a s.2.2.1)with
 |some y=>
  if y then
   let x<-elem' b s.2.2.2.1
   if s.2.2.2.1+1==b.size then return .done (some (kM a b (s.2.1.push x) s.2.2.1 (s.2.2.2.1+1)),s.2.1.push x,s.2.2.1,s.2.2.2.1+1,0,s.2.2.2.2.2+1)
   if s.2.2.2.2.2+1≥g then return .done (none,s.2.1.push x,s.2.2.1,s.2.2.2.1+1,0,s.2.2.2.2.2+1)
   return .yield (none,s.2.1.push x,s.2.2.1,s.2.2.2.1+1,0,s.2.2.2.2.2+1)
  else
   let x<-elem' a s.2.2.1
   if s.2.2.1+1+1==a.size then return .done (some (fin2 a b (s.2.1.push x) (s.2.2.1+1) s.2.2.2.1),s.2.1.push x,s.2.2.1+1,s.2.2.2.1,s.2.2.2.2.1+1,0)
   if s.2.2.2.2.1+1≥g then return .done (none,s.2.1.push x,s.2.2.1+1,s.2.2.2.1,s.2.2.2.2.1+1,0)
   return .yield (none,s.2.1.push x,s.2.2.1+1,s.2.2.2.1,s.2.2.2.2.1+1,0)
 |_=>return .done (some (kM a b s.2.1 s.2.2.1 s.2.2.2.1),s.2.1,s.2.2.1,s.2.2.2.1,s.2.2.2.2.1,s.2.2.2.2.2)
def IJ(a b:Array Keyed)(s:Option (Array Keyed)×Mo):StateT SortSt Sem (LS Mo):=lo1 a b s.2.1 s.2.2.1 s.2.2.2.1 s.2.2.2.2.2.1 s.2.2.2.2.2.2 (if s.2.2.2.2.1>1 then s.2.2.2.2.1-1 else s.2.2.2.2.1)
def II(a b:Array Keyed)(t:Nat)(s:Option (Array Keyed)×Array Keyed×Nat×Nat×Nat):StateT SortSt Sem (LS (Array Keyed×Nat×Nat×Nat)):=
 (forIn [:t] (none,s.2.1,s.2.2.1,s.2.2.2.1,0,0) λ_=>Mf a b s.2.2.2.2)>>=λr=>Break.runK.match_1 (λ_=>StateT SortSt Sem (LS (Array Keyed×Nat×Nat×Nat))) r.1 (λx=>pure (.done (some x,r.2.1,r.2.2.1,r.2.2.2.1,s.2.2.2.2))) λ_=>do
  rule "list.sort.gallop"
  (forIn [:t] (none,r.2.1,r.2.2.1,r.2.2.2.1,s.2.2.2.2+1,r.2.2.2.2) λ_=>IJ a b)>>=λq=>Break.runK.match_1 (λ_=>StateT SortSt Sem (LS (Array Keyed×Nat×Nat×Nat))) q.1 (λx=>pure (.done (some x,q.2.1,q.2.2.1,q.2.2.2.1,q.2.2.2.2.1))) λ_=>do
   jA (q.2.2.2.2.1+1)
   return .yield (none,q.2.1,q.2.2.1,q.2.2.2.1,q.2.2.2.2.1+1)
theorem nG(a b:Array Keyed):jK a b=(do
 rule "list.sort.merge-lo"
 let x<-elem' b 0
 if 1==b.size then return kM a b #[x] 0 1
 if 0+1==a.size then return fin2 a b #[x] 0 1
 let s<-get
 (forIn [:a.size+b.size] (none,#[x],0,1,gallopOf s) λ_=>II a b (a.size+b.size))>>=λr=>Break.runK.match_1 (λ_=>StateT SortSt Sem (Array Keyed)) r.1 (λr=>pure r) λ_=>unsupported "internal:list.sort.merge-bound"):=by
 have e:∀(s:Option (Array Keyed)×Mo),IJ a b s=(if s.2.2.2.2.1>1 then lo1 a b s.2.1 s.2.2.1 s.2.2.2.1 s.2.2.2.2.2.1 s.2.2.2.2.2.2 (s.2.2.2.2.1-1)else lo1 a b s.2.1 s.2.2.1 s.2.2.2.1 s.2.2.2.2.2.1 s.2.2.2.2.2.2 s.2.2.2.2.1):=λs=>by unfold IJ;by_cases hg:s.2.2.2.2.1>1<;>simp only[hg,if_true,if_false]
 unfold II;rw[show IJ a b=_ from funext e];rfl
def kF(rk:Keyed->Int)(l:List Keyed):Prop:=l.Pairwise λx y=>rk x<=rk y
def Below(rk:Keyed->Int)(l m:List Keyed):Prop:=∀x∈l,∀y∈m,rk x<=rk y
structure MG(rk:Keyed->Int)(all l ra rb:List Keyed):Prop where
 perm:(l++(ra++rb)).Perm all
 sl:kF rk l
 sa:kF rk ra
 sb:kF rk rb
 la:Below rk l ra
 lb:Below rk l rb
theorem MG.swap(m:MG rk all l ra rb):MG rk all l rb ra:=⟨((qQ (l₁:=rb)).append_left l).trans m.perm,m.sl,m.sb,m.sa,m.lb,m.la⟩
theorem MG.takeA(m:MG rk all l (p++ra) rb)(h:Below rk p rb):MG rk all (l++p) ra rb:=by
 obtain⟨h1,h2,h3⟩:=pairwise_append.mp m.sa;refine⟨by simpa using m.perm,pairwise_append.mpr ⟨m.sl,h1,λx hx y hy=>m.la x hx y (qk _ hy)⟩,h2,m.sb,λx hx y hy=>?_,λx hx y hy=>?_⟩
 .exact(qA.mp hx).elim (λz=>m.la x z y (qj _ hy)) λz=>h3 x z y hy
 .exact(qA.mp hx).elim (λz=>m.lb x z y hy) λz=>h x z y hy
theorem MG.takeB(m:MG rk all l ra (p++rb))(h:Below rk p ra):MG rk all (l++p) ra rb:=(m.swap.takeA h).swap
theorem MG.end(m:MG rk all l ra rb)(h:Below rk rb ra):(l++rb++ra).Perm all/\kF rk (l++rb++ra):=by rw[qq];exact⟨((qQ (l₁:=rb)).append_left l).trans m.perm,pairwise_append.mpr ⟨m.sl,pairwise_append.mpr ⟨m.sb,m.sa,h⟩,λx hx y hy=>(qA.mp hy).elim (m.lb x hx y) (m.la x hx y)⟩⟩
theorem eB{x y:Keyed}(h:rk x<=rk y)(hs:kF rk (y::l)):∀z∈y::l,rk x<=rk z:=λz hz=>by
 rcases qD.mp hz with rfl|hz
 .exact h
 .exact Int.le_trans h ((pairwise_cons.mp hs).1 z hz)
theorem bL{α:Type}{a:Array α}{i:Nat}(h:i<a.size):a.toList.drop i=a[i]::a.toList.drop (i+1):=by rw[List.drop_eq_getElem_cons (by simpa using h)];simp
theorem oI{a:Array Keyed}{i n:Nat}(h:kF rk (a.toList.drop i))(hn:i+n<=a.size):Up rk a i (i+n):=λj k h1 h2 h3=>by
 rw[aT (show j<a.size by lia),aT (show k<a.size by lia)];by_cases e:j=k
 .subst e;exact Int.le_refl _
 .have:=pairwise_iff_getElem.mp h (j-i) (k-i) (by simp;lia) (by simp;lia) (by lia);simpa[show i+(j-i)=j by lia,show i+(k-i)=k by lia] using this
theorem jT{left:Bool}{a:Array Keyed}{i n k:Nat}{key:Keyed}(hc:tM rk left key a i n k k)(hn:i+n<=a.size)(hs:kF rk (key::l)):Below rk ((a.toList.drop i).take k) (key::l):=λx hx=>by obtain⟨j,hj,rfl⟩:=List.mem_iff_getElem.mp hx;have hk:=hc.2.1;rw[qK,qJ,qY]at hj;have h1:=hc.2.2.1 j (by lia);unfold fU at h1;rw[aT (show i+j<a.size by lia)]at h1;refine eB ?_ hs;simp only[getElem_take,getElem_drop,getElem_toList];cases left<;>simp at h1<;>lia
theorem cW{Z:Type}{name:String}{Q:PUnit->Z->Prop}{st:Z}(h:Q ⟨⟩ st):wpS M A E s (liftM (rule name):StateT Z Sem PUnit) Q st:=wpS_lift (wpAny_rule ⟨rfl,h⟩)
def bO(st st':SortSt):Prop:=kindOf st'=kindOf st/\arrOf st'=arrOf st/\pendingOf st'=pendingOf st/\failedOf st'=failedOf st
theorem bO.trans{st st1 st2:SortSt}(h:bO st st1)(k:bO st1 st2):bO st st2:=⟨k.1.trans h.1,k.2.1.trans h.2.1,k.2.2.1.trans h.2.2.1,k.2.2.2.trans h.2.2.2⟩
theorem eE{g:Nat}{Q:PUnit->SortSt->Prop}{st:SortSt}(h:∀st',bO st st'->Q ⟨⟩ st'):wpS M A E s (jA g) Q st:=wpS_modify (h _ ⟨rfl,rfl,rfl,rfl⟩)
def kN(rk:Keyed->Int)(a b r:Array Keyed):Prop:=r.toList.Perm (a.toList++b.toList)/\kF rk r.toList
structure Go(rk:Keyed->Int)(a b o:Array Keyed)(i j:Nat):Prop where
 m:MG rk (a.toList++b.toList) o.toList (a.toList.drop i) (b.toList.drop j)
 i:i+1<a.size
 j:j<b.size
section
variable{a b o:Array Keyed}
theorem yZ(m:MG rk (a.toList++b.toList) o.toList (a.toList.drop i) (b.toList.drop j))(h:j=b.size):kN rk a b (kM a b o i j):=by
 have hb:b.toList.drop j=[]:=by simp[h]
 rw[hb]at m;have:=m.end λx hx=>nomatch hx
 unfold kN kM;simpa[hb,take_of_length_le,h] using this
theorem yY(m:MG rk (a.toList++b.toList) o.toList (a.toList.drop i) (b.toList.drop j))(h:i+1=a.size)(hl:∀y∈b.toList,rk y<bC rk a (a.size-1)):kN rk a b (fin2 a b o i j):=by
 have:=m.end λx hx y hy=>by rw[bL (show i<a.size by lia),drop_of_length_le (by simp;lia),qw]at hy;have h1:=hl x (mem_of_mem_drop hx);rw[show a.size-1=i by lia,aT (show i<a.size by lia),<-hy]at h1;exact Int.le_of_lt h1
 unfold kN fin2;simpa[take_of_length_le] using this
theorem vH(m:MG rk (a.toList++b.toList) o.toList (a.toList.drop i) (b.toList.drop j))(hi:i<a.size)(hj:j<b.size)(h:rk b[j]<=rk a[i]):MG rk (a.toList++b.toList) (o.push b[j]).toList (a.toList.drop i) (b.toList.drop (j+1)):=by rw[bL hj]at m;rw[toList_push];have sa:=m.sa;rw[bL hi]at sa;refine MG.takeB (p:=[b[j]]) m λx hx=>?_;rw[qw.mp hx,bL hi];exact eB h sa
theorem Be(m:MG rk (a.toList++b.toList) o.toList (a.toList.drop i) (b.toList.drop j))(hi:i<a.size)(hj:j<b.size)(h:rk a[i]<=rk b[j]):MG rk (a.toList++b.toList) (o.push a[i]).toList (a.toList.drop (i+1)) (b.toList.drop j):=by rw[bL hi]at m;rw[toList_push];have sb:=m.sb;rw[bL hj]at sb;refine MG.takeA (p:=[a[i]]) m λx hx=>?_;rw[qw.mp hx,bL hj];exact eB h sb
theorem DR(m:MG rk (a.toList++b.toList) o.toList (a.toList.drop i) (b.toList.drop j))(hi:i<=a.size)(hj:j<b.size)(hc:tM rk false b[j] a i (a.size-i) k k):MG rk (a.toList++b.toList) (o++a.extract i (i+k)).toList (a.toList.drop (i+k)) (b.toList.drop j):=by have sb:=m.sb;rw[bL hj]at sb;rw[<-take_append_drop k (a.toList.drop i),drop_drop]at m;rw[toList_append,toList_extract,extract_eq_take_drop,show i+k-i=k by lia];refine MG.takeA m ?_;rw[bL hj];exact jT hc (by lia) sb
theorem DQ(m:MG rk (a.toList++b.toList) o.toList (a.toList.drop i) (b.toList.drop j))(hi:i<a.size)(hj:j<=b.size)(hc:tM rk true a[i] b j (b.size-j) k k):MG rk (a.toList++b.toList) (o++b.extract j (j+k)).toList (a.toList.drop i) (b.toList.drop (j+k)):=by have sa:=m.sa;rw[bL hi]at sa;rw[<-take_append_drop k (b.toList.drop j),drop_drop]at m;rw[toList_append,toList_extract,extract_eq_take_drop,show j+k-j=k by lia];refine MG.takeB m ?_;rw[bL hi];exact jT hc (by lia) sa
def lN{α:Type}(rk:Keyed->Int)(a b:Array Keyed)(n:Nat)(r:ForInStep (Option (Array Keyed)×Array Keyed×Nat×Nat×α)):Prop:=match r with
 |.done (some r,_)=>kN rk a b r
 |.done (none,o,i,j,_)=>Go rk a b o i j/\n<o.size
 |.yield (q,o,i,j,_)=>q=none/\Go rk a b o i j/\n<o.size
structure EB(C:Cmp M A E s κ ok rk)(a b:Array Keyed):Prop where
 oa:∀i(h:i<a.size),ok a[i]
 ob:∀i(h:i<b.size),ok b[i]
 hl:∀y∈b.toList,rk y<bC rk a (a.size-1)
theorem CQ{C:Cmp M A E s κ ok rk}(H:EB C a b){st:SortSt}(hst:kindOf st=κ)(G:Go rk a b o i j)(r:Option (Array Keyed)):wpS M A E s (Mf a b g (r,o,i,j,c,d)) (λr st'=>st'=st/\lN rk a b o.size r) st:=by
 have hi:i<a.size:=by have:=G.i;lia
 have hj:=G.j;unfold Mf;refine wpS_bind (aH G.j ?_);refine wpS_bind (aH hi ?_);refine wpS_bind (C.lt _ _ _ _ hst (H.ob _ G.j) (H.oa _ hi) ?_);by_cases hlt:rk b[j]<rk a[i]
 .rw[qU hlt];refine wpS_bind (aH G.j ?_);have m:=vH G.m hi G.j (Int.le_of_lt hlt);have sz:o.size<(o.push b[j]).size:=by simp
  by_cases h1:j+1=b.size
  .simp only[h1,beq_self_eq_true,if_true];exact wpS_pure ⟨rfl,h1▸yZ m h1⟩
  .simp only[beq_eq_false_iff_ne.mpr h1,false_eq_true,if_false];have G':Go rk a b (o.push b[j]) i (j+1):=⟨m,G.i,by have:=G.j;lia⟩
   split
   .exact wpS_pure ⟨rfl,G',sz⟩
   .exact wpS_pure ⟨rfl,rfl,G',sz⟩
 .rw[qV hlt];refine wpS_bind (aH hi ?_);have m:=Be G.m hi G.j (by lia);have sz:o.size<(o.push a[i]).size:=by simp
  by_cases h1:i+1+1=a.size
  .simp only[h1,beq_self_eq_true,if_true];exact wpS_pure ⟨rfl,yY m h1 H.hl⟩
  .simp only[beq_eq_false_iff_ne.mpr h1,false_eq_true,if_false];have G':Go rk a b (o.push a[i]) (i+1) j:=⟨m,by have:=G.i;lia,G.j⟩
   split
   .exact wpS_pure ⟨rfl,G',sz⟩
   .exact wpS_pure ⟨rfl,rfl,G',sz⟩
theorem pF{left:Bool}{key:Keyed}{arr:Array Keyed}{base:Nat}(hc:tM rk left key arr base n k k)(hk:k<n)(hn:base+n<=arr.size):rk key<=rk (arr[base+k]'(by lia)):=by have:=hc.2.2.2 k (zd _) hk;unfold fU at this;rw[aT (show base+k<arr.size by lia)]at this;cases left<;>simp at this<;>lia
theorem vQ{C:Cmp M A E s κ ok rk}(H:EB C a b){st:SortSt}(m:MG rk (a.toList++b.toList) o.toList (a.toList.drop i) (b.toList.drop j))(hi:i+1<a.size)(hj:j<b.size)(h:rk a[i]<=rk b[j])(hn:n<=o.size):wpS M A E s (IK a b g c d i o j) (λr st'=>st'=st/\lN rk a b n r) st:=by
 unfold IK;refine wpS_bind (aH (show i<a.size by lia) ?_);have m:=Be m (show i<a.size by lia) hj h;have sz:n<(o.push a[i]).size:=by simp;lia
 by_cases h1:i+1+1=a.size
 .simp only[h1,beq_self_eq_true,if_true];exact wpS_pure ⟨rfl,yY m h1 H.hl⟩
 .simp only[beq_eq_false_iff_ne.mpr h1,false_eq_true,if_false];have G':Go rk a b (o.push a[i]) (i+1) j:=⟨m,by lia,hj⟩
  split
  .exact wpS_pure ⟨rfl,G',sz⟩
  .exact wpS_pure ⟨rfl,rfl,G',sz⟩
theorem vR{C:Cmp M A E s κ ok rk}(H:EB C a b){st:SortSt}(hst:kindOf st=κ)(m:MG rk (a.toList++b.toList) o.toList (a.toList.drop i) (b.toList.drop j))(hi:i+1<a.size)(hj:j<b.size)(h:rk b[j]<=rk a[i])(hn:n<=o.size):wpS M A E s (IL a b g c d j o i) (λr st'=>st'=st/\lN rk a b n r) st:=by
 unfold IL;refine wpS_bind (aH hj ?_);have m:=vH m (show i<a.size by lia) hj h;have sz:n<=(o.push b[j]).size:=by simp;lia
 by_cases h1:j+1=b.size
 .simp only[h1,beq_self_eq_true,if_true];exact wpS_pure ⟨rfl,h1▸yZ m h1⟩
 .simp only[beq_eq_false_iff_ne.mpr h1,false_eq_true,if_false];refine wpS_bind (aH (show i<a.size by lia) ?_);refine wpS_bind (cJ C (H.oa _ _) H.ob (by lia) (by lia) (oI m.sb (by lia)) hst λk hc=>?_);have hk:=hc.2.1;by_cases k0:k>0
  .simp only[k0,if_true];have m2:=DQ m (show i<a.size by lia) (by lia) hc;by_cases h2:j+1+k=b.size
   .simp only[h2,beq_self_eq_true,if_true];exact wpS_pure ⟨rfl,h2▸yZ m2 h2⟩
   .simp only[beq_eq_false_iff_ne.mpr h2,false_eq_true,if_false];exact vQ H m2 hi (by lia) (pF hc (by lia) (by lia)) (by simp;lia)
  .simp only[k0,if_false];obtain rfl:k=0:=by lia
   exact vQ H m hi (by lia) (pF hc (by lia) (by lia)) sz
theorem CP{C:Cmp M A E s κ ok rk}(H:EB C a b){st:SortSt}(hst:kindOf st=κ)(G:Go rk a b o i j):wpS M A E s (lo1 a b o i j c d g) (λr st'=>bO st st'/\lN rk a b o.size r) st:=by
 have hi:=G.i;have hj:=G.j;unfold lo1;refine wpS_bind (eE λst1 ks=>?_);refine wpS_bind (aH hj ?_);refine wpS_bind (cJ C (H.ob _ _) H.oa (by lia) (by lia) (oI G.m.sa (by lia)) (ks.1.trans hst) λk hc=>?_);have hk:=hc.2.1;have hlast:i+k<a.size:=by
  rcases lt_or_ge (i+k) a.size with h|h
  .exact h
  .have h1:=hc.2.2.1 (a.size-1-i) (by lia);have h2:=H.hl b[j] (by simp);unfold fU at h1;rw[show i+(a.size-1-i)=a.size-1 by lia]at h1;simp at h1;lia
 have hno:=pF hc (by lia) (by lia);by_cases k0:k>0
 .simp only[k0,if_true];have m2:=DR G.m (by lia) hj hc;by_cases h1:i+k+1=a.size
  .simp only[h1,beq_self_eq_true,if_true];exact wpS_pure ⟨ks,yY m2 h1 H.hl⟩
  .simp only[beq_eq_false_iff_ne.mpr h1,beq_eq_false_iff_ne.mpr (show i+k≠a.size by lia),false_eq_true,if_false];exact wpS_mono (vR (n:=o.size) H (ks.1.trans hst) m2 (by lia) hj hno (by simp)) λr st' z=>⟨z.1▸ks,z.2⟩
 .simp only[k0,if_false];obtain rfl:k=0:=by lia
  exact wpS_mono (vR (n:=o.size) H (ks.1.trans hst) G.m (by lia) hj hno (zd _)) λr st' z=>⟨z.1▸ks,z.2⟩
def Hc{α:Type}(rk:Keyed->Int)(a b:Array Keyed)(n:Nat)(r:ForInStep (Option (Array Keyed)×Array Keyed×Nat×Nat×α)):Prop:=match r with
 |.done c=>∃r,c.1=some r/\kN rk a b r
 |.yield c=>c.1=none/\Go rk a b c.2.1 c.2.2.1 c.2.2.2.1/\n<c.2.1.size
theorem CO{C:Cmp M A E s κ ok rk}(H:EB C a b){st st':SortSt}(hst:kindOf st=κ)(ks:bO st st')(G:Go rk a b o i j)(ht:0<t)(q:Option (Array Keyed)):wpS M A E s (II a b t (q,o,i,j,g)) (λr st'=>bO st st'/\Hc rk a b o.size r) st':=by
 unfold II;refine wpS_bind (wpS_mono (wpS_forRange (I:=λ_ c st1=>c.1=none/\st1=st'/\Go rk a b c.2.1 c.2.2.1 c.2.2.2.1/\o.size<=c.2.1.size)
  (Q:=λc st1=>st1=st'/\((∃r,c.1=some r/\kN rk a b r)\/c.1=none/\Go rk a b c.2.1 c.2.2.1 c.2.2.2.1/\o.size<=c.2.1.size)) ?step1 (λc st1⟨h1,h2,h3,h4⟩=>⟨h2,.inr ⟨h1,h3,h4⟩⟩) ⟨rfl,rfl,G,zd _⟩) ?post1)
 case step1=>
  rintro y ⟨q,o1,i1,j1,c1,d1⟩ st1 _ _ ⟨_,rfl,G1,ho1⟩;refine wpS_mono (CQ (g:=g) (c:=c1) (d:=d1) H (ks.1.trans hst) G1 q) λr st2⟨e,z⟩=>?_;subst e;unfold lN at z;split at z
  .exact⟨rfl,.inl ⟨_,rfl,z⟩⟩
  .exact⟨rfl,.inr ⟨rfl,z.1,le_of_lt (lt_of_le_of_lt ho1 z.2)⟩⟩
  .exact⟨z.1,rfl,z.2.1,le_of_lt (lt_of_le_of_lt ho1 z.2.2)⟩
 rintro⟨q,o1,i1,j1,c1,d1⟩ st1 ⟨rfl,⟨r,hq,hr⟩|⟨hq,G1,ho1⟩⟩
 .cases hq;exact wpS_pure ⟨ks,r,rfl,hr⟩
 cases hq;refine wpS_bind (cW ?_);refine wpS_bind (wpS_mono (wpS_forRange (I:=λy c st2=>c.1=none/\bO st st2/\Go rk a b c.2.1 c.2.2.1 c.2.2.2.1/\o.size<=c.2.1.size/\(0<y->o.size<c.2.1.size))
  (Q:=λc st2=>bO st st2/\((∃r,c.1=some r/\kN rk a b r)\/c.1=none/\Go rk a b c.2.1 c.2.2.1 c.2.2.2.1/\o.size<c.2.1.size)) ?step2 (λc st2⟨h1,h2,h3,_,h5⟩=>⟨h2,.inr ⟨h1,h3,h5 (by lia)⟩⟩) ⟨rfl,ks,G1,ho1,λz=>absurd z (lt_irrefl 0)⟩) ?post2)
 case step2=>
  rintro y ⟨q,o2,i2,j2,g2,c2,d2⟩ st2 _ _ ⟨_,k2,G2,ho2,_⟩;refine wpS_mono (CP (c:=c2) (d:=d2) H (k2.1.trans hst) G2) λr st3⟨k3,z⟩=>?_;have k3:=k2.trans k3;unfold lN at z;split at z
  .exact⟨k3,.inl ⟨_,rfl,z⟩⟩
  .exact⟨k3,.inr ⟨rfl,z.1,lt_of_le_of_lt ho2 z.2⟩⟩
  .exact⟨z.1,k3,z.2.1,le_of_lt (lt_of_le_of_lt ho2 z.2.2),λ_=>lt_of_le_of_lt ho2 z.2.2⟩
 rintro⟨q,o2,i2,j2,g2,c2,d2⟩ st2 ⟨k2,⟨r,hq,hr⟩|⟨hq,G2,ho2⟩⟩
 .cases hq;exact wpS_pure ⟨k2,r,rfl,hr⟩
 cases hq;exact wpS_bind (eE λst3 k3=>wpS_pure ⟨k2.trans k3,rfl,G2,ho2⟩)
theorem mP{C:Cmp M A E s κ ok rk}(H:EB C a b)(sa:kF rk a.toList)(sb:kF rk b.toList)(ha:0<a.size)(hb:0<b.size)(h0:rk b[0]<=rk a[0])
  {Q:Array Keyed->SortSt->Prop}{st:SortSt}(hst:kindOf st=κ)(h:∀r st',kN rk a b r->bO st st'->Q r st'):wpS M A E s (jK a b) Q st:=by
 have m0:MG rk (a.toList++b.toList) #[b[0]].toList (a.toList.drop 0) (b.toList.drop 1):=by
  have m:MG rk (a.toList++b.toList) (#[]:Array Keyed).toList (a.toList.drop 0) (b.toList.drop 0):=⟨by simp,List.Pairwise.nil,sa,sb,(λ_ z=>nomatch z),λ_ z=>nomatch z⟩
  exact vH m ha hb h0
 rw[nG];refine wpS_bind (cW ?_);refine wpS_bind (aH hb ?_);by_cases h1:1=b.size
 .rw[za (by rw[h1];exact beq_self_eq_true _)];exact wpS_pure (h _ _ (yZ m0 h1) ⟨rfl,rfl,rfl,rfl⟩)
 rw[zc (by simpa using h1)];by_cases h2:0+1=a.size
 .rw[za (by rw[h2];exact beq_self_eq_true _)];exact wpS_pure (h _ _ (yY m0 h2 H.hl) ⟨rfl,rfl,rfl,rfl⟩)
 rw[zc (by simpa using h2)];refine wpS_bind (wpS_get ?_);refine wpS_bind (wpS_mono (wpS_forRange (I:=λx c st'=>c.1=none/\bO st st'/\Go rk a b c.2.1 c.2.2.1 c.2.2.2.1/\x<c.2.1.size)
  (Q:=λc st'=>bO st st'/\∃r,c.1=some r/\kN rk a b r) ?step ?fin ⟨rfl,⟨rfl,rfl,rfl,rfl⟩,⟨m0,by lia,by lia⟩,by simp⟩) ?post)
 case fin=>rintro⟨r,o,i,j,g⟩ st' ⟨_,_,G,hx⟩;have h1:=G.m.perm.length_eq;have h2:=G.j;simp only[qr,qJ,qY]at h1 hx h2;lia
 case post=>rintro⟨q,o,i,j,g⟩ st' ⟨ks,r,e,hr⟩;cases e;exact wpS_pure (h r st' hr ks)
 case step=>
  rintro x ⟨q,o,i,j,g⟩ st' _ hx ⟨_,ks,G,ho⟩;refine wpS_mono (CO H hst ks G (by lia) q) λr st2⟨k,z⟩=>?_;cases r with
  |done c=>exact⟨k,z⟩
  |yield c=>exact⟨z.1,k,z.2.1,lt_of_le_of_lt ho z.2.2⟩
end
def jM:Array Keyed->Array Keyed->StateT SortSt Sem (Array Keyed):=sortPriv%PySem.Builtin.mergeHi
def wR(a b o:Array Keyed)(i j:Nat):Array Keyed:=a.extract 0 i++b.extract 0 j++o.reverse
def DK(a b o:Array Keyed)(i j:Nat):Array Keyed:=b.extract 0 j++a.extract 0 i++o.reverse
abbrev Mh:=Nat×Nat×Array Keyed×Nat×Nat×Nat
def IR(a b:Array Keyed)(g c d i j:Nat)(o:Array Keyed):StateT SortSt Sem (LS Mh):=do
 let x<-elem' a (i-1)
 if i-1==0 then return .done (some (wR a b (o.push x) (i-1) j),i-1,j,o.push x,g,c,d)
 if c<7&&d<7 then return .done (none,i-1,j,o.push x,g,c,d)
 return .yield (none,i-1,j,o.push x,g,c,d)
def Bo(a b:Array Keyed)(g c d j i:Nat)(o:Array Keyed):StateT SortSt Sem (LS Mh):=do
 let x<-elem' b (j-1)
 if j-1==1 then return .done (some (DK a b (o.push x) i (j-1)),i,j-1,o.push x,g,c,d)
 match<-dP true (<-elem' a (i-1)) b 0 (j-1) (j-1-1)with
 |some p=>
  if j-1-p>0 then
   if p==1 then return .done (some (DK a b (o.push x++(b.extract p (j-1)).reverse) i p),i,p,o.push x++(b.extract p (j-1)).reverse,g,c,j-1-p)
   if p==0 then return .done (some (wR a b (o.push x++(b.extract p (j-1)).reverse) i p),i,p,o.push x++(b.extract p (j-1)).reverse,g,c,j-1-p)
   IR a b g c (j-1-p) i p (o.push x++(b.extract p (j-1)).reverse)
  else IR a b g c (j-1-p) i (j-1) (o.push x)
 |_=>return .done (some (wR a b (o.push x) i (j-1)),i,j-1,o.push x,g,c,d)
def GN(a b:Array Keyed)(i j:Nat)(o:Array Keyed)(c d g:Nat):StateT SortSt Sem (LS Mh):=do
 jA g
 match<-dP false (<-elem' b (j-1)) a 0 i (i-1)with
 |some p=>
  if i-p>0 then
   if p==0 then return .done (some (wR a b (o++(a.extract p i).reverse) p j),p,j,o++(a.extract p i).reverse,g,i-p,d)
   Bo a b g (i-p) d j p (o++(a.extract p i).reverse)
  else Bo a b g (i-p) d j i o
 |_=>return .done (some (wR a b o i j),i,j,o,g,c,d)
def Ms(a b:Array Keyed)(g:Nat)(s:Option (Array Keyed)×Nat×Nat×Array Keyed×Nat×Nat):StateT SortSt Sem (LS (Nat×Nat×Array Keyed×Nat×Nat)):=do
 match<-lt' (<-elem' b (s.2.2.1-1)) (<-elem' a (s.2.1-1))with
 |some y=>
  if y then
   let x<-elem' a (s.2.1-1)
   if s.2.1-1==0 then return .done (some (wR a b (s.2.2.2.1.push x) (s.2.1-1) s.2.2.1),s.2.1-1,s.2.2.1,s.2.2.2.1.push x,s.2.2.2.2.1+1,0)
   if s.2.2.2.2.1+1≥g then return .done (none,s.2.1-1,s.2.2.1,s.2.2.2.1.push x,s.2.2.2.2.1+1,0)
   return .yield (none,s.2.1-1,s.2.2.1,s.2.2.2.1.push x,s.2.2.2.2.1+1,0)
  else
   let x<-elem' b (s.2.2.1-1)
   if s.2.2.1-1==1 then return .done (some (DK a b (s.2.2.2.1.push x) s.2.1 (s.2.2.1-1)),s.2.1,s.2.2.1-1,s.2.2.2.1.push x,0,s.2.2.2.2.2+1)
   if s.2.2.2.2.2+1≥g then return .done (none,s.2.1,s.2.2.1-1,s.2.2.2.1.push x,0,s.2.2.2.2.2+1)
   return .yield (none,s.2.1,s.2.2.1-1,s.2.2.2.1.push x,0,s.2.2.2.2.2+1)
 |_=>return .done (some (wR a b s.2.2.2.1 s.2.1 s.2.2.1),s.2.1,s.2.2.1,s.2.2.2.1,s.2.2.2.2.1,s.2.2.2.2.2)
def IQ(a b:Array Keyed)(s:Option (Array Keyed)×Mh):StateT SortSt Sem (LS Mh):=GN a b s.2.1 s.2.2.1 s.2.2.2.1 s.2.2.2.2.2.1 s.2.2.2.2.2.2 (if s.2.2.2.2.1>1 then s.2.2.2.2.1-1 else s.2.2.2.2.1)
def IP(a b:Array Keyed)(t:Nat)(s:Option (Array Keyed)×Nat×Nat×Array Keyed×Nat):StateT SortSt Sem (LS (Nat×Nat×Array Keyed×Nat)):=
 (forIn [:t] (none,s.2.1,s.2.2.1,s.2.2.2.1,0,0) λ_=>Ms a b s.2.2.2.2)>>=λr=>Break.runK.match_1 (λ_=>StateT SortSt Sem (LS (Nat×Nat×Array Keyed×Nat))) r.1 (λx=>pure (.done (some x,r.2.1,r.2.2.1,r.2.2.2.1,s.2.2.2.2))) λ_=>do
  rule "list.sort.gallop"
  (forIn [:t] (none,r.2.1,r.2.2.1,r.2.2.2.1,s.2.2.2.2+1,r.2.2.2.2) λ_=>IQ a b)>>=λq=>Break.runK.match_1 (λ_=>StateT SortSt Sem (LS (Nat×Nat×Array Keyed×Nat))) q.1 (λx=>pure (.done (some x,q.2.1,q.2.2.1,q.2.2.2.1,q.2.2.2.2.1))) λ_=>do
   jA (q.2.2.2.2.1+1)
   return .yield (none,q.2.1,q.2.2.1,q.2.2.2.1,q.2.2.2.2.1+1)
theorem nH(a b:Array Keyed):jM a b=(do
 rule "list.sort.merge-hi"
 let x<-elem' a (a.size-1)
 if a.size-1==0 then return wR a b #[x] (a.size-1) b.size
 if b.size==1 then return DK a b #[x] (a.size-1) b.size
 let s<-get
 (forIn [:a.size+b.size] (none,a.size-1,b.size,#[x],gallopOf s) λ_=>IP a b (a.size+b.size))>>=λr=>Break.runK.match_1 (λ_=>StateT SortSt Sem (Array Keyed)) r.1 (λr=>pure r) λ_=>unsupported "internal:list.sort.merge-bound"):=by
 have e:∀(s:Option (Array Keyed)×Mh),IQ a b s=(if s.2.2.2.2.1>1 then GN a b s.2.1 s.2.2.1 s.2.2.2.1 s.2.2.2.2.2.1 s.2.2.2.2.2.2 (s.2.2.2.2.1-1)else GN a b s.2.1 s.2.2.1 s.2.2.2.1 s.2.2.2.2.2.1 s.2.2.2.2.2.2 s.2.2.2.2.1):=λs=>by unfold IQ;by_cases hg:s.2.2.2.2.1>1<;>simp only[hg,if_true,if_false]
 unfold IP;rw[show IQ a b=_ from funext e];rfl
def ng(rk:Keyed->Int)(x:Keyed):Int:=-rk x
def MH(rk:Keyed->Int)(a b o:Array Keyed)(i j:Nat):Prop:=MG (ng rk) (a.toList++b.toList) o.toList (a.toList.take i).reverse (b.toList.take j).reverse
theorem bJ{α:Type}{a:Array α}{i:Nat}(h0:0<i)(h:i<=a.size):(a.toList.take i).reverse=a[i-1]::(a.toList.take (i-1)).reverse:=by
 obtain⟨m,rfl⟩:∃m,i=m+1:=⟨i-1,by lia⟩
 rw[List.take_succ_eq_append_getElem (by simp;lia)];simp
theorem mC{l:List Keyed}(h:kF (ng rk) l):kF rk l.reverse:=by unfold kF at*;rw[List.pairwise_reverse];exact h.imp λ{x y} z=>by unfold ng at z;lia
theorem rN(m:MH rk a b o i j)(h:i=0):kN rk a b (wR a b o i j):=by
 obtain⟨p,q⟩:=MG.end m λx hx y hy=>by subst h;simp at hy
 have e:(wR a b o i j).toList=(o.toList++(b.toList.take j).reverse++(a.toList.take i).reverse).reverse:=by unfold wR;simp[extract_eq_take_drop]
 unfold kN;rw[e];exact⟨(reverse_perm _).trans p,mC q⟩
theorem rM(m:MH rk a b o i j)(hb:0<b.size)(h:j=1)(h0:∀x∈a.toList,rk b[0]<rk x):kN rk a b (DK a b o i j):=by
 obtain⟨p,q⟩:=MG.end (MG.swap m) λx hx y hy=>by
  subst h;rw[bJ (by decide) hb]at hy;obtain rfl:y=b[0]:=by simpa using hy
  have:=h0 x (mem_of_mem_take (List.mem_reverse.mp hx));unfold ng;lia
 have e:(DK a b o i j).toList=(o.toList++(a.toList.take i).reverse++(b.toList.take j).reverse).reverse:=by unfold DK;simp[extract_eq_take_drop]
 unfold kN;rw[e];exact⟨(reverse_perm _).trans p,mC q⟩
theorem oY(m:MH rk a b o i j)(i0:0<i)(hi:i<=a.size)(j0:0<j)(hj:j<=b.size)(h:rk b[j-1]<=rk a[i-1]):MH rk a b (o.push a[i-1]) (i-1) j:=by unfold MH at*;have sb:=m.sb;rw[bJ j0 hj]at sb;rw[bJ i0 hi]at m;rw[toList_push];refine MG.takeA (p:=[a[i-1]]) m λx hx=>?_;rw[qw.mp hx,bJ j0 hj];exact eB (by unfold ng;lia) sb
theorem wJ(m:MH rk a b o i j)(i0:0<i)(hi:i<=a.size)(j0:0<j)(hj:j<=b.size)(h:rk a[i-1]<=rk b[j-1]):MH rk a b (o.push b[j-1]) i (j-1):=by unfold MH at*;have sa:=m.sa;rw[bJ i0 hi]at sa;rw[bJ j0 hj]at m;rw[toList_push];refine MG.takeB (p:=[b[j-1]]) m λx hx=>?_;rw[qw.mp hx,bJ i0 hi];exact eB (by unfold ng;lia) sa
theorem lB{α:Type}{a:Array α}{p i:Nat}(hp:p<=i):(a.toList.take i).reverse=(a.extract p i).reverse.toList++(a.toList.take p).reverse:=by
 have:a.toList.take i=a.toList.take p++(a.toList.drop p).take (i-p):=by rw[<-List.take_add,show p+(i-p)=i by lia]
 rw[this,List.reverse_append];simp[extract_eq_take_drop]
theorem rB{a:Array Keyed}{i:Nat}(h:kF (ng rk) (a.toList.take i).reverse)(hi:i<=a.size):Up rk a 0 (0+i):=λx y h1 h2 h3=>by
 rw[aT (show x<a.size by lia),aT (show y<a.size by lia)];by_cases e:x=y
 .subst e;exact Int.le_refl _
 .have:=pairwise_iff_getElem.mp (mC h) x y (by simp;lia) (by simp;lia) (by lia);simpa using this
theorem iY{left:Bool}{a:Array Keyed}{p i:Nat}{key:Keyed}{l:List Keyed}(hc:tM rk left key a 0 i p p)(hi:i<=a.size)(hs:kF (ng rk) (key::l)):Below (ng rk) (a.extract p i).reverse.toList (key::l):=λx hx=>by
 have hx':x∈(a.toList.drop p).take (i-p):=by simpa[extract_eq_take_drop] using hx
 obtain⟨y,hy,rfl⟩:=List.mem_iff_getElem.mp hx';rw[qK,qJ,qY]at hy;have h1:=hc.2.2.2 (p+y) (by lia) (by lia);unfold fU at h1;rw[zero_add,aT (show p+y<a.size by lia)]at h1;refine eB ?_ hs;simp only[getElem_take,getElem_drop,getElem_toList];unfold ng;cases left<;>simp at h1<;>lia
theorem mJ{left:Bool}{key:Keyed}{arr:Array Keyed}{p n:Nat}(hc:tM rk left key arr 0 n p p)(hp:0<p)(hn:n<=arr.size):rk (arr[p-1]'(by have:=hc.2.1;lia))<=rk key:=by have hk:=hc.2.1;have:=hc.2.2.1 (p-1) (by lia);unfold fU at this;rw[zero_add,aT (show p-1<arr.size by lia)]at this;cases left<;>simp at this<;>lia
theorem Ay(m:MH rk a b o i j)(hi:i<=a.size)(j0:0<j)(hj:j<=b.size){p:Nat}(hc:tM rk false b[j-1] a 0 i p p):MH rk a b (o++(a.extract p i).reverse) p j:=by unfold MH at*;have sb:=m.sb;rw[bJ j0 hj]at sb;rw[lB hc.2.1]at m;rw[toList_append];refine MG.takeA m ?_;rw[bJ j0 hj];exact iY hc hi sb
theorem Ax(m:MH rk a b o i j)(i0:0<i)(hi:i<=a.size)(hj:j<=b.size){p:Nat}(hc:tM rk true a[i-1] b 0 j p p):MH rk a b (o++(b.extract p j).reverse) i p:=by unfold MH at*;have sa:=m.sa;rw[bJ i0 hi]at sa;rw[lB hc.2.1]at m;rw[toList_append];refine MG.takeB m ?_;rw[bJ i0 hi];exact iY hc hj sa
structure Gh(rk:Keyed->Int)(a b o:Array Keyed)(i j:Nat):Prop where
 m:MH rk a b o i j
 i0:0<i
 i:i<=a.size
 j0:1<j
 j:j<=b.size
def lM{α:Type}(rk:Keyed->Int)(a b:Array Keyed)(n:Nat)(r:ForInStep (Option (Array Keyed)×Nat×Nat×Array Keyed×α)):Prop:=match r with
 |.done (some r,_)=>kN rk a b r
 |.done (none,i,j,o,_)=>Gh rk a b o i j/\n<o.size
 |.yield (q,i,j,o,_)=>q=none/\Gh rk a b o i j/\n<o.size
structure EC(C:Cmp M A E s κ ok rk)(a b:Array Keyed):Prop where
 oa:∀i(h:i<a.size),ok a[i]
 ob:∀i(h:i<b.size),ok b[i]
 b0:0<b.size
 h0:∀x∈a.toList,rk b[0]<rk x
theorem DI{C:Cmp M A E s κ ok rk}(H:EC C a b){st:SortSt}(hst:kindOf st=κ)(G:Gh rk a b o i j)(r:Option (Array Keyed)):wpS M A E s (Ms a b g (r,i,j,o,c,d)) (λr st'=>st'=st/\lM rk a b o.size r) st:=by
 obtain⟨m,i0,hi,j0,hj⟩:=G;unfold Ms;refine wpS_bind (aH (show j-1<b.size by lia) ?_);refine wpS_bind (aH (show i-1<a.size by lia) ?_);refine wpS_bind (C.lt _ _ _ _ hst (H.ob _ _) (H.oa _ _) ?_);by_cases hlt:rk b[j-1]<rk a[i-1]
 .rw[qU hlt];refine wpS_bind (aH (show i-1<a.size by lia) ?_);have m:=oY m i0 hi (by lia) hj (Int.le_of_lt hlt);have sz:o.size<(o.push a[i-1]).size:=by simp
  by_cases h1:i-1=0
  .rw[za (by simp[h1])];exact wpS_pure ⟨rfl,rN m h1⟩
  .rw[zc (by simpa using h1)];have G':Gh rk a b (o.push a[i-1]) (i-1) j:=⟨m,by lia,by lia,j0,hj⟩
   split
   .exact wpS_pure ⟨rfl,G',sz⟩
   .exact wpS_pure ⟨rfl,rfl,G',sz⟩
 .rw[qV hlt];refine wpS_bind (aH (show j-1<b.size by lia) ?_);have m:=wJ m i0 hi (by lia) hj (by lia);have sz:o.size<(o.push b[j-1]).size:=by simp
  by_cases h1:j-1=1
  .rw[za (by simp[h1])];exact wpS_pure ⟨rfl,rM m H.b0 h1 H.h0⟩
  .rw[zc (by simpa using h1)];have G':Gh rk a b (o.push b[j-1]) i (j-1):=⟨m,i0,hi,by lia,by lia⟩
   split
   .exact wpS_pure ⟨rfl,G',sz⟩
   .exact wpS_pure ⟨rfl,rfl,G',sz⟩
theorem wK{C:Cmp M A E s κ ok rk}(H:EC C a b){st:SortSt}(m:MH rk a b o i j)(i0:0<i)(hi:i<=a.size)(j0:1<j)(hj:j<=b.size)(h:rk b[j-1]<=rk a[i-1])(hn:n<=o.size):wpS M A E s (IR a b g c d i j o) (λr st'=>st'=st/\lM rk a b n r) st:=by
 unfold IR;refine wpS_bind (aH (show i-1<a.size by lia) ?_);have m:=oY m i0 hi (by lia) hj h;have sz:n<(o.push a[i-1]).size:=by simp;lia
 by_cases h1:i-1=0
 .rw[za (by simp[h1])];exact wpS_pure ⟨rfl,rN m h1⟩
 .rw[zc (by simpa using h1)];have G':Gh rk a b (o.push a[i-1]) (i-1) j:=⟨m,by lia,by lia,j0,hj⟩
  split
  .exact wpS_pure ⟨rfl,G',sz⟩
  .exact wpS_pure ⟨rfl,rfl,G',sz⟩
theorem wL{C:Cmp M A E s κ ok rk}(H:EC C a b){st:SortSt}(hst:kindOf st=κ)(m:MH rk a b o i j)(i0:0<i)(hi:i<=a.size)(j0:1<j)(hj:j<=b.size)(h:rk a[i-1]<=rk b[j-1])(hn:n<=o.size):wpS M A E s (Bo a b g c d j i o) (λr st'=>st'=st/\lM rk a b n r) st:=by
 unfold Bo;refine wpS_bind (aH (show j-1<b.size by lia) ?_);have m:=wJ m i0 hi (by lia) hj h;have sz:n<=(o.push b[j-1]).size:=by simp;lia
 by_cases h1:j-1=1
 .rw[za (by simp[h1])];exact wpS_pure ⟨rfl,rM m H.b0 h1 H.h0⟩
 .rw[zc (by simpa using h1)];refine wpS_bind (aH (show i-1<a.size by lia) ?_);refine wpS_bind (cJ C (H.oa _ _) H.ob (by lia) (by lia) (rB m.sb (by lia)) hst λp hc=>?_);have hp:=hc.2.1;have p0:0<p:=by
   rcases Nat.eq_zero_or_pos p with z|z
   .have h2:=hc.2.2.2 0 (by lia) (by lia);have h3:=H.h0 a[i-1] (by simp);unfold fU at h2;rw[aT (show 0+0<b.size by lia)]at h2;simp at h2;lia
   .exact z
  have hy:=mJ hc p0 (by lia);by_cases k0:j-1-p>0
  .simp only[k0,if_true];have m2:=Ax m i0 hi (by lia) hc;by_cases h2:p=1
   .rw[za (by simp[h2])];exact wpS_pure ⟨rfl,rM m2 H.b0 h2 H.h0⟩
   .rw[zc (by simpa using h2),zc (by simp;lia)];exact wK H m2 i0 hi (by lia) (by lia) hy (by simp;lia)
  .simp only[k0,if_false];obtain rfl:p=j-1:=by lia
   exact wK H m i0 hi (by lia) (by lia) hy sz
theorem DH{C:Cmp M A E s κ ok rk}(H:EC C a b){st:SortSt}(hst:kindOf st=κ)(G:Gh rk a b o i j):wpS M A E s (GN a b i j o c d g) (λr st'=>bO st st'/\lM rk a b o.size r) st:=by
 obtain⟨m,i0,hi,j0,hj⟩:=G;unfold GN;refine wpS_bind (eE λst1 ks=>?_);refine wpS_bind (aH (show j-1<b.size by lia) ?_);refine wpS_bind (cJ C (H.ob _ _) H.oa (by lia) (by lia) (rB m.sa hi) (ks.1.trans hst) λp hc=>?_);have hp:=hc.2.1;by_cases k0:i-p>0
 .simp only[k0,if_true];have m2:=Ay m hi (by lia) hj hc;by_cases h1:p=0
  .rw[za (by simp[h1])];exact wpS_pure ⟨ks,rN m2 h1⟩
  .rw[zc (by simpa using h1)];exact wpS_mono (wL (n:=o.size) H (ks.1.trans hst) m2 (by lia) (by lia) j0 hj (mJ hc (by lia) hi) (by simp)) λr st' z=>⟨z.1▸ks,z.2⟩
 .simp only[k0,if_false];obtain rfl:p=i:=by lia
  exact wpS_mono (wL (n:=o.size) H (ks.1.trans hst) m i0 hi j0 hj (mJ hc i0 hi) (zd _)) λr st' z=>⟨z.1▸ks,z.2⟩
def Hb{α:Type}(rk:Keyed->Int)(a b:Array Keyed)(n:Nat)(r:ForInStep (Option (Array Keyed)×Nat×Nat×Array Keyed×α)):Prop:=match r with
 |.done c=>∃r,c.1=some r/\kN rk a b r
 |.yield c=>c.1=none/\Gh rk a b c.2.2.2.1 c.2.1 c.2.2.1/\n<c.2.2.2.1.size
theorem DG{C:Cmp M A E s κ ok rk}(H:EC C a b){st st':SortSt}(hst:kindOf st=κ)(ks:bO st st')(G:Gh rk a b o i j)(ht:0<t)(q:Option (Array Keyed)):wpS M A E s (IP a b t (q,i,j,o,g)) (λr st'=>bO st st'/\Hb rk a b o.size r) st':=by
 unfold IP;refine wpS_bind (wpS_mono (wpS_forRange (I:=λ_ c st1=>c.1=none/\st1=st'/\Gh rk a b c.2.2.2.1 c.2.1 c.2.2.1/\o.size<=c.2.2.2.1.size)
  (Q:=λc st1=>st1=st'/\((∃r,c.1=some r/\kN rk a b r)\/c.1=none/\Gh rk a b c.2.2.2.1 c.2.1 c.2.2.1/\o.size<=c.2.2.2.1.size)) ?step1 (λc st1⟨h1,h2,h3,h4⟩=>⟨h2,.inr ⟨h1,h3,h4⟩⟩) ⟨rfl,rfl,G,zd _⟩) ?post1)
 case step1=>
  rintro y ⟨q,i1,j1,o1,c1,d1⟩ st1 _ _ ⟨_,rfl,G1,ho1⟩;refine wpS_mono (DI (g:=g) (c:=c1) (d:=d1) H (ks.1.trans hst) G1 q) λr st2⟨e,z⟩=>?_;subst e;unfold lM at z;split at z
  .exact⟨rfl,.inl ⟨_,rfl,z⟩⟩
  .exact⟨rfl,.inr ⟨rfl,z.1,le_of_lt (lt_of_le_of_lt ho1 z.2)⟩⟩
  .exact⟨z.1,rfl,z.2.1,le_of_lt (lt_of_le_of_lt ho1 z.2.2)⟩
 rintro⟨q,i1,j1,o1,c1,d1⟩ st1 ⟨rfl,⟨r,hq,hr⟩|⟨hq,G1,ho1⟩⟩
 .cases hq;exact wpS_pure ⟨ks,r,rfl,hr⟩
 cases hq;refine wpS_bind (cW ?_);refine wpS_bind (wpS_mono (wpS_forRange (I:=λy c st2=>c.1=none/\bO st st2/\Gh rk a b c.2.2.2.1 c.2.1 c.2.2.1/\o.size<=c.2.2.2.1.size/\(0<y->o.size<c.2.2.2.1.size))
  (Q:=λc st2=>bO st st2/\((∃r,c.1=some r/\kN rk a b r)\/c.1=none/\Gh rk a b c.2.2.2.1 c.2.1 c.2.2.1/\o.size<c.2.2.2.1.size)) ?step2 (λc st2⟨h1,h2,h3,_,h5⟩=>⟨h2,.inr ⟨h1,h3,h5 (by lia)⟩⟩) ⟨rfl,ks,G1,ho1,λz=>absurd z (lt_irrefl 0)⟩) ?post2)
 case step2=>
  rintro y ⟨q,i2,j2,o2,g2,c2,d2⟩ st2 _ _ ⟨_,k2,G2,ho2,_⟩;refine wpS_mono (DH (c:=c2) (d:=d2) H (k2.1.trans hst) G2) λr st3⟨k3,z⟩=>?_;have k3:=k2.trans k3;unfold lM at z;split at z
  .exact⟨k3,.inl ⟨_,rfl,z⟩⟩
  .exact⟨k3,.inr ⟨rfl,z.1,lt_of_le_of_lt ho2 z.2⟩⟩
  .exact⟨z.1,k3,z.2.1,le_of_lt (lt_of_le_of_lt ho2 z.2.2),λ_=>lt_of_le_of_lt ho2 z.2.2⟩
 rintro⟨q,i2,j2,o2,g2,c2,d2⟩ st2 ⟨k2,⟨r,hq,hr⟩|⟨hq,G2,ho2⟩⟩
 .cases hq;exact wpS_pure ⟨k2,r,rfl,hr⟩
 cases hq;exact wpS_bind (eE λst3 k3=>wpS_pure ⟨k2.trans k3,rfl,G2,ho2⟩)
theorem mQ{C:Cmp M A E s κ ok rk}(H:EC C a b)(sa:kF rk a.toList)(sb:kF rk b.toList)(ha:0<a.size)(hl:∀y∈b.toList,rk y<=rk (a[a.size-1]))
  {Q:Array Keyed->SortSt->Prop}{st:SortSt}(hst:kindOf st=κ)(h:∀r st',kN rk a b r->bO st st'->Q r st'):wpS M A E s (jM a b) Q st:=by
 have b0:=H.b0;have dual:∀{l:List Keyed},kF rk l->kF (ng rk) l.reverse:=λ{l} z=>by unfold kF at*;rw[List.pairwise_reverse];exact z.imp λ{x y} z=>by unfold ng;lia
 have m0:MH rk a b #[a[a.size-1]] (a.size-1) b.size:=by
  have ta:∀a:Array Keyed,a.toList.take a.size=a.toList:=λa=>take_of_length_le (by simp);have m:MH rk a b #[] a.size b.size:=by unfold MH;rw[ta,ta];exact⟨by rw[nil_append];exact List.Perm.append (reverse_perm _) (reverse_perm _),List.Pairwise.nil,dual sa,dual sb,(λ_ z=>nomatch z),λ_ z=>nomatch z⟩
  exact oY m ha (zd _) b0 (zd _) (hl _ (by simp))
 rw[nH];refine wpS_bind (cW ?_);refine wpS_bind (aH (show a.size-1<a.size by lia) ?_);by_cases h1:a.size-1=0
 .rw[za (by simp[h1])];exact wpS_pure (h _ _ (rN m0 h1) ⟨rfl,rfl,rfl,rfl⟩)
 rw[zc (by simpa using h1)];by_cases h2:b.size=1
 .rw[za (by simp[h2])];exact wpS_pure (h _ _ (rM m0 b0 h2 H.h0) ⟨rfl,rfl,rfl,rfl⟩)
 rw[zc (by simpa using h2)];refine wpS_bind (wpS_get ?_);refine wpS_bind (wpS_mono (wpS_forRange (I:=λx c st'=>c.1=none/\bO st st'/\Gh rk a b c.2.2.2.1 c.2.1 c.2.2.1/\x<c.2.2.2.1.size)
  (Q:=λc st'=>bO st st'/\∃r,c.1=some r/\kN rk a b r) ?step ?fin ⟨rfl,⟨rfl,rfl,rfl,rfl⟩,⟨m0,by lia,by lia,by lia,zd _⟩,by simp⟩) ?post)
 case fin=>rintro⟨r,i,j,o,g⟩ st' ⟨_,_,G,hx⟩;have h1:=G.m.perm.length_eq;have h2:=G.i0;have h3:=G.i;simp only[qr,List.length_reverse,qK,qY]at h1 h2 h3 hx;lia
 case post=>rintro⟨q,i,j,o,g⟩ st' ⟨ks,r,e,hr⟩;cases e;exact wpS_pure (h r st' hr ks)
 case step=>
  rintro x ⟨q,i,j,o,g⟩ st' _ hx ⟨_,ks,G,ho⟩;refine wpS_mono (DG H hst ks G (by lia) q) λr st2⟨k,z⟩=>?_;cases r with
  |done c=>exact⟨k,z⟩
  |yield c=>exact⟨z.1,k,z.2.1,lt_of_le_of_lt ho z.2.2⟩
def rJ(lo n m:Nat):StateT SortSt Sem (Option Nat):=do
 reverseSlice' lo (lo+n)
 let u<-forIn [n:m] ((none,n):Option (Option Nat)×Nat) λ_ v=>do
  match<-ltAt' (lo+v.2) (lo+v.2-1)with
  |some y=>if y=true then pure (ForInStep.done (none,v.2))else pure (ForInStep.yield (none,v.2+1))
  |_=>pure (ForInStep.done (some none,v.2))
 Break.runK.match_1 (λ_=>StateT SortSt Sem (Option Nat)) u.1 (λr=>pure r) λ_=>pure (some u.2)
def sI(lo n m:Nat):StateT SortSt Sem (Option Nat):=do
 rule "list.sort.descending-run"
 let u<-forIn [n+1:m] ((none,n+1,0):Option (Option Nat)×Nat×Nat) λ_ v=>do
  match<-ltAt' (lo+v.2.1) (lo+v.2.1-1)with
  |some y=>
   if y=true then
    if v.2.2>0 then do
     reverseSlice' (lo+v.2.1-(v.2.2+1)) (lo+v.2.1)
     pure (ForInStep.yield (none,v.2.1+1,0))
    else pure (ForInStep.yield (none,v.2.1+1,0))
   else
    match<-ltAt' (lo+v.2.1-1) (lo+v.2.1)with
    |some z=>if z=true then pure (ForInStep.done (none,v.2.1,v.2.2))else pure (ForInStep.yield (none,v.2.1+1,v.2.2+1))
    |_=>pure (ForInStep.done (some none,v.2.1,v.2.2))
  |_=>pure (ForInStep.done (some none,v.2.1,v.2.2))
 Break.runK.match_1 (λ_=>StateT SortSt Sem (Option Nat)) u.1 (λr=>pure r) λ_=>if u.2.2>0 then reverseSlice' (lo+u.2.1-(u.2.2+1)) (lo+u.2.1)>>=λ_=>rJ lo u.2.1 m else rJ lo u.2.1 m
structure Sb(ok:Keyed->Prop)(lo:Nat)(st st':SortSt):Prop where
 perm:(arrOf st').Perm (arrOf st)
 pre:∀k,k<lo->(arrOf st')[k]?=(arrOf st)[k]?
 rest:kindOf st'=kindOf st/\pendingOf st'=pendingOf st/\failedOf st'=failedOf st
theorem Sb.refl{lo:Nat}{st:SortSt}:Sb ok lo st st:=⟨.refl _,λ_ _=>rfl,rfl,rfl,rfl⟩
theorem Sb.size{lo:Nat}{st st':SortSt}(h:Sb ok lo st st'):(arrOf st').size=(arrOf st).size:=h.perm.size_eq
theorem Sb.oks{lo:Nat}{st st':SortSt}(h:Sb ok lo st st')(o:∀x∈(arrOf st).toList,ok x):∀i(hi:i<(arrOf st').size),ok (arrOf st')[i]:=λi hi=>o _ ((perm_iff_toList_perm.mp h.perm).mem_iff.mp (by simp))
theorem gT(C:Cmp M A E s κ ok rk){st:SortSt}(hst:kindOf st=κ)(o:∀i(h:i<(arrOf st).size),ok (arrOf st)[i]){i j:Nat}(hi:i<(arrOf st).size)(hj:j<(arrOf st).size){Q:Option Bool->SortSt->Prop}
  (h:Q (some (decide (bC rk (arrOf st) i<bC rk (arrOf st) j))) st):wpS M A E s (ltAt' i j) Q st:=by
 rw[ltAt'_eq];refine wpS_bind (wpS_get ?_);refine wpS_bind (aH hi ?_);refine wpS_bind (aH hj ?_);rw[aT hi,aT hj]at h;exact C.lt _ _ _ _ hst (o _ _) (o _ _) h
theorem sS{xs:Array Keyed}{i j:Nat}(hj:j<=xs.size)(k:Nat):bC rk (mirror xs i j ((j-i)/2)) k=if i<=k/\k<j then bC rk xs (i+j-1-k)else bC rk xs k:=by unfold bC;rw[getElem?_mirror_all hj];split<;>rfl
theorem iM{lo i j:Nat}{st st':SortSt}(h:Sb ok lo st st')(hi:lo<=i)(hj:j<=(arrOf st).size){Q:Unit->SortSt->Prop}
  (hQ:∀st2,Sb ok lo st st2->(∀k,bC rk (arrOf st2) k=if i<=k/\k<j then bC rk (arrOf st') (i+j-1-k)else bC rk (arrOf st') k)->Q () st2):wpS M A E s (reverseSlice' i j) Q st':=by
 rw[reverseSlice'_eq];refine wpS_modify (hQ _ ⟨(mirror_perm _ _ _ _).trans h.perm,λk hk=>?_,h.rest⟩ λk=>sS (by rw[h.size];exact hj) k);show(mirror (arrOf st') i j ((j-i)/2))[k]?=_;rw[getElem?_mirror_all (by rw[h.size];exact hj),zc (by lia)];exact h.pre k hk
def Dn(rk:Keyed->Int)(xs:Array Keyed)(lo hi:Nat):Prop:=∀i j,lo<=i->i<=j->j<hi->bC rk xs j<=bC rk xs i
theorem rC{xs:Array Keyed}{lo x:Nat}(x1:1<=x)(hu:Up rk xs lo (lo+x))(hl:¬bC rk xs (lo+x)<bC rk xs (lo+x-1)):Up rk xs lo (lo+(x+1)):=λy z h1 h2 h3=>by
 by_cases hz:z<lo+x
 .exact hu y z h1 h2 hz
 .obtain rfl:z=lo+x:=by lia
  by_cases hy:y=lo+x
  .rw[hy];exact Int.le_refl _
  .have:=hu y (lo+x-1) h1 (by lia) (by lia);lia
theorem iQ{xs:Array Keyed}{lo x:Nat}(x1:1<=x)(hu:Dn rk xs lo (lo+x))(hl:bC rk xs (lo+x)<=bC rk xs (lo+x-1)):Dn rk xs lo (lo+(x+1)):=λy z h1 h2 h3=>by
 by_cases hz:z<lo+x
 .exact hu y z h1 h2 hz
 .obtain rfl:z=lo+x:=by lia
  by_cases hy:y=lo+x
  .rw[hy];exact Int.le_refl _
  .have:=hu y (lo+x-1) h1 (by lia) (by lia);lia
theorem rH(C:Cmp M A E s κ ok rk){lo n m:Nat}{st st':SortSt}(hst:kindOf st=κ)(o:∀x∈(arrOf st).toList,ok x)(n1:1<=n)(nm:n<=m)(hs:lo+m=(arrOf st).size)(hb:Sb ok lo st st')(hd:Dn rk (arrOf st') lo (lo+n)){Q:Option Nat->SortSt->Prop}
  (h:∀n st',1<=n->n<=m->Sb ok lo st st'->Up rk (arrOf st') lo (lo+n)->Q (some n) st'):wpS M A E s (rJ lo n m) Q st':=by
 unfold rJ;refine wpS_bind (iM (rk:=rk) hb (zd _) (by lia) λst2 hb2 hr=>?_);have hu:Up rk (arrOf st2) lo (lo+n):=λx y h1 h2 h3=>by rw[hr,hr,za ⟨h1,by lia⟩,za ⟨by lia,h3⟩];exact hd _ _ (by lia) (by lia) (by lia)
 refine wpS_bind (wpS_mono (wpS_forRange (I:=λx c st'=>st'=st2/\c=(none,x)/\Up rk (arrOf st2) lo (lo+x))
  (Q:=λc st'=>st'=st2/\∃k,c=(none,k)/\1<=k/\k<=m/\Up rk (arrOf st2) lo (lo+k)) ?step ?fin ⟨rfl,rfl,hu⟩) ?post)
 case fin=>rintro c st' ⟨rfl,rfl,hu⟩;rw[show max n m=m by lia]at hu⊢;exact⟨rfl,m,rfl,by lia,zd _,hu⟩
 case step=>
  rintro x c st' hx1 hx ⟨rfl,rfl,hu⟩;have sz:=hb2.size;refine wpS_bind (gT C (hb2.rest.1.trans hst) (hb2.oks o) (by simp only;lia) (by simp only;lia) ?_);simp only;by_cases hl:bC rk (arrOf st') (lo+x)<bC rk (arrOf st') (lo+x-1)
  .rw[qU hl];exact wpS_pure ⟨rfl,x,rfl,by lia,by lia,hu⟩
  .rw[qV hl];exact wpS_pure ⟨rfl,rfl,rC (by lia) hu hl⟩
 case post=>rintro c st' ⟨rfl,k,rfl,k1,km,hu⟩;exact wpS_pure (h k st' k1 km hb2 hu)
theorem jD{xs ys:Array Keyed}{i j:Nat}(he:∀k,i<=k->k<j->bC rk xs k=bC rk xs (j-1))(hr:∀k,bC rk ys k=if i<=k/\k<j then bC rk xs (i+j-1-k)else bC rk xs k)(k:Nat):bC rk ys k=bC rk xs k:=by
 rw[hr];split
 .rw[he _ (by lia) (by lia),he k (by lia) (by lia)]
 .rfl
theorem sH(C:Cmp M A E s κ ok rk){lo n m:Nat}{st st':SortSt}(hst:kindOf st=κ)(o:∀x∈(arrOf st).toList,ok x)(n1:1<=n)(nm:n<m)(hs:lo+m=(arrOf st).size)(hb:Sb ok lo st st')(hd:Dn rk (arrOf st') lo (lo+(n+1))){Q:Option Nat->SortSt->Prop}
  (h:∀n st',1<=n->n<=m->Sb ok lo st st'->Up rk (arrOf st') lo (lo+n)->Q (some n) st'):wpS M A E s (sI lo n m) Q st':=by
 unfold sI;refine wpS_bind (cW ?_);refine wpS_bind (wpS_mono (wpS_forRange (I:=λx c st2=>∃q,c=(none,x,q)/\Sb ok lo st st2/\Dn rk (arrOf st2) lo (lo+x)/\q+1<=x/\∀k,lo+x-(q+1)<=k->k<lo+x->bC rk (arrOf st2) k=bC rk (arrOf st2) (lo+x-1))
  (Q:=λc st2=>∃x q,c=(none,x,q)/\n+1<=x/\x<=m/\Sb ok lo st st2/\Dn rk (arrOf st2) lo (lo+x)/\q+1<=x/\∀k,lo+x-(q+1)<=k->k<lo+x->bC rk (arrOf st2) k=bC rk (arrOf st2) (lo+x-1)) ?step ?fin ⟨0,rfl,hb,hd,by lia,λk h1 h2=>by rw[show k=lo+(n+1)-1 by lia]⟩) ?post)
 case fin=>rintro c st2 ⟨q,rfl,hb,hd,hq,he⟩;rw[show max (n+1) m=m by lia]at hd hq he⊢;exact⟨m,q,rfl,nm,zd _,hb,hd,hq,he⟩
 case step=>
  rintro x c st2 hx1 hx ⟨q,rfl,hb,hd,hq,he⟩;have sz:=hb.size;have hst2:=hb.rest.1.trans hst;refine wpS_bind (gT C hst2 (hb.oks o) (by simp only;lia) (by simp only;lia) ?_);simp only;by_cases hl:bC rk (arrOf st2) (lo+x)<bC rk (arrOf st2) (lo+x-1)
  .rw[qU hl];simp only[if_true];have hd2:=iQ (by lia) hd (Int.le_of_lt hl);by_cases q0:q>0
   .rw[za q0];refine wpS_bind (iM (rk:=rk) hb (by lia) (by lia) λst3 hb3 hr=>?_);have er:=jD he hr;exact wpS_pure ⟨0,rfl,hb3,λy z h1 h2 h3=>by rw[er,er];exact hd2 y z h1 h2 h3,by lia,λk h1 h2=>by rw[show k=lo+(x+1)-1 by lia]⟩
   .rw[zc q0];exact wpS_pure ⟨0,rfl,hb,hd2,by lia,λk h1 h2=>by rw[show k=lo+(x+1)-1 by lia]⟩
  .rw[qV hl];simp only[false_eq_true,if_false];refine wpS_bind (gT C hst2 (hb.oks o) (by lia) (by lia) ?_);by_cases hg:bC rk (arrOf st2) (lo+x-1)<bC rk (arrOf st2) (lo+x)
   .rw[qU hg];exact wpS_pure ⟨x,q,rfl,hx1,by lia,hb,hd,hq,he⟩
   .rw[qV hg];refine wpS_pure ⟨q+1,rfl,hb,iQ (by lia) hd (by lia),by lia,λk h1 h2=>?_⟩;rw[show lo+(x+1)-1=lo+x by lia];by_cases hk:k=lo+x
    .rw[hk]
    .rw[he k (by lia) (by lia)];lia
 case post=>
  rintro c st2 ⟨x,q,rfl,hx1,hx,hb,hd,hq,he⟩;simp only;by_cases q0:q>0
  .rw[za q0];refine wpS_bind (iM (rk:=rk) hb (by lia) (by lia) λst3 hb3 hr=>?_);have er:=jD he hr;exact rH C hst o (by lia) hx hs hb3 (λy z h1 h2 h3=>by rw[er,er];exact hd y z h1 h2 h3) h
  .rw[zc q0];exact rH C hst o (by lia) hx hs hb hd h
theorem kR(C:Cmp M A E s κ ok rk){lo m:Nat}{st:SortSt}(hst:kindOf st=κ)(o:∀x∈(arrOf st).toList,ok x)(hm:0<m)(hs:lo+m=(arrOf st).size){Q:Option Nat->SortSt->Prop}
  (h:∀n st',1<=n->n<=m->Sb ok lo st st'->Up rk (arrOf st') lo (lo+n)->Q (some n) st'):wpS M A E s (countRun' lo m) Q st:=by
 have up1:∀xs:Array Keyed,Up rk xs lo (lo+1):=λxs x y h1 h2 h3=>by
  obtain rfl:x=y:=by lia
  exact Int.le_refl _
 rw[countRun'_eq];refine wpS_bind (wpS_mono (wpS_forRange (I:=λx c st'=>st'=st/\c=(none,x)/\Up rk (arrOf st) lo (lo+x))
  (Q:=λc st'=>st'=st/\∃n,c=(none,n)/\1<=n/\n<=m/\Up rk (arrOf st) lo (lo+n)/\(n=m\/bC rk (arrOf st) (lo+n)<bC rk (arrOf st) (lo+n-1))) ?step ?fin ⟨rfl,rfl,up1 _⟩) ?post)
 case fin=>rintro c st' ⟨rfl,rfl,hu⟩;rw[show max 1 m=m by lia]at hu⊢;exact⟨rfl,m,rfl,hm,zd _,hu,.inl rfl⟩
 case step=>
  rintro x c st' hx1 hx ⟨rfl,rfl,hu⟩;refine wpS_bind (gT C hst (Sb.refl.oks (lo:=lo) o) (by simp only;lia) (by simp only;lia) ?_);simp only;by_cases hl:bC rk (arrOf st') (lo+x)<bC rk (arrOf st') (lo+x-1)
  .rw[qU hl];exact wpS_pure ⟨rfl,x,rfl,hx1,by lia,hu,.inr hl⟩
  .rw[qV hl];exact wpS_pure ⟨rfl,rfl,rC hx1 hu hl⟩
 case post=>
  rintro c st' ⟨rfl,n,rfl,n1,nm,hu,he⟩;simp only;by_cases e:n=m
  .rw[za (by simp[e])];exact wpS_pure (h n st' n1 nm Sb.refl hu)
  .rw[zc (by simpa using e)];have he:=he.resolve_left e;by_cases n2:n>1
   .rw[za n2];refine wpS_bind (gT C hst (Sb.refl.oks (lo:=lo) o) (by lia) (by lia) ?_);by_cases hl:bC rk (arrOf st') lo<bC rk (arrOf st') (lo+n-1)
    .rw[qU hl];exact wpS_pure (h n st' n1 nm Sb.refl hu)
    .rw[qV hl];have he2:∀k,lo<=k->k<lo+n->bC rk (arrOf st') k=bC rk (arrOf st') (lo+n-1):=λk h1 h2=>by have:=hu lo k (zd _) h1 h2;have:=hu k (lo+n-1) h1 (by lia) (by lia);lia
     refine wpS_bind (iM (rk:=rk) (Sb.refl (ok:=ok)) (zd _) (by lia) λst3 hb3 hr=>?_);have er:=jD he2 hr;show wpS M A E s (sI lo n m) Q st3;refine sH C hst o n1 (by lia) hs hb3 (iQ n1 (λy z h1 h2 h3=>?_) (by rw[er,er];exact Int.le_of_lt he)) h;rw[er,er,he2 y h1 (by lia),he2 z (by lia) h3];exact Int.le_refl _
   .rw[zc n2];obtain rfl:n=1:=by lia
    show wpS M A E s (sI lo 1 m) Q st';refine sH C hst o n1 (by lia) hs Sb.refl (iQ n1 (λy z h1 h2 h3=>?_) (Int.le_of_lt he)) h;obtain rfl:y=z:=by lia
    exact Int.le_refl _
theorem lA{xs:Array Keyed}{src d:Nat}(hs:src<xs.size)(hd:d<=src)(k:Nat):bC rk (bubble xs src d) k=if k=src-d then bC rk xs src else if src-d<k/\k<=src then bC rk xs (k-1)else bC rk xs k:=by
 unfold bC;rw[getElem?_bubble hs d hd k];split
 .rfl
 .split<;>rfl
theorem mS(C:Cmp M A E s κ ok rk){lo n m:Nat}{st st':SortSt}(hst:kindOf st=κ)(o:∀x∈(arrOf st).toList,ok x)(hm:m<=n)(hs:lo+n<=(arrOf st).size)(hb:Sb ok lo st st')(hu:Up rk (arrOf st') lo (lo+m)){Q:Bool->SortSt->Prop}
  (h:∀st',Sb ok lo st st'->Up rk (arrOf st') lo (lo+n)->Q true st'):wpS M A E s (binarySort' lo n m) Q st':=by
 rw[binarySort'_eq];refine wpS_bind (wpS_mono (wpS_forRange (I:=λk c st2=>c=(none,())/\Sb ok lo st st2/\Up rk (arrOf st2) lo (lo+min k n)) (Q:=λc st2=>c=(none,())/\Sb ok lo st st2/\Up rk (arrOf st2) lo (lo+n)) ?step ?fin ?init) ?post);case post=>rintro c st2 ⟨rfl,hb2,hu2⟩;exact wpS_pure (h st2 hb2 hu2)
 case init=>
  refine⟨rfl,hb,λx y h1 h2 h3=>?_⟩;by_cases e:m=0
  .obtain rfl:x=y:=by omega
   exact Int.le_refl _
  .exact hu x y h1 h2 (by omega)
 case fin=>rintro c st2 ⟨hc,hb2,hu2⟩;rw[show min (max (max m 1) n) n=n by omega]at hu2;exact⟨hc,hb2,hu2⟩
 case step=>
  rintro k c st2 hk1 hk ⟨rfl,hb2,hu2⟩;rw[show min k n=k by omega]at hu2;have sz:=hb2.size;refine wpS_bind (wpS_mono (wpS_forRange (I:=λx c st3=>st3=st2/\∃l r,c=(none,l,r)/\l<=r/\r<=k/\r-l<=k-x/\(∀i,i<l->bC rk (arrOf st2) (lo+i)<=bC rk (arrOf st2) (lo+k))/\∀i,r<=i->i<k->bC rk (arrOf st2) (lo+k)<bC rk (arrOf st2) (lo+i))
   (Q:=λc st3=>st3=st2/\∃l r,c=(none,l,r)/\l<=k/\(∀i,i<l->bC rk (arrOf st2) (lo+i)<=bC rk (arrOf st2) (lo+k))/\∀i,l<=i->i<k->bC rk (arrOf st2) (lo+k)<bC rk (arrOf st2) (lo+i)) ?istep ?ifin ?iinit) ?ipost)
  case iinit=>exact⟨rfl,0,k,rfl,by omega,by omega,by omega,λi hi=>by omega,λi h1 h2=>by omega⟩
  case ifin=>
   rintro c st3 ⟨rfl,l,r,rfl,h1,h2,h3,h4,h5⟩;obtain rfl:l=r:=by omega
   exact⟨rfl,l,l,rfl,h2,h4,h5⟩
  case istep=>
   rintro x c st3 _ hx ⟨rfl,l,r,rfl,h1,h2,h3,h4,h5⟩;simp only;by_cases e:l≥r
   .rw[za e];obtain rfl:l=r:=by omega
    exact wpS_pure ⟨rfl,l,l,rfl,h2,h4,h5⟩
   .rw[zc e];refine wpS_bind (gT C (hb2.rest.1.trans hst) (hb2.oks o) (by omega) (by omega) ?_);by_cases hl:bC rk (arrOf st3) (lo+k)<bC rk (arrOf st3) (lo+(l+r)/2)
    .rw[qU hl];refine wpS_pure ⟨rfl,l,(l+r)/2,rfl,by omega,by omega,by omega,h4,λi a1 a2=>?_⟩;have:=hu2 (lo+(l+r)/2) (lo+i) (by omega) (by omega) (by omega);omega
    .rw[qV hl];refine wpS_pure ⟨rfl,(l+r)/2+1,r,rfl,by omega,h2,by omega,λi a1=>?_,h5⟩;have:=hu2 (lo+i) (lo+(l+r)/2) (by omega) (by omega) (by omega);omega
  case ipost=>
   rintro c st3 ⟨rfl,l,r,rfl,h2,h4,h5⟩;simp only;rw[moveDown'_eq];refine wpS_bind (wpS_modify (wpS_pure ⟨rfl,⟨(bubble_perm _ _ _).trans hb2.perm,λi hi=>?_,hb2.rest⟩,λx y a1 a2 a3=>?_⟩))
   .show(bubble (arrOf st3) (lo+k) (lo+k-(lo+l)))[i]?=_;rw[getElem?_bubble (by omega) _ (by omega),zc (by omega),zc (by omega)];exact hb2.pre i hi
   .show bC rk (bubble (arrOf st3) (lo+k) (lo+k-(lo+l))) x<=bC rk (bubble (arrOf st3) (lo+k) (lo+k-(lo+l))) y;rw[show min (k+1) n=k+1 by omega]at a3;rw[lA (by omega) (by omega),lA (by omega) (by omega)];have g4:=h4 (x-lo);have g5:=h5 (y-1-lo);rw[show lo+(x-lo)=x by omega]at g4;have u1:=hu2 x y;have u2:=hu2 x (y-1);have u3:=hu2 (x-1) (y-1);have g6:=h5 (x-lo);by_cases e1:x=lo+k-(lo+k-(lo+l))
    .rw[za e1];split
     .exact Int.le_refl _
     .split
      .rw[show lo+(y-1-lo)=y-1 by omega]at g5;exact Int.le_of_lt (g5 (by omega) (by omega))
      .omega
    .rw[zc e1];split
     .split
      .omega
      .split
       .exact u3 (by omega) (by omega) (by omega)
       .omega
     .split
      .exact g4 (by omega)
      .split
       .exact u2 (by omega) (by omega) (by omega)
       .exact u1 (by omega) (by omega) (by omega)
def putAt(a:Array Keyed)(i:Nat)(l:List Keyed):Array Keyed:=l.zipIdx.foldl (λa(p,j)=>a.setIfInBounds (i+j) p) a
theorem nI(i:Nat):mergeAt' i=(do
 let u<-get
 let(some (p,n,q),some (r,m,_)):=((pendingOf u)[i]?,(pendingOf u)[i+1]?)|unsupported "internal:list.sort.pending"
 set (setPending u (((pendingOf u).setIfInBounds i (p,n+m,q)).eraseIdxIfInBounds (i+1)))
 let some k<-dP false (<-elem' (arrOf u) r) (arrOf u) p n 0|return false
 let(p,n):=(p+k,n-k)
 if n==0 then return true
 let some m<-dP true (<-elem' (arrOf u) (p+n-1)) (arrOf u) r m (m-1)|return false
 if m==0 then return true
 let x:=(arrOf u).extract p r
 let y:=(arrOf u).extract r (r+m)
 let z<-if n<=m then jK x y else jM x y
 modify λs=>setArr s (putAt (arrOf s) p z.toList)
 return(failedOf (<-get)).isNone):=rfl
theorem vG(l:List Keyed):∀(a:Array Keyed)(i c:Nat),i+c+l.length<=a.size->((l.zipIdx c).foldl (λa(p,j)=>a.setIfInBounds (i+j) p) a).toList=a.toList.take (i+c)++l++a.toList.drop (i+c+l.length):=by
 induction l with
 |nil=>intro a i c h;simp
 |cons x l ih=>
  intro a i c h;rw[qv]at h;have e:(a.setIfInBounds (i+c) x).toList=(a.toList.take (i+c)++[x])++a.toList.drop (i+c+1):=by rw[Array.toList_setIfInBounds,List.set_eq_take_append_cons_drop,za (by simp;lia)];simp
  have hl:(a.toList.take (i+c)++[x]).length=i+(c+1):=by simp;lia
  rw[List.zipIdx_cons,foldl_cons,ih _ _ _ (by simp;lia)];show(a.setIfInBounds (i+c) x).toList.take _++l++(a.setIfInBounds (i+c) x).toList.drop _=_;rw[e,List.take_left' hl,<-drop_drop,List.drop_left' hl,drop_drop];simp[Nat.add_assoc,Nat.add_comm,Nat.add_left_comm]
theorem iX{xs:Array Keyed}{lo hi:Nat}(hu:Up rk xs lo hi)(hh:hi<=xs.size):kF rk (xs.extract lo hi).toList:=by unfold kF;rw[pairwise_iff_getElem];intro x y hx hy hxy;simp only[toList_extract,extract_eq_take_drop,qK,qJ,qY]at hx hy;have:=hu (lo+x) (lo+y) (by lia) (by lia) (by lia);rw[aT (show lo+x<xs.size by lia),aT (show lo+y<xs.size by lia)]at this;simpa[extract_eq_take_drop] using this
theorem iP{xs:Array Keyed}{lo hi:Nat}{x:Keyed}(hh:hi<=xs.size)(h:x∈(xs.extract lo hi).toList):∃k,lo<=k/\k<hi/\rk x=bC rk xs k:=by obtain⟨y,hy,rfl⟩:=List.mem_iff_getElem.mp h;simp only[toList_extract,extract_eq_take_drop,qK,qJ,qY]at hy;exact⟨lo+y,by lia,by lia,by rw[aT (show lo+y<xs.size by lia)];simp[extract_eq_take_drop]⟩
theorem jY{a:Array Keyed}{i j l:Nat}(h1:i<=j)(h2:j<=l):(a.extract i j).toList++(a.extract j l).toList=(a.extract i l).toList:=by rw[toList_extract,toList_extract,toList_extract,extract_eq_take_drop,extract_eq_take_drop,extract_eq_take_drop,show l-i=(j-i)+(l-j) by lia,List.take_add,drop_drop,show i+(j-i)=j by lia]
theorem yA{x:SortSt}{Q:PUnit->SortSt->Prop}{st:SortSt}(h:Q ⟨⟩ x):wpS M A E s (set x:StateT SortSt Sem PUnit) Q st:=wpS_modify (f:=λ_=>x) h
theorem mR(C:Cmp M A E s κ ok rk){n m q q':Nat}{st:SortSt}(hst:kindOf st=κ)(o:∀x∈(arrOf st).toList,ok x)(hp:pendingOf st=#[(0,n,q),(n,m,q')])(n0:0<n)(m0:0<m)(hs:n+m=(arrOf st).size)(hf:failedOf st=none)(u1:Up rk (arrOf st) 0 (0+n))(u2:Up rk (arrOf st) n (n+m)){Q:Bool->SortSt->Prop}
  (h:∀st',(arrOf st').Perm (arrOf st)->pendingOf st'=#[(0,n+m,q)]->failedOf st'=none->Up rk (arrOf st') 0 (arrOf st).size->Q true st'):wpS M A E s (mergeAt' 0) Q st:=by
 have oks:∀i(hi:i<(arrOf st).size),ok (arrOf st)[i]:=λi hi=>o _ (by simp);rw[nI];refine wpS_bind (wpS_get ?_);rw[hp];have ep:((#[(0,n,q),(n,m,q')]:Array (Nat×Nat×Nat)).setIfInBounds 0 (0,n+m,q)).eraseIdxIfInBounds (0+1)=#[(0,n+m,q)]:=by simp[Array.setIfInBounds,Array.eraseIdxIfInBounds,Array.eraseIdx]
 refine wpS_bind (yA ?_);rw[ep];have nS:n<(arrOf st).size:=by lia
 refine wpS_bind (aH nS ?_);refine wpS_bind (cJ (st:=setPending st #[(0,n+m,q)]) C (oks _ nS) oks (by lia) n0 u1 hst λk hc=>?_);have kn:=hc.2.1;have lowA:∀x,x<k->bC rk (arrOf st) x<=bC rk (arrOf st) n:=λx hx=>by have:=hc.2.2.1 x hx;unfold fU at this;rw[aT nS];simpa using this
 have hiA:∀x,k<=x->x<n->bC rk (arrOf st) n<bC rk (arrOf st) x:=λx h1 h2=>by have:=hc.2.2.2 x h1 h2;unfold fU at this;rw[aT nS];simpa using this
 simp only;by_cases e:n-k=0
 .rw[za (by simp[e])];refine wpS_pure (h _ (.refl _) rfl hf λx y h1 h2 h3=>?_);have a1:=u1 x y h1 h2;have a2:=u2 x y;have a3:=u2 n y (zd _);have a4:=lowA x;by_cases hy:y<n
  .exact a1 (by lia)
  .by_cases hx:x<n
   .exact Int.le_trans (a4 (by lia)) (a3 (by lia) (by lia))
   .exact a2 (by lia) h2 (by lia)
 rw[zc (by simpa using e)];have n1S:0+k+(n-k)-1<(arrOf st).size:=by lia
 refine wpS_bind (aH n1S ?_);refine wpS_bind (cJ (st:=setPending st #[(0,n+m,q)]) C (oks _ n1S) oks (by lia) (by lia) u2 hst λm2 hd=>?_);have m2m:=hd.2.1;have en:0+k+(n-k)-1=n-1:=by lia
 have lowB:∀x,n<=x->x<n+m2->bC rk (arrOf st) x<bC rk (arrOf st) (n-1):=λx h1 h2=>by have:=hd.2.2.1 (x-n) (by lia);unfold fU at this;rw[show n+(x-n)=x by lia,<-aT (rk:=rk) n1S,en]at this;simpa using this
 have hiB:∀x,n+m2<=x->x<n+m->bC rk (arrOf st) (n-1)<=bC rk (arrOf st) x:=λx h1 h2=>by have:=hd.2.2.2 (x-n) (by lia) (by lia);unfold fU at this;rw[show n+(x-n)=x by lia,<-aT (rk:=rk) n1S,en]at this;simpa using this
 simp only;by_cases e2:m2=0
 .rw[za (by simp[e2])];refine wpS_pure (h _ (.refl _) rfl hf λx y h1 h2 h3=>?_);by_cases hy:y<n
  .exact u1 x y h1 h2 (by lia)
  .by_cases hx:x<n
   .exact Int.le_trans (u1 x (n-1) h1 (by lia) (by lia)) (hiB y (by lia) (by lia))
   .exact u2 x y (by lia) h2 (by lia)
 rw[zc (by simpa using e2),zero_add];have sz:=hs;have memX:∀x∈((arrOf st).extract k n).toList,∃c,k<=c/\c<n/\rk x=bC rk (arrOf st) c:=λx hx=>iP (by lia) hx;have memY:∀x∈((arrOf st).extract n (n+m2)).toList,∃c,n<=c/\c<n+m2/\rk x=bC rk (arrOf st) c:=λx hx=>iP (by lia) hx;have okE:∀(c d i:Nat)(hi:i<((arrOf st).extract c d).size),ok ((arrOf st).extract c d)[i]:=λc d i hi=>o _ (by rw[getElem_extract];simp);have fin:∀(z:Array Keyed)(st2:SortSt),kN rk ((arrOf st).extract k n) ((arrOf st).extract n (n+m2)) z->bO (setPending st #[(0,n+m,q)]) st2->wpS M A E s (modify (λs=>setArr s (putAt (arrOf s) k z.toList))>>=λ_=>get>>=λu=>pure (failedOf u).isNone) Q st2:=λz st2 hr ks=>by
  have ea:arrOf st2=arrOf st:=ks.2.1;have hz:z.toList.length=n-k+m2:=by rw[hr.1.length_eq,qr,qY,qY,size_extract,size_extract];lia
  have el:(putAt (arrOf st2) k z.toList).toList=((arrOf st).extract 0 k).toList++z.toList++((arrOf st).extract (n+m2) (n+m)).toList:=by have:=vG z.toList (arrOf st) k 0 (by lia);rw[ea];rw[Nat.add_zero,hz,show k+(n-k+m2)=n+m2 by lia]at this;rw[show(putAt (arrOf st) k z.toList).toList=_ from this,toList_extract,toList_extract,extract_eq_take_drop,extract_eq_take_drop,drop_zero,sub_zero];congr 1;rw[take_of_length_le (by simp;lia)]
  refine wpS_bind (wpS_modify (wpS_bind (wpS_get ?_)));have ef:(failedOf (setArr st2 (putAt (arrOf st2) k z.toList))).isNone=true:=by show(failedOf st2).isNone=true;rw[ks.2.2.2];show(failedOf st).isNone=true;rw[hf];rfl
  rw[ef];have memZ:∀x∈z.toList,(∃c,k<=c/\c<n/\rk x=bC rk (arrOf st) c)\/∃c,n<=c/\c<n+m2/\rk x=bC rk (arrOf st) c:=λx hx=>(qA.mp (hr.1.mem_iff.mp hx)).imp (memX x) (memY x);have memT:∀x∈((arrOf st).extract 0 k).toList,∃c,0<=c/\c<k/\rk x=bC rk (arrOf st) c:=λx hx=>iP (by lia) hx;have memD:∀x∈((arrOf st).extract (n+m2) (n+m)).toList,∃c,n+m2<=c/\c<n+m/\rk x=bC rk (arrOf st) c:=λx hx=>iP (by lia) hx;have srt:kF rk (putAt (arrOf st2) k z.toList).toList:=by
   rw[el];have s1:=iX (rk:=rk) (xs:=arrOf st) (lo:=0) (hi:=k) (λx y h1 h2 h3=>u1 x y h1 h2 (by lia)) (by lia);have s2:=iX (rk:=rk) (xs:=arrOf st) (lo:=n+m2) (hi:=n+m) (λx y h1 h2 h3=>u2 x y (by lia) h2 h3) (by lia);refine pairwise_append.mpr ⟨pairwise_append.mpr ⟨s1,hr.2,λx hx y hy=>?_⟩,s2,λx hx y hy=>?_⟩
   .obtain⟨c,_,hc,ex⟩:=memT x hx;have a1:=lowA c hc;rcases memZ y hy with⟨d,h1,h2,ey⟩|⟨d,h1,h2,ey⟩
    .have a2:=hiA d h1 h2;lia
    .have a2:=u2 n d (zd _) h1 (by lia);lia
   .obtain⟨d,h1,h2,ey⟩:=memD y hy;have a2:=hiB d h1 h2;rcases qA.mp hx with hx|hx
    .obtain⟨c,_,hc,ex⟩:=memT x hx;have a1:=u1 c (n-1) (by lia) (by lia) (by lia);lia
    .rcases memZ x hx with⟨c,h3,h4,ex⟩|⟨c,h3,h4,ex⟩
     .have a1:=u1 c (n-1) (by lia) (by lia) (by lia);lia
     .have a1:=lowB c h3 h4;lia
  have pm:(putAt (arrOf st2) k z.toList).Perm (arrOf st):=by
   rw[perm_iff_toList_perm,el];refine((hr.1.append_left _).append_right _).trans ?_;have:(arrOf st).toList=((arrOf st).extract 0 k).toList++(((arrOf st).extract k n).toList++((arrOf st).extract n (n+m2)).toList)++((arrOf st).extract (n+m2) (n+m)).toList:=by rw[jY (by lia) (by lia),jY (by lia) (by lia),jY (by lia) (by lia),toList_extract,extract_eq_take_drop,drop_zero,take_of_length_le (by simp;lia)]
   rw[<-this]
  refine wpS_pure (h _ pm ks.2.2.1 (ks.2.2.2.trans hf) ?_);have:=oI (i:=0) (n:=(arrOf st).size) srt (by rw[zero_add,<-pm.size_eq];exact zd _);rwa[zero_add]at this
 have sx:=iX (rk:=rk) (xs:=arrOf st) (lo:=k) (hi:=n) (λx y h1 h2 h3=>u1 x y (by lia) h2 (by lia)) (by lia);have sy:=iX (rk:=rk) (xs:=arrOf st) (lo:=n) (hi:=n+m2) (λx y h1 h2 h3=>u2 x y h1 h2 (by lia)) (by lia);have zX:((arrOf st).extract k n).size=n-k:=by rw[size_extract];lia
 have zY:((arrOf st).extract n (n+m2)).size=m2:=by rw[size_extract];lia
 have lastX:bC rk ((arrOf st).extract k n) (((arrOf st).extract k n).size-1)=bC rk (arrOf st) (n-1):=by rw[aT (by lia),aT (show n-1<(arrOf st).size by lia),getElem_extract];congr 2;lia
 have y0:rk (((arrOf st).extract n (n+m2))[0]'(by lia))=bC rk (arrOf st) n:=by rw[aT nS,getElem_extract];rfl
 have hlt:∀y∈((arrOf st).extract n (n+m2)).toList,rk y<bC rk ((arrOf st).extract k n) (((arrOf st).extract k n).size-1):=λy hy=>by obtain⟨c,h1,h2,e⟩:=memY y hy;rw[lastX,e];exact lowB c h1 h2
 have h0:∀x∈((arrOf st).extract k n).toList,rk (((arrOf st).extract n (n+m2))[0]'(by lia))<rk x:=λx hx=>by obtain⟨c,h1,h2,e⟩:=memX x hx;rw[y0,e];exact hiA c h1 h2
 by_cases hnm:n-k<=m2
 .rw[za hnm];exact wpS_bind (mP (C:=C) ⟨okE _ _,okE _ _,hlt⟩ sx sy (by lia) (by lia) (Int.le_of_lt (h0 _ (by rw[mem_toList_iff];exact Array.getElem_mem _))) hst fin)
 .rw[zc hnm];exact wpS_bind (mQ (C:=C) ⟨okE _ _,okE _ _,by lia,h0⟩ sx sy (by lia) (λy hy=>by rw[<-aT (rk:=rk)];exact Int.le_of_lt (hlt y hy)) hst fin)
theorem zZ{n:Nat}(h2:2<=n)(h:n<128):minRun' n n 0<=n/\n<=2*minRun' n n 0:=by
 obtain⟨f,rfl⟩:∃f,n=f+1+1:=⟨n-2,by lia⟩
 rw[minRun'_succ];split
 .lia
 .rw[minRun'_succ,za (by lia)];lia
structure Rn(st st':SortSt):Prop where
 perm:(arrOf st').Perm (arrOf st)
 kind:kindOf st'=kindOf st
 failed:failedOf st'=none
def One(rk:Keyed->Int)(n:Nat)(st:SortSt):Prop:=pendingOf st=#[(0,n,0)]/\Up rk (arrOf st) 0 (0+n)
def Bq(rk:Keyed->Int)(n:Nat)(st:SortSt):Prop:=∃k q,0<k/\k<n/\pendingOf st=#[(0,k,q),(k,n-k,0)]/\Up rk (arrOf st) 0 (0+k)/\Up rk (arrOf st) k (k+(n-k))
theorem lR(C:Cmp M A E s κ ok rk){n:Nat}{st:SortSt}(hst:kindOf st=κ)(o:∀x∈(arrOf st).toList,ok x)(hp:pendingOf st=#[])(hf:failedOf st=none)(hn:(arrOf st).size=n)(h2:2<=n)(h128:n<128){Q:Unit->SortSt->Prop}
  (h:∀st',(arrOf st').Perm (arrOf st)->failedOf st'=none->Up rk (arrOf st') 0 n->Q () st'):wpS M A E s sortRuns' Q st:=by
 obtain⟨r1,r2⟩:=zZ h2 h128;have oR:∀st',Rn st st'->∀x∈(arrOf st').toList,ok x:=λst' R x hx=>o x ((perm_iff_toList_perm.mp R.perm).mem_iff.mp hx);have zR:∀st',Rn st st'->(arrOf st').size=n:=λst' R=>R.perm.size_eq.trans hn;rw[sortRuns'_eq];refine wpS_bind (wpS_get ?_);rw[hn];generalize hmr:minRun' n n 0=mr at r1 r2;refine wpS_bind (wpS_mono (wpS_forRange
  (I:=λx c st'=>(x=0/\c=(none,0)/\st'=st)\/(x=1/\∃k,c=(none,k)/\mr<=k/\k<n/\Rn st st'/\One rk k st')\/(1<=x/\c=(none,n)/\Rn st st'/\(One rk n st'\/Bq rk n st')))
  (Q:=λc st'=>c=(none,n)/\Rn st st'/\(One rk n st'\/Bq rk n st')) ?step ?fin (.inl ⟨rfl,rfl,rfl⟩)) ?post)
 case fin=>
  rintro c st' (⟨hx,_⟩|⟨hx,_⟩|⟨_,z⟩)
  .lia
  .lia
  .exact z
 case step=>
  rintro x c st' _ hx (⟨rfl,rfl,rfl⟩|⟨rfl,k,rfl,hk,kn,R,hpd,hu⟩|⟨hx1,rfl,z⟩)
  .simp only[hmr];rw[zc (by lia)];have go:∀k st3,mr<=k->k<=n->Sb ok 0 st' st3->Up rk (arrOf st3) 0 (0+k)->(True/\∃k',((none,0+k):Option Unit×Nat)=(none,k')/\mr<=k'/\k'<n/\Rn st' (setPending st3 (#[].push (0,k,0)))/\One rk k' (setPending st3 (#[].push (0,k,0))))\/1<=0+1/\((none,0+k):Option Unit×Nat)=(none,n)/\Rn st' (setPending st3 (#[].push (0,k,0)))/\(One rk n (setPending st3 (#[].push (0,k,0)))\/Bq rk n (setPending st3 (#[].push (0,k,0)))):=λk st3 h1 h3 hb hu=>by
    have R:Rn st' (setPending st3 (#[].push (0,k,0))):=⟨hb.perm,hb.rest.1,hb.rest.2.2.trans hf⟩
    rw[zero_add k];by_cases e:k=n
    .subst e;exact .inr ⟨by lia,rfl,R,.inl ⟨rfl,hu⟩⟩
    .exact .inl ⟨trivial,k,rfl,h1,by lia,R,rfl,hu⟩
   refine wpS_bind (kR C hst o (by lia) (by lia) λk st2 k1 km hb hu=>?_);simp only;by_cases hlt:k<mr
   .rw[za hlt];refine wpS_bind (cW ?_);refine wpS_bind (mS C hst o (by lia) (by lia) hb hu λst3 hb3 hu3=>?_);refine wpS_bind (wpS_get ?_);rw[show pendingOf st3=#[] from hb3.rest.2.1.trans hp];refine wpS_bind (wpS_modify (wpS_pure (.inr ?_)));rw[show pendingOf st3=#[] from hb3.rest.2.1.trans hp];exact go _ st3 (by lia) (by lia) hb3 hu3
   .rw[zc hlt];refine wpS_bind (wpS_get ?_);rw[show pendingOf st2=#[] from hb.rest.2.1.trans hp];refine wpS_bind (wpS_modify (wpS_pure (.inr ?_)));rw[show pendingOf st2=#[] from hb.rest.2.1.trans hp];exact go _ st2 (by lia) (by lia) hb hu
  .simp only[hmr];rw[zc (by lia)];have zs:=zR _ R;refine wpS_bind (kR C (R.kind.trans hst) (oR _ R) (by lia) (by lia) λk2 st2 k1 km hb hu2=>?_);simp only;have go:∀q st3 st4,arrOf st4=arrOf st3->kindOf st4=kindOf st3->failedOf st4=failedOf st3->pendingOf st4=#[(0,k,q),(k,n-k,0)]->Sb ok k st' st3->Up rk (arrOf st3) k (k+(n-k))->Rn st st4/\(One rk n st4\/Bq rk n st4):=λq st3 st4 e1 e2 e3 e hb hu3=>by refine⟨⟨by rw[e1];exact hb.perm.trans R.perm,e2.trans (hb.rest.1.trans R.kind),e3.trans (hb.rest.2.2.trans R.failed)⟩,.inr ⟨k,q,by lia,kn,e,λi j h1 h2 h3=>?_,by rw[e1];exact hu3⟩⟩;rw[e1];have:=hu i j h1 h2 h3;unfold bC at this⊢;show((arrOf st3)[i]?).elim 0 rk<=((arrOf st3)[j]?).elim 0 rk;rw[hb.pre i (by lia),hb.pre j (by lia)];exact this
   by_cases hlt:k2<mr
   .rw[za hlt];refine wpS_bind (cW ?_);refine wpS_bind (mS C (R.kind.trans hst) (oR _ R) (by lia) (by lia) hb hu2 λst3 hb3 hu3=>?_);rw[show min (n-k) mr=n-k by lia]at hu3⊢;refine wpS_bind (wpS_get ?_);rw[show pendingOf st3=#[(0,k,0)] from hb3.rest.2.1.trans hpd];refine wpS_bind (wpS_mono (wpS_forRange (I:=λx c st4=>x=0/\c=(none,())/\st4=st3) (Q:=λc st4=>c=(none,())/\st4=st3) ?s2 ?f2 ⟨rfl,rfl,rfl⟩) ?p2);case f2=>rintro c st4 ⟨e,_⟩;lia
    case s2=>rintro x c st4 _ _ ⟨rfl,rfl,e⟩;refine wpS_bind (wpS_get ?_);rw[e,show pendingOf st3=#[(0,k,0)] from hb3.rest.2.1.trans hpd,zc (by simp)];exact wpS_pure ⟨rfl,rfl⟩
    case p2=>rintro c st4 ⟨rfl,e⟩;rw[e];refine wpS_bind (wpS_modify (wpS_bind (wpS_modify (wpS_pure (.inr (.inr ⟨by lia,by rw[show k+(n-k)=n by lia],go (power' n (2*0+k) (2*0+k+k+(n-k)) n) st3 _ rfl rfl rfl ?_ hb3 hu3⟩))))));show Array.push (Array.modify (pendingOf st3) _ _) _=_;rw[show pendingOf st3=#[(0,k,0)] from hb3.rest.2.1.trans hpd];rfl
   .rw[zc hlt];obtain rfl:k2=n-k:=by lia
    refine wpS_bind (wpS_get ?_);rw[show pendingOf st2=#[(0,k,0)] from hb.rest.2.1.trans hpd];refine wpS_bind (wpS_mono (wpS_forRange (I:=λx c st4=>x=0/\c=(none,())/\st4=st2) (Q:=λc st4=>c=(none,())/\st4=st2) ?s2 ?f2 ⟨rfl,rfl,rfl⟩) ?p2);case f2=>rintro c st4 ⟨e,_⟩;lia
    case s2=>rintro x c st4 _ _ ⟨rfl,rfl,e⟩;refine wpS_bind (wpS_get ?_);rw[e,show pendingOf st2=#[(0,k,0)] from hb.rest.2.1.trans hpd,zc (by simp)];exact wpS_pure ⟨rfl,rfl⟩
    case p2=>rintro c st4 ⟨rfl,e⟩;rw[e];refine wpS_bind (wpS_modify (wpS_bind (wpS_modify (wpS_pure (.inr (.inr ⟨by lia,by rw[show k+(n-k)=n by lia],go (power' n (2*0+k) (2*0+k+k+(n-k)) n) st2 _ rfl rfl rfl ?_ hb hu2⟩))))));show Array.push (Array.modify (pendingOf st2) _ _) _=_;rw[show pendingOf st2=#[(0,k,0)] from hb.rest.2.1.trans hpd];rfl
  .simp only;rw[za (zd _)];exact wpS_pure ⟨rfl,z⟩
 case post=>
  rintro c st' ⟨rfl,R,z⟩;simp only;refine wpS_bind (wpS_mono (wpS_forRange (I:=λx c st4=>c=(none,())/\((x=0/\st4=st')\/(1<=x/\(arrOf st4).Perm (arrOf st)/\failedOf st4=none/\Up rk (arrOf st4) 0 n/\(pendingOf st4).size=1))) (Q:=λc st4=>c=(none,())/\(arrOf st4).Perm (arrOf st)/\failedOf st4=none/\Up rk (arrOf st4) 0 n) ?step2 ?fin2 ⟨rfl,.inl ⟨rfl,rfl⟩⟩) ?post2);case post2=>rintro _ st4 ⟨rfl,h3,h4,h5⟩;exact wpS_pure (h st4 h3 h4 h5)
  case fin2=>
   rintro c st4 ⟨e,⟨hx,_⟩|⟨_,h3,h4,h5,_⟩⟩
   .lia
   .exact⟨e,h3,h4,h5⟩
  case step2=>
   rintro x _ st4 _ _ ⟨rfl,⟨rfl,rfl⟩|⟨_,h3,h4,h5,h6⟩⟩
   .refine wpS_bind (wpS_get ?_);rcases z with⟨hp1,hu⟩|⟨k,q,k0,kn,hp2,u1,u2⟩
    .rw[hp1,za (by simp)];exact wpS_pure ⟨rfl,R.perm,R.failed,by rwa[zero_add]at hu⟩
    .rw[hp2,zc (by simp)];refine wpS_bind (mR C (R.kind.trans hst) (oR _ R) hp2 k0 (by lia) (by rw[zR _ R];lia) R.failed u1 u2 λst5 p5 d5 f5 u5=>?_);rw[zR _ R]at u5;exact wpS_pure ⟨rfl,.inr ⟨by lia,p5.trans R.perm,f5,u5,by rw[d5];rfl⟩⟩
   .refine wpS_bind (wpS_get ?_);rw[za (by lia)];exact wpS_pure ⟨rfl,h3,h4,h5⟩
theorem mO:∀vs:List Value,vs.zip vs=vs.map λv=>(v,v)
 |[]=>rfl
 |v::r=>by show(v,v)::r.zip r=_;rw[mO r];rfl
theorem list_sort128{a:Addr}{vs:List Value}{n:Nat}{P:Fin->Shared->Prop}(ho:s.heap.get? a=some (seqObj "list" vs.toArray n))(h2:2<=vs.length)(h128:vs.length<128)
  (hk:∀h':Heap,(∀b o,b≠a->s.heap.get? b=some o->h'.get? b=some o)->(∀Q:SortKind->Shared->Prop,Q κ {s with heap:=h'}->wpAny (model prog w) A (keyKind' vs.toArray) Q E {s with heap:=h'})/\Cmp (model prog w) A E {s with heap:=h'} κ ok rk)
  (hok:∀v∈vs,ok (v,v))
  (h:∀out:List Value,out.Perm vs->out.Pairwise (λu v=>rk (u,u)<=rk (v,v))->P (.done (.ret .none)) {s with heap:=sortedHeap s.heap a vs out.toArray}):
  wpAny (model prog w) A (Builtin.«list.sort» ⟨[.ref a],[]⟩) P E s:=by
 have ha:a<s.heap.objs.size:=qe ho;rw[list_sort_plain];refine qa (listItems_at ho rfl ?_);refine qa (listUpdate_at ho rfl ?_ (by rw[qt,zj];lia) (zero_le _));obtain⟨e1,ho1⟩:∃e1,(s.heap.update a (Obj.mapSeq λ_=>#[])).get? a=some (seqObj "list" #[] e1):=⟨_,get?_update_seq ho (λ_=>#[])⟩
 refine qa (seqEpoch_at ho1 rfl ?_);refine qa (wpAny_newTuple ?_ (by show vs.length<=_;rw[zj];lia));refine qa (wpAny_newList ?_ (zero_le _));refine zk ?_;have ho6:(((s.heap.update a (Obj.mapSeq λ_=>#[])).push (seqObj "tuple" vs.toArray 0)).push (seqObj "list" #[] 0)).get? a=some (seqObj "list" #[] e1):=by rw[Heap.get?_push_ne _ _ _ (by rw[size_push',Heap.size_update];exact ne_of_lt (lt_succ_of_lt ha)),Heap.get?_push_ne _ _ _ (by rw[Heap.size_update];exact ne_of_lt ha)];exact ho1
 obtain⟨k1,C⟩:=hk (((s.heap.update a (Obj.mapSeq λ_=>#[])).push (seqObj "tuple" vs.toArray 0)).push (seqObj "list" #[] 0)) λb o hb e=>qc _ (qc _ (by rw[Heap.get?_update_ne _ _ _ _ hb];exact e));show wpAny (model prog w) A _ P E {s with heap:=((s.heap.update a (Obj.mapSeq λ_=>#[])).push (seqObj "tuple" vs.toArray 0)).push (seqObj "list" #[] 0)};dsimp only;have hn2:¬vs.toArray.size<2:=by rw[qt];lia
 rw[zc hn2,zc hn2];refine qa (k1 _ ?_);have hzz:(vs.toArray.zip vs.toArray).size=vs.length:=by rw[Array.size_zip];exact Nat.min_self _
 have hz:(vs.toArray.zip vs.toArray).toList=vs.map λv=>(v,v):=by rw[Array.toList_zip];exact mO vs
 refine qa (zm (lR C (st:=SortSt.mk' κ (vs.toArray.zip vs.toArray) #[] 7 none) (n:=vs.length)
   (Q:=λ_ st'=>(arrOf st').Perm (vs.toArray.zip vs.toArray)/\failedOf st'=none/\Up rk (arrOf st') 0 vs.length) rfl
   (λx hx=>?_) rfl rfl hzz h2 h128 λst' a1 a2 a3=>⟨a1,a2,a3⟩) ?_ λ_ _ e=>e)
 .rw[show(arrOf (SortSt.mk' κ (vs.toArray.zip vs.toArray) #[] 7 none)).toList=vs.map λv=>(v,v) from hz]at hx;obtain⟨v,hv,rfl⟩:=qN.mp hx;exact hok v hv
 .rintro⟨⟨⟩,st'⟩ s' ⟨rfl,hp,hf,hs⟩;have hpl:(arrOf st').toList.Perm (vs.map λv=>(v,v)):=by rw[<-hz];exact perm_iff_toList_perm.mp hp
  have zO:(arrOf st').size=vs.length:=hp.size_eq.trans hzz;have ho2:(arrOf st').map (·.2)=((arrOf st').toList.map (·.2)).toArray:=Array.toList_inj.mp Array.toList_map;dsimp only;refine qa (seqEpoch_at ho6 rfl ?_);refine qa (listUpdate_at ho6 rfl ?_ (hsz2:=by rw[Array.size_map,zO,zj];lia));rw[hf];simp only[bne_self_eq_false,false_eq_true,if_false];rw[ho2];have pv:((arrOf st').toList.map (·.2)).Perm vs:=by have:=hpl.map (λx:Keyed=>x.2);rwa[qH,show((λx:Keyed=>x.2)∘λv=>(v,v))=id from rfl,map_id]at this
  refine qb (h _ pv ?_);have sq:=iX hs (by rw[zO];exact zd _);rw[show(arrOf st').extract 0 vs.length=arrOf st' by rw[<-zO];exact Array.extract_size ..]at sq;rw[pairwise_map];refine List.Pairwise.imp_of_mem (λ{x y} hx hy r=>?_) sq;obtain⟨v,_,rfl⟩:=qN.mp (hpl.mem_iff.mp hx);obtain⟨u,_,rfl⟩:=qN.mp (hpl.mem_iff.mp hy);exact r
theorem sorted128{l:Addr}{vs:List Value}{Q:zo}(hl:s.heap.IsList l vs.toArray)(h2:2<=vs.length)(h128:vs.length<128)
  (hk:∀h':Heap,(∀b o,s.heap.get? b=some o->h'.get? b=some o)->(∀Q:SortKind->Shared->Prop,Q κ {s with heap:=h'}->wpAny (model prog w) A.in1.in1 (keyKind' vs.toArray) Q E {s with heap:=h'})/\Cmp (model prog w) A.in1.in1 E {s with heap:=h'} κ ok rk)
  (hok:∀v∈vs,ok (v,v))
  (h:∀out:List Value,out.Perm vs->out.Pairwise (λu v=>rk (u,u)<=rk (v,v))->Q (.ref (s.heap.objs.size+1)) {s with heap:=sortedAll s.heap vs out.toArray}):
  wpAny (model prog w) A (call (.builtin "sorted") [.ref l]) Q E s:=by
 refine Calls.call_function_entry kind_sorted plain_sorted entry_sorted (args_sorted1 _) ?_;unfold Builtin.«sorted»;refine qa (m:=checkCount "sorted" 1 1 _) (qb ?_);refine qa (collect_list hl ?_ (by rw[zj];lia));refine qa (wpAny_newList ?_ (by rw[zj];lia));have hsz:((s.heap.push (seqObj "list" #[] 0)).update s.heap.objs.size (Obj.mapSeq (·++vs.toArray))).objs.size=s.heap.objs.size+1:=by rw[Heap.size_update,size_push']
 have hoL:(((s.heap.push (seqObj "list" #[] 0)).update s.heap.objs.size (Obj.mapSeq (·++vs.toArray))).push (seqObj "list" vs.toArray 0)).get? (s.heap.objs.size+1)=some (seqObj "list" vs.toArray 0):=by rw[<-hsz];exact qd _ rfl
 show wpAny _ _ _ _ _ {s with heap:=((s.heap.push (seqObj "list" #[] 0)).update s.heap.objs.size (Obj.mapSeq (·++vs.toArray))).push (seqObj "list" vs.toArray 0)};rw[hsz];refine qa (zk (zi slot_list_sort ⟨_,hoL,rfl⟩ entry_list_sort (list_sort128 hoL h2 h128 (λh' kp=>hk h' λb o e=>kp b o ?_ ?_) hok λout a1 a2=>⟨_,rfl,?_⟩) (args_list_sort _)))
 .exact ne_of_lt (lt_succ_of_lt (qe e))
 .have hlt:b<s.heap.objs.size:=qe e;show(((s.heap.push (seqObj "list" #[] 0)).update s.heap.objs.size (Obj.mapSeq (·++vs.toArray))).push (seqObj "list" vs.toArray 0)).get? b=some o;rw[Heap.get?_push_ne _ _ _ (by rw[hsz];exact ne_of_lt (lt_succ_of_lt hlt)),Heap.get?_update_ne _ _ _ _ (ne_of_lt hlt),Heap.get?_push_ne _ _ _ (ne_of_lt hlt)];exact e
 .exact qb ⟨_,rfl,h out a1 a2⟩
end TS
namespace FL
open PySem PySem.Spec PyProof.Rows L2 PySem.W
section
variable{ps:List (List aR×Addr)}
def AY(ps:List (List aR×Addr))(x:Keyed):Int:=match x.1 with
 |.ref b=>FP (ps.map tK) (ps.findIdx λp=>p.2==b)
 |_=>0
theorem MW(hu:∀p∈ps,∀q∈ps,p.2=q.2->p.1=q.1){p:List aR×Addr}(hp:p∈ps):∃i,∃h:i<ps.length,ps[i]=p/\∀v,AY ps (.ref p.2,v)=FP (ps.map tK) i:=by
 have hl:ps.findIdx (λq=>q.2==p.2)<ps.length:=List.findIdx_lt_length_of_exists ⟨p,hp,by simp⟩;have e:=List.findIdx_getElem (p:=λq:List aR×Addr=>q.2==p.2) (w:=hl);have e2:ps[ps.findIdx (λq=>q.2==p.2)].2=p.2:=by simpa using e
 exact⟨_,hl,Prod.ext (hu _ (getElem_mem hl) _ hp e2) e2,λ_=>rfl⟩
theorem Nl(hu:∀p∈ps,∀q∈ps,p.2=q.2->p.1=q.1)(hs:∀p∈ps,gG sh (p.1.map aK)){p q:List aR×Addr}(hp:p∈ps)(hq:q∈ps){u v:Value}:decide (AY ps (.ref p.2,u)<AY ps (.ref q.2,v))=!fZ (tK q) (tK p):=by
 obtain⟨i,hi,ei,ri⟩:=MW hu hp;obtain⟨j,hj,ej,rj⟩:=MW hu hq;have hk:∀d∈ps.map tK,lK sh d:=λd hd=>by obtain⟨p,hp,rfl⟩:=qN.mp hd;exact hs p hp
 have:=RY (HD sh) hk (i:=i) (j:=j) (by rw[qp];exact hi) (by rw[qp];exact hj);rw[ri,rj,this];simp[hi,hj,ei,ej]
theorem PZ{b:Bool}(ht:∀p∈ps,tH s.heap p.2 p.1/\gG sh (p.1.map aK))(hu:∀p∈ps,∀q∈ps,p.2=q.2->p.1=q.1):TS.Cmp (model prog w) A E s (tuples' b) (λx=>∃p∈ps,x=(.ref p.2,.ref p.2)) (AY ps):=by
 refine⟨λx y Q st hst⟨p,hp,ex⟩⟨q,hq,ey⟩ h=>?_⟩;subst ex ey;rw[Nl hu (λp hp=>(ht p hp).2) hp hq]at h;rw[lt'_eq];refine wpS_bind (wpS_get ?_);rw[hst];obtain⟨⟨us,r,o,e,c,n,d⟩,ki⟩:=ht _ hp;obtain⟨⟨us',r',o',e',c',n',d'⟩,kj⟩:=ht _ hq;rw[show fZ (tK q) (tK p)=_ from xV kj ki,Bool.not_not]at h;refine wpS_bind (wpS_lift (wpAny_attempt (kat_lt e d e' d' ?_)));have l1:us.toArray.size=p.1.length:=by rw[qt,<-r.length,qp]
 have l2:us'.toArray.size=q.1.length:=by rw[qt,<-r'.length,qp]
 rw[l1,l2];exact Yi 0 r r' ki kj ⟨rfl,wpS_pure h⟩
theorem PB{t:Bool}(ht:∀p∈ps,tH s.heap p.2 p.1/\gG (t::sh) (p.1.map aK))(h2:2<=ps.length){Q:SortKind->Shared->Prop}(h:Q (tuples' true) s):wpAny (model prog w) A (keyKind' (ps.map λp=>Value.ref p.2).toArray) Q E s:=by
 obtain⟨fs,t1,t2,t3⟩:=nK ht;cases t
 .refine kat_kind (T:=.type "int") t1 (by lia) (λv hv=>?_) (by rfl) h;obtain⟨z,u,rfl⟩:=t3 v hv;exact Looks.of_pure rfl
 .refine kat_kind (T:=.type "str") t1 (by lia) (λv hv=>?_) (by rfl) h;obtain⟨z,u,rfl⟩:=t3 v hv;exact Looks.of_pure rfl
theorem Qd(ht:∀p∈ps,gG sh (p.1.map aK))(hu:∀p∈ps,∀q∈ps,p.2=q.2->p.1=q.1){out:List Value}(hp:out.Perm (ps.map λp=>Value.ref p.2))(hw:out.Pairwise λu v=>AY ps (u,u)<=AY ps (v,v)):
  ∃qs:List (List aR×Addr),out=(qs.map λp=>Value.ref p.2)/\qs.Perm ps/\(qs.map tK).Pairwise (fZ · ·=true):=by
 obtain⟨qs,rfl,pq⟩:=HU hp;refine⟨qs,rfl,pq,?_⟩;rw[pairwise_map]at hw⊢;refine hw.imp_of_mem λ{p q} h1 h2 r=>?_;have:=Nl hu ht (pq.mem_iff.mp h2) (pq.mem_iff.mp h1) (u:=.ref q.2) (v:=.ref p.2);rw[qV (by lia)]at this;simpa using this.symm
theorem Od:∀v∈ps.map (λp=>Value.ref p.2),∃p∈ps,(v,v)=(Value.ref p.2,Value.ref p.2):=λv hv=>by obtain⟨p,hp,rfl⟩:=qN.mp hv;exact⟨p,hp,rfl⟩
end
section
variable{K:W.Frag}
def jE(K:W.Frag):List V->Hp->VK->Prop:=λxs H Q=>∃a vs,xs=[.ref a]/\(cA K H a vs\/H a=some (.set vs))/\
 ((vs.length<2/\∀q,H q=none->Q (.ref q) (upd H q (.lst vs)))\/
 ∃(ps:List (List aR×Addr))(sh:List Bool),vs=ps.map (λp=>V.ref p.2)/\2<=ps.length/\ps.length<128/\(∀p∈ps,H p.2=some (.tup (p.1.map kV))/\gG sh (p.1.map aK))/\sh≠[]/\∀qs:List (List aR×Addr),qs.Perm ps->(qs.map tK).Pairwise (fZ · ·=true)->∀q,H q=none->Q (.ref q) (upd H q (.lst (qs.map λp=>V.ref p.2))))
theorem PN:∀{l m:List aR},l.map kV=m.map kV->l=m
 |[],[],_=>rfl
 |[],_::_,h=>nomatch h
 |_::_,[],h=>nomatch h
 |a::l,b::m,h=>by obtain⟨h1,h2⟩:=List.cons.inj h;rw[PN h2];cases a<;>cases b<;>first|cases h1;rfl|nomatch h1
theorem NG{H:Hp}{ps:List (List aR×Addr)}(hp:∀p∈ps,H p.2=some (.tup (p.1.map kV))):∀p∈ps,∀q∈ps,p.2=q.2->p.1=q.1:=λp hp1 q hp2 e=>by have z:=hp p hp1;rw[e,hp q hp2]at z;exact(PN (HO.tup.inj (qg z))).symm
theorem JO(I:Inv X zL Z H s){s2:Shared}{D:Addr}{out:Array Value}{e:Nat}{ws:List V}(rv:zI ws out.toList)(hw:ws.length<=1000)(hD:s2.heap.get? D=some (seqObj "list" out e))(hDn:s.heap.get? D=none)(hk:∀b o,s.heap.get? b=some o->s2.heap.get? b=some o)(hg:s2.gens=s.gens)(ho:s2.os=s.os)(q:∀q,H q=none->Q (.ref q) (upd H q (.lst ws))):EP X zL Z Q (.ref D) s2:=by
 obtain⟨h2,g2,d2,t2,o2⟩:=s2;dsimp only at hD hk hg ho;subst hg ho;refine⟨.ref D,_,Inv.laidD (s:=s) (t':=t2) (d':=d2) (o:=.lst ws) I (λm x=>x.at' λo e=>hk _ o e) (λb u _ e=>hk b u e) hDn ?_,rfl,q D ?_⟩
 .exact⟨by rw[zj];lia,out.toList,e,rv,by rw[toArray_toList];exact hD⟩
 .cases e:H D with
  |none=>rfl
  |some u=>obtain⟨v,z⟩:=zK.there (I.hok D u e);rw[hDn]at z;cases z
theorem XY(hh:X.A.handled=none):bA X (.builtin "sorted") (jE X.K):=by
 intro zL s Z H xs us Q I r h;obtain⟨a,vs,rfl,hq,h⟩:=h;cases r with
 |cons r1 r2=>
  cases r2;cases r1;have fin:=λ{s2 D out e ws}=>@JO X zL Z H s Q I s2 D out e ws;have old:∀{h':Heap},(∀b o,s.heap.get? b=some o->h'.get? b=some o)->∀b u,b≠X.env.locals->s.heap.get? b=some u->h'.get? b=some u:=λk b u _ e=>k b u e;rcases hq with hq|hq
  .rcases h with⟨h2,q⟩|⟨ps,sh,rfl,h2,h128,hp,hne,q⟩
   .exact Yb zL s Z H [.ref a] [.ref a] Q I (.cons rfl .nil) ⟨a,vs,rfl,hq,h2,q⟩
   .obtain⟨zP,rv,pl,_⟩:=I.list hq;have hv:=JA rv;subst hv;have hu:=NG λp h=>(hp p h).1;obtain⟨t,sh',rfl⟩:=List.exists_cons_of_ne_nil hne;refine TS.sorted128 (ok:=λx=>∃p∈ps,x=(.ref p.2,.ref p.2)) (rk:=AY ps) (κ:=tuples' true) pl.isList (by rw[qp];exact h2) (by rw[qp];exact h128) (λh' k=>?_) Od λout a1 a2=>?_
    .have ht:∀p∈ps,tH h' p.2 p.1/\gG (t::sh') (p.1.map aK):=λp hp'=>⟨Og I (old k) (hp p hp').1,(hp p hp').2⟩
     exact⟨λQ hQ=>PB (s:={s with heap:=h'}) ht h2 hQ,PZ (s:={s with heap:=h'}) ht hu⟩
    .obtain⟨qs,rfl,pq,pw⟩:=Qd (λp hp'=>(hp p hp').2) hu a1 a2;obtain⟨e,he⟩:=sortedAll_at s.heap (ps.map λp=>Value.ref p.2) (qs.map λp=>Value.ref p.2).toArray;exact fin (Js qs) (by rw[qp,pq.length_eq];lia) he (Heap.get?_none_of_le (le_succ _)) (λb o w=>sortedAll_old w) rfl rfl (q qs pq pw)
  .obtain⟨es,ep,t,us,h1,h2,h3,h4,pu,hv,hl⟩:=Nr I hq;have hz:vs.length<=151:=(show zK X.prog X.w H s.heap a (.set vs) from I.hok a _ hq).1;have none_of:∀{s1:Shared},(∀b o,s.heap.get? b=some o->s1.heap.get? b=some o)->s.heap.get? s1.heap.objs.size=none:=λ{s1} hx=>by
    cases q:s.heap.get? s1.heap.objs.size with
    |none=>rfl
    |some o=>exact absurd (ST.lt_of_get (hx _ _ q)) (lt_irrefl _)
   rcases h with⟨h2',q⟩|⟨ps,sh,rfl,h2',h128,hp,hne,q⟩
   .refine ST.sorted_set hh (Fd I hq) h1 h2 h3 h4 (by lia) λs1 ord hpm hx hg ho ht new=>?_;obtain⟨ws,pw,rw'⟩:=PU hv (hpm.map (·.2));have ew:ws=vs:=UD (pw.trans pu) h2';subst ew;have hlo:(ord.map (·.2)).length<2:=by rw[<-rw'.length];exact h2'
    refine OH new hlo ⟨_,rfl,?_⟩;obtain⟨e,he⟩:=ST.sortedHeap_at new (ord.map (·.2)).toArray;exact fin rw' (by lia) he (none_of hx) (λb o e=>ST.sortedHeap_old (ne_of_lt (ST.lt_of_get (hx b o e))) (qc _ (hx b o e)) _) hg ho q
   .rw[qp]at hl;refine ST.sorted_set hh (Fd I hq) h1 h2 h3 h4 (by lia) λs1 ord hpm hx hg ho ht new=>?_;obtain⟨ws,pw,rw'⟩:=PU hv (hpm.map (·.2));obtain⟨ps',rfl,pp⟩:=HU (pw.trans pu);have hv':=JA rw';rw[hv']at new⊢;have hp':∀p∈ps',H p.2=some (.tup (p.1.map kV))/\gG sh (p.1.map aK):=λp h=>hp p (pp.mem_iff.mp h);have hu:=NG λp h=>(hp' p h).1;obtain⟨t,sh',rfl⟩:=List.exists_cons_of_ne_nil hne;refine TS.list_sort128 (s:={s1 with heap:=s1.heap.push (seqObj "list" (ps'.map λp=>Value.ref p.2).toArray 0)}) (ok:=λx=>∃p∈ps',x=(.ref p.2,.ref p.2)) (rk:=AY ps') (κ:=tuples' true) new (by rw[qp,pp.length_eq];exact h2') (by rw[qp,pp.length_eq];exact h128) (λh' k=>?_) Od λout a1 a2=>⟨_,rfl,?_⟩
    .have ht:∀p∈ps',tH h' p.2 p.1/\gG (t::sh') (p.1.map aK):=λp hq=>⟨Og I (λb u _ e=>k b u (ne_of_lt (ST.lt_of_get (hx b u e))) (qc _ (hx b u e))) (hp' p hq).1,(hp' p hq).2⟩
     exact⟨λQ hQ=>PB (s:={s1 with heap:=h'}) ht (by rw[pp.length_eq];exact h2') hQ,PZ (s:={s1 with heap:=h'}) ht hu⟩
    .obtain⟨qs,rfl,pq,pw⟩:=Qd (λp hq=>(hp' p hq).2) hu a1 a2;obtain⟨e,he⟩:=ST.sortedHeap_at new (qs.map λp=>Value.ref p.2).toArray;exact fin (Js qs) (by rw[qp,pq.length_eq,pp.length_eq];lia) he (none_of hx) (λb o e=>ST.sortedHeap_old (ne_of_lt (ST.lt_of_get (hx b o e))) (qc _ (hx b o e)) _) hg ho (q qs (pq.trans pp) pw)
theorem Pz:dC K (jE K) DT:=by
 intro Z U F G H vs ds s Q zN re e hq;obtain⟨d,v,rfl,rfl⟩:=kE (λx y r=>by cases x<;>rfl) rfl re e;have main:∀{a:Addr}{xs:List V}{l:List D},(cA K H a xs\/H a=some (.set xs))->zJ K F xs l->kU l=some s->jE K [.ref a] H Q:=λ{a xs l} hq' r e=>by
  unfold kU at e;split at e
  .rename_i hc;cases e;refine⟨a,xs,rfl,hq',?_⟩;obtain⟨h128,hc⟩:=hc;have zO:=r.len;by_cases h2:l.length<2
   .refine .inl ⟨by lia,λq hn=>?_⟩;rw[Xu h2]at hq;exact hq _ F _ (zw.refl F) (zN.newLD hn r)
   .obtain⟨sh,hne,hsh⟩:=hc.resolve_left h2;have hall:l.all (bZ true)=true:=qL.mpr λd hd=>by have:=hsh d hd;cases d<;>first|exact this.elim|exact Oa this
    obtain⟨ps,rfl,rfl,hf⟩:=JL r hall;rw[qp]at h128 h2;refine .inr ⟨ps,sh,rfl,by lia,h128,λp hp=>⟨zN.fr _ _ (hf p hp),hsh (tK p) (qN.mpr ⟨p,hp,rfl⟩)⟩,hne,λqs pq pw q hn=>?_⟩;rw[Ei (HD sh) hsh (pq.map tK) pw]at hq;exact hq _ F _ (zw.refl F) (zN.newLD hn (zJ.of_all λi hi=>zJ.to_all r i (pq.mem_iff.mp hi)))
  .cases e
 cases d with
 |lst l=>obtain⟨a,xs,rfl,h1,r1⟩:=re.1.lst zN.fr;exact main (.inl h1) r1 e
 |set l=>obtain⟨a,xs,rfl,h1,r1⟩:=bN.set re.1;exact main (.inr (zN.fr _ _ h1)) r1 e
 |_=>cases e
def oM(K:W.Frag):List V->Hp->VK->Prop:=λxs H Q=>jE K xs H Q\/∃a vs,xs=[.ref a]/\(cA K H a vs\/H a=some (.set vs))/\((∃ns:List Int,vs=ns.map V.int/\ns.length<64/\∀ns':List Int,ns'.Perm ns->ns'.Pairwise (·<=·)->∀q,H q=none->Q (.ref q) (upd H q (.lst (ns'.map V.int))))\/
 ∃zs:List Str,vs=zs.map V.str/\zs.length<64/\∀zs':List Str,zs'.Perm zs->sortedS zs'=true->∀q,H q=none->Q (.ref q) (upd H q (.lst (zs'.map V.str))))
theorem Xk(hh:X.A.handled=none):bA X (.builtin "sorted") (oM X.K):=by
 intro zL s Z H xs us Q I r h;rcases h with h|⟨a,vs,rfl,hq,h⟩
 .exact XY hh zL s Z H xs us Q I r h
 .cases r with
  |cons r1 r2=>
   cases r2;cases r1;rcases hq with hq|hq
   .rcases h with⟨ns,rfl,h64,q⟩|⟨zs,rfl,h64,q⟩
    .exact Qh zL s Z H [.ref a] [.ref a] Q I (.cons rfl .nil) ⟨a,rfl,.inl ⟨ns,h64,hq,q⟩⟩
    .exact Qh zL s Z H [.ref a] [.ref a] Q I (.cons rfl .nil) ⟨a,rfl,.inr ⟨zs,h64,hq,q⟩⟩
   .obtain⟨es,ep,t,us,h1,h2,h3,h4,pu,hv,hl⟩:=Nr I hq;rcases h with⟨ns,rfl,h64,q⟩|⟨zs,rfl,h64,q⟩
    .obtain⟨ms,rfl,pm⟩:=HU pu;rw[qp]at hl;exact ST.sorted_set_ints hh (Fd I hq) h1 h2 h3 h4 (by lia) (Ic hv) λs2 D out e ns' a1 a2 a3 hD hDn hk hg ho ht=>JO I (Eu a1) (by rw[qp,a2.length_eq,pm.length_eq];lia) hD hDn hk hg ho (q ns' (a2.trans pm) a3)
    .obtain⟨ms,rfl,pm⟩:=HU pu;rw[qp]at hl;exact ST.sorted_set_strs hh (Fd I hq) h1 h2 h3 h4 (by lia) (Ib hv) λs2 D out e ns' a1 a2 a3 hD hDn hk hg ho ht=>JO I (Ki a1) (by rw[qp,a2.length_eq,pm.length_eq];lia) hD hDn hk hg ho (q ns' (a2.trans pm) a3)
theorem XX:dC K (oM K) eL:=by
 intro Z U F G H vs ds s Q zN re e hq;obtain⟨d,v,rfl,rfl⟩:=kE (λx y r=>by cases x<;>rfl) rfl re e;have main:∀{a:Addr}{xs:List V}{l:List D},(cA K H a xs\/H a=some (.set xs))->zJ K F xs l->cT l=some s->(kU l=some s->jE K [.ref a] H Q)->oM K [.ref a] H Q:=λ{a xs l} hq' r e h8=>by
  unfold cT at e;split at e
  .rename_i hc;rcases hc with⟨h64,hi|hs⟩|h
   .cases e;obtain⟨ns,q1⟩:=isSome_iff_exists.mp hi;obtain⟨e1,e2⟩:=NV r q1;subst e1 e2;refine .inr ⟨a,_,rfl,hq',.inl ⟨ns,rfl,by rwa[qp]at h64,λns' p pw q hn=>?_⟩⟩;rw[Ei NH (m:=ns'.map D.int) (λd hd=>by obtain⟨z,_,rfl⟩:=qN.mp hd;trivial) (p.map _) (pairwise_map.mpr (pw.imp λ{a b} h=>by rw[EV];exact qU h))]at hq;exact hq _ F _ (zw.refl F) (zN.newLD hn (Kh ns'))
   .cases e;obtain⟨ys,q2⟩:=isSome_iff_exists.mp hs;obtain⟨zs,e1,e2⟩:=NJ r q2;subst e1;obtain⟨e3,sm⟩:=PL r rfl;subst e3;refine .inr ⟨a,_,rfl,hq',.inr ⟨zs,rfl,by rwa[qp]at h64,λzs' p pw q hn=>?_⟩⟩;rw[Ei HK (m:=zs'.map λz=>D.str z.cps.toList) (λd hd=>by obtain⟨z,_,rfl⟩:=qN.mp hd;trivial) (p.map _) (Xi zs' pw)]at hq;exact hq _ F _ (zw.refl F) (zN.newLD hn (Pj zs' λz hz=>sm z (p.mem_iff.mp hz)))
   .exact .inl (h8 (by unfold kU;rw[za h];exact e))
  .cases e
 cases d with
 |lst l=>obtain⟨a,xs,rfl,h1,r1⟩:=re.1.lst zN.fr;exact main (.inl h1) r1 e λe8=>Pz Z U F G H _ [.lst l] s Q zN re e8 hq
 |set l=>obtain⟨a,xs,rfl,h1,r1⟩:=bN.set re.1;exact main (.inr (zN.fr _ _ h1)) r1 e λe8=>Pz Z U F G H _ [.set l] s Q zN re e8 hq
 |_=>cases e
theorem Fi{k:Nat}(hr:cE k X.A)(hg:Gl X "sorted")(hm:X.mg "sorted"=none)(hv:bootBuiltins "sorted"=some (.builtin "sorted"))(ha:FA X (e::es) wa)(he:starEach (e::es) X.env=(false,eval e X.env)::starEach es X.env:=by rfl)(hpl:(backTo pos (starEach es X.env)).any (·.1)=false:=by rfl):FE X (.Call (.Name "sorted" p) (e::es) [] pos) (wB eL wa):=
 Eg (λpn xe=>Xk (X:=wp X pn xe) hr.hd) XX hg hm hv ha (by decide) (by decide) he hpl
end
end FL
namespace FL
mutual
def Ab:D->D->Bool
 |.int _,.int _=>true
 |.tup l,.tup m=>iE l m
 |_,_=>false
def iE:List D->List D->Bool
 |a::l,b::m=>Ab a b&&iE l m
 |_,_=>true
end
end FL
namespace FL
open PySem PySem.Spec PyProof.Rows L2
open PySem.SeqAt AutoSeq1
def GR:cR (.int i) (.int j)=if i<j then .lt else if j<i then .gt else .eq:=rfl
mutual
theorem Vd:∀(d:D),Ab d d=true->cR d d=.eq
 |.int i,_=>by rw[GR,zc (Int.lt_irrefl i),zc (Int.lt_irrefl i)]
 |.tup l,h=>Pv l h
 |.non,h|.bl _,h|.str _,h|.lst _,h|.dct ..,h|.set _,h|.exc ..,h=>by cases h
theorem Pv:∀(l:List D),iE l l=true->aL l l=.eq
 |[],_=>by rw[aL]
 |d::l,h=>by rw[iE,and_eq_true]at h;rw[aL,Vd d h.1];exact Pv l h.2
end
mutual
theorem Sa:∀(d e:D),Ab d e=true->cR d e=.eq->d=e
 |.int i,e,h,c=>by
  cases e with
  |int j=>
   rw[GR]at c;split at c
   .cases c
   .split at c
    .cases c
    .rw[show i=j by lia]
  |_=>cases h
 |.tup l,e,h,c=>by
  cases e with
  |tup m=>rw[NM l m h c]
  |_=>cases h
 |.non,_,h,_|.bl _,_,h,_|.str _,_,h,_|.lst _,_,h,_|.dct ..,_,h,_|.set _,_,h,_|.exc ..,_,h,_=>by cases h
theorem NM:∀(l m:List D),iE l m=true->aL l m=.eq->l=m
 |[],[],_,_=>rfl
 |[],_::_,_,c=>by rw[aL]at c;cases c
 |_::_,[],_,c=>by rw[aL]at c;cases c
 |d::l,e::m,h,c=>by
  rw[iE,and_eq_true]at h;rw[aL]at c;cases q:cR d e with
  |eq=>rw[q]at c;rw[Sa d e h.1 q,NM l m h.2 c]
  |lt=>rw[q]at c;cases c
  |gt=>rw[q]at c;cases c
end
mutual
theorem Xa:∀(d e:D),Ab d e=true->bG d e=false
 |.int i,e,h=>by cases e<;>first|rfl|cases h
 |.tup l,e,h=>by
  cases e with
  |tup m=>exact Qo l m h
  |_=>cases h
 |.non,_,h|.bl _,_,h|.str _,_,h|.lst _,_,h|.dct ..,_,h|.set _,_,h|.exc ..,_,h=>by cases h
theorem Qo:∀(l m:List D),iE l m=true->cN l m=false
 |[],[],_=>rfl
 |[],_::_,_=>rfl
 |_::_,[],_=>rfl
 |d::l,e::m,h=>by rw[iE,and_eq_true]at h;show(bG d e||cN l m)=false;rw[Xa d e h.1,Qo l m h.2];rfl
end
end FL
namespace FL
def e_C:wC d U Q E=Q (.v (.sh d)) U:=rfl
def kV(o:Option S)(Q:WQ)(U:Env):Prop:=zv o λs=>Q (.v s) U
def e_V:kV (some s) Q U=Q (.v s) U:=rfl
def wG(o:D->D->Option S)(x y:Option D)(Q:WQ)(U:Env):Prop:=zv x λp=>zv y λq=>kV (o p q) Q U
def sC(o:D->D->Option S)(x:R)(Q:WQ):WQ:=λy U2=>wG o (zH x U2) (zH y U2) Q U2
def Bm(o:D->D->Option S)(b:WE)(Q:WQ)(E:WX):WQ:=λx U1=>b U1 (sC o x Q) E
def zpH:zC o a b U Q E=a U (Bm o b Q E) E:=rfl
def zlQ:Bm o b Q E x U=b U (sC o x Q) E:=rfl
def zlX:wG o (some p) (some q) Q U=kV (o p q) Q U:=rfl
def CY(o:D->Option S)(x:Option D)(Q:WQ)(U:Env):Prop:=zv x λp=>kV (o p) Q U
def QD(o:D->Option S)(Q:WQ):WQ:=λx U=>CY o (zH x U) Q U
def e_Un{o:D->Option S}:BI o a U Q E=a U (QD o Q) E:=rfl
def zoy{o:D->Option S}:QD o Q x U=CY o (zH x U) Q U:=rfl
def zoQ{o:D->Option S}:CY o (some p) Q U=kV (o p) Q U:=rfl
def kC(o:Option Bool)(Q:Bool->Env->Prop)(U:Env):Prop:=zv o λc=>Q c U
def e_Ck{c:Bool}:kC (some c) QT U=QT c U:=rfl
def nM(o:D->D->Option Bool)(x y:Option D)(Q:Bool->Env->Prop)(U:Env):Prop:=zv x λp=>zv y λq=>kC (o p q) Q U
def lH(o:D->D->Option Bool)(x:R)(Q:Bool->Env->Prop):WQ:=λy U2=>nM o (view x U2) (view y U2) Q U2
def Bk(o:D->D->Option Bool)(b:WE)(Q:Bool->Env->Prop)(E:WX):WQ:=λx U1=>b U1 (lH o x Q) E
def zpv:aV oc a b U QT E=a U (Bk oc b QT E) E:=rfl
def znu:Bk oc b QT E x U=b U (lH oc x QT) E:=rfl
def zlB:nM oc (some p) (some q) QT U=kC (oc p q) QT U:=rfl
def oU(x:Option D)(Q:Bool->Env->Prop)(U:Env):Prop:=zv x λp=>kC (mW p) Q U
def Bj(Q:Bool->Env->Prop):WQ:=λx U=>oU (view x U) Q U
def zmf:kS a U QT E=a U (Bj QT) E:=rfl
def zkj:Bj QT x U=oU (view x U) QT U:=rfl
def zkd:oU (some p) QT U=kC (mW p) QT U:=rfl
def DA(b:WT)(Q:Bool->Env->Prop)(E:WX):Bool->Env->Prop:=λc U1=>if c then b U1 Q E else Q false U1
def zqb:fW t u U QT E=t U (DA u QT E) E:=rfl
def zmm:DA u QT E true U=u U QT E:=rfl
def zma:DA u QT E false U=QT false U:=rfl
def GC(Q:WQ):Bool->Env->Prop:=λc U1=>Q (.v (.sh (.bl c))) U1
def zpd:lX t U Q E=t U (GC Q) E:=rfl
def zmD{c:Bool}:GC Q c U=Q (.v (.sh (.bl c))) U:=rfl
def Ds(a b:WE)(Q:WQ)(E:WX):Bool->Env->Prop:=λk U1=>if k then a U1 Q E else b U1 Q E
def zn3:BJ t a b U Q E=t U (Ds a b Q E) E:=rfl
def zlG:Ds a b Q E true U=a U Q E:=rfl
def znc:Ds a b Q E false U=b U Q E:=rfl
def zou:zt U QA E=QA [] U:=rfl
def oV(r:R)(Q:List R->Env->Prop):List R->Env->Prop:=λrs U=>Q (r::rs) U
def wF(b:WA)(Q:List R->Env->Prop)(E:WX):WQ:=λr U1=>b U1 (oV r Q) E
def znb:zr a wa U QA E=a U (wF wa QA E) E:=rfl
def zkI:wF wa QA E r U=wa U (oV r QA) E:=rfl
def zkM:oV r QA rs U=QA (r::rs) U:=rfl
def GP(s:S):Option (List S×Env)->Option (List S×Env)
 |some (ss,U)=>some (s::ss,U)
 |none=>none
def Mw(rs:List R):Option (S×Env)->Option (List S×Env)
 |some (s,U)=>GP s (aU rs U)
 |none=>none
def zp1:aU [] U=some ([],U):=rfl
theorem e_gA:aU (r::rs) U=Mw rs (give r U):=by
 rw[aU];unfold Mw;cases give r U with
 |none=>rfl
 |some z=>obtain⟨s,U1⟩:=z;show(match aU rs U1 with|some (ss,U2)=>some (s::ss,U2)|none=>none)=GP s (aU rs U1);unfold GP;rfl
def zqu:Mw rs (some (s,U))=GP s (aU rs U):=rfl
def zon:GP s (some (ss,U))=some (s::ss,U):=rfl
def gv(i:Nat)(U:Env):Option S->Option (S×Env)
 |some s=>some (.sh s.toD,U.set i (some (.sh s.toD)))
 |none=>none
def e_gv:give (.v s) U=some (s,U):=rfl
theorem e_gl:give (.loc i) U=gv i U (slot U i):=by unfold give gv;rfl
def zqw:gv i U (some s)=some (.sh s.toD,U.set i (some (.sh s.toD))):=rfl
def rT(l:Bool)(x:Option (List S×Env))(Q:WQ):Prop:=zv (if l then x else none) λp=>Q (.v (.sh (.tup (p.1.map S.toD)))) p.2
def sA(l:Bool)(x:Option (List S×Env))(Q:WQ):Prop:=zv (if l then x else none) λp=>Q (.v (.lst p.1)) p.2
def fC(rs:List R):Bool:=decide (rs.length<=big)
def CZ(Q:WQ):List R->Env->Prop:=λrs U=>rT (fC rs) (aU rs U) Q
def Do(Q:WQ):List R->Env->Prop:=λrs U=>sA (fC rs) (aU rs U) Q
theorem zpJ:dS wa U Q E=wa U (CZ Q) E:=by unfold dS CZ rT fC;simp
def zlT:CZ Q rs U=rT (fC rs) (aU rs U) Q:=rfl
def zmp:rT true (some (ss,U)) Q=Q (.v (.sh (.tup (ss.map S.toD)))) U:=rfl
theorem zoh:eS wa U Q E=wa U (Do Q) E:=by unfold eS Do sA fC;simp
def zmP:Do Q rs U=sA (fC rs) (aU rs U) Q:=rfl
def znd:sA true (some (ss,U)) Q=Q (.v (.lst ss)) U:=rfl
def e_l0:fC []=true:=rfl
def e_l1:fC [r1]=true:=rfl
def e_l2:fC [r1,r2]=true:=rfl
def e_l3:fC [r1,r2,r3]=true:=rfl
def e_l5:fC [r1,r2,r3,r4,r5]=true:=rfl
def e_vv:view (.v s) U=some s.toD:=rfl
def e_vl:view (.loc i) U=(slot U i).map S.toD:=rfl
def e_cv:zH (.v s) U=some s.toD:=rfl
def vC:Option S->Option D
 |some s=>if s.flat then some s.toD else none
 |none=>none
theorem e_cl:zH (.loc i) U=vC (slot U i):=by unfold zH vC;rfl
theorem zm2(h:l.all S.isSh=true):vC (some (.lst l))=some (.lst (l.map S.toD)):=by show(if l.all S.isSh=true then some (S.toD (.lst l))else none)=_;rw[za h,S.toD_lst]
theorem e_sh{l:List D}:(l.map S.sh).all S.isSh=true:=by simp[S.isSh]
theorem zar{l:List D}:(l.map S.sh).map S.toD=l:=by rw[qH];exact map_id l
theorem zpI:vC (some (.lst (l.map S.sh)))=some (.lst l):=by rw[zm2 e_sh,zar]
def Ag(o:Option S)(Q:WQ)(U:Env):Prop:=match o with|some (.sh d)=>Q (.v (.sh d)) U|_=>False
def Ah(o:Option S)(q:D)(Q:WQ)(U:Env):Prop:=match o with|some s=>Ag (oX s q) Q U|none=>False
def vZ(x:R)(o:Option D)(Q:WQ)(U:Env):Prop:=zv o λq=>match x with|.v s=>kV (oX s q) Q U|.loc i=>Ah (slot U i) q Q U
def Ai(x:R)(Q:WQ):WQ:=λy U2=>vZ x (view y U2) Q U2
def Dp(b:WE)(Q:WQ)(E:WX):WQ:=λx U1=>b U1 (Ai x Q) E
theorem e_Ix:fL a b U Q E=a U (Dp b Q E) E:=by unfold fL Dp Ai vZ Ah Ag kV;rfl
def zpP:Dp b Q E x U=b U (Ai x Q) E:=rfl
def zpn:Ai x Q y U=vZ x (view y U) Q U:=rfl
def znw:vZ (.v s) (some q) Q U=kV (oX s q) Q U:=rfl
def zln:vZ (.loc i) (some q) Q U=Ah (slot U i) q Q U:=rfl
def zol:Ah (some s) q Q U=Ag (oX s q) Q U:=rfl
def zow:Ag (some (.sh d)) Q U=Q (.v (.sh d)) U:=rfl
def zoq:oX (.sh (.tup l)) (.int z)=(atI l z).map S.sh:=rfl
def zn0:oX (.sh (.lst l)) (.int z)=(atI l z).map S.sh:=rfl
def zp4:oX (.sh (.str l)) (.int z)=(atI l z).map λc=>S.sh (.str [c]):=rfl
def zqj:oX (.lst l) (.int z)=atI l z:=rfl
theorem xU(h0:0<=z)(h:l[z.toNat]?=some v):atI l z=some v:=by have:z.toNat<l.length:=(qh.mp h).1;unfold atI ixN;rw[za h0,za (by lia)];exact h
theorem zpX:atI (v::l) 0=some v:=xU (by decide) rfl
theorem zoR:atI (v1::v::l) 1=some v:=xU (by decide) rfl
theorem zoE:atI (v1::v2::v::l) 2=some v:=xU (by decide) rfl
theorem zqr:atI (v1::v2::v3::v::l) 3=some v:=xU (by decide) rfl
theorem zoA:atI (v1::v2::v3::v4::v::l) 4=some v:=xU (by decide) rfl
def pA(s:S):Option (List S×Env)->Option (List S×Env)
 |some (ss,U)=>some (s::ss,U)
 |none=>none
theorem e_p0:cY ms [] U=some ([],U):=by cases ms<;>rfl
theorem e_pv:cY (h::ms) (.v s::rs) U=pA s (cY ms rs U):=by rw[cY];unfold pA;rfl
def pL(i:Nat)(o:Option S)(ms:List Bool)(rs:List R)(U:Env):Option (List S×Env):=match o with
 |some s=>pA s (cY ms rs (U.set i none))
 |none=>none
theorem e_pl:cY (true::ms) (.loc i::rs) U=pL i (slot U i) ms rs U:=by rw[cY];unfold pL pA;cases slot U i<;>rfl
def zqe:pL i (some s) ms rs U=pA s (cY ms rs (U.set i none)):=rfl
def e_pA:pA s (some (ss,U))=some (s::ss,U):=rfl
def e_b0:back ms [] ss U=U:=rfl
def e_bv{s t:S}:back (h::ms) (.v s::rs) (t::ss) U=back ms rs ss U:=rfl
def e_bl{t:S}:back (true::ms) (.loc i::rs) (t::ss) U=back ms rs ss (U.set i (some t)):=rfl
def wD(ms:List Bool)(rs:List R)(U:Env)(Q:WQ):S->List S->Prop:=λs ss=>Q (.v s) (back ms rs ss U)
def GG(ms:List Bool)(rs:List R)(U:Env)(E:WX):D->List S->Prop:=λx ss=>E x (back ms rs ss U)
def oW(f:WF)(ms:List Bool)(rs:List R)(o:Option (List S×Env))(Q:WQ)(E:WX):Prop:=zv o λp=>f p.1 (wD ms rs p.2 Q) (GG ms rs p.2 E)
def Bl(f:WF)(ms:List Bool)(Q:WQ)(E:WX):List R->Env->Prop:=λrs U=>oW f ms rs (cY ms rs U) Q E
def znv:zE f ms wa U Q E=wa U (Bl f ms Q E) E:=rfl
def zk6:Bl f ms Q E rs U=oW f ms rs (cY ms rs U) Q E:=rfl
def zkl:oW f ms rs (some (ss,U)) Q E=f ss (wD ms rs U Q) (GG ms rs U E):=rfl
def zlW:wD ms rs U Q s ss=Q (.v s) (back ms rs ss U):=rfl
def vA:Option D->Option (List D)->Option (List D)
 |some d,some ds=>some (d::ds)
 |_,_=>none
def iW(rs:List R)(U:Env):Option (List D):=match rs with
 |[]=>some []
 |r::rs=>vA (zH r U) (iW rs U)
theorem JB:∀rs:List R,(rs.mapM λr=>zH r U)=iW rs U
 |[]=>rfl
 |r::rs=>by
  rw[List.mapM_cons,JB rs,iW];cases zH r U with
  |none=>rfl
  |some d=>cases iW rs U<;>rfl
def znN:iW [] U=some []:=rfl
def e_vA:iW (r::rs) U=vA (zH r U) (iW rs U):=rfl
def zpf:vA (some d) (some ds)=some (d::ds):=rfl
def Dz(f:List D->Option S)(o:Option (List D))(Q:WQ)(U:Env):Prop:=zv o λds=>kV (f ds) Q U
def kB(f:List D->Option S)(Q:WQ):List R->Env->Prop:=λrs U=>Dz f (iW rs U) Q U
theorem e_B:wB f wa U Q E=wa U (kB f Q) E:=by unfold wB kB Dz kV;simp only[JB]
def e_B1:kB f Q rs U=Dz f (iW rs U) Q U:=rfl
def e_B2:Dz f (some ds) Q U=kV (f ds) Q U:=rfl
def Ae(f:List Nat->List D->Option S)(l:List Nat)(Q:WQ):List R->Env->Prop:=λrs U=>Dz (f l) (iW rs U) Q U
def Ml(f:List Nat->List D->Option S)(wa:WA)(Q:WQ)(E:WX):WQ:=λx U=>match x with
 |.v (.sh (.str l))=>wa U (Ae f l Q) E
 |_=>False
theorem e_MS:AR f a wa U Q E=a U (Ml f wa Q E) E:=by unfold AR Ml Ae Dz kV;simp only[JB];all_goals rfl
def zpi:Ml f wa Q E (.v (.sh (.str l))) U=wa U (Ae f l Q) E:=rfl
def zp6:Ae f l Q rs U=Dz (f l) (iW rs U) Q U:=rfl
def Aq(j:Nat)(s:S)(o:Option S)(U:Env)(Q:WQ):Prop:=match o with
 |some (.lst l)=>l.length<big/\Q (.v (.sh .non)) (U.set j (some (.lst (l++[s]))))
 |_=>False
def Ar(j:Nat)(o:Option (S×Env))(Q:WQ):Prop:=zv o λp=>Aq j p.1 (slot p.2 j) p.2 Q
def As(j:Nat)(Q:WQ):WQ:=λr U=>Ar j (give r U) Q
def Mp(j:Nat)(o:Option S)(a:WE)(U:Env)(Q:WQ)(E:WX):Prop:=match o with
 |some (.lst _)=>a U (As j Q) E
 |_=>False
theorem e_Ap:cQ j a U Q E=Mp j (slot U j) a U Q E:=by unfold cQ Mp As Ar Aq;rfl
def zoL:Mp j (some (.lst l)) a U Q E=a U (As j Q) E:=rfl
def zpp:As j Q r U=Ar j (give r U) Q:=rfl
def zps:Ar j (some (s,U)) Q=Aq j s (slot U j) U Q:=rfl
def zp9:Aq j s (some (.lst l)) U Q=(l.length<big/\Q (.v (.sh .non)) (U.set j (some (.lst (l++[s]))))):=rfl
def rY(j:Nat)(o:Option D)(p:Option S)(U:Env)(Q:WQ):Prop:=match o,p with
 |some (.int i),some (.lst l)=>zv (if l.length<=big then ixN l.length i else none) λk=>zv l[k]? λs=>Q (.v s) (U.set j (some (.lst (l.eraseIdx k))))
 |_,_=>False
def rZ(j:Nat)(Q:WQ):WQ:=λr U=>rY j (view r U) (slot U j) U Q
def Dm(j:Nat)(o:Option S)(a:WE)(U:Env)(Q:WQ)(E:WX):Prop:=match o with
 |some (.lst _)=>a U (rZ j Q) E
 |_=>False
theorem zot:iV j a U Q E=Dm j (slot U j) a U Q E:=by unfold iV Dm rZ rY;rfl
def zm7:Dm j (some (.lst l)) a U Q E=a U (rZ j Q) E:=rfl
def zmt:rZ j Q r U=rY j (view r U) (slot U j) U Q:=rfl
theorem Nj(h0:0<=z)(hb:l.length<=big)(h:l[z.toNat]?=some s)(hq:Q (.v s) (U.set j (some (.lst (l.eraseIdx z.toNat))))):rY j (some (.int z)) (some (.lst l)) U Q:=by
 have:z.toNat<l.length:=(qh.mp h).1;have e:(if l.length<=big then ixN l.length z else none)=some z.toNat:=by unfold ixN;rw[za hb,za h0,za (by lia)]
 show zv (if l.length<=big then ixN l.length z else none) _;rw[e,Ik,h];exact hq
def Dx(o:Option D)(p:Option (S×Env))(Q:WQ):Prop:=zv o λq=>zv p λp=>bV q=true/\Q (.v (.dct false [q] [p.1])) p.2
def Dy(x:R)(Q:WQ):WQ:=λy U=>Dx (view x U) (give y U) Q
def GF(v:WE)(Q:WQ)(E:WX):WQ:=λx U=>v U (Dy x Q) E
def e_Di:oE a b U Q E=a U (GF b Q E) E:=rfl
def znP:GF b Q E x U=b U (Dy x Q) E:=rfl
def znS:Dy x Q y U=Dx (view x U) (give y U) Q:=rfl
def zod:Dx (some q) (some (s,U)) Q=(bV q=true/\Q (.v (.dct false [q] [s])) U):=rfl
def zmH:bV (.int z)=true:=rfl
def Dl(o:Option D)(Q:Option Int->Env->Prop)(U:Env):Prop:=match o with|some (.int i)=>Q (some i) U|_=>False
def QK(Q:Option Int->Env->Prop):WQ:=λx U=>Dl (view x U) Q U
def zoa{Q:Option Int->Env->Prop}:hX none U Q E=Q none U:=rfl
def e_Pt{Q:Option Int->Env->Prop}:hX (some a) U Q E=a U (QK Q) E:=rfl
def zqv{Q:Option Int->Env->Prop}:QK Q x U=Dl (view x U) Q U:=rfl
def zpo{Q:Option Int->Env->Prop}:Dl (some (.int z)) Q U=Q (some z) U:=rfl
def Da(o:Option D)(l h:Option Int)(Q:WQ)(U:Env):Prop:=zv o λd=>kV (nX d l h) Q U
def Dc(x:R)(l:Option Int)(Q:WQ):Option Int->Env->Prop:=λh U=>Da (zH x U) l h Q U
def Dd(x:R)(hi:Option WE)(Q:WQ)(E:WX):Option Int->Env->Prop:=λl U=>hX hi U (Dc x l Q) E
def QG(lo hi:Option WE)(Q:WQ)(E:WX):WQ:=λx U=>hX lo U (Dd x hi Q E) E
def e_Sl:gV a lo hi U Q E=a U (QG lo hi Q E) E:=rfl
def zqo:QG lo hi Q E x U=hX lo U (Dd x hi Q E) E:=rfl
def zp3:Dd x hi Q E l U=hX hi U (Dc x l Q) E:=rfl
def zoB:Dc x l Q h U=Da (zH x U) l h Q U:=rfl
def zp7:Da (some d) l h Q U=kV (nX d l h) Q U:=rfl
def Fs(D:Ends)(k:Env->Prop):Ends:={D with nx:=k}
def e_nx:(Fs D' K).nx=K:=rfl
def e_rt:(Fs D' K).rt=D'.rt:=rfl
def e_ex:(Fs D' K).ex=D'.ex:=rfl
def zmL:bF D' U=D'.nx U:=rfl
def zog:zD v w D' U=v (Fs D' (w D')) U:=rfl
def Mm(a b:WS)(D:Ends):Bool->Env->Prop:=λk U=>if k then a D U else b D U
def e_If:gW t v w D' U=t U (Mm v w D') D'.ex:=rfl
def zpq:Mm v w D' true U=v D' U:=rfl
def zpM:Mm v w D' false U=w D' U:=rfl
def zn2:bT a D' U=a U D'.rt D'.ex:=rfl
def QP(D:Ends):WQ:=λ_ U=>D.nx U
def zmk:wExpr a D' U=a U (QP D') D'.ex:=rfl
def zkz:QP D' r U=D'.nx U:=rfl
def wH(g:WG)(D:Ends)(o:Option (S×Env)):Prop:=zv o λp=>g p.1 p.2 D.nx
def GH(g:WG)(D:Ends):WQ:=λr U=>wH g D (give r U)
def zpb:zF g a D' U=a U (GH g D') D'.ex:=rfl
def zlY:GH g D' r U=wH g D' (give r U):=rfl
def zms:wH g D' (some (s,U))=g s U D'.nx:=rfl
def e_gN:zu i s U K=K (U.set i (some s)):=rfl
def QN(gs:List WG)(d:D)(U:Env)(Q:Env->Prop):Prop:=match d with|.tup ds=>ds.length=gs.length/\gA gs ds U Q|_=>False
def e_gT:dI gs s U K=QN gs s.toD U K:=rfl
def znW:QN gs (.tup ds) U K=(ds.length=gs.length/\gA gs ds U K):=rfl
def GD(gs:List WG)(ds:List D)(Q:Env->Prop):Env->Prop:=λU=>gA gs ds U Q
def zo6:gA [] [] U K=K U:=rfl
def zox:gA (g::gs) (d::ds) U K=g (.sh d) U (GD gs ds K):=rfl
def zoi:GD gs ds K U=gA gs ds U K:=rfl
def lG(j:Nat)(D:Ends)(x:R)(q:FL.D)(s:S)(o:Option S)(U:Env):Prop:=match x,q,o with
 |.loc k,.int n,some (.lst l)=>k=j/\zv (ixN l.length n) λm=>D.nx (U.set j (some (.lst (l.set m s))))
 |_,_,_=>False
def rV(j:Nat)(D:Ends)(x:R)(o:Option FL.D)(p:Option (S×Env)):Prop:=zv o λq=>zv p λp=>lG j D x q p.1 (slot p.2 j) p.2
def rW(j:Nat)(D:Ends)(r x:R):WQ:=λy U=>rV j D x (view y U) (give r U)
def rX(j:Nat)(i:WE)(D:Ends)(r:R):WQ:=λx U=>i U (rW j D r x) D.ex
def vW(j:Nat)(i:WE)(D:Ends):WQ:=λr U=>zp j U (rX j i D r) D.ex
theorem zqf:iU j a b D' U=b U (vW j a D') D'.ex:=by unfold iU vW rX rW rV lG;rfl
def zng:vW j a D' r U=zp j U (rX j a D' r) D'.ex:=rfl
def zls:rX j a D' r x U=a U (rW j D' r x) D'.ex:=rfl
def zmK:rW j D' r x y U=rV j D' x (view y U) (give r U):=rfl
def zmd:rV j D' x (some q) (some (s,U))=lG j D' x q s (slot U j) U:=rfl
theorem Nk(h0:0<=z)(h1:z<l.length):lG j D' (.loc j) (.int z) s (some (.lst l)) U=D'.nx (U.set j (some (.lst (l.set z.toNat s)))):=by show(j=j/\zv (ixN l.length z) _)=_;unfold ixN;rw[za h0,za h1,Ik];simp
theorem zlk:lG j D' (.loc j) (.int 0) s (some (.lst [s0,s1])) U=D'.nx (U.set j (some (.lst [s,s1]))):=Nk (by decide) (by show(0:Int)<2;decide)
theorem zlb:lG j D' (.loc j) (.int 1) s (some (.lst [s0,s1])) U=D'.nx (U.set j (some (.lst [s0,s]))):=Nk (by decide) (by show(1:Int)<2;decide)
def Al(j:Nat)(D:Ends)(q:FL.D)(s:S)(o:Option S)(U:Env):Prop:=match o with
 |some (.dct t ks l)=>bZ t q=true/\ks.Nodup/\ks.length<big/\D.nx (U.set j (some (fH t ks l q s)))
 |_=>False
def Am(j:Nat)(D:Ends)(x:R)(o:Option FL.D)(p:Option (S×Env)):Prop:=zv o λq=>zv p λp=>match x with
 |.loc k=>k=j/\Al j D q p.1 (slot p.2 j) p.2
 |_=>False
def An(j:Nat)(D:Ends)(r x:R):WQ:=λy U=>Am j D x (view y U) (give r U)
def Ao(j:Nat)(i:WE)(D:Ends)(r:R):WQ:=λx U=>i U (An j D r x) D.ex
def Ap(j:Nat)(i:WE)(D:Ends):WQ:=λr U=>zp j U (Ao j i D r) D.ex
theorem e_Dp:uO j a b D' U=b U (Ap j a D') D'.ex:=by
 have e:(λ(r:R)(U1:Env)=>zp j U1 (λx U2=>a U2 (λy U3=>zv (view y U3) λq=>zv (give r U3) λp=>match x,slot p.2 j with
  |.loc k,some (.dct t ks l)=>k=j/\bZ t q=true/\ks.Nodup/\ks.length<big/\D'.nx (p.2.set j (some (fH t ks l q p.1)))
  |_,_=>False) D'.ex) D'.ex)=Ap j a D':=by
  funext r U1
  unfold Ap Ao An Am Al;congr 1
  funext x U2
  congr 1
  funext y U3
  cases view y U3 with
  |none=>rfl
  |some q=>
   cases give r U3 with
   |none=>rfl
   |some p=>
    simp only[Ik];cases x with
    |v s=>cases slot p.2 j<;>rfl
    |loc k=>
     cases slot p.2 j with
     |none=>simp
     |some s=>
      cases s with
      |dct t ks l=>simp
      |_=>simp
 exact congrArg (λz=>b U z D'.ex) e
def zo7:Ap j a D' r U=zp j U (Ao j a D' r) D'.ex:=rfl
def znF:Ao j a D' r x U=a U (An j D' r x) D'.ex:=rfl
def zpw:An j D' r x y U=Am j D' x (view y U) (give r U):=rfl
theorem zpY:Am j D' (.loc j) (some q) (some (s,U))=Al j D' q s (slot U j) U:=by show(j=j/\_)=_;simp
def zpy:Al j D' q s (some (.dct false ks l)) U=(bV q=true/\ks.Nodup/\ks.length<big/\D'.nx (U.set j (some (fH false ks l q s)))):=rfl
def Dq(o:Option (List D))(U:Env)(Q:List D->Env->Prop):Prop:=zv o λl=>Q l U
def Dr(o:Option (S×Env))(Q:List D->Env->Prop):Prop:=zv o λp=>Dq (items p.1.toD) p.2 Q
def QM(Q:List D->Env->Prop):WQ:=λr U=>Dr (give r U) Q
def e_It:dJ a U QI E=a U (QM QI) E:=rfl
def zqs:QM QI r U=Dr (give r U) QI:=rfl
def zoY:Dr (some (s,U)) QI=Dq (items s.toD) U QI:=rfl
def znX:Dq (some l) U QI=QI l U:=rfl
def znM:items (.lst l)=some l:=rfl
def zpz:items (.tup l)=some l:=rfl
def Dv(o:Option (List D))(U:Env)(Q:List D->Env->Prop):Prop:=zv o λl=>Q (cZ 0 l) U
def Dw(o:Option (S×Env))(Q:List D->Env->Prop):Prop:=zv o λp=>Dv (items p.1.toD) p.2 Q
def QQ(Q:List D->Env->Prop):WQ:=λr U=>Dw (give r U) Q
def e_En:uN a U QI E=a U (QQ QI) E:=rfl
def zpN:QQ QI r U=Dw (give r U) QI:=rfl
def znR:Dw (some (s,U)) QI=Dv (items s.toD) U QI:=rfl
def zn4:Dv (some l) U QI=QI (cZ 0 l) U:=rfl
def Dk(o:Option D)(Q:List D->Env->Prop)(U:Env):Prop:=match o with|some (.int j)=>(-big<=j/\j<=big)/\Q (fromTo 0 j.toNat) U|_=>False
def QJ(Q:List D->Env->Prop):WQ:=λr U=>Dk (view r U) Q U
def e_R1:aZ a U QI E=a U (QJ QI) E:=rfl
def zpG:QJ QI r U=Dk (view r U) QI U:=rfl
def zpe:Dk (some (.int z)) QI U=((-big<=z/\z<=big)/\QI (fromTo 0 z.toNat) U):=rfl
def Di(o p:Option D)(Q:List D->Env->Prop)(U:Env):Prop:=match o,p with|some (.int i),some (.int j)=>(-big<=i/\i<=big/\-big<=j/\j<=big)/\Q (fromTo i (j-i).toNat) U|_,_=>False
def Dj(r:R)(Q:List D->Env->Prop):WQ:=λt U=>Di (view r U) (view t U) Q U
def QH(b:WE)(Q:List D->Env->Prop)(E:WX):WQ:=λr U=>b U (Dj r Q) E
def e_R2:gK a b U QI E=a U (QH b QI E) E:=rfl
def zpr:QH b QI E r U=b U (Dj r QI) E:=rfl
def zo0:Dj r QI x U=Di (view r U) (view x U) QI U:=rfl
def zpx:Di (some (.int z)) (some (.int z')) QI U=((-big<=z/\z<=big/\-big<=z'/\z'<=big)/\QI (fromTo z (z'-z).toNat) U):=rfl
def kFor(g:WG)(b:WS)(D:Ends):List FL.D->Env->Prop:=λl U=>dX g b l D U
def zp5:iG it g v D' U=it U (kFor g v D') D'.ex:=rfl
def zlw:kFor g v D' l U=dX g v l D' U:=rfl
def Qz(g:WG)(b:WS)(xs:List FL.D)(D:Ends):Ends:={D with nx:=dX g b xs D,ct:=dX g b xs D,bk:=D.nx}
def Zd(g:WG)(b:WS)(xs:List FL.D)(D:Ends):Env->Prop:=λU=>b (Qz g b xs D) U
def MA:dX g v (d::xs) D' U=g (.sh d) U (Zd g v xs D'):=rfl
def vX(n:Nat)(o:Option S)(U:Env)(Q:WQ):Prop:=zv o λs=>Q (.v s) (U.take n)
def vY(n:Nat)(Q:WQ):Env->Prop:=λU=>vX n (slot U n) U Q
def Af(n:Nat)(E:WX):WX:=NX
def QL(n k:Nat)(g:WG)(c:WT)(b:WB)(Q:WQ)(E:WX):List D->Env->Prop:=λl U=>aP g c b l (U++some (.lst [])::List.replicate k none) (vY n Q) (Af n E)
def e_LC:lY n m it g c bb U Q E=it U (QL n m g c bb Q E) E:=rfl
def zpu:QL n m g c bb Q E l U=aP g c bb l (U++some (.lst [])::List.replicate m none) (vY n Q) (Af n E):=rfl
def zoX:vY n Q U=vX n (slot U n) U Q:=rfl
def zlL:vX n (some s) U Q=Q (.v s) (U.take n):=rfl
def Ad(g:WG)(c:WT)(b:WB)(xs:List D)(Q:Env->Prop)(E:WX):Env->Prop:=λU=>aP g c b xs U Q E
def CT(g:WG)(c:WT)(b:WB)(xs:List D)(Q:Env->Prop)(E:WX):Bool->Env->Prop:=λk U=>if k then b U (Ad g c b xs Q E) E else aP g c b xs U Q E
def QB(g:WG)(c:WT)(b:WB)(xs:List D)(Q:Env->Prop)(E:WX):Env->Prop:=λU=>c U (CT g c b xs Q E) E
def DM:aP g c bb (d::xs) U QE E=g (.sh d) U (QB g c bb xs QE E):=rfl
def zov:QB g c bb xs QE E U=c U (CT g c bb xs QE E) E:=rfl
def zlr:CT g c bb xs QE E true U=bb U (Ad g c bb xs QE E) E:=rfl
def zo4:Ad g c bb xs QE E U=aP g c bb xs U QE E:=rfl
def Aj(n:Nat)(s:S)(o:Option S)(U:Env)(Q:Env->Prop):Prop:=match o with
 |some (.lst l)=>l.length<big/\Q (U.set n (some (.lst (l++[s]))))
 |_=>False
def Ak(n:Nat)(o:Option (S×Env))(Q:Env->Prop):Prop:=zv o λp=>Aj n p.1 (slot p.2 n) p.2 Q
def Mn(n:Nat)(Q:Env->Prop):WQ:=λr U=>Ak n (give r U) Q
theorem e_Em:bS n a U QE E=a U (Mn n QE) E:=by unfold bS Mn Ak Aj;rfl
def zn9:Mn n QE r U=Ak n (give r U) QE:=rfl
def zo9:Ak n (some (s,U)) QE=Aj n s (slot U n) U QE:=rfl
def zpF:Aj n s (some (.lst l)) U QE=(l.length<big/\QE (U.set n (some (.lst (l++[s]))))):=rfl
def QC(g:WG)(c:WT)(b:WB)(Q:Env->Prop)(E:WX):List D->Env->Prop:=λl U=>aP g c b l U Q E
def e_bF:tF it g c bb U QE E=it U (QC g c bb QE E) E:=rfl
def zqq:QC g c bb QE E l U=aP g c bb l U QE E:=rfl
def znJ:eV U QT E=QT true U:=rfl
def Du(o:Option (List S))(P:S->List S->Prop)(s:S):Prop:=zv o λfs=>P s fs
def De(n:Nat)(ss:List S)(P:S->List S->Prop)(i:Nat)(o:Option S)(U:Env):Prop:=zv o λs=>if i<n then Du (aD ss (U.set i (some (.sh s.toD)))) P (.sh s.toD)else Du (aD ss U) P s
def IM(n:Nat)(ss:List S)(P:S->List S->Prop):WQ:=λr U=>match r with
 |.v s=>Du (aD ss U) P s
 |.loc i=>De n ss P i (slot U i) U
def My(n:Nat)(ss:List S)(P:S->List S->Prop)(PX:D->List S->Prop):Ends where
 nx:=λU=>Du (aD ss U) P (.sh .non)
 rt:=IM n ss P
 bk:=λ_=>False
 ct:=λ_=>False
 ex:=λx U=>zv (aD ss U) λfs=>PX x fs
theorem iS(hl:ss.length=n)(hk:((List.range ss.length).all λi=>decide (i∈ks))=true)(h:v (My n ss P PX) (ss.map some++List.replicate (m-n) none)):iA n m ks v ss P PX:=by refine⟨hl,λi s hi=>?_,h⟩;have:=(qh.mp hi).1;exact .inl (by simpa using qL.mp hk i (by simpa using this))
def zpk:(My n ss P PX).rt=IM n ss P:=rfl
def e_Rt:IM n ss P (.v s) U=Du (aD ss U) P s:=rfl
def zn8:IM n ss P (.loc i) U=De n ss P i (slot U i) U:=rfl
theorem zoC(h:¬i<n):De n ss P i (some s) U=Du (aD ss U) P s:=by show(if i<n then _ else _)=_;rw[zc h]
def e_Fn:Du (some fs) P s=P s fs:=rfl
def fA(s:S):Option (List S)->Option (List S)
 |some fs=>some (s::fs)
 |none=>none
theorem e_f0:aD [] U=some []:=by cases U<;>rfl
theorem e_fs:aD (.sh d::ss) (o::U)=fA (.sh d) (aD ss U):=by show(aD ss U).map _=_;cases aD ss U<;>rfl
theorem e_fl:aD (.lst l::ss) (some s::U)=fA s (aD ss U):=by show(aD ss U).map _=_;cases aD ss U<;>rfl
def e_fA:fA s (some fs)=some (s::fs):=rfl
def zoM:aQ (.int i) (.int j)=some (.sh (.int (i+j))):=rfl
theorem zmE(h:x.length+y.length<=big):aQ (.str x) (.str y)=some (.sh (.str (x++y))):=za h
theorem zm1(h:l.length+m.length<=big):aQ (.lst l) (.lst m)=some (.lst ((l++m).map .sh)):=za h
theorem zmR(h:l.length+m.length<=big):aQ (.tup l) (.tup m)=some (.sh (.tup (l++m))):=za h
def zoW:fB (.int i) (.int j)=some (.sh (.int (i-j))):=rfl
theorem zlM(h:-(2^64)<i/\i<2^64):vN (.int i) (.int j)=some (.sh (.int (i*j))):=by show(if rQ i j=true then _ else none)=_;rw[za (by simp only[rQ,h.1,h.2,decide_true,Bool.and_self,Bool.true_or])]
theorem znZ(h:0<j):iH (.int i) (.int j)=some (.sh (.int (i %j))):=za h
theorem zlU(h:0<j)(h2:j<18446744073709551616):lE (.int i) (.int j)=some (.sh (.int (i/j))):=za ⟨h,h2⟩
theorem zoH(h:0<=j/\j<=1000/\i.natAbs<2^64):vM (.int i) (.int j)=some (.sh (.int (i^j.toNat))):=za h
def znI:nE (.int i)=some (.sh (.int (-i))):=rfl
def e_lt:IS (.int i) (.int j)=some (decide (i<j)):=rfl
def e_gt:AC (.int i) (.int j)=some (decide (j<i)):=rfl
def e_le:IT (.int i) (.int j)=some (decide (i<=j)):=rfl
def e_ge:Ey (.int i) (.int j)=some (decide (j<=i)):=rfl
theorem zns:gB (.int i) (.int j)=some (decide (i=j)):=by unfold gB;rw[zc (by exact λz=>Bool.noConfusion (show false=true from z))];simp
theorem znH:gF (.int i) (.int j)=some (!decide (i=j)):=by unfold gF;rw[zns];rfl
theorem zmM:gB (.str x) (.str y)=some (decide (x=y)):=by unfold gB;rw[zc (by exact λz=>Bool.noConfusion (show false=true from z))];simp
theorem zqp:gF (.str x) (.str y)=some (!decide (x=y)):=by unfold gF;rw[zmM];rfl
def zqt:mW (.bl b)=some b:=rfl
def zlq:aW [.str x]=some (.sh (.int x.length)):=rfl
def zmS:aW [.tup l]=some (.sh (.int l.length)):=rfl
def zlE:aW [.lst l]=some (.sh (.int l.length)):=rfl
def zlm:tE [.bl b]=some (.sh (.int (if b then 1 else 0))):=rfl
def zly:eK [.tup l]=some (.sh (.tup l)):=rfl
def zlJ:eK [.lst l]=some (.sh (.tup l)):=rfl
def zlD:hV [.tup l]=some (.lst (l.map .sh)):=rfl
theorem znr(h:x.length<=big):hV [.str x]=some (.lst (x.map λc=>.sh (.str [c]))):=za h
def zoU:wY [.int i,.int j]=some (.sh (.int (if j>i then j else i))):=rfl
def znT:wX [.int i,.int j]=some (.sh (.int (if j<i then j else i))):=rfl
def zpg:nX (.str x) a b=some (.sh (.str (aM x a b))):=rfl
def zoG:nX (.tup l) a b=some (.sh (.tup (aM l a b))):=rfl
def zqg:nX (.lst l) a b=some (.lst ((aM l a b).map .sh)):=rfl
def zoO:zp 0 (some (.sh d)::U) Q E=Q (.v (.sh d)) (some (.sh d)::U):=rfl
def zpm:zp 0 (some (.lst l)::U) Q E=Q (.loc 0) (some (.lst l)::U):=rfl
def zpa:slot (v::U) 0=v:=rfl
def zoc:List.set (u::U) 0 v=v::U:=rfl
def zpQ:zp 1 (s0::some (.sh d)::U) Q E=Q (.v (.sh d)) (s0::some (.sh d)::U):=rfl
def zpK:slot (s0::v::U) 1=v:=rfl
def zoI:List.set (s0::u::U) 1 v=s0::v::U:=rfl
def zpB:zp 2 (s0::s1::some (.sh d)::U) Q E=Q (.v (.sh d)) (s0::s1::some (.sh d)::U):=rfl
def zor:zp 2 (s0::s1::some (.lst l)::U) Q E=Q (.loc 2) (s0::s1::some (.lst l)::U):=rfl
def zpC:zp 2 (s0::s1::some (.dct t ks l)::U) Q E=Q (.loc 2) (s0::s1::some (.dct t ks l)::U):=rfl
def zoS:slot (s0::s1::v::U) 2=v:=rfl
def zpS:List.set (s0::s1::u::U) 2 v=s0::s1::v::U:=rfl
def zok:zp 3 (s0::s1::s2::some (.sh d)::U) Q E=Q (.v (.sh d)) (s0::s1::s2::some (.sh d)::U):=rfl
def zqd:zp 3 (s0::s1::s2::some (.lst l)::U) Q E=Q (.loc 3) (s0::s1::s2::some (.lst l)::U):=rfl
def zqn:slot (s0::s1::s2::v::U) 3=v:=rfl
def zpR:List.set (s0::s1::s2::u::U) 3 v=s0::s1::s2::v::U:=rfl
def zom:zp 4 (s0::s1::s2::s3::some (.sh d)::U) Q E=Q (.v (.sh d)) (s0::s1::s2::s3::some (.sh d)::U):=rfl
def zob:zp 4 (s0::s1::s2::s3::some (.lst l)::U) Q E=Q (.loc 4) (s0::s1::s2::s3::some (.lst l)::U):=rfl
def zpU:slot (s0::s1::s2::s3::v::U) 4=v:=rfl
def zo1:List.set (s0::s1::s2::s3::u::U) 4 v=s0::s1::s2::s3::v::U:=rfl
def zoK:zp 5 (s0::s1::s2::s3::s4::some (.sh d)::U) Q E=Q (.v (.sh d)) (s0::s1::s2::s3::s4::some (.sh d)::U):=rfl
def zph:slot (s0::s1::s2::s3::s4::v::U) 5=v:=rfl
def zqi:List.set (s0::s1::s2::s3::s4::u::U) 5 v=s0::s1::s2::s3::s4::v::U:=rfl
def zpO:zp 6 (s0::s1::s2::s3::s4::s5::some (.sh d)::U) Q E=Q (.v (.sh d)) (s0::s1::s2::s3::s4::s5::some (.sh d)::U):=rfl
def zqh:zp 6 (s0::s1::s2::s3::s4::s5::some (.lst l)::U) Q E=Q (.loc 6) (s0::s1::s2::s3::s4::s5::some (.lst l)::U):=rfl
def znL:slot (s0::s1::s2::s3::s4::s5::v::U) 6=v:=rfl
def zpl:List.set (s0::s1::s2::s3::s4::s5::u::U) 6 v=s0::s1::s2::s3::s4::s5::v::U:=rfl
def znG:zp 7 (s0::s1::s2::s3::s4::s5::s6::some (.sh d)::U) Q E=Q (.v (.sh d)) (s0::s1::s2::s3::s4::s5::s6::some (.sh d)::U):=rfl
def znK:slot (s0::s1::s2::s3::s4::s5::s6::v::U) 7=v:=rfl
def zqc:List.set (s0::s1::s2::s3::s4::s5::s6::u::U) 7 v=s0::s1::s2::s3::s4::s5::s6::v::U:=rfl
def zp8:zp 8 (s0::s1::s2::s3::s4::s5::s6::s7::some (.sh d)::U) Q E=Q (.v (.sh d)) (s0::s1::s2::s3::s4::s5::s6::s7::some (.sh d)::U):=rfl
def zoe:slot (s0::s1::s2::s3::s4::s5::s6::s7::v::U) 8=v:=rfl
def zpj:List.set (s0::s1::s2::s3::s4::s5::s6::s7::u::U) 8 v=s0::s1::s2::s3::s4::s5::s6::s7::v::U:=rfl
def zql:zp 9 (s0::s1::s2::s3::s4::s5::s6::s7::s8::some (.sh d)::U) Q E=Q (.v (.sh d)) (s0::s1::s2::s3::s4::s5::s6::s7::s8::some (.sh d)::U):=rfl
def zoo:List.set (s0::s1::s2::s3::s4::s5::s6::s7::s8::u::U) 9 v=s0::s1::s2::s3::s4::s5::s6::s7::s8::v::U:=rfl
def zlz:zp 10 (s0::s1::s2::s3::s4::s5::s6::s7::s8::s9::some (.sh d)::U) Q E=Q (.v (.sh d)) (s0::s1::s2::s3::s4::s5::s6::s7::s8::s9::some (.sh d)::U):=rfl
def zlO:List.set (s0::s1::s2::s3::s4::s5::s6::s7::s8::s9::u::U) 10 v=s0::s1::s2::s3::s4::s5::s6::s7::s8::s9::v::U:=rfl
def zlx:slot (s0::s1::s2::s3::s4::s5::s6::s7::s8::s9::s10::v::U) 11=v:=rfl
def znm:List.set (s0::s1::s2::s3::s4::s5::s6::s7::s8::s9::s10::u::U) 11 v=s0::s1::s2::s3::s4::s5::s6::s7::s8::s9::s10::v::U:=rfl
def zl5:zp 12 (s0::s1::s2::s3::s4::s5::s6::s7::s8::s9::s10::s11::some (.sh d)::U) Q E=Q (.v (.sh d)) (s0::s1::s2::s3::s4::s5::s6::s7::s8::s9::s10::s11::some (.sh d)::U):=rfl
def zl6:List.set (s0::s1::s2::s3::s4::s5::s6::s7::s8::s9::s10::s11::u::U) 12 v=s0::s1::s2::s3::s4::s5::s6::s7::s8::s9::s10::s11::v::U:=rfl
def zlV:sC o (.v (.sh p)) Q (.v (.sh q)) U=kV (o p q) Q U:=rfl
def znq:lH oc (.v (.sh p)) QT (.v (.sh q)) U=kC (oc p q) QT U:=rfl
def zml:sC o (.v (.sh p)) Q (.v (.lst m)) U=wG o (some p) (some (S.lst m).toD) Q U:=rfl
def zlA:lH oc (.v (.sh p)) QT (.v (.lst m)) U=nM oc (some p) (some (S.lst m).toD) QT U:=rfl
def zmQ:lH oc (.v (.sh p)) QT (.loc k) U=nM oc (some p) (view (.loc k) U) QT U:=rfl
def zm9:lH oc (.loc j) QT (.v (.lst m)) U=nM oc (view (.loc j) U) (some (S.lst m).toD) QT U:=rfl
def zpc:iJ d (.lst l)=wV d (.lst l):=rfl
def zpA:iJ d (.tup l)=wV d (.tup l):=rfl
def znQ:iJ d (.dct t ks vs)=wV d (.dct t ks vs):=rfl
def zm5:dQ p q=(iJ p q).map (!·):=rfl
def DB(j m:Nat)(l l':List S)(Q:WQ)(o:Option (S×Env)):Prop:=zv o λp=>l'.length<big/\Q (.v (.sh .non)) (p.2.set j (some (.lst (l.set m (.lst (l'++[p.1]))))))
def DC(j m:Nat)(l l':List S)(Q:WQ):WQ:=λr U=>DB j m l l' Q (give r U)
def GI(j m:Nat)(l:List S)(e:WE)(o:Option S)(U:Env)(Q:WQ)(E:WX):Prop:=match o with
 |some (.lst l')=>e (U.set j none) (DC j m l l' Q) E
 |_=>False
def Aw(j:Nat)(e:WE)(n:Int)(l:List S)(U:Env)(Q:WQ)(E:WX):Prop:=zv (ixN l.length n) λm=>GI j m l e l[m]? U Q E
def DE(j:Nat)(e:WE)(o:Option D)(p:Option S)(U:Env)(Q:WQ)(E:WX):Prop:=match o,p with
 |some (.int n),some (.lst l)=>Aw j e n l U Q E
 |_,_=>False
def DF(j:Nat)(e:WE)(Q:WQ)(E:WX):WQ:=λy U=>DE j e (view y U) (slot U j) U Q E
def QS(j:Nat)(o:Option S)(i e:WE)(U:Env)(Q:WQ)(E:WX):Prop:=match o with
 |some (.lst _)=>i U (DF j e Q E) E
 |_=>False
theorem e_AA:dY j a b U Q E=QS j (slot U j) a b U Q E:=by first|rfl|assumption|(simp_all;done)
def zoV{l:List S}:QS j (some (.lst l)) a b U Q E=a U (DF j b Q E) E:=rfl
def zo2:DF j b Q E y U=DE j b (view y U) (slot U j) U Q E:=rfl
def zn7{n:Int}{l:List S}:DE j b (some (.int n)) (some (.lst l)) U Q E=Aw j b n l U Q E:=rfl
def zpV{l l':List S}:DC j m l l' Q r U=DB j m l l' Q (give r U):=rfl
def zo3{l l':List S}:DB j m l l' Q (some (s,U))=(l'.length<big/\Q (.v (.sh .non)) (U.set j (some (.lst (l.set m (.lst (l'++[s]))))))):=rfl
theorem OJ{z:Int}{l l':List S}(h0:0<=z)(h1:l[z.toNat]?=some (.lst l')):Aw j b z l U Q E=b (U.set j none) (DC j z.toNat l l' Q) E:=by have:z.toNat<l.length:=(qh.mp h1).1;unfold Aw ixN;rw[za h0,za (by lia),Ik,h1];rfl
def Dt(Q:WQ)(o:Option (S×Env)):Prop:=zv o λp=>Q (.v (.sh p.1.toD)) p.2
def QO(Q:WQ):WQ:=λr U=>Dt Q (give r U)
def zo5:eW a U Q E=a U (QO Q) E:=rfl
def znj:QO Q r U=Dt Q (give r U):=rfl
def zl2:Dt Q (some (s,U))=Q (.v (.sh s.toD)) U:=rfl
def wA(i:Nat)(D:Ends)(o:Option S)(U:Env):Prop:=zv o λs=>D.nx (U.set i (some (.sh s.toD)))
def GE(i:Nat)(D:Ends):Env->Prop:=λU=>wA i D (slot U i) U
def zqm:IC i v D' U=v (Fs D' (GE i D')) U:=rfl
def zmN:GE i D' U=wA i D' (slot U i) U:=rfl
def zmG:wA i D' (some s) U=D'.nx (U.set i (some (.sh s.toD))):=rfl
def znO{z:Int}:CS (.dct false ks vs) (.int z)=some (lk ks vs (.int z)):=rfl
def CU(o:Option (Option D))(Q:WQ)(U:Env):Prop:=zv o λo=>zv o λe=>Q (.v (.sh e)) U
def CV(o p:Option D)(Q:WQ)(U:Env):Prop:=zv o λd=>zv p λq=>CU (CS d q) Q U
def CW(x:R)(Q:WQ):WQ:=λy U=>CV (zH x U) (view y U) Q U
def GA(b:WE)(Q:WQ)(E:WX):WQ:=λx U=>b U (CW x Q) E
def e_XA:uM a b U Q E=a U (GA b Q E) E:=rfl
def zpT:GA b Q E x U=b U (CW x Q) E:=rfl
def zoJ:CW x Q y U=CV (zH x U) (view y U) Q U:=rfl
def znU:CV (some d) (some q) Q U=CU (CS d q) Q U:=rfl
def zoT:CU (some (some d)) Q U=Q (.v (.sh d)) U:=rfl
theorem zgq:vC (some (.dct t ks (vs.map S.sh)))=some (.dct t ks vs):=by show(if(vs.map S.sh).all S.isSh=true then some (S.toD (.dct t ks (vs.map S.sh)))else none)=_;rw[za e_sh,S.toD_dct,zar]
def QF(Q:WQ):List D->Env->Prop:=λl U=>l.length<=big/\Q (.v (.sh (.tup l))) U
def e_TI:uL it U Q E=it U (QF Q) E:=rfl
def zo8:QF Q l U=(l.length<=big/\Q (.v (.sh (.tup l))) U):=rfl
def Df(res:Bool)(p:D)(o:Option D)(Q:Bool->Env->Prop)(U:Env):Prop:=zv o λq=>p=q/\Q res U
def Dg(res:Bool)(p:D)(Q:Bool->Env->Prop):WQ:=λy U=>Df res p (zH y U) Q U
def Dh(res:Bool)(b:WE)(o:Option D)(Q:Bool->Env->Prop)(E:WX)(U:Env):Prop:=zv o λp=>eG p=true/\b U (Dg res p Q) E
def GB(res:Bool)(b:WE)(Q:Bool->Env->Prop)(E:WX):WQ:=λx U=>Dh res b (zH x U) Q E U
def e_Re:iO res a b U QT E=a U (GB res b QT E) E:=rfl
def zpD:GB res b QT E x U=Dh res b (zH x U) QT E U:=rfl
def zp0:Dh res b (some p) QT E U=(eG p=true/\b U (Dg res p QT) E):=rfl
def zn6:Dg res p QT y U=Df res p (zH y U) QT U:=rfl
def zoF:Df res p (some q) QT U=(p=q/\QT res U):=rfl
def znt{z z':Int}:eA (.int z) (.int z')=vN (.int z) (.int z'):=rfl
theorem uB{w v:WB}(h:w=v)(U:Env)(Q:Env->Prop)(E:WX):w U Q E=v U Q E:=by rw[h]
theorem uS{w v:WS}(h:w=v)(D':Ends)(U:Env):w D' U=v D' U:=by rw[h]
def QR(s0:S)(n k:Nat)(g:WG)(c:WT)(b:WB)(Q:WQ)(E:WX):List D->Env->Prop:=λl U=>aP g c b l (U++some s0::List.replicate k none) (vY n Q) (Af n E)
def e_CM:KF s0 n m it g c bb U Q E=it U (QR s0 n m g c bb Q E) E:=rfl
def zos:QR s0 n m g c bb Q E l U=aP g c bb l (U++some s0::List.replicate m none) (vY n Q) (Af n E):=rfl
section
variable{U:Env}{Q:WQ}{QE:Env->Prop}{E:WX}{a b:WE}{x y r:R}{s:S}{q d:D}{n m j:Nat}{l:List D}
def Au(n:Nat)(s:S)(o:Option S)(U:Env)(Q:Env->Prop):Prop:=match o with
 |some (.set l)=>cX (s.toD::l)=true/\l.length<=150/\Q (U.set n (some (.set (dB l s.toD))))
 |_=>False
def Av(n:Nat)(p:Option (S×Env))(Q:Env->Prop):Prop:=zv p λp=>Au n p.1 (slot p.2 n) p.2 Q
def Mq(n:Nat)(Q:Env->Prop):WQ:=λr U=>Av n (give r U) Q
theorem e_Ad:wZ n a U QE E=a U (Mq n QE) E:=by unfold wZ Mq Av Au;rfl
def zoz:Mq n QE r U=Av n (give r U) QE:=rfl
def zoZ:Av n (some (s,U)) QE=Au n s (slot U n) U QE:=rfl
def zop:Au n s (some (.set l)) U QE=(cX (s.toD::l)=true/\l.length<=150/\QE (U.set n (some (.set (dB l s.toD))))):=rfl
def zny:(S.set l).toD=.set l:=rfl
def zlt:eL [.lst l]=cT l:=rfl
def zlp:eL [.set l]=cT l:=rfl
def zpW:AE [.lst l]=newS l:=rfl
variable{fr:D->Option S}
variable{c:WE}{QI:List D->Env->Prop}
end
def sg(c:Nat):D:=.str [c]
theorem Nv(l:List Nat):cS (l.map sg)=some (l.map λc=>[c]):=by have:=XH (l.map λc=>[c]);rw[qH]at this;exact this
theorem OK:∀l:List Nat,((l.map λc=>[c]).map List.length).sum=l.length
 |[]=>rfl
 |c::l=>by have:=OK l;simp only[qB,sum_cons,qv,qy]at this⊢;lia
theorem Pd:∀l:List Nat,(l.map λc=>[c]).flatten=l
 |[]=>rfl
 |c::l=>by have:=Pd l;simp only[qB,List.flatten_cons,List.singleton_append];rw[this]
theorem Nz(h:l.length<=big):iD [] [.lst (l.map sg)]=some (.sh (.str l)):=by show(cS (l.map sg)).bind _=_;grind[Nv,List.length,big,eQ,OK,Pk,Pd]
def yE:D->Nat
 |.str [c]=>c
 |_=>0
theorem Ul(h:l.Perm (A.map sg)):∃A':List Nat,A'.Perm A/\l=A'.map sg:=by
 refine⟨l.map yE,?_,?_⟩
 .have:=h.map yE;rw[qH]at this;have e:(yE∘sg)=id:=funext λc=>rfl;rw[e,map_id]at this;exact this
 .rw[qH];have:∀d∈l,(sg∘yE) d=id d:=λd hd=>by obtain⟨c,_,rfl⟩:=qN.mp (h.mem_iff.mp hd);rfl
  rw[map_congr_left this,map_id]
def dD:big=1000000:=rfl
theorem Ew:(fromTo lo n).length=n:=by simp[fromTo]
theorem XZ{l:List D}{k:Nat}(h:l[k]?=some d):(l.map S.sh)[k]?=some (.sh d):=by rw[qI,h];rfl
theorem ET{α β:Type}{f:α->β}{l:List α}{z:Int}(h0:0<=z)(h1:z<l.length):∃v,v∈l/\l[z.toNat]?=some v/\atI (l.map f) z=some (f v):=by
 have hz:z.toNat<l.length:=by lia
 exact⟨l[z.toNat],getElem_mem hz,qi hz,xU h0 (by rw[qI,qi hz];rfl)⟩
theorem Ec(h0:0<=z)(h1:z<l.length):∃v,v∈l/\l[z.toNat]?=some v/\atI l z=some v:=by
 have hz:z.toNat<l.length:=by lia
 exact⟨l[z.toNat],getElem_mem hz,qi hz,xU h0 (qi hz)⟩
theorem Ke{α β:Type}{f:α->β}:∀(l:List α)(k:Nat),(l.map f).eraseIdx k=(l.eraseIdx k).map f
 |[],_=>rfl
 |_::_,0=>rfl
 |x::l,k+1=>by show f x::(l.map f).eraseIdx k=f x::(l.eraseIdx k).map f;rw[Ke l k]
theorem HQ(f:α->β)(l:List α)(a b:Option Int):aM (l.map f) a b=(aM l a b).map f:=by unfold aM;first|rfl|assumption|(simp_all;done)
theorem AO(l:List α)(a b:Option Int):(aM l a b).length<=l.length:=by unfold aM;rw[qK,qJ];exact le_trans (min_le_right ..) (sub_le ..)
theorem xY(h:x∈aM l a b):x∈l:=by unfold aM at h;exact mem_of_mem_drop (mem_of_mem_take h)
theorem NC(l:List α){k:Int}(h0:0<=k)(h1:k<=l.length):aM l none (some k)=l.take k.toNat:=by unfold aM sIx;grind
theorem Pi(l:List α)(h0:0<=k):aM l (some k) none=l.drop k.toNat:=by
 unfold aM sIx;have:¬k<0:=by lia
 simp only[zc this];by_cases h:k.toNat<=l.length
 .rw[min_eq_left h,take_of_length_le];rw[qJ];lia
 .have h2:l.length<=k.toNat:=by lia
  rw[min_eq_right h2,drop_of_length_le (zd _),drop_of_length_le h2,take_nil]
theorem PY:∀l:List Int,bM (l.map D.int)=0
 |[]=>rfl
 |z::l=>by show max (hU (.int z)) (bM (l.map D.int))=0;rw[PY l];rfl
theorem Sq(l:List Bool):AF [.lst (l.map D.bl)]=some (.sh (.bl (l.all id))):=by show(kD (l.map D.bl)).map _=_;rw[XA];rfl
theorem PR{α:Type}:∀(l:List α)(i:Nat)(h:i<l.length),(l[i]::l.eraseIdx i).Perm l
 |x::l,0,_=>List.Perm.refl _
 |x::l,i+1,h=>by
  have hi:i<l.length:=by simpa using h
  exact(List.Perm.swap x l[i] _).trans (List.Perm.cons x (PR l i hi))
def Ac(b:WB)(K:Env->Prop)(E:WX):Bool->Env->Prop:=λk U=>if k then b U K E else K U
def sU(c:WT)(b:WB)(K:Env->Prop)(E:WX):Env->Prop:=λU=>c U (Ac b K E) E
def eU:sU c b K E U=c U (Ac b K E) E:=rfl
def nZ:Ac b K E true U=b U K E:=rfl
def EG:Ac b K E false U=K U:=rfl
theorem HE{α:Type}{toD:α->D}(I:List α->Env->Prop)(xs:List α)
  (step:∀(pre:List α)(x:α)(post:List α)(K:Env->Prop)(U:Env),pre++x::post=xs->I pre U->(∀U',I (pre++[x]) U'->K U')->g (.sh (toD x)) U (sU c b K E))
  (fin:∀U,I xs U->Q U)(h0:I [] U):aP g c b (xs.map toD) U Q E:=by
 have gen:∀(post pre:List α)(U:Env),pre++post=xs->I pre U->aP g c b (post.map toD) U Q E:=by
  intro post;induction post with
  |nil=>intro pre U e h;rw[qC]at e;subst e;exact fin U h
  |cons x post ih=>intro pre U e h;rw[qB,DM];exact step pre x post (Ad g c b (post.map toD) Q E) U e h λU' h'=>ih (pre++[x]) U' (by rw[<-e];simp) h'
 exact gen xs [] U rfl h0
theorem xK{α:Type}{toD:α->D}(I:List α->Env->Prop)(xs:List α)
  (step:∀(pre:List α)(x:α)(post:List α)(D2:Ends)(U:Env),pre++x::post=xs->I pre U->(∀U',I (pre++[x]) U'->D2.nx U')->(∀U',I (pre++[x]) U'->D2.ct U')->D2.rt=D'.rt->D2.bk=D'.nx->g (.sh (toD x)) U (λU=>b D2 U))
  (fin:∀U,I xs U->D'.nx U)(h0:I [] U):dX g b (xs.map toD) D' U:=by
 have gen:∀(post pre:List α)(U:Env),pre++post=xs->I pre U->dX g b (post.map toD) D' U:=by
  intro post;induction post with
  |nil=>intro pre U e h;rw[qC]at e;subst e;exact fin U h
  |cons x post ih=>intro pre U e h;rw[qB,MA];have k:=λU' h'=>ih (pre++[x]) U' (by rw[<-e];simp) h';exact step pre x post (Qz g b (post.map toD) D') U e h k k rfl rfl
 exact gen xs [] U rfl h0
theorem Jn{α:Type}{toD:α->D}(I:List α->List S->Env->Prop)(xs:List α)
  (step:∀(pre:List α)(x:α)(post:List α)(l:List S)(U:Env)(vs:List (Option S))(K:Env->Prop),pre++x::post=xs->vs.length=k->I pre l U->(∀l' U1 vs',vs'.length=k->I (pre++[x]) l' U1->K (U1++some (.lst l')::vs'))->g (.sh (toD x)) (U++some (.lst l)::vs) (sU c b K E))
  (fin:∀l U vs,vs.length=k->I xs l U->Q (U++some (.lst l)::vs))(hv:vs.length=k)(h0:I [] [] U):aP g c b (xs.map toD) (U++some (.lst [])::vs) Q E:=by
 refine HE (λpre U'=>∃l U1 vs',vs'.length=k/\I pre l U1/\U'=U1++some (.lst l)::vs') xs (λpre x post K U' e hI hK=>?_) (λU' hI=>?_) ⟨[],U,vs,hv,h0,rfl⟩
 .obtain⟨l,U1,vs',h1,h2,rfl⟩:=hI;exact step pre x post l U1 vs' K e h1 h2 λl' U2 vs2 h3 h4=>hK _ ⟨l',U2,vs2,h3,h4,rfl⟩
 .obtain⟨l,U1,vs',h1,h2,rfl⟩:=hI;exact fin l U1 vs' h1 h2
theorem Jp{α:Type}{toD:α->D}(xs:List α)(h:α->Option S)
  (step:∀x∈xs,∀(l:List S)(vs:List (Option S))(K:Env->Prop),vs.length=k->l.length<xs.length->(∀vs',vs'.length=k->K (U++some (.lst (l++(h x).toList))::vs'))->g (.sh (toD x)) (U++some (.lst l)::vs) (sU c b K E))
  (fin:∀vs,vs.length=k->Q (U++some (.lst (xs.filterMap h))::vs))(hv:vs.length=k):aP g c b (xs.map toD) (U++some (.lst [])::vs) Q E:=by
 refine Jn (λpre l U'=>U'=U/\l=pre.filterMap h) xs (λpre x post l U' vs K e h1 h2 hK=>?_) (λl U' vs h1 h2=>?_) hv ⟨rfl,rfl⟩
 .obtain⟨rfl,rfl⟩:=h2;have hl:(pre.filterMap h).length<xs.length:=by have:=List.length_filterMap_le h pre;rw[<-e];simp only[qr,qv];lia
  refine step x (by rw[<-e];simp) _ vs K h1 hl λvs' h3=>hK _ _ vs' h3 ⟨rfl,?_⟩;rw[List.filterMap_append];cases q:h x<;>simp[q]
 .obtain⟨rfl,rfl⟩:=h2;exact fin vs h1
theorem rS{vs:List (Option S)}(h:vs.length=1):∃a,vs=[a]:=by
 match vs,h with
 |[a],_=>exact⟨a,rfl⟩
theorem Bi{vs:List (Option S)}(h:vs.length=2):∃a b,vs=[a,b]:=by
 match vs,h with
 |[a,b],_=>exact⟨a,b,rfl⟩
theorem rR{vs:List (Option S)}(h:vs.length=3):∃a b c,vs=[a,b,c]:=by
 match vs,h with
 |[a,b,c],_=>exact⟨a,b,c,rfl⟩
section
variable{α:Type}
theorem IV(xs:List α)(h:α->Option S)
  (step:∀x∈xs,∀(l:List S)(o:Option S)(K:Env->Prop),l.length<xs.length->(∀o,K (U.take n++[some (.lst (l++(h x).toList)),o]))->zu (n+1) (.sh (toD x)) (U.take n++[some (.lst l),o]) (sU c b K E))
  (fin:∀o,Q (U.take n++[some (.lst (xs.filterMap h)),o]))(e:U=U.take n++[some (.lst []),o0]:=by rfl):aP (zu (n+1)) c b (xs.map toD) U Q E:=by
 rw[e];refine Jp (k:=1) xs h (λx hx l vs K hv hl hK=>?_) (λvs hv=>?_) rfl
 .obtain⟨a,rfl⟩:=rS hv;exact step x hx l a K hl λo=>hK [o] rfl
 .obtain⟨a,rfl⟩:=rS hv;exact fin a
theorem QU(xs:List α)(h:α->Option S)
  (step:∀x∈xs,∀(l:List S)(o o':Option S)(K:Env->Prop),l.length<xs.length->(∀o o',K (U.take n++[some (.lst (l++(h x).toList)),o,o']))->dI [zu (n+1),zu (n+2)] (.sh (toD x)) (U.take n++[some (.lst l),o,o']) (sU c b K E))
  (fin:∀o o',Q (U.take n++[some (.lst (xs.filterMap h)),o,o']))(e:U=U.take n++[some (.lst []),o0,o1]:=by rfl):aP (dI [zu (n+1),zu (n+2)]) c b (xs.map toD) U Q E:=by
 rw[e];refine Jp (k:=2) xs h (λx hx l vs K hv hl hK=>?_) (λvs hv=>?_) rfl
 .obtain⟨a,a',rfl⟩:=Bi hv;exact step x hx l a a' K hl λo o'=>hK [o,o'] rfl
 .obtain⟨a,a',rfl⟩:=Bi hv;exact fin a a'
theorem Zg(xs:List α)(h:α->Option S)
  (step:∀x∈xs,∀(l:List S)(o o' o'':Option S)(K:Env->Prop),l.length<xs.length->(∀o o' o'',K (U.take n++[some (.lst (l++(h x).toList)),o,o',o'']))->dI [zu (n+1),zu (n+2),zu (n+3)] (.sh (toD x)) (U.take n++[some (.lst l),o,o',o'']) (sU c b K E))
  (fin:∀o o' o'',Q (U.take n++[some (.lst (xs.filterMap h)),o,o',o'']))(e:U=U.take n++[some (.lst []),o0,o1,o2]:=by rfl):aP (dI [zu (n+1),zu (n+2),zu (n+3)]) c b (xs.map toD) U Q E:=by
 rw[e];refine Jp (k:=3) xs h (λx hx l vs K hv hl hK=>?_) (λvs hv=>?_) rfl
 .obtain⟨a,a',a'',rfl⟩:=rR hv;exact step x hx l a a' a'' K hl λo o' o''=>hK [o,o',o''] rfl
 .obtain⟨a,a',a'',rfl⟩:=rR hv;exact fin a a' a''
theorem IU(xs:List α)(h:α->S)
  (step:∀x∈xs,∀(l:List S)(o:Option S)(K:Env->Prop),l.length<xs.length->(∀o,K (U.take n++[some (.lst (l++[h x])),o]))->zu (n+1) (.sh (toD x)) (U.take n++[some (.lst l),o]) (sU c b K E))
  (fin:∀o,Q (U.take n++[some (.lst (xs.map h)),o]))(e:U=U.take n++[some (.lst []),o0]:=by rfl):aP (zu (n+1)) c b (xs.map toD) U Q E:=
 IV xs (λx=>some (h x)) step (λo=>by rw[show(xs.filterMap λx=>some (h x))=xs.map h from List.filterMap_eq_map▸rfl];exact fin o) e
theorem Zf(xs:List α)(h:α->S)
  (step:∀x∈xs,∀(l:List S)(o o':Option S)(K:Env->Prop),l.length<xs.length->(∀o o',K (U.take n++[some (.lst (l++[h x])),o,o']))->dI [zu (n+1),zu (n+2)] (.sh (toD x)) (U.take n++[some (.lst l),o,o']) (sU c b K E))
  (fin:∀o o',Q (U.take n++[some (.lst (xs.map h)),o,o']))(e:U=U.take n++[some (.lst []),o0,o1]:=by rfl):aP (dI [zu (n+1),zu (n+2)]) c b (xs.map toD) U Q E:=
 QU xs (λx=>some (h x)) step (λo o'=>by rw[show(xs.filterMap λx=>some (h x))=xs.map h from List.filterMap_eq_map▸rfl];exact fin o o') e
theorem Ze(xs:List α)(h:α->S)
  (step:∀x∈xs,∀(l:List S)(o o' o'':Option S)(K:Env->Prop),l.length<xs.length->(∀o o' o'',K (U.take n++[some (.lst (l++[h x])),o,o',o'']))->dI [zu (n+1),zu (n+2),zu (n+3)] (.sh (toD x)) (U.take n++[some (.lst l),o,o',o'']) (sU c b K E))
  (fin:∀o o' o'',Q (U.take n++[some (.lst (xs.map h)),o,o',o'']))(e:U=U.take n++[some (.lst []),o0,o1,o2]:=by rfl):aP (dI [zu (n+1),zu (n+2),zu (n+3)]) c b (xs.map toD) U Q E:=
 Zg xs (λx=>some (h x)) step (λo o' o''=>by rw[show(xs.filterMap λx=>some (h x))=xs.map h from List.filterMap_eq_map▸rfl];exact fin o o' o'') e
end
theorem Zi{β:Type}(emb:β->S)(xs:List D)(I:Env->Prop)(P:β->Prop)
  (step:∀x∈xs,∀(U:Env)(A:List β)(o:Option S)(K:Env->Prop),I U->A.length<xs.length->(∀U1 y o1,I U1->P y->K (U1++[some (.lst (A.map emb++[emb y])),o1]))->zu (n+1) (.sh x) (U++[some (.lst (A.map emb)),o]) (sU c b K E))
  (fin:∀U(A:List β) o,I U->A.length=xs.length->(∀y∈A,P y)->Q (U++[some (.lst (A.map emb)),o]))(h0:I (U.take n))(e:U=U.take n++[some (.lst []),o0]:=by rfl):aP (zu (n+1)) c b xs U Q E:=by
 rw[e];have:=Jn (toD:=λx:D=>x) (k:=1) (g:=zu (n+1)) (c:=c) (b:=b) (E:=E) (Q:=Q) (λpre l U'=>I U'/\∃A:List β,l=A.map emb/\A.length=pre.length/\∀y∈A,P y) xs (λpre x post l U' vs K e h1 h2 hK=>?_) (λl U' vs h1 h2=>?_) (U:=U.take n) (vs:=[o0]) rfl ⟨h0,[],rfl,rfl,λy hy=>nomatch hy⟩
 .rwa[List.map_id']at this
 .obtain⟨hI,A,rfl,hA,hP⟩:=h2;obtain⟨a,rfl⟩:=rS h1;refine step x (by rw[<-e];simp) U' A a K hI (by rw[hA,<-e];simp only[qr,qv];lia) λU1 y o1 h3 h4=>hK _ U1 [o1] rfl ⟨h3,A++[y],by simp,by simp[hA],λz hz=>?_⟩;grind
 grind[rS]
theorem Zc(I:Nat->Env->Prop)(xs:List D)
  (step:∀(k:Nat)(x:D),xs[k]?=some x->∀(D2:Ends)(U:Env),I k U->(∀U',I (k+1) U'->D2.nx U')->(∀U',I (k+1) U'->D2.ct U')->D2.rt=D'.rt->D2.bk=D'.nx->g (.sh x) U (λU=>b D2 U))
  (fin:∀U,I xs.length U->D'.nx U)(h0:I 0 U):dX g b xs D' U:=by
 have:=xK (toD:=λx:D=>x) (g:=g) (b:=b) (D':=D') (λpre U=>I pre.length U) xs (λpre x post D2 U e hI hnx hct hrt hbk=>step pre.length x (by rw[<-e];simp) D2 U hI (λU' h=>hnx U' (by simpa using h)) (λU' h=>hct U' (by simpa using h)) hrt hbk) fin h0;rwa[List.map_id']at this
theorem bf{α:Type}{toD:α->D}(xs:List α)(h:α->List S)
  (step:∀x∈xs,∀(l:List S)(vs:List (Option S))(K:Env->Prop),vs.length=k->l.length+(h x).length<=(xs.flatMap h).length->(∀vs',vs'.length=k->K (U.take n++some (.lst (l++h x))::vs'))->g (.sh (toD x)) (U.take n++some (.lst l)::vs) (sU c b K E))
  (fin:∀vs,vs.length=k->Q (U.take n++some (.lst (xs.flatMap h))::vs))(e:U=U.take n++some (.lst [])::vs:=by rfl)(hv:vs.length=k:=by rfl):aP g c b (xs.map toD) U Q E:=by
 rw[e];refine Jn (λpre l U'=>U'=U.take n/\l=pre.flatMap h) xs (λpre x post l U' vs K e h1 h2 hK=>?_) (λl U' vs h1 h2=>?_) hv ⟨rfl,rfl⟩
 .obtain⟨rfl,rfl⟩:=h2;have hl:(pre.flatMap h).length+(h x).length<=(xs.flatMap h).length:=by rw[<-e,flatMap_append,flatMap_cons,qr,qr];lia
  exact step x (by rw[<-e];simp) _ vs K h1 hl λvs' h3=>hK _ _ vs' h3 ⟨rfl,by rw[flatMap_append];simp⟩
 .obtain⟨rfl,rfl⟩:=h2;exact fin vs h1
section
variable{α:Type}
theorem Zh(F:List S->Option S->Option S->Env)(xs:List α)(h:α->Option S)
  (step:∀x∈xs,∀(l:List S)(o o':Option S)(K:Env->Prop),l.length+(h x).toList.length<=l0.length+(xs.filterMap h).length->(∀o o',K (F (l++(h x).toList) o o'))->g (.sh (toD x)) (F l o o') (sU c b K E))
  (fin:∀o o',Q (F (l0++xs.filterMap h) o o')):aP g c b (xs.map toD) (F l0 o0 o1) Q E:=by
 refine HE (λpre U'=>∃o o',U'=F (l0++pre.filterMap h) o o') xs (λpre x post K U' e hI hK=>?_) (λU' hI=>?_) ⟨o0,o1,by simp⟩
 .obtain⟨o,o',rfl⟩:=hI;refine step x (by rw[<-e];simp) _ o o' K ?_ λo o'=>hK _ ⟨o,o',?_⟩
  .rw[<-e,List.filterMap_append,qr,qr];cases q:h x<;>simp[q]<;>lia
  .rw[List.filterMap_append];cases q:h x<;>simp[q]
 .obtain⟨o,o',rfl⟩:=hI;exact fin o o'
end
theorem UB:∀l:List Int,∀d∈l.map D.int,Br d:=λl d hd=>by obtain⟨x,_,rfl⟩:=qN.mp hd;trivial
theorem OV:∀l:List (List Nat),∀d∈l.map D.str,xD d:=λl d hd=>by obtain⟨x,_,rfl⟩:=qN.mp hd;trivial
theorem Ry:([a]:List Nat)<[b]↔a<b:=by simp[qF]
theorem Xt{l:List Nat}(h:l.Pairwise (·<=·))(hn:l.Nodup):l.Pairwise (·<·):=by have:=h.and hn;exact this.imp λ⟨h1,h2⟩=>by lia
theorem Rv(h:xD x):(bG x (.str z)||decide (30<hU x))=false:=by
 cases x with
 |str i=>rfl
 |_=>exact h.elim
theorem Qm{ns:List (List Nat)}:(if(ns.map D.str).any (λx=>bG x (.str z)||decide (30<hU x))then none else some (open Classical in decide (D.str z∈ns.map D.str)))=some (decide (z∈ns)):=by grind[mem_map,List.any_eq_true.mp,Rv,OV]
theorem OU{ns:List (List Nat)}:wV (.str z) (.tup (ns.map D.str))=some (decide (z∈ns)):=Qm
theorem UQ{ns:List (List Nat)}:wV (.str z) (.lst (ns.map D.str))=some (decide (z∈ns)):=Qm
theorem EF{α β:Type}(p:α->Bool)(f:α->β):∀l:List α,(l.filterMap λx=>if p x=true then some (f x)else none)=(l.filter p).map f
 |[]=>rfl
 |x::l=>by have ih:=EF p f l;cases q:p x<;>simp[q,ih]
theorem HV{α:Type}[DecidableEq α]:∀(l m:List α),l.Nodup->(∀x∈l,x∈m)->l.length<=m.length
 |[],m,_,_=>by simp
 |x::l,m,hn,hs=>by
  obtain⟨h1,h2⟩:=qO.mp hn;have hx:x∈m:=hs x (by simp);have:=HV l (m.erase x) h2 λy hy=>by refine(List.mem_erase_of_ne ?_).mpr (hs y (by simp[hy]));intro z;subst z;exact h1 hy
  rw[List.length_erase_of_mem hx]at this;have hp:=List.length_pos_of_mem hx;rw[qv];lia
theorem Kc:∀l:List (List Nat),bM (l.map D.str)=0
 |[]=>rfl
 |z::l=>by show max (hU (.str z)) (bM (l.map D.str))=0;rw[Kc l];rfl
theorem VE:gF (.lst (l.map D.str)) (.lst [])=some (!decide (l=[])):=by
 unfold gF gB;rw[zc (by
  have:hU (.lst (l.map D.str))=1:=by show bM (l.map D.str)+1=1;rw[Kc]
  rw[this];cases l<;>exact λz=>Bool.noConfusion (show false=true from z))]
 simp
theorem VZ:gF (.tup (l.map D.str)) (.tup [])=some (!decide (l=[])):=by
 unfold gF gB;rw[zc (by
  have:hU (.tup (l.map D.str))=1:=by show bM (l.map D.str)+1=1;rw[Kc]
  rw[this];cases l<;>exact λz=>Bool.noConfusion (show false=true from z))]
 simp
theorem Jw:∀l:List D,(∀d∈l,hU d<=n)->bM l<=n
 |[],_=>zero_le _
 |d::l,h=>by show max (hU d) (bM l)<=n;have h1:=h d (by simp);have h2:=Jw l λx hx=>h x (by simp[hx]);lia
theorem JD(h:bM l<=29):gF (.lst l) (.lst [])=some (!l.isEmpty):=by
 unfold gF gB;rw[zc (by
  have:hU (.lst l)=bM l+1:=rfl;rw[this];cases l with
  |nil=>exact λz=>Bool.noConfusion (show false=true from z)
  |cons x l=>exact λz=>absurd (qX (show decide (30<bM (x::l)+1)=true from z)) (by lia))]
 cases l<;>simp
theorem rA{α:Type}{l:List α}(h:l.length=n+1):∃a r,l=a::r/\r.length=n:=by
 cases l with
 |nil=>cases h
 |cons a r=>exact⟨a,r,rfl,Nat.succ.inj h⟩
theorem KG{α:Type}{l:List α}(h:l.length=0):l=[]:=List.length_eq_zero_iff.mp h
theorem uP{α:Type}{l:List α}(h:l.length=1):∃a,l=[a]:=by obtain⟨a,r,rfl,k⟩:=rA h;obtain rfl:=KG k;exact⟨a,rfl⟩
theorem AU{α:Type}{l:List α}(h:l.length=2):∃a0 a1,l=[a0,a1]:=by obtain⟨a0,r,rfl,k⟩:=rA h;obtain⟨a1,rfl⟩:=uP k;exact⟨a0,a1,rfl⟩
theorem AS{α:Type}{l:List α}(h:l.length=3):∃a0 a1 a2,l=[a0,a1,a2]:=by obtain⟨a0,r,rfl,k⟩:=rA h;obtain⟨a1,a2,rfl⟩:=AU k;exact⟨a0,a1,a2,rfl⟩
theorem Ft{α:Type}{l:List α}(h:l.length=4):∃a0 a1 a2 a3,l=[a0,a1,a2,a3]:=by obtain⟨a0,r,rfl,k⟩:=rA h;obtain⟨a1,a2,a3,rfl⟩:=AS k;exact⟨a0,a1,a2,a3,rfl⟩
theorem Qq:∀l m:List Int,aL (l.map D.int) (m.map D.int)=if l<m then .lt else if m<l then .gt else .eq
 |[],[]=>by simp[aL]
 |[],b::m=>by simp[aL]
 |a::l,[]=>by simp[aL]
 |a::l,b::m=>by
  have ih:=Qq l m;rw[qB,qB,aL];rw[show cR (.int a) (.int b)=if a<b then .lt else if b<a then .gt else .eq from rfl];by_cases h1:a<b
  .rw[za h1,za (qF.mpr (.inl h1))]
  .rw[zc h1];by_cases h2:b<a
   .rw[za h2,zc (by rw[qF];rintro(h|⟨h,_⟩)<;>lia),za (qF.mpr (.inl h2))]
   .have e:a=b:=by lia
    subst e;rw[zc h2];show aL (l.map D.int) (m.map D.int)=_;rw[ih]
    have e1:(a::l<a::m)↔l<m:=by rw[qF];constructor
                                .rintro(h|⟨_,h⟩)
                                 .lia
                                 .exact h
                                .intro h;exact .inr ⟨rfl,h⟩
    have e2:(a::m<a::l)↔m<l:=by rw[qF];constructor
                                .rintro(h|⟨_,h⟩)
                                 .lia
                                 .exact h
                                .intro h;exact .inr ⟨rfl,h⟩
    simp only[e1,e2]
theorem RP(l m:List Int):fZ (tI l) (tI m)=!decide (m<l):=by
 show(match aL (l.map D.int) (m.map D.int)with|.gt=>false|_=>true)=_;rw[Qq];by_cases h:m<l
 .rw[zc (lt_asymm h),za h,qU h];rfl
 .rw[zc h,qV h];by_cases h2:l<m
  .rw[za h2];rfl
  .rw[zc h2];rfl
abbrev Wd:=List Nat
def eO(w:Wd)(i j:Nat):Wd:=(w.drop i).take (j-i)
theorem US(l:List α)(i j:Nat):aM l (some (i:Int)) (some (j:Int))=(l.drop i).take (j-i):=by
 unfold aM sIx;have h1:¬(i:Int)<0:=by lia
 have h2:¬(j:Int)<0:=by lia
 simp only[zc h1,zc h2,qZ];by_cases hi:i<=l.length
 .rw[min_eq_left hi];by_cases hj:j<=l.length
  .rw[min_eq_left hj]
  .rw[min_eq_right (by lia),take_of_length_le (by rw[qJ];lia),take_of_length_le (by rw[qJ];lia)]
 .rw[min_eq_right (a:=i) (by lia),drop_of_length_le (i:=l.length) (zd _),drop_of_length_le (i:=i) (by lia),take_nil,take_nil]
theorem HP(w:Wd)(i j:Nat):aM w (some (i:Int)) (some (j:Int))=eO w i j:=US w i j
theorem To(h1:i<=j)(h2:j<=w.length):(eO w i j).length=j-i:=by unfold eO;rw[qK,qJ];lia
def gC(B:List Wd)(w:Wd)(i j:Nat):Bool:=decide (i<j)&&(decide (j<=w.length)&&decide (eO w i j∈B))
theorem zaF:gC B w i j=true↔i<j/\j<=w.length/\eO w i j∈B:=by unfold gC;simp[and_eq_true]
def rG(B:List Wd)(w:Wd)(p q:Nat):Bool:=gC B w p q||gC B w q p
theorem JI:rG B w p q=rG B w q p:=by unfold rG;rw[Bool.or_comm]
def nb(B:List Wd)(w:Wd)(p:Nat):List Nat:=(List.range (w.length+1)).filter λq=>rG B w p q
theorem za8:q∈nb B w p↔rG B w p q=true:=by grind[nb,mem_filter,mem_range,rG,zaF]
theorem zcY:(nb B w p).Pairwise (·<·):=List.Pairwise.filter _ pairwise_lt_range
theorem Hw(h:q∈nb B w p):q<=w.length/\p<=w.length/\p≠q:=by grind[za8,rG,zaF]
abbrev Tr:=Nat×Nat×Nat
def sR(B:List Wd)(w:Wd)(i:Nat):List Tr:=(List.range (w.length+1)).filterMap λj=>if gC B w i j=true then some (i,j,B.idxOf (eO w i j))else none
def eY(B:List Wd)(w:Wd):List Tr:=(List.range w.length).flatMap (sR B w)
def fT(B:List Wd)(w:Wd)(i:Nat):List Tr:=(List.range B.length).filterMap λk=>if decide (eO w i (i+((B[k]?).getD []).length)=(B[k]?).getD [])=true then some (i,i+((B[k]?).getD []).length,k)else none
theorem zbR:t∈sR B w i↔t.1=i/\gC B w i t.2.1=true/\t.2.2=B.idxOf (eO w i t.2.1):=by
 unfold sR;rw[mem_filterMap];constructor
 .rintro⟨j,_,h⟩;split at h
  .rename_i hj;cases h;exact⟨rfl,hj,rfl⟩
  .cases h
 .rintro⟨h1,h2,h3⟩;refine⟨t.2.1,?_,?_⟩
  .rw[qM];have:=zaF.mp h2;lia
  .subst h1;rw[za h2,<-h3]
theorem zcs:t∈eY B w↔gC B w t.1 t.2.1=true/\t.2.2=B.idxOf (eO w t.1 t.2.1):=by
 unfold eY;rw[mem_flatMap];constructor
 .grind[zbR]
 .rintro⟨h1,h2⟩;refine⟨t.1,?_,zbR.mpr ⟨rfl,h1,h2⟩⟩;rw[qM];have:=zaF.mp h1;lia
theorem zcK:(sR B w i).Pairwise λt u=>t.1=u.1/\t.2.1<u.2.1:=by
 unfold sR;rw[List.pairwise_filterMap];refine pairwise_lt_range.imp λ{a b} hab=>?_;intro x hx y hy;split at hx
 .split at hy
  .cases hx;cases hy;exact⟨rfl,hab⟩
  .cases hy
 .cases hx
theorem ze4:(eY B w).Pairwise λt u=>t.1<u.1\/(t.1=u.1/\t.2.1<u.2.1):=by
 unfold eY;rw[List.pairwise_flatMap];refine⟨λi _=>zcK.imp λh=>.inr h,pairwise_lt_range.imp λ{a b} hab=>?_⟩;intro x hx y hy;have h1:=(zbR.mp hx).1;have h2:=(zbR.mp hy).1
 left;lia
theorem VN:t∈fT B w i↔t.1=i/\∃o,B[t.2.2]?=some o/\t.2.1=i+o.length/\eO w i (i+o.length)=o:=by
 unfold fT;rw[mem_filterMap];refine⟨λ⟨k,hk,e⟩=>?_,λ⟨h1,o,h2,h3,h4⟩=>⟨t.2.2,qM.mpr (qh.mp h2).1,?_⟩⟩
 .rw[qi (qM.mp hk)]at e;split at e
  .cases e;exact⟨rfl,_,qi (qM.mp hk),rfl,qX ‹_›⟩
  .cases e
 .rw[h2];refine(za (qU h4)).trans ?_;show some (i,i+o.length,t.2.2)=some t;rw[<-h3,<-h1]
theorem Us(hB:B.Nodup)(hne:∀x∈B,x≠[])(hi:i<=w.length):(sR B w i).Perm (fT B w i):=by
 refine(List.perm_ext_iff_of_nodup ?_ ?_).mpr λt=>?_
 .exact zcK.imp λ⟨_,h⟩ e=>by rw[e]at h;lia
 .unfold fT;rw[List.Nodup,List.pairwise_filterMap];refine nodup_range.imp λ{a b} hab x hx y hy e=>?_;subst e;split at hx
  .split at hy
   .cases hx;injection hy with hy
    injection hy with _ hy
    injection hy with _ hy
    exact hab hy.symm
   .cases hy
  .cases hx
 .rw[zbR,VN];constructor
  .rintro⟨h1,h2,h3⟩;obtain⟨a1,a2,a3⟩:=zaF.mp h2;have hl:=To (w:=w) (i:=i) (j:=t.2.1) (by lia) a2;refine⟨h1,eO w i t.2.1,?_,by rw[hl];lia,by rw[hl];congr 1;lia⟩;rw[h3];rw[qi (List.idxOf_lt_length_of_mem a3),List.getElem_idxOf]
  .rintro⟨h1,o,h2,h3,h4⟩;have hm:o∈B:=qP h2;have ho:=hne o hm;have hpos:0<o.length:=qS.mpr ho;have hle:i+o.length<=w.length:=by have:=congrArg List.length h4;unfold eO at this;rw[qK,qJ]at this;lia
   refine⟨h1,zaF.mpr ⟨by lia,by lia,by rw[h3,h4];exact hm⟩,?_⟩;rw[h3,h4];obtain⟨hk,e⟩:=qh.mp h2;rw[<-e];exact(hB.idxOf_getElem _ hk).symm
theorem Qf{α β:Type}{f g:α->List β}:∀l:List α,(∀x∈l,(f x).Perm (g x))->(l.flatMap f).Perm (l.flatMap g)
 |[],_=>.refl _
 |x::l,h=>by rw[flatMap_cons,flatMap_cons];exact(h x (by simp)).append (Qf l λy hy=>h y (by simp[hy]))
theorem Pb(hB:B.Nodup)(hne:∀x∈B,x≠[]):(eY B w).Perm ((List.range w.length).flatMap (fT B w)):=
 Qf _ λi hi=>Us hB hne (by rw[qM]at hi;lia)
def Fu(t:Tr):List Int:=[(t.1:Int),(t.2.1:Int),(t.2.2:Int)]
def oG(t:Tr):D:=tI (Fu t)
def Nn(t:Tr):oG t=.tup [.int t.1,.int t.2.1,.int t.2.2]:=rfl
theorem OX{α:Type}(f:α->D):∀(B:List α)(k:Nat),cZ k (B.map f)=(List.range B.length).map λi=>D.tup [.int ((k+i:Nat):Int),(B[i]?).elim .non f]
 |[],k=>rfl
 |b::B,k=>by rw[qB,cZ,OX f B (k+1),qv,List.range_succ_eq_map,qB,qH];congr 1;refine map_congr_left λi _=>?_;show D.tup [.int ((k+1+i:Nat):Int),_]=D.tup [.int ((k+(i+1):Nat):Int),_];rw[show k+1+i=k+(i+1) by lia];rfl
theorem Ws(B:List Wd):cZ 0 (B.map D.str)=(List.range B.length).map λ(k:Nat)=>D.tup [.int (k:Int),.str ((B[k]?).getD [])]:=by rw[OX];first|rfl|assumption|(simp_all;done)
theorem jU{z:Int}{n:Nat}(h:z=n):fromTo 0 z.toNat=(List.range n).map λ(k:Nat)=>D.int (k:Int):=by subst h;unfold fromTo;rw[qZ];refine map_congr_left λk _=>?_;rw[Int.zero_add]
theorem wO{i z:Int}{a n:Nat}(hi:i=a)(h:z=n):fromTo i (z-i).toNat=(List.range' a (n-a)).map λ(k:Nat)=>D.int (k:Int):=by subst hi;subst h;unfold fromTo;rw[show((n:Int)-(a:Int)).toNat=n-a by lia,List.range'_eq_map_range,qH];first|rfl|assumption|(simp_all;done)
theorem JN{α β:Type}{f g:α->Option β}:∀{l:List α},(∀x∈l,f x=g x)->l.filterMap f=l.filterMap g
 |[],_=>rfl
 |x::l,h=>by rw[filterMap_cons,filterMap_cons,h x (by simp),JN λy hy=>h y (by simp[hy])]
def zG(q:Nat):D:=.int (q:Int)
def tR(n:Nat)(f:Nat->List Nat):List S:=(List.range (n+1)).map λp=>S.lst ((f p).map λq=>S.sh (zG q))
theorem ND(h:i<=n):(tR n f)[i]?=some (.lst ((f i).map λq=>S.sh (zG q))):=by unfold tR;rw[qI,getElem?_range (by lia)];rfl
def eC(f:Nat->List Nat)(i j:Nat):Nat->List Nat:=λp=>if p=i then f p++[j]else f p
theorem NS(h:i<=n):(tR n f).set i (.lst (((f i).map λq=>S.sh (zG q))++[.sh (zG j)]))=tR n (eC f i j):=by
 apply ext_getElem?;intro k;rw[getElem?_set];unfold tR;by_cases hk:i=k
 .subst hk;rw[za rfl,za (by simp;lia),qI,getElem?_range (by lia)];simp[eC]
 .rw[zc hk,qI,qI];by_cases h2:k<n+1
  .rw[getElem?_range h2];simp only[map_some,eC,zc (Ne.symm hk)]
  .rw[qT (by simp;lia)];rfl
def Dn(i j p q:Nat):Prop:=p<i\/q<i\/p=i/\q<j\/q=i/\p<j
def fJ(B:List Wd)(w:Wd)(i j:Nat)(f:Nat->List Nat):Prop:=∀p,(f p).Nodup/\∀q,q∈f p↔(rG B w p q=true/\Dn i j p q)
theorem IZ:Dn i (j+1) p q↔Dn i j p q\/p=i/\q=j\/q=i/\p=j:=by
 unfold Dn;rw[Nat.lt_succ_iff_lt_or_eq,Nat.lt_succ_iff_lt_or_eq];constructor
 .rintro(h|h|⟨h,k|k⟩|⟨h,k|k⟩)
  .exact .inl (.inl h)
  .exact .inl (.inr (.inl h))
  .exact .inl (.inr (.inr (.inl ⟨h,k⟩)))
  .exact .inr (.inl ⟨h,k⟩)
  .exact .inl (.inr (.inr (.inr ⟨h,k⟩)))
  .exact .inr (.inr ⟨h,k⟩)
 .rintro((h|h|h|h)|h|h)
  .exact .inl h
  .exact .inr (.inl h)
  .exact .inr (.inr (.inl ⟨h.1,.inl h.2⟩))
  .exact .inr (.inr (.inr ⟨h.1,.inl h.2⟩))
  .exact .inr (.inr (.inl ⟨h.1,.inr h.2⟩))
  .exact .inr (.inr (.inr ⟨h.1,.inr h.2⟩))
theorem ML(hij:i<j):¬Dn i j i j/\¬Dn i j j i:=by unfold Dn;lia
theorem Ji(hij:i<j):rG B w i j=gC B w i j:=by
 cases e:gC B w j i with
 |false=>unfold rG;rw[e,Bool.or_false]
 |true=>exact absurd (zaF.mp e).1 (Nat.lt_asymm hij)
theorem Ug(hij:i<j)(h:fJ B w i j f)(ht:gC B w i j=false):fJ B w i (j+1) f:=λp=>⟨(h p).1,λq=>by
 rw[(h p).2 q,IZ];refine and_congr_right λz=>⟨.inl,λk=>k.elim id λk=>?_⟩
 rcases k with⟨rfl,rfl⟩|⟨rfl,rfl⟩
 .rw[Ji hij,ht]at z;cases z
 .rw[JI,Ji hij,ht]at z;cases z⟩
theorem xA{P Q:Nat->Prop}(h1:l.Nodup)(h2:∀q,q∈l↔P q)(hn:¬P a)(h:∀q,P q\/q=a↔Q q):(l++[a]).Nodup/\∀q,q∈l++[a]↔Q q:=
 ⟨qz.mpr ⟨h1,by simp,λx hx b hb e=>hn ((h2 a).mp (by rw[qw.mp hb]at e;rwa[<-e]))⟩,λq=>by rw[qA,qw,h2 q,h q]⟩
theorem Uu(hij:i<j)(h:fJ B w i j f)(ht:gC B w i j=true):fJ B w i (j+1) (eC (eC f i j) j i):=λp=>by
 obtain⟨h1,h2⟩:=h p;rw[<-Ji hij]at ht;show(eC (eC f i j) j i p).Nodup/\_;unfold eC;by_cases hj:p=j
 .subst hj;rw[za rfl,zc (ne_of_gt hij)];rw[JI]at ht;refine xA h1 h2 (λk=>(ML hij).2 k.2) λq=>?_;rw[IZ];constructor
  .rintro(⟨a,b⟩|rfl)
   .exact⟨a,.inl b⟩
   .exact⟨ht,.inr (.inr ⟨rfl,rfl⟩)⟩
  .rintro⟨a,b|⟨b,_⟩|⟨b,_⟩⟩
   .exact .inl ⟨a,b⟩
   .exact absurd b (ne_of_gt hij)
   .exact .inr b
 .rw[zc hj];by_cases hi:p=i
  .subst hi;rw[za rfl];refine xA h1 h2 (λk=>(ML hij).1 k.2) λq=>?_;rw[IZ];constructor
   .rintro(⟨a,b⟩|rfl)
    .exact⟨a,.inl b⟩
    .exact⟨ht,.inr (.inl ⟨rfl,rfl⟩)⟩
   .rintro⟨a,b|⟨_,b⟩|⟨_,b⟩⟩
    .exact .inl ⟨a,b⟩
    .exact .inr b
    .exact absurd b hj
  .rw[zc hi];refine⟨h1,λq=>?_⟩;rw[h2 q,IZ];refine and_congr_right λ_=>⟨.inl,λk=>k.elim id λk=>?_⟩
   rcases k with⟨k,_⟩|⟨_,k⟩
   .exact absurd k hi
   .exact absurd k hj
theorem VH(hw:w.length<=n)(h:fJ B w i (n+1) f):fJ B w (i+1) (i+2) f:=λp=>by
 obtain⟨h1,h2⟩:=h p;refine⟨h1,λq=>?_⟩;rw[h2 q];refine and_congr_right λhtq=>?_;obtain⟨h3,h4,h5⟩:=Hw (za8.mpr htq);have e1:p<n+1:=Nat.lt_succ_of_le (le_trans h4 hw);have e2:q<n+1:=Nat.lt_succ_of_le (le_trans h3 hw);refine⟨λh=>?_,λh=>?_⟩
 .rcases h with h|h|⟨h,_⟩|⟨h,_⟩
  .exact .inl (lt_succ_of_lt h)
  .exact .inr (.inl (lt_succ_of_lt h))
  .exact .inl (h▸lt_succ_self _)
  .exact .inr (.inl (h▸lt_succ_self _))
 .have hk:p<i+1\/q<i+1:=by
   rcases h with h|h|⟨h,h'⟩|⟨h,h'⟩
   .exact .inl h
   .exact .inr h
   .exact .inr (Nat.lt_of_le_of_ne (le_of_lt_succ h') λz=>h5 (h.trans z.symm))
   .exact .inl (Nat.lt_of_le_of_ne (le_of_lt_succ h') λz=>h5 (z.trans h.symm))
  rcases hk with h|h
  .exact(Nat.lt_or_eq_of_le (le_of_lt_succ h)).elim .inl λz=>.inr (.inr (.inl ⟨z,e2⟩))
  .exact(Nat.lt_or_eq_of_le (le_of_lt_succ h)).elim (λz=>.inr (.inl z)) λz=>.inr (.inr (.inr ⟨z,e1⟩))
theorem Xf:fJ B w 0 1 λ_=>[]:=λp=>⟨by simp,λq=>by simp only[List.not_mem_nil,false_iff];rintro⟨h,h2⟩;have:=Hw (za8.mpr h);unfold Dn at h2;lia⟩
theorem Wu(hi:w.length<=i)(h:fJ B w i j f):(nb B w p).Perm (f p):=by obtain⟨h1,h2⟩:=h p;refine(List.perm_ext_iff_of_nodup (zcY.imp λh=>by lia) h1).mpr λq=>?_;rw[za8,h2 q];refine⟨λht=>⟨ht,?_⟩,λht=>ht.1⟩;have:=Hw (za8.mpr ht);unfold Dn;lia
theorem Hz:(nb B w p).length<=w.length+1:=by unfold nb;exact le_trans (length_filter_le _ _) (by simp)
def bY(B:List Wd)(w:Wd):List D:=(List.range (w.length+1)).map λp=>D.lst ((nb B w p).map zG)
theorem Ka(h:pre++i::post=List.range n):pre.length=i/\i<n:=by
 have h1:(List.range n)[pre.length]?=some i:=by rw[<-h];simp
 obtain⟨h2,h3⟩:=qh.mp h1;rw[List.getElem_range]at h3;rw[qG]at h2;lia
theorem JU(h:pre++i::post=List.range' a n):i=a+pre.length/\pre.length<n:=by
 have h1:(List.range' a n)[pre.length]?=some i:=by rw[<-h];simp
 obtain⟨h2,h3⟩:=qh.mp h1;rw[List.getElem_range']at h3;rw[List.length_range']at h2;lia
theorem OA(h:fJ B w i j f)(p:Nat):(f p).length<=w.length+1:=by obtain⟨h1,h2⟩:=h p;have:=HV (f p) (nb B w p) h1 λq hq=>za8.mpr ((h2 q).mp hq).1;have:=Hz (B:=B) (w:=w) (p:=p);lia
inductive bQ(R:Nat->Nat->Prop):Nat->Nat->Prop
 |refl (p:Nat):bQ R p p
 |step {p q r:Nat}:bQ R p q->R q r->bQ R p r
theorem bQ.trans{R:Nat->Nat->Prop}(h1:bQ R p q)(h2:bQ R q r):bQ R p r:=by
 induction h2 with
 |refl=>exact h1
 |step _ e ih=>exact .step ih e
theorem bQ.one{R:Nat->Nat->Prop}(h:R p q):bQ R p q:=.step (.refl p) h
theorem bQ.symm{R:Nat->Nat->Prop}(hR:∀p q,R p q->R q p)(h:bQ R p q):bQ R q p:=by
 induction h with
 |refl=>exact .refl _
 |step _ e ih=>exact(bQ.one (hR _ _ e)).trans ih
theorem bQ.mono{R R':Nat->Nat->Prop}(h:∀p q,R p q->R' p q)(c:bQ R p q):bQ R' p q:=by
 induction c with
 |refl=>exact .refl _
 |step _ e ih=>exact .step ih (h _ _ e)
structure bP(R:Nat->Nat->Prop)(L:Nat->Nat):Prop where
 conn:∀p,bQ R p (L p)
 same:∀p q,R p q->L p=L q
 le:∀p,L p<=p
theorem bP.eq{R:Nat->Nat->Prop}(h:bP R L)(c:bQ R p q):L p=L q:=by
 induction c with
 |refl=>rfl
 |step _ e ih=>exact ih.trans (h.same _ _ e)
theorem bP.zero{R:Nat->Nat->Prop}(hR:∀p q,R p q->R q p)(h:bP R L)(p:Nat):L p=0↔bQ R 0 p:=by
 have h0:L 0=0:=by have:=h.le 0;lia
 constructor
 .intro e;have:=h.conn p;rw[e]at this;exact this.symm hR
 .intro c;rw[<-h.eq c,h0]
theorem zgc:bP (λ_ _=>False) λp=>p:=⟨λp=>.refl p,λ_ _ h=>h.elim,λp=>zd p⟩
def gE(L:Nat->Nat)(i j:Nat):Nat->Nat:=λp=>if L p=max (L i) (L j)then min (L i) (L j)else L p
theorem Vo{R R':Nat->Nat->Prop}{L:Nat->Nat}{i j:Nat}(hR:∀p q,R' p q->R' q p)(hsub:∀p q,R p q->R' p q)(hij:R' i j)(hall:∀p q,R' p q->R p q\/(p=i/\q=j)\/(p=j/\q=i))(h:bP R L):bP R' (gE L i j) where
 conn p:=by
  unfold gE;split
  .rename_i e;have cp:bQ R' p (L p):=(h.conn p).mono hsub;have ci:bQ R' i (L i):=(h.conn i).mono hsub;have cj:bQ R' j (L j):=(h.conn j).mono hsub;have cij:bQ R' (L i) (L j):=(ci.symm hR).trans ((bQ.one hij).trans cj);rw[e]at cp;rcases Nat.le_total (L i) (L j)with hh|hh
   .rw[Nat.max_eq_right hh]at cp;rw[min_eq_left hh];exact cp.trans (cij.symm hR)
   .rw[Nat.max_eq_left hh]at cp;rw[min_eq_right hh];exact cp.trans cij
  .exact(h.conn p).mono hsub
 same p q e:=by
  have key:gE L i j i=gE L i j j:=by unfold gE;split<;>split<;>lia
  rcases hall p q e with e|⟨rfl,rfl⟩|⟨rfl,rfl⟩
  .unfold gE;rw[h.same p q e]
  .exact key
  .exact key.symm
 le p:=by have:=h.le p;unfold gE;split<;>lia
def aY(B:List Wd)(w:Wd)(p q:Nat):Prop:=rG B w p q=true
theorem Ii(p q:Nat)(h:aY B w p q):aY B w q p:=by unfold aY at*;rw[JI];exact h
def mK(pre:List Tr)(p q:Nat):Prop:=∃t∈pre,(t.1=p/\t.2.1=q)\/(t.1=q/\t.2.1=p)
theorem Wo(p q:Nat)(h:mK pre p q):mK pre q p:=by obtain⟨t,ht,h⟩:=h;exact⟨t,ht,h.symm⟩
theorem Uz:mK (eY B w) p q↔aY B w p q:=by
 unfold mK aY rG;rw[or_eq_true];constructor
 .grind[zcs]
 .rintro(h|h)
  .exact⟨(p,q,B.idxOf (eO w p q)),zcs.mpr ⟨h,rfl⟩,.inl ⟨rfl,rfl⟩⟩
  .exact⟨(q,p,B.idxOf (eO w q p)),zcs.mpr ⟨h,rfl⟩,.inr ⟨rfl,rfl⟩⟩
theorem WH(h:bP (mK pre) L):bP (mK (pre++[t])) (gE L t.1 t.2.1):=by
 refine Vo Wo (λp q⟨u,hu,e⟩=>⟨u,qk _ hu,e⟩) ⟨t,by simp,.inl ⟨rfl,rfl⟩⟩ (λp q zq=>?_) h;obtain⟨u,hu,e⟩:=zq;rcases qA.mp hu with z|z
 .exact .inl ⟨u,z,e⟩
 .rw[qw.mp z]at e;rcases e with⟨a,b⟩|⟨a,b⟩
  .exact .inr (.inl ⟨a.symm,b.symm⟩)
  .exact .inr (.inr ⟨b.symm,a.symm⟩)
theorem bP.congr{R R':Nat->Nat->Prop}(h:∀p q,R p q↔R' p q)(k:bP R L):bP R' L:=
 ⟨λp=>(k.conn p).mono λp q e=>(h p q).mp e,λp q e=>k.same p q ((h p q).mpr e),k.le⟩
def fF:List Tr->(Nat->Nat)->Nat->Nat
 |[],L=>L
 |t::r,L=>fF r (gE L t.1 t.2.1)
def fE(B:List Wd)(w:Wd):Nat->Nat:=fF (eY B w) λp=>p
theorem Pl:∀(post pre:List Tr)(L:Nat->Nat),bP (mK pre) L->bP (mK (pre++post)) (fF post L)
 |[],pre,L,h=>by rw[qC];exact h
 |t::r,pre,L,h=>by have:=Pl r (pre++[t]) _ (WH (t:=t) h);rw[qq]at this;exact this
theorem VM(B:List Wd)(w:Wd):bP (aY B w) (fE B w):=by
 have h0:bP (mK []) λp=>p:=zgc.congr λp q=>⟨λh=>h.elim,λ⟨_,h,_⟩=>nomatch h⟩
 exact(Pl (eY B w) [] _ h0).congr λp q=>Uz
def DJ(B:List Wd)(w:Wd):Prop:=bQ (aY B w) 0 w.length
theorem zdj:fE B w w.length=0↔DJ B w:=(VM B w).zero Ii _
theorem Qt:∀(a b:List Tr)(L:Nat->Nat),fF (a++b) L=fF b (fF a L)
 |[],_,_=>rfl
 |t::a,b,L=>Qt a b _
def eX(n:Nat)(f:Nat->Nat):List D:=(List.range (n+1)).map λp=>zG (f p)
theorem VC(h:p<=n):(eX n f)[p]?=some (zG (f p)):=by unfold eX;rw[qI,getElem?_range (by lia)];rfl
theorem NW(h:p<=n):atI (eX n f) (p:Int)=some (.int ((f p:Nat):Int)):=by refine xU (by lia) ?_;rw[qZ];exact VC h
theorem Md{a b:Nat}:(if(b:Int)<(a:Int)then(b:Int)else(a:Int))=((min a b:Nat):Int):=by split<;>lia
theorem Me{a b:Nat}:(if(b:Int)>(a:Int)then(b:Int)else(a:Int))=((max a b:Nat):Int):=by split<;>lia
theorem Rq{x:Int}{l:List Int}:∃m,(x::l).min?=some m/\m∈x::l/\∀y∈x::l,m<=y:=by
 cases e:(x::l).min? with
 |none=>cases List.min?_eq_none_iff.mp e
 |some m=>exact⟨m,rfl,List.min?_mem e,λy hy=>(List.le_min?_iff e).mp (Int.le_refl m) y hy⟩
theorem Tg(p q:Nat)(h:aY B w p q):p<=w.length/\q<=w.length:=by have:=Hw (za8.mpr h);exact⟨this.2.1,this.1⟩
theorem Ru(l:List (List Nat)):cS (l.map D.str)=some l:=by
 induction l with
 |nil=>rfl
 |cons a l ih=>show(cS (l.map D.str)).map (a::·)=_;rw[ih];rfl
theorem XE{l:List (List Nat)}(h:(l.map List.length).sum<=big):iD [] [.lst (l.map D.str)]=some (.sh (.str l.flatten)):=by show(cS (l.map D.str)).bind _=_;rw[Ru];show(if(l.map List.length).sum+l.length*[].length<=big then some (S.sh (.str (eQ [] l)))else none)=_;rw[za (by simpa using h),Pk]
def Kw(D':Ends)(m:Nat)(J:Nat->Env->Prop):Ends:={D' with nx:=λU2=>∃m',m'<m/\J m' U2,ct:=λU2=>∃m',m'<m/\J m' U2,bk:=D'.nx}
def Mk(b:WS)(D':Ends)(m:Nat)(J:Nat->Env->Prop)(k:Bool)(U:Env):Prop:=if k then b (Kw D' m J) U else D'.nx U
def Fp:Mk b D' m J true U=b (Kw D' m J) U:=rfl
def Fq:Mk b D' m J false U=D'.nx U:=rfl
theorem MS(hm:m'<m)(h:J m' U):(Kw D' m J).nx U:=⟨m',hm,h⟩
theorem MN(J:Nat->Env->Prop)(m:Nat)(h0:J m U)(h:∀m U,J m U->c U (Mk b D' m J) D'.ex):gU c b D' U:=⟨J,⟨m,h0⟩,λm U hJ=>h m U hJ⟩
theorem OC{l:List α}(h:0<l.length):∃v,v∈l/\l.getLast?=some v/\atI l (-1)=some v:=by refine⟨l.getLast (qS.mp h),List.getLast_mem _,List.getLast?_eq_some_getLast (qS.mp h),?_⟩;unfold atI ixN;rw[zc (by decide),za (by lia)];show l[((-1:Int)+(l.length:Int)).toNat]?=_;rw[show((-1:Int)+(l.length:Int)).toNat=l.length-1 by lia,qi (by lia),List.getLast_eq_getElem]
inductive Walk(R:Nat->Nat->Prop)(g:Nat):Nat->Nat->Prop
 |zero:Walk R g 0 g
 |step {d p q:Nat}:Walk R g d p->R p q->Walk R g (d+1) q
def aO(R:Nat->Nat->Prop)(g q d:Nat):Prop:=Walk R g d q/\∀d',d'<d->¬Walk R g d' q
section
variable{R:Nat->Nat->Prop}
theorem Walk.inv(h:Walk R g d q):(d=0/\q=g)\/∃e p,d=e+1/\Walk R g e p/\R p q:=by
 cases h with
 |zero=>exact .inl ⟨rfl,rfl⟩
 |step h e=>exact .inr ⟨_,_,rfl,h,e⟩
theorem JP(h:aO R g q d)(k:aO R g q e):d=e:=by
 rcases lt_trichotomy d e with z|z|z
 .exact(k.2 d z h.1).elim
 .exact z
 .exact(h.2 e z k.1).elim
theorem Oc:∀{d:Nat},Walk R g d q->∃e,e<=d/\aO R g q e:=by
 intro d;induction d using Nat.strongRecOn with
 |_ d ih=>
  intro h;by_cases z:∃d',d'<d/\Walk R g d' q
  .obtain⟨d',hd,hw⟩:=z;obtain⟨e,he,hi⟩:=ih d' hd hw;exact⟨e,by lia,hi⟩
  .exact⟨d,zd _,h,λd' hd hw=>z ⟨d',hd,hw⟩⟩
theorem Px:aO R g g 0:=⟨.zero,λd' h=>by lia⟩
theorem Jj(h:aO R g q 0):q=g:=by
 rcases h.1.inv with⟨_,e⟩|⟨_,_,e,_⟩
 .exact e
 .lia
theorem Sf(h:aO R g g d):d=0:=JP h Px
theorem Ih(h:aO R g q (d+1)):∃p,aO R g p d/\R p q:=by
 rcases h.1.inv with⟨e,_⟩|⟨e,p,z,hw,hr⟩
 .lia
 .obtain rfl:d=e:=by lia
  refine⟨p,⟨hw,λd' hd hw'=>h.2 (d'+1) (by lia) (.step hw' hr)⟩,hr⟩
theorem Er(h:Walk R g d q):bQ R g q:=by
 induction h with
 |zero=>exact .refl _
 |step _ e ih=>exact .step ih e
theorem Wv(h:bQ R g q):∃d,Walk R g d q:=by
 induction h with
 |refl=>exact⟨0,.zero⟩
 |step _ e ih=>obtain⟨d,h⟩:=ih;exact⟨d+1,.step h e⟩
theorem za9:bQ R g q↔∃d,aO R g q d:=by
 constructor
 .grind[Wv,Oc]
 .rintro⟨d,h⟩;exact Er h.1
open Classical in
def mN(R:Nat->Nat->Prop)(g q:Nat):Nat:=if h:∃d,aO R g q d then Classical.choose h else 0
theorem Ed(h:aO R g q d):mN R g q=d:=by unfold mN;rw[dif_pos ⟨d,h⟩];exact JP (Classical.choose_spec (⟨d,h⟩:∃d,aO R g q d)) h
structure nT(R:Nat->Nat->Prop)(g:Nat)(L:List (Nat×Nat)):Prop where
 ok:∀t∈L,aO R g t.1 t.2
 nd:(L.map (·.1)).Nodup
theorem nT.at(h:nT R g L)(h1:(q,d)∈L)(h2:aO R g q e):d=e:=JP (h.ok _ h1) h2
structure eD(R:Nat->Nat->Prop)(g:Nat)(L:List (Nat×Nat))(qu:List (Nat×Nat)):Prop where
 right:nT R g L
 sub:∀t∈qu,t∈L
 out:∀t∈L,t∉qu->∀q,R t.1 q->∃e,(q,e)∈L
 up:qu.Pairwise λt u=>t.2<=u.2
 near:∀t r,qu=t::r->∀u∈r,u.2<=t.2+1
 all:∀t r,qu=t::r->∀q e,aO R g q e->e<=t.2->(q,e)∈L
 gin:(g,0)∈L
theorem eD.done(h:eD R g L [])(k:aO R g q d):(q,d)∈L:=by
 induction d generalizing q with
 |zero=>rw[Jj k];exact h.gin
 |succ d ih=>obtain⟨p,hp,hr⟩:=Ih k;obtain⟨e,he⟩:=h.out _ (ih hp) (by simp) q hr;have:=h.right.at he k;rw[<-this];exact he
structure xP(R:Nat->Nat->Prop)(g:Nat)(L qu:List (Nat×Nat))(t:Nat×Nat)(pre:List Nat):Prop where
 right:nT R g L
 tin:t∈L
 sub:∀u∈qu,u∈L
 out:∀u∈L,u∉qu->u≠t->∀q,R u.1 q->∃e,(q,e)∈L
 gone:∀q∈pre,∃e,(q,e)∈L
 up:qu.Pairwise λt u=>t.2<=u.2
 lo:∀u∈qu,t.2<=u.2/\u.2<=t.2+1
 all:∀q e,aO R g q e->e<=t.2->(q,e)∈L
 gin:(g,0)∈L
theorem eD.take{L qu:List (Nat×Nat)}{t:Nat×Nat}(h:eD R g L (t::qu)):xP R g L qu t [] where
 right:=h.right
 tin:=h.sub t (by simp)
 sub u hu:=h.sub u (by simp[hu])
 out u hu hn ht:=h.out u hu (by simp[hn,ht])
 gone:=by simp
 up:=(pairwise_cons.mp h.up).2
 lo u hu:=⟨(pairwise_cons.mp h.up).1 u hu,h.near t qu rfl u hu⟩
 all q e hq he:=h.all t qu rfl q e hq he
 gin:=h.gin
theorem xP.skip(h:xP R g L qu t pre)(hq:(q,e)∈L):xP R g L qu t (pre++[q]):=
 ⟨h.right,h.tin,h.sub,h.out,λx hx=>(qA.mp hx).elim (h.gone x) λz=>⟨e,by rw[qw.mp z];exact hq⟩,h.up,h.lo,h.all,h.gin⟩
theorem xP.put(h:xP R g L qu t pre)(hr:R t.1 q)(hn:∀e,(q,e)∉L):xP R g (L++[(q,t.2+1)]) (qu++[(q,t.2+1)]) t (pre++[q]):=by
 have hd:aO R g q (t.2+1):=by refine⟨.step (h.right.ok t h.tin).1 hr,λd' hd' hw=>?_⟩;obtain⟨e,he,hi⟩:=Oc hw;exact hn e (h.all q e hi (by lia))
 refine⟨⟨λu hu=>?_,?_⟩,qk _ h.tin,λu hu=>?_,λu hu hnu hut=>?_,λx hx=>?_,?_,λu hu=>?_,λx e hx he=>qk _ (h.all x e hx he),qk _ h.gin⟩
 .rcases qA.mp hu with z|z
  .exact h.right.ok u z
  .rw[qw.mp z];exact hd
 .rw[map_append];refine qz.mpr ⟨h.right.nd,by simp,λx hx y hy e=>?_⟩;grind
 .rcases qA.mp hu with z|z
  .exact qk _ (h.sub u z)
  .exact qj _ z
 .rcases qA.mp hu with z|z
  .intro x hx;obtain⟨e,he⟩:=h.out u z (λk=>hnu (qk _ k)) hut x hx;exact⟨e,qk _ he⟩
  .exact(hnu (qj _ z)).elim
 .rcases qA.mp hx with z|z
  .obtain⟨e,he⟩:=h.gone x z;exact⟨e,qk _ he⟩
  grind
 .refine pairwise_append.mpr ⟨h.up,by simp,λx hx y hy=>?_⟩;rw[qw.mp hy];exact(h.lo x hx).2
 .rcases qA.mp hu with z|z
  .exact h.lo u z
  grind
theorem xP.queue(h:xP R g L qu t l)(hl:∀q,R t.1 q->q∈l):eD R g L qu:=by
 have hout:∀u∈L,u∉qu->∀q,R u.1 q->∃e,(q,e)∈L:=λu hu hn q hq=>by
  by_cases e:u=t
  .subst e;exact h.gone q (hl q hq)
  .exact h.out u hu hn e q hq
 refine⟨h.right,h.sub,hout,h.up,λt' r e u hu=>?_,λt' r e q d hq hd=>?_,h.gin⟩
 .subst e;have h1:=h.lo u (by simp[hu]);have h2:=h.lo t' (by simp);lia
 .subst e;have h2:=h.lo t' (by simp);rcases lt_or_ge t.2 d with z|z
  .obtain⟨k,rfl⟩:∃k,d=k+1:=⟨d-1,by lia⟩
   obtain⟨p,hp,hr⟩:=Ih hq;have hpL:=h.all p k hp (by lia)
   --p was taken out,or it is in the queue with less than the first has
   by_cases hm:(p,k)∈t'::r
   .have h3:=h.lo _ hm;have h4:t'.2<=k:=by
     rcases qD.mp hm with z2|z2
     .rw[<-z2];exact zd _
     .exact(pairwise_cons.mp h.up).1 _ z2
    lia
   .obtain⟨e,he⟩:=hout _ hpL hm q hr;have:=h.right.at he hq;rw[<-this];exact he
  .exact h.all q d hq z
theorem eD.start:eD R g [(g,0)] [(g,0)] where
 right:=⟨λt ht=>by rw[qw.mp ht];exact Px,by simp⟩
 sub t ht:=ht
 out t ht hn:=(hn ht).elim
 up:=by simp
 near t r e u hu:=by
  injection e with _ e
  rw[<-e]at hu;cases hu
 all t r e q d hq hd:=by grind[Jj]
 gin:=by simp
end
def bR(L:List (Nat×Nat)):List D:=L.map λt=>zG t.1
def mV(L:List (Nat×Nat)):List D:=L.map λt=>zG t.2
theorem JH(h:zG a=zG b):a=b:=by
 unfold zG at h;injection h with h
 lia
theorem zfQ{q:Nat}:D.int (q:Int)∈bR L↔∃d,(q,d)∈L:=by
 unfold bR;rw[qN];constructor
 .rintro⟨t,ht,e⟩;exact⟨t.2,by rw[<-JH (a:=t.1) (b:=q) e];exact ht⟩
 .rintro⟨d,hd⟩;exact⟨(q,d),hd,rfl⟩
theorem TQ(h:(L.map (·.1)).Nodup):(bR L).Nodup:=by
 unfold bR;have:(L.map λt=>zG t.1)=(L.map (·.1)).map zG:=by rw[qH];rfl
 rw[this,List.Nodup,pairwise_map];exact h.imp λhab e=>hab (JH e)
open Classical in
theorem Ol{q:Nat}:iJ (.int (q:Int)) (.dct false (bR L) vs)=some (decide (∃d,(q,d)∈L)):=by show wV (.int (q:Int)) (.dct false (bR L) vs)=_;show(if bZ false (.int (q:Int))then some (decide (D.int (q:Int)∈bR L))else none)=_;rw[za (show bZ false (.int (q:Int))=true from rfl)];congr 1;exact decide_eq_decide.mpr zfQ
open Classical in
theorem NK{L:List (Nat×Nat)}{vs:List D}{q:Nat}(h:∃d,(q,d)∈L):wV (.int (q:Int)) (.dct false (bR L) vs)=some true:=by have:=Ol (L:=L) (vs:=vs) (q:=q);rw[qU h]at this;exact this
open Classical in
theorem Nf{L:List (Nat×Nat)}{vs:List D}{q:Nat}(h:¬∃d,(q,d)∈L):wV (.int (q:Int)) (.dct false (bR L) vs)=some false:=by have:=Ol (L:=L) (vs:=vs) (q:=q);rw[qV h]at this;exact this
open Classical in
theorem Jx{f:Nat->α}:∀{L:List (Nat×Nat)}{q d:Nat},(L.map (·.1)).Nodup->(q,d)∈L->lk (bR L) (L.map λt=>f t.2) (.int (q:Int))=some (f d)
 |[],_,_,_,h=>nomatch h
 |t::L,q,d,hn,h=>by
  show(if zG t.1=.int (q:Int)then some (f t.2)else lk (bR L) (L.map λt=>f t.2) (.int (q:Int)))=_;rw[qB,qO]at hn;rcases qD.mp h with e|h
  .rw[<-e,za (show zG (q,d).1=.int (q:Int) from rfl)]
  .have hne:¬zG t.1=.int (q:Int):=λe=>hn.1 (by rw[JH (a:=t.1) (b:=q) e];exact qN.mpr ⟨_,h,rfl⟩);rw[zc hne];exact Jx hn.2 h
theorem Vs{L:List (Nat×Nat)}{l:List S}{q:Nat}{s:S}(h:∀d,(q,d)∉L):fH false (bR L) l (.int (q:Int)) s=.dct false (bR L++[.int (q:Int)]) (l++[s]):=by
 unfold fH;have:tS (bR L) (.int (q:Int))=none:=by unfold tS;rw[List.findIdx?_eq_none_iff];intro x hx;rw[decide_eq_false_iff_not];intro e;subst e;obtain⟨d,hd⟩:=zfQ.mp hx;exact h d hd
 rw[this]
def bU(B:List Wd)(w:Wd)(p:Nat):Nat:=(((nb B w p).filter λq=>decide (mN (aY B w) w.length q+1=mN (aY B w) w.length p)).head?).getD p
def gJ(B:List Wd)(w:Wd):Nat->Nat->List Nat
 |0,p=>[p]
 |d+1,p=>p::gJ B w d (bU B w p)
theorem HN:atI (l++[x]) (-1)=some x:=by obtain⟨v,_,h1,h2⟩:=OC (l:=l++[x]) (by simp);grind
theorem VO(h:(x::l).Pairwise (·<·)):((x::l).map λq=>((q:Nat):Int)).min?=some ((x:Nat):Int):=by rw[qB];obtain⟨m,em,hm,hle⟩:=Rq (x:=((x:Nat):Int)) (l:=l.map λq=>((q:Nat):Int));grind[mem_cons_self,mem_cons,mem_map,pairwise_cons.mp]
theorem Wk(h:aO (aY B w) w.length p (d+1)):∃r,((nb B w p).filter λq=>decide (mN (aY B w) w.length q+1=mN (aY B w) w.length p))=bU B w p::r/\aO (aY B w) w.length (bU B w p) d:=by
 obtain⟨q,hq,hr⟩:=Ih h;have hm:q∈(nb B w p).filter λq=>decide (mN (aY B w) w.length q+1=mN (aY B w) w.length p):=by rw[mem_filter];exact⟨za8.mpr (Ii _ _ hr),qU (by rw[Ed hq,Ed h])⟩
 cases e:(nb B w p).filter λq=>decide (mN (aY B w) w.length q+1=mN (aY B w) w.length p)with
 |nil=>rw[e]at hm;cases hm
 |cons x r=>
  have hx:bU B w p=x:=by unfold bU;rw[e];rfl
  rw[hx];refine⟨r,rfl,?_⟩;have hxm:x∈(nb B w p).filter λq=>decide (mN (aY B w) w.length q+1=mN (aY B w) w.length p):=by rw[e];simp
  obtain⟨h1,h2⟩:=mem_filter.mp hxm;have h2:=qX h2;obtain⟨k,hk⟩:=za9.mp ((Er h.1).step (za8.mp h1));rw[Ed hk,Ed h]at h2;obtain rfl:k=d:=by lia
  exact hk
theorem Os{R:Nat->Nat->Prop}:∀{d p:Nat},aO R g p d->∀k,k<=d->∃q,aO R g q k
 |0,p,h,k,hk=>by
  obtain rfl:k=0:=by lia
  exact⟨p,h⟩
 |d+1,p,h,k,hk=>by
  rcases lt_or_ge d k with z|z
  .obtain rfl:k=d+1:=by lia
   exact⟨p,h⟩
  .obtain⟨q,hq,_⟩:=Ih h;exact Os hq k z
theorem UK{R:Nat->Nat->Prop}(hq:eD R g L [])(hd:aO R g p d):d+1<=L.length:=by
 have:=HV (List.range (d+1)) (L.map (·.2)) nodup_range λk hk=>by obtain⟨q,h⟩:=Os hd k (by have:=qM.mp hk;lia);exact qN.mpr ⟨(q,k),hq.done h,rfl⟩
 rw[qG,qp]at this;exact this
end FL
noncomputable section
namespace Law
open FL
def uK:WB:=bS 2 (dS (zr (zp 3) (zr (zC aQ (zp 3) (wB aW (zr (zp 5) zt))) (zr (zp 4) zt))))
def BU:=uB uK.eq_1
def uJ:WB:=tF (uN (zp 0)) (dI [zu 4,zu 5]) (aV gB (gV (zp 1) (some (zp 3)) (some (zC aQ (zp 3) (wB aW (zr (zp 5) zt))))) (zp 5)) uK
def BS:=uB uJ.eq_1
def KE:WF:=iA 2 2 [0,1]
 (bT (wB eL (zr (lY 2 3 (aZ (wB aW (zr (zp 1) zt))) (zu 3) eV uJ) zt)))
def uF:WB:=bS 5 (BJ (aV gB (zp 6) (zp 4)) (zp 3) (zp 6))
def BP:=uB uF.eq_1
def KB:WF:=iA 3 5 [0,1,2]
 (zD (zF (dI [zu 3,zu 4]) (dS (zr (wB wX (zr (fL (zp 0) (zp 1)) (zr (fL (zp 0) (zp 2)) zt))) (zr (wB wY (zr (fL (zp 0) (zp 1)) (zr (fL (zp 0) (zp 2)) zt))) zt))))
  (bT (lY 5 1 (dJ (zp 0)) (zu 6) eV uF)))
def uE:WB:=bS 2 (zp 3)
def BO:=uB uE.eq_1
def KA:WF:=iA 2 2 [0,1]
 (bT (zC aQ (zp 0) (wB eK (zr (lY 2 1 (dJ (zp 1)) (zu 3) (aV dQ (zp 3) (zp 0)) uE) zt))))
def uC:WB:=wZ 1 (dS (zr (zC fB (zp 3) (zp 2)) (zr (gV (zp 0) (some (zp 2)) (some (zp 3))) zt)))
def BM:=uB uC.eq_1
def uA:WB:=tF (gK (zC aQ (zp 2) (wC (.int 1))) (zC aQ (wB aW (zr (zp 0) zt)) (wC (.int 1)))) (zu 3) eV uC
def BL:=uB uA.eq_1
def Ky:WF:=iA 1 1 [0]
 (bT (wB eL (zr (KF (.set []) 1 2 (aZ (wB aW (zr (zp 0) zt))) (zu 2) eV uA) zt)))
def Kx:WF:=iA 2 4 [0,1]
 (zD (zF (zu 2) (zC aQ (zC eA (wC (.int 7919)) (zp 1)) (wC (.int 11))))
  (zD (gW (aV IS (zp 1) (wB aW (zr (zp 0) zt))) (zF (zu 2) (fL (zp 0) (zp 1))) (gW (aV AC (wB aW (zr (zp 0) zt)) (wC (.int 0))) (zF (zu 2) (zC aQ (zp 2) (zC eA (zC iH (fL (zp 0) (zC iH (zp 1) (wB aW (zr (zp 0) zt)))) (wC (.int 2147483629))) (wC (.int 69623))))) bF))
  (zD (zF (zu 3) (zC aQ (zC iH (zC aQ (zC eA (zC iH (zp 2) (wC (.int 2147483629))) (wC (.int 48271))) (zC eA (wC (.int 40692)) (zp 1))) (wC (.int 2147483629))) (wC (.int 1))))
  (bT (eS (zr (fL (eS (zr (wC (.int 0)) (zr (zp 2) zt))) (wB tE (zr (lX (aV Ey (zp 2) (zC vM (wC (.int 10)) (wC (.int 18))))) zt))) (zr (zp 3) zt)))))))
def hW:WF:=iA 2 4 [0,1]
 (zD (gW (aV AC (fL (zp 0) (wC (.int 0))) (wC (.int 0))) (zD (zF (zu 2) (zC iH (fL (zp 0) (wC (.int 0))) (zp 1)))
  (zD (iU 0 (wC (.int 0)) (zC lE (fL (zp 0) (wC (.int 0))) (zp 1)))
  (bT (zp 2)))) bF)
  (zD (zF (zu 3) (zC iH (zC eA (fL (zp 0) (wC (.int 1))) (wC (.int 69623))) (wC (.int 2147483647))))
  (zD (iU 0 (wC (.int 1)) (zC aQ (zC iH (zC aQ (zC eA (zp 3) (wC (.int 48271))) (wC (.int 30103))) (wC (.int 2147483629))) (wC (.int 1))))
  (bT (zC iH (zC lE (zC aQ (zC eA (zp 3) (wC (.int 2147483647))) (fL (zp 0) (wC (.int 1)))) (wC (.int 8191))) (zp 1))))))
def pY:WS:=zD (gW (fW (aV gB (gV (zp 1) (some (zp 2)) (some (zC aQ (zp 2) (wB aW (zr (zp 5) zt))))) (gV (zp 5) none (some (zC fB (wB aW (zr (zp 1) zt)) (zp 2))))) (aV IT (zC aQ (zp 2) (wB aW (zr (zp 5) zt))) (zp 3))) (wExpr (cQ 4 (dS (zr (zp 5) (zr (zC aQ (zp 2) (wB aW (zr (zp 5) zt))) zt))))) bF)
  (gW (fW (aV Ey (zp 2) (wB aW (zr (zp 5) zt))) (aV gB (gV (zp 1) (some (zC fB (zp 2) (wB aW (zr (zp 5) zt)))) (some (zp 2))) (zp 5))) (wExpr (cQ 4 (dS (zr (zp 5) (zr (zC fB (zp 2) (wB aW (zr (zp 5) zt))) zt))))) bF)
def yS:=uS pY.eq_1
def BE:WF:=iA 4 6 [0,1,2,3]
 (zD (zF (zu 4) (eS zt))
  (zD (iG (dJ (zp 0)) (zu 5) pY)
  (bT (zp 4))))
def pT:WB:=bS 5 (eS zt)
def yO:=uB pT.eq_1
def pV:WS:=gW (aV iJ (gV (zp 1) (some (zp 3)) (some (zp 4))) (zp 0)) (zD (wExpr (dY 2 (zp 3) (zp 4)))
  (wExpr (dY 2 (zp 4) (zp 3)))) bF
def yQ:=uS pV.eq_1
def pU:WS:=iG (gK (zC aQ (zp 3) (wC (.int 1))) (zC aQ (wB aW (zr (zp 1) zt)) (wC (.int 1)))) (zu 4) pV
def yP:=uS pU.eq_1
def pS:WB:=bS 5 (eW (wB eL (zr (zp 6) zt)))
def yN:=uB pS.eq_1
def yC:WF:=iA 2 5 [0,1]
 (zD (zF (zu 2) (lY 5 1 (aZ (zC aQ (wB aW (zr (zp 1) zt)) (wC (.int 1)))) (zu 6) eV pT))
  (zD (iG (aZ (wB aW (zr (zp 1) zt))) (zu 3) pU)
  (bT (lY 5 1 (dJ (zp 2)) (zu 6) eV pS))))
def pR:WS:=gW (aV dQ (zp 5) (zp 2)) (zD (uO 2 (zp 5) (zC aQ (uM (zp 2) (zp 4)) (wC (.int 1))))
  (wExpr (cQ 3 (zp 5)))) bF
def rE:=uS pR.eq_1
def lU:WS:=zD (zF (zu 4) (eW (iV 3 (wC (.int 0)))))
  (iG (dJ (fL (zp 0) (zp 4))) (zu 5) pR)
def yM:=uS lU.eq_1
def pQ:WB:=bS 7 (zp 8)
def rD:=uB pQ.eq_1
def lT:WS:=wExpr (cQ 6 (eW (wB sJ (zr (lY 7 1 (dJ (fL (zp 0) (fL (zp 6) (BI nE (wC (.int 1)))))) (zu 8) (aV gB (uM (zp 2) (zp 8)) (zC fB (uM (zp 2) (fL (zp 6) (BI nE (wC (.int 1))))) (wC (.int 1)))) pQ) zt))))
def yL:=uS lT.eq_1
def BC:WF:=iA 2 7 [0,1]
 (zD (zF (zu 2) (oE (zC fB (wB aW (zr (zp 0) zt)) (wC (.int 1))) (wC (.int 0))))
  (zD (zF (zu 3) (eS (zr (zC fB (wB aW (zr (zp 0) zt)) (wC (.int 1))) zt)))
  (zD (gU (aV gF (zp 3) (eS zt)) lU)
  (zD (gW (aV dQ (zp 1) (zp 2)) (bT (dS zt)) bF)
  (zD (zF (zu 6) (eS (zr (zp 1) zt)))
  (zD (gU (aV gF (fL (zp 6) (BI nE (wC (.int 1)))) (zC fB (wB aW (zr (zp 0) zt)) (wC (.int 1)))) lT)
  (bT (wB eK (zr (zp 6) zt)))))))))
def uG:WS:=zF (zu 2) (eW (zE KB [true,true,true] (zr (zp 2) (zr (zp 3) (zr (zp 4) zt)))))
def BQ:=uS uG.eq_1
def KC:WF:=iA 2 5 [0,1]
 (zD (zF (zu 2) (eW (wB hV (zr (zp 0) zt))))
  (zD (iG (dJ (zp 1)) (dI [zu 3,zu 4]) uG)
  (bT (wB eK (zr (zp 2) zt)))))
def lW:WB:=bS 3 (eW (iV 2 (zE hW [true,true] (zr (zp 0) (zr (wB aW (zr (zp 2) zt)) zt)))))
def yV:=uB lW.eq_1
def BH:WF:=iA 2 3 [0,1]
 (zD (zF (zu 2) (wB hV (zr (wC (.str [97,98,99,100,101,102,103,104,105,106,107,108,109,110,111,112,113,114,115,116,117,118,119,120,121,122])) zt)))
  (bT (AR iD (wC (.str [])) (zr (wB eL (zr (lY 3 1 (aZ (zp 1)) (zu 4) eV lW) zt)) zt))))
def lV:WB:=bS 4 (fL (zp 1) (zE hW [true,true] (zr (zp 0) (zr (wB aW (zr (zp 1) zt)) zt))))
def yU:=uB lV.eq_1
def yD:WF:=iA 3 4 [0,1,2]
 (zD (zF (zu 3) (zC eA (zE hW [true,true] (zr (zp 0) (zr (zC aQ (zp 2) (wC (.int 1))) zt))) (wB tE (zr (lX (aV gF (zp 1) (wC (.str [])))) zt))))
  (bT (AR iD (wC (.str [])) (zr (lY 4 1 (aZ (zp 3)) (zu 5) eV lV) zt))))
def BG:WF:=iA 3 7 [0,1,2]
 (zD (zF (zu 3) (fL (zp 2) (zE hW [true,true] (zr (zp 0) (zr (wB aW (zr (zp 2) zt)) zt)))))
  (zD (zF (zu 4) (zE hW [true,true] (zr (zp 0) (zr (wC (.int 5)) zt))))
  (zD (zF (zu 5) (fL (zp 1) (zE hW [true,true] (zr (zp 0) (zr (wB aW (zr (zp 1) zt)) zt)))))
  (zD (zF (zu 6) (zE hW [true,true] (zr (zp 0) (zr (wB aW (zr (zp 3) zt)) zt))))
  (bT (fL (eS (zr (gV (zp 3) none (some (zC aQ (zp 6) (wC (.int 1))))) (zr (gV (zp 3) (some (zp 6)) none) (zr (zC aQ (zp 5) (zp 3)) (zr (zC aQ (zp 3) (zp 5)) (zr (zC aQ (zp 3) (zp 3)) zt)))))) (zp 4)))))))
def pW:WB:=bS 11 (zp 12)
def rF:=uB pW.eq_1
def pX:WS:=zD (zF (zu 7) (eW (zE BE [true,true,true,true] (zr (zp 1) (zr (zp 4) (zr (zp 5) (zr (zp 3) zt)))))))
  (zD (gW (aV AC (zp 6) (wC (.int 4))) (IC 7 (zF (zu 7) (lY 11 1 (dJ (zp 7)) (zu 12) (aV AC (fL (zp 12) (wC (.int 1))) (zp 5)) pW))) bF)
  (gW (aV gF (zp 7) (eS zt)) (zD (zF (dI [zu 8,zu 9]) (fL (zp 7) (zE hW [true,true] (zr (zp 0) (zr (wB aW (zr (zp 7) zt)) zt)))))
  (zD (gW (aV AC (zp 9) (zp 5)) (zF (zu 4) (zC aQ (zC aQ (gV (zp 4) none (some (zp 5))) (zp 8)) (gV (zp 4) (some (zp 9)) none))) bF)
  (zF (zu 5) (zp 9)))) bF))
def yR:=uS pX.eq_1
def BD:WF:=iA 4 11 [0,1,2,3]
 (zD (zF (dI [zu 4,zu 5]) (dS (zr (wC (.str [])) (zr (wC (.int 0)) zt))))
  (zD (iG (aZ (zC aQ (wC (.int 1)) (zE hW [true,true] (zr (zp 0) (zr (wC (.int 9)) zt))))) (zu 6) pX)
  (zD (gW (fW (aV gF (zp 4) (wC (.str []))) (aV gB (zE hW [true,true] (zr (zp 0) (zr (wC (.int 5)) zt))) (wC (.int 0)))) (zD (zF (zu 10) (zE hW [true,true] (zr (zp 0) (zr (wB aW (zr (zp 4) zt)) zt))))
  (zF (zu 4) (zC aQ (zC aQ (gV (zp 4) none (some (zp 10))) (fL (zp 2) (zE hW [true,true] (zr (zp 0) (zr (wB aW (zr (zp 2) zt)) zt))))) (gV (zp 4) (some (zC aQ (zp 10) (wC (.int 1)))) none)))) bF)
  (bT (zp 4)))))
def yB:WF:=iA 2 2 [0,1]
 (bT (lX (aV gF (zE BC [true,true] (zr (eW (zE yC [true,true] (zr (zp 0) (zr (zp 1) zt)))) (zr (wC (.int 0)) zt))) (dS zt))))
def uI:WB:=bS 2 (dS (zr (zp 3) (zr (zp 4) zt)))
def BR:=uB uI.eq_1
def KD:WF:=iA 2 2 [0,1]
 (bT (zE KC [true,true] (zr (uL (aZ (zC aQ (wB aW (zr (zp 1) zt)) (wC (.int 1))))) (zr (eW (lY 2 3 (dJ (zE KE [true,true] (zr (zp 0) (zr (zp 1) zt)))) (dI [zu 3,zu 4,zu 5]) eV uI)) zt))))
def pZ:WS:=zD (zF (zu 6) (zC aQ (fL (zp 1) (zE hW [true,true] (zr (zp 0) (zr (wB aW (zr (zp 1) zt)) zt)))) (zE yD [true,true,true] (zr (zp 0) (zr (zp 1) (zr (zC fB (zp 3) (wC (.int 1))) zt))))))
  (zD (gW (fW (aV gF (zp 4) (eS zt)) (aV gB (zE hW [true,true] (zr (zp 0) (zr (wC (.int 2)) zt))) (wC (.int 0)))) (zF (zu 6) (gV (zE BG [true,true,true] (zr (zp 0) (zr (zp 1) (zr (zp 4) zt)))) none (some (zp 3)))) bF)
  (gW (aV dQ (zp 6) (zp 4)) (wExpr (cQ 4 (zp 6))) bF))
def yT:=uS pZ.eq_1
def BF:WF:=iA 4 7 [0,1,2,3]
 (zD (zF (zu 4) (eS zt))
  (zD (iG (aZ (zC eA (zE hW [true,true] (zr (zp 0) (zr (zC aQ (zp 2) (wC (.int 1))) zt))) (wB tE (zr (lX (aV gF (zp 1) (wC (.str [])))) zt)))) (zu 5) pZ)
  (bT (wB eK (zr (zp 4) zt)))))
def pN:WB:=bS 4 (gV (zp 1) (some (zp 5)) (some (zC aQ (zp 5) (zp 2))))
def yH:=uB pN.eq_1
def pP:WS:=gW (kS (zE yB [true,true] (zr (zC aQ (wB eK (zr (zp 0) zt)) (dS (zr (zp 3) zt))) (zr (zp 1) zt)))) (bT (zp 3)) bF
def yJ:=uS pP.eq_1
def pO:WS:=iG (dJ (wB eL (zr (wB AE (zr (lY 4 1 (aZ (zC aQ (zC fB (wB aW (zr (zp 1) zt)) (zp 2)) (wC (.int 1)))) (zu 5) eV pN) zt)) zt))) (zu 3) pP
def yI:=uS pO.eq_1
def BA:WF:=iA 2 4 [0,1]
 (zD (gW (kS (zE yB [true,true] (zr (zp 0) (zr (zp 1) zt)))) (bT (wC .non)) bF)
  (zD (iG (gK (wC (.int 1)) (zC aQ (wB aW (zr (zp 1) zt)) (wC (.int 1)))) (zu 2) pO)
  (bT (zp 1))))
def IB:WF:=iA 2 2 [0,1]
 (bT (lX (aV gB (fL (zE KD [true,true] (zr (zp 0) (zr (zp 1) zt))) (BI nE (wC (.int 1)))) (wC (.int 0)))))
def lS:WB:=bS 7 (fL (zp 4) (zE hW [true,true] (zr (zp 0) (zr (wB aW (zr (zp 4) zt)) zt))))
def yK:=uB lS.eq_1
def BB:WF:=iA 3 7 [0,1,2]
 (zD (zF (zu 3) (zE BH [true,true] (zr (zp 0) (zr (zC aQ (wC (.int 1)) (zE hW [true,true] (zr (zp 0) (zr (zp 1) zt)))) zt))))
  (zD (zF (zu 4) (eW (zE BF [true,true,true,true] (zr (zp 0) (zr (zp 3) (zr (wC (.int 6)) (zr (zp 2) zt)))))))
  (zD (zF (zu 5) (zE hW [true,true] (zr (zp 0) (zr (wC (.int 5)) zt))))
  (zD (zF (zu 6) (eW (zE BD [true,true,true,true] (zr (zp 0) (zr (zp 4) (zr (zp 3) (zr (wC (.int 12)) zt)))))))
  (zD (gW (aV gB (zp 5) (wC (.int 0))) (zF (zu 6) (zE yD [true,true,true] (zr (zp 0) (zr (zp 3) (zr (wC (.int 12)) zt))))) bF)
  (zD (gW (fW (aV gB (zp 5) (wC (.int 1))) (aV gF (zp 4) (dS zt))) (zF (zu 6) (gV (AR iD (wC (.str [])) (zr (lY 7 1 (aZ (zE hW [true,true] (zr (zp 0) (zr (wC (.int 5)) zt)))) (zu 8) eV lS) zt)) none (some (wC (.int 12))))) bF)
  (bT (dS (zr (zp 4) (zr (zp 6) (zr (zp 3) zt)))))))))))
def uD:WB:=bS 3 (zp 5)
def BN:=uB uD.eq_1
def Kz:WF:=iA 2 3 [0,1]
 (zD (gW (kS (zE IB [true,true] (zr (zp 0) (zr (zp 1) zt)))) (bT (wC .non)) bF)
  (zD (IC 2 (zF (zu 2) (lY 3 2 (dJ (zE Ky [true] (zr (zp 1) zt))) (dI [zu 4,zu 5]) (kS (zE IB [true,true] (zr (eW (zE KA [true,true] (zr (zp 0) (zr (dS (zr (zp 5) zt)) zt)))) (zr (zp 1) zt)))) uD)))
  (bT (fL (zp 2) (wC (.int 0))))))
def Bz:WF:=iA 2 2 [0,1]
 (bT (lX (iO true (zE Kz [true,true] (zr (zp 0) (zr (zp 1) zt))) (zE BA [true,true] (zr (zp 0) (zr (zp 1) zt))))))
def pM:WS:=zD (zF (zu 3) (zE Kx [true,true] (zr (zp 0) (zr (zp 2) zt))))
  (zD (zF (dI [zu 4,zu 5,zu 6]) (zE BB [true,true,true] (zr (zp 3) (zr (wC (.int 5)) (zr (wC (.int 6)) zt)))))
  (zD (gW (fW (aV gF (zp 5) (wC (.str []))) (aV gB (zE hW [true,true] (zr (zp 3) (zr (wC (.int 2)) zt))) (wC (.int 0)))) (zD (zF (zu 7) (zE hW [true,true] (zr (zp 3) (zr (wB aW (zr (zp 5) zt)) zt))))
  (zF (zu 5) (zC aQ (zC aQ (gV (zp 5) none (some (zp 7))) (fL (zp 6) (zE hW [true,true] (zr (zp 3) (zr (wB aW (zr (zp 6) zt)) zt))))) (gV (zp 5) (some (zC aQ (zp 7) (wC (.int 1)))) none)))) bF)
  (zF (zu 1) (eW (zC aQ (zp 1) (eS (zr (dS (zr (zp 4) (zr (zp 5) zt))) (zr (dS (zr (gV (zp 4) (some (wC (.int 1))) (some (wC (.int 5)))) (zr (zp 5) zt))) zt))))))))
def yG:=uS pM.eq_1
def pK:WB:=bS 8 (eW (zE Bz [true,true] (zr (zp 9) (zr (zp 10) zt))))
def yF:=uB pK.eq_1
def uH:WF:=iA 1 8 [0]
 (zD (zF (zu 1) (eW (eS zt)))
  (zD (iG (aZ (wB wY (zr (wC (.int 3)) (zr (wB wX (zr (wB aW (zr (zp 0) zt)) (zr (wC (.int 6)) zt))) zt)))) (zu 2) pM)
  (bT (wB AF (zr (lY 8 2 (dJ (zC aQ (zp 1) (gV (zp 1) none (some (wC (.int 1)))))) (dI [zu 9,zu 10]) eV pK) zt)))))
end Law
end
end
namespace Law
open FL
variable{P:S->List S->Prop}{PX:D->List S->Prop}
set_option hygiene false in
local macro_rules
 |`(tactic|simp! [$xs,*] $[$l:location]?)=>do
  let ls<-("e_C e_V zpH zlQ zlX e_Un zoy zoQ e_Ck zpv znu zlB zmf zkj zkd zqb zmm zma zpd zmD zn3 zlG znc zou znb zkI zkM zp1 e_gA zqu zon e_gv e_gl zqw zpJ zlT zmp zoh zmP znd e_l0 e_l1 e_l2 e_l3 e_l5 e_vv e_vl e_cv e_cl zm2 e_sh zar zpI e_Ix zpP zpn znw zln zol zow zoq zn0 zp4 zqj zpX zoR zoE zqr zoA e_p0 e_pv e_pl zqe e_pA e_b0 e_bv e_bl znv zk6 zkl zlW znN e_vA zpf e_B e_B1 e_B2 e_MS zpi zp6 e_Ap zoL zpp zps zp9 zot zm7 zmt e_Di znP znS zod zmH zoa e_Pt zqv zpo e_Sl zqo zp3 zoB zp7 e_nx e_rt e_ex zmL zog e_If zpq zpM zn2 zmk zkz zpb zlY zms e_gN e_gT znW zo6 zox zoi zqf zng zls zmK zmd zlk zlb e_Dp zo7 znF zpw zpY zpy e_It zqs zoY znX znM zpz e_En zpN znR zn4 e_R1 zpG zpe e_R2 zpr zo0 zpx zp5 zlw e_LC zpu zoX zlL zov zlr zo4 e_Em zn9 zo9 zpF e_bF zqq znJ zpk e_Rt zn8 zoC e_Fn e_f0 e_fs e_fl e_fA zoM zmE zm1 zmR zoW zlM znZ zlU zoH znI e_lt e_gt e_le e_ge zns znH zmM zqp zqt zlq zmS zlE zlm zly zlJ zlD znr zoU znT zpg zoG zqg zoO zpm zpa zoc zpQ zpK zoI zpB zor zpC zoS zpS zok zqd zqn zpR zom zob zpU zo1 zoK zph zqi zpO zqh znL zpl znG znK zqc zp8 zoe zpj zql zoo zlz zlO zlx znm zl5 zl6 zlV znq zml zlA zmQ zm9 zpc zpA znQ zm5 e_AA zoV zo2 zn7 zpV zo3 zo5 znj zl2 zqm zmN zmG znO e_XA zpT zoJ znU zoT zgq e_TI zo8 e_Re zpD zp0 zn6 zoF znt e_CM zos e_Ad zoz zoZ zop zny zlt zlp zpW map_some S.toD_sh S.toD_lst qB map_nil qR nil_append List.replicate_succ List.replicate_zero Nat.reduceSub Nat.reduceAdd qC List.take_succ_cons take_zero true_and S.toDs_map S.toD_dct Int.reduceEq Int.reduceLT Int.reduceLE decide_true decide_false Bool.not_true Bool.not_false".splitOn " ").toArray.mapM λn=>`(Lean.Parser.Tactic.simpLemma|$(Lean.mkIdent n.toName):ident)
  let ls:=ls++xs.getElems
  `(tactic|simp -implicitDefEqProofs (disch:=first|omega|decide|rfl|(simp only[qp,qr,qv,qy,qG,dD];omega)|(simp only[qp,qr,qv,qy,qG,dD];done)) only[$ls,*] $[$l:location]?)
noncomputable section pu
def aX(a s:Int):S:=.lst [.sh (.int a),.sh (.int s)]
theorem kK{a s m:Int}(ha:0<=a)(hs:1<=s)(hs2:s<=2147483629)(hm:0<m)(hm2:m<18446744073709551616)
  (h:∀r a' s',0<=r->r<m->0<=a'->1<=s'->s'<=2147483629->P (.sh (.int r)) [aX a' s',.sh (.int m)]):hW [aX a s,.sh (.int m)] P PX:=by
 refine iS rfl rfl ?_;simp! [aX];cases hc:decide (0<a)
 .simp! [e_C];exact h _ _ _ (Int.emod_nonneg _ (by lia)) (Int.emod_lt_of_pos _ hm) ha (by lia) (by lia)
 .simp! [e_C];exact h _ _ _ (Int.emod_nonneg _ (by lia)) (Int.emod_lt_of_pos _ hm) (Int.ediv_nonneg ha (by lia)) hs hs2
theorem Vu{ns:List Int}{k:Int}(hk:0<=k)
  (h:∀a s,0<=a->1<=s->s<=2147483629->P (aX a s) [.sh (.lst (ns.map .int)),.sh (.int k)]):Kx [.sh (.lst (ns.map .int)),.sh (.int k)] P PX:=by
 refine iS rfl rfl ?_;simp! [length_map];by_cases h1:k<ns.length
 .obtain⟨v,hv,_,e⟩:=ET (f:=D.int) hk h1;simp! [length_map,h1,decide_true,e];cases hc:decide ((10:Int)^(18:Int).toNat<=v)
  .simp! [if_true,false_eq_true,if_false];exact h _ _ (by decide) (by lia) (by lia)
  .simp! [if_true];have:(0:Int)<=v:=by
    have:=qX hc;have e:(10:Int)^(18:Int).toNat=1000000000000000000:=by decide
    lia
   exact h _ _ this (by lia) (by lia)
 .by_cases h2:0<ns.length
  .have hp:(0:Int)<ns.length:=by lia
   obtain⟨v,hv,_,e⟩:=ET (f:=D.int) (l:=ns) (z:=k %ns.length) (Int.emod_nonneg _ (by lia)) (Int.emod_lt_of_pos _ hp);simp! [length_map,h1,hp,decide_true,decide_false,e];generalize 7919*k+11+v %2147483629*69623=cell;cases hc:decide ((10:Int)^(18:Int).toNat<=cell)
   .simp! [if_true,false_eq_true,if_false];exact h _ _ (by decide) (by lia) (by lia)
   .simp! [if_true];have:(0:Int)<=cell:=by
     have:=qX hc;have e:(10:Int)^(18:Int).toNat=1000000000000000000:=by decide
     lia
    exact h _ _ this (by lia) (by lia)
  .have hp:¬(0:Int)<ns.length:=by lia
   simp! [length_map,h1,hp,decide_true,decide_false];generalize 7919*k+11=cell;cases hc:decide ((10:Int)^(18:Int).toNat<=cell)
   .simp! [if_true,false_eq_true,if_false];exact h _ _ (by decide) (by lia) (by lia)
   .simp! [if_true];have:(0:Int)<=cell:=by
     have:=qX hc;have e:(10:Int)^(18:Int).toNat=1000000000000000000:=by decide
     lia
    exact h _ _ this (by lia) (by lia)
theorem Om{l:List D}(h:(cS l).isSome=true)(h64:l.length<64):cT l=some (.lst ((eN l).map .sh)):=by unfold cT;rw[za (.inl ⟨h64,.inr h⟩)]
theorem VL{A:List Nat}(h:A.length<64):∃A':List Nat,A'.Perm A/\A'.Pairwise (·<=·)/\cT (A.map sg)=some (.lst ((A'.map sg).map .sh)):=by
 have e:A.map sg=(A.map λc=>[c]).map D.str:=by rw[qH];rfl
 obtain⟨A',hp,e2⟩:=Ul (AN (A.map sg));refine⟨A',hp,?_,?_⟩
 .have hs:=Ir HK (A.map sg) (by rw[e];exact OV _);rw[e2,pairwise_map]at hs;refine hs.imp λ{a b} h=>?_;have h':(!decide (([b]:List Nat)<[a]))=true:=by rw[<-Eo];exact h
  have h2:¬([b]:List Nat)<[a]:=by simpa using h'
  rw[Ry]at h2;lia
 .rw[Om (by rw[Nv];rfl) (by simpa using h),e2]
def letters:List Nat:=[97,98,99,100,101,102,103,104,105,106,107,108,109,110,111,112,113,114,115,116,117,118,119,120,121,122]
theorem VY{Q:Env->Prop}{E:WX}{m:Int}:∀(xs:List D)(a s:Int)(L A:List Nat)(o:Option S),xs.length<=L.length->0<=a->1<=s->s<=2147483629->(A++L).Perm letters->
  (∀a' s'(L' A':List Nat) o',0<=a'->1<=s'->s'<=2147483629->A'.length=A.length+xs.length->(A'++L').Perm letters->Q [some (aX a' s'),some (.sh (.int m)),some (.lst ((L'.map sg).map .sh)),some (.lst ((A'.map sg).map .sh)),o'])->
  aP (zu 4) eV lW xs [some (aX a s),some (.sh (.int m)),some (.lst ((L.map sg).map .sh)),some (.lst ((A.map sg).map .sh)),o] Q E:=by
 intro xs;induction xs with
 |nil=>intro a s L A o h1 ha hs hs2 hnd h;exact h a s L A o ha hs hs2 (by simp) hnd
 |cons x xs ih=>
  intro a s L A o h1 ha hs hs2 hnd h;have zO:=hnd.length_eq;have h26:letters.length=26:=rfl;simp only[qv,qr]at h1 h zO;rw[DM];simp! [yV,e_sh,zar,aX,length_map];refine kK ha hs hs2 ?_ ?_ λr a' s' hr hr2 ha' hs' hs2'=>?_
  .lia
  .lia
  simp! [e_sh,zar,aX,length_map];obtain⟨c,hc,hg,_⟩:=Ec (l:=L) hr hr2;refine Nj hr (by simp only[qp,dD];lia) (XZ (d:=sg c) (by rw[qI,hg];rfl)) ?_;simp! [e_sh,zar,aX,length_map];refine⟨by simp only[dD];lia,?_⟩;have e1:((L.map sg).map S.sh).eraseIdx r.toNat=((L.eraseIdx r.toNat).map sg).map S.sh:=by rw[Ke,Ke]
  have e2:((A.map sg).map S.sh)++[S.sh (sg c)]=(((A++[c]).map sg).map S.sh):=by simp
  rw[e1,e2];have hlt:r.toNat<L.length:=by lia
  have hl:(L.eraseIdx r.toNat).length=L.length-1:=List.length_eraseIdx_of_lt hlt;have hgc:L[r.toNat]=c:=by rw[qi hlt]at hg;exact qg hg
  have hperm:(A++[c]++L.eraseIdx r.toNat).Perm (A++L):=by rw[qq];refine List.Perm.append_left A ?_;have:=PR L r.toNat hlt;rw[hgc]at this;exact this
  refine ih a' s' _ _ _ (by lia) ha' hs' hs2' (hperm.trans hnd) λa2 s2 L' A' o' x1 x2 x3 x4 x5=>h a2 s2 L' A' o' x1 x2 x3 (by rw[x4];simp only[qr,qE];lia) x5
theorem Yf{a s m:Int}(ha:0<=a)(hs:1<=s)(hs2:s<=2147483629)(hm:0<=m)(hm2:m<=26)
  (h:∀(l:List Nat) a' s',l.length=m.toNat->l.Pairwise (·<·)->(∀c∈l,97<=c/\c<=122)->0<=a'->1<=s'->s'<=2147483629->P (.sh (.str l)) [aX a' s',.sh (.int m)]):BH [aX a s,.sh (.int m)] P PX:=by
 refine iS rfl rfl ?_;simp! [aX,e_sh,zar];refine⟨by simp only[dD];lia,?_⟩;have hf:(fromTo 0 m.toNat).length=m.toNat:=Ew;have h26:letters.length=26:=rfl;refine VY (fromTo 0 m.toNat) a s letters [] none (by rw[hf,h26];lia) ha hs hs2 (List.Perm.refl _)
  λa' s' L' A' o' ha' hs' hs2' hA hpm=>?_
 rw[hf,qy,zero_add]at hA;have hnd:A'.Nodup:=(qz.mp (hpm.nodup_iff.mpr (by decide))).1;have hle:∀c∈A',97<=c/\c<=122:=λc hc=>by
  have:c∈letters:=hpm.mem_iff.mp (qk _ hc);have hall:∀c∈letters,97<=c/\c<=122:=by decide
  exact hall c this
 obtain⟨A2,hp,hso,e⟩:=VL (A:=A') (by lia);have hl:A2.length=m.toNat:=hp.length_eq.trans hA;simp! [aX,e_sh,zar,e,Nz (show A2.length<=big by simp only[dD];lia)];exact h A2 a' s' hl (Xt hso (hp.nodup_iff.mpr hnd)) (λc hc=>hle c (hp.mem_iff.mp hc)) ha' hs' hs2'
theorem WC{Q:Env->Prop}{E:WX}{m many:Int}{col:List Nat}(hc:0<col.length)(hc2:col.length<=26):∀(xs:List D)(a s:Int)(A:List Nat)(o:Option S),0<=a->1<=s->s<=2147483629->A.length+xs.length<=1000->
  (∀a' s'(A':List Nat) o',0<=a'->1<=s'->s'<=2147483629->A'.length=A.length+xs.length->(∀z∈A',z∈A\/z∈col)->Q [some (aX a' s'),some (.sh (.str col)),some (.sh (.int m)),some (.sh (.int many)),some (.lst ((A'.map sg).map .sh)),o'])->
  aP (zu 5) eV lV xs [some (aX a s),some (.sh (.str col)),some (.sh (.int m)),some (.sh (.int many)),some (.lst ((A.map sg).map .sh)),o] Q E:=by
 intro xs;induction xs with
 |nil=>intro a s A o ha hs hs2 h3 h;exact h a s A o ha hs hs2 (by simp) λz hz=>.inl hz
 |cons x xs ih=>
  intro a s A o ha hs hs2 h3 h;simp only[qv]at h3 h;rw[DM];simp! [yU,e_sh,zar,aX,length_map];refine kK ha hs hs2 (by lia) (by lia) λr a' s' hr hr2 ha' hs' hs2'=>?_;obtain⟨c,hcm,_,e⟩:=Ec (l:=col) hr hr2;simp! [e,e_sh,zar,aX,length_map];refine⟨by simp only[dD];lia,?_⟩;have e2:((A.map sg).map S.sh)++[S.sh (.str [c])]=(((A++[c]).map sg).map S.sh):=by simp[sg]
  rw[e2];refine ih a' s' _ _ ha' hs' hs2' (by simp only[qr,qE];lia) λa2 s2 A' o' x1 x2 x3 x4 x5=>h a2 s2 A' o' x1 x2 x3 (by rw[x4];simp only[qr,qE];lia) λz hz=>?_;rcases x5 z hz with q|q
  .rcases qA.mp q with q|q
   .exact .inl q
   .rw[qw.mp q];exact .inr hcm
  .exact .inr q
theorem Pp{a s m:Int}{col:List Nat}(ha:0<=a)(hs:1<=s)(hs2:s<=2147483629)(hm:0<=m)(hm2:m<=900)(hc:0<col.length)(hc2:col.length<=26)
  (h:∀(l:List Nat) a' s',l.length<=m.toNat->(∀z∈l,z∈col)->0<=a'->1<=s'->s'<=2147483629->P (.sh (.str l)) [aX a' s',.sh (.str col),.sh (.int m)]):yD [aX a s,.sh (.str col),.sh (.int m)] P PX:=by
 refine iS rfl rfl ?_;simp! [aX,e_sh,zar];refine kK ha hs hs2 (by lia) (by lia) λr a1 s1 hr hr2 ha1 hs1 hs21=>?_;have hne:(decide (col=[]))=false:=by simp;intro z;rw[z]at hc;simp at hc
 simp! [aX,e_sh,zar,hne,Bool.not_false,if_true,mul_one];refine⟨by simp only[dD];lia,?_⟩;have hf:(fromTo 0 r.toNat).length=r.toNat:=Ew;refine WC (A:=[]) hc hc2 _ a1 s1 none ha1 hs1 hs21 (by rw[hf];simp only[qy];lia) λa' s' A' o' ha' hs' hs2' hA hg=>?_;rw[hf,qy,zero_add]at hA;simp! [aX,e_sh,zar];rw[Nz (by simp only[dD];lia)];simp! [aX,e_sh,zar];exact h A' a' s' (by lia) (λz hz=>(hg z hz).resolve_left (by simp)) ha' hs' hs2'
theorem Vn{a s:Int}{col:List Nat}{B:List Wd}(ha:0<=a)(hs:1<=s)(hs2:s<=2147483629)(hc:0<col.length)(hc2:col.length<=26)(hB:0<B.length)(hB2:B.length<=1000)(hw:∀w∈B,w≠[]/\w.length<=1000/\∀c∈w,c∈col)
  (h:∀(w:Wd) a' s',w≠[]->w.length<=2000->(∀c∈w,c∈col)->0<=a'->1<=s'->s'<=2147483629->P (.sh (.str w)) [aX a' s',.sh (.str col),.lst ((B.map D.str).map .sh)]):BG [aX a s,.sh (.str col),.lst ((B.map D.str).map .sh)] P PX:=by
 refine iS rfl rfl ?_;simp! [aX,e_sh,zar,length_map];refine kK ha hs hs2 (by lia) (by lia) λr a1 s1 hr hr2 ha1 hs1 hs21=>?_;obtain⟨w,hwm,_,e⟩:=ET (f:=λz=>S.sh (D.str z)) (l:=B) hr hr2;have e':atI ((B.map D.str).map S.sh) r=some (S.sh (.str w)):=by rw[qH];exact e
 obtain⟨hw1,hw2,hw3⟩:=hw w hwm;have hwl:0<w.length:=qS.mpr hw1;simp! [aX,e'];refine kK ha1 hs1 hs21 (by decide) (by decide) λkd a2 s2 hk0 hk1 ha2 hs2 hs22=>?_;simp! [aX];refine kK ha2 hs2 hs22 (by lia) (by lia) λr3 a3 s3 hr3 hr32 ha3 hs3 hs23=>?_;obtain⟨c,hcm,_,ec⟩:=Ec (l:=col) hr3 hr32;simp! [aX,ec];refine kK ha3 hs3 hs23 (by lia) (by lia) λp a4 s4 hp0 hp1 ha4 hs4 hs24=>?_;simp! [aX];rw[NC w (by lia) (by lia),Pi w hp0];have hkd:kd=0\/kd=1\/kd=2\/kd=3\/kd=4:=by lia
 rcases hkd with rfl|rfl|rfl|rfl|rfl
 .simp! [aX];refine h _ _ _ ?_ ?_ (λc hc=>hw3 c (mem_of_mem_take hc)) ha4 hs4 hs24
  .intro z;have:=congrArg List.length z;rw[qK,qy]at this;lia
  .rw[qK];lia
 .simp! [aX];refine h _ _ _ ?_ ?_ (λc hc=>hw3 c (mem_of_mem_drop hc)) ha4 hs4 hs24
  .intro z;have:=congrArg List.length z;rw[qJ,qy]at this;lia
  .rw[qJ];lia
 .simp! [aX];refine h _ _ _ (by simp) (by simp;lia) (λx hx=>?_) ha4 hs4 hs24;rcases qD.mp hx with rfl|hx
  .exact hcm
  .exact hw3 x hx
 .simp! [aX];refine h _ _ _ (by simp) (by simp;lia) (λx hx=>?_) ha4 hs4 hs24;rcases qA.mp hx with hx|hx
  .exact hw3 x hx
  .rw[qw.mp hx];exact hcm
 .simp! [aX];refine h _ _ _ (by simp[hw1]) (by simp;lia) (λx hx=>?_) ha4 hs4 hs24;rcases qA.mp hx with hx|hx<;>exact hw3 x hx
def lI(col:List Nat)(many most:Nat)(B:List Wd):Prop:=B.length<=many/\B.Nodup/\∀w∈B,w≠[]/\w.length<=most/\∀c∈w,c∈col
def zB(B:List Wd):D:=.tup (B.map D.str)
theorem XS{a s many most:Int}{col:List Nat}(ha:0<=a)(hs:1<=s)(hs2:s<=2147483629)(hc:0<col.length)(hc2:col.length<=26)(hm:0<=many)(hm2:many<=500)(ho:1<=most)(ho2:most<=500)
  (h:∀(B:List Wd) a' s',lI col many.toNat most.toNat B->0<=a'->1<=s'->s'<=2147483629->P (.sh (zB B)) [aX a' s',.sh (.str col),.sh (.int many),.sh (.int most)]):BF [aX a s,.sh (.str col),.sh (.int many),.sh (.int most)] P PX:=by
 refine iS rfl rfl ?_;simp! [aX];refine kK ha hs hs2 (by lia) (by lia) λr a1 s1 hr hr2 ha1 hs1 hs21=>?_;have hne:(decide (col=[]))=false:=by simp;intro z;rw[z]at hc;simp at hc
 simp! [aX,hne,if_true,mul_one];refine⟨by simp only[dD];lia,?_⟩;refine Zc (λk U=>∃(a s:Int)(B:List Wd)(o5 o6:Option S),0<=a/\1<=s/\s<=2147483629/\lI col k most.toNat B/\U=[some (aX a s),some (.sh (.str col)),some (.sh (.int many)),some (.sh (.int most)),some (.lst ((B.map D.str).map .sh)),o5,o6]) _ (λk x hk D2 U hI hnx hct hrt hbk=>?_) (λU hI=>?_) ⟨a1,s1,[],none,none,ha1,hs1,hs21,⟨by simp,by simp,by simp⟩,rfl⟩
 .obtain⟨a,s,B,o5,o6,ha,hs,hs2,hB,rfl⟩:=hI;have hkl:=(qh.mp hk).1;rw[Ew]at hkl;obtain⟨hB1,hB2,hB3⟩:=hB;simp! [aX,yT];refine kK ha hs hs2 (by lia) (by lia) λr3 a2 s2 hr3 hr32 ha2 hs2 hs22=>?_;obtain⟨c,hcm,_,ec⟩:=Ec (l:=col) hr3 hr32;simp! [aX,ec];refine Pp ha2 hs2 hs22 (by lia) (by lia) hc hc2 λw a3 s3 hw1 hw2 ha3 hs3 hs23=>?_
  --what is done with a word
  have put:∀(w:Wd)(a s:Int),0<=a->1<=s->s<=2147483629->w≠[]->w.length<=most.toNat->(∀c∈w,c∈col)->
    (gW (aV dQ (zp 6) (zp 4)) (wExpr (cQ 4 (zp 6))) bF) D2 [some (aX a s),some (.sh (.str col)),some (.sh (.int many)),some (.sh (.int most)),some (.lst ((B.map D.str).map .sh)),some (.sh x),some (.sh (.str w))]:=λw a s ha hs hs2 h1 h2 h3=>by
   simp! [aX,zar,UQ];cases q:decide (w∈B)
   .simp! [length_map];rw[show((B.map D.str).map S.sh)++[S.sh (.str w)]=((B++[w]).map D.str).map S.sh by simp];refine⟨by simp only[dD];lia,hnx _ ⟨a,s,_,_,_,ha,hs,hs2,⟨by simp only[qr,qE];lia,?_,λx hx=>?_⟩,rfl⟩⟩
    .refine qz.mpr ⟨hB2,by simp,λx hx y hy e=>?_⟩;rw[qw.mp hy]at e;subst e;have:=of_decide_eq_false q;exact this hx
    .rcases qA.mp hx with z|z
     .exact hB3 x z
     .rw[qw.mp z];exact⟨h1,h2,h3⟩
   .simp! [e_C];exact hnx _ ⟨a,s,B,_,_,ha,hs,hs2,⟨by lia,hB2,hB3⟩,rfl⟩
  have hword:([c]++w)≠[]/\([c]++w).length<=most.toNat/\∀x∈[c]++w,x∈col:=by
   refine⟨by simp,by simp;lia,λx hx=>?_⟩;rcases qA.mp hx with z|z
   .rw[qw.mp z];exact hcm
   .exact hw2 x z
  simp! [aX,zar,VE,length_cons,length_nil];cases q:decide (B=[])
  .simp! [aX];refine kK ha3 hs3 hs23 (by decide) (by decide) λr4 a4 s4 hr4 hr42 ha4 hs4 hs24=>?_;simp! [aX];cases q2:decide (r4=0)
   .simp! [e_C];have:=put _ a4 s4 ha4 hs4 hs24 hword.1 hword.2.1 hword.2.2;simp! [aX]at this;exact this
   .simp! [aX];refine Vn ha4 hs4 hs24 hc hc2 (qS.mpr (of_decide_eq_false q)) (by lia) (λw hw=>⟨(hB3 w hw).1,by have:=(hB3 w hw).2.1;lia,(hB3 w hw).2.2⟩) λw2 a5 s5 hn hl hm5 ha5 hs5 hs25=>?_;simp! [aX];have hw2l:0<w2.length:=qS.mpr hn;have:=put (aM w2 none (some most)) a5 s5 ha5 hs5 hs25 (λz=>?_) ?_ λc hc=>hm5 c (xY hc)
    .simp! [aX]at this;exact this
    .have z2:=congrArg List.length z;unfold aM sIx at z2;have:¬most<0:=by lia
     simp only[zc this,drop_zero,sub_zero,qK,qy]at z2;lia
    .unfold aM sIx;have:¬most<0:=by lia
     simp only[zc this,drop_zero,sub_zero,qK];lia
  .simp! [e_C];have:=put _ a3 s3 ha3 hs3 hs23 hword.1 hword.2.1 hword.2.2;simp! [aX]at this;exact this
 .obtain⟨a,s,B,o5,o6,ha,hs,hs2,hB,rfl⟩:=hI;rw[Ew]at hB;simp! [aX,zar];exact h B a s ⟨by have:=hB.1;lia,hB.2⟩ ha hs hs2
abbrev Mv:=Wd×Int
def jI(m:Mv):D:=.tup [.str m.1,.int m.2]
theorem TN(l:List Mv):bM (l.map jI)<=29:=Jw _ λd hd=>by obtain⟨m,_,rfl⟩:=qN.mp hd;show 1<=29;decide
theorem RC{l:List Mv}:gF (.lst (l.map jI)) (.lst [])=some (!l.isEmpty):=by rw[JD (TN l),List.isEmpty_map]
theorem Xj{B:List Wd}{t:Wd}{p most:Int}(hB:B.length<=1000)(ht:t.length<=1000)(hp:0<=p)(hp2:p<=most)
  (h:∀ms:List Mv,ms.length<=2000->(∀m∈ms,m.1∈B/\0<=m.2/\m.2<=most/\(m.2=p+m.1.length\/m.2<=p))->P (.lst ((ms.map jI).map .sh)) [.sh (zB B),.sh (.str t),.sh (.int p),.sh (.int most)]):BE [.sh (zB B),.sh (.str t),.sh (.int p),.sh (.int most)] P PX:=by
 refine iS rfl rfl ?_;simp! [zB];refine xK (λpre U=>∃(ms:List Mv)(o:Option S),ms.length<=2*pre.length/\(∀m∈ms,m.1∈B/\0<=m.2/\m.2<=most/\(m.2=p+m.1.length\/m.2<=p))/\U=[some (.sh (zB B)),some (.sh (.str t)),some (.sh (.int p)),some (.sh (.int most)),some (.lst ((ms.map jI).map .sh)),o]) B (λpre w post D2 U e hI hnx hct hrt hbk=>?_) (λU hI=>?_) ⟨[],none,by simp,by simp,rfl⟩
 .obtain⟨ms,o,hl,hm,rfl⟩:=hI;have zO:pre.length+1<=B.length:=by rw[<-e];simp only[qr,qv];lia
  have hwB:w∈B:=by rw[<-e];simp
  have snd:∀ms:List Mv,ms.length<=2*pre.length+1->(∀m∈ms,m.1∈B/\0<=m.2/\m.2<=most/\(m.2=p+m.1.length\/m.2<=p))->
    (gW (fW (aV Ey (zp 2) (wB aW (zr (zp 5) zt))) (aV gB (gV (zp 1) (some (zC fB (zp 2) (wB aW (zr (zp 5) zt)))) (some (zp 2))) (zp 5))) (wExpr (cQ 4 (dS (zr (zp 5) (zr (zC fB (zp 2) (wB aW (zr (zp 5) zt))) zt))))) bF) D2 [some (.sh (zB B)),some (.sh (.str t)),some (.sh (.int p)),some (.sh (.int most)),some (.lst ((ms.map jI).map .sh)),some (.sh (.str w))]:=λms hl hm=>by
   have stop:D2.nx [some (.sh (zB B)),some (.sh (.str t)),some (.sh (.int p)),some (.sh (.int most)),some (.lst ((ms.map jI).map .sh)),some (.sh (.str w))]:=hnx _ ⟨ms,_,by simp only[qr,qE];lia,hm,rfl⟩;simp! [zB];cases q1:decide ((w.length:Int)<=p)
   .simp! [e_C];exact stop
   have q1':=qX q1;simp! [zB];cases q2:decide (aM t (some (p-(w.length:Int))) (some p)=w)
   .simp! [e_C];exact stop
   simp! [length_map];rw[show((ms.map jI).map S.sh)++[S.sh (.tup [.str w,.int (p-w.length)])]=((ms++[(w,p-w.length)]).map jI).map S.sh by simp[jI]];refine⟨by simp only[dD];lia,hnx _ ⟨_,_,by simp only[qr,qE];lia,λm hmm=>?_,rfl⟩⟩;rcases qA.mp hmm with z|z
   .exact hm m z
   .rw[qw.mp z];exact⟨hwB,by show 0<=p-w.length;lia,by show p-(w.length:Int)<=most;lia,.inr (by show p-(w.length:Int)<=p;lia)⟩
  simp! [yS,zB];have snd0:=snd ms (by lia) hm;simp! [zB]at snd0;cases q1:decide (aM t (some p) (some (p+(w.length:Int)))=aM w none (some ((t.length:Int)-p)))
  .simp! [e_C];exact snd0
  simp! [e_C];cases q2:decide (p+(w.length:Int)<=most)
  .simp! [e_C];exact snd0
  have q2':=qX q2;simp! [length_map];rw[show((ms.map jI).map S.sh)++[S.sh (.tup [.str w,.int (p+w.length)])]=((ms++[(w,p+w.length)]).map jI).map S.sh by simp[jI]];refine⟨by simp only[dD];lia,?_⟩;have snd1:=snd (ms++[(w,p+w.length)]) (by simp only[qr,qE];lia) λm hmm=>by
   rcases qA.mp hmm with z|z
   .exact hm m z
   .rw[qw.mp z];exact⟨hwB,by show 0<=p+(w.length:Int);lia,q2',.inl rfl⟩
  simp! [zB]at snd1;exact snd1
 .obtain⟨ms,o,hl,hm,rfl⟩:=hI;simp! [zB];exact h ms (by lia) hm
theorem DO{t w:Wd}{p g:Int}(hp:0<=p)(hp2:p<=t.length)(hg:g=p+w.length):((aM t none (some p)++w)++aM t (some g) none).length=max g.toNat t.length:=by obtain⟨k,rfl⟩:=Int.eq_ofNat_of_zero_le hp;have hk:k<=t.length:=ofNat_le.mp hp2;rw[<-natCast_add]at hg;subst hg;rw[NC t hp hp2,Pi t (Int.natCast_nonneg _)];simp only[qr,qK,qJ,qZ];rw[min_eq_left hk,Nat.add_comm,Nat.sub_add_eq_max,Nat.max_comm]
theorem Vg{a s most:Int}{col:List Nat}{B:List Wd}(ha:0<=a)(hs:1<=s)(hs2:s<=2147483629)(hc:0<col.length)(hc2:col.length<=26)(hm:0<=most)(hm2:most<=500)(hB:B.length<=1000)(hw:∀w∈B,w.length<=1000/\∀c∈w,c∈col)
  (h:∀(t:Wd) a' s',t.length<=most.toNat->(∀c∈t,c∈col)->0<=a'->1<=s'->s'<=2147483629->P (.sh (.str t)) [aX a' s',.sh (zB B),.sh (.str col),.sh (.int most)]):BD [aX a s,.sh (zB B),.sh (.str col),.sh (.int most)] P PX:=by
 refine iS rfl rfl ?_;simp! [aX,length_cons,length_nil];refine kK ha hs hs2 (by decide) (by decide) λr a1 s1 hr hr2 ha1 hs1 hs21=>?_;simp! [aX];refine⟨by simp only[dD];lia,?_⟩;refine xK (toD:=λk:Nat=>D.int (0+(k:Int))) (λpre U=>∃(a s:Int)(t:Wd)(p:Int)(o6 o7 o8 o9 o10:Option S),0<=a/\1<=s/\s<=2147483629/\t.length<=most.toNat/\(∀c∈t,c∈col)/\0<=p/\p<=t.length/\U=[some (aX a s),some (.sh (zB B)),some (.sh (.str col)),some (.sh (.int most)),some (.sh (.str t)),some (.sh (.int p)),o6,o7,o8,o9,o10]) (List.range _) (λpre k post D2 U e hI hnx hct hrt hbk=>?_) (λU hI=>?_) ⟨a1,s1,[],0,none,none,none,none,none,ha1,hs1,hs21,by simp,by simp,by decide,by simp,rfl⟩
 .obtain⟨a,s,t,p,o6,o7,o8,o9,o10,ha,hs,hs2,ht,htc,hp,hp2,rfl⟩:=hI;simp! [aX,yR];refine Xj hB (by lia) hp (by lia) λms hml hm=>?_
  --the choice among some moves
  have pick:∀ms:List Mv,ms.length<=2000->(∀m∈ms,m.1∈B/\0<=m.2/\m.2<=most/\(m.2=p+m.1.length\/m.2<=p))->
    (gW (aV gF (zp 7) (eS zt)) (zD (zF (dI [zu 8,zu 9]) (fL (zp 7) (zE hW [true,true] (zr (zp 0) (zr (wB aW (zr (zp 7) zt)) zt)))))
  (zD (gW (aV AC (zp 9) (zp 5)) (zF (zu 4) (zC aQ (zC aQ (gV (zp 4) none (some (zp 5))) (zp 8)) (gV (zp 4) (some (zp 9)) none))) bF)
  (zF (zu 5) (zp 9)))) bF) D2 [some (aX a s),some (.sh (zB B)),some (.sh (.str col)),some (.sh (.int most)),some (.sh (.str t)),some (.sh (.int p)),some (.sh (.int (0+(k:Int)))),some (.sh (.lst (ms.map jI))),o8,o9,o10]:=λms hml hm=>by
   simp! [aX,RC];cases q:ms.isEmpty
   .simp! [aX,length_map];have hpos:0<ms.length:=by
     cases ms with
     |nil=>cases q
     |cons _ _=>simp
    refine kK ha hs hs2 (by lia) (by lia) λr a1 s1 hr hr2 ha1 hs1 hs21=>?_;obtain⟨m,hmm,_,em⟩:=ET (f:=jI) hr hr2;obtain⟨hmB,hg0,hg1,hg2⟩:=hm m hmm;obtain⟨hw1,hw2⟩:=hw m.1 hmB;simp! [aX,em,jI,length_cons,length_nil];cases q2:decide (p<m.2)
    .simp! [e_C];have:=of_decide_eq_false q2;exact hnx _ ⟨a1,s1,t,m.2,_,_,_,_,_,ha1,hs1,hs21,ht,htc,hg0,by lia,rfl⟩
    .have q2':=qX q2;have hgp:m.2=p+m.1.length:=by lia
     have hl3:=DO hp hp2 hgp;have l1:(aM t none (some p)).length<=1000:=le_trans (AO _ _ _) (by lia);have l2:(aM t (some m.2) none).length<=1000:=le_trans (AO _ _ _) (by lia);simp! [length_append];refine hnx _ ⟨a1,s1,(aM t none (some p)++m.1)++aM t (some m.2) none,m.2,_,_,_,_,_,ha1,hs1,hs21,by rw[hl3];lia,λc hc=>?_,hg0,by rw[hl3];lia,rfl⟩;rcases qA.mp hc with z|z
     .rcases qA.mp z with z|z
      .exact htc c (xY z)
      .exact hw2 c z
     .exact htc c (xY z)
   .simp! [e_C];exact hnx _ ⟨a,s,t,p,_,_,_,_,_,ha,hs,hs2,ht,htc,hp,hp2,rfl⟩
  simp! [aX,zar];cases q:decide ((4:Int)<0+(k:Int))
  .simp! [e_C];have:=pick ms hml hm;simp! [aX]at this;exact this
  .simp! [e_C];refine IV (n:=11) (toD:=jI) ms (λm=>if decide (p<m.2)=true then some (.sh (jI m))else none) (λm hmm l o K hl hK=>?_) λo=>?_
   .cases q3:decide (p<m.2)
    .simp! [eU,EG,rF,jI,q3];rw[q3]at hK;have:=hK (some (.sh (jI m)));rw[zc (by decide),toList_none,qC]at this;exact this
    .simp! [eU,nZ,rF,jI,q3];rw[q3]at hK;exact⟨by simp only[dD];lia,hK _⟩
   .rw[EF (λm:Mv=>decide (p<m.2)) (λm=>S.sh (jI m)),show((ms.filter λm:Mv=>decide (p<m.2)).map λm=>S.sh (jI m))=((ms.filter λm:Mv=>decide (p<m.2)).map jI).map S.sh by rw[qH];rfl];simp! [zar];have:=pick (ms.filter λm:Mv=>decide (p<m.2)) (le_trans (length_filter_le _ _) hml) λm hmm=>hm m (mem_filter.mp hmm).1;simp! [aX]at this;exact this
 .obtain⟨a,s,t,p,o6,o7,o8,o9,o10,ha,hs,hs2,ht,htc,hp,hp2,rfl⟩:=hI;simp! [aX];cases q:decide (t=[])
  .have hpos:0<t.length:=qS.mpr (of_decide_eq_false q);simp! [aX];refine kK ha hs hs2 (by decide) (by decide) λr a1 s1 hr hr2 ha1 hs1 hs21=>?_;simp! [aX];cases q2:decide (r=0)
   .simp! [e_C];exact h t a1 s1 ht htc ha1 hs1 hs21
   .simp! [aX];refine kK ha1 hs1 hs21 (by lia) (by lia) λx a2 s2 hx0 hx1 ha2 hs2 hs22=>?_;simp! [aX];refine kK ha2 hs2 hs22 (by lia) (by lia) λr3 a3 s3 hr3 hr32 ha3 hs3 hs23=>?_;obtain⟨c,hcm,_,ec⟩:=Ec (l:=col) hr3 hr32;have l1:(aM t none (some x)).length<=1000:=le_trans (AO _ _ _) (by lia);have l2:(aM t (some (x+1)) none).length<=1000:=le_trans (AO _ _ _) (by lia);have l3:=DO (t:=t) (w:=[c]) (p:=x) (g:=x+1) hx0 (by lia) (by simp);simp! [aX,ec,length_append,length_cons,length_nil];refine h _ a3 s3 (by rw[l3];lia) (λy hy=>?_) ha3 hs3 hs23;rcases qA.mp hy with z|z
    .rcases qA.mp z with z|z
     .exact htc y (xY z)
     .rw[qw.mp z];exact hcm
    .exact htc y (xY z)
  .simp! [e_C];exact h t a s ht htc ha hs hs2
theorem Xc{B:List Wd}{w:Wd}{l:List Tr}(hp:(eY B w).Perm l)(h64:l.length<128):cT (l.map oG)=some (.lst (((eY B w).map oG).map .sh)):=by
 have e:∀l:List Tr,l.map oG=(l.map Fu).map tI:=λl=>by rw[qH];rfl
 have hs:∀d∈l.map oG,lK [false,false,false] d:=λd hd=>by obtain⟨t,_,rfl⟩:=qN.mp hd;trivial
 unfold cT;rw[za (.inr ⟨by rw[qp];lia,.inr ⟨[false,false,false],(λz=>nomatch z),hs⟩⟩),Ei (HD _) (m:=(eY B w).map oG) hs (hp.map _)];refine pairwise_map.mpr (ze4.imp λ{t u} h=>?_);show fZ (tI (Fu t)) (tI (Fu u))=true;rw[RP];grind[Fu,cons_lt_cons_iff]
structure tU(B:List Wd)(w:Wd):Prop where
 nd:B.Nodup
 ne:∀x∈B,x≠[]
 le:∀x∈B,x.length<=1000
 six:B.length<=7
 tw:w.length<=12
theorem Oh{B:List Wd}{w:Wd}(hf:tU B w):((List.range w.length).flatMap (fT B w)).length<128:=by
 have hs:=hf.six;have ht:=hf.tw;have:∀l:List Nat,(l.flatMap (fT B w)).length<=l.length*7:=λl=>by
  induction l with
  |nil=>simp
  |cons a l ih=>
   have h1:(fT B w a).length<=B.length:=by unfold fT;exact le_trans (List.length_filterMap_le _ _) (by simp)
   rw[flatMap_cons,qr,qv];lia
 have h:=this (List.range w.length);rw[qG]at h;lia
theorem Yv{B:List Wd}{w:Wd}(hf:tU B w)
  (h:P (.lst (((eY B w).map oG).map .sh)) [.sh (zB B),.sh (.str w)]):KE [.sh (zB B),.sh (.str w)] P PX:=by
 have h12:=hf.tw;have h6:=hf.six;have zO:=Oh hf;have he:(List.range w.length).flatMap (λi=>(fT B w i).map λt=>S.sh (oG t))=(((List.range w.length).flatMap (fT B w)).map oG).map S.sh:=by simp[List.map_flatMap,Function.comp_def]
 refine iS rfl rfl ?_;simp! [e_C];refine⟨by simp only[dD];lia,?_⟩;rw[jU rfl];refine bf (n:=2) (k:=3) (List.range w.length) (λi=>(fT B w i).map λt=>S.sh (oG t)) (λi hi l vs K hv hl hK=>?_) (λvs hv=>?_)
 .obtain⟨a,b,c,rfl⟩:=rR hv;rw[he,qp,qp,qp]at hl;simp! [eU,nZ,BS,zB,Ws];refine Zh (λl o o'=>[some (.sh (zB B)),some (.sh (.str w)),some (.lst l),some (.sh (.int (i:Int))),o,o']) (List.range B.length) (λk=>if decide (eO w i (i+((B[k]?).getD []).length)=(B[k]?).getD [])=true then some (S.sh (oG (i,i+((B[k]?).getD []).length,k)))else none) (λk hk l2 o o' K2 hl2 hK2=>?_) λo o'=>?_
  .have hm:(List.range B.length).filterMap (λk=>if decide (eO w i (i+((B[k]?).getD []).length)=(B[k]?).getD [])=true then some (S.sh (oG (i,i+((B[k]?).getD []).length,k)))else none)=(fT B w i).map λt=>S.sh (oG t):=by unfold fT;rw[List.map_filterMap];refine JN λx _=>?_;split<;>rfl
   rw[hm,qp]at hl2;have ec:aM w (some (i:Int)) (some ((i:Int)+((((B[k]?).getD []).length:Nat):Int)))=eO w i (i+((B[k]?).getD []).length):=by rw[<-natCast_add];exact HP w _ _
   cases q:decide (eO w i (i+((B[k]?).getD []).length)=(B[k]?).getD [])
   .simp! [eU,zB,length_cons,length_nil,ec,q,EG];have:=hK2 (some (.sh (.int (k:Int)))) (some (.sh (.str ((B[k]?).getD []))));rw[q,zc (by decide),toList_none,qC]at this;exact this
   .simp! [eU,zB,length_cons,length_nil,ec,q,nZ,BU];have:=hK2 (some (.sh (.int (k:Int)))) (some (.sh (.str ((B[k]?).getD []))));rw[q,za rfl,Option.toList_some]at this hl2;simp only[qE]at hl2;refine⟨by simp only[dD];lia,?_⟩;rw[Nn,natCast_add]at this;exact this
  .have hm:(List.range B.length).filterMap (λk=>if decide (eO w i (i+((B[k]?).getD []).length)=(B[k]?).getD [])=true then some (S.sh (oG (i,i+((B[k]?).getD []).length,k)))else none)=(fT B w i).map λt=>S.sh (oG t):=by unfold fT;rw[List.map_filterMap];refine JN λx _=>?_;split<;>rfl
   rw[hm];exact hK _ rfl
 .obtain⟨a,b,c,rfl⟩:=rR hv;rw[he];simp! [zar,Xc (Pb hf.nd hf.ne) zO];exact h
theorem UT{B:List Wd}{w:Wd}{p:Nat}{l:List Nat}(hp:(nb B w p).Perm l)(hw:w.length<=60):cT (l.map zG)=some (.lst (((nb B w p).map zG).map .sh)):=by
 have hl:=Hz (B:=B) (w:=w) (p:=p);have h64:(l.map zG).length<64:=by rw[qp,<-hp.length_eq];lia
 have e:∀l:List Nat,l.map zG=(l.map λ(q:Nat)=>(q:Int)).map D.int:=λl=>by rw[qH];rfl
 unfold cT;rw[za (.inl ⟨h64,.inl (by rw[e,Pm];rfl)⟩),Ei NH (m:=(nb B w p).map zG) (by rw[e];exact UB _) (hp.map _)];refine pairwise_map.mpr (zcY.imp λ{a b} h=>?_);show fZ (.int a) (.int b)=true;rw[EV];exact qU (by lia)
theorem Xm{B:List Wd}{b:D}{w:Wd}(hb:∀z,iJ (.str z) b=some (decide (z∈B)))(h12:w.length<=60)
  (h:P (.lst ((bY B w).map .sh)) [.sh b,.sh (.str w)]):yC [.sh b,.sh (.str w)] P PX:=by
 refine iS rfl rfl ?_;simp! [e_C];refine⟨by simp only[dD];lia,?_⟩;rw[jU (n:=w.length+1) (by lia)];refine IU (n:=5) (List.range (w.length+1)) (λ_=>S.lst []) (λp hp l o K hl hK=>?_) λo=>?_
 .rw[qG]at hl;simp! [eU,nZ,yO];exact⟨by simp only[dD];lia,hK _⟩
 rw[show((List.range (w.length+1)).map λ_=>S.lst [])=tR w.length λ_=>[] from rfl];simp! [e_C];refine⟨by simp only[dD];lia,?_⟩;rw[jU (n:=w.length) rfl];refine xK (λpre U=>∃(f:Nat->List Nat)(o3 o4:Option S),fJ B w pre.length (pre.length+1) f/\U=[some (.sh b),some (.sh (.str w)),some (.lst (tR w.length f)),o3,o4]) (List.range w.length) (λpre i post D2 U e hI hnx hct hrt hbk=>?_) (λU hI=>?_) ⟨λ_=>[],none,none,Xf,rfl⟩
 .obtain⟨f,o3,o4,hg,rfl⟩:=hI;have hi:pre.length=i/\i<w.length:=Ka e;obtain⟨rfl,hi⟩:=hi;simp! [yP];refine⟨by simp only[dD];lia,?_⟩;rw[wO (a:=pre.length+1) (n:=w.length+1) (by lia) (by lia)];refine xK (λpre2 U=>∃(f:Nat->List Nat)(o4:Option S),fJ B w pre.length (pre.length+1+pre2.length) f/\U=[some (.sh b),some (.sh (.str w)),some (.lst (tR w.length f)),some (.sh (zG pre.length)),o4]) (List.range' (pre.length+1) (w.length+1-(pre.length+1))) (λpre2 j post2 D3 U e2 hI hnx2 hct2 hrt2 hbk2=>?_) (λU hI=>?_) ⟨f,o4,by simpa using hg,rfl⟩
  .obtain⟨f,o4,hg,rfl⟩:=hI;have hj:j=pre.length+1+pre2.length/\j<=w.length:=by have:=JU e2;lia
   obtain⟨hj1,hj2⟩:=hj;rw[<-hj1]at hg;have ht:decide (eO w pre.length j∈B)=gC B w pre.length j:=by unfold gC;rw[qU (show pre.length<j by lia),qU hj2];rfl
   simp! [yQ,zG,HP,hb];rw[ht];cases q:gC B w pre.length j
   .simp! [e_C];refine hnx2 _ ⟨f,_,?_,rfl⟩;rw[qr,qE,show pre.length+1+(pre2.length+1)=j+1 by lia];exact Ug (by lia) hg q
   .simp! [e_C];rw[OJ (by lia) (show(tR w.length f)[((pre.length:Nat):Int).toNat]?=_ by rw[qZ];exact ND (by lia))];simp! [length_map];have hlen1:=OA hg pre.length;refine⟨by simp only[dD];lia,?_⟩;rw[qZ,show(((f pre.length).map λq=>S.sh (zG q))++[S.sh (D.int (j:Int))])=(((f pre.length).map λq=>S.sh (zG q))++[S.sh (zG j)]) from rfl,NS (by lia)];rw[OJ (by lia) (show(tR w.length (eC f pre.length j))[((j:Nat):Int).toNat]?=_ by rw[qZ];exact ND (by lia))];simp! [length_map];have hlen2:=OA hg j;have e3:eC f pre.length j j=f j:=by unfold eC;rw[zc (by lia)]
    refine⟨by rw[e3];simp only[dD];lia,?_⟩;rw[qZ,show(((eC f pre.length j j).map λq=>S.sh (zG q))++[S.sh (D.int (pre.length:Int))])=(((eC f pre.length j j).map λq=>S.sh (zG q))++[S.sh (zG pre.length)]) from rfl,NS (by lia)];refine hnx2 _ ⟨_,_,?_,rfl⟩;rw[qr,qE,show pre.length+1+(pre2.length+1)=j+1 by lia];exact Uu (by lia) hg q
  .obtain⟨f,o4,hg,rfl⟩:=hI;rw[List.length_range',show pre.length+1+(w.length+1-(pre.length+1))=w.length+1 by lia]at hg;refine hnx _ ⟨f,_,_,?_,rfl⟩;rw[qr,qE];exact VH (zd _) hg
 .obtain⟨f,o3,o4,hg,rfl⟩:=hI;rw[qG]at hg;simp! [e_C];rw[show(tR w.length f).map S.toD=(List.range (w.length+1)).map λp=>D.lst ((f p).map zG) by unfold tR;rw[qH];refine map_congr_left λp _=>?_;simp[Function.comp_def]]
  refine IU (n:=5) (List.range (w.length+1)) (λp=>.sh (.lst ((nb B w p).map zG))) (λp hp l o K hl hK=>?_) λo=>?_
  .rw[qG]at hl;simp! [eU,nZ,yN,UT (Wu (le_refl _) hg) h12,zar];exact⟨by simp only[dD];lia,hK _⟩
  .rw[show((List.range (w.length+1)).map λp=>S.sh (.lst ((nb B w p).map zG)))=(bY B w).map S.sh by unfold bY;rw[qH];rfl];simp! [e_C];exact h
theorem Xv{B:List Wd}{w:Wd}(h12:w.length<=60)
  (h:P (.lst ((bY B w).map .sh)) [.sh (zB B),.sh (.str w)]):yC [.sh (zB B),.sh (.str w)] P PX:=Xm (λ_=>OU) h12 h
def Cz(t:Tr):D:=.tup [.int (t.1:Int),.int (t.2.1:Int)]
theorem Yl{n i j:Nat}{L:Nat->Nat}(hn:n<=60)(hi:i<=n)(hj:j<=n)
  (h:P (.lst ((eX n (gE L i j)).map .sh)) [.sh (.lst (eX n L)),.sh (.int (i:Int)),.sh (.int (j:Int))]):KB [.sh (.lst (eX n L)),.sh (.int (i:Int)),.sh (.int (j:Int))] P PX:=by
 refine iS rfl rfl ?_;simp! [NW hi,NW hj,Md,Me,length_cons,length_nil];rw[show eX n L=(List.range (n+1)).map λp=>zG (L p) from rfl];refine IU (n:=5) (List.range (n+1)) (λp=>.sh (zG (gE L i j p))) (λp hp l o K hl hK=>?_) λo=>?_
 .rw[qG]at hl;have e:zG (gE L i j p)=.int (if decide (((L p:Nat):Int)=((max (L i) (L j):Nat):Int))=true then((min (L i) (L j):Nat):Int)else((L p:Nat):Int)):=by
   unfold gE zG;by_cases q:L p=max (L i) (L j)
   .rw[za q,za (qU (by lia))]
   .rw[zc q,zc (by rw[qW];lia)]
  cases q:decide (((L p:Nat):Int)=((max (L i) (L j):Nat):Int))<;>rw[e,q]at hK<;>simp! [eU,nZ,BP,zG,q]
  .exact⟨by simp only[dD];lia,hK _⟩
  .exact⟨by simp only[dD];lia,hK _⟩
 .rw[show((List.range (n+1)).map λp=>S.sh (zG (gE L i j p)))=(eX n (gE L i j)).map S.sh by unfold eX;rw[qH];rfl];simp! [e_C];exact h
theorem YI{n:Nat}{L:Nat->Nat}{ts:List Tr}(hn:n<=60)(ht:∀t∈ts,t.1<=n/\t.2.1<=n)
  (h:P (.sh (.tup (eX n (fF ts L)))) [.sh (.tup (eX n L)),.sh (.lst (ts.map Cz))]):KC [.sh (.tup (eX n L)),.sh (.lst (ts.map Cz))] P PX:=by
 refine iS rfl rfl ?_;simp! [zar];refine xK (λpre U=>∃o3 o4,U=[some (.sh (.tup (eX n L))),some (.sh (.lst (ts.map Cz))),some (.sh (.lst (eX n (fF pre L)))),o3,o4]) ts (λpre t post D2 U e hI hnx hct hrt hbk=>?_) (λU hI=>?_) ⟨none,none,rfl⟩
 .obtain⟨o3,o4,rfl⟩:=hI;have htt:=ht t (by rw[<-e];simp);simp! [Cz,length_cons,length_nil,BQ];refine Yl hn htt.1 htt.2 ?_;simp! [zar];refine hnx _ ⟨some (.sh (.int (t.1:Int))),some (.sh (.int (t.2.1:Int))),?_⟩;rw[Qt];rfl
 .obtain⟨o3,o4,rfl⟩:=hI;simp! [e_C];exact h
theorem Xb{B:List Wd}{w:Wd}(hf:tU B w)
  (h:P (.sh (.tup (eX w.length (fE B w)))) [.sh (zB B),.sh (.str w)]):KD [.sh (zB B),.sh (.str w)] P PX:=by
 have h12:=hf.tw;have hts:∀t∈eY B w,t.1<=w.length/\t.2.1<=w.length:=λt ht=>by have:=zaF.mp (zcs.mp ht).1;lia
 have h64:=Oh hf;rw[<-(Pb hf.nd hf.ne).length_eq]at h64;refine iS rfl rfl ?_;simp! [e_C];refine⟨by simp only[dD];lia,?_⟩;rw[jU (n:=w.length+1) (by lia)];refine⟨by rw[qp,qG];simp only[dD];lia,?_⟩;refine Yv hf ?_;simp! [zar];refine Ze (n:=2) (eY B w) (λt=>.sh (Cz t)) (λt ht l o1 o2 o3 K hl hK=>?_) λo1 o2 o3=>?_
 .simp! [eU,nZ,BR,Nn,length_cons,length_nil];exact⟨by simp only[dD];lia,hK _ _ _⟩
 .rw[show((eY B w).map λt=>S.sh (Cz t))=((eY B w).map Cz).map S.sh by rw[qH];rfl];simp! [zar];refine YI (n:=w.length) (L:=λp=>p) (ts:=eY B w) (by lia) hts ?_;simp! [e_C];exact h
structure Ja where
 B:List Wd
 w:Wd
 col:List Nat
structure Ja.ok(c:Ja)(most:Nat):Prop where
 B:lI c.col 6 most c.B
 w:c.w.length<=12
 wc:∀x∈c.w,x∈c.col
 c0:0<c.col.length
 c1:c.col.length<=26
 cs:c.col.Pairwise (·<·)
 cl:∀x∈c.col,97<=x/\x<=122
def GW(c:Ja):D:=.tup [zB c.B,.str c.w,.str c.col]
theorem Oy{n:Nat}:∀l:List Wd,(∀x∈l,x.length<=n)->(l.map List.length).sum<=l.length*n
 |[],_=>by simp
 |a::l,h=>by have h1:=h a (by simp);have h2:=Oy l λx hx=>h x (by simp[hx]);simp only[qB,sum_cons,qv,Nat.add_mul];lia
theorem XU{a s many most:Int}(ha:0<=a)(hs:1<=s)(hs2:s<=2147483629)(hm:0<many)(hm2:many<=26)(ho:1<=most)(ho2:most<=500)
  (h:∀(c:Ja) a' s',c.ok most.toNat->0<=a'->1<=s'->s'<=2147483629->P (.sh (GW c)) [aX a' s',.sh (.int many),.sh (.int most)]):BB [aX a s,.sh (.int many),.sh (.int most)] P PX:=by
 refine iS rfl rfl ?_;simp! [aX];refine kK ha hs hs2 (by lia) (by lia) λr a1 s1 hr hr2 ha1 hs1 hs21=>?_;simp! [aX];refine Yf ha1 hs1 hs21 (by lia) (by lia) λcol a2 s2 hcol hso hle ha2 hs2 hs22=>?_;simp! [aX];refine XS ha2 hs2 hs22 (by lia) (by lia) (by decide) (by decide) (by lia) (by lia) λB a3 s3 hB ha3 hs3 hs23=>?_;have hB':lI col 6 most.toNat B:=hB;simp! [aX];refine kK ha3 hs3 hs23 (by decide) (by decide) λr5 a5 s5 hr5 hr52 ha5 hs5 hs25=>?_;simp! [aX];refine Vg ha5 hs5 hs25 (by lia) (by lia) (by decide) (by decide) (by have:=hB'.1;lia) (λw hw=>⟨by have:=(hB'.2.2 w hw).2.1;lia,(hB'.2.2 w hw).2.2⟩) λt a4 s4 ht htc ha4 hs4 hs24=>?_;have ht':t.length<=12:=ht;have fin:∀(w:Wd)(b t:Int),0<=b->1<=t->t<=2147483629->w.length<=12->(∀x∈w,x∈col)->
   (zD (gW (fW (aV gB (zp 5) (wC (.int 1))) (aV gF (zp 4) (dS zt))) (zF (zu 6) (gV (AR iD (wC (.str [])) (zr (lY 7 1 (aZ (zE hW [true,true] (zr (zp 0) (zr (wC (.int 5)) zt)))) (zu 8) eV lS) zt)) none (some (wC (.int 12))))) bF)
  (bT (dS (zr (zp 4) (zr (zp 6) (zr (zp 3) zt))))))
   (My 3 [.lst [.sh (.int a),.sh (.int s)],.sh (.int many),.sh (.int most)] P PX) [some (.lst [.sh (.int b),.sh (.int t)]),some (.sh (.int many)),some (.sh (.int most)),some (.sh (.str col)),some (.sh (zB B)),some (.sh (.int r5)),some (.sh (.str w))]:=λw b t hb ht ht2 hw hwc=>by
  simp! [aX];cases q:decide (r5=1)
  .simp! [e_C];exact h ⟨B,w,col⟩ b t ⟨hB',hw,hwc,by show 0<col.length;lia,by show col.length<=26;lia,hso,hle⟩ hb ht ht2
  simp! [zB,VZ];cases q2:decide (B=[])
  .have hpos:0<B.length:=qS.mpr (of_decide_eq_false q2);simp! [e_C];refine kK hb ht ht2 (by decide) (by decide) λr6 a6 s6 hr6 hr62 ha6 hs6 hs26=>?_;simp! [aX];refine⟨by simp only[dD];lia,?_⟩;refine Zi (n:=7) (λz:Wd=>S.sh (.str z)) _ (λU=>∃a s,0<=a/\1<=s/\s<=2147483629/\U=[some (aX a s),some (.sh (.int many)),some (.sh (.int most)),some (.sh (.str col)),some (.sh (zB B)),some (.sh (.int r5)),some (.sh (.str w))]) (λz=>z∈B) (λx hx U A o K hI hA hK=>?_) (λU A o hI hA hP=>?_) ⟨a6,s6,ha6,hs6,hs26,rfl⟩
   .obtain⟨a,s,ha,hs,hs2,rfl⟩:=hI;have:=hB'.1;rw[Ew]at hA;simp! [eU,nZ,yK,aX,zB,length_map];refine kK ha hs hs2 (by lia) (by lia) λr7 a7 s7 hr7 hr72 ha7 hs7 hs27=>?_;obtain⟨z,hz,_,ez⟩:=ET (f:=D.str) (l:=B) hr7 hr72;simp! [ez,length_map];exact⟨by simp only[dD];lia,hK _ _ _ ⟨a7,s7,ha7,hs7,hs27,rfl⟩ hz⟩
   .obtain⟨a,s,ha,hs,hs2,rfl⟩:=hI;rw[Ew]at hA;have hfl:=Oy (n:=500) A λx hx=>by have:=(hB'.2.2 x (hP x hx)).2.1;lia
    rw[show(A.map λz:Wd=>S.sh (.str z))=(A.map D.str).map S.sh by rw[qH];rfl];simp! [aX,zar,XE (show(A.map List.length).sum<=big by simp only[dD];lia)];refine h ⟨B,aM A.flatten none (some 12),col⟩ a s ⟨hB',?_,λx hx=>?_,by show 0<col.length;lia,by show col.length<=26;lia,hso,hle⟩ ha hs hs2
    .show(aM A.flatten none (some 12)).length<=12;unfold aM sIx;simp;lia
    .have:=xY (show x∈aM A.flatten none (some 12) from hx);obtain⟨z,hz,hxz⟩:=List.mem_flatten.mp this;exact(hB'.2.2 z (hP z hz)).2.2 x hxz
  .simp! [e_C];exact h ⟨B,w,col⟩ b t ⟨hB',hw,hwc,by show 0<col.length;lia,by show col.length<=26;lia,hso,hle⟩ hb ht ht2
 simp! [aX,zar];cases q:decide (r5=0)
 .have:=fin t a4 s4 ha4 hs4 hs24 ht' htc;simp! [e_C]at this⊢;exact this
 .simp! [aX];refine Pp ha4 hs4 hs24 (by decide) (by decide) (by lia) (by lia) λw a6 s6 hw1 hw2 ha6 hs6 hs26=>?_;have:=fin w a6 s6 ha6 hs6 hs26 hw1 hw2;simp! [aX]at this⊢;exact this
theorem Jb{B:List Wd}{w:Wd}{p:Nat}(hp:p<=w.length):atI (bY B w) (p:Int)=some (.lst ((nb B w p).map zG)):=by refine xU (by lia) ?_;rw[qZ];unfold bY;rw[qI,getElem?_range (by lia)];rfl
abbrev TS:=List (Nat×Nat)
def gQ(L:TS):S:=.dct false (bR L) ((mV L).map .sh)
theorem Jq{B:List Wd}{w:Wd}{q:Nat}(h:bQ (aY B w) w.length q):q<=w.length:=by
 cases h with
 |refl=>exact zd _
 |step _ e=>exact(Tg _ _ e).2
theorem Ie{B:List Wd}{w:Wd}{L:TS}(h:nT (aY B w) w.length L):L.length<=w.length+1:=by
 have:=HV (L.map (·.1)) (List.range (w.length+1)) h.nd λx hx=>by obtain⟨t,ht,rfl⟩:=qN.mp hx;have:=Jq (Er (h.ok t ht).1);exact qM.mpr (by lia)
 rw[qp,qG]at this;exact this
theorem Yg{B:List Wd}{w:Wd}{D':Ends}{s1 o6:Option S}(h12:w.length<=60)
  (fin:∀(L:TS)(o4 o5:Option S),eD (aY B w) w.length L []->D'.nx [some (.sh (.lst (bY B w))),s1,some (gQ L),some (.lst []),o4,o5,o6]):
  gU (aV gF (zp 3) (eS zt)) lU D' [some (.sh (.lst (bY B w))),s1,some (gQ [(w.length,0)]),some (.lst [.sh (zG w.length)]),none,none,o6]:=by
 refine MN (λm U=>∃(L qu:TS)(o4 o5:Option S),eD (aY B w) w.length L qu/\m+2*L.length=2*(w.length+1)+qu.length/\m<=2*(w.length+1)/\U=[some (.sh (.lst (bY B w))),s1,some (gQ L),some (.lst ((bR qu).map .sh)),o4,o5,o6]) (2*(w.length+1)-1) ⟨[(w.length,0)],[(w.length,0)],none,none,eD.start,by simp;lia,by lia,rfl⟩ λm U hJ=>?_;obtain⟨L,qu,o4,o5,hq,hm,hmb,rfl⟩:=hJ;have hLl:=Ie hq.right;cases qu with
 |nil=>simp! [Fq,bR,map_nil,JD (show bM []<=29 by decide),isEmpty_nil];exact fin L o4 o5 hq
 |cons t qu=>
  have hmid:=hq.take;have hle:t.1<=w.length:=Jq (Er (hq.right.ok t hmid.tin).1);have hdk:bM (bR (t::qu))<=29:=Jw _ λd hd=>by unfold bR at hd;obtain⟨u,_,rfl⟩:=qN.mp hd;show 0<=29;decide
  rw[qv]at hm;have hql:qu.length<=2*(w.length+1):=by lia
  have hkl:(bR (t::qu)).length=qu.length+1:=by simp[bR]
  simp! [Fp,zar,JD hdk,show(bR (t::qu)).isEmpty=false from rfl,yM,length_map,hkl,Jb hle];refine Nj (s:=.sh (zG t.1)) (by decide) (by rw[qp,hkl];simp only[dD];lia) rfl ?_;rw[show(List.map S.sh (bR (t::qu))).eraseIdx (Int.toNat 0)=(bR qu).map S.sh from rfl];simp! [zG,Jb hle];refine xK (toD:=zG) (λpre U=>∃(L2 qu2:TS)(o5:Option S),xP (aY B w) w.length L2 qu2 t pre/\L2.length+qu.length=L.length+qu2.length/\L.length<=L2.length/\U=[some (.sh (.lst (bY B w))),s1,some (gQ L2),some (.lst ((bR qu2).map .sh)),some (.sh (.int (t.1:Int))),o5,o6]) (nb B w t.1) (λpre q post D2 U e hI hnx hct hrt hbk=>?_) (λU hI=>?_) ⟨L,qu,o5,hmid,rfl,zd _,rfl⟩
  .obtain⟨L2,qu2,o5,hm2,hl2,hl3,rfl⟩:=hI;have hqn:q∈nb B w t.1:=by rw[<-e];simp
   have hr:aY B w t.1 q:=za8.mp hqn;have hL2:=Ie hm2.right;by_cases hin:∃d,(q,d)∈L2
   .have hn:=NK (vs:=mV L2) hin;simp! [rE,zG,gQ,zgq,hn];obtain⟨d,hd⟩:=hin;exact hnx _ ⟨L2,qu2,_,hm2.skip hd,hl2,hl3,rfl⟩
   .have hn:=Nf (vs:=mV L2) hin;have hlk:lk (bR L2) (mV L2) (.int (t.1:Int))=some (.int (t.2:Int)):=Jx (f:=zG) hm2.right.nd (show(t.1,t.2)∈L2 from hm2.tin);simp! [rE,zG,gQ,zgq,hn,hlk];have k1:(bR L2).length=L2.length:=by simp[bR]
    have k2:((bR qu2).map S.sh).length=qu2.length:=by simp[bR]
    refine⟨TQ hm2.right.nd,by rw[k1];simp only[dD];lia,by rw[k2];simp only[dD];lia,?_⟩;rw[Vs λd hd=>hin ⟨d,hd⟩];refine hnx _ ⟨L2++[(q,t.2+1)],qu2++[(q,t.2+1)],some (.sh (.int (q:Int))),hm2.put hr (λe he=>hin ⟨e,he⟩),by simp only[qr,qE];lia,by simp only[qr,qE];lia,?_⟩;simp[gQ,bR,mV,zG]
  .obtain⟨L2,qu2,o5,hm2,hl2,hl3,rfl⟩:=hI;have hL2:=Ie hm2.right;refine MS (m':=2*(w.length+1)+qu2.length-2*L2.length) (by lia) ⟨L2,qu2,_,_,hm2.queue λq hq=>za8.mpr hq,by lia,by lia,rfl⟩
theorem Ng{B:List Wd}{w:Wd}{L:TS}(hq:eD (aY B w) w.length L []){q d:Nat}(h:aO (aY B w) w.length q d):lk (bR L) (mV L) (.int (q:Int))=some (.int (d:Int)):=Jx (f:=zG) hq.right.nd (hq.done h)
theorem WW{B:List Wd}{w:Wd}{D':Ends}{s1 o3 o4 o5:Option S}{L:TS}{p:Nat}(h12:w.length<=60)(hq:eD (aY B w) w.length L []){d:Nat}(hd:aO (aY B w) w.length p d)
  (fin:D'.nx [some (.sh (.lst (bY B w))),s1,some (gQ L),o3,o4,o5,some (.lst (((gJ B w d p).map zG).map .sh))]):
  gU (aV gF (fL (zp 6) (BI nE (wC (.int 1)))) (zC fB (wB aW (zr (zp 0) zt)) (wC (.int 1)))) lT D' [some (.sh (.lst (bY B w))),s1,some (gQ L),o3,o4,o5,some (.lst [.sh (zG p)])]:=by
 have htl:(bY B w).length=w.length+1:=by simp[bY]
 refine MN (λm U=>∃(pre:List Nat)(cur:Nat),aO (aY B w) w.length cur m/\pre++gJ B w m cur=gJ B w d p/\pre.length+m<=d/\U=[some (.sh (.lst (bY B w))),s1,some (gQ L),o3,o4,o5,some (.lst (((pre.map zG).map .sh)++[.sh (.int (cur:Int))]))]) d ⟨[],p,hd,rfl,by simp,rfl⟩ λm U hJ=>?_;obtain⟨pre,cur,hc,hw,hpl,rfl⟩:=hJ;have hcl:cur<=w.length:=Jq (Er hc.1);have e1:(((w.length+1:Nat):Int)-1)=(w.length:Int):=by lia
 simp! [HN,htl,e1];cases m with
 |zero=>
  have:=Jj hc;subst this;simp! [Fq,decide_true,Bool.not_true];have e2:((pre.map zG).map S.sh)++[S.sh (.int (w.length:Int))]=((gJ B w d p).map zG).map S.sh:=by rw[<-hw];simp[gJ,zG]
  rw[e2];exact fin
 |succ m=>
  have hne:¬(cur:Int)=(w.length:Int):=λz=>by
   have:cur=w.length:=by lia
   subst this;have:=Sf hc;lia
  have hdl:d<=w.length+1:=by have:=UK hq hd;have:=Ie hq.right;lia
  rw[qV hne];simp! [Fp,yL,HN,Jb hcl];obtain⟨r,hr,hn⟩:=Wk hc;refine IV (n:=7) (toD:=zG) (nb B w cur) (λq=>if decide (mN (aY B w) w.length q+1=mN (aY B w) w.length cur)=true then some (.sh (zG q))else none) (λq hqm l o K hl hK=>?_) λo=>?_
  .obtain⟨k,hk⟩:=za9.mp ((Er hc.1).step (za8.mp hqm));simp! [eU,zG,gQ,zgq,Ng hq hk,Ng hq hc,HN,rD];have hl1:=Hz (B:=B) (w:=w) (p:=cur);have eq:decide (mN (aY B w) w.length q+1=mN (aY B w) w.length cur)=decide ((k:Int)=((m+1:Nat):Int)-1):=by rw[Ed hk,Ed hc];exact decide_eq_decide.mpr (by lia)
   rw[eq]at hK;cases q2:decide ((k:Int)=((m+1:Nat):Int)-1)
   .rw[q2]at hK;simp! [EG];have:=hK (some (.sh (.int (q:Int))));rw[zc (by decide),toList_none,qC]at this;exact this
   .rw[q2]at hK;simp! [nZ,rD];exact⟨by simp only[dD];lia,hK _⟩
  .have hl1:=Hz (B:=B) (w:=w) (p:=cur);rw[EF (λq=>decide (mN (aY B w) w.length q+1=mN (aY B w) w.length cur)) (λq=>S.sh (zG q)),hr];have hso:(bU B w cur::r).Pairwise (·<·):=by rw[<-hr];exact zcY.filter _
   have eb:sJ [.lst (zG (bU B w cur)::r.map zG)]=some (.sh (.int ((bU B w cur:Nat):Int))):=by show(gO _).bind _=_;rw[show(zG (bU B w cur)::r.map zG)=((bU B w cur::r).map λq=>((q:Nat):Int)).map D.int by rw[qH];rfl,Pm,Option.bind_some,VO hso];rfl
   rw[show((bU B w cur::r).map λq=>S.sh (zG q))=((bU B w cur::r).map zG).map S.sh by rw[qH];rfl];simp! [zar,eb,length_append,length_map,length_singleton,length_cons,length_nil];refine⟨by simp only[dD];lia,MS (m':=m) (by lia) ⟨pre++[cur],bU B w cur,hn,?_,by rw[qr,qE];lia,?_⟩⟩
   .rw[<-hw];show pre++[cur]++gJ B w m (bU B w cur)=pre++(cur::gJ B w m (bU B w cur));simp
   .simp[zG,gQ]
theorem UW{B:List Wd}{w:Wd}{p:Nat}(h12:w.length<=60)(hp:p<=w.length)
  (h1:∀d,aO (aY B w) w.length p d->P (.sh (.tup ((gJ B w d p).map zG))) [.sh (.lst (bY B w)),.sh (.int (p:Int))])
  (h2:¬bQ (aY B w) w.length p->P (.sh (.tup [])) [.sh (.lst (bY B w)),.sh (.int (p:Int))]):BC [.sh (.lst (bY B w)),.sh (.int (p:Int))] P PX:=by
 have htl:(bY B w).length=w.length+1:=by simp[bY]
 have e1:(((w.length+1:Nat):Int)-1)=(w.length:Int):=by lia
 refine iS rfl rfl ?_;simp! [htl,e1];refine Yg h12 λL o4 o5 hq=>?_;by_cases hc:bQ (aY B w) w.length p
 .obtain⟨d,hd⟩:=za9.mp hc;have hn:=NK (vs:=mV L) ⟨d,hq.done hd⟩;simp! [gQ,zgq,hn];refine WW h12 hq hd ?_;simp! [zar];exact h1 d hd
 .have hn:=Nf (vs:=mV L) (L:=L) (q:=p) λ⟨d,hd⟩=>hc (za9.mpr ⟨d,hq.right.ok _ hd⟩);simp! [gQ,zgq,hn];exact h2 hc
theorem Ud{l:List Nat}(h:0<l.length):gB (.tup (l.map zG)) (.tup [])=some false:=by
 unfold gB;rw[zc (by
  have:hU (.tup (l.map zG))=1:=by show bM (l.map zG)+1=1;rw[show l.map zG=(l.map λq=>((q:Nat):Int)).map D.int by rw[qH];rfl,PY]
  rw[this];exact λz=>by cases l<;>exact Bool.noConfusion (show false=true from z))]
 cases l with
 |nil=>cases h
 |cons a l=>refine congrArg some ?_;rw[decide_eq_false_iff_not];exact λz=>by cases z
theorem VP:gB (.tup []) (.tup [])=some true:=by unfold gB;rw[zc (by decide)];simp
theorem Tj(B:List Wd)(w:Wd):∀d p,0<(gJ B w d p).length
 |0,_=>by simp[gJ]
 |_+1,_=>by simp[gJ]
theorem Wt{n:Nat}{f:Nat->Nat}:atI (eX n f) (-1)=some (.int ((f n:Nat):Int)):=by unfold eX;rw[List.range_succ,map_append];exact HN
theorem PK{B:List Wd}{w:Wd}(hf:tU B w)
  (h:P (.sh (.bl (decide (fE B w w.length=0)))) [.sh (zB B),.sh (.str w)]):IB [.sh (zB B),.sh (.str w)] P PX:=by
 refine iS rfl rfl ?_;simp! [e_C];refine Xb hf ?_;have e:decide (((fE B w w.length:Nat):Int)=0)=decide (fE B w w.length=0):=decide_eq_decide.mpr (by lia);simp! [Wt,e];exact h
def fx(B:List Wd)(w:Wd):Bool:=decide (fE B w w.length=0)
theorem zca{B:List Wd}{w:Wd}:fx B w=true↔bQ (aY B w) w.length 0:=by unfold fx;rw[qW];exact⟨λz=>(zdj.mp z).symm Ii,λz=>zdj.mpr (z.symm Ii)⟩
theorem So{B B':List Wd}{w:Wd}(h:∀x,x∈B↔x∈B'):fx B w=fx B' w:=by
 have e:aY B w=aY B' w:=by
  funext a b
  unfold aY rG gC;simp only[h]
 rw[Bool.eq_iff_iff,zca,zca,e]
def jn(B:List Wd)(p:Wd):List Wd:=B++[p].filter λw=>!decide (w∈B)
theorem Ya{B:List Wd}{p:Wd}(h6:B.length<=6)
  (h:P (.sh (zB (jn B p))) [.sh (zB B),.sh (.tup [.str p])]):KA [.sh (zB B),.sh (.tup [.str p])] P PX:=by
 refine iS rfl rfl ?_;simp! [zB];refine IV (n:=2) (toD:=D.str) [p] (λw=>if(!decide (w∈B))=true then some (.sh (.str w))else none) (λw hw l o K hl hK=>?_) λo=>?_
 .simp! [eU,OU];cases q:decide (w∈B)
  .simp! [nZ,BO];rw[q]at hK;rw[qE]at hl;exact⟨by simp only[dD];lia,hK _⟩
  .simp! [EG];rw[q]at hK;have:=hK (some (.sh (.str w)));rw[zc (by decide),toList_none,qC]at this;exact this
 .rw[EF (λw=>!decide (w∈B)) (λw=>S.sh (.str w)),show(([p].filter λw=>!decide (w∈B)).map λw=>S.sh (.str w))=(([p].filter λw=>!decide (w∈B)).map D.str).map S.sh by rw[qH];rfl];have:=length_filter_le (λw=>!decide (w∈B)) [p];rw[qE]at this;simp! [zar,length_map];rw[<-map_append];exact h
theorem zia{B:List Wd}{p x:Wd}:x∈jn B p↔x∈B++[p]:=by unfold jn;simp only[qA,mem_filter,qw,Bool.not_eq_true',decide_eq_false_iff_not];grind
theorem RR{B:List Wd}{w p:Wd}(hf:tU B w)(h6:B.length<=6)(hp:p≠[])(hl:p.length<=12):tU (jn B p) w:=by
 refine⟨?_,λx hx=>?_,λx hx=>?_,?_,hf.tw⟩
 .unfold jn;rw[qz];refine⟨hf.nd,(show[p].Nodup by simp).sublist List.filter_sublist,λa ha b hb e=>?_⟩;simp only[mem_filter,qw,Bool.not_eq_true',decide_eq_false_iff_not]at hb;exact hb.2 (e▸ha)
 .rcases qA.mp (zia.mp hx)with h|h
  .exact hf.ne x h
  .rw[qw]at h;subst h;exact hp
 .rcases qA.mp (zia.mp hx)with h|h
  .exact hf.le x h
  .rw[qw]at h;subst h;lia
 .unfold jn;have:=length_filter_le (λw=>!decide (w∈B)) [p];rw[qE]at this;rw[qr];lia
abbrev LW:=Nat×Wd
def hE(t:LW):D:=.tup [.int (t.1:Int),.str t.2]
def strOf:D->Wd
 |.str x=>x
 |_=>[]
def oJ(w:Wd)(m:Nat):List Wd:=(List.range (w.length-m+1)).map λi=>eO w i (i+m)
def qs(w:Wd)(m:Nat):List Wd:=(eN (bE ((oJ w m).map D.str))).map strOf
theorem Jk{L:List Wd}{d:D}(h:d∈bE (L.map D.str)):∃x∈L,d=.str x:=by obtain⟨x,hx,rfl⟩:=qN.mp (zbi.mp h);exact⟨x,hx,rfl⟩
theorem Hu(w:Wd)(m:Nat):eN (bE ((oJ w m).map D.str))=(qs w m).map D.str:=by
 unfold qs;rw[qH]
 conv=>lhs;rw[<-map_id (eN _)]
 refine map_congr_left λd hd=>?_;obtain⟨x,_,rfl⟩:=Jk ((AN _).mem_iff.mp hd);rfl
theorem Eb{w x:Wd}{m:Nat}(hm:m<=w.length):x∈qs w m↔∃i,i+m<=w.length/\x=eO w i (i+m):=by
 have h1:x∈qs w m↔D.str x∈bE ((oJ w m).map D.str):=by rw[<-(AN _).mem_iff,Hu,qN];exact⟨λh=>⟨x,h,rfl⟩,λ⟨y,h,e⟩=>by cases e;exact h⟩
 rw[h1,zbi,qN];unfold oJ;constructor
 .rintro⟨y,hy,e⟩;cases e;obtain⟨i,hi,rfl⟩:=qN.mp hy;have:=qM.mp hi;exact⟨i,by lia,rfl⟩
 .rintro⟨i,hi,rfl⟩;exact⟨_,qN.mpr ⟨i,qM.mpr (by lia),rfl⟩,rfl⟩
theorem Rm(w:Wd)(m:Nat):(qs w m).Pairwise (·<·):=by
 have h1:=Ir HK (bE ((oJ w m).map D.str)) λd hd=>by obtain⟨x,_,rfl⟩:=Jk hd;trivial
 have h2:(eN (bE ((oJ w m).map D.str))).Nodup:=(AN _).nodup_iff.mpr (Qn _);rw[Hu,pairwise_map]at h1;rw[Hu]at h2;refine(h1.and (pairwise_map.mp h2)).imp λ{a b} h=>?_;obtain⟨h3,h4⟩:=h;rw[Eo]at h3;have h5:¬b<a:=by simpa using h3
 have h6:a≠b:=λe=>h4 (by rw[e]);rcases Pc a b with h|h|h
 .exact h
 .exact(h5 h).elim
 .exact(h6 h).elim
def lC(w:Wd):List LW:=(List.range' 1 w.length).flatMap λm=>(qs w m).map λx=>(m,x)
theorem zb2{w:Wd}{t:LW}:t∈lC w↔1<=t.1/\t.1<=w.length/\t.2∈qs w t.1:=by
 unfold lC;simp only[mem_flatMap,qN,List.mem_range'_1];constructor
 .rintro⟨m,hm,x,hx,rfl⟩;exact⟨hm.1,by lia,hx⟩
 .rintro⟨h1,h2,h3⟩;exact⟨t.1,⟨h1,by lia⟩,t.2,h3,rfl⟩
def Hk(a b:LW):Prop:=a.1<b.1\/a.1=b.1/\a.2<b.2
theorem MZ(w:Wd):(lC w).Pairwise Hk:=by unfold lC;rw[List.pairwise_flatMap];refine⟨λm _=>pairwise_map.mpr ((Rm w m).imp λ{a b} h=>.inr ⟨rfl,h⟩),(List.pairwise_lt_range' (step:=1)).imp λ{a b} h x hx y hy=>?_⟩;obtain⟨_,_,rfl⟩:=qN.mp hx;obtain⟨_,_,rfl⟩:=qN.mp hy;exact .inl h
theorem TJ{a b:LW}(h:hE a=hE b):a=b:=by obtain⟨m,x⟩:=a;obtain⟨n,y⟩:=b;unfold hE at h;simp only[D.tup.injEq,List.cons.injEq,D.int.injEq,D.str.injEq]at h;grind
theorem Rk{a b:LW}(h:Hk a b):fZ (hE a) (hE b)=true:=by
 have k:∀t:LW,gG [false,true] [.int (t.1:Int),.str t.2]:=λ_=>trivial;unfold hE;rw[xV (k a) (k b),Es,HM];rcases h with h|⟨h,h2⟩
 .rw[zc (by lia),za (by lia)];rfl
 .rw[zc (by lia),zc (by lia)];show(!(aL [D.str b.2] [D.str a.2]==.lt))=true;rw[Es,EX,zc (lt_asymm h2),za h2];rfl
def dZ(w:Wd)(l:List Nat):List LW:=l.flatMap λi=>(List.range' (i+1) (w.length-i)).map λj=>(j-i,eO w i j)
theorem zfg{w:Wd}{t:LW}:t∈dZ w (List.range w.length)↔t∈lC w:=by
 rw[zb2];unfold dZ;simp only[mem_flatMap,qN,qM,List.mem_range'_1];constructor
 .rintro⟨i,hi,j,hj,rfl⟩;refine⟨by show 1<=j-i;lia,by show j-i<=w.length;lia,(Eb (by show j-i<=_;lia)).mpr ⟨i,by show i+(j-i)<=_;lia,?_⟩⟩;show eO w i j=eO w i (i+(j-i));rw[show i+(j-i)=j by lia]
 .rintro⟨h1,h2,h3⟩;obtain⟨i,hi,e⟩:=(Eb h2).mp h3;exact⟨i,by lia,i+t.1,by lia,by rw[<-e,show i+t.1-i=t.1 by lia]⟩
theorem Ox(w:Wd)(h12:w.length<=12):(dZ w (List.range w.length)).length<=78:=by
 have h:∀n<13,((List.range n).map λi=>n-i).sum<=78:=by decide
 unfold dZ;rw[List.length_flatMap];simp only[qp,List.length_range'];exact h _ (by lia)
theorem OG(w:Wd):((lC w).map hE).Perm (bE ((dZ w (List.range w.length)).map hE)):=by
 refine(List.perm_ext_iff_of_nodup (pairwise_map.mpr ((MZ w).imp λ{a b} h e=>?_)) (Qn _)).mpr λd=>?_
 .have:=TJ e;subst this;rcases h with h|h
  .exact lt_irrefl _ h
  .exact List.lt_irrefl _ h.2
 .rw[zbi,qN,qN];exact⟨λ⟨t,h,e⟩=>⟨t,zfg.mpr h,e⟩,λ⟨t,h,e⟩=>⟨t,zfg.mp h,e⟩⟩
theorem NZ{w:Wd}(h12:w.length<=12):(bE ((dZ w (List.range w.length)).map hE)).length<128:=by have h1:=Kj ((dZ w (List.range w.length)).map hE);have h2:=Ox w h12;rw[qp]at h1;lia
theorem SG{w:Wd}(h12:w.length<=12):(lC w).length<128:=by have h1:=(OG w).length_eq;have h2:=NZ h12;rw[qp]at h1;lia
theorem XB{w:Wd}(h12:w.length<=12):cT (bE ((dZ w (List.range w.length)).map hE))=some (.lst (((lC w).map hE).map .sh)):=by
 have hs:∀d∈bE ((dZ w (List.range w.length)).map hE),lK [false,true] d:=λd hd=>by obtain⟨t,_,rfl⟩:=qN.mp (zbi.mp hd);trivial
 unfold cT;rw[za (.inr ⟨NZ h12,.inr ⟨[false,true],(λz=>nomatch z),hs⟩⟩),Ei (HD _) (m:=(lC w).map hE) hs (OG w) (pairwise_map.mpr ((MZ w).imp Rk))]
theorem VS(w:Wd){pre post:List Nat}{k:Nat}(e:pre++k::post=List.range w.length)(h12:w.length<=12){n:Nat}(hn:n<=w.length-k):(dZ w pre++((List.range' (k+1) n).map λj=>(j-k,eO w k j))).length<=78:=by
 have h:=Ox w h12;have e2:dZ w (List.range w.length)=dZ w pre++(((List.range' (k+1) (w.length-k)).map λj=>(j-k,eO w k j))++dZ w post):=by rw[<-e];unfold dZ;rw[flatMap_append,flatMap_cons]
 rw[e2]at h;simp only[qr,qp,List.length_range']at h⊢;lia
theorem Rj(t:LW)(L:List LW):cX (hE t::bE (L.map hE))=true:=by
 unfold cX;rw[or_eq_true];refine .inr (qL.mpr λd hd=>?_);rcases qD.mp hd with rfl|hd
 .rfl
 .obtain⟨t,_,rfl⟩:=qN.mp (zbi.mp hd);rfl
theorem Xp(L:List LW)(t:LW):dB (bE (L.map hE)) (hE t)=bE ((L++[t]).map hE):=by unfold bE;rw[map_append,List.foldl_append];rfl
theorem Xo{w:Wd}(h12:w.length<=12)(h:P (.lst (((lC w).map hE).map .sh)) [.sh (.str w)]):Ky [.sh (.str w)] P PX:=by
 refine iS rfl rfl ?_;simp! [e_C];refine⟨by simp only[dD];lia,?_⟩;rw[jU (n:=w.length) rfl];refine HE (λpre U=>∃o2 o3,U=[some (.sh (.str w)),some (.set (bE ((dZ w pre).map hE))),o2,o3]) (List.range w.length) (λpre k post K U e hI hK=>?_) (λU hI=>?_) ⟨none,none,rfl⟩
 .obtain⟨o2,o3,rfl⟩:=hI;obtain⟨hk1,hk2⟩:=Ka e;simp! [eU,nZ,BL];refine⟨by simp only[dD];lia,?_⟩;rw[wO (a:=k+1) (n:=w.length+1) (by lia) (by lia),show w.length+1-(k+1)=w.length-k by lia];refine HE (λpre2 U=>∃o3,U=[some (.sh (.str w)),some (.set (bE ((dZ w pre++pre2.map λj=>(j-k,eO w k j)).map hE))),some (.sh (zG k)),o3]) (List.range' (k+1) (w.length-k)) (λpre2 j post2 K2 U e2 hI2 hK2=>?_) (λU hI2=>?_) ⟨o3,by simp[zG]⟩
  .obtain⟨o3,rfl⟩:=hI2;obtain⟨hj1,hj2⟩:=JU e2;have hb:=VS w e h12 (n:=pre2.length) (by lia);have hb2:=Kj ((dZ w pre++pre2.map λj=>(j-k,eO w k j)).map hE);simp only[qr,qp,List.length_range']at hb hb2;simp! [eU,nZ,BM,zG,HP];have ej:D.tup [.int ((j:Int)-(k:Int)),.str (eO w k j)]=hE (j-k,eO w k j):=by unfold hE;rw[show((j:Int)-(k:Int))=((j-k:Nat):Int) by lia]
   rw[ej];refine⟨Rj _ _,by lia,?_⟩;rw[Xp];exact hK2 _ ⟨some (.sh (.int (j:Int))),by simp[zG]⟩
  .obtain⟨o3,rfl⟩:=hI2;refine hK _ ⟨some (.sh (zG k)),o3,?_⟩;rw[show dZ w (pre++[k])=dZ w pre++((List.range' (k+1) (w.length-k)).map λj=>(j-k,eO w k j)) by unfold dZ;rw[flatMap_append];simp]
 .obtain⟨o2,o3,rfl⟩:=hI;simp! [XB h12,zar];exact h
def fst(B:List Wd)(w:Wd):Option LW:=(lC w).find? λt=>fx (B++[t.2]) w
theorem Ot{B:List Wd}{w:Wd}(h:fx B w=false):∃t,fst B w=some t:=by
 have hw:w≠[]:=λz=>by subst z;have:fx B []=true:=zca.mpr (.refl _);rw[this]at h;cases h
 have hp:0<w.length:=qS.mpr hw;have hm:(w.length,w)∈lC w:=zb2.mpr ⟨hp,zd _,(Eb (zd _)).mpr ⟨0,by simp,by simp[eO]⟩⟩;cases q:fst B w with
 |some t=>exact⟨t,rfl⟩
 |none=>have:=List.find?_eq_none.mp q _ hm;refine(this (zca.mpr ((bQ.refl _).step ?_))).elim;unfold aY rG;rw[or_eq_true];refine Or.inr (zaF.mpr ⟨hp,zd _,?_⟩);unfold eO;simp
theorem SM{B:List Wd}{w:Wd}{t:LW}(h:fst B w=some t):t.2≠[]/\t.2.length<=w.length:=by
 obtain⟨h1,h2,h3⟩:=zb2.mp (List.mem_of_find?_eq_some h);obtain⟨i,hi,e⟩:=(Eb h2).mp h3;have hl:t.2.length=t.1:=by rw[e];unfold eO;rw[qK,qJ];lia
 exact⟨λz=>by rw[z]at hl;simp at hl;lia,by lia⟩
theorem Rw{w:Wd}{t:LW}(h:t∈lC w):t.2≠[]/\t.2.length<=w.length:=by
 obtain⟨h1,h2,h3⟩:=zb2.mp h;obtain⟨i,hi,e⟩:=(Eb h2).mp h3;have hl:t.2.length=t.1:=by rw[e];unfold eO;rw[qK,qJ];lia
 exact⟨λz=>by rw[z]at hl;simp at hl;lia,by lia⟩
theorem Yx{B:List Wd}{w:Wd}(hf:tU B w)(h6:B.length<=6)
  (h1:fx B w=true->P (.sh .non) [.sh (zB B),.sh (.str w)])(h2:∀t,fx B w=false->fst B w=some t->P (.sh (.str t.2)) [.sh (zB B),.sh (.str w)]):Kz [.sh (zB B),.sh (.str w)] P PX:=by
 have h12:=hf.tw;have hpl:=SG h12;refine iS rfl rfl ?_;simp! [e_C];refine PK hf ?_;cases q:fx B w
 .have q':decide (fE B w w.length=0)=false:=q;simp! [q'];refine Xo h12 ?_;simp! [zar];refine QU (n:=3) (toD:=hE) (lC w) (λt=>if fx (jn B t.2) w=true then some (.sh (.str t.2))else none) (λt ht l o o' K hl hK=>?_) λo o'=>?_
  .have hp:=Rw ht;simp! [eU,hE,length_cons,length_nil];refine Ya h6 ?_;simp! [e_C];refine PK (RR hf h6 hp.1 (by lia)) ?_;cases q2:fx (jn B t.2) w
   .have q3:decide (fE (jn B t.2) w w.length=0)=false:=q2;rw[q2]at hK;simp! [q3,EG];have:=hK (some (.sh (.int (t.1:Int)))) (some (.sh (.str t.2)));rw[zc (by decide),toList_none,qC]at this;exact this
   .have q3:decide (fE (jn B t.2) w w.length=0)=true:=q2;rw[q2]at hK;simp! [q3,nZ,BN];exact⟨by simp only[dD];lia,hK _ _⟩
  .rw[EF (λt=>fx (jn B t.2) w) (λt:LW=>S.sh (.str t.2))];have ef:((lC w).filter λt=>fx (jn B t.2) w)=(lC w).filter λt=>fx (B++[t.2]) w:=List.filter_congr λt _=>So λ_=>zia;obtain⟨t,ht⟩:=Ot q;have hh:=List.head?_filter (p:=λt:LW=>fx (B++[t.2]) w) (l:=lC w);rw[show(lC w).find? (λt=>fx (B++[t.2]) w)=some t from ht]at hh;rw[ef];cases q4:(lC w).filter λt=>fx (B++[t.2]) w with
   |nil=>rw[q4]at hh;cases hh
   |cons t' r=>rw[q4]at hh;cases hh;rw[show((t::r).map λt:LW=>S.sh (.str t.2))=((t::r).map λt:LW=>D.str t.2).map S.sh by rw[qH];rfl];simp! [zar];exact h2 t q ht
 .have q':decide (fE B w w.length=0)=true:=q;simp! [q'];exact h1 q
theorem OS{B:List Wd}{w:Wd}(h12:w.length<=12)
  (h:P (.sh (.bl (fx B w))) [.sh (zB B),.sh (.str w)]):yB [.sh (zB B),.sh (.str w)] P PX:=by
 refine iS rfl rfl ?_;simp! [e_C];refine Xv (by lia) ?_;simp! [zar];refine UW (p:=0) (by lia) (by lia) (λd hd=>?_) λhn=>?_
 .have hz:fx B w=true:=zca.mpr (za9.mpr ⟨d,hd⟩);have hne:gB (.tup ((gJ B w d 0).map zG)) (.tup [])=some false:=Ud (Tj _ _ _ _);have hne2:gF (.tup ((gJ B w d 0).map zG)) (.tup [])=some true:=by unfold gF;rw[hne];rfl
  simp! [hne2];rw[hz]at h;exact h
 .have hz:fx B w=false:=by
   cases q:fx B w
   .rfl
   .exact(hn (zca.mp q)).elim
  have hne2:gF (.tup []) (.tup [])=some false:=by unfold gF;rw[VP];rfl
  simp! [hne2];rw[hz]at h;exact h
theorem Oq:∀{l:List D},(∀d∈l,∃x,d=.str x)->(cS l).isSome=true
 |[],_=>rfl
 |d::l,h=>by obtain⟨x,rfl⟩:=h d (by simp);have:=Oq (l:=l) λe he=>h e (by simp[he]);show((cS l).map (x::·)).isSome=true;rw[isSome_map];exact this
theorem Oz{B:List Wd}{w:Wd}(h6:B.length<=6)(h12:w.length<=12)
  (h1:fx B w=true->P (.sh .non) [.sh (zB B),.sh (.str w)])(h2:∀t,fx B w=false->fst B w=some t->P (.sh (.str t.2)) [.sh (zB B),.sh (.str w)]):BA [.sh (zB B),.sh (.str w)] P PX:=by
 refine iS rfl rfl ?_;simp! [e_C];refine OS h12 ?_;cases q:fx B w
 .simp! [e_C];refine⟨by simp only[dD];lia,?_⟩;rw[wO (a:=1) (n:=w.length+1) (by lia) (by lia),show w.length+1-1=w.length by lia];refine xK (λpre U=>(∀m∈pre,∀x∈qs w m,fx (B++[x]) w=false)/\∃o2 o3:Option S,U=[some (.sh (zB B)),some (.sh (.str w)),o2,o3]) (List.range' 1 w.length) (λpre m post D2 U e hI hnx hct hrt hbk=>?_) (λU hI=>?_) ⟨λ_ z=>(nomatch z),none,none,rfl⟩
  .obtain⟨hno,o2,o3,rfl⟩:=hI;obtain⟨hm1,hm2⟩:=JU e;simp! [yI];refine⟨by simp only[dD];lia,?_⟩;rw[jU (n:=w.length-m+1) (by lia)];refine IU (n:=4) (List.range (w.length-m+1)) (λi=>.sh (.str (eO w i (i+m)))) (λi hi l o K hl hK=>?_) λo=>?_
   .rw[qG]at hl;simp! [eU,nZ,yH,zG];rw[<-natCast_add,HP];exact⟨by simp only[dD];lia,hK _⟩
   .have hset:newS ((oJ w m).map D.str)=some (.set (bE ((oJ w m).map D.str))):=za ⟨by unfold cX;rw[or_eq_true];refine .inl (qL.mpr λd hd=>?_);obtain⟨x,_,rfl⟩:=qN.mp hd;rfl,by unfold oJ;rw[qp,qp,qG];lia⟩
    have hl1:=Kj ((oJ w m).map D.str);have hl2:((oJ w m).map D.str).length<=13:=by unfold oJ;rw[qp,qp,qG];lia
    have hso:cT (bE ((oJ w m).map D.str))=some (.lst (((qs w m).map D.str).map .sh)):=by rw[Om (Oq λd hd=>by obtain⟨x,_,rfl⟩:=Jk hd;exact⟨x,rfl⟩) (by lia),Hu]
    rw[show((List.range (w.length-m+1)).map λi=>S.sh (.str (eO w i (i+m))))=((oJ w m).map D.str).map S.sh by unfold oJ;rw[qH,qH];rfl];simp! [zar,hset,hso];refine xK (λpre2 U=>(∀x∈pre2,fx (B++[x]) w=false)/\∃o3:Option S,U=[some (.sh (zB B)),some (.sh (.str w)),some (.sh (zG m)),o3]) (qs w m) (λpre2 x post2 D3 U e2 hI2 hnx2 hct2 hrt2 hbk2=>?_) (λU hI2=>?_) ⟨λ_ z=>(nomatch z),o3,rfl⟩
    .obtain⟨hno2,o3,rfl⟩:=hI2;simp! [yJ,zB];rw[show B.map D.str++[D.str x]=(B++[x]).map D.str by simp];refine OS (B:=B++[x]) h12 ?_;cases q2:fx (B++[x]) w
     .simp! [e_C];refine hnx2 _ ⟨λy hy=>?_,_,rfl⟩;rcases qA.mp hy with hy|hy
      .exact hno2 y hy
      .rw[qw]at hy;subst hy;exact q2
     .simp! [hrt2,hrt];refine h2 (m,x) q ?_;unfold fst lC;rw[<-e,flatMap_append,List.find?_append,List.find?_eq_none.mpr λt ht=>?_,none_or,flatMap_cons,show(qs w m).map (λx=>(m,x))=pre2.map (λx=>(m,x))++(m,x)::post2.map (λx=>(m,x)) by rw[<-e2];simp,qq,List.find?_append,List.find?_eq_none.mpr λt ht=>?_,none_or,qR,List.find?_cons_of_pos (p:=λt:LW=>fx (B++[t.2]) w) (a:=(m,x)) q2]
      .obtain⟨y,hy,rfl⟩:=qN.mp ht;rw[hno2 y hy];decide
      .obtain⟨m',hm',z⟩:=mem_flatMap.mp ht;obtain⟨y,hy,rfl⟩:=qN.mp z;rw[hno m' hm' y hy];decide
    .obtain⟨hno2,o3,rfl⟩:=hI2;refine hnx _ ⟨λm' hm'=>?_,_,_,rfl⟩;rcases qA.mp hm' with hm'|hm'
     .exact hno m' hm'
     .rw[qw]at hm';subst hm';exact hno2
  .obtain⟨hno,o2,o3,rfl⟩:=hI;obtain⟨t,ht⟩:=Ot q;obtain⟨a1,a2,a3⟩:=zb2.mp (List.mem_of_find?_eq_some ht);have:=List.find?_some ht;rw[hno t.1 (List.mem_range'_1.mpr ⟨a1,by lia⟩) t.2 a3]at this;cases this
 .simp! [e_C];exact h1 q
theorem XJ{B:List Wd}{w:Wd}(hf:tU B w)(h6:B.length<=6)(hc:∀c∈w,c<128)
  (h:P (.sh (.bl true)) [.sh (zB B),.sh (.str w)]):Bz [.sh (zB B),.sh (.str w)] P PX:=by
 refine iS rfl rfl ?_;simp! [e_C];refine Yx hf h6 (λq=>?_) λt q ht=>?_
 .simp! [e_C];refine⟨rfl,Oz h6 hf.tw (λ_=>?_) λt q' _=>?_⟩
  .simp! [e_C];exact h
  .rw[q]at q';cases q'
 .simp! [e_C];refine⟨?_,Oz h6 hf.tw (λq'=>?_) λt' _ ht'=>?_⟩
  .have hi:=SM ht;have hm:∀c∈t.2,c<128:=λc hcm=>by obtain⟨h1,h2,h3⟩:=zb2.mp (List.mem_of_find?_eq_some ht);obtain⟨i,_,e⟩:=(Eb h2).mp h3;rw[e]at hcm;exact hc c (mem_of_mem_drop (mem_of_mem_take hcm))
   have h12:=hf.tw;unfold eG;rw[and_eq_true,and_eq_true];refine⟨qL.mpr λc hcm=>qU (lt_trans (hm c hcm) (by decide)),qU (show 0<=30 by decide),qU ?_⟩;show t.2.length<=1000000;lia
  .rw[q]at q';cases q'
  .rw[ht]at ht';cases ht';simp! [e_C];exact h
abbrev BW:=List Wd×Wd
def GT(c:BW):D:=.tup [zB c.1,.str c.2]
structure Gd(c:BW):Prop where
 ft:tU c.1 c.2
 six:c.1.length<=6
 ch:∀x∈c.2,x<128
theorem Nb{col:List Nat}{B:List Wd}{w:Wd}(h:lI col 6 6 B)(hw:w.length<=12):tU B w:=⟨h.2.1,λx hx=>(h.2.2 x hx).1,λx hx=>by have:=(h.2.2 x hx).2.1;lia,by have:=h.1;lia,hw⟩
theorem Sv{B C:List Wd}{w:Wd}(hs:C.Sublist B)(hf:tU B w):tU C w:=⟨hf.nd.sublist hs,λx hx=>hf.ne x (hs.subset hx),λx hx=>hf.le x (hs.subset hx),le_trans hs.length_le hf.six,hf.tw⟩
theorem vI:∀ns:List Int,ns.length<=63->uH [.sh (.lst (ns.map .int))] (λs _=>s=.sh (.bl true)) λ_ _=>False:=by
 intro ns hl;refine iS rfl rfl ?_;simp! [length_map];generalize hz:(if(if(6:Int)<(ns.length:Int)then(6:Int)else(ns.length:Int))>3 then(if(6:Int)<(ns.length:Int)then(6:Int)else(ns.length:Int))else 3)=z;have hz1:3<=z/\z<=6:=by subst hz;split<;>split<;>lia
 refine⟨by simp only[dD];lia,?_⟩;rw[jU (n:=z.toNat) (by lia)];refine xK (λpre U=>∃(A:List BW)(o2 o3 o4 o5 o6 o7:Option S),A.length=2*pre.length/\(∀c∈A,Gd c)/\U=[some (.sh (.lst (ns.map .int))),some (.sh (.lst (A.map GT))),o2,o3,o4,o5,o6,o7]) (List.range z.toNat) (λpre k post D2 U e hI hnx hct hrt hbk=>?_) (λU hI=>?_) ⟨[],none,none,none,none,none,none,by simp,by simp,rfl⟩
 .obtain⟨A,o2,o3,o4,o5,o6,o7,hA,hF,rfl⟩:=hI;have hk:=Ka e;simp! [yG];refine Vu (by lia) λa s ha hs hs2=>?_;simp! [aX];refine XU ha hs hs2 (by decide) (by decide) (by decide) (by decide) λc a' s' hc ha' hs' hs2'=>?_;have hB:lI c.col 6 6 c.B:=hc.B;have hw:=hc.w;have h6:=hB.1;have hch:∀x∈c.w,x<128:=λx hx=>by have:=hc.cl x (hc.wc x hx);lia
  have hcl:∀x∈c.col,x<128:=λx hx=>by have:=hc.cl x hx;lia
  have fin:∀(w':Wd)(b t:Int)(o7:Option S),w'.length<=12->(∀x∈w',x<128)->D2.nx [some (.sh (.lst (ns.map .int))),some (.sh (.lst ((A.map GT)++[.tup [.tup (c.B.map D.str),.str w'],.tup [.tup ((aM c.B (some 1) (some 5)).map D.str),.str w']]))),some (.sh (.int (k:Int))),some (.lst [.sh (.int b),.sh (.int t)]),some (.sh (.tup (c.B.map D.str))),some (.sh (.str w')),some (.sh (.str c.col)),o7]:=λw' b t o7 hw' hc'=>by
   have hs:(aM c.B (some 1) (some 5)).Sublist c.B:=(List.take_sublist _ _).trans (List.drop_sublist _ _);have hl:=hs.length_le;refine hnx _ ⟨A++[(c.B,w'),(aM c.B (some 1) (some 5),w')],_,_,_,_,_,_,by simp only[qr,qv,qy];lia,λx hx=>?_,by simp[GT,zB];exact⟨rfl,rfl,rfl,rfl,rfl,rfl⟩⟩;rcases qA.mp hx with hx|hx
   .exact hF x hx
   .simp only[qD,List.not_mem_nil,or_false]at hx;rcases hx with rfl|rfl
    .exact⟨Nb hB hw',h6,hc'⟩
    .exact⟨Sv hs (Nb hB hw'),by show(aM c.B (some 1) (some 5)).length<=6;lia,hc'⟩
  simp! [GW,aX,length_cons,length_nil];cases q:decide (c.w=[])
  .have hp:0<c.w.length:=qS.mpr (of_decide_eq_false q);have h0:=hc.c0;have h1:=hc.c1;simp! [aX];refine kK ha' hs' hs2' (by decide) (by decide) λr a1 s1 hr hr2 ha1 hs1 hs21=>?_;simp! [aX];cases q2:decide (r=0)
   .simp! [zB,length_map,length_cons,length_nil,zar];rw[HQ];exact fin c.w _ _ _ hw hch
   .simp! [aX];refine kK ha1 hs1 hs21 (by lia) (by lia) λx a2 s2 hx0 hx1 ha2 hs2 hs22=>?_;simp! [aX];refine kK ha2 hs2 hs22 (by lia) (by lia) λr3 a3 s3 hr3 hr32 ha3 hs3 hs23=>?_;obtain⟨y,hy,_,ey⟩:=Ec (l:=c.col) hr3 hr32;have l1:(aM c.w none (some x)).length<=1000:=le_trans (AO _ _ _) (by lia);have l2:(aM c.w (some (x+1)) none).length<=1000:=le_trans (AO _ _ _) (by lia);have l3:=DO (t:=c.w) (w:=[y]) (p:=x) (g:=x+1) hx0 (by lia) (by simp);simp! [aX,ey,zB,length_append,length_map,length_cons,length_nil,zar];rw[HQ];refine fin _ _ _ _ (by rw[l3];lia) λv hv=>?_;rcases qA.mp hv with z|z
    .rcases qA.mp z with z|z
     .exact hch v (xY z)
     .rw[qw.mp z];exact hcl y hy
    .exact hch v (xY z)
  .simp! [zB,length_map,length_cons,length_nil,zar];rw[HQ];exact fin c.w _ _ _ hw hch
 .obtain⟨A,o2,o3,o4,o5,o6,o7,hA,hF,rfl⟩:=hI;rw[qG]at hA;have hcl:=AO (A.map GT) none (some 1);rw[qp]at hcl;simp! [zar,length_map];rw[HQ,<-map_append];have hcl2:=AO A none (some 1);refine Zf (n:=8) (A++aM A none (some 1)) (λ_=>.sh (.bl true)) (λc hc l o o' K hl hK=>?_) λo o'=>?_
  .have hf:Gd c:=by
    rcases qA.mp hc with hc|hc
    .exact hF c hc
    .exact hF c (xY hc)
   rw[qr]at hl;simp! [eU,nZ,yF,GT,length_cons,length_nil];refine XJ hf.ft hf.six hf.ch ?_;simp! [e_C];exact⟨by simp only[dD];lia,hK _ _⟩
  .rw[show((A++aM A none (some 1)).map λ_=>S.sh (.bl true))=(((A++aM A none (some 1)).map λ_=>true).map D.bl).map S.sh by rw[qH,qH];rfl];simp! [zar,Sq,List.all_map];simp
end pu
end Law
section
set_option maxHeartbeats 4000000
namespace Law
open PySem PySem.Spec PyProof.Rows L2 FL
local macro_rules
 |`(tactic|trivial)=>`(tactic|first|exact Or.inl rfl|exact Or.inr rfl)
def top(i:Nat):Stmt:=PySem.Challenge.pw_walktold_k93_words_that_help.main.body.getD i (.Pass ⟨0,0,0,0⟩)
abbrev Ln:Stmt:=top 1
def Zb:List Str:=["board","word"]
abbrev LB:List Str:=["board","word"]
theorem Lc:aF Zb LB (aA Ln):=jJ
abbrev Lm:Stmt:=top 2
def YZ:List Str:=["board","word"]
abbrev LA:List Str:=["board","word"]
theorem Lb:aF YZ LA (aA Lm):=jJ
abbrev Ll:Stmt:=top 3
def YY:List Str:=["land","ends","told","i","j"]
abbrev Lz:List Str:=["land","ends"]
theorem uW:aF YY Lz (aA Ll):=jJ
abbrev Lj:Stmt:=top 4
def YX:List Str:=["land","i","j","low","high"]
abbrev Ly:List Str:=["land","i","j"]
theorem Ca:aF YX Ly (aA Lj):=jJ
abbrev Li:Stmt:=top 5
def YW:List Str:=["board","word"]
abbrev Lx:List Str:=["board","word"]
theorem La:aF YW Lx (aA Li):=jJ
abbrev Lh:Stmt:=top 7
def YV:List Str:=["one","other"]
abbrev Lw:List Str:=["one","other"]
theorem KZ:aF YV Lw (aA Lh):=jJ
abbrev Lg:Stmt:=top 9
def YU:List Str:=["board","word","helpers"]
abbrev Lv:List Str:=["board","word"]
theorem FK:aF YU Lv (aA Lg):=jJ
abbrev Lf:Stmt:=top 10
def YT:List Str:=["word"]
abbrev Lu:List Str:=["word"]
theorem KY:aF YT Lu (aA Lf):=jJ
abbrev Le:Stmt:=top 12
def YS:List Str:=["_law_script","_law_k","_law_cell","_law_seed"]
abbrev Ls:List Str:=["_law_script","_law_k"]
theorem uU:aF YS Ls (aA Le):=jJ
abbrev Ld:Stmt:=top 13
def YR:List Str:=["_law_box_here","_law_many","_law_digit","_law_one"]
abbrev Lr:List Str:=["_law_box_here","_law_many"]
theorem BZ:aF YR Lr (aA Ld):=jJ
abbrev Cp:Stmt:=top 14
def Mc:List Str:=["_law_box_here","_law_many","_law_left"]
abbrev CN:List Str:=["_law_box_here","_law_many"]
theorem AX:aF Mc CN (aA Cp):=jJ
abbrev Co:Stmt:=top 15
def Mb:List Str:=["_law_box_here","_law_colours_here","_law_most","_law_many"]
abbrev CM:List Str:=["_law_box_here","_law_colours_here","_law_most"]
theorem AW:aF Mb CM (aA Co):=jJ
abbrev Cn:Stmt:=top 16
def Ma:List Str:=["_law_box_here","_law_colours_here","_law_board_here","_law_one","_law_kind","_law_colour","_law_at"]
abbrev CL:List Str:=["_law_box_here","_law_colours_here","_law_board_here"]
theorem nB:aF Ma CL (aA Cn):=jJ
abbrev Cm:Stmt:=top 17
def LZ:List Str:=["_law_box_here","_law_colours_here","_law_many","_law_most","_law_found","_law_k","_law_word_here"]
abbrev CK:List Str:=["_law_box_here","_law_colours_here","_law_many","_law_most"]
theorem nA:aF LZ CK (aA Cm):=jJ
abbrev Ck:Stmt:=top 18
def LY:List Str:=["_law_board_here","_law_text","_law_p","_law_most","_law_found","_law_one"]
abbrev CJ:List Str:=["_law_board_here","_law_text","_law_p","_law_most"]
theorem uX:aF LY CJ (aA Ck):=jJ
abbrev Cj:Stmt:=top 19
def LX:List Str:=["_law_box_here","_law_board_here","_law_colours_here","_law_most","_law_text","_law_p","_law_turn","_law_some","_law_one","_law_goal","_law_at"]
abbrev CI:List Str:=["_law_box_here","_law_board_here","_law_colours_here","_law_most"]
theorem eP:aF LX CI (aA Cj):=jJ
abbrev Ci:Stmt:=top 20
def LV:List Str:=["_law_board_here","_law_word_here","_law_found","_law_i","_law_j"]
abbrev CH:List Str:=["_law_board_here","_law_word_here"]
theorem rL:aF LV CH (aA Ci):=jJ
abbrev Cg:Stmt:=top 21
def LU:List Str:=["_law_ties_here","_law_p","_law_steps","_law_here","_law_one","_law_q","_law_found"]
abbrev CG:List Str:=["_law_ties_here","_law_p"]
theorem kZ:aF LU CG (aA Cg):=jJ
abbrev Cf:Stmt:=top 22
def LR:List Str:=["_law_box_here","_law_many","_law_most","_law_colours_here","_law_board_here","_law_kind","_law_word_here"]
abbrev CF:List Str:=["_law_box_here","_law_many","_law_most"]
theorem jC:aF LR CF (aA Cf):=jJ
abbrev Ce:Stmt:=top 23
def LQ:List Str:=["_law_board_here","_law_word_here"]
abbrev CD:List Str:=["_law_board_here","_law_word_here"]
theorem FN:aF LQ CD (aA Ce):=jJ
abbrev Cd:Stmt:=top 24
def LP:List Str:=["_law_board_here","_law_word_here","_law_many","_law_one"]
abbrev CC:List Str:=["_law_board_here","_law_word_here"]
theorem uV:aF LP CC (aA Cd):=jJ
abbrev Cc:Stmt:=top 25
def LO:List Str:=["_law_board_here","_law_word_here"]
abbrev CB:List Str:=["_law_board_here","_law_word_here"]
theorem FM:aF LO CB (aA Cc):=jJ
abbrev Cb:Stmt:=top 26
def LN:List Str:=["_law_script","_law_asked_here","_law_k","_law_box_here","_law_board_here","_law_word_here","_law_colours_here","_law_at"]
abbrev CA:List Str:=["_law_script"]
theorem fY:aF LN CA (aA Cb):=jJ
structure Txt(K:W.Frag)(mg:Str->Option Value)(af:Nat->Addr):Prop where
 t_0:Tx K mg (af 0) "stretches" Ln LB
 t_1:Tx K mg (af 1) "lands" Lm LA
 t_2:Tx K mg (af 2) "all_joined" Ll Lz
 t_3:Tx K mg (af 3) "land_joined" Lj Ly
 t_4:Tx K mg (af 4) "is_fixed" Li Lx
 t_5:Tx K mg (af 5) "joined" Lh Lw
 t_6:Tx K mg (af 6) "helping" Lg Lv
 t_7:Tx K mg (af 7) "parts_in_order" Lf Lu
 t_8:Tx K mg (af 8) "_law_box" Le Ls
 t_9:Tx K mg (af 9) "_law_take" Ld Lr
 t_10:Tx K mg (af 10) "_law_colours" Cp CN
 t_11:Tx K mg (af 11) "_law_word" Co CM
 t_12:Tx K mg (af 12) "_law_near" Cn CL
 t_13:Tx K mg (af 13) "_law_board" Cm CK
 t_14:Tx K mg (af 14) "_law_moves" Ck CJ
 t_15:Tx K mg (af 15) "_law_led" Cj CI
 t_16:Tx K mg (af 16) "_law_ties" Ci CH
 t_17:Tx K mg (af 17) "_law_way" Cg CG
 t_18:Tx K mg (af 18) "_law_asked" Cf CF
 t_19:Tx K mg (af 19) "_law_fixed" Ce CD
 t_20:Tx K mg (af 20) "_law_due" Cd CC
 t_21:Tx K mg (af 21) "_law_right" Cc CB
 t_22:Tx K mg (af 22) "law" Cb CA
 n_all:mg "all"=none
 n_enumerate:mg "enumerate"=none
 n_int:mg "int"=none
 n_len:mg "len"=none
 n_list:mg "list"=none
 n_max:mg "max"=none
 n_min:mg "min"=none
 n_range:mg "range"=none
 n_repr:mg "repr"=none
 n_set:mg "set"=none
 n_sorted:mg "sorted"=none
 n_tuple:mg "tuple"=none
section
variable{P:Program}{w:World}{K:W.Frag}{mg:Str->Option Value}{base:Heap}{af:Nat->Addr}
theorem LL(T:Txt K mg af):kI P w K mg base af 1 0 LB (fS K KE 2):=jW T.t_0 Lc λ_ _ _ _ _ _ hr=>cI (gS (Fi hr (by rfl) T.n_sorted Fe (aB (RS (vars:=["i","k","one"]) rfl (OZ hr) (by rfl) (bW (by kernel_rfl)) rfl (tV (by rfl) T.n_range (eR (by rfl) T.n_len (aB (fw 1) aG))) (λ_ _ _=>kL 3) (λ_ _ _=>tN) (λ_ _ _=>Sz (by rfl) (by rfl) T.n_enumerate Ye (fw 0)) (λ_ _ _=>xS (by rfl) (kP (kL 4) (kP (kL 5) xX))) (λ_ _ _=>EN rfl (gH (λ_ _=>tO (tQ hr)) tY (Bt (fw 1) (fw 3) (dR (fw 3) (eR (by rfl) T.n_len (aB (fw 5) aG)))) (fw 5) (aJ _))) (λ_ _ _=>oA (aB (fw 3) (aB (dR (fw 3) (eR (by rfl) T.n_len (aB (fw 5) aG))) (aB (fw 4) aG))))) aG)))
theorem LI(T:Txt K mg af):kI P w K mg base af 1 3 Ly (fS K KB 3):=jW T.t_3 Ca λ_ _ _ _ _ _ hr=>cC (dW (oA (aB (Ni (by rfl) (by rfl) T.n_min Jo (aB (gI (fw 0) (fw 1)) (aB (gI (fw 0) (fw 2)) aG))) (aB (MY (by rfl) (by rfl) T.n_max Nq (aB (gI (fw 0) (fw 1)) (aB (gI (fw 0) (fw 2)) aG))) aG))) (xS (by rfl) (kP (cG 3 Ca.nd) (kP (cG 4 Ca.nd) xX))))
  (cI (gS (xH (vars:=["one"]) rfl (by rfl) (bW (by kernel_rfl)) rfl (tP (fw 0)) (λ_ _ _=>kL 6) (λ_ _ _=>tN) (λ_ _ _=>UX (gH (λ_ _=>tO (tQ hr)) tY (fw 6) (fw 4) (aJ _)) (fw 3) (fw 6)))))
theorem LH(T:Txt K mg af):kI P w K mg base af 1 5 Lw (fS K KA 2):=jW T.t_5 KZ λ_ _ _ _ _ _ hr=>cI (gS (dR (fw 0) (EZ (by rfl) T.n_tuple Eh (aB (xH (vars:=["word"]) rfl (by rfl) (bW (by kernel_rfl)) rfl (tP (fw 1)) (λ_ _ _=>kL 3) (λ_ _ _=>EN rfl (gH (λ_ _=>Il (oF hr)) Iw (fw 3) (fw 0) (by with_unfolding_all rfl))) (λ_ _ _=>fw 3)) aG))))
theorem LF(T:Txt K mg af):kI P w K mg base af 1 7 Lu (fS K Ky 1):=jW T.t_7 KY λ_ _ _ _ _ _ hr=>cI (gS (Fi hr (by rfl) T.n_sorted Fe (aB (Sk (vars:=["i","j"]) rfl (EH hr) (OZ hr) (by rfl) (bW (by kernel_rfl)) rfl (tV (by rfl) T.n_range (eR (by rfl) T.n_len (aB (fw 0) aG))) (λ_ _ _=>kL 2) (λ_ _ _=>tN) (λ_ _ _=>Kb (by rfl) T.n_range (dR (fw 2) bB) (dR (eR (by rfl) T.n_len (aB (fw 0) aG)) bB)) (λ_ _ _=>kL 3) (λ_ _ _=>tN) (λ_ _ _=>oA (aB (xJ (fw 3) (fw 2)) (aB (Bt (fw 0) (fw 2) (fw 3)) aG)))) aG)))
theorem LD(T:Txt K mg af):kI P w K mg base af 1 8 Ls (fS K Kx 2):=jW T.t_8 uU λ_ _ _ _ _ _ hr=>cC (dW (dR (xZ bB (fw 1)) bB) (cG 2 uU.nd))
  (cC (kQ (gH (λ_ _=>SQ) SX (fw 1) (eR (by rfl) T.n_len (aB (fw 0) aG)) (aJ _)) (cI (dW (gI (fw 0) (fw 1)) (cG 2 uU.nd))) (cI (kQ (gH (λ_ _=>EL) ER (eR (by rfl) T.n_len (aB (fw 0) aG)) bB (aJ _)) (cI (dW (dR (fw 2) (xZ (AL (gI (fw 0) (AL (fw 1) (eR (by rfl) T.n_len (aB (fw 0) aG)))) bB) bB)) (cG 2 uU.nd))) lQ)))
  (cC (dW (dR (AL (dR (xZ (AL (fw 2) bB) bB) (xZ bB (fw 1))) bB) bB) (cG 3 uU.nd))
  (cI (gS (sM (aB (gI (sM (aB bB (aB (fw 2) aG))) (Ju (by rfl) T.n_int Jh (aB (EJ (λ_ _=>Na) NB (fw 2) (Sh bB bB) (aJ _)) aG))) (aB (fw 3) aG)))))))
theorem dG(T:Txt K mg af):kI P w K mg base af 1 9 Lr (fS K hW 2):=jW T.t_9 BZ λ_ _ _ _ _ _ hr=>cC (kQ (gH (λ_ _=>EL) ER (gI (fw 0) bB) bB (aJ _)) (cC (dW (AL (gI (fw 0) bB) (fw 1)) (cG 2 BZ.nd))
  (cC (OF (j:=0) (fw 0) bB (Ny (gI (fw 0) bB) (fw 1)))
  (cI (gS (fw 2))))) lQ)
  (cC (dW (AL (xZ (gI (fw 0) bB) bB) bB) (cG 3 BZ.nd))
  (cC (OF (j:=0) (fw 0) bB (dR (AL (dR (xZ (fw 3) bB) bB) bB) bB))
  (cI (gS (AL (Ny (dR (xZ (fw 3) bB) (gI (fw 0) bB)) bB) (fw 1))))))
theorem Gs(T:Txt K mg af):kI P w K mg base af 1 14 CJ (fS K BE 4):=jW T.t_14 uX λ_ _ _ _ _ _ hr=>cC (dW (sM aG) (cG 4 uX.nd))
  (cC (xI (by rfl) (tP (fw 0)) (cG 5 uX.nd) (cC (kQ (DZ (Ef (gH (λ_ _=>tO (tQ hr)) tY (Bt (fw 1) (fw 2) (dR (fw 2) (eR (by rfl) T.n_len (aB (fw 5) aG)))) (AM (fw 5) (xJ (eR (by rfl) T.n_len (aB (fw 1) aG)) (fw 2))) (aJ _)) (En (gH (λ_ _=>SL) TU (dR (fw 2) (eR (by rfl) T.n_len (aB (fw 5) aG))) (fw 3) (aJ _))))) (cI (Bu (Fc (j:=4) (fw 4) (oA (aB (fw 5) (aB (dR (fw 2) (eR (by rfl) T.n_len (aB (fw 5) aG))) aG)))))) lQ)
  (cI (kQ (DZ (Ef (gH (λ_ _=>Na) NB (fw 2) (eR (by rfl) T.n_len (aB (fw 5) aG)) (aJ _)) (En (gH (λ_ _=>tO (tQ hr)) tY (Bt (fw 1) (xJ (fw 2) (eR (by rfl) T.n_len (aB (fw 5) aG))) (fw 2)) (fw 5) (aJ _))))) (cI (Bu (Fc (j:=4) (fw 4) (oA (aB (fw 5) (aB (xJ (fw 2) (eR (by rfl) T.n_len (aB (fw 5) aG))) aG)))))) lQ))))
  (cI (gS (fw 4))))
theorem Gq(T:Txt K mg af):kI P w K mg base af 1 16 CH (fS K yC 2):=jW T.t_16 rL λ_ _ _ _ _ _ hr=>cC (JZ (i:=2) (by decide) (λj hj=>HS rL.nd hj rfl) rfl (by rfl) (by rfl) (vars:=["_law_p"]) rfl (by rfl) (bW (by kernel_rfl)) rfl (tV (by rfl) T.n_range (dR (eR (by rfl) T.n_len (aB (fw 1) aG)) bB)) (λ_ _ _=>kL 6) (λ_ _ _=>tN) (λ_ _ _=>sM aG))
  (cC (xI (by rfl) (tV (by rfl) T.n_range (eR (by rfl) T.n_len (aB (fw 1) aG))) (cG 3 rL.nd) (cI (xI (by rfl) (Kb (by rfl) T.n_range (dR (fw 3) bB) (dR (eR (by rfl) T.n_len (aB (fw 1) aG)) bB)) (cG 4 rL.nd) (cI (kQ (gH (λ_ _=>RX (oF hr)) UH (Bt (fw 1) (fw 3) (fw 4)) (fw 0) (by with_unfolding_all rfl)) (cC (Bu (Qp (j:=2) (fw 2) (fw 3) (fw 4)))
  (cI (Bu (Qp (j:=2) (fw 2) (fw 4) (fw 3))))) lQ)))))
  (cI (gS (xH (vars:=["_law_some"]) rfl (by rfl) (bW (by kernel_rfl)) rfl (tP (fw 2)) (λ_ _ _=>kL 6) (λ_ _ _=>tN) (λ_ _ _=>oC (Fi hr (by rfl) T.n_sorted Fe (aB (fw 6) aG)))))))
theorem Gp(T:Txt K mg af):kI P w K mg base af 1 17 CG (fS K BC 2):=jW T.t_17 kZ λ_ _ _ _ _ _ hr=>cC (dW (Vc (xJ (eR (by rfl) T.n_len (aB (fw 0) aG)) bB) bB) (cG 2 kZ.nd))
  (cC (dW (sM (aB (xJ (eR (by rfl) T.n_len (aB (fw 0) aG)) bB) aG)) (cG 3 kZ.nd))
  (cC (OD (gH (λ_ _=>xG (oF hr)) xN (fw 3) (sM aG) (aJ _)) (cC (dW (oC (Oo (j:=3) (fw 3) bB)) (cG 4 kZ.nd))
  (cI (xI (by rfl) (tP (gI (fw 0) (fw 4))) (cG 5 kZ.nd) (cI (kQ (gH (λ_ _=>Il (oF hr)) Iw (fw 5) (fw 2) (by with_unfolding_all rfl)) (cC (TL (j:=2) (EH hr) (fw 2) (fw 5) (dR (Jf (EH hr) (fw 2) (fw 4)) bB))
  (cI (Bu (Fc (j:=3) (fw 3) (fw 5))))) lQ))))))
  (cC (kQ (gH (λ_ _=>Il (oF hr)) Iw (fw 1) (fw 2) (by with_unfolding_all rfl)) (cI (gS (oA aG))) lQ)
  (cC (dW (sM (aB (fw 1) aG)) (cG 6 kZ.nd))
  (cC (OD (gH (λ_ _=>xG (oF hr)) xN (gI (fw 6) (HF bB)) (xJ (eR (by rfl) T.n_len (aB (fw 0) aG)) bB) (aJ _)) (cI (Bu (Fc (j:=6) (fw 6) (oC (Tt (by rfl) (by rfl) T.n_min Jo (aB (xH (vars:=["_law_q"]) rfl (by rfl) (bW (by kernel_rfl)) rfl (tP (gI (fw 0) (gI (fw 6) (HF bB)))) (λ_ _ _=>kL 8) (λ_ _ _=>EN rfl (gH (λ_ _=>tO (tQ hr)) tY (Jf (EH hr) (fw 2) (fw 8)) (xJ (Jf (EH hr) (fw 2) (gI (fw 6) (HF bB))) bB) (aJ _))) (λ_ _ _=>fw 8)) aG)))))))
  (cI (gS (EZ (by rfl) T.n_tuple Eh (aB (fw 6) aG)))))))))
theorem LJ(T:Txt K mg af):kI P w K mg base af 2 2 Lz (fS K KC 2):=jW T.t_2 uW λ_ _ _ _ _ _ hr=>cC (dW (oC (Ow (by rfl) (by rfl) T.n_list Oi (aB (fw 0) aG))) (cG 2 uW.nd))
  (cC (xI (by rfl) (tP (fw 1)) (xS (by rfl) (kP (cG 3 uW.nd) (kP (cG 4 uW.nd) xX))) (cI (dW (oC (dE [true,true,true] T.t_3 (LI T) hr (aB (fw 2) (aB (fw 3) (aB (fw 4) aG))))) (cG 2 uW.nd))))
  (cI (gS (EZ (by rfl) T.n_tuple Eh (aB (fw 2) aG)))))
theorem Gw(T:Txt K mg af):kI P w K mg base af 2 10 CN (fS K BH 2):=jW T.t_10 AX λ_ _ _ _ _ _ hr=>cC (dW (Ow (by rfl) (by rfl) T.n_list Oi (aB (xW (by rfl) (by decide)) aG)) (cG 2 AX.nd))
  (cI (gS (Jt (xW (by rfl) (by decide)) (aB (Fi hr (by rfl) T.n_sorted Fe (aB (xH (vars:=["_law_k"]) rfl (by rfl) (bW (by kernel_rfl)) rfl (tV (by rfl) T.n_range (fw 1)) (λ_ _ _=>kL 4) (λ_ _ _=>tN) (λ_ _ _=>oC (Oo (j:=2) (fw 2) (dE [true,true] T.t_9 (dG T) hr (aB (fw 0) (aB (eR (by rfl) T.n_len (aB (fw 2) aG)) aG)))))) aG)) aG))))
theorem Bg(T:Txt K mg af):kI P w K mg base af 2 11 CM (fS K yD 3):=jW T.t_11 AW λ_ _ _ _ _ _ hr=>cC (dW (xZ (dE [true,true] T.t_9 (dG T) hr (aB (fw 0) (aB (dR (fw 2) bB) aG))) (Ju (by rfl) T.n_int Jh (aB (EJ (λ_ _=>xG (oF hr)) xN (fw 1) (xW (by rfl) (by decide)) (aJ _)) aG))) (cG 3 AW.nd))
  (cI (gS (Jt (xW (by rfl) (by decide)) (aB (xH (vars:=["_law_k"]) rfl (by rfl) (bW (by kernel_rfl)) rfl (tV (by rfl) T.n_range (fw 3)) (λ_ _ _=>kL 5) (λ_ _ _=>tN) (λ_ _ _=>gI (fw 1) (dE [true,true] T.t_9 (dG T) hr (aB (fw 0) (aB (eR (by rfl) T.n_len (aB (fw 1) aG)) aG))))) aG))))
theorem Gv(T:Txt K mg af):kI P w K mg base af 2 12 CL (fS K BG 3):=jW T.t_12 nB λ_ _ _ _ _ _ hr=>cC (dW (gI (fw 2) (dE [true,true] T.t_9 (dG T) hr (aB (fw 0) (aB (eR (by rfl) T.n_len (aB (fw 2) aG)) aG)))) (cG 3 nB.nd))
  (cC (dW (dE [true,true] T.t_9 (dG T) hr (aB (fw 0) (aB bB aG))) (cG 4 nB.nd))
  (cC (dW (gI (fw 1) (dE [true,true] T.t_9 (dG T) hr (aB (fw 0) (aB (eR (by rfl) T.n_len (aB (fw 1) aG)) aG)))) (cG 5 nB.nd))
  (cC (dW (dE [true,true] T.t_9 (dG T) hr (aB (fw 0) (aB (eR (by rfl) T.n_len (aB (fw 3) aG)) aG))) (cG 6 nB.nd))
  (cI (gS (gI (sM (aB (AM (fw 3) (dR (fw 6) bB)) (aB (Hy (fw 3) (fw 6)) (aB (dR (fw 5) (fw 3)) (aB (dR (fw 3) (fw 5)) (aB (dR (fw 3) (fw 3)) aG)))))) (fw 4)))))))
theorem Gr(T:Txt K mg af):kI P w K mg base af 2 15 CI (fS K BD 4):=jW T.t_15 eP λ_ _ _ _ _ _ hr=>cC (dW (oA (aB (xW (by rfl) (by decide)) (aB bB aG))) (xS (by rfl) (kP (cG 4 eP.nd) (kP (cG 5 eP.nd) xX))))
  (cC (xI (by rfl) (tV (by rfl) T.n_range (dR bB (dE [true,true] T.t_9 (dG T) hr (aB (fw 0) (aB bB aG))))) (cG 6 eP.nd) (cC (dW (oC (dE [true,true,true,true] T.t_14 (Gs T) hr (aB (fw 1) (aB (fw 4) (aB (fw 5) (aB (fw 3) aG)))))) (cG 7 eP.nd))
  (cC (kQ (gH (λ_ _=>EL) ER (fw 6) bB (aJ _)) (cI (MR (JZ (i:=7) (by decide) (λj hj=>HS eP.nd hj rfl) rfl (by rfl) (by rfl) (vars:=["_law_move"]) rfl (by rfl) (bW (by kernel_rfl)) rfl (tP (fw 7)) (λ_ _ _=>kL 12) (λ_ _ _=>EN rfl (gH (λ_ _=>EL) ER (gI (fw 12) bB) (fw 5) (aJ _))) (λ_ _ _=>fw 12)))) lQ)
  (cI (kQ (gH (λ_ _=>xG (oF hr)) xN (fw 7) (sM aG) (aJ _)) (cC (dW (gI (fw 7) (dE [true,true] T.t_9 (dG T) hr (aB (fw 0) (aB (eR (by rfl) T.n_len (aB (fw 7) aG)) aG)))) (xS (by rfl) (kP (cG 8 eP.nd) (kP (cG 9 eP.nd) xX))))
  (cC (kQ (gH (λ_ _=>EL) ER (fw 9) (fw 5) (aJ _)) (cI (dW (dR (dR (AM (fw 4) (fw 5)) (fw 8)) (Hy (fw 4) (fw 9))) (cG 4 eP.nd))) lQ)
  (cI (dW (fw 9) (cG 5 eP.nd))))) lQ)))))
  (cC (kQ (DZ (Ef (gH (λ_ _=>xG (oF hr)) xN (fw 4) (xW (by rfl) (by decide)) (aJ _)) (En (gH (λ_ _=>tO (tQ hr)) tY (dE [true,true] T.t_9 (dG T) hr (aB (fw 0) (aB bB aG))) bB (aJ _))))) (cC (dW (dE [true,true] T.t_9 (dG T) hr (aB (fw 0) (aB (eR (by rfl) T.n_len (aB (fw 4) aG)) aG))) (cG 10 eP.nd))
  (cI (dW (dR (dR (AM (fw 4) (fw 10)) (gI (fw 2) (dE [true,true] T.t_9 (dG T) hr (aB (fw 0) (aB (eR (by rfl) T.n_len (aB (fw 2) aG)) aG))))) (Hy (fw 4) (dR (fw 10) bB))) (cG 4 eP.nd)))) lQ)
  (cI (gS (fw 4)))))
theorem Bf(T:Txt K mg af):kI P w K mg base af 2 19 CD (fS K yB 2):=jW T.t_19 FN λ_ _ _ _ _ _ hr=>cI (gS (EJ (λ_ _=>xG (oF hr)) xN (dE [true,true] T.t_17 (Gp T) hr (aB (oC (dE [true,true] T.t_16 (Gq T) hr (aB (fw 0) (aB (fw 1) aG)))) (aB bB aG))) (oA aG) (aJ _)))
theorem LK(T:Txt K mg af):kI P w K mg base af 3 1 LA (fS K KD 2):=jW T.t_1 Lb λ_ _ _ _ _ _ hr=>cI (gS (dE [true,true] T.t_2 (LJ T) hr (aB (UG (by rfl) (by rfl) T.n_tuple Eh (by rfl) T.n_range (dR (eR (by rfl) T.n_len (aB (fw 1) aG)) bB)) (aB (oC (xH (vars:=["i","j","k"]) rfl (by rfl) (bW (by kernel_rfl)) rfl (tP (dE [true,true] T.t_0 (LL T) hr (aB (fw 0) (aB (fw 1) aG)))) (λ_ _ _=>xS (by rfl) (kP (kL 3) (kP (kL 4) (kP (kL 5) xX)))) (λ_ _ _=>tN) (λ_ _ _=>oA (aB (fw 3) (aB (fw 4) aG))))) aG))))
theorem Gu(T:Txt K mg af):kI P w K mg base af 3 13 CK (fS K BF 4):=jW T.t_13 nA λ_ _ _ _ _ _ hr=>cC (dW (sM aG) (cG 4 nA.nd))
  (cC (xI (by rfl) (tV (by rfl) T.n_range (xZ (dE [true,true] T.t_9 (dG T) hr (aB (fw 0) (aB (dR (fw 2) bB) aG))) (Ju (by rfl) T.n_int Jh (aB (EJ (λ_ _=>xG (oF hr)) xN (fw 1) (xW (by rfl) (by decide)) (aJ _)) aG)))) (cG 5 nA.nd) (cC (dW (dR (gI (fw 1) (dE [true,true] T.t_9 (dG T) hr (aB (fw 0) (aB (eR (by rfl) T.n_len (aB (fw 1) aG)) aG)))) (dE [true,true,true] T.t_11 (Bg T) hr (aB (fw 0) (aB (fw 1) (aB (xJ (fw 3) bB) aG))))) (cG 6 nA.nd))
  (cC (kQ (DZ (Ef (gH (λ_ _=>xG (oF hr)) xN (fw 4) (sM aG) (aJ _)) (En (gH (λ_ _=>tO (tQ hr)) tY (dE [true,true] T.t_9 (dG T) hr (aB (fw 0) (aB bB aG))) bB (aJ _))))) (cI (dW (AM (dE [true,true,true] T.t_12 (Gv T) hr (aB (fw 0) (aB (fw 1) (aB (fw 4) aG)))) (fw 3)) (cG 6 nA.nd))) lQ)
  (cI (kQ (gH (λ_ _=>Il (oF hr)) Iw (fw 6) (fw 4) (by with_unfolding_all rfl)) (cI (Bu (Fc (j:=4) (fw 4) (fw 6)))) lQ)))))
  (cI (gS (EZ (by rfl) T.n_tuple Eh (aB (fw 4) aG)))))
theorem Gm(T:Txt K mg af):kI P w K mg base af 3 20 CC (fS K BA 2):=jW T.t_20 uV λ_ _ _ _ _ _ hr=>cC (kQ (HC (dE [true,true] T.t_19 (Bf T) hr (aB (fw 0) (aB (fw 1) aG)))) (cI (gS Nm)) lQ)
  (cC (xI (by rfl) (Kb (by rfl) T.n_range bB (dR (eR (by rfl) T.n_len (aB (fw 1) aG)) bB)) (cG 2 uV.nd) (cI (xI (by rfl) (tP (Fi hr (by rfl) T.n_sorted Fe (aB (TY hr (by rfl) T.n_set RA (aB (xH (vars:=["_law_i"]) rfl (by rfl) (bW (by kernel_rfl)) rfl (tV (by rfl) T.n_range (dR (xJ (eR (by rfl) T.n_len (aB (fw 1) aG)) (fw 2)) bB)) (λ_ _ _=>kL 5) (λ_ _ _=>tN) (λ_ _ _=>Bt (fw 1) (fw 5) (dR (fw 5) (fw 2)))) aG)) aG))) (cG 3 uV.nd) (cI (kQ (HC (dE [true,true] T.t_19 (Bf T) hr (aB (dR (EZ (by rfl) T.n_tuple Eh (aB (fw 0) aG)) (oA (aB (fw 3) aG))) (aB (fw 1) aG)))) (cI (gS (fw 3))) lQ)))))
  (cI (gS (fw 1))))
theorem Gi(T:Txt K mg af):kI P w K mg base af 4 4 Lx (fS K IB 2):=jW T.t_4 La λ_ _ _ _ _ _ hr=>cI (gS (EJ (λ_ _=>tO (tQ hr)) tY (gI (dE [true,true] T.t_1 (LK T) hr (aB (fw 0) (aB (fw 1) aG))) (HF bB)) bB (aJ _)))
theorem Gn(T:Txt K mg af):kI P w K mg base af 4 18 CF (fS K BB 3):=jW T.t_18 jC λ_ _ _ _ _ _ hr=>cC (dW (dE [true,true] T.t_10 (Gw T) hr (aB (fw 0) (aB (dR bB (dE [true,true] T.t_9 (dG T) hr (aB (fw 0) (aB (fw 1) aG)))) aG))) (cG 3 jC.nd))
  (cC (dW (oC (dE [true,true,true,true] T.t_13 (Gu T) hr (aB (fw 0) (aB (fw 3) (aB bB (aB (fw 2) aG)))))) (cG 4 jC.nd))
  (cC (dW (dE [true,true] T.t_9 (dG T) hr (aB (fw 0) (aB bB aG))) (cG 5 jC.nd))
  (cC (dW (oC (dE [true,true,true,true] T.t_15 (Gr T) hr (aB (fw 0) (aB (fw 4) (aB (fw 3) (aB bB aG)))))) (cG 6 jC.nd))
  (cC (kQ (gH (λ_ _=>tO (tQ hr)) tY (fw 5) bB (aJ _)) (cI (dW (dE [true,true,true] T.t_11 (Bg T) hr (aB (fw 0) (aB (fw 3) (aB bB aG)))) (cG 6 jC.nd))) lQ)
  (cC (kQ (DZ (Ef (gH (λ_ _=>tO (tQ hr)) tY (fw 5) bB (aJ _)) (En (gH (λ_ _=>xG (oF hr)) xN (fw 4) (oA aG) (aJ _))))) (cI (dW (AM (Jt (xW (by rfl) (by decide)) (aB (xH (vars:=["_law_k"]) rfl (by rfl) (bW (by kernel_rfl)) rfl (tV (by rfl) T.n_range (dE [true,true] T.t_9 (dG T) hr (aB (fw 0) (aB bB aG)))) (λ_ _ _=>kL 8) (λ_ _ _=>tN) (λ_ _ _=>gI (fw 4) (dE [true,true] T.t_9 (dG T) hr (aB (fw 0) (aB (eR (by rfl) T.n_len (aB (fw 4) aG)) aG))))) aG)) bB) (cG 6 jC.nd))) lQ)
  (cI (gS (oA (aB (fw 4) (aB (fw 6) (aB (fw 3) aG)))))))))))
theorem LG(T:Txt K mg af):kI P w K mg base af 5 6 Lv (fS K Kz 2):=jW T.t_6 FK λ_ _ _ _ _ _ hr=>cC (kQ (HC (dE [true,true] T.t_4 (Gi T) hr (aB (fw 0) (aB (fw 1) aG)))) (cI (gS Nm)) lQ)
  (cC (MR (JZ (i:=2) (by decide) (λj hj=>HS FK.nd hj rfl) rfl (by rfl) (by rfl) (vars:=["length","part"]) rfl (by rfl) (bW (by kernel_rfl)) rfl (tP (dE [true] T.t_7 (LF T) hr (aB (fw 1) aG))) (λ_ _ _=>xS (by rfl) (kP (kL 4) (kP (kL 5) xX))) (λ_ _ _=>EN rfl (HC (dE [true,true] T.t_4 (Gi T) hr (aB (oC (dE [true,true] T.t_5 (LH T) hr (aB (fw 0) (aB (oA (aB (fw 5) aG)) aG)))) (aB (fw 1) aG))))) (λ_ _ _=>fw 5)))
  (cI (gS (gI (fw 2) bB))))
theorem Gk(T:Txt K mg af):kI P w K mg base af 6 21 CB (fS K Bz 2):=jW T.t_21 FM λ_ _ _ _ _ _ hr=>cI (gS (XD hr (by rfl) T.n_repr (dE [true,true] T.t_6 (LG T) hr (aB (fw 0) (aB (fw 1) aG))) (dE [true,true] T.t_20 (Gm T) hr (aB (fw 0) (aB (fw 1) aG)))))
theorem Gj(T:Txt K mg af):kI P w K mg base af 7 22 CA (fS K uH 1):=jW T.t_22 fY λ_ _ _ _ _ _ hr=>cC (dW (oC (sM aG)) (cG 1 fY.nd))
  (cC (xI (by rfl) (tV (by rfl) T.n_range (MY (by rfl) (by rfl) T.n_max Nq (aB bB (aB (Ni (by rfl) (by rfl) T.n_min Jo (aB (eR (by rfl) T.n_len (aB (fw 0) aG)) (aB bB aG))) aG)))) (cG 2 fY.nd) (cC (dW (dE [true,true] T.t_8 (LD T) hr (aB (fw 0) (aB (fw 2) aG))) (cG 3 fY.nd))
  (cC (dW (dE [true,true,true] T.t_18 (Gn T) hr (aB (fw 3) (aB bB (aB bB aG)))) (xS (by rfl) (kP (cG 4 fY.nd) (kP (cG 5 fY.nd) (kP (cG 6 fY.nd) xX)))))
  (cC (kQ (DZ (Ef (gH (λ_ _=>xG (oF hr)) xN (fw 5) (xW (by rfl) (by decide)) (aJ _)) (En (gH (λ_ _=>tO (tQ hr)) tY (dE [true,true] T.t_9 (dG T) hr (aB (fw 3) (aB bB aG))) bB (aJ _))))) (cC (dW (dE [true,true] T.t_9 (dG T) hr (aB (fw 3) (aB (eR (by rfl) T.n_len (aB (fw 5) aG)) aG))) (cG 7 fY.nd))
  (cI (dW (dR (dR (AM (fw 5) (fw 7)) (gI (fw 6) (dE [true,true] T.t_9 (dG T) hr (aB (fw 3) (aB (eR (by rfl) T.n_len (aB (fw 6) aG)) aG))))) (Hy (fw 5) (dR (fw 7) bB))) (cG 5 fY.nd)))) lQ)
  (cI (dW (oC (dR (fw 1) (sM (aB (oA (aB (fw 4) (aB (fw 5) aG))) (aB (oA (aB (Bt (fw 4) bB bB) (aB (fw 5) aG))) aG))))) (cG 1 fY.nd)))))))
  (cI (gS (RW (by rfl) (by rfl) T.n_all Si (aB (xH (vars:=["_law_board_here","_law_word_here"]) rfl (by rfl) (bW (by kernel_rfl)) rfl (tP (dR (fw 1) (AM (fw 1) bB))) (λ_ _ _=>xS (by rfl) (kP (kL 9) (kP (kL 10) xX))) (λ_ _ _=>tN) (λ_ _ _=>oC (dE [true,true] T.t_21 (Gk T) hr (aB (fw 9) (aB (fw 10) aG))))) aG)))))
end
theorem all_mk{l:W.OpenLaw}{w:World}{K:W.Frag}{h:Heap}{mg:Str->Option Value}{fa:Addr}(X:K.In h)(G:h.Ns mainGlobals mg)(hfa:mg "law"=some (.ref fa))
  {f_0 f_1 f_2 f_3 f_4 f_5 f_6 f_7 f_8 f_9 f_10 f_11 f_12 f_13 f_14 f_15 f_16 f_17 f_18 f_19 f_20 f_21 f_22:Addr}
  (h_0:Lk K "stretches" Ln f_0)
  (h_1:Lk K "lands" Lm f_1)
  (h_2:Lk K "all_joined" Ll f_2)
  (h_3:Lk K "land_joined" Lj f_3)
  (h_4:Lk K "is_fixed" Li f_4)
  (h_5:Lk K "joined" Lh f_5)
  (h_6:Lk K "helping" Lg f_6)
  (h_7:Lk K "parts_in_order" Lf f_7)
  (h_8:Lk K "_law_box" Le f_8)
  (h_9:Lk K "_law_take" Ld f_9)
  (h_10:Lk K "_law_colours" Cp f_10)
  (h_11:Lk K "_law_word" Co f_11)
  (h_12:Lk K "_law_near" Cn f_12)
  (h_13:Lk K "_law_board" Cm f_13)
  (h_14:Lk K "_law_moves" Ck f_14)
  (h_15:Lk K "_law_led" Cj f_15)
  (h_16:Lk K "_law_ties" Ci f_16)
  (h_17:Lk K "_law_way" Cg f_17)
  (h_18:Lk K "_law_asked" Cf f_18)
  (h_19:Lk K "_law_fixed" Ce f_19)
  (h_20:Lk K "_law_due" Cd f_20)
  (h_21:Lk K "_law_right" Cc f_21)
  (h_22:Lk K "law" Cb f_22)
  (z_all:W.nsIn K mainGlobals "all"=some none)
  (z_enumerate:W.nsIn K mainGlobals "enumerate"=some none)
  (z_int:W.nsIn K mainGlobals "int"=some none)
  (z_len:W.nsIn K mainGlobals "len"=some none)
  (z_list:W.nsIn K mainGlobals "list"=some none)
  (z_max:W.nsIn K mainGlobals "max"=some none)
  (z_min:W.nsIn K mainGlobals "min"=some none)
  (z_range:W.nsIn K mainGlobals "range"=some none)
  (z_repr:W.nsIn K mainGlobals "repr"=some none)
  (z_set:W.nsIn K mainGlobals "set"=some none)
  (z_sorted:W.nsIn K mainGlobals "sorted"=some none)
  (z_tuple:W.nsIn K mainGlobals "tuple"=some none):
  ∃fd:FuncData,(∀(s:Shared)(v:Value),BindsTo s fd ⟨[v],[]⟩ [("_law_script",v)])/\∀base:Heap,K.In base->base.Ns mainGlobals mg->iL l.prog w K mg base (nW l.prog w) 7 fa fd ["_law_script"] (fS K uH 1):=by
 have e:=hfa.symm.trans (h_22.mm X G);cases e;have T:Txt K mg (λn=>[f_0,f_1,f_2,f_3,f_4,f_5,f_6,f_7,f_8,f_9,f_10,f_11,f_12,f_13,f_14,f_15,f_16,f_17,f_18,f_19,f_20,f_21,fa].getD n 0):=⟨h_0.tx X G,h_1.tx X G,h_2.tx X G,h_3.tx X G,h_4.tx X G,h_5.tx X G,h_6.tx X G,h_7.tx X G,h_8.tx X G,h_9.tx X G,h_10.tx X G,h_11.tx X G,h_12.tx X G,h_13.tx X G,h_14.tx X G,h_15.tx X G,h_16.tx X G,h_17.tx X G,h_18.tx X G,h_19.tx X G,h_20.tx X G,h_21.tx X G,h_22.tx X G,W.mg_none_of X G z_all,W.mg_none_of X G z_enumerate,W.mg_none_of X G z_int,W.mg_none_of X G z_len,W.mg_none_of X G z_list,W.mg_none_of X G z_max,W.mg_none_of X G z_min,W.mg_none_of X G z_range,W.mg_none_of X G z_repr,W.mg_none_of X G z_set,W.mg_none_of X G z_sorted,W.mg_none_of X G z_tuple⟩
 exact⟨_,λs v=>h_22.bt s v,λbase _ _=>Gj T⟩
theorem walk{l:W.OpenLaw}{q:Program}{loose:List Str}{XP:(Str->Option Value)->Heap->Prop}{YP:World->Heap->Prop}{d:DefRec}{K:Params->W.Frag}(hn:l.most=some 63)(hdf:d.params.defaults=[])
  (hY:∀(w:World)(h:Heap),YP w h->(K w.params).In h)
  (F:∀(w:World)(mg:Str->Option Value)(fa:Addr)(h:Heap),(K w.params).In h->h.Ns mainGlobals mg->mg d.name=some (.ref fa)->
   ∃fd:FuncData,(∀(s:Shared)(u:Value),BindsTo s fd ⟨[u],[]⟩ [("_law_script",u)])/\∀base:Heap,(K w.params).In base->base.Ns mainGlobals mg->iL l.prog w (K w.params) mg base (nW l.prog w) 7 fa fd ["_law_script"] (fS (K w.params) uH 1)):
  W.WalkO q loose XP YP l.row.toRowW d [] (λf vs=>PySem.call f vs):=
 L2.walk_of (n:=63) (k:=7) (x:="_law_script") (CX:=λw=>nW l.prog w) (sp:=λw=>fS (K w.params) uH 1) hn (by decide) hdf ⟨rfl,by decide,by decide,rfl⟩ hY F (λ_ H a ns hl _ hS=>Se vI H a ns hl hS) λ_ _ _ _ _ h=>(show False from h).elim
end Law
end
open PySem PySem.W PyProof.Rows
namespace PySem.W.Fast
def tw15241303660286860167:=0
def tw7130918976852058530:=0
def tw193248065983867690:=0
def tw1432939634008036729:=0
def tw4044392056515613699:=0
def tw17577690807668072970:=0
def tw13387020921114607430:=0
def tw15483000145432644467:=0
def tw4872395516996960272:=0
def tw18048059788530339299:=0
def tw11652129995232967082:=0
def tw3749614312063989823:=0
def tw12285717220770207178:=0
def tw17364970812222551708:=0
def tw17164329663610946806:=0
def tw12654198423497971443:=0
def tw3964713279282855354:=0
def tw9426585986015878562:=0
def tw2434373242988368890:=0
def tw909731055308931543:=0
def tw16157335249210161653:=0
def tw2280820037405347268:=0
def tw1856291875859431431:=0
def tw4372814106368845888:=0
def tw15290764215244300203:=0
def tw5488182117944731611:=0
def tw13015934440732704239:=0
def tw14566531831823070097:=0
def tw17969904964145230104:=0
def tw4217540639906527519:=0
def tw8872279505671628575:=0
def tw14398973215226577354:=0
def tw12020223661357821525:=0
def tw7243254033549690000:=0
def tw12070024541543928668:=0
def tw8770822283658328155:=0
def tw17269862441854984586:=0
def tw12518771642159871980:=0
def tw11556398179711288571:=0
def tw1049717594031166991:=0
def tw15616995090903289603:=0
def tw18304797905961999994:=0
def tw17472293815258418129:=0
def tw10217908154908016969:=0
def tw14982956318438890655:=0
def tw4989015672900033143:=0
def tw8528602028320985326:=0
def tw13070623575685647278:=0
def tw7708718020713083685:=0
def tw3180874344650014418:=0
def tw18373393503301435260:=0
def tw15105734833547745956:=0
def tw5851948203353049431:=0
def tw5511109931216407394:=0
def tw13385928515373913516:=0
def tw11793051547538759615:=0
def tw16575396668807752225:=0
def tw1155702891454903826:=0
def tw9137272997848897724:=0
def tw7397388486132023281:=0
def tw13256493830683688410:=0
def tw4582313220145334893:=0
def tw11826931957582625719:=0
def tw8540945725611225030:=0
def tw15105116378098575952:=0
def tw4910914632508001125:=0
def tw2079385060202640509:=0
def tw8842623245801302281:=0
def tw18292550194948497258:=0
def tw1290241702101529268:=0
def tw13890215402653208492:=0
def tw4678992235559646063:=0
def tw4974694228595175476:=0
def tw10439136110932415777:=0
def tw17266662097755195003:=0
def tw14921653145614357138:=0
def tw816051018824868396:=0
def tw3572582761507168647:=0
def tw5560497672266652969:=0
def tw15322275761472633906:=0
def tw10203757275007318374:=0
def tw12771746858263834866:=0
def tw16627967805541090057:=0
def tw4369583628751925514:=0
def tw14857434175635941169:=0
def tw4692812981880687459:=0
def tw17890702742186884262:=0
def tw1434084723205266242:=0
def tw17957976918853290759:=0
def tw11737727373711886571:=0
def tw5614327882647643241:=0
def tw16672468117326670942:=0
end PySem.W.Fast
set_option maxRecDepth 100000 in
set_option maxHeartbeats 0 in
theorem PySem.Challenge.cw_walktold_k93_words_that_help_holds : PySem.Challenge.rw_walktold_k93_words_that_help.Holds := by
 w_on; o_law; k_head; (case hw=>w_witness2)
 k_fill
 refine Law.walk (l:=PySem.Challenge.rw_walktold_k93_words_that_help) rfl rfl (fun w h Y=>PySem.W.kIn_of Y) ?F
 case F=>
  intro w mg fa h KX G hmg
  refine' Law.all_mk KX G hmg ..
  all_goals try first | k_is | (refine' ⟨?_,?_,?_,?_⟩ <;> try k_is)
