import PyProof.Rows.All
import Wide.All
import OpenK.AllK
import Wide.FinOn
import PySem.Challenge.RW_walktold_k43_maps_that_part
set_option Elab.async false
set_option linter.all false
set_option maxRecDepth 100000
set_option compiler.extract_closed false
set_option bootstrap.genMatcherCode false
open Array (getElem?_eq_getElem getElem?_toList getElem_mem_toList getElem_toList length_toList mem_toList_iff toArray_toList toList_append)
open Bool (and_eq_true false_eq_true or_eq_true)
open Int (mul_one ofNat_le toNat_natCast)
open List (all_cons all_eq_true any_cons any_eq_true append_assoc append_nil append_of_mem cons_append cons_lt_cons_iff countP_cons drop_of_length_le drop_zero ext_getElem? filterMap_cons filter_cons flatMap_append flatMap_cons foldl_append foldl_cons getElem?_append_left getElem?_append_right getElem?_eq_none getElem?_map getElem?_set getElem?_set_ne getElem?_set_self getElem_mem getElem_of_mem length_append length_cons length_drop length_filter_le length_map length_nil length_pos_iff length_range length_set length_singleton length_take lookup_cons lt_asymm map_append map_congr_left map_cons map_eq_nil_iff map_id map_map map_nil map_set mem_append mem_cons mem_cons_self mem_filter mem_filterMap mem_flatMap mem_map mem_of_getElem? mem_range mem_singleton nil_append nodup_append nodup_cons nodup_range not_mem_nil of_mem_zip pairwise_cons pairwise_lt_range pairwise_map perm_append_comm perm_middle set_comm size_toArray take_append_drop take_nil take_of_length_le)
open Nat (le_of_lt le_refl le_succ le_trans lt_irrefl lt_of_lt_of_le lt_or_ge lt_succ_of_lt lt_succ_self lt_trans min_eq_left min_eq_right min_le_right mod_lt mul_le_mul ne_of_gt ne_of_lt not_lt sub_le sub_self succ_mul zero_add zero_le)
open Option (isSome_iff_exists isSome_map isSome_some map_eq_some_iff map_some toList_none)
def qa:=@PySem.wpAny_bind
def qb:=@PySem.wpAny_pure
def qc:=@PySem.Heap.get?_push_of_some
def qd:=@PySem.Heap.get?_push_size
def qe:=@PySem.Heap.lt_size
def qf.{u}:=@Option.some.inj.{u}
def qg.{u}:=@List.getElem?_eq_some_iff.{u}
def qh.{u}:=@List.getElem?_eq_getElem.{u}
def qi.{u}:=@List.mem_append_right.{u}
def qj.{u}:=@List.mem_append_left.{u}
def qk.{u}:=@List.mem_cons_of_mem.{u}
def qm.{u}:=@List.mem_cons_self.{u}
def qo:=@List.length_map
def qp:=@List.append_assoc
def qq:=@List.length_append
def qr:=@List.size_toArray
def qt:=@List.length_cons
def qu:=@List.mem_singleton
def qv:=@List.length_nil
def qw:=@List.nodup_append
def qx:=@List.mem_append
def qy:=@List.map_cons
def qz:=@List.append_nil
def qA:=@List.mem_cons
def qB:=@List.length_singleton
def qC:=@List.cons_lt_cons_iff
def qD:=@List.length_range
def qE:=@List.map_map
def qF:=@List.getElem?_map
def qG:=@List.length_drop
def qH:=@List.length_take
def qI:=@List.all_eq_true
def qJ:=@List.mem_range
def qK:=@List.mem_map
def qL:=@List.nodup_cons
def qM:=@List.mem_of_getElem?
def qN:=@List.perm_append_comm
def qO:=@List.cons_append
def qP:=@List.length_pos_iff
def qQ:=@List.getElem?_eq_none
def qR:=@decide_eq_true
def qS:=@decide_eq_false
def qT:=@decide_eq_true_eq
def qU:=@of_decide_eq_true
def qV:=@Array.length_toList
def qW:=@Int.toNat_natCast
def qX:=Bool.false_ne_true
def qY:=@Option.map_eq_some_iff
def qZ:=@Array.getElem?_toList
def q5:=@if_pos
def q8:=@if_neg
def q9:=@Nat.le_refl
def zc:=@PySem.Heap.get?_update_other
def zi:=@PySem.Heap.get?_update_self
def zj:=@PySem.wpAny_field
def zk:=@PySem.wpAny_newObj_type
def zm:=@PySem.wpAny_call_entry
def zo:=@PySem.sizeLine_eq
def zp:=@PySem.wpAny_setField_rec
def zr:=@PySem.wpAny_holding
def zt:=@PySem.wpAny_of_eq
def zu:=@PySem.wpAny_mono
abbrev zv:=PySem.Value->PySem.Shared->Prop
theorem cpsZ9{A:Prop}(h:∀G:Prop,(A->G)->G):A:=h A id
section
set_option hygiene false in
open Lean Parser.Tactic in
local macro_rules
|`($m:declModifiers def $i:declId $s:optDeclSig $v:declVal)=>do
 let a:=m.raw.getArgs
 if !a[4]!.isNone then Macro.throwUnsupported
 match i.raw[0].getId with
 |.str p n=>do
  let f(s:Syntax):=s.rewriteBottomUp (·.setInfo .none)
  let c:=mkNode ``Parser.Command.declaration
  let i:=f i
  let s:=f s
  let v:=f v
  if a[1]!.isNone&&(n.front.isUpper||!p.isAnonymous) then return c #[m,mkNode ``Parser.Command.theorem #[mkAtom "theorem",i,mkNode ``Parser.Command.declSig #[s[0],s[1][0]],v]] else return c #[m.raw.setArg 4 (mkNullNode #[mkNode ``Parser.Command.noncomputable #[mkAtom "noncomputable"]]),mkNode ``Parser.Command.definition #[mkAtom "def",i,s,v,mkNullNode]]
 |_=>Macro.throwUnsupported
|`(#[$x,*])=>if x.getElems.isEmpty then Macro.throwUnsupported else `(⟨$x,*⟩)
|`(∅)=>`((by lia))
|`(⋯)=>`((by decide))
|`(↑$x)=>`((by simpa using $x))
|`(tactic|lia)=>`(tactic|first|assumption|exact Nat.le_refl _|exact Nat.le_of_lt ‹_›|exact Nat.succ_pos _|exact Nat.not_lt.1 ‹_›|exact Nat.lt_of_lt_of_le ‹_› ‹_›|exact Nat.lt_of_le_of_lt ‹_› ‹_›|exact Nat.le_trans ‹_› ‹_›|exact Nat.lt_trans ‹_› ‹_›|exact Nat.ne_of_lt ‹_›|exact Nat.ne_of_gt ‹_›|exact Nat.lt_succ_of_le ‹_›|exact Nat.le_add_right _ _|exact Nat.sub_le _ _|exact Nat.le_of_lt_succ ‹_›|exact absurd ‹_› (Nat.not_lt_zero _)|exact absurd ‹_ < _› (Nat.not_lt.2 ‹_›)|exact Nat.lt_of_le_of_ne ‹_› ‹_›|exact Nat.pos_of_ne_zero ‹_›|exact Nat.le_trans ‹_› (Nat.le_add_right _ _)|exact Nat.le_trans (Nat.sub_le _ _) ‹_›|exact Int.le_of_lt ‹_›|exact Nat.sub_lt ‹_› Nat.one_pos|exact Nat.add_sub_of_le ‹_›|exact Nat.lt_add_of_pos_right ‹_›|exact Nat.lt_of_lt_of_eq ‹_› ‹_›|exact Nat.le_of_eq ‹_›|exact Nat.not_lt_of_le ‹_›|exact Nat.sub_pos_of_lt ‹_›|exact Nat.le_of_eq (Nat.add_sub_of_le ‹_›)|lia -verbose)
|`(tactic|show $e:term)=>`(tactic|first|refine $e|fail)
|`(tactic|let #[$x,*]:=$e)=>do
 let rec go:Nat->Syntax->MacroM (TSyntax ``rcasesPatLo)
  |n+1,t=>do match t with
   |`(#[$y,*])=>let z<-y.getElems.mapM (go n ·.raw);`(rcasesPatLo|⟨$[$z],*⟩)
   |`(_)=>`(rcasesPatLo|_)
   |_=>`(rcasesPatLo|$(⟨t⟩):ident)
  |_,_=>Macro.throwUnsupported
 let z<-x.getElems.mapM (go 9 ·.raw)
 if z.size>3 then `(tactic|(refine _root_.cpsZ9 fun gZ kZ=>?_;rcases $e:term with ⟨$[$z],*⟩;refine kZ ?_;clear kZ gZ)) else `(tactic|obtain ⟨$[$z],*⟩:=$e)
|`(tactic|let $d:letDecl)=>`(tactic|have $d:letDecl)
noncomputable section
namespace ST
open PySem PySem.SetTable
@[inline]def Rising(xs:Array Nat):Prop:=∀i j(hi:i<xs.size)(B:j<xs.size),i<j->xs[i]<xs[j]
def DS{xs:Array Nat}(h:i<xs.size):xs.getD i d=xs[i]:=by simp[Array.getD,h]
def DR(hr:Rising xs):∀(B lo hi:Nat),hi<=xs.size->lo<=hi->hi-lo<=B->(∀i(h:i<xs.size),i<lo->xs[i]<j)->(∀i(h:i<xs.size),hi<=i->j<=xs[i])->
  below.go xs j B lo hi<=xs.size/\(∀i(h:i<xs.size),i<below.go xs j B lo hi->xs[i]<j)/\∀i(h:i<xs.size),below.go xs j B lo hi<=i->j<=xs[i]:=by
 intro B;induction B with
 |zero=>
  intro lo hi h1 h2 h3 O M;let:lo=hi:=∅
  subst this;show#[by show lo<=_;lia,λi h J=>O i h J,λi h J=>M i h J]
 |succ B ih=>
  intro lo hi h1 h2 h3 O M;unfold below.go;by_cases L:lo<hi
  .rw[q5 L];let Y:(lo+hi)/2<xs.size:=by lia
   dsimp only;rw[DS Y];by_cases hc:xs[(lo+hi)/2]<j
   .rw[q5 hc];show ih _ _ h1 ∅ ∅ (λi h J=>?_) M;by_cases he:i=(lo+hi)/2
    .subst he;show hc
    .let:=hr i ((lo+hi)/2) h Y ∅;lia
   .rw[q8 hc];show ih _ _ ∅ ∅ ∅ O λi h J=>?_;by_cases he:i=(lo+hi)/2
    .subst he;lia
    .let:=hr ((lo+hi)/2) i Y h ∅;lia
  .rw[q8 L];let:lo=hi:=by lia
   subst this;show#[∅,λi h J=>O i h J,λi h J=>M i h J]
def Av(B:Rising xs):below xs j<=xs.size/\(∀i(h:i<xs.size),i<below xs j->xs[i]<j)/\∀i(h:i<xs.size),below xs j<=i->j<=xs[i]:=
 DR B xs.size 0 xs.size (q9 _) (zero_le _) ∅ (λi h J=>by lia) λi h J=>∅
def DB(J:Rising xs)(h:i<xs.size)(e:xs[i]=j):below xs j=i:=by
 let#[h1,h2,L]:=Av (j:=j) J;rcases Nat.lt_trichotomy (below xs j) i with B|B|B
 .let M:=L (below xs j) ∅ (q9 _);let:=J (below xs j) i ∅ h B;lia
 .show B
 .let:=h2 i h B;lia
def Bw{t:SetTable}(B:Rising t.place)(h:i<t.place.size)(e:t.place[i]=j):t.slot j=.live i:=by
 unfold slot;dsimp only;rw[DB B h e];let:t.place[i]?=some j:=by rw[getElem?_eq_getElem h,e]
 rw[this];simp
def Bx{t:SetTable}(B:t.dummies=#[])(h:∀i(hi:i<t.place.size),t.place[i]≠j):t.slot j=.empty:=by
 unfold slot;dsimp only;let h1:(t.place[below t.place j]?==some j)=false:=by
  cases q:t.place[below t.place j]? with
  |none=>rfl
  |some v=>let#[hi,e]:=Array.getElem?_eq_some_iff.mp q;let:=h _ hi;rw[e]at this;simpa using this
 rw[h1,B];rfl
def Aq{t:SetTable}(B:Rising t.place)(J:t.dummies=#[])(j:Nat):(t.slot j=.empty/\∀i(hi:i<t.place.size),t.place[i]≠j)\/∃i,∃hi:i<t.place.size,t.place[i]=j/\t.slot j=.live i:=by
 by_cases h:∃i,∃hi:i<t.place.size,t.place[i]=j
 .obtain⟨i,hi,e⟩:=h;show .inr #[i,hi,e,Bw B hi e]
 .let h':∀i(hi:i<t.place.size),t.place[i]≠j:=λi hi e=>h #[i,hi,e];show .inl #[Bx J h',h']
def aE(t:SetTable)(p:Probe):Nat->Probe
 |0=>p
 |n+1=>aE t (t.advance p) n
def AW(t:SetTable):∀(n:Nat)(p:Probe),aE t p (n+1)=t.advance (aE t p n)
 |0,_=>rfl
 |n+1,p=>AW t n (t.advance p)
def Ai(t:SetTable):∀(m n:Nat)(p:Probe),aE t p (m+n)=aE t (aE t p m) n
 |0,n,p=>by rw[zero_add];rfl
 |m+1,n,p=>by rw[Nat.add_right_comm];show Ai t m n (t.advance p)
def Dp(hr:Rising t.place)(hd:t.dummies=#[]):∀(B n:Nat)(p:Probe),p.dummy=none->t.slot (aE t p n).j=.empty->(∀m,m<n->t.slot (aE t p m).j≠.empty)->n<B->
  (probe.go t hashAt h B p=some (.empty (aE t p n).j none)/\∀m,m<n->∀i,t.slot (aE t p m).j=.live i->hashAt i≠h)\/
  ∃m i,m<n/\t.slot (aE t p m).j=.live i/\hashAt i=h/\probe.go t hashAt h B p=some (.candidate (aE t p m).j i (aE t p (m+1)))/\∀L,L<m->∀M,t.slot (aE t p L).j=.live M->hashAt M≠h:=by
 intro B;induction B with
 |zero=>intro n p _ _ _ h;lia
 |succ B ih=>
  intro n p O he h5 hf;cases n with
  |zero=>show .inl #[?_,λm hm=>∅];unfold probe.go;let e1:t.slot p.j=.empty:=he;rw[e1];rw[O];rfl
  |succ n=>
   rcases Aq hr hd p.j with⟨h7,_⟩|⟨i,hi,ei,hl⟩
   .show absurd h7 (h5 0 ∅)
   .by_cases hh:hashAt i=h
    .show .inr #[0,i,∅,hl,hh,?_,λL h9=>∅];unfold probe.go;rw[hl];show(if(hashAt i==h)=true then _ else _)=_;rw[q5 (by rw[hh];simp)];rfl
    .have h6:probe.go t hashAt h (B+1) p=probe.go t hashAt h B (t.advance p):=by
      conv=>lhs;unfold probe.go
      grind
     have h8:(t.advance p).dummy=none:=by
      unfold advance;split
      .show O
      .show O
     rcases ih n (t.advance p) h8 he (λm hm=>h5 (m+1) ∅) ∅with⟨h1,h2⟩|⟨m,M,hm,h1,h2,h3,h4⟩
     .show .inl #[by rw[h6,h1];rfl,λm hm M J=>?_];cases m with
      |zero=>have:t.slot p.j=.live M:=J;rw[hl]at this;cases this;show hh
      |succ m=>show h2 m ∅ M J
     .show .inr #[m+1,M,∅,h1,h2,by rw[h6,h3];rfl,λL h9 Y J=>?_];cases L with
      |zero=>have:t.slot p.j=.live Y:=J;rw[hl]at this;cases this;show hh
      |succ L=>show h4 L ∅ Y J
def bG(mask:Nat)(b:Nat):Nat->Nat×Nat
 |0=>(b %(mask+1),b)
 |k+1=>leap mask (bG mask b k).1 (bG mask b k).2
def bC(mask:Nat)(p:Nat×Nat):Probe:={j:=p.1,more:=runEnd mask p.1-p.1,i:=p.1,perturb:=p.2,dummy:=none}
def DP(mask i:Nat):runEnd mask i-i<=9:=by unfold runEnd;split<;>lia
def Bj:∀m,m<=runEnd t.mask p.1-p.1->aE t (bC t.mask p) m={bC t.mask p with j:=p.1+m,more:=runEnd t.mask p.1-p.1-m}
 |0,_=>rfl
 |m+1,h=>by rw[AW,Bj m ∅];unfold advance;rw[q5 (by show runEnd t.mask p.1-p.1-m>0;lia)];rfl
def By:aE t (bC t.mask p) (runEnd t.mask p.1-p.1+1)=bC t.mask (leap t.mask p.1 p.2):=by rw[AW,Bj _ (q9 _)];unfold advance;rw[q8 (by show¬(runEnd t.mask p.1-p.1-(runEnd t.mask p.1-p.1)>0);lia)];rfl
def Bk:∀k,∃n,n<=10*k/\aE t (t.probeStart h) n=bC t.mask (bG t.mask (bits h) k)
 |0=>#[0,∅,rfl]
 |k+1=>by let#[n,B,e]:=Bk (t:=t) (h:=h) k;let:=DP t.mask (bG t.mask (bits h) k).1;show#[n+(runEnd t.mask (bG t.mask (bits h) k).1-(bG t.mask (bits h) k).1+1),∅,?_];rw[Ai,e,By];rfl
def DV(h:Int):bits h<2^64:=by unfold bits;grind
def Bm(mask b:Nat):∀k,(bG mask b k).2=b/32^k
 |0=>by simp[bG]
 |k+1=>by show(bG mask b k).2/32=_;rw[Bm mask b k,Nat.div_div_eq_div_mul,Nat.pow_succ]
def Co{mask:Nat}(B:13<=k):(bG mask (bits h) k).2=0:=by
 rw[Bm];show Nat.div_eq_of_lt (lt_of_lt_of_le (DV h) ?_)
 calc 2^64<=32^13:=by decide
  _<=32^k:=Nat.pow_le_pow_right ⋯ B
def jf(M i:Nat):Nat:=(i*5+1) %M
def it(M:Nat):Nat->Nat->Nat
 |0,i=>i
 |k+1,i=>it M k (jf M i)
def Bo(M:Nat):∀a b i,it M (a+b) i=it M b (it M a i)
 |0,b,i=>by rw[zero_add];rfl
 |a+1,b,i=>by rw[Nat.add_right_comm];show Bo M a b (jf M i)
def Bn{mask:Nat}:∀k,(bG mask (bits h) (13+k)).1=it (mask+1) k (bG mask (bits h) 13).1
 |0=>rfl
 |k+1=>by rw[Bo (mask+1) k 1,<-Bn k];show(leap mask (bG mask (bits h) (13+k)).1 (bG mask (bits h) (13+k)).2).1=_;rw[Co ∅];rfl
def hit(M e:Nat):Nat->Nat->Bool
 |0,_=>false
 |n+1,i=>bif Nat.beq i e then true else hit M e n (jf M i)
def Cp:∀{n i:Nat},hit M e n i=true->∃k,k<n/\it M k i=e
 |0,_,h=>by cases h
 |n+1,i,h=>by
  unfold hit at h;cases q:Nat.beq i e with
  |true=>show#[0,∅,Nat.eq_of_beq_eq_true q]
  |false=>rw[q]at h;let#[k,J,B]:=Cp (n:=n) h;show#[k+1,∅,B]
def bP(mask:Nat):Prop:=mask=7\/mask=15\/mask=31\/mask=63\/mask=127\/mask=255\/mask=511
def DW{mask:Nat}(h:bP mask):(List.range (mask+1)).all (λe=>hit (mask+1) e (mask+1) 0)=true/\it (mask+1) (mask+1) 0=0:=by rcases h with rfl|rfl|rfl|rfl|rfl|rfl|rfl<;>show⟨by decide+kernel,by decide+kernel⟩
def GA{mask s e:Nat}(h:bP mask)(hs:s<=mask)(M:e<=mask):∃k,k<=mask/\it (mask+1) k s=e:=by
 let#[h1,h2]:=DW h;rw[qI]at h1;let#[a,Y,J]:=Cp (h1 s (qJ.mpr ∅));let#[b,O,B]:=Cp (h1 e (qJ.mpr ∅));by_cases L:a<=b
 .show#[b-a,∅,by rw[<-J,<-Bo,show a+(b-a)=b by lia,B]]
 .show#[mask+1-a+b,∅,?_];rw[<-J,<-Bo,show a+(mask+1-a+b)=mask+1+b by lia,Bo,h2,B]
def Cm(J:bP t.mask)(L:e<=t.mask):∃n,n<10*turns t.mask/\(aE t (t.probeStart h) n).j=e:=by
 let B:(bG t.mask (bits h) 13).1<=t.mask:=by let:(bG t.mask (bits h) 13).1<t.mask+1:=mod_lt _ ∅;lia
 let#[k,hk,O]:=GA J B L;let#[n,Y,M]:=Bk (t:=t) (h:=h) (13+k);show#[n,by unfold turns;lia,?_];rw[M];show(bG t.mask (bits h) (13+k)).1=e;rw[Bn,O]
def Gx{P:Nat->Prop}[DecidablePred P]:∀n,P n->∃m,m<=n/\P m/\∀k,k<m->¬P k:=by
 intro n;induction n using Nat.strongRecOn with
 |ind n L=>
  intro M;by_cases h:∃k,k<n/\P k
  .obtain⟨k,J,B⟩:=h;let#[m,h1,h2,O]:=L k J B;show#[m,∅,h2,O]
  .show#[n,q9 _,M,λk J B=>h #[k,J,B]]
structure gL(t:SetTable)(hs:List Int):Prop where
 ris:Rising t.place
 dum:t.dummies=#[]
 mask:bP t.mask
 size:t.place.size=hs.length
 le:∀i(hi:i<t.place.size),t.place[i]<=t.mask
 few:hs.length<=t.mask
 reach:∀i(hi:i<t.place.size)(h:Int),hs[i]?=some h->∃n,(aE t (t.probeStart h) n).j=t.place[i]/\∀m,m<n->t.slot (aE t (t.probeStart h) m).j≠.empty
def Eo:∀(l m:List Nat),l.Nodup->(∀x∈l,x∈m)->l.length<=m.length
 |[],m,_,_=>by simp
 |x::l,m,hn,hs=>by
  let#[h1,h2]:=qL.mp hn;let J:x∈m:=hs x (by simp);let:=Eo l (m.erase x) h2 λy B=>by show(List.mem_erase_of_ne ?_).mpr (hs y (by simp[B]));intro z;subst z;show h1 B
  rw[List.length_erase_of_mem J]at this;let L:=List.length_pos_of_mem J;rw[qt];lia
def Dq:∀(m:Nat)(l:List Nat),l.Nodup->(∀x∈l,x<m)->l.length<m->∃e,e<m/\e∉l:=by
 intro m l L J M;by_cases h:∃e,e<m/\e∉l
 .show h
 .exfalso;let:∀e∈List.range m,e∈l:=λe B=>by
   by_cases q:e∈l
   .show q
   .show absurd #[e,qJ.mp B,q] h
  let:=Eo (List.range m) l nodup_range this;rw[qD]at this;lia
def gL.free(T:gL t hs)(h:Int):∃n,n<10*turns t.mask/\t.slot (aE t (t.probeStart h) n).j=.empty/\∀m,m<n->t.slot (aE t (t.probeStart h) m).j≠.empty:=by
 obtain⟨e,he,J⟩:=Dq (t.mask+1) t.place.toList (by
  rw[List.Nodup,List.pairwise_iff_getElem];intro i j hi O L;let:=T.ris i j hi ↑O L;simp;lia) (λx M=>by
   let#[i,hi,e]:=getElem_of_mem M;let:=T.le i hi;rw[getElem_toList]at e;lia) (by
   let:=T.few;let:=T.size;rw[qV];lia)
 let#[n,hn,en]:=Cm (h:=h) T.mask (show e<=t.mask by lia);let B:t.slot (aE t (t.probeStart h) n).j=.empty:=by rw[en];show Bx T.dum λi hi z=>J ?_;rw[<-z];show getElem_mem_toList hi
 let#[m,h1,h2,Y]:=Gx (P:=λn=>t.slot (aE t (t.probeStart h) n).j=.empty) n B;show#[m,∅,h2,Y]
theorem ris_list:Rising xs↔xs.toList.Pairwise (·<·):=by rw[List.pairwise_iff_getElem];first|rfl|assumption|(simp_all;done)
def Bp(O:Rising xs)(hn:∀i(hi:i<xs.size),xs[i]≠j):Rising (insertAt xs (below xs j) j):=by
 let#[h1,h2,h3]:=Av (j:=j) O;rw[ris_list,toList_insertAt];let Y:=ris_list.mp O;rw[<-take_append_drop (below xs j) xs.toList]at Y;let#[p1,p2,p3]:=List.pairwise_append.mp Y;show List.pairwise_append.mpr #[p1,pairwise_cons.mpr #[λy J=>?_,p2],λx M y J=>?_]
 .obtain⟨i,hi,e⟩:=getElem_of_mem J;rw[List.getElem_drop,getElem_toList]at e;let B:below xs j+i<xs.size:=by simp at hi;lia
  let a:=h3 (below xs j+i) B ∅;let b:=hn (below xs j+i) B;lia
 .have L:x<j:=by
   let#[i,hi,e]:=getElem_of_mem M;rw[List.getElem_take,getElem_toList]at e;let B:i<xs.size/\i<below xs j:=by simp at hi;lia
   let:=h2 i B.1 B.2;lia
  rcases qA.mp J with rfl|J
  .show L
  .show p3 x M y J
theorem mem_insert:x∈(insertAt xs p j).toList↔x=j\/x∈xs.toList:=by rw[toList_insertAt,qx];grind[take_append_drop,mem_append]
def Ar(h:t'.mask=t.mask):∀(n:Nat)(p:Probe),aE t' p n=aE t p n
 |0,_=>rfl
 |n+1,p=>by
  let e:t'.advance p=t.advance p:=by unfold advance;rw[h]
  show aE t' (t'.advance p) n=aE t (t.advance p) n;rw[e,Ar h n]
def Ap{t t':SetTable}(h:t'.mask=t.mask)(b:Int):t'.probeStart b=t.probeStart b:=by unfold probeStart;rw[h]
def Bl{t:SetTable}(B:Rising t.place)(M:t.dummies=#[])(j:Nat):t.slot j≠.empty↔j∈t.place.toList:=by
 rcases Aq B M j with⟨h,J⟩|⟨i,hi,e,h⟩
 .show#[λz=>absurd h z,λL=>?_];let#[i,hi,e]:=getElem_of_mem L;show absurd e (J i hi)
 .show#[λ_=>?_,λ_=>by rw[h];show nofun];rw[<-e];show getElem_mem_toList hi
def AU{t:SetTable}(B:t.dummies=#[]):(t.put j).1.place=insertAt t.place (below t.place j) j/\(t.put j).1.mask=t.mask/\(t.put j).1.dummies=#[]/\(t.put j).2=below t.place j:=by unfold put;show#[rfl,rfl,?_,rfl];rw[B];rfl
def gL.put(T:gL t hs)(he:t.slot (aE t (t.probeStart h) n).j=.empty)(h5:∀m,m<n->t.slot (aE t (t.probeStart h) m).j≠.empty)(hj:(aE t (t.probeStart h) n).j<=t.mask)(hf:hs.length+1<=t.mask):
  gL (t.put (aE t (t.probeStart h) n).j).1 (hs.take (t.put (aE t (t.probeStart h) n).j).2++h::hs.drop (t.put (aE t (t.probeStart h) n).j).2):=by
 generalize h6:(aE t (t.probeStart h) n).j=j at*;let h4:∀i(hi:i<t.place.size),t.place[i]≠j:=by
  rcases Aq T.ris T.dum j with⟨_,hn⟩|⟨i,hi,e,Y⟩
  .show hn
  .rw[Y]at he;cases he
 let#[e1,O,e3,e4]:=AU (t:=t) (j:=j) T.dum;let h1:=Bp T.ris h4;let#[b1,b2,b3]:=Av (j:=j) T.ris;let h3:(insertAt t.place (below t.place j) j).size=t.place.size+1:=by rw[<-qV,toList_insertAt,qq,qt,qH,qG,qV];lia
 let more:∀k,t.slot k≠.empty->(t.put j).1.slot k≠.empty:=λk J=>by rw[Bl (by rw[e1];show h1) e3,e1,mem_insert];show .inr ((Bl T.ris T.dum k).mp J)
 show#[by rw[e1];show h1,e3,by rw[O];show T.mask,?_,λi hi=>?_,?_,λi hi g hg=>?_]
 .rw[e1,h3,qq,qt,qH,qG,e4,T.size];let:=T.size;lia
 .let hm:(t.put j).1.place[i]∈(insertAt t.place (below t.place j) j).toList:=by rw[<-e1];exact getElem_mem_toList hi
  rw[O];rcases mem_insert.mp hm with z|z
  .rw[z];show hj
  .obtain⟨k,J,e⟩:=getElem_of_mem z;rw[<-e];show T.le k ↑J
 .rw[O,qq,qt,qH,qG];lia
 .rw[e4]at hg;let B:(t.put j).1.place[i]?=(t.place.toList.take (below t.place j)++j::t.place.toList.drop (below t.place j))[i]?:=by rw[e1,<-qZ,toList_insertAt]
  rw[getElem?_eq_getElem hi]at B;let L:(t.place.toList.take (below t.place j)).length=below t.place j:=by rw[qH,qV];lia
  let M:(hs.take (below t.place j)).length=below t.place j:=by let:=T.size;rw[qH];lia
  let h2:∀k(J:k<t.place.size),hs[k]?=some g->(t.put j).1.place[i]=t.place[k]->∃n,(aE (t.put j).1 ((t.put j).1.probeStart g) n).j=(t.put j).1.place[i]/\∀m,m<n->(t.put j).1.slot (aE (t.put j).1 ((t.put j).1.probeStart g) m).j≠.empty:=λk J h7 e=>by let#[n',a,b]:=T.reach k J g h7;show#[n',by rw[Ar O,Ap O,a,e],λm hm=>?_];rw[Ar O,Ap O];show more _ (b m hm)
  rcases Nat.lt_trichotomy i (below t.place j)with Y|Y|Y
  .rw[getElem?_append_left (by rw[L];show Y),List.getElem?_take_of_lt Y]at B;rw[getElem?_append_left (by rw[M];show Y),List.getElem?_take_of_lt Y]at hg;let J:i<t.place.size:=by lia
   rw[qZ,getElem?_eq_getElem J]at B;show h2 i J hg (qf B)
  .subst Y;rw[getElem?_append_right (by rw[L];show q9 _),L,sub_self,List.getElem?_cons_zero]at B;rw[getElem?_append_right (by rw[M];show q9 _),M,sub_self,List.getElem?_cons_zero]at hg;let eg:=qf hg;subst eg;show#[n,by rw[Ar O,Ap O,h6,qf B],λm hm=>?_];rw[Ar O,Ap O];show more _ (h5 m hm)
  .obtain⟨k,rfl⟩:∃k,i=k+1:=#[i-1,∅]
   rw[getElem?_append_right (by rw[L];lia),L,show k+1-below t.place j=(k-below t.place j)+1 by lia,List.getElem?_cons_succ,List.getElem?_drop,show below t.place j+(k-below t.place j)=k by lia]at B;rw[getElem?_append_right (by rw[M];lia),M,show k+1-below t.place j=(k-below t.place j)+1 by lia,List.getElem?_cons_succ,List.getElem?_drop,show below t.place j+(k-below t.place j)=k by lia]at hg;let J:k<t.place.size:=by let:=hi;simp only[e1,h3]at this;lia
   rw[qZ,getElem?_eq_getElem J]at B;show h2 k J hg (qf B)
def dJ(o:Array (Option Nat))(j:Nat):Bool:=(o.getD j (some 0)).isNone
def bare(mask:Nat):SetTable:={fresh 0 0 true with mask:=mask}
def CQ{mask:Nat}:∀(B:Nat)(p:Nat×Nat)(K:Nat),K<B->(∃q,dJ o q.1=true/\q=(Nat.repeat (λx:Nat×Nat=>leap mask x.1 x.2) K p))->
  ∃j n,layClean.free mask o B p.1 p.2=some j/\(aE (bare mask) (bC mask p) n).j=j/\dJ o j=true/\∀m,m<n->dJ o (aE (bare mask) (bC mask p) m).j=false:=by
 intro B;induction B with
 |zero=>intro p K h;lia
 |succ B ih=>
  intro p K hK hq;let run:∀m,m<=runEnd mask p.1-p.1->(aE (bare mask) (bC mask p) m).j=p.1+m:=λm L=>by let:=Bj (t:=bare mask) (p:=p) m L;let e:(aE (bare mask) (bC mask p) m).j=({bC mask p with j:=p.1+m,more:=runEnd mask p.1-p.1-m}:Probe).j:=congrArg Probe.j this;show e
  let h5:p.1<=runEnd mask p.1:=by unfold runEnd;split<;>lia
  unfold layClean.free;cases O:(List.range (runEnd mask p.1+1-p.1)).find? (λk=>(o.getD (p.1+k) (some 0)).isNone)with
  |some k=>rw[List.find?_range_eq_some]at O;let#[h1,h2,h3]:=O;rw[qJ]at h2;show#[p.1+k,k,rfl,run k ∅,h1,λm L=>?_];rw[run m ∅];let:=h3 m L;simpa[dJ] using this
  |none=>
   rw[List.find?_range_eq_none]at O;let J:∀m,m<=runEnd mask p.1-p.1->dJ o (aE (bare mask) (bC mask p) m).j=false:=λm L=>by rw[run m L];let:=O m ∅;simpa[dJ] using this
   cases K with
   |zero=>let#[q,h1,h2]:=hq;let h3:q=p:=h2;let:=J 0 ∅;let e:(aE (bare mask) (bC mask p) 0).j=p.1:=rfl;rw[e,<-h3,h1]at this;cases this
   |succ K=>
    obtain⟨q,h1,h2⟩:=hq;let Y:∀(K:Nat)(p:Nat×Nat),Nat.repeat (λx:Nat×Nat=>leap mask x.1 x.2) (K+1) p=Nat.repeat (λx:Nat×Nat=>leap mask x.1 x.2) K (leap mask p.1 p.2):=by
     intro K;induction K with
     |zero=>intro p;rfl
     |succ K ih=>intro p;show leap mask (Nat.repeat (λx:Nat×Nat=>leap mask x.1 x.2) (K+1) p).1 (Nat.repeat (λx:Nat×Nat=>leap mask x.1 x.2) (K+1) p).2=leap mask (Nat.repeat (λx:Nat×Nat=>leap mask x.1 x.2) K (leap mask p.1 p.2)).1 (Nat.repeat (λx:Nat×Nat=>leap mask x.1 x.2) K (leap mask p.1 p.2)).2;rw[ih p]
    let#[j,n,a1,a2,a3,a4]:=ih (leap mask p.1 p.2) K ∅ #[q,h1,by rw[h2,Y]];let pl:=By (t:=bare mask) (p:=p);let M:aE (bare mask) (bC mask p) (runEnd mask p.1-p.1+1)=bC mask (leap mask p.1 p.2):=pl;show#[j,runEnd mask p.1-p.1+1+n,a1,by rw[Ai,M];show a2,a3,λm L=>?_];by_cases h4:m<=runEnd mask p.1-p.1
    .show J m h4
    .obtain⟨k,rfl⟩:∃k,m=runEnd mask p.1-p.1+1+k:=#[m-(runEnd mask p.1-p.1+1),∅]
     rw[Ai,M];show a4 k ∅
def Bz(mask b:Nat):∀k,bG mask b k=Nat.repeat (λx:Nat×Nat=>leap mask x.1 x.2) k (b %(mask+1),b)
 |0=>rfl
 |k+1=>by show leap mask (bG mask b k).1 (bG mask b k).2=_;rw[Bz mask b k];rfl
structure nS(mask:Nat)(o:Array (Option Nat))(hs:List Int)(ps:List Nat):Prop where
 size:o.size=mask+1
 len:ps.length=hs.length
 nd:ps.Nodup
 le:∀j∈ps,j<=mask
 own:∀(j i:Nat),o.getD j none=some i↔ps[i]?=some j
 reach:∀(i:Nat)(h:Int)(j:Nat),hs[i]?=some h->ps[i]?=some j->∃n,(aE (bare mask) ((bare mask).probeStart h) n).j=j/\∀m,m<n->(aE (bare mask) ((bare mask).probeStart h) m).j∈ps
def Bq{mask:Nat}(O:nS mask o hs ps)(hj:j<=mask):dJ o j=true↔j∉ps:=by
 let B:j<o.size:=by rw[O.size];lia
 unfold dJ;let Y:o.getD j (some 0)=o[j]:=by simp[B]
 let J:o.getD j none=o[j]:=by simp[B]
 rw[Y];constructor
 .intro h M;let#[i,hi,e]:=getElem_of_mem M;let:=(O.own j i).mpr (by rw[qh hi,e]);rw[J]at this;rw[this]at h;cases h
 .intro L;cases q:o[j]with
  |none=>rfl
  |some i=>have:=(O.own j i).mp (by rw[J,q]);show absurd (qM this) L
def BD(M:bP t.mask):∀n,(aE t (t.probeStart h) n).j<=t.mask:=by
 have B:∀n(p:Probe),(p.j+p.more<=t.mask)->(aE t p n).j+(aE t p n).more<=t.mask:=by
  intro n;induction n with
  |zero=>intro p J;show J
  |succ n L=>
   intro p J;show L (t.advance p) ?_;unfold advance;split
   .show p.j+1+(p.more-1)<=t.mask;lia
   .let hi:(p.i*5+1+p.perturb/32) %(t.mask+1)<=t.mask:=by let:=mod_lt (p.i*5+1+p.perturb/32) (show 0<t.mask+1 by lia);lia
    show(p.i*5+1+p.perturb/32) %(t.mask+1)+(runEnd t.mask ((p.i*5+1+p.perturb/32) %(t.mask+1))-(p.i*5+1+p.perturb/32) %(t.mask+1))<=t.mask;unfold runEnd;split<;>lia
 intro n;let:=B n (t.probeStart h) (by
  let hi:bits h %(t.mask+1)<=t.mask:=by let:=mod_lt (bits h) (show 0<t.mask+1 by lia);lia
  show bits h %(t.mask+1)+(runEnd t.mask (bits h %(t.mask+1))-bits h %(t.mask+1))<=t.mask;unfold runEnd;split<;>lia)
 lia
def nS.step{mask:Nat}(J:bP mask)(O:nS mask o hs ps)(hf:hs.length<mask+1):
  ∃j,layClean.free mask o (turns mask) (bits h %(mask+1)) (bits h)=some j/\nS mask (o.setIfInBounds j (some hs.length)) (hs++[h]) (ps++[j]):=by
 let#[e,he,h5]:=Dq (mask+1) ps O.nd (λx B=>by let:=O.le x B;lia) (by rw[O.len];show hf);let h4:(bG mask (bits h) 13).1<=mask:=by let:(bG mask (bits h) 13).1<mask+1:=mod_lt _ ∅;lia
 let#[k,hk,ek]:=GA J h4 (show e<=mask by lia);let#[j,n,a1,a2,a3,a4]:=CQ (o:=o) (turns mask) (bits h %(mask+1),bits h) (13+k) (by unfold turns;lia) #[bG mask (bits h) (13+k),by rw[Bn,ek];show(Bq O ∅).mpr h5,Bz _ _ _];let h3:bC mask (bits h %(mask+1),bits h)=(bare mask).probeStart h:=rfl;rw[h3]at a2 a4;let h1:j<=mask:=by rw[<-a2];show BD (t:=bare mask) J n
 let Y:j∉ps:=(Bq O h1).mp a3;let h6:j<o.size:=by rw[O.size];lia
 show#[j,a1,?_,?_,?_,?_,?_,?_]
 .rw[Array.size_setIfInBounds,O.size]
 .rw[qq,qq,O.len];rfl
 .show qw.mpr #[O.nd,by simp,λa ha b hb e=>?_];rw[qu.mp hb]at e;show Y (e▸ha)
 .intro x B;rcases qx.mp B with z|z
  .show O.le x z
  .rw[qu.mp z];show h1
 .intro x i;let M:(o.setIfInBounds j (some hs.length)).getD x none=if x=j then some hs.length else o.getD x none:=by
   simp[Array.getD_eq_getD_getElem?,Array.getElem?_setIfInBounds];by_cases B:j=x
   .subst B;simp[h6]
   .rw[q8 B,q8 (Ne.symm B)]
  rw[M];by_cases B:x=j
  .subst B;rw[q5 rfl];constructor
   .intro z;let:=qf z;subst this;rw[<-O.len,getElem?_append_right (q9 _),sub_self];rfl
   .intro z;by_cases hi:i<ps.length
    .rw[getElem?_append_left hi]at z;show absurd (qM z) Y
    .let L:=(qg.mp z).1;rw[qq,qB]at L;rw[show i=hs.length by rw[<-O.len];lia]
  .rw[q8 B,O.own x i];by_cases hi:i<ps.length
   .rw[getElem?_append_left hi]
   .rw[qQ ∅];constructor
    .intro z;cases z
    .intro z;rw[getElem?_append_right ∅]at z;let:i-ps.length=0:=by let:=(qg.mp z).1;simp at this;lia
     rw[this]at z;show absurd (qf z).symm B
 .intro i g x M B;by_cases hi:i<ps.length
  .rw[getElem?_append_left hi]at B;rw[getElem?_append_left (by rw[<-O.len];show hi)]at M;let#[n',b1,b2]:=O.reach i g x M B;show#[n',b1,λm hm=>qj _ (b2 m hm)]
  .let L:=(qg.mp B).1;rw[qq,qB]at L;let h7:i=ps.length:=by lia
   subst h7;rw[getElem?_append_right (q9 _),sub_self]at B;rw[getElem?_append_right (by rw[O.len];show q9 _),O.len,sub_self]at M;let e1:j=x:=qf B;let e2:h=g:=qf M;subst e1 e2;show#[n,a2,λm hm=>qj _ ?_];let:=a4 m hm;cases q:decide ((aE (bare mask) ((bare mask).probeStart h) m).j∈ps)with
   |true=>show qU q
   |false=>have h2:=(Bq O (BD (t:=bare mask) J m)).mpr (of_decide_eq_false q);rw[h2]at this;cases this
def BU{mask:Nat}(hmk:bP mask):∀(hs2 hs1:List Int)(o:Array (Option Nat))(ps:List Nat),nS mask o hs1 ps->(hs1++hs2).length<=mask->
  ∃o' ps',List.foldl (λ(z3:Option (Array (Option Nat)×Nat))(h:Int)=>do
   let(owner,k)<-z3
   let j<-layClean.free mask owner (turns mask) (bits h %(mask+1)) (bits h)
   pure (owner.setIfInBounds j (some k),k+1)) (some (o,hs1.length)) hs2=some (o',(hs1++hs2).length)/\nS mask o' (hs1++hs2) ps'
 |[],hs1,o,ps,O,_=>#[o,ps,by simp,↑O]
 |h::hs2,hs1,o,ps,O,hl=>by
  obtain⟨j,e,O'⟩:=O.step (h:=h) hmk (by rw[qq,qt]at hl;lia);let#[o',ps',e',O'']:=BU hmk hs2 (hs1++[h]) _ _ O' ↑hl;show#[o',ps',?_,↑O''];rw[foldl_cons];let:(do
   let(owner,k)<-(some (o,hs1.length):Option (Array (Option Nat)×Nat))
   let j<-layClean.free mask owner (turns mask) (bits h %(mask+1)) (bits h)
   pure (owner.setIfInBounds j (some k),k+1))=some (o.setIfInBounds j (some hs1.length),(hs1++[h]).length):=by
   show(do
    let j<-layClean.free mask o (turns mask) (bits h %(mask+1)) (bits h)
    pure (o.setIfInBounds j (some hs1.length),hs1.length+1))=_
   rw[e,qq];rfl
  rw[this];simpa using e'
def Dv{mask:Nat}(B:bP mask)(L:hs.size<=mask):∃o ps,layClean mask hs=some o/\nS mask o hs.toList ps:=by
 let Y:nS mask (Array.replicate (mask+1) none) [] []:=#[by simp,rfl,by simp,by simp,λj i=>by by_cases h:j<mask+1<;>simp[h],λi h j M=>by simp at M]
 let#[o,ps,e,O]:=BU B hs.toList [] _ _ Y L;show#[o,ps,?_,O];unfold layClean;rw[<-Array.foldl_toList];let J:=e;simp only[qv]at J;rw[J];rfl
def DA{α β:Type}{f:α->Option β}:∀(l:List α),(∀x∈l,(f x).isSome=true)->∀k:Nat,(l.filterMap f)[k]?=l[k]?.bind f
 |[],_,k=>by simp
 |x::l,h,k=>by
  let#[y,B]:=isSome_iff_exists.mp (h x (by simp));rw[filterMap_cons,B];cases k with
  |zero=>simp[B]
  |succ k=>show DA l (λz J=>h z (by simp[J])) k
def Dw{α:Type}{mask finger moves:Nat}{led plain:Bool}{es:Array (Int×α)}(e3:bP mask)(hl:es.size<=mask):
  ∃t J,laid mask finger moves led plain (es.map (·.1))=some (t,J)/\(J.filterMap (es[·]?)).toList.Perm es.toList/\gL t ((J.filterMap (es[·]?)).toList.map (·.1))/\t.mask=mask/\t.led=led/\t.plain=plain:=by
 let#[o,ps,e,O]:=Dv e3 (hs:=es.map (·.1)) ↑hl;let hr:ps.length=es.size:=by rw[O.len];simp
 generalize h9:((List.range (mask+1)).filterMap λj=>(o.getD j none).map (j,·))=B;let M:∀x:Nat×Nat,x∈B↔ps[x.2]?=some x.1:=λx=>by
  rw[<-h9,mem_filterMap];constructor
  .rintro⟨j,hj,hx⟩;let#[i,hi,rfl]:=qY.mp hx;show(O.own j i).mp hi
  .intro h;show#[x.1,qJ.mpr (by let:=O.le x.1 (qM h);lia),?_];rw[(O.own x.1 x.2).mpr h];rfl
 let h5:(B.map (·.1)).Pairwise (·<·):=by rw[<-h9,pairwise_map,List.pairwise_filterMap];show pairwise_lt_range.imp λ{a b} hp x hx y hy=>?_;let#[_,_,rfl]:=qY.mp hx;let#[_,_,rfl]:=qY.mp hy;show hp
 have h7:∀j,j∈B.map (·.1)↔j∈ps:=λj=>by
  rw[qK];constructor
  .rintro⟨x,hx,rfl⟩;show qM ((M x).mp hx)
  .intro hj;let#[i,hi,ei]:=getElem_of_mem hj;show#[(j,i),(M (j,i)).mpr (by rw[qh hi,ei]),rfl]
 let e2:(B.map (·.2)).Nodup:=by rw[List.Nodup,pairwise_map];let h2:B.Pairwise λa b=>a.1<b.1:=pairwise_map.mp h5;show List.Pairwise.imp_of_mem (λ{a b} ha hb hp e=>?_) h2;let h3:=(M a).mp ha;let h4:=(M b).mp hb;rw[e,h4]at h3;lia
 have h6:∀i,i∈B.map (·.2)↔i<es.size:=λi=>by
  rw[qK];constructor
  .rintro⟨x,hx,rfl⟩;let:=(qg.mp ((M x).mp hx)).1;lia
  simp_all
 let L:(B.map (·.2)).Perm (List.range es.size):=(List.perm_ext_iff_of_nodup e2 nodup_range).mpr λi=>by rw[h6,qJ]
 let hd:B.length=es.size:=by let:=L.length_eq;rw[qo,qD]at this;show this
 show#[{mask,place:=(B.map (·.1)).toArray,dummies:=#[],finger,led,moves,plain},(B.map (·.2)).toArray,?_,?_,?_,rfl,rfl,rfl]
 .unfold laid;rw[e];show some _=some _;rw[<-h9]
 .rw[Array.toList_filterMap];let:=L.filterMap (es[·]?);rw[filterMap_getElem?_range]at this;show this
 .have h8:∀i∈B.map (·.2),(es[i]?).isSome=true:=λi hi=>by rw[getElem?_eq_getElem ((h6 i).mp hi)];rfl
  have hk:∀k:Nat,(((B.map (·.2)).toArray.filterMap (es[·]?)).toList.map (·.1))[k]?=(B[k]?).bind λ(x:Nat×Nat)=>(es.map (·.1)).toList[x.2]?:=λk=>by
   rw[Array.toList_filterMap,qF,DA _ h8,qF];cases B[k]? with
   |none=>rfl
   |some x=>simp
  let Y:Rising (B.map (·.1)).toArray:=by rw[ris_list];show h5
  let h1:(((B.map (·.2)).toArray.filterMap (es[·]?)).toList.map (·.1)).length=es.size:=by rw[qo];let:=(L.filterMap (es[·]?)).length_eq;rw[filterMap_getElem?_range]at this;rw[Array.toList_filterMap];show this
  let e1:∀n p,aE {mask,place:=(B.map (·.1)).toArray,dummies:=#[],finger,led,moves,plain} p n=aE (bare mask) p n:=Ar rfl;let hc:∀b,SetTable.probeStart {mask,place:=(B.map (·.1)).toArray,dummies:=#[],finger,led,moves,plain} b=(bare mask).probeStart b:=Ap rfl;show#[Y,rfl,e3,?_,λi hi=>?_,?_,λi hi h hh=>?_]
  .rw[h1,qr,qo,hd]
  .let:(B.map (·.1)).toArray[i]∈B.map (·.1):=getElem_mem_toList hi;show O.le _ ((h7 _).mp this)
  .rw[h1];show hl
  .let e4:i<B.length:=by simpa using hi
   rw[hk,qh e4]at hh;let#[n,a,b]:=O.reach B[i].2 h B[i].1 hh ((M B[i]).mp (getElem_mem e4));show#[n,?_,λm hm=>?_]
   .rw[e1,hc,a];simp
   .rw[Bl Y rfl,e1];show(h7 _).mpr (b m hm)
def gL.fits(T:gL t hs)(hn:hs.length=n):t.fits n=true:=by unfold SetTable.fits;rw[T.size,hn,and_eq_true,beq_iff_eq];show#[rfl,?_];unfold fill;rw[T.size,T.dum];let:=T.few;simp;lia
def gL.odd(T:gL t hs):t.gaveWay=false:=by unfold SetTable.gaveWay;rcases T.mask with h|h|h|h|h|h|h<;>rw[h]<;>rfl
def Ck(n:Nat):(aE t (t.probeStart h) n).dummy=none:=by
 have J:∀n(p:Probe),p.dummy=none->(aE t p n).dummy=none:=by
  intro n;induction n with
  |zero=>intro p B;show B
  |succ n L=>intro p B;show L _ ?_;unfold advance;split<;>show B
 show J n _ rfl
section
variable{prog:Program}{w:World}{K:Type}[DecidableEq K](knd:HeapKind prog w K)
def eR(xs:List (K×Addr)):List (Int×Value):=xs.map λp=>(knd.hash p.1,Value.ref p.2)
variable{knd}
def EJ(J:∀{k:K}{b:Addr}{Q:Bool->Shared->Prop},knd.is s.heap k b->Q false s->wpAny (model prog w) A (ofAClassStatement 8 (.ref b)) Q E s){stored:List Value}(Y:knd.is s.heap k b)
  (M:∀v∈stored,∃B c,v=.ref c/\knd.is s.heap B c)(h:Q false s):wpAny (model prog w) A (searchCouldBeSeen (.ref b) stored) Q E s:=by
 show qa ?_;show wpAny_forIn_list _ (λrest r s'=>s'=s/\r=(none,())/\∀v∈rest,∃B c,v=.ref c/\knd.is s.heap B c) _ ?_ ?_ _ _ #[rfl,rfl,M]
 .rintro x rest r s' ⟨rfl,rfl,O⟩;let#[B,c,rfl,hc]:=O x qm;let L:∀v∈rest,∃B c,v=.ref c/\knd.is s'.heap B c:=λv hv=>O v (qk _ hv);dsimp only;split
  .show qb #[rfl,rfl,L]
  .show qa (knd.quiet Y ?_);show qa (knd.quiet hc ?_);show qa (J Y ?_);show qa (J hc ?_);show qb #[rfl,rfl,L]
 .rintro r s' ⟨rfl,rfl,_⟩;show qb h
theorem BN(hcl:∀{k:K}{b:Addr}{Q:Bool->Shared->Prop},knd.is s.heap k b->Q false s->wpAny (model prog w) A (ofAClassStatement 8 (.ref b)) Q E s)
  (hu:knd.room A)(hk:knd.is s.heap k b)(ho:s.heap.get? a=some o)(hd:o.data=.set es ep t)(he:es.toList=eR knd xs)(his:∀x∈xs,knd.is s.heap x.1 x.2)(T:gL t (es.toList.map (·.1)))
  (hf:n<10*turns t.mask)(hemp:t.slot (aE t (t.probeStart (knd.hash k)) n).j=.empty)(hne:∀m,m<n->t.slot (aE t (t.probeStart (knd.hash k)) m).j≠.empty)
  (h1:k∈xs.map (·.1)->Q (.there none) s)(h2:k∉xs.map (·.1)->Q (.free (aE t (t.probeStart (knd.hash k)) n).j false) s):
  ∀(r n0:Nat)(stand:Option Probe),n0<=n->n-n0<r->stand.getD (t.probeStart (knd.hash k))=aE t (t.probeStart (knd.hash k)) n0->
   (∀m,m<n0->∀i,t.slot (aE t (t.probeStart (knd.hash k)) m).j=.live i->(xs[i]?).map (·.1)≠some k)->wpAny (model prog w) A (setSearchFrom a (.ref b) (knd.hash k) true r stand) Q E s:=by
 let hsz:t.fits es.size=true:=T.fits (by simp);let zY:es.size=xs.length:=by rw[<-qV,he];simp[eR]
 let hent:∀i:Nat,es[i]?=(xs[i]?).map λp=>(knd.hash p.1,Value.ref p.2):=λi=>by rw[<-qZ,he];simp[eR]
 intro r;induction r with
 |zero=>intro n0 stand _ h;lia
 |succ r ih=>
  intro n0 stand hn0 hr hst hsofar;show qa (wpAny_setState_of ho hd hsz ?_);dsimp only;rw[T.odd];simp only[false_eq_true,if_false];let hgo:=Dp (t:=t) (hashAt:=λi=>(es[i]?.map (·.1)).getD 0) (h:=knd.hash k) T.ris T.dum (10*turns t.mask) (n-n0) (aE t (t.probeStart (knd.hash k)) n0) (Ck n0)
   (by rw[<-Ai,show n0+(n-n0)=n by lia];show hemp) (λm hm=>by rw[<-Ai];show hne _ ∅) ∅
  rw[hst];rcases hgo with⟨g1,g2⟩|⟨m,i,g1,g2,g3,g4,g5⟩
  .have e:t.probe (λi=>(es[i]?.map (·.1)).getD 0) (knd.hash k) (aE t (t.probeStart (knd.hash k)) n0)=some (.empty (aE t (t.probeStart (knd.hash k)) n).j none):=by unfold probe;rw[g1,<-Ai,show n0+(n-n0)=n by lia]
   have none_hit:k∉xs.map (·.1):=λhmem=>by
    let#[x,hx,hxk]:=qK.mp hmem;let#[i,hi,ei]:=getElem_of_mem hx;let hip:i<t.place.size:=by rw[T.size];simp;lia
    let hh:(es.toList.map (·.1))[i]?=some (knd.hash k):=by rw[qF,qZ,hent,qh hi,ei,<-hxk];rfl
    let#[q,q1,q2]:=T.reach i hip _ hh;let hql:t.slot (aE t (t.probeStart (knd.hash k)) q).j=.live i:=by rw[q1];show Bw T.ris hip rfl
    have hqn:q<n:=by
     rcases Nat.lt_trichotomy q n with z|z|z
     .show z
     .subst z;rw[hql]at hemp;cases hemp
     .show absurd hemp (q2 n z)
    by_cases hq0:q<n0
    .show hsofar q hq0 i hql (by rw[qh hi,ei,<-hxk];rfl)
    .let:=g2 (q-n0) ∅ i (by rw[<-Ai,show n0+(q-n0)=q by lia];show hql);apply this;rw[hent,qh hi,ei,<-hxk];rfl
   split
   .rename_i met heq;let h3:t.probe (λi=>(es[i]?.map (·.1)).getD 0) (knd.hash k) (aE t (t.probeStart (knd.hash k)) n0)=some met:=heq;rw[e]at h3;cases h3;show qb (h2 none_hit)
   .rename_i heq;show absurd e (heq _)
  .have e:t.probe (λi=>(es[i]?.map (·.1)).getD 0) (knd.hash k) (aE t (t.probeStart (knd.hash k)) n0)=some (.candidate (aE t (t.probeStart (knd.hash k)) (n0+m)).j i (aE t (t.probeStart (knd.hash k)) (n0+m+1))):=by unfold probe;rw[g4,<-Ai,<-Ai];rfl
   rw[<-Ai]at g2;let hip:∃hi:i<t.place.size,t.place[i]=(aE t (t.probeStart (knd.hash k)) (n0+m)).j:=by
    rcases Aq T.ris T.dum (aE t (t.probeStart (knd.hash k)) (n0+m)).j with⟨h,_⟩|⟨i',hi',ei',hl'⟩
    .rw[h]at g2;cases g2
    .rw[hl']at g2;cases g2;show#[hi',ei']
   let#[hip,_]:=hip;let hix:i<xs.length:=by rw[T.size]at hip;simp at hip;lia
   let hei:es[i]?=some (knd.hash xs[i].1,Value.ref xs[i].2):=by rw[hent,qh hix];rfl
   have hxi:=his xs[i] (getElem_mem hix);let body:wpAny (model prog w) A (match es[i]? with
     |some (_,y)=>do
      let equal<-holding [y] (eqBool y (Value.ref b))
      let __x<-setState a
      if(true&&equal)=true then pure (SetFound.there none)
       else
        match __x.2.snd.sameMemory t.moves t.mask with
        |some same=>
         match if same=true then __x.2.snd.slot (aE t (t.probeStart (knd.hash k)) (n0+m)).j else Slot.empty with
         |Slot.live i'=>
          match __x.fst[i']? with
          |some (_,y')=>do
           let __do_lift<-isSame y' y
           let still<-pure (if __do_lift=true then some i' else none)
           match still with
            |none=>do
             rule "set.search.anew"
             setSearchFrom a (Value.ref b) (knd.hash k) true r none
            |some i'=>
             if equal=true then pure (SetFound.there (some i'))
             else setSearchFrom a (Value.ref b) (knd.hash k) true r (some (aE t (t.probeStart (knd.hash k)) (n0+m+1)))
          |none=>do
           let still<-pure none
           match still with
            |none=>do
             rule "set.search.anew"
             setSearchFrom a (Value.ref b) (knd.hash k) true r none
            |some i'=>
             if equal=true then pure (SetFound.there (some i'))
             else setSearchFrom a (Value.ref b) (knd.hash k) true r (some (aE t (t.probeStart (knd.hash k)) (n0+m+1)))
         |x=>do
          let still<-pure none
          match still with
           |none=>do
            rule "set.search.anew"
            setSearchFrom a (Value.ref b) (knd.hash k) true r none
           |some i'=>
            if equal=true then pure (SetFound.there (some i'))
            else setSearchFrom a (Value.ref b) (knd.hash k) true r (some (aE t (t.probeStart (knd.hash k)) (n0+m+1)))
        |x=>unsupported "set.changed-during-lookup:is-the-new-block-at-the-old-address"
     |x=>unsupported "internal:set-entry") Q E s:=by
    rw[hei];show qa (zr (knd.eqBool hu hxi hk ?_));show qa (wpAny_setState_of ho hd hsz ?_);by_cases hkk:xs[i].1=k
    .rw[qR hkk];show qb (h1 (qK.mpr #[xs[i],getElem_mem hix,hkk]))
    .rw[qS hkk];let hsm:t.sameMemory t.moves t.mask=some true:=by unfold sameMemory;simp
     rw[hsm];dsimp only;rw[q5 rfl,g2];dsimp only;rw[hei];show qa (wpAny_isSame_ref_self ?_);rw[q5 rfl];show qa (qb ?_);show ih (n0+m+1) _ ∅ ∅ rfl λq hq i' hl'=>?_;rcases lt_or_ge q n0 with z|z
     .show hsofar q z i' hl'
     .rcases lt_or_ge q (n0+m)with z2|z2
      .intro hc;show g5 (q-n0) ∅ i' (by rw[<-Ai,show n0+(q-n0)=q by lia];show hl') ?_;rw[hent];cases hx:xs[i']? with
       |none=>rw[hx]at hc;cases hc
       |some x=>rw[hx]at hc;let:x.1=k:=qf hc;rw[<-this];rfl
      .let:q=n0+m:=by lia
       subst this;rw[g2]at hl';cases hl';rw[qh hix];show λz=>hkk (qf z)
   split
   .rename_i met heq;let h3:t.probe (λi=>(es[i]?.map (·.1)).getD 0) (knd.hash k) (aE t (t.probeStart (knd.hash k)) n0)=some met:=heq;rw[e]at h3;cases h3;dsimp only;split
    .refine qa (EJ hcl hk (λv hv=>?_) ?_)
     .obtain⟨p,hp,rfl⟩:=qK.mp hv;let hp2:p∈es.toList:=by let:=mem_toList_iff.mp hp;exact mem_toList_iff.mpr (Array.mem_filter.mp this).1
      rw[he]at hp2;let#[x,hx,rfl]:=qK.mp hp2;show#[x.1,x.2,rfl,his x hx]
     .simp;show body
    .show body
   .rename_i heq;show absurd e (heq _)
def eY(t:SetTable)(n:Nat):Prop:=n*5<t.mask*3
@[inline]def TSet(ld:Bool)(knd:HeapKind prog w K)(h:Heap)(a:Addr)(xs:List (K×Addr)):Prop:=∃o es ep t,h.get? a=some o/\o.ExactSet/\o.data=.set es ep t/\t.led=ld/\gL t (es.toList.map (·.1))/\eY t es.size/\es.toList=eR knd xs/\(∀x∈xs,knd.is h x.1 x.2)/\(xs.map (·.1)).Nodup
def CL(T:gL t hs):gL {t with plain:=p} hs:=by let M:∀n q,aE {t with plain:=p} q n=aE t q n:=Ar rfl;let L:∀b,SetTable.probeStart {t with plain:=p} b=t.probeStart b:=Ap rfl;let J:∀j,SetTable.slot {t with plain:=p} j=t.slot j:=λj=>rfl;show#[T.ris,T.dum,T.mask,T.size,T.le,T.few,λi hi h B=>?_];let#[n,a,b]:=T.reach i hi h B;grind
def BM(h:n<=1000):n<=sizeLine:=by rw[zo];lia
def AH{h:Heap}(J:h.get? a=some o)(B:o.data=.set es ep t):(h.update a (Obj.putSet es' t')).get? a=some {o with data:=.set es' (ep+1) t'}:=by let:=zi (Obj.putSet es' t') J (by rw[putSet_of es' t' B];rfl);rw[putSet_of es' t' B]at this;show this
def Dn(ho:s.heap.get? a=some o)(hd:o.data=.set es ep t)(T:gL t (es.toList.map (·.1)))(hn:es.size=n)(O:bP (sizeAbove J-1))(hr:n*5<(sizeAbove J-1)*3)
  (h:∀es' t',es'.toList.Perm es.toList->gL t' (es'.toList.map (·.1))->t'.mask=sizeAbove J-1->t'.led=t.led->Q () {s with heap:=s.heap.update a (Obj.putSet es' t')}):wpAny (model prog w) A (setRelay a J) Q E s:=by
 let hm:sizeAbove J-1<=511:=by rcases O with z|z|z|z|z|z|z<;>lia
 let Y:es.size<=sizeAbove J-1:=∅
 let#[t',B,e1,e2,e3,e4,e5,e6]:=Dw (finger:=t.finger) (moves:=t.movedTo (sizeAbove J-1)) (led:=t.led) (plain:=t.plain) O Y;let M:(B.filterMap (es[·]?)).size=es.size:=by rw[<-qV,e2.length_eq,qV]
 show qa (wpAny_setState_of ho hd (T.fits (by simp)) ?_);dsimp only;let L:¬(sizeAbove J>sizeLine):=by rw[zo];lia
 rw[q8 L];let h1:t.relaid (es.map (·.1)) J=some (t',B):=e1;rw[h1];show qa ?_;show wpAny (model prog w) A (if((B.filterMap (es[·]?)).size !=es.size)=true then _ else _) _ E s;rw[M];simp;show qb ?_;show wpAny_storeSet_of ho hd (h _ t' e2 e3 e4 e5) (BM (by rw[M];lia))
def DQ(h:bP m):7<=m/\m<=511:=by rcases h with z|z|z|z|z|z|z<;>lia
def CS(h:l.Perm (eR knd xs)):∃ys,ys.Perm xs/\l=eR knd ys:=by
 unfold eR at h;induction l generalizing xs with
 |nil=>
  let:=h.length_eq;let B:xs=[]:=↑this.symm
  subst B;show#[[],.refl _,rfl]
 |cons e l M=>
  let O:e∈xs.map λp=>(knd.hash p.1,Value.ref p.2):=h.mem_iff.mp (by simp);let#[x,B,rfl]:=qK.mp O;let#[L,J,rfl]:=append_of_mem B;let h2:l.Perm ((L++J).map λp=>(knd.hash p.1,Value.ref p.2)):=by grind
  let#[ys,p,rfl]:=M h2;show#[x::ys,(List.Perm.cons x p).trans perm_middle.symm,rfl]
theorem EO(hcl:∀{k:K}{b:Addr}{Q:Bool->Shared->Prop},knd.is s.heap k b->Q false s->wpAny (model prog w) A (ofAClassStatement 8 (.ref b)) Q E s)(hbv:∀{k:K}{b:Addr}{Q:Bool->Shared->Prop},knd.is s.heap k b->(∀r,Q r s)->wpAny (model prog w) A (hashByValue 8 (.ref b)) Q E s)
  (hkp:∀{h h':Heap}{k:K}{c:Addr}{o:Obj}{es:Array (Int×Value)}{ep:Nat}{t:SetTable},knd.is h k c->h.get? a=some o->o.data=.set es ep t->Heap.SameBut a h h'->knd.is h' k c)
  (hu:knd.room A)(hk:knd.is s.heap k b)(hS:TSet ld knd s.heap a xs)(hroom:xs.length<=150)
  (h1:k∈xs.map (·.1)->Q false s)(h2:k∉xs.map (·.1)->∀h' ys,Heap.SameBut a s.heap h'->ys.Perm ((k,b)::xs)->TSet ld knd h' a ys->Q true {s with heap:=h'}):
  wpAny (model prog w) A (setAddHashed a (.ref b) (knd.hash k)) Q E s:=by
 let#[o,es,ep,t,ho,hex,hd,hld,T,hrm,he,his,hnd]:=hS;let hsz:t.fits es.size=true:=T.fits (by simp);let zY:es.size=xs.length:=by rw[<-qV,he];simp[eR]
 let#[n,hf,hemp,hne]:=T.free (knd.hash k);let hmk:t.mask<=511:=by rcases T.mask with z|z|z|z|z|z|z<;>lia
 show zr (qa (wpAny_setState_of ho hd hsz ?_));dsimp only;let hbs:byScan (.ref b) es=false:=by simp[byScan,Value.scannable]
 rw[hbs];show qa ?_;show BN hcl hu hk ho hd he his T hf hemp hne (λhm=>?_) (λhm=>?_) 100000 0 none (zero_le _) (by unfold turns at hf;lia) rfl (λm hm=>by lia)
 .show qb (h1 hm)
 .dsimp only;show qa (wpAny_setState_of ho hd hsz ?_);let hjm:=BD (t:=t) (h:=knd.hash k) T.mask n;let hfew:(es.toList.map (·.1)).length+1<=t.mask:=by grind[length_map,length_toList,DQ,eY]
  let TP:=T.put hemp hne hjm hfew;generalize hj:(aE t (t.probeStart (knd.hash k)) n).j=j at*;let#[e1,e2,e3,e4]:=AU (t:=t) (j:=j) T.dum;let epl:(t.put j).1.led=t.led:=by unfold SetTable.put;first|rfl|(split<;>rfl)
  generalize hp:t.put j=tp at*;let#[t1,p]:=tp
  --the things behind it
  let hel:(insertAt es p (knd.hash k,Value.ref b)).toList=es.toList.take p++(knd.hash k,Value.ref b)::es.toList.drop p:=toList_insertAt ..;let TP':gL t1 ((insertAt es p (knd.hash k,Value.ref b)).toList.map (·.1)):=by simp_all
  let hys:(insertAt es p (knd.hash k,Value.ref b)).toList=eR knd (xs.take p++(k,b)::xs.drop p):=by rw[hel,he];unfold eR;simp_all
  let hyp:(xs.take p++(k,b)::xs.drop p).Perm ((k,b)::xs):=by grind[perm_middle.trans,take_append_drop]
  let hsz1:(insertAt es p (knd.hash k,Value.ref b)).size=es.size+1:=by rw[<-qV,hys];grind
  let all:∀{h':Heap}{ys:List (K×Addr)},Heap.SameBut a s.heap h'->ys.Perm ((k,b)::xs)->(∀x∈ys,knd.is h' x.1 x.2)/\(ys.map (·.1)).Nodup:=λ{h' ys} sb pm=>by grind
  have tail:∀t2:SetTable,gL t2 ((insertAt es p (knd.hash k,Value.ref b)).toList.map (·.1))->t2.mask=t.mask->t2.led=t.led->wpAny (model prog w) A (do
    storeSet a (insertAt es p (knd.hash k,Value.ref b)) t2
    if(!false&&t2.tooFull)=true then do
       setRelay a (grown (es.size+1))
       pure true
     else pure true) Q E s:=λt2 T2 em el=>by
   show qa (wpAny_storeSet_of ho hd ?_ (BM ∅));let ho1:=AH (es':=insertAt es p (knd.hash k,Value.ref b)) (t':=t2) ho hd;let hsb1:=Heap.SameBut.update s.heap a (Obj.putSet (insertAt es p (knd.hash k,Value.ref b)) t2);let hfill:t2.fill=es.size+1:=by unfold fill;rw[T2.size,T2.dum,qo,qV,hsz1];rfl
   by_cases hfull:t2.tooFull=true
   .rw[hfull];let hn5:bP (sizeAbove (grown (es.size+1))-1)/\(es.size+1)*5<(sizeAbove (grown (es.size+1))-1)*3:=by
     unfold tooFull at hfull;unfold eY at hrm;rcases T.mask with z|z|z|z|z|z|z
     .rw[show es.size+1=5 by lia];show#[.inr (.inr (.inl ⋯)),⋯]
     .rw[show es.size+1=9 by lia];show#[.inr (.inr (.inr (.inl ⋯))),⋯]
     .rw[show es.size+1=19 by lia];show#[.inr (.inr (.inr (.inr (.inl ⋯)))),⋯]
     .rw[show es.size+1=38 by lia];show#[.inr (.inr (.inr (.inr (.inr (.inl ⋯))))),⋯]
     .rw[show es.size+1=77 by lia];show#[.inr (.inr (.inr (.inr (.inr (.inr ⋯))))),⋯]
     .lia
     .lia
    show qa (Dn (s:={s with heap:=s.heap.update a (Obj.putSet (insertAt es p (knd.hash k,Value.ref b)) t2)}) ho1 rfl T2 hsz1 hn5.1 hn5.2 λes' t' pm T' rm rl=>qb ?_);rw[hys]at pm;let#[ys,pm2,ey]:=CS pm;let sb2:=hsb1.trans (Heap.SameBut.update (s.heap.update a (Obj.putSet (insertAt es p (knd.hash k,Value.ref b)) t2)) a (Obj.putSet es' t'));let hz':es'.size=es.size+1:=by rw[<-qV,ey];let:=(pm2.trans hyp).length_eq;grind[eR,length_map,length_cons]
    let#[i1,i2]:=all sb2 (pm2.trans hyp);show h2 hm _ ys sb2 (pm2.trans hyp) #[_,es',_,t',AH ho1 rfl,hex,rfl,rl.trans (el.trans hld),T',by unfold eY;rw[hz',rm];show hn5.2,ey,i1,i2]
   .rw[Bool.not_eq_true]at hfull;rw[hfull];let#[i1,i2]:=all hsb1 hyp;show qb (h2 hm _ _ hsb1 hyp #[_,_,_,t2,ho1,hex,rfl,el.trans hld,T2,?_,hys,i1,i2]);unfold tooFull at hfull;grind[eY]
  split
  .show qa (hbv hk λr=>?_);cases r with
   |true=>show tail t1 TP' e2 epl
   |false=>show tail {t1 with plain:=false} (CL TP') e2 epl
  grind
end
end ST
namespace ST
open PySem
section
variable{prog:Program}{w:World}{K:Type}[DecidableEq K]{knd:KeyKind prog w K}{A:Around}{E:zv}{s:Shared}{ks:List K}{b:Addr}
def CU(h:carriedByValue v=true):ofAClassStatement n v=pure false:=by
 cases v with
 |ref a=>simp[carriedByValue]at h
 |_=>first|rfl|simp|(unfold ofAClassStatement;rfl)
def Dz(h:carriedByValue v=true):∃r,hashByValue n v=pure r:=by
 cases v with
 |ref a=>simp[carriedByValue]at h
 |float bits t=>show#[(Float64.hash? bits).isSome,by rw[hashByValue]]
 |none|bool _|int _ _=>show#[true,by rw[hashByValue]]
 |_=>show#[false,by rw[hashByValue]]
def CK(L:IsTupleKey knd s.heap ks b)(h:Q false s):wpAny (model prog w) A (ofAClassStatement 8 (.ref b)) Q E s:=by
 let hT:=L.typeIs;let#[o,items,n,O,_,Y,hi]:=L;unfold ofAClassStatement;show qa (wpAny_typeOf hT ?_);dsimp only;show qa (qb ?_);show qa (wpAny_seqItems O Y ?_);show qa ?_;rw[<-Array.forIn_toList];show wpAny_forIn_list _ (λrest r s'=>r.1=none/\s'=s/\∀v∈rest,carriedByValue v=true) _ ?_ ?_ _ _ #[rfl,rfl,hi.byValue]
 .rintro v rest r s' ⟨J,rfl,B⟩;rw[CU (B v qm)];show qa (qb ?_);show qb #[rfl,rfl,λx M=>B x (qk _ M)]
 .rintro r s' ⟨J,rfl,_⟩;rw[J];show qb h
def De(J:IsTupleKey knd s.heap ks b)(h:∀r,Q r s):wpAny (model prog w) A (hashByValue 8 (.ref b)) Q E s:=by
 let Y:=J.typeIs;let#[o,items,n,M,_,O,hi]:=J;show qa (wpAny_specialOf Y F.slot_tuple_hash.lookup ?_);dsimp only;show qa (wpAny_seqItems M O ?_);show qa ?_;rw[<-Array.forIn_toList];show wpAny_forIn_list _ (λrest r s'=>s'=s/\∀v∈rest,carriedByValue v=true) _ ?_ ?_ _ _ #[rfl,hi.byValue]
 .rintro v rest r s' ⟨rfl,B⟩;let#[c,e]:=Dz (n:=7) (B v qm);rw[e];show qa (qb ?_);cases c
  .show qb (qb (h _))
  .show qb #[rfl,λx L=>B x (qk _ L)]
 .rintro r s' ⟨rfl,_⟩;cases r.1<;>show qb (h _)
def CJ(x:IsTupleKey knd h ks b)(O:h.get? a=some o)(Y:o.data=.set es ep t)(hs:Heap.SameBut a h h'):IsTupleKey knd h' ks b:=by
 let#[o',items,n,B,M,L,hi]:=x;let J:b≠a:=by grind
 show#[o',items,n,(hs.2 b J).trans B,M,L,hi]
end
def Cs(hn:n≠0)(h:∀i,i<n->∀d,Q i {s with drawn:=d}):wpAny (model prog w) A (choose .order n) Q E s:=
 λ_ _ _=>#[hn,h _ (mod_lt _ (Nat.pos_of_ne_zero hn)) _]
def BW:∀(n:Nat){xs:List α}{s:Shared}{Q:List α->Shared->Prop},xs.length=n->(∀ys d,ys.Perm xs->Q ys {s with drawn:=d})->wpAny (model prog w) A (drawOrder n xs) Q E s
 |0,xs,s,Q,e,h=>by
  cases xs with
  |nil=>show qb (h [] s.drawn .nil)
  |cons _ _=>cases e
 |n+1,xs,s,Q,e,h=>by
  cases xs with
  |nil=>cases e
  |cons x xs=>show qa (Cs (by simp) λi hi d=>?_);rw[qh hi];show qa (BW n (by rw[List.length_eraseIdx,q5 hi,e];rfl) λys J B=>?_);show qb (h _ J ((B.cons _).trans ?_));rw[List.eraseIdx_eq_take_drop_succ];show perm_middle.symm.trans ?_;rw[List.getElem_cons_drop,take_append_drop]
def AA(h:Q (w.params.followText "set-order") s):wpAny (model prog w) A setsByText Q E s:=qa (wpAny_askSetting (qb h))
theorem slot_next:Slot "set_iterator" "__next__" "set_iterator.__next__":=
 .of (owner:="set_iterator") (n:="__next__") (by rw[typeLookup_type];kernel_rfl) (by decide+kernel) (by decide+kernel) (by decide+kernel)
  (by first|show .inl (by decide+kernel)|show .inr (by decide+kernel)) (by rw[isSubtype_type];kernel_rfl)
def Az:entryFor table "set_iterator.__next__"=some Builtin.«set_iterator.__next__»:=entryFor_of_tree (by kernel_rfl)
def AK(a:Value):argsOk "set_iterator.__next__" #[[a],[]]:=by unfold argsOk;kernel_rfl
def Bv:Slot "set_iterator" "__iter__" "set_iterator.__iter__":=
 .of (owner:="set_iterator") (n:="__iter__") (by rw[typeLookup_type];kernel_rfl) (by decide+kernel) (by decide+kernel) (by decide+kernel)
  (by first|show .inl (by decide+kernel)|show .inr (by decide+kernel)) (by rw[isSubtype_type];kernel_rfl)
def Cq:entryFor table "set_iterator.__iter__"=some Builtin.«dict_keyiterator.__iter__»:=
 entryFor_alias (id':="dict_keyiterator.__iter__") (by kernel_rfl) rfl (by decide+kernel) (by kernel_rfl)
def CV(a:Value):argsOk "set_iterator.__iter__" #[[a],[]]:=by unfold argsOk;kernel_rfl
def lR(h:Heap)(I a:Addr)(f:Value)(i n ep:Nat):Prop:=∃o,h.get? I=some o/\o.cls=.type "set_iterator"/\o.data=.fields [f,.int i 0,.ref a,.int n 0,.int ep 0].toArray
@[inline]def SetAt(h:Heap)(a:Addr)(es:Array (Int×Value))(ep:Nat)(t:SetTable):Prop:=∃o,h.get? a=some o/\o.data=.set es ep t/\t.fits es.size=true
@[inline]def TupAt(h:Heap)(p:Addr)(ys:List Nat):Prop:=∃o c,h.get? p=some o/\o.data=.seq (ys.map λi:Nat=>rawInt (i:Int)).toArray c
def lR.typeIs{s:Shared}(x:lR s.heap I a f i n ep):s.TypeIs (.ref I) "set_iterator":=let⟨o,ho,hc,_⟩:=x;#[o,ho,hc]
def Cn(hit:lR s.heap I a (.ref p) i es.size ep)(hs:SetAt s.heap a es ep t)(ht:TupAt s.heap p ys)(hj:ys[i]?=some j)(he:es[j]?=some e)
  (hQ:∀h',lR h' I a (.ref p) (i+1) es.size ep->Heap.SameBut I s.heap h'->Q (some e.2) {s with heap:=h'}):wpAny (model prog w) A (pyNext (.ref I)) Q E s:=by
 obtain⟨o,Y,hc,O⟩:=id hit;let#[o',J,M,hf]:=hs;let#[h1,c,B,L]:=ht;refine qa (wpAny_attempt (wpAny_callSpecial?_slot (name:=Str.ofString "__next__") hit.typeIs slot_next
  (zm slot_next hit.typeIs Az ?_ (AK _))))
 show wpAny _ _ (fieldsOf (.ref I)>>=_) _ _ s;show qa (wpAny_fieldsOf Y O ?_);show qa (qa (wpAny_setState_of J M hf (qb ?_)));rw[q8 (by simp)];show qa (wpAny_seqItems B L ?_);dsimp only;rw[qW,List.getElem?_toArray,qF,hj];dsimp only[map_some,rawInt];show qa (qa (wpAny_setState_of J M hf ?_));dsimp only;rw[q8 (by simp),qW,he];show qb (qa (wpAny_setField Y O (by simp) (qb #[_,rfl,qb (hQ _ ?_ (Heap.SameBut.update ..))])));show#[_,zi _ Y (Obj.isFreed_of_fields (Obj.data_mapFields O _)),(Obj.cls_mapFields ..).trans hc,by rw[Obj.data_mapFields O];simp]
def CT(hh:A.handled=none)(hit:lR s.heap I a (.ref p) i es.size ep)(hs:SetAt s.heap a es ep t)(ht:TupAt s.heap p ys)(hj:ys[i]?=none)
  (hQ:∀h',Heap.ExtBut I s.heap h'->Q none {s with heap:=h'}):wpAny (model prog w) A (pyNext (.ref I)) Q E s:=by
 obtain⟨o,O,hc,L⟩:=id hit;let#[o',M,Y,hf]:=hs;let#[h1,c,B,J]:=ht;refine qa (wpAny_attempt (wpAny_callSpecial?_slot (name:=Str.ofString "__next__") hit.typeIs slot_next
  (zm slot_next hit.typeIs Az ?_ (AK _))))
 show wpAny _ _ (fieldsOf (.ref I)>>=_) _ _ s;show qa (wpAny_fieldsOf O L ?_);show qa (qa (wpAny_setState_of M Y hf (qb ?_)));rw[q8 (by simp)];show qa (wpAny_seqItems B J ?_);dsimp only;rw[qW,List.getElem?_toArray,qF,hj];show qa (wpAny_setField O L (by simp) ?_);show qa (wpAny_setField (zi _ O (Obj.isFreed_of_fields (Obj.data_mapFields L _))) (Obj.data_mapFields L _) (by simp) ?_);show qa ?_;show qa (zk ?_ (by size_fits));show qa (m:=firstArgMember _ _) (zt (a:=Value.none) (by first|rfl|(simp;rfl)) ?_);show zk ?_ (by size_fits);show qa (wpAny_handled ?_);rw[show A.in1.handled=none from hh];show qa (qb (wpAny_throw ?_));show qa (wpAny_isInstance (T:="StopIteration") (b:=true) ⟨_,qd _ rfl,rfl⟩ isSubtype_stop ?_);show qb (hQ _ ((((Heap.SameBut.update ..).trans (Heap.SameBut.update ..)).extBut.push _).push _))
def BS{slot slot':Nat}(hit:lR s.heap I a (.int slot 0) i es.size ep)(hs:SetAt s.heap a es ep t)
  (hn:∀(A:Around)(E:zv)(R:Option (Value×Nat)->Shared->Prop),R (some (v,slot')) s->wpAny (model prog w) A (setNext a slot i ep) R E s)
  (hQ:∀h',lR h' I a (.int slot' 0) (i+1) es.size ep->Heap.SameBut I s.heap h'->Q (some v) {s with heap:=h'}):wpAny (model prog w) A (pyNext (.ref I)) Q E s:=by
 obtain⟨o,J,Y,B⟩:=id hit;let#[o',L,M,O]:=hs;refine qa (wpAny_attempt (wpAny_callSpecial?_slot (name:=Str.ofString "__next__") hit.typeIs slot_next
  (zm slot_next hit.typeIs Az ?_ (AK _))))
 show wpAny _ _ (fieldsOf (.ref I)>>=_) _ _ s;show qa (wpAny_fieldsOf J B ?_);dsimp only;show qa (qa (wpAny_setState_of L M O (qb ?_)));rw[q8 (by simp)];show qa (hn _ _ _ ?_);show qa (wpAny_setField J B (by simp) ?_);show qa (wpAny_setField (zi _ J (Obj.isFreed_of_fields (Obj.data_mapFields B _))) (Obj.data_mapFields B _) (by simp) ?_);show qb #[_,rfl,qb (hQ _ ?_ ((Heap.SameBut.update ..).trans (Heap.SameBut.update ..)))];show#[_,zi _ (zi _ J (Obj.isFreed_of_fields (Obj.data_mapFields B _))) (Obj.isFreed_of_fields (Obj.data_mapFields (Obj.data_mapFields B _) _)),(Obj.cls_mapFields ..).trans ((Obj.cls_mapFields ..).trans Y),by rw[Obj.data_mapFields (Obj.data_mapFields B _)];simp[rawInt]]
def CF{slot:Nat}(O:A.handled=none)(hit:lR s.heap I a (.int slot 0) i es.size ep)(hs:SetAt s.heap a es ep t)
  (hn:∀(A:Around)(E:zv)(R:Option (Value×Nat)->Shared->Prop),R none s->wpAny (model prog w) A (setNext a slot i ep) R E s)
  (hQ:∀h',Heap.ExtBut I s.heap h'->Q none {s with heap:=h'}):wpAny (model prog w) A (pyNext (.ref I)) Q E s:=by
 obtain⟨o,L,hc,M⟩:=id hit;let#[o',B,J,Y]:=hs;refine qa (wpAny_attempt (wpAny_callSpecial?_slot (name:=Str.ofString "__next__") hit.typeIs slot_next
  (zm slot_next hit.typeIs Az ?_ (AK _))))
 show wpAny _ _ (fieldsOf (.ref I)>>=_) _ _ s;show qa (wpAny_fieldsOf L M ?_);dsimp only;show qa (qa (wpAny_setState_of B J Y (qb ?_)));rw[q8 (by simp)];show qa (hn _ _ _ ?_);show qa (wpAny_setField L M (by simp) ?_);show qa ?_;show qa (zk ?_ (by size_fits));show qa (m:=firstArgMember _ _) (zt (a:=Value.none) (by first|rfl|(simp;rfl)) ?_);show zk ?_ (by size_fits);show qa (wpAny_handled ?_);rw[show A.in1.handled=none from O];show qa (qb (wpAny_throw ?_));show qa (wpAny_isInstance (T:="StopIteration") (b:=true) ⟨_,qd _ rfl,rfl⟩ isSubtype_stop ?_);show qb (hQ _ (((Heap.SameBut.update ..).extBut.push _).push _))
def Bi(hit:lR s.heap I a f i n ep)(h:Q (.ref I) s):wpAny (model prog w) A (pyIter (.ref I)) Q E s:=by show wpAny_pyIter_slot hit.typeIs Bv (zm Bv hit.typeIs Cq ?_ (CV _));show qb #[_,rfl,"set_iterator",_,hit.typeIs,slot_next.lookup,h]
end ST
namespace ST
open PySem PySem.SetTable
section
variable{prog:Program}{w:World}{A:Around}{E:zv}{s:Shared}{I a p:Addr}{es:Array (Int×Value)}{ep i slot:Nat}{t:SetTable}{ys:List Nat}
def AN(hs:SetAt s.heap a es ep t)(hb:w.params.followText "set-order"=false)(J:¬(!t.plain&&decide (es.size>1))=true)(M:t.led=true)
  (h:R (match es[below t.place slot]?,t.place[below t.place slot]? with|some (_,x),some j=>some (x,j+1)|_,_=>none) s):wpAny (model prog w) A (setNext a slot i ep) R E s:=by
 let#[o',B,L,O]:=hs;show qa (wpAny_setState_of B L O ?_);show qa (AA ?_);rw[hb,q8 ⋯];split
 .rename_i Y;show absurd Y J
 .show qa ?_;show wpAny _ _ (if(!t.led&& !es.isEmpty)=true then _ else _) _ _ _;rw[M];show qb ?_;show qb h
def AS(hs:SetAt s.heap a es ep t)(M:w.params.followText "set-order"=true)
  (h:R (((pickOrder (w.params.setOrder a ep) es)[i]?).map λe=>(e.2,slot)) s):wpAny (model prog w) A (setNext a slot i ep) R E s:=by
 let#[o',B,J,L]:=hs;show qa (wpAny_setState_of B J L ?_);show qa (AA ?_);rw[M,q5 rfl,q8 (by simp)];show qa ?_;show qa (wpAny_setState_of B J L ?_);show qa (AA ?_);rw[M];show qa (wpAny_askSetting ?_);show qb (qb h)
def Ct(B:Rising xs):below xs 0=0:=by
 let#[h1,h2,J]:=Av (j:=0) B;rcases Nat.eq_zero_or_pos (below xs 0)with z|z
 .show z
 .show absurd (h2 0 ∅ z) (Nat.not_lt_zero _)
def Cu(B:Rising xs)(hi:i<xs.size):below xs (xs[i]+1)=i+1:=by
 let#[h1,h2,J]:=Av (j:=xs[i]+1) B;let a:i<below xs (xs[i]+1):=Nat.lt_of_not_le λz=>absurd (J i hi z) ∅;rcases lt_or_ge (i+1) (below xs (xs[i]+1))with z|z
 .let b:=h2 (i+1) ∅ z;let c:=B i (i+1) hi ∅ ∅;lia
 .lia
end
def Cy(f:Nat->Nat):∀(n k:Nat)(left:List α)(B:Array α),left.length=n->((pickOrder.go f n k left B).toList).Perm (B.toList++left)
 |0,k,left,B,e=>by
  cases left with
  |nil=>unfold pickOrder.go;simp
  |cons _ _=>cases e
 |n+1,k,left,B,e=>by let hi:f k %left.length<left.length:=mod_lt _ ∅;unfold pickOrder.go;rw[qh hi];show(Cy f n (k+1) _ _ (by rw[List.length_eraseIdx,q5 hi,e];rfl)).trans ?_;rw[Array.toList_push,qp];show List.Perm.append_left _ ?_;show(left[f k %left.length]::left.eraseIdx (f k %left.length)).Perm left;rw[List.eraseIdx_eq_take_drop_succ];show perm_middle.symm.trans ?_;rw[List.getElem_cons_drop,take_append_drop]
def AV(f:Nat->Nat)(xs:Array α):((pickOrder f xs).toList).Perm xs.toList:=by let:=Cy f xs.size 0 xs.toList #[] (by simp);first|rfl|assumption|(simp_all;done)
def SetAt.same(x:SetAt h a es ep t)(hs:Heap.SameBut I h h')(B:a≠I):SetAt h' a es ep t:=let⟨o,ho,r⟩:=x;#[o,(hs.2 a B).trans ho,r]
def TupAt.same(x:TupAt h p ys)(hs:Heap.SameBut I h h')(B:p≠I):TupAt h' p ys:=let⟨o,c,ho,r⟩:=x;#[o,c,(hs.2 p B).trans ho,r]
def gB(ord:List (Int×Value))(i:Nat)(v:Value):Prop:=∃e,ord[i]?=some e/\v=e.2
def BJ(hh:A.handled=none){ord:List (Int×Value)}(ho:ord.length=es.size)(hy:ys.length=es.size)(hor:∀(i j:Nat),ys[i]?=some j->es[j]?=ord[i]?/\j<es.size)(ha:a≠I)(hp:p≠I):
  Walks prog w A I [I,a,p] [I] es.size (gB ord) (λi h=>lR h I a (.ref p) i es.size ep/\SetAt h a es ep t/\TupAt h p ys) where
 sub:=λb hb=>by rw[qu.mp hb];simp
 frame:=λi h h' st hk=>by let#[#[o,h1,h2],#[o',h3,h4],#[o'',c,h5,h6]]:=st;show#[#[o,hk I (by simp) o h1,h2],#[o',hk a (by simp) o' h3,h4],#[o'',c,hk p (by simp) o'' h5,h6]]
 item:=λi s Q E hi st hQ=>by let hj:ys[i]?=some (ys[i]'∅):=qh ∅;let#[he,hlt]:=hor i _ hj;let hoi:ord[i]?=some (ord[i]'∅):=qh ∅;show Cn st.1 st.2.1 st.2.2 hj (he.trans hoi) λh' hit' hs'=>?_;show hQ _ h' s.toks #[_,hoi,rfl] #[hit',st.2.1.same hs' ha,st.2.2.same hs' hp] λb o hb e=>hs'.extBut b o (λz=>hb (by simp[z])) e
 done:=λs Q E st hQ=>CT hh st.1 st.2.1 st.2.2 (qQ ∅) λh' he'=>hQ h' s.toks λb o hb e=>he' b o (λz=>hb (by simp[z])) e
 self:=λ_ _ _ _ st hQ=>Bi st.1 hQ
def Cg(hh:A.handled=none)(hb:w.params.followText "set-order"=true)(ha:a≠I):
  Walks prog w A I [I,a] [I] es.size (gB (pickOrder (w.params.setOrder a ep) es).toList) (λi h=>lR h I a (.int ((0:Nat):Int) 0) i es.size ep/\SetAt h a es ep t) where
 sub:=λb hb=>by rw[qu.mp hb];simp
 frame:=λi h h' st hk=>by let#[#[o,h1,h2],#[o',h3,h4]]:=st;show#[#[o,hk I (by simp) o h1,h2],#[o',hk a (by simp) o' h3,h4]]
 item:=λi s Q E hi st hQ=>by let hl:=(AV (w.params.setOrder a ep) es).length_eq;rw[qV,qV]at hl;let hoi:(pickOrder (w.params.setOrder a ep) es)[i]?=some ((pickOrder (w.params.setOrder a ep) es)[i]'∅):=getElem?_eq_getElem ∅;show BS (slot':=0) st.1 st.2 (λA E R hR=>AS st.2 hb (by rw[hoi];show hR)) λh' hit' hs'=>?_;show hQ _ h' s.toks #[_,by rw[qZ];show hoi,rfl] #[hit',st.2.same hs' ha] λb o hb e=>hs'.extBut b o (λz=>hb (by simp[z])) e
 done:=λs Q E st hQ=>by let hl:=(AV (w.params.setOrder a ep) es).length_eq;rw[qV,qV]at hl;show CF hh st.1 st.2 (λA E R hR=>AS st.2 hb (by rw[Array.getElem?_eq_none ∅];show hR)) λh' he'=>hQ h' s.toks λb o hb e=>he' b o (λz=>hb (by simp[z])) e
 self:=λ_ _ _ _ st hQ=>Bi st.1 hQ
def BI(hh:A.handled=none)(hb:w.params.followText "set-order"=false)(hnd:¬(!t.plain&&decide (es.size>1))=true)(hl:t.led=true)(hr:Rising t.place)(hz:t.place.size=es.size)(ha:a≠I):
  Walks prog w A I [I,a] [I] es.size (gB es.toList) (λi h=>∃slot:Nat,lR h I a (.int slot 0) i es.size ep/\below t.place slot=i/\SetAt h a es ep t) where
 sub:=λb hb=>by rw[qu.mp hb];simp
 frame:=λi h h' st hk=>by let#[sl,#[o,h1,h2],hbl,#[o',h3,h4]]:=st;show#[sl,#[o,hk I (by simp) o h1,h2],hbl,#[o',hk a (by simp) o' h3,h4]]
 item:=λi s Q E hi st hQ=>by
  let#[sl,hit,hbl,hs]:=st;let hi':i<t.place.size:=∅
  show BS (slot':=t.place[i]+1) (v:=es[i].2) hit hs (λA E R hR=>AN hs hb hnd hl (by rw[hbl,getElem?_eq_getElem hi,getElem?_eq_getElem hi'];show hR)) λh' hit' hs'=>?_;show hQ _ h' s.toks #[es[i],by rw[qZ];show getElem?_eq_getElem hi,rfl] #[_,hit',Cu hr hi',hs.same hs' ha] λb o hb e=>hs'.extBut b o (λz=>hb (by simp[z])) e
 done:=λs Q E st hQ=>by let#[sl,hit,hbl,hs]:=st;show CF hh hit hs (λA E R hR=>AN hs hb hnd hl (by rw[hbl,Array.getElem?_eq_none (q9 _)];show hR)) λh' he'=>hQ h' s.toks λb o hb e=>he' b o (λz=>hb (by simp[z])) e
 self:=λ_ _ _ _ st hQ=>by let#[sl,hit,_]:=st;show Bi hit hQ
def Cr:entryFor table "set.__iter__"=some Builtin.«frozenset.__iter__»:=
 entryFor_alias (id':="frozenset.__iter__") (by kernel_rfl) rfl (by decide+kernel) (by kernel_rfl)
theorem lt_of_get{h:Heap}(e:h.get? b=some o):b<h.objs.size:=Nat.lt_of_not_le λz=>by
 let:h.get? b=none:=by unfold Heap.get?;rw[Array.getElem?_eq_none z]
 rw[this]at e;cases e
def iN(es:Array (Int×Value))(j:Nat):Int×Value:=(es[j]?).getD (0,.none)
def CN(es:Array (Int×Value)):(List.range es.size).map (iN es)=es.toList:=by show List.ext_getElem (by simp) λi h1 h2=>?_;simp at h1;rw[List.getElem_map,List.getElem_range];unfold iN;rw[getElem?_eq_getElem h1];rfl
def Dy(hT:s.TypeIs (.ref a) "set")(hs:SetAt s.heap a es ep t)(hr:Rising t.place)(hz:t.place.size=es.size)(h4:w.params.followText "set-order"=false->t.led=true)(hn:es.size<=300)
  (hQ:∀(I:Addr)(h':Heap)(d:Drawn)(ord:List (Int×Value))(fp:List Addr)(St:Nat->Heap->Prop),ord.Perm es.toList->(∀A':Around,A'.handled=none->Walks prog w A' I fp [I] es.size (gB ord) St)->St 0 h'->I∈fp->
   (∀b∈fp,(b=a\/s.heap.objs.size<=b)/\b<h'.objs.size)->(∀b o,s.heap.get? b=some o->h'.get? b=some o)->s.heap.objs.size<=I->Q (.ref I) {s with heap:=h',drawn:=d}):wpAny (model prog w) A (pyIter (.ref a)) Q E s:=by
 let#[o',B,J,hf]:=id hs;let L:=lt_of_get B;show wpAny_pyIter_slot hT F.slot_set_iter (zm F.slot_set_iter hT Cr ?_ (F.args_set_iter_1 _));unfold Builtin.«frozenset.__iter__» Builtin.Frozenset.slot0 slotArgs;simp only[List.isEmpty_nil,Bool.not_true,↓reduceIte,bind_assoc,qv,bne_self_eq_false];show qa (qb ?_);show qa (qb ?_);show qa (qa (wpAny_setEntries_of B J hf (qb ?_)));show qa (qa (wpAny_setState_of B J hf ?_));show qa (AA (qb ?_));let O:∀(h:Heap)(o:Obj)(b:Addr)(o2:Obj),h.get? b=some o2->(h.push o).get? b=some o2:=λh o b o2 e=>qc _ e;show wpAny _ _ (if(!w.params.followText "set-order"&&(!t.plain&&decide (es.size>1)))=true then _ else _) _ _ _;by_cases hc:(!w.params.followText "set-order"&&(!t.plain&&decide (es.size>1)))=true
 .rw[q5 hc];show qa (BW es.size (by simp) λys d hp=>?_);let h1:ys.length=es.size:=by rw[hp.length_eq];simp
  let Y:∀j∈ys,j<es.size:=λj hj=>qJ.mp (hp.mem_iff.mp hj);show qa (wpAny_newTuple ?_ (by rw[qo,h1];show le_trans hn ⋯));show qa (qa (wpAny_setState_of (O _ _ _ _ B) J hf (qb ?_)));show qa (zk (qb #[_,rfl,"set_iterator",_,#[_,qd _ rfl,rfl],slot_next.lookup,?_]) (by size_fits));let g1:∀j,j<es.size->es[j]?=some (iN es j):=λj hj=>by unfold iN;rw[getElem?_eq_getElem hj];rfl
  let h6:(s.heap.push {cls:=.type "tuple",data:=.seq (ys.map λi:Nat=>rawInt (i:Int)).toArray}).get? s.heap.objs.size=some {cls:=.type "tuple",data:=.seq (ys.map λi:Nat=>rawInt (i:Int)).toArray}:=qd _ rfl;show hQ _ _ d (ys.map (iN es)) [_,a,s.heap.objs.size] _ ((hp.map _).trans (by rw[CN])) (λA' hA=>BJ (ep:=ep) (t:=t) (ys:=ys) hA (by rw[qo,h1]) h1 (λi j hj=>#[?_,Y j (qM hj)]) ?_ ?_) #[#[_,qd _ rfl,rfl,rfl],#[_,O _ _ _ _ (O _ _ _ _ B),J,hf],#[_,_,O _ _ _ _ h6,rfl]] (by simp) (λb M=>?_) (λb o e=>O _ _ _ _ (O _ _ _ _ e)) ?_
  .rw[qF,hj];show g1 j (Y j (qM hj))
  .rw[Heap.size_push];show ne_of_lt (lt_succ_of_lt L)
  .rw[Heap.size_push];show ne_of_lt (lt_succ_self _)
  .rw[Heap.size_push,Heap.size_push];rw[Heap.size_push]at M;rcases qA.mp M with rfl|M
   .show#[.inr (le_succ _),lt_succ_self _]
   .rcases qA.mp M with rfl|M
    .show#[.inl rfl,lt_succ_of_lt (lt_succ_of_lt L)]
    .rw[qu.mp M];show#[.inr (q9 _),lt_succ_of_lt (lt_succ_self _)]
  .rw[Heap.size_push];show le_succ _
 .rw[q8 hc];show qa (qb ?_);show qa (qa (wpAny_setState_of B J hf (qb ?_)));show qa (zk (qb #[_,rfl,"set_iterator",_,#[_,qd _ rfl,rfl],slot_next.lookup,?_]) (by size_fits));let h3:a≠s.heap.objs.size:=ne_of_lt L;let h5:∀(o:Obj),∀b∈[s.heap.objs.size,a],(b=a\/s.heap.objs.size<=b)/\b<(s.heap.push o).objs.size:=λo b M=>by
   rw[Heap.size_push];rcases qA.mp M with rfl|M
   .show#[.inr (q9 _),lt_succ_self _]
   .rw[qu.mp M];show#[.inl rfl,lt_succ_of_lt L]
  by_cases M:w.params.followText "set-order"=true
  .show hQ _ _ s.drawn _ [_,a] _ (AV (w.params.setOrder a ep) es) (λA' hA=>Cg (ep:=ep) (t:=t) hA M h3) #[#[_,qd _ rfl,rfl,rfl],#[_,O _ _ _ _ B,J,hf]] (by simp) (h5 _) (λb o e=>O _ _ _ _ e) (q9 _)
  .let h2:w.params.followText "set-order"=false:=by simpa using M
   show hQ _ _ s.drawn _ [_,a] _ (.refl _) (λA' hA=>BI (ep:=ep) (t:=t) hA h2 (λz=>hc (by rw[h2,z];rfl)) (h4 h2) hr hz h3) #[0,#[_,qd _ rfl,rfl,rfl],Ct hr,#[_,O _ _ _ _ B,J,hf]] (by simp) (h5 _) (λb o e=>O _ _ _ _ e) (q9 _)
def CO(hn:ord.length=n)(h:ItemsOf (gB ord) B n):B.toList=ord.map (·.2):=by
 show ext_getElem? λi=>?_;rw[qZ,qF];rcases lt_or_ge i n with hi|hi
 .let h1:B[i]?=some (B[i]'(by rw[h.1];show hi)):=getElem?_eq_getElem _;let#[e,L,J]:=h.2 i _ h1;rw[h1,L,J];rfl
 .rw[Array.getElem?_eq_none (by rw[h.1];show hi),qQ (by rw[hn];show hi)];rfl
def BX(hh:A.handled=none)(hT:s.TypeIs (.ref a) "set")(hs:SetAt s.heap a es ep t)(hr:Rising t.place)(hz:t.place.size=es.size)(h7:w.params.followText "set-order"=false->t.led=true)(hn:es.size<=300)
  (hQ:∀(s':Shared)(ord:List (Int×Value)),ord.Perm es.toList->(∀b o,s.heap.get? b=some o->s'.heap.get? b=some o)->s'.gens=s.gens->s'.os=s.os->s.toks<=s'.toks->Q (ord.map (·.2)) s'):wpAny (model prog w) A (collect (.ref a)) Q E s:=by
 let#[o',h6,hl,hf]:=id hs;let O:=lt_of_get h6;show qa (wpAny_runValue (codeAny_builtin F.entry_proto_collect ?_));show qa (zk ?_);show qb #[plainId_quiet F.plain_list_iadd _,codeAny_builtin F.entry_list_iadd ?_];let h4:(s.heap.push {cls:=.type "list",data:=.seq ([]:List Value).toArray}).get? s.heap.objs.size=some {cls:=.type "list",data:=.seq ([]:List Value).toArray}:=qd _ rfl;let h1:Builtin.List.listSameRef (.ref s.heap.objs.size) (.ref a)=false:=by simp[Builtin.List.listSameRef];show(ne_of_gt O)
 let hx:SetAt (s.heap.push {cls:=.type "list",data:=.seq ([]:List Value).toArray}) a es ep t:=#[o',qc _ h6,hl,hf]
 let h2:Shared.TypeIs {s with heap:=s.heap.push {cls:=.type "list",data:=.seq ([]:List Value).toArray}} (.ref a) "set":=by let#[o2,e1,e2]:=hT;show#[o2,qc _ e1,e2]
 show wpAny _ A.in1 (Builtin.List.listExtendWith (.ref s.heap.objs.size) (.ref a) (.ref s.heap.objs.size)) _ _ _;show qa (wpAny_typeOf h2 ?_);rw[q8 (by rw[h1];decide)];show qa (Dy h2 hx hr hz h7 hn λI h' d ord fp St hp W e4 hI hc B e3=>?_);let Y:Shared.TypeIs {s with heap:=h',drawn:=d} (.ref a) "set":=by let#[o2,e1,e2]:=h2;show#[o2,B _ _ e1,e2]
 show qa (zr ?_);show qa (wpAny_specialOf Y F.slot_set_len.lookup ?_);generalize hi:("set.__len__":String)=ha
 wp_delta
 subst hi;show qa (wpAny_isInstance (b:=true) Y (by rw[isSubtype_type];kernel_rfl) ?_);show qa (wpAny_typeOf Y ?_);show qb ?_;let L:=B _ _ h4;let WS:=(W A.in1 hh).toS;show qa (wpAny_rule ?_);show qa ?_;show qa (wpAny_updateSeq L rfl ?_);let J:=zi (Obj.mapSeq (·.push Value.none)) L rfl;show wpAny_updateSeq (hz:=by seq_fits) J rfl ?_;let h3:=zi (Obj.mapSeq (·.pop)) J rfl;let h5:∀b o,b≠s.heap.objs.size->h'.get? b=some o->((h'.update s.heap.objs.size (Obj.mapSeq (·.push Value.none))).update s.heap.objs.size (Obj.mapSeq (·.pop))).get? b=some o:=
  λb o M e=>(zc _ _ (Ne.symm M)).trans ((zc _ _ (Ne.symm M)).trans e)
 have h9:s.heap.objs.size∉fp:=λhm=>by
  rcases(hc _ hm).1 with z|z
  .show ne_of_gt O z
  .rw[Heap.size_push]at z;show Nat.not_succ_le_self _ z
 let hk:es.size<=sizeLine:=le_trans hn ⋯;show qb #[plainId_quiet F.plain_extend_loop _,codeAny_extend_loopS WS hk _ h9 _ es.size 0 _ _ _ rfl (zero_le _) ((W A.in1 hh).frame 0 _ _ e4 λb M o e=>h5 b o (λz=>h9 (z▸M)) e) h3 (ItemsOf.nil _) λs' hq c' hm hd h8=>?_];show qa (wpAny_load hd ?_);show qb ?_;rw[CO (by rw[hp.length_eq,qV]) h8];show hQ s' ord hp (λb o e=>?_) hm.gens hm.os hm.toks;let M:=lt_of_get e;show hm.heap b o (λz=>?_) (h5 b o (ne_of_lt M) (B _ _ (qc _ e)));rcases qA.mp z with z|z
 .show ne_of_lt M z
 .rw[qu.mp z]at M;rw[Heap.size_push]at e3;show lt_irrefl _ (lt_of_lt_of_le M (le_trans (le_succ _) e3))
end ST
namespace ST
open PySem PySem.SetTable PyProof.Rows
section
variable{prog:Program}{w:World}{A:Around}{E:zv}{s:Shared}{I a p:Addr}{es:Array (Int×Value)}{ep i slot:Nat}{t:SetTable}{ys:List Nat}{h h':Heap}
theorem sorted_set(hh:A.handled=none)(hT:s.TypeIs (.ref a) "set")(hs:SetAt s.heap a es ep t)(hr:Rising t.place)(hz:t.place.size=es.size)(J:w.params.followText "set-order"=false->t.led=true)(hn:es.size<=300)
  (k:∀(B:Shared)(ord:List (Int×Value)),ord.Perm es.toList->(∀b o,s.heap.get? b=some o->B.heap.get? b=some o)->B.gens=s.gens->B.os=s.os->s.toks<=B.toks->
   (B.heap.push (seqObj "list" (ord.map (·.2)).toArray 0)).get? B.heap.objs.size=some (seqObj "list" (ord.map (·.2)).toArray 0)->
   wpAny (model prog w) A.in1.in1 (Builtin.«list.sort» #[[.ref B.heap.objs.size],[]]) (λL O=>∃r,L=.done (.ret r)/\Q (.ref B.heap.objs.size) O) E {B with heap:=B.heap.push (seqObj "list" (ord.map (·.2)).toArray 0)}):
  wpAny (model prog w) A (call (.builtin "sorted") [.ref a]) Q E s:=by
 show Calls.call_function_entry kind_sorted plain_sorted entry_sorted (args_sorted1 _) (?_:wpAny _ _ _ _ _ _);show qa (m:=checkCount "sorted" 1 1 _) (qb (qa (BX hh hT hs hr hz J hn λB ord Y hx hg ho ht=>?_)));let M:ord.length<=sizeLine:=by rw[Y.length_eq];show le_trans hn ⋯
 show qa (wpAny_newList ?_ (by rw[qo];show M));let new:(B.heap.push (seqObj "list" (ord.map (·.2)).toArray 0)).get? B.heap.objs.size=some (seqObj "list" (ord.map (·.2)).toArray 0):=qd _ rfl;show qa (zr (zm slot_list_sort #[_,new,rfl] entry_list_sort (zu (k B ord Y hx hg ho ht new) ?_ λe s' z=>z) (args_list_sort _)));rintro L O ⟨r,rfl,q⟩;show#[_,rfl,qb #[_,rfl,q]]
end
def sG:Value->Int
 |.int n _=>n
 |_=>0
theorem ints_map(h:IntsAre vs ns):ns=vs.map sG/\∀v∈vs,∃n t,v=.int n t:=by
 induction h with
 |nil=>show#[rfl,λv B=>nomatch B]
 |cons n t _ J=>show#[by rw[qy,<-J.1];rfl,λv B=>?_];grind
def CB:∀{vs:List Value},(∀v∈vs,∃n t,v=.int n t)->IntsAre vs (vs.map sG)
 |[],_=>.nil
 |v::vs,h=>by let#[n,t,rfl]:=h v qm;show .cons n t (CB λu B=>h u (qk _ B))
def CP(h:IntsAre vs ns)(B:us.Perm vs):∃ms,IntsAre us ms/\ms.Perm ns:=by let#[rfl,h2]:=ints_map h;show#[_,CB λv J=>h2 v (B.mem_iff.mp J),B.map _]
theorem sortedHeap_at(J:h.get? a=some (seqObj "list" vs.toArray n))(B:Array Value):∃e,(sortedHeap h a vs B).get? a=some (seqObj "list" B e):=
 #[_,get?_update_seq (qc _ (qc _ (get?_update_seq J _))) _]
theorem sortedHeap_old(B:b≠a)(L:h.get? b=some o)(J:Array Value):(sortedHeap h a vs J).get? b=some o:=
 (zc _ _ (Ne.symm B)).trans (qc _ (qc _ ((zc _ _ (Ne.symm B)).trans L)))
section
variable{prog:Program}{w:World}{A:Around}{E:zv}{s:Shared}{a:Addr}{es:Array (Int×Value)}{ep:Nat}{t:SetTable}
theorem sorted_set_ints(hh:A.handled=none)(hT:s.TypeIs (.ref a) "set")(hs:SetAt s.heap a es ep t)(hr:Rising t.place)(hz:t.place.size=es.size)(M:w.params.followText "set-order"=false->t.led=true)(hn:es.size<64)
  (hI:IntsAre (es.toList.map (·.2)) ns)
  (k:∀(L:Shared)(D:Addr)(B:Array Value)(e:Nat)(J:List Int),IntsAre B.toList J->J.Perm ns->J.Pairwise (·<=·)->L.heap.get? D=some (seqObj "list" B e)->s.heap.get? D=none->(∀b o,s.heap.get? b=some o->L.heap.get? b=some o)->
   L.gens=s.gens->L.os=s.os->s.toks<=L.toks->Q (.ref D) L):wpAny (model prog w) A (call (.builtin "sorted") [.ref a]) Q E s:=by
 show sorted_set hh hT hs hr hz M ∅ λs1 ord hp O hg ho ht new=>?_;let#[ms,hm,Y]:=CP hI (hp.map _);let hl:(ord.map (·.2)).length<64:=by rw[qo,hp.length_eq];show hn
 show list_sort_tree new hm hl λB J a1 a2 a3=>#[_,rfl,?_]
 obtain⟨e,he⟩:=sortedHeap_at new B;let h1:s.heap.get? s1.heap.objs.size=none:=by
  cases q:s.heap.get? s1.heap.objs.size with
  |none=>rfl
  |some o=>show absurd (lt_of_get (O _ _ q)) (lt_irrefl _)
 show k _ _ B e J a1 (a2.trans Y) a3 he h1 (λb o q=>sortedHeap_old (ne_of_lt (lt_of_get (O b o q))) (qc _ (O b o q)) B) hg ho ht
end
def textOf:Value->Str
 |.str x _=>x
 |_=>Str.empty
theorem strs_map(h:StrsAre vs ss):ss=vs.map textOf/\∀v∈vs,∃x t,v=.str x t:=by
 induction h with
 |nil=>show#[rfl,λv B=>nomatch B]
 |cons n t _ J=>show#[by rw[qy,<-J.1];rfl,λv B=>?_];grind
def Cv:∀{vs:List Value},(∀v∈vs,∃x t,v=.str x t)->StrsAre vs (vs.map textOf)
 |[],_=>.nil
 |v::vs,h=>by let#[n,t,rfl]:=h v qm;show .cons n t (Cv λu B=>h u (qk _ B))
def CM(h:StrsAre vs ss)(B:us.Perm vs):∃ms,StrsAre us ms/\ms.Perm ss:=by let#[rfl,h2]:=strs_map h;show#[_,Cv λv J=>h2 v (B.mem_iff.mp J),B.map _]
section
variable{prog:Program}{w:World}{A:Around}{E:zv}{s:Shared}{a:Addr}{es:Array (Int×Value)}{ep:Nat}{t:SetTable}
theorem sorted_set_strs(hh:A.handled=none)(hT:s.TypeIs (.ref a) "set")(hs:SetAt s.heap a es ep t)(hr:Rising t.place)(hz:t.place.size=es.size)(M:w.params.followText "set-order"=false->t.led=true)(hn:es.size<64)
  (hI:StrsAre (es.toList.map (·.2)) ss)
  (k:∀(J:Shared)(D:Addr)(L:Array Value)(e:Nat)(B:List Str),StrsAre L.toList B->B.Perm ss->sortedS B=true->J.heap.get? D=some (seqObj "list" L e)->s.heap.get? D=none->(∀b o,s.heap.get? b=some o->J.heap.get? b=some o)->
   J.gens=s.gens->J.os=s.os->s.toks<=J.toks->Q (.ref D) J):wpAny (model prog w) A (call (.builtin "sorted") [.ref a]) Q E s:=by
 show sorted_set hh hT hs hr hz M ∅ λs1 ord hp Y hg ho ht new=>?_;let#[ms,hm,h1]:=CM hI (hp.map _);let hl:(ord.map (·.2)).length<64:=by rw[qo,hp.length_eq];show hn
 show list_sort_treeK strKind_oneLt new hm.keysOf (λh4 h3 rest e=>keyKind_strs (by rw[<-e];show hm)) hl λO a1 a2=>#[_,rfl,?_]
 obtain⟨B,b1,b2,b3⟩:=sorted_out_str hm a1 a2;let#[e,he]:=sortedHeap_at new ((arrOf O).map (·.2));let h2:s.heap.get? s1.heap.objs.size=none:=by
  cases q:s.heap.get? s1.heap.objs.size with
  |none=>rfl
  |some o=>show absurd (lt_of_get (Y _ _ q)) (lt_irrefl _)
 show k _ _ _ e B b1 (b2.trans h1) b3 he h2 (λb o q=>sortedHeap_old (ne_of_lt (lt_of_get (Y b o q))) (qc _ (Y b o q)) _) hg ho ht
def TSet.at{K:Type}[DecidableEq K]{knd:HeapKind prog w K}{ld:Bool}{h:Heap}{xs:List (K×Addr)}(x:TSet ld knd h a xs):∃es ep t,SetAt h a es ep t/\Rising t.place/\t.place.size=es.size/\t.led=ld/\es.toList.map (·.2)=xs.map λp=>Value.ref p.2:=by
 let#[o,es,ep,t,L,hex,hd,B,T,J,Y,O,M]:=x;show#[es,ep,t,#[o,L,hd,T.fits (by simp)],T.ris,?_,B,?_]
 .rw[T.size];simp
 .rw[Y];unfold eR;rw[qE];rfl
end
end ST
namespace ST
open PySem PySem.SetTable
def AI(n:Nat):Rising (Array.range n):=by rw[ris_list];simp[pairwise_lt_range]
def CC(L:Rising t.place)(M:t.dummies=#[]):∀(B:Nat)(p:Probe){j:Nat}{d:Option Nat},p.dummy=none->probe.go t hashAt h B p=some (.empty j d)->d=none/\t.slot j=.empty
 |0,_,_,_,_,e=>by cases e
 |B+1,p,j,d,hp,e=>by
  rw[probe.go]at e;let J:(t.advance p).dummy=none:=by
   unfold advance;split
   .show hp
   .show hp
  rcases Aq L M p.j with⟨z,_⟩|⟨i,hi,_,z⟩
  .rw[z]at e;cases e;show#[hp,z]
  .rw[z]at e;dsimp only at e;split at e
   .cases e
   .show CC L M B _ J e
def Dx{mask finger moves:Nat}{led plain:Bool}(e:laid mask finger moves led plain hs=some (t',order)):Rising t'.place/\t'.dummies=#[]/\t'.led=led:=by
 unfold laid at e;cases q:layClean mask hs with
 |none=>rw[q]at e;cases e
 |some B=>rw[q]at e;cases e;show#[?_,rfl,rfl];rw[ris_list];rw[pairwise_map,List.pairwise_filterMap];show List.Pairwise.imp (λ{a b} J x M y L=>?_) pairwise_lt_range;let#[_,_,rfl]:=qY.mp M;let#[_,_,rfl]:=qY.mp L;show J
structure WTab(t:SetTable)(n:Nat)(ld:Bool):Prop where
 ris:Rising t.place
 dum:t.dummies=#[]
 fit:t.fits n=true
 ldd:t.led=ld
def Du(T:WTab t es.size ld):WTab (layNew t es h x).2.1 (layNew t es h x).1.size ld:=by
 refine#[?_,?_,layNew_fits t es h x,?_];all_goals
  unfold layNew;split
 .rename_i slot B e;dsimp only;unfold orStandIn;split
  .unfold freeSlot at e;split at e
   .rename_i j d q;cases e;let#[rfl,z]:=CC T.ris T.dum _ (t.probeStart h) rfl q;rcases Aq T.ris T.dum j with⟨_,y⟩|⟨i,hi,_,y⟩
    .show Bp T.ris y
    .rw[z]at y;cases y
   .cases e
  .show AI _
 .show AI _
 .dsimp only;unfold orStandIn;split
  .show(AU T.dum).2.2.1
  .rfl
 .rfl
 .dsimp only;unfold orStandIn;split
  .show T.ldd
  .show T.ldd
 .show T.ldd
def Ci(T:WTab t m ld):WTab (relayAll t es n).2.1 (relayAll t es n).1.size ld:=by
 refine#[?_,?_,relayAll_fits t es n,?_];all_goals
  unfold relayAll;split
 all_goals first
  |(rename_i J B e;dsimp only;let#[a,b,c]:=Dx e;split
    .first|show a|show b|show c.trans T.ldd
    .first|show AI _|rfl|show T.ldd)
  |show AI _
  |rfl
  |show T.ldd
def Cj(T:WTab t n ld):WTab {t with plain:=p} n ld:=⟨T.ris,T.dum,by let:=T.fit;cases t;show this,T.ldd⟩
section
variable{prog:Program}{w:World}{A:Around}{E:zv}{s:Shared}{a:Addr}{K:Type}[DecidableEq K]{knd:KeyKind prog w K}{xs:List (K×Value)}
def fI(knd:KeyKind prog w K)(xs:List (K×Value)):List (Int×Value):=xs.map λp=>(knd.hash p.1,p.2)
@[inline]def VSet(ld:Bool)(knd:KeyKind prog w K)(h:Heap)(a:Addr)(xs:List (K×Value)):Prop:=∃o es ep t,h.get? a=some o/\o.ExactSet/\o.data=.set es ep t/\WTab t es.size ld/\es.toList=fI knd xs/\(∀p∈xs,knd.is p.1 p.2=true/\p.2.scannable=true)/\(xs.map (·.1)).Nodup
def BA(h:l.Perm (fI knd xs)):∃ys,ys.Perm xs/\l=fI knd ys:=by
 unfold fI at h;induction l generalizing xs with
 |nil=>
  let B:xs=[]:=↑h.length_eq.symm
  subst B;show#[[],.refl _,rfl]
 |cons e l M=>let#[x,B,rfl]:=qK.mp (h.mem_iff.mp qm);let#[L,J,rfl]:=append_of_mem B;rw[map_append]at h;let#[ys,p,rfl]:=M (xs:=L++J) (by rw[map_append];show(h.trans perm_middle).cons_inv);show#[x::ys,(List.Perm.cons x p).trans perm_middle.symm,rfl]
def DU{es:Array (Int×Value)}(M:es.toList=fI knd xs)(L:∀p∈xs,knd.is p.1 p.2=true/\p.2.scannable=true):ElemsOf knd es.toList:=λe J=>by rw[M]at J;let#[p,B,rfl]:=qK.mp J;show#[#[p.1,(L p B).1,rfl],(L p B).2]
theorem BY{g:Bool->Sem Unit}(hg:∀(b:Bool)(s₁:Shared)(Q':Unit->Shared->Prop),Q' () s₁->wpAny (model prog w) A (g b) Q' E s₁)(ho:s.heap.get? a=some o)(hex:o.ExactSet)(hd:o.data=.set es ep t)
  (T:WTab t2 es1.size ld)(he:es1.toList=fI knd ys)(hk:∀p∈ys,knd.is p.1 p.2=true/\p.2.scannable=true)(hnd:(ys.map (·.1)).Nodup)(hz:ys.length<=1000)
  (h:∀h' zs,Heap.SameBut a s.heap h'->zs.Perm ys->VSet ld knd h' a zs->R (some true) {s with heap:=h'}):
  wpAny (model prog w) A (do
    storeSet a es1 t2
    if(!wd&&t2.tooFull)=true then do
       g (relayAll t2 es1 (grown es1.size)).2.2
       storeSet a (relayAll t2 es1 (grown es1.size)).1 (relayAll t2 es1 (grown es1.size)).2.1
       pure (some true)
     else pure (some true)) R E s:=by
 let hz1:es1.size<=sizeLine:=by rw[<-qV,he];unfold fI;rw[qo,zo];lia
 show qa (wpAny_storeSet_of ho hd ?_ hz1);let ho1:=AH (es':=es1) (t':=t2) ho hd;let sb1:=Heap.SameBut.update s.heap a (Obj.putSet es1 t2);split
 .let hp:=relayAll_perm t2 es1 (grown es1.size);let T2:=Ci (es:=es1) (n:=grown es1.size) T;generalize relayAll t2 es1 (grown es1.size)=R3 at hp T2⊢;let#[es2,t3,gave]:=R3;rw[he]at hp;let#[zs,pz,ez]:=BA hp;let hz2:es2.size<=sizeLine:=by rw[<-qV,ez];unfold fI;rw[qo,pz.length_eq,zo];lia
  show qa (hg _ _ _ (qa (wpAny_storeSet_of ho1 rfl (qb ?_) hz2)));show h _ zs (sb1.trans (Heap.SameBut.update _ a _)) pz #[_,es2,_,t3,AH ho1 rfl,hex,rfl,T2,ez,λp hp=>hk p (pz.mem_iff.mp hp),(pz.map _).nodup_iff.mpr hnd]
 .show qb (h _ ys sb1 (.refl _) #[_,es1,_,t2,ho1,hex,rfl,T,he,hk,hnd])
def JE(Y:knd.is k x=true)(h3:x.scannable=true)(hS:VSet ld knd s.heap a xs)(e3:xs.length<=150)
  (h1:k∈xs.map (·.1)->Q false s)(h2:k∉xs.map (·.1)->∀h' ys,Heap.SameBut a s.heap h'->ys.Perm ((k,x)::xs)->VSet ld knd h' a ys->Q true {s with heap:=h'}):
  wpAny (model prog w) A (setAddHashed a x (knd.hash k)) Q E s:=by
 let#[o,es,ep,t,ho,hex,hd,T,he,hk,e4]:=hS;let h9:=DU he hk;let hx:es.size=xs.length:=by rw[<-qV,he];simp[fI]
 let hb:es.size<scanBound:=by show es.size<4096;lia
 show zr (qa (wpAny_setState_of ho hd T.fit ?_));dsimp only;rw[byScan_of h3 hb h9];show qa (qa (wpAny_rule (qa (wpAny_setScan_of Y ho hd T.fit h9 ?_))));let h4:∀p∈xs,knd.is k p.2=true↔p.1=k:=λp M=>#[λz=>(knd.inj p.2 k p.1 z (hk p M).1).symm,λz=>z▸(hk p M).1]
 cases hr:List.findIdx? (λe=>knd.is k e.2) es.toList with
 |some j=>let#[hj,h6,_]:=List.findIdx?_eq_some_iff_getElem.mp hr;let hm:=getElem_mem hj;generalize es.toList[j]=e at hm h6;rw[he]at hm;let#[p,M,rfl]:=qK.mp hm;show qb (qb (h1 (qK.mpr #[p,M,(h4 p M).mp h6])))
 |none=>
  let hn:k∉xs.map (·.1):=λz=>by let#[p,M,e]:=qK.mp z;let q:=List.findIdx?_eq_none_iff.mp hr (knd.hash p.1,p.2) (by rw[he];show qK.mpr #[p,M,rfl]);rw[(h4 p M).mpr e]at q;cases q
  have B:=layNew_perm t es (knd.hash k) x;let T1:=Du (es:=es) (h:=knd.hash k) (x:=x) T;generalize layNew t es (knd.hash k) x=L at B T1⊢;let#[es1,t1,wd,e1]:=L;rw[Array.toList_push,he]at B;let#[ys,py,ey]:=BA (knd:=knd) (xs:=(k,x)::xs) (B.trans (qN.trans (by unfold fI;show .refl _)));let h8:∀p∈ys,knd.is p.1 p.2=true/\p.2.scannable=true:=λp M=>by
   rcases qA.mp (py.mem_iff.mp M)with rfl|z
   .show#[Y,h3]
   .show hk p z
  let h7:(ys.map (·.1)).Nodup:=(py.map _).nodup_iff.mpr (qL.mpr #[hn,e4]);let h5:ys.length<=1000:=by rw[py.length_eq,qt];lia
  have gw:∀(b:Bool)(J:Shared)(Q':Unit->Shared->Prop),Q' () J->wpAny (model prog w) A (match b with|true=>rule "set.scan.the-table-gave-way"|false=>pure ()) Q' E J:=λb J Q' q=>by
   cases b
   .show qb q
   .show wpAny_rule q
  let e2:∀h' O,Heap.SameBut a s.heap h'->O.Perm ys->VSet ld knd h' a O->Q true {s with heap:=h'}:=λh' O sb pz V=>h2 hn h' O sb (pz.trans py) V;show qa (gw e1 _ _ ?_);split
  .show qa ?_;rw[hashByValue_scannable 8 h3];show qb (BY gw ho hex hd (es1:=es1) (t2:=_) ?_ ey h8 h7 h5 λh' O sb pz V=>qb (e2 h' O sb pz V));split
   .show T1
   .show Cj T1
  .show qa (qb ?_);show BY gw ho hex hd T1 ey h8 h7 h5 λh' O sb pz V=>qb (e2 h' O sb pz V)
theorem setAddV(B:knd.is k x=true)(L:x.scannable=true)(hS:VSet ld knd s.heap a xs)(J:xs.length<=150)
  (h1:k∈xs.map (·.1)->∀r,Q r {s with toks:=s.toks+1})(h2:k∉xs.map (·.1)->∀h' ys,Heap.SameBut a s.heap h'->ys.Perm ((k,x)::xs)->VSet ld knd h' a ys->∀r,Q r {s with heap:=h',toks:=s.toks+1}):
  wpAny (model prog w) A (setAdd a x) Q E s:=by
 show zr (qa (knd.pyHash B ?_));show JE (s:={s with toks:=s.toks+1}) B L hS J (λM=>h1 M _) λM h' ys O Y T=>h2 M h' ys O Y T _
def VSet.at(x:VSet ld knd h a xs):∃es ep t,SetAt h a es ep t/\Rising t.place/\t.place.size=es.size/\t.led=ld/\es.toList.map (·.2)=xs.map (·.2):=by
 let#[o,es,ep,t,B,hex,L,T,J,_]:=x;show#[es,ep,t,#[o,B,L,T.fit],T.ris,?_,T.ldd,?_]
 .let:=T.fit;unfold fits at this;grind
 .rw[J];unfold fI;rw[qE];rfl
end
end ST
namespace ST
open PySem PySem.SetTable PyProof.Rows
def freshSet(ld:Bool):Obj:={cls:=.type "set",dict:=none,data:=.set #[] 0 (.fresh 0 0 ld)}
def ldOf(w:World):Bool:=!w.params.followText "set-order"
theorem newSet_ok(h:Q (.ref s.heap.objs.size) {s with heap:=s.heap.push (freshSet (ldOf w))}):wpAny (model prog w) A (newSet (.type "set")) Q E s:=by show qa (qa (wpAny_askSetting (qb ?_)));show qa (wpAny_alloc (qb h))
def Bu(ld:Bool):gL (.fresh 0 0 ld) []:=by
 let B:∀{i:Nat},i<(SetTable.fresh 0 0 ld).place.size->False:=λh=>by simp[SetTable.fresh]at h
 show#[λi j hi _ _=>(B hi).elim,rfl,.inl rfl,rfl,λi hi=>(B hi).elim,by simp,λi hi=>(B hi).elim]
theorem vset_new{K:Type}[DecidableEq K]{knd:KeyKind prog w K}{ld:Bool}{h:Heap}{a:Addr}(e:h.get? a=some (freshSet ld)):VSet ld knd h a []:=
 #[_,#[],0,_,e,#[rfl,rfl,rfl],rfl,#[(Bu ld).ris,rfl,rfl,rfl],rfl,λ_ z=>(nomatch z),.nil]
theorem tset_new{K:Type}[DecidableEq K]{knd:HeapKind prog w K}{ld:Bool}{h:Heap}{a:Addr}(e:h.get? a=some (freshSet ld)):TSet ld knd h a []:=
 #[_,#[],0,_,e,#[rfl,rfl,rfl],rfl,rfl,Bu ld,(by show 0*5<7*3;decide),rfl,λ_ z=>(nomatch z),.nil]
def Dd{St:Nat->Shared->Prop}(W:WalksS prog w A.in1 I fp wr G n P St)(S:Addr)(h3:S∉fp){J:Nat->Heap->Prop}
  (stay:∀i h h',i<=n->J i h->(∀b o,b∉wr->h.get? b=some o->h'.get? b=some o)->J i h')
  (step:∀i v(s:Shared)(Q:Bool->Shared->Prop)(E:zv),i<n->P i v->J i s.heap->(∀h' tk r,s.toks<=tk->Heap.SameBut S s.heap h'->J (i+1) h'->Q r {s with heap:=h',toks:=tk})->wpAny (model prog w) A.in1 (setAdd S v) Q E s):
  ∀(k i:Nat)(s:Shared),n-i=k->i<=n->St i s->J i s.heap->(∀s',Moved (S::wr) G s s'->J n s'.heap->R (.ok (.ret .none)) s')->
   codeAny (model prog w) A (.builtin "set.update.loop" #[[.ref S,.ref I],[]]) R s:=by
 intro k;induction k with
 |zero=>
  intro i s hk hi st hJ hR;let e:i=n:=∅
  subst e;show codeAny_builtin F.entry_set_update_loop ?_;show qa (W.done s _ _ st λs' O=>?_);show qb (hR s' (O.mono λb L=>qk _ L) (stay _ _ _ (q9 _) hJ O.heap))
 |succ k ih=>
  intro i s hk hi st hJ hR;let B:i<n:=∅
  show codeAny_builtin F.entry_set_update_loop ?_;show qa (W.item i s _ _ B st λv s' hP h1 O=>?_);show qa (zr (step i v s' _ _ B hP (stay _ _ _ hi hJ O.heap) λh' tk r ht sb h4=>?_));show qb #[plainId_quiet F.plain_set_update_loop _,ih (i+1) _ ∅ B (W.frame _ s' _ _ h1 ht λb L o e=>?_) h4 λh2 M Y=>?_]
  .rw[sb.2 b (λz=>h3 (z▸L))];show e
  .show hR h2 (Moved.trans W.gtrans ((O.mono λb L=>qk _ L).then_heap ht λb o L e=>?_) M) Y;rw[sb.2 b (λz=>L (z▸qm))];show e
def Dg(x:Value)(h:Q (.ref s.heap.objs.size) {s with heap:=s.heap.push (freshSet (ldOf w))}):
  codeAny (model prog w) A (.call (.builtin "set.__new__") #[[.type "set",x],[]]) (wants Q E) s:=by
 show codeAny_of_tree ?_;show qa (zt (F.newCall_set_1 x) (qb #[plainId_quiet F.plain_set_new _,codeAny_builtin F.entry_set_new ?_]));unfold Builtin.«set.__new__» Builtin.Frozenset.newClass;let B:=sub_set_self
 wp_walk
 show wpAny_askSetting (qb ?_);show qa (wpAny_alloc (qb ?_));show qb h
@[inline]def WalkOk(prog:Program)(w:World)(s:Shared)(x:Value)(n:Nat)(P:Nat->Value->Prop):Prop:=∀(A:Around)(E:zv)(B:Shared)(Q:zv),(∀b o,s.heap.get? b=some o->B.heap.get? b=some o)->
 (∀(o:Obj)(fp:List Addr)(St:Nat->Heap->Prop),(∀A:Around,A.handled=none->Walks prog w A B.heap.objs.size fp [B.heap.objs.size] n P St)->St 0 (B.heap.push o)->(∀b∈fp,b=B.heap.objs.size\/b<s.heap.objs.size)->Q (.ref B.heap.objs.size) {B with heap:=B.heap.push o})->
 wpAny (model prog w) A (pyIter x) Q E B
def Gw(L:s.TypeIs x T)(J:isSubtype (.type T) (.type "set")=pure false)(B:isSubtype (.type T) (.type "frozenset")=pure false)(h:Q false s):wpAny (model prog w) A (Builtin.Frozenset.isAnySet x) Q E s:=by show qa (wpAny_isInstance L J ?_);show wpAny_isInstance L B h
set_option maxHeartbeats 3200000 in
theorem call_set{J:Nat->Heap->Prop}(hh:A.handled=none)(hT:s.TypeIs x T)(e2:isSubtype (.type T) (.type "set")=pure false)(e1:isSubtype (.type T) (.type "frozenset")=pure false)(e3:(Value.type T==Value.type "dict")=false)
  (W:WalkOk prog w s x n P)(h0:∀h,h.get? s.heap.objs.size=some (freshSet (ldOf w))->(∀b o,s.heap.get? b=some o->h.get? b=some o)->J 0 h)
  (stay:∀i h h',i<=n->J i h->(∀b o,b≠s.heap.objs.size+1->h.get? b=some o->h'.get? b=some o)->J i h')
  (step:∀(A:Around) i v(s':Shared)(Q:Bool->Shared->Prop)(E:zv),i<n->P i v->J i s'.heap->(∀h' tk r,s'.toks<=tk->Heap.SameBut s.heap.objs.size s'.heap h'->J (i+1) h'->Q r {s' with heap:=h',toks:=tk})->A.units<=B->wpAny (model prog w) A (setAdd s.heap.objs.size v) Q E s')
  (hB:A.units+20<=B)
  (h:∀(h':Heap)(tk:Nat),J n h'->(∀b o,s.heap.get? b=some o->h'.get? b=some o)->s.toks<=tk->Q (.ref s.heap.objs.size) {s with heap:=h',toks:=tk}):
  wpAny (model prog w) A (call (.type "set") [x]) Q E s:=by
 let#[c,tl,hl]:=F.called_set.mro;let e4:=F.called_set.made;let hs:=F.called_set.sub;show wpAny_call (codeAny_of_tree ?_);show wpAny _ _ (callAny (.type "set") _) _ _ _;show qb #[Code.quiet_builtin _ (by decide+kernel),codeAny_builtin F.entry_type_call ?_];rw[Around.under_plain (weight_type_call_type "set" [x] []) rfl];let h1:=F.called_set.notType;let h2:=F.called_set.canCreate;let hq:=F.typeCall_set_1 x
 repeat (any_goals (first|assumption|wp_step))
 show codeAny_mono (Dg x (E:=E) (Q:=λh5 O=>h5=.ref s.heap.objs.size/\O={s with heap:=s.heap.push (freshSet (ldOf w))}) #[rfl,rfl]) λr O hr=>?_;cases r with
 |error e=>show hr
 |ok fl=>
  cases fl with
  |ret h5=>
   let#[rfl,rfl]:=hr;let hS:(s.heap.push (freshSet (ldOf w))).get? s.heap.objs.size=some (freshSet (ldOf w)):=qd _ rfl;let h6:Shared.TypeIs {s with heap:=s.heap.push (freshSet (ldOf w))} (.ref s.heap.objs.size) "set":=⟨_,hS,rfl⟩
   let hd:=F.called_set.init.lookup;let ha:=F.called_set.init.bind (.ref s.heap.objs.size)
   repeat (any_goals (first|assumption|wp_step))
   show codeAny_mono (codeAny_call_builtin (R:=wants (λr M=>r=.none/\∃h' tk,M={s with heap:=h',toks:=tk}/\J n h'/\(∀b o,s.heap.get? b=some o->h'.get? b=some o)/\s.toks<=tk) E) F.called_set.init.plain F.entry_set_init (check_set_init_1 h6 ?_)) λh4 M L=>?_
   .have Y:Shared.TypeIs {s with heap:=s.heap.push (freshSet (ldOf w))} x T:=by
     cases x with
     |ref l=>let#[o,e,q]:=hT;show#[o,qc _ e,q]
     |_=>show hT
    unfold Builtin.«set.__init__» noKeywords;generalize hp:Builtin.Frozenset.updateFrom=UF;unfold freshSet at hS h6 Y⊢
    wp_walk
    subst hp;unfold Builtin.Frozenset.updateFrom;show qa (Gw Y e2 e1 ?_);simp only[false_eq_true,if_false];show qa (wpAny_typeOf Y ?_);rw[e3];simp only[false_eq_true,if_false];show qa (W _ _ _ _ (λb o e=>qc _ e) λo fp St wk h8 hx=>?_);let hz:(s.heap.push (freshSet (ldOf w))).objs.size=s.heap.objs.size+1:=Heap.size_push ..;let hc:s.heap.objs.size∉fp:=λz=>by
     rcases hx _ z with y|y
     .rw[show s.heap.objs.size=(s.heap.push (freshSet (ldOf w))).objs.size from y]at hz;show absurd hz (ne_of_lt (lt_succ_self _))
     .show lt_irrefl _ y
    refine qa (wpAny_runValue ?_);refine Dd (wk A.in1.in1.in1 hh).toS s.heap.objs.size hc (J:=J) (λi h h' hi hJ hk=>stay i h h' hi hJ λb o hb e=>hk b o (λz=>hb (by rw[<-hz];show qu.mp z)) e)
     (λi v s' Q E hi hP hJ hk=>step _ i v s' Q E hi hP hJ hk (by show A.units+1+1+1<=B;lia)) (n-0) 0 _ rfl (zero_le _) h8 (h0 _ (qc _ hS) λb o e=>qc _ (qc _ e)) λs' hm hJ=>?_
    let#[h',g',d',h7,h9]:=s';let eg:g'=s.gens:=hm.gens;let ed:d'=s.drawn:=hm.drawn;let eo:h9=s.os:=hm.os;subst eg ed eo;show qb ?_;show wpAny _ _ (ret Value.none) _ _ _;show qb #[rfl,h',h7,rfl,hJ,λb o e=>?_,hm.toks];let hb:=lt_of_get e;show hm.heap b o (λz=>?_) (qc _ (qc _ e));rcases qA.mp z with z|z
    .show ne_of_lt hb z
    .let:=qu.mp z;rw[this]at hb;show absurd hb (by show¬(s.heap.push (freshSet (ldOf w))).objs.size<_;rw[hz];show not_lt.mpr (le_succ _))
   .cases h4 with
    |error e=>show L
    |ok h3=>
     cases h3 with
     |ret r=>
      let#[rfl,h',tk,rfl,hJ,hk,ht]:=L
      repeat (any_goals (first|assumption|wp_step))
      show h _ _ hJ hk ht
     |_=>show L.elim
  |_=>show hr.elim
theorem walk_list(Y:s.heap.IsList l items):WalkOk prog w s (.ref l) items.size (λi v=>items[i]?=some v):=λA E M Q O h=>by
 let#[o,e,r]:=Y;let J:M.heap.IsList l items:=#[o,O _ _ e,r]
 have L:=lt_of_get e;let B:=lt_of_get (O _ _ e);exact wpAny_pyIter_list J (h _ [M.heap.objs.size,l] _ (λA hA=>Walks.list hA _ l (ne_of_lt B) items) #[#[_,qd _ rfl,rfl,rfl],J.push _] λb hb=>by
  rcases qA.mp hb with z|z
  .show .inl z
  .show .inr (by rw[qu.mp z];show L))
theorem walk_tuple(Y:s.heap.IsTuple l items):WalkOk prog w s (.ref l) items.size (λi v=>items[i]?=some v):=λA E M Q O h=>by
 let#[o,e,r]:=Y;let J:M.heap.IsTuple l items:=#[o,O _ _ e,r]
 have L:=lt_of_get e;let B:=lt_of_get (O _ _ e);exact wpAny_pyIter_tuple J (h _ [M.heap.objs.size,l] _ (λA hA=>Walks.tuple hA _ l (ne_of_lt B) items) #[#[_,qd _ rfl,rfl,rfl],let#[o,e,r]:=J;#[o,qc _ e,r]] λb hb=>by
  rcases qA.mp hb with z|z
  .show .inl z
  .show .inr (by rw[qu.mp z];show L))
end ST
theorem m1{α:Type}{a:α}{l:List α}:a∈a::l:=.head _
theorem m2{α:Type}{a b:α}{l:List α}:b∈a::b::l:=.tail _ m1
theorem m3{α:Type}{a b c:α}{l:List α}:c∈a::b::c::l:=.tail _ m2
theorem m4{α:Type}{a b c d:α}{l:List α}:d∈a::b::c::d::l:=.tail _ m3
theorem m5{α:Type}{a b c d e:α}{l:List α}:e∈a::b::c::d::e::l:=.tail _ m4
def Es(i:Int)(n:Nat):max 0 (min (if i<0 then i+(n:Int)else i) (n:Int))=(((if i<0 then(i+(n:Int)).toNat else min i.toNat n):Nat):Int):=by
 by_cases h:i<0
 .rw[q5 h,q5 h,Int.min_eq_left ∅,Int.ofNat_toNat,Int.max_comm]
 .rw[q8 h,q8 h];let#[k,rfl]:=Int.eq_ofNat_of_zero_le (Int.not_lt.mp h);rw[qW];rcases Nat.le_total k n with q|q
  .rw[min_eq_left q,Int.min_eq_left (ofNat_le.mpr q),Int.max_eq_right (Int.natCast_nonneg k)]
  .rw[min_eq_right q,Int.min_eq_right (ofNat_le.mpr q),Int.max_eq_right (Int.natCast_nonneg n)]
theorem cps{A:Prop}(h:∀G:Prop,(A->G)->G):A:=h A id
namespace ST
open PySem PySem.SetTable
section
variable{prog:Program}{w:World}{A:Around}{E:zv}{s:Shared}{a b:Addr}{K:Type}[DecidableEq K]{knd:KeyKind prog w K}{ks:List K}{ld:Bool}{xs:List (List K×Addr)}
theorem setAddT(M:A.units<cLine)(B:IsTupleKey knd s.heap ks b)(hS:TSet ld (tupleKind knd) s.heap a xs)(J:xs.length<=150)
  (h1:ks∈xs.map (·.1)->∀tk r,s.toks<=tk->Q r {s with toks:=tk})
  (h2:ks∉xs.map (·.1)->∀h' ys tk r,Heap.SameBut a s.heap h'->ys.Perm ((ks,b)::xs)->TSet ld (tupleKind knd) h' a ys->s.toks<=tk->Q r {s with heap:=h',toks:=tk}):
  wpAny (model prog w) A (setAdd a (.ref b)) Q E s:=by
 show zr (qa ((tupleKind knd).pyHash M B ?_));show EO (s:={s with toks:=s.toks+(tupleKind knd).draws ks}) (knd:=tupleKind knd) (λB q=>CK B q) (λB q=>De B q) (λB ho hd hs=>CJ B ho hd hs) M B hS J (λL=>h1 L _ _ (Nat.le_add_right _ _)) λL h' ys O Y T=>h2 L h' ys _ _ O Y T (Nat.le_add_right _ _)
theorem call_add_of(B:s.TypeIs (.ref a) "set")(h:wpAny (model prog w) A.in1 (setAdd a v) (λ_ s'=>Q .none s') E s):wpAny (model prog w) A (call (.builtin "set.add") [.ref a,v]) Q E s:=by show zm F.slot_set_add B F.entry_set_add ?_ (F.args_set_add_2 _ _);unfold Builtin.«set.add» Builtin.Frozenset.oneOther;simp only[List.isEmpty_nil,bind_assoc];show qa (qb ?_);show qa (qb ?_);show qa (zu h (λr s' q=>qb #[_,rfl,q]) λ_ _ z=>z)
@[inline]def TRaw(ld:Bool)(knd:HeapKind prog w K)(h:Heap)(a:Addr)(xs:List (K×Addr)):Prop:=∃o es ep t,h.get? a=some o/\o.ExactSet/\o.data=.set es ep t/\t.led=ld/\gL t (es.toList.map (·.1))/\eY t es.size/\es.toList=eR knd xs/\(xs.map (·.1)).Nodup
def TRaw.full{knd:HeapKind prog w K}{xs:List (K×Addr)}(x:TRaw ld knd h a xs)(k:∀x∈xs,knd.is h x.1 x.2):TSet ld knd h a xs:=by let#[o,es,ep,t,h1,h2,Y,O,M,L,J,B]:=x;show#[o,es,ep,t,h1,h2,Y,O,M,L,J,k,B]
def TSet.raw{knd:HeapKind prog w K}{xs:List (K×Addr)}(x:TSet ld knd h a xs):TRaw ld knd h a xs:=by let#[o,es,ep,t,h1,h2,Y,O,M,L,J,k,B]:=x;show#[o,es,ep,t,h1,h2,Y,O,M,L,J,B]
def VSet.len{xs:List (K×Value)}(x:VSet ld knd s.heap a xs)(hz:xs.length<=1000)(h:Q (.int xs.length (s.toks+1)) {s with toks:=s.toks+1+1}):wpAny (model prog w) A (call (.builtin "len") [.ref a]) Q E s:=by
 let#[o,es,ep,t,J,hex,M,T,L,_]:=x;let B:es.size=xs.length:=by rw[<-qV,L];simp[fI]
 show call_len_set J hex M T.fit (by rw[B];lia) (by rw[B];show h)
def TRaw.len{knd:HeapKind prog w K}{xs:List (K×Addr)}(x:TRaw ld knd s.heap a xs)(hz:xs.length<=1000)(h:Q (.int xs.length (s.toks+1)) {s with toks:=s.toks+1+1}):wpAny (model prog w) A (call (.builtin "len") [.ref a]) Q E s:=by
 let#[o,es,ep,t,J,hex,M,_,T,_,L,_]:=x;let B:es.size=xs.length:=by rw[<-qV,L];simp[eR]
 show call_len_set J hex M (T.fits (by simp)) (by rw[B];lia) (by rw[B];show h)
end
instance okDec(m:Nat):Decidable (bP m):=by unfold bP;infer_instance
end ST
namespace L2
open PySem PySem.Spec PyProof.Rows
abbrev aX:=Sum Int Str
def fW:aX->Value->Bool
 |.inl k,v=>Value.isInt k v
 |.inr x,v=>Value.isStrOf x v
def jw(w:World):aX->Int
 |.inl k=>hashInt k
 |.inr x=>hashStr w x
def DF:∀{k:aX}{v:Value},fW k v=true->(∃i t,k=Sum.inl i/\v=Value.int i t)\/(∃x t,k=Sum.inr x/\v=Value.str x t)
 |.inl i,v,h=>by let#[t,e]:=Value.isInt_shape (k:=i) (v:=v) h;show .inl #[i,t,rfl,e]
 |.inr x,v,h=>by let#[t,e]:=Value.isStrOf_shape (x:=x) (v:=v) h;show .inr #[x,t,rfl,e]
def Uv(i:Int)(t:Tok):fW (.inl i) (.int i t)=true:=by simp[fW,Value.isInt]
def SF(x:Str)(t:Tok):fW (.inr x) (.str x t)=true:=by simp[fW,Value.isStrOf]
def Oy(a b:Int):decide ((Sum.inl a:aX)=Sum.inl b)=(a==b):=by grind
def PD(a b:Str):decide ((Sum.inr a:aX)=Sum.inr b)=decide (a=b):=by grind
def OP(a:Int)(b:Str):decide ((Sum.inl a:aX)=Sum.inr b)=false:=qS (λq=>nomatch q)
def OQ(a:Str)(b:Int):decide ((Sum.inr a:aX)=Sum.inl b)=false:=qS (λq=>nomatch q)
def aG(prog:Program)(w:World):PySem.KeyKind prog w aX where
 is:=fW
 hash:=jw w
 inj:=λv a b ha hb=>by
  rcases DF ha with⟨i,t,rfl,rfl⟩|⟨x,t,rfl,rfl⟩
  .rcases DF hb with⟨j,u,rfl,e⟩|⟨y,u,rfl,e⟩
   .injection e with e1 _;rw[e1]
   .show nomatch e
  .rcases DF hb with⟨j,u,rfl,e⟩|⟨y,u,rfl,e⟩
   .show nomatch e
   .injection e with e1 _;rw[e1]
 byValue:=λk v h=>by rcases DF h with⟨i,t,rfl,rfl⟩|⟨x,t,rfl,rfl⟩<;>rfl
 pyHash:=λhv h=>by
  rcases DF hv with⟨i,t,rfl,rfl⟩|⟨x,t,rfl,rfl⟩
  .show wpAny_pyHash_int h
  .show wpAny_pyHash_str h
 eqBool:=λhu hv h=>by
  rcases DF hu with⟨i,t,rfl,rfl⟩|⟨x,t,rfl,rfl⟩
  .rcases DF hv with⟨j,u,rfl,rfl⟩|⟨y,u,rfl,rfl⟩
   .rw[Oy]at h;show wpAny_eqBool_int h
   .rw[OP]at h;show SeqAt.EqAt.int_str i t y u _ _ _ _ h
  .rcases DF hv with⟨j,u,rfl,rfl⟩|⟨y,u,rfl,rfl⟩
   .rw[OQ]at h;show SeqAt.EqAt.str_int x t j u _ _ _ _ h
   .rw[PD]at h;show wpAny_eqBool_str h
 «strs»:=λk x t v h=>by
  rcases DF h with⟨i,u,rfl,e⟩|⟨y,u,rfl,e⟩
  .show nomatch e
  .injection e with e1 _
   subst e1;cases v<;>rfl
def Uw(prog:Program)(w:World)(i:Int)(t:Tok):(aG prog w).is (.inl i) (.int i t)=true:=Uv i t
def UB(prog:Program)(w:World)(x:Str)(t:Tok):(aG prog w).is (.inr x) (.str x t)=true:=SF x t
inductive V where
 |non|bl(b:Bool)|int(i:Int)|str(x:Str)|byt(b:Array UInt8)|flt(b:UInt64)|ref(a:Addr)|ty(n:String)
 deriving DecidableEq
def zK:V->Value->Prop
 |.non,u=>u=Value.none
 |.bl b,u=>u=Value.bool b
 |.int i,u=>∃t,u=Value.int i t
 |.str x,u=>∃t,u=Value.str x t
 |.byt b,u=>∃t,u=Value.bytes b t
 |.flt b,u=>∃t,u=Value.float b t
 |.ref a,u=>u=Value.ref a
 |.ty n,u=>u=Value.type n
abbrev zS:List V->List Value->Prop:=Paired zK
def zS.length(r:zS xs us):xs.length=us.length:=Paired.length r
def zS.get:∀{xs:List V}{us:List Value}{i:Nat}{x:V},zS xs us->xs[i]?=some x->∃u,us[i]?=some u/\zK x u
 |_,_,_,_,.nil,e=>by simp at e
 |_,_,0,_,.cons r _,e=>by simp at e;subst e;show#[_,rfl,r]
 |_,_,i+1,x,.cons _ t,e=>by let#[u,h1,h2]:=zS.get (i:=i) (x:=x) t ↑e;show#[u,↑h1,h2]
def zS.set(r:zK x u):∀{xs:List V}{us:List Value}(i:Nat),zS xs us->zS (xs.set i x) (us.set i u)
 |_,_,_,.nil=>.nil
 |_,_,0,.cons _ t=>.cons r t
 |_,_,i+1,.cons q t=>.cons q (zS.set r i t)
def zS.append:∀{xs ys:List V}{us B:List Value},zS xs us->zS ys B->zS (xs++ys) (us++B):=by
 intro xs ys us B r s;induction r with
 |nil=>show s
 |cons r _ J=>show .cons r J
def zS.take:∀{xs:List V}{us:List Value}(n:Nat),zS xs us->zS (xs.take n) (us.take n)
 |_,_,0,_=>.nil
 |_,_,_+1,.nil=>.nil
 |_,_,n+1,.cons r t=>.cons r (zS.take n t)
def zS.drop:∀{xs:List V}{us:List Value}(n:Nat),zS xs us->zS (xs.drop n) (us.drop n)
 |_,_,0,r=>r
 |_,_,_+1,.nil=>.nil
 |_,_,n+1,.cons _ t=>zS.drop n t
def zS.none_of:∀{xs:List V}{us:List Value}{i:Nat},zS xs us->xs[i]?=none->us[i]?=none:=λ{xs us i} r e=>by let h1:=r.length;let h2:xs.length<=i:=List.getElem?_eq_none_iff.mp e;show List.getElem?_eq_none_iff.mpr ∅
def eK:Option V->Option Value->Prop
 |some v,some u=>zK v u
 |none,none=>True
 |_,_=>False
@[inline]def KV{κ:Type}:List (κ×V)->List (κ×Value)->Prop:=Paired λ(p:κ×V)(q:κ×Value)=>p.1=q.1/\zK p.2 q.2
def kV:aX->V
 |.inl i=>.int i
 |.inr x=>.str x
inductive HO where
 |lst(xs:List V)
 |tup(xs:List V)
 |dK(zW:List (aX×V))|dT(zW:List (List aX×V))
 |set(vs:List V)
 |ins(C dx:Addr)(fs:List (Str×V))
 |own(x:Addr)
 |xd(fs:List (Str×V))
 |met(f x:Addr)
 |rng(lo hi:Int)
 |frz(o:Obj)(u:HO)
 |tbl(ps:Array Value)
 |ext(φ:Heap->Prop)
abbrev Hp:=Addr->Option HO
def upd(H:Hp)(a:Addr)(o:HO):Hp:=λb=>if b=a then some o else H b
def AX:upd H a o a=some o:=by unfold upd;rw[q5 rfl]
def An(h:b≠a):upd H a o b=H b:=by unfold upd;rw[q8 h]
def JL{H:Hp}(h:H a=some o)(h':H b=some u)(d:o≠u):a≠b:=by grind
def CZ{H:Hp}(h:H a=some o)(h':H b=none):a≠b:=by intro e;subst e;rw[h]at h';cases h'
section
variable(P:Program)(w:World)
def iV(h:Heap)(a:Addr):Prop:=∀o,h.get? a=some o->o.dict=none
def iV.new{h:Heap}{c:Value}{x:Data}{n:Addr}(e:n=h.objs.size)(B:(h.push {cls:=c,data:=x}).get? h.objs.size=some {cls:=c,data:=x}):iV (h.push {cls:=c,data:=x}) n:=λo q=>by subst e;rw[B]at q;cases q;rfl
def zU(H:Hp)(h:Heap)(a:Addr):HO->Prop
 |.lst xs=>xs.length<=sizeLine/\∃(B:List Value)(n:Nat),zS xs B/\h.get? a=some {cls:=.type "list",data:=.seq B.toArray n}
 |.tup xs=>(xs.length<=sizeLine/\iV h a)/\∃B:List Value,zS xs B/\IsTup h a B.toArray
 |.dK zW=>zW.length<=sizeLine/\(a==sysModules)=false/\∃vs,KV zW vs/\h.DictOf (aG P w) a vs
 |.dT zW=>zW.length<=sizeLine/\(a==sysModules)=false/\∃xs:List (List aX×Addr×Value),
  Paired (λ(p:List aX×V)(q:List aX×Addr×Value)=>p.1=q.1/\H q.2.1=some (.tup (p.1.map kV))/\zK p.2 q.2.2) zW xs/\
  ∃o es ep,h.get? a=some o/\o.ExactDict/\o.data=.dict es ep/\es.toList=xs.map (entryOfKey (tupleKind (aG P w)))/\(xs.map (·.1)).Nodup
 |.set vs=>vs.length<=151/\((vs=[]/\h.get? a=some (ST.freshSet (ST.ldOf w)))\/(vs≠[]/\∃xs:List (aX×Value),vs.Perm (xs.map λp=>kV p.1)/\ST.VSet (ST.ldOf w) (aG P w) h a xs)\/vs≠[]/\∃xs:List (List aX×Addr),vs.Perm (xs.map λp=>V.ref p.2)/\(∀p∈xs,H p.2=some (.tup (p.1.map kV)))/\ST.TRaw (ST.ldOf w) (tupleKind (aG P w)) h a xs)
 |.ins C dx fs=>H dx=some (.own a)/\fs.length<=1000/\dx≠a/\h.get? a=some (W.instObj C dx)/\
  ∃J,h.Ns1 dx J/\(∀f,eK (fs.lookup f) (J f))/\PySem.Within J (fs.map (·.1))
 |.own _=>∃o,h.get? a=some o
 |.xd fs=>∃J,h.Ns1 a J/\∀f,eK (fs.lookup f) (J f)
 |.rng lo hi=>∃t u v,h.get? a=some {cls:=.type "range",data:=.fields [.int lo t,.int hi u,.int 1 v].toArray}
 |.frz o u=>h.get? a=some o/\zU H h a u
 |.tbl ps=>h.get? a=some {cls:=.none,data:=.fields ps}
 |.met f x=>h.get? a=some (W.methodObj (.ref f) (.ref x))
 |.ext φ=>φ h/\(∃o,h.get? a=some o)/\∀h1 h2:Heap,φ h1->(∀o,h1.get? a=some o->h2.get? a=some o)->φ h2
def eC(H:Hp)(h:Heap):Prop:=∀a o,H a=some o->zU P w H h a o
end
section
variable{P:Program}{w:World}{H H':Hp}{h h':Heap}{a:Addr}{o:HO}
def zU.lt(x:zU P w H h a o):a<h.objs.size:=by
 cases o with
 |lst xs=>let#[_,_,_,_,e]:=x;show qe e
 |tup xs=>let#[_,_,_,p]:=x;show p.lt
 |dK B=>let#[_,_,_,_,o,_,_,e,_]:=x;show qe e
 |dT B=>let#[_,_,_,_,o,_,_,e,_]:=x;show qe e
 |set vs=>
  rcases x with⟨_,⟨_,e⟩|⟨_,_,_,_,_,_,_,e,_⟩|⟨_,_,_,_,_,_,_,_,e,_⟩⟩
  .show qe e
  .show qe e
  .show qe e
 |ins C dx fs=>let#[_,_,_,e,_]:=x;show qe e
 |own y=>let#[_,e]:=x;show qe e
 |xd fs=>let#[_,#[_,_,_,e,_],_]:=x;show qe e
 |rng lo hi=>let#[_,_,_,e]:=x;show qe e
 |frz J u=>let#[e,_]:=x;show qe e
 |tbl ps=>show qe (show h.get? a=some _ from x)
 |met f y=>show qe (show h.get? a=some _ from x)
 |ext φ=>let#[_,#[_,e],_]:=x;show qe e
def Paired.mapP:∀{l₁:List α}{l₂:List β},Paired F l₁ l₂->(∀a b,F a b->G a b)->Paired G l₁ l₂
 |_,_,.nil,_=>.nil
 |_,_,.cons r t,f=>.cons (f _ _ r) (Paired.mapP t f)
def zU.stay(x:zU P w H h a o)(k:∀b u,(b=a\/H b=some (.own a))->h.get? b=some u->h'.get? b=some u)
  (ho:∀b,H b=some (.own a)->H' b=some (.own a))(Y:∀b xs,H b=some (.tup xs)->H' b=some (.tup xs)):zU P w H' h' a o:=by
 induction o with
 |lst xs=>let#[z,J,n,r,e]:=x;show#[z,J,n,r,k _ _ (.inl rfl) e]
 |tup xs=>let#[#[z,nd],J,r,B,e,c]:=x;show#[#[z,λo q=>by rw[k _ _ (.inl rfl) e]at q;cases q;show nd _ e],J,r,B,k _ _ (.inl rfl) e,c]
 |dK O=>let#[z,y,vs,r,B,es,ep,e,c]:=x;show#[z,y,vs,r,B,es,ep,k _ _ (.inl rfl) e,c]
 |dT O=>let#[z,y,xs,r,B,es,ep,e,c]:=x;show#[z,y,xs,Paired.mapP r λp q z=>#[z.1,Y _ _ z.2.1,z.2.2],B,es,ep,k _ _ (.inl rfl) e,c]
 |set vs=>
  rcases x with⟨z,⟨n,e⟩|⟨n,xs,p,B,es,ep,t,e,c⟩|⟨n,xs,p,hx,B,es,ep,t,e,c⟩⟩
  .show#[z,.inl #[n,k _ _ (.inl rfl) e]]
  .show#[z,.inr (.inl #[n,xs,p,B,es,ep,t,k _ _ (.inl rfl) e,c])]
  .show#[z,.inr (.inr #[n,xs,p,λq hq=>Y _ _ (hx q hq),B,es,ep,t,k _ _ (.inl rfl) e,c])]
 |ins C dx fs=>let#[d,z,ne,e,M,#[L,es,ep,e2,c],r]:=x;show#[ho _ d,z,ne,k _ _ (.inl rfl) e,M,#[L,es,ep,k _ _ (.inr d) e2,c],r]
 |own y=>let#[B,e]:=x;show#[B,k _ _ (.inl rfl) e]
 |xd fs=>let#[M,#[L,es,ep,e,c],r]:=x;show#[M,#[L,es,ep,k _ _ (.inl rfl) e,c],r]
 |rng lo hi=>let#[t,u,v,e]:=x;show#[t,u,v,k _ _ (.inl rfl) e]
 |frz B u ih=>let#[e,q]:=x;show#[k _ _ (.inl rfl) e,ih q]
 |tbl ps=>have e:h.get? a=some {cls:=.none,data:=.fields ps}:=x;show h'.get? a=some {cls:=.none,data:=.fields ps};show k a _ (.inl rfl) e
 |met f y=>have e:h.get? a=some (W.methodObj (.ref f) (.ref y)):=x;show h'.get? a=some (W.methodObj (.ref f) (.ref y));show k a _ (.inl rfl) e
 |ext φ=>let#[p,#[o,e],st]:=x;show#[st _ _ p λo q=>k _ _ (.inl rfl) q,#[o,k _ _ (.inl rfl) e],st]
def eC.lt(x:eC P w H h)(e:H a=some o):a<h.objs.size:=(x a o e).lt
def eC.fresh(x:eC P w H h)(e:h.objs.size<=a):H a=none:=by
 cases q:H a with
 |none=>rfl
 |some u=>show absurd (lt_of_lt_of_le (x.lt q) e) (lt_irrefl _)
def eC.kept(x:eC P w H h)(k:∀b u,h.get? b=some u->h'.get? b=some u):eC P w H h':=λa o e=>(x a o e).stay (λb u _ q=>k b u q) (λ_ q=>q) λ_ _ q=>q
def eC.laid(x:eC P w H h)(k:∀b u,h.get? b=some u->h'.get? b=some u)(L:h.objs.size<=a)(new:zU P w (upd H a o) h' a o):eC P w (upd H a o) h':=λb u e=>by
 let B:=x.fresh L;by_cases J:b=a
 .subst J;rw[AX]at e;cases e;show new
 .rw[An J]at e;show(x b u e).stay (λc v _ q=>k c v q) (λc q=>by rw[An (CZ q B)];show q) λc xs q=>by rw[An (CZ q B)];show q
end
@[inline]def Rd(H:Hp)(a:Addr)(u:HO):Prop:=H a=some u\/∃o,H a=some (.frz o u)
def Rd.of(h:H a=some u):Rd H a u:=.inl h
def Rd.ok(r:Rd H a u)(x:eC P w H h):zU P w H h a u:=by
 rcases r with r|⟨o,r⟩
 .show x a u r
 .obtain⟨_,q⟩:=x a _ r;show q
def bx:Option HO->Prop
 |some (.lst _)=>True
 |some (.dK _)=>True
 |some (.dT _)=>True
 |some (.set _)=>True
 |some (.ins _ _ _)=>True
 |some (.ext _)=>True
 |_=>False
section
variable{P:Program}{w:World}{H:Hp}{h h':Heap}{x e:Addr}{o':HO}
def eC.write(ok:eC P w H h)(L:bx (H x))(he:e=x\/H e=some (.own x))(k:∀b u,b≠e->h.get? b=some u->h'.get? b=some u)(M:∃u,h'.get? e=some u)
  (new:zU P w (upd H x o') h' x o'):eC P w (upd H x o') h':=λb u q=>by
 let J:∀c y,H c=some (.own y)->c≠x:=λc y r z=>by subst z;rw[r]at L;show L
 let B:∀c xs,H c=some (.tup xs)->c≠x:=λc xs r z=>by subst z;rw[r]at L;show L
 by_cases hb:b=x
 .subst hb;rw[AX]at q;cases q;show new
 .rw[An hb]at q;by_cases O:b=e
  .let Y:H b=some (.own x):=by grind
   rw[q]at Y;cases Y;let#[v,hv]:=M;show#[v,by rw[O];show hv]
  .show(ok b u q).stay (λc v hc r=>k c v ?_ r) (λc r=>by rw[An (J c b r)];show r) λc xs r=>by rw[An (B c xs r)];exact r
   grind
end
structure Un(fs ex:List Addr)(H H':Hp)(h h':Heap):Prop where
 keep:∀b o,h.get? b=some o->H b=none->b∉fs->b∉ex->h'.get? b=some o
 slot:∀b o,h.get? b=some o->H b=none->b∈fs->b∉ex->∃sl,h'.get? b=some {o with slots:=sl}
 free:∀b o,h.get? b=some o->H b=none->b∉ex->H' b=none
 there:∀b o,h.get? b=some o->b∉ex->∃o',h'.get? b=some o'
 tups:∀b xs,H b=some (.tup xs)->H' b=some (.tup xs)
 frzs:∀b o u,H b=some (.frz o u)->H' b=some (.frz o u)
 tbls:∀b ps,H b=some (.tbl ps)->∃more,H' b=some (.tbl (ps++more))
section
variable{fs fs' ex ex':List Addr}{H H1 H2:Hp}{h h1 h2 h':Heap}{a x e:Addr}{o:HO}
def Un.any(u:Un fs ex H H1 h h1)(q:h.get? b=some B)(n:H b=none)(J:b∉ex):∃M,h1.get? b=some {B with slots:=M}:=by
 by_cases L:b∈fs
 .show u.slot b B q n L J
 .show#[B.slots,u.keep b B q n L J]
def Un.kept(k:∀b u,h.get? b=some u->h'.get? b=some u):Un fs ex H H h h':=
 #[λb B q _ _ _=>k b B q,λb B q _ _ _=>#[B.slots,k b B q],λ_ _ _ n _=>n,λb B q _=>#[B,k b B q],λ_ _ q=>q,λ_ _ _ q=>q,λ_ ps q=>#[#[],by rw[q];simp]]
def Un.refl:Un fs ex H H h h:=Un.kept λ_ _ q=>q
def Un.laid(k:∀b u,h.get? b=some u->h'.get? b=some u)(hp:h.objs.size<=a)(hn:H a=none):Un fs ex H (upd H a o) h h' where
 keep:=λb u q _ _ _=>k b u q
 slot:=λb u q _ _ _=>#[u.slots,k b u q]
 free:=λb u q n _=>by rw[An (ne_of_lt (lt_of_lt_of_le (qe q) hp))];show n
 there:=λb u q _=>#[u,k b u q]
 tups:=λb xs q=>by rw[An (CZ q hn)];show q
 frzs:=λb u xs q=>by rw[An (CZ q hn)];show q
 tbls:=λb ps q=>#[#[],by rw[An (CZ q hn),q];simp]
def Un.write(B:bx (H x))(Y:e=x\/H e=some (.own x))(k:∀b u,b≠e->h.get? b=some u->h'.get? b=some u)(O:∃u,h'.get? e=some u):Un fs ex H (upd H x o) h h':=by
 let M:∀b,H b=none->b≠x:=λb n z=>by subst z;rw[n]at B;show B
 let L:∀b,H b=none->b≠e:=λb n z=>by grind
 let J:∀b u,H b=some u->¬bx (some u)->b≠x:=λb u q nm z=>by subst z;rw[q]at B;show nm B
 refine⟨λb u q n _ _=>k b u (L b n) q,λb u q n _ _=>#[u.slots,k b u (L b n) q],λb u q n _=>by rw[An (M b n)];exact n,λb u q _=>?_,
  λb xs q=>by rw[An (J b _ q λz=>z)];show q,λb u xs q=>by rw[An (J b _ q λz=>z)];show q,λb ps q=>#[#[],by rw[An (J b _ q λz=>z),q];simp]⟩
 grind
end
def ft(h:Heap)(H:Hp):List Addr:=(List.range h.objs.size).filter λa=>(H a).isSome
def iA(h:Heap)(H:Hp):Heap:=W.hideAll h (ft h H)
def SS(h:Heap)(H:Hp):(iA h H).objs.size=h.objs.size:=W.hideAll_size _ _
def Ri(e:h.get? b=some o)(n:H b=none):(iA h H).get? b=some o:=
 W.hideAll_get _ e λB=>by let q:(H b).isSome=true:=(mem_filter.mp B).2;rw[n]at q;simp at q
def Qz(e:(iA h H).get? b=some o):h.get? b=some o/\H b=none:=by
 let B:h.get? b=some o:=W.of_hideAll (ft h H) e;show#[B,?_];cases q:H b with
 |none=>rfl
 |some x=>grind[ft,mem_filter,mem_range,Heap.lt_size,iA,W.hideAll_none]
def lC(g h:Heap)(L:Addr):List (Addr×Obj):=(List.range h.objs.size).filterMap λa=>if a=L\/(g.get? a).isSome=true then none else(h.get? a).map λo=>(a,o)
def Ux(h1:a≠L)(h2:g.get? a=none)(B:h.get? a=some o):(a,o)∈lC g h L:=
 mem_filterMap.mpr #[a,qJ.mpr (qe B),by simp[h1,h2,B]]
def rest(g h:Heap)(L d:Addr):List (Addr×Obj):=(lC g h L).filter λp=>decide (p.1≠d)
theorem zb4(h1:a≠L)(h2:g.get? a=none)(J:h.get? a=some o)(B:a≠d):(a,o)∈rest g h L d:=
 mem_filter.mpr #[Ux h1 h2 J,qR B]
structure Mod(K:W.Frag)(mg:Str->Option Value)(base:Heap):Prop where
 kin:K.In base
 glob:base.Ns mainGlobals mg
 blt:∃mb,base.Ns builtinsNs mb/\∀x:Str,x≠"__name__"->mb x=bootBuiltins x
 nolimit:base.NoLimit
structure Cx where
 prog:Program
 w:World
 K:W.Frag
 mg:Str->Option Value
 base:Heap
 A:Around
 N:List Str
 s₀:Shared
 H₀:Hp
 env:Env
 outer:List Env
 stack:List Env
 ex:List Addr
 fn:Str->Bool
 calm:Bool
 pn:List (Addr×Obj)
 xe:zv
def iJ(l:List Env):List Addr:=l.filterMap (·.frame)
abbrev Cx.fs(X:Cx):List Addr:=iJ X.outer
def bj(B:Scope)(x:Str):Prop:=B.names.lookup x=some .local\/B.names.lookup x=some .cell\/B.names.lookup x=some .free
@[inline]def Loc(B:Scope)(x:Str):Prop:=B.names.lookup x=some .local\/B.names.lookup x=some .cell
@[inline]def Look(env:Env)(h:Heap)(m:Str->Option Value)(x:Str)(u:Value):Prop:=
 (env.kindOf x=some .local/\m x=some u)\/((env.kindOf x=some .cell\/env.kindOf x=some .free)/\∃c,env.cells.lookup x=some c/\h.IsCell c (some u))
structure Cx.Ok(X:Cx):Prop where
 mod:Mod X.K X.mg X.base
 kind:X.env.scope.kind=.function
 glob:X.env.globals=mainGlobals
 blt:X.env.builtins=builtinsNs
 above:X.s₀.heap.objs.size<=X.env.locals
 inj:∀x y c,X.env.cells.lookup x=some c->X.env.cells.lookup y=some c->x=y
 has:∀x,(X.env.kindOf x=some .cell\/X.env.kindOf x=some .free)->∃c,X.env.cells.lookup x=some c
 cab:∀x c,X.fn x=true->X.env.cells.lookup x=some c->X.s₀.heap.objs.size<=c
 hd:X.calm=true->X.A.handled=none
 frames:X.A.frames=some X.stack
 stk:X.stack=X.outer\/(X.stack=X.env::X.outer/\X.env.frame=some X.env.locals)
 exf:∀b∈X.ex,b≠X.env.locals/\∀x c,X.env.cells.lookup x=some c->c≠b
 bs:∀b o,X.base.get? b=some o->X.s₀.heap.get? b=some o/\X.H₀ b=none
 bsz:X.base.objs.size<=X.s₀.heap.objs.size
 noex:∀b o,X.base.get? b=some o->b∉X.ex
 exfs:∀b∈X.ex,b∉X.fs
 funs:X.s₀.heap.FunFrames X.base X.outer
 frf:∀b∈X.fs,X.H₀ b=none
structure Inv(X:Cx)(zV:List (Addr×Obj))(Z:List (Option V))(H:Hp)(s:Shared):Prop where
 ok:X.Ok
 os:s.os=X.s₀.os
 bare:AllBare s.gens
 base:Un X.fs X.ex X.H₀ H X.s₀.heap s.heap
 loc:∃m,s.heap.Ns X.env.locals m/\∀(i:Nat)(x:Str)(v:V),X.N[i]?=some x->Z[i]?=some (some v)->bj X.env.scope x->∃u,zK v u/\Look X.env s.heap m x u
 cell:∀x c,X.env.cells.lookup x=some c->∃v,s.heap.IsCell c v
 free:H X.env.locals=none
 freeC:∀x c,X.env.cells.lookup x=some c->H c=none
 pin:∀p∈X.pn++zV,s.heap.get? p.1=some p.2/\H p.1=none/\p.1≠X.env.locals/\p.1∉X.fs/\∀v,p.2.data≠.cell v
 hok:eC X.prog X.w H s.heap
 len:Z.length=X.N.length
section
variable{X:Cx}{zV:List (Addr×Obj)}{Z:List (Option V)}{H H':Hp}{s:Shared}{h':Heap}
def Cx.Ok.nofr(ok:X.Ok)(e:X.base.get? b=some o):b∉X.fs:=λB=>by let:=(ok.funs.mem B).1;rw[e]at this;cases this
def Inv.bs(I:Inv X zV Z H s):∀b o,X.base.get? b=some o->s.heap.get? b=some o/\H b=none:=λb o e=>#[I.base.keep b o (I.ok.bs b o e).1 (I.ok.bs b o e).2 (I.ok.nofr e) (I.ok.noex b o e),I.base.free b o (I.ok.bs b o e).1 (I.ok.bs b o e).2 (I.ok.noex b o e)]
def Inv.bk(I:Inv X zV Z H s):∀b o,X.base.get? b=some o->s.heap.get? b=some o:=λb o e=>(I.bs b o e).1
def Inv.mod(I:Inv X zV Z H s):Mod X.K X.mg X.base:=I.ok.mod
def Inv.kIn(I:Inv X zV Z H s):X.K.In s.heap:=I.ok.mod.kin.keeps I.bk
def Inv.fr(I:Inv X zV Z H s):∃m,Fr X.base X.env.locals s.heap m:=
 let⟨m,hn,_⟩:=I.loc
 #[m,hn,I.bk,le_trans I.ok.bsz I.ok.above]
def Inv.lt(I:Inv X zV Z H s):X.env.locals<s.heap.objs.size:=let⟨_,hn,_⟩:=I.loc;hn.lt
def Inv.sz(I:Inv X zV Z H s):X.s₀.heap.objs.size<=s.heap.objs.size:=le_trans I.ok.above (le_of_lt I.lt)
def Inv.nofs(I:Inv X zV Z H s)(h:s.heap.objs.size<=a):a∉X.fs:=λJ=>by let#[_,o,B,_]:=I.ok.funs.mem J;show absurd (lt_of_lt_of_le (qe B) (le_trans I.sz h)) (lt_irrefl _)
def Inv.cne(I:Inv X zV Z H s):∀x c,X.env.cells.lookup x=some c->c≠X.env.locals:=λx c e z=>by let#[v,o,L,M]:=I.cell x c e;let#[m,#[o',es,ep,B,J,_],_]:=I.loc;rw[z,B]at L;cases L;rw[J]at M;cases M
def Inv.funs(I:Inv X zV Z H s):s.heap.FunFrames X.base X.outer:=by
 have all:∀(l:List Env),(∀b∈iJ l,b∈X.fs)->X.s₀.heap.FunFrames X.base l->s.heap.FunFrames X.base l:=by
  intro l;induction l with
  |nil=>intro _ _;trivial
  |cons h1 r Y=>intro O hl;let#[hk,#[L,o,B,hn,ho,hd],hr]:=hl;let M:L∈X.fs:=O L (by unfold iJ;rw[filterMap_cons,B];show qm);let#[sl,e]:=I.base.slot L o ho (I.ok.frf L M) M λz=>I.ok.exfs L z M;show#[hk,#[L,_,B,hn,e,hd],Y (λb J=>O b (by unfold iJ;rw[filterMap_cons,B];show qk _ J)) hr]
 show all X.outer (λ_ J=>J) I.ok.funs
def Inv.stack(I:Inv X zV Z H s):s.heap.FunFrames X.base X.stack:=by
 rcases I.ok.stk with e|⟨e,J⟩
 .rw[e];show I.funs
 .rw[e];let#[m,B,_]:=I.loc;show .cons (by rw[I.ok.kind];decide) J B ?_ I.funs;show Heap.get?_none_of_le (le_trans I.ok.bsz I.ok.above)
def Inv.stkSub(I:Inv X zV Z H s):∀b∈iJ X.stack,b∈X.env.locals::X.fs:=λb B=>by
 rcases I.ok.stk with e|⟨e,J⟩
 .rw[e]at B;show qk _ B
 .rw[e]at B;unfold iJ at B;rw[filterMap_cons,J]at B;show B
def Inv.stkFree(I:Inv X zV Z H s):∀b∈iJ X.stack,H b=none:=λb B=>by
 rcases qA.mp (I.stkSub b B)with e|B
 .rw[e];show I.free
 .obtain⟨_,o,J,_⟩:=I.ok.funs.mem B;show I.base.free b o J (I.ok.frf b B) λz=>I.ok.exfs b z B
def Inv.step{ch:List Addr}(I:Inv X zV Z H s)
  (M:∀b∈ch,(b∈X.ex\/X.s₀.heap.get? b=none)/\b≠X.env.locals/\(∀x c,X.env.cells.lookup x=some c->c≠b)/\∀p∈X.pn++zV,p.1≠b)
  (L:∀b o,b≠X.env.locals->b∉X.fs->b∉ch->s.heap.get? b=some o->H b=none->h'.get? b=some o)
  (slot:∀b o,b≠X.env.locals->b∈X.fs->b∉ch->s.heap.get? b=some o->H b=none->∃sl,h'.get? b=some {o with slots:=sl})(free:∀b o,b∉ch->s.heap.get? b=some o->H b=none->H' b=none)
  (there:∀b o,b∉ch->s.heap.get? b=some o->∃o',h'.get? b=some o')
  (h1:∀b xs,H b=some (.tup xs)->H' b=some (.tup xs))(h4:∀b o u,H b=some (.frz o u)->H' b=some (.frz o u))(h2:∀b ps,H b=some (.tbl ps)->∃more,H' b=some (.tbl (ps++more)))
  (ns:∀m,s.heap.Ns X.env.locals m->h'.Ns X.env.locals m)(h6:eC X.prog X.w H' h')(hg:AllBare g'):
  Inv X zV Z H' {s with heap:=h',gens:=g',drawn:=d',toks:=t'}:=by
 have h3:∀b o,X.s₀.heap.get? b=some o->b≠X.env.locals:=λb o e=>ne_of_lt (lt_of_lt_of_le (qe e) I.ok.above);let Y:∀b o,X.s₀.heap.get? b=some o->b∉X.ex->b∉ch:=λb o e B hb=>by
  rcases(M b hb).1 with z|z
  .show B z
  .rw[z]at e;cases e
 have O:∀x c,X.env.cells.lookup x=some c->∀v,s.heap.IsCell c v->h'.IsCell c v:=λx c e v⟨o,ho,hd⟩=>by
  let J:c∉ch:=λz=>(M c z).2.2.1 x c e rfl;by_cases hc:c∈X.fs
  .obtain⟨sl,q⟩:=slot c o (I.cne x c e) hc J ho (I.freeC x c e);show#[_,q,hd]
  .show#[o,L c o (I.cne x c e) hc J ho (I.freeC x c e),hd]
 show#[I.ok,I.os,hg,#[λb o e n hb B=>?_,λb o e n hb B=>?_,λb o e n B=>?_,λb o e B=>?_,λb xs e=>h1 b xs (I.base.tups b xs e),λb o xs e=>h4 b o xs (I.base.frzs b o xs e),λb ps e=>?_],?_,λx c e=>?_,?_,λx c e=>?_,λp hp=>?_,h6,I.len]
 .show L b o (h3 b o e) hb (Y b o e B) (I.base.keep b o e n hb B) (I.base.free b o e n B)
 .obtain⟨sl,e1⟩:=I.base.slot b o e n hb B;let#[h5,e2]:=slot b _ (h3 b o e) hb (Y b o e B) e1 (I.base.free b o e n B);show#[h5,e2]
 .obtain⟨o',e1⟩:=I.base.there b o e B;show free b o' (Y b o e B) e1 (I.base.free b o e n B)
 .obtain⟨o',e1⟩:=I.base.there b o e B;show there b o' (Y b o e B) e1
 .obtain⟨m1,e1⟩:=I.base.tbls b ps e;let#[m2,e2]:=h2 b _ e1;show#[m1++m2,by rw[e2,Array.append_assoc]]
 .obtain⟨m,hn,hl⟩:=I.loc;show#[m,ns m hn,λi x v e1 e2 e3=>?_];let#[u,r,l]:=hl i x v e1 e2 e3;show#[u,r,?_];rcases l with l|⟨k,c,e,z⟩
  .show .inl l
  .show .inr #[k,c,e,O x c e _ z]
 .obtain⟨v,z⟩:=I.cell x c e;show#[v,O x c e v z]
 .obtain⟨m,⟨o,_,_,ho,_⟩,_⟩:=I.loc;show free _ o (λz=>(M _ z).2.1 rfl) ho I.free
 .obtain⟨v,o,ho,hd⟩:=I.cell x c e;show free c o (λz=>(M c z).2.2.1 x c e rfl) ho (I.freeC x c e)
 .obtain⟨e,n,ne,nf,d⟩:=I.pin p hp;let J:p.1∉ch:=λz=>(M p.1 z).2.2.2 p hp rfl;show#[L p.1 p.2 ne nf J e n,free p.1 p.2 J e n,ne,nf,d]
def Inv.un(I:Inv X zV Z H s)(u:Un X.fs [] H H' s.heap h')(J:eC X.prog X.w H' h'):Inv X zV Z H' {s with heap:=h',toks:=t'}:=by let#[m,#[o,es,ep,Y,r],_]:=id I.loc;let#[sl,hL]:=u.any Y I.free (by simp);show I.step (g':=s.gens) (d':=s.drawn) (ch:=[]) (λ_ z=>nomatch z) (λb o _ L _ e n=>u.keep b o e n L (by simp)) (λb o _ L _ e n=>u.slot b o e n L (by simp)) (λb o _ e n=>u.free b o e n (by simp)) (λb o _ e=>u.there b o e (by simp)) u.tups u.frzs u.tbls (λm' hm=>by let#[o',M,O,B,r']:=hm;rw[Y]at B;cases B;show#[_,M,O,hL,r']) J I.bare
def Inv.call(I:Inv X zV Z H s)(u:Un (iJ X.stack) ch H H' s.heap h')(M:eC X.prog X.w H' h')(hg:AllBare g')
  (L:∀b∈ch,(b∈X.ex\/X.s₀.heap.get? b=none)/\b≠X.env.locals/\(∀x c,X.env.cells.lookup x=some c->c≠b)/\∀p∈X.pn++zV,p.1≠b):
  Inv X zV Z H' {s with heap:=h',gens:=g',drawn:=d',toks:=t'}:=by
 let#[m,#[o,es,ep,ho,r],_]:=id I.loc;let#[sl,O]:=u.any ho I.free λz=>(L _ z).2.1 rfl;show I.step (ch:=ch) L (λb o O hb B e n=>u.keep b o e n (λz=>(qA.mp (I.stkSub b z)).elim O hb) B) (λb o _ _ B e n=>u.any e n B) (λb o B e n=>u.free b o e n B) (λb o B e=>u.there b o e B) u.tups u.frzs u.tbls (λm' hm=>by let#[o',Y,h1,J,r']:=hm;rw[ho]at J;cases J;show#[_,Y,h1,O,r']) M hg
def Inv.turned(I:Inv X zV Z H s)(k:∀b o,b≠it->s.heap.get? b=some o->h'.get? b=some o)(hn:H it=none)(L:it≠X.env.locals)
  (h1:it∈X.ex\/X.s₀.heap.get? it=none)(h2:∀x c,X.env.cells.lookup x=some c->c≠it)(h3:∀p∈X.pn++zV,p.1≠it):Inv X zV Z H {s with heap:=h',toks:=t'}:=by
 let J:∀b u,H b=some u->b≠it:=λb u e z=>by rw[z,hn]at e;cases e
 refine I.step (g':=s.gens) (d':=s.drawn) (ch:=[it]) (λb Y=>?_) (λb o _ _ B e _=>k b o (λz=>B (by simp[z])) e) (λb o _ _ B e _=>#[o.slots,k b o (λz=>B (by simp[z])) e]) (λ_ _ _ _ n=>n)
  (λb o B e=>#[o,k b o (λz=>B (by simp[z])) e]) (λ_ _ e=>e) (λ_ _ _ e=>e) (λb ps e=>#[#[],by rw[e];simp]) (λm O=>?_) (λb u e=>?_) I.bare
 .let e:b=it:=by simpa using Y
  subst e;show#[h1,L,h2,h3]
 .obtain⟨o,es,ep,M,r⟩:=O;show#[o,es,ep,k _ o (Ne.symm L) M,r]
 .show(I.hok b u e).stay (λc v B q=>k c v ?_ q) (λ_ q=>q) λ_ _ q=>q;rcases B with z|z
  .rw[z];show J b u e
  .show J c _ z
def Inv.tok(I:Inv X zV Z H s)(t:Nat):Inv X zV Z H {s with toks:=t}:=I.un (h':=s.heap) (t':=t) Un.refl I.hok
def Inv.kept(I:Inv X zV Z H s)(k:∀b u,s.heap.get? b=some u->h'.get? b=some u):Inv X zV Z H {s with heap:=h',toks:=t'}:=I.un (Un.kept k) (I.hok.kept k)
def Inv.laid(I:Inv X zV Z H s)(k:∀b u,s.heap.get? b=some u->h'.get? b=some u)(B:s.heap.objs.size<=a)(new:zU X.prog X.w (upd H a o) h' a o):
  Inv X zV Z (upd H a o) {s with heap:=h',toks:=t'}:=I.un (Un.laid k B (I.hok.fresh B)) (I.hok.laid k B new)
def Inv.write(I:Inv X zV Z H s)(J:bx (H x))(L:e=x\/H e=some (.own x))(k:∀b u,b≠e->s.heap.get? b=some u->h'.get? b=some u)(B:∃u,h'.get? e=some u)
  (new:zU X.prog X.w (upd H x o) h' x o):Inv X zV Z (upd H x o) {s with heap:=h',toks:=t'}:=I.un (Un.write J L k B) (I.hok.write J L k B new)
def Inv.pins_of(I:Inv X zV Z H s)(h:∀p∈pins',s.heap.get? p.1=some p.2/\H p.1=none/\p.1≠X.env.locals/\p.1∉X.fs/\∀v,p.2.data≠.cell v):Inv X pins' Z H s:=
 #[I.ok,I.os,I.bare,I.base,I.loc,I.cell,I.free,I.freeC,λp B=>(qx.mp B).elim (λz=>I.pin p (qj _ z)) (h p),I.hok,I.len]
def EY{N:List Str}(B:N.Nodup){i j:Nat}(a:N[i]?=some x)(b:N[j]?=some x):i=j:=by let#[h1,L]:=qg.mp a;let#[h2,J]:=qg.mp b;show(List.getElem_inj B).mp (L.trans J.symm)
def To(I:Inv X zV Z H s)(hN:X.N.Nodup)(hi:X.N[i]?=some x)(Y:Loc X.env.scope x)(r:zK v u)
  (h:∀s',Inv X zV (Z.set i (some v)) H s'->(∃a,Heap.SameBut a s.heap s'.heap/\(a=X.env.locals\/X.env.cells.lookup x=some a))->Q () s')(hf:X.fn x=true\/X.env.scope.names.lookup x=some .local:=by first|show .inl rfl|show .inr rfl|assumption):wpAny M A (storeName X.env x u) Q E s:=by
 let#[m,hn,hl]:=id I.loc;let h6:(X.env.scope.kind==.class||(X.env.scope.kind==.module&&X.env.locals !=X.env.globals))=false:=by rw[I.ok.kind];rfl
 let h2:i<Z.length:=by rw[I.len];show(qg.mp hi).1
 have cne:=I.cne;let J:∀{a:Addr}{h':Heap},(∃o,s.heap.get? a=some o/\H a=none)->Heap.SameBut a s.heap h'->eC X.prog X.w H h':=λ{a h'} ha B b ob e=>by
  let#[_,_,h1]:=ha;show(I.hok b ob e).stay (λc w' O q=>(B.2 c ?_).trans q) (λ_ q=>q) λ_ _ q=>q;rintro rfl;rcases O with rfl|O
  .rw[h1]at e;cases e
  .rw[h1]at O;cases O
 rcases Y with hk|hk
 .refine wpAny_storeName_local hk hn (λh' e4 B=>?_) h6;let#[oL,_,_,h9,_]:=id hn;refine h _ #[I.ok,I.os,I.bare,#[λb o e n hb Y=>?_,λb o e n hb Y=>?_,I.base.free,λb o e Y=>?_,I.base.tups,I.base.frzs,I.base.tbls],#[_,e4,λj y v' L e2 e3=>?_],λy c e=>?_,I.free,I.freeC,λp hp=>?_,J #[oL,h9,I.free] B,↑I.len] #[_,B,.inl rfl]
  .show(B.2 b (ne_of_lt (lt_of_lt_of_le (qe e) I.ok.above))).trans (I.base.keep b o e n hb Y)
  .obtain⟨sl,L⟩:=I.base.slot b o e n hb Y;show#[sl,(B.2 b (ne_of_lt (lt_of_lt_of_le (qe e) I.ok.above))).trans L]
  .obtain⟨o',L⟩:=I.base.there b o e Y;show#[o',(B.2 b (ne_of_lt (lt_of_lt_of_le (qe e) I.ok.above))).trans L]
  .by_cases hj:j=i
   .subst hj;rw[hi]at L;cases L;rw[getElem?_set_self h2]at e2;cases e2;show#[u,r,.inl #[hk,by simp]]
   .rw[getElem?_set_ne (Ne.symm hj)]at e2;let#[u',r',q]:=hl j y v' L e2 e3;show#[u',r',?_];rcases q with⟨k,e⟩|⟨k,c,e,z⟩
    .show .inl #[k,?_];let:y≠x:=λe=>hj (EY hN L (e▸hi));simp[this,e]
    .show .inr #[k,c,e,z.sameBut B (cne y c e)]
  .obtain⟨w',z⟩:=I.cell y c e;show#[w',z.sameBut B (cne y c e)]
  .obtain⟨e,n,ne,nf,d⟩:=I.pin p hp;show#[(B.2 p.1 ne).trans e,n,ne,nf,d]
 .have h3:X.fn x=true:=by
   rcases hf with z|z
   .show z
   .rw[z]at hk;cases hk
  let#[c,O]:=I.ok.has x (.inl hk);let#[w',z]:=I.cell x c O;show wpAny_storeName_cell I.ok.kind hk O z (λh' h8 B=>?_);let#[oc,h5,h4]:=id z;show h {s with heap:=h'} ⟨I.ok,I.os,I.bare,⟨λb o e n hb Y=>?_,λb o e n hb Y=>?_,I.base.free,λb o e Y=>?_,I.base.tups,I.base.frzs,I.base.tbls⟩,⟨m,hn.sameBut B (Ne.symm (cne x c O)),λj y v' L e2 e3=>?_⟩,λy c' e=>?_,I.free,I.freeC,λp hp=>?_,J ⟨oc,h5,I.freeC x c O⟩ B,↑I.len⟩ #[c,B,.inr O]
  .show(B.2 b (ne_of_lt (lt_of_lt_of_le (qe e) (I.ok.cab x c h3 O)))).trans (I.base.keep b o e n hb Y)
  .obtain⟨sl,L⟩:=I.base.slot b o e n hb Y;show#[sl,(B.2 b (ne_of_lt (lt_of_lt_of_le (qe e) (I.ok.cab x c h3 O)))).trans L]
  .obtain⟨o',L⟩:=I.base.there b o e Y;show#[o',(B.2 b (ne_of_lt (lt_of_lt_of_le (qe e) (I.ok.cab x c h3 O)))).trans L]
  .by_cases hj:j=i
   .subst hj;rw[hi]at L;cases L;rw[getElem?_set_self h2]at e2;cases e2;show#[u,r,.inr #[.inl hk,c,O,h8]]
   .rw[getElem?_set_ne (Ne.symm hj)]at e2;let#[u',r',q]:=hl j y v' L e2 e3;show#[u',r',?_];rcases q with q|⟨k,c',e,z'⟩
    .show .inl q
    .show .inr #[k,c',e,z'.sameBut B ?_];rintro rfl;show hj (EY hN L (I.ok.inj _ _ _ e O▸hi))
  .by_cases h7:c'=c
   .subst h7;show#[_,h8]
   .obtain⟨w2,z2⟩:=I.cell y c' e;show#[w2,z2.sameBut B h7]
  .obtain⟨e,n,ne,nf,d⟩:=I.pin p hp;show#[(B.2 p.1 ?_).trans e,n,ne,nf,d];intro q;rw[q,h5]at e;let q':oc=p.2:=qf e;show d w' (by rw[<-q'];show h4)
def LR(I:Inv X zV Z H s)(L:X.N.Nodup)(hi:X.N[i]?=some x)(B:Loc X.env.scope x)(r:zK v u)
  (h:∀s',Inv X zV (Z.set i (some v)) H s'->Q () s')(J:X.fn x=true\/X.env.scope.names.lookup x=some .local:=by first|show .inl rfl|show .inr rfl|assumption):wpAny M A (storeName X.env x u) Q E s:=
 To I L hi B r (λs' O _=>h s' O) J
def Inv.call'(I:Inv X zV Z H s)(L:s'.os=s.os)(u:Un (iJ X.stack) ch H H' s.heap s'.heap)(B:eC X.prog X.w H' s'.heap)(M:AllBare s'.gens)
  (J:∀b∈ch,(b∈X.ex\/X.s₀.heap.get? b=none)/\b≠X.env.locals/\(∀x c,X.env.cells.lookup x=some c->c≠b)/\∀p∈X.pn++zV,p.1≠b):Inv X zV Z H' s':=by
 let#[h',g',d',t',o']:=s';let e:o'=s.os:=L;subst e;show I.call (g':=g') (t':=t') (d':=d') u B M J
end
abbrev XK:=Value->Option Addr->Hp->Prop
abbrev St:=List (Option V)
abbrev VK:=V->Hp->Prop
abbrev TE:=St->Hp->VK->Prop
abbrev TT:=St->Hp->(Bool->Hp->Prop)->Prop
abbrev TA:=St->Hp->(List V->Hp->Prop)->Prop
structure Ends where
 nx:St->Hp->Prop
 rt:VK
 bk:St->Hp->Prop:=λ_ _=>False
 ct:St->Hp->Prop:=λ_ _=>False
abbrev TS:=Ends->St->Hp->Prop
inductive EP(X:Cx)(zV:List (Addr×Obj))(Z:St)(Q:VK)(u:Value)(s':Shared):Prop
 |mk (v:V) (H':Hp):Inv X zV Z H' s'->zK v u->Q v H'->EP X zV Z Q u s'
inductive TP(X:Cx)(zV:List (Addr×Obj))(Z:St)(Q:Bool->Hp->Prop)(b:Bool)(s':Shared):Prop
 |mk (H':Hp):Inv X zV Z H' s'->Q b H'->TP X zV Z Q b s'
inductive AP(X:Cx)(zV:List (Addr×Obj))(Z:St)(Q:List V->Hp->Prop)(us:List Value)(s':Shared):Prop
 |mk (vs:List V) (H':Hp):Inv X zV Z H' s'->zS vs us->Q vs H'->AP X zV Z Q us s'
@[inline]def SP(X:Cx)(zV:List (Addr×Obj))(D:Ends)(f:Flow)(s':Shared):Prop:=
 match f with
 |.next=>∃Z' H',Inv X zV Z' H' s'/\D.nx Z' H'
 |.brk=>∃Z' H',Inv X zV Z' H' s'/\D.bk Z' H'
 |.cont=>∃Z' H',Inv X zV Z' H' s'/\D.ct Z' H'
 |.ret u=>∃v Z' H',Inv X zV Z' H' s'/\zK v u/\D.rt v H'
@[inline]def PE(X:Cx)(e:Expr)(t:TE):Prop:=
 ∀(zV:List (Addr×Obj))(s:Shared)(Z:St)(H:Hp)(Q:VK),Inv X zV Z H s->t Z H Q->wpAny (model X.prog X.w) X.A (eval e X.env) (EP X zV Z Q) X.xe s
@[inline]def PT(X:Cx)(e:Expr)(t:TT):Prop:=
 ∀(zV:List (Addr×Obj))(s:Shared)(Z:St)(H:Hp)(Q:Bool->Hp->Prop),Inv X zV Z H s->t Z H Q->wpAny (model X.prog X.w) X.A (isTrue e X.env (eval e X.env)) (TP X zV Z Q) X.xe s
@[inline]def PW(X:Cx)(e:Expr)(t:TT):Prop:=
 ∀(B:Sem Value)(zV:List (Addr×Obj))(s:Shared)(Z:St)(H:Hp)(Q:Bool->Hp->Prop),Inv X zV Z H s->t Z H Q->wpAny (model X.prog X.w) X.A (isTrue e X.env B) (TP X zV Z Q) X.xe s
def PW.pt(h:PW X e t):PT X e t:=h _
@[inline]def PA(X:Cx)(es:List Expr)(t:TA):Prop:=
 ∀(pos:Pos)(zV:List (Addr×Obj))(s:Shared)(Z:St)(H:Hp)(Q:List V->Hp->Prop),Inv X zV Z H s->t Z H Q->wpAny (model X.prog X.w) X.A (spliced (backTo pos (starEach es X.env))) (AP X zV Z Q) X.xe s
@[inline]def PS(X:Cx)(st:Stmt)(t:TS):Prop:=
 ∀(zV:List (Addr×Obj))(s:Shared)(Z:St)(H:Hp)(D:Ends),Inv X zV Z H s->t D Z H->wpAny (model X.prog X.w) X.A (exec st X.env) (SP X zV D) X.xe s
def iY(X:Cx)(st:List Stmt)(t:TS):Prop:=
 ∀(zV:List (Addr×Obj))(s:Shared)(Z:St)(H:Hp)(D:Ends),Inv X zV Z H s->t D Z H->wpAny (model X.prog X.w) X.A (execs st X.env) (SP X zV D) X.xe s
def Am(h:wpAny M A t Q E s)(B:∀a s,Q a s->Q' a s):wpAny M A t Q' E s:=zu h B λ_ _ x=>x
section
variable{X:Cx}
def fx(i:Nat):TE:=λZ H Q=>∃v,Z[i]?=some (some v)/\Q v H
def tC(v:V):TE:=λ_ H Q=>Q v H
def OE(hN:X.N[i]?=some x)(hv:bj X.env.scope x)(M:(x==("__debug__":Str))=false:=by decide)(O:(x==("__classdict__":Str))=false:=by decide):PE X (.Name x pos) (fx i):=by
 intro zV s Z H Q I h;let#[v,e,h]:=h;let#[m,hn,hl]:=I.loc;let#[u,r,l]:=hl i x v hN e hv;let L:EP X zV Z Q u s:=#[v,H,I,r,h]
 rcases l with⟨J,hm⟩|⟨J,c,Y,B⟩
 .show wpAny_Name (wpAny_loadName_local I.ok.kind J hn hm L) M
 .rcases J with J|J
  .show wpAny_Name (wpAny_loadName_cell I.ok.kind J Y B L) M
  .show wpAny_Name (wpAny_loadName_free I.ok.kind J Y B L O) M
def Oh:PE X (.Constant (.int i) j pos) (tC (.int i)):=λ_ _ _ H _ I h=>wpAny_Constant_int #[.int i,H,I.tok _,#[_,rfl],h]
def NA:PE X (.Constant (.bool b) j pos) (tC (.bl b)):=λ_ _ _ H _ I h=>Constant_bool #[.bl b,H,I,rfl,h]
def OO:PE X (.Constant .none j pos) (tC .non):=λ_ _ _ H _ I h=>Constant_none #[.non,H,I,rfl,h]
def OB:PE X (.Constant (.str x) j pos) (tC (.str x)):=λ_ _ _ H _ I h=>Calls.Constant_str #[.str x,H,I.tok _,#[_,rfl],h]
@[inline]def Gl(X:Cx)(x:Str):Prop:=X.env.kindOf x=some .globalImplicit
def HY(I:Inv X zV Z H s)(J:Gl X x)(B:X.mg x=some u)(h:Q u s)
  (L:(x==("__debug__":Str))=false:=by decide):wpAny (model X.prog X.w) X.A (eval (.Name x pos) X.env) Q E s:=
 Calls.Name_function_global I.ok.kind J (Calls.loadGlobal_global (by rw[I.ok.glob];show I.mod.glob.keeps I.bk) B h) L
def DJ(I:Inv X zV Z H s)(L:Gl X x)(J:X.mg x=none)(B:bootBuiltins x=some u)(h:Q u s)
  (hn:x≠"__name__":=by decide)(M:(x==("__debug__":Str))=false:=by decide):wpAny (model X.prog X.w) X.A (eval (.Name x pos) X.env) Q E s:=by
 let#[O,h1,h2]:=I.mod.blt;show Calls.Name_function_global I.ok.kind L (Calls.loadGlobal_builtin (by rw[I.ok.glob];show I.mod.glob.keeps I.bk) J (by rw[I.ok.blt];show h1.keeps I.bk) ((h2 x hn).trans B) h) M
variable{a b:Expr}{ta tb:TE}{pos:Pos}
def Ds(b:Expr)(h:B≠.In)(h2:B≠.NotIn):behindInMarks B b=false:=by
 let L:(B==CmpOp.In)=false:=by cases B<;>first|rfl|show absurd rfl h
 let J:(B==CmpOp.NotIn)=false:=by cases B<;>first|rfl|show absurd rfl h2
 cases b<;>first|rfl|(show(_&&(B==.In||B==.NotIn)&&_)=false;rw[L,J,Bool.or_false,Bool.and_false];rfl)
variable{tA tB':TT}{rest:List Expr}
def gu(t u:TT):TT:=λZ H Q=>t Z H λc H1=>if c=true then u Z H1 Q else Q false H1
def ny(t u:TT):TT:=λZ H Q=>t Z H λc H1=>if c=true then Q true H1 else u Z H1 Q
def gh(t:TT):TT:=λZ H Q=>t Z H λc H1=>Q (!c) H1
def Pj(B:PT X a tA):PW X (.BoolOp .And [a] pos) tA:=by
 intro J zV s Z H Q I h;show isTrue_and (Am (B zV s Z H Q I h) λc L e=>?_);cases c with
 |true=>show isTrue_and_nil e
 |false=>show e
def Od(B:PT X a tA):PW X (.BoolOp .Or [a] pos) tA:=by
 intro J zV s Z H Q I h;show isTrue_or (Am (B zV s Z H Q I h) λc L e=>?_);cases c with
 |false=>show isTrue_or_nil e
 |true=>show e
def NG(ha:PT X a tA)(Y:PW X (.BoolOp .And (b::rest) pos) tB'):PW X (.BoolOp .And (a::b::rest) pos) (gu tA tB'):=by
 intro M zV s Z H Q I h;show isTrue_and (Am (ha zV s Z H _ I h) λc O L=>?_);let#[H1,J,B]:=L;cases c with
 |true=>show Y M zV O Z H1 Q J B
 |false=>show#[H1,J,B]
def Nn(ha:PT X a tA)(Y:PW X (.BoolOp .Or (b::rest) pos) tB'):PW X (.BoolOp .Or (a::b::rest) pos) (ny tA tB'):=by
 intro M zV s Z H Q I h;show isTrue_or (Am (ha zV s Z H _ I h) λc O L=>?_);let#[H1,J,B]:=L;cases c with
 |true=>show#[H1,J,B]
 |false=>show Y M zV O Z H1 Q J B
def OM(J:PT X a tA):PT X (.UnaryOp .Not a pos) (gh tA):=by intro zV s Z H Q I h;show isTrue_not (Am (J zV s Z H (λc H1=>Q (!c) H1) I h) λc M z=>by let#[H1,L,B]:=z;show#[H1,L,B])
def nz(t:TT)(ta tb:TE):TE:=λZ H Q=>t Z H λc H1=>if c=true then ta Z H1 Q else tb Z H1 Q
def SD(O:PT X c tA)(ha:PE X a ta)(Y:PE X b tb):PE X (.IfExp c a b pos) (nz tA ta tb):=by
 intro zV s Z H Q I h;show wpAny_IfExp (Am (O zV s Z H _ I h) λd B M=>?_);let#[H1,L,J]:=M;cases d with
 |true=>show ha zV B Z H1 Q L J
 |false=>show Y zV B Z H1 Q L J
end
def bN(K:W.Frag)(H:Hp)(a:Addr)(xs:List V):Prop:=
 Rd H a (.lst xs)\/
  ∃(o:Obj)(B:Array Value)(n:Nat),K.lookup a=some o/\o.cls=.type "list"/\o.dict=none/\o.data=.seq B n/\B.size<=sizeLine/\zS xs B.toList
def bM(K:W.Frag)(H:Hp)(a:Addr)(xs:List V):Prop:=
 Rd H a (.tup xs)\/
  ∃(o:Obj)(B:Array Value)(n:Nat),K.lookup a=some o/\o.cls=.type "tuple"/\o.data=.seq B n/\B.size<=sizeLine/\zS xs B.toList
def kx:Value->Option V
 |.none=>some .non
 |.bool b=>some (.bl b)
 |.int i _=>some (.int i)
 |.str x _=>some (.str x)
 |.bytes b _=>some (.byt b)
 |.float b _=>some (.flt b)
 |.ref a=>some (.ref a)
 |.type n=>some (.ty n)
 |_=>none
def zK.abs(r:zK x u):kx u=some x:=by
 cases x with
 |non=>cases r;rfl
 |bl _=>cases r;rfl
 |int _=>let#[t,rfl]:=r;rfl
 |str _=>let#[t,rfl]:=r;rfl
 |byt _=>let#[t,rfl]:=r;rfl
 |flt _=>let#[t,rfl]:=r;rfl
 |ref _=>cases r;rfl
 |ty _=>cases r;rfl
def zK.inj(r:zK x u)(q:zK y u):x=y:=qf (r.abs.symm.trans q.abs)
def zS.inj:∀{xs ys:List V}{us:List Value},zS xs us->zS ys us->xs=ys:=by
 intro xs ys us r q;induction r generalizing ys with
 |nil=>cases q;rfl
 |cons r _ L=>cases q with
  |cons J B=>rw[r.inj J,L B]
inductive cf(xs:List V)(h:Heap)(a:Addr):Prop
 |mk (zZ:List Value):zS xs zZ->PlainL h a zZ.toArray->xs.length<=sizeLine->cf xs h a
inductive cc(xs:List V)(h:Heap)(a:Addr):Prop
 |mk (zZ:List Value):zS xs zZ->IsTup h a zZ.toArray->xs.length<=sizeLine->cc xs h a
section
variable{X:Cx}{zV:List (Addr×Obj)}{Z:St}{H:Hp}{s:Shared}{a:Addr}{xs ys:List V}
def bN.of{K:W.Frag}(h:H a=some (.lst xs)):bN K H a xs:=.inl (.inl h)
def bM.of{K:W.Frag}(h:H a=some (.tup xs)):bM K H a xs:=.inl (.inl h)
def Inv.list(I:Inv X zV Z H s)(h:bN X.K H a xs):cf xs s.heap a:=by
 rcases h with h|⟨o,B,n,L,O,M,J,Y,r⟩
 .obtain⟨z,B,n,r,e⟩:=h.ok I.hok;show#[B,r,#[_,n,e,rfl,rfl,rfl],z]
 .show#[B.toList,r,#[o,n,I.kIn a o L,O,M,↑J],?_];let e:=r.length;simp only[qV]at e;lia
def Inv.tuple(I:Inv X zV Z H s)(h:bM X.K H a xs):cc xs s.heap a:=by
 rcases h with h|⟨o,B,n,L,M,J,O,r⟩
 .obtain⟨z,B,r,p⟩:=h.ok I.hok;show#[B,r,p,z.1]
 .show#[B.toList,r,#[o,I.kIn a o L,M,n,↑J],?_];let e:=r.length;simp only[qV]at e;lia
def Inv.list_inj(I:Inv X zV Z H s)(h:bN X.K H a xs)(h':bN X.K H a ys):xs=ys:=by
 let#[J,r,#[o,n,e,_,_,d],_]:=I.list h;let#[B,O,#[o',Y,L,_,_,M],_]:=I.list h';rw[e]at L;cases L;rw[d]at M;injection M with d1 _
 let:J=B:=by simpa using congrArg Array.toList d1
 subst this;show r.inj O
def Inv.tuple_inj(I:Inv X zV Z H s)(h:bM X.K H a xs)(h':bM X.K H a ys):xs=ys:=by
 let#[J,r,#[o,e,_,n,d],_]:=I.tuple h;let#[B,O,#[o',L,_,Y,M],_]:=I.tuple h';rw[e]at L;cases L;rw[d]at M;injection M with d1 _
 let:J=B:=by simpa using congrArg Array.toList d1
 subst this;show r.inj O
end
section
variable{X:Cx}{st:Stmt}{rest:List Stmt}{t u:TS}{e:Expr}{te:TE}{pos:Pos}
def yG:TS:=λD Z H=>D.nx Z H
def gb(t u:TS):TS:=λD Z H=>t {D with nx:=u D} Z H
def KL:iY X [] yG:=λ_ _ Z H _ I h=>wpAny_execs_nil #[Z,H,I,h]
def RH(h1:PS X st t)(h2:iY X rest u):iY X (st::rest) (gb t u):=by
 intro zV s Z H D I h;show wpAny_execs_cons (Am (h1 zV s Z H {D with nx:=u D} I h) λf J q=>?_);cases f with
 |next=>let#[B,H',L,q]:=q;show h2 zV J B H' D L q
 |ret v=>show q
 |brk=>show q
 |cont=>show q
def Qh(h1:PS X st t):iY X [st] t:=by
 intro zV s Z H D I h;show wpAny_execs_cons (Am (h1 zV s Z H D I h) λf B q=>?_);cases f with
 |next=>show wpAny_execs_nil q
 |ret v=>show q
 |brk=>show q
 |cont=>show q
def Inv.quiet(I:Inv X zV Z H s):interactive X.env=false:=by simp[interactive,I.ok.kind]
def yH(te:TE):TS:=λD Z H=>te Z H λ_ H1=>D.nx Z H1
def Qc(J:PE X e te)(hs:swapsWith e none pos.line X.env=pure false:=by rfl):PS X (.Expr e pos) (yH te):=by intro zV s Z H D I h;show wpAny_Expr_any (Am (J zV s Z H _ I h) λv M⟨x,H1,L,O,B⟩=>#[Z,H1,L,B]) I.quiet hs
def gc(te:TE):TS:=λD Z H=>te Z H D.rt
def OH(L:PE X e te):PS X (.Return (some e) pos) (gc te):=by intro zV s Z H D I h;show wpAny_Return_some (Am (L zV s Z H _ I h) λv O⟨x,H1,M,B,J⟩=>#[x,Z,H1,M,B,J])
def gm(c:TT)(t u:TS):TS:=λD Z H=>c Z H λb H1=>if b=true then t D Z H1 else u D Z H1
def Nm(O:PT X c tc)(ha:iY X a t)(Y:iY X b u):PS X (.If c a b pos) (gm tc t u):=by
 intro zV s Z H D I h;show wpAny_If (Am (O zV s Z H _ I h) λd B M=>?_);let#[H1,L,J]:=M;cases d with
 |true=>show ha zV B Z H1 D L J
 |false=>show Y zV B Z H1 D L J
end
abbrev TG:=V->St->Hp->(St->Hp->Prop)->Prop
abbrev bp:=List V->St->Hp->(St->Hp->Prop)->Prop
@[inline]def PG(X:Cx)(B:Expr)(t:TG):Prop:=
 ∀(zV:List (Addr×Obj))(s:Shared)(Z:St)(H:Hp)(v:V)(u:Value)(Q:St->Hp->Prop),Inv X zV Z H s->zK v u->t v Z H Q->
  wpAny (model X.prog X.w) X.A (assign B X.env u) (λ_ s'=>∃Z' H',Inv X zV Z' H' s'/\Q Z' H') X.xe s
def bw(X:Cx)(ts:List Expr)(t:bp):Prop:=
 ∀(zV:List (Addr×Obj))(s:Shared)(Z:St)(H:Hp)(vs:List V)(us:List Value)(Q:St->Hp->Prop),Inv X zV Z H s->zS vs us->t vs Z H Q->
  wpAny (model X.prog X.w) X.A (assignInOrder ((assignEach ts X.env).map (·.2)) us) (λ_ s'=>∃Z' H',Inv X zV Z' H' s'/\Q Z' H') X.xe s
abbrev TSet:=V->V->V->Hp->(Hp->Prop)->Prop
def br(X:Cx)(t:TSet):Prop:=
 ∀(zV:List (Addr×Obj))(s:Shared)(Z:St)(H:Hp)(o i v:V)(B J u:Value)(Q:Hp->Prop),Inv X zV Z H s->zK o B->zK i J->zK v u->t o i v H Q->
  wpAny (model X.prog X.w) X.A (setItem B J u) (λ_ s'=>∃H',Inv X zV Z H' s'/\Q H') X.xe s
section
variable{X:Cx}{pos:Pos}
def ko:bp:=λvs Z H Q=>vs=[]/\Q Z H
def aw(t:TG)(u:bp):bp:=λvs Z H Q=>∃v r,vs=v::r/\t v Z H λB H'=>u r B H' Q
def PV:bw X [] ko:=by intro zV s Z H vs B Q I r h;let#[e,h]:=h;subst e;cases r;show assignInOrder_nil #[Z,H,I,h]
def QX(h1:PG X e t)(h2:bw X es u)
  (hs:(assignEach (e::es) X.env).map (·.2)=assign e X.env::(assignEach es X.env).map (·.2):=by rfl):bw X (e::es) (aw t u):=by
 intro zV s Z H vs us Q I r h;let#[v,vr,Y,h]:=h;subst Y;cases r with
 |cons r M=>rw[hs];show assignInOrder_cons (Am (h1 zV s Z H _ _ _ I r h) λ_ L J=>?_);let#[B,H1,I1,O]:=J;show h2 zV L B H1 _ _ Q I1 M O
def bT(K:W.Frag)(n:Nat)(t:bp):TG:=λv Z H Q=>∃a xs,v=.ref a/\bM K H a xs/\xs.length=n/\t xs Z H Q
def ON(hc:X.calm=true)(h:bw X es t)
  (hn:(assignEach es X.env).length=n:=by rfl)(J:(assignEach es X.env).findIdx? (·.1)=none:=by rfl):PG X (.Tuple es k pos) (bT X.K n t):=by
 intro zV s Z H v u Q I r B;let#[a,xs,e1,hq,hl,B]:=B;subst e1;cases r;let#[M,L,Y,hz]:=I.tuple hq;show assign_Tuple_tuple (I.ok.hd hc) Y (by simp[hn,<-hl,L.length]) J λh' O=>?_;let I1:Inv X zV Z H {s with heap:=h'}:=I.kept (t':=s.toks) λb o e=>O b o (ne_of_lt (qe e)) e;show h zV _ Z H xs _ Q I1 ↑L B
def km(B J:TE)(t:TSet):TG:=λv Z H Q=>B Z H λo H1=>J Z H1 λi H2=>t o i v H2 λL=>Q Z L
def Ot(ho:PE X o to)(hi:PE X i ti)(hs:br X t)
  (ha:∀v,assign (.Subscript o i pos) X.env v=(do
   let ov<-holding [v] (eval o X.env)
   let iv<-holding [v,ov] (eval i X.env)
   standAt pos
   holding [v,ov,iv] (setItem ov iv v)
   release [v,ov,iv] []):=by intro _;rfl):PG X (.Subscript o i pos) (km to ti t):=by
 intro zV s Z H v u Q I r h;rw[ha];show qa (zr (Am (ho zV s Z H _ I h) λov s1 zq=>?_));let#[x,H1,I1,r1,q1]:=zq;show qa (zr (Am (hi zV s1 Z H1 _ I1 q1) λiv s2 zq=>?_));let#[y,H2,I2,r2,q2]:=zq;show qa (wpAny_standAt (qa (zr (Am (hs zV s2 Z H2 x y v ov iv u _ I2 r1 r2 r q2) λ_ s3 zq=>?_))));let#[H3,I3,q3]:=zq;show wpAny_release #[Z,H3,I3,q3]
def gq(te:TE)(g:TG):TS:=λD Z H=>te Z H λx H1=>g x Z H1 D.nx
def JN(he:PE X e te)(Y:PG X tg g)(hs:swapsWithSole [tg] e pos.line X.env=pure false:=by rfl)(O:swappedStores [tg] e X.env=pure none:=by rfl)
  (h1:(assignEach [tg] X.env).map (·.2)=[assign tg X.env]:=by rfl):PS X (.Assign [tg] e pos) (gq te g):=by
 intro zV s Z H D I h;show wpAny_Assign_stores (Am (he zV s Z H _ I h) λv J B=>?_) hs O;let#[x,H1,I1,L,M]:=B;rw[h1];show Am (Y zV J Z H1 x v _ I1 L M) λ_ s2 q=>q
def gf(i j:Nat)(ta:TA):TS:=λD Z H=>ta Z H λvs H1=>∃v w,vs=[v,w]/\D.nx ((Z.set i (some v)).set j (some w)) H1
def NU(hc:X.calm=true)(hN:X.N.Nodup)(hi:X.N[i]?=some x)(hj:X.N[j]?=some y)(hij:i≠j)
  (hx:X.env.scope.names.lookup x=some .local)(hy:X.env.scope.names.lookup y=some .local)(ha:PA X [a,b] ta)
  (hw:swappedStores [.Tuple [.Name x px,.Name y py] kt pt] (.Tuple [a,b] k2 pt2) X.env=pure (some [x,y]))
  (hs:swapsWithSole [.Tuple [.Name x px,.Name y py] kt pt] (.Tuple [a,b] k2 pt2) pos.line X.env=pure false:=by rfl):
  PS X (.Assign [.Tuple [.Name x px,.Name y py] kt pt] (.Tuple [a,b] k2 pt2) pos) (gf i j ta):=by
 intro zV s Z H D I h;rw[exec_Assign_arm];show qa (wpAny_standAt ?_);rw[hs];show qa (qb ?_);rw[q8 ⋯];show qa (Tuple_ (Am (ha _ zV s Z H _ I h) λus s1 zq=>?_));let#[vs,H1,I1,r1,q1]:=zq;let#[v,w,e1,q1]:=q1;subst e1;obtain⟨u1,u2,rfl,rv,rw'⟩:∃u1 u2,us=[u1,u2]/\zK v u1/\zK w u2:=by
  cases r1 with
  |cons p q=>
   cases q with
   |cons p' q'=>cases q';show#[_,_,rfl,p,p']
 show zk ?_ (by show 2<=sizeLine;decide);let I2:Inv X zV Z H1 {s1 with heap:=s1.heap.push {cls:=.type "tuple",data:=.seq [u1,u2].toArray}}:=I1.kept (t':=s1.toks) λb o e=>qc _ e;rw[hw];show qa (qb ?_);show wpAny (model X.prog X.w) X.A (do rule "assign.swapped-stores";let items<-unpackItems (.ref s1.heap.objs.size) 2 none;assignInOrder [λv=>bindName X.env y v,λv=>bindName X.env x v] items.reverse;pure Flow.next) _ _ _;show qa (wpAny_rule (qa (unpackItems_tuple (items:=[u1,u2].toArray) (I.ok.hd hc) (IsTup.new s1.heap _) λh' hx'=>?_)));let I3:=I2.kept (h':=h') (t':=s1.toks) λb o e=>hx' b o (ne_of_lt (qe e)) e;show wpAny _ _ (assignInOrder [λv=>bindName X.env y v,λv=>bindName X.env x v] [u2,u1]>>=λ_=>pure Flow.next) _ _ _;show qa (assignInOrder_cons (wpAny_bindName (LR I3 hN hj (.inl hy) rw' (λs2 I4=>?_) (.inr hy))));show assignInOrder_cons (wpAny_bindName (LR I4 hN hi (.inl hx) rv (λs3 I5=>assignInOrder_nil (qb ?_)) (.inr hx)));rw[set_comm _ _ (Ne.symm hij)]at I5;show#[_,H1,I5,q1]
def tP(c:TT)(tb:TS):TS:=λD Z H=>∃W:Nat->St->Hp->Prop,(∃m,W m Z H)/\∀m Z H,W m Z H->
 c Z H λb H1=>if b=true then∃N:St->Hp->Prop,(∀Z' H',N Z' H'->∃B,B<m/\W B Z' H')/\tb {D with nx:=N,ct:=N,bk:=D.nx} Z H1 else D.nx Z H1
def Sl(hp:PassesOwn (model X.prog X.w) X.A X.env X.xe)(hc:PT X c tc)(hb:iY X body tb):PS X (.While c body [] pos) (tP tc tb):=by
 intro zV s Z H D I h;let#[W,#[m0,w0],L]:=h;show wpAny_While (codeAny_whileLoop (λn s'=>∃Z' H',Inv X zV Z' H' s'/\W n Z' H') ?_ m0 #[Z,H,I,w0]);rintro n s1 ⟨J,H1,I1,w1⟩;show wpAny_passesOwn hp (Am (hc zV s1 J H1 _ I1 (L n J H1 w1)) λb s2 zq=>?_);let#[H2,I2,Y]:=zq;cases b with
 |true=>
  let#[N,hN,Y]:=Y;rw[q5 rfl];show wpAny_passesOwn hp (Am (hb zV s2 J H2 _ I2 Y) λf s3 O=>?_);cases f with
  |next=>let#[B,M,I3,n3]:=O;let#[m',hm,w3]:=hN B M n3;show#[m',hm,B,M,I3,w3]
  |cont=>let#[B,M,I3,n3]:=O;let#[m',hm,w3]:=hN B M n3;show#[m',hm,B,M,I3,w3]
  |brk=>show O
  |ret v=>show O
 |false=>rw[q8 qX];show wpAny_execs_nil #[J,H2,I2,Y]
end
structure It where
 go:Nat->Hp->Prop
 yld:Nat->Hp->V->Hp->Prop
 stop:Nat->Hp->Prop
def cH(X:Cx)(zV:List (Addr×Obj))(H:Hp)(b:Addr):Prop:=
 H b=none/\b≠X.env.locals/\b∉X.fs/\(b∈X.ex\/X.s₀.heap.get? b=none)/\(∀x c,X.env.cells.lookup x=some c->c≠b)/\∀p∈X.pn++zV,p.1≠b
def Inv.fpOk(I:Inv X zV Z H s)(B:s.heap.objs.size<=b)(hn:H' b=none):cH X zV H' b:=by
 show#[hn,ne_of_gt (lt_of_lt_of_le I.lt B),I.nofs B,.inr (Heap.get?_none_of_le (le_trans I.sz B)),λx c e z=>?_,λp J z=>?_]
 .obtain⟨v,q⟩:=I.cell x c e;show absurd (lt_of_lt_of_le q.lt (by rw[z];show B)) (lt_irrefl _)
 .show absurd (lt_of_lt_of_le (qe (I.pin p J).1) (by rw[z];show B)) (lt_irrefl _)
structure iE(P:Program)(w:World)(K:W.Frag)(tg:Expr)(J:It)(fp:List Addr)(it:Addr)(tn:Nat->Heap->Prop):Prop where
 mem:it∈fp
 obj:∀i h,tn i h->∀b∈fp,∃o,h.get? b=some o/\∀v,o.data≠.cell v
 keep:∀i h h',tn i h->(∀b∈fp,∀o,h.get? b=some o->h'.get? b=some o)->tn i h'
 item:∀(X:Cx),X.prog=P->X.w=w->X.K=K->X.calm=true->∀(i:Nat)(zV:List (Addr×Obj))(s:Shared)(Z:St)(H:Hp)(E:zv),Inv X zV Z H s->(∀b∈fp,cH X zV H b)->tn i s.heap->J.go i H->
  wpAny (model P w) X.A (pyNext (.ref it)) (λr s1=>∃u,r=some u/\
   wpAny (model P w) X.A (letOwnedTupleGo tg (.ref it) u) (λ_ s2=>∃x H',Inv X zV Z H' s2/\zK x u/\J.yld i H x H'/\tn (i+1) s2.heap/\∀b∈fp,H' b=none) E s1) E s
 done:∀(X:Cx),X.prog=P->X.w=w->X.K=K->X.calm=true->∀(i:Nat)(zV:List (Addr×Obj))(s:Shared)(Z:St)(H:Hp)(E:zv),Inv X zV Z H s->(∀b∈fp,cH X zV H b)->tn i s.heap->J.stop i H->
  wpAny (model P w) X.A (pyNext (.ref it)) (λr s1=>r=none/\Inv X zV Z H s1) E s
 self:∀(A:Around)(i:Nat)(s:Shared)(Q:zv)(E:zv),tn i s.heap->Q (.ref it) s->wpAny (model P w) A (pyIter (.ref it)) Q E s
abbrev TI:=St->Hp->(It->Hp->Prop)->Prop
inductive bu(X:Cx)(zV:List (Addr×Obj))(Z:St)(tg:Expr)(R:It->Hp->Prop)(itv:Value)(s2:Shared):Prop
 |mk (it:Addr) (fp:List Addr) (tn:Nat->Heap->Prop) (J:It) (H':Hp):itv=.ref it->Inv X zV Z H' s2->iE X.prog X.w X.K tg J fp it tn->tn 0 s2.heap->(∀b∈fp,cH X zV H' b)->R J H'->bu X zV Z tg R itv s2
@[inline]def PI(X:Cx)(tg iter:Expr)(B:TI):Prop:=
 ∀(zV:List (Addr×Obj))(s:Shared)(Z:St)(H:Hp)(R:It->Hp->Prop),Inv X zV Z H s->B Z H R->
  wpAny (model X.prog X.w) X.A (eval iter X.env) (λv J=>wpAny (model X.prog X.w) X.A (pyIter v) (bu X zV Z tg R) X.xe J) X.xe s
def GE(J:s.heap.get? it=some o)(O:o.cls=.type n)(L:o.data=.fields vs)
  (hn:["enumerate","zip","dict_itemiterator","dict_reverseitemiterator","odict_iterator","itertools.zip_longest","itertools.pairwise"].contains n=false)(B:Q () s):wpAny M A (letOwnedTupleGo tg (.ref it) u) Q E s:=by
 unfold letOwnedTupleGo;cases tg<;>first
  |show qb B
  |(cases u<;>first
   |show qb B
   |(show qa (wpAny_load J ?_);rw[O,L];show wpAny M A (if(["enumerate","zip","dict_itemiterator","dict_reverseitemiterator","odict_iterator","itertools.zip_longest","itertools.pairwise"].contains n&&vs[0]?==some (rawInt _))=true then _ else _) Q E s;rw[q8 (by intro h;rw[hn,Bool.false_and]at h;cases h)];show qb B))
def xW(K:W.Frag)(a:Addr):It:=
 #[λi H=>∃xs x,bN K H a xs/\xs[i]?=some x,λi H x H'=>H'=H/\∀xs,bN K H a xs->xs[i]?=some x,λi H=>∃xs,bN K H a xs/\xs.length<=i]
def lj(K:W.Frag)(a:Addr):It:=
 #[λi H=>∃xs x,bM K H a xs/\xs[i]?=some x,λi H x H'=>H'=H/\∀xs,bM K H a xs->xs[i]?=some x,λi H=>∃xs,bM K H a xs/\xs.length<=i]
def cg(lo:Int)(n:Nat):It:=#[λi _=>i<n,λi H x H'=>H'=H/\x=.int (lo+i),λi _=>n<=i]
def Ud{P:Program}{w:World}{K:W.Frag}{tg:Expr}(a it:Addr):iE P w K tg (xW K a) [it] it (λi h=>h.IsListIter it a i) where
 mem:=by simp
 obj:=λi h st b hb=>by
  let e:b=it:=↑hb
  subst e;let#[o,e,c,d]:=st;show#[o,e,λv z=>by rw[d]at z;cases z]
 keep:=λi h h' st k=>st.at λo e=>k it (by simp) o e
 item:=by intro X hP hw hK hc i zV s Z H E I hf st hg;subst hP hw hK;let#[xs,x,hq,hx]:=hg;let#[zZ,rv,p,hz]:=I.list hq;let#[u,hu,ru]:=rv.get hx;let#[f0,f1,f2,f3,f4,f5]:=hf it (by simp);show wpAny_pyNext_list_item st p.isList (x:=u) ↑hu λh' st' sb=>?_;let I1:Inv X zV Z H {s with heap:=h'}:=I.turned (t':=s.toks) (λb o hb e=>(sb.2 b hb).trans e) f0 f1 f3 f4 f5;let#[o,e,c,d]:=id st';show#[u,rfl,GE (s:={s with heap:=h'}) e c d ⋯ #[x,H,I1,ru,#[rfl,λys hy=>by rw[I.list_inj hy hq];show hx],st',λb hb=>(hf b hb).1]]
 done:=by intro X hP hw hK hc i zV s Z H E I hf st hg;subst hP hw hK;let#[xs,hq,hx]:=hg;let#[zZ,rv,p,hz]:=I.list hq;let#[f0,f1,f2,f3,f4,f5]:=hf it (by simp);let hl:=rv.length;show wpAny_pyNext_list_end (I.ok.hd hc) st p.isList (by simp;lia -verbose) λh' eb=>#[rfl,I.turned (t':=s.toks) (λb o hb e=>eb b o hb e) f0 f1 f3 f4 f5]
 self:=λ_ _ _ _ _ st h=>wpAny_pyIter_listiter st h
def TV{P:Program}{w:World}{K:W.Frag}{tg:Expr}(a it:Addr):iE P w K tg (lj K a) [it] it (λi h=>h.IsTupleIter it a i) where
 mem:=by simp
 obj:=λi h st b hb=>by
  let e:b=it:=↑hb
  subst e;let#[o,e,c,d]:=st;show#[o,e,λv z=>by rw[d]at z;cases z]
 keep:=λi h h' st k=>st.at λo e=>k it (by simp) o e
 item:=by intro X hP hw hK hc i zV s Z H E I hf st hg;subst hP hw hK;let#[xs,x,hq,hx]:=hg;let#[zZ,rv,p,hz]:=I.tuple hq;let#[u,hu,ru]:=rv.get hx;let#[f0,f1,f2,f3,f4,f5]:=hf it (by simp);show wpAny_pyNext_tuple_item st (show s.heap.IsTuple a zZ.toArray from p) (x:=u) ↑hu λh' st' sb=>?_;let I1:Inv X zV Z H {s with heap:=h'}:=I.turned (t':=s.toks) (λb o hb e=>(sb.2 b hb).trans e) f0 f1 f3 f4 f5;let#[o,e,c,d]:=id st';show#[u,rfl,GE (s:={s with heap:=h'}) e c d ⋯ #[x,H,I1,ru,#[rfl,λys hy=>by rw[I.tuple_inj hy hq];show hx],st',λb hb=>(hf b hb).1]]
 done:=by intro X hP hw hK hc i zV s Z H E I hf st hg;subst hP hw hK;let#[xs,hq,hx]:=hg;let#[zZ,rv,p,hz]:=I.tuple hq;let#[f0,f1,f2,f3,f4,f5]:=hf it (by simp);let hl:=rv.length;show wpAny_pyNext_tuple_end (I.ok.hd hc) st (show s.heap.IsTuple a zZ.toArray from p) (by simp;lia -verbose) λh' eb=>#[rfl,I.turned (t':=s.toks) (λb o hb e=>eb b o hb e) f0 f1 f3 f4 f5]
 self:=λ_ _ _ _ _ st h=>wpAny_pyIter_tupleiter st h
def TR{P:Program}{w:World}{K:W.Frag}{tg:Expr}(it:Addr)(lo:Int)(n:Nat):iE P w K tg (cg lo n) [it] it (λi h=>IsRangeIter h it (lo+(i:Nat)*1) ((n:Int)-(i:Nat)) 1) where
 mem:=by simp
 obj:=λi h st b hb=>by
  let e:b=it:=↑hb
  subst e;show#[_,st,λv z=>by let z':Data.fields _=Data.cell v:=z;cases z']
 keep:=λi h h' st k=>k it (by simp) _ st
 item:=by intro X hP hw hK hc i zV s Z H E I hf st hg;subst hP hw hK;let#[f0,f1,f2,f3,f4,f5]:=hf it (by simp);let W:=Walks.range (prog:=X.prog) (w:=X.w) (I.ok.hd hc) it lo 1 n;show W.item i s _ _ hg st λv h' tk hv st' kk=>?_;let#[t,rfl]:=hv;let I1:Inv X zV Z H {s with heap:=h',toks:=tk}:=I.turned (λb o hb e=>kk b o ↑hb e) f0 f1 f3 f4 f5;show#[_,rfl,GE (s:={s with heap:=h',toks:=tk}) (n:="range_iterator") st' rfl rfl ⋯ #[.int (lo+i),H,I1,#[t,?_],#[rfl,rfl],st',λb hb=>(hf b hb).1]];rw[mul_one]
 done:=by intro X hP hw hK hc i zV s Z H E I hf st hg;subst hP hw hK;let#[f0,f1,f2,f3,f4,f5]:=hf it (by simp);show wpAny_pyNext_range_end (I.ok.hd hc) st (by let:n<=i:=hg;lia) λh' eb=>#[rfl,I.turned (t':=s.toks) (λb o hb e=>eb b o hb e) f0 f1 f3 f4 f5]
 self:=λ_ _ _ _ _ st h=>wpAny_pyIter_rangeiter st h
section
variable{X:Cx}{tg:Expr}
def LO{lo hi:Int}(I:Inv X zV Z H s)(h1:-(2^62)<=lo)(h2:lo<2^62)(M:-(2^62)<=hi)(L:hi<2^62)
  (q:R (cg lo (hi-lo).toNat) H):wpAny (model X.prog X.w) X.A (pyIter (.ref s.heap.objs.size)) (bu X zV Z tg R) E {s with heap:=s.heap.push {cls:=.type "range",data:=.fields [.int lo t,.int hi u,.int 1 v].toArray},toks:=tk}:=by
 refine wpAny_pyIter_range (IsRange.new ..) (small_one h1 h2 M L) ?_;let B:Inv X zV Z H {s with heap:=s.heap.push {cls:=.type "range",data:=.fields [.int lo t,.int hi u,.int 1 v].toArray},toks:=tk}:=I.kept λb o e=>qc _ e;refine⟨(s.heap.push {cls:=.type "range",data:=.fields [.int lo t,.int hi u,.int 1 v].toArray}).objs.size,[(s.heap.push {cls:=.type "range",data:=.fields [.int lo t,.int hi u,.int 1 v].toArray}).objs.size],_,_,H,rfl,
  B.kept (t':=tk) λb o e=>qc _ e,TR _ lo (hi-lo).toNat,?_,λb J=>?_,q⟩
 .let Y:lo+((0:Nat):Int)*1=lo:=by simp
  let O:(((hi-lo).toNat:Nat):Int)-((0:Nat):Int)=Builtin.Range.rangeSize lo hi 1:=by rw[rangeSize_one];split<;>lia
  show IsRangeIter _ _ (lo+((0:Nat):Int)*1) ((((hi-lo).toNat:Nat):Int)-((0:Nat):Int)) 1;rw[Y,O];show qd _ rfl
 .let e:b=(s.heap.push {cls:=.type "range",data:=.fields [.int lo t,.int hi u,.int 1 v].toArray}).objs.size:=by simpa using J
  subst e;show B.fpOk (q9 _) (B.hok.fresh (q9 _))
def au(ta:TA):TI:=λZ H R=>ta Z H λvs H1=>∃j:Int,vs=[.int j]/\-(2^62)<=j/\j<2^62/\R (cg 0 j.toNat) H1
def ar(ta:TA):TI:=λZ H R=>ta Z H λvs H1=>∃i j:Int,vs=[.int i,.int j]/\(-(2^62)<=i/\i<2^62/\-(2^62)<=j/\j<2^62)/\R (cg i (j-i).toNat) H1
def Tj(hg:Gl X "range")(Y:X.mg "range"=none)(ha:PA X [a] ta)(hs:starEach [a] X.env=[(false,eval a X.env)]:=by rfl):PI X tg (.Call (.Name "range" p) [a] [] pos) (au ta):=by
 intro zV s Z H R I h;show Call_ (DJ I hg Y boot_range (PyProof.Rows.callWith_type1 (Am (ha pos zV s Z H _ I h) λus s1 J=>?_) hs rfl));let#[vs,H1,I1,M,B]:=J;let#[j,e,B,O,q]:=B;subst e;cases M with
 |cons r L=>cases L;let#[t,rfl]:=r;show call_range_1 (LO I1 ∅ ∅ B O ↑q)
def Ts(hg:Gl X "range")(hm:X.mg "range"=none)(ha:PA X [a,b] ta)(hs:starEach [a,b] X.env=[(false,eval a X.env),(false,eval b X.env)]:=by rfl)(B:starEach [b] X.env=[(false,eval b X.env)]:=by rfl):
  PI X tg (.Call (.Name "range" p) [a,b] [] pos) (ar ta):=by
 intro zV s Z H R I h;show Call_ (DJ I hg hm boot_range (PyProof.Rows.callWith_type1 (Am (ha pos zV s Z H _ I h) λus s1 M=>?_) (by rw[hs,B]) (by rw[B];rfl)));let#[vs,H1,I1,O,L]:=M;let#[i,j,e,#[L,q2,q3,q4],q]:=L;subst e;cases O with
 |cons r J=>
  cases J with
  |cons Y J=>cases J;let#[t,rfl]:=r;let#[t',rfl]:=Y;show call_range_2 (LO I1 L q2 q3 q4 q)
def gn(M:TI)(g:TG)(tb:TS):TS:=λD Z H=>M Z H λJ H1=>∃W:Nat->Nat->St->Hp->Prop,(∃m,W 0 m Z H1)/\∀i m Z H,W i m Z H->
 (J.stop i H/\D.nx Z H)\/(J.go i H/\∃N:St->Hp->Prop,(∀Z' H',N Z' H'->∃L,L<m/\W (i+1) L Z' H')/\∀x H',J.yld i H x H'->g x Z H' λB H2=>tb {D with nx:=N,ct:=N,bk:=D.nx} B H2)
def fS(fp:List Addr)(h:Heap):List (Addr×Obj):=fp.filterMap λb=>(h.get? b).map λo=>(b,o)
def Hm(B:b∈fp)(e:h.get? b=some o):(b,o)∈fS fp h:=mem_filterMap.mpr #[b,B,by rw[e];rfl]
def RT(B:p∈fS fp h):p.1∈fp/\h.get? p.1=some p.2:=by
 let#[b,J,e]:=mem_filterMap.mp B;cases q:h.get? b with
 |none=>rw[q]at e;cases e
 |some o=>grind
def Inv.pinned(I:Inv X zV Z H s)(O:∀b∈fp,cH X zV H b)(M:∀b∈fp,∃o,s.heap.get? b=some o/\∀v,o.data≠.cell v):Inv X (zV++fS fp s.heap) Z H s:=
 I.pins_of λp L=>(qx.mp L).elim (λz=>I.pin p (qi _ z)) λz=>by let#[B,e]:=RT z;let#[f0,f1,Y,_]:=O p.1 B;let#[o,J,d]:=M p.1 B;rw[e]at J;cases J;show#[e,f0,f1,Y,d]
def Inv.unpinned(I:Inv X (zV++J) Z H s):Inv X zV Z H s:=I.pins_of λp B=>I.pin p (qi _ (qj _ B))
def PB(hp:PassesOwn (model X.prog X.w) X.A X.env X.xe)(hc:X.calm=true)(hi:PI X tg iter wi)(hg:PG X tg g)(O:iY X body tb)
  (hs:∀x,foldedSetIterable iter X.env x=pure x:=by intro _;rfl):PS X (.For tg iter body [] pos) (gn wi g tb):=by
 intro zV s Z H D I h;show wpAny_For (Am (hi zV s Z H _ I h) λv s1 h1=>Am h1 λe4 s2 h2=>?_) hs;let#[it,fp,tn,J,H2,e,I2,T,e1,f2,W,#[m0,w0],h5]:=h2;subst e
 --what stays true of the iterator's objects through the loop
 let M:∀{H':Hp},(∀b∈fp,H' b=none)->∀b∈fp,cH X zV H' b:=λhn b O=>#[hn b O,(f2 b O).2]
 show codeAny_forLoop_any (λn s'=>∃i Z' H',Inv X zV Z' H' s'/\tn i s'.heap/\(∀b∈fp,H' b=none)/\W i n Z' H') ?_ m0 #[0,Z,H2,I2,e1,λb O=>(f2 b O).1,w0];rintro n s3 ⟨i,L,H3,I3,h7,h8,w3⟩;rcases h5 i n L H3 w3 with⟨h6,qn⟩|⟨go,N,hN,step⟩
 .show wpAny_passesOwn hp (Am (T.done X rfl rfl rfl hc i zV s3 L H3 X.xe I3 (M h8) h7 h6) λr s4⟨hr,I4⟩=>?_);subst hr;show wpAny_execs_nil #[L,H3,I4,qn]
 .show wpAny_passesOwn hp (Am (T.item X rfl rfl rfl hc i zV s3 L H3 X.xe I3 (M h8) h7 go) λr s4 zq=>?_);let#[u,hr,h4]:=zq;subst hr;show wpAny_passesOwn hp (Am h4 λ_ s5 zq=>?_);let#[x,H5,I5,r5,y5,h3,e2]:=zq;let e3:=I5.pinned (M e2) (T.obj _ _ h3);show wpAny_passesOwn hp (Am (hg _ s5 L H5 x u _ e3 r5 (step x H5 y5)) λ_ s6 zq=>?_);let#[h9,H6,I6,q6]:=zq;show wpAny_passesOwn hp (Am (O _ s6 h9 H6 _ I6 q6) λf s7 q7=>?_);let again:∀{B:St}{H7:Hp},Inv X (zV++fS fp s5.heap) B H7 s7->N B H7->∃m,m<n/\∃i Z' H',Inv X zV Z' H' s7/\tn i s7.heap/\(∀b∈fp,H' b=none)/\W i m Z' H':=λ{B H7} Y n7=>by let#[m',hm,w7]:=hN B H7 n7;show#[m',hm,i+1,B,H7,Y.unpinned,T.keep _ _ _ h3 λb O o e=>(Y.pin (b,o) (qi _ (qi _ (Hm O e)))).1,λb O=>?_,w7];let#[o,e,d]:=T.obj _ _ h3 b O;exact(Y.pin (b,o) (qi _ (qi _ (Hm O e)))).2.1
  cases f with
  |next=>let#[B,H7,Y,n7]:=q7;show again Y n7
  |cont=>let#[B,H7,Y,n7]:=q7;show again Y n7
  |brk=>let#[B,H7,Y,q7]:=q7;show#[B,H7,Y.unpinned,q7]
  |ret v=>let#[x7,B,H7,Y,r7,q7]:=q7;show#[x7,B,H7,Y.unpinned,r7,q7]
end
abbrev R2:=V->V->Hp->VK->Prop
@[inline]def OpR(X:Cx)(f:Value->Value->Sem Value)(r:R2):Prop:=
 ∀(zV:List (Addr×Obj))(s:Shared)(Z:St)(H:Hp)(x y:V)(v u:Value)(Q:VK),Inv X zV Z H s->zK x v->zK y u->r x y H Q->
  wpAny (model X.prog X.w) X.A (f v u) (EP X zV Z Q) X.xe s
def kz(X:Cx)(f:Value->Sem Value)(r:V->Hp->VK->Prop):Prop:=
 ∀(zV:List (Addr×Obj))(s:Shared)(Z:St)(H:Hp)(x:V)(v:Value)(Q:VK),Inv X zV Z H s->zK x v->r x H Q->
  wpAny (model X.prog X.w) X.A (f v) (EP X zV Z Q) X.xe s
def aZ(X:Cx)(f:Value)(r:List V->Hp->VK->Prop):Prop:=
 ∀(zV:List (Addr×Obj))(s:Shared)(Z:St)(H:Hp)(xs:List V)(us:List Value)(Q:VK),Inv X zV Z H s->zS xs us->r xs H Q->
  wpAny (model X.prog X.w) X.A (call f us) (EP X zV Z Q) X.xe s
def lb(X:Cx)(r:V->Hp->(Bool->Hp->Prop)->Prop):Prop:=
 ∀(zV:List (Addr×Obj))(s:Shared)(Z:St)(H:Hp)(x:V)(v:Value)(Q:Bool->Hp->Prop),Inv X zV Z H s->zK x v->r x H Q->
  wpAny (model X.prog X.w) X.A (truthy v) (TP X zV Z Q) X.xe s
def dk(r:R2)(ta tb:TE):TE:=λZ H Q=>ta Z H λx H1=>tb Z H1 λy H2=>r x y H2 Q
def nu(r:V->Hp->VK->Prop)(ta:TE):TE:=λZ H Q=>ta Z H λx H1=>r x H1 Q
def rI(C:Int->Int->Prop)(g:Int->Int->V):R2:=λx y H Q=>∃i j,x=.int i/\y=.int j/\C i j/\Q (g i j) H
def rY(g:Int->Int->V):R2:=λx y H Q=>∃i j,x=.int i/\y=.int j/\Q (g i j) H
def rU(g:Int->V):V->Hp->VK->Prop:=λx H Q=>∃i,x=.int i/\Q (g i) H
section
variable{X:Cx}{a b c:Expr}{ta tb tc:TE}{pos:Pos}
def EN(ha:PE X a ta)(hb:PE X b tb){R:V->V->Hp->Prop}(I:Inv X zV Z H s)
  (h:ta Z H λx H1=>tb Z H1 λy H2=>R x y H2){f:Value->Value->Sem Value}
  (hf:∀v u L x y H2,Inv X zV Z H2 L->zK x v->zK y u->R x y H2->wpAny (model X.prog X.w) X.A (f v u) Q X.xe L):
  wpAny (model X.prog X.w) X.A (eval a X.env) (λv J=>wpAny (model X.prog X.w) X.A (eval b X.env) (λu B=>wpAny (model X.prog X.w) X.A (f v u) Q X.xe B) X.xe J) X.xe s:=by
 show Am (ha zV s Z H _ I h) λv O M=>?_;let#[x,H1,I1,r1,q1]:=M;show Am (hb zV O Z H1 _ I1 q1) λu L M=>?_;let#[y,H2,I2,Y,q2]:=M;show hf v u L x y H2 I2 r1 Y q2
def NR(O:OpR X (binaryOp M) r)(ha:PE X a ta)(Y:PE X b tb):PE X (.BinOp a M b pos) (dk r ta tb):=by intro zV s Z H Q I h;show wpAny_BinOp (EN ha Y I h λv u B x y H2 I2 L J q=>O zV B Z H2 x y v u Q I2 L J q)
def NN(O:kz X (unaryOp M) r)(Y:PE X a ta):PE X (.UnaryOp M a pos) (nu r ta):=by intro zV s Z H Q I h;show UnaryOp_ (Am (Y zV s Z H _ I h) λv B⟨x,H1,I1,J,L⟩=>O zV B Z H1 x v Q I1 J L)
def Gf{g:Int->Int->Int}
  (rule:∀(i j:Int)(t u:Tok)(s:Shared)(Q:zv)(E:zv),C i j->Q (.int (g i j) s.toks) {s with toks:=s.toks+1}->wpAny (model X.prog X.w) X.A (f (.int i t) (.int j u)) Q E s):
  OpR X f (rI C λi j=>.int (g i j)):=by
 intro zV s Z H x y v u Q I L J h;let#[i,j,rfl,rfl,M,q]:=h;let#[t,rfl]:=L;let#[B,rfl]:=J;show rule i j t B s _ _ M #[.int (g i j),H,I.tok _,#[_,rfl],q]
def Js{g:Int->Int->Int}
  (rule:∀(i j:Int)(t u:Tok)(s:Shared)(Q:zv)(E:zv),Q (.int (g i j) s.toks) {s with toks:=s.toks+1}->wpAny (model X.prog X.w) X.A (f (.int i t) (.int j u)) Q E s):
  OpR X f (rY λi j=>.int (g i j)):=by
 intro zV s Z H x y v u Q I L J h;let#[i,j,rfl,rfl,q]:=h;let#[t,rfl]:=L;let#[B,rfl]:=J;show rule i j t B s _ _ #[.int (g i j),H,I.tok _,#[_,rfl],q]
def DO{g:Int->Int->Bool}
  (rule:∀(i j:Int)(t u:Tok)(s:Shared)(Q:zv)(E:zv),Q (.bool (g i j)) s->wpAny (model X.prog X.w) X.A (f (.int i t) (.int j u)) Q E s):
  OpR X f (rY λi j=>.bl (g i j)):=by
 intro zV s Z H x y v u Q I L J h;let#[i,j,rfl,rfl,q]:=h;let#[t,rfl]:=L;let#[B,rfl]:=J;show rule i j t B s _ _ #[.bl (g i j),H,I,rfl,q]
def cz(i j:Int):Prop:=0<=j/\j<=1000000/\i.natAbs<2^64
def nY(i j:Int):Prop:=(-(2^64)<i/\i<2^64)\/(-(2^64)<j/\j<2^64)
def nY.ok(h:nY i j):IntMulOk i j:=by
 rcases h with⟨h1,h2⟩|⟨h1,h2⟩
 .show .of_left (intBits_le_64 h1 h2)
 .show .of_right (intBits_le_64 h1 h2)
def Ol:OpR X (binaryOp .Add) (rY λi j=>.int (i+j)):=Js λ_ _ _ _ _ _ _ q=>add_int q
def NM:OpR X (binaryOp .Mult) (rI nY λi j=>.int (i*j)):=Gf λ_ _ _ _ _ _ _ B q=>mul_int q B.ok
def Og:OpR X (binaryOp .Mod) (rI (λ_ j=>0<j) λi j=>.int (i %j)):=Gf λi j _ _ _ _ _ B q=>by let h1:(0:Int)<j:=B;show mod_int' ∅ (by rw[Int.fmod_eq_emod_of_nonneg i ∅];show q)
def Ow:OpR X (binaryOp .Pow) (rI cz λi j=>.int (i^j.toNat)):=Gf λ_ _ _ _ _ _ _ B q=>pow_int_small B.1 B.2.1 B.2.2 q
theorem dh{g:Int->Int}
  (rule:∀(i:Int)(t:Tok)(s:Shared)(Q:zv)(E:zv),Q (.int (g i) s.toks) {s with toks:=s.toks+1}->wpAny (model X.prog X.w) X.A (f (.int i t)) Q E s):
  kz X f (rU λi=>.int (g i)):=by
 intro zV s Z H x v Q I B h;let#[i,rfl,q]:=h;let#[t,rfl]:=B;show rule i t s _ _ #[.int (g i),H,I.tok _,#[_,rfl],q]
def NI:kz X (unaryOp .USub) (rU λi=>.int (-i)):=dh λ_ _ _ _ _ q=>neg_int q
end
def yK:V->V->Bool
 |.non,.non=>true|.non,.int _=>true|.int _,.non=>true|.non,.bl _=>true|.bl _,.non=>true|.non,.str _=>true|.str _,.non=>true
 |.int _,.int _=>true|.bl _,.bl _=>true|.str _,.str _=>true|.byt _,.byt _=>true
 |.int _,.str _=>true|.str _,.int _=>true|.bl _,.str _=>true|.str _,.bl _=>true
 |_,_=>false
def og:R2:=λx y H Q=>yK x y=true/\Q (.bl (!decide (x=y))) H
def Pl:decide (V.int i=V.int j)=(i==j):=by rw[Bool.eq_iff_iff];simp
def OI:decide (V.bl i=V.bl j)=(i==j):=by rw[Bool.eq_iff_iff];simp
def Qx:decide (V.str i=V.str j)=(i==j):=by rw[Bool.eq_iff_iff];simp
def OY:decide (V.byt i=V.byt j)=(i.toList==j.toList):=by rw[Bool.eq_iff_iff];cases i;cases j;simp
section
variable{X:Cx}{a b c:Expr}{ta tb tc:TE}{pos:Pos}
def Ca(I:Inv X zV Z H s)(q:Q (.bl k) H)(e:k=B):EP X zV Z Q (.bool B) s:=by subst e;show#[.bl k,H,I,rfl,q]
def NB:OpR X (compareOp .NotEq) og:=by
 intro zV s Z H x y v u Q I M B h;let#[L,q]:=h;cases x with
 |non=>
  cases M;cases y with
  |non=>cases B;show PySem.EqNone.ne_none_none (Ca I q (by simp))
  |bl j=>cases B;show PySem.EqNone.ne_none_bool (Ca I q (by simp))
  |int j=>let#[J,rfl]:=B;show PySem.EqNone.ne_none_int (Ca I q (by simp))
  |str j=>let#[J,rfl]:=B;show PySem.EqNone.ne_none_str (Ca I q (by simp))
  |_=>show absurd (show false=true from L) qX
 |bl i=>
  cases M;cases y with
  |non=>cases B;show PySem.EqNone.ne_bool_none (Ca I q (by simp))
  |bl j=>cases B;show ne_bool (Ca I q (congrArg not OI))
  |str j=>let#[J,rfl]:=B;show PySem.EqMixed.ne_bool_str (Ca I q (by simp))
  |_=>show absurd (show false=true from L) qX
 |int i=>
  let#[t,rfl]:=M;cases y with
  |non=>cases B;show PySem.EqNone.ne_int_none (Ca I q (by simp))
  |int j=>let#[J,rfl]:=B;show ne_int (Ca I q (congrArg not Pl))
  |str j=>let#[J,rfl]:=B;show PySem.EqMixed.ne_int_str (Ca I q (by simp))
  |_=>show absurd (show false=true from L) qX
 |str i=>
  let#[t,rfl]:=M;cases y with
  |non=>cases B;show PySem.EqNone.ne_str_none (Ca I q (by simp))
  |bl j=>cases B;show PySem.EqMixed.ne_str_bool (Ca I q (by simp))
  |int j=>let#[J,rfl]:=B;show PySem.EqMixed.ne_str_int (Ca I q (by simp))
  |str j=>let#[J,rfl]:=B;show ne_str (Ca I q (congrArg not Qx))
  |_=>show absurd (show false=true from L) qX
 |byt i=>
  let#[t,rfl]:=M;cases y with
  |byt j=>let#[J,rfl]:=B;show W.ne_bytes (Ca I q (congrArg not OY))
  |_=>show absurd (show false=true from L) qX
 |_=>cases y<;>show absurd (show false=true from L) qX
def NO:OpR X (compareOp .Lt) (rY λi j=>.bl (decide (i<j))):=DO λ_ _ _ _ _ _ _ q=>lt_int q
def Nw:OpR X (compareOp .LtE) (rY λi j=>.bl (decide (i<=j))):=DO λ_ _ _ _ _ _ _ q=>le_int q
def Nq:OpR X (compareOp .Gt) (rY λi j=>.bl (decide (j<i))):=DO λ_ _ _ _ _ _ _ q=>gt_int q
def Nt:OpR X (compareOp .GtE) (rY λi j=>.bl (decide (j<=i))):=DO λ_ _ _ _ _ _ _ q=>ge_int q
def Qt:OpR X (compareOp .IsNot) (λx y H Q=>y=.non/\Q (.bl (!decide (x=.non))) H):=by
 intro zV s Z H x y v u Q I B J h;let#[rfl,q]:=h;cases J;show isnot_none_gen (Ca I q ?_);cases x<;>first
  |(cases B;rfl)
  |(let#[t,rfl]:=B;rfl)
def Ac(b:Expr)(h:B≠.In:=by decide)(h2:B≠.NotIn:=by decide):behindInMarks B b=false:=Ds b h h2
def Px(O:OpR X (compareOp B) r)(ha:PE X a ta)(hb:PE X b tb)(Y:behindInMarks B b=false):PE X (.Compare a [B] [b] pos) (dk r ta tb):=by intro zV s Z H Q I h;show wpAny_Compare1 (EN ha hb I h λv u J x y H2 I2 M L q=>O zV J Z H2 x y v u Q I2 M L q) Y
def yD(t:TE):TT:=λZ H Q=>t Z H λx H'=>∃k,x=.bl k/\Q k H'
def Qo(ho:OpR X (compareOp B) r)(ha:PE X a ta)(hb:PE X b tb)(hm:behindInMarks B b=false):PT X (.Compare a [B] [b] pos) (yD (dk r ta tb)):=by
 intro zV s Z H Q I h;show wpAny_isTrue_Compare1 (Am (ha zV s Z H _ I h) λv L⟨x,H1,I1,Y,q1⟩=>Am (hb zV L Z H1 _ I1 q1) λu J⟨y,H2,I2,O,q2⟩=>Am (ho zV J Z H2 x y v u _ I2 Y O q2) λc s3⟨z,H3,I3,M,k,e,q3⟩=>?_) hm
 subst e;cases M;show wpAny_truthy_bool #[H3,I3,q3]
def xG(K:W.Frag)(x:V)(H:Hp)(k:Bool):Prop:=
 match x with
 |.non=>k=false
 |.bl b=>k=b
 |.int i=>k=(i !=0)
 |.str y=>y.length<=sizeLine/\k=((y.length:Int) !=0)
 |.byt y=>y.size<=sizeLine/\k=((y.size:Int) !=0)
 |.ref p=>(∃xs,bN K H p xs/\k=!xs.isEmpty)\/(∃xs,bM K H p xs/\k=!xs.isEmpty)\/∃zW,H p=some (.dK zW)/\k=!zW.isEmpty
 |_=>False
def TH(r:KV zW vs):(!vs.isEmpty)=!zW.isEmpty:=by cases r<;>rfl
def Mx(r:zS xs B):(!B.toArray.isEmpty)=!xs.isEmpty:=by cases r<;>simp
def AR:(sizeLine:Nat)<2^63:=by rw[zo];decide
def OR:lb X (λx H Q=>∃k,xG X.K x H k/\Q k H):=by
 intro zV s Z H x v Q I L h;let#[k,e,q]:=h;let hl:=AR;let hs:sizeLine=16777216:=zo;cases x with
 |non=>cases L;let B:k=false:=e;subst B;show truthy_none #[H,I,q]
 |bl b=>cases L;let B:k=b:=e;subst B;show wpAny_truthy_bool #[H,I,q]
 |int i=>let#[t,rfl]:=L;let B:k=(i !=0):=e;subst B;show PySem.P.truthy_int #[H,I,q]
 |str y=>let#[t,rfl]:=L;obtain⟨hy,B⟩:y.length<=sizeLine/\k=((y.length:Int) !=0):=e;subst B;show PySem.P.truthy_str ∅ #[H,I.tok _,q]
 |byt y=>let#[t,rfl]:=L;obtain⟨hy,B⟩:y.size<=sizeLine/\k=((y.size:Int) !=0):=e;subst B;show W.truthy_bytes ∅ #[H,I.tok _,q]
 |ref p=>
  cases L;let B:(∃xs,bN X.K H p xs/\k=!xs.isEmpty)\/(∃xs,bM X.K H p xs/\k=!xs.isEmpty)\/∃zW,H p=some (.dK zW)/\k=!zW.isEmpty:=e;rcases B with⟨xs,M,B⟩|⟨xs,M,B⟩|⟨zW,M,B⟩
  .subst B;let#[Y,r,O,hz]:=I.list M;let J:=r.length;show wpAny_truthy_list O.isList (by simp only[qr];lia) #[H,I.tok _,by rw[Mx r];show q]
  .subst B;let#[Y,r,O,hz]:=I.tuple M;let J:=r.length;show truthy_tuple O (by simp only[qr];lia) #[H,I.tok _,by rw[Mx r];show q]
  .subst B;obtain⟨hz,hS,vs,r,m⟩:zW.length<=sizeLine/\(p==sysModules)=false/\∃vs,KV zW vs/\s.heap.DictOf (aG X.prog X.w) p vs:=I.hok p _ M;let J:zW.length=vs.length:=Paired.length r;show wpAny_truthy_dict hS m ∅ #[H,I.tok _,by rw[TH r];show q]
 |_=>show(show False from e).elim
def Ru(ha:PE X a ta)(he:∀whole,isTrue a X.env whole=(do let v<-whole;standAt a.pos;holding [v] (truthy v))):
  PT X a (λZ H Q=>ta Z H λx H'=>∃k,xG X.K x H' k/\Q k H'):=by
 intro zV s Z H Q I h;show isTrue_plain (Am (ha zV s Z H _ I h) λv s1⟨x,H1,I1,r1,q1⟩=>OR zV s1 Z H1 x v Q I1 r1 q1) (he _)
def Uc:OpR X (binaryOp .Add) (λx y H Q=>∃i j,x=.str i/\y=.str j/\i.length+j.length<=sizeLine/\Q (.str (i++j)) H):=by intro zV s Z H x y v u Q I L J h;let#[i,j,rfl,rfl,M,q]:=h;let#[t,rfl]:=L;let#[B,rfl]:=J;show add_str (λB tk=>#[.str (i++j),H,I.tok _,#[_,rfl],q]) M
theorem vals1(r:zS [x] us):∃u,us=[u]/\zK x u:=by
 cases r with
 |cons J B=>cases B;show#[_,rfl,J]
theorem vals2(r:zS [x,y] us):∃u B,us=[u,B]/\zK x u/\zK y B:=by
 cases r with
 |cons O M=>
  cases M with
  |cons L J=>cases J;show#[_,_,rfl,O,L]
def SY(J:X.calm=true):aZ X (.builtin "max") (λxs H Q=>∃i j,xs=[.int i,.int j]/\Q (.int (if j>i then j else i)) H):=by
 intro zV s Z H xs M Q I r h;let#[i,j,rfl,q]:=h;let#[u,L,rfl,#[t,rfl],#[O,rfl]]:=vals2 r;show max_two_ints (I.ok.hd J) λh' tk k=>#[_,H,I.kept k,?_,q]
 by_cases B:j>i
 .rw[q5 B,q5 B];show#[_,rfl]
 .rw[q8 B,q8 B];show#[_,rfl]
def RQ(J:X.calm=true):aZ X (.builtin "min") (λxs H Q=>∃i j,xs=[.int i,.int j]/\Q (.int (if j<i then j else i)) H):=by
 intro zV s Z H xs M Q I r h;let#[i,j,rfl,q]:=h;let#[u,L,rfl,#[t,rfl],#[O,rfl]]:=vals2 r;show min_two_ints (I.ok.hd J) λh' tk k=>#[_,H,I.kept k,?_,q]
 by_cases B:j<i
 .rw[q5 B,q5 B];show#[_,rfl]
 .rw[q8 B,q8 B];show#[_,rfl]
def SM:aZ X (.type "int") (λxs H Q=>(∃i,xs=[.int i]/\Q (.int i) H)\/∃k,xs=[.bl k]/\Q (.int (if k then 1 else 0)) H):=by
 intro zV s Z H xs J Q I r h;rcases h with⟨i,rfl,q⟩|⟨k,rfl,q⟩
 .obtain⟨u,rfl,t,rfl⟩:=vals1 r;show call_int_int #[.int i,H,I,#[_,rfl],q]
 .obtain⟨u,rfl,B⟩:=vals1 r;cases B;show call_int_bool #[.int (if k then 1 else 0),H,I.tok _,#[_,rfl],q]
end
structure xJ(h:Heap)(x dx C:Addr)(mA:Str->Option Value):Prop where
 obj:h.get? x=some (W.instObj C dx)
 ns:h.Ns1 dx mA
 ne:dx≠x
def Tb{h:Heap}(n:h.Ns1 dx L):∃J,h.get? dx=some J/\∀name,W.lookIn name J=some (L name):=by
 let#[o,es,ep,O,hd,hk,_,Y]:=n;show#[o,O,λname=>?_];let e:=Y name;unfold nsFind findBy at e;rw[<-Array.find?_toList]at e;unfold W.lookIn;rw[hd];dsimp only;split
 .rename_i y q;rw[q]at e;show congrArg some e
 .rename_i q;rw[q]at e;let a:es.toList.any (·.refKey)=false:=by rw[List.any_eq_false];intro y M;let#[z,t,B]:=hk y (mem_toList_iff.mp M);simp[DictEntry.refKey,B]
  grind
def xJ.look(I:xJ h x dx C J):∃B,W.InstAt h x (W.instObj C dx) C (some B)/\∀name,W.lookIn name B=some (J name):=
 let⟨B,ho,hl⟩:=Tb I.ns
 #[B,#[I.obj,rfl,rfl,ho],hl]
def eK.some_of(r:eK (some v) o):∃u,o=some u/\zK v u:=by
 cases o with
 |none=>show(show False from r).elim
 |some u=>show#[u,rfl,r]
def eK.none_of(r:eK none o):o=none:=by
 cases o with
 |none=>rfl
 |some u=>show(show False from r).elim
section
variable{P:Program}{w:World}{H H':Hp}{h h':Heap}{a C dx:Addr}{fs fs':List (Str×V)}
def Qf(J:eC P w H h)(e:H a=some (.ins C dx fs)):∃B,xJ h a dx C B/\(∀f,eK (fs.lookup f) (B f))/\PySem.Within B (fs.map (·.1))/\fs.length<=1000/\H dx=some (.own a):=by
 let#[d,z,M,L,B,n,r,q]:=(show zU P w H h a (.ins C dx fs) from J a _ e)
 show#[B,#[L,n,M],r,q,z,d]
end
structure ll(K:W.Frag)(C:Addr):Prop where
 pg:W.plainGet K C Str.empty=true
 hd:W.hasDictIn K C=true
 po:W.plainOver K C=true
 sa:W.findIn K (.ref C) "__setattr__"=some (some (.builtin "object.__setattr__"))
def ll.get{K:W.Frag}(c:ll K C)(f:Str):W.plainGet K C f=true:=c.pg
section
variable{X:Cx}{zV:List (Addr×Obj)}{Z:St}{H:Hp}{s:Shared}{A:Around}{E:zv}{Q:zv}{c:Value}{b:Bool}
inductive fK(K:W.Frag)(H:Hp):V->Value->Prop where
 |non:fK K H .non (.type "NoneType")
 |bl (x:Bool):fK K H (.bl x) (.type "bool")
 |int (i:Int):fK K H (.int i) (.type "int")
 |str (x:Str):fK K H (.str x) (.type "str")
 |flt (x:UInt64):fK K H (.flt x) (.type "float")
 |lst {a:Addr} {xs:List V} (e:H a=some (.lst xs)):fK K H (.ref a) (.type "list")
 |frz {a:Addr} {o:Obj} {xs:List V} (e:H a=some (.frz o (.lst xs))):fK K H (.ref a) (.type "list")
 |tup {a:Addr} {xs:List V} (e:H a=some (.tup xs)):fK K H (.ref a) (.type "tuple")
 |dK {a:Addr} {zW:List (aX×V)} (e:H a=some (.dK zW)):fK K H (.ref a) (.type "dict")
 |dT {a:Addr} {zW:List (List aX×V)} (e:H a=some (.dT zW)):fK K H (.ref a) (.type "dict")
 |ins {a C dx:Addr} {fs:List (Str×V)} (e:H a=some (.ins C dx fs)) (cl:ll K C) (ha:W.findIn K (.ref C) "__class__"=some (some (.builtin "object.__class__")))
  (hn:W.specialIn K (.builtin "object.__class__") "__get__"=some (some (.builtin "getset_descriptor.__get__"))) (htk:W.takesIn K (.builtin "object.__class__")=some true)
  (hm:W.mroIn K C (.type "object")=some true):fK K H (.ref a) (.ref C)
def EH(I:Inv X zV Z H s)(B:zK x u)(ty:fK X.K H x t)(e:W.kitOne X.K t c=some b)(h:∀tk,Q (.bool b) {s with toks:=tk}):
  wpAny (model X.prog X.w) A (call (.builtin "isinstance") [u,c]) Q E s:=by
 cases ty with
 |non=>cases(show u=Value.none from B);show W.kia_one W.kitx_none I.kIn True.intro e (λz=>nomatch z) h
 |bl y=>cases(show u=Value.bool y from B);show W.kia_one W.kitx_bool I.kIn True.intro e (λz=>nomatch z) h
 |int i=>let#[t,q]:=(show∃t,u=Value.int i t from B);cases q;show W.kia_one W.kitx_int I.kIn True.intro e (λz=>nomatch z) h
 |str y=>let#[t,q]:=(show∃t,u=Value.str y t from B);cases q;show W.kia_one W.kitx_str I.kIn True.intro e (λz=>nomatch z) h
 |flt y=>let#[t,q]:=(show∃t,u=Value.float y t from B);cases q;show W.kia_one W.kitx_float I.kIn True.intro e (λz=>nomatch z) h
 |@lst a xs L=>
  cases(show u=Value.ref a from B);let#[_,_,n,_,h1]:=(show zU X.prog X.w H s.heap a (.lst xs) from I.hok a _ L)
  show W.kia_one W.kitx_list I.kIn #[_,h1,rfl] e (λz=>nomatch z) h
 |@frz a ob xs L=>
  cases(show u=Value.ref a from B);let#[_,_,_,n,_,h1]:=(show zU X.prog X.w H s.heap a (.frz ob (.lst xs)) from I.hok a _ L)
  show W.kia_one W.kitx_list I.kIn #[_,h1,rfl] e (λz=>nomatch z) h
 |@tup a xs L=>
  cases(show u=Value.ref a from B);let#[_,_,_,p]:=(show zU X.prog X.w H s.heap a (.tup xs) from I.hok a _ L)
  let#[o,h1,h2,_]:=p;show W.kia_one W.kitx_tuple I.kIn #[o,h1,h2] e (λz=>nomatch z) h
 |@dK a M L=>
  cases(show u=Value.ref a from B);let#[_,_,vs,_,p]:=(show zU X.prog X.w H s.heap a (.dK M) from I.hok a _ L)
  let#[o,es,ep,h1,h2,_]:=p;show W.kia_one W.kitx_dict I.kIn #[o,h1,h2.1] e (λz=>nomatch z) h
 |@dT a M L=>
  cases(show u=Value.ref a from B);let#[_,_,xs,_,o,es,ep,h1,h2,_]:=(show zU X.prog X.w H s.heap a (.dT M) from I.hok a _ L)
  show W.kia_one W.kitx_dict I.kIn #[o,h1,h2.1] e (λz=>nomatch z) h
 |@ins a C dx fs L cl ha hn Y hm=>cases(show u=Value.ref a from B);let#[mA,O,_]:=Qf I.hok L;let#[od,J,_]:=O.look;show W.kia_one (W.kitx_own (cl.get _) cl.hd ha hn Y hm) I.kIn J e (λz=>nomatch z) h
end
structure bX(k:Nat)(A:Around):Prop where
 hd:A.handled=none
 dp:A.depth+3*k+5<recursionLimit
 un:A.units+16*k+200<cLine
 gd:A.guards=some []
def bX.mono(r:bX k A)(h:j<=k):bX j A:=#[r.hd,by let:=r.dp;lia,by let:=r.un;lia,r.gd]
def bX.deeper(r:bX (k+1) A)(env:Env):bX k (A.deeper env):=
 #[r.hd,by let:=r.dp;show A.depth+1+3*k+5<_;lia,by let:=r.un;show A.units+3+16*k+200<_;lia,r.gd]
def bX.depth(r:bX k A):A.depth<recursionLimit:=by let:=r.dp;lia
def bX.units(r:bX k A):A.units+64<cLine:=by let:=r.un;lia
def gj:TA:=λ_ H Q=>Q [] H
def yJ(ta:TE)(B:TA):TA:=λZ H Q=>ta Z H λx H1=>B Z H1 λxs H2=>Q (x::xs) H2
section
variable{X:Cx}{e:Expr}{es:List Expr}{te:TE}{t:TA}{pos:Pos}
def JQ:PA X [] gj:=λ_ _ _ _ H Q I h=>Calls.spliced_nil #[[],H,I,.nil,h]
def Ks(ha:PE X e te)(hr:PA X es t)(hs:starEach (e::es) X.env=(false,eval e X.env)::starEach es X.env:=by rfl):PA X (e::es) (yJ te t):=by intro pos zV s Z H Q I h;rw[hs];show wpAny _ _ (spliced ((false,eval e X.env)::backTo pos (starEach es X.env))) _ _ s;show Calls.spliced_cons (Am (ha zV s Z H _ I h) λu J B=>?_);let#[x,H1,I1,M,Y]:=B;show Am (hr pos zV J Z H1 _ I1 Y) λus s2⟨xs,H2,I2,L,O⟩=>#[x::xs,H2,I2,.cons M L,O]
def fz(t:TA):TE:=λZ H Q=>t Z H λxs H1=>xs.length<=sizeLine/\∀p,H1 p=none->Q (.ref p) (upd H1 p (.tup xs))
def gk(t:TA):TE:=λZ H Q=>t Z H λxs H1=>xs.length<=sizeLine/\∀p,H1 p=none->Q (.ref p) (upd H1 p (.lst xs))
def Po(h:PA X es t):PE X (.Tuple es Y pos) (fz t):=by intro zV s Z H Q I M;show wpAny_Tuple_spliced (Am (h pos zV s Z H _ I M) λL B⟨xs,H1,J,r,z,q⟩=>#[by rw[<-r.length];show z,?_]);let O:H1 B.heap.objs.size=none:=J.hok.fresh (q9 _);show#[.ref B.heap.objs.size,upd H1 B.heap.objs.size (.tup xs),J.laid (t':=B.toks) (λb u e=>qc _ e) (q9 _) ?_,rfl,q _ O];show#[#[z,iV.new rfl (qd _ rfl)],L,r,#[_,qd _ rfl,rfl,_,rfl]]
def OS(h:PA X es t):PE X (.List es pos) (gk t):=by intro zV s Z H Q I M;show wpAny_List_spliced (Am (h pos zV s Z H _ I M) λL B⟨xs,H1,J,r,z,q⟩=>#[by rw[<-r.length];show z,?_]);let O:H1 B.heap.objs.size=none:=J.hok.fresh (q9 _);show#[.ref B.heap.objs.size,upd H1 B.heap.objs.size (.lst xs),J.laid (t':=B.toks) (λb u e=>qc _ e) (q9 _) ?_,rfl,q _ O];show#[z,L,0,r,qd _ rfl]
end
abbrev Sp:=List V->Hp->VK->XK->Prop
abbrev cy:=List Env->Hp->Shared->XK->Value->Shared->Prop
structure rS(P:Program)(w:World)(K:W.Frag)(mg:Str->Option Value)(base:Heap)(A:Around)(outer:List Env)(s:Shared)(H:Hp):Prop where
 frames:A.frames=some outer
 mod:Mod K mg base
 bs:∀b o,base.get? b=some o->s.heap.get? b=some o/\H b=none
 bsz:base.objs.size<=s.heap.objs.size
 funs:s.heap.FunFrames base outer
 frf:∀b∈iJ outer,H b=none
 hok:eC P w H s.heap
 bare:AllBare s.gens
@[inline]def CE(B:List Env)(P:Program)(w:World)(H:Hp)(s:Shared)(Q:VK)(u:Value)(s':Shared):Prop:=
 ∃v H',s'.os=s.os/\AllBare s'.gens/\Un (iJ B) [] H H' s.heap s'.heap/\eC P w H' s'.heap/\zK v u/\Q v H'
@[inline]def CR(CX:cy)(B:List Env)(P:Program)(w:World)(H:Hp)(s:Shared)(Q:VK)(E:XK)(r:Result)(s':Shared):Prop:=
 match r with
 |.ok (.ret u)=>CE B P w H s Q u s'
 |.ok _=>False
 |.error e=>CX B H s E e s'
structure fL(P:Program)(w:World)(K:W.Frag)(mg:Str->Option Value)(base:Heap)(CX:cy)(k:Nat)(f:Addr)(fd:FuncData)(ps:List Str)(sp:Sp):Prop where
 len:∀vs H Q E,sp vs H Q E->vs.length=ps.length
 run:∀(A:Around)(outer:List Env)(s:Shared)(H:Hp)(args:Args)(us:List Value)(vs:List V)(Q:VK)(E:XK),bX k A->rS P w K mg base A outer s H->BindsTo s fd args (ps.zip us)->zS vs us->sp vs H Q E->
  codeAny (model P w) A (.call (.ref f) args) (CR CX outer P w H s Q E) s
section
variable{X:Cx}{zV:List (Addr×Obj)}{Z:St}{H:Hp}{s s':Shared}
def Inv.env0(I:Inv X zV Z H s):rS X.prog X.w X.K X.mg X.base X.A X.stack s H:=
 #[I.ok.frames,I.ok.mod,I.bs,le_trans I.ok.bsz I.sz,I.stack,I.stkFree,I.hok,I.bare]
def Inv.after(I:Inv X zV Z H s)(h:CE X.stack X.prog X.w H s Q u s'):EP X zV Z Q u s':=by let#[v,H',os,bare,un,J,r,q]:=h;let#[L,g,d,t,B]:=s';obtain rfl:B=s.os:=os;show#[v,H',I.call (h':=L) (g':=g) (d':=d) (t':=t) (ch:=[]) un J bare (λb z=>absurd z (by simp)),r,q]
end
@[inline]def Binds(K:W.Frag)(fd:FuncData)(ps:List Str)(ds:List Value):Prop:=
 ∀(s:Shared)(us:List Value),K.In s.heap->(us++ds).length=ps.length->BindsTo s fd #[us,[]] (ps.zip (us++ds))
def Binds.all{K:W.Frag}(h:∀us:List Value,us.length=ps.length->bindArgs fd #[us,[]]=pure (ps.zip us)):Binds K fd ps []:=λs us _ B=>by rw[qz]at B⊢;show .of_eq (h us B)
structure aD(N P:List Str)(sc:Scope):Prop where
 kind:sc.kind=.function
 co:sc.isCoroutine=false
 gen:sc.isGenerator=false
 nd:N.Nodup
 pre:N.take P.length=P
 par:∀x∈P,sc.names.lookup x=some .local\/sc.names.lookup x=some .cell
 nofree:∀y∈sc.names,y.2≠.free
def MO{kindOf:Str->Option NameKind}:∀{binds:List (Str×Value)}{m:Str->Option Value},(∀v,(x,v)∉binds)->bindL kindOf binds m x=m x
 |[],_,_=>rfl
 |(n,v)::r,m,h=>by
  unfold bindL;rw[MO λw B=>h w (qk _ B)];split
  .let:x≠n:=by rintro rfl;exact h v qm
   simp[this]
  .rfl
def MJ{kindOf:Str->Option NameKind}:∀{binds:List (Str×Value)}{m:Str->Option Value},(∀v,(x,v)∉binds)->bindC kindOf binds m x=m x
 |[],_,_=>rfl
 |(n,v)::r,m,h=>by
  unfold bindC;rw[MJ λw B=>h w (qk _ B)];split
  .rfl
  .let:x≠n:=by rintro rfl;exact h v qm
   simp[this]
def ML{kindOf:Str->Option NameKind}:∀{P:List Str}{vs:List Value}{i:Nat}{m:Str->Option Value},P.Nodup->P[i]?=some x->vs[i]?=some v->kindOf x=some .local->
  bindL kindOf (P.zip vs) m x=some v
 |[],_,_,_,_,h,_,_=>by simp at h
 |_::_,[],_,_,_,_,h,_=>by simp at h
 |p::P,w::vs,0,m,nd,h1,h2,hk=>by simp at h1 h2;subst h1;subst h2;show bindL kindOf ((p,w)::P.zip vs) m p=_;unfold bindL;rw[MO λv B=>(qL.mp nd).1 (of_mem_zip B).1,q5 hk];simp
 |p::P,w::vs,i+1,m,nd,h1,h2,hk=>by show bindL kindOf ((p,w)::P.zip vs) m x=_;unfold bindL;show ML (i:=i) (qL.mp nd).2 ↑h1 ↑h2 hk
def LX{kindOf:Str->Option NameKind}:∀{P:List Str}{vs:List Value}{i:Nat}{m:Str->Option Value},P.Nodup->P[i]?=some x->vs[i]?=some v->kindOf x≠some .local->
  bindC kindOf (P.zip vs) m x=some v
 |[],_,_,_,_,h,_,_=>by simp at h
 |_::_,[],_,_,_,_,h,_=>by simp at h
 |p::P,w::vs,0,m,nd,h1,h2,hk=>by simp at h1 h2;subst h1;subst h2;show bindC kindOf ((p,w)::P.zip vs) m p=_;unfold bindC;rw[MJ λv B=>(qL.mp nd).1 (of_mem_zip B).1,q8 hk];simp
 |p::P,w::vs,i+1,m,nd,h1,h2,hk=>by show bindC kindOf ((p,w)::P.zip vs) m x=_;unfold bindC;show LX (i:=i) (qL.mp nd).2 ↑h1 ↑h2 hk
def start(N:List Str)(vs:List V):St:=vs.map some++List.replicate (N.length-vs.length) none
def eT(CX:cy)(P:Program)(w:World)(K:W.Frag)(mg:Str->Option Value)(base:Heap)(N:List Str)(qual:Str)(scope:Scope)(f:Addr)(cd:Value)(A:Around)(outer:List Env)(s:Shared)(H:Hp)(E:XK):Cx where
 prog:=P
 w:=w
 K:=K
 mg:=mg
 base:=base
 A:=A.deeper (envOfC qual scope s.heap.objs.size f cd)
 N:=N
 s₀:=s
 H₀:=H
 env:=envOfC qual scope s.heap.objs.size f cd
 outer:=outer
 stack:=envOfC qual scope s.heap.objs.size f cd::outer
 ex:=[]
 calm:=true
 fn:=λ_=>true
 pn:=[]
 xe:=λe s'=>wpAny (model P w) (A.deeper (envOfC qual scope s.heap.objs.size f cd)) (leaving (envOfC qual scope s.heap.objs.size f cd) e) (λ_ s''=>CX outer H s E e s'') (λe' s''=>CX outer H s E e' s'') s'
def Lz{B:Scope}(h:B.names.lookup x=some .cell):∃c,(cellsFrom n B.names []).lookup x=some c:=by let q:=W.cellsFrom_some B.names n [] (.inl h);show isSome_iff_exists.mp q
def RP{K:W.Frag}
  (S:aD N ps scope)(hd:A.handled=none)(B:rS P w K mg base A outer s H)(hl:vs.length=ps.length)(r:zS vs us)
  (x:InCallC s s.heap.objs.size (bindL (envOfC qual scope s.heap.objs.size f Y).kindOf (ps.zip us) λ_=>none) (cellsFrom (s.heap.objs.size+1) scope.names []) (bindC (envOfC qual scope s.heap.objs.size f Y).kindOf (ps.zip us) λ_=>none) s1):
  Inv (eT CX P w K mg base N qual scope f Y A outer s H E) [] (start N vs) H s1:=by
 let h4:ps.length<=N.length:=by let:=congrArg List.length S.pre;rw[qH]at this;lia
 obtain⟨h1,tk,rfl,hk⟩:=x.done;let J:∀b:Addr,b∉(eT CX P w K mg base N qual scope f Y A outer s H E).ex:=λb z=>absurd (show b∈([]:List Addr) from z) (by simp);refine⟨#[B.mod,S.kind,rfl,rfl,q9 _,λy z c h1 h2=>?_,λy L=>?_,λy c _ h=>?_,λ_=>hd,Around.frames_deeper B.frames,.inr #[rfl,rfl],λb z=>absurd z (J b),B.bs,B.bsz,λb _ _=>J b,λb z=>absurd z (J b),B.funs,B.frf],
  rfl,B.bare,Un.kept hk,#[_,x.toInCall.ns,λi y v h1 h2 h3=>?_],λy c h=>#[_,x.cell y c h],B.hok.fresh (q9 _),λy c h=>?_,λp O=>absurd (show p∈([]:List (Addr×Obj)) from O) (by simp),B.hok.kept hk,?_⟩
 .show name_of_addr x.apart (PySem.mem_of_lookup h1) (PySem.mem_of_lookup h2)
 .let L:scope.names.lookup y=some .cell\/scope.names.lookup y=some .free:=L;rcases L with L|L
  .show Lz L
  .show absurd rfl (S.nofree _ (PySem.mem_of_lookup L))
 .show le_of_lt (x.above y c (PySem.mem_of_lookup h))
 .have hi:i<vs.length:=by
   unfold start at h2;by_cases hi:i<vs.length
   .show hi
   .rw[getElem?_append_right ↑hi]at h2;rw[List.getElem?_replicate]at h2;split at h2<;>cases h2
  have ha:vs[i]?=some v:=by
   unfold start at h2;rw[getElem?_append_left ↑hi,qF]at h2;cases e:vs[i]? with
   |none=>rw[e]at h2;cases h2
   |some a=>rw[e]at h2;cases h2;rfl
  let#[u,hu,rv]:=r.get ha;let O:ps[i]?=some y:=by rw[<-S.pre,List.getElem?_take_of_lt ∅];show h1
  let M:ps.Nodup:=by rw[<-S.pre];show S.nd.sublist (List.take_sublist _ _)
  show#[u,rv,?_];rcases S.par y (qM O)with k|k
  .show .inl #[k,ML M O hu k]
  .obtain⟨c,e⟩:=Lz (n:=s.heap.objs.size+1) k;show .inr #[.inl k,c,e,?_];let q:=x.cell y c e;rw[LX M O hu (by show scope.names.lookup y≠_;rw[k];decide)]at q;show q
 .show B.hok.fresh (le_of_lt (x.above y c (PySem.mem_of_lookup h)))
 .unfold start;show _=N.length;rw[qq,qo,List.length_replicate];lia
def Nk{K:W.Frag}{dV kV h3 pm L ct oc:Value}(lk:K.lookup f=some #[oc,od,.func (W.fnOf name qual params body scope dV kV h3 pm an L ct),h6])(h5:W.codeIn K L qual=true)(S:aD N ps scope)
  (len:∀vs H Q E,sp vs H Q E->vs.length=ps.length)
  (O:∀(A:Around)(B:List Env)(s:Shared)(H:Hp)(vs:List V)(Q:VK)(E:XK),bX k (A.deeper (envOfC qual scope s.heap.objs.size f L))->sp vs H Q E->
   ∃t,iY (eT CX P w K mg base N qual scope f L A B s H E) body t/\t {nx:=λ_ H'=>Q .non H',rt:=Q} (start N vs) H):
  fL P w K mg base CX (k+1) f (W.fnOf name qual params body scope dV kV h3 pm an L ct) ps sp:=by
 refine#[len,λA B s H args us vs Q E hr e0 hb r h1=>?_];let hl:=len _ _ _ _ h1;let KX:K.In s.heap:=e0.mod.kin.keeps λb o e=>(e0.bs b o e).1;let h4:s.heap.NoLimit:=e0.mod.nolimit.keeps λb o e=>(e0.bs b o e).1;let M:∀y∈ps.zip us,scope.names.lookup y.1=some .local\/(scope.names.lookup y.1=some .cell/\((cellsFrom (s.heap.objs.size+1) scope.names []).lookup y.1).isSome=true):=λ⟨n,v⟩ hy=>by
  rcases S.par n (of_mem_zip hy).1 with q|q
  .show .inl q
  .show .inr #[q,W.cellsFrom_some _ _ _ (.inl q)]
 refine codeAny_call_function hr.depth (KX _ _ lk) rfl S.co S.gen rfl (W.codeRec_of KX h5) (hb _ _ _ _ ?_);show wpAny_newFunctionEnv_cells S.kind M λh7 he s1 x=>?_;subst he;show#[h4.keeps x.toInCall.keep,codeAny_func ?_];let#[t,ht,hq]:=O A B s H vs Q E (hr.deeper _) h1;let I:Inv (eT CX P w K mg base N qual scope f L A B s H E) [] (start N vs) H s1:=RP S hr.hd e0 hl r x;show zu (ht [] s1 (start N vs) H _ I hq) (λfl s' Y=>?_) λe s' Y=>Y;let h2:∀{Z':St}{H':Hp}{v:V}{u:Value},Inv (eT CX P w K mg base N qual scope f L A B s H E) [] Z' H' s'->zK v u->Q v H'->CE B P w H s Q u s':=
  λ{Z' H' v u} J rv q=>#[v,H',J.os,J.bare,J.base,J.hok,rv,q]
 cases fl with
 |ret u=>let#[v,Z',H',J,rv,q]:=Y;show h2 J rv q
 |next=>let#[Z',H',J,q]:=Y;show h2 (v:=V.non) (u:=Value.none) J rfl q
 |brk=>let#[_,_,_,q]:=Y;show False.elim q
 |cont=>let#[_,_,_,q]:=Y;show False.elim q
section
variable{X:Cx}{x:Str}{p pos:Pos}{e:Expr}{es:List Expr}{t:TA}{id T:String}{r:List V->Hp->VK->Prop}
def gp(r:List V->Hp->VK->Prop)(t:TA):TE:=λZ H Q=>t Z H λvs H1=>r vs H1 Q
def Rr(hc:aZ X (.builtin id) r)(hg:Gl X x)(hm:X.mg x=none)(hv:bootBuiltins x=some (.builtin id))(ha:PA X (e::es) t)(hn:x≠"__name__":=by decide)(J:(x==("__debug__":Str))=false:=by decide)
  (he:starEach (e::es) X.env=(false,eval e X.env)::starEach es X.env:=by rfl)(B:(backTo pos (starEach es X.env)).any (·.1)=false:=by rfl):PE X (.Call (.Name x p) (e::es) [] pos) (gp r t):=by
 intro zV s Z H Q I h;show wpAny_Call_Name_kw (DJ I hg hm hv ?_ hn J);show PyProof.Rows.callWith_builtin1 (Am (ha pos zV s Z H _ I h) λL M⟨vs,H1,I1,O,Y⟩=>hc zV M Z H1 vs L Q I1 O Y) he B
def LZ(hc:aZ X (.type T) r)(hg:Gl X x)(hm:X.mg x=none)(hv:bootBuiltins x=some (.type T))(ha:PA X (e::es) t)(hn:x≠"__name__":=by decide)(J:(x==("__debug__":Str))=false:=by decide)
  (he:starEach (e::es) X.env=(false,eval e X.env)::starEach es X.env:=by rfl)(B:(backTo pos (starEach es X.env)).any (·.1)=false:=by rfl):PE X (.Call (.Name x p) (e::es) [] pos) (gp r t):=by
 intro zV s Z H Q I h;show wpAny_Call_Name_kw (DJ I hg hm hv ?_ hn J);show PyProof.Rows.callWith_type1 (Am (ha pos zV s Z H _ I h) λL M⟨vs,H1,I1,O,Y⟩=>hc zV M Z H1 vs L Q I1 O Y) he B
end
section
variable{κ:Type}[DecidableEq κ]
def dB(zW:List (κ×V))(k:κ):Option V:=(zW.find? λB=>decide (B.1=k)).map (·.2)
def dW(zW:List (κ×V))(k:κ)(v:V):List (κ×V):=
 if(zW.any λB=>decide (B.1=k))=true then zW.map (λB=>if B.1=k then(B.1,v)else B)else zW++[(k,v)]
def EZ{p:κ×V}{r:List (κ×V)}{k:κ}(e:p.1=k):dB (p::r) k=some p.2:=by simp[dB,List.find?_cons,e]
def Fi{p:κ×V}{r:List (κ×V)}{k:κ}(e:¬p.1=k):dB (p::r) k=dB r k:=by simp[dB,List.find?_cons,e]
def LM(k:κ):∀zW:List (κ×V),(zW.any λB=>decide (B.1=k))=(dB zW k).isSome
 |[]=>rfl
 |p::r=>by
  rw[any_cons];by_cases e:p.1=k
  .simp[EZ e,qR e,Bool.true_or,isSome_some]
  .rw[Fi e,qS e];show LM k r
def MW(zW:List (κ×V))(k:κ)(v:V):(dW zW k v).length<=zW.length+1:=by unfold dW;grind
def eK.isSome_eq(r:eK o u):o.isSome=u.isSome:=by
 cases o with
 |none=>cases u with
  |none=>rfl
  |some _=>show(show False from r).elim
 |some _=>cases u with
  |none=>show(show False from r).elim
  |some _=>rfl
def eK.getD(r:eK o u)(B:zK d d'):zK (o.getD d) (u.getD d'):=by
 cases o with
 |none=>cases u with
  |none=>show B
  |some _=>show(show False from r).elim
 |some _=>cases u with
  |none=>show(show False from r).elim
  |some _=>show r
def KV.val{zW:List (κ×V)}{vs:List (κ×Value)}(r:KV zW vs)(k:κ):eK (dB zW k) (valueAt vs k):=by
 induction r with
 |nil=>show True.intro
 |@cons p q ps B h t L=>
  let#[h1,h2]:=h;by_cases e:p.1=k
  .let J:q.1=k:=h1.symm.trans e;let b:valueAt (q::B) k=some q.2:=by simp[valueAt,J]
   rw[EZ e,b];show h2
  .let J:¬q.1=k:=λz=>e (h1.trans z);let b:valueAt (q::B) k=valueAt B k:=by simp[valueAt,J]
   rw[Fi e,b];show L
def KV.any(r:KV zW vs)(k:κ):(zW.any λB=>decide (B.1=k))=vs.any λB=>decide (B.1=k):=by
 induction r with
 |nil=>rfl
 |cons h t J=>rw[any_cons,any_cons,J,h.1]
def KV.repl(r:KV zW vs)(k:κ)(L:zK y u):
  KV (zW.map λB=>if B.1=k then(B.1,y)else B) (vs.map λB=>if B.1=k then(B.1,u)else B):=by
 induction r with
 |nil=>show .nil
 |@cons p q ps M h t J=>show .cons ?_ J;grind
def KV.put(r:KV zW vs)(k:κ)(B:zK y u):KV (dW zW k y) (stored vs k u):=by
 unfold dW stored;rw[r.any k];by_cases e:(vs.any λJ=>decide (J.1=k))=true
 .rw[q5 e,q5 e];show r.repl k B
 .rw[q8 e,q8 e];show Paired.snoc r #[rfl,B]
def KV.length(r:KV zW vs):zW.length=vs.length:=Paired.length r
end
def Eu(r:zK (kV k) u):(aG P w).is k u=true:=by
 cases k with
 |inl i=>let#[t,e]:=(show∃t,u=Value.int i t from r);subst e;show Uw P w i t
 |inr x=>let#[t,e]:=(show∃t,u=Value.str x t from r);subst e;show UB P w x t
def Fv(e:kV a=kV b):a=b:=by
 cases a with
 |inl i=>cases b with
  |inl j=>have B:V.int i=V.int j:=e;injection B with B;rw[B]
  |inr y=>show nomatch (show V.int i=V.str y from e)
 |inr x=>cases b with
  |inl j=>show nomatch (show V.str x=V.int j from e)
  |inr y=>have B:V.str x=V.str y:=e;injection B with B;rw[B]
def FJ:∀{a b:List aX},a.map kV=b.map kV->a=b
 |[],[],_=>rfl
 |[],_::_,e=>by simp at e
 |_::_,[],e=>by simp at e
 |x::xs,y::ys,e=>by
  injection e with e1 e2
  rw[Fv e1,FJ e2]
def Mj:∀{ks:List aX}{us:List Value},zS (ks.map kV) us->ItemsAre (aG P w) ks us
 |[],_,r=>by rw[map_nil]at r;cases r;show .nil
 |k::ks,_,r=>by
  cases r with
  |cons h t=>show .cons (Eu h) (Mj t)
abbrev KT(H:Hp):List (List aX×V)->List (List aX×Addr×Value)->Prop:=Paired λp q=>p.1=q.1/\H q.2.1=some (.tup (p.1.map kV))/\zK p.2 q.2.2
def KT.val{H:Hp}{zW:List (List aX×V)}{xs:List (List aX×Addr×Value)}(r:KT H zW xs)(k:List aX):eK (dB zW k) ((atKey xs k).map (·.2)):=by
 induction r with
 |nil=>show True.intro
 |@cons p q ps B h t L=>
  let#[h1,_,h2]:=h;by_cases e:p.1=k
  .let J:q.1=k:=h1.symm.trans e;let b:atKey (q::B) k=some q.2:=by simp[atKey,J]
   rw[EZ e,b];show h2
  .let J:¬q.1=k:=λz=>e (h1.trans z);let b:atKey (q::B) k=atKey B k:=by simp[atKey,J]
   rw[Fi e,b];show L
def KT.repl(r:KT H zW xs)(k:List aX)(J:zK y u):
  KT H (zW.map λB=>if B.1=k then(B.1,y)else B) (xs.map (putAt k u)):=by
 induction r with
 |nil=>show .nil
 |@cons p q ps O h t L=>
  rw[qy];show .cons ?_ L;let#[h1,h2,M]:=h;unfold putAt;by_cases e:p.1=k
  .rw[q5 e,q5 (h1.symm.trans e)];show#[h1,h2,J]
  .rw[q8 e,q8 (λz=>e (h1.trans z))];show#[h1,h2,M]
def KT.put(r:KT H zW xs)(k:List aX)(L:H b=some (.tup (k.map kV)))(B:zK y u):
  KT H (dW zW k y) (storedH xs k b u):=by
 let e:(zW.any λJ=>decide (J.1=k))=(atKey xs k).isSome:=by rw[LM,(r.val k).isSome_eq,isSome_map]
 unfold dW storedH;rw[e];by_cases q:(atKey xs k).isSome=true
 .rw[q5 q,q5 q];show r.repl k B
 .rw[q8 q,q8 q];show Paired.snoc r #[rfl,L,B]
def KT.keeps(r:KT H zW xs)(B:∀b ys,H b=some (.tup ys)->H' b=some (.tup ys)):KT H' zW xs:=
 Paired.mapP r λ_ _ z=>#[z.1,B _ _ z.2.1,z.2.2]
def JF(ok:eC P w H h)(e:Rd H a u):zU P w H h a u:=e.ok ok
def Fp(ok:eC P w H h)(e:Rd H a (.dK zW)):zW.length<=sizeLine/\(a==sysModules)=false/\∃vs,KV zW vs/\h.DictOf (aG P w) a vs:=
 show zU P w H h a (.dK zW) from JF ok e
def NS(ok:eC P w H h)(e:H a=some (.dK zW)):zW.length<=sizeLine/\(a==sysModules)=false/\∃vs,KV zW vs/\h.DictOf (aG P w) a vs:=Fp ok (.inl e)
def DK(ok:eC P w H h)(e:H a=some (.tup (ks.map kV))):(tupleKind (aG P w)).is h ks a:=by
 let#[_,B,r,o,h1,h2,n,J]:=(show zU P w H h a (.tup (ks.map kV)) from ok a _ e)
 show#[o,B.toArray,n,h1,h2,J,Mj r]
def Fs(ok:eC P w H h)(e:Rd H a (.dT zW)):zW.length<=sizeLine/\(a==sysModules)=false/\
  ∃xs,KT H zW xs/\h.DictOfH (tupleKind (aG P w)) a xs:=by
 let#[z,y,xs,r,o,es,ep,h1,h2,Y,O,M]:=(show zU P w H h a (.dT zW) from JF ok e)
 refine#[z,y,xs,r,o,es,ep,h1,h2,Y,O,λx B=>?_,M];let all:∀{l:List (List aX×V)}{m:List (List aX×Addr×Value)},KT H l m->∀x∈m,(tupleKind (aG P w)).is h x.1 x.2.1:=by
  intro l m q;induction q with
  |nil=>intro x B;show nomatch B
  |@cons p q ps qs J t L=>
   intro x B;rcases qA.mp B with e|B
   .subst e;show DK ok (by rw[<-J.1];show J.2.1)
   .show L x B
 show all r x B
def NP(ok:eC P w H h)(e:H a=some (.dT zW)):zW.length<=sizeLine/\(a==sysModules)=false/\
  ∃xs,KT H zW xs/\h.DictOfH (tupleKind (aG P w)) a xs:=Fs ok (.inl e)
def gE(H:Hp)(a:Addr)(y:V)(r:Option V):Prop:=
 (∃zW k,Rd H a (.dK zW)/\y=kV k/\r=dB zW k)\/∃zW k b,Rd H a (.dT zW)/\y=.ref b/\H b=some (.tup (k.map kV))/\r=dB zW k
def cx(H:Hp)(a:Addr)(y v:V)(H':Hp):Prop:=
 (∃zW k,H a=some (.dK zW)/\y=kV k/\zW.length<sizeLine/\H'=upd H a (.dK (dW zW k v)))\/
 ∃zW k b,H a=some (.dT zW)/\y=.ref b/\H b=some (.tup (k.map kV))/\zW.length<sizeLine/\H'=upd H a (.dT (dW zW k v))
def Inv.big(I:Inv X zV Z H s):sysModules<s.heap.objs.size:=by let h:mainGlobals<s.heap.objs.size:=(I.mod.glob.keeps I.bk).lt;show lt_trans ⋯ h
def Pg(hu:A.units+1<cLine)(I:Inv X zV Z H s)(g:gE H a y o)(Y:zK y u)(h:∀s',Inv X zV Z H s'->Q (.bool (!o.isSome)) s'):
  wpAny (model X.prog X.w) A (compareOp .NotIn u (.ref a)) Q E s:=by
 rcases g with⟨J,k,e,M,l⟩|⟨J,k,b,e,M,eb,l⟩
 .subst M;let#[z,L,vs,B,O]:=Fp I.hok e;show wpAny_notIn_of (Eu Y) L O.mapOf ?_;rw[<-(B.val k).isSome_eq,<-l];show h _ (I.tok _)
 .subst M;cases(show u=Value.ref b from Y);let#[z,L,xs,B,O]:=Fs I.hok e;show wpAny_notIn_heap (tupleKind_room_in1 hu) (DK I.hok eb) L O ?_;let q:=(B.val k).isSome_eq;rw[isSome_map]at q;rw[<-q,<-l];show h _ (I.tok _)
def GN(I:Inv X zV Z H s)(J:bx (H a))(hs:Heap.SameBut a s.heap h')(L:∃q,h'.get? a=some q)(new:zU X.prog X.w (upd H a B) h' a B):
  Inv X zV Z (upd H a B) {s with heap:=h',toks:=t'}:=
 I.write (x:=a) (e:=a) J (.inl rfl) (λb q M z=>(hs.2 b M).trans z) L new
def Ob(z:zW.length<=sizeLine)(J:(a==sysModules)=false)(B:KV zW vs)(dd:h'.DictOf (aG P w) a vs):
  zU P w H' h' a (.dK zW):=#[z,J,vs,B,dd]
def Sd(h:Heap)(B:sysModules<h.objs.size):zU P w H (h.push {cls:=.type "dict",data:=.dict #[]}) h.objs.size (.dT []):=
 #[zero_le _,beq_eq_false_iff_ne.mpr (Ne.symm (ne_of_lt B)),[],.nil,_,#[],0,qd _ rfl,#[rfl,rfl,rfl],rfl,rfl,List.nodup_nil]
def tS:TE:=λ_ H Q=>∀p,H p=none->Q (.ref p) (upd H p (.dT []))
def Ry:PE X (.Dict [] [] pos) tS:=λzV s Z H Q I h=>wpAny_Dict_empty #[.ref s.heap.objs.size,_,I.laid (a:=s.heap.objs.size) (o:=.dT []) (t':=s.toks) (λ_ _ q=>qc _ q) (q9 _) (Sd s.heap I.big),rfl,h _ (I.hok.fresh (q9 _))]
structure M2(X:Cx)(o:Expr)(m:Str)(apos:Pos)(e f:Expr)(cpos:Pos):Prop where
 base:attributeBase o m X.env (eval o X.env)=eval o X.env
 few:((backTo cpos (starEach [e,f] X.env)).all (λx=>!x.1)&&(backToKw cpos (keywordEach [] X.env)).all (λx=>x.1.isSome)
  &&decide (([e,f]:List Expr).length+([]:List Keyword).length+(if([]:List Keyword).isEmpty then 0 else 1)<30))=true
 line:(apos.endLine==cpos.line)=true
 trees:backTo cpos (starEach [e,f] X.env)=[(false,eval e X.env),(false,eval f X.env)]
def cn(H:Hp)(a:Addr):Prop:=(∃zW,Rd H a (.dK zW))\/∃zW,Rd H a (.dT zW)
def JZ(I:Inv X zV Z H s)(d:cn H a):
  s.TypeIs (.ref a) "dict"/\(∀b,Value.ref a=.ref b->∃B,s.heap.get? b=some B/\B.dict=none)/\(a==sysModules)=false:=by
 rcases d with⟨L,e⟩|⟨L,e⟩
 .obtain⟨_,M,vs,_,J⟩:=Fp I.hok e;show#[J.typeIs,λb q=>?_,M];cases q;let#[B,_,_,h1,h2,_]:=J;show#[B,h1,h2.2.1]
 .obtain⟨_,M,xs,_,J⟩:=Fs I.hok e;show#[J.typeIs,λb q=>?_,M];cases q;let#[B,_,_,h1,h2,_]:=J;show#[B,h1,h2.2.1]
def Ov(hu:A.units+1<cLine)(I:Inv X zV Z H s)(g:gE H a y o)(ry:zK y u)(rd:zK d r)(h:∀Y s',Inv X zV Z H s'->zK (o.getD d) Y->Q Y s'):
  wpAny (model X.prog X.w) A (call (.builtin "dict.get") [.ref a,u,r]) Q E s:=by
 rcases g with⟨L,k,e,O,l⟩|⟨L,k,b,e,O,eb,l⟩
 .subst O;let#[z,M,vs,B,J]:=Fp I.hok e;show call_meetsIn PySem.F.slot_dict_get J.typeIs PySem.F.entry_dict_get (PySem.F.args_dict_get_3 _ _ _) (meets_dict_get_default (aG X.prog X.w) a (Eu ry) M r) #[_,J.mapOf,h _ _ (I.tok _) ?_];rw[l];show(B.val k).getD rd
 .subst O;cases(show u=Value.ref b from ry);let#[z,M,xs,B,J]:=Fs I.hok e;show call_meetsIn PySem.F.slot_dict_get J.typeIs PySem.F.entry_dict_get (PySem.F.args_dict_get_3 _ _ _) (meetsH_dict_get_default (tupleKind (aG X.prog X.w)) a b M r) #[tupleKind_room_in1 hu,k,xs,DK I.hok eb,J,h _ _ (I.tok _) ?_];rw[l];show(B.val k).getD rd
def tT(J ty tx:TE):TE:=λZ H Q=>J Z H λx H1=>∃a,x=.ref a/\cn H1 a/\ty Z H1 λy H2=>tx Z H2 λz B=>∃o,gE B a y o/\Q (o.getD z) B
def SA(hu:X.A.units+1<cLine)(ho:PE X o M)(he:PE X e ty)(hf:PE X f tx)(m:M2 X o "get" apos e f cpos):PE X (.Call (.Attribute o "get" apos) [e,f] [] cpos) (tT M ty tx):=by
 intro zV s Z H Q I h;show wpAny_Call_method m.base m.few m.line PySem.F.plainAttrs_dict PySem.F.slot_dict_get PySem.F.type_dict_get (Am (ho zV s Z H _ I h) λu s1 L=>?_);let#[x,H1,J,rx,a,ex,d,q1]:=L;subst ex;obtain rfl:u=Value.ref a:=rx;let#[Y,O,_]:=JZ J d;show#[Y,O,?_];rw[m.trees];show Calls.callWith_builtin rfl (Calls.evalArgs_plain (Calls.spliced_cons (Am (he zV s1 Z H1 _ J q1) λiv s2⟨y,H2,I2,ry,q2⟩=>Calls.spliced_cons (Am (hf zV s2 Z H2 _ I2 q2) λfv s3⟨z,H3,I3,rz,ov,g,q3⟩=>Calls.spliced_nil ?_))))
 show Ov hu I3 g ry rz λw' s4 I4 B=>#[_,H3,I4,B,q3]
end L2
namespace HT
open PySem PyProof.Rows
theorem cat_tup(ht:IsTup s.heap t vs.toArray)(hb:IsTup s.heap b B.toArray)(hv:vs≠[])
  (h1:B=[]->Q (.ref t) s)(h2:B≠[]->Q (.ref s.heap.objs.size) {s with heap:=s.heap.push {cls:=.type "tuple",data:=.seq (vs++B).toArray}})
  (h3:vs.length+B.length<=sizeLine):wpAny (model prog w) A (binaryOp .Add (.ref t) (.ref b)) Q E s:=by
 let#[#[cls,dd,data,sl],Y,hc,n,hd]:=id ht;let#[#[h6,M,data2,L],J,h5,n2,h4]:=id hb;subst hc hd h5 h4;let e:vs.toArray++B.toArray=(vs++B).toArray:=by simp
 by_cases O:B=[]
 .exact concat_meets #[_,Y,rfl] #[_,J,rfl] noFill_tuple_add seq_tuple_add PySem.F.slot_tuple_add PySem.F.entry_tuple_add (PySem.F.args_tuple_add_2 _ _)
   (tuple_addW1 t b vs.toArray B.toArray n n2 dd M sl L ↑hv (by simp[O])) #[Y,J,h1 O]
 .refine concat_meets #[_,Y,rfl] #[_,J,rfl] noFill_tuple_add seq_tuple_add PySem.F.slot_tuple_add PySem.F.entry_tuple_add (PySem.F.args_tuple_add_2 _ _)
   (tuple_addW2 t b vs.toArray B.toArray n n2 dd M sl L ↑hv ↑O (by rw[qr];show h3)) #[Y,J,?_]
  rw[e];show h2 O
def sIx(n d:Nat):Option Int->Nat
 |none=>d
 |some v=>if v<0 then(v+(n:Int)).toNat else min v.toNat n
theorem sIx_le(n d:Nat)(J:d<=n)(o:Option Int):sIx n d o<=n:=by
 cases o with
 |none=>show J
 |some v=>
  show(if v<0 then(v+(n:Int)).toNat else min v.toNat n)<=n;by_cases B:v<0
  .rw[q5 B];lia
  .rw[q8 B];show min_le_right _ _
def KQ(v:Int)(n d:Nat):(if v<0 then max (v+(n:Int)) 0 else min v (n:Int))=((sIx n d (some v):Nat):Int):=by show(if v<0 then max (v+(n:Int)) 0 else min v (n:Int))=(((if v<0 then(v+(n:Int)).toNat else min v.toNat n):Nat):Int);grind
def Ui(lo hi:Option Int)(n:Nat):Builtin.Slice.sliceAdjust lo hi 1 (n:Int)=(((sIx n 0 lo:Nat):Int),((sIx n n hi:Nat):Int)):=by
 let h1:¬((1:Int)<0):=∅
 unfold Builtin.Slice.sliceAdjust;show Prod.ext ?_ ?_
 .cases lo with
  |none=>rfl
  |some v=>show KQ v n 0
 .cases hi with
  |none=>rfl
  |some v=>show KQ v n n
def TL(i j:Nat):Builtin.Slice.slicePlaces (i:Int) (j:Int) 1=j-i:=by
 unfold Builtin.Slice.slicePlaces;let h1:(1:Int)>0:=∅
 split<;>lia
def MF(p:IsPart v o)(h:Q o s):wpAny (model prog w) A (Builtin.Slice.slicePartIndex v) Q E s:=by
 cases p with
 |none=>show slicePart_none h
 |int i t=>show slicePart_int h
theorem sliceApplied_gen{lo hi:Option Int}{n:Nat}(hs:s.heap.IsSliceOf O M L .none)(pl:IsPart M lo)(Y:IsPart L hi)
  (h:Q (((sIx n 0 lo:Nat):Int),1,sIx n n hi-sIx n 0 lo) s):wpAny (model prog w) A (Builtin.Slice.sliceApplied (.ref O) (pure (n:Int))) Q E s:=by
 let#[os,B,h1,J]:=id hs;show qa (qa (zj B J (x:=M) rfl (qa (zj B J (x:=L) rfl (qa (zj B J (x:=.none) rfl (qb ?_)))))));show qa (slicePart_none ?_);show qa (MF pl (qa (MF Y (qa (qb ?_)))));show wpAny _ _ (match Builtin.Slice.sliceAdjust lo hi 1 (n:Int)with|(lo,hi)=>pure (lo,(1:Int),Builtin.Slice.slicePlaces lo hi 1)) _ _ s;rw[Ui lo hi n];show wpAny _ _ (pure (((sIx n 0 lo:Nat):Int),(1:Int),Builtin.Slice.slicePlaces ((sIx n 0 lo:Nat):Int) ((sIx n n hi:Nat):Int) 1)) _ _ s;rw[TL];show qb h
def Rm(xs:Array Value)(i k:Nat):((List.range k).filterMap λ(m:Nat)=>xs[((i:Int)+(m:Int)*1).toNat]?).toArray=((xs.toList.drop i).take k).toArray:=by
 have e:(λ(m:Nat)=>xs[((i:Int)+(m:Int)*1).toNat]?)=λm=>xs[i+m]?:=by
  funext m
  let:((i:Int)+(m:Int)*1).toNat=i+m:=∅
  rw[this]
 rw[e];let:=pick_run xs i k;rw[List.filterMap_map]at this;let B:((λx=>xs[x]?)∘λx=>i+x)=λm=>xs[i+m]?:=rfl;rw[B]at this;rw[this]
theorem getItem_tuple_cut{lo hi:Option Int}(J:IsTup s.heap t items)(hs:s.heap.IsSliceOf sl vl vu .none)(pl:IsPart vl lo)(pu:IsPart vu hi)
  (hw:¬(sIx items.size 0 lo=0/\sIx items.size items.size hi=items.size))
  (h:Q (.ref s.heap.objs.size) {s with heap:=s.heap.push {cls:=.type "tuple",data:=.seq ((items.toList.drop (sIx items.size 0 lo)).take (sIx items.size items.size hi-sIx items.size 0 lo)).toArray}})
  (L:items.size<=sizeLine):wpAny (model prog w) A (getItem (.ref t) (.ref sl)) Q E s:=by
 let B:sizeOk (.seq ((items.toList.drop (sIx items.size 0 lo)).take (sIx items.size items.size hi-sIx items.size 0 lo)).toArray):=by show((items.toList.drop (sIx items.size 0 lo)).take (sIx items.size items.size hi-sIx items.size 0 lo)).toArray.size<=sizeLine;rw[qr,qH,qG];show le_trans (min_le_right ..) (le_trans (sub_le ..) L)
 let#[os,M,Y,h2]:=id hs;let h1:s.TypeIs (.ref sl) "slice":=#[os,M,Y]
 unfold getItem;try with_reducible show zr ?_
 first|show qa (qb ?_)|skip
 refine qa (wpAny_sequenceKey J.typeIs ⋯ ?_);refine qa (wpAny_callSpecial?_slot (name:=Str.ofString "__getitem__") J.typeIs PyProof.Rows.slot_tuple_getitem
  (zm PyProof.Rows.slot_tuple_getitem J.typeIs entry_tuple_getitem ?_ (args_tuple_getitem _ _)))
 show wpAny _ _ (Builtin.Tuple.tupleItemsOf (.ref t)>>=_) _ _ s;show qa (tupleItemsOf_ J ?_);show qa (wpAny_typeOf h1 ?_);show qa (sliceApplied_gen hs pl pu ?_);let O:¬((((sIx items.size 0 lo:Nat):Int)==0&&(1:Int)==1&&(sIx items.size items.size hi-sIx items.size 0 lo)==items.size)=true):=by grind
 show wpAny _ _ (if(((sIx items.size 0 lo:Nat):Int)==0&&(1:Int)==1&&(sIx items.size items.size hi-sIx items.size 0 lo)==items.size)=true then _ else _) _ _ s;rw[q8 O,Rm];first
  |show qa (m:=Builtin.Tuple.tupleExact _) (zk (qb ⟨_,rfl,qb h⟩) B)
  |show qa (m:=Builtin.Tuple.tupleExact _) (zk (qa (qb (qb ⟨_,rfl,qb h⟩))) B)
  |show qa (qa (m:=Builtin.Tuple.tupleExact _) (zk (qb (qb ⟨_,rfl,qb h⟩)) B))
  |show qa (qa (m:=Builtin.Tuple.tupleExact _) (zk (qb ⟨_,rfl,qb h⟩) B))
end HT
namespace L2
open PySem PySem.Spec PyProof.Rows
abbrev TO:=St->Hp->(Option Int->Hp->Prop)->Prop
@[inline]def PO(X:Cx)(e:Option Expr)(t:TO):Prop:=
 ∀(zV:List (Addr×Obj))(s:Shared)(Z:St)(H:Hp)(Q:Option Int->Hp->Prop),Inv X zV Z H s->t Z H Q->
  wpAny (model X.prog X.w) X.A (evalPart e X.env) (λu s'=>∃o H',Inv X zV Z H' s'/\IsPart u o/\Q o H') X.xe s
def pF:TO:=λ_ H Q=>Q none H
def yF(t:TE):TO:=λZ H Q=>t Z H λx H1=>∃i,x=.int i/\Q (some i) H1
def IL:∀{us:List Value},zS (ns.map V.int) us->IntsAre us ns:=by
 induction ns with
 |nil=>intro us r;rw[map_nil]at r;cases r;show .nil
 |cons n ns L=>
  intro us r;cases r with
  |cons J B=>let#[t,e]:=J;subst e;show .cons n t (L B)
section
variable{lo hi:Option Expr}
def Le:PO X none pF:=by intro zV s Z H Q I h;show qb #[none,H,I,.none,h]
def GM(h:PE X e te):PO X (some e) (yF te):=by intro zV s Z H Q I M;show Am (h zV s Z H _ I M) λu Y B=>?_;let#[x,H1,O,J,L]:=B;let#[i,rfl,q]:=L;let#[t,rfl]:=J;show#[some i,H1,O,.int i t,q]
def lN(X:Cx)(r:V->Option Int->Option Int->Hp->VK->Prop):Prop:=
 ∀(zV:List (Addr×Obj))(s:Shared)(Z:St)(H:Hp)(x:V)(v J B:Value)(lo hi:Option Int)(L:Addr)(Q:VK),Inv X zV Z H s->zK x v->s.heap.IsSliceOf L J B .none->IsPart J lo->IsPart B hi->r x lo hi H Q->
  ∃T id,typeLookup (.type T) "__getitem__"=pure (some (.builtin id))/\s.TypeIs v T/\wpAny (model X.prog X.w) X.A (getItem v (.ref L)) (EP X zV Z Q) X.xe s
def lN.or(h:lN X r)(h':lN X r'):lN X (λx lo hi H Q=>r x lo hi H Q\/r' x lo hi H Q):=by
 intro zV s Z H x v J B lo hi L Q I M hs Y O q;rcases q with q|q
 .show h zV s Z H x v J B lo hi L Q I M hs Y O q
 .show h' zV s Z H x v J B lo hi L Q I M hs Y O q
def nv(r:V->Option Int->Option Int->Hp->VK->Prop)(te:TE)(B J:TO):TE:=λZ H Q=>te Z H λx H1=>B Z H1 λl H2=>J Z H2 λu L=>r x l u L Q
def Iv(hr:lN X r)(he:PE X e te)(hl:PO X lo Y)(hu:PO X hi th):PE X (.Subscript e (.Slice lo hi none p2) pos) (nv r te Y th):=by intro zV s Z H Q I h;show Subscript_ (Am (he zV s Z H _ I h) λv s1 J=>?_);let#[x,H1,I1,r1,q1]:=J;show wpAny_Slice (Am (hl zV s1 Z H1 _ I1 q1) λM s2⟨l,H2,I2,pl,q2⟩=>Am (hu zV s2 Z H2 _ I2 q2) λL B J=>?_);let#[u,O,I3,pu,q3]:=J;show qb ?_;let I4:Inv X zV Z O {B with heap:=B.heap.push {cls:=.type "slice",data:=.fields [M,L,.none].toArray}}:=I3.kept (t':=B.toks) λb ob q=>qc _ q;let#[T,id,hT,ht,hg]:=hr zV {B with heap:=B.heap.push {cls:=.type "slice",data:=.fields [M,L,.none].toArray}} Z O x v M L l u B.heap.objs.size Q I4 r1 (Heap.IsSliceOf.new ..) pl pu q3;show tail_any (ops:=[.ref B.heap.objs.size,v]) ht hT hg (by with_unfolding_all rfl)
def iS(xs:List V)(lo hi:Option Int):List V:=(xs.drop (HT.sIx xs.length 0 lo)).take (HT.sIx xs.length xs.length hi-HT.sIx xs.length 0 lo)
def Nb(xs:List V)(lo hi:Option Int):(iS xs lo hi).length<=xs.length:=by unfold iS;rw[qH,qG];show le_trans (min_le_right ..) (sub_le ..)
def yM(K:W.Frag):V->Option Int->Option Int->Hp->VK->Prop:=λx lo hi H Q=>∃a xs,x=.ref a/\bM K H a xs/\
 ¬(HT.sIx xs.length 0 lo=0/\HT.sIx xs.length xs.length hi=xs.length)/\∀p,H p=none->Q (.ref p) (upd H p (.tup (iS xs lo hi)))
def NH:lN X (yM X.K):=by
 intro zV s Z H x v vl vu lo hi sl Q I O hs pl Y h;let#[a,xs,rfl,hx,hw,q]:=h;cases O;let#[J,r,M,L]:=I.tuple hx;let B:J.toArray.size=xs.length:=by rw[qr];show r.length.symm
 show#["tuple",_,PyProof.Rows.slot_tuple_getitem.lookup,M.typeIs,?_];show HT.getItem_tuple_cut M hs pl Y (by rw[B];show hw) ?_ (by rw[B];show L);rw[B];show#[.ref s.heap.objs.size,_,I.laid (t':=s.toks) (o:=.tup (iS xs lo hi)) (λb ob q=>qc _ q) (q9 _) ?_,rfl,q _ (I.hok.fresh (q9 _))];show#[#[le_trans (Nb xs lo hi) L,iV.new rfl (qd _ rfl)],_,(r.drop (HT.sIx xs.length 0 lo)).take (HT.sIx xs.length xs.length hi-HT.sIx xs.length 0 lo),IsTup.new _ _]
def yY(K:W.Frag):R2:=λx y H Q=>∃a b xs ys,x=.ref a/\y=.ref b/\bM K H a xs/\bM K H b ys/\xs≠[]/\xs.length+ys.length<=sizeLine/\
 (ys=[]->Q (.ref a) H)/\(ys≠[]->∀p,H p=none->Q (.ref p) (upd H p (.tup (xs++ys))))
def zS.nil_iff(r:zS xs us):us=[]↔xs=[]:=by
 cases r with
 |nil=>simp
 |cons _ _=>simp
def Pc:OpR X (binaryOp .Add) (yY X.K):=by intro zV s Z H x y v u Q I Y O h;let#[a,b,xs,ys,rfl,rfl,ha,hb,hx,M,q1,q2]:=h;cases Y;cases O;let#[h1,J,p1,_]:=I.tuple ha;let#[L,B,p2,_]:=I.tuple hb;show HT.cat_tup p1 p2 (λz=>hx (J.nil_iff.mp z)) (λz=>#[.ref a,H,I,rfl,q1 (B.nil_iff.mp z)]) (λz=>?_) (by rw[<-J.length,<-B.length];show M);show#[.ref s.heap.objs.size,_,I.laid (t':=s.toks) (o:=.tup (xs++ys)) (λb ob q=>qc _ q) (q9 _) ?_,rfl,q2 (λw=>z (B.nil_iff.mpr w)) _ (I.hok.fresh (q9 _))];show#[#[by rw[qq];show M,iV.new rfl (qd _ rfl)],_,J.append B,IsTup.new _ _]
end
def ixN(n:Nat)(i:Int):Option Nat:=if 0<=i then(if i<n then some i.toNat else none)else if -(n:Int)<=i then some (i+n).toNat else none
def atI{α:Type}(xs:List α)(i:Int):Option α:=(ixN xs.length i).bind λj=>xs[j]?
def Ie(h:ixN n i=some j):seqIndex? i n=some j/\j<n/\-(n:Int)<=i/\i<n:=by
 unfold ixN at h;by_cases B:0<=i
 .rw[q5 B]at h;by_cases h1:i<n
  .rw[q5 h1]at h;let e:i.toNat=j:=qf h;show#[by rw[seqIndex_of B h1,e],∅,∅,h1]
  .rw[q8 h1]at h;cases h
 .rw[q8 B]at h;by_cases h1:-(n:Int)<=i
  .rw[q5 h1]at h;let e:(i+n).toNat=j:=qf h;show#[by rw[seqIndex_neg ∅ h1,e],∅,h1,∅]
  .rw[q8 h1]at h;cases h
def Ir(h:atI xs i=some v):∃j,seqIndex? i xs.length=some j/\xs[j]?=some v/\j<xs.length/\-(xs.length:Int)<=i/\i<xs.length:=by
 unfold atI at h;cases e:ixN xs.length i with
 |none=>rw[e]at h;cases h
 |some j=>rw[e]at h;let#[h1,h2,J,B]:=Ie e;show#[j,h1,h,h2,J,B]
def lD(b:Expr):Prop:=∀o i,subscripted b false o i=operate [o,i] (getItem o i)
def rR(X:Cx)(r:R2):Prop:=
 ∀(J B:Expr)(zV:List (Addr×Obj))(s:Shared)(Z:St)(H:Hp)(x y:V)(v u:Value)(Q:VK),Inv X zV Z H s->zK x v->zK y u->r x y H Q->
  subscripted B false v u=operate [v,u] (getItem v u)->wpAny (model X.prog X.w) X.A (subscriptTail J B v u) (EP X zV Z Q) X.xe s
def pb(X:Cx)(id:String)(r:V->List V->Hp->VK->Prop):Prop:=
 ∀(zV:List (Addr×Obj))(s:Shared)(Z:St)(H:Hp)(x:V)(xs:List V)(v:Value)(us:List Value)(Q:VK),Inv X zV Z H s->zK x v->zS xs us->r x xs H Q->
  wpAny (model X.prog X.w) X.A (call (.builtin id) (v::us)) (EP X zV Z Q) X.xe s
section
def rR.or(h:rR X r)(h':rR X Y):rR X (λx y H Q=>r x y H Q\/Y x y H Q):=by
 intro B J zV s Z H x y v u Q I M L q O;rcases q with q|q
 .show h B J zV s Z H x y v u Q I M L q O
 .show h' B J zV s Z H x y v u Q I M L q O
def NF(M:rR X r)(Y:PE X a ta)(O:PE X b tb)(hs:lD b):PE X (.Subscript a b pos) (dk r ta tb):=by intro zV s Z H Q I h;show Subscript_ (EN Y O I h λv u B x y H2 I2 L J q=>M a b zV B Z H2 x y v u Q I2 L J q (hs _ _))
def yT(K:W.Frag):R2:=λx y H Q=>∃p xs i v,x=.ref p/\y=.int i/\bN K H p xs/\atI xs i=some v/\Q v H
def yR(K:W.Frag):R2:=λx y H Q=>∃p xs i v,x=.ref p/\y=.int i/\bM K H p xs/\atI xs i=some v/\Q v H
def yS:R2:=λx y H Q=>∃z i c,x=.str z/\y=.int i/\z.length<=sizeLine/\atI z.cps.toList i=some c/\Q (.str #[[c].toArray]) H
theorem zlk:rR X (yT X.K):=by
 intro J L zV s Z H x y v u Q I rx ry h hs;let#[p,xs,i,z,rfl,rfl,hq,he,q]:=h;cases rx;let#[t,rfl]:=ry;let#[Y,r,O,hz]:=I.list hq;let#[j,h1,h2,h3,h4,h5]:=Ir he;let#[w,ew,M]:=r.get h2;let hl:=r.length;let hn:=AR;let B:EP X zV Z Q w s:=#[z,H,I,M,q]
 by_cases h0:0<=i
 .let hj:i.toNat=j:=by rw[seqIndex_of h0 h5]at h1;exact qf h1
  show item_listR O.isList h0 ∅ (by rw[hj];simpa using ew) B hs
 .have hj:(i+(Y.toArray.size:Int)).toNat=j:=by rw[seqIndex_neg ∅ h4]at h1;rw[qr,<-hl];exact qf h1
  exact subscriptTail_builtinR (x:=w) O.isList.typeIs slot_list_getitem.lookup
   (wpAny_getItem_list_neg (Q:=λr s'=>r=w/\EP X zV Z Q r s') O.isList ∅ (by rw[qr]<;>lia) ∅ (by rw[hj];simpa using ew) #[rfl,B]) hs
theorem zmO:rR X (yR X.K):=by
 intro B J zV s Z H x y v u Q I rx Y h hs;let#[p,xs,i,z,rfl,rfl,hq,he,q]:=h;cases rx;let#[t,rfl]:=Y;let#[h6,r,O,hz]:=I.tuple hq;let#[j,h1,h2,h3,h4,h5]:=Ir he;let#[w,ew,L]:=r.get h2;let hl:=r.length;let hn:=AR;let M:EP X zV Z Q w s:=#[z,H,I,L,q]
 exact subscriptTail_builtinR (x:=w) O.typeIs slot_tuple_getitem.lookup
  (getItem_tuple (j:=j) (Q:=λr s'=>r=w/\EP X zV Z Q r s') O ∅ ∅ (by rw[qr,<-hl];show h1) ↑ew #[rfl,M]) hs
def OL:rR X yS:=by
 intro B J zV s Z H x y v u Q I M L h O;let#[z,i,c,rfl,rfl,hz,he,q]:=h;let#[t,rfl]:=M;let#[t',rfl]:=L;let#[j,h1,h2,h3,h4,h5]:=Ir he;let Y:z.cps.toList.length=z.length:=by simp[Str.length]
 rw[Y]at h1 h4 h5;let hn:=AR;show tail_any (typeIs_str s z t) slot_str_getitem.lookup (getItem_str (c:=c) (by let e1:decide (i< -(2^63:Int))=false:=qS ∅;let e2:decide (i≥2^63)=false:=qS ∅;rw[e1,e2,Bool.or_false]) (by rw[h1];simpa using h2) #[.str #[[c].toArray],H,I.tok _,#[_,rfl],q]) O
def dm(K:W.Frag):R2:=λx y H Q=>yT K x y H Q\/yR K x y H Q\/yS x y H Q
def OK:rR X (dm X.K):=zlk.or (zmO.or OL)
def Uk(B:List Value)(n j:Nat)(u:Value):Obj.mapSeq (·.setIfInBounds j u) {cls:=.type "list",data:=.seq B.toArray n}={cls:=.type "list",data:=.seq (B.set j u).toArray n}:=by simp[Obj.mapSeq]
def Inv.lst(I:Inv X zV Z H s)(h:H p=some (.lst xs)):
  ∃(B:List Value)(n:Nat),zS xs B/\s.heap.get? p=some {cls:=.type "list",data:=.seq B.toArray n}/\xs.length<=sizeLine:=by
 let#[z,B,n,r,e]:=I.hok p _ h;show#[B,n,r,e,z]
def Inv.lstUpd{B its':List Value}(I:Inv X zV Z H s)(h:H p=some (.lst xs))
  (M:s.heap.get? p=some {cls:=.type "list",data:=.seq B.toArray n})(L:f {cls:=.type "list",data:=.seq B.toArray n}={cls:=.type "list",data:=.seq its'.toArray J})(r:zS ys its')(hz:ys.length<=sizeLine)(t:Nat):
  Inv X zV Z (upd H p (.lst ys)) {s with heap:=s.heap.update p f,toks:=t}:=by
 let e:(s.heap.update p f).get? p=some {cls:=.type "list",data:=.seq its'.toArray J}:=by rw[zi f M (by rw[L]<;>rfl),L]
 show I.write (x:=p) (e:=p) (by rw[h];trivial) (.inl rfl) (λb u O q=>(zc _ _ (Ne.symm O)).trans q) #[_,e] ?_;show#[hz,its',J,r,e]
def yP:V->V->V->Hp->(Hp->Prop)->Prop:=λo i v H Q=>∃p xs k j,o=.ref p/\i=.int k/\H p=some (.lst xs)/\ixN xs.length k=some j/\Q (upd H p (.lst (xs.set j v)))
def So:br X yP:=by
 intro zV s Z H o i v ov iv u Q I ro ri rv h;let#[p,xs,k,j,rfl,rfl,O,hj,q]:=h;cases ro;let#[t,rfl]:=ri;let#[B,n,r,J,hz]:=I.lst O;let#[h1,h2,h3,Y]:=Ie hj;let L:=r.length;let hn:=AR;let I':Inv X zV Z (upd H p (.lst (xs.set j v))) {s with heap:=s.heap.update p (Obj.mapSeq (·.setIfInBounds j u))}:=
  I.lstUpd O J (Uk B n j u) (r.set rv j) (by rw[length_set];show hz) s.toks
 by_cases h0:0<=k
 .let M:k.toNat=j:=by rw[seqIndex_of h0 Y]at h1;exact qf h1
  show W.ki_setAt J h0 ∅ (by rw[qr,<-L];show Y) (by rw[M];show#[_,I',q])
 .let M:(k+(B.toArray.size:Int)).toNat=j:=by rw[seqIndex_neg ∅ h3]at h1;rw[qr,<-L];exact qf h1
  show W.ki_setBack J ∅ (by rw[qr,<-L];show h3) ∅ (by rw[M];show#[_,I',q])
def UK(lo hi:Option Int)(n:Nat):(sliceBounds lo hi none n).1=((HT.sIx n 0 lo:Nat):Int)/\(sliceBounds lo hi none n).2.1=((HT.sIx n n hi:Nat):Int)/\(sliceBounds lo hi none n).2.2=1:=by
 let B:∀(i:Int)(n d:Nat),max 0 (min (if i<0 then i+(n:Int)else i) (n:Int))=((HT.sIx n d (some i):Nat):Int):=λi n _=>Es i n;show#[?_,?_,rfl]
 .cases lo with
  |none=>rfl
  |some i=>show B i n 0
 .cases hi with
  |none=>rfl
  |some i=>show B i n n
def Va(B:List Value)(lo hi:Option Int):slicePick B.toArray lo hi none=((B.drop (HT.sIx B.length 0 lo)).take (HT.sIx B.length B.length hi-HT.sIx B.length 0 lo)).toArray:=by let#[h1,h2,J]:=UK lo hi B.toArray.size;unfold slicePick;rw[h1,h2,J];simp only[sliceRange_one,pick_run]<;>rfl
def yO(K:W.Frag):V->Option Int->Option Int->Hp->VK->Prop:=λx lo hi H Q=>∃a xs,x=.ref a/\bN K H a xs/\∀p,H p=none->Q (.ref p) (upd H p (.lst (iS xs lo hi)))
def QC:lN X (yO X.K):=by intro zV s Z H x v vl vu lo hi sl Q I L hs O M h;let#[a,xs,rfl,hx,q]:=h;cases L;let#[Y,r,J,hz]:=I.list hx;let B:=r.length;show#["list",_,slot_list_getitem.lookup,J.isList.typeIs,?_];show wpAny_getItem_list_slice J.isList hs O M .none (by simp) ?_ (by rw[qr]<;>lia);rw[Va,<-B];show#[.ref s.heap.objs.size,_,I.laid (t':=s.toks) (o:=.lst (iS xs lo hi)) (λb ob q=>qc _ q) (q9 _) ?_,rfl,q _ (I.hok.fresh (q9 _))];show#[le_trans (Nb xs lo hi) hz,_,0,(r.drop (HT.sIx xs.length 0 lo)).take (HT.sIx xs.length xs.length hi-HT.sIx xs.length 0 lo),qd _ rfl]
def UI:aZ X (.builtin "len") (λxs H Q=>∃p ys,xs=[.ref p]/\(bN X.K H p ys\/bM X.K H p ys)/\Q (.int ys.length) H):=by
 intro zV s Z H xs us Q I r h;let#[p,ys,rfl,J,q]:=h;let#[u,rfl,Y]:=vals1 r;cases Y;let hn:=AR;rcases J with J|J
 .obtain⟨O,L,M,hz⟩:=I.list J;let B:=L.length;show Calls.call_len_list M.isList (by simp<;>lia) #[.int ys.length,H,I.tok _,#[s.toks+1,by rw[qr,B]],q]
 .obtain⟨O,L,M,hz⟩:=I.tuple J;let B:=L.length;show len_tuple M (by simp<;>lia) #[.int ys.length,H,I.tok _,#[s.toks+1,by rw[qr,B]],q]
def Vf:aZ X (.builtin "len") (λxs H Q=>∃z,xs=[.str z]/\z.length<=sizeLine/\Q (.int z.length) H):=by intro zV s Z H xs B Q I r h;let#[z,rfl,J,q]:=h;let#[u,rfl,t,rfl]:=vals1 r;let L:=AR;show len_str ∅ #[.int z.length,H,I.tok _,#[_,rfl],q]
def Vg:aZ X (.type "list") (λxs H Q=>∃p ys,xs=[.ref p]/\(bN X.K H p ys\/bM X.K H p ys)/\∀l,H l=none->Q (.ref l) (upd H l (.lst ys))):=by
 intro zV s Z H xs us Q I r h;let#[p,ys,rfl,Y,q]:=h;let#[u,rfl,rx]:=vals1 r;cases rx;let h2:∀(B:List Value),zS ys B->ys.length<=sizeLine->∀(h':Heap)(L:Nat),(∀b o',s.heap.get? b=some o'->h'.get? b=some o')->
   h'.get? s.heap.objs.size=some {cls:=.type "list",dict:=none,data:=.seq B.toArray L,slots:=#[]}->EP X zV Z Q (.ref s.heap.objs.size) {s with heap:=h'}:=λB J O h' L M e=>
  #[.ref s.heap.objs.size,_,I.laid (t':=s.toks) M (q9 _) (show zU X.prog X.w _ h' _ (.lst ys) from#[O,B,L,J,e]),rfl,q _ (I.hok.fresh (q9 _))]
 rcases Y with Y|Y
 .obtain⟨B,J,pl,O⟩:=I.list Y;let h1:=J.length;let#[o,ho,hc,n,hd]:=pl.isList;show call_list_seq p (.inl rfl) ho hc hd (λh' L M e=>h2 B J O h' L M e) (by simp<;>lia)
 .obtain⟨B,J,pl,O⟩:=I.tuple Y;let h1:=J.length;let#[o,ho,hc,n,hd]:=pl;show call_list_seq p (.inr rfl) ho hc hd (λh' L M e=>h2 B J O h' L M e) (by simp<;>lia)
def Vd:aZ X (.type "tuple") (λxs H Q=>∃p ys,xs=[.ref p]/\((bN X.K H p ys/\∀l,H l=none->Q (.ref l) (upd H l (.tup ys)))\/(bM X.K H p ys/\Q (.ref p) H))):=by
 intro zV s Z H xs us Q I r h;let#[p,ys,rfl,h]:=h;let#[u,rfl,rx]:=vals1 r;cases rx;rcases h with⟨M,q⟩|⟨M,q⟩
 .obtain⟨B,J,L,O⟩:=I.list M;let Y:=J.length;show call_tuple_list L.isList (λh' kp=>?_) (by simp<;>lia);let I1:Inv X zV Z H {s with heap:=h'}:=I.kept (t':=s.toks) kp;let I2:Inv X zV Z (upd H h'.objs.size (.tup ys)) {s with heap:=h'.push {cls:=.type "tuple",data:=.seq B.toArray}}:=
   I1.laid (t':=s.toks) (λb o e=>qc _ e) (q9 _) (show zU X.prog X.w _ _ _ (.tup ys) from#[#[O,iV.new rfl (qd _ rfl)],B,J,IsTup.new _ _])
  show#[.ref h'.objs.size,_,I2,rfl,q _ (I1.hok.fresh (q9 _))]
 .obtain⟨B,J,L,O⟩:=I.tuple M;show call_tuple_same L #[.ref p,H,I,rfl,q]
def lx(K:W.Frag)(T:String)(x:V)(H:Hp):Prop:=match x with
 |.str _=>T="str"
 |.int _=>T="int"
 |.ref p=>(T="list"/\∃xs,bN K H p xs)\/(T="tuple"/\∃o,K.lookup p=some o/\o.cls=.type "tuple"/\o.dict=none)\/
  (T="dict"/\((∃zW,H p=some (.dK zW))\/∃zW,H p=some (.dT zW)))
 |_=>False
def OA(I:Inv X zV Z H s)(r:zK x v)(ty:lx X.K T x H):
  s.TypeIs v T/\∀a,v=.ref a->∃O,s.heap.get? a=some O/\O.dict=none:=by
 cases x with
 |str z=>let#[t,rfl]:=r;cases(show T="str" from ty);show#[typeIs_str s z t,λ_ e=>nomatch e]
 |int i=>let#[t,rfl]:=r;cases(show T="int" from ty);show#[typeIs_int s i t,λ_ e=>nomatch e]
 |ref p=>
  cases r;rcases ty with⟨rfl,xs,hq⟩|⟨rfl,o,B,hc,L⟩|⟨rfl,B⟩
  .obtain⟨Y,_,M,_⟩:=I.list hq;show#[M.isList.typeIs,λa e=>?_];cases e;let#[o,n,e,c,L,_]:=M;show#[o,e,L]
  .show#[#[o,I.kIn p o B,hc],λa e=>?_];cases e;show#[o,I.kIn _ o B,L]
  .have z:∃o,s.heap.get? p=some o/\o.ExactDict:=by
    rcases B with⟨J,B⟩|⟨J,B⟩
    .obtain⟨_,_,_,_,o,_,_,e,ex,_⟩:=I.hok p _ B;show#[o,e,ex]
    .obtain⟨_,_,_,_,o,_,_,e,ex,_⟩:=I.hok p _ B;show#[o,e,ex]
   let#[o,e,ex]:=z;show#[#[o,e,ex.1],λa e2=>?_];cases e2;show#[o,e,ex.2.1]
 |_=>show False.elim ty
def oa(K:W.Frag)(T:String)(r:V->List V->Hp->VK->Prop)(B:TE)(t:TA):TE:=λZ H Q=>B Z H λx H1=>lx K T x H1/\t Z H1 λxs H2=>r x xs H2 Q
variable{T id:String}
def ER(pa:PlainAttrs T)(slot:Slot T name id)(O:typeOf (.builtin id)=pure (.type "method_descriptor"))(hm:pb X id r)(ho:PE X o to)(ha:PA X (e::es) t)
  (L:attributeBase o name X.env (eval o X.env)=eval o X.env:=by rfl)
  (M:((backTo cpos (starEach (e::es) X.env)).all (λx=>!x.1)&&(backToKw cpos (keywordEach [] X.env)).all (λx=>x.1.isSome)
   &&decide ((e::es).length+([]:List Keyword).length+(if([]:List Keyword).isEmpty then 0 else 1)<30))=true:=by rfl)
  (J:(apos.endLine==cpos.line)=true:=by rfl)(hs:starEach (e::es) X.env=(false,eval e X.env)::starEach es X.env:=by rfl)(B:(backTo cpos (starEach es X.env)).any (·.1)=false:=by rfl):
  PE X (.Call (.Attribute o name apos) (e::es) [] cpos) (oa X.K T r to t):=by
 intro zV s Z H Q I h;show wpAny_Call_method_late L M J rfl (Am (ho zV s Z H _ I h) λv s1 zq=>?_);let#[x,H1,I1,Y,ty,q1]:=zq;let#[h1,h2]:=OA I1 Y ty;show#[T,id,pa,slot,O,h1,h2,?_];let hA:=ha cpos zV s1 Z H1 _ I1 q1;rw[hs]at hA⊢;show Calls.callWith_builtin (by show(false||(backTo cpos (starEach es X.env)).any (·.1))=false;rw[B]<;>rfl) (Calls.evalArgs_plain ?_);show Am hA λus s2⟨vs,H2,I2,r2,q2⟩=>hm zV s2 Z H2 x vs v us Q I2 Y r2 q2
end
def xV(X:Cx)(id:String)(r:V->List V->Hp->VK->Prop):Prop:=
 ∀(zV:List (Addr×Obj))(s:Shared)(Z:St)(H:Hp)(x:V)(xs:List V)(v:Value)(us:List Value)(Q:VK),Inv X zV Z H s->zK x v->zS xs us->r x xs H Q->
  wpAny (model X.prog X.w) X.A (call (.builtin id) (v::us)) (EP X zV Z Q) X.xe s
def zS.one:∀{x:V}{us:List Value},zS [x] us->∃u,us=[u]/\zK x u:=by
 intro x us h;cases h with
 |cons r t=>cases t;show#[_,rfl,r]
def zS.eraseIdx:∀{xs:List V}{us:List Value}(i:Nat),zS xs us->zS (xs.eraseIdx i) (us.eraseIdx i)
 |_,_,_,.nil=>.nil
 |_,_,0,.cons _ t=>t
 |_,_,i+1,.cons r t=>.cons r (zS.eraseIdx i t)
def Mi{α:Type}:∀(l:List α)(i:Nat),(l.eraseIdx i).length<=l.length
 |[],_=>q9 _
 |_::_,0=>le_succ _
 |_::r,i+1=>Nat.succ_le_succ (Mi r i)
def Inv.lset{B its':List Value}(I:Inv X zV Z H s)(Y:H l=some (.lst xs))
  (e:s.heap.get? l=some {cls:=.type "list",data:=.seq B.toArray n})(M:f B.toArray=its'.toArray)(J:zS ys its')(hz:ys.length<=sizeLine):
  Inv X zV Z (upd H l (.lst ys)) {s with heap:=s.heap.update l (Obj.mapSeq f),toks:=t'}:=by
 let q:=PySem.IsL.update e f;rw[M]at q;show I.write (x:=l) (e:=l) (by rw[Y];show trivial) (.inl rfl) (λb' u O L=>(zc s.heap (Obj.mapSeq f) (Ne.symm O)).trans L) #[_,q] ?_;show#[hz,its',_,J,q]
def Inv.lnew(I:Inv X zV Z H s)(J:zS ys B)(hz:ys.length<=sizeLine):
  Inv X zV Z (upd H s.heap.objs.size (.lst ys)) {s with heap:=s.heap.push {cls:=.type "list",data:=.seq B.toArray},toks:=t'}:=
 I.laid (λ_ _ q=>qc _ q) (q9 _) #[hz,B,0,J,qd _ rfl]
def Inv.fresh(I:Inv X zV Z H s):H s.heap.objs.size=none:=I.hok.fresh (q9 _)
def Inv.lstM(I:Inv X zV Z H s)(J:H l=some (.lst xs)):xs.length<=sizeLine/\∃(B:List Value)(n:Nat),zS xs B/\xs.length=B.length/\s.heap.get? l=some {cls:=.type "list",data:=.seq B.toArray n}:=by let#[z,B,n,r,e]:=I.hok l _ J;show#[z,B,n,r,r.length,e]
def BR(h:n<=sizeLine):Builtin.List.listTooLong n=false:=by grind[Builtin.List.listTooLong]
def pJ:V->List V->Hp->VK->Prop:=λx vs H Q=>∃l xs y,x=.ref l/\vs=[y]/\H l=some (.lst xs)/\xs.length<sizeLine/\Q .non (upd H l (.lst (xs++[y])))
def Jd:xV X "list.append" pJ:=by intro zV s Z H x vs v Y Q I L M h;let#[l,xs,y,rfl,rfl,J,hz,q]:=h;cases L;let#[u,rfl,O]:=M.one;let#[z,B,n,r,hl,e]:=I.lstM J;show call_meets F.slot_list_append #[_,e,rfl] F.entry_list_append (F.args_list_append_2 _ _) (PySem.list_append l B.toArray n u (by rw[qr];lia)) #[e,?_];show#[.non,_,I.lset (its':=B++[u]) J e (by simp) (r.append (.cons O .nil)) ?_,rfl,q];rw[qq,qB];lia
def pI:V->List V->Hp->VK->Prop:=λx vs H Q=>∃l b xs B,x=.ref l/\vs=[.ref b]/\H l=some (.lst xs)/\H b=some (.lst B)/\xs.length+B.length<=sizeLine/\Q .non (upd H l (.lst (xs++B)))
def SN:xV X "list.extend" pI:=by
 intro zV s Z H x vs v us Q I O Y h;let#[l,b,xs,zs,rfl,rfl,M,hB,hz,q]:=h;cases O;let#[u,rfl,ru]:=Y.one;cases ru;let#[z,J,n,r,hl,e]:=I.lstM M;let#[z2,B,n2,r2,h2,e2]:=I.lstM hB;let h1:J.toArray.size+B.toArray.size<=sizeLine:=by rw[qr,qr];lia
 let L:¬(!J.toArray.isEmpty&&Builtin.List.listTooLong (J.toArray.size+B.toArray.size))=true:=by grind[BR]
 refine call_meets F.slot_list_extend #[_,e,rfl] F.entry_list_extend (F.args_list_extend_2 _ _)
  (AutoSeq1.list_extend_list_list_0 l J.toArray n b B.toArray n2 L (by rw[qr];lia) ∅) #[e,e2,?_]
 show#[.non,_,I.lset (its':=J++B) M e (by simp) (r.append r2) ?_,rfl,q];rw[qq];lia
def uQ:V->List V->Hp->VK->Prop:=λx vs H Q=>∃l xs i k y,x=.ref l/\vs=[.int i]/\H l=some (.lst xs)/\-(2^63)<=i/\i<2^63/\seqIndex? i xs.length=some k/\xs[k]?=some y/\Q y (upd H l (.lst (xs.eraseIdx k)))
def Rw:xV X "list.pop" uQ:=by
 intro zV s Z H x vs v us Q I M O h;let#[l,xs,i,k,y,rfl,rfl,L,h1,h2,hk,hy,q]:=h;cases M;let#[u,rfl,Y]:=O.one;let#[t,rfl]:=Y;let#[z,B,n,r,hl,e]:=I.lstM L;let#[w,hw,J]:=r.get hy;refine call_meets F.slot_list_pop #[_,e,rfl] F.entry_list_pop (F.args_list_pop_2 _ _)
  (MeetsSeq.list_pop_at l B.toArray n i t k w (fitsIndex_both h1 h2) (by rw[qr,<-hl];show hk) (by rw[<-qZ];show hw) (by rw[qr];lia)) #[e,?_]
 show#[y,_,I.lset (its':=B.eraseIdx k) L e ?_ (r.eraseIdx k) ?_,J,q]
 .show B.toArray.eraseIdxIfInBounds k=(B.eraseIdx k).toArray;rw[List.eraseIdxIfInBounds_toArray]
 .let:=Mi xs k;lia
end L2
namespace Att
open PySem PySem.W PySem.Calls PyProof.Rows
def Vj:∀(ns:List Int)(vs:List Value),WellAll P h vs (ns.map WData.int)->IntsAre vs ns:=by
 intro ns;induction ns with
 |nil=>intro vs w;cases w;show .nil
 |cons n ns B=>
  intro vs w;cases w with
  |cons a b=>cases a;show .cons _ _ (B _ b)
def RR{l:OpenLaw}(hn:l.most=some n)
  (B:l.row.toRowW.claim.pre args=true)(O:WellAll P h vals args):
  ∃a vs ns,vals=[Value.ref a]/\args=[WData.list (ns.map WData.int)]/\h.get? a=some {cls:=.type "list",data:=.seq vs.toArray}/\IntsAre vs ns/\ns.length<=n:=by
 have Y:WShape.hasAll [] args [.list .int]=true:=(pre_splitW B).1;let hc:l.pre.holds [] {args:=args}=true:=(pre_splitW B).2;let#[d,r,rfl,h1,h2]:=hasAllW_cons Y;obtain rfl:=hasAllW_nil h2;let#[xs,rfl,h3]:=hasW_list h1;let#[ns,rfl]:=items_int h3;let J:ns.length<=n:=by
  let M:(WTm.not (.lt (.lit (.int (n:Int))) (.len (.arg 0)))).holds [] {args:=[.list (ns.map .int)]}=true:=by let M:=(holds_andW hc).1;rw[hn]at M;show M
  let h5:=condW_of M (w_not (w_lt w_lit (w_len_list (w_arg rfl))));grind
 cases O with
 |cons w1 w2=>
  cases w2;cases w1 with
  |list ho L=>show#[_,_,ns,rfl,rfl,ho,Vj ns _ L,J]
def SJ(l:OpenLaw)(args:List WData):l.row.toRowW.claim.post args (.bool true) args=true:=
 postW_of (r:=l.row.toRowW) (X:=(true==true))
  (show WShape.has [] (.bool true) .bool=true by first|rfl|decide|simp)
  (show(WTm.eq .res (.lit (.bool true))).value [] {args:=args,res:=some (.bool true),after:=args}=some (.bool (true==true)) from w_eq_bool (w_res rfl) w_lit) rfl
theorem attach_call{l:OpenLaw}
  (hn:l.most=some n)(h8:d.params.defaults=[])
  (call:∀(w:World)(J B:Shared)(mg mb:Str->Option Value)(fa:Addr)(o:Obj)(pm cd M:Value)(a:Addr)(vs:List Value)(ns:List Int),
   Ground q loose [] XP w J mg mb B.heap->YP w B.heap->
   B.heap.get? fa=some o->o.data=.func (docDef d.name d.params d.body d.scope pm cd M)->B.heap.CodeRec cd d.name->mg d.name=some (.ref fa)->
   B.heap.get? a=some {cls:=.type "list",data:=.seq vs.toArray}->IntsAre vs ns->ns.length<=n->B.gens=#[]->
   codeAny (model l.prog w) callerA (.call (.ref fa) #[[.ref a],[]]) (λr s'=>r=.ok (.ret (.bool true))/\OldK B.heap s'.heap/\s'.os=B.os/\AllBare s'.gens) B):
  WalkO q loose XP YP l.row.toRowW d [] (λf vs=>PySem.call f vs):=by
 intro w J B mg mb G Y fa o pm cd M dV kV ho hd h9 hD h7 hg args e1 as O e2 e3 h6 e4;obtain rfl:dV=.none:=Dflts.none hD h8;obtain rfl:kV=.none:=Dflts.noKw hD;let#[a,vs,ns,rfl,rfl,h1,L,h5]:=RR hn O h6;show enter_call (codeAny_mono (call w J B mg mb fa o pm cd M a vs ns G Y ho (fd_plain hd) h9 h7 h1 L h5 hg) λr s' hq=>?_);let#[rfl,h2,h3,h4]:=hq;show#[.inl #[.bool true,.bool true,[],rfl,λ_=>rfl,.bool true,SJ l _,λ_=>#[List.Pairwise.nil,λ_ hm=>(nomatch hm)]],h2,h3,h4]
end Att
namespace L2
open PySem PySem.Spec PyProof.Rows
def Fm:∀{vs:List Value}{ns:List Int},IntsAre vs ns->zS (ns.map V.int) vs
 |_,_,.nil=>.nil
 |_,_,.cons n t h=>.cons #[t,rfl] (Fm h)
def xI(H:Hp):Prop:=∀b,H b=none\/∃o xs,H b=some (.frz o (.lst xs))
def Ra{K:W.Frag}
  (KX:K.In B.heap)(h6:B.heap.Ns mainGlobals mg)(Y:B.heap.Ns builtinsNs mb)(e4:∀x:Str,x≠"__name__"->mb x=bootBuiltins x)(h7:B.heap.NoLimit)(hg:B.gens=#[])
  (ha:B.heap.get? a=some {cls:=.type "list",data:=.seq vs.toArray})(hi:IntsAre vs ns)(hl:ns.length<=sizeLine)(hr:bX k callerA)
  (F:∀base:Heap,K.In base->base.Ns mainGlobals mg->fL P w K mg base CX k fa fd [x] sp)(O:∀(s:Shared)(u:Value),BindsTo s fd #[[u],[]] [(x,u)])
  (e3:∀H:Hp,xI H->bN K H a (ns.map V.int)->sp [.ref a] H (λv _=>v=.bl true) λ_ _ _=>False)
  (hx:∀H e s',CX [] H B (λ_ _ _=>False) e s'->False):
  codeAny (model P w) callerA (.call (.ref fa) #[[.ref a],[]]) (λr s'=>r=.ok (.ret (.bool true))/\OldK B.heap s'.heap/\s'.os=B.os/\AllBare s'.gens) B:=by
 let rv:=Fm hi;let h3:=hi.length
 --from an abstract heap in which nothing but the script may be tracked
 have M:∀H:Hp,xI H->bN K H a (ns.map V.int)->eC P w H B.heap->(∀b,H b≠none->b=a)->(H a≠none->K.lookup a=none)->
   codeAny (model P w) callerA (.call (.ref fa) #[[.ref a],[]]) (λr s'=>r=.ok (.ret (.bool true))/\OldK B.heap s'.heap/\s'.os=B.os/\AllBare s'.gens) B:=by
  intro H hO hS h5 hA hK;let J:∀{b:Addr}{o:Obj},B.heap.get? b=some o->H b=none->(iA B.heap H).get? b=some o:=λe n=>Ri e n;let h9:∀{b:Addr}{o:Obj}{es:Array DictEntry}{ep:Nat},B.heap.get? b=some o->o.data=.dict es ep->H b=none:=λ{b o es ep} e d=>by
   cases q:H b with
   |none=>rfl
   |some u=>grind
  let L:∀{b:Addr}{m:Str->Option Value},B.heap.Ns b m->(iA B.heap H).Ns b m:=λ{b m}⟨o,es,ep,e,d,r⟩=>#[o,es,ep,J e (h9 e d),d,r]
  have h8:K.In (iA B.heap H):=λb o e=>J (KX b o e) (by
   cases q:H b with
   |none=>rfl
   |some u=>have e':b=a:=hA b (by rw[q];simp);subst e';rw[hK (by rw[q];simp)]at e;cases e)
  let hM:Mod K mg (iA B.heap H):=#[h8,L h6,#[mb,L Y,e4],let#[mc,h1,h2]:=h7;#[mc,L h1,h2]]
  let e0:rS P w K mg (iA B.heap H) callerA [] B H:=#[rfl,hM,λb o e=>Qz e,Nat.le_of_eq (SS _ _),trivial,λb Y=>absurd (show b∈([]:List Addr) from Y) (by simp),h5,.of_eq hg]
  show codeAny_mono ((F _ h8 (L h6)).run callerA [] B H #[[.ref a],[]] [.ref a] [.ref a] _ _ hr e0 (O B (.ref a)) (.cons rfl .nil) (e3 H hO hS)) λr s' h=>?_;cases r with
  |error e=>show(hx H e s' h).elim
  |ok fl=>
   cases fl with
   |next=>show False.elim h
   |brk=>show False.elim h
   |cont=>show False.elim h
   |ret u=>
    let#[v,H',os,bare,un,h4,r',q]:=h;let q':v=.bl true:=q;subst q';obtain rfl:u=Value.bool true:=r';show#[rfl,OldK.of_keep λb o e=>?_,os,bare];cases q:H b with
    |none=>show un.keep b o e q (by intro z;show absurd (show b∈([]:List Addr) from z) (by simp)) (by simp)
    |some u=>
     rcases hO b with z|⟨ob,xs,z⟩
     .rw[q]at z;cases z
     .let z2:=un.frzs b ob _ z;let#[e1,_]:=h5 b _ z;let#[e2,_]:=h4 b _ z2;rw[e]at e1;cases e1;show e2
 cases hk:K.lookup a with
 |some o=>
  --the script is one of the module's own objects
  let e:=KX a o hk;rw[ha]at e;cases e;show M (λ_=>none) (λ_=>.inl rfl) (.inr #[_,vs.toArray,_,hk,rfl,rfl,rfl,by rw[qr,h3];show hl,rv]) (λb u z=>by let z':(none:Option HO)=some u:=z;cases z') (λb z=>absurd rfl z) λz=>absurd rfl z
 |none=>
  show M (λb=>if b=a then some (.frz {cls:=.type "list",data:=.seq vs.toArray} (.lst (ns.map V.int)))else none) (λb=>?_) (.inl (.inr #[{cls:=.type "list",data:=.seq vs.toArray},q5 rfl])) (λb u z=>?_) (λb z=>?_) λ_=>hk
  .grind
  .by_cases Y:b=a
   .let z':=(q5 Y).symm.trans z;cases z';subst Y;show#[ha,by rw[qo];show hl,vs,_,rv,ha]
   grind
  grind
theorem walk_of{l:W.OpenLaw}{K:Params->W.Frag}{CX:World->cy}{sp:World->Sp}
  (hn:l.most=some n)(h2:n<=sizeLine)(h4:d.params.defaults=[])(hr:bX k callerA)
  (hY:∀(w:World)(h:Heap),YP w h->(K w.params).In h)
  (F:∀(w:World)(mg:Str->Option Value)(O:Addr)(h:Heap),(K w.params).In h->h.Ns mainGlobals mg->mg d.name=some (.ref O)->
   ∃fd:FuncData,(∀(s:Shared)(u:Value),BindsTo s fd #[[u],[]] [(x,u)])/\
    ∀base:Heap,(K w.params).In base->base.Ns mainGlobals mg->fL l.prog w (K w.params) mg base (CX w) k O fd [x] (sp w))
  (h1:∀(w:World)(H:Hp)(a:Addr)(ns:List Int),ns.length<=n->xI H->bN (K w.params) H a (ns.map V.int)->sp w [.ref a] H (λv _=>v=.bl true) λ_ _ _=>False)
  (h5:∀(w:World)(H:Hp)(s:Shared)(e:Value)(s':Shared),CX w [] H s (λ_ _ _=>False) e s'->False):
  W.WalkO q loose XP YP l.row.toRowW d [] (λf vs=>PySem.call f vs):=by
 show Att.attach_call hn h4 λw h6 L mg mb O o pm cd h8 a vs ns G Y ho hd h7 h3 M J B hg=>?_;let KX:=hY w _ Y;let#[fd,hb,hF]:=F w mg O _ KX G.T.g h3;show Ra KX G.T.g G.T.b G.T.builtins G.T.nolimit hg M J (le_trans B h2) hr hF hb (λH hO hS=>h1 w H a ns B hO hS) λH e s'=>h5 w H L e s'
def dQ(s:Stmt):Arguments:=match s with
 |.FunctionDef _ a _ _ _ _ _ _ _ _=>a
 |_=>{posonlyargs:=[],args:=[],vararg:=none,kwonlyargs:=[],kw_defaults:=[],kwarg:=none,defaults:=[]}
def cO(s:Stmt):List Stmt:=match s with
 |.FunctionDef _ _ b _ _ _ _ _ _ _=>b
 |_=>[]
def aA(s:Stmt):Scope:=match s with
 |.FunctionDef _ _ _ _ _ _ sc _ _ _=>sc
 |_=>{kind:=.function,names:=[],isGenerator:=false,isCoroutine:=false}
structure xM(K:W.Frag)(x qual:Str)(st:Stmt)(f:Addr)(fd:FuncData):Prop where
 ex:∃(oc:Value)(od:Option Addr)(kV doc pm:Value)(an:Option Addr)(cdv ct:Value)(osl:Array (Option Value)),
  fd=W.fnOf x qual (dQ st) (cO st) (aA st) .none kV doc pm an cdv ct/\K.lookup f=some #[oc,od,.func fd,osl]/\W.codeIn K cdv qual=true
 kp:W.keepIn K (.ref f)=true
section
variable{K:W.Frag}
def xM.binds{st:Stmt}(F:xM K x qual st f fd)
  (h:∀(kV B L:Value)(M:Option Addr)(J ct:Value)(us:List Value),us.length=ps.length->bindArgs (W.fnOf x qual (dQ st) (cO st) (aA st) .none kV B L M J ct) #[us,[]]=pure (ps.zip us)):Binds K fd ps []:=by
 let#[oc,od,kV,B,L,M,J,ct,O,rfl,lk,Y]:=F.ex;show .all (h kV B L M J ct)
def Of{st:Stmt}{kV J L B ct:Value}(l:K.lookup f=some #[oc,Y,.func (W.fnOf x qual (dQ st) (cO st) (aA st) .none kV J L O B ct),M])
  (c:W.codeIn K B qual=true)(k:W.keepIn K (.ref f)=true):xM K x qual st f (W.fnOf x qual (dQ st) (cO st) (aA st) .none kV J L O B ct):=#[#[oc,Y,kV,J,L,O,B,ct,M,rfl,l,c],k]
end
def Fq(B:bX k A):A.units+1<cLine:=Nat.lt_of_le_of_lt (Nat.add_le_add_left (by decide:1<=64) _) B.units
def zG(H H':Hp):Prop:=∀b o,H b=some o->H' b=some o
def zG.refl(H:Hp):zG H H:=λ_ _ h=>h
def zG.trans(a:zG H H1)(b:zG H1 H2):zG H H2:=λc o h=>b c o (a c o h)
structure lg(fs:List Addr)(e:Addr)(cls:Value)(dx:Option Addr)(a0:Option Value)(T:Addr)(h h':Heap):Prop where
 new:h.objs.size<=T
 keep:∀b o,b∉fs->b≠e->h.get? b=some o->h'.get? b=some o
 slot:∀b o,b∈fs->b≠e->h.get? b=some o->∃sl,h'.get? b=some {o with slots:=sl}
 rcd:∃oe vs,h'.get? e=some oe/\oe.cls=cls/\oe.dict=dx/\oe.data=.fields vs/\vs[0]?=a0/\vs[1]?=some (.ref T)
 trc:∃oT ts,h'.get? T=some oT/\oT.data=.fields ts/\ts[3]?=some .none
def Obj.dict_mapFields(o:Obj)(f:Array Value->Array Value):(o.mapFields f).dict=o.dict:=by unfold Obj.mapFields;split<;>rfl
def LY{base:Heap}{env:Env}{outer:List Env}{L e:Addr}{oe:Obj}{vs:Array Value}{head:Value}{hadNext:Bool}{Q:Unit->Shared->Prop}
  (hfr:A.frames=some (env::outer))(hl:s.heap.FunFrames base (env::outer))(hf:env.frame=some L)(he:s.heap.get? e=some oe)(hd:oe.data=.fields vs)(hsz:1<vs.size)
  (h:∀h' T,lg (iJ (env::outer)) e oe.cls oe.dict vs[0]? T s.heap h'->Q () {s with heap:=h'}):
  wpAny M A (do let a<-frameOf env;let pl<-entryPlaceOf L hadNext;let b<-EntryCells.newEntry head a .none (rawInt L) .none pl;setField (.ref e) 1 b) (λ_ s'=>wpAny M A (setFlight (.ref e) none) Q E s') E s:=by
 let hene:e∉iJ (env::outer):=λhm=>by let#[_,o,ho,hnf]:=hl.mem hm;rw[he]at ho;injection ho with ho;subst ho;show hnf vs hd
 refine qa (wpAny_frameOf_fun hfr hl hf λh₁ hs₁=>?_);show qa (wpAny_entryPlaceOf λpl hpl=>?_);show qa (zk ?_ (hpl.sizeOk5 _ _ _ _ _));let he₁:h₁.get? e=some oe:=(hs₁.2.1 e hene).trans he;let he₂:=qc (h:=h₁) {cls:=.type "traceback",dict:=none,data:=.fields ([head,.ref L,.none,rawInt L,.none]++(if pl.isEmpty then List.replicate 6 Value.none else pl)).toArray} he₁;show wpAny_setField he₂ hd hsz ?_;let hTe:h₁.objs.size≠e:=ne_of_gt (qe he₁);let hd₃:=Obj.data_mapFields hd (·.setIfInBounds 1 (Value.ref h₁.objs.size));let he₃:=zi (Obj.mapFields (·.setIfInBounds 1 (Value.ref h₁.objs.size))) he₂ (Obj.isFreed_of_fields hd₃);let hT₃:=(zc (h₁.push {cls:=.type "traceback",dict:=none,data:=.fields ([head,.ref L,.none,rawInt L,.none]++(if pl.isEmpty then List.replicate 6 Value.none else pl)).toArray})
  (Obj.mapFields (·.setIfInBounds 1 (Value.ref h₁.objs.size))) (Ne.symm hTe)).trans (qd h₁ rfl)
 refine qa (zj he₃ hd₃ (x:=.ref h₁.objs.size) (by simp[hsz]) ?_);show wpAny_setField hT₃ rfl (by simp<;>omega) (h _ h₁.objs.size ?_);let keep:∀b o,b≠e->h₁.get? b=some o->
   (((h₁.push {cls:=.type "traceback",dict:=none,data:=.fields ([head,.ref L,.none,rawInt L,.none]++(if pl.isEmpty then List.replicate 6 Value.none else pl)).toArray}).update e (Obj.mapFields (·.setIfInBounds 1 (Value.ref h₁.objs.size)))).update h₁.objs.size
     (Obj.mapFields (·.setIfInBounds 3 ((none:Option Addr).elim Value.none λf=>rawInt f)))).get? b=some o:=λb o hbe hb=>by
  let hbT:h₁.objs.size≠b:=ne_of_gt (qe hb);rw[zc _ _ hbT,zc _ _ (Ne.symm hbe)];show qc _ hb
 show#[by rw[hs₁.1];show q9 _,λb o hb hbe q=>keep b o hbe ((hs₁.2.1 b hb).trans q),λb o _ hbe q=>?_,?_,?_]
 .obtain⟨sl,hs⟩:=hs₁.2.2 b o q;show#[sl,keep b _ hbe hs]
 .show#[_,_,?_,Obj.cls_mapFields _ _,Obj.dict_mapFields _ _,hd₃,by rw[Array.getElem?_setIfInBounds_ne ⋯],by simp[hsz]];rw[zc _ _ hTe];show he₃
 .show#[_,_,zi _ hT₃ (Obj.isFreed_of_fields (Obj.data_mapFields rfl _)),Obj.data_mapFields rfl _,by first|(simp;done)|(rcases hpl with rfl|⟨_,_,_,_,_,_,_,rfl⟩<;>simp)]
def zU.there(x:zU P w H h a o):∃u,h.get? a=some u:=by
 cases o with
 |lst xs=>let#[_,_,_,_,e]:=x;show#[_,e]
 |tup xs=>let#[_,_,_,u,e,_]:=x;show#[_,e]
 |dK B=>let#[_,_,_,_,o,_,_,e,_]:=x;show#[_,e]
 |dT B=>let#[_,_,_,_,o,_,_,e,_]:=x;show#[_,e]
 |set vs=>
  rcases x with⟨_,⟨_,e⟩|⟨_,_,_,_,_,_,_,e,_⟩|⟨_,_,_,_,_,_,_,_,e,_⟩⟩
  .show#[_,e]
  .show#[_,e]
  .show#[_,e]
 |ins C dx fs=>let#[_,_,_,e,_]:=x;show#[_,e]
 |own y=>show x
 |xd fs=>let#[_,#[_,_,_,e,_],_]:=x;show#[_,e]
 |rng lo hi=>let#[_,_,_,e]:=x;show#[_,e]
 |frz J u=>show#[_,x.1]
 |tbl ps=>show#[_,(show h.get? a=some _ from x)]
 |met f y=>show#[_,(show h.get? a=some _ from x)]
 |ext φ=>show x.2.1
def iK(X:Cx)(zV:List (Addr×Obj))(H:Hp)(h:Heap)(e:Addr)(cls:Value)(dx:Option Addr):Prop:=cH X zV H e/\∃B vs,h.get? e=some B/\B.cls=cls/\B.dict=dx/\B.data=.fields vs/\
 (vs[1]?=some .none\/∃T J ts,vs[1]?=some (.ref T)/\T≠e/\cH X zV H T/\h.get? T=some J/\J.data=.fields ts/\ts[3]?=some .none)
def Iy{ch:List Addr}{h':Heap}(I:Inv X zV Z H s)(L:∀b∈ch,cH X zV H b)(B:∀b o,b∉iJ X.stack->b∉ch->s.heap.get? b=some o->h'.get? b=some o)(slot:∀b o,b∈iJ X.stack->b∉ch->s.heap.get? b=some o->∃sl,h'.get? b=some {o with slots:=sl}):
  Inv X zV Z H {s with heap:=h'}:=by
 let M:∀b u,H b=some u->b∉iJ X.stack/\b∉ch:=λb u z=>#[λq=>(by rw[I.stkFree b q]at z;cases z),λq=>(by rw[(L b q).1]at z;cases z)]
 show I.call (ch:=ch) (t':=s.toks) (d':=s.drawn) (g':=s.gens) #[λb o q _ Y O=>B b o Y O q,λb o q _ Y O=>slot b o Y O q,λ_ _ _ z _=>z,λb o q n=>?_,λ_ _ z=>z,λ_ _ _ z=>z,λb ps z=>#[#[],by rw[z];simp]] (λa o q=>?_) I.bare λb J=>?_
 .by_cases J:b∈iJ X.stack
  .obtain⟨sl,z⟩:=slot b o J n q;show#[_,z]
  .show#[o,B b o J n q]
 .show(I.hok a o q).stay (λb u J z=>?_) (λ_ z=>z) λ_ _ z=>z;rcases J with rfl|J
  .show B _ _ (M _ _ q).1 (M _ _ q).2 z
  .show B _ _ (M _ _ J).1 (M _ _ J).2 z
 .obtain⟨_,f1,_,f3,f4,f5⟩:=L b J;show#[f3,f1,f4,f5]
def LN{Q:Unit->Shared->Prop}(Y:X.stack=X.env::X.outer)(hf:X.env.frame=some X.env.locals)(I:Inv X zV Z H s)(F:iK X zV H s.heap e cls dx)
  (k:∀h',Inv X zV Z H {s with heap:=h'}->iK X zV H h' e cls dx->Q () {s with heap:=h'}):wpAny (model X.prog X.w) X.A (noteFrame (.ref e) X.env) (λ_ s'=>wpAny (model X.prog X.w) X.A (setFlight (.ref e) none) Q E s') E s:=by
 let#[fe,oe,vs,he,rfl,rfl,hd,ht]:=F;let h7:X.A.frames=some (X.env::X.outer):=Y▸I.ok.frames;let hl:s.heap.FunFrames X.base (X.env::X.outer):=Y▸I.stack;unfold noteFrame;simp only[hf];rcases ht with h1|⟨T,oT,ts,h1,h9,fT,hT,h6,h3⟩
 .show qa (zj he hd h1 ?_);show LY h7 hl hf he hd (Array.getElem?_eq_some_iff.mp h1).1 λh' T' L=>?_;rw[<-Y]at L;let I':Inv X zV Z H {s with heap:=h'}:=Iy (ch:=[e]) I (λb J=>by rw[qu.mp J];show fe) (λb o n1 O q=>L.keep b o n1 (λz=>O (by simp[z])) q) λb o n1 O q=>L.slot b o n1 (λz=>O (by simp[z])) q;let#[h4,h2,r1,r2,rd,r3,_,r5]:=L.rcd;let#[oT,ts,t1,t2,t3]:=L.trc;show k h' I' #[fe,h4,h2,r1,r2,rd,r3,.inr #[T',oT,ts,r5,λz=>absurd (qe he) (by let:=L.new;rw[z]at this;lia),I.fpOk L.new (I.hok.fresh L.new),t1,t2,t3]]
 .refine qa (zj he hd h1 ?_);show qa (zj hT h6 h3 ?_);show qa (wpAny_setField hT h6 (Array.getElem?_eq_some_iff.mp h3).1 ?_);let B:∀b,b≠T->(s.heap.update T (Obj.mapFields (·.setIfInBounds 3 Value.none))).get? b=s.heap.get? b:=λb J=>zc _ _ (Ne.symm J);let M:∀b o,s.heap.get? b=some o->(∀vs,o.data≠.fields vs)->b≠T:=λb o J h5 q=>by rw[q,hT]at J;injection J with J;subst J;exact h5 ts h6
  refine LY h7 (hl.of_keeps λb o J h5=>#[o,(B b (M b o J h5)).trans J,rfl]) hf ((B e (Ne.symm h9)).trans he) hd (Array.getElem?_eq_some_iff.mp h1).1 λh' T' L=>?_;rw[<-Y]at L;let h8:(s.heap.update T (Obj.mapFields (·.setIfInBounds 3 Value.none))).objs.size=s.heap.objs.size:=Heap.size_update ..;let I':Inv X zV Z H {s with heap:=h'}:=Iy (ch:=[e,T]) I (λb J=>by
   rcases qA.mp J with rfl|J
   .show fe
   .rw[qu.mp J];show fT) (λb o n1 O q=>L.keep b o n1 (λz=>O (by simp[z])) ((B b λz=>O (by simp[z])).trans q)) λb o n1 O q=>L.slot b o n1 (λz=>O (by simp[z])) ((B b λz=>O (by simp[z])).trans q)
  let#[h4,h2,r1,r2,rd,r3,_,r5]:=L.rcd;let#[oT,ts,t1,t2,t3]:=L.trc;let hn:s.heap.objs.size<=T':=h8▸L.new;show k h' I' #[fe,h4,h2,r1,r2,rd,r3,.inr #[T',oT,ts,r5,λz=>absurd (qe he) (by rw[z]at hn;lia),I.fpOk hn (I.hok.fresh hn),t1,t2,t3]]
def Sk{Q:Unit->Shared->Prop}(B:X.stack=X.env::X.outer)(J:X.env.frame=some X.env.locals)(I:Inv X zV Z H s)(F:iK X zV H s.heap e cls dx)
  (k:∀h',Inv X zV Z H {s with heap:=h'}->iK X zV H h' e cls dx->Q () {s with heap:=h'}):wpAny (model X.prog X.w) X.A (leaving X.env (.ref e)) Q E s:=by
 show qa (LN B J I F k)
def TC{Q:Unit->Shared->Prop}(I:Inv X zV Z H s)(F:iK X zV H s.heap e cls dx)
  (k:∀h',Inv X zV Z H {s with heap:=h'}->iK X zV H h' e cls dx->Q () {s with heap:=h'}):wpAny (model X.prog X.w) A (setFlight (.ref e) none) Q E s:=by
 let#[fe,oe,vs,O,rfl,rfl,Y,ht]:=F;rcases ht with h1|⟨T,oT,ts,h1,M,fT,hT,J,h3⟩
 .show qa (zj O Y h1 ?_);show qb (k s.heap I #[fe,oe,vs,O,rfl,rfl,Y,.inl h1])
 .refine qa (zj O Y h1 ?_);let L:=(Array.getElem?_eq_some_iff.mp h3).1;show wpAny_setField hT J L ?_;let B:∀b,b≠T->(s.heap.update T (Obj.mapFields (·.setIfInBounds 3 ((none:Option Addr).elim Value.none λf=>rawInt f)))).get? b=s.heap.get? b:=λb hb=>zc _ _ (Ne.symm hb);refine k _ (Iy (ch:=[T]) I (λb hb=>by rw[qu.mp hb];show fT) (λb o n1 n2 q=>(B b λz=>n2 (by simp[z])).trans q) λb o n1 n2 q=>#[o.slots,(B b λz=>n2 (by simp[z])).trans q])
   #[fe,oe,vs,(B e (Ne.symm M)).trans O,rfl,rfl,Y,.inr #[T,_,_,h1,M,fT,zi _ hT (Obj.isFreed_of_fields (Obj.data_mapFields J _)),Obj.data_mapFields J _,by simp[L]]]
def Inv.fpNew(I:Inv X zV Z H s)(M:s.heap.get? b=none)(hn:H' b=none):cH X zV H' b:=by
 let no:∀o,s.heap.get? b=some o->False:=λo z=>by rw[M]at z;cases z
 show#[hn,λz=>?_,λz=>?_,?_,λx c q z=>?_,λp L z=>?_]
 .obtain⟨m,⟨o,_,_,B,_⟩,_⟩:=I.loc;rw[<-z]at B;show no o B
 .obtain⟨_,o,B,_⟩:=I.funs.mem z;show no o B
 .by_cases J:b∈X.ex
  .show .inl J
  .show .inr ?_;cases q:X.s₀.heap.get? b with
   |none=>rfl
   |some o=>let#[o',z]:=I.base.there b o q J;show(no o' z).elim
 .obtain⟨v,o,B,_⟩:=I.cell x c q;rw[z]at B;show no o B
 .let:=(I.pin p L).1;rw[z]at this;show no _ this
def cH.few(f:cH X zV H b):cH X [] H b:=#[f.1,f.2.1,f.2.2.1,f.2.2.2.1,f.2.2.2.2.1,λp B=>f.2.2.2.2.2 p (qj _ ↑B)]
def iK.few(F:iK X zV H h e cls dx):iK X [] H h e cls dx:=by let#[f,J,vs,h1,h2,M,Y,O]:=F;show#[f.few,J,vs,h1,h2,M,Y,O.imp id ?_];rintro⟨T,L,B,a1,a2,a3,a4⟩;show#[T,L,B,a1,a2,a3.few,a4]
def Inv.few(I:Inv X zV Z H s):Inv X [] Z H s:=I.pins_of λp B=>I.pin p (qj _ ↑B)
def gO(P:Program)(w:World):cy:=λB H s E e s'=>∃a cls dx H',e=.ref a/\s'.os=s.os/\AllBare s'.gens/\Un (iJ B) [] H H' s.heap s'.heap/\eC P w H' s'.heap/\E cls dx H'/\s.heap.get? a=none/\H' a=none/\
 ∃J vs,s'.heap.get? a=some J/\J.cls=cls/\J.dict=dx/\J.data=.fields vs/\(vs[1]?=some .none\/∃T L ts,vs[1]?=some (.ref T)/\T≠a/\s.heap.get? T=none/\H' T=none/\s'.heap.get? T=some L/\L.data=.fields ts/\ts[3]?=some .none)
section
variable{K:W.Frag}
def QG(I:Inv (eT (gO P w) P w K mg base N qual scope f B A outer s H E) [] Z H' s')(F:iK (eT (gO P w) P w K mg base N qual scope f B A outer s H E) [] H' s'.heap e cls dx)(q:E cls dx H'):
  (eT (gO P w) P w K mg base N qual scope f B A outer s H E).xe (.ref e) s':=by
 show Sk (X:=eT (gO P w) P w K mg base N qual scope f B A outer s H E) rfl rfl I F λh' J F'=>?_;let#[M,oe,vs,h1,h2,hd,h3,h4]:=F';let L:∀{b},cH (eT (gO P w) P w K mg base N qual scope f B A outer s H E) [] H' b->s.heap.get? b=none:=λ{b} z=>z.2.2.2.1.resolve_left λz=>by cases z
 show#[e,cls,dx,H',rfl,J.os,J.bare,J.base,J.hok,q,L M,M.1,oe,vs,h1,h2,hd,h3,h4.imp id ?_];rintro⟨T,oT,Y,a1,a2,O,a4⟩;show#[T,oT,Y,a1,a2,L O,O.1,a4]
end
def Qa(I:Inv X zV Z H s)(h:gO X.prog X.w X.stack H s E u s'):∃a cls dx H',u=.ref a/\Inv X zV Z H' s'/\iK X zV H' s'.heap a cls dx/\E cls dx H':=by let#[a,cls,dx,H',rfl,ho,hg,un,B,q,Y,O,L,vs,h1,h2,hd,h3,h4]:=h;show#[a,cls,dx,H',rfl,I.call' ho un B hg (λb z=>absurd z (by simp)),#[I.fpNew Y O,L,vs,h1,h2,hd,h3,h4.imp id ?_],q];rintro⟨T,M,J,a1,a2,a3,a4,a5⟩;show#[T,M,J,a1,a2,I.fpNew a3 a4,a5]
@[inline]def XW(X:Cx)(Z:St):XK:=λcls dx H'=>∀(a:Addr)(s':Shared),Inv X [] Z H' s'->iK X [] H' s'.heap a cls dx->X.xe (.ref a) s'
def tU(X:Cx)(sp:Sp)(t:TA):TE:=λZ H Q=>t Z H λvs H1=>sp vs H1 Q (XW X Z)
def QK(F:fL X.prog X.w X.K X.mg X.base (gO X.prog X.w) k f fd ps sp)(hr:bX k X.A)(hg:Gl X x)(hm:X.mg x=some (.ref f))(hk:W.keepIn X.K (.ref f)=true)(hb:Binds X.K fd ps [])
  (ha:PA X (e::es) t)(O:(x==("__debug__":Str))=false:=by decide)(he:starEach (e::es) X.env=(false,eval e X.env)::starEach es X.env:=by rfl)(M:(backTo pos (starEach es X.env)).any (·.1)=false:=by rfl):
  PE X (.Call (.Name x p) (e::es) [] pos) (tU X sp t):=by
 intro zV s Z H Q I h;show wpAny_Call_Name_kw (HY I hg hm ?_ O);show W.callWith_K (h₀:=X.base) I.ok.mod.kin hk (Am (ha pos zV s Z H _ I h) λL Y zq=>?_) he M;let#[vs,H1,J,r,q]:=zq;show#[J.kIn,?_];let hl:(L++[]).length=ps.length:=by rw[qz,<-r.length];show F.len _ _ _ _ q
 show wpAny_call (codeAny_mono (F.run X.A X.stack Y H1 #[L,[]] L vs Q (XW X Z) hr J.env0 (by let:=hb Y L J.kIn hl;rwa[qz]at this) r q) λr s' B=>?_);cases r with
 |error e=>let#[a,cls,dx,H',rfl,I',F',q']:=Qa J B;show q' a s' I'.few F'.few
 |ok fl=>
  cases fl with
  |ret u=>show J.after B
  |next=>show False.elim B
  |brk=>show False.elim B
  |cont=>show False.elim B
def tR(X:Cx)(C:Addr):TS:=λ_ Z H=>XW X Z (.ref C) none H
def Rq(O:OwnCls x C bm newId X.mg X.base)(L:ExcBaseFacts B newId initId bm)(hc:X.calm=true)(hg:Gl X x)(hd:(x==("__debug__":Str))=false:=by decide):
  PS X (.Raise (some (.Call (.Name x np) [] [] cpos)) none pos) (tR X C):=by
 intro zV s Z H D I h;let#[M,N,nm,q,bs,hdct,sn,sub,ab,col,dd,k0,k1,k2,k3,k5,mN,hC,hN,J,T]:=(O.keeps λb o z=>(I.bs b o z).1).obj;refine wpAny_Raise_call_subT (C:=C) (nm:=nm) (q:=q) (N:=N) (bs:=bs) (bm:=M) (hdct:=hdct) (sn:=sn) (sub:=sub) (ab:=ab) (col:=col) (dd:=dd) (k0:=k0) (k1:=k1) (k2:=k2) (k3:=k3) (k5:=k5)
  L (mN:=mN) (T.hasType L.hasBase) (I.ok.hd hc) rfl J (HY I hg O.bound #[rfl,?_] hd)
 refine evalArgs_empty #[rfl,zero_le _,hC,hN,T,λh' e m=>?_];let I':Inv X zV Z H {s with heap:=h'}:=I.kept (t':=s.toks) m.keeps;let#[t,he,_,_]:=m.there;let Y:H e=none:=by
  cases z:H e with
  |none=>rfl
  |some o=>let#[v,z]:=zU.there (I.hok e o z);rw[m.new]at z;cases z
 show h e _ I'.few (iK.few #[I.fpNew m.new Y,_,_,he,rfl,rfl,rfl,.inl rfl])
section
variable{K:W.Frag}
def xM.okX{st:Stmt}(F:xM K x qual st f fd)(S:aD N ps (aA st))(len:∀vs H Q E,sp vs H Q E->vs.length=ps.length)
  (L:∀(J:Value)(A:Around)(B:List Env)(s:Shared)(H:Hp)(vs:List V)(Q:VK)(E:XK),bX k (A.deeper (envOfC qual (aA st) s.heap.objs.size f J))->sp vs H Q E->
   ∃t,iY (eT (gO P w) P w K mg base N qual (aA st) f J A B s H E) (cO st) t/\t {nx:=λ_ H'=>Q .non H',rt:=Q} (start N vs) H):fL P w K mg base (gO P w) (k+1) f fd ps sp:=by
 let#[oc,od,kV,h1,pm,an,J,ct,Y,rfl,lk,O]:=F.ex;show Nk lk O S len λA B s H vs Q E hr M=>L J A B s H vs Q E hr M
end
end L2
namespace FL
open PySem
inductive D where
 |non
 |bl(b:Bool)
 |int(i:Int)
 |str(l:List Nat)
 |tup(l:List D)
 |lst(l:List D)
 |dct(t:Bool)(ks vs:List D)
 |set(l:List D)
 |exc(c:List Nat)(fs:List (List Nat))(vs:List D)
 deriving Inhabited
inductive S where
 |sh(d:D)
 |lst(l:List S)
 |dct(t:Bool)(ks:List D)(vs:List S)
 |set(l:List D)
 deriving Inhabited
mutual
@[inline]def S.toD:S->D
 |.sh d=>d
 |.lst l=>.lst (S.toDs l)
 |.dct t ks vs=>.dct t ks (S.toDs vs)
 |.set l=>.set l
@[inline]def S.toDs:List S->List D
 |[]=>[]
 |s::r=>S.toD s::S.toDs r
end
@[simp] theorem S.toDs_map:∀l:List S,S.toDs l=l.map S.toD
  |[]=>rfl
  |s::r=>by rw[S.toDs,S.toDs_map r,qy]
@[simp] theorem S.toD_sh(d:D):(S.sh d).toD=d:=rfl
@[simp] theorem S.toD_lst(l:List S):(S.lst l).toD=.lst (l.map S.toD):=by rw[<-S.toDs_map];rfl
@[simp] theorem S.toD_dct(t:Bool)(ks:List D)(l:List S):(S.dct t ks l).toD=.dct t ks (l.map S.toD):=by rw[<-S.toDs_map];rfl
@[simp] theorem S.toD_set(l:List D):(S.set l).toD=.set l:=rfl
@[inline]def S.isSh:S->Bool
 |.sh _=>true
 |_=>false
@[inline]def S.flat:S->Bool
 |.sh _=>true
 |.lst l=>l.all S.isSh
 |.dct _ _ vs=>vs.all S.isSh
 |.set _=>false
inductive R where
 |v(s:S)
 |loc(i:Nat)
abbrev Env:=List (Option S)
abbrev WQ:=R->Env->Prop
abbrev WX:=D->Env->Prop
@[inline]def NX:WX:=λ_ _=>False
abbrev WE:=Env->WQ->WX->Prop
abbrev WT:=Env->(Bool->Env->Prop)->WX->Prop
abbrev WA:=Env->(List R->Env->Prop)->WX->Prop
structure Ends where
 nx:Env->Prop
 rt:WQ
 bk:Env->Prop
 ct:Env->Prop
 ex:WX
abbrev WS:=Ends->Env->Prop
def slot(U:Env)(i:Nat):Option S:=match U,i with
 |[],_=>none
 |s::_,0=>s
 |_::r,i+1=>slot r i
@[simp] theorem Vs(s:Option S)(r:Env):slot (s::r) 0=s:=rfl
@[simp] theorem Vt(s:Option S)(r:Env)(i:Nat):slot (s::r) (i+1)=slot r i:=rfl
def view(r:R)(U:Env):Option D:=match r with
 |.v s=>some s.toD
 |.loc i=>(slot U i).map S.toD
def zR(r:R)(U:Env):Option D:=match r with
 |.v s=>some s.toD
 |.loc i=>match slot U i with
  |some s=>if s.flat then some s.toD else none
  |none=>none
def give(r:R)(U:Env):Option (S×Env):=match r with
 |.v s=>some (s,U)
 |.loc i=>match slot U i with
  |some s=>some (.sh s.toD,U.set i (some (.sh s.toD)))
  |none=>none
def aI:List R->Env->Option (List S×Env)
 |[],U=>some ([],U)
 |r::rs,U=>match give r U with
  |some (s,U1)=>match aI rs U1 with
   |some (ss,U2)=>some (s::ss,U2)
   |none=>none
  |none=>none
def ixN(n:Nat)(i:Int):Option Nat:=if 0<=i then(if i<n then some i.toNat else none)else if -(n:Int)<=i then some (i+n).toNat else none
def atI{α:Type}(xs:List α)(i:Int):Option α:=(ixN xs.length i).bind λj=>xs[j]?
def sIx(n d:Nat):Option Int->Nat
 |none=>d
 |some i=>if i<0 then(i+n).toNat else min i.toNat n
def aU{α:Type}(xs:List α)(lo hi:Option Int):List α:=(xs.drop (sIx xs.length 0 lo)).take (sIx xs.length xs.length hi-sIx xs.length 0 lo)
def big:Nat:=1000000
def zF{α:Type}(o:Option α)(k:α->Prop):Prop:=match o with
 |some a=>k a
 |none=>False
@[simp] theorem Ml{α:Type}(a:α)(k:α->Prop):zF (some a) k=k a:=rfl
@[simp] theorem Vv{α:Type}(k:α->Prop):zF (none:Option α) k=False:=rfl
@[simp] theorem Vr{α:Type}{c:Prop}[Decidable c](a:α)(k:α->Prop):zF (if c then some a else none) k=(c/\k a):=by by_cases h:c<;>simp[h]
def zw(i:Nat):WE:=λU Q _=>match slot U i with
 |some (.sh d)=>Q (.v (.sh d)) U
 |some _=>Q (.loc i) U
 |none=>False
def wC(d:D):WE:=λU Q _=>Q (.v (.sh d)) U
def zM(L:D->D->Option S)(a b:WE):WE:=λU Q E=>a U (λx J=>b J (λy B=>zF (zR x B) λp=>zF (zR y B) λq=>zF (L p q) λs=>Q (.v s) B) E) E
def fm(J:D->Option S)(a:WE):WE:=λU Q E=>a U (λx B=>zF (zR x B) λp=>zF (J p) λs=>Q (.v s) B) E
def aN:D->D->Option S
 |.int i,.int j=>some (.sh (.int (i+j)))
 |.str x,.str y=>if x.length+y.length<=big then some (.sh (.str (x++y)))else none
 |.lst x,.lst y=>if x.length+y.length<=big then some (.lst ((x++y).map .sh))else none
 |.tup x,.tup y=>if x.length+y.length<=big then some (.sh (.tup (x++y)))else none
 |_,_=>none
def fU:D->D->Option S
 |.int i,.int j=>some (.sh (.int (i-j)))
 |_,_=>none
def kQ(i j:Int):Bool:=(decide (-(2^64)<i)&&decide (i<2^64))||(decide (-(2^64)<j)&&decide (j<2^64))
def mV:D->D->Option S
 |.int i,.int j=>if kQ i j then some (.sh (.int (i*j)))else none
 |_,_=>none
def gF:D->D->Option S
 |.int i,.int j=>if 0<j/\j<18446744073709551616 then some (.sh (.int (i/j)))else none
 |_,_=>none
def fH:D->D->Option S
 |.int i,.int j=>if 0<j then some (.sh (.int (i %j)))else none
 |_,_=>none
def mU:D->D->Option S
 |.int i,.int j=>if 0<=j/\j<=1000/\i.natAbs<2^64 then some (.sh (.int (i^j.toNat)))else none
 |_,_=>none
def pM:D->Option S
 |.int i=>some (.sh (.int (-i)))
 |_=>none
mutual
def aR:D->D->Bool
 |.tup l,.tup m=>bD l m
 |.lst l,.lst m=>bD l m
 |.int _,.int _=>false
 |.int _,.str _=>false
 |.int _,.non=>false
 |.str _,.int _=>false
 |.str _,.str _=>false
 |.str _,.non=>false
 |.str _,.bl _=>false
 |.bl _,.bl _=>false
 |.bl _,.str _=>false
 |.bl _,.non=>false
 |.non,.int _=>false
 |.non,.str _=>false
 |.non,.bl _=>false
 |.non,.non=>false
 |_,_=>true
def bD:List D->List D->Bool
 |a::l,b::m=>aR a b||bD l m
 |_,_=>false
end
mutual
def eS:D->Nat
 |.tup l=>bI l+1
 |.lst l=>bI l+1
 |_=>0
def bI:List D->Nat
 |[]=>0
 |a::l=>max (eS a) (bI l)
end
open Classical in
def eI(a b:D):Option Bool:=if aR a b||decide (30<eS a)then none else some (decide (a=b))
def cY(a b:D):Option Bool:=(eI a b).map (!·)
def dn:D->D->Option Bool
 |.int i,.int j=>some (decide (i<j))
 |.str x,.str y=>some (decide (x<y))
 |_,_=>none
def rO(a b:D):Option Bool:=dn a b
def lB(a b:D):Option Bool:=dn b a
def du:D->D->Option Bool
 |.int i,.int j=>some (decide (i<=j))
 |.str x,.str y=>some (!decide (y<x))
 |_,_=>none
def xU:D->D->Option Bool
 |.int i,.int j=>some (decide (j<=i))
 |.str x,.str y=>some (!decide (x<y))
 |_,_=>none
def cV:D->Bool
 |.int _=>true
 |.str _=>true
 |_=>false
def bR:Bool->D->Bool
 |true,.tup l=>l.all cV
 |false,d=>cV d
 |_,_=>false
open Classical in
def bc(a:D):D->Option Bool
 |.lst l=>if l.any (λx=>aR x a||decide (30<eS x))then none else some (decide (a∈l))
 |.tup l=>if l.any (λx=>aR x a||decide (30<eS x))then none else some (decide (a∈l))
 |.dct t ks _=>if bR t a then some (decide (a∈ks))else none
 |_=>none
open Classical in
def bb(a:D):D->Option Bool
 |.non=>some (decide (a=.non))
 |.bl b=>some (decide (a=.bl b))
 |_=>none
def eG(a b:D):Option Bool:=(bb a b).map (!·)
def iL:D->Option Bool
 |.non=>some false
 |.bl b=>some b
 |.int i=>some (decide (i≠0))
 |.str l=>some (!l.isEmpty)
 |.tup l=>some (!l.isEmpty)
 |.lst l=>some (!l.isEmpty)
 |_=>none
def aJ(L:D->D->Option Bool)(a b:WE):WT:=λU Q E=>a U (λx J=>b J (λy B=>zF (view x B) λp=>zF (view y B) λq=>zF (L p q) λc=>Q c B) E) E
def kG(a:WE):WT:=λU Q E=>a U (λx B=>zF (view x B) λp=>zF (iL p) λc=>Q c B) E
def dG(a b:WT):WT:=λU Q E=>a U (λc B=>if c then b B Q E else Q false B) E
def oB(a b:WT):WT:=λU Q E=>a U (λc B=>if c then Q true B else b B Q E) E
def lS(a:WT):WT:=λU Q E=>a U (λc B=>Q (!c) B) E
def fP(t:WT):WE:=λU Q E=>t U (λc B=>Q (.v (.sh (.bl c))) B) E
def oG(c:WT)(a b:WE):WE:=λU Q E=>c U (λk B=>if k then a B Q E else b B Q E) E
def zy:WA:=λU Q _=>Q [] U
def zx(a:WE)(b:WA):WA:=λU Q E=>a U (λr J=>b J (λL B=>Q (r::L) B) E) E
def aW(a:WA):WE:=λU Q E=>a U (λJ B=>zF (if J.length<=big then aI J B else none) λp=>Q (.v (.sh (.tup (p.1.map S.toD)))) p.2) E
def cE(a:WA):WE:=λU Q E=>a U (λJ B=>zF (if J.length<=big then aI J B else none) λp=>Q (.v (.lst p.1)) p.2) E
def kK(t:Bool):WE:=λU Q _=>Q (.v (.dct t [] [])) U
open Classical in
def lk{α:Type}:List D->List α->D->Option α
 |k'::ks,v::vs,k=>if k'=k then some v else lk ks vs k
 |_,_,_=>none
def iR:S->D->Option S
 |.sh (.tup l),.int i=>(atI l i).map .sh
 |.sh (.lst l),.int i=>(atI l i).map .sh
 |.sh (.str l),.int i=>(atI l i).map λc=>.sh (.str [c])
 |.lst l,.int i=>atI l i
 |_,_=>none
def bU(a b:WE):WE:=λU Q E=>a U (λx J=>b J (λy B=>zF (view y B) λq=>match x with
 |.v s=>zF (iR s q) λt=>Q (.v t) B
 |.loc i=>match slot B i with
  |some s=>match iR s q with
   |some (.sh d)=>Q (.v (.sh d)) B
   |_=>False
  |none=>False) E) E
def fB(a:Option WE):Env->(Option Int->Env->Prop)->WX->Prop:=match a with
 |none=>λU Q _=>Q none U
 |some a=>λU Q E=>a U (λx B=>match view x B with
  |some (.int i)=>Q (some i) B
  |_=>False) E
def iX(d:D)(lo hi:Option Int):Option S:=match d with
 |.str l=>some (.sh (.str (aU l lo hi)))
 |.tup l=>some (.sh (.tup (aU l lo hi)))
 |.lst l=>some (.lst ((aU l lo hi).map .sh))
 |_=>none
def dY(a:WE)(lo hi:Option WE):WE:=λU Q E=>a U (λx L=>fB lo L (λl J=>fB hi J (λh B=>zF (zR x B) λd=>zF (iX d l h) λs=>Q (.v s) B) E) E) E
abbrev WF:=List S->(S->List S->Prop)->(D->List S->Prop)->Prop
def cQ:List Bool->List R->Env->Option (List S×Env)
 |_,[],U=>some ([],U)
 |ms,.v s::rs,U=>match cQ ms.tail rs U with
  |some (ss,U1)=>some (s::ss,U1)
  |none=>none
 |ms,.loc i::rs,U=>match slot U i with
  |some s=>if ms.headD false then(match cQ ms.tail rs (U.set i none)with
   |some (ss,U1)=>some (s::ss,U1)
   |none=>none)
   else(match cQ ms.tail rs (U.set i (some (.sh s.toD)))with
    |some (ss,U1)=>some (.sh s.toD::ss,U1)
    |none=>none)
  |none=>none
def back:List Bool->List R->List S->Env->Env
 |ms,.v _::rs,_::ss,U=>back ms.tail rs ss U
 |ms,.loc i::rs,s::ss,U=>if ms.headD false then back ms.tail rs ss (U.set i (some s))else back ms.tail rs ss U
 |_,_,_,U=>U
def zO(f:WF)(ms:List Bool)(a:WA):WE:=λU Q E=>a U (λL B=>zF (cQ ms L B) λp=>f p.1 (λs J=>Q (.v s) (back ms L J p.2)) (λx J=>E x (back ms L J p.2))) E
def wB(f:List D->Option S)(a:WA):WE:=λU Q E=>a U (λJ B=>zF (J.mapM λr=>zR r B) λL=>zF (f L) λs=>Q (.v s) B) E
def aQ(j:Nat)(e:WE):WE:=λU Q E=>match slot U j with
 |some (.lst _)=>e U (λr B=>zF (give r B) λp=>match slot p.2 j with
  |some (.lst l)=>l.length<big/\Q (.v (.sh .non)) (p.2.set j (some (.lst (l++[p.1]))))
  |_=>False) E
 |_=>False
def aY:List D->Option S
 |[.str l]=>some (.sh (.int l.length))
 |[.tup l]=>some (.sh (.int l.length))
 |[.lst l]=>some (.sh (.int l.length))
 |_=>none
def jM:List D->Option S
 |[.int i]=>some (.sh (.int i))
 |[.bl b]=>some (.sh (.int (if b then 1 else 0)))
 |_=>none
def cJ:List D->Option S
 |[.tup l]=>some (.sh (.tup l))
 |[.lst l]=>some (.sh (.tup l))
 |_=>none
def bg:List D->Option S
 |[.tup l]=>some (.lst (l.map .sh))
 |[.lst l]=>some (.lst (l.map .sh))
 |_=>none
def nN:List D->Option S
 |[.int i,.int j]=>some (.sh (.int (if j>i then j else i)))
 |_=>none
def lL:List D->Option S
 |[.int i,.int j]=>some (.sh (.int (if j<i then j else i)))
 |_=>none
def aP:WS:=λD U=>D.nx U
def zN(a b:WS):WS:=λD U=>a {D with nx:=b D} U
def dU(c:WT)(a b:WS):WS:=λD U=>c U (λk B=>if k then a D B else b D B) D.ex
def bE(a:WE):WS:=λD U=>a U D.rt D.ex
def wExpr(a:WE):WS:=λD U=>a U (λ_ B=>D.nx B) D.ex
abbrev WG:=S->Env->(Env->Prop)->Prop
def zz(i:Nat):WG:=λs U Q=>Q (U.set i (some s))
def eA:List WG->List D->Env->(Env->Prop)->Prop
 |[],[],U,Q=>Q U
 |g::gs,d::ds,U,Q=>g (.sh d) U λB=>eA gs ds B Q
 |_,_,_,_=>False
def bT(B:List WG):WG:=λs U Q=>match s.toD with
 |.tup ds=>ds.length=B.length/\eA B ds U Q
 |_=>False
def fO(j:Nat)(i e:WE):WS:=λD U=>e U (λr L=>zw j L (λx J=>i J (λy B=>zF (view y B) λq=>zF (give r B) λp=>match x,q,slot p.2 j with
 |.loc k,.int n,some (.lst l)=>k=j/\zF (ixN l.length n) λm=>D.nx (p.2.set j (some (.lst (l.set m p.1))))
 |_,_,_=>False) D.ex) D.ex) D.ex
def zP(g:WG)(a:WE):WS:=λD U=>a U (λr B=>zF (give r B) λp=>g p.1 p.2 D.nx) D.ex
abbrev WI:=Env->(List D->Env->Prop)->WX->Prop
def items:D->Option (List D)
 |.lst l=>some l
 |.tup l=>some l
 |.str l=>some (l.map λc=>.str [c])
 |_=>none
def bJ(a:WE):WI:=λU Q E=>a U (λr B=>zF (give r B) λp=>zF (items p.1.toD) λl=>Q l p.2) E
def fromTo(lo:Int)(n:Nat):List D:=(List.range n).map λ(k:Nat)=>.int (lo+(k:Int))
def bB(a:WE):WI:=λU Q E=>a U (λr B=>match view r B with
 |some (.int j)=>(-big<=j/\j<=big)/\Q (fromTo 0 j.toNat) B
 |_=>False) E
def gZ(a b:WE):WI:=λU Q E=>a U (λr J=>b J (λt B=>match view r B,view t B with
 |some (.int i),some (.int j)=>(-big<=i/\i<=big/\-big<=j/\j<=big)/\Q (fromTo i (j-i).toNat) B
 |_,_=>False) E) E
def cL(g:WG)(B:WS):List D->WS
 |[],D,U=>D.nx U
 |x::xs,D,U=>g (.sh x) U λJ=>B {D with nx:=cL g B xs D,ct:=cL g B xs D,bk:=D.nx} J
def cT(it:WI)(g:WG)(B:WS):WS:=λD U=>it U (λl J=>cL g B l D J) D.ex
def gY(c:WT)(O:WS):WS:=λD U=>∃J:Nat->Env->Prop,(∃m,J m U)/\∀m U,J m U->c U (λk L=>if k then
 O {D with nx:=λB=>∃M,M<m/\J M B,ct:=λB=>∃M,M<m/\J M B,bk:=D.nx} L else D.nx L) D.ex
abbrev WB:=Env->(Env->Prop)->WX->Prop
def dE:WT:=λU Q _=>Q true U
def aL(g:WG)(c:WT)(b:WB):List D->WB
 |[],U,Q,_=>Q U
 |x::xs,U,Q,E=>g (.sh x) U λL=>c L (λk B=>if k then b B (λJ=>aL g c b xs J Q E) E else aL g c b xs B Q E) E
def lM(it:WI)(g:WG)(c:WT)(b:WB):WB:=λU Q E=>it U (λl B=>aL g c b l B Q E) E
def bV(n:Nat)(a:WE):WB:=λU Q E=>a U (λr B=>zF (give r B) λp=>match slot p.2 n with
 |some (.lst l)=>l.length<big/\Q (p.2.set n (some (.lst (l++[p.1]))))
 |_=>False) E
def jB(n k:Nat)(it:WI)(g:WG)(c:WT)(b:WB):WE:=λU Q E=>it U (λl J=>aL g c b l (J++some (.lst [])::List.replicate k none) (λB=>zF (slot B n) λs=>Q (.v s) (B.take n)) NX) E
def aC:List S->Env->Option (List S)
 |[],_=>some []
 |.sh d::ss,_::U=>(aC ss U).map (.sh d::·)
 |_::ss,some s::U=>(aC ss U).map (s::·)
 |_,_=>none
def eW(n m:Nat)(ks:List Nat)(J:WS):WF:=λB P PX=>B.length=n/\(∀i s,B[i]?=some s->i∈ks\/s.isSh=true)/\
 J {nx:=λU=>zF (aC B U) λfs=>P (.sh .non) fs
    rt:=λr U=>match r with
     |.v s=>zF (aC B U) λfs=>P s fs
     |.loc i=>zF (slot U i) λs=>if i<n then zF (aC B (U.set i (some (.sh s.toD)))) λfs=>P (.sh s.toD) fs else zF (aC B U) λfs=>P s fs
    bk:=λ_=>False
    ct:=λ_=>False
    ex:=λx U=>zF (aC B U) λfs=>PX x fs} (B.map some++List.replicate (m-n) none)
def hE(c:List Nat):WS:=λD U=>D.ex (.exc c [] []) U
def dw(cs:List (List Nat))(d:D):Prop:=∃c∈cs,∃fs vs,d=.exc c fs vs
def oF(cs:List (List Nat))(L J:WS):WS:=λD U=>L {D with ex:=λd B=>dw cs d/\J {D with ex:=NX} B} U
end FL
namespace FL
open PySem L2
def aO:aX->D
 |.inl i=>.int i
 |.inr x=>.str x.cps.toList
def kr(a C:Addr)(dx:Option Addr)(h:Heap):Prop:=∃o vs,h.get? a=some o/\o.cls=.ref C/\o.dict=dx/\o.data=.fields vs
def eP:HO->Bool
 |.tup _=>false
 |_=>true
def nQ(F:Hp)(dx:Option Addr)(fs:List (List Nat))(vs:List D):Prop:=(dx=none/\fs=[]/\vs=[])\/∃p f i,dx=some p/\fs=[f]/\vs=[.int i]/\F p=some (.xd [((#[f.toArray]:Str),.int i)])
mutual
inductive aS(K:W.Frag)(F:Hp):V->D->Prop
 |non:aS K F .non .non
 |bl (b:Bool):aS K F (.bl b) (.bl b)
 |int (i:Int):aS K F (.int i) (.int i)
 |str {x:Str} {l:List Nat}:x.cps.toList=l->l.length<=16777216->aS K F (.str x) (.str l)
 |tup {a:Addr} {xs:List V} {ds:List D}:F a=some (.tup xs)->zT K F xs ds->aS K F (.ref a) (.tup ds)
 |lst {a:Addr} {xs:List V} {ds:List D}:bN K F a xs->zT K F xs ds->aS K F (.ref a) (.lst ds)
 |dK {a:Addr} {zW:List (aX×V)} {ks vs:List D}:Rd F a (.dK zW)->ks=zW.map (λp=>aO p.1)->zT K F (zW.map (·.2)) vs->aS K F (.ref a) (.dct false ks vs)
 |dT {a:Addr} {zW:List (List aX×V)} {ks vs:List D}:Rd F a (.dT zW)->ks=zW.map (λp=>D.tup (p.1.map aO))->zT K F (zW.map (·.2)) vs->aS K F (.ref a) (.dct true ks vs)
 |st {a:Addr} {xs:List V} {ds:List D}:F a=some (.set xs)->zT K F xs ds->aS K F (.ref a) (.set ds)
 |exc {a C:Addr} {dx:Option Addr} {c:List Nat} {fs:List (List Nat)} {vs:List D}:F a=some (.ext (kr a C dx))->W.nsIn K mainGlobals (⟨c.toArray⟩:Str)=some (some (.ref C))->nQ F dx fs vs->aS K F (.ref a) (.exc c fs vs)
inductive zT(K:W.Frag)(F:Hp):List V->List D->Prop
 |nil:zT K F [] []
 |cons {x:V} {d:D} {xs:List V} {ds:List D}:aS K F x d->zT K F xs ds->zT K F (x::xs) (d::ds)
end
mutual
inductive aK(K:W.Frag)(F H:Hp):V->S->List Addr->Prop
 |sh {v:V} {d:D}:aS K F v d->aK K F H v (.sh d) []
 |lst {a:Addr} {xs:List V} {l:List S} {fp:List Addr}:H a=some (.lst xs)->zJ K F H xs l fp->aK K F H (.ref a) (.lst l) (a::fp)
 |dK {a:Addr} {zW:List (aX×V)} {ks:List D} {l:List S} {fp:List Addr}:H a=some (.dK zW)->ks=zW.map (λp=>aO p.1)->zJ K F H (zW.map (·.2)) l fp->aK K F H (.ref a) (.dct false ks l) (a::fp)
 |dT {a:Addr} {zW:List (List aX×V)} {ks:List D} {l:List S} {fp:List Addr}:H a=some (.dT zW)->ks=zW.map (λp=>D.tup (p.1.map aO))->zJ K F H (zW.map (·.2)) l fp->aK K F H (.ref a) (.dct true ks l) (a::fp)
 |st {a:Addr} {xs:List V} {ds:List D}:H a=some (.set xs)->zT K F xs ds->aK K F H (.ref a) (.set ds) [a]
inductive zJ(K:W.Frag)(F H:Hp):List V->List S->List Addr->Prop
 |nil:zJ K F H [] [] []
 |cons {x:V} {s:S} {xs:List V} {l:List S} {fp fq:List Addr}:aK K F H x s fp->zJ K F H xs l fq->zJ K F H (x::xs) (s::l) (fp++fq)
end
def Rd.mono(h:zG F F')(r:Rd F a u):Rd F' a u:=by
 rcases r with r|⟨o,r⟩
 .show .inl (h _ _ r)
 .show .inr #[o,h _ _ r]
def bN.mono(h:zG F F')(r:bN K F a xs):bN K F' a xs:=r.elim (λr=>.inl (Rd.mono h r)) .inr
def bM.mono(h:zG F F')(r:bM K F a xs):bM K F' a xs:=r.elim (λr=>.inl (Rd.mono h r)) .inr
def zT.ind{P:List V->List D->Prop}(hn:P [] [])(J:∀{x:V}{d:D}{xs:List V}{ds:List D},aS K F x d->zT K F xs ds->P xs ds->P (x::xs) (d::ds))(r:zT K F xs ds):P xs ds:=
 zT.rec (motive_1:=λ_ _ _=>True) (motive_2:=λxs ds _=>P xs ds) trivial (λ_=>trivial) (λ_=>trivial) (λ_ _=>trivial) (λ_ _ _=>trivial) (λ_ _ _=>trivial) (λ_ _ _ _=>trivial) (λ_ _ _ _=>trivial) (λ_ _ _=>trivial) (λ_ _ _=>trivial) hn (λa b _ B=>J a b B) r
def zJ.ind{P:List V->List S->List Addr->Prop}(hn:P [] [] [])(J:∀{x:V}{s:S}{xs:List V}{l:List S}{fp fq:List Addr},aK K F H x s fp->zJ K F H xs l fq->P xs l fq->P (x::xs) (s::l) (fp++fq))(r:zJ K F H xs l fp):P xs l fp:=
 zJ.rec (motive_1:=λ_ _ _ _=>True) (motive_2:=λxs l fp _=>P xs l fp) (λ_=>trivial) (λ_ _ _=>trivial) (λ_ _ _ _=>trivial) (λ_ _ _ _=>trivial) (λ_ _=>trivial) hn (λa b _ B=>J a b B) r
def nQ.mono(h:zG F F')(x:nQ F dx fs vs):nQ F' dx fs vs:=x.imp id λ⟨p,f,i,M,L,J,B⟩=>#[p,f,i,M,L,J,h _ _ B]
def aS.mono(h:zG F F')(r:aS K F v d):aS K F' v d:=
 aS.rec (motive_1:=λv d _=>aS K F' v d) (motive_2:=λv d _=>zT K F' v d) .non .bl .int (λe z=>.str e z) (λe _ B=>.tup (h _ _ e) B) (λe _ B=>.lst (bN.mono h e) B) (λe k _ B=>.dK (Rd.mono h e) k B) (λe k _ B=>.dT (Rd.mono h e) k B) (λe _ B=>.st (h _ _ e) B) (λe k x=>.exc (h _ _ e) k (x.mono h)) .nil (λ_ _ a b=>.cons a b) r
def zT.mono(h:zG F F')(r:zT K F v d):zT K F' v d:=zT.ind .nil (λa _ B=>.cons (aS.mono h a) B) r
def aK.mono(h:zG F F')(r:aK K F H v s fp):(∀a∈fp,H' a=H a)->aK K F' H' v s fp:=
 aK.rec (motive_1:=λv s fp _=>(∀a∈fp,H' a=H a)->aK K F' H' v s fp) (motive_2:=λv s fp _=>(∀a∈fp,H' a=H a)->zJ K F' H' v s fp)
  (λr _=>.sh (aS.mono h r)) (λe _ B k=>.lst ((k _ qm).trans e) (B λa J=>k a (qk _ J)))
  (λe q _ B k=>.dK ((k _ qm).trans e) q (B λa J=>k a (qk _ J))) (λe q _ B k=>.dT ((k _ qm).trans e) q (B λa J=>k a (qk _ J)))
  (λe r k=>.st ((k _ qm).trans e) (zT.mono h r)) (λ_=>.nil) (λ_ _ a b k=>.cons (a λc L=>k c (qj _ L)) (b λc L=>k c (qi _ L))) r
def zJ.mono(h:zG F F')(r:zJ K F H v s fp):(∀a∈fp,H' a=H a)->zJ K F' H' v s fp:=
 zJ.ind (P:=λv s fp=>(∀a∈fp,H' a=H a)->zJ K F' H' v s fp) (λ_=>.nil) (λa _ b k=>.cons (aK.mono h a λc B=>k c (qj _ B)) (b λc B=>k c (qi _ B))) r
def aK.frz(h:zG F F')(r:aK K F H v s fp):(∀a∈fp,F' a=H a)->aS K F' v s.toD:=
 aK.rec (motive_1:=λv s fp _=>(∀a∈fp,F' a=H a)->aS K F' v s.toD) (motive_2:=λv s fp _=>(∀a∈fp,F' a=H a)->zT K F' v (S.toDs s))
  (λr _=>aS.mono h r) (λe _ B k=>.lst (bN.of ((k _ qm).trans e)) (B λa J=>k a (qk _ J)))
  (λe q _ B k=>.dK (.of ((k _ qm).trans e)) q (B λa J=>k a (qk _ J))) (λe q _ B k=>.dT (.of ((k _ qm).trans e)) q (B λa J=>k a (qk _ J)))
  (λe r k=>.st ((k _ qm).trans e) (zT.mono h r)) (λ_=>.nil) (λ_ _ a b k=>.cons (a λc L=>k c (qj _ L)) (b λc L=>k c (qi _ L))) r
def zJ.frz(h:zG F F')(r:zJ K F H v s fp):(∀a∈fp,F' a=H a)->zT K F' v (S.toDs s):=
 zJ.ind (P:=λv s fp=>(∀a∈fp,F' a=H a)->zT K F' v (S.toDs s)) (λ_=>.nil) (λa _ b k=>.cons (aK.frz h a λc B=>k c (qj _ B)) (b λc B=>k c (qi _ B))) r
def aK.view(h:zG F H)(r:aK K F H v s fp):aS K H v s.toD:=aK.frz h r λ_ _=>rfl
def aK.in_:∀{v:V}{s:S}{fp:List Addr},aK K F H v s fp->∀a∈fp,∃o,H a=some o/\eP o=true:=by
 intro v s fp r;show aK.rec (motive_1:=λv s fp _=>∀a∈fp,∃o,H a=some o/\eP o=true) (motive_2:=λv s fp _=>∀a∈fp,∃o,H a=some o/\eP o=true) ?_ ?_ ?_ ?_ ?_ ?_ ?_ r
 .intro v d r a B;cases B
 .grind[eP]
 .grind[eP]
 .grind[eP]
 .grind[eP]
 .intro a B;cases B
 grind
inductive zI(K:W.Frag)(F H:Hp):Env->St->List Addr->Prop
 |nil:zI K F H [] [] []
 |no {U:Env} {Z:St} {o:Option V} {fp:List Addr}:zI K F H U Z fp->zI K F H (none::U) (o::Z) fp
 |so {U:Env} {Z:St} {v:V} {s:S} {fp fq:List Addr}:aK K F H v s fp->zI K F H U Z fq->zI K F H (some s::U) (some v::Z) (fp++fq)
def zI.len(r:zI K F H U Z fp):U.length=Z.length:=by
 induction r with
 |nil=>rfl
 |no _ B=>show congrArg (·+1) B
 |so _ _ B=>show congrArg (·+1) B
def zI.mono(h:zG F F')(r:zI K F H U Z fp)(k:∀a∈fp,H' a=H a):zI K F' H' U Z fp:=by
 induction r with
 |nil=>show .nil
 |no _ B=>show .no (B k)
 |so a _ B=>show .so (aK.mono h a λc J=>k c (qj _ J)) (B λc J=>k c (qi _ J))
def zI.in_(r:zI K F H U Z fp):∀a∈fp,∃o,H a=some o/\eP o=true:=by
 induction r with
 |nil=>show λa J=>nomatch J
 |no _ B=>show B
 |so q _ B=>show λa J=>(qx.mp J).elim (λz=>aK.in_ q a z) λz=>B a z
def zI.app(r:zI K F H U Z fp)(J:zI K F H U' Z' fq):zI K F H (U++U') (Z++Z') (fp++fq):=by
 induction r with
 |nil=>show J
 |no _ B=>show .no B
 |so a _ B=>rw[qp];show .so a B
inductive cv(K:W.Frag)(F H:Hp)(U:Env)(Z:St)(U':Env)(Z':St)(fp:List Addr):Prop
 |mk (f1 f2:List Addr):fp=f1++f2->zI K F H U Z f1->zI K F H U' Z' f2->cv K F H U Z U' Z' fp
def zI.cut(e:U.length=Z.length)(r:zI K F H (U++U') (Z++Z') fp):cv K F H U Z U' Z' fp:=by
 induction U generalizing Z fp with
 |nil=>cases Z with
  |nil=>show#[[],fp,rfl,.nil,r]
  |cons _ _=>show absurd e.symm (Nat.succ_ne_zero _)
 |cons x U J=>cases Z with
  |nil=>show absurd e (Nat.succ_ne_zero _)
  |cons y Z=>cases r with
   |no r=>let#[L,B,rfl,a,b]:=J (Nat.succ.inj e) r;show#[L,B,rfl,.no a,b]
   |so q r=>let#[L,B,rfl,a,b]:=J (Nat.succ.inj e) r;show#[_,B,(qp ..).symm,.so q a,b]
def nq(K:W.Frag)(F H:Hp)(U:Env)(Z:St)(i:Nat)(J B:List Addr):Prop:=∀{F' H':Hp}{o:Option S}{u:Option V}{fi':List Addr},zG F F'->(∀a∈J++B,H' a=H a)->(zI K F' H' [o] [u] fi')->zI K F' H' (U.set i o) (Z.set i u) (J++(fi'++B))
inductive nr(K:W.Frag)(F H:Hp)(U:Env)(Z:St)(fp:List Addr)(i:Nat)(s:S):Prop
 |mk (v:V) (fa fi fb:List Addr):Z[i]?=some (some v)->fp=fa++(fi++fb)->aK K F H v s fi->nq K F H U Z i fa fb->nr K F H U Z fp i s
inductive cu(K:W.Frag)(F H:Hp)(U:Env)(Z:St)(fp:List Addr)(i:Nat):Prop
 |mk (fa fi fb:List Addr):fp=fa++(fi++fb)->nq K F H U Z i fa fb->cu K F H U Z fp i
def zI.at:∀{U:Env}{Z:St}{fp:List Addr}{i:Nat}{s:S},zI K F H U Z fp->slot U i=some s->nr K F H U Z fp i s
 |_,_,_,_,_,.nil,e=>by simp[slot]at e
 |_,_,_,0,_,.no r,e=>by simp at e
 |_,_,_,0,s,.so (fp:=fp) (fq:=fq) q r,e=>by simp at e;subst e;show#[_,[],fp,fq,rfl,rfl,q,λ{F' H' o u L} h k x=>?_];let r':=zI.mono (H':=H') h r λa B=>k a B;show x.app r'
 |_,_,_,i+1,s,.no r,e=>by let#[v,Y,M,O,e1,rfl,q,J]:=zI.at r e;show#[v,Y,M,O,e1,rfl,q,λh k x=>.no (J h k x)]
 |_,_,_,i+1,s,.so (fp:=fp) (fq:=fq) p r,e=>by let#[v,Y,M,O,e1,rfl,q,J]:=zI.at r e;show#[v,fp++Y,M,O,e1,(qp ..).symm,q,λ{F' H' o u L} h k x=>?_];rw[qp];show .so (aK.mono h p λa B=>k a (qj _ (qj _ B))) (J h (λa B=>k a ((qx.mp B).elim (λz=>qj _ (qi _ z)) λz=>qi _ z)) x)
def zI.put:∀{U:Env}{Z:St}{fp:List Addr}{i:Nat},zI K F H U Z fp->i<U.length->cu K F H U Z fp i
 |_,_,_,_,.nil,e=>by simp at e
 |_,_,fp,0,.no r,e=>#[[],[],fp,rfl,λ{F' H' o u J} h k x=>x.app (zI.mono (H':=H') h r λa B=>k a B)]
 |_,_,_,0,.so (fp:=fp) (fq:=fq) q r,e=>#[[],fp,fq,rfl,λ{F' H' o u J} h k x=>x.app (zI.mono (H':=H') h r λa B=>k a B)]
 |_,_,_,i+1,.no r,e=>by let#[Y,M,O,rfl,L]:=zI.put (i:=i) r ↑e;show#[Y,M,O,rfl,λh k x=>.no (L h k x)]
 |_,_,_,i+1,.so (fp:=fp) (fq:=fq) p r,e=>by let#[Y,M,O,rfl,L]:=zI.put (i:=i) r ↑e;show#[fp++Y,M,O,(qp ..).symm,λ{F' H' o u J} h k x=>?_];rw[qp];show .so (aK.mono h p λa B=>k a (qj _ (qj _ B))) (L h (λa B=>k a ((qx.mp B).elim (λz=>qj _ (qi _ z)) λz=>qi _ z)) x)
inductive nS(K:W.Frag)(U:Env)(Z:St)(F G H:Hp):Prop
 |mk (fp:List Addr):zI K F H U Z fp->fp.Nodup->(∀a∈fp,F a=none/\G a=none)->nS K U Z F G H
structure Rel(K:W.Frag)(U:Env)(Z:St)(F G H:Hp):Prop where
 fr:zG F H
 gr:∀a o,G a=some o->(H a=some o/\eP o=true)/\F a=none
 en:nS K U Z F G H
def Rel.len(r:Rel K U Z F G H):U.length=Z.length:=let⟨_,e,_,_⟩:=r.en;e.len
def Rel.free(r:Rel K U Z F G H)(h:H p=none):F p=none/\G p=none/\∀fp,zI K F H U Z fp->p∉fp:=by
 show#[?_,?_,λfp e B=>?_]
 .cases q:F p with
  |none=>rfl
  |some o=>rw[r.fr p o q]at h;cases h
 .cases q:G p with
  |none=>rfl
  |some o=>rw[(r.gr p o q).1.1]at h;cases h
 .obtain⟨o,q,_⟩:=e.in_ p B;rw[h]at q;cases q
def zG.upd(h:F p=none):zG F (upd F p o):=λb u e=>by rw[An (λz=>by rw[z,h]at e;cases e)];show e
def zG.upd2(h:zG F H):zG (L2.upd F p o) (L2.upd H p o):=λb u e=>by
 by_cases q:b=p
 .subst q;rw[AX]at e⊢;show e
 .rw[An q]at e⊢;show h b u e
def zG.updR(h:zG F H)(n:F p=none):zG F (L2.upd H p o):=λb u e=>by rw[An (λz=>by rw[z,n]at e;cases e)];show h b u e
def Rel.newF(r:Rel K U Z F G H)(h:H p=none):Rel K U Z (upd F p o) G (upd H p o):=by
 let#[f0,Y,O]:=r.free h;let#[fp,e,M,ap]:=r.en;let J:∀a∈fp,a≠p:=λa B z=>O fp e (z▸B);show#[zG.upd2 r.fr,λa u q=>?_,fp,e.mono (zG.upd f0) λa B=>An (J a B),M,λa B=>?_]
 .let L:a≠p:=λz=>by rw[z,Y]at q;cases q
  rw[An L,An L];show r.gr a u q
 .rw[An (J a B)];show ap a B
def Rel.newO(r:Rel K U Z F G H)(h:H p=none)(q:aK K F (upd H p o) (.ref p) s [p]):Rel K (U++[some s]) (Z++[some (.ref p)]) F G (upd H p o):=by
 let#[Y,O,L]:=r.free h;let#[fp,e,nd,ap]:=r.en;let J:∀a∈fp,a≠p:=λa B z=>L fp e (z▸B);show#[zG.updR r.fr Y,λa u q=>?_,fp++([p]++[]),(e.mono (zG.refl F) λa B=>An (J a B)).app (.so q .nil),?_,λa B=>?_]
 .let M:a≠p:=λz=>by rw[z,O]at q;cases q
  rw[An M];show r.gr a u q
 .grind
 grind
def Rel.drop(r:Rel K (U++U') (Z++Z') F G H)(h:U.length=Z.length):Rel K U Z F G H:=by let#[O,e,B,M]:=r.en;let#[L,Y,rfl,a,b]:=e.cut h;show#[r.fr,r.gr,L,a,(qw.mp B).1,λc J=>M c (qj _ J)]
def Rel.hide(r:Rel K (U++U') (Z++Z') F G H)(h:U.length=Z.length):∃Y,Rel K U Z F Y H/\zG G Y/\
  ∀{U2:Env}{Z2:St}{M H2:Hp},zG F M->Rel K U2 Z2 M Y H2->Rel K (U2++U') (Z2++Z') M G H2:=by
 classical
 let#[fp,e,nd,ap]:=r.en;let#[f1,L,rfl,a,b]:=e.cut h;let#[n1,n2,h2]:=qw.mp nd;show#[λx=>if x∈L then H x else G x,#[r.fr,λx o q=>?_,f1,a,n1,λx B=>?_],λx o q=>?_,λ{U2 Z2 M H2} sm O=>?_]
 .by_cases z:x∈L
  .let:=b.in_ x z;grind
  .simp only[z]at q;show r.gr x o q
 .grind
 .grind
 .obtain⟨J,e2,h1,h3⟩:=O.en;let hk:∀x∈L,H2 x=H x/\M x=none/\x∉J:=λx B=>by let#[o,q,_]:=b.in_ x B;let w:=O.gr x o (by simp only[B];show q);grind
  show#[O.fr,λx o q=>?_,J++L,e2.app (b.mono sm λx B=>(hk x B).1),?_,λx B=>?_]
  .let z:x∉L:=λz=>by grind
   show O.gr x o (by simp only[z];show q)
  .grind
  grind
def Rel.weakG(r:Rel K U Z F G' H)(h:zG G G'):Rel K U Z F G H:=by
 let#[M,e,L,J]:=r.en;show#[r.fr,λa o q=>r.gr a o (h a o q),M,e,L,λa B=>#[(J a B).1,?_]];cases q:G a with
 |none=>rfl
 |some o=>have:=(J a B).2;rw[h a o q]at this;cases this
def Rel.swap(h:U.length=Z.length)(h1:U1.length=Z1.length)(r:Rel K (U++(U1++U2)) (Z++(Z1++Z2)) F G H):Rel K (U++(U2++U1)) (Z++(Z2++Z1)) F G H:=by let#[fp,e,M,ap]:=r.en;let#[L,Y,rfl,a,b]:=e.cut h;let#[J,B,rfl,b1,c]:=b.cut h1;let p:(L++(B++J)).Perm (L++(J++B)):=List.Perm.append_left _ qN;show#[r.fr,r.gr,_,a.app (c.app b1),p.nodup_iff.mpr M,λx O=>ap x (p.mem_iff.mp O)]
def Rel.push(r:Rel K U Z F G H)(h:aS K F v d):Rel K (U++[some (.sh d)]) (Z++[some v]) F G H:=by
 let#[L,e,B,M]:=r.en;show#[r.fr,r.gr,L++([]++[]),e.app (.so (.sh h) .nil),?_,λx J=>M x ?_]
 .simpa using B
 .simpa using J
def Rel.pushN(r:Rel K U Z F G H):Rel K (U++[none]) (Z++[u]) F G H:=by
 let#[L,e,B,M]:=r.en;show#[r.fr,r.gr,L++[],e.app (.no .nil),?_,λx J=>M x ?_]
 .simpa using B
 .simpa using J
def Ji(h:slot U i=some s):U[i]?=some (some s):=by
 induction U generalizing i with
 |nil=>simp[slot]at h
 |cons a r B=>cases i with
  |zero=>simp at h;simp[h]
  |succ i=>simp at h;simpa using B h
def FD(h:slot U i=some s):i<U.length:=(qg.mp (Ji h)).1
def GZ(h:i<U.length):slot (U++U') i=slot U i:=by
 induction U generalizing i with
 |nil=>simp at h
 |cons a r B=>cases i with
  |zero=>rfl
  |succ i=>simpa using B ↑h
def EF:slot (U++o::U') U.length=o:=by
 induction U with
 |nil=>rfl
 |cons a r B=>simpa using B
inductive nj(K:W.Frag)(F H:Hp)(Z:St)(i:Nat)(s:S):Prop
 |mk (v:V) (fp:List Addr):Z[i]?=some (some v)->aK K F H v s fp->nj K F H Z i s
def Rel.at(r:Rel K U Z F G H)(h:slot U i=some s):nj K F H Z i s:=by let#[M,e,L,ap]:=r.en;let#[v,Y,B,O,J,_,q,_]:=e.at h;show#[v,B,J,q]
def Rel.give(r:Rel K U Z F G H)(h:slot U i=some s):∃v F',Z[i]?=some (some v)/\zG F F'/\aS K F' v s.toD/\Rel K (U.set i (some (.sh s.toD))) Z F' G H:=by
 classical
 let#[fp,e,nd,ap]:=r.en;let#[v,fa,B,fb,e1,rfl,q,O]:=e.at h;let#[na,Y,h1]:=qw.mp nd;let J:zG F (λx=>if x∈B then H x else F x):=λx o w=>by grind
 let L:aS K (λx=>if x∈B then H x else F x) v s.toD:=q.frz J λx M=>by simp[M,if_true]
 let e2:Z.set i (some v)=Z:=by apply ext_getElem?;grind
 show#[v,_,e1,J,L,λx o w=>?_,λx o w=>?_,fa++([]++fb),?_,?_,λx M=>?_]
 .by_cases z:x∈B
  .simp only[z]at w;show w
  .simp only[z]at w;show r.fr x o w
 .let w2:=r.gr x o w;grind
 .let:=O (F':=λx=>if x∈B then H x else F x) (H':=H) (o:=some (.sh s.toD)) (u:=some v) (fi':=[]) J (λ_ _=>rfl) (.so (.sh L) .nil);rw[e2]at this;show this
 .grind
 grind
def Rel.store(r:Rel K (U++[o]) (Z++[u]) F G H)(h:U.length=Z.length)(hi:i<U.length):Rel K (U.set i o) (Z.set i u) F G H:=by
 let#[fp,e,L,ap]:=r.en;let#[f1,f2,rfl,a,b]:=e.cut h;let#[fa,fi,fb,rfl,B]:=a.put hi;let#[Y,n2,O]:=qw.mp L;let#[na,J,M]:=qw.mp Y;show#[r.fr,r.gr,fa++(f2++fb),B (zG.refl F) (λ_ _=>rfl) b,?_,λx hx=>?_]
 .grind
 grind
end FL
namespace FL
open PySem PySem.Spec PyProof.Rows L2
abbrev St:=L2.St
abbrev wp(X:Cx)(pn:List (Addr×Obj))(xe:zv):Cx:={X with pn:=pn,xe:=xe}
def zH:R->Option S
 |.v s=>some s
 |.loc _=>none
@[inline]def RV(Z:St)(v:V):R->Prop
 |.v _=>True
 |.loc i=>Z[i]?=some (some v)
def oA(Z:St):List V->List R->Prop
 |[],[]=>True
 |v::vs,r::rs=>RV Z v r/\oA Z vs rs
 |_,_=>False
def ba(K:W.Frag)(F:Hp)(d:D)(C:Addr)(dx:Option Addr):Prop:=∃c fs vs,d=.exc c fs vs/\W.nsIn K mainGlobals (#[c.toArray]:Str)=some (some (.ref C))/\nQ F dx fs vs
def ky(X:Cx)(F H:Hp)(h:Heap)(u:Value)(d:D):Prop:=∃e C dx,u=.ref e/\ba X.K F d C dx/\iK X [] H h e (.ref C) dx
@[inline]def KP(ks:List Nat)(Z Z':St):Prop:=∀i∈ks,Z'[i]?=Z[i]?
@[inline]def XC(X:Cx)(T:St->Prop)(F G:Hp)(PX:WX):Prop:=∀(d:D)(U':Env)(Z':St)(F' H':Hp)(u:Value)(s':Shared),PX d U'->T Z'->zG F F'->Rel X.K U' Z' F' G H'->Inv X [] Z' H' s'->ky X F' H' s'.heap u d->X.xe u s'
def XC.mono(h:XC X T F G PX)(t:∀Z,T' Z->T Z)(f:zG F F')(g:zG G G'):XC X T' F' G' PX:=
 λd J B M H2 u s' p q L r I x=>h d J B M H2 u s' p (t _ q) (f.trans L) (r.weakG g) I x
def XC.grow(h:XC X T F G PX)(f:zG F F'):XC X T F' G PX:=h.mono (λ_ z=>z) f (zG.refl G)
inductive tW(X:Cx)(w:WE)(Z:St)(H:Hp)(Q:VK):Prop
 |mk (F G:Hp) (U:Env) (P:WQ) (PX:WX) (zX:Rel X.K U Z F G H) (hw:w U P PX) (hok:∀r U' v F' H',P r U'->zG F F'->Rel X.K (U'++[zH r]) (Z++[some v]) F' G H'->RV Z v r->Q v H') (hx:XC X (·=Z) F G PX):tW X w Z H Q
@[inline]def FE(X:Cx)(e:Expr)(w:WE):Prop:=∀(pn:List (Addr×Obj))(xe:zv),PassesOwn (model X.prog X.w) X.A X.env xe->PE (wp X pn xe) e (tW (wp X pn xe) w)
inductive iI(X:Cx)(w:WT)(Z:St)(H:Hp)(Q:Bool->Hp->Prop):Prop
 |mk (F G:Hp) (U:Env) (P:Bool->Env->Prop) (PX:WX) (zX:Rel X.K U Z F G H) (hw:w U P PX) (hok:∀b U' F' H',P b U'->zG F F'->Rel X.K U' Z F' G H'->Q b H') (hx:XC X (·=Z) F G PX):iI X w Z H Q
@[inline]def FT(X:Cx)(e:Expr)(w:WT):Prop:=∀(pn:List (Addr×Obj))(xe:zv),PassesOwn (model X.prog X.w) X.A X.env xe->PT (wp X pn xe) e (iI (wp X pn xe) w)
@[inline]def FW(X:Cx)(e:Expr)(w:WT):Prop:=∀(pn:List (Addr×Obj))(xe:zv),PassesOwn (model X.prog X.w) X.A X.env xe->PW (wp X pn xe) e (iI (wp X pn xe) w)
inductive tQ(X:Cx)(w:WA)(Z:St)(H:Hp)(Q:List V->Hp->Prop):Prop
 |mk (F G:Hp) (U:Env) (P:List R->Env->Prop) (PX:WX) (zX:Rel X.K U Z F G H) (hw:w U P PX) (hok:∀rs U' vs F' H',P rs U'->zG F F'->Rel X.K (U'++rs.map zH) (Z++vs.map some) F' G H'->U'.length=Z.length->oA Z vs rs->Q vs H') (hx:XC X (·=Z) F G PX):tQ X w Z H Q
@[inline]def FA(X:Cx)(es:List Expr)(w:WA):Prop:=∀(pn:List (Addr×Obj))(xe:zv),PassesOwn (model X.prog X.w) X.A X.env xe->PA (wp X pn xe) es (tQ (wp X pn xe) w)
def PE.imp(h:PE X e t)(k:∀Z H Q,t' Z H Q->t Z H Q):PE X e t':=λzV s Z H Q I q=>h zV s Z H Q I (k Z H Q q)
def PT.imp(h:PT X e t)(k:∀Z H Q,t' Z H Q->t Z H Q):PT X e t':=λzV s Z H Q I q=>h zV s Z H Q I (k Z H Q q)
def PW.imp(h:PW X e t)(k:∀Z H Q,t' Z H Q->t Z H Q):PW X e t':=λB zV s Z H Q I q=>h B zV s Z H Q I (k Z H Q q)
def PA.imp(h:PA X e t)(k:∀Z H Q,t' Z H Q->t Z H Q):PA X e t':=λp zV s Z H Q I q=>h p zV s Z H Q I (k Z H Q q)
section
variable{K:W.Frag}
def Rel.mid(r:Rel K (U++o::U') (Z++w::Z') F G H)(h:U.length=Z.length):Rel K (U++U') (Z++Z') F G H:=by let#[fp,e,J,ap]:=r.en;let#[f1,f2,rfl,a,b]:=e.cut h;let#[f2,f3,rfl,b,c]:=zI.cut (U:=[o]) (Z:=[w]) rfl b;let#[Y,O,M]:=qw.mp J;let#[n4,L,n6]:=qw.mp O;show#[r.fr,r.gr,f1++f3,a.app c,qw.mpr #[Y,L,λx B y hy=>M x B y (qi _ hy)],λx B=>ap x ?_];grind
def Ah(r:Rel K (U++[o]) (Z++[w]) F G H):U.length=Z.length:=by let:=r.len;simpa using this
def Mt:(U++o::U').set U.length o'=U++o'::U':=by
 induction U with
 |nil=>rfl
 |cons a r B=>simpa using B
inductive Nd{α:Type}(o:Option α)(k:α->Prop):Prop
 |mk (a:α):o=some a->k a->Nd o k
def Ao(h:zF o k):Nd o k:=by
 cases o with
 |none=>show h.elim
 |some a=>show#[a,rfl,h]
def bK(K:W.Frag)(F H:Hp)(v:V)(d:D):Prop:=aS K F v d\/
 (∃a xs ds,v=.ref a/\d=.lst ds/\H a=some (.lst xs)/\zT K F xs ds)\/
 (∃a zW ks vs,v=.ref a/\d=.dct false ks vs/\H a=some (.dK zW)/\ks=zW.map (λp=>aO p.1)/\zT K F (zW.map (·.2)) vs)\/
 (∃a zW ks vs,v=.ref a/\d=.dct true ks vs/\H a=some (.dT zW)/\ks=zW.map (λp=>D.tup (p.1.map aO))/\zT K F (zW.map (·.2)) vs)
def bK.mono(h:zG F F')(r:bK K F H v d):bK K F' H v d:=by
 rcases r with r|⟨a,xs,Y,M,L,J,r⟩|⟨a,B,ks,vs,M,L,J,O,r⟩|⟨a,B,ks,vs,M,L,J,O,r⟩
 .show .inl (r.mono h)
 .show .inr (.inl #[a,xs,Y,M,L,J,r.mono h])
 .show .inr (.inr (.inl #[a,B,ks,vs,M,L,J,O,r.mono h]))
 .show .inr (.inr (.inr #[a,B,ks,vs,M,L,J,O,r.mono h]))
def zJ.sh(r:zJ K F H xs l fp):l.all S.isSh=true->zT K F xs (l.map S.toD)/\fp=[]:=
 zJ.ind (P:=λxs l fp=>l.all S.isSh=true->zT K F xs (l.map S.toD)/\fp=[]) (λ_=>#[.nil,rfl]) (λa _ B h=>by
  rw[all_cons,and_eq_true]at h;let#[q,e]:=B h.2;cases a with
  |sh r=>show#[.cons r q,e]
  |_=>show absurd h.1 (by simp[S.isSh])) r
theorem look(r:Rel K (U++(zH x::U')) (Z++(some v::Z')) F G H)(h:U.length=Z.length)(Y:RV Z v x)(e:view x U=some d):aS K H v d:=by
 cases x with
 |v s=>
  let#[u,fp,B,q]:=r.at (i:=U.length) (s:=s) EF;rw[h,getElem?_append_right (q9 _)]at B;let O:v=u:=↑B
  subst O;let M:s.toD=d:=qf e;rw[<-M];show q.view r.fr
 |loc i=>
  let J:(slot U i).map S.toD=some d:=e;cases q:slot U i with
  |none=>rw[q]at J;cases J
  |some s=>
   rw[q]at J;let M:s.toD=d:=qf J;let hi:=FD q;let#[u,fp,B,w]:=r.at (i:=i) (s:=s) (by rw[GZ hi];show q);rw[getElem?_append_left (h▸hi)]at B;let L:Z[i]?=some (some v):=Y;rw[L]at B;let O:v=u:=↑B
   subst O;rw[<-M];show w.view r.fr
inductive ng(K:W.Frag)(U:Env)(Z:St)(F G H:Hp)(v:V)(d:D):Prop
 |mk (F':Hp):zG F F'->bK K F' H v d->Rel K U Z F' G H->ng K U Z F G H v d
def AY(r:Rel K (U++(zH x::U')) (Z++(some v::Z')) F G H)(h:U.length=Z.length)(rv:RV Z v x)(e:zR x U=some d):
  ng K (U++U') (Z++Z') F G H v d:=by
 cases x with
 |v s=>
  let#[u,F',B,sm,rp,r']:=r.give (i:=U.length) (s:=s) EF;rw[h,getElem?_append_right (q9 _)]at B;let e2:v=u:=↑B
  subst e2;let e3:s.toD=d:=qf e;rw[show(U++zH (.v s)::U').set U.length (some (S.sh s.toD))=U++some (S.sh s.toD)::U' from Mt]at r';show#[F',sm,.inl (e3▸rp),r'.mid h]
 |loc i=>
  let e':(match slot U i with|some s=>if s.flat then some s.toD else none|none=>none)=some d:=e;cases q:slot U i with
  |none=>rw[q]at e';cases e'
  |some s=>
   let hi:=FD q;let#[u,fp,B,w]:=r.at (i:=i) (s:=s) (by rw[GZ hi];show q);rw[getElem?_append_left (h▸hi)]at B;let Y:Z[i]?=some (some v):=rv;rw[Y]at B;let e2:v=u:=↑B
   subst e2;show#[F,zG.refl F,?_,r.mid h];by_cases O:s.flat=true
   .let e3:s.toD=d:=by grind
    subst e3;cases w with
    |sh r=>show .inl r
    |lst M L=>let#[J,_]:=L.sh O;show .inr (.inl #[_,_,_,rfl,by simp,M,J])
    |dK M k0 L=>let#[J,_]:=L.sh O;show .inr (.inr (.inl #[_,_,_,_,rfl,by simp,M,k0,J]))
    |dT M k0 L=>let#[J,_]:=L.sh O;show .inr (.inr (.inr #[_,_,_,_,rfl,by simp,M,k0,J]))
    |st _ _=>show absurd O (by simp[S.flat])
   grind
inductive nk(K:W.Frag)(L:Prop)(U:Env)(Z:St)(F G H:Hp):Prop
 |mk (F':Hp):zG F F'->L->Rel K U Z F' G H->nk K L U Z F G H
def AC(r:Rel K (U++(zH x::U')) (Z++(some v::Z')) F G H)(h:U.length=Z.length)(rv:RV Z v x)(e:give x U=some (s,U1)):
  nk K (U1.length=U.length) (U1++(some s::U')) (Z++(some v::Z')) F G H:=by
 cases x with
 |v t=>have B:some (t,U)=some (s,U1):=e;cases B;show#[F,zG.refl F,rfl,r]
 |loc i=>
  let B:(match slot U i with|some s=>some (S.sh s.toD,U.set i (some (.sh s.toD)))|none=>none)=some (s,U1):=e;cases q:slot U i with
  |none=>rw[q]at B;cases B
  |some t=>
   rw[q]at B;cases B;let hi:=FD q;let#[u,Y,M,sm,rp,J]:=r.give (i:=i) (s:=t) (by rw[GZ hi];show q);rw[getElem?_append_left (h▸hi)]at M;let L:Z[i]?=some (some v):=rv;rw[L]at M;let e2:v=u:=↑M
   subst e2;rw[List.set_append_left _ _ hi]at J;show#[Y,sm,by simp,?_];let#[fp,en,nd,ap]:=J.en;let hl:(U.set i (some (S.sh t.toD))).length=Z.length:=↑h
   let#[f1,O,rfl,a,b]:=en.cut hl;let b':zI K Y H (none::U') (some v::Z') O:=b;cases b' with
   |no b=>show#[J.fr,J.gr,f1++([]++O),a.app (.so (.sh rp) b),↑nd,λx hx=>ap x hx]
end
def tW.mono(h:tW X w Z H Q)(k:∀v H',Q v H'->Q' v H'):tW X w Z H Q':=by let#[F,G,U,P,PX,J,O,L,M]:=h;show#[F,G,U,P,PX,J,O,λr B v Y H' a b c d=>k _ _ (L r B v Y H' a b c d),M]
inductive la(X:Cx)(Z:St)(k:R->R->Env->WQ->WX->Prop)(Q:VK)(v u:V)(H:Hp):Prop
 |mk (F G:Hp) (U:Env) (x y:R) (P:WQ) (PX:WX) (zX:Rel X.K (U++[zH x,zH y]) (Z++[some v,some u]) F G H) (hl:U.length=Z.length) (rx:RV Z v x) (ry:RV Z u y) (hk:k x y U P PX) (hok:∀r U' v F' H',P r U'->zG F F'->Rel X.K (U'++[zH r]) (Z++[some v]) F' G H'->RV Z v r->Q v H') (hx:XC X (·=Z) F G PX):la X Z k Q v u H
def Fo(h:tW X (λU Q E=>wa U (λx U1=>wb U1 (λy U2=>k x y U2 Q E) E) E) Z H Q):
  tW X wa Z H λv H1=>tW X wb Z H1 λu H2=>la X Z k Q v u H2:=by
 let#[F,G,U,P,PX,h3,hw,h6,hx]:=h;show#[F,G,U,_,PX,h3,hw,λx U1 v F1 H1 h5 M r1 Y=>?_,hx];let h1:=Ah r1;let#[G1,B,gg,back]:=r1.hide h1;show#[F1,G1,U1,_,PX,B,h5,λy U2 u F2 H2 h4 L r2 O=>?_,hx.mono (λ_ z=>z) M gg];let h2:=Ah r2;let r3:=back L r2;rw[qp,qp]at r3;show#[F2,G,U2,x,y,P,PX,Rel.swap (U1:=[zH y]) (Z1:=[some u]) (U2:=[zH x]) (Z2:=[some v]) h2 rfl r3,h2,Y,O,h4,λr J v F' H' a b c d=>h6 r J v F' H' a (M.trans (L.trans b)) c d,hx.grow (M.trans L)]
inductive One(X:Cx)(Z:St)(k:R->Env->WQ->WX->Prop)(Q:VK)(v:V)(H:Hp):Prop
 |mk (F G:Hp) (U:Env) (x:R) (P:WQ) (PX:WX) (zX:Rel X.K (U++[zH x]) (Z++[some v]) F G H) (hl:U.length=Z.length) (rx:RV Z v x) (hk:k x U P PX) (hok:∀r U' v F' H',P r U'->zG F F'->Rel X.K (U'++[zH r]) (Z++[some v]) F' G H'->RV Z v r->Q v H') (hx:XC X (·=Z) F G PX):One X Z k Q v H
theorem one(h:tW X (λU Q E=>wa U (λx U1=>k x U1 Q E) E) Z H Q):tW X wa Z H λv H1=>One X Z k Q v H1:=by let#[F,G,U,P,PX,L,hw,O,hx]:=h;show#[F,G,U,_,PX,L,hw,λx U1 v F1 H1 M Y r1 J=>#[F1,G,U1,x,P,PX,r1,Ah r1,J,M,λr B v F' H' a b c d=>O r B v F' H' a (Y.trans b) c d,hx.grow Y],hx]
def Pu(hN:X.N[i]?=some x)(hv:bj X.env.scope x)(hd:(x==("__debug__":Str))=false:=by decide)(O:(x==("__classdict__":Str))=false:=by decide):FE X (.Name x pos) (zw i):=by
 intro pn xe hp;show PE.imp (OE (X:=wp X pn xe) hN hv hd O) λZ H Q h=>?_;let#[F,G,U,P,PX,B,L,J,hx]:=h;unfold zw at L;cases q:slot U i with
 |none=>rw[q]at L;show L.elim
 |some s=>
  let#[v,fp,M,Y]:=B.at q;rw[q]at L;cases s with
  |sh d=>
   cases Y with
   |sh r=>show#[v,M,J _ _ v F H L (zG.refl F) (B.push r) trivial]
  |lst l=>show#[v,M,J _ _ v F H L (zG.refl F) B.pushN M]
  |dct t a b=>show#[v,M,J _ _ v F H L (zG.refl F) B.pushN M]
  |set l=>show#[v,M,J _ _ v F H L (zG.refl F) B.pushN M]
def DT(h:∀X:Cx,PE X e (tC v))(r:∀K F,aS K F v d):FE X e (wC d):=by intro pn xe O;show PE.imp (h _) λZ H Q h=>?_;let#[F,G,U,P,PX,B,L,J,M]:=h;show J _ _ v F H L (zG.refl F) (B.push (r _ _)) trivial
def Ad:FE X (.Constant (.int i) j pos) (wC (.int i)):=DT (λ_=>Oh) λ_ _=>.int i
def Et:FE X (.Constant (.bool b) j pos) (wC (.bl b)):=DT (λ_=>NA) λ_ _=>.bl b
def HK:FE X (.Constant .none j pos) (wC .non):=DT (λ_=>OO) λ_ _=>.non
def Eb(e:x.cps.toList=l)(z:l.length<=16777216):FE X (.Constant (.str x) j pos) (wC (.str l)):=DT (λ_=>OB) λ_ _=>.str e z
def OpR.or(h:OpR X f r)(h':OpR X f L):OpR X f (λx y H Q=>r x y H Q\/L x y H Q):=λzV s Z H x y v u Q I J B q=>q.elim (λz=>h zV s Z H x y v u Q I J B z) λz=>h' zV s Z H x y v u Q I J B z
def iH(K:W.Frag)(r:R2)(B:D->D->Option S):Prop:=∀(Z:St)(U:Env)(F G H:Hp)(x y:V)(p q:D)(s:S)(Q:VK),Rel K U Z F G H->bK K F H x p->bK K F H y q->B p q=some s->
 (∀v F' H',zG F F'->Rel K (U++[some s]) (Z++[some v]) F' G H'->Q v H')->r x y H Q
def ES(ho:∀pn xe,OpR (wp X pn xe) (binaryOp op) r)(hd:iH X.K r o)(ha:FE X a wa)(hb:FE X b wb):FE X (.BinOp a op b pos) (zM o wa wb):=by intro pn xe hp;show PE.imp (NR (ho pn xe) (ha pn xe hp) (hb pn xe hp)) λZ H Q h=>?_;show(Fo (k:=λx y J Q E=>zF (zR x J) λp=>zF (zR y J) λq=>zF (o p q) λs=>Q (.v s) J) h).mono λv H1 h1=>h1.mono λu H2 h2=>?_;let#[F,G,U,x,y,P,PX,O,hl,rx,ry,L,h4,hx]:=h2;let#[p,ep,L]:=Ao L;let#[q,eq,L]:=Ao L;let#[t,et,L]:=Ao L;let#[F1,s1,h3,M]:=AY O hl rx ep;let#[F2,s2,Y,B]:=AY (U':=[]) (Z':=[]) M hl ry eq;rw[qz,qz]at B;show hd Z U F2 G H2 v u p q t Q B (h3.mono s2) Y et λv' F' H' sm r'=>h4 (.v t) U v' F' H' L (s1.trans (s2.trans sm)) r' trivial
def tQ.mono(h:tQ X w Z H Q)(k:∀v H',Q v H'->Q' v H'):tQ X w Z H Q':=by let#[F,G,U,P,PX,J,O,L,M]:=h;show#[F,G,U,P,PX,J,O,λr B v Y H' a b c d e=>k _ _ (L r B v Y H' a b c d e),M]
inductive bo(X:Cx)(Z:St)(k:R->R->Env->(Bool->Env->Prop)->WX->Prop)(Q:Bool->Hp->Prop)(v u:V)(H:Hp):Prop
 |mk (F G:Hp) (U:Env) (x y:R) (P:Bool->Env->Prop) (PX:WX) (zX:Rel X.K (U++[zH x,zH y]) (Z++[some v,some u]) F G H) (hl:U.length=Z.length) (rx:RV Z v x) (ry:RV Z u y) (hk:k x y U P PX) (hok:∀r U' F' H',P r U'->zG F F'->Rel X.K U' Z F' G H'->Q r H') (hx:XC X (·=Z) F G PX):bo X Z k Q v u H
def Jn(h:iI X (λU Q E=>wa U (λx U1=>wb U1 (λy U2=>k x y U2 Q E) E) E) Z H Q):
  tW X wa Z H λv H1=>tW X wb Z H1 λu H2=>bo X Z k Q v u H2:=by
 let#[F,G,U,P,PX,h3,hw,h6,hx]:=h;show#[F,G,U,_,PX,h3,hw,λx U1 v F1 H1 h5 M r1 Y=>?_,hx];let h1:=Ah r1;let#[G1,B,gg,back]:=r1.hide h1;show#[F1,G1,U1,_,PX,B,h5,λy U2 u F2 H2 h4 L r2 O=>?_,hx.mono (λ_ z=>z) M gg];let h2:=Ah r2;let r3:=back L r2;rw[qp,qp]at r3;show#[F2,G,U2,x,y,P,PX,Rel.swap (U1:=[zH y]) (Z1:=[some u]) (U2:=[zH x]) (Z2:=[some v]) h2 rfl r3,h2,Y,O,h4,λr J F' H' a b c=>h6 r J F' H' a (M.trans (L.trans b)) c,hx.grow (M.trans L)]
def dM(K:W.Frag)(r:R2)(B:D->D->Option Bool):Prop:=∀(H:Hp)(x y:V)(p q:D)(k:Bool)(Q:VK),aS K H x p->aS K H y q->B p q=some k->Q (.bl k) H->r x y H Q
def Dt{K:W.Frag}(J:Rel K (U++[zH x,zH y]) (Z++[some v,some u]) F G H)(L:U.length=Z.length)(O:RV Z v x)(M:RV Z u y)(ep:view x U=some p)(eq:view y U=some q):
  aS K H v p/\aS K H u q/\Rel K U Z F G H:=by
 let B:Rel K (U++[zH y]) (Z++[some u]) F G H:=J.mid L;show#[look J L O ep,look (U':=[]) (Z':=[]) B L M eq,B.drop L]
def AD(ho:∀pn xe,OpR (wp X pn xe) (compareOp Y) r)(hd:dM X.K r o)(ha:FE X a wa)(hb:FE X b wb)(hm:behindInMarks Y b=false):FT X (.Compare a [Y] [b] pos) (aJ o wa wb):=by intro pn xe hp;show PT.imp (Qo (ho pn xe) (ha pn xe hp) (hb pn xe hp) hm) λZ H Q h=>?_;show(Jn (k:=λx y B Q E=>zF (view x B) λp=>zF (view y B) λq=>zF (o p q) λc=>Q c B) h).mono λv H1 h1=>h1.mono λu H2 h2=>?_;let#[F,G,U,x,y,P,PX,M,hl,rx,ry,J,O,hx]:=h2;let#[p,ep,J]:=Ao J;let#[q,eq,J]:=Ao J;let#[t,et,J]:=Ao J;let#[r1,r2,L]:=Dt M hl rx ry ep eq;show hd H2 v u p q t _ r1 r2 et #[t,rfl,O t U F H2 J (zG.refl F) L]
def DI(ho:∀pn xe,OpR (wp X pn xe) (compareOp Y) r)(hd:dM X.K r o)(ha:FE X a wa)(hb:FE X b wb)(hm:behindInMarks Y b=false):FE X (.Compare a [Y] [b] pos) (fP (aJ o wa wb)):=by intro pn xe hp;show PE.imp (Px (ho pn xe) (ha pn xe hp) (hb pn xe hp) hm) λZ H Q h=>?_;show(Fo (k:=λx y B Q E=>zF (view x B) λp=>zF (view y B) λq=>zF (o p q) λc=>Q (.v (.sh (.bl c))) B) h).mono λv H1 h1=>h1.mono λu H2 h2=>?_;let#[F,G,U,x,y,P,PX,M,hl,rx,ry,J,O,hx]:=h2;let#[p,ep,J]:=Ao J;let#[q,eq,J]:=Ao J;let#[t,et,J]:=Ao J;let#[r1,r2,L]:=Dt M hl rx ry ep eq;show hd H2 v u p q t _ r1 r2 et (O _ U (.bl t) F H2 J (zG.refl F) (L.push (.bl t)) trivial)
def Pd{K:W.Frag}(r:aS K H v d)(e:iL d=some k):xG K v H k:=by
 cases r with
 |non=>show(qf e).symm
 |bl b=>show(qf e).symm
 |int i=>have B:=(qf e).symm;rw[B];show decide (i≠0)=(i !=0);by_cases h:i=0<;>simp[h]
 |str L z=>
  rename_i x l;let B:=(qf e).symm;let J:x.length=l.length:=by rw[<-L];rfl
  show#[by rw[J];show z,?_];rw[B,J];cases l with
  |nil=>rfl
  |cons a r=>simp;lia
 |tup h r=>show .inr (.inl #[_,bM.of h,?_]);let B:=(qf e).symm;rw[B];cases r<;>rfl
 |lst h r=>show .inl #[_,h,?_];let B:=(qf e).symm;rw[B];cases r<;>rfl
 |dK h k r=>cases e
 |dT h k r=>cases e
 |st h r=>cases e
 |exc h k=>cases e
def Kg(ha:FE X a wa)(he:∀whole,isTrue a X.env whole=(do let v<-whole;standAt a.pos;holding [v] (truthy v)):=by intro _;rfl):FT X a (kG wa):=by intro pn xe hp;show PT.imp (Ru (ha pn xe hp) he) λZ H Q h=>?_;let#[F,G,U,P,PX,zX,hw,hok,hx]:=h;show#[F,G,U,_,PX,zX,hw,λx U1 v F1 H1 hk s1 r1 rv1=>?_,hx];let#[p,ep,hk]:=Ao hk;let#[t,et,hk]:=Ao hk;let hl:=Ah r1;show#[t,Pd (look (U':=[]) (Z':=[]) r1 hl rv1 ep) et,hok t U1 F1 H1 hk s1 (r1.drop hl)]
def Df{k:Bool->Env->(Bool->Env->Prop)->WX->Prop}(h:iI X (λU Q E=>ta U (λc U1=>k c U1 Q E) E) Z H Q)
  (hk:∀(c:Bool)(F G:Hp)(U:Env)(P:Bool->Env->Prop)(PX:WX)(H1:Hp),Rel X.K U Z F G H1->k c U P PX->(∀r U' F' H',P r U'->zG F F'->Rel X.K U' Z F' G H'->Q r H')->XC X (·=Z) F G PX->Q' c H1):iI X ta Z H Q':=by
 let#[F,G,U,P,PX,B,Y,J,M]:=h;show#[F,G,U,_,PX,B,Y,λc U1 F1 H1 hp L O=>hk c F1 G U1 P PX H1 O hp (λr U' F' H' a b c=>J r U' F' H' a (L.trans b) c) (M.grow L),M]
def DX(h:FW X a ta):FT X a ta:=λpn xe B=>(h pn xe B).pt
def EW(h:FT X a ta):FW X (.BoolOp .And [a] pos) ta:=λpn xe B=>Pj (h pn xe B)
def JS(h:FT X a ta):FW X (.BoolOp .Or [a] pos) ta:=λpn xe B=>Od (h pn xe B)
def ET{rest:List Expr}(h:FT X a ta)(h':FW X (.BoolOp .And (b::rest) pos) tb):FW X (.BoolOp .And (a::b::rest) pos) (dG ta tb):=λpn xe M=>by
 show PW.imp (NG (h pn xe M) (h' pn xe M)) λZ H Q q=>?_;show Df (k:=λc B Q E=>if c then tb B Q E else Q false B) q λc F G U P PX H1 J O L Y=>?_;cases c with
 |true=>show#[F,G,U,P,PX,J,O,L,Y]
 |false=>show L false U F H1 O (zG.refl F) J
def JM{rest:List Expr}(h:FT X a ta)(h':FW X (.BoolOp .Or (b::rest) pos) tb):FW X (.BoolOp .Or (a::b::rest) pos) (oB ta tb):=λpn xe M=>by
 show PW.imp (Nn (h pn xe M) (h' pn xe M)) λZ H Q q=>?_;show Df (k:=λc B Q E=>if c then Q true B else tb B Q E) q λc F G U P PX H1 J O L Y=>?_;cases c with
 |false=>show#[F,G,U,P,PX,J,O,L,Y]
 |true=>show L true U F H1 O (zG.refl F) J
def Oo(h:FT X a ta):FT X (.UnaryOp .Not a pos) (lS ta):=λpn xe M=>by show PT.imp (OM (h pn xe M)) λZ H Q q=>?_;show Df (k:=λc B Q E=>Q (!c) B) q λc F G U P PX H1 J O L Y=>L _ U F H1 O (zG.refl F) J
def KW(hc:FT X c tc)(ha:FE X a wa)(hb:FE X b wb):FE X (.IfExp c a b pos) (oG tc wa wb):=λpn xe hp=>by
 show PE.imp (SD (hc pn xe hp) (ha pn xe hp) (hb pn xe hp)) λZ H Q q=>?_;let#[F,G,U,P,PX,O,hw,L,Y]:=q;show#[F,G,U,_,PX,O,hw,λc J F1 H1 hk M r1=>?_,Y];cases c with
 |true=>show#[F1,G,J,P,PX,r1,hk,λr B v F' H' a b c d=>L r B v F' H' a (M.trans b) c d,Y.grow M]
 |false=>show#[F1,G,J,P,PX,r1,hk,λr B v F' H' a b c d=>L r B v F' H' a (M.trans b) c d,Y.grow M]
def Ab:FA X [] zy:=λpn xe O=>PA.imp JQ λZ H Q q=>by let#[F,G,U,P,PX,B,L,J,M]:=q;show J [] U [] F H L (zG.refl F) ↑B B.len trivial
def Aa(ha:FE X e wa)(hb:FA X es wb)(hs:starEach (e::es) X.env=(false,eval e X.env)::starEach es X.env:=by rfl):FA X (e::es) (zx wa wb):=λpn xe hp=>by
 show PA.imp (Ks (ha pn xe hp) (hb pn xe hp) hs) λZ H Q q=>?_;let#[F,G,U,P,PX,O,hw,h4,hx]:=q;show#[F,G,U,_,PX,O,hw,λx U1 v F1 H1 h3 s1 r1 L=>?_,hx];let h1:=Ah r1;let#[G1,B,gg,back]:=r1.hide h1;show#[F1,G1,U1,_,PX,B,h3,λM U2 vs F2 H2 Y s2 r2 h2 J=>?_,hx.mono (λ_ z=>z) s1 gg];let r3:=back s2 r2;rw[qp,qp]at r3;let hl:(M.map zH).length=(vs.map some).length:=by let:=r2.len;grind
 show h4 (x::M) U2 (v::vs) F2 H2 Y (s1.trans s2) (Rel.swap (U1:=M.map zH) (Z1:=vs.map some) (U2:=[zH x]) (Z2:=[some v]) h2 hl r3) h2 #[L,J]
section
variable{K:W.Frag}
def oA.len:∀{vs:List V}{rs:List R},oA Z vs rs->vs.length=rs.length
 |[],[],_=>rfl
 |[],_::_,h=>h.elim
 |_::_,[],h=>h.elim
 |_::vs,_::rs,h=>by simp[oA.len h.2]
def FR:∀{rs:List R}{vs:List V}{U U' U1:Env}{ss:List S}{F:Hp}{Z':St},Rel K (U++(rs.map zH++U')) (Z++(vs.map some++Z')) F G H->U.length=Z.length->oA Z vs rs->aI rs U=some (ss,U1)->
  ∃F',zG F F'/\U1.length=U.length/\ss.length=rs.length/\Rel K (U1++(ss.map some++U')) (Z++(vs.map some++Z')) F' G H
 |[],[],U,U',U1,ss,F,Z',r,h,_,e=>by let B:some (([]:List S),U)=some (ss,U1):=e;cases B;show#[F,zG.refl F,rfl,rfl,r]
 |[],_::_,_,_,_,_,_,_,_,_,h,_=>h.elim
 |_::_,[],_,_,_,_,_,_,_,_,h,_=>h.elim
 |x::rs,v::vs,U,U',U1,ss,F,Z',r,h,rv,e=>by
  let B:(match give x U with|some (s,U1)=>(match aI rs U1 with|some (ss,U2)=>some (s::ss,U2)|none=>none)|none=>none)=some (ss,U1):=e;cases q:give x U with
  |none=>rw[q]at B;cases B
  |some p=>
   let#[s,U2]:=p;rw[q]at B;cases J:aI rs U2 with
   |none=>simp only[J]at B;cases B
   |some p2=>
    let#[M,h1]:=p2;simp only[J]at B;cases B;let#[F1,s1,l1,r1]:=AC (U':=rs.map zH++U') (Z':=vs.map some++Z') r h rv.1 q;let h2:U2.length=Z.length:=l1.trans h;let hl:(rs.map zH++U').length=(vs.map some++Z').length:=by let:=r1.len;rw[qq,qq,qt,qt]at this;lia
    let L:U'.length=Z'.length:=by let:=rv.2.len;simp at hl;lia
    let Y:=Rel.swap (U1:=[some s]) (Z1:=[some v]) (U2:=rs.map zH++U') (Z2:=vs.map some++Z') h2 rfl r1;rw[qp,qp]at Y;let#[F2,s2,l2,l3,O]:=FR (rs:=rs) (vs:=vs) Y h2 rv.2 J;let h3:U1.length=Z.length:=l2.trans h2;rw[<-qp (M.map some),<-qp (vs.map some)]at O;let r4:=Rel.swap (U1:=M.map some++U') (Z1:=vs.map some++Z') (U2:=[some s]) (Z2:=[some v]) h3 (by simp[l3,rv.2.len,L]) O;show#[F2,s1.trans s2,l2.trans l1,by simp[l3],r4]
def BE:∀{vs:List V}{ss:List S}{fp:List Addr},zI K F H (ss.map some) (vs.map some) fp->zJ K F H vs ss fp
 |[],[],_,.nil=>.nil
 |[],_::_,_,h=>nomatch h
 |_::_,[],_,h=>nomatch h
 |v::vs,s::ss,_,.so a b=>.cons a (BE b)
def Rel.newL(r:Rel K (U++ss.map some) (Z++vs.map some) F G H)(h:U.length=Z.length)(J:H p=none):
  Rel K (U++[some (.lst ss)]) (Z++[some (.ref p)]) F G (upd H p (.lst vs)):=by
 let#[f0,g0,Y]:=r.free J;let#[fp,e,nd,ap]:=r.en;let L:∀a∈fp,a≠p:=λa B z=>Y fp e (z▸B);let#[f1,f2,rfl,O,M]:=(e.mono (H':=upd H p (.lst vs)) (zG.refl F) λa B=>An (L a B)).cut h;show#[zG.updR r.fr f0,λa u q=>?_,f1++((p::f2)++[]),O.app (.so (.lst AX (BE M)) .nil),?_,λa B=>?_]
 .let J:a≠p:=λz=>by rw[z,g0]at q;cases q
  rw[An J];show r.gr a u q
 .grind
 grind
def Rel.giveD{ss:List S}(r:Rel K (U++ss.map some) (Z++vs.map some) F G H)(h:U.length=Z.length):∃F',zG F F'/\zT K F' vs (ss.map S.toD)/\Rel K U Z F' G H:=by
 classical
 let#[fp,e,O,ap]:=r.en;let#[f1,M,rfl,a,b]:=e.cut h;let#[Y,n2,n3]:=qw.mp O;let B:zG F (λx=>if x∈M then H x else F x):=λx o w=>by grind
 let J:=(BE b).frz B λx L=>by simp[L,if_true]
 rw[S.toDs_map]at J;show#[_,B,J,λx o w=>?_,λx o w=>?_,f1,a.mono B λ_ _=>rfl,Y,λx L=>?_]
 .by_cases z:x∈M
  .simp only[z]at w;show w
  .simp only[z]at w;show r.fr x o w
 .let w2:=r.gr x o w;grind
 grind
end
inductive bz(X:Cx)(Z:St)(k:List R->Env->WQ->WX->Prop)(Q:VK)(vs:List V)(H:Hp):Prop
 |mk (F G:Hp) (U:Env) (rs:List R) (P:WQ) (PX:WX) (zX:Rel X.K (U++rs.map zH) (Z++vs.map some) F G H) (hl:U.length=Z.length) (rv:oA Z vs rs) (hk:k rs U P PX) (hok:∀r U' v F' H',P r U'->zG F F'->Rel X.K (U'++[zH r]) (Z++[some v]) F' G H'->RV Z v r->Q v H') (hx:XC X (·=Z) F G PX):bz X Z k Q vs H
theorem many(h:tW X (λU Q E=>wa U (λrs U1=>k rs U1 Q E) E) Z H Q):tQ X wa Z H λvs H1=>bz X Z k Q vs H1:=by let#[F,G,U,P,PX,L,hw,O,hx]:=h;show#[F,G,U,_,PX,L,hw,λrs U1 vs F1 H1 M Y r1 h1 J=>#[F1,G,U1,rs,P,PX,r1,h1,J,M,λr B v F' H' a b c d=>O r B v F' H' a (Y.trans b) c d,hx.grow Y],hx]
def Bh(h:FA X es wa):FE X (.List es pos) (cE wa):=λpn xe O=>by
 show PE.imp (OS (h pn xe O)) λZ H Q q=>?_;show(many (k:=λJ B Q E=>zF (if J.length<=big then aI J B else none) λp=>Q (.v (.lst p.1)) p.2) q).mono λvs H1 h1=>?_;let#[F,G,U,J,P,PX,L,hl,rv,hk,Y,hx]:=h1;let#[#[ss,B],ep,hk]:=Ao hk;by_cases M:J.length<=big
 .rw[q5 M]at ep;let#[F1,s1,l1,l2,r1]:=FR (U':=[]) (Z':=[]) ↑L hl rv ep;show#[by rw[rv.len];show le_trans M ⋯,λp O=>Y _ B (.ref p) F1 _ hk s1 (Rel.newL ↑r1 (l1.trans hl) O) trivial]
 .rw[q8 M]at ep;cases ep
def AF(h:FA X es wa):FE X (.Tuple es k pos) (aW wa):=λpn xe L=>by
 show PE.imp (Po (h pn xe L)) λZ H Q q=>?_;show(many (k:=λJ B Q E=>zF (if J.length<=big then aI J B else none) λp=>Q (.v (.sh (.tup (p.1.map S.toD)))) p.2) q).mono λvs H1 h1=>?_;let#[F,G,U,J,P,PX,M,hl,rv,hk,Y,hx]:=h1;let#[#[ss,B],ep,hk]:=Ao hk;by_cases O:J.length<=big
 .rw[q5 O]at ep;let#[F1,s1,l1,l2,r1]:=FR (U':=[]) (Z':=[]) ↑M hl rv ep;let#[F2,s2,rp,r2]:=Rel.giveD (U:=B) ↑r1 (l1.trans hl);show#[by rw[rv.len];show le_trans O ⋯,λp L=>?_];let n2:=(r2.free L).1;show Y _ B (.ref p) _ _ hk (s1.trans (s2.trans (zG.upd n2))) ((r2.newF L).push (.tup AX (rp.mono (zG.upd n2)))) trivial
 .rw[q8 O]at ep;cases ep
def KP.refl:KP ks Z Z:=λ_ _=>rfl
def KP.trans(a:KP ks Z Z1)(b:KP ks Z1 Z2):KP ks Z Z2:=λi h=>(b i h).trans (a i h)
inductive dj(X:Cx)(ks:List Nat)(w:WS)(D:L2.Ends)(Z:St)(H:Hp):Prop
 |mk (F G:Hp) (U:Env) (E:Ends) (zX:Rel X.K U Z F G H) (hw:w E U) (n:∀U' Z' F' H',E.nx U'->KP ks Z Z'->zG F F'->Rel X.K U' Z' F' G H'->D.nx Z' H') (b:∀U' Z' F' H',E.bk U'->KP ks Z Z'->zG F F'->Rel X.K U' Z' F' G H'->D.bk Z' H') (c:∀U' Z' F' H',E.ct U'->KP ks Z Z'->zG F F'->Rel X.K U' Z' F' G H'->D.ct Z' H') (r:∀r U' Z' v F' H',E.rt r U'->KP ks Z Z'->zG F F'->Rel X.K (U'++[zH r]) (Z'++[some v]) F' G H'->RV Z' v r->D.rt v H') (hx:XC X (KP ks Z) F G E.ex):dj X ks w D Z H
@[inline]def FS(X:Cx)(ks:List Nat)(st:Stmt)(w:WS):Prop:=∀(pn:List (Addr×Obj))(xe:zv),PassesOwn (model X.prog X.w) X.A X.env xe->PS (wp X pn xe) st (dj (wp X pn xe) ks w)
def lF(X:Cx)(ks:List Nat)(st:List Stmt)(w:WS):Prop:=∀(pn:List (Addr×Obj))(xe:zv),PassesOwn (model X.prog X.w) X.A X.env xe->iY (wp X pn xe) st (dj (wp X pn xe) ks w)
def PS.imp(h:PS X e t)(k:∀D Z H,t' D Z H->t D Z H):PS X e t':=λzV s Z H D I q=>h zV s Z H D I (k D Z H q)
def iY.imp(h:iY X e t)(k:∀D Z H,t' D Z H->t D Z H):iY X e t':=λzV s Z H D I q=>h zV s Z H D I (k D Z H q)
inductive xS(X:Cx)(ks:List Nat)(g:WG)(v:V)(Z:St)(H:Hp)(Q:St->Hp->Prop):Prop
 |mk (F G:Hp) (U:Env) (s:S) (P:Env->Prop) (zX:Rel X.K (U++[some s]) (Z++[some v]) F G H) (hw:g s U P) (n:∀U' Z' F' H',P U'->KP ks Z Z'->zG F F'->Rel X.K U' Z' F' G H'->Q Z' H'):xS X ks g v Z H Q
@[inline]def FG(X:Cx)(ks:List Nat)(tg:Expr)(g:WG):Prop:=∀(pn:List (Addr×Obj))(xe:zv),PassesOwn (model X.prog X.w) X.A X.env xe->PG (wp X pn xe) tg (xS (wp X pn xe) ks g)
def PG.imp(h:PG X e t)(k:∀v Z H Q,t' v Z H Q->t v Z H Q):PG X e t':=λzV s Z H v u Q I r q=>h zV s Z H v u Q I r (k v Z H Q q)
section
variable{st:Stmt}{rest:List Stmt}
def Bf:lF X ks [] aP:=λpn xe L=>iY.imp KL λD Z H q=>by let#[F,G,U,E,B,J,n,b,c,r,x]:=q;show n U Z F H J KP.refl (zG.refl F) B
def Ag(h1:FS X ks st w1)(h2:lF X ks rest w2):lF X ks (st::rest) (zN w1 w2):=λpn xe Y=>iY.imp (RH (h1 pn xe Y) (h2 pn xe Y)) λD Z H q=>by
 obtain⟨F,G,U,E,h4,hw,n,b,c,r,x⟩:=q;show#[F,G,U,{E with nx:=w2 E},h4,hw,λh3 h6 F1 H1 Y k O r1=>?_,b,c,r,x];exact⟨F1,G,h3,E,r1,Y,λJ B M H' h L s r=>n J B M H' h (k.trans L) (O.trans s) r,λJ B M H' h L s r=>b J B M H' h (k.trans L) (O.trans s) r,
  λJ B M H' h L s r=>c J B M H' h (k.trans L) (O.trans s) r,λa J B v M H' h L s q rv=>r a J B v M H' h (k.trans L) (O.trans s) q rv,x.mono (λh5 L=>k.trans L) O (zG.refl G)⟩
def Aj(h1:FS X ks st B):lF X ks [st] B:=λpn xe J=>Qh (h1 pn xe J)
def BB(h:FE X e Y)(hs:swapsWith e none pos.line X.env=pure false:=by rfl):FS X ks (.Expr e pos) (wExpr Y):=λpn xe L=>PS.imp (Qc (h pn xe L) hs) λD Z H q=>by let#[F,G,U,E,J,hw,n,b,c,r,x]:=q;show#[F,G,U,_,_,J,hw,λa B v F1 H1 L s1 M rv=>n B Z F1 H1 L KP.refl s1 (M.drop (Ah M)),x.mono (λO z=>by rw[z];show KP.refl) (zG.refl F) (zG.refl G)]
def AL(h:FE X e O):FS X ks (.Return (some e) pos) (bE O):=λpn xe L=>PS.imp (OH (h pn xe L)) λD Z H q=>by let#[F,G,U,E,J,hw,n,b,c,r,x]:=q;show#[F,G,U,_,_,J,hw,λa B v F1 H1 L Y r1 rv=>r a B Z v F1 H1 L KP.refl Y r1 rv,x.mono (λM z=>by rw[z];show KP.refl) (zG.refl F) (zG.refl G)]
def Bb(hc:FT X c tc)(ha:lF X ks a w1)(hb:lF X ks b w2):FS X ks (.If c a b pos) (dU tc w1 w2):=λpn xe O=>PS.imp (Nm (hc pn xe O) (ha pn xe O) (hb pn xe O)) λD Z H q=>by
 obtain⟨F,G,U,E,h1,hw,n,b,c,r,x⟩:=q;show#[F,G,U,_,_,h1,hw,λk Y F1 H1 O s1 r1=>?_,x.mono (λh2 z=>by rw[z];show KP.refl) (zG.refl F) (zG.refl G)];let go:∀w:WS,w E Y->dj (wp X pn xe) ks w D Z H1:=λw hw=>⟨F1,G,Y,E,r1,hw,λJ B M H' h L s r=>n J B M H' h L (s1.trans s) r,λJ B M H' h L s r=>b J B M H' h L (s1.trans s) r,
  λJ B M H' h L s r=>c J B M H' h L (s1.trans s) r,λa J B v M H' h L s q rv=>r a J B v M H' h L (s1.trans s) q rv,x.grow s1⟩
 cases k with
 |true=>show go _ O
 |false=>show go _ O
def Al(he:FE X e we)(hg:FG X ks tg g)(hs:swapsWithSole [tg] e pos.line X.env=pure false:=by rfl)(M:swappedStores [tg] e X.env=pure none:=by rfl)
  (h1:(assignEach [tg] X.env).map (·.2)=[assign tg X.env]:=by rfl):FS X ks (.Assign [tg] e pos) (zP g we):=λpn xe B=>PS.imp (JN (he pn xe B) (hg pn xe B) hs M h1) λD Z H q=>by
 let#[F,G,U,E,L,M,n,b,c,r,x]:=q;show#[F,G,U,_,_,L,M,λa h2 v F1 H1 B s1 O rv=>?_,x.mono (λY z=>by rw[z];show KP.refl) (zG.refl F) (zG.refl G)];let#[#[s,J],eg,hk]:=Ao B;let#[F2,s2,l2,r2]:=AC (U':=[]) (Z':=[]) O (Ah O) rv eg;show#[F2,G,J,s,_,r2,hk,λU' Z' F' H' h k' s r=>n U' Z' F' H' h k' (s1.trans (s2.trans s)) r]
end
def Mg(I:Inv X zV Z H s)(hN:∀j,X.N[j]?=some x->j=i)(hi:X.N[i]?=some x)(Y:Loc X.env.scope x)(r:zK v u)
  (h:∀s',Inv X zV (Z.set i (some v)) H s'->(∃a,Heap.SameBut a s.heap s'.heap/\(a=X.env.locals\/X.env.cells.lookup x=some a))->Q () s')(hf:X.fn x=true\/X.env.scope.names.lookup x=some .local):wpAny M A (storeName X.env x u) Q E s:=by
 let#[m,hn,hl]:=id I.loc;let h6:(X.env.scope.kind==.class||(X.env.scope.kind==.module&&X.env.locals !=X.env.globals))=false:=by rw[I.ok.kind];rfl
 let h2:i<Z.length:=by rw[I.len];show(qg.mp hi).1
 have cne:=I.cne;let J:∀{a:Addr}{h':Heap},(∃o,s.heap.get? a=some o/\H a=none)->Heap.SameBut a s.heap h'->eC X.prog X.w H h':=λ{a h'} ha B b ob e=>by
  let#[_,_,h1]:=ha;show(I.hok b ob e).stay (λc w' O q=>(B.2 c ?_).trans q) (λ_ q=>q) λ_ _ q=>q;rintro rfl;rcases O with rfl|O
  .rw[h1]at e;cases e
  .rw[h1]at O;cases O
 rcases Y with hk|hk
 .refine wpAny_storeName_local hk hn (λh' e4 B=>?_) h6;let#[oL,_,_,h9,_]:=id hn;refine h _ #[I.ok,I.os,I.bare,#[λb o e n hb Y=>?_,λb o e n hb Y=>?_,I.base.free,λb o e Y=>?_,I.base.tups,I.base.frzs,I.base.tbls],#[_,e4,λj y v' L e2 e3=>?_],λy c e=>?_,I.free,I.freeC,λp hp=>?_,J #[oL,h9,I.free] B,↑I.len] #[_,B,.inl rfl]
  .show(B.2 b (ne_of_lt (lt_of_lt_of_le (qe e) I.ok.above))).trans (I.base.keep b o e n hb Y)
  .obtain⟨sl,L⟩:=I.base.slot b o e n hb Y;show#[sl,(B.2 b (ne_of_lt (lt_of_lt_of_le (qe e) I.ok.above))).trans L]
  .obtain⟨o',L⟩:=I.base.there b o e Y;show#[o',(B.2 b (ne_of_lt (lt_of_lt_of_le (qe e) I.ok.above))).trans L]
  .by_cases hj:j=i
   .subst hj;rw[hi]at L;cases L;rw[getElem?_set_self h2]at e2;cases e2;show#[u,r,.inl #[hk,by simp]]
   .rw[getElem?_set_ne (Ne.symm hj)]at e2;let#[u',r',q]:=hl j y v' L e2 e3;show#[u',r',?_];rcases q with⟨k,e⟩|⟨k,c,e,z⟩
    .show .inl #[k,?_];let:y≠x:=λe=>hj (hN j (e▸L));simp[this,e]
    .show .inr #[k,c,e,z.sameBut B (cne y c e)]
  .obtain⟨w',z⟩:=I.cell y c e;show#[w',z.sameBut B (cne y c e)]
  .obtain⟨e,n,ne,nf,d⟩:=I.pin p hp;show#[(B.2 p.1 ne).trans e,n,ne,nf,d]
 .have h3:X.fn x=true:=by
   rcases hf with z|z
   .show z
   .rw[z]at hk;cases hk
  let#[c,O]:=I.ok.has x (.inl hk);let#[w',z]:=I.cell x c O;show wpAny_storeName_cell I.ok.kind hk O z (λh' h8 B=>?_);let#[oc,h5,h4]:=id z;show h {s with heap:=h'} ⟨I.ok,I.os,I.bare,⟨λb o e n hb Y=>?_,λb o e n hb Y=>?_,I.base.free,λb o e Y=>?_,I.base.tups,I.base.frzs,I.base.tbls⟩,⟨m,hn.sameBut B (Ne.symm (cne x c O)),λj y v' L e2 e3=>?_⟩,λy c' e=>?_,I.free,I.freeC,λp hp=>?_,J ⟨oc,h5,I.freeC x c O⟩ B,↑I.len⟩ #[c,B,.inr O]
  .show(B.2 b (ne_of_lt (lt_of_lt_of_le (qe e) (I.ok.cab x c h3 O)))).trans (I.base.keep b o e n hb Y)
  .obtain⟨sl,L⟩:=I.base.slot b o e n hb Y;show#[sl,(B.2 b (ne_of_lt (lt_of_lt_of_le (qe e) (I.ok.cab x c h3 O)))).trans L]
  .obtain⟨o',L⟩:=I.base.there b o e Y;show#[o',(B.2 b (ne_of_lt (lt_of_lt_of_le (qe e) (I.ok.cab x c h3 O)))).trans L]
  .by_cases hj:j=i
   .subst hj;rw[hi]at L;cases L;rw[getElem?_set_self h2]at e2;cases e2;show#[u,r,.inr #[.inl hk,c,O,h8]]
   .rw[getElem?_set_ne (Ne.symm hj)]at e2;let#[u',r',q]:=hl j y v' L e2 e3;show#[u',r',?_];rcases q with q|⟨k,c',e,z'⟩
    .show .inl q
    .show .inr #[k,c',e,z'.sameBut B ?_];rintro rfl;show hj (hN j (I.ok.inj _ _ _ e O▸L))
  .by_cases h7:c'=c
   .subst h7;show#[_,h8]
   .obtain⟨w2,z2⟩:=I.cell y c' e;show#[w2,z2.sameBut B h7]
  .obtain⟨e,n,ne,nf,d⟩:=I.pin p hp;show#[(B.2 p.1 ?_).trans e,n,ne,nf,d];intro q;rw[q,h5]at e;let q':oc=p.2:=qf e;show d w' (by rw[<-q'];show h4)
def KP.set(h:i∉ks):KP ks Z (Z.set i u):=λj B=>getElem?_set_ne (λ(z:i=j)=>h (z▸B))
def Ky(hk:i∉ks)(hN:∀j,X.N[j]?=some x->j=i)(hi:X.N[i]?=some x)(O:Loc X.env.scope x)(hf:X.fn x=true\/X.env.scope.names.lookup x=some .local):FG X ks (.Name x pos) (zz i):=by
 intro pn xe hp zV s Z H v u Q I M q;let#[F,G,U,t,P,B,Y,n]:=q;let L:=Ah B;let J:i<U.length:=by rw[L,I.len];show(qg.mp hi).1
 show wpAny_assign_Name (Mg (X:=wp X pn xe) I hN hi O M (λs' I' _=>#[_,H,I',n _ _ F H Y (KP.set hk) (zG.refl F) (B.store L J)]) hf)
inductive yC(X:Cx)(ks:List Nat)(gs:List WG)(vs:List V)(Z:St)(H:Hp)(Q:St->Hp->Prop):Prop
 |mk (F G:Hp) (U:Env) (ds:List D) (P:Env->Prop) (zX:Rel X.K U Z F G H) (rp:zT X.K F vs ds) (hw:eA gs ds U P) (n:∀U' Z' F' H',P U'->KP ks Z Z'->zG F F'->Rel X.K U' Z' F' G H'->Q Z' H'):yC X ks gs vs Z H Q
def dy(X:Cx)(ks:List Nat)(tg:List Expr)(g:List WG):Prop:=∀(pn:List (Addr×Obj))(xe:zv),PassesOwn (model X.prog X.w) X.A X.env xe->bw (wp X pn xe) tg (yC (wp X pn xe) ks g)
def Ce:dy X ks [] []:=λpn xe O zV s Z H vs L Q I r q=>by
 let#[F,G,U,Y,P,B,M,J,n]:=q;show PV zV s Z H vs L Q I r ?_;cases M with
 |nil=>show#[rfl,n U Z F H J KP.refl (zG.refl F) B]
 |cons a b=>show J.elim
def AG(h1:FG X ks e g)(h2:dy X ks es gs)
  (hs:(assignEach (e::es) X.env).map (·.2)=assign e X.env::(assignEach es X.env).map (·.2):=by rfl):dy X ks (e::es) (g::gs):=λpn xe B zV s Z H vs us Q I r q=>by
 let#[F,G,U,ds,P,O,rp,hw,n]:=q;show QX (X:=wp X pn xe) (h1 pn xe B) (h2 pn xe B) hs zV s Z H vs us Q I r ?_;cases rp with
 |nil=>show hw.elim
 |cons a b=>show#[_,_,rfl,F,G,U,_,_,O.push a,hw,λL h3 F1 H1 B k Y r1=>#[F1,G,L,_,P,r1,b.mono Y,B,λM J F' H' h k' s r=>n M J F' H' h (k.trans k') (Y.trans s) r]]
def zT.len{K:W.Frag}(r:zT K F xs ds):xs.length=ds.length:=zT.ind (P:=λxs ds=>xs.length=ds.length) rfl (λ_ _ B=>congrArg (·+1) B) r
def Cf(hc:X.calm=true)(h:dy X ks es L)(hn:(assignEach es X.env).length=L.length:=by rfl)(Y:(assignEach es X.env).findIdx? (·.1)=none:=by rfl):FG X ks (.Tuple es k pos) (bT L):=λpn xe hp=>by
 show PG.imp (ON (X:=wp X pn xe) hc (h pn xe hp) hn Y) λv Z H Q q=>?_;let#[F,G,U,s,P,J,hw,n]:=q;let#[F1,s1,rp,r1]:=Rel.giveD (U:=U) (vs:=[v]) (ss:=[s]) J (Ah J);cases rp with
 |cons a b=>
  let B:(match s.toD with|.tup ds=>ds.length=L.length/\eA L ds U P|_=>False):=hw;generalize s.toD=d at a B;cases a with
  |tup e r=>show#[_,_,rfl,bM.of (r1.fr _ _ e),by rw[r.len];show B.1,F1,G,U,_,P,r1,r,B.2,λO M F' H' h k' s r=>n O M F' H' h k' (s1.trans s) r]
  |_=>show B.elim
def eV(K:W.Frag)(J:It)(l:List D)(B:Hp):Prop:=∀(i:Nat)(U:Env)(Z:St)(F G H:Hp),zG B F->Rel K U Z F G H->
 (∀d,l[i]?=some d->J.go i H/\∀x H',J.yld i H x H'->∃F',zG F F'/\Rel K U Z F' G H'/\aS K F' x d)/\(l.length<=i->J.stop i H)
inductive ly(X:Cx)(wi:WI)(Z:St)(H:Hp)(R:It->Hp->Prop):Prop
 |mk (F G:Hp) (U:Env) (P:List D->Env->Prop) (PX:WX) (zX:Rel X.K U Z F G H) (hw:wi U P PX) (hok:∀l U' F' H' J,P l U'->zG F F'->Rel X.K U' Z F' G H'->eV X.K J l F'->R J H') (hx:XC X (·=Z) F G PX):ly X wi Z H R
@[inline]def FI(X:Cx)(tg iter:Expr)(B:WI):Prop:=∀(pn:List (Addr×Obj))(xe:zv),PassesOwn (model X.prog X.w) X.A X.env xe->PI (wp X pn xe) tg iter (ly (wp X pn xe) B)
def PI.imp(h:PI X tg e t)(k:∀Z H R,t' Z H R->t Z H R):PI X tg e t':=λzV s Z H R I q=>h zV s Z H R I (k Z H R q)
def zT.get{K:W.Frag}{i:Nat}(r:zT K F xs ds)(h:ds[i]?=some d):∃x,xs[i]?=some x/\aS K F x d:=
 zT.ind (P:=λxs ds=>∀i d,ds[i]?=some d->∃x,xs[i]?=some x/\aS K F x d) (λ_ _ e=>by cases e) (λa _ B i d e=>by
  cases i with
  |zero=>cases e;show#[_,rfl,a]
  |succ i=>show B i d e) r i d h
section
variable{K:W.Frag}
def IP(e:bN K F0 a xs)(r:zT K F0 xs l):eV K (xW K a) l F0:=λi U Z F G H M B=>by let L:bN K H a xs:=bN.mono (M.trans B.fr) e;show#[λd hd=>?_,λh=>#[xs,L,by rw[r.len];show h]];let#[x,O,Y]:=r.get hd;show#[#[xs,x,L,O],λy H' J=>?_];let#[rfl,J]:=J;let:x=y:=qf (O.symm.trans (J xs L));subst this;show#[F,zG.refl F,B,Y.mono M]
def Sy(e:bM K F0 a xs)(r:zT K F0 xs l):eV K (lj K a) l F0:=λi U Z F G H M B=>by let L:bM K H a xs:=bM.mono (M.trans B.fr) e;show#[λd hd=>?_,λh=>#[xs,L,by rw[r.len];show h]];let#[x,O,Y]:=r.get hd;show#[#[xs,x,L,O],λy H' J=>?_];let#[rfl,J]:=J;let:x=y:=qf (O.symm.trans (J xs L));subst this;show#[F,zG.refl F,B,Y.mono M]
def Tz{lo:Int}(h:(fromTo lo n)[i]?=some d):i<n/\d=.int (lo+i):=by
 unfold fromTo at h;rw[qF]at h;by_cases hi:i<n
 .rw[List.getElem?_range hi]at h;show#[hi,(qf h).symm]
 .rw[qQ ↑hi]at h;cases h
def MA{lo:Int}:eV K (cg lo n) (fromTo lo n) F0:=λi U Z F G H M B=>by
 show#[λd L=>?_,λh=>?_]
 .obtain⟨hi,rfl⟩:=Tz L;show#[hi,λx H' J=>?_];let#[rfl,rfl]:=J;show#[F,zG.refl F,B,.int _]
 .let:n<=i:=by simpa[fromTo] using h
  show this
end
def xK(x:Str):It:=#[λi _=>i<x.cps.size,λi H v H'=>H'=H/\∃c,x.cps[i]?=some c/\v=.str #[[c].toArray],λi _=>x.cps.size<=i]
def Sf{P:Program}{w:World}{K:W.Frag}{tg:Expr}(it:Addr)(x:Str)(t:Tok)(ty:String)(hty:ty="str_ascii_iterator"\/ty="str_iterator"):iE P w K tg (xK x) [it] it (λi h=>h.IsStrIter it ty x t i) where
 mem:=m1
 obj:=λi h st b hb=>by
  let e:b=it:=↑hb
  subst e;let#[o,e,c,d]:=st;show#[o,e,λv z=>by rw[d]at z;cases z]
 keep:=λi h h' st k=>by let#[o,e,r]:=st;show#[o,k it (m1) o e,r]
 item:=by
  intro X hP hw hK hc i zV s Z H E I hf st hg;subst hP hw hK;let#[f0,f1,f2,f3,f4,f5]:=hf it (m1);let W:Walks X.prog X.w X.A it [it] [it] x.cps.size (SignAt x) (λi h=>h.IsStrIter it ty x t i):=by
   rcases hty with rfl|rfl
   .show Walks.strAscii (I.ok.hd hc) it x t
   .show Walks.strWide (I.ok.hd hc) it x t
  show W.item i s _ _ hg st λv h' tk hv st' kk=>?_;let#[c,u,e1,rfl]:=hv;let I1:Inv X zV Z H {s with heap:=h',toks:=tk}:=I.turned (λb o hb e=>kk b o ↑hb e) f0 f1 f3 f4 f5;let#[o,e,cl,d]:=id st';show#[_,rfl,GE (s:={s with heap:=h',toks:=tk}) e cl d (by rcases hty with rfl|rfl<;>decide) ⟨.str ⟨[c].toArray⟩,H,I1,⟨u,rfl⟩,⟨rfl,c,e1,rfl⟩,st',λb hb=>(hf b hb).1⟩]
 done:=by
  intro X hP hw hK hc i zV s Z H E I hf st hg;let#[f0,f1,f2,f3,f4,f5]:=hf it (m1);let hn:x.cps[i]?=none:=by let:x.cps.size<=i:=hg;simp[this]
  rcases hty with rfl|rfl
  .show wpAny_pyNext_ascii_end (I.ok.hd hc) st hn λh' eb=>#[rfl,I.turned (t':=s.toks) (λb o hb e=>eb b o hb e) f0 f1 f3 f4 f5]
  .show wpAny_pyNext_wide_end (I.ok.hd hc) st hn λh' eb=>#[rfl,I.turned (t':=s.toks) (λb o hb e=>eb b o hb e) f0 f1 f3 f4 f5]
 self:=λA i s Q E st h=>by
  rcases hty with rfl|rfl
  .show wpAny_pyIter_striter_ascii st h
  .show wpAny_pyIter_striter_wide st h
def kl(K:W.Frag)(B:TE):TI:=λZ H R=>B Z H λv H1=>(∃a,v=.ref a/\(∃xs,bN K H1 a xs)/\R (xW K a) H1)\/(∃a,v=.ref a/\(∃xs,bM K H1 a xs)/\R (lj K a) H1)\/∃x,v=.str x/\R (xK x) H1
def Pp(hl:PE X l tl):PI X tg l (kl X.K tl):=by
 intro zV s Z H R I h;show Am (hl zV s Z H _ I h) λv B zq=>?_;let#[y,H1,J,Y,q1]:=zq;rcases q1 with⟨a,e,⟨xs,hq⟩,q⟩|⟨a,e,⟨xs,hq⟩,q⟩|⟨x,e,q⟩
 .subst e;cases Y;let#[L,rv,p,hz]:=J.list hq;show wpAny_pyIter_list p.isList ?_;show#[B.heap.objs.size,[B.heap.objs.size],_,_,H1,rfl,J.kept (t':=B.toks) λb o e=>qc _ e,Ud a _,#[_,qd _ rfl,rfl,rfl],λb M=>?_,q];let e:b=B.heap.objs.size:=by simpa using M
  subst e;show J.fpOk (q9 _) (J.hok.fresh (q9 _))
 .subst e;cases Y;let#[L,rv,p,hz]:=J.tuple hq;show wpAny_pyIter_tuple (show B.heap.IsTuple a L.toArray from p) ?_;show#[B.heap.objs.size,[B.heap.objs.size],_,_,H1,rfl,J.kept (t':=B.toks) λb o e=>qc _ e,TV a _,#[_,qd _ rfl,rfl,rfl],λb M=>?_,q];let e:b=B.heap.objs.size:=by simpa using M
  subst e;show J.fpOk (q9 _) (J.hok.fresh (q9 _))
 .subst e;let#[t,rfl]:=Y;let O:∀(ty:String)(o:Obj),(ty="str_ascii_iterator"\/ty="str_iterator")->o.cls=.type ty->o.data=.fields [.str x t,.int 0 0].toArray->o.isFreed=false->bu X zV Z tg R (.ref B.heap.objs.size) {B with heap:=B.heap.push o}:=λty o h1 hc hd hf=>by
   show#[B.heap.objs.size,[B.heap.objs.size],_,_,H1,rfl,J.kept (t':=B.toks) λb o e=>qc _ e,Sf _ x t ty h1,#[_,qd _ hf,hc,hd],λb M=>?_,q];let e:b=B.heap.objs.size:=↑M
   subst e;show J.fpOk (q9 _) (J.hok.fresh (q9 _))
  cases ha:x.cps.all (·<128)
  .show wpAny_pyIter_wide ha (O "str_iterator" _ (.inr rfl) rfl rfl rfl)
  .show wpAny_pyIter_ascii ha (O "str_ascii_iterator" _ (.inl rfl) rfl rfl rfl)
section
variable{K:W.Frag}
def Iz(e:x.cps.toList=l):eV K (xK x) (l.map λc=>.str [c]) F0:=λi U Z F G H sm J=>by
 let M:x.cps.size=l.length:=by rw[<-e];simp
 show#[λd B=>?_,λh=>by show x.cps.size<=i;rw[M];simpa using h];rw[qF]at B;cases q:l[i]? with
 |none=>rw[q]at B;cases B
 |some c=>
  rw[q]at B;let L:D.str [c]=d:=qf B;let hi:i<l.length:=(qg.mp q).1;let hx:x.cps[i]?=some c:=by rw[<-qZ,e];show q
  show#[by show i<x.cps.size;rw[M];show hi,λy H' Y=>?_];let#[rfl,c',O,rfl]:=Y;rw[hx]at O;let:c=c':=qf O;subst this;rw[<-L];show#[F,zG.refl F,J,.str rfl (by show 1<=_;decide)]
def Bt(h:FE X e we):FI X tg e (bJ we):=λpn xe hp=>by
 show PI.imp (Pp (h pn xe hp)) λZ H R q=>?_;let#[F,G,U,P,PX,h1,hw,L,hx]:=q;show#[F,G,U,_,PX,h1,hw,λr h2 v F1 H1 M s1 r1 rv=>?_,hx];let#[#[s,J],eg,M]:=Ao M;let#[l,el,M]:=Ao M;let#[F2,s2,l2,r2]:=AC (U':=[]) (Z':=[]) r1 (Ah r1) rv eg;let#[F3,s3,rp,O]:=Rel.giveD (U:=J) (vs:=[v]) (ss:=[s]) r2 (Ah r2);let Y:=s1.trans (s2.trans s3);cases rp with
 |cons a b=>
  let B:items s.toD=some l:=el;generalize s.toD=d at a B;cases a with
  |lst e r=>have:l=_:=(qf B).symm;subst this;show .inl #[_,rfl,#[_,bN.mono O.fr e],L _ J F3 H1 _ M Y O (IP e r)]
  |tup e r=>have:l=_:=(qf B).symm;subst this;show .inr (.inl #[_,rfl,#[_,bM.of (O.fr _ _ e)],L _ J F3 H1 _ M Y O (Sy (bM.of e) r)])
  |str e z=>have:l=_:=(qf B).symm;subst this;show .inr (.inr #[_,rfl,L _ J F3 H1 _ M Y O (Iz e)])
  |_=>cases B
def DG(hg:Gl X "range")(hm:X.mg "range"=none)(ha:FE X a we)(hs:starEach [a] X.env=[(false,eval a X.env)]:=by rfl):FI X tg (.Call (.Name "range" p) [a] [] pos) (bB we):=λpn xe hp=>by
 show PI.imp (Tj (X:=wp X pn xe) hg hm (Aa ha Ab hs pn xe hp) hs) λZ H R q=>?_;let#[F,G,U,P,PX,Y,hw,h3,hx]:=q;show#[F,G,U,λO J=>match O with|[r]=>(match view r J with|some (.int j)=>(-big<=j/\j<=big)/\P (fromTo 0 j.toNat) J|_=>False)|_=>False,PX,Y,hw,λO J vs F1 H1 B s1 M hl L=>?_,hx];match O,vs,L,M,B with
 |[r],[v],L,M,B=>
  dsimp only at B;split at B
  .rename_i j ej;let rp:=look (U':=[]) (Z':=[]) M hl L.1 ej;cases rp;let#[#[h1,h2],B]:=B;let eb:(big:Int)=1000000:=rfl;show#[j,rfl,∅,∅,h3 _ J F1 H1 _ B s1 ((show Rel X.K (J++[zH r]) (Z++[some (.int j)]) F1 G H1 from M).drop hl) MA]
  .show B.elim
 |[],_,_,_,B=>show B.elim
 |[_],[],L,_,_=>show L.elim
 |[_],_::_::_,L,_,_=>show L.2.elim
 |_::_::_,_,_,_,B=>show B.elim
def Th(hg:Gl X "range")(hm:X.mg "range"=none)(ha:FE X a we)(hb:FE X b wb)(hs:starEach [a,b] X.env=[(false,eval a X.env),(false,eval b X.env)]:=by rfl)(M:starEach [b] X.env=[(false,eval b X.env)]:=by rfl):
  FI X tg (.Call (.Name "range" p) [a,b] [] pos) (gZ we wb):=λpn xe hp=>by
 show PI.imp (Ts (X:=wp X pn xe) hg hm (Aa ha (Aa hb Ab M) (by rw[hs,M]) pn xe hp) hs M) λZ H R q=>?_;let#[F,G,U,P,PX,Y,hw,h5,hx]:=q;show#[F,G,U,λO J=>match O with|[r,t]=>(match view r J,view t J with|some (.int i),some (.int j)=>(-big<=i/\i<=big/\-big<=j/\j<=big)/\P (fromTo i (j-i).toNat) J|_,_=>False)|_=>False,PX,Y,hw,λO J vs F1 H1 B s1 r1 hl L=>?_,hx];match O,vs,L,r1,B with
 |[r,t],[v,u],L,r1,B=>
  dsimp only at B;split at B
  .rename_i i j ei ej;let#[rp,rq,r2]:=Dt r1 hl L.1 L.2.1 ei ej;cases rp;cases rq;let#[#[h1,h2,h3,h4],B]:=B;let eb:(big:Int)=1000000:=rfl;show#[i,j,rfl,#[∅,∅,∅,∅],h5 _ J F1 H1 _ B s1 r2 MA]
  .show B.elim
 |[],_,_,_,B=>show B.elim
 |[_],_,_,_,B=>show B.elim
 |[_,_],[],L,_,_=>show L.elim
 |[_,_],[_],L,_,_=>show L.2.elim
 |[_,_],_::_::_::_,L,_,_=>show L.2.2.elim
 |_::_::_::_,_,_,_,B=>show B.elim
end
def Br(hc:X.calm=true)(hi:FI X tg iter wi)(hg:FG X ks tg g)(hb:lF X ks body wb)(hs:∀x,foldedSetIterable iter X.env x=pure x:=by intro _;rfl):FS X ks (.For tg iter body [] pos) (cT wi g wb):=λpn xe hp=>by
 show PS.imp (PB (X:=wp X pn xe) hp hc (hi pn xe hp) (hg pn xe hp) (hb pn xe hp) hs) λD Z H q=>?_;let#[F,G,U,E,h9,hw,n,b,c,r,x]:=q;show#[F,G,U,_,_,h9,hw,λl h7 F1 H1 J hk s1 r1 it=>?_,x.mono (λL z=>by rw[z];show KP.refl) (zG.refl F) (zG.refl G)];show#[λi m L H2=>m=l.length-i/\i<=l.length/\∃F2 U2,KP ks Z L/\zG F1 F2/\Rel X.K U2 L F2 G H2/\cL g wb (l.drop i) E U2,#[l.length,rfl,zero_le _,F1,h7,KP.refl,zG.refl F1,r1,hk],?_];rintro i m L H2 ⟨rfl,hi,F2,U2,kp,s2,r2,h1⟩;let#[e2,e1]:=it i U2 L F2 G H2 s2 r2;by_cases h2:i<l.length
 .obtain⟨go,h8⟩:=e2 l[i] (by simp);show .inr #[go,λh3 H3=>i+1<=l.length/\∃F3 h5,KP ks Z h3/\zG F1 F3/\Rel X.K h5 h3 F3 G H3/\cL g wb (l.drop (i+1)) E h5,λh3 H3 h=>#[l.length-(i+1),∅,rfl,h],λy H3 hy=>?_];let#[F3,s3,r3,rp]:=h8 y H3 hy;rw[List.drop_eq_getElem_cons h2]at h1;show#[F3,G,U2,_,_,r3.push rp,h1,λh6 hx F4 H4 e3 k4 s4 r4=>?_];let O:=kp.trans k4;let h4:=s1.trans (s2.trans (s3.trans s4));exact⟨F4,G,h6,_,r4,e3,λB M F' H' h Y s r=>#[h2,F',B,O.trans Y,s2.trans (s3.trans (s4.trans s)),r,h],λB M F' H' h Y s r=>n B M F' H' h (O.trans Y) (h4.trans s) r,
   λB M F' H' h Y s r=>#[h2,F',B,O.trans Y,s2.trans (s3.trans (s4.trans s)),r,h],λa B M v F' H' h Y s q rv=>r a B M v F' H' h (O.trans Y) (h4.trans s) q rv,x.mono (λe4 Y=>O.trans Y) h4 (zG.refl G)⟩
 .let e:i=l.length:=Nat.le_antisymm hi (not_lt.mp h2);subst e;rw[List.drop_length]at h1;show .inl #[e1 (q9 _),n U2 L F2 H2 h1 kp (s1.trans s2) r2]
def Sa(hc:FT X c wc)(hb:lF X ks body wb):FS X ks (.While c body [] pos) (gY wc wb):=λpn xe hp=>by
 show PS.imp (Sl (X:=wp X pn xe) hp (hc pn xe hp) (hb pn xe hp)) λD Z H q=>?_;let#[F,G,U,E,h4,#[J,#[m0,j0],step],n,b,c,r,x]:=q;show#[λm O H2=>∃F2 U2,KP ks Z O/\zG F F2/\Rel X.K U2 O F2 G H2/\J m U2,#[m0,F,U,KP.refl,zG.refl F,h4,j0],?_];rintro m O H2 ⟨F2,U2,kp,s2,r2,j2⟩;show#[F2,G,U2,_,_,r2,step m U2 j2,λk h2 F3 H3 hk s3 r3=>?_,x.mono (λh3 z=>by rw[z];show kp) s2 (zG.refl G)];let L:=s2.trans s3;cases k with
 |true=>
  refine#[λh1 H4=>∃m',m'<m/\∃F2 U2,KP ks Z h1/\zG F F2/\Rel X.K U2 h1 F2 G H4/\J m' U2,λh1 H4 h=>h,?_];exact⟨F3,G,h2,_,r3,hk,λB M F' H'⟨m',hm,h⟩ Y s r=>#[m',hm,F',B,kp.trans Y,L.trans s,r,h],λB M F' H' h Y s r=>n B M F' H' h (kp.trans Y) (L.trans s) r,
   λB M F' H'⟨m',hm,h⟩ Y s r=>#[m',hm,F',B,kp.trans Y,L.trans s,r,h],λa B M v F' H' h Y s q rv=>r a B M v F' H' h (kp.trans Y) (L.trans s) q rv,x.mono (λh3 Y=>kp.trans Y) L (zG.refl G)⟩
 |false=>show n h2 O F3 H3 hk kp L r3
inductive dP(K:W.Frag)(f:WF)(n:Nat)(vs:List V)(H:Hp)(Q:VK)(Zq:XK):Prop
 |mk (F G:Hp) (ss:List S) (P:S->List S->Prop) (PX:D->List S->Prop) (hn:vs.length=n) (zX:Rel K (ss.map some) (vs.map some) F G H) (hw:f ss P PX) (hok:∀s ss' v F' H',P s ss'->zG F F'->ss'.length=ss.length->Rel K (ss'.map some++[some s]) (vs.map some++[some v]) F' G H'->Q v H') (hex:∀d ss' F' H' C dx,PX d ss'->zG F F'->ss'.length=ss.length->Rel K (ss'.map some) (vs.map some) F' G H'->ba K F' d C dx->Zq (.ref C) dx H'):dP K f n vs H Q Zq
section
variable{K:W.Frag}
def Rel.comm(h:U.length=Z.length)(r:Rel K (U++U') (Z++Z') F G H):Rel K (U'++U) (Z'++Z) F G H:=by let:=Rel.swap (U:=[]) (Z:=[]) (U1:=U) (Z1:=Z) (U2:=U') (Z2:=Z') rfl h r;simpa using this
def Rel.lend(r:Rel K (U++(none::U')) (Z++(some v::Z')) F G H)(h:U.length=Z.length)(hs:slot U i=some s)(B:Z[i]?=some (some v)):
  Rel K (U.set i none++(some s::U')) (Z++(some v::Z')) F G H:=by
 let#[fp,e,nd,ap]:=r.en;let#[f1,Y,rfl,a,b]:=e.cut h;let#[v',O,J,M,e1,rfl,q,up]:=a.at hs;rw[B]at e1;let e2:v=v':=↑e1
 subst e2;let a2:=up (F':=F) (H':=H) (o:=none) (u:=some v) (fi':=[]) (zG.refl F) (λ_ _=>rfl) (.no .nil);let es:Z.set i (some v)=Z:=by
  apply ext_getElem?;intro j;by_cases L:i=j
  .subst L;rw[getElem?_set_self (qg.mp B).1,B]
  .rw[getElem?_set_ne L]
 rw[es]at a2;cases b with
 |no b=>
  let p:((O++([]++M))++(J++Y)).Perm ((O++(J++M))++Y):=by simp;show List.Perm.append_left _ ?_;rw[<-qp,<-qp J];show List.Perm.append_right _ qN
  show#[r.fr,r.gr,_,a2.app (.so q b),p.nodup_iff.mpr nd,λx hx=>ap x (p.mem_iff.mp hx)]
def Rel.back1(r:Rel K (U++(some s::U')) (Z++(some v::Z')) F G H)(h:U.length=Z.length)(J:Z[i]?=some (some v)):Rel K (U.set i (some s)++U') (Z++Z') F G H:=by
 let hi:i<Z.length:=(qg.mp J).1;let es:Z.set i (some v)=Z:=by apply ext_getElem?;grind
 let L:U'.length=Z'.length:=by let:=r.len;grind
 let B:=Rel.swap (U1:=[some s]) (Z1:=[some v]) (U2:=U') (Z2:=Z') h rfl r;rw[<-qp,<-qp]at B;let M:=Rel.store (i:=i) B (by simp[h,L]) (by simp;lia -verbose);grind
theorem Km:∀{rs:List R}{vs:List V}{ms:List Bool}{U U' U1:Env}{ss:List S}{F:Hp}{Z':St},Rel K (U++(rs.map zH++U')) (Z++(vs.map some++Z')) F G H->U.length=Z.length->oA Z vs rs->cQ ms rs U=some (ss,U1)->
  ∃F',zG F F'/\U1.length=U.length/\ss.length=rs.length/\Rel K (U1++(ss.map some++U')) (Z++(vs.map some++Z')) F' G H
 |[],[],ms,U,U',U1,ss,F,Z',r,h,_,e=>by
  let B:some (([]:List S),U)=some (ss,U1):=by cases ms<;>show e
  cases B;show#[F,zG.refl F,rfl,rfl,r]
 |[],_::_,_,_,_,_,_,_,_,_,_,h,_=>h.elim
 |_::_,[],_,_,_,_,_,_,_,_,_,h,_=>h.elim
 |x::rs,v::vs,ms,U,U',U1,ss,F,Z',r,h,rv,e=>by
  --the first one,as it is handed on
  have first:∃s U2 ts M,cQ ms.tail rs U2=some (ts,U1)/\ss=s::ts/\zG F M/\U2.length=U.length/\Rel K (U2++(some s::(rs.map zH++U'))) (Z++(some v::(vs.map some++Z'))) M G H:=by
   cases x with
   |v s=>
    let B:(match cQ ms.tail rs U with|some (ss,U1)=>some (s::ss,U1)|none=>none)=some (ss,U1):=by cases ms<;>show e
    cases q:cQ ms.tail rs U with
    |none=>rw[q]at B;cases B
    |some p=>let#[ts,L]:=p;rw[q]at B;cases B;show#[s,U,ts,F,q,rfl,zG.refl F,rfl,r]
   |loc i=>
    have B:(match slot U i with
     |some s=>if ms.headD false then(match cQ ms.tail rs (U.set i none)with
      |some (ss,U1)=>some (s::ss,U1)
      |none=>none)
      else(match cQ ms.tail rs (U.set i (some (.sh s.toD)))with
       |some (ss,U1)=>some (.sh s.toD::ss,U1)
       |none=>none)
     |none=>none)=some (ss,U1):=by cases ms<;>show e
    cases q:slot U i with
    |none=>rw[q]at B;cases B
    |some s=>
     rw[q]at B;dsimp only at B;by_cases hm:ms.headD false=true
     .rw[q5 hm]at B;cases J:cQ ms.tail rs (U.set i none)with
      |none=>rw[J]at B;cases B
      |some p=>let#[ts,L]:=p;rw[J]at B;cases B;show#[s,U.set i none,ts,F,J,rfl,zG.refl F,by simp,Rel.lend r h q rv.1]
     .rw[q8 hm]at B;cases J:cQ ms.tail rs (U.set i (some (.sh s.toD)))with
      |none=>rw[J]at B;cases B
      |some p=>let#[ts,L]:=p;rw[J]at B;cases B;let#[M,Y,l1,O]:=AC (x:=.loc i) (s:=.sh s.toD) (U1:=U.set i (some (.sh s.toD))) r h rv.1 (by show(match slot U i with|some s=>some (S.sh s.toD,U.set i (some (.sh s.toD)))|none=>none)=_;rw[q]);show#[_,_,ts,M,J,rfl,Y,by simp,O]
  let#[s,U2,ts,M,J,rfl,Y,l1,O]:=first
  let h2:U2.length=Z.length:=l1.trans h;let hl:(rs.map zH++U').length=(vs.map some++Z').length:=by let:=O.len;rw[qq,qq,qt,qt]at this;lia
  let h1:U'.length=Z'.length:=by let:=rv.2.len;simp at hl;lia
  let r2:=Rel.swap (U1:=[some s]) (Z1:=[some v]) (U2:=rs.map zH++U') (Z2:=vs.map some++Z') h2 rfl O;rw[qp,qp]at r2;let#[F2,s2,l2,l3,r3]:=Km (rs:=rs) (vs:=vs) r2 h2 rv.2 J;let h3:U1.length=Z.length:=l2.trans h2;rw[<-qp (ts.map some),<-qp (vs.map some)]at r3;let r4:=Rel.swap (U1:=ts.map some++U') (Z1:=vs.map some++Z') (U2:=[some s]) (Z2:=[some v]) h3 (by simp[l3,rv.2.len,h1]) r3;show#[F2,Y.trans s2,l2.trans l1,by simp[l3],r4]
def FC:∀{rs:List R}{vs:List V}{ms:List Bool}{U U':Env}{ss:List S}{Z':St},Rel K (U++(ss.map some++U')) (Z++(vs.map some++Z')) F G H->U.length=Z.length->ss.length=rs.length->oA Z vs rs->
  (back ms rs ss U).length=U.length/\Rel K (back ms rs ss U++U') (Z++Z') F G H
 |[],[],ms,U,U',[],Z',r,h,_,_=>by
  let e:back ms [] [] U=U:=by cases ms<;>rfl
  show#[rfl,r]
 |[],_,_,_,_,_::_,_,_,_,hl,_=>by simp at hl
 |_::_,_,_,_,_,[],_,_,_,hl,_=>by simp at hl
 |[],_::_,_,_,_,_,_,_,_,_,h=>h.elim
 |_::_,[],_,_,_,_,_,_,_,_,h=>h.elim
 |x::rs,v::vs,ms,U,U',s::ss,Z',r,h,hl,rv=>by
  cases x with
  |v t=>
   let e:back ms (.v t::rs) (s::ss) U=back ms.tail rs ss U:=by cases ms<;>rfl
   show FC (rs:=rs) (vs:=vs) (r.mid h) h ↑hl rv.2
  |loc i=>
   let e:back ms (.loc i::rs) (s::ss) U=if ms.headD false then back ms.tail rs ss (U.set i (some s))else back ms.tail rs ss U:=by cases ms<;>rfl
   rw[e];by_cases B:ms.headD false=true
   .rw[q5 B];let q:=FC (rs:=rs) (vs:=vs) (ms:=ms.tail) (U:=U.set i (some s)) (Rel.back1 r h rv.1) ↑h ↑hl rv.2;show#[q.1.trans (by simp),q.2]
   .rw[q8 B];show FC (rs:=rs) (vs:=vs) (r.mid h) h ↑hl rv.2
end
def QD(Fk:fL X.prog X.w X.K X.mg X.base (gO X.prog X.w) k f fd ps (dP X.K wf n))(hr:bX k X.A)(hg:Gl X x)(hm:X.mg x=some (.ref f))(Y:W.keepIn X.K (.ref f)=true)(hb:Binds X.K fd ps [])
  (ha:FA X (e::es) wa)(h2:∀ss P PX,wf ss P PX->ss.length=n)(h7:(x==("__debug__":Str))=false:=by decide)(he:starEach (e::es) X.env=(false,eval e X.env)::starEach es X.env:=by rfl)(h5:(backTo pos (starEach es X.env)).any (·.1)=false:=by rfl):
  FE X (.Call (.Name x p) (e::es) [] pos) (zO wf ms wa):=λpn xe hp=>by
 show PE.imp (QK (X:=wp X pn xe) Fk hr hg hm Y hb (ha pn xe hp) h7 he h5) λZ H Q q=>?_;show(many (k:=λrs J Q E=>zF (cQ ms rs J) λp=>wf p.1 (λs ss=>Q (.v s) (back ms rs ss p.2)) (λx ss=>E x (back ms rs ss p.2))) q).mono λvs H1 h1=>?_;let#[F,G,U,rs,P,PX,h3,hl,M,Y,h6,hx]:=h1;let#[#[ss,J],ep,Y]:=Ao Y;let#[F1,s1,l1,O,r1]:=Km (U':=[]) (Z':=[]) ↑h3 hl M ep;let h1:J.length=Z.length:=l1.trans hl;let r2:=Rel.comm (U':=ss.map some) (Z':=vs.map some) h1 ↑r1;let h4:(ss.map some).length=(vs.map some).length:=by simp[O,M.len]
 let#[G',r3,gg,bk]:=r2.hide h4;let hn:=h2 _ _ _ Y;show#[F1,G',ss,_,_,by rw[M.len,<-O];show hn,r3,Y,λs L v F2 H2 hp s2 l3 r4=>?_,λd L F2 H2 C dx hp s2 l3 r4 cd a s' I Fl=>?_]
 .let r5:=bk s2 r4;let B:(L.map some++[some s]).length=(vs.map some++[some v]).length:=by simp[l3,O,M.len]
  let r6:=Rel.comm B r5;let#[l7,r7]:=FC (ms:=ms) (rs:=rs) (vs:=vs) (U':=[some s]) (Z':=[some v]) r6 h1 (l3.trans O) M;show h6 _ _ v F2 H2 hp (s1.trans s2) r7 trivial
 .let r5:=bk s2 r4;let B:(L.map some).length=(vs.map some).length:=by simp[l3,O,M.len]
  let r6:=Rel.comm B r5;let#[l7,r7]:=FC (ms:=ms) (rs:=rs) (vs:=vs) (U':=[]) (Z':=[]) ↑r6 h1 (l3.trans O) M;show hx d _ Z F2 H2 (.ref a) s' hp rfl (s1.trans s2) ↑r7 I #[a,C,dx,rfl,cd,Fl]
section
variable{K:W.Frag}
def Rel.pushNs(r:Rel K U Z F G H):∀m:Nat,Rel K (U++List.replicate m none) (Z++List.replicate m none) F G H
 |0=>↑r
 |m+1=>by let:=(Rel.pushNs r m).pushN (u:=none);rw[qp,qp,<-List.replicate_succ',<-List.replicate_succ']at this;show this
@[inline]def Args(K:W.Frag)(F:Hp):List S->List V->St->Prop
 |[],[],_=>True
 |s::ss,v::vs,u::Z=>((∃d,s=.sh d/\aS K F v d)\/(s.isSh=false/\u=some v))/\Args K F ss vs Z
 |_,_,_=>False
def Hk:∀{ss:List S}{vs:List V}{fs:List S}{U U' Ua:Env}{Z Z' Za:St},aC ss U=some fs->Rel K (Ua++(U++U')) (Za++(Z++Z')) F G H->Ua.length=Za.length->U.length=Z.length->Args K F ss vs Z->
  fs.length=ss.length/\vs.length=ss.length/\Rel K (Ua++(fs.map some++U')) (Za++(vs.map some++Z')) F G H
 |[],[],fs,U,U',Ua,Z,Z',Za,e,r,h,h2,_=>by
  let B:some ([]:List S)=some fs:=by cases U<;>show e
  cases B;show#[rfl,rfl,?_];let L:=Rel.swap (U1:=U) (Z1:=Z) (U2:=U') (Z2:=Z') h h2 r;rw[<-qp,<-qp]at L;let hl:(Ua++U').length=(Za++Z').length:=by let:=r.len;simp at this;simp;lia
  simpa using L.drop hl
 |[],_::_,_,_,_,_,_,_,_,_,_,_,_,h=>by cases h
 |_::_,[],_,_,_,_,_,_,_,_,_,_,_,h=>by cases h
 |_::_,_::_,_,_,_,_,[],_,_,_,_,_,_,h=>by cases h
 |_::_,_::_,_,[],_,_,_::_,_,_,_,_,_,h2,_=>by simp at h2
 |s::ss,v::vs,fs,o::U,U',Ua,u::Z,Z',Za,e,r,h,h2,ha=>by
  let O:U.length=Z.length:=↑h2
  let#[h1,M]:=ha;rcases h1 with⟨d,rfl,rp⟩|⟨hs,hu⟩
  .have B:(aC ss U).map (S.sh d::·)=some fs:=e;cases q:aC ss U with
   |none=>rw[q]at B;cases B
   |some J=>
    rw[q]at B;let h3:S.sh d::J=fs:=qf B;subst h3;let L:Rel K (Ua++(U++U')) (Za++(Z++Z')) F G H:=Rel.mid (U:=Ua) (Z:=Za) r h;let#[l1,l2,Y]:=Hk q L h O M;let hl:(J.map some++U').length=(vs.map some++Z').length:=by let:=Y.len;simp at this;simp;lia
    let r3:=Y.push rp;rw[qp Ua,qp Za]at r3;let r4:=Rel.swap (U1:=J.map some++U') (Z1:=vs.map some++Z') (U2:=[some (.sh d)]) (Z2:=[some v]) h hl r3;show#[by simp[l1],by simp[l2],r4]
  .subst hu;let B:∃t J,o=some t/\aC ss U=some J/\fs=t::J:=by
    cases s with
    |sh d=>cases hs
    |_=>
     cases o with
     |none=>cases e
     |some t=>
      let B:(aC ss U).map (t::·)=some fs:=e;cases q:aC ss U with
      |none=>rw[q]at B;cases B
      |some J=>rw[q]at B;show#[t,J,rfl,rfl,(qf B).symm]
   let#[t,J,rfl,q,rfl]:=B;let L:Rel K ((Ua++[some t])++(U++U')) ((Za++[some v])++(Z++Z')) F G H:=↑r
   let#[l1,l2,Y]:=Hk q L (by simp[h]) O M;show#[by simp[l1],by simp[l2],↑Y]
def Kl{ks:List Nat}:∀{ss:List S}{vs:List V}{Z:St}{j:Nat}{fp:List Addr},zI K F0 H (ss.map some) (vs.map some) fp->zG F0 F->(∀i s,ss[i]?=some s->(j+i)∈ks\/s.isSh=true)->
  (∀i v,vs[i]?=some v->(j+i)∈ks->Z[i]?=some (some v))->vs.length<=Z.length->Args K F ss vs Z
 |[],[],_,_,_,_,_,_,_,_=>trivial
 |[],_::_,_,_,_,r,_,_,_,_=>by cases r
 |_::_,[],_,_,_,r,_,_,_,_=>by cases r
 |_::_,_::_,[],_,_,_,_,_,_,h=>by simp at h
 |s::ss,v::vs,u::Z,j,_,.so a b,sm,hk,hv,hl=>by
  show#[?_,Kl (j:=j+1) b sm (λi t e=>by let:=hk (i+1) t e;rwa[show j+(i+1)=j+1+i by lia]at this) (λi t e z=>by simpa using hv (i+1) t ↑e (by rwa[show j+(i+1)=j+1+i by lia])) ↑hl];cases B:s.isSh with
  |true=>
   cases s with
   |sh d=>cases a with
    |sh r=>show .inl #[d,rfl,r.mono sm]
   |_=>cases B
  |false=>show .inr #[rfl,?_];let:=hk 0 s rfl;rw[B]at this;let z:(j+0)∈ks:=this.resolve_right (by simp);simpa using hv 0 v rfl z
theorem JC{st:Stmt}(Fn:xM K x qual st f fd)(Sc:aD N ps (aA st))(hn:ps.length=n)(hm:N.length=m)
  (hb:∀(O:Value)(A:Around)(B:List PySem.Env)(s:Shared)(H:Hp)(E:XK),bX k (A.deeper (envOfC qual (aA st) s.heap.objs.size f O))->lF (eT (gO P w) P w K mg base N qual (aA st) f O A B s H E) ks (cO st) wb):
  fL P w K mg base (gO P w) (k+1) f fd ps (dP K (eW n m ks wb) n):=by
 show Fn.okX Sc (λvs H Q E h=>?_) (λO A B s H vs Q E hr h=>?_)
 .obtain⟨F,G,ss,P',PX,hl,_⟩:=h;rw[hl,hn]
 .obtain⟨F,G,ss,P',PX,h5,h2,⟨e2,e1,h1⟩,h8,hex⟩:=h;show#[_,hb O A B s H E hr [] (eT (gO P w) P w K mg base N qual (aA st) f O A B s H E).xe PassesOwn.leaving,?_];let h9:N.length-vs.length=m-n:=by rw[h5,hm]
  let h7:Rel K (ss.map some++List.replicate (m-n) none) (L2.start N vs) F G H:=by unfold L2.start;rw[h9];show h2.pushNs (m-n)
  let h6:∀i v,vs[i]?=some v->(L2.start N vs)[i]?=some (some v):=λi v e=>by unfold L2.start;let hi:i<vs.length:=(qg.mp e).1;rw[getElem?_append_left ↑hi,qF,e];rfl
  --how the arguments are at an end
  have h3:∀{U':Env}{Z':St}{F':Hp}{fs:List S},KP ks (L2.start N vs) Z'->zG F F'->U'.length=Z'.length->aC ss U'=some fs->Args K F' ss vs Z':=by
   intro U' Z' F' fs L J M e;let#[fp,en,_]:=h2.en;let h4:vs.length<=Z'.length:=by
    --aC reads as many slots as there are arguments
    have:∀(ss:List S)(U:Env)(fs:List S),aC ss U=some fs->ss.length<=U.length:=by
     intro ss;induction ss with
     |nil=>intro U fs _;simp
     |cons s ss ih=>
      intro U fs e;cases U with
      |nil=>cases s<;>cases e
      |cons o U=>
       have:∃gs,aC ss U=some gs:=by
        cases q:aC ss U with
        |some gs=>show#[gs,rfl]
        |none=>
         cases s with
         |sh d=>have e':(aC ss U).map (S.sh d::·)=some fs:=e;rw[q]at e';cases e'
         |_=>
          cases o with
          |none=>cases e
          |some t=>have e':(aC ss U).map (t::·)=some fs:=e;rw[q]at e';cases e'
       let#[gs,q]:=this;let:=ih U gs q;simp;show this
    let:=this ss U' fs e;lia
   show Kl (ks:=ks) (F:=F') (Z:=Z') (j:=0) en J (λi s e=>by simpa using e1 i s e) (λi v e z=>by rw[L i ↑z];show h6 i v e) h4
  let Y:∀{U':Env}{Z':St}{F' H':Hp}{t:S}{v:V}{fs:List S},KP ks (L2.start N vs) Z'->zG F F'->Rel K (U'++[some t]) (Z'++[some v]) F' G H'->aC ss U'=some fs->P' t fs->Q v H':=by intro U' Z' F' H' t v fs L J r e hp;let M:U'.length=Z'.length:=Ah r;let#[l1,l2,r1]:=Hk (Ua:=[]) (Za:=[]) (U':=[some t]) (Z':=[some v]) e r rfl M (h3 L J M e);show h8 t fs v F' H' hp J l1 r1
  show#[F,G,_,_,h7,h1,λU' Z' F' H' h L J r=>?_,λU' Z' F' H' h=>h.elim,λU' Z' F' H' h=>h.elim,λa U' Z' v F' H' h L J r rv=>?_,λd U' Z' F' H' u s' h L J r I xr=>?_]
  .obtain⟨fs,e,h⟩:=Ao h;show Y L J (r.push .non) e h
  .cases a with
   |v t=>let#[fs,e,h]:=Ao h;show Y L J r e h
   |loc i=>
    let#[t,et,h]:=Ao h;let hl:=Ah r;by_cases hi:i<n
    .rw[q5 hi]at h;let#[fs,e,h]:=Ao h;let#[F2,s2,_,r2]:=AC (x:=.loc i) (s:=.sh t.toD) (U1:=U'.set i (some (.sh t.toD))) (U':=[]) (Z':=[]) r hl rv (by show(match slot U' i with|some s=>some (S.sh s.toD,U'.set i (some (.sh s.toD)))|none=>none)=_;rw[et]);show Y L (J.trans s2) r2 e h
    .rw[q8 hi]at h;let#[fs,e,h]:=Ao h;let r2:=Rel.lend (U':=[]) (Z':=[]) r hl et rv;refine Y L J r2 ?_ h
     --the slot lies behind the parameters
     have:∀(ss:List S)(U:Env)(i:Nat),ss.length<=i->aC ss (U.set i none)=aC ss U:=by
      intro ss;induction ss with
      |nil=>intro U i _;cases U<;>cases i<;>rfl
      |cons s ss ih=>
       intro U i hi;cases U with
       |nil=>rfl
       |cons o U=>
        cases i with
        |zero=>simp at hi
        |succ i=>
         let e:=ih U i ↑hi;cases s with
         |sh d=>show(aC ss (U.set i none)).map _=(aC ss U).map _;rw[e]
         |_=>
          cases o with
          |none=>rfl
          |some t=>show(aC ss (U.set i none)).map _=(aC ss U).map _;rw[e]
     rw[this ss U' i ∅];show e
  .obtain⟨fs,e,h⟩:=Ao h;let#[a,C,dx,rfl,cd,Fl]:=xr;let#[l1,l2,r1]:=Hk (K:=K) (Ua:=[]) (Za:=[]) (U':=[]) (Z':=[]) e (by simpa using(show Rel K U' Z' F' G H' from r)) rfl r.len (h3 L J r.len e);show QG I Fl (hex d fs F' H' C dx h J l1 ↑r1 cd)
end
@[inline]def ClsAt(h:Heap)(C:Addr)(bm:List Value):Prop:=∃nm q N bs hdct sn sub ab col dd k0 k1 k2 k3 k5 B,h.get? C=some (excClassObj nm q C N bs bm hdct sn sub ab col dd k0 k1 k2 k3 k5 B)/\bm.contains (.type "BaseException")=true
def ClsAt.keeps(k:∀b o,h.get? b=some o->h'.get? b=some o)(c:ClsAt h C bm):ClsAt h' C bm:=by let#[nm,q,N,bs,J,M,sub,ab,L,dd,k0,k1,k2,Y,O,B,hC,hb]:=c;show#[nm,q,N,bs,J,M,sub,ab,L,dd,k0,k1,k2,Y,O,B,k _ _ hC,hb]
def UT{M:Model}{A:Around}{E:zv}{s:Shared}{e C B:Addr}{oe:Obj}{bm L:List Value}{Q:Bool->Shared->Prop}(hC:ClsAt s.heap C bm)(Y:ClsAt s.heap B L)(he:s.heap.get? e=some oe)(J:oe.cls=.ref C)
  (hm:(Value.ref C::bm).contains (.ref B)=true)(hq:Q true s):wpAny M A (excMatches (.ref e) (.ref B)) Q E s:=by
 let#[nm,q,N,bs,h6,sn,sub,ab,hp,dd,k0,k1,k2,k3,k5,h1,hC,hb]:=hC;let#[h9,q',N',hi,h2,h8,h5,hc,h7,hx,hk,e4,e3,e2,e1,O,Y,h4]:=Y;let h3:(Value.ref B::L).contains (.type "BaseException")=true:=by rw[List.contains_cons,h4,Bool.or_true]
 let f:=tc_notTuple
 repeat (first|(with_reducible show wpAny_loadPart_at he ?_;rw[J])|with_reducible show wpAny_loadPart_at Y ?_|(with_reducible show wpAny_isSubtype_exc hC ?_;rw[hm])|(with_reducible show wpAny_isSubtype_exc Y ?_;rw[h3])|wp_step)
 show hq
abbrev hX(X:Cx)(e:Addr):Cx:={X with A:=X.A.mark (some (.ref e)),calm:=false}
def Inv.wp'(I:Inv (wp X pn xe) zV Z H s)(h:∀p∈B++pins',p∈pn++zV):Inv (wp X B J) pins' Z H s:=
 ⟨⟨I.ok.mod,I.ok.kind,I.ok.glob,I.ok.blt,I.ok.above,I.ok.inj,I.ok.has,I.ok.cab,I.ok.hd,I.ok.frames,I.ok.stk,I.ok.exf,I.ok.bs,I.ok.bsz,I.ok.noex,I.ok.exfs,I.ok.funs,I.ok.frf⟩,
   I.os,I.bare,I.base,I.loc,I.cell,I.free,I.freeC,λp L=>I.pin p (h p L),I.hok,I.len⟩
def Inv.held(I:Inv (wp X pn xe) zV Z H s)(h:∀p∈B++pins',p∈pn++zV):Inv (wp (hX X e) B J) pins' Z H s:=
 ⟨⟨I.ok.mod,I.ok.kind,I.ok.glob,I.ok.blt,I.ok.above,I.ok.inj,I.ok.has,I.ok.cab,λz=>(by cases z),I.ok.frames,I.ok.stk,I.ok.exf,I.ok.bs,I.ok.bsz,I.ok.noex,I.ok.exfs,I.ok.funs,I.ok.frf⟩,
   I.os,I.bare,I.base,I.loc,I.cell,I.free,I.freeC,λp L=>I.pin p (h p L),I.hok,I.len⟩
def Inv.let(I:Inv (wp (hX X e) B J) pins' Z H s)(M:X.calm=true->X.A.handled=none)(h:∀p∈pn++zV,p∈B++pins'):Inv (wp X pn xe) zV Z H s:=
 ⟨⟨I.ok.mod,I.ok.kind,I.ok.glob,I.ok.blt,I.ok.above,I.ok.inj,I.ok.has,I.ok.cab,M,I.ok.frames,I.ok.stk,I.ok.exf,I.ok.bs,I.ok.bsz,I.ok.noex,I.ok.exfs,I.ok.funs,I.ok.frf⟩,
   I.os,I.bare,I.base,I.loc,I.cell,I.free,I.freeC,λp L=>I.pin p (h p L),I.hok,I.len⟩
def iK.wp'{H:Hp}(F:iK (wp X pn xe) zV H h e cls dx)(hs:∀p∈B++pins',p∈pn++zV):iK (wp X B J) pins' H h e cls dx:=by
 let g:∀{b},cH (wp X pn xe) zV H b->cH (wp X B J) pins' H b:=λf=>#[f.1,f.2.1,f.2.2.1,f.2.2.2.1,f.2.2.2.2.1,λp Y=>f.2.2.2.2.2 p (hs p Y)]
 let#[f,M,vs,h1,h2,hd,h3,h4]:=F;show#[g f,M,vs,h1,h2,hd,h3,h4.imp id ?_];rintro⟨T,O,L,a1,a2,a3,a4⟩;show#[T,O,L,a1,a2,g a3,a4]
def SP.let{D:L2.Ends}(J:X.calm=true->X.A.handled=none)(h:∀p∈pn++zV,p∈L++pins')(z:SP (wp (hX X e) L M) pins' D f s):SP (wp X pn xe) zV D f s:=by
 cases f with
 |next=>let#[B,H',I,q]:=z;show#[B,H',Inv.let I J h,q]
 |brk=>let#[B,H',I,q]:=z;show#[B,H',Inv.let I J h,q]
 |cont=>let#[B,H',I,q]:=z;show#[B,H',Inv.let I J h,q]
 |ret u=>let#[v,B,H',I,r,q]:=z;show#[v,B,H',Inv.let I J h,r,q]
def SP.wp'{D:L2.Ends}(h:∀p∈pn++zV,p∈J++pins')(z:SP (wp X J L) pins' D f s):SP (wp X pn xe) zV D f s:=by
 cases f with
 |next=>let#[B,H',I,q]:=z;show#[B,H',Inv.wp' I h,q]
 |brk=>let#[B,H',I,q]:=z;show#[B,H',Inv.wp' I h,q]
 |cont=>let#[B,H',I,q]:=z;show#[B,H',Inv.wp' I h,q]
 |ret u=>let#[v,B,H',I,r,q]:=z;show#[v,B,H',Inv.wp' I h,r,q]
def nX(X:Cx)(cs:List (List Nat))(B:Addr):Prop:=∀c∈cs,∃C bm,W.nsIn X.K mainGlobals (#[c.toArray]:Str)=some (some (.ref C))/\ClsAt X.base C bm/\(Value.ref C::bm).contains (.ref B)=true
def NZ(e4:X.stack=X.env::X.outer)(hf:X.env.frame=some X.env.locals)(hg:Gl X x)(hB:X.mg x=some (.ref B))(cB:ClsAt X.base B r2)(hi:nX X cs B)(hb:lF X ks body wb)(hs:∀e,lF (hX X e) ks (b0::suite) ws)
  (hk:(x==("__debug__":Str))=false:=by decide):FS X ks (.Try body [.ExceptHandler (some (.Name x np)) none (b0::suite) hpos] [] [] pos) (oF cs wb ws):=by
 intro pn xe O zV s Z H D I q;let#[F,G,U,E,e2,hw,n,b,c,r,hx]:=q;let hd:X.calm=true->X.A.handled=none:=I.ok.hd;show wpAny_Try_except (Am (hb (pn++zV) (λe h6=>wpAny (model X.prog X.w) X.A (noteFrame e X.env) (λ_ h5=>wpAny (model X.prog X.w) X.A (setFlight e none) (λ_ h4=>wpAny (model X.prog X.w) X.A (handleBy e X.env [.ExceptHandler (some (.Name x np)) none (b0::suite) hpos]) (SP (wp X pn xe) zV D) xe h4) xe h5) xe h6) PassesOwn.looking [] s Z H D (Inv.wp' I λp O=>by simpa using O) ?_) λf s1 z=>?_)
 .refine#[F,G,U,_,e2,hw,n,b,c,r,λd e1 Y F' H' u s' O h3 sm h7 I' xr=>?_];let#[#[c0,hl,r1,hr,rfl],e3]:=O;let#[e,C,dx,rfl,#[c',fs',hq,ec,h9,ha],Fl]:=xr;cases ec;let#[C',bm,h8,hC,hm]:=hi c0 hl;rw[h8]at h9;cases h9;let J:Inv (wp X pn xe) zV Y H' s':=Inv.wp' I' λp O=>by simpa using O
  refine LN (X:=wp X pn xe) (zV:=zV) e4 hf J (iK.wp' Fl λp O=>by simpa using O) λh1 J1 F1=>?_;show wpAny_handleBy_cons (codeAny_handlers_test ?_) (by intro q;cases q);let J2:Inv (wp (hX X e) pn (λ_ _=>False)) zV Y H' {s' with heap:=h1}:=Inv.held J1 λ_ z=>z;show HY (X:=wp (hX X e) pn (λ_ _=>False)) J2 hg hB ?_ hk;let#[_,oe,vs,he,hc,_]:=id F1;show UT (hC.keeps J2.bk) (cB.keeps J2.bk) he hc hm ?_;show codeAny_handlers_suite (TC (X:=wp X pn xe) J1 F1 λh2 J3 F3=>?_);show zu (hs e (pn++zV) (λ_ _=>False) PassesOwn.never [] _ Y H' D (Inv.held J3 λp O=>by simpa using O) ?_) (λf s2 z=>SP.let hd (λp O=>by simpa using O) z) λ_ _ z=>z.elim;exact⟨F',G,e1,_,h7,e3,λM L F2 H2 h k s r=>n M L F2 H2 h (h3.trans k) (sm.trans s) r,λM L F2 H2 h k s r=>b M L F2 H2 h (h3.trans k) (sm.trans s) r,λM L F2 H2 h k s r=>c M L F2 H2 h (h3.trans k) (sm.trans s) r,
   λa M L v F2 H2 h k s q rv=>r a M L v F2 H2 h (h3.trans k) (sm.trans s) q rv,λd M L F2 H2 u s2 p=>p.elim⟩
 .let z':SP (wp X pn xe) zV D f s1:=SP.wp' (λp O=>by simpa using O) z;cases f with
  |next=>let#[Y,H',I',q]:=z';show KL (X:=wp X pn xe) zV s1 Y H' D I' q
  |brk=>show z'
  |cont=>show z'
  |ret u=>show z'
def Rl{bm:List Value}{Bs B J:String}{L:Pos}{c:List Nat}(O:OwnCls x C bm B X.mg X.base)(FB:ExcBaseFacts Bs B J bm)(hc:X.calm=true)(hg:Gl X x)(Y:W.nsIn X.K mainGlobals (#[c.toArray]:Str)=some (some (.ref C)))(hd:(x==("__debug__":Str))=false:=by decide):
  FS X ks (.Raise (some (.Call (.Name x np) [] [] L)) none pos) (hE c):=λpn xe hp=>PS.imp (Rq (X:=wp X pn xe) O FB hc hg hd) λD Z H q=>by
 let#[F,G,U,E,M,hw,n,b,c,r,hx]:=q;show λa s' I Fl=>hx _ U Z F H (.ref a) s' hw KP.refl (zG.refl F) M I #[a,C,none,rfl,#[_,_,_,rfl,Y,.inl #[rfl,rfl,rfl]],Fl]
end FL
namespace FL
open PySem PySem.Spec PyProof.Rows L2
open PySem.W (nsIn excIn mroIn clsIn isNs_of_in nsMap_none_of_in tail_of_in)
abbrev jL:List Value:=[.type "ValueError",.type "Exception",.type "BaseException",.type "object"]
abbrev gC:String:="ValueError.__new__"
section
variable{K:W.Frag}
def Pn(X:K.In h)(m:mg x=some (.ref C))(q:excIn K C jL gC=true):OwnCls x C jL gC mg h:=by
 show#[m,?_];unfold excIn at q;split at q
 .rename_i dd cd Y ho;split at q
  .rename_i C' bm k0 k1 k2 k3 n k5 hm hs;simp at q;let#[#[#[#[#[rfl,rfl],J],ht],B],M]:=q;let#[nm,bs,h1,ns,qn,hd,sn,sub,ab,O,h2]:=cd;subst hm J;let L:Y=[k0,k1,k2,k3,some (.builtin gC),k5].toArray:=by let#[l]:=Y;simp only at hs;rw[hs]
   subst L;show#[bm,ns,nm,qn,bs,hd,sn,sub,ab,O,dd,k0,k1,k2,k3,k5,_,X _ _ ho,.of_isNs (isNs_of_in X B),nsMap_none_of_in X B M,tail_of_in X ht]
  .cases q
 .cases q
def NL(X:K.In h)(q:excIn K C jL gC=true):∃bm,ClsAt h C bm/\∀B,mroIn K C (.ref B)=some true->(Value.ref C::bm).contains (.ref B)=true:=by
 unfold excIn at q;split at q
 .rename_i dd cd O ho;split at q
  .rename_i C' bm k0 k1 k2 k3 n Y hm hs;simp at q;let#[#[#[#[#[rfl,rfl],J],ht],h2],h3]:=q;let#[nm,bs,h1,ns,qn,hd,sn,sub,ab,M,h4]:=cd;subst hm J;let L:O=[k0,k1,k2,k3,some (.builtin gC),Y].toArray:=by let#[l]:=O;simp only at hs;rw[hs]
   subst L;show#[bm,#[nm,qn,ns,bs,hd,sn,sub,ab,M,dd,k0,k1,k2,k3,Y,gC,X _ _ ho,(tail_of_in X ht).hasType (by decide+kernel)],λB e=>?_];unfold mroIn clsIn at e;rw[ho]at e;simpa using e
  .cases q
 .cases q
end
def dz(K:W.Frag)(C:Addr):Prop:=∀h,K.In h->∃bm,ClsAt h C bm/\∀B,mroIn K C (.ref B)=some true->(Value.ref C::bm).contains (.ref B)=true
theorem ck{K:W.Frag}{C:Addr}(q:excIn K C jL gC=true):dz K C:=λ_ X=>NL X q
def dR(K:W.Frag)(cs:List (List Nat))(B:Addr):Prop:=∀c∈cs,∃C,nsIn K mainGlobals (#[c.toArray]:Str)=some (some (.ref C))/\dz K C/\mroIn K C (.ref B)=some true
def dR.at{h:Heap}(O:X.K.In X.base)(k:dR X.K cs B):nX X cs B:=λc J=>by let#[C,h1,h2,L]:=k c J;let#[M,a,b]:=h2 _ O;show#[C,M,h1,a,b B L]
def Pe(hB:X.mg x=some (.ref B))(eB:dz X.K B)(M:dR X.K cs B)(hb:lF X ks body Y)(hs:∀e,lF (hX X e) ks (b0::suite) O)
  (J:X.stack=X.env::X.outer:=by rfl)(hf:X.env.frame=some X.env.locals:=by rfl)(hg:Gl X x:=by rfl)(L:(x==("__debug__":Str))=false:=by decide):FS X ks (.Try body [.ExceptHandler (some (.Name x np)) none (b0::suite) hpos] [] [] pos) (oF cs Y O):=λpn xe hp zV s Z H D I q=>by
 let#[bm,cB,_]:=eB _ I.ok.mod.kin;show NZ J hf hg hB cB (M.at (h:=X.base) I.ok.mod.kin) hb hs L pn xe hp zV s Z H D I q
def SH(Y:X.mg x=some (.ref C))(B:nsIn X.K mainGlobals (#[c.toArray]:Str)=some (some (.ref C)))(eB:excIn X.K C jL gC=true)(O:X.calm=true:=by rfl)(L:Gl X x:=by rfl)(M:(x==("__debug__":Str))=false:=by decide):
  FS X ks (.Raise (some (.Call (.Name x np) [] [] cpos)) none pos) (hE c):=λpn xe J zV s Z H D I q=>Rl (Pn I.ok.mod.kin Y eB) F.excBase_ValueError O L B M pn xe J zV s Z H D I q
section
variable{K:W.Frag}
def JI(h:x.cps.toList=c)(e:nsIn K mainGlobals x=r):nsIn K mainGlobals (#[c.toArray]:Str)=r:=by subst h;simpa using e
def TM:dR K [] B:=λ_ h=>nomatch h
def UU(h1:nsIn K mainGlobals (#[c.toArray]:Str)=some (some (.ref C)))(h2:dz K C)(L:mroIn K C (.ref B)=some true)(r:dR K cs B):dR K (c::cs) B:=λd J=>by
 rcases qA.mp J with rfl|J
 .show#[C,h1,h2,L]
 .show r d J
end
end FL
namespace L2
open PySem PySem.Spec PyProof.Rows
def cR(cells:List (Str×Addr)):List (Str×NameKind)->List (Str×Addr)->List (Str×Addr)
 |[],z3=>z3
 |(n,k)::r,z3=>if k==.free then(match cells.lookup n with|some c=>cR cells r ((n,c)::z3)|none=>cR cells r z3)else cR cells r z3
def IK(f:Str×NameKind->List (Str×Addr)->Sem (ForInStep (List (Str×Addr))))
  (hf:∀n k cs,f (n,k) cs=if k==.free then(do let a<-cellOf env n;pure (.yield ((n,a)::cs)))else pure (.yield cs)):
  ∀(names:List (Str×NameKind))(z3:List (Str×Addr)),(∀x∈names,x.2=.free->∃c,env.cells.lookup x.1=some c)->(forIn names z3 f:Sem _)=pure (cR env.cells names z3)
 |[],z3,_=>by rw[List.forIn_nil];rfl
 |(n,k)::r,z3,h=>by
  rw[List.forIn_cons,hf];let hr:∀x∈r,x.2=.free->∃c,env.cells.lookup x.1=some c:=λx hx=>h x (qk _ hx);by_cases hk:(k==.free)=true
  .obtain⟨c,hc⟩:=h (n,k) qm ↑hk;let hc':env.cells.lookup n=some c:=hc;let e:cellOf env n=pure c:=by unfold cellOf;rw[hc']
   rw[q5 hk,e];let ih:=IK f hf r ((n,c)::z3) hr;unfold cR;rw[q5 hk,hc'];rw[<-ih];simp
  .rw[q8 hk];let ih:=IK f hf r z3 hr;unfold cR;rw[q8 hk,<-ih];simp
def Vb(h:∀x∈scope.names,x.2=.free->∃c,env.cells.lookup x.1=some c):closureFor scope env=pure (cR env.cells scope.names []):=by show(forIn scope.names ([]:List (Str×Addr)) _>>=λcs=>pure cs)=_;rw[IK (env:=env) _ (λn k cs=>rfl) scope.names [] h];rfl
def Hj:∀{names:List (Str×NameKind)}{B:List (Str×Addr)},(n,c)∈cR cells names B->(n,c)∈B\/((n,NameKind.free)∈names/\cells.lookup n=some c)
 |[],_,h=>.inl h
 |(m,k)::r,B,h=>by
  unfold cR at h;by_cases L:(k==.free)=true
  .rw[q5 L]at h;let J:k=.free:=by simpa using L
   cases q:cells.lookup m with
   |none=>
    rw[q]at h;rcases Hj h with z|⟨z,w⟩
    .show .inl z
    .show .inr #[qk _ z,w]
   |some d=>
    rw[q]at h;rcases Hj h with z|⟨z,w⟩
    .rcases qA.mp z with e|z
     .cases e;show .inr #[by rw[<-J];show qm,q]
     .show .inl z
    .show .inr #[qk _ z,w]
  .rw[q8 L]at h;rcases Hj h with z|⟨z,w⟩
   .show .inl z
   .show .inr #[qk _ z,w]
def FM(J:cells.lookup n=some c):∀{names:List (Str×NameKind)}{B:List (Str×Addr)},((n,c)∈B\/(n,NameKind.free)∈names)->(n,c)∈cR cells names B
 |[],_,h=>h.elim id λz=>by simp at z
 |(m,k)::r,B,h=>by
  unfold cR;by_cases L:(k==.free)=true
  .rw[q5 L];cases q:cells.lookup m with
   |none=>
    show FM J ?_;rcases h with z|z
    .show .inl z
    .rcases qA.mp z with e|z
     .cases e;rw[J]at q;cases q
     .show .inr z
   |some d=>
    show FM J ?_;rcases h with z|z
    .show .inl (qk _ z)
    .rcases qA.mp z with e|z
     .cases e;rw[J]at q;cases q;show .inl qm
     .show .inr z
  .rw[q8 L];show FM J ?_;rcases h with z|z
   .show .inl z
   .rcases qA.mp z with e|z
    .cases e;show(L ⋯).elim
    .show .inr z
def Nh{α:Type}:∀{l:List (Str×α)}{n:Str}{c:α},(n,c)∈l->(∀B,(n,B)∈l->B=c)->l.lookup n=some c
 |[],_,_,h,_=>by simp at h
 |(m,d)::r,n,c,h,u=>by
  rw[lookup_cons];cases J:n==m with
  |true=>
   let e:n=m:=↑J
   subst e;show congrArg some (u d qm)
  |false=>
   show Nh (l:=r) ?_ λB L=>u B (qk _ L);rcases qA.mp h with e|h
   .cases e;simp at J
   .show h
def Jh:∀{names:List (Str×NameKind)}{n:Nat}{B:List (Str×Addr)}{x:Str}{c:Addr},(x,c)∈cellsFrom n names B->(x,c)∈B\/((x,NameKind.cell)∈names/\n<=c)
 |[],_,_,_,_,h=>.inl h
 |(m,k)::r,n,B,x,c,h=>by
  unfold cellsFrom at h;by_cases L:(k==.cell)=true
  .rw[q5 L]at h;let J:k=.cell:=by simpa using L
   rcases Jh h with z|⟨z,w⟩
   .rcases qA.mp z with e|z
    .cases e;show .inr #[by rw[<-J];show qm,q9 _]
    .show .inl z
   .show .inr #[qk _ z,∅]
  .rw[q8 L]at h;rcases Jh h with z|⟨z,w⟩
   .show .inl z
   .show .inr #[qk _ z,w]
def Gc:∀{names:List (Str×NameKind)}{n:Nat}{B:List (Str×Addr)}{x:Str},((x,NameKind.cell)∈names\/∃c,(x,c)∈B)->∃c,(x,c)∈cellsFrom n names B
 |[],_,_,_,h=>h.elim (λz=>by simp at z) id
 |(m,k)::r,n,B,x,h=>by
  unfold cellsFrom;by_cases J:(k==.cell)=true
  .rw[q5 J];show Gc ?_;rcases h with z|⟨c,z⟩
   .rcases qA.mp z with e|z
    .cases e;show .inr #[n,qm]
    .show .inl z
   .show .inr #[c,qk _ z]
  .rw[q8 J];show Gc ?_;rcases h with z|z
   .rcases qA.mp z with e|z
    .cases e;show(J ⋯).elim
    .show .inl z
   .show .inr z
def Hq{α:Type}:∀{l:List (Str×α)}{x:Str},(∃c,(x,c)∈l)->∃c,l.lookup x=some c
 |[],_,⟨_,h⟩=>by simp at h
 |(m,d)::r,x,⟨c,h⟩=>by
  rw[lookup_cons];cases B:x==m with
  |true=>show#[d,rfl]
  |false=>
   show Hq (l:=r) #[c,?_];rcases qA.mp h with e|h
   .cases e;simp at B
   .show h
def Jl:∀{names:List (Str×NameKind)}{n:Nat}{B:List (Str×Addr)},(∀p∈B,p.2<n)->(∀p∈B,∀q∈B,p.2=q.2->p.1=q.1)->
  ∀p∈cellsFrom n names B,∀q∈cellsFrom n names B,p.2=q.2->p.1=q.1
 |[],_,_,_,h=>h
 |(m,k)::r,n,B,hb,h=>by
  unfold cellsFrom;by_cases O:(k==.cell)=true
  .rw[q5 O];refine Jl (λp J=>?_) λp J q L e=>?_
   .rcases qA.mp J with rfl|J
    .show lt_succ_self _
    .show lt_succ_of_lt (hb p J)
   .rcases qA.mp J with rfl|J<;>rcases qA.mp L with rfl|L
    .rfl
    .let h1:=hb q L;let M:n=q.2:=e;show absurd h1 (by rw[<-M];show lt_irrefl _)
    .let h1:=hb p J;let M:p.2=n:=e;show absurd h1 (by rw[M];show lt_irrefl _)
    .show h p J q L e
  .rw[q8 O];show Jl hb h
def UM
  (hQ:∀h':Heap,(∀b o,s.heap.get? b=some o->h'.get? b=some o)->h'.Ns s.heap.objs.size (λ_=>none)->(∀x c,(x,c)∈cellsFrom (s.heap.objs.size+1) scope.names L->(x,c)∈L\/h'.IsCell c none)->
   Q {scope:=scope,locals:=s.heap.objs.size,globals:=globals,cells:=cellsFrom (s.heap.objs.size+1) scope.names L,qual:=qual,func:=none,code:=env.code,frame:=env.frame,builtins:=env.builtins} {s with heap:=h'}):
  wpAny M A (newFunctionEnv scope globals L [] qual none .none (some env)) Q E s:=by
 simp only[newFunctionEnv,isSome_some,if_true];show qa (wpAny_alloc ?_);show qa (wpAny_layCells _ (λY kind cells=>by cases h1:kind==NameKind.cell<;>simp) _ _ _ _ ?_);rw[show({s with heap:=s.heap.push {cls:=.type "dict",data:=.dict #[]}}:Shared).heap.objs.size=s.heap.objs.size+1 from Heap.size_push ..];show qb (hQ _ (λb o e=>pushCells_keeps _ _ b o (qc _ e)) ((Heap.Ns.new s.heap (.type "dict")).keeps (pushCells_keeps _ _)) λx c h=>?_)
 --the new cells are empty
 have all:∀(names:List (Str×NameKind))(h:Heap)(J:List (Str×Addr)),(∀p∈J,p∈L\/h.IsCell p.2 none)->∀p∈cellsFrom h.objs.size names J,p∈L\/(pushCells h names).IsCell p.2 none:=by
  intro names;induction names with
  |nil=>intro h J O p B;show O p B
  |cons q r ih=>
   intro h J O p B;let#[m,k]:=q;unfold cellsFrom at B;unfold pushCells;by_cases hk:(k==.cell)=true
   .rw[q5 hk]at B⊢;let e:(h.push {cls:=.type "cell",data:=.cell none}).objs.size=h.objs.size+1:=Heap.size_push ..;rw[<-e]at B;show ih _ _ (λp B=>?_) p B;rcases qA.mp B with rfl|B
    .show .inr #[_,qd _ rfl,rfl]
    .rcases O p B with z|z
     .show .inl z
     .show .inr (z.keeps λb o e=>qc _ e)
   .rw[q8 hk]at B⊢;show ih h J O p B
 let:=all scope.names (s.heap.push {cls:=.type "dict",data:=.dict #[]}) L (λp B=>.inl B) (x,c) (by rw[Heap.size_push];show h);show this
def fZ(N vars:List Str):List Str:=N.map (λx=>if x∈vars then Str.empty else x)++Str.empty::vars
def aB(X:Cx)(scope:Scope)(vars:List Str)(s:Shared)(H:Hp)(ex:List Addr):Cx where
 prog:=X.prog
 w:=X.w
 K:=X.K
 mg:=X.mg
 base:=X.base
 A:=X.A
 N:=fZ X.N vars
 s₀:=s
 H₀:=H
 env:=compEnvC scope (cellsFrom (s.heap.objs.size+1) scope.names (cR X.env.cells scope.names [])) s.heap.objs.size X.env
 outer:=X.stack
 stack:=X.stack
 ex:=ex
 fn:=λx=>decide ((x,NameKind.cell)∈scope.names)
 calm:=X.calm
 pn:=[]
 xe:=λ_ _=>False
structure bY(outer scope:Scope)(N vars:List Str):Prop where
 kind:scope.kind=.function
 fr:∀x∈scope.names,x.2=.free->outer.names.lookup x.1=some .cell\/outer.names.lookup x.1=some .free
 nd:(scope.names.map (·.1)).Nodup
 own:∀x∈N,x∉vars->(x,NameKind.local)∉scope.names/\(x,NameKind.cell)∉scope.names
 emp:scope.names.lookup Str.empty=none
def Hs{α:Type}{l:List (Str×α)}{c:α}(B:(l.map (·.1)).Nodup):l.lookup n=some c↔(n,c)∈l:=by
 show#[mem_of_lookup,λh=>Nh h λL h'=>?_];induction l with
 |nil=>simp at h
 |cons p r J=>grind
theorem Ng{α β:Type}(g:Str->α->β):∀(l:List (Str×α))(n:Str),(l.map λp=>(p.1,g p.1 p.2)).lookup n=(l.lookup n).map (g n)
 |[],_=>rfl
 |(m,d)::r,n=>by
  rw[qy,lookup_cons,lookup_cons];cases B:n==m with
  |true=>have e:n=m:=by simpa using B
         subst e;rfl
  |false=>show Ng g r n
def rl(env:PySem.Env)(n:Str)(k:NameKind):NameKind:=if(k==NameKind.free&&env.scope.kind==.function&&env.kindOf n==some .cell)then NameKind.cell else k
def Ve(scope:Scope)(env:PySem.Env):(relabel scope env).names=scope.names.map λp=>(p.1,rl env p.1 p.2):=by
 show map_congr_left λp _=>?_;let#[n,k]:=p;show(if(k==NameKind.free&&env.scope.kind==.function&&env.kindOf n==some .cell)=true then(n,NameKind.cell)else(n,k))=(n,rl env n k);unfold rl;by_cases h:(k==NameKind.free&&env.scope.kind==.function&&env.kindOf n==some .cell)=true
 .rw[q5 h,q5 h]
 .rw[q8 h,q8 h]
def Hr(scope:Scope)(env:PySem.Env)(x:Str):(relabel scope env).names.lookup x=(scope.names.lookup x).map (rl env x):=by rw[Ve,Ng]
def Fx(h:k≠.free):rl env x k=k:=by unfold rl;rw[q8];intro z;simp at z;show h z.1.1
def PZ:rl env x .free=.cell\/rl env x .free=.free:=by
 unfold rl;split
 .show .inl rfl
 .show .inr rfl
def RL(h:(fZ N vars)[i]?=some x)(hi:i<N.length):(N[i]?=some x/\x∉vars)\/x=Str.empty:=by
 unfold fZ at h;rw[getElem?_append_left ↑hi,qF]at h;cases q:N[i]? with
 |none=>rw[q]at h;cases h
 |some y=>grind
def Inv.comp(I:Inv X zV Z H s)(S:bY X.env.scope scope X.N vars)(hex:∀b∈ex,cH X zV H b/\b<s.heap.objs.size)(kept:∀b o,s.heap.get? b=some o->h'.get? b=some o)(h8:h'.Ns s.heap.objs.size (λ_=>none))
  (e3:∀x c,(x,c)∈cellsFrom (s.heap.objs.size+1) scope.names (cR X.env.cells scope.names [])->(x,c)∈cR X.env.cells scope.names []\/h'.IsCell c none)(hk:vars.length=k)(w0:Option V):
  Inv (aB X scope vars s H ex) [] (Z++w0::List.replicate k none) H {s with heap:=h'}:=by
 have cm:∀{x:Str}{c:Addr},(x,c)∈cR X.env.cells scope.names []->(x,NameKind.free)∈scope.names/\X.env.cells.lookup x=some c:=λ{x c} h=>by
  rcases Hj h with z|z
  .simp at z
  .show z
 let lt:∀{x:Str}{c:Addr},X.env.cells.lookup x=some c->c<s.heap.objs.size:=λ{x c} h=>by let#[v,z]:=I.cell x c h;show z.lt
 have look:∀{x:Str}{c:Addr},(aB X scope vars s H ex).env.cells.lookup x=some c->(X.env.cells.lookup x=some c/\(x,NameKind.free)∈scope.names)\/((x,NameKind.cell)∈scope.names/\s.heap.objs.size+1<=c):=λ{x c} h=>by
  rcases Jh (mem_of_lookup h)with z|z
  .show .inl #[(cm z).2,(cm z).1]
  .show .inr z
 let uniq:∀{x:Str}{a b:NameKind},(x,a)∈scope.names->(x,b)∈scope.names->a=b:=λ{x a b} h1 h2=>by let e1:=(Hs S.nd).mpr h1;let e2:=(Hs S.nd).mpr h2;rw[e1]at e2;show qf e2
 --what a visible name is,seen from around
 have h5:∀{x:Str},((relabel scope X.env).names.lookup x=some .cell\/(relabel scope X.env).names.lookup x=some .free)->(x,NameKind.cell)∈scope.names\/(x,NameKind.free)∈scope.names:=λ{x} h=>by
  rw[Hr]at h;cases q:scope.names.lookup x with
  |none=>rw[q]at h;rcases h with h|h<;>cases h
  |some k=>
   let O:=mem_of_lookup q;rw[q]at h;let h0:some (rl X.env x k)=some .cell\/some (rl X.env x k)=some .free:=h;cases k with
   |cell=>show .inl O
   |free=>show .inr O
   |«local»=>rw[Fx ⋯]at h0;rcases h0 with h|h<;>cases h
   |globalImplicit=>rw[Fx ⋯]at h0;rcases h0 with h|h<;>cases h
   |globalExplicit=>rw[Fx ⋯]at h0;rcases h0 with h|h<;>cases h
 have ok:(aB X scope vars s H ex).Ok:=by
  show#[I.ok.mod,S.kind,I.ok.glob,I.ok.blt,q9 _,λx y c h1 h2=>?_,λx h=>?_,λx c hf h=>?_,I.ok.hd,I.ok.frames,.inl rfl,λb Y=>#[?_,λx c h z=>?_],I.bs,le_trans I.ok.bsz I.sz,λb o e Y=>?_,λb Y z=>?_,I.stack,I.stkFree]
  .refine Jl (λp hp=>?_) (λp hp q hq e=>?_) (x,c) (mem_of_lookup h1) (y,c) (mem_of_lookup h2) rfl
   .show lt_succ_of_lt (lt (cm (x:=p.1) (c:=p.2) hp).2)
   .show I.ok.inj _ _ _ (cm (x:=p.1) (c:=p.2) hp).2 (e▸(cm (x:=q.1) (c:=q.2) hq).2)
  .rcases h5 h with z|z
   .show Hq (Gc (.inl z))
   .obtain⟨c,hc⟩:=I.ok.has x (S.fr (x,.free) z rfl);show Hq (Gc (.inr #[c,FM hc (.inr z)]))
  .let h9:(x,NameKind.cell)∈scope.names:=qU hf;rcases look h with⟨_,z⟩|⟨_,z⟩
   .cases uniq h9 z
   .show Nat.le_of_succ_le z
  .show ne_of_lt (hex b Y).2
  .rcases look h with⟨w,_⟩|⟨_,w⟩
   .show(hex b Y).1.2.2.2.2.1 x c w z
   .let h1:=(hex b Y).2;rw[<-z]at h1;show absurd (lt_of_lt_of_le h1 (Nat.le_of_succ_le w)) (lt_irrefl _)
  .obtain⟨_,_,_,h1,_⟩:=(hex b Y).1;rcases h1 with z|z
   .show I.ok.noex b o e z
   .rw[(I.ok.bs b o e).1]at z;cases z
  .obtain⟨_,h2,h3,_⟩:=(hex b Y).1;rcases qA.mp (I.stkSub b z)with w|w
   .show h2 w
   .show h3 w
 let J:∀{c:Addr}{v:Option Value},s.heap.IsCell c v->h'.IsCell c v:=λz=>z.keeps kept;show#[ok,rfl,I.bare,Un.kept kept,#[_,h8,λi x v h1 h2 h3=>?_],λx c h=>?_,I.hok.fresh (q9 _),λx c h=>?_,λp hp=>absurd (show p∈([]:List (Addr×Obj)) from hp) (by simp),I.hok.kept kept,?_]
 ·--a slot of the context
  let h6:¬bj (aB X scope vars s H ex).env.scope Str.empty:=λh3=>by let L:(relabel scope X.env).names.lookup Str.empty=some .local\/(relabel scope X.env).names.lookup Str.empty=some .cell\/(relabel scope X.env).names.lookup Str.empty=some .free:=h3;rw[Hr,S.emp]at L;rcases L with z|z|z<;>cases z
  have hi:i<Z.length:=by
   by_cases hi:i<Z.length
   .show hi
   .exfalso;rw[getElem?_append_right (not_lt.mp hi)]at h2;cases q:i-Z.length with
    |zero=>
     let e:i=X.N.length:=by let:=I.len;lia
     rw[e]at h1;let h4:(fZ X.N vars)[X.N.length]?=some x:=h1;unfold fZ at h4;simp at h4;subst h4;show h6 h3
    |succ j=>rw[q,List.getElem?_cons_succ,List.getElem?_replicate]at h2;split at h2<;>cases h2
  rw[getElem?_append_left hi]at h2;rcases RL h1 (by rw[<-I.len];show hi)with⟨h1,hx⟩|rfl
  .have own:=S.own x (qM h1) hx;let B:(x,NameKind.free)∈scope.names:=by
    let L:(relabel scope X.env).names.lookup x=some .local\/(relabel scope X.env).names.lookup x=some .cell\/(relabel scope X.env).names.lookup x=some .free:=h3;rcases L with z|z
    .rw[Hr]at z;cases q:scope.names.lookup x with
     |none=>rw[q]at z;cases z
     |some kk=>
      rw[q]at z;let z0:some (rl X.env x kk)=some .local:=z;let O:=mem_of_lookup q;cases kk with
      |«local»=>show absurd O own.1
      |cell=>show absurd O own.2
      |free=>show O
      |globalImplicit=>rw[Fx ⋯]at z0;cases z0
      |globalExplicit=>rw[Fx ⋯]at z0;cases z0
    .rcases h5 z with w|w
     .show absurd w own.2
     .show w
   let M:=S.fr (x,.free) B rfl;let#[m,O,hl]:=I.loc;let#[u,r,l]:=hl i x v h1 h2 (M.elim (λz=>.inr (.inl z)) λz=>.inr (.inr z));show#[u,r,.inr #[?_,?_]]
   .show(relabel scope X.env).names.lookup x=some .cell\/(relabel scope X.env).names.lookup x=some .free;rw[Hr,(Hs S.nd).mpr B];show some (rl X.env x .free)=_\/some (rl X.env x .free)=_;rcases PZ (env:=X.env) (x:=x)with e|e<;>rw[e]
    .show .inl rfl
    .show .inr rfl
   .rcases l with⟨z,_⟩|⟨_,c,hc,z⟩
    .let z':X.env.scope.names.lookup x=some .local:=z;rcases M with w|w<;>(have w':X.env.scope.names.lookup x=_:=w;rw[w']at z';cases z')
    .show#[c,?_,J z];let#[c',h7]:=Hq (Gc (n:=s.heap.objs.size+1) (names:=scope.names) (.inr #[c,FM hc (.inr B)]));rcases look h7 with⟨w,_⟩|⟨w,_⟩
     .rw[hc]at w;cases w;show h7
     .cases uniq B w
  .show absurd h3 h6
 .rcases e3 x c (mem_of_lookup h)with z|z
  .obtain⟨v,w⟩:=I.cell x c (cm z).2;show#[v,J w]
  .show#[none,z]
 .rcases look h with⟨w,_⟩|⟨_,w⟩
  .show I.freeC x c w
  .show I.hok.fresh (Nat.le_of_succ_le w)
 .show _=(fZ X.N vars).length;unfold fZ;simp[I.len,hk]
abbrev TB:=St->Hp->(St->Hp->Prop)->Prop
def lE(X:Cx)(m:Sem Unit)(t:TB):Prop:=∀(zV:List (Addr×Obj))(s:Shared)(Z:St)(H:Hp)(Q:St->Hp->Prop),Inv X zV Z H s->t Z H Q->
 wpAny (model X.prog X.w) X.A m (λ_ s'=>∃Z' H',Inv X zV Z' H' s'/\Q Z' H') (λ_ _=>False) s
def gA(X:Cx)(ifs:List Expr)(t:TT):Prop:=∀(zV:List (Addr×Obj))(s:Shared)(Z:St)(H:Hp)(Q:Bool->Hp->Prop),Inv X zV Z H s->t Z H Q->
 wpAny (model X.prog X.w) X.A (forIn ifs true λc r=>if r=true then do let ok<-isTrue c X.env (eval c X.env);pure (ForInStep.yield ok)else pure (ForInStep.yield r)) (TP X zV Z Q) X.xe s
def SE:gA X [] (λ_ H Q=>Q true H):=λzV s Z H Q I q=>wpAny_tests_nil #[H,I,q]
def RF(h:PT X c t):gA X [c] t:=λzV s Z H Q I q=>wpAny_tests_one (h zV s Z H Q I q)
def fR(g:TG)(tc:TT)(tb:TB)(J:It):TB:=λZ H Q=>∃W:Nat->Nat->St->Hp->Prop,(∃m,W 0 m Z H)/\∀i m Z H,W i m Z H->
 (J.stop i H/\Q Z H)\/(J.go i H/\∃N:St->Hp->Prop,(∀Z' H',N Z' H'->∃L,L<m/\W (i+1) L Z' H')/\∀x H',J.yld i H x H'->g x Z H' λB H2=>tc B H2 λb M=>if b=true then tb B M N else N B M)
def gN(X:Cx)(e:Expr)(d:Nat)(B:Value)(tg:Expr)(M:It->TB):Prop:=∀(zV:List (Addr×Obj))(s:Shared)(Z:St)(H:Hp)(J:It)(fp:List Addr)(it:Addr)(L:Nat->Heap->Prop)(Q:St->Hp->Prop),Inv X zV Z H s->
 iE X.prog X.w X.K tg J fp it L->L 0 s.heap->(∀b∈fp,cH X zV H b)->M J Z H Q->
 codeAny (model X.prog X.w) X.A (.compLoop e d (.ref it) B X.env) (λr s'=>∃Z' H',r=.ok .next/\Inv X zV Z' H' s'/\Q Z' H') s
def jN(X:Cx)(m:Sem Fin)(c:Code)(t:TB):Prop:=∀(zV:List (Addr×Obj))(s:Shared)(Z:St)(H:Hp)(Q:St->Hp->Prop),Inv X zV Z H s->t Z H Q->
 wpAny (model X.prog X.w) X.A m (λf s'=>f=.again c/\∃Z' H',Inv X zV Z' H' s'/\Q Z' H') (λ_ _=>False) s
def lE.f(h:lE X m t):jN X (m>>=λ_=>again c) c t:=λzV s Z H Q I q=>qa (zu (h zV s Z H Q I q) (λ_ s' z=>qb #[rfl,z]) λ_ _ z=>z)
def Fe{inner:Addr->Sem Fin}(hc:X.calm=true)(hxe:X.xe=λ_ _=>False)(hg:PG X tg g)(ht:gA X ifs tc)(hr:∀it,jN X (inner it) (.compLoop e d (.ref it) z3 X.env) tb)
  (hq:∀it,(Code.compLoop e d (.ref it) z3 X.env).quiet=true)(hun:∀it,X.A.under (.compLoop e d (.ref it) z3 X.env)=X.A)
  (hden:∀it,(model X.prog X.w).den (.compLoop e d (.ref it) z3 X.env)=(compTurn e d (.ref it) z3 X.env).onRaise (λx=>do noteFrame x X.env;theTreesLotGoes x))
  (heq:∀it,compTurn e d (.ref it) z3 X.env=(standAt ipos>>=λ_=>pyNext (.ref it)>>=λr=>match r with
   |none=>pure (.done .next)
   |some v=>letOwnedTupleGo tg (.ref it) v>>=λ_=>assign tg X.env v>>=λ_=>(forIn ifs true λc r=>if r=true then do let ok<-isTrue c X.env (eval c X.env);pure (ForInStep.yield ok)else pure (ForInStep.yield r))>>=λok=>if ok=true then inner it else again (.compLoop e d (.ref it) z3 X.env))):
  gN X e d z3 tg (fR g tc tb):=by
 intro zV s Z H J fp it tn Q I T st f ⟨W,⟨m0,w0⟩,turn⟩;let stat:∀{H':Hp},(∀b∈fp,H' b=none)->∀b∈fp,cH X zV H' b:=λhn b hb=>#[hn b hb,(f b hb).2]
 let nox:∀{α:Type}{m:Sem α}{Q:α->Shared->Prop}{E:zv}{s:Shared},wpAny (model X.prog X.w) X.A m Q X.xe s->wpAny (model X.prog X.w) X.A m Q E s:=λh=>zu h (λ_ _ q=>q) λ_ _ x=>by rw[hxe]at x;show x.elim
 show codeAny_loop (hq it) (λn s'=>∃i Z' H',Inv X zV Z' H' s'/\tn i s'.heap/\(∀b∈fp,H' b=none)/\W i n Z' H') ?_ m0 #[0,Z,H,I,st,λb hb=>(f b hb).1,w0];rintro n s3 ⟨i,Z3,H3,I3,st3,fr3,w3⟩;rw[hun,hden];show wpAny_noted ?_;rw[heq];show qa (wpAny_standAt (qa ?_));rcases turn i n Z3 H3 w3 with⟨stop,qn⟩|⟨go,N,hN,step⟩
 .show Am (T.done X rfl rfl rfl hc i zV s3 Z3 H3 _ I3 (stat fr3) st3 stop) λr s4⟨hr,I4⟩=>?_;subst hr;show qb #[Z3,H3,rfl,I4,qn]
 .show Am (T.item X rfl rfl rfl hc i zV s3 Z3 H3 _ I3 (stat fr3) st3 go) λr s4 zq=>?_;let#[u,hr',h4]:=zq;subst hr';show qa (Am h4 λ_ s5 zq=>?_);show cps λ_ kk=>?_;let#[x,H5,I5,r5,y5,st5,fr5]:=zq;show kk ?_;let I5':=I5.pinned (stat fr5) (T.obj _ _ st5);show qa (nox (Am (hg _ s5 Z3 H5 x u _ I5' r5 (step x H5 y5)) λ_ s6 zq=>?_));let#[Z6,H6,I6,q6]:=zq;let again:∀{Z7:St}{H7:Hp}{s7:Shared},Inv X (zV++fS fp s5.heap) Z7 H7 s7->N Z7 H7->∃m,m<n/\∃i Z' H',Inv X zV Z' H' s7/\tn i s7.heap/\(∀b∈fp,H' b=none)/\W i m Z' H':=λ{Z7 H7 s7} I7 n7=>by let#[m',hm,w7]:=hN Z7 H7 n7;show#[m',hm,i+1,Z7,H7,I7.unpinned,T.keep _ _ _ st5 λb hb o e=>(I7.pin (b,o) (qi _ (qi _ (Hm hb e)))).1,λb hb=>?_,w7];let#[o,e,d]:=T.obj _ _ st5 b hb;exact(I7.pin (b,o) (qi _ (qi _ (Hm hb e)))).2.1
  show qa (nox (Am (ht _ s6 Z6 H6 _ I6 q6) λb s7 zq=>?_));let#[H7,I7,q7]:=zq;cases b with
  |true=>show zu (hr it _ s7 Z6 H7 _ I7 q7) (λf s8 zq=>?_) λ_ _ z=>z.elim;let#[ef,Z8,H8,I8,n8]:=zq;subst ef;show#[rfl,again I8 n8]
  |false=>show qb #[rfl,again I7 q7]
def Mw(hl:gN X e d z3 tg tl)
  (hq:∀it,(Code.compLoop e d (.ref it) z3 X.env).quiet=true)(hun:∀it,X.A.under (.compStart e d (.ref it) z3 X.env)=X.A)
  (hden:∀it,(model X.prog X.w).den (.compStart e d (.ref it) z3 X.env)=(compStart e d (.ref it) z3 X.env).onRaise (λx=>do noteFrame x X.env;standAt theWindowsPlace))
  (heq:∀it,∃p,compStart e d (.ref it) z3 X.env=(ask>>=λc=>if c.params.followText "comprehension-iter-twice"=true then again (.compLoop e d (.ref it) z3 X.env)else
   rule "comprehension.iter-twice">>=λ_=>standAt p>>=λ_=>pyIter (.ref it)>>=λit'=>again (.compLoop e d it' z3 X.env)))(I:Inv X zV Z H s)
  (T:iE X.prog X.w X.K tg J fp it tn)(st:tn 0 s.heap)(f:∀b∈fp,cH X zV H b)(q:tl J Z H Q):
  codeAny (model X.prog X.w) X.A (.compStart e d (.ref it) z3 X.env) (λr s'=>∃Z' H',r=.ok .next/\Inv X zV Z' H' s'/\Q Z' H') s:=by
 let h0:=hl zV s Z H J fp it tn Q I T st f q;show codeAny_of_tree ?_;rw[hun,hden];show wpAny_notedAt ?_;let#[p,e]:=heq it;rw[e];show qa (wpAny_askSetting (wpAny_ite ?_));split
 .show qb #[hq it,h0]
 .show qa (wpAny_rule (qa (wpAny_standAt (qa (T.self X.A 0 s _ _ st (qb #[hq it,h0]))))))
end L2
namespace FL
open PySem PySem.Spec PyProof.Rows L2
inductive rT(X:Cx)(n:Nat)(D:Addr)(b:WB)(Z:St)(H:Hp)(Q:St->Hp->Prop):Prop
 |mk (F G:Hp) (U:Env) (P:Env->Prop) (zX:Rel X.K U Z F G H) (hs:Z[n]?=some (some (.ref D))) (hw:b U P NX) (hn:∀U' Z' F' H',P U'->KP (List.range (n+1)) Z Z'->zG F F'->Rel X.K U' Z' F' G H'->Q Z' H'):rT X n D b Z H Q
def Ht:XC X T F G NX:=λ_ _ _ _ _ _ _ z=>z.elim
section
variable{K:W.Frag}
def zJ.snoc(b:zJ K F H xs l fp)(r:aK K F H v s fq):zJ K F H (xs++[v]) (l++[s]) (fp++fq):=
 zJ.ind (P:=λxs l fp=>zJ K F H (xs++[v]) (l++[s]) (fp++fq)) (by let:=zJ.cons r .nil;rwa[qz]at this) (λa _ B=>by rw[qp];show .cons a B) b
def zJ.len(r:zJ K F H xs l fp):xs.length=l.length:=zJ.ind (P:=λxs l _=>xs.length=l.length) rfl (λ_ _ B=>congrArg (·+1) B) r
def Rel.append{D:Addr}(r:Rel K (U++[some s]) (Z++[some v]) F G H)(hs:slot U n=some (.lst l))(J:Z[n]?=some (some (.ref D))):
  ∃xs,H D=some (.lst xs)/\xs.length=l.length/\Rel K (U.set n (some (.lst (l++[s])))) Z F G (upd H D (.lst (xs++[v]))):=by
 let hl:=Ah r;let#[fp,e,nd,ap]:=r.en;let#[f1,f2,rfl,a,b]:=e.cut hl;let#[v',fa,fi,fb,e1,rfl,q,up]:=a.at hs;rw[J]at e1;let e2:V.ref D=v':=↑e1
 subst e2;cases q with
 |lst hD rl=>
  rename_i xs fl;cases b with
  |so sr nl=>
   cases nl;rename_i fs;show#[xs,hD,rl.len,?_];let es:Z.set n (some (.ref D))=Z:=by
    apply ext_getElem?;intro j;by_cases hj:n=j
    .subst hj;rw[getElem?_set_self (qg.mp J).1,J]
    .rw[getElem?_set_ne hj]
   --D is nobody else's
   let#[n1,n2,Y]:=qw.mp nd;let#[na,B,O]:=qw.mp n1;let#[ni,nb,B]:=qw.mp B;let#[nD,h4]:=qL.mp ni;let h3:D∉fa:=λz=>O D z D (qj _ qm) rfl;let h2:D∉fb:=λz=>B D qm D z rfl;let h1:D∉fs:=λz=>Y D (qi _ (qj _ qm)) D ↑z rfl;let M:=ap D (qj _ (qi _ (qj _ qm)));let ne:∀{l:List Addr},D∉l->∀x∈l,upd H D (.lst (xs++[v])) x=H x:=λh x L=>An λz=>h (z▸L);let new:aK K F (upd H D (.lst (xs++[v]))) (.ref D) (.lst (l++[s])) (D::(fl++fs)):=.lst AX (zJ.snoc (rl.mono (zG.refl F) (ne nD)) (sr.mono (zG.refl F) (ne h1)));let a2:=up (F':=F) (H':=upd H D (.lst (xs++[v]))) (o:=some (.lst (l++[s]))) (u:=some (.ref D)) (zG.refl F) (λx L=>An λz=>(qx.mp L).elim (λw=>h3 (z▸w)) λw=>h2 (z▸w)) (.so new .nil);rw[es]at a2;let p:(fa++((D::(fl++fs))++[]++fb)).Perm (fa++((D::fl)++fb)++(fs++[])):=by simp;show List.Perm.append_left _ (List.Perm.cons _ (List.Perm.append_left _ qN))
   show#[zG.updR r.fr M.1,λx o w=>?_,_,a2,p.nodup_iff.mpr nd,λx L=>ap x (by simpa using p.mem_iff.mp L)];let L:x≠D:=λz=>by rw[z,M.2]at w;cases w
   rw[An L];show r.gr x o w
end
section
variable{D:Addr}
def Jc(L:X.xe=λ_ _=>False)(h:FE X h5 we):lE X (eval h5 X.env>>=λx=>call (.builtin "list.append") [.ref D,x]>>=λ_=>pure ()) (rT X n D (bV n we)):=by
 intro zV s Z H Q I q;let#[F,G,U,P,h2,h3,hw,h4]:=q;let hp:PassesOwn (model X.prog X.w) X.A X.env X.xe:=by rw[L];show PassesOwn.never
 have he:=h X.pn X.xe hp zV s Z H (λv H1=>∃O U1 t l,zG F O/\Rel X.K (U1++[some t]) (Z++[some v]) O G H1/\slot U1 n=some (.lst l)/\l.length<big/\P (U1.set n (some (.lst (l++[t]))))) I
  #[F,G,U,_,NX,h2,hw,λr U1 v O H1 B s1 Y rv=>?_,Ht]
 .let J:∀e s',X.xe e s'->False:=λe s' z=>by rw[L]at z;exact z
  show qa (zu he (λu s1 zq=>?_) λe s' z=>J e s' z);show cps λ_ kk=>?_;let#[v,H1,I1,rv,O,U1,t,l,sm,Y,hs,hz,hP]:=zq;let#[xs,hD,M,r2]:=Rel.append Y hs h3;show kk ?_;show qa (zu (Jd zV s1 Z H1 (.ref D) [v] (.ref D) [u] (λw H'=>w=.non/\H'=upd H1 D (.lst (xs++[v]))) I1 rfl (.cons rv .nil) #[D,xs,v,rfl,rfl,hD,by rw[M];show lt_trans hz ⋯,rfl,rfl]) (λw s2 zq=>?_) λe s' z=>J e s' z);let#[w',H2,I2,_,_,e2]:=zq;subst e2;show qb #[Z,_,I2,h4 _ Z O _ hP KP.refl sm r2]
 .obtain⟨⟨t,h1⟩,eg,B⟩:=Ao B;let#[F2,s2,l2,r2]:=AC (U':=[]) (Z':=[]) Y (Ah Y) rv eg;split at B
  .rename_i l e;show#[F2,h1,t,l,s1.trans s2,r2,e,B.1,B.2]
  .show B.elim
def CY:gA X [] (iI X dE):=λzV s Z H Q I q=>SE zV s Z H Q I (by let#[F,G,U,P,PX,B,L,J,M]:=q;show J true U F H L (zG.refl F) B)
def Lb(B:X.xe=λ_ _=>False)(h:FT X c wc):gA X [c] (iI X wc):=RF (h X.pn X.xe (by rw[B];show PassesOwn.never))
def Lq(it:eV X.K J l F)(h8:Rel X.K U Z F G H)(e2:Z[n]?=some (some (.ref D)))
  (hw:aL g wc b l U P NX)(e4:∀U' Z' F' H',P U'->KP (List.range (n+1)) Z Z'->zG F F'->Rel X.K U' Z' F' G H'->Q Z' H'):
  fR (xS X (List.range (n+1)) g) (iI X wc) (rT X n D b) J Z H Q:=by
 let h4:∀{Z':St},KP (List.range (n+1)) Z Z'->Z'[n]?=some (some (.ref D)):=λk=>by rw[k n (by simp)];show e2
 show#[λi m B H2=>m=l.length-i/\i<=l.length/\∃F2 U2,KP (List.range (n+1)) Z B/\zG F F2/\Rel X.K U2 B F2 G H2/\aL g wc b (l.drop i) U2 P NX,#[l.length,by simp,zero_le _,F,U,KP.refl,zG.refl F,h8,hw],?_];rintro i m B H2 ⟨rfl,hi,F2,U2,kp,s2,r2,L⟩;let#[e1,h9]:=it i U2 B F2 G H2 s2 r2;by_cases M:i<l.length
 .obtain⟨go,h7⟩:=e1 l[i] (by simp);show .inr #[go,λO H3=>i+1<=l.length/\∃F3 h2,KP (List.range (n+1)) Z O/\zG F F3/\Rel X.K h2 O F3 G H3/\aL g wc b (l.drop (i+1)) h2 P NX,λO H3 h=>#[l.length-(i+1),∅,rfl,h],λy H3 hy=>?_];let#[F3,s3,r3,rp]:=h7 y H3 hy;rw[List.drop_eq_getElem_cons M]at L;show#[F3,G,U2,_,_,r3.push rp,L,λh6 hk F4 H4 e3 k4 s4 r4=>?_];let Y:=kp.trans k4;let h3:=s2.trans (s3.trans s4);show#[F4,G,h6,_,_,r4,e3,λk h1 F5 H5 h5 s5 r5=>?_,Ht];cases k with
  |true=>show#[F5,G,h1,_,r5,h4 Y,h5,λU' Z' F' H' h k' s r=>#[M,F',U',Y.trans k',h3.trans (s5.trans s),r,h]]
  |false=>show#[M,F5,h1,Y,h3.trans s5,r5,h5]
 .let e:i=l.length:=Nat.le_antisymm hi (not_lt.mp M);subst e;rw[List.drop_length]at L;show .inl #[h9 (q9 _),e4 U2 B F2 H2 L kp s2 r2]
def Lh(hxe:X.xe=λ_ _=>False)(hi:FI X tg iter wi)(hl:gN X e d (.ref D) tg (fR (xS X (List.range (n+1)) g) (iI X wc) (rT X n D b)))
  (hs:∀x,foldedSetIterable iter X.env x=pure x)(hm:X.A.mark none=X.A)
  (hq:∀it,(Code.compLoop e d (.ref it) (.ref D) X.env).quiet=true)(hun:∀it,X.A.under (.compStart e d (.ref it) (.ref D) X.env)=X.A)
  (hden:∀it,(model X.prog X.w).den (.compStart e d (.ref it) (.ref D) X.env)=(compStart e d (.ref it) (.ref D) X.env).onRaise (λx=>do noteFrame x X.env;standAt theWindowsPlace))
  (heq:∀it,∃p,compStart e d (.ref it) (.ref D) X.env=(ask>>=λc=>if c.params.followText "comprehension-iter-twice"=true then again (.compLoop e d (.ref it) (.ref D) X.env)else
   rule "comprehension.iter-twice">>=λ_=>standAt p>>=λ_=>pyIter (.ref it)>>=λit'=>again (.compLoop e d it' (.ref D) X.env))):
  jN X (eval iter X.env>>=λx=>standAt ip>>=λ_=>foldedSetIterable iter X.env x>>=λx=>holding [x] (pyIter x)>>=λit=>runOwn (.compStart e d it (.ref D) X.env) X.env>>=λ_=>again c0) c0 (rT X n D (lM wi g wc b)):=by
 intro zV s Z H Q I q;let#[F,G,U,P,zX,hZ,hw,hok]:=q;let hp:PassesOwn (model X.prog X.w) X.A X.env X.xe:=by rw[hxe];show PassesOwn.never
 let xe0:∀e s',X.xe e s'->False:=λe s' z=>by rw[hxe]at z;show z
 have hi':=hi X.pn X.xe hp zV s Z H (λJ H1=>fR (xS X (List.range (n+1)) g) (iI X wc) (rT X n D b) J Z H1 Q) I
  #[F,G,U,_,NX,zX,hw,λl U1 F1 H1 J hk s1 r1 it=>Lq it r1 hZ hk λU' Z' F' H' a k s r=>hok U' Z' F' H' a k (s1.trans s) r,Ht]
 show qa (zu hi' (λx s1 h1=>?_) λe s' z=>xe0 e s' z);show qa (wpAny_standAt (qa (zt (hs x) (qa (zr (zu h1 (λitv s2 h2=>?_) λe s' z=>xe0 e s' z))))));let#[it,fp,tn,J,H2,e1,I2,T,st,f,q2]:=h2;subst e1;show qa (wpAny_runOwn ?_);show codeAny_mono (Mw hl hq hun hden heq I2 T st f q2) λr s3 zq=>?_;let#[Z3,H3,er,I3,q3]:=zq;subst er;show qb #[rfl,Z3,H3,I3,q3]
end
def MU{α:Type}{l:List α}{a:α}(h:l[n]?=some a):l=l.take n++a::l.drop (n+1):=by let#[B,e]:=qg.mp h;rw[<-e,<-List.drop_eq_getElem_cons B,take_append_drop]
section
variable{X:Cx}
def GP(hmk:∀(A:Around)(E:zv)(s:Shared)(Q:zv),Q (.ref s.heap.objs.size) {s with heap:=s.heap.push {cls:=.type ty,dict:=none,data:=dat}}->wpAny (model X.prog X.w) A mk Q E s)(ho:∀(H:Hp)(h:Heap),sysModules<h.objs.size->zU X.prog X.w H (h.push {cls:=.type ty,dict:=none,data:=dat}) h.objs.size o0)(hs0:∀(F H:Hp)(p:Addr),H p=some o0->aK X.K F H (.ref p) s0 [p])(hcl:clausesOf e=⟨tg,iter,ifs,0⟩::gs)(hs:∀x,foldedSetIterable iter X.env x=pure x)
  (Sc:bY X.env.scope scope X.N vars)(hk:vars.length=k)(hi:FI X tg iter wi)
  (hb:∀(s:Shared)(H:Hp)(ex:List Addr)(D:Addr),gN (aB X scope vars s H ex) e 0 (.ref D) tg (fR (xS (aB X scope vars s H ex) (List.range (X.N.length+1)) g) (iI (aB X scope vars s H ex) wc) (rT (aB X scope vars s H ex) X.N.length D b)))
  (hq:∀it z3 env,(Code.compLoop e 0 (.ref it) z3 env).quiet=true)(hun:∀it z3 env,X.A.under (.compStart e 0 (.ref it) z3 env)=X.A)
  (hden:∀it z3 env,(model X.prog X.w).den (.compStart e 0 (.ref it) z3 env)=(compStart e 0 (.ref it) z3 env).onRaise (λx=>do noteFrame x env;standAt theWindowsPlace))
  (heq:∀it z3 env,∃p,compStart e 0 (.ref it) z3 env=(ask>>=λc=>if c.params.followText "comprehension-iter-twice"=true then again (.compLoop e 0 (.ref it) z3 env)else
   rule "comprehension.iter-twice">>=λ_=>standAt p>>=λ_=>pyIter (.ref it)>>=λit'=>again (.compLoop e 0 it' z3 env)))(hp:PassesOwn (model X.prog X.w) X.A X.env xe){P:WQ}(I:Inv (wp X pn xe) zV Z H s)
  (zX:Rel X.K U Z F G H)(hw:wi U (λl U1=>aL g wc b l (U1++some s0::List.replicate k none) (λU2=>zF (slot U2 X.N.length) λs=>P (.v s) (U2.take X.N.length)) NX) PX)(hx:XC (wp X pn xe) (·=Z) F G PX)
  (fin:∀(D C:Addr)(s4:Shared)(H4 F4:Hp)(m:Str->Option Value)(t:S)(U4:Env),s4.heap.Ns C m->Inv (wp X pn xe) zV Z H4 s4->H4 C=none->C≠X.env.locals->X.s₀.heap.objs.size<=C->(∀x c,X.env.cells.lookup x=some c->c≠C)->(∀p∈pn++zV,p.1≠C)->
   P (.v t) U4->zG F F4->Rel X.K (U4++[some t]) (Z++[some (.ref D)]) F4 G H4->compPost (model X.prog X.w) X.A xe use Q' (.ref D) C (.ok .next) s4):
  wpAny (model X.prog X.w) X.A (comprehension e scope X.env cpos mk false (eval iter X.env) use) Q' xe s:=by
 have hi':=hi pn xe hp zV s Z H (λJ H1=>∃F1 U1 l,zG F F1/\Rel X.K U1 Z F1 G H1/\eV X.K J l F1/\
   aL g wc b l (U1++some s0::List.replicate k none) (λU2=>zF (slot U2 X.N.length) λs=>P (.v s) (U2.take X.N.length)) NX) I
  #[F,G,U,_,PX,zX,hw,λl U1 F1 H1 J hk s1 r1 it=>#[F1,U1,l,s1,r1,it,hk],hx]
 let hfree:∀x∈scope.names,x.2=.free->∃c,X.env.cells.lookup x.1=some c:=λx hx hf=>I.ok.has x.1 (Sc.fr x hx hf);show wpAny_comprehension_free (use:=use) hcl hs (Vb hfree) Sc.kind (λx hx hl=>(Hs Sc.nd).mpr (by let#[a,b]:=x;let hl':b=.local:=hl;subst hl';show hx)) (zu hi' (λv s1 h1=>zu h1 (λitv s2 h2=>?_) λ_ _ z=>z) λ_ _ z=>z);show cps λ_ kk=>?_;let#[it,fp,tn,J,H2,e1,I2,T,st,f,F1,U1,l,s1',r1,ito,hk2]:=h2;show kk ?_;subst e1
 --the z3
 show hmk _ _ _ _ ?_;generalize hs3:({s2 with heap:=s2.heap.push {cls:=.type ty,dict:=none,data:=dat}}:Shared)=s3;let k23:∀b o,s2.heap.get? b=some o->s3.heap.get? b=some o:=λb o e=>by rw[<-hs3];show qc _ e
 let sz3:s3.heap.objs.size=s2.heap.objs.size+1:=by rw[<-hs3];show Heap.size_push ..
 let hD:H2 s2.heap.objs.size=none:=I2.hok.fresh (q9 _);let I3:Inv (wp X pn xe) zV Z (upd H2 s2.heap.objs.size o0) s3:=by rw[<-hs3];show I2.laid (t':=s2.toks) (λb o e=>qc _ e) (q9 _) (ho _ _ I2.big)
 let r3:Rel X.K (U1++[some s0]) (Z++[some (.ref s2.heap.objs.size)]) F1 G (upd H2 s2.heap.objs.size o0):=r1.newO hD (hs0 _ _ _ AX);let fplt:∀b∈fp,b<s2.heap.objs.size:=λb hb=>by let#[o,e,_]:=T.obj _ _ st b hb;show qe e
 let fne:∀b∈fp,b≠s2.heap.objs.size:=λb hb=>ne_of_lt (fplt b hb);let f3:∀b∈fp,cH (wp X pn xe) zV (upd H2 s2.heap.objs.size o0) b:=λb hb=>by let#[h1,h2]:=f b hb;show#[by rw[An (fne b hb)];show h1,h2]
 show UM λh' kept hns hcl'=>?_;let I4:=Inv.comp (X:=wp X pn xe) (ex:=fp) I3 Sc (λb hb=>#[f3 b hb,by rw[sz3];show lt_succ_of_lt (fplt b hb)]) kept hns hcl' hk (some (.ref s2.heap.objs.size));let hZn:(Z++some (.ref s2.heap.objs.size)::List.replicate k none)[X.N.length]?=some (some (.ref s2.heap.objs.size)):=by let hl:X.N.length=Z.length:=I2.len.symm;rw[hl,getElem?_append_right (q9 _),sub_self];rfl
 let r4:Rel X.K (U1++some s0::List.replicate k none) (Z++some (.ref s2.heap.objs.size)::List.replicate k none) F1 G (upd H2 s2.heap.objs.size o0):=by let:=r3.pushNs k;simpa using this
 let st4:tn 0 h':=T.keep _ _ _ st λb hb o e=>kept b o (k23 b o e);let f4:∀b∈fp,cH (aB X scope vars s3 (upd H2 s2.heap.objs.size o0) fp) [] (upd H2 s2.heap.objs.size o0) b:=λb hb=>by let#[h1,h2,h3,h4,h5,h6]:=f3 b hb;let e:=I4.ok.exf b hb;show#[h1,e.1,I4.ok.exfs b hb,.inl hb,e.2,λp hp=>absurd (show p∈([]:List (Addr×Obj)) from hp) (by simp)]
 have go:=Mw (hb s3 (upd H2 s2.heap.objs.size o0) fp s2.heap.objs.size) (λit=>hq it _ _) (λit=>hun it _ _) (λit=>hden it _ _) (λit=>heq it _ _) I4 T st4 f4
  (Q:=λZ' H'=>∃F' U',zF (slot U' X.N.length) (λs=>P (.v s) (U'.take X.N.length))/\KP (List.range (X.N.length+1)) (Z++some (.ref s2.heap.objs.size)::List.replicate k none) Z'/\zG F1 F'/\Rel X.K U' Z' F' G H')
  (Lq ito r4 hZn hk2 λU' Z' F' H' a kp sm r=>#[F',U',a,kp,sm,r])
 show codeAny_mono go λr s4 zq=>?_;show cps λ_ kk=>?_;let#[Z4,H4,er,I5,F4,U4,hn4,kp4,sm4,r5]:=zq;subst er;let#[m,hm,_]:=id I5.loc;show kk ?_;let I6:Inv (wp X pn xe) zV Z H4 s4:=Inv.call' (ch:=fp) I3 I5.os I5.base I5.hok I5.bare λb hb=>by let#[h1,h2,h3,h4,h5,h6]:=f3 b hb;show#[h4,h2,h5,h6]
 --the block's names go
 let#[t,et,hP]:=Ao hn4;let hl:X.N.length=Z.length:=I2.len.symm;let hZ4:Z4[X.N.length]?=some (some (.ref s2.heap.objs.size)):=by rw[kp4 X.N.length (by simp)];show hZn
 have eZ:Z4.take X.N.length=Z:=by
  apply ext_getElem?;intro j;by_cases hj:j<X.N.length
  .rw[List.getElem?_take_of_lt hj,kp4 j (by simp;lia -verbose),getElem?_append_left ∅]
  .rw[List.getElem?_take_eq_none (not_lt.mp hj),qQ ∅]
 let e1:=MU (Ji et);let e2:=MU hZ4;rw[e1,e2,eZ]at r5;let r6:Rel X.K ((U4.take X.N.length++[some t])++U4.drop (X.N.length+1)) ((Z++[some (.ref s2.heap.objs.size)])++Z4.drop (X.N.length+1)) F4 G H4:=↑r5
 let hlt:X.N.length<U4.length:=FD et;let ltC:∀{b:Addr}{o:Obj},s3.heap.get? b=some o->b≠s3.heap.objs.size:=λe=>ne_of_lt (qe e);show fin s2.heap.objs.size s3.heap.objs.size s4 H4 F4 m t (U4.take X.N.length) hm I6 I5.free (Ne.symm (ne_of_lt I3.lt)) I3.sz (λx c e z=>?_) (λp hp z=>?_) hP (s1'.trans sm4) (r6.drop (by simp;lia -verbose))
 .obtain⟨v,o,ho,_⟩:=I3.cell x c e;show ltC ho z
 .show ltC (I3.pin p hp).1 z
def HR{P:WQ}(O:∀r U' v F' H',P r U'->zG F F'->Rel X.K (U'++[zH r]) (Z++[some v]) F' G H'->RV Z v r->Q v H'):
  ∀(D C:Addr)(L:Shared)(J M:Hp)(m:Str->Option Value)(t:S)(B:Env),L.heap.Ns C m->Inv (wp X pn xe) zV Z J L->J C=none->C≠X.env.locals->X.s₀.heap.objs.size<=C->(∀x c,X.env.cells.lookup x=some c->c≠C)->(∀p∈pn++zV,p.1≠C)->
   P (.v t) B->zG F M->Rel X.K (B++[some t]) (Z++[some (.ref D)]) M G J->compPost (model X.prog X.w) X.A xe none (EP (wp X pn xe) zV Z Q) (.ref D) C (.ok .next) L:=
 λD C L J M m t B hm I n1 n2 n3 n4 n5 hP Y r=>#[m,hm,λh1 sb=>#[.ref D,J,I.turned (t':=L.toks) (λb o hb e=>(sb.2 b hb).trans e) n1 n2 (.inr (Heap.get?_none_of_le n3)) n4 n5,rfl,O (.v t) B _ M J hP Y r trivial]]
def Pb{P:WQ}{Nx:Env->Prop}(hk:i∉ks)(hN:∀j,X.N[j]?=some y->j=i)(hi:X.N[i]?=some y)(hy:X.env.scope.names.lookup y=some .local)
  (hP:∀s U,P (.v s) U->Nx (U.set i (some s)))(h1:∀U' Z' F' H',Nx U'->KP ks Z Z'->zG F F'->Rel X.K U' Z' F' G H'->DD.nx Z' H'):
  ∀(D C:Addr)(M:Shared)(J O:Hp)(m:Str->Option Value)(t:S)(B:Env),M.heap.Ns C m->Inv (wp X pn xe) zV Z J M->J C=none->C≠X.env.locals->X.s₀.heap.objs.size<=C->(∀x c,X.env.cells.lookup x=some c->c≠C)->(∀p∈pn++zV,p.1≠C)->
   P (.v t) B->zG F O->Rel X.K (B++[some t]) (Z++[some (.ref D)]) O G J->compPost (model X.prog X.w) X.A xe (some (assign (.Name y py) X.env)) (λ_ s'=>SP (wp X pn xe) zV DD .next s') (.ref D) C (.ok .next) M:=
 λD C M J O m t B hm I n1 n2 n3 n4 n5 hp sm r=>by
  let hl:=Ah r;let L:i<B.length:=by rw[hl,I.len];show(qg.mp hi).1
  refine wpAny_assign_Name (Mg (X:=wp X pn xe) (v:=.ref D) I hN hi (.inl hy) rfl (λs5 I5 zq=>?_) (.inr hy));let#[a,sb,ha]:=zq;let h2:C≠a:=by
   rcases ha with e|e
   .rw[e];show n2
   .show Ne.symm (n4 y a e)
  show#[m,hm.sameBut sb h2,λh3 Y=>#[_,J,I5.turned (t':=s5.toks) (λb o hb e=>(Y.2 b hb).trans e) n1 n2 (.inr (Heap.get?_none_of_le n3)) n4 n5,?_]];show h1 _ _ O J (hP t B hp) (KP.set hk) sm (r.store hl L)
def HU(A:Around)(E:zv)(s:Shared)(Q:zv)(h:Q (.ref s.heap.objs.size) {s with heap:=s.heap.push {cls:=.type ty,dict:=none,data:=dat}})(hz:sizeOk dat:=by size_fits):wpAny (model X.prog X.w) A (newObj (.type ty) dat) Q E s:=zk h hz
def HW(H:Hp)(h:Heap)(_:sysModules<h.objs.size):zU X.prog X.w H (h.push {cls:=.type "list",dict:=none,data:=.seq ([]:List Value).toArray}) h.objs.size (.lst []):=#[zero_le _,[],0,.nil,qd _ rfl]
def HC(F H:Hp)(p:Addr)(e:H p=some (.lst [])):aK X.K F H (.ref p) (.lst []) [p]:=.lst e .nil
def Ey(hn:X.N.length=n)(hc:X.calm=true)(Sc:bY X.env.scope scope X.N vars)(hk:vars.length=k)(hi:FI X tg iter O)
  (hg:∀s H ex,FG (aB X scope vars s H ex) (List.range (n+1)) tg g)(ht:∀s H ex,gA (aB X scope vars s H ex) J (iI (aB X scope vars s H ex) wc))(he:∀s H ex,FE (aB X scope vars s H ex) M Y)
  (hs:∀x,foldedSetIterable iter X.env x=pure x:=by intro _;rfl):FE X (.ListComp M [#[tg,iter,J,0]] scope pos) (jB n k O g wc (bV n Y)):=by
 subst hn;intro pn xe hp zV s Z H Q I q;let#[F,G,U,P,PX,B,hw,L,hx]:=q;show GP (λA E s Q h=>HU A E s Q h) (s0:=.lst []) HW HC rfl hs Sc hk hi (λs H ex D=>?_) (λ_ _ _=>rfl) (λ_ _ _=>rfl) (λ_ _ _=>rfl) (λ_ _ _=>#[_,rfl]) hp I B hw hx (HR L);show Fe (X:=aB X scope vars s H ex) hc rfl (hg s H ex [] (λ_ _=>False) PassesOwn.never) (ht s H ex) (λ_=>(Jc (X:=aB X scope vars s H ex) rfl (he s H ex)).f) (λ_=>rfl) (λ_=>rfl) (λ_=>rfl) (λ_=>rfl)
def IQ(Y:i∉ks)(hN:∀j,X.N[j]?=some y->j=i)(h1:X.N[i]?=some y)(hy:X.env.scope.names.lookup y=some .local)
  (O:swapsWith (.ListComp L [#[tg,iter,J,0]] scope pos) (some (.Name y py)) spos.line X.env=pure true)
  (hn:X.N.length=n)(hc:X.calm=true)(Sc:bY X.env.scope scope X.N vars)(hk:vars.length=k)(hi:FI X tg iter wi)
  (hg:∀s H ex,FG (aB X scope vars s H ex) (List.range (n+1)) tg g)(ht:∀s H ex,gA (aB X scope vars s H ex) J (iI (aB X scope vars s H ex) wc))(he:∀s H ex,FE (aB X scope vars s H ex) L we)
  (hs:∀x,foldedSetIterable iter X.env x=pure x:=by intro _;rfl):FS X ks (.Assign [.Name y py] (.ListComp L [#[tg,iter,J,0]] scope pos) spos) (zP (zz i) (jB n k wi g wc (bV n we))):=by
 subst hn;intro pn xe hp zV s Z H D I q;rw[exec_Assign_Name_used _ _ _ _ O];show qa (wpAny_standAt (qa ?_));let#[F,G,U,E,M,hw,n,b,c,r,x]:=q;refine qa (zu (GP (λA E s Q h=>HU A E s Q h) (s0:=.lst []) (P:=λr B=>zF (give r B) λp=>zz i p.1 p.2 E.nx) (PX:=E.ex) (g:=g) (wc:=wc) (b:=bV X.N.length we) (Q':=λ_ s'=>SP (wp X pn xe) zV D .next s') HW HC rfl hs Sc hk hi (λs H ex D=>?_) (λ_ _ _=>rfl) (λ_ _ _=>rfl) (λ_ _ _=>rfl) (λ_ _ _=>#[_,rfl]) hp I M hw (x.mono (λh2 z=>by rw[z];show KP.refl) (zG.refl F) (zG.refl G))
  (Pb (P:=λr B=>zF (give r B) λp=>zz i p.1 p.2 E.nx) (Nx:=E.nx) Y hN h1 hy (λs U h=>h) n)) (λ_ s' hq=>qb (qb hq)) λ_ _ e=>e)
 show Fe (X:=aB X scope vars s H ex) hc rfl (hg s H ex [] (λ_ _=>False) PassesOwn.never) (ht s H ex) (λ_=>(Jc (X:=aB X scope vars s H ex) rfl (he s H ex)).f) (λ_=>rfl) (λ_=>rfl) (λ_=>rfl) (λ_=>rfl)
set_option maxHeartbeats 4000000 in
def OG(hn:X.N.length=n)(hm:X.A.mark none=X.A)(hc:X.calm=true)(Sc:bY X.env.scope scope X.N vars)(hk:vars.length=k)(hi:FI X tg iter wi)
  (hg:∀s H ex,FG (aB X scope vars s H ex) (List.range (n+1)) tg g)(ht:∀s H ex,gA (aB X scope vars s H ex) L (iI (aB X scope vars s H ex) wc))
  (h5:∀s H ex,FI (aB X scope vars s H ex) B iter2 O)(h6:∀s H ex,FG (aB X scope vars s H ex) (List.range (n+1)) B g2)(h2:∀s H ex,gA (aB X scope vars s H ex) ifs2 (iI (aB X scope vars s H ex) Y))
  (he:∀s H ex,FE (aB X scope vars s H ex) M we)
  (hs:∀x,foldedSetIterable iter X.env x=pure x:=by intro _;rfl)(h3:∀env x,foldedSetIterable iter2 env x=pure x:=by intro _ _;rfl):FE X (.ListComp M [#[tg,iter,L,0],#[B,iter2,ifs2,0]] scope pos) (jB n k wi g wc (lM O g2 Y (bV n we))):=by
 subst hn;intro pn xe hp zV s Z H Q I q;let#[F,G,U,P,PX,h1,hw,h4,hx]:=q;show GP (λA E s Q h=>HU A E s Q h) (s0:=.lst []) HW HC rfl hs Sc hk hi (λs H ex D=>?_) (λ_ _ _=>rfl) (λ_ _ _=>rfl) (λ_ _ _=>rfl) (λ_ _ _=>#[_,rfl]) hp I h1 hw hx (HR h4);let J:gN (aB X scope vars s H ex) (.ListComp M [#[tg,iter,L,0],#[B,iter2,ifs2,0]] scope pos) 1 (.ref D) B _:=
  Fe (X:=aB X scope vars s H ex) hc rfl (h6 s H ex [] (λ_ _=>False) PassesOwn.never) (h2 s H ex) (λ_=>(Jc (X:=aB X scope vars s H ex) (n:=X.N.length) rfl (he s H ex)).f) (λ_=>rfl) (λ_=>rfl) (λ_=>rfl) (λ_=>rfl)
 show Fe (X:=aB X scope vars s H ex) hc rfl (hg s H ex [] (λ_ _=>False) PassesOwn.never) (ht s H ex) (λ_=>Lh (X:=aB X scope vars s H ex) rfl (h5 s H ex) J (h3 _) hm (λ_=>rfl) (λ_=>rfl) (λ_=>rfl) (λ_=>#[_,rfl])) (λ_=>rfl) (λ_=>rfl) (λ_=>rfl) (λ_=>rfl)
end
section
variable{K:W.Frag}
def EV{x:Str}(e:x.cps.toList=l):x.length=l.length:=by rw[<-e];rfl
def PP{x y:Str}(e:x.cps.toList=l)(B:y.cps.toList=m):(x++y).cps.toList=l++m:=by show(x.cps++y.cps).toList=_;rw[toList_append,e,B]
def bK.int(h:bK K F H v (.int i)):v=.int i:=by
 rcases h with h|⟨_,_,_,_,h,_⟩|⟨_,_,_,_,_,h,_⟩|⟨_,_,_,_,_,h,_⟩
 .cases h;rfl
 .cases h
 .cases h
 .cases h
def bK.str(h:bK K F H v (.str l)):∃x,v=.str x/\x.cps.toList=l/\l.length<=16777216:=by
 rcases h with h|⟨_,_,_,_,h,_⟩|⟨_,_,_,_,_,h,_⟩|⟨_,_,_,_,_,h,_⟩
 .cases h with
  |str e z=>show#[_,rfl,e,z]
 .cases h
 .cases h
 .cases h
def bK.tup(h:bK K F H v (.tup l)):∃a xs,v=.ref a/\F a=some (.tup xs)/\zT K F xs l:=by
 rcases h with h|⟨_,_,_,_,h,_⟩|⟨_,_,_,_,_,h,_⟩|⟨_,_,_,_,_,h,_⟩
 .cases h with
  |tup e r=>show#[_,_,rfl,e,r]
 .cases h
 .cases h
 .cases h
def bK.lst(B:zG F H)(h:bK K F H v (.lst l)):∃a xs,v=.ref a/\bN K H a xs/\zT K F xs l:=by
 rcases h with h|⟨a,xs,M,L,h,J,r⟩|⟨_,_,_,_,_,h,_⟩|⟨_,_,_,_,_,h,_⟩
 .cases h with
  |lst e r=>show#[_,_,rfl,bN.mono B e,r]
 .cases h;show#[a,xs,L,bN.of J,r]
 .cases h
 .cases h
def zT.append(a:zT K F xs l)(r:zT K F ys m):zT K F (xs++ys) (l++m):=zT.ind (P:=λxs l=>zT K F (xs++ys) (l++m)) r (λa _ B=>.cons a B) a
def Rel.newLD(r:Rel K U Z F G H)(M:H p=none)(J:zT K F xs l):Rel K (U++[some (.lst (l.map .sh))]) (Z++[some (.ref p)]) F G (upd H p (.lst xs)):=by
 have B:∀{xs:List V}{l:List D},zT K F xs l->zJ K F (upd H p (.lst xs)) xs (l.map .sh) []:=by
  intro xs l h;generalize upd H p (.lst xs)=H';induction xs generalizing l with
  |nil=>cases h;show .nil
  |cons x xs L=>cases h with
   |cons a b=>have:=zJ.cons (aK.sh (H:=H') a) (L b);show this
 show r.newO M (.lst AX ?_);let:=B J;show this
def rZ(K:W.Frag):R2:=λx y H Q=>∃l b xs B,x=.ref l/\y=.ref b/\bN K H l xs/\bN K H b B/\xs.length+B.length<=sizeLine/\∀p,H p=none->Q (.ref p) (upd H p (.lst (xs++B)))
def Qp:OpR X (binaryOp .Add) (rZ X.K):=by
 intro zV s Z H x y v u Q I rx ry h;let#[l,b,xs,zs,rfl,rfl,hl,hb,hz,q]:=h;cases rx;cases ry;let#[J,r1,#[#[cls,dd,data,sl],n,ho,hc,h1,hd],_]:=I.list hl;let#[B,r2,#[#[h3,h4,data2,O],n2,L,h2,M,Y],_]:=I.list hb;subst hc h1 hd h2 M Y;show concat_meets #[_,ho,rfl] #[_,L,rfl] noFill_list_add seq_list_add PySem.F.slot_list_add PySem.F.entry_list_add (PySem.F.args_list_add_2 _ _) (list_addW l b J.toArray B.toArray n n2 none none sl O (by rw[qr,qr,<-r1.length,<-r2.length];show hz)) #[ho,L,?_];let ea:J.toArray++B.toArray=(J++B).toArray:=by simp
 rw[ea];show#[.ref _,_,I.lnew (t':=s.toks) (r1.append r2) (by rw[qq];show hz),rfl,q _ I.fresh]
def mS(K:W.Frag):R2:=λx y H Q=>∃a b xs ys,x=.ref a/\y=.ref b/\bM K H a xs/\bM K H b ys/\xs.length+ys.length<=sizeLine/\
 (xs=[]->Q (.ref b) H)/\(xs≠[]->ys=[]->Q (.ref a) H)/\(xs≠[]->ys≠[]->∀p,H p=none->Q (.ref p) (upd H p (.tup (xs++ys))))
def Rt:OpR X (binaryOp .Add) (mS X.K):=by
 intro zV s Z H x y v u Q I rx ry h;let#[a,b,xs,ys,rfl,rfl,ha,hb,hz,q0,q1,q2]:=h;by_cases L:xs=[]
 .cases rx;cases ry;let#[J,r1,p1,_]:=I.tuple ha;let#[B,r2,p2,_]:=I.tuple hb;let#[#[cls,dd,data,sl],ho,hc,n,hd]:=id p1;let#[#[h3,h2,data2,O],M,h1,n2,Y]:=id p2;subst hc hd h1 Y;let hi:J=[]:=r1.nil_iff.mpr L;exact concat_meets #[_,ho,rfl] #[_,M,rfl] noFill_tuple_add seq_tuple_add PySem.F.slot_tuple_add PySem.F.entry_tuple_add (PySem.F.args_tuple_add_2 _ _)
   (tuple_addW0 a b J.toArray B.toArray n n2 dd h2 sl O (by simp[hi])) #[ho,M,.ref b,H,I,rfl,q0 L]
 .show Pc zV s Z H _ _ v u Q I rx ry #[a,b,xs,ys,rfl,rfl,ha,hb,L,hz,q1 L,q2 L]
def pG:R2:=λx y H Q=>∃i j,x=.str i/\y=.str j/\i.length+j.length<=sizeLine/\Q (.str (i++j)) H
def kP(K:W.Frag):R2:=λx y H Q=>rY (λi j=>.int (i+j)) x y H Q\/(pG x y H Q\/(rZ K x y H Q\/mS K x y H Q))
def SR:OpR X (binaryOp .Add) (kP X.K):=OpR.or Ol (OpR.or Uc (OpR.or Qp Rt))
def Ha(h:n<=big):n<=sizeLine:=by rw[zo];show le_trans h ⋯
def RZ:iH K (kP K) aN:=by
 intro Z U F G H x y p q s Q B ex ey e M;unfold aN at e;split at e
 .cases e;let h1:=ex.int;let h2:=ey.int;subst h1 h2;show .inl #[_,_,rfl,rfl,M _ F H (zG.refl F) (B.push (.int _))]
 .rename_i a b;split at e
  .rename_i O;cases e;let#[x,rfl,e1,z1]:=ex.str;let#[y,rfl,e2,z2]:=ey.str;show .inr (.inl #[_,_,rfl,rfl,by rw[EV e1,EV e2];show Ha O,M _ F H (zG.refl F) (B.push (.str (PP e1 e2) (by rw[qq];show le_trans O ⋯)))])
  .cases e
 .rename_i a b;split at e
  .rename_i O;cases e;let#[l,xs,rfl,h1,L]:=ex.lst B.fr;let#[m,ys,rfl,h2,J]:=ey.lst B.fr;show .inr (.inr (.inl #[l,m,xs,ys,rfl,rfl,h1,h2,by rw[L.len,J.len];show Ha O,λp Y=>?_]));show M _ F _ (zG.refl F) (B.newLD Y (L.append J))
  .cases e
 .rename_i a b;split at e
  .rename_i O;cases e;let#[l,xs,rfl,h1,L]:=ex.tup;let#[m,ys,rfl,h2,J]:=ey.tup;refine .inr (.inr (.inr #[l,m,xs,ys,rfl,rfl,bM.of (B.fr _ _ h1),bM.of (B.fr _ _ h2),by rw[L.len,J.len];show Ha O,λhx=>?_,λ_ hy=>?_,λ_ _ p Y=>?_]))
   .subst hx;cases L;show M _ F H (zG.refl F) (B.push (.tup h2 J))
   .subst hy;cases J;rw[qz]at M;show M _ F H (zG.refl F) (B.push (.tup h1 L))
   .let n2:=(B.free Y).1;show M _ _ _ (zG.upd n2) ((B.newF Y).push (.tup AX ((L.append J).mono (zG.upd n2))))
  .cases e
 .cases e
def FY{g:Int->Int->Int}(L:∀p q s,o p q=some s->∃i j,p=.int i/\q=.int j/\C i j/\s=.sh (.int (g i j))):iH K (rI C λi j=>.int (g i j)) o:=by intro Z U F G H x y p q s Q B ex O e J;let#[i,j,rfl,rfl,M,rfl]:=L p q s e;let h1:=ex.int;let h2:=O.int;subst h1 h2;show#[i,j,rfl,rfl,M,J _ F H (zG.refl F) (B.push (.int _))]
def Rb:iH K (rI (λ_ _=>True) λi j=>.int (i-j)) fU:=FY λp q s e=>by
 unfold fU at e;split at e
 .cases e;show#[_,_,rfl,rfl,trivial,rfl]
 .cases e
def OU:OpR X (binaryOp .Sub) (rI (λ_ _=>True) λi j=>.int (i-j)):=Gf λ_ _ _ _ _ _ _ _ q=>sub_int q
def QL:iH K (rI nY λi j=>.int (i*j)) mV:=FY λp q s e=>by
 unfold mV at e;split at e
 .rename_i i j;split at e
  .rename_i h;cases e;show#[_,_,rfl,rfl,?_,rfl];simp[kQ,or_eq_true,and_eq_true,qT]at h;show h
  .cases e
 .cases e
def RC:iH K (rI (λ_ j=>0<j) λi j=>.int (i %j)) fH:=FY λp q s e=>by
 unfold fH at e;split at e
 .split at e
  .rename_i h;cases e;show#[_,_,rfl,rfl,h,rfl]
  .cases e
 .cases e
def QP:iH K (rI cz λi j=>.int (i^j.toNat)) mU:=FY λp q s e=>by
 unfold mU at e;split at e
 .split at e
  .rename_i h;cases e;show#[_,_,rfl,rfl,#[h.1,∅,h.2.2],rfl]
  .cases e
 .cases e
def sJ(i j:Int):Prop:=0<j/\j<18446744073709551616
def QZ:OpR X (binaryOp .FloorDiv) (rI sJ λi j=>.int (i/j)):=Gf λi j _ _ _ _ _ B q=>by
 let h1:(0:Int)<j:=B.1;let h2:j<18446744073709551616:=B.2;show floordiv_int ∅ ?_ (.inl (PyProof.noPylong_of_log2 ?_))
 .rw[Int.fdiv_eq_ediv_of_nonneg _ ∅];show q
 .let J:j.natAbs≠0:=by lia
  let:j.natAbs.log2<64:=(Nat.log2_lt J).mpr ∅;lia
def Tn:iH K (rI sJ λi j=>.int (i/j)) gF:=FY λp q s e=>by
 unfold gF at e;split at e
 .split at e
  .rename_i h;cases e;show#[_,_,rfl,rfl,h,rfl]
  .cases e
 .cases e
end
def Ax(M:FE X a J)(L:FE X b B):FE X (.BinOp a .Add b pos) (zM aN J B):=ES (λ_ _=>SR) RZ M L
def Fu(M:FE X a J)(L:FE X b B):FE X (.BinOp a .Sub b pos) (zM fU J B):=ES (λ_ _=>OU) Rb M L
def DY(M:FE X a J)(L:FE X b B):FE X (.BinOp a .Mod b pos) (zM fH J B):=ES (λ_ _=>Og) RC M L
def Kt(M:FE X a J)(L:FE X b B):FE X (.BinOp a .FloorDiv b pos) (zM gF J B):=ES (λ_ _=>QZ) Tn M L
def NV(M:FE X a J)(L:FE X b B):FE X (.BinOp a .Pow b pos) (zM mU J B):=ES (λ_ _=>Ow) QP M L
section
open PySem.SeqAt
def SO(h:aR (.tup l) (.tup m)=false):bD l m=false:=h
def Hh:∀{l m:List D}{j:Nat}{a b:D},bD l m=false->l[j]?=some a->m[j]?=some b->aR a b=false
 |[],_,_,_,_,_,h,_=>by simp at h
 |_::_,[],_,_,_,_,_,h=>by simp at h
 |x::l,y::m,0,a,b,h,h1,h2=>by simp at h1 h2;subst h1 h2;let h':(aR x y||bD l m)=false:=h;rw[Bool.or_eq_false_iff]at h';show h'.1
 |x::l,y::m,j+1,a,b,h,h1,h2=>by let h':(aR x y||bD l m)=false:=h;rw[Bool.or_eq_false_iff]at h';show Hh h'.2 h1 ↑h2
def GR:∀{l:List D}{j:Nat}{a:D},l[j]?=some a->eS a<=bI l
 |[],_,_,h=>by simp at h
 |x::l,0,a,h=>by simp at h;subst h;show eS x<=max (eS x) (bI l);lia
 |x::l,j+1,a,h=>by let:=GR (l:=l) (j:=j) (a:=a) h;show eS a<=max (eS x) (bI l);lia
open Classical in
def GK{l m:List D}(n:Nat)(hn:n=min l.length m.length):((List.range n).all (λj=>decide (l[j]?=m[j]?))&&(l.length==m.length))=decide (l=m):=by
 by_cases h:l=m
 .subst h;simp
 .rw[qS h];by_cases B:l.length=m.length
  .have:(List.range n).all (λj=>decide (l[j]?=m[j]?))=false:=by
    cases q:(List.range n).all (λj=>decide (l[j]?=m[j]?))with
    |false=>rfl
    |true=>
     exfalso;apply h;apply ext_getElem?;intro j;by_cases J:j<n
     .show qU (qI.mp q j ↑J)
     .rw[qQ ∅,qQ ∅]
   rw[this];rfl
  .let:(l.length==m.length)=false:=by simpa using B
   rw[this,Bool.and_false]
inductive Sc:V->D->Prop
 |non:Sc .non .non
 |bl (b:Bool):Sc (.bl b) (.bl b)
 |int (i:Int):Sc (.int i) (.int i)
 |str {x:Str} {l:List Nat}:x.cps.toList=l->Sc (.str x) (.str l)
def JH{K:W.Frag}(r:aS K H v d)(B:aR d e=false)(h1:∀l,d≠.tup l)(h2:∀l,d≠.lst l):Sc v d:=by
 cases r with
 |tup=>show absurd rfl (h1 _)
 |lst=>show absurd rfl (h2 _)
 |dK=>cases e<;>cases B
 |dT=>cases e<;>cases B
 |st=>cases e<;>cases B
 |exc=>cases e<;>cases B
 |non=>show .non
 |bl=>show .bl _
 |int=>show .int _
 |str e _=>show .str e
def Kc{K:W.Frag}(r:aS K H u e)(s:Sc v d)(B:aR d e=false):Sc u e:=by
 cases r with
 |non=>show .non
 |bl=>show .bl _
 |int=>show .int _
 |str e _=>show .str e
 |_=>cases s<;>cases B
open Classical in
def Lg{K:W.Frag}(r1:aS K H v d)(r2:aS K H u e)(L:zK v Y)(B:zK u uu)(M:aR d e=false)(h1:∀l,d≠.tup l)(h2:∀l,d≠.lst l):
  EqAt A s Y uu (decide (d=e))/\RcAt A s Y uu (decide (d=e)):=by
 let s1:=JH r1 M h1 h2;let J:=Kc r2 s1 M
 clear r1 r2 h1 h2
 cases s1 with
 |non=>
  cases L;cases J with
  |non=>cases B;simp;show#[EqAt.same _,RcAt.none_none]
  |bl b=>cases B;simp;show#[EqAt.none_bool _,RcAt.none_bool _]
  |int i=>let#[t,rfl]:=B;simp;show#[EqAt.none_int _ _,RcAt.none_int _ _]
  |str e=>let#[t,rfl]:=B;simp;show#[EqAt.none_str _ _,RcAt.none_str _ _]
 |bl a=>
  cases L;cases J with
  |non=>cases B;simp;show#[EqAt.bool_none _,RcAt.bool_none _]
  |bl b=>
   cases B;let e:(decide (D.bl a=D.bl b))=(a==b):=by cases a<;>cases b<;>simp
   rw[e];show#[EqAt.bool_bool _ _,RcAt.bool_bool _ _]
  |str e=>let#[t,rfl]:=B;simp;show#[EqAt.bool_str _ _ _,RcAt.bool_str _ _ _]
  |int=>cases M
 |int i=>
  let#[t,rfl]:=L;cases J with
  |non=>cases B;simp;show#[EqAt.int_none _ _,RcAt.int_none _ _]
  |int j=>
   let#[O,rfl]:=B;let e:(decide (D.int i=D.int j))=(i==j):=by by_cases h:i=j<;>simp[h]
   rw[e];show#[EqAt.int_int _ _ _ _,RcAt.int_int _ _ _ _]
  |str e=>let#[O,rfl]:=B;simp;show#[EqAt.int_str _ _ _ _,RcAt.int_str _ _ _ _]
  |bl=>cases M
 |str e1=>
  let#[t,rfl]:=L;cases J with
  |non=>cases B;simp;show#[EqAt.str_none _ _,RcAt.str_none _ _]
  |bl b=>cases B;simp;show#[EqAt.str_bool _ _ _,RcAt.str_bool _ _ _]
  |int j=>let#[O,rfl]:=B;simp;show#[EqAt.str_int _ _ _ _,RcAt.str_int _ _ _ _]
  |str e2=>
   obtain⟨O,rfl⟩:=B;rename_i x l y m;let e:(decide (D.str l=D.str m))=(x==y):=by
    by_cases h:x=y
    .subst h;rw[<-e1,<-e2];simp
    .let hb:(x==y)=false:=by simpa using h
     rw[hb];show qS λq=>h ?_;let#[#[a]]:=x;let#[#[b]]:=y;let a1:a=l:=e1;let b1:b=m:=e2;rw[a1,b1,D.str.inj q]
   rw[e];show#[EqAt.str_str _ _ _ _,RcAt.str_str _ _ _ _]
def EG(r:zS xs us)(h:j<us.toArray.size):∃x,xs[j]?=some x/\zK x us.toArray[j]:=by
 let M:=r.length;let O:j<us.length:=h;let L:j<xs.length:=∅
 let#[u,J,B]:=r.get (i:=j) (x:=xs[j]) (by simp);show#[xs[j],by simp,?_];let:us.toArray[j]=u:=by let:=qg.mp J;simpa using this.2
 rw[this];show B
mutual
def aS.uniq(I:Inv X zV Z H s)(r:aS X.K H v d)(q:aS X.K H v e)(B:aR d e=false):d=e:=by
 cases r with
 |non=>cases q;rfl
 |bl _=>cases q;rfl
 |int _=>cases q;rfl
 |str L _=>cases q with|str J _=>rw[<-L,<-J]
 |tup L O=>cases q with
  |tup J M=>cases I.tuple_inj (bM.of L) (bM.of J);rw[zT.uniq I O M B]
  |_=>cases B
 |lst L O=>cases q with
  |lst J M=>cases I.list_inj L J;rw[zT.uniq I O M B]
  |_=>cases B
 |dK=>cases e<;>cases B
 |dT=>cases e<;>cases B
 |st=>cases e<;>cases B
 |exc=>cases e<;>cases B
def zT.uniq(I:Inv X zV Z H s)(r:zT X.K H v d)(q:zT X.K H v e)(B:bD d e=false):d=e:=by
 cases r with
 |nil=>cases q;rfl
 |@cons _ a _ l O L=>cases q with
  |@cons _ b _ m M J=>have h':(aR a b||bD l m)=false:=B;rw[Bool.or_eq_false_iff]at h';rw[aS.uniq I O M h'.1,zT.uniq I L J h'.2]
end
open Classical in
def Hy:∀(n:Nat){A:Around}{v u:V}{vv uu:Value}{d e:D},eS d<=n->Inv X zV Z H s->aS X.K H v d->aS X.K H u e->zK v vv->zK u uu->aR d e=false->A.units+n<cLine->
  EqAt A s vv uu (decide (d=e))/\RcAt A s vv uu (decide (d=e)):=by
 intro n;induction n with
 |zero=>intro A v u vv uu d e hd I r1 r2 rv ru hc hu;show Lg r1 r2 rv ru hc (λl z=>by subst z;show absurd hd (by show¬bI l+1<=0;lia)) (λl z=>by subst z;show absurd hd (by show¬bI l+1<=0;lia))
 |succ n ih=>
  intro A v u vv uu d e hd I r1 r2 rv ru hc hu;let hp:A.in1.units+n<cLine:=by show A.units+1+n<cLine;lia
  cases r1 with
  |tup e1 q1=>
   cases r2 with
   |tup e2 q2=>
    rename_i a xs l b ys m;cases rv;cases ru;let#[L,w1,p1,_]:=I.tuple (bM.of e1);let#[B,w2,p2,_]:=I.tuple (bM.of e2);let e4:bI l<=n:=by let:bI l+1<=n+1:=hd;lia
    let h6:L.toArray.size=l.length:=by rw[qr,<-w1.length,q1.len]
    let hk:B.toArray.size=m.length:=by rw[qr,<-w2.length,q2.len]
    have items:∀j(h1:j<L.toArray.size)(h2:j<B.toArray.size),EqAt A.in1 s L.toArray[j] B.toArray[j] (decide (l[j]?=m[j]?)):=λj h1 h2=>by
     let#[x,hx,rx]:=EG w1 h1;let#[y,hy,ry]:=EG w2 h2;let J:j<l.length:=∅
     let M:j<m.length:=∅
     let#[x',Y,h8]:=q1.get (i:=j) (d:=l[j]) (by simp[J]);let#[y',O,h7]:=q2.get (i:=j) (d:=m[j]) (by simp[M]);rw[hx]at Y;cases Y;rw[hy]at O;cases O;let:=(ih (A:=A.in1) (le_trans (GR (l:=l) (j:=j) (by simp[J])) e4) I h8 h7 rx ry (Hh (j:=j) (a:=l[j]) (b:=m[j]) (SO hc) (by simp[J]) (by simp[M])) hp).1;let e:decide (l[j]?=m[j]?)=decide (l[j]=m[j]):=by simp[J,M]
     rw[e];show this
    have h3:RcAt A s (.ref a) (.ref b) (decide (D.tup l=D.tup m)):=by
     let:=RcAt.tuples (s:=s) (show s.heap.IsTuple a L.toArray from p1) (show s.heap.IsTuple b B.toArray from p2) ∅ items;rw[h6,hk,GK (l:=l) (m:=m) _ rfl]at this;let e:decide (D.tup l=D.tup m)=decide (l=m):=by by_cases h:l=m<;>simp[h]
     rw[e];show this
    show#[?_,h3];by_cases h5:a=b
    .subst h5;let h9:l=m:=by let z:=aS.uniq I (.tup e1 q1) (.tup e2 q2) hc;cases z;rfl
     subst h9;simp;show EqAt.same _
    .show EqAt.of_refs h5 h3
   |_=>cases hc
  |lst e1 q1=>
   cases r2 with
   |lst e2 q2=>
    rename_i a xs l b ys m;cases rv;cases ru;let#[L,w1,p1,_]:=I.list e1;let#[B,w2,p2,_]:=I.list e2;let e4:bI l<=n:=by let:bI l+1<=n+1:=hd;lia
    let h6:L.toArray.size=l.length:=by rw[qr,<-w1.length,q1.len]
    let hk:B.toArray.size=m.length:=by rw[qr,<-w2.length,q2.len]
    have items:∀j(h1:j<L.toArray.size)(h2:j<B.toArray.size),EqAt A.in1 s L.toArray[j] B.toArray[j] (decide (l[j]?=m[j]?)):=λj h1 h2=>by
     let#[x,hx,rx]:=EG w1 h1;let#[y,hy,ry]:=EG w2 h2;let J:j<l.length:=∅
     let M:j<m.length:=∅
     let#[x',Y,h8]:=q1.get (i:=j) (d:=l[j]) (by simp[J]);let#[y',O,h7]:=q2.get (i:=j) (d:=m[j]) (by simp[M]);rw[hx]at Y;cases Y;rw[hy]at O;cases O;let hi:bD l m=false:=hc;let:=(ih (A:=A.in1) (le_trans (GR (l:=l) (j:=j) (by simp[J])) e4) I h8 h7 rx ry (Hh (j:=j) (a:=l[j]) (b:=m[j]) hi (by simp[J]) (by simp[M])) hp).1;let e:decide (l[j]?=m[j]?)=decide (l[j]=m[j]):=by simp[J,M]
     rw[e];show this
    have h3:RcAt A s (.ref a) (.ref b) (decide (D.lst l=D.lst m)):=by
     let e:decide (D.lst l=D.lst m)=decide (l=m):=by by_cases h:l=m<;>simp[h]
     rw[e];by_cases h4:l.length=m.length
     .let:=RcAt.lists (s:=s) p1.isList p2.isList ∅ ∅ items;rw[h6]at this;let e2:=GK (l:=l) (m:=m) l.length ∅;let e3:(l.length==m.length)=true:=by simpa using h4
      rw[e3,Bool.and_true]at e2;rw[<-e2];show this
     .let:=RcAt.lists_lengths (A:=A) (s:=s) p1.isList p2.isList (by simp only[h6,hk];simpa using h4) ∅;let e2:decide (l=m)=false:=qS λz=>h4 (by rw[z]);rw[e2];show this
    show#[?_,h3];by_cases h5:a=b
    .subst h5;let h9:l=m:=by let z:=aS.uniq I (.lst e1 q1) (.lst e2 q2) hc;cases z;rfl
     subst h9;simp;show EqAt.same _
    .show EqAt.of_refs h5 h3
   |_=>cases hc
  |_=>show Lg (by first|show .non|show .bl _|show .int _|(rename_i e z;show .str e z)|(rename_i e k r;show .dK e k r)|(rename_i e k r;show .dT e k r)|(rename_i e r;show .st e r)|(rename_i e k z;show .exc e k z)) r2 rv ru hc (λl z=>by cases z) (λl z=>by cases z)
end
section
variable{K:W.Frag}
open PySem.SeqAt
open Classical in
def yX(K:W.Frag):R2:=λx y H Q=>∃p q,aS K H x p/\aS K H y q/\aR p q=false/\eS p<=30/\Q (.bl (decide (p=q))) H
def CG(hu:X.A.units+31<cLine):OpR X (compareOp .Eq) (yX X.K):=by intro zV s Z H x y v u Q I J B h;let#[p,q,M,L,hc,Y,O]:=h;show(Hy 30 Y I M L J B hc ∅).2 X.prog X.w X.xe _ #[.bl _,H,I,rfl,O]
def Kb(h:eI p q=some k):aR p q=false/\eS p<=30:=by grind[eI]
open Classical in
def KY(h:eI p q=some k):k=decide (p=q):=by
 unfold eI at h;split at h
 .cases h
 .show(qf h).symm
def CH:dM K (yX K) eI:=by intro H x y p q k Q J B e L;let#[h1,h2]:=Kb e;let:=KY e;subst this;show#[p,q,J,B,h1,h2,L]
open Classical in
def yQ(K:W.Frag):R2:=λx y H Q=>∃p q,aS K H x p/\aS K H y q/\aR p q=false/\eS p<=30/\Q (.bl (!decide (p=q))) H
def LA(I:Inv X zV Z H s)(q1:zT X.K H xs l)(q2:zT X.K H ys m)(w1:zS xs us)(w2:zS ys O)(hc:bD l m=false)(hd:bI l<=30)(hu:A.units+30<cLine):
  ∀j(h1:j<us.toArray.size)(h2:j<O.toArray.size),EqAt A s us.toArray[j] O.toArray[j] (open Classical in decide (l[j]?=m[j]?)):=λj h1 h2=>by
 let#[x,hx,rx]:=EG w1 h1;let#[y,hy,ry]:=EG w2 h2;let h5:us.toArray.size=l.length:=by rw[qr,<-w1.length,q1.len]
 let h4:O.toArray.size=m.length:=by rw[qr,<-w2.length,q2.len]
 let M:j<l.length:=∅
 let L:j<m.length:=∅
 let#[x',J,h3]:=q1.get (i:=j) (d:=l[j]) (by simp);let#[y',B,Y]:=q2.get (i:=j) (d:=m[j]) (by simp);rw[hx]at J;cases J;rw[hy]at B;cases B;let:=(Hy 30 (A:=A) (le_trans (GR (l:=l) (j:=j) (by simp)) hd) I h3 Y rx ry (Hh (j:=j) (a:=l[j]) (b:=m[j]) hc (by simp[M]) (by simp[L])) hu).1;let e:(open Classical in decide (l[j]?=m[j]?))=(open Classical in decide (l[j]=m[j])):=by simp[M,L]
 rw[e];show this
def Gy(p:D):(∃l,p=.tup l)\/(∃l,p=.lst l)\/((∀l,p≠.tup l)/\∀l,p≠.lst l):=by
 cases p with
 |tup l=>show .inl #[l,rfl]
 |lst l=>show .inr (.inl #[l,rfl])
 |_=>show .inr (.inr #[λl z=>D.noConfusion z,λl z=>D.noConfusion z])
def OW(h:aR (.tup l) q=false):∃m,q=.tup m:=by
 cases q with
 |tup m=>show#[m,rfl]
 |_=>cases h
def Qd(h:aR (.lst l) q=false):∃m,q=.lst m:=by
 cases q with
 |lst m=>show#[m,rfl]
 |_=>cases h
def OT(O:aS K H x p)(M:aS K H y q)(B:aR p q=false)(h1:∀l,p≠.tup l)(h2:∀l,p≠.lst l):yK x y=true/\(p=q↔x=y):=by
 let L:=JH O B h1 h2;let J:=Kc M L B;cases L with
 |str e1=>
  cases J with
  |str Y=>
   rename_i x l y m;show#[rfl,λz=>?_,λz=>?_]
   .obtain⟨⟨a⟩⟩:=x;let#[#[b]]:=y;grind
   .cases z;rw[<-e1,<-Y]
  |_=>show#[rfl,λz=>D.noConfusion z,λz=>V.noConfusion z]
 |_=>cases J<;>first|show⟨rfl,λz=>D.noConfusion z,λz=>V.noConfusion z⟩|show⟨rfl,λz=>by cases z;rfl,λz=>by cases z;rfl⟩|cases B
def BZ(hu:X.A.units+32<cLine):OpR X (compareOp .NotEq) (yQ X.K):=by
 classical
 intro zV s Z H x y v u Q I rx ry h;let#[p,q,r1,r2,hc,hd,hq]:=h;let B:EP X zV Z Q (.bool (!decide (p=q))) s:=#[.bl _,H,I,rfl,hq]
 let h5:X.A.in1.units+30<cLine:=by show X.A.units+1+30<cLine;lia
 rcases Gy p with⟨l,rfl⟩|⟨l,rfl⟩|⟨n1,n2⟩
 .obtain⟨m,rfl⟩:=OW hc;cases r1 with
  |tup e1 q1=>
  cases r2 with
  |tup Y q2=>
   rename_i a xs b ys;cases rx;cases ry;let#[M,w1,p1,_]:=I.tuple (bM.of e1);let#[J,w2,p2,_]:=I.tuple (bM.of Y);let h3:bI l<=30:=by let:bI l+1<=30:=hd;lia
   let O:M.toArray.size=l.length:=by rw[qr,<-w1.length,q1.len]
   let h4:J.toArray.size=m.length:=by rw[qr,<-w2.length,q2.len]
   let:=RcNeAt.tuples (A:=X.A) (s:=s) (show s.heap.IsTuple a M.toArray from p1) (show s.heap.IsTuple b J.toArray from p2) ∅ (LA I q1 q2 w1 w2 hc h3 h5);rw[O,h4,GK (l:=l) (m:=m) _ rfl]at this;let e:decide (D.tup l=D.tup m)=decide (l=m):=by by_cases h:l=m<;>simp
   rw[e]at B;show this X.prog X.w X.xe _ B
 .obtain⟨m,rfl⟩:=Qd hc;cases r1 with
  |lst e1 q1=>
  cases r2 with
  |lst Y q2=>
   cases rx;cases ry;let#[M,w1,p1,_]:=I.list e1;let#[J,w2,p2,_]:=I.list Y;let h3:bI l<=30:=by let:bI l+1<=30:=hd;lia
   let O:M.toArray.size=l.length:=by rw[qr,<-w1.length,q1.len]
   let h4:J.toArray.size=m.length:=by rw[qr,<-w2.length,q2.len]
   let e:decide (D.lst l=D.lst m)=decide (l=m):=by by_cases h:l=m<;>simp
   rw[e]at B;by_cases L:l.length=m.length
   .let:=RcNeAt.lists (A:=X.A) (s:=s) p1.isList p2.isList ∅ ∅ (LA I q1 q2 w1 w2 hc h3 h5);rw[O]at this;let Y:=GK (l:=l) (m:=m) l.length ∅;let e3:(l.length==m.length)=true:=by simpa using L
    rw[e3,Bool.and_true]at Y;rw[<-Y]at B;show this X.prog X.w X.xe _ B
   .let:=RcNeAt.lists_lengths (A:=X.A) (s:=s) p1.isList p2.isList (by simp[O,h4];simpa using L) ∅;let Y:decide (l=m)=false:=qS λz=>L (by rw[z]);rw[Y]at B;show this X.prog X.w X.xe _ B
 .obtain⟨h1,h2⟩:=OT r1 r2 hc n1 n2;rw[decide_eq_decide.mpr h2]at hq;show NB zV s Z H x y v u Q I rx ry #[h1,hq]
def Cc:dM K (yQ K) cY:=by
 intro H x y p q k Q L J e M;unfold cY at e;cases B:eI p q with
 |none=>rw[B]at e;cases e
 |some b=>rw[B]at e;let O:(!b)=k:=qf e;let#[h1,h2]:=Kb B;let:=KY B;subst this;subst O;show#[p,q,L,J,h1,h2,M]
def hW(f:Int->Int->Bool)(g:List Nat->List Nat->Bool):R2:=λx y H Q=>(∃i j,x=.int i/\y=.int j/\Q (.bl (f i j)) H)\/∃i j,x=.str i/\y=.str j/\Q (.bl (g i.cps.toList j.cps.toList)) H
def GT{g:List Nat->List Nat->Bool}(rule:∀(i j:Str)(t u:Tok)(s:Shared)(Q:zv)(E:zv),Q (.bool (g i.cps.toList j.cps.toList)) s->wpAny (model X.prog X.w) X.A (compareOp M (.str i t) (.str j u)) Q E s):
  OpR X (compareOp M) (λx y H Q=>∃i j,x=.str i/\y=.str j/\Q (.bl (g i.cps.toList j.cps.toList)) H):=by
 intro zV s Z H x y v u Q I L J h;let#[i,j,rfl,rfl,q]:=h;let#[t,rfl]:=L;let#[B,rfl]:=J;show rule i j t B s _ _ #[.bl _,H,I,rfl,q]
def GJ:OpR X (compareOp .Lt) (hW (λi j=>decide (i<j)) λl m=>decide (l<m)):=FL.OpR.or NO (GT (g:=λl m=>decide (l<m)) λ_ _ _ _ _ _ _ q=>PyProof.Rows.lt_str q)
def PF:OpR X (compareOp .LtE) (hW (λi j=>decide (i<=j)) λl m=>!decide (m<l)):=FL.OpR.or Nw (GT (g:=λl m=>!decide (m<l)) λ_ _ _ _ _ _ _ q=>PySem.P.le_str q)
def Ex:OpR X (compareOp .Gt) (hW (λi j=>decide (j<i)) λl m=>decide (m<l)):=FL.OpR.or Nq (GT (g:=λl m=>decide (m<l)) λ_ _ _ _ _ _ _ q=>PySem.P.gt_str q)
def Ka:OpR X (compareOp .GtE) (hW (λi j=>decide (j<=i)) λl m=>!decide (l<m)):=FL.OpR.or Nt (GT (g:=λl m=>!decide (l<m)) λ_ _ _ _ _ _ _ q=>PySem.P.ge_str q)
def Hb(h:∀p q k,o p q=some k->(∃i j,p=.int i/\q=.int j/\k=f i j)\/∃l m,p=.str l/\q=.str m/\k=g l m):dM K (hW f g) o:=by
 intro H x y p q k Q J B e L;rcases h p q k e with⟨i,j,rfl,rfl,rfl⟩|⟨l,m,rfl,rfl,rfl⟩
 .cases J;cases B;show .inl #[i,j,rfl,rfl,L]
 .cases J with
  |str O z1=>cases B with
   |str M Y=>subst O M;show .inr #[_,_,rfl,rfl,L]
def GX:dM K (hW (λi j=>decide (i<j)) λl m=>decide (l<m)) rO:=Hb λp q k e=>by
 unfold rO dn at e;split at e
 .show .inl #[_,_,rfl,rfl,(qf e).symm]
 .show .inr #[_,_,rfl,rfl,(qf e).symm]
 .cases e
def EA:dM K (hW (λi j=>decide (j<i)) λl m=>decide (m<l)) lB:=Hb λp q k e=>by
 unfold lB dn at e;split at e
 .show .inl #[_,_,rfl,rfl,(qf e).symm]
 .show .inr #[_,_,rfl,rfl,(qf e).symm]
 .cases e
def QB:dM K (hW (λi j=>decide (i<=j)) λl m=>!decide (m<l)) du:=Hb λp q k e=>by
 unfold du at e;split at e
 .show .inl #[_,_,rfl,rfl,(qf e).symm]
 .show .inr #[_,_,rfl,rfl,(qf e).symm]
 .cases e
def KI:dM K (hW (λi j=>decide (j<=i)) λl m=>!decide (l<m)) xU:=Hb λp q k e=>by
 unfold xU at e;split at e
 .show .inl #[_,_,rfl,rfl,(qf e).symm]
 .show .inr #[_,_,rfl,rfl,(qf e).symm]
 .cases e
end
section
open PySem.SeqAt
open Classical in
def yV(K:W.Frag)(neg:Bool):R2:=λx y H Q=>∃p l,aS K H x p/\(aS K H y (.lst l)\/aS K H y (.tup l))/\(∀d∈l,aR d p=false/\eS d<=30)/\Q (.bl (if neg then !decide (p∈l)else decide (p∈l))) H
def LQ(I:Inv X zV Z H s)(rx:zK x v)(r1:aS X.K H x p)(q1:zT X.K H xs l)(w1:zS xs us)(hc:∀d∈l,aR d p=false/\eS d<=30)(hu:A.units+30<cLine):
  ∃e:Value->Bool,(∀y,y∈us.toArray->EqAt A s y v (e y))/\us.toArray.any e=(open Classical in decide (p∈l)):=by
 classical
 have item:∀{y:Value},y∈us->∃z d,zK z y/\aS X.K H z d/\d∈l:=λ{y} hy=>by
  let#[j,hj,e]:=getElem_of_mem hy;let#[z,hz,L]:=EG (j:=j) w1 hj;let hl:j<l.length:=by rw[<-q1.len,w1.length];show hj
  let#[z',Y,B]:=q1.get (i:=j) (d:=l[j]) (by simp);rw[hz]at Y;cases Y;show#[z,l[j],?_,B,by simp];let:us.toArray[j]=y:=e;rw[<-this];show L
 show#[λy=>decide (∃z,zK z y/\aS X.K H z p),λy hy=>?_,?_]
 .have h1:y∈us:=by simpa using hy
  obtain⟨z,d,L,B,hd⟩:=item h1;let O:=hc d hd;let:=(Hy 30 (A:=A) O.2 I B r1 L rx O.1 hu).1;let e:decide (d=p)=decide (∃z,zK z y/\aS X.K H z p):=by
   by_cases h:d=p
   .subst h;rw[qR rfl,qR #[z,L,B]]
   .rw[qS h];show(qS ?_).symm;rintro⟨z',J,M⟩;let:z=z':=L.inj J;subst this;show h (aS.uniq I B M O.1)
  show EqAt A s y v (decide (∃z,zK z y/\aS X.K H z p));rw[<-e];show this
 .by_cases h:p∈l
  .rw[qR h];let#[j,hj,e]:=getElem_of_mem h;let#[z,hz,B]:=q1.get (i:=j) (d:=l[j]) (by simp);let#[u,h2,ru]:=w1.get hz;rw[Array.any_eq_true'];show#[u,by simpa using qM h2,qR #[z,ru,e▸B]]
  .rw[qS h];rw[Array.any_eq_false'];intro y hy z;let#[z',J,M]:=qU z;let#[z2,d,L,B,hd]:=item (y:=y) ↑hy;let:z2=z':=L.inj J;subst this;show h (aS.uniq I B M (hc d hd).1▸hd)
def SZ(hu:X.A.units+32<cLine):OpR X (compareOp .NotIn) (yV X.K true):=by
 intro zV s Z H x y v u Q I rx ry h;let#[p,l,r1,B,hc,hq]:=h;let L:X.A.in1.units+30<cLine:=by show X.A.units+1+30<cLine;lia
 rcases B with B|B
 .cases B with
  |lst e q=>cases ry;let#[J,M,O,_]:=I.list e;let#[f,Y,ha]:=LQ (A:=X.A.in1) I rx r1 q M hc L;show notIn_listAt f O.isList Y #[.bl _,H,I,rfl,by rw[ha];show hq]
 .cases B with
  |tup e q=>cases ry;let#[J,M,O,_]:=I.tuple (bM.of e);let#[f,Y,ha]:=LQ (A:=X.A.in1) I rx r1 q M hc L;show notIn_tupleAt f (show s.heap.IsTuple _ J.toArray from O) Y #[.bl _,H,I,rfl,by rw[ha];show hq]
end
section
variable{K:W.Frag}
def Hz(J:xs.length=l.length)(h:atI l i=some d):∃j,ixN l.length i=some j/\l[j]?=some d/\∀x,xs[j]?=some x->L2.atI xs i=some x:=by
 unfold atI at h;cases q:ixN l.length i with
 |none=>rw[q]at h;cases h
 |some j=>
  rw[q]at h;show#[j,rfl,h,λx B=>?_];let e:L2.ixN xs.length i=some j:=by rw[J];show q
  unfold L2.atI;rw[e];show B
def zT.atI(r:zT K F xs l)(h:FL.atI l i=some d):∃x,L2.atI xs i=some x/\aS K F x d:=by let#[j,_,h1,h2]:=Hz (xs:=xs) r.len h;let#[x,J,B]:=r.get h1;show#[x,h2 x J,B]
def zJ.get{j:Nat}(r:zJ K F H xs l fp)(h:l[j]?=some t):∃x L B J,xs[j]?=some x/\aK K F H x t B/\fp=L++(B++J):=
 zJ.ind (P:=λxs l fp=>∀j t,l[j]?=some t->∃x L B J,xs[j]?=some x/\aK K F H x t B/\fp=L++(B++J)) (λ_ _ e=>by cases e) (λa _ M j t e=>by
  cases j with
  |zero=>cases e;show#[_,[],_,_,rfl,a,rfl]
  |succ j=>let#[x,L,B,J,h1,h2,rfl]:=M j t e;show#[x,_++L,B,J,h1,h2,(qp ..).symm]) r j t h
def Rel.item{j:Nat}(r:Rel K (U++[some (.lst l)]) (Z++[some (.ref a)]) F G H)(h:l[j]?=some t):∃xs x,H a=some (.lst xs)/\xs.length=l.length/\xs[j]?=some x/\Rel K (U++[some t]) (Z++[some x]) F G H:=by
 let#[fp,e,nd,ap]:=r.en;let#[J,f2,rfl,en,b]:=e.cut (Ah r);cases b with
 |so O Y=>
  cases Y;cases O with
  |lst hD rl=>
   rename_i xs fl;let#[x,M,B,L,h1,h2,rfl]:=rl.get h;show#[xs,x,hD,rl.len,h1,r.fr,r.gr,J++(B++[]),en.app (.so h2 .nil),?_,λy hy=>ap y ?_]
   .let sub:List.Sublist (J++(B++[])) (J++(a::(M++(B++L))++[])):=by show List.Sublist.append (List.Sublist.refl _) ?_;simp;exact(List.Sublist.cons _ ((List.sublist_append_left B L).trans (List.sublist_append_right M _)))
    show sub.nodup nd
   .rcases qx.mp hy with z|z
    .show qj _ z
    .show qi _ ?_;simp only[qz]at z⊢;show qk _ (qi _ (qj _ z))
end
def PJ{K:W.Frag}(e:bM K H c xs)(r:zT K F xs l)(h:atI l i=some d)(L:∀x,aS K F x d->Q x H):dm K (.ref c) (.int i) H Q:=by let#[x,J,B]:=r.atI h;show .inr (.inl #[c,xs,i,x,rfl,rfl,e,J,L x B])
def Qq{K:W.Frag}(e:bN K H c xs)(r:zT K F xs l)(h:atI l i=some d)(L:∀x,aS K F x d->Q x H):dm K (.ref c) (.int i) H Q:=by let#[x,J,B]:=r.atI h;show .inl #[c,xs,i,x,rfl,rfl,e,J,L x B]
def Qm(h:iR s q=some t):(∃l i d,s=.sh (.tup l)/\q=.int i/\atI l i=some d/\t=.sh d)\/(∃l i d,s=.sh (.lst l)/\q=.int i/\atI l i=some d/\t=.sh d)\/
  (∃l i c,s=.sh (.str l)/\q=.int i/\atI l i=some c/\t=.sh (.str [c]))\/∃l i,s=.lst l/\q=.int i/\atI l i=some t:=by
 show cps λ_ kk=>?_;rcases s with d|l|_|_
 .rcases d with _|_|_|l|l|l|_|_|_;case str|tup|lst=>
   rcases q with _|_|i|_|_|_|_|_|_;case int=>let#[d,e,e']:=qY.mp h;first|show kk (.inl ⟨_,_,d,rfl,rfl,e,e'.symm⟩)|show kk (.inr (.inl ⟨_,_,d,rfl,rfl,e,e'.symm⟩))|show kk (.inr (.inr (.inl ⟨_,_,d,rfl,rfl,e,e'.symm⟩)))
   all_goals cases h
  all_goals cases h
 .rcases q with _|_|i|_|_|_|_|_|_;case int=>exact kk (.inr (.inr (.inr #[_,_,rfl,rfl,h])))
  all_goals cases h
 all_goals cases h
def Ig{K:W.Frag}(h:aK K F H v (.sh d) fp):aS K F v d:=by cases h;assumption
def Lr{K:W.Frag}(h:aK K F H v (.lst l) fp):∃a xs fq,v=.ref a/\H a=some (.lst xs)/\zJ K F H xs l fq:=by
 cases h with
 |lst h1 h2=>show#[_,_,_,rfl,h1,h2]
def JV{K:W.Frag}(fr:zG F H)(r:aS K F v d)(M:aS K F2 u q)(et:iR (.sh d) q=some t)(J:∀e x,t=.sh e->aS K F x e->Q x H):dm K v u H Q:=by
 rcases Qm et with⟨l,i,e,B,rfl,Y,rfl⟩|⟨l,i,e,B,rfl,Y,rfl⟩|⟨l,i,c,B,rfl,ec,rfl⟩|⟨l,i,B,_⟩
 .injection B with B
  subst B;obtain rfl:=bK.int (H:=H) (.inl M);let#[a,xs,rfl,h1,O]:=bK.tup (H:=H) (.inl r);show PJ (bM.of (fr _ _ h1)) O Y λx L=>J _ x rfl L
 .injection B with B
  subst B;obtain rfl:=bK.int (H:=H) (.inl M);let#[a,xs,rfl,h1,O]:=bK.lst (H:=H) fr (.inl r);show Qq h1 O Y λx L=>J _ x rfl L
 .injection B with B
  subst B;obtain rfl:=bK.int (H:=H) (.inl M);let#[x,rfl,h1,z]:=bK.str (H:=H) (.inl r);show .inr (.inr #[_,i,c,rfl,rfl,by rw[EV h1];show z,by rw[h1];show ec,J _ _ rfl (.str rfl (by show 1<=_;decide))])
 .cases B
def Ku(h:iR (.lst l) q=some t):∃i,q=.int i/\atI l i=some t:=by
 cases q with
 |int i=>show#[i,rfl,h]
 |_=>cases h
def Au(ha:FE X a wa)(hb:FE X b wb)(hs:lD b:=by intro _ _;rfl):FE X (.Subscript a b pos) (bU wa wb):=λpn xe hp=>by
 refine PE.imp (NF (OK (X:=wp X pn xe)) (ha pn xe hp) (hb pn xe hp) hs) λZ H Q q=>?_;refine(Fo (k:=λx y U2 Q E=>zF (view y U2) λq=>match x with
  |.v s=>zF (iR s q) λt=>Q (.v t) U2
  |.loc i=>match slot U2 i with
   |some s=>match iR s q with
    |some (.sh d)=>Q (.v (.sh d)) U2
    |_=>False
   |none=>False) q).mono λv H1 h1=>h1.mono λu H2 h2=>?_
 let#[F,G,U,x,y,P,PX,h5,Y,rx,ry,J,h6,hx]:=h2;let#[q,eq,J]:=Ao J;let B:Rel X.K (U++[zH x]) (Z++[some v]) F G H2:=by let:=Rel.swap (U1:=[zH x]) (Z1:=[some v]) (U2:=[zH y]) (Z2:=[some u]) Y rfl h5;show Rel.mid (U:=U) (Z:=Z) this Y
 let h4:Rel X.K (U++[zH y]) (Z++[some u]) F G H2:=h5.mid Y;let ru:=look (U':=[]) (Z':=[]) h4 Y ry eq;let M:∀{d:D}{x:V},P (.v (.sh d)) U->aS X.K F x d->Q x H2:=λhP r=>h6 _ U _ F H2 hP (zG.refl F) ((B.drop Y).push r) trivial;cases x with
 |v s=>
  let#[t,L,hP]:=Ao J;let#[w,fp,e1,sr]:=B.at (i:=U.length) (s:=s) EF;rw[Y,getElem?_append_right (q9 _)]at e1;let e2:v=w:=↑e1
  subst e2;cases s with
  |sh d=>show JV B.fr (Ig sr) ru L λe x z rx=>M (by rw[<-z];show hP) rx
  |lst l=>let#[i,rfl,L]:=Ku L;obtain rfl:=bK.int (H:=H2) (.inl ru);let#[a,ys,fq,rfl,hD,rl]:=Lr sr;let#[j,_,hj,h3]:=Hz rl.len L;let#[xs,x,h7,h9,O,r2]:=Rel.item B hj;rw[hD]at h7;cases h7;show .inl #[_,_,i,x,rfl,rfl,bN.of hD,h3 x O,h6 _ U _ F H2 hP (zG.refl F) r2 trivial]
  |_=>cases q<;>cases L
 |loc k=>
  dsimp only at J;cases qs:slot U k with
  |none=>rw[qs]at J;show J.elim
  |some s=>
   rw[qs]at J;dsimp only at J;split at J
   .rename_i d L;let#[w,fp,e1,sr]:=(B.drop Y).at qs;let h8:Z[k]?=some (some v):=rx;rw[h8]at e1;let e2:v=w:=by simpa using e1
    subst e2;cases s with
    |sh d'=>show JV B.fr (Ig sr) ru L λe x z rx=>M (by injection z with z;rw[<-z];show J) rx
    |lst l=>let#[i,rfl,L]:=Ku L;obtain rfl:=bK.int (H:=H2) (.inl ru);let#[a,ys,fq,rfl,hD,rl]:=Lr sr;let#[j,_,hj,h3]:=Hz rl.len L;let#[x,fa,fi,fb,O,sx,_]:=rl.get hj;show .inl #[_,_,i,x,rfl,rfl,bN.of hD,h3 x O,M J (Ig sx)]
    |_=>cases q<;>cases L
   .show J.elim
section
variable{K:W.Frag}{Z:St}
def zJ.set:∀{xs:List V}{l:List S}{fp:List Addr}{m:Nat},zJ K F H xs l fp->m<l.length->∃L O J,fp=L++(O++J)/\
  ∀{H':Hp}{v:V}{s:S}{fq:List Addr},(∀a∈L++J,H' a=H a)->aK K F H' v s fq->zJ K F H' (xs.set m v) (l.set m s) (L++(fq++J))
 |_,_,_,_,.nil,h=>by simp at h
 |_,_,_,0,.cons (fp:=fp) (fq:=fq) a b,h=>#[[],fp,fq,rfl,λM r=>by rw[nil_append];show .cons r (b.mono (zG.refl F) λc B=>M c B)]
 |_,_,_,m+1,.cons (fp:=fp) (fq:=fq) a b,h=>by let#[L,O,J,rfl,Y]:=zJ.set (m:=m) b ↑h;show#[fp++L,O,J,(qp ..).symm,λM r=>?_];rw[qp];show .cons (a.mono (zG.refl F) λc B=>M c (qj _ (qj _ B))) (Y (λc B=>M c ((qx.mp B).elim (λz=>qj _ (qi _ z)) λz=>qi _ z)) r)
def Fb(h:Z[n]?=some (some v)):Z.set n (some v)=Z:=by
 apply ext_getElem?;intro j;by_cases B:n=j
 .subst B;rw[getElem?_set_self (qg.mp h).1,h]
 .rw[getElem?_set_ne B]
def Rel.setItem{D:Addr}(r:Rel K (U++[some s]) (Z++[some v]) F G H)(hs:slot U n=some (.lst l))(L:Z[n]?=some (some (.ref D)))(hm:m<l.length):
  ∃xs,H D=some (.lst xs)/\xs.length=l.length/\Rel K (U.set n (some (.lst (l.set m s)))) Z F G (upd H D (.lst (xs.set m v))):=by
 let hl:=Ah r;let#[fp,e,nd,ap]:=r.en;let#[f1,f2,rfl,a,b]:=e.cut hl;let#[v',fa,fi,fb,e1,rfl,q,up]:=a.at hs;rw[L]at e1;let e2:V.ref D=v':=↑e1
 subst e2;cases q with
 |lst hD rl=>
  rename_i xs fl;cases b with
  |so sr nl=>
   cases nl;rename_i fs;let#[O,gi,M,rfl,h1]:=rl.set hm;show#[xs,hD,rl.len,?_];let#[n1,n2,h3]:=qw.mp nd;let#[na,B,h2]:=qw.mp n1;let#[ni,nb,B]:=qw.mp B;let#[nD,h8]:=qL.mp ni;let h7:D∉fa:=λz=>h2 D z D (qj _ qm) rfl;let h6:D∉fb:=λz=>B D qm D z rfl;let h4:D∉fs:=λz=>h3 D (qi _ (qj _ qm)) D ↑z rfl;let Y:=ap D (qj _ (qi _ (qj _ qm)));let ne:∀{l:List Addr},D∉l->∀x∈l,upd H D (.lst (xs.set m v)) x=H x:=λh x J=>An λz=>h (z▸J);let h5:D∉O++M:=λz=>nD ((qx.mp z).elim (λw=>qj _ w) λw=>qi _ (qi _ w));let new:aK K F (upd H D (.lst (xs.set m v))) (.ref D) (.lst (l.set m s)) (D::(O++(fs++M))):=.lst AX (h1 (ne h5) (sr.mono (zG.refl F) (ne h4)));let a2:=up (F':=F) (H':=upd H D (.lst (xs.set m v))) (o:=some (.lst (l.set m s))) (u:=some (.ref D)) (zG.refl F) (λx J=>An λz=>(qx.mp J).elim (λw=>h7 (z▸w)) λw=>h6 (z▸w)) (.so new .nil);rw[Fb L]at a2;let sub:∃l2,l2.Perm (fa++((D::(O++(gi++M)))++fb)++(fs++[]))/\List.Sublist (fa++((D::(O++(fs++M)))++[]++fb)) l2:=by
    show#[fa++((D::(O++(fs++(gi++M))))++[]++fb),?_,?_]
    .simp;show List.Perm.append_left _ (List.Perm.cons _ (List.Perm.append_left _ ?_));show qN.trans (by simp)
    simp_all
   let#[l2,p,sb]:=sub;show#[zG.updR r.fr Y.1,λx o w=>?_,_,a2,sb.nodup (p.nodup_iff.mpr nd),λx J=>ap x (p.mem_iff.mp (sb.subset J))];let J:x≠D:=λz=>by rw[z,Y.2]at w;cases w
   rw[An J];show r.gr x o w
end
theorem Li(ho:FE X o (zw j))(hi:FE X i wi)(he:FE X e we)(hs:swapsWithSole [.Subscript o i tpos] e pos.line X.env=pure false:=by rfl)(hw:swappedStores [.Subscript o i tpos] e X.env=pure none:=by rfl)
  (h1:(assignEach [.Subscript o i tpos] X.env).map (·.2)=[assign (.Subscript o i tpos) X.env]:=by rfl)
  (ha:∀v,assign (.Subscript o i tpos) X.env v=(do
   let ov<-holding [v] (eval o X.env)
   let iv<-holding [v,ov] (eval i X.env)
   standAt tpos
   holding [v,ov,iv] (setItem ov iv v)
   release [v,ov,iv] []):=by intro _;rfl):FS X ks (.Assign [.Subscript o i tpos] e pos) (fO j wi we):=λpn xe hp=>by
 show PS.imp (JN (X:=wp X pn xe) (he pn xe hp) (Ot (X:=wp X pn xe) (ho pn xe hp) (hi pn xe hp) So ha) hs hw h1) λD Z H q=>?_;let#[F,G,U,E,zX,hw,n,b,c,r,x]:=q;let x0:XC (wp X pn xe) (·=Z) F G E.ex:=x.mono (λZ2 z=>by rw[z];show KP.refl) (zG.refl F) (zG.refl G);show#[F,G,U,_,_,zX,hw,λr U1 v F1 H1 hk s1 r1 rv=>?_,x0];let l1:=Ah r1;let#[G1,rel1,gg,back]:=r1.hide l1;show#[F1,G1,U1,_,_,rel1,hk,λy U2 o' F2 H2 hk2 s2 r2 rv2=>?_,x0.mono (λ_ z=>z) s1 gg];let l2:=Ah r2;let#[G2,rel2,gg2,back2]:=r2.hide l2;show#[F2,G2,U2,_,_,rel2,hk2,λz U3 i' F3 H3 hk3 s3 r3 rv3=>?_,x0.mono (λ_ z=>z) (s1.trans s2) (gg.trans gg2)];let l3:=Ah r3;let#[q,eq,hk3]:=Ao hk3;let#[#[t,U4],eg,hk4]:=Ao hk3
 --all three stand at the end
 let r4:=back (s2.trans s3) (back2 s3 r3);simp only[qp,qO,nil_append]at r4;let ri:=look (U':=[zH y,zH r]) (Z':=[some o',some v]) r4 l3 rv3 eq;let r5:Rel X.K (U3++[zH r]) (Z++[some v]) F3 G H3:=Rel.mid (U:=U3) (Z:=Z) (Rel.mid (U:=U3) (Z:=Z) r4 l3) l3;let#[F4,s4,l4,r6]:=AC (U':=[]) (Z':=[]) r5 l3 rv eg;cases y with
 |v y0=>show hk4.elim
 |loc k=>
  cases q with
  |int m=>
   cases qs:slot U4 j with
   |none=>simp only[qs]at hk4
   |some sj=>
    cases sj with
    |lst l=>
     simp only[qs]at hk4;let#[rfl,hk4]:=hk4;let#[w,ew,hnx]:=Ao hk4;let hZ:Z[k]?=some (some o'):=rv2;let#[v',fp,e1,sr]:=r6.at (i:=k) (s:=.lst l) (by rw[GZ (FD qs)];show qs);let hkl:k<Z.length:=(qg.mp hZ).1;rw[getElem?_append_left hkl,hZ]at e1;let e2:o'=v':=↑e1
     subst e2;let hw:w<l.length:=by
      unfold ixN at ew;split at ew
      .split at ew
       .let e:=qf ew;lia
       .cases ew
      .split at ew
       .let e:=qf ew;lia
       .cases ew
     cases sr with
     |lst hD rl=>rename_i a xs fl;let#[xs',hD',zY,r7]:=Rel.setItem r6 qs hZ hw;rw[hD]at hD';cases hD';cases ri;show#[a,xs,m,w,rfl,rfl,hD,by rw[zY];show ew,n _ Z F4 _ hnx KP.refl (s1.trans (s2.trans (s3.trans s4))) r7]
    |_=>simp[qs]at hk4
  |_=>show hk4.elim
def Da(ho:FE X o (zw j))(he:FE X e we)
  (h1:attributeBase o "append" X.env (eval o X.env)=eval o X.env:=by rfl)
  (h4:((backTo cpos (starEach [e] X.env)).all (λx=>!x.1)&&(backToKw cpos (keywordEach [] X.env)).all (λx=>x.1.isSome)
   &&decide ([e].length+([]:List Keyword).length+(if([]:List Keyword).isEmpty then 0 else 1)<30))=true:=by rfl)
  (Y:(apos.endLine==cpos.line)=true:=by rfl)(hs:starEach [e] X.env=[(false,eval e X.env)]:=by rfl):FE X (.Call (.Attribute o "append" apos) [e] [] cpos) (aQ j we):=λpn xe hp=>by
 refine PE.imp (ER (X:=wp X pn xe) PySem.F.plainAttrs_list PySem.F.slot_list_append PySem.F.type_list_append Jd (ho pn xe hp) (Aa he Ab hs pn xe hp) h1 h4 Y hs rfl) λZ H Q q=>?_;let#[F,G,U,P,PX,h5,hw,h6,hx]:=q;let L:(match slot U j with
  |some (.lst _)=>we U (λr M=>zF (give r M) λp=>(match slot p.2 j with
   |some (.lst l)=>l.length<big/\P (.v (.sh .non)) (p.2.set j (some (.lst (l++[p.1]))))
   |_=>False)) PX
  |_=>False):=hw
 cases qs:slot U j with
 |none=>rw[qs]at L;show L.elim
 |some s0=>
  cases s0 with
  |lst l0=>
   rw[qs]at L;show#[F,G,U,λy O=>y=.loc j/\O=U,PX,h5,by unfold zw;rw[qs];show#[rfl,rfl],λy O o' F1 H1 J s1 r1 rv=>?_,hx];let#[rfl,rfl]:=J;let l1:=Ah r1;let h2:Z[j]?=some (some o'):=rv;let r2:=r1.drop l1;let#[v',fp,e1,sr]:=r2.at qs;rw[h2]at e1;let e2:o'=v':=↑e1
   subst e2;cases sr with
   |lst hD rl=>
    rename_i a xs fl;show#[.inl #[rfl,_,bN.of hD],F1,G,O,λrs M=>match rs with|[r]=>(zF (give r M) λp=>match slot p.2 j with|some (.lst l)=>l.length<big/\P (.v (.sh .non)) (p.2.set j (some (.lst (l++[p.1]))))|_=>False)|_=>False,PX,r2,L,λrs M vs F2 H2 J s2 r3 hl B=>?_,hx.grow s1];match rs,vs,B,r3,J with
    |[r],[v],B,r3,J=>
     let#[#[t,h8],eg,J]:=Ao J;let#[F3,s3,l3,r4]:=AC (U':=[]) (Z':=[]) r3 hl B.1 eg;split at J
     .rename_i l ql;let#[ys,h7,h3,r5]:=Rel.append r4 ql h2;show#[a,ys,v,rfl,rfl,h7,by rw[h3];show lt_trans J.1 ⋯,h6 _ _ .non F3 _ J.2 (s1.trans (s2.trans s3)) (r5.push .non) trivial]
     .show J.elim
    |[],_,_,_,J=>show J.elim
    |[_],[],B,_,_=>show B.elim
    |[_],_::_::_,B,_,_=>show B.2.elim
    |_::_::_,_,_,_,J=>show J.elim
  |_=>rw[qs]at L;show L.elim
section
variable{K:W.Frag}
def gM(K:W.Frag)(F H:Hp):List V->List D->Prop
 |[],[]=>True
 |v::vs,d::ds=>bK K F H v d/\gM K F H vs ds
 |_,_=>False
def BF{b:List D->Option S}(h2:∀x y r,b (x::y::r)=none)(J:b []=none)(B:gM K F H vs ds)(e:b ds=some s):∃d v,ds=[d]/\vs=[v]:=by
 cases ds with
 |nil=>rw[J]at e;cases e
 |cons x ds=>
  cases ds with
  |cons y r=>rw[h2]at e;cases e
  |nil=>
   cases vs with
   |nil=>show B.elim
   |cons v vs=>
    cases vs with
    |nil=>show#[x,v,rfl,rfl]
    |cons u vs=>show B.2.elim
def GD{b:List D->Option S}(h1:∀x,b [x]=none)(J:∀x y z r,b (x::y::z::r)=none)(L:b []=none)(B:gM K F H vs ds)(e:b ds=some s):∃d M v u,ds=[d,M]/\vs=[v,u]:=by
 cases ds with
 |nil=>rw[L]at e;cases e
 |cons x ds=>
  cases ds with
  |nil=>rw[h1]at e;cases e
  |cons y ds=>
   cases ds with
   |cons z r=>rw[J]at e;cases e
   |nil=>
    cases vs with
    |nil=>show B.elim
    |cons v vs=>
     cases vs with
     |nil=>show B.2.elim
     |cons u vs=>
      cases vs with
      |nil=>show#[x,y,v,u,rfl,rfl]
      |cons u vs=>show B.2.2.elim
def BC:∀{rs:List R}{vs:List V}{ds:List D}{U U':Env}{F:Hp}{Z':St},Rel K (U++(rs.map zH++U')) (Z++(vs.map some++Z')) F G H->U.length=Z.length->oA Z vs rs->(rs.mapM λr=>zR r U)=some ds->
  ∃F',zG F F'/\gM K F' H vs ds/\Rel K (U++U') (Z++Z') F' G H
 |[],[],ds,U,U',F,Z',r,h,_,e=>by
  let J:ds=[]:=↑e.symm
  subst J;show#[F,zG.refl F,trivial,r]
 |[],_::_,_,_,_,_,_,_,_,h,_=>h.elim
 |_::_,[],_,_,_,_,_,_,_,h,_=>h.elim
 |x::rs,v::vs,ds,U,U',F,Z',r,h,rv,e=>by
  rw[List.mapM_cons]at e;cases q:zR x U with
  |none=>rw[q]at e;cases e
  |some d=>
   rw[q]at e;cases B:(rs.mapM λr=>zR r U)with
   |none=>rw[B]at e;cases e
   |some es=>rw[B]at e;let J:d::es=ds:=qf e;subst J;let#[F1,M,O,r1]:=AY (U':=rs.map zH++U') (Z':=vs.map some++Z') r h rv.1 q;let#[F2,L,res,Y]:=BC (rs:=rs) (vs:=vs) r1 h rv.2 B;show#[F2,M.trans L,#[O.mono L,res],Y]
def cZ(K:W.Frag)(r:List V->Hp->VK->Prop)(f:List D->Option S):Prop:=∀(Z:St)(U:Env)(F G H:Hp)(vs:List V)(ds:List D)(s:S)(Q:VK),Rel K U Z F G H->gM K F H vs ds->f ds=some s->
 (∀v F' H',zG F F'->Rel K (U++[some s]) (Z++[some v]) F' G H'->Q v H')->r vs H Q
end
section
variable{id T:String}
def LP(hd:cZ X.K r f)(Z:St)(H:Hp)(Q:VK)(q:tW (wp X pn xe) (wB f wa) Z H Q):gp r (tQ (wp X pn xe) wa) Z H Q:=by show(many (k:=λY B Q E=>zF (Y.mapM λr=>zR r B) λO=>zF (f O) λs=>Q (.v s) B) q).mono λvs H1 h1=>?_;let#[F,G,U,Y,P,PX,L,hl,rv,J,M,hx]:=h1;let#[O,ed,J]:=Ao J;let#[s,es,J]:=Ao J;let#[F1,s1,re,r1]:=BC (U':=[]) (Z':=[]) ↑L hl rv ed;show hd Z U F1 G H1 vs O s Q ↑r1 re es λv F' H' sm r'=>M _ U v F' H' J (s1.trans sm) r' trivial
def Ga(hc:∀pn xe,aZ (wp X pn xe) (.builtin id) r)(hd:cZ X.K r f)(hg:Gl X x)(Y:X.mg x=none)(M:bootBuiltins x=some (.builtin id))(ha:FA X (e::es) L)(hn:x≠"__name__":=by decide)(J:(x==("__debug__":Str))=false:=by decide)
  (he:starEach (e::es) X.env=(false,eval e X.env)::starEach es X.env:=by rfl)(B:(backTo pos (starEach es X.env)).any (·.1)=false:=by rfl):FE X (.Call (.Name x p) (e::es) [] pos) (wB f L):=λpn xe O=>
 PE.imp (Rr (X:=wp X pn xe) (hc pn xe) hg Y M (ha pn xe O) hn J he B) (LP hd)
def Hg(hc:∀pn xe,aZ (wp X pn xe) (.type T) r)(hd:cZ X.K r f)(hg:Gl X x)(Y:X.mg x=none)(M:bootBuiltins x=some (.type T))(ha:FA X (e::es) L)(hn:x≠"__name__":=by decide)(J:(x==("__debug__":Str))=false:=by decide)
  (he:starEach (e::es) X.env=(false,eval e X.env)::starEach es X.env:=by rfl)(B:(backTo pos (starEach es X.env)).any (·.1)=false:=by rfl):FE X (.Call (.Name x p) (e::es) [] pos) (wB f L):=λpn xe O=>
 PE.imp (LZ (X:=wp X pn xe) (hc pn xe) hg Y M (ha pn xe O) hn J he B) (LP hd)
def uT(K:W.Frag):List V->Hp->VK->Prop:=λxs H Q=>(∃p ys,xs=[.ref p]/\(bN K H p ys\/bM K H p ys)/\Q (.int ys.length) H)\/∃z,xs=[.str z]/\z.length<=sizeLine/\Q (.int z.length) H
def aZ.or'{f:Value}(h:aZ X f r)(h':aZ X f L):aZ X f (λx H Q=>r x H Q\/L x H Q):=λzV s Z H xs B Q I J q=>q.elim (h zV s Z H xs B Q I J) (h' zV s Z H xs B Q I J)
def LV:aZ X (.builtin "len") (uT X.K):=aZ.or' UI Vf
def LI{K:W.Frag}:cZ K (uT K) aY:=by
 intro Z U F G H vs Y s Q B J e M;let#[d,v,rfl,rfl]:=BF (λx y r=>by cases x<;>rfl) rfl J e;cases d with
 |str l=>cases e;let#[x,rfl,O,z]:=J.1.str;show .inr #[x,rfl,by rw[EV O];show z,by rw[EV O];show M _ F H (zG.refl F) (B.push (.int _))]
 |tup l=>cases e;let#[a,xs,rfl,h1,L]:=J.1.tup;show .inl #[a,xs,rfl,.inr (bM.of (B.fr _ _ h1)),by rw[L.len];show M _ F H (zG.refl F) (B.push (.int _))]
 |lst l=>cases e;let#[a,xs,rfl,h1,L]:=J.1.lst B.fr;show .inl #[a,xs,rfl,.inl h1,by rw[L.len];show M _ F H (zG.refl F) (B.push (.int _))]
 |_=>cases e
def AM(M:Gl X "len")(L:X.mg "len"=none)(Y:FA X (e::es) J)(O:starEach (e::es) X.env=(false,eval e X.env)::starEach es X.env:=by rfl)(B:(backTo pos (starEach es X.env)).any (·.1)=false:=by rfl):FE X (.Call (.Name "len" p) (e::es) [] pos) (wB aY J):=
 Ga (λ_ _=>LV) LI M L PySem.boot_len Y ⋯ ⋯ O B
end
section
variable{K:W.Frag}
def ir:List V->Hp->VK->Prop:=λxs H Q=>(∃i,xs=[.int i]/\Q (.int i) H)\/∃k,xs=[.bl k]/\Q (.int (if k then 1 else 0)) H
def bK.bl(h:bK K F H v (.bl b)):v=.bl b:=by
 rcases h with h|⟨_,_,_,_,h,_⟩|⟨_,_,_,_,_,h,_⟩|⟨_,_,_,_,_,h,_⟩
 .cases h;rfl
 .cases h
 .cases h
 .cases h
def Uu:cZ K ir jM:=by
 intro Z U F G H vs M s Q B J e L;let#[d,v,rfl,rfl]:=BF (λx y r=>by cases x<;>rfl) rfl J e;cases d with
 |int i=>cases e;let:=J.1.int;subst this;show .inl #[i,rfl,L _ F H (zG.refl F) (B.push (.int _))]
 |bl b=>cases e;let:=J.1.bl;subst this;show .inr #[b,rfl,L _ F H (zG.refl F) (B.push (.int _))]
 |_=>cases e
def GW(O:Gl X "int")(M:X.mg "int"=none)(L:bootBuiltins "int"=some (.type "int"))(ha:FA X (e::es) J)(Y:starEach (e::es) X.env=(false,eval e X.env)::starEach es X.env:=by rfl)(B:(backTo pos (starEach es X.env)).any (·.1)=false:=by rfl):FE X (.Call (.Name "int" p) (e::es) [] pos) (wB jM J):=
 Hg (λ_ _=>SM) Uu O M L ha ⋯ ⋯ Y B
def uN(K:W.Frag):List V->Hp->VK->Prop:=λxs H Q=>∃p ys,xs=[.ref p]/\((bN K H p ys/\∀l,H l=none->Q (.ref l) (upd H l (.tup ys)))\/(bM K H p ys/\Q (.ref p) H))
def Ub:cZ K (uN K) cJ:=by
 intro Z U F G H vs ds s Q B J e O;let#[d,v,rfl,rfl]:=BF (λx y r=>by cases x<;>rfl) rfl J e;cases d with
 |tup l=>cases e;let#[a,xs,rfl,h1,L]:=J.1.tup;show#[a,xs,rfl,.inr #[bM.of (B.fr _ _ h1),O _ F H (zG.refl F) (B.push (.tup h1 L))]]
 |lst l=>cases e;let#[a,xs,rfl,h1,L]:=J.1.lst B.fr;show#[a,xs,rfl,.inl #[h1,λp Y=>?_]];let M:=(B.free Y).1;show O _ _ _ (zG.upd M) ((B.newF Y).push (.tup AX (L.mono (zG.upd M))))
 |_=>cases e
def EI(O:Gl X "tuple")(M:X.mg "tuple"=none)(L:bootBuiltins "tuple"=some (.type "tuple"))(ha:FA X (e::es) J)(Y:starEach (e::es) X.env=(false,eval e X.env)::starEach es X.env:=by rfl)(B:(backTo pos (starEach es X.env)).any (·.1)=false:=by rfl):FE X (.Call (.Name "tuple" p) (e::es) [] pos) (wB cJ J):=
 Hg (λ_ _=>Vd) Ub O M L ha ⋯ ⋯ Y B
def rW(K:W.Frag):List V->Hp->VK->Prop:=λxs H Q=>∃p ys,xs=[.ref p]/\(bN K H p ys\/bM K H p ys)/\∀l,H l=none->Q (.ref l) (upd H l (.lst ys))
def Mr:cZ K (rW K) bg:=by
 intro Z U F G H vs Y s Q B J e O;let#[d,v,rfl,rfl]:=BF (λx y r=>by cases x<;>rfl) rfl J e;cases d with
 |tup l=>cases e;let#[a,xs,rfl,h1,L]:=J.1.tup;show#[a,xs,rfl,.inr (bM.of (B.fr _ _ h1)),λp M=>O _ F _ (zG.refl F) (B.newLD M L)]
 |lst l=>cases e;let#[a,xs,rfl,h1,L]:=J.1.lst B.fr;show#[a,xs,rfl,.inl h1,λp M=>O _ F _ (zG.refl F) (B.newLD M L)]
 |_=>cases e
end
def DM(h:aO a=aO b):a=b:=by
 cases a with
 |inl i=>cases b with
  |inl j=>have h':D.int i=D.int j:=h;cases h';rfl
  |inr y=>have h':D.int i=D.str y.cps.toList:=h;cases h'
 |inr x=>cases b with
  |inl j=>have h':D.str x.cps.toList=D.int j:=h;cases h'
  |inr y=>have h':D.str x.cps.toList=D.str y.cps.toList:=h;let#[#[a]]:=x;first|rfl|assumption|(simp_all;done)
def Fd:∀{a b:List aX},a.map aO=b.map aO->a=b
 |[],[],_=>rfl
 |[],_::_,h=>by simp at h
 |_::_,[],h=>by simp at h
 |x::a,y::b,h=>by
  injection h with h1 h2
  rw[DM h1,Fd h2]
section
variable{K:W.Frag}
def EU(r:aS K H x d)(h:cV d=true):∃k:aX,x=kV k/\d=aO k:=by
 cases r with
 |int i=>show#[.inl i,rfl,rfl]
 |str e z=>show#[.inr _,rfl,by rw[<-e];rfl]
 |_=>cases h
def EB(r:zT K H xs l):l.all cV=true->∃ks:List aX,xs=ks.map kV/\l=ks.map aO:=
 zT.ind (P:=λxs l=>l.all cV=true->∃ks:List aX,xs=ks.map kV/\l=ks.map aO) (λ_=>#[[],rfl,rfl]) (λa _ B h=>by rw[all_cons,and_eq_true]at h;let#[k,rfl,rfl]:=EU a h.1;let#[ks,rfl,rfl]:=B h.2;show#[k::ks,rfl,rfl]) r
open Classical in
def IG{κ:Type}[DecidableEq κ](g:κ->D)(B:∀a b,g a=g b->a=b):∀(zW:List (κ×V))(k:κ),(dB zW k).isSome=decide (g k∈zW.map λp=>g p.1)
 |[],k=>by simp[dB]
 |p::r,k=>by
  by_cases e:p.1=k
  .rw[EZ e];let:g k∈(p::r).map λp=>g p.1:=by rw[qy,e];exact qm
   show(qR this).symm
  .rw[Fi e,IG g B r k];let:(g k∈(p::r).map λp=>g p.1)↔(g k∈r.map λp=>g p.1):=by rw[qy,qA];exact#[λz=>z.elim (λw=>absurd (B _ _ w).symm e) id,.inr]
   show(decide_eq_decide.2 this).symm
open Classical in
def FK{κ:Type}[DecidableEq κ](g:κ->D)(J:∀a b,g a=g b->a=b){α:Type}:∀(zW:List (κ×V))(vs:List α)(k:κ)(P:V->α->Prop),zW.length=vs.length->(∀(i:Nat) x y,(zW.map (·.2))[i]?=some x->vs[i]?=some y->P x y)->
  (lk (zW.map λp=>g p.1) vs (g k)=none/\dB zW k=none)\/∃x y,dB zW k=some x/\lk (zW.map λp=>g p.1) vs (g k)=some y/\P x y
 |[],[],k,P,_,_=>.inl #[rfl,rfl]
 |[],_::_,_,_,h,_=>by simp at h
 |_::_,[],_,_,h,_=>by simp at h
 |p::r,v::vs,k,P,hl,h=>by
  by_cases e:p.1=k
  .show .inr #[p.2,v,EZ e,?_,h 0 p.2 v rfl rfl];show(if g p.1=g k then some v else lk (r.map λp=>g p.1) vs (g k))=some v;rw[q5 (by rw[e])]
  .let B:¬g p.1=g k:=λz=>e (J _ _ z);rw[Fi e];let L:lk ((p::r).map λp=>g p.1) (v::vs) (g k)=lk (r.map λp=>g p.1) vs (g k):=by show(if g p.1=g k then some v else lk (r.map λp=>g p.1) vs (g k))=_;rw[q8 B]
   rw[L];show FK g J r vs k P ↑hl λi x y h1 h2=>h (i+1) x y ↑h1 ↑h2
def Ph(r1:aS K H x d)(r2:aS K H (.ref a) (.dct t ks vs))(Y:bR t d=true):∃o,gE H a x o/\o.isSome=(open Classical in decide (d∈ks))/\
  ((lk ks vs d=none/\o=none)\/∃v e,o=some v/\lk ks vs d=some e/\aS K H v e):=by
 cases r2 with
 |dK e k r=>
  rename_i B;let#[M,rfl,rfl]:=EU r1 Y;show#[_,.inl #[B,M,e,rfl,rfl],?_,?_]
  .rw[k];show IG aO (λ_ _=>DM) B M
  .rw[k];rcases FK aO (λ_ _=>DM) B vs M (λv e=>aS K H v e) (by let:=r.len;simpa using this) (λi x y h1 h2=>by let#[x',L,O]:=r.get h2;rw[h1]at L;cases L;show O)with⟨h1,h2⟩|⟨v,e,h1,h2,h3⟩
   .show .inl #[h1,h2]
   .show .inr #[v,e,h1,h2,h3]
 |dT e k r=>
  rename_i B;cases r1 with
  |tup e1 q=>
   let#[J,rfl,rfl]:=EB q Y;let inj:∀a b:List aX,D.tup (a.map aO)=D.tup (b.map aO)->a=b:=λa b z=>Fd (D.tup.inj z);show#[_,.inr #[B,J,_,e,rfl,e1,rfl],?_,?_]
   .rw[k];show IG (λl=>D.tup (l.map aO)) inj B J
   .rw[k];rcases FK (λl=>D.tup (l.map aO)) inj B vs J (λv e=>aS K H v e) (by let:=r.len;simpa using this) (λi x y h1 h2=>by let#[x',L,O]:=r.get h2;rw[h1]at L;cases L;show O)with⟨h1,h2⟩|⟨v,e,h1,h2,h3⟩
    .show .inl #[h1,h2]
    .show .inr #[v,e,h1,h2,h3]
  |_=>cases Y
def kO(neg:Bool):R2:=λx y H Q=>∃a o,y=.ref a/\gE H a x o/\Q (.bl (if neg then !o.isSome else o.isSome)) H
def UH(L:X.A.units+1<cLine):OpR X (compareOp .NotIn) (kO true):=by intro zV s Z H x y v u Q I J B h;let#[a,o,rfl,g,q]:=h;cases B;show Pg L I g J λs' M=>#[.bl _,H,M,rfl,q]
def jG(K:W.Frag)(neg:Bool):R2:=λx y H Q=>yV K neg x y H Q\/kO neg x y H Q
def UP(B:X.A.units+32<cLine):OpR X (compareOp .NotIn) (jG X.K true):=FL.OpR.or (SZ B) (UH ∅)
open Classical in
def Qv(L:aS K H x p)(J:aS K H y q)(e:bc p q=some k)(M:Q (.bl (if neg then !k else k)) H):jG K neg x y H Q:=by
 unfold bc at e;split at e
 .rename_i l;split at e
  .cases e
  .rename_i h;let B:=qf e;subst B;show .inl #[p,l,L,.inl J,λd Y=>?_,M];grind
 .rename_i l;split at e
  .cases e
  .rename_i h;let B:=qf e;subst B;show .inl #[p,l,L,.inr J,λd Y=>?_,M];grind
 .rename_i t ks vs;split at e
  .rename_i h;let B:=qf e;cases y with
   |ref a=>let#[o,g,O,_]:=Ph L J h;show .inr #[a,o,rfl,g,?_];rw[O,B];show M
   |_=>cases J
  .cases e
 .cases e
end
open PySem.Builtin.Str (strSliceIndices)
def GY(n d:Nat)(o:Option Int):HT.sIx n d o=FL.sIx n d o:=by cases o<;>rfl
def KD(n d:Nat)(B:d<=n)(o:Option Int):FL.sIx n d o<=n:=by rw[<-GY];show HT.sIx_le n d B o
def xD(z:Str)(lo hi:Option Int):Str:=#[(aU z.cps.toList lo hi).toArray]
def Tw(lo hi:Option Int)(n:Nat):strSliceIndices lo hi 1 n=(List.range (FL.sIx n n hi-FL.sIx n 0 lo)).map (FL.sIx n 0 lo+·):=by rw[<-sliceRange_one];unfold strSliceIndices;cases lo<;>cases hi<;>simp only[if_true,FL.sIx,Es]<;>rfl
def Ta(x:Str)(lo hi:Option Int):Txt.slice x lo hi=xD x lo hi:=by
 let B:x.length=x.cps.toList.length:=by show x.cps.size=_;rw[qV]
 unfold Txt.slice xD aU;rw[Tw,pick_run,<-B];split
 .rename_i h;simp at h;let h1:=KD x.length x.length (q9 _) hi;let h2:FL.sIx x.length 0 lo=0\/x.length=0:=by lia
  let J:FL.sIx x.length 0 lo=0:=h2.elim id λz=>by let:=KD x.length 0 (zero_le _) lo;lia
  rw[h,J,drop_zero,take_of_length_le (by rw[B];show q9 _)]
 .rfl
def yN:V->Option Int->Option Int->Hp->VK->Prop:=λx lo hi H Q=>∃z,x=.str z/\z.length<=sizeLine/\Q (.str (xD z lo hi)) H
def Kv(p:IsPart v o):∃l:Option (Int×Tok),v=partValue l/\o=l.map (·.1):=by
 cases p with
 |none=>show#[none,rfl,rfl]
 |int i t=>show#[some (i,t),rfl,rfl]
def Ox:lN X yN:=by
 intro zV s Z H x v vl Y lo hi sl Q I B O L J h;let#[z,rfl,M,q]:=h;let#[t,rfl]:=B;let#[l,rfl,rfl]:=Kv L;let#[u,rfl,rfl]:=Kv J;rw[<-Ta]at q;exact⟨"str",_,F.slot_str_getitem.lookup,typeIs_str _ _ _,wpAny_getItem_str_slice (l:=l) (u:=u) (st:=none) O rfl
  (post_val_or_str #[le_trans (Txt.slice_le z _ _) M,λt' k=>#[.str (Txt.slice z (l.map (·.1)) (u.map (·.1))),H,I.tok _,#[_,rfl],q]])⟩
def yL(K:W.Frag):V->Option Int->Option Int->Hp->VK->Prop:=λx lo hi H Q=>∃a xs,x=.ref a/\bM K H a xs/\
 (HT.sIx xs.length 0 lo=0/\HT.sIx xs.length xs.length hi=xs.length)/\Q (.ref a) H
def Vl{items:Array Value}{lo hi:Option Int}(J:IsTup s.heap t items)(hs:s.heap.IsSliceOf Y vl vu .none)(pl:IsPart vl lo)(pu:IsPart vu hi)
  (hw:HT.sIx items.size 0 lo=0/\HT.sIx items.size items.size hi=items.size)(h:Q (.ref t) s):wpAny (model prog w) A (getItem (.ref t) (.ref Y)) Q E s:=by
 let#[os,L,M,h1]:=id hs;let O:s.TypeIs (.ref Y) "slice":=#[os,L,M]
 unfold getItem;try with_reducible show zr ?_
 first|show qa (qb ?_)|skip
 refine qa (wpAny_sequenceKey J.typeIs ⋯ ?_);refine qa (wpAny_callSpecial?_slot (name:=Str.ofString "__getitem__") J.typeIs PyProof.Rows.slot_tuple_getitem
  (zm PyProof.Rows.slot_tuple_getitem J.typeIs entry_tuple_getitem ?_ (args_tuple_getitem _ _)))
 show wpAny _ _ (Builtin.Tuple.tupleItemsOf (.ref t)>>=_) _ _ s;show qa (tupleItemsOf_ J ?_);show qa (wpAny_typeOf O ?_);show qa (HT.sliceApplied_gen hs pl pu ?_);let B:(((HT.sIx items.size 0 lo:Nat):Int)==0&&(1:Int)==1&&(HT.sIx items.size items.size hi-HT.sIx items.size 0 lo)==items.size)=true:=by rw[hw.1,hw.2];simp
 show wpAny _ _ (if(((HT.sIx items.size 0 lo:Nat):Int)==0&&(1:Int)==1&&(HT.sIx items.size items.size hi-HT.sIx items.size 0 lo)==items.size)=true then _ else _) _ _ s;rw[q5 B];show qa (qa (wpAny_typeOf J.typeIs (qb ?_)));first
  |show qa (wpAny_rule (qb ⟨_,rfl,qb h⟩))
  |show qa (qb (qb ⟨_,rfl,qb h⟩))
  |show qb ⟨_,rfl,qb h⟩
def Sq:lN X (yL X.K):=by
 intro zV s Z H x v vl vu lo hi sl Q I M hs Y O h;let#[a,xs,rfl,hx,hw,q]:=h;cases M;let#[J,r,L,hz]:=I.tuple hx;let B:J.toArray.size=xs.length:=by rw[qr];show r.length.symm
 show#["tuple",_,PyProof.Rows.slot_tuple_getitem.lookup,L.typeIs,?_];show Vl L hs Y O (by rw[B];show hw) #[.ref a,H,I,rfl,q]
section
variable{K:W.Frag}
def zT.drop:∀{xs:List V}{l:List D}(n:Nat),zT K F xs l->zT K F (xs.drop n) (l.drop n)
 |_,_,0,r=>by rw[drop_zero];show r
 |_,_,n+1,.nil=>by rw[List.drop_nil];show .nil
 |_,_,n+1,.cons a b=>by rw[List.drop_succ_cons];show zT.drop n b
def zT.take:∀{xs:List V}{l:List D}(n:Nat),zT K F xs l->zT K F (xs.take n) (l.take n)
 |_,_,0,r=>by rw[List.take_zero];show .nil
 |_,_,n+1,.nil=>by rw[take_nil];show .nil
 |_,_,n+1,.cons a b=>by rw[List.take_succ_cons];show .cons a (zT.take n b)
def zT.cut{lo hi:Option Int}(r:zT K F xs l):zT K F (iS xs lo hi) (aU l lo hi):=by unfold iS aU;rw[GY,r.len];show(r.drop _).take _
def il(K:W.Frag):V->Option Int->Option Int->Hp->VK->Prop:=λx lo hi H Q=>yO K x lo hi H Q\/yM K x lo hi H Q\/yL K x lo hi H Q\/yN x lo hi H Q
def HD:lN X (il X.K):=lN.or QC (lN.or NH (lN.or Sq Ox))
def Qn{lo hi:Option Int}(B:Rel K U Z F G H)(Y:bK K F H v d)(e:iX d lo hi=some s)
  (M:∀v F' H',zG F F'->Rel K (U++[some s]) (Z++[some v]) F' G H'->Q v H'):il K v lo hi H Q:=by
 cases d with
 |str l=>
  cases e;let#[x,rfl,h1,h2]:=Y.str;subst h1;show .inr (.inr (.inr #[x,rfl,?_,M _ F H (zG.refl F) (B.push (.str rfl ?_))]))
  .let:x.length=x.cps.toList.length:=by show x.cps.size=_;rw[qV]
   rw[this];show h2
  .show le_trans ?_ h2;unfold aU;rw[qH,qG];lia
 |tup l=>
  cases e;let#[a,xs,rfl,h1,J]:=Y.tup;by_cases L:HT.sIx xs.length 0 lo=0/\HT.sIx xs.length xs.length hi=xs.length
  .show .inr (.inr (.inl #[a,xs,rfl,bM.of (B.fr _ _ h1),L,M _ F H (zG.refl F) (B.push ?_)]));let:aU l lo hi=l:=by unfold aU;rw[<-J.len,<-GY,<-GY,L.1,L.2,drop_zero,take_of_length_le (by rw[<-J.len];lia)]
   rw[this];show .tup h1 J
  .show .inr (.inl #[a,xs,rfl,bM.of (B.fr _ _ h1),L,λp O=>?_]);let n2:=(B.free O).1;show M _ _ _ (zG.upd n2) ((B.newF O).push (.tup AX (J.cut.mono (zG.upd n2))))
 |lst l=>cases e;let#[a,xs,rfl,h1,J]:=Y.lst B.fr;show .inl #[a,xs,rfl,h1,λp O=>M _ F _ (zG.refl F) (B.newLD O J.cut)]
 |_=>cases e
end
theorem nextOf(r1:Rel X.K (U1++[zH x]) (Z++[some v]) F G H1)(M:RV Z v x)(Y:wb U1 (λy U2=>k x y U2 P PX) PX)
  (h3:∀r U' v F' H',P r U'->zG F F'->Rel X.K (U'++[zH r]) (Z++[some v]) F' G H'->RV Z v r->Q v H')(hx:XC X (·=Z) F G PX):tW X wb Z H1 λu H2=>la X Z k Q v u H2:=by
 let h1:=Ah r1;let#[G1,B,gg,back]:=r1.hide h1;show#[F,G1,U1,_,PX,B,Y,λy U2 u F2 H2 O J r2 L=>?_,hx.mono (λ_ z=>z) (zG.refl F) gg];let h2:=Ah r2;let r3:=back J r2;rw[qp,qp]at r3;show#[F2,G,U2,x,y,P,PX,Rel.swap (U1:=[zH y]) (Z1:=[some u]) (U2:=[zH x]) (Z2:=[some v]) h2 rfl r3,h2,M,L,O,λr U' v F' H' a b c d=>h3 r U' v F' H' a (J.trans b) c d,hx.grow J]
def AJ{U:Env}{o:Option D}{k:Int->Prop}(h:(match o with|some (.int i)=>k i|_=>False)):∃i,o=some (.int i)/\k i:=by
 split at h
 .show#[_,rfl,h]
 .show h.elim
def HL{K:W.Frag}{U:Env}{Z:St}{F G H:Hp}{x y:R}{v u:V}{lo hi:Option Int}{P:WQ}{Q:VK}{q:D}(L:Rel K (U++[zH x,zH y]) (Z++[some v,some u]) F G H)(O:U.length=Z.length)(rx:RV Z v x)
  (J:zF (zR x U) λd=>zF (iX d lo hi) λs=>P (.v s) U)
  (M:∀r U' v F' H',P r U'->zG F F'->Rel K (U'++[zH r]) (Z++[some v]) F' G H'->RV Z v r->Q v H'):il K v lo hi H Q:=by
 let#[d,ed,J]:=Ao J;let#[s,es,J]:=Ao J;let B:Rel K (U++[zH x]) (Z++[some v]) F G H:=by let:=Rel.swap (U1:=[zH x]) (Z1:=[some v]) (U2:=[zH y]) (Z2:=[some u]) O rfl L;show Rel.mid (U:=U) (Z:=Z) this O
 let#[F1,s1,re,r1]:=AY (U':=[]) (Z':=[]) B O rx ed;show Qn (U:=U) (Z:=Z) ↑r1 re es λv F' H' Y r'=>M _ U v F' H' J (s1.trans Y) r' trivial
def DH(ha:FE X a wa)(hb:FE X b wb):FE X (.Subscript a (.Slice (some b) none none p2) pos) (dY wa (some wb) none):=λpn xe Y=>by
 refine PE.imp (Iv (HD (X:=wp X pn xe)) (ha pn xe Y) (GM (hb pn xe Y)) Le) λZ H Q q=>?_;refine(Fo (k:=λx y B Q E=>match view y B with
  |some (.int i)=>zF (zR x B) λd=>zF (iX d (some i) none) λs=>Q (.v s) B
  |_=>False) q).mono λv H1 h1=>h1.mono λu H2 h2=>?_
 let#[F,G,U,x,y,P,PX,J,M,rx,ry,O,L,hx]:=h2;let#[i,ei,O]:=AJ (U:=U) (k:=λi=>zF (zR x U) λd=>zF (iX d (some i) none) λs=>P (.v s) U) O;let ru:=look (U':=[]) (Z':=[]) (J.mid M) M ry ei;cases ru;show#[i,rfl,HL (q:=.non) J M rx O L]
def CW(ha:FE X a wa)(hb:FE X b wb):FE X (.Subscript a (.Slice none (some b) none p2) pos) (dY wa none (some wb)):=λpn xe Y=>by
 refine PE.imp (Iv (HD (X:=wp X pn xe)) (ha pn xe Y) Le (GM (hb pn xe Y))) λZ H Q q=>?_;refine(Fo (k:=λx y B Q E=>match view y B with
  |some (.int i)=>zF (zR x B) λd=>zF (iX d none (some i)) λs=>Q (.v s) B
  |_=>False) q).mono λv H1 h1=>h1.mono λu H2 h2=>?_
 let#[F,G,U,x,y,P,PX,J,M,rx,ry,O,L,hx]:=h2;let#[i,ei,O]:=AJ (U:=U) (k:=λi=>zF (zR x U) λd=>zF (iX d none (some i)) λs=>P (.v s) U) O;let ru:=look (U':=[]) (Z':=[]) (J.mid M) M ry ei;cases ru;show#[i,rfl,HL (q:=.non) J M rx O L]
def HJ(ha:FE X a wa)(hb:FE X b wb)(hc:FE X c wc):FE X (.Subscript a (.Slice (some b) (some c) none p2) pos) (dY wa (some wb) (some wc)):=λpn xe hp=>by
 refine PE.imp (Iv (HD (X:=wp X pn xe)) (ha pn xe hp) (GM (hb pn xe hp)) (GM (hc pn xe hp))) λZ H Q q=>?_;refine(Fo (k:=λx y U2 Q E=>match view y U2 with
  |some (.int i)=>wc U2 (λz B=>match view z B with
   |some (.int j)=>zF (zR x B) λd=>zF (iX d (some i) (some j)) λs=>Q (.v s) B
   |_=>False) E
  |_=>False) q).mono λv H1 h1=>h1.mono λu H2 h2=>?_
 obtain⟨F,G,U,x,y,P,PX,J,L,rx,ry,O,M,hx⟩:=h2;let#[i,ei,O]:=AJ (U:=U) (k:=λi=>wc U (λz B=>match view z B with
   |some (.int j)=>zF (zR x B) λd=>zF (iX d (some i) (some j)) λs=>P (.v s) B
   |_=>False) PX) O
 let ru:=look (U':=[]) (Z':=[]) (J.mid L) L ry ei;cases ru;let Y:Rel X.K (U++[zH x]) (Z++[some v]) F G H2:=by let:=Rel.swap (U1:=[zH x]) (Z1:=[some v]) (U2:=[zH y]) (Z2:=[some (.int i)]) L rfl J;show Rel.mid (U:=U) (Z:=Z) this L
 refine⟨i,rfl,(nextOf (X:=wp X pn xe) (k:=λx z B P PX=>match view z B with
   |some (.int j)=>zF (zR x B) λd=>zF (iX d (some i) (some j)) λs=>P (.v s) B
   |_=>False) Y rx O M hx).mono λt H3 h3=>?_⟩
 let#[F,G,U,x,y,P,PX,J,L,rx,ry,O,M,hx]:=h3;let#[j,ej,O]:=AJ (U:=U) (k:=λj=>zF (zR x U) λd=>zF (iX d (some i) (some j)) λs=>P (.v s) U) O;let ru:=look (U':=[]) (Z':=[]) (J.mid L) L ry ej;cases ru;show#[j,rfl,HL (q:=.non) J L rx O M]
end FL
namespace FL
open PySem
def xQ(f:List Nat->List D->Option S)(o:WE)(a:WA):WE:=λU Q E=>o U (λx J=>match x with
 |.v (.sh (.str l))=>a J (λL B=>zF (L.mapM λr=>zR r B) λM=>zF (f l M) λs=>Q (.v s) B) E
 |_=>False) E
def dZ:List D->Option (List (List Nat))
 |[]=>some []
 |.str x::r=>(dZ r).map (x::·)
 |_::_=>none
@[simp] theorem SU(l:List (List Nat)):dZ (l.map .str)=some l:=by
  induction l with
  |nil=>rfl
  |cons a r B=>rw[qy,dZ,B];rfl
def dI(B:List Nat):List (List Nat)->List Nat
 |[]=>[]
 |[x]=>x
 |x::r=>x++B++dI B r
def MT(B:List Nat):∀ys:List (List Nat),(dI B ys).length<=(ys.map List.length).sum+ys.length*B.length
 |[]=>zero_le _
 |[x]=>by simp[dI]
 |x::y::r=>by
  let:=MT B (y::r);rw[dI,qq,qq,qy,List.sum_cons,qt (a:=x),succ_mul]
  .lia
  .intro h;cases h
def Tg(ys:List (List Nat)):dI [] ys=ys.flatten:=by
 induction ys with
 |nil=>rfl
 |cons x r B=>
  cases r with
  |nil=>simp[dI]
  |cons y r=>rw[dI,B];simp;intro h;cases h
def nJ(B:List Nat)(l:List D):Option S:=(dZ l).bind λys=>if(ys.map List.length).sum+ys.length*B.length<=big then some (.sh (.str (dI B ys)))else none
def iQ(B:List Nat):List D->Option S
 |[.lst l]=>nJ B l
 |[.tup l]=>nJ B l
 |_=>none
def eX(j:Nat)(e:WE):WE:=λU Q E=>match slot U j with
 |some (.lst _)=>e U (λr B=>match view r B,slot B j with
  |some (.int i),some (.lst l)=>zF (if l.length<=big then ixN l.length i else none) λk=>zF l[k]? λs=>Q (.v s) (B.set j (some (.lst (l.eraseIdx k))))
  |_,_=>False) E
 |_=>False
def nM:List D->Option (List Bool)
 |[]=>some []
 |.bl x::r=>(nM r).map (x::·)
 |_::_=>none
@[simp] theorem Vu(l:List Bool):nM (l.map .bl)=some l:=by
  induction l with
  |nil=>rfl
  |cons a r B=>rw[qy,nM,B];rfl
end FL
namespace FL
open PySem PySem.Spec PyProof.Rows L2
section
variable{id:String}
def nW(K:W.Frag)(r:V->List V->Hp->VK->Prop)(f:List Nat->List D->Option S):Prop:=∀(Z:St)(U:Env)(F G H:Hp)(x:Str)(vs:List V)(ds:List D)(s:S)(Q:VK),Rel K U Z F G H->x.cps.toList.length<=16777216->gM K F H vs ds->f x.cps.toList ds=some s->
 (∀v F' H',zG F F'->Rel K (U++[some s]) (Z++[some v]) F' G H'->Q v H')->r (.str x) vs H Q
def Nu(hm:∀pn xe,xV (wp X pn xe) id r)(hd:nW X.K r f)(slot:Slot "str" name id)(h5:typeOf (.builtin id)=pure (.type "method_descriptor"))(ho:FE X o wo)(ha:FA X (e::es) wa)
  (O:attributeBase o name X.env (eval o X.env)=eval o X.env:=by rfl)
  (h2:((backTo cpos (starEach (e::es) X.env)).all (λx=>!x.1)&&(backToKw cpos (keywordEach [] X.env)).all (λx=>x.1.isSome)
   &&decide ((e::es).length+([]:List Keyword).length+(if([]:List Keyword).isEmpty then 0 else 1)<30))=true:=by rfl)
  (M:(apos.endLine==cpos.line)=true:=by rfl)(hs:starEach (e::es) X.env=(false,eval e X.env)::starEach es X.env:=by rfl)(L:(backTo cpos (starEach es X.env)).any (·.1)=false:=by rfl):
  FE X (.Call (.Attribute o name apos) (e::es) [] cpos) (xQ f wo wa):=λpn xe hp=>by
 refine PE.imp (ER (X:=wp X pn xe) PySem.F.plainAttrs_str slot h5 (hm pn xe) (ho pn xe hp) (ha pn xe hp) O h2 M hs L) λZ H Q q=>?_;refine(one (k:=λx h3 Q E=>match x with
  |.v (.sh (.str l))=>wa h3 (λrs B=>zF (rs.mapM λr=>zR r B) λds=>zF (f l ds) λs=>Q (.v s) B) E
  |_=>False) q).mono λv H1 h1=>?_
 let#[F,G,U,x,P,PX,Y,hl,rx,hk,h6,hx]:=h1;split at hk
 .rename_i l;let rp:=look (U':=[]) (Z':=[]) (x:=.v (.sh (.str l))) Y hl rx rfl;cases rp with
  |str e1 z=>rename_i y;subst e1;show#[rfl,F,G,U,_,PX,Y.drop hl,hk,λrs B vs F2 H2 J s2 r2 h7 h4=>?_,hx];let#[ds,ed,J]:=Ao J;let#[s,es,J]:=Ao J;let#[F3,s3,re,r3]:=BC (U':=[]) (Z':=[]) ↑r2 h7 h4 ed;show hd Z B F3 G H2 y vs ds s Q ↑r3 z re es λv F' H' sm r'=>h6 _ B v F' H' J (s2.trans (s3.trans sm)) r' trivial
 .show hk.elim
end
section
variable{K:W.Frag}
def Kw(r:zT K F xs l)(h:dZ l=some ys):∃B:List Str,xs=B.map V.str/\ys=B.map λz=>z.cps.toList:=
 zT.ind (P:=λxs l=>∀ys,dZ l=some ys->∃B:List Str,xs=B.map V.str/\ys=B.map λz=>z.cps.toList) (λys h=>by cases h;show#[[],rfl,rfl]) (λa _ L ys h=>by
  cases a with
  |@str x _ e z=>let#[J,h1,rfl]:=qY.mp h;let#[B,rfl,rfl]:=L _ h1;show#[x::B,rfl,by rw[qy,e]]
  |_=>cases h) r ys h
def Lm(B:Str):∀J:List Str,(Str.join B J).cps.toList=dI B.cps.toList (J.map λz=>z.cps.toList)
 |[]=>rfl
 |[x]=>rfl
 |x::y::r=>by show((x++B++Str.join B (y::r):Str)).cps.toList=x.cps.toList++B.cps.toList++dI B.cps.toList ((y::r).map λz=>z.cps.toList);rw[<-Lm B (y::r)];show(x.cps++B.cps++(Str.join B (y::r)).cps).toList=_;rw[toList_append,toList_append]
def He:∀{us:List Value},zS (ys.map V.str) us->StrsAre us ys:=by
 induction ys with
 |nil=>intro us r;rw[map_nil]at r;cases r;show .nil
 |cons n M L=>
  intro us r;cases r with
  |cons J B=>let#[t,e]:=J;subst e;show .cons n t (L B)
def mR(K:W.Frag):V->List V->Hp->VK->Prop:=λx vs H Q=>∃z a ys,x=.str z/\vs=[.ref a]/\(bN K H a (ys.map V.str)\/bM K H a (ys.map V.str))/\(ys.map (·.length)).sum+ys.length*z.length<=16777216/\Q (.str (Str.join z ys)) H
def Qj:xV X "str.join" (mR X.K):=by
 intro zV s Z H x vs v us Q I Y rv h;let#[z,a,ys,rfl,rfl,B,M,q]:=h;let#[t,rfl]:=Y;cases rv with
 |cons r1 r2=>
  cases r2;cases r1;let e:Txt.join z ys=Str.join z ys:=StrLaws.glued_eq_join z ys;rcases B with B|B
  .obtain⟨L,r,J,_⟩:=I.list B;show join_list J.isList (He r) M λO k=>#[.str (Str.join z ys),H,I.tok _,#[_,by rw[e]],q]
  .obtain⟨L,r,J,_⟩:=I.tuple B;show join_tuple J (He r) M λO k=>#[.str (Str.join z ys),H,I.tok _,#[_,by rw[e]],q]
def LS(J:Rel K U Z F G H)(Y:bN K H a xs\/bM K H a xs)(r:zT K F xs l)(e:nJ x.cps.toList l=some s)
  (k:∀v F' H',zG F F'->Rel K (U++[some s]) (Z++[some v]) F' G H'->Q v H'):mR K (.str x) [.ref a] H Q:=by
 let#[ys,e1,O]:=Option.bind_eq_some_iff.mp e;let#[B,rfl,rfl]:=Kw r e1;split at O
 .rename_i M;cases O;let hl:∀z:Str,z.cps.toList.length=z.length:=λz=>by rw[qV];rfl
  let e3:((B.map λz=>z.cps.toList).map List.length)=B.map (·.length):=by rw[qE];show map_congr_left λz _=>hl z
  let L:=M;rw[e3,qo]at M;show#[x,a,B,rfl,rfl,Y,le_trans M ⋯,k _ F H (zG.refl F) (J.push (.str (Lm x B) ?_))];show le_trans (MT _ _) (le_trans L ⋯)
 .cases O
def Te:nW K (mR K) iQ:=by
 intro Z U F G H x vs Y s Q B O J e M;let#[d,v,rfl,rfl]:=BF (λx y r=>by cases x<;>rfl) rfl J e;cases d with
 |tup l=>let#[a,xs,rfl,h1,L]:=J.1.tup;show LS B (.inr (bM.of (B.fr _ _ h1))) L e M
 |lst l=>let#[a,xs,rfl,h1,L]:=J.1.lst B.fr;show LS B (.inl h1) L e M
 |_=>cases e
end
def KJ(ho:FE X o O)(ha:FA X [e] Y)
  (L:attributeBase o "join" X.env (eval o X.env)=eval o X.env:=by rfl)
  (M:((backTo cpos (starEach [e] X.env)).all (λx=>!x.1)&&(backToKw cpos (keywordEach [] X.env)).all (λx=>x.1.isSome)
   &&decide ([e].length+([]:List Keyword).length+(if([]:List Keyword).isEmpty then 0 else 1)<30))=true:=by rfl)
  (J:(apos.endLine==cpos.line)=true:=by rfl)(hs:starEach [e] X.env=(false,eval e X.env)::starEach [] X.env:=by rfl)(B:(backTo cpos (starEach [] X.env)).any (·.1)=false:=by rfl):
  FE X (.Call (.Attribute o "join" apos) [e] [] cpos) (xQ iQ O Y):=Nu (λ_ _=>Qj) Te PySem.F.slot_str_join PySem.F.type_str_join ho ha L M J hs B
section
variable{K:W.Frag}
def zJ.erase:∀{xs:List V}{l:List S}{fp:List Addr}{m:Nat}{s:S},zJ K F H xs l fp->l[m]?=some s->∃y L B J,fp=L++(B++J)/\xs[m]?=some y/\aK K F H y s B/\zJ K F H (xs.eraseIdx m) (l.eraseIdx m) (L++J)
 |_,_,_,_,_,.nil,h=>by simp at h
 |_,_,_,0,s,.cons (x:=x) (fp:=fp) (fq:=fq) a b,h=>by let e:=qf h;subst e;show#[x,[],fp,fq,rfl,rfl,a,b]
 |_,_,_,m+1,s,.cons (fp:=fp) (fq:=fq) a b,h=>by let#[y,L,B,J,rfl,h1,h2,M]:=zJ.erase (m:=m) b h;show#[y,fp++L,B,J,(qp ..).symm,h1,h2,?_];rw[qp];show .cons a M
def Rel.popItem{D:Addr}(r:Rel K U Z F G H)(hs:slot U n=some (.lst l))(Y:Z[n]?=some (some (.ref D)))(hm:l[m]?=some s):
  ∃xs y,H D=some (.lst xs)/\xs.length=l.length/\xs[m]?=some y/\Rel K (U.set n (some (.lst (l.eraseIdx m)))++[some s]) (Z++[some y]) F G (upd H D (.lst (xs.eraseIdx m))):=by
 let#[fp,e,nd,ap]:=r.en;let#[v',fa,fi,O,e1,rfl,q,up]:=e.at hs;rw[Y]at e1;let e2:V.ref D=v':=↑e1
 subst e2;cases q with
 |lst hD rl=>
  rename_i xs fl;let#[y,ga,M,L,rfl,hy,sr,h2]:=rl.erase hm;show#[xs,y,hD,rl.len,hy,?_];let#[na,B,h3]:=qw.mp nd;let#[ni,nb,B]:=qw.mp B;let#[nD,h8]:=qL.mp ni;let h7:D∉fa:=λz=>h3 D z D (qj _ qm) rfl;let h6:D∉O:=λz=>B D qm D z rfl;let h1:=ap D (qi _ (qj _ qm));let ne:∀{l:List Addr},D∉l->∀x∈l,upd H D (.lst (xs.eraseIdx m)) x=H x:=λh x J=>An λz=>h (z▸J);let h5:D∉ga++L:=λz=>nD ((qx.mp z).elim (λw=>qj _ w) λw=>qi _ (qi _ w));let h4:D∉M:=λz=>nD (qi _ (qj _ z));let new:aK K F (upd H D (.lst (xs.eraseIdx m))) (.ref D) (.lst (l.eraseIdx m)) (D::(ga++L)):=.lst AX (h2.mono (zG.refl F) (ne h5));let a2:=up (F':=F) (H':=upd H D (.lst (xs.eraseIdx m))) (o:=some (.lst (l.eraseIdx m))) (u:=some (.ref D)) (zG.refl F) (λx J=>An λz=>(qx.mp J).elim (λw=>h7 (z▸w)) λw=>h6 (z▸w)) (.so new .nil);rw[Fb Y]at a2;let a3:=a2.app (.so (sr.mono (zG.refl F) (ne h4)) .nil);let pm:(fa++((D::(ga++L))++[]++O)++(M++[])).Perm (fa++((D::(ga++(M++L)))++O)):=by simp;show List.Perm.append_left _ (List.Perm.cons _ (List.Perm.append_left _ ?_));rw[<-qp M L O,<-qp L O M];show(qN (l₁:=L++O) (l₂:=M)).trans ?_;rw[qp]
  show#[zG.updR r.fr h1.1,λx o w=>?_,_,a3,pm.nodup_iff.mpr nd,λx J=>ap x (pm.mem_iff.mp J)];let J:x≠D:=λz=>by rw[z,h1.2]at w;cases w
  rw[An J];show r.gr x o w
end
def ID(ho:FE X o (zw j))(he:FE X e we)
  (h1:attributeBase o "pop" X.env (eval o X.env)=eval o X.env:=by rfl)
  (h4:((backTo cpos (starEach [e] X.env)).all (λx=>!x.1)&&(backToKw cpos (keywordEach [] X.env)).all (λx=>x.1.isSome)
   &&decide ([e].length+([]:List Keyword).length+(if([]:List Keyword).isEmpty then 0 else 1)<30))=true:=by rfl)
  (Y:(apos.endLine==cpos.line)=true:=by rfl)(hs:starEach [e] X.env=[(false,eval e X.env)]:=by rfl):FE X (.Call (.Attribute o "pop" apos) [e] [] cpos) (eX j we):=λpn xe hp=>by
 refine PE.imp (ER (X:=wp X pn xe) PySem.F.plainAttrs_list PySem.F.slot_list_pop PySem.F.type_list_pop Rw (ho pn xe hp) (Aa he Ab hs pn xe hp) h1 h4 Y hs rfl) λZ H Q q=>?_;let#[F,G,U,P,PX,h5,hw,h6,hx]:=q;let M:(match slot U j with
  |some (.lst _)=>we U (λr B=>match view r B,slot B j with
   |some (.int i),some (.lst l)=>zF (if l.length<=big then ixN l.length i else none) λk=>zF l[k]? λs=>P (.v s) (B.set j (some (.lst (l.eraseIdx k))))
   |_,_=>False) PX
  |_=>False):=hw
 cases qs:slot U j with
 |none=>rw[qs]at M;show M.elim
 |some s0=>
  cases s0 with
  |lst l0=>
   rw[qs]at M;show#[F,G,U,λy O=>y=.loc j/\O=U,PX,h5,by unfold zw;rw[qs];show#[rfl,rfl],λy O o' F1 H1 J s1 r1 rv=>?_,hx];let#[rfl,rfl]:=J;let l1:=Ah r1;let h2:Z[j]?=some (some o'):=rv;let r2:=r1.drop l1;let#[v',fp,e1,sr]:=r2.at qs;rw[h2]at e1;let e2:o'=v':=↑e1
   subst e2;cases sr with
   |lst hD rl=>
    rename_i a xs fl;show#[.inl #[rfl,_,bN.of hD],F1,G,O,λrs B=>match rs with|[r]=>(match view r B,slot B j with|some (.int i),some (.lst l)=>zF (if l.length<=big then ixN l.length i else none) λk=>zF l[k]? λs=>P (.v s) (B.set j (some (.lst (l.eraseIdx k))))|_,_=>False)|_=>False,PX,r2,M,λrs B vs F2 H2 J s2 r3 hl L=>?_,hx.grow s1];match rs,vs,L,r3,J with
    |[r],[v],L,r3,J=>
     dsimp only at J;split at J
     .rename_i i l ei ql;let#[m,em,J]:=Ao J;let#[s,es,J]:=Ao J;let rp:=look (U':=[]) (Z':=[]) r3 hl L.1 ei;cases rp;split at em
      .rename_i hz;let r4:=r3.drop hl;let#[ys,y,h7,h3,hy,r5]:=Rel.popItem r4 ql h2 es;rw[<-h3]at em hz;let#[b1,b2,b3,b4]:=Ie em;let hb:ys.length<=1000000:=hz;show#[a,ys,i,m,y,rfl,rfl,h7,∅,∅,b1,hy,h6 _ _ y F2 _ J (s1.trans s2) r5 trivial]
      .cases em
     .show J.elim
    |[],_,_,_,J=>show J.elim
    |[_],[],L,_,_=>show L.elim
    |[_],_::_::_,L,_,_=>show L.2.elim
    |_::_::_,_,_,_,J=>show J.elim
  |_=>rw[qs]at M;show M.elim
section
variable{K:W.Frag}
def Rz:cZ K (λxs H Q=>∃i j,xs=[.int i,.int j]/\Q (.int (if j>i then j else i)) H) nN:=by
 intro Z U F G H vs O s Q B J e L;let#[d,M,v,u,rfl,rfl]:=GD (λx=>by cases x<;>rfl) (λx y z r=>by cases x<;>first|rfl|(cases y<;>rfl)) rfl J e;cases d with
 |int i=>
  cases M with
  |int j=>cases e;let h1:=J.1.int;let h2:=J.2.1.int;subst h1;subst h2;show#[i,j,rfl,L _ F H (zG.refl F) (B.push (.int _))]
  |_=>cases e
 |_=>cases e
def Rf:cZ K (λxs H Q=>∃i j,xs=[.int i,.int j]/\Q (.int (if j<i then j else i)) H) lL:=by
 intro Z U F G H vs O s Q B J e L;let#[d,M,v,u,rfl,rfl]:=GD (λx=>by cases x<;>rfl) (λx y z r=>by cases x<;>first|rfl|(cases y<;>rfl)) rfl J e;cases d with
 |int i=>
  cases M with
  |int j=>cases e;let h1:=J.1.int;let h2:=J.2.1.int;subst h1;subst h2;show#[i,j,rfl,L _ F H (zG.refl F) (B.push (.int _))]
  |_=>cases e
 |_=>cases e
def JY(hc:X.calm=true)(O:Gl X "max")(M:X.mg "max"=none)(L:bootBuiltins "max"=some (.builtin "max"))(ha:FA X (e::es) J)(Y:starEach (e::es) X.env=(false,eval e X.env)::starEach es X.env:=by rfl)(B:(backTo pos (starEach es X.env)).any (·.1)=false:=by rfl):FE X (.Call (.Name "max" p) (e::es) [] pos) (wB nN J):=
 Ga (λ_ _=>SY hc) Rz O M L ha ⋯ ⋯ Y B
def HM(hc:X.calm=true)(O:Gl X "min")(M:X.mg "min"=none)(L:bootBuiltins "min"=some (.builtin "min"))(ha:FA X (e::es) J)(Y:starEach (e::es) X.env=(false,eval e X.env)::starEach es X.env:=by rfl)(B:(backTo pos (starEach es X.env)).any (·.1)=false:=by rfl):FE X (.Call (.Name "min" p) (e::es) [] pos) (wB lL J):=
 Ga (λ_ _=>RQ hc) Rf O M L ha ⋯ ⋯ Y B
end
end FL
namespace FL
open PySem
mutual
def cI:D->D->Ordering
 |.int i,.int j=>if i<j then .lt else if j<i then .gt else .eq
 |.str x,.str y=>if x<y then .lt else if y<x then .gt else .eq
 |.tup l,.tup m=>aV l m
 |_,_=>.eq
def aV:List D->List D->Ordering
 |[],[]=>.eq
 |[],_::_=>.lt
 |_::_,[]=>.gt
 |a::l,b::m=>match cI a b with
  |.eq=>aV l m
  |o=>o
end
def dX(a b:D):Bool:=match cI a b with
 |.gt=>false
 |_=>true
@[simp] theorem Pw(i j:Int):dX (.int i) (.int j)=decide (i<=j):=by
  show(match(if i<j then Ordering.lt else if j<i then .gt else .eq)with|.gt=>false|_=>true)=_;by_cases h:i<j
  .rw[q5 h,qR ∅]
  .rw[q8 h];by_cases h2:j<i
   .rw[q5 h2,qS ∅]
   .rw[q8 h2,qR ∅]
@[simp] theorem Lc(x y:List Nat):dX (.str x) (.str y)=!decide (y<x):=by
  show(match(if x<y then Ordering.lt else if y<x then .gt else .eq)with|.gt=>false|_=>true)=_;by_cases h:x<y
  .rw[q5 h,qS (λh'=>lt_asymm h h')];rfl
  .rw[q8 h];by_cases h2:y<x
   .rw[q5 h2,qR h2];rfl
   .rw[q8 h2,qS h2];rfl
def lJ(x:D):List D->List D
 |[]=>[x]
 |y::r=>if dX x y then x::y::r else y::lJ x r
def cX:List D->List D
 |[]=>[]
 |x::r=>lJ x (cX r)
def IV(x:D):∀l:List D,(lJ x l).Perm (x::l)
 |[]=>.refl _
 |y::r=>by
  unfold lJ;split
  .show .refl _
  .show(List.Perm.cons y (IV x r)).trans (.swap x y r)
def DE:∀l:List D,(cX l).Perm l
 |[]=>.refl _
 |x::r=>(IV x _).trans (.cons x (DE r))
structure fG(P:D->Prop):Prop where
 tot:∀a b,P a->P b->dX a b=true\/dX b a=true
 tr:∀a b c,P a->P b->P c->dX a b=true->dX b c=true->dX a c=true
 anti:∀a b,P a->P b->dX a b=true->dX b a=true->a=b
def MY(o:fG P)(x:D)(J:P x):∀l:List D,(∀d∈l,P d)->l.Pairwise (dX · ·=true)->(lJ x l).Pairwise (dX · ·=true)
 |[],_,_=>List.pairwise_singleton _ _
 |y::r,hp,h=>by
  let#[h1,h2]:=pairwise_cons.mp h;let L:=hp y qm;let M:∀d∈r,P d:=λd B=>hp d (qk _ B);unfold lJ;split
  .rename_i c;show pairwise_cons.mpr #[λd B=>?_,h];rcases qA.mp B with rfl|B
   .show c
   .show o.tr x y d J L (M d B) c (h1 d B)
  .rename_i c;show pairwise_cons.mpr #[λd B=>?_,MY o x J r M h2];rcases qA.mp ((IV x r).mem_iff.mp B)with rfl|B
   .show(o.tot d y J L).resolve_left c
   .show h1 d B
def Gb(o:fG P):∀l:List D,(∀d∈l,P d)->(cX l).Pairwise (dX · ·=true)
 |[],_=>.nil
 |x::r,hp=>MY o x (hp x qm) _ (λd B=>hp d (qk _ ((DE r).mem_iff.mp B))) (Gb o r λd B=>hp d (qk _ B))
def Nf(o:fG P):∀l m:List D,(∀d∈l,P d)->l.Perm m->l.Pairwise (dX · ·=true)->m.Pairwise (dX · ·=true)->l=m
 |[],m,_,p,_,_=>(List.nil_perm.mp p).symm
 |x::r,[],_,p,_,_=>absurd p.length_eq (by simp)
 |x::r,y::t,hp,p,h1,h2=>by
  obtain⟨a1,Y⟩:=pairwise_cons.mp h1;let#[O,M]:=pairwise_cons.mp h2;let J:=hp x qm;let B:P y:=hp y (p.mem_iff.mpr qm);let e:x=y:=by
   let m1:x∈y::t:=p.mem_iff.mp qm;let m2:y∈x::r:=p.mem_iff.mpr qm;rcases qA.mp m1 with e|m1
   .show e
   .rcases qA.mp m2 with e|m2
    .show e.symm
    .show o.anti x y J B (a1 y m2) (O x m1)
  subst e;rw[Nf o r t (λd L=>hp d (qk _ L)) (List.Perm.cons_inv p) Y M]
def FV(o:fG P)(B:∀d∈l,P d)(p:m.Perm l)(h:m.Pairwise (dX · ·=true)):cX l=m:=
 Nf o _ _ (λd J=>B d ((DE l).mem_iff.mp J)) ((DE l).trans p.symm) (Gb o l B) h
def sI:D->Prop
 |.int _=>True
 |_=>False
def nV:D->Prop
 |.str _=>True
 |_=>False
def Iq:fG sI where
 tot
  |.int a,.int b,_,_=>by simp;lia
 tr
  |.int a,.int b,.int c,_,_,_=>by simp;lia
 anti
  |.int a,.int b,_,_=>by simp;intro h1 h2;rw[Int.le_antisymm h1 h2]
def HV:fG nV where
 tot
  |.str a,.str b,_,_=>by
   simp;by_cases h:b<a
   .show .inr λh'=>lt_asymm h h'
   .show .inl h
 tr
  |.str a,.str b,.str c,_,_,_=>by simp;intro h1 h2;show λh=>(List.le_trans (l₁:=a) (l₂:=b) (l₃:=c) h1 h2) h
 anti
  |.str a,.str b,_,_=>by simp;intro h1 h2;let:a=b:=List.le_antisymm (as:=a) (bs:=b) h1 h2;rw[this]
def gJ:List D->Option (List Int)
 |[]=>some []
 |.int x::r=>(gJ r).map (x::·)
 |_::_=>none
@[simp] theorem SI(l:List Int):gJ (l.map .int)=some l:=by
  induction l with
  |nil=>rfl
  |cons a r B=>rw[qy,gJ,B];rfl
end FL
namespace FL
open PySem PySem.Spec PyProof.Rows L2
section
variable{K:W.Frag}
def PR(r:zT K F xs l)(h:gJ l=some ys):xs=ys.map V.int/\l=ys.map D.int:=
 zT.ind (P:=λxs l=>∀ys,gJ l=some ys->xs=ys.map V.int/\l=ys.map D.int) (λys h=>by cases h;show#[rfl,rfl]) (λa _ J ys h=>by
  cases a with
  |int c=>let#[B,h1,rfl]:=qY.mp h;let#[M,L]:=J _ h1;rw[M,L];show#[rfl,rfl]
  |_=>cases h) r ys h
def Fm:∀{us:List Value}{ns:List Int},IntsAre us ns->zS (ns.map V.int) us
 |_,_,.nil=>.nil
 |_,_,.cons i t r=>.cons #[t,rfl] (Fm r)
def IZ:∀{us:List Value}{ns:List Str},StrsAre us ns->zS (ns.map V.str) us
 |_,_,.nil=>.nil
 |_,_,.cons i t r=>.cons #[t,rfl] (IZ r)
def pH(K:W.Frag):List V->Hp->VK->Prop:=λxs H Q=>∃a,xs=[.ref a]/\
 ((∃ns:List Int,ns.length<64/\bN K H a (ns.map V.int)/\∀J:List Int,J.Perm ns->J.Pairwise (·<=·)->∀q,H q=none->Q (.ref q) (upd H q (.lst (J.map V.int))))\/
  (∃L:List Str,L.length<64/\bN K H a (L.map V.str)/\∀B:List Str,B.Perm L->sortedS B=true->∀q,H q=none->Q (.ref q) (upd H q (.lst (B.map V.str)))))
def MR:aZ X (.builtin "sorted") (pH X.K):=by
 intro zV s Z H xs us Q I r h;let#[a,rfl,h]:=h;cases r with
 |cons r1 r2=>
  cases r2;cases r1;rcases h with⟨ns,O,hq,q⟩|⟨zs,O,hq,q⟩
  .obtain⟨L,r,pl,_⟩:=I.list hq;let M:L.length=ns.length:=by let:=r.length;rw[qo]at this;exact this.symm
   show sorted_ints pl.isList (IL r) (by rw[M];show O) λJ B a1 Y a3=>?_;let#[e,he]:=sortedAll_at s.heap L J;let hz:B.length<=sizeLine:=by rw[Y.length_eq,zo];lia
   show#[.ref (s.heap.objs.size+1),_,I.laid (t':=s.toks) (o:=.lst (B.map V.int)) (λb ob w=>sortedAll_old w) (le_succ _) ?_,rfl,q B Y a3 _ (I.hok.fresh (le_succ _))];show#[by rw[qo];show hz,J.toList,e,Fm a1,by rw[toArray_toList];show he]
  .obtain⟨L,r,pl,_⟩:=I.list hq;let M:L.length=zs.length:=by let:=r.length;rw[qo]at this;exact this.symm
   show sorted_strs pl.isList (He r) (by rw[M];show O) λJ B a1 Y a3=>?_;let#[e,he]:=sortedAll_at s.heap L J;let hz:B.length<=sizeLine:=by rw[Y.length_eq,zo];lia
   show#[.ref (s.heap.objs.size+1),_,I.laid (t':=s.toks) (o:=.lst (B.map V.str)) (λb ob w=>sortedAll_old w) (le_succ _) ?_,rfl,q B Y a3 _ (I.hok.fresh (le_succ _))];show#[by rw[qo];show hz,J.toList,e,IZ a1,by rw[toArray_toList];show he]
def IX:∀ns:List Int,zT K F (ns.map V.int) (ns.map D.int)
 |[]=>.nil
 |n::ns=>.cons (.int n) (IX ns)
def Ma:∀B:List Str,(∀z∈B,z.cps.toList.length<=16777216)->zT K F (B.map V.str) (B.map λz=>D.str z.cps.toList)
 |[],_=>.nil
 |z::B,h=>.cons (.str rfl (h z qm)) (Ma B λy J=>h y (qk _ J))
def MC:∀{xs:List V}{l:List D}{B:List Str},zT K F xs l->xs=B.map V.str->l=(B.map λz=>D.str z.cps.toList)/\∀z∈B,z.cps.toList.length<=16777216
 |_,_,[],.nil,_=>#[rfl,λ_ h=>by cases h]
 |_,_,_::_,.nil,h=>by simp at h
 |_,_,[],.cons _ _,h=>by simp at h
 |_,_,z::B,.cons a b,h=>by
  injection h with h1 h2
  subst h1;let#[e,k]:=MC b h2;cases a with
  |str M L=>
   subst M;show#[by rw[e];rfl,λy J=>?_];rcases qA.mp J with rfl|J
   .show L
   .show k y J
def Mn:∀(r:List Str)(p:Str),risingS p r=true->((p::r).map λz=>D.str z.cps.toList).Pairwise (dX · ·=true)
 |[],p,_=>List.pairwise_singleton _ _
 |x::r,p,h=>by
  let h':(!ltCps x.cps.toList p.cps.toList&&risingS x r)=true:=h;rw[and_eq_true,ltCps_eq]at h';let L:=Mn r x h'.2;let J:dX (.str p.cps.toList) (.str x.cps.toList)=true:=by rw[Lc];show h'.1
  show pairwise_cons.mpr #[λd B=>?_,L];rcases qA.mp B with rfl|B
  .show J
  .obtain⟨z,_,rfl⟩:=qK.mp B;show HV.tr _ (.str x.cps.toList) _ trivial trivial trivial J ((pairwise_cons.mp L).1 _ B)
def TJ:∀r:List Str,sortedS r=true->(r.map λz=>D.str z.cps.toList).Pairwise (dX · ·=true)
 |[],_=>.nil
 |x::r,h=>Mn r x h
end
def UV(B:∀id,v≠.builtin id)(h:Q (.bool (!(v==.bool d))) s):wpAny M A (compareOp .IsNot v (.bool d)) Q E s:=by cases v<;>first|show qb h|show absurd rfl (B _)
section
variable{K:W.Frag}
def zK.bool_iff(r:zK x v)(d:Bool):(v==Value.bool d)=decide (x=.bl d):=by
 cases x with
 |bl b=>cases r;cases b<;>cases d<;>rfl
 |_=>first
  |(cases r;rfl)
  |(let#[t,rfl]:=r;rfl)
def zK.noBuiltin(r:zK x v):∀id,v≠.builtin id:=by
 intro id e;subst e;cases x<;>first
  |(cases r;done)
  |(let#[t,h]:=r;cases h)
def iq(neg:Bool):R2:=λx y H Q=>(y=.non/\Q (.bl (if neg then !decide (x=.non)else decide (x=.non))) H)\/∃b,y=.bl b/\Q (.bl (if neg then !decide (x=.bl b)else decide (x=.bl b))) H
def SL:OpR X (compareOp .IsNot) (iq true):=by
 intro zV s Z H x y v u Q I B J h;rcases h with⟨rfl,q⟩|⟨b,rfl,q⟩
 .show Qt zV s Z H x .non v u Q I B J #[rfl,q]
 .cases J;show UV (zK.noBuiltin B) #[.bl _,H,I,by rw[zK.bool_iff B];rfl,q]
open Classical in
def Qw(L:aS K H x p)(J:aS K H y q)(e:bb p q=some k)(M:Q (.bl (if neg then !k else k)) H):iq neg x y H Q:=by
 cases q with
 |non=>
  cases J;let B:decide (p=.non)=k:=qf e;let:decide (x=V.non)=k:=by rw[<-B];cases L<;>simp
  show .inl #[rfl,by rw[this];show M]
 |bl b=>
  cases J;let B:decide (p=.bl b)=k:=qf e;let:decide (x=V.bl b)=k:=by rw[<-B];cases L<;>simp
  show .inr #[b,rfl,by rw[this];show M]
 |_=>cases e
def Um:dM K (iq true) eG:=λH x y p q k Q L J e M=>by
 unfold eG at e;cases B:bb p q with
 |none=>rw[B]at e;cases e
 |some b=>rw[B]at e;let O:(!b)=k:=qf e;subst O;show Qw L J B M
end
mutual
def eM:D->PyData
 |.non=>.none
 |.bl b=>.bool b
 |.int i=>.int i
 |.str l=>.str #[l.toArray]
 |.tup l=>.tuple (cW l)
 |.lst l=>.list (cW l)
 |_=>.none
def cW:List D->List PyData
 |[]=>[]
 |d::r=>eM d::cW r
end
mutual
def mO:D->Bool
 |.non=>true
 |.bl _=>true
 |.int i=>decide (i.natAbs.log2<1920)
 |.str _=>true
 |.tup l=>eD l
 |.lst l=>eD l
 |_=>false
def eD:List D->Bool
 |[]=>true
 |d::r=>mO d&&eD r
end
mutual
def UD:∀d:D,mO d=true->(eM d).showable=true
 |.non,_=>rfl
 |.bl _,_=>rfl
 |.int i,h=>h
 |.str _,_=>rfl
 |.tup l,h=>Jf l h
 |.lst l,h=>Jf l h
 |.dct _ _ _,h=>by cases h
 |.set _,h=>by cases h
 |.exc _ _ _,h=>by cases h
def Jf:∀l:List D,eD l=true->PyData.showableAll (cW l)=true
 |[],_=>rfl
 |d::r,h=>by rw[eD,and_eq_true]at h;rw[cW,PyData.showableAll,UD d h.1,Jf r h.2];rfl
end
mutual
def Td:∀d:D,(eM d).hasDict=false
 |.non=>rfl
 |.bl _=>rfl
 |.int i=>rfl
 |.str _=>rfl
 |.tup l=>IH l
 |.lst l=>IH l
 |.dct _ _ _=>rfl
 |.set _=>rfl
 |.exc _ _ _=>rfl
def IH:∀l:List D,PyData.hasDictAll (cW l)=false
 |[]=>rfl
 |d::r=>by rw[cW,PyData.hasDictAll,Td d,IH r];rfl
end
mutual
def QN:∀d:D,(eM d).depth<=eS d
 |.non=>q9 _
 |.bl _=>q9 _
 |.int i=>q9 _
 |.str _=>q9 _
 |.tup l=>Nat.succ_le_succ (IW l)
 |.lst l=>Nat.succ_le_succ (IW l)
 |.dct _ _ _=>q9 _
 |.set _=>q9 _
 |.exc _ _ _=>q9 _
def IW:∀l:List D,PyData.depthAll (cW l)<=bI l
 |[]=>q9 _
 |d::r=>by let h1:=QN d;let h2:=IW r;simp only[cW,PyData.depthAll,bI];lia
end
end FL
namespace FL
open PySem
def bh(l m:List Nat)(i:Nat):Bool:=decide (i+m.length<=l.length)&&decide ((l.drop i).take m.length=m)
def fY(l m:List Nat):Option Nat:=(List.range (l.length+1)).find? (bh l m)
def eJ:List D->Option S
 |[.tup l]=>some (.lst (l.map .sh))
 |[.lst l]=>some (.lst (l.map .sh))
 |[.str l]=>if l.length<=big then some (.lst (l.map λc=>.sh (.str [c])))else none
 |_=>none
def di:D->String
 |.non=>"NoneType"
 |.bl _=>"bool"
 |.int _=>"int"
 |.str _=>"str"
 |.tup _=>"tuple"
 |.lst _=>"list"
 |.dct _ _ _=>"dict"
 |.set _=>"set"
 |.exc _ _ _=>"?"
def jK(T:String)(d:D):Bool:=di d==T||(di d=="bool"&&T=="int")
def gG:D->Bool
 |.exc _ _ _=>false
 |_=>true
def sU(T:String)(a:WE):WE:=λU Q E=>a U (λx B=>zF (view x B) λd=>gG d=true/\Q (.v (.sh (.bl (jK T d)))) B) E
theorem find?_first(h:i<n)(B:p i=true)(hn:∀k,k<i->p k=false):(List.range n).find? p=some i:=by first|rfl|assumption|(simp_all;done)
theorem find?_not(hn:∀k,p k=false):(List.range n).find? p=none:=by grind
end FL
namespace FL
open PySem PySem.Spec PyProof.Rows L2
section
variable{K:W.Frag}
theorem zkd:StrLaws.At x y x.length i↔bh x.cps.toList y.cps.toList i=true:=by
 let h1:x.length=x.cps.toList.length:=by show x.cps.size=_;rw[qV]
 let h2:y.length=y.cps.toList.length:=by show y.cps.size=_;rw[qV]
 unfold StrLaws.At bh Builtin.Str.subAt;rw[and_eq_true,qT,qT,h2,beq_iff_eq];show and_congr_right λ_=>?_;rw[<-Array.toList_inj,Array.toList_extract,List.extract_eq_take_drop];let:i+y.cps.toList.length-i=y.cps.toList.length:=∅
 rw[this]
def Qg(x y:Str):Txt.find x y=(match fY x.cps.toList y.cps.toList with|some i=>(i:Int)|none=>-1):=by
 have B:∀{i},¬StrLaws.At x y x.length i->bh x.cps.toList y.cps.toList i=false:=λ{i} h=>by
  cases q:bh x.cps.toList y.cps.toList i with
  |false=>rfl
  |true=>show absurd (zkd.mpr q) h
 rcases find_whole x y with⟨e,h⟩|⟨i,e,hi,h⟩
 .rw[e];unfold fY;rw[find?_not λk=>B (h k)]
 .rw[e];unfold fY;let L:=hi.1;let h1:x.length=x.cps.toList.length:=by show x.cps.size=_;rw[qV]
  rw[find?_first (i:=i) (by rw[<-h1];lia) (zkd.mp hi) λk J=>B (h k J)]
def mQ:List V->Hp->VK->Prop:=λxs H Q=>∃x:Str,xs=[.str x]/\x.length<=sizeLine/\∀l,H l=none->Q (.ref l) (upd H l (.lst (x.cps.toList.map λc=>.str #[[c].toArray])))
def Jj:∀{xs:List V}{us:List Value},xs.length=us.length->(∀(j:Nat) x u,xs[j]?=some x->us[j]?=some u->zK x u)->zS xs us
 |[],[],_,_=>.nil
 |[],_::_,h,_=>by simp at h
 |_::_,[],h,_=>by simp at h
 |x::xs,u::us,h,k=>.cons (k 0 x u rfl rfl) (Jj ↑h λj B J h1 h2=>k (j+1) B J h1 ↑h2)
def UX(L:X.calm=true):aZ X (.type "list") mQ:=by
 intro zV s Z H xs us Q I r h;let#[x,rfl,O,q]:=h;let#[u,rfl,Y]:=vals1 r;let#[t,rfl]:=Y;show call_list_str (I.ok.hd L) x t (hn:=O) λh' tk J c' hk M B=>?_;let hv:zS (x.cps.toList.map λc=>V.str #[[c].toArray]) J.toList:=Jj (by rw[qo,qV,qV,B.1]) λj y v h1 h2=>by let#[c,u,L,rfl]:=B.2 j v (by rw[<-qZ];show h2);rw[qF,qZ,L]at h1;cases h1;show#[u,rfl]
 show#[.ref s.heap.objs.size,_,I.laid (t':=tk) hk (q9 _) (show zU X.prog X.w _ h' _ (.lst (x.cps.toList.map λc=>V.str #[[c].toArray])) from#[?_,J.toList,c',hv,M]),rfl,q _ (I.hok.fresh (q9 _))];rw[qo];show O
def uR(K:W.Frag):List V->Hp->VK->Prop:=λxs H Q=>rW K xs H Q\/mQ xs H Q
def MG:∀l:List Nat,zT K F (l.map λc=>V.str #[[c].toArray]) (l.map λc=>D.str [c])
 |[]=>.nil
 |c::l=>.cons (.str rfl (by show 1<=16777216;decide)) (MG l)
def TN:cZ K (uR K) eJ:=by
 intro Z U F G H vs ds s Q B J e L;let#[d,v,rfl,rfl]:=BF (λx y r=>by cases x<;>rfl) rfl J e;cases d with
 |tup l=>show .inl (Mr Z U F G H [v] [.tup l] s Q B J e L)
 |lst l=>show .inl (Mr Z U F G H [v] [.lst l] s Q B J e L)
 |str l=>
  let#[x,rfl,M,z]:=J.1.str;let e:(if l.length<=big then some (S.lst (l.map λc=>S.sh (.str [c])))else none)=some s:=e;split at e
  .rename_i Y;cases e;show .inr #[x,rfl,by rw[EV M];show Ha Y,λp O=>?_];rw[M];let h:=B.newLD O (MG l);rw[qE]at h;show L (.ref p) F (upd H p (.lst (l.map λc=>V.str #[[c].toArray]))) (zG.refl F) h
  .cases e
 |_=>cases e
def Iu(hc:X.calm=true)(O:Gl X "list")(M:X.mg "list"=none)(L:bootBuiltins "list"=some (.type "list"))(ha:FA X (e::es) J)(Y:starEach (e::es) X.env=(false,eval e X.env)::starEach es X.env:=by rfl)(B:(backTo pos (starEach es X.env)).any (·.1)=false:=by rfl):FE X (.Call (.Name "list" p) (e::es) [] pos) (wB eJ J):=
 Hg (λpn xe=>aZ.or' Vg (UX (X:=wp X pn xe) hc)) TN O M L ha ⋯ ⋯ Y B
end
def tO(T:String):Bool:=T=="bool"||T=="int"||T=="str"||T=="tuple"||T=="list"
def Ny(K:W.Frag):∀(T:String),tO T=true->∀d:D,gG d=true->W.kitOne K (.type (di d)) (.type T)=some (jK T d):=by intro T B d h2;simp[tO,or_eq_true,beq_iff_eq]at B;rcases B with(((rfl|rfl)|rfl)|rfl)|rfl<;>cases d<;>first|show absurd h2 qX|kernel_rfl
def Sb(I:Inv X zV Z H s)(J:zK x u)(O:aS X.K H x d)(hd:gG d=true)(e:W.kitOne X.K (.type (di d)) c=some b)(h:∀tk,Q (.bool b) {s with toks:=tk}):
  wpAny (model X.prog X.w) A (call (.builtin "isinstance") [u,c]) Q E s:=by
 cases O with
 |non=>show EH I J .non e h
 |bl y=>show EH I J (.bl y) e h
 |int i=>show EH I J (.int i) e h
 |str e1 z=>show EH I J (.str _) e h
 |tup B r=>show EH I J (.tup B) e h
 |lst B r=>cases J;let#[h3,r,Y,_]:=I.list B;let#[o,ho,hc,_]:=Y.isList;show W.kia_one W.kitx_list I.kIn #[o,ho,hc] e (λz=>nomatch z) h
 |@dK a L ks vs B k r=>
  cases J;rcases B with B|⟨M,B⟩
  .show EH (x:=.ref a) I rfl (.dK B) e h
  .obtain⟨_,_,_,_,p⟩:=(show zU X.prog X.w H s.heap a (.frz M (.dK L)) from I.hok a _ B)
   let#[_,o,es,ep,h1,h2,_]:=p;show W.kia_one W.kitx_dict I.kIn #[o,h1,h2.1] e (λz=>nomatch z) h
 |@dT a L ks vs B k r=>
  cases J;rcases B with B|⟨M,B⟩
  .show EH (x:=.ref a) I rfl (.dT B) e h
  .obtain⟨_,_,_,_,p⟩:=(show zU X.prog X.w H s.heap a (.frz M (.dT L)) from I.hok a _ B)
   let#[_,o,es,ep,h1,h2,_]:=p;show W.kia_one W.kitx_dict I.kIn #[o,h1,h2.1] e (λz=>nomatch z) h
 |@st a xs ds B r=>
  cases J;let t:∃o,s.heap.get? a=some o/\o.cls=.type "set":=by
   rcases I.hok a _ B with⟨_,⟨_,h1⟩|⟨_,_,_,o,_,_,_,h1,h2,_⟩|⟨_,_,_,_,o,_,_,_,h1,h2,_⟩⟩
   .show#[_,h1,rfl]
   .show#[o,h1,h2.1]
   .show#[o,h1,h2.1]
  show W.kia_one W.kitx_set I.kIn t e (λz=>nomatch z) h
 |exc _ _=>cases hd
section
variable{TS:String}
def NK(hg:Gl X "isinstance")(hm:X.mg "isinstance"=none)(hv:bootBuiltins "isinstance"=some (.builtin "isinstance"))(h2:Gl X T)(h1:X.mg T=none)(L:bootBuiltins T=some (.type TS))(hT:tO TS=true)(ha:FE X a wa)
  (Y:T≠"__name__":=by decide)(h3:(T==("__debug__":Str))=false:=by decide)
  (he:starEach [a,.Name T pt] X.env=(false,eval a X.env)::starEach [.Name T pt] X.env:=by rfl)(h4:starEach [.Name T pt] X.env=[(false,eval (.Name T pt) X.env)]:=by rfl)(M:(backTo pos (starEach [.Name T pt] X.env)).any (·.1)=false:=by rfl):
  FE X (.Call (.Name "isinstance" p) [a,.Name T pt] [] pos) (sU TS wa):=λpn xe hp=>by
 intro zV s Z H Q I h;show wpAny_Call_Name_kw (DJ (X:=wp X pn xe) I hg hm hv ?_ ⋯ ⋯);show PyProof.Rows.callWith_builtin1 ?_ he M;rw[he];show Calls.spliced_cons (Am (ha pn xe hp zV s Z H _ I (one (k:=λx B Q E=>zF (view x B) λd=>gG d=true/\Q (.v (.sh (.bl (jK TS d)))) B) h)) λu s1 zq=>?_);let#[x,H1,I1,r1,q1]:=zq;show Calls.spliced_cons (DJ (X:=wp X pn xe) I1 h2 h1 L (Calls.spliced_nil ?_) Y h3);let#[F,G,U,y,P,PX,J,hl,ry,hk,O,hx]:=q1;let#[d,ed,hd,hk]:=Ao hk;let rp:=look (U':=[]) (Z':=[]) J hl ry ed;show Sb I1 r1 rp hd (Ny _ TS hT d hd) λtk=>#[.bl _,H1,I1.kept λ_ _ z=>z,rfl,?_]
 show O _ U _ F H1 hk (zG.refl F) ((J.drop hl).push (.bl _)) trivial
end
def GI:bootBuiltins "int"=some (.type "int"):=by decide+kernel
def Ee:bootBuiltins "tuple"=some (.type "tuple"):=by decide+kernel
def Ib:bootBuiltins "list"=some (.type "list"):=by decide+kernel
def PN:bootBuiltins "bool"=some (.type "bool"):=by decide+kernel
def JP:bootBuiltins "max"=some (.builtin "max"):=by decide+kernel
def HH:bootBuiltins "min"=some (.builtin "min"):=by decide+kernel
def Ff:bootBuiltins "sorted"=some (.builtin "sorted"):=by decide+kernel
def UZ:bootBuiltins "isinstance"=some (.builtin "isinstance"):=by decide+kernel
def BL(B:bX k A):A.units+32<cLine:=by let:=B.units;lia
def CI(B:bX k A):A.units+31<cLine:=by let:=B.units;lia
theorem uq{N:List Str}(h:(N.zipIdx.all λp=>!(p.1==x)||p.2==i)=true):∀j,N[j]?=some x->j=i:=by intro j B;let:=qI.mp h (x,j) (by rw[List.mem_zipIdx_iff_getElem?];simpa using B);simpa using this
instance(outer scope:Scope)(N vars:List Str):Decidable (scope.kind=.function/\(∀x∈scope.names,x.2=.free->outer.names.lookup x.1=some .cell\/outer.names.lookup x.1=some .free)/\(scope.names.map (·.1)).Nodup/\
  (∀x∈N,x∉vars->(x,NameKind.local)∉scope.names/\(x,NameKind.cell)∉scope.names)/\scope.names.lookup Str.empty=none):=inferInstance
def xE(B scope:Scope)(N vars:List Str):Bool:=decide (scope.kind=.function/\(∀x∈scope.names,x.2=.free->B.names.lookup x.1=some .cell\/B.names.lookup x.1=some .free)/\(scope.names.map (·.1)).Nodup/\
    (∀x∈N,x∉vars->(x,NameKind.local)∉scope.names/\(x,NameKind.cell)∉scope.names)/\scope.names.lookup Str.empty=none)
def As(h:xE outer scope N vars=true):bY outer scope N vars:=
 let⟨a,b,c,d,e⟩:=qU h
 #[a,b,c,d,e]
def Rn{K:W.Frag}(r:aK K F H v (.sh (.bl true)) fp):v=.bl true:=by
 cases r with
 |sh r=>cases r;rfl
def Om{K:W.Frag}(h:∀ns:List Int,ns.length<=63->O [.sh (.lst (ns.map .int))] (λs _=>s=.sh (.bl true)) λ_ _=>False)(H:Hp)(a:Addr)(ns:List Int)(hl:ns.length<=63)(hS:bN K H a (ns.map V.int)):
  dP K O 1 [.ref a] H (λv _=>v=.bl true) λ_ _ _=>False:=by
 show#[H,λ_=>none,[.sh (.lst (ns.map .int))],_,_,rfl,#[zG.refl H,λ_ _ z=>(nomatch z),[]++[],.so (.sh (.lst hS (IX ns))) .nil,List.nodup_nil,λ_ z=>(nomatch z)],h ns hl,λs B v F' H' Y sm J r=>?_,λ_ _ _ _ _ _ z=>z.elim];subst Y;let#[u,fp,M,q]:=r.at (i:=B.length) (s:=.sh (.bl true)) (by let:=EF (U:=B.map some) (o:=some (.sh (.bl true))) (U':=[]);simpa using this)
 let L:B.length=1:=J;rw[L]at M;let:u=v:=↑M.symm
 rw[<-this];show Rn q
end FL
namespace FL
def dA(j:Nat)(e:WE):WE:=λU Q E=>match slot U j with
 |some (.lst _)=>e U (λr B=>match r,slot B j with
  |.v (.lst m),some (.lst l)=>l.length+m.length<=big/\Q (.v (.sh .non)) (B.set j (some (.lst (l++m))))
  |_,_=>False) E
 |_=>False
end FL
namespace FL
open PySem PySem.Spec PyProof.Rows L2
def NY(ha:FE X a Y):FE X (.UnaryOp .USub a pos) (fm pM Y):=λpn xe hp=>by
 show PE.imp (NN NI (ha pn xe hp)) λZ H Q q=>?_;show(one (k:=λx B Q E=>zF (zR x B) λp=>zF (pM p) λs=>Q (.v s) B) q).mono λv H1 h1=>?_;let#[F,G,U,x,P,PX,L,hl,rx,J,M,hx]:=h1;let#[p,ep,J]:=Ao J;let#[s,es,J]:=Ao J;let#[O,s1,re,r1]:=AY (U':=[]) (Z':=[]) L hl rx ep;cases p with
 |int i=>have e:=re.int;subst e;show#[i,rfl,M _ U _ O H1 J s1 ((show Rel _ U Z O G H1 by simpa using r1).push (.int _)) trivial]
 |_=>cases es
section
variable{K:W.Frag}
def zJ.app:∀{xs ys:List V}{l m:List S}{fp fq:List Addr},zJ K F H xs l fp->zJ K F H ys m fq->zJ K F H (xs++ys) (l++m) (fp++fq)
 |_,_,_,_,_,_,.nil,r=>r
 |_,_,_,_,_,_,.cons a b,r=>by rw[qp];show .cons a (zJ.app b r)
def Rel.extend{D B:Addr}(r:Rel K (U++[some (.lst m)]) (Z++[some (.ref B)]) F G H)(hs:slot U n=some (.lst l))(h2:Z[n]?=some (some (.ref D))):
  ∃xs ys,H D=some (.lst xs)/\H B=some (.lst ys)/\xs.length=l.length/\ys.length=m.length/\Rel K (U.set n (some (.lst (l++m)))) Z F G (upd H D (.lst (xs++ys))):=by
 let hl:=Ah r;let#[fp,e,nd,ap]:=r.en;let#[f1,f2,rfl,a,b]:=e.cut hl;let#[v',Y,fi,O,e1,rfl,q,up]:=a.at hs;rw[h2]at e1;let e2:V.ref D=v':=↑e1
 subst e2;cases q with
 |lst hD rl=>
  rename_i xs M;cases b with
  |so sr nl=>
   cases nl;cases sr with
   |lst hB rm=>
    rename_i ys fs;show#[xs,ys,hD,hB,rl.len,rm.len,?_];let es:Z.set n (some (.ref D))=Z:=Fb h2;let#[n1,n2,h6]:=qw.mp nd;let#[na,J,h5]:=qw.mp n1;let#[ni,nb,J]:=qw.mp J;let#[nD,e3]:=qL.mp ni;let h9:D∉Y:=λz=>h5 D z D (qj _ qm) rfl;let h8:D∉O:=λz=>J D qm D z rfl;let h7:D∉fs:=λz=>h6 D (qi _ (qj _ qm)) D (by simpa using .inr z) rfl;let h3:=ap D (qj _ (qi _ (qj _ qm)));let ne:∀{l:List Addr},D∉l->∀x∈l,upd H D (.lst (xs++ys)) x=H x:=λh x L=>An λz=>h (z▸L);let new:aK K F (upd H D (.lst (xs++ys))) (.ref D) (.lst (l++m)) (D::(M++fs)):=.lst AX (zJ.app (rl.mono (zG.refl F) (ne nD)) (rm.mono (zG.refl F) (ne h7)));let a2:=up (F':=F) (H':=upd H D (.lst (xs++ys))) (o:=some (.lst (l++m))) (u:=some (.ref D)) (zG.refl F) (λx L=>An λz=>(qx.mp L).elim (λw=>h9 (z▸w)) λw=>h8 (z▸w)) (.so new .nil);rw[es]at a2;let p:(B::(Y++((D::(M++fs))++[]++O))).Perm (Y++((D::M)++O)++(B::fs++[])):=by
     simp;show(List.Perm.cons _ (List.Perm.append_left _ (List.Perm.cons _ (List.Perm.append_left _ qN)))).trans ?_;let h1:(Y++D::(M++(O++B::fs))).Perm (B::(Y++D::(M++(O++fs)))):=by let:=perm_middle (a:=B) (l₁:=Y++D::(M++O)) (l₂:=fs);simpa using this
     show h1.symm
    let h4:=p.nodup_iff.mpr nd;show#[zG.updR r.fr h3.1,λx o w=>?_,_,a2,(qL.mp h4).2,λx L=>ap x (p.mem_iff.mp (qk _ L))];let L:x≠D:=λz=>by rw[z,h3.2]at w;cases w
    rw[An L];show r.gr x o w
end
def Hi(ho:FE X o (zw j))(he:FE X e we)
  (h3:attributeBase o "extend" X.env (eval o X.env)=eval o X.env:=by rfl)
  (h6:((backTo cpos (starEach [e] X.env)).all (λx=>!x.1)&&(backToKw cpos (keywordEach [] X.env)).all (λx=>x.1.isSome)
   &&decide ([e].length+([]:List Keyword).length+(if([]:List Keyword).isEmpty then 0 else 1)<30))=true:=by rfl)
  (h1:(apos.endLine==cpos.line)=true:=by rfl)(hs:starEach [e] X.env=[(false,eval e X.env)]:=by rfl):FE X (.Call (.Attribute o "extend" apos) [e] [] cpos) (dA j we):=λpn xe hp=>by
 refine PE.imp (ER (X:=wp X pn xe) PySem.F.plainAttrs_list PySem.F.slot_list_extend PySem.F.type_list_extend SN (ho pn xe hp) (Aa he Ab hs pn xe hp) h3 h6 h1 hs rfl) λZ H Q q=>?_;let#[F,G,U,P,PX,h8,hw,h9,hx]:=q;let M:(match slot U j with
  |some (.lst _)=>we U (λr J=>match r,slot J j with
   |.v (.lst m),some (.lst l)=>l.length+m.length<=big/\P (.v (.sh .non)) (J.set j (some (.lst (l++m))))
   |_,_=>False) PX
  |_=>False):=hw
 cases qs:slot U j with
 |none=>rw[qs]at M;show M.elim
 |some s0=>
  cases s0 with
  |lst l0=>
   rw[qs]at M;show#[F,G,U,λy Y=>y=.loc j/\Y=U,PX,h8,by unfold zw;rw[qs];show#[rfl,rfl],λy Y o' F1 H1 O s1 r1 rv=>?_,hx];let#[rfl,rfl]:=O;let l1:=Ah r1;let h4:Z[j]?=some (some o'):=rv;let r2:=r1.drop l1;let#[v',fp,e1,sr]:=r2.at qs;rw[h4]at e1;let e2:o'=v':=↑e1
   subst e2;cases sr with
   |lst hD rl=>
    rename_i a xs fl;show#[.inl #[rfl,_,bN.of hD],F1,G,Y,λrs J=>match rs with|[r]=>(match r,slot J j with|.v (.lst m),some (.lst l)=>l.length+m.length<=big/\P (.v (.sh .non)) (J.set j (some (.lst (l++m))))|_,_=>False)|_=>False,PX,r2,M,λrs J vs F2 H2 O s2 r3 hl L=>?_,hx.grow s1];match rs,vs,L,r3,O with
    |[r],[v],L,r3,O=>
     dsimp only at O;split at O
     .rename_i m l ql;let#[u,fq,eu,su]:=r3.at (i:=J.length) (s:=.lst m) EF;rw[hl,getElem?_append_right (q9 _)]at eu;let e3:v=u:=by simpa using eu
      subst e3;cases su with
      |@lst b zs _ _ hB rb=>let#[ys,h7,e4,hi,h5,h2,r5]:=Rel.extend (B:=b) r3 ql h4;show#[a,b,ys,h7,rfl,rfl,e4,hi,by rw[h5,h2];show le_trans O.1 ⋯,h9 _ _ .non F2 _ O.2 (s1.trans s2) (r5.push .non) trivial]
     .show O.elim
    |[],_,_,_,O=>show O.elim
    |[_],[],L,_,_=>show L.elim
    |[_],_::_::_,L,_,_=>show L.2.elim
    |_::_::_,_,_,_,O=>show O.elim
  |_=>rw[qs]at M;show M.elim
open AutoSeq1 (wpAny_loadPart')
def NW(L:s.heap.IsTupleIter u z n)(hz:s.heap.IsTuple z xs)(M:xs[n]?=some v)(k:∀h',h'.IsTupleIter u z (n+1)->Heap.SameBut u s.heap h'->Q v {s with heap:=h'}):
  wpAny (model prog w) A (Builtin.SmallTypes.nextOf (.ref u)) Q E s:=by
 let#[ob,J,e1,B]:=id L;let#[zb,Y,_,zn,O]:=hz;apply qa;show wpAny_callSpecial?_slot (name:=Str.ofString "__next__") L.typeIs F.slot_tuple_iterator_next (zm F.slot_tuple_iterator_next L.typeIs F.entry_tuple_iterator_next ?_ (F.args_tuple_iterator_next_1 _));show wpAny _ _ (field (.ref u) 0>>=_) _ _ _;apply qa;show zj J B (x:=.ref z) rfl ?_;apply qa;show zj J B (x:=.int n 0) rfl ?_;apply qa;show wpAny_seqItems Y O ?_;simp[qW,M];apply qa;show wpAny_setField J B (by simp) (qb #[v,rfl,qb (k _ #[_,zi _ J (Obj.isFreed_of_fields (Obj.data_mapFields B _)),(Obj.cls_mapFields ..).trans e1,?_] (Heap.SameBut.update ..))]);rw[Obj.data_mapFields B];simp[rawInt]
def MD(M:A.handled=none)(B:s.heap.IsTupleIter u z n)(hz:s.heap.IsTuple z xs)(O:xs[n]?=none)
  (k:∀h' e,Heap.ExtBut u s.heap h'->(∃o,h'.get? e=some o/\o.cls=.type "StopIteration")->E (.ref e) {s with heap:=h'}):wpAny (model prog w) A (Builtin.SmallTypes.nextOf (.ref u)) Q E s:=by
 let#[ob,L,e1,J]:=id B;let#[zb,f0,_,zn,Y]:=hz;apply qa;show wpAny_callSpecial?_slot (name:=Str.ofString "__next__") B.typeIs F.slot_tuple_iterator_next (zm F.slot_tuple_iterator_next B.typeIs F.entry_tuple_iterator_next ?_ (F.args_tuple_iterator_next_1 _));show wpAny _ _ (field (.ref u) 0>>=_) _ _ _;apply qa;show zj L J (x:=.ref z) rfl ?_;apply qa;show zj L J (x:=.int n 0) rfl ?_;apply qa;show wpAny_seqItems f0 Y ?_;simp[qW,O];apply qa;apply wpAny_rule;apply qa;show wpAny_setField L J (by simp) ?_;apply qa;apply qa;show zk ?_ (by size_fits);show qa (m:=firstArgMember _ _) (zt (a:=Value.none) (by first|rfl|(simp;rfl)) (zk ?_ (by size_fits)));apply qa;show wpAny_handled ?_;first|rw[show A.in1.handled=none from M]|rw[M]
 show qa (qb (wpAny_throw (k _ _ (((Heap.SameBut.update ..).extBut.push _).push _) #[_,qd _ rfl,rfl])))
def SV{prog:Program}{w:World}{A:Around}(hh:A.handled=none)(u z:Addr)(hne:z≠u)(xs:Array Value):
  Draws prog w A u [u,z] xs.size (λi v=>xs[i]?=some v) (λi h=>h.IsTupleIter u z i/\h.IsTuple z xs) where
 live:=λ_ _ st=>let#[o,e,_]:=st.1;#[o,e]
 frame:=λ_ _ _ st k=>#[st.1.at λo e=>k u (by simp) o e,by let#[o,e,r]:=st.2;show#[o,k z (by simp) o e,r]]
 item:=λi s Q E hi st k=>NW st.1 st.2 (v:=xs[i]) (by simp) λh' a b=>k _ h' s.toks (by simp[hi]) #[a,by let#[o,e,r]:=st.2;show#[o,b.extBut _ _ hne e,r]] b
 done:=λs Q E st k=>MD hh st.1 st.2 (by simp) k
inductive SrcI(P:Program)(w:World)(A:Around)(it:Addr)(J:It)(tn:Nat->Heap->Prop)(i:Nat)(s:Shared)(H:Hp):Prop
 |mk (fp:List Addr) (n:Nat) (Pr:Nat->Value->Prop) (Sx:Nat->Heap->Prop):Draws P w A it fp n Pr Sx->Sx i s.heap->i<n->it∈fp->(∀b∈fp,b=it\/(H b≠none/\∃o,s.heap.get? b=some o/\o.cls=.type "tuple")\/∃o,s.heap.get? b=some o/\o.cls=.type "list")->(∀v,Pr i v->∃x,zK x v/\J.yld i H x H)->(∀h',Sx (i+1) h'->tn (i+1) h')->SrcI P w A it J tn i s H
structure sH(P:Program)(w:World)(K:W.Frag)(J:It)(it:Addr)(tn:Nat->Heap->Prop):Prop where
 live:∀i h,tn i h->∃o,h.get? it=some o/\(∀v,o.data≠.cell v)/\o.cls≠.type "enumerate"/\o.cls≠.type "zip"/\o.cls≠.type "tuple"/\o.cls≠.type "list"
 keep:∀i h h',tn i h->(∀o,h.get? it=some o->h'.get? it=some o)->tn i h'
 yl:∀i H x H',J.yld i H x H'->H'=H
 item:∀(X:Cx),X.prog=P->X.w=w->X.K=K->∀(i:Nat)(zV:List (Addr×Obj))(s:Shared)(Z:St)(H:Hp)(A:Around),A.handled=none->Inv X zV Z H s->tn i s.heap->H it=none->J.go i H->
  SrcI P w A it J tn i s H
 done:∀(X:Cx),X.prog=P->X.w=w->X.K=K->∀(i:Nat)(zV:List (Addr×Obj))(s:Shared)(Z:St)(H:Hp)(A:Around),A.handled=none->Inv X zV Z H s->tn i s.heap->J.stop i H->∀(Q:zv)(E:zv),
  (∀h' e,Heap.ExtBut it s.heap h'->(∃o,h'.get? e=some o/\o.cls=.type "StopIteration")->E (.ref e) {s with heap:=h'})->wpAny (model P w) A (Builtin.SmallTypes.nextOf (.ref it)) Q E s
def LH{P:Program}{w:World}{K:W.Frag}(a it:Addr):sH P w K (xW K a) it (λi h=>h.IsListIter it a i) where
 live:=λi h st=>by let#[o,e,c,d]:=st;show#[o,e,λv z=>by(rw[d]at z;cases z),by rw[c];decide,by rw[c];decide,by rw[c];decide,by rw[c];decide]
 keep:=λi h h' st k=>st.at k
 yl:=λi H x H' h=>h.1
 item:=by
  intro X hP hw hK i zV s Z H A hh I st hn hg;subst hP hw hK;let#[xs,x,hq,hx]:=hg;let#[zZ,rv,p,hz]:=I.list hq;let#[lo,l1,l2,l3]:=id p.isList;let hne:a≠it:=λz=>by let#[o,e,c,d]:=id st;rw[<-z,l1]at e;cases e;rw[l2]at c;show absurd c ⋯
  let hl:=rv.length;let hi:i<zZ.toArray.size:=by let:=(qg.mp hx).1;rw[qr];lia
  show#[_,_,_,_,Draws.list hh it a hne zZ.toArray,#[st,p.isList],hi,m1,λb hb=>?_,λv hv=>?_,λh' z=>z.1]
  .simp at hb;rcases hb with rfl|rfl
   .show .inl rfl
   .show .inr (.inr #[lo,l1,l2])
  .obtain⟨u,hu,ru⟩:=rv.get hx;let:u=v:=by
    let hv':zZ[i]?=some v:=↑hv
    rw[hu]at hv';show qf hv'
   subst this;show#[x,ru,rfl,λys hy=>by rw[I.list_inj hy hq];show hx]
 done:=by intro X hP hw hK i zV s Z H A hh I st hg Q E k;subst hP hw hK;let#[xs,hq,hx]:=hg;let#[zZ,rv,p,hz]:=I.list hq;let hl:=rv.length;show wpAny_nextOf_list_end hh st p.isList (by simp;lia -verbose) k
def dv(a:Addr):It:=#[λi H=>∃xs x,H a=some (.tup xs)/\xs[i]?=some x,λi H x H'=>H'=H/\∀xs,H a=some (.tup xs)->xs[i]?=some x,λi H=>∃xs,H a=some (.tup xs)/\xs.length<=i]
def Kq{P:Program}{w:World}{K:W.Frag}(a it:Addr):sH P w K (dv a) it (λi h=>h.IsTupleIter it a i) where
 live:=λi h st=>by let#[o,e,c,d]:=st;show#[o,e,λv z=>by(rw[d]at z;cases z),by rw[c];decide,by rw[c];decide,by rw[c];decide,by rw[c];decide]
 keep:=λi h h' st k=>st.at k
 yl:=λi H x H' h=>h.1
 item:=by
  intro X hP hw hK i zV s Z H A hh I st hn hg;let#[xs,x,hq,hx]:=hg;let#[zZ,rv,p,hz]:=I.tuple (bM.of hq);let#[lo,l1,l2,l3]:=id p;let hne:a≠it:=λz=>by rw[z,hn]at hq;cases hq
  let hl:=rv.length;let hi:i<zZ.toArray.size:=by grind
  show#[_,_,_,_,SV hh it a hne zZ.toArray,#[st,p],hi,m1,λb hb=>?_,λv hv=>?_,λh' z=>z.1]
  .grind
  .obtain⟨u,hu,ru⟩:=rv.get hx;let:u=v:=by grind
   subst this;show#[x,ru,rfl,λys hy=>by rw[hq]at hy;cases hy;show hx]
 done:=by intro X hP hw hK i zV s Z H A hh I st hg Q E k;let#[xs,hq,hx]:=hg;let#[zZ,rv,p,hz]:=I.tuple (bM.of hq);let hl:=rv.length;show MD hh st p (by simp;lia -verbose) k
def KH{P:Program}{w:World}{K:W.Frag}(it:Addr)(x:Str)(t:Tok):sH P w K (xK x) it (λi h=>h.IsStrIter it (strIterType x) x t i) where
 live:=λi h st=>by
  obtain⟨o,e,c,d⟩:=st;let hc:o.cls=.type "str_ascii_iterator"\/o.cls=.type "str_iterator":=by
   rw[c];unfold strIterType;split
   .show .inl rfl
   .show .inr rfl
  grind
 keep:=λi h h' st k=>by let#[o,e,r]:=st;show#[o,k o e,r]
 yl:=λi H x H' h=>h.1
 item:=by
  intro X hP hw hK i zV s Z H A hh I st hn hg;let fin:∀v:Value,(∃c u,x.cps[i]?=some c/\v=.str #[[c].toArray] u)->∃y,zK y v/\(xK x).yld i H y H:=λv⟨c,u,e,ev⟩=>#[.str #[[c].toArray],by rw[ev];show#[u,rfl],rfl,c,e,rfl]
  cases ha:x.cps.all (·<128)
  .let e:strIterType x="str_iterator":=by unfold strIterType;rw[ha];rfl
   rw[e]at st⊢;show#[_,_,_,_,Draws.strWide hh it x t,st,hg,m1,λb hb=>.inl ↑hb,fin,λ_ z=>z]
  .let e:strIterType x="str_ascii_iterator":=by unfold strIterType;rw[ha];rfl
   rw[e]at st⊢;show#[_,_,_,_,Draws.strAscii hh it x t,st,hg,m1,λb hb=>.inl ↑hb,fin,λ_ z=>z]
 done:=by
  intro X hP hw hK i zV s Z H A hh I st hg Q E k;let hn:x.cps[i]?=none:=by let:x.cps.size<=i:=hg;simp[this]
  cases ha:x.cps.all (·<128)
  .let e:strIterType x="str_iterator":=by unfold strIterType;rw[ha];rfl
   rw[e]at st;show wpAny_nextOf_wide_end hh st hn k
  .let e:strIterType x="str_ascii_iterator":=by unfold strIterType;rw[ha];rfl
   rw[e]at st;show wpAny_nextOf_ascii_end hh st hn k
end FL
namespace FL
def cN(k:Nat):List D->List D
 |[]=>[]
 |d::l=>.tup [.int k,d]::cN (k+1) l
def kJ(a:WE):WI:=λU Q E=>a U (λr B=>zF (give r B) λp=>zF (items p.1.toD) λl=>Q (cN 0 l) p.2) E
def dF:List D->List D->List D
 |d::l,e::m=>.tup [d,e]::dF l m
 |_,_=>[]
def sT(a b:WE):WI:=λU Q E=>a U (λr J=>b J (λt B=>zF (give r B) λp=>zF (give t p.2) λq=>zF (items p.1.toD) λl=>zF (items q.1.toD) λm=>Q (dF l m) q.2) E) E
def Mf:∀(l:List D)(k i:Nat)(d:D),(cN k l)[i]?=some d->∃e,l[i]?=some e/\d=.tup [.int ((k+i:Nat):Int),e]
 |[],_,_,_,h=>by simp[cN]at h
 |e::l,k,0,d,h=>by simp[cN]at h;show#[e,rfl,↑h.symm]
 |e::l,k,i+1,d,h=>by let#[B,h1,h2]:=Mf l (k+1) i d (by simpa[cN] using h);show#[B,↑h1,by rw[h2];congr 4;lia]
def Mp:∀(l:List D)(k:Nat),(cN k l).length=l.length
 |[],_=>rfl
 |_::l,k=>by simp[cN,Mp l]
def Ll:∀(l m:List D)(i:Nat)(d:D),(dF l m)[i]?=some d->∃e f,l[i]?=some e/\m[i]?=some f/\d=.tup [e,f]
 |[],_,_,_,h=>by simp[dF]at h
 |_::_,[],_,_,h=>by simp[dF]at h
 |e::l,f::m,0,d,h=>by simp[dF]at h;show#[e,f,rfl,rfl,h.symm]
 |e::l,f::m,i+1,d,h=>by let#[L,J,h1,h2,B]:=Ll l m i d (by simpa[dF] using h);show#[L,J,↑h1,↑h2,B]
def Lj:∀(l m:List D),(dF l m).length=min l.length m.length
 |[],_=>by simp[dF]
 |_::_,[]=>by simp[dF]
 |_::l,_::m=>by simp[dF,Lj l m]
end FL
namespace FL
open PySem PySem.Spec PyProof.Rows L2
open AutoSeq1 (wpAny_loadPart')
def FP{ch:List Addr}(I:Inv X zV Z H s)(J:∀b∈ch,cH X zV H b)(k:∀b o,b∉ch->s.heap.get? b=some o->h'.get? b=some o):Inv X zV Z H {s with heap:=h',toks:=t'}:=by
 let L:∀b u,H b=some u->b∉ch:=λb u e z=>by rw[(J b z).1]at e;cases e
 refine I.step (g':=s.gens) (d':=s.drawn) (ch:=ch) (λb Y=>?_) (λb o _ _ B e _=>k b o B e) (λb o _ _ B e _=>#[o.slots,k b o B e]) (λ_ _ _ _ n=>n)
  (λb o B e=>#[o,k b o B e]) (λ_ _ e=>e) (λ_ _ _ e=>e) (λb ps e=>#[#[],by rw[e];simp]) (λm O=>?_) (λb u e=>?_) I.bare
 .obtain⟨f0,f1,f2,f3,f4,f5⟩:=J b Y;show#[f3,f1,f4,f5]
 .obtain⟨o,es,ep,M,r⟩:=O;show#[o,es,ep,k _ o (λz=>(J _ z).2.1 rfl) M,r]
 .show(I.hok b u e).stay (λc v B q=>k c v ?_ q) (λ_ q=>q) λ_ _ q=>q;grind
def SC(f:cH X zV H b)(h:b≠T):cH X zV (L2.upd H T o) b:=#[by rw[An h];show f.1,f.2]
def MZ{ch:List Addr}(I:Inv X zV Z H s)(hf:∀b∈ch,cH X zV H b)(hl:∀b∈ch,b<s.heap.objs.size)(hz:xs.length<=sizeLine)(M:zS xs us)
  (hT:∃o,h'.get? s.heap.objs.size=some o/\o.cls=.type "tuple"/\o.dict=none/\∃n,o.data=.seq us.toArray n)(k:∀b o,b∉ch->s.heap.get? b=some o->h'.get? b=some o):
  Inv X zV Z (L2.upd H s.heap.objs.size (.tup xs)) {s with heap:=h',toks:=t'}:=by
 let#[o,e,c,Y,n,d]:=hT;let B:o.isFreed=false:=by let#[oc,od,L,O]:=o;let d':L=.seq us.toArray n:=d;subst d';rfl
 have I1:Inv X zV Z (L2.upd H s.heap.objs.size (.tup xs)) {s with heap:=s.heap.push o}:=I.laid (t':=s.toks) (λb u q=>qc _ q) (q9 _) #[#[hz,λo' q=>by rw[qd _ B]at q;cases q;show Y],us,M,#[o,qd _ B,c,n,d]];let I2:=FP I1 (h':=h') (t':=t') (ch:=ch) (λb J=>SC (hf b J) (ne_of_lt (hl b J))) λb u J q=>by
  rcases Heap.get?_push_cases q with⟨rfl,rfl⟩|q
  .show e
  .show k b u J q
 show I2
def xX(J:It):It:=#[J.go,λi H x H'=>∃p y,H p=none/\J.yld i H y H/\x=.ref p/\H'=upd H p (.tup [.int i,y]),J.stop]
def QJ(M:IsEnum s.heap e it i O)(hd:∀(Q:zv)(E:zv),(∀h' x,Heap.ExtBut it s.heap h'->(∃o,h'.get? x=some o/\o.cls=.type "StopIteration")->E (.ref x) {s with heap:=h'})->wpAny (model prog w) A.in1 (Builtin.SmallTypes.nextOf (.ref it)) Q E s)
  (hQ:∀h',Heap.ExtBut it s.heap h'->Q none {s with heap:=h'}):wpAny (model prog w) A (pyNext (.ref e)) Q E s:=by
 let L:s.TypeIs (.ref e) "enumerate":=#[_,M,rfl]
 apply qa;apply wpAny_attempt;show wpAny_callSpecial?_slot (name:=Str.ofString "__next__") L F.slot_enumerate_next (zm F.slot_enumerate_next L F.entry_enumerate_next ?_ (F.args_enumerate_next_1 _));show wpAny _ _ (field (.ref e) 2>>=_) _ _ _;apply qa;show zj M rfl (x:=.ref it) rfl (qa (hd _ _ λh' x J B=>?_));let#[o,Y,hc]:=B;show qa (wpAny_isInstance (T:="StopIteration") (b:=true) #[o,Y,hc] isSubtype_stop (qb (hQ _ J)))
def Tf{P:Program}{w:World}{K:W.Frag}{J:It}{it e:Addr}{tn:Nat->Heap->Prop}{elts:List Expr}{k:Nat}{pos:Pos}(S:sH P w K J it tn)(hei:e≠it):
  iE P w K (.Tuple elts k pos) (xX J) [e,it] e (λi h=>(∃old,IsEnum h e it i old)/\tn i h) where
 mem:=m1
 obj:=λi h st b hb=>by
  simp at hb;rcases hb with rfl|rfl
  .obtain⟨old,q⟩:=st.1;show#[_,q,λv z=>by cases z]
  .obtain⟨o,h1,h2,_⟩:=S.live i h st.2;show#[o,h1,h2]
 keep:=λi h h' st kk=>by let#[#[old,q],t]:=st;show#[#[old,kk e (m1) _ q],S.keep i h h' t λo q=>kk it (m2) o q]
 item:=by
  intro X hP hw hK hc i zV s Z H E I hf st hg;let#[#[old,he],ht]:=st;let hh:X.A.in1.handled=none:=I.ok.hd hc;let#[fp,n,Pr,Sx,D,hS,hin,hif,hfp,hv,hs]:=S.item X hP hw hK i zV s Z H X.A.in1 hh I ht (hf it (m2)).1 hg;let hef:e∉fp:=λz=>by grind
  have hel:e<s.heap.objs.size:=qe he;let#[oi,hoi,_]:=S.live i _ ht;let hil:it<s.heap.objs.size:=qe hoi;show wpAny_pyNext_enum_itemD (A:=X.A) D he hS hin hei hef λx h1 tk hPx ho hS1 hT hsz hk=>?_;let#[y,ry,hy]:=hv x hPx;show#[_,rfl,wpAny_letOwnedTupleGo_enum ho λh2 he2 sb=>?_];let ne:s.heap.objs.size≠e:=ne_of_gt hel;let I2:Inv X zV Z (upd H s.heap.objs.size (.tup [.int i,y])) {s with heap:=h2,toks:=tk+1}:=MZ I (ch:=[e,it]) (us:=[.int i tk,x]) hf (λb hb=>by
    simp at hb;rcases hb with rfl|rfl
    .show hel
    .show hil) (by show 2<=_;decide) (.cons #[_,rfl] (.cons ry .nil)) #[_,sb.extBut _ _ ne hT,rfl,rfl,_,rfl] λb o hb q=>by
   simp at hb;show sb.extBut _ _ hb.1 (hk b o hb.1 hb.2 q)
  show#[.ref s.heap.objs.size,_,I2,rfl,#[s.heap.objs.size,y,I.hok.fresh (q9 _),hy,rfl,rfl],#[#[x,he2],S.keep _ _ _ (hs _ hS1) λo q=>sb.extBut _ _ (Ne.symm hei) q],λb hb=>?_];simp at hb;rcases hb with rfl|rfl
  .rw[An (ne_of_lt hel)];show(hf _ (m1)).1
  .rw[An (ne_of_lt hil)];show(hf _ (m2)).1
 done:=by intro X hP hw hK hc i zV s Z H E I hf st hg;let#[#[old,he],ht]:=st;let hh:X.A.in1.handled=none:=I.ok.hd hc;show QJ he (S.done X hP hw hK i zV s Z H X.A.in1 hh I ht hg) λh' hx=>#[rfl,FP I (t':=s.toks) (ch:=[it]) (λb hb=>hf b (by simp at hb;simp[hb])) λb o hb q=>hx b o ↑hb q]
 self:=λA i s Q E st h=>by let#[#[old,he],_]:=st;show wpAny_pyIter_enum he h
abbrev nK(h:Heap)(z:Addr):Heap:=(h.push {cls:=.type "tuple_iterator",data:=.fields [.ref z,.int 0 0].toArray}).push {cls:=.type "enumerate",data:=.fields [.none,.bool false,.ref h.objs.size,rawInt 0,.none,.none].toArray}
set_option maxHeartbeats 1000000 in
def Ue(z:Addr)(xs:Array Value)(n:Nat)(dd:Option Addr)(Y:Array (Option Value)):Meets (Builtin.«enumerate.__new__» #[[.type "enumerate",.ref z],[]]) (λ_ R s=>s.heap.get? z=some {cls:=.type "tuple",dict:=dd,data:=.seq xs n,slots:=Y}/\
  R (.ok (.ret (.ref (s.heap.objs.size+1)))) {s with heap:=nK s.heap z}):=
 .of_wp λprog w A R s M=>by
  let#[J,g,d,tk,os]:=s;let#[L,hr]:=M;let ss:=sub_enumerate;let hz:(J.push {cls:=.type "tuple_iterator",data:=.fields [.ref z,.int 0 0].toArray}).objs.size=J.objs.size+1:=Heap.size_push ..;let B:R (.ok (.ret (.ref (J.push {cls:=.type "tuple_iterator",data:=.fields [.ref z,.int 0 0].toArray}).objs.size))) {heap:=nK J z,gens:=g,drawn:=d,toks:=tk,os:=os}:=by rw[hz];show hr
  let O:Heap.IsTuple (Shared.heap #[J,g,d,tk,os]) z xs:=#[_,L,rfl,n,rfl]
  wp_walk using wpAny_loadPart' L
  show wpAny_stack_any λst=>qb ?_;split
  .rename_i c _ _ _ _ _;cases(c==Value.type "enumerate")<;>(wp_walk using wpAny_loadPart' L,wpAny_pyIter_tuple O;show#[_,rfl,B])
  .wp_walk using wpAny_loadPart' L,wpAny_pyIter_tuple O
   show#[_,rfl,B]
def Sj(hT:s.heap.IsTuple z xs)
  (k:∀h',IsEnum h' (s.heap.objs.size+1) s.heap.objs.size 0 .none->h'.IsTupleIter s.heap.objs.size z 0->(∀b o,s.heap.get? b=some o->h'.get? b=some o)->Q (.ref (s.heap.objs.size+1)) {s with heap:=h'}):
  wpAny (model prog w) A (call (.type "enumerate") [.ref z]) Q E s:=by
 let#[#[c,dd,dt,L],O,hc,n,Y]:=hT;let e1:c=.type "tuple":=hc;let e2:dt=.seq xs n:=Y;subst e1 e2;show callType_new F.called_enumerate ⋯ (F.typeCall_enumerate_1 _) (F.newCall_enumerate_1 _) (λB=>F.args_object_init_2 B _) F.entry_enumerate_new (Ue z xs n dd L) #[O,?_];let M:(s.heap.push {cls:=.type "tuple_iterator",data:=.fields [.ref z,.int 0 0].toArray}).objs.size=s.heap.objs.size+1:=Heap.size_push ..;let J:IsEnum (nK s.heap z) (s.heap.objs.size+1) s.heap.objs.size 0 .none:=by let:=qd (s.heap.push {cls:=.type "tuple_iterator",data:=.fields [.ref z,.int 0 0].toArray}) (o:={cls:=.type "enumerate",data:=.fields [.none,.bool false,.ref s.heap.objs.size,rawInt 0,.none,.none].toArray}) rfl;rw[M]at this;show this
 show#[#[_,J,rfl],k _ J #[_,qc _ (qd _ rfl),rfl,rfl] λb o x=>qc _ (qc _ x)]
def av(K:W.Frag)(B:TA):TI:=λZ H R=>B Z H λvs H1=>(∃a,vs=[.ref a]/\(∃xs,bN K H1 a xs)/\R (xX (xW K a)) H1)\/(∃a,vs=[.ref a]/\(∃xs,H1 a=some (.tup xs))/\R (xX (dv a)) H1)\/∃x,vs=[.str x]/\R (xX (xK x)) H1
def Pi(hc:X.calm=true)(hg:Gl X "enumerate")(hm:X.mg "enumerate"=none)(hv:bootBuiltins "enumerate"=some (.type "enumerate"))(hl:PA X [a] tl)
  (hs:starEach [a] X.env=[(false,eval a X.env)]:=by rfl):PI X (.Tuple elts kk tpos) (.Call (.Name "enumerate" p) [a] [] pos) (av X.K tl):=by
 intro zV s Z H R I h;show wpAny_Call_Name_kw (DJ I hg hm hv ?_ ⋯ ⋯);show PyProof.Rows.callWith_type1 (Am (hl pos zV s Z H _ I h) λus B zq=>?_) hs rfl;let#[vs,H1,Y,r1,q1]:=zq;let O:∀{J:It}{tn:Nat->Heap->Prop}{h':Heap},sH X.prog X.w X.K J B.heap.objs.size tn->R (xX J) H1->IsEnum h' (B.heap.objs.size+1) B.heap.objs.size 0 .none->tn 0 h'->(∀b o,B.heap.get? b=some o->h'.get? b=some o)->
   wpAny (model X.prog X.w) X.A (pyIter (.ref (B.heap.objs.size+1))) (bu X zV Z (.Tuple elts kk tpos) R) X.xe {B with heap:=h'}:=λ{J tn h'} S hR L ht M=>by
  show wpAny_pyIter_enum (s:={B with heap:=h'}) L ?_;show#[B.heap.objs.size+1,[B.heap.objs.size+1,B.heap.objs.size],_,_,H1,rfl,Y.kept (t':=B.toks) M,Tf S (Nat.succ_ne_self _),#[#[_,L],ht],λb hb=>?_,hR];simp at hb;rcases hb with rfl|rfl
  .show Y.fpOk (le_succ _) (Y.hok.fresh (le_succ _))
  .show Y.fpOk (q9 _) (Y.hok.fresh (q9 _))
 rcases q1 with⟨b,e,⟨xs,hq⟩,q⟩|⟨b,e,⟨xs,hq⟩,q⟩|⟨x,e,q⟩
 .subst e;let#[u,rfl,ru]:=vals1 r1;cases ru;let#[h1,rv,pl,hz]:=Y.list hq;show call_enumerate_list pl.isList λh' L hi _ M=>O (LH b _) q L hi M
 .subst e;let#[u,rfl,ru]:=vals1 r1;cases ru;let#[h1,rv,pl,hz]:=Y.tuple (bM.of hq);show Sj pl λh' L hi M=>O (Kq b _) q L hi M
 .subst e;let#[u,rfl,ru]:=vals1 r1;let#[t,rfl]:=ru;show call_enumerate_str λh' L hi _ M=>O (KH _ x t) q L hi M
def Jb{K:W.Frag}(hy:∀i H x H',J.yld i H x H'->H'=H)(h:eV K J l F0):eV K (xX J) (cN 0 l) F0:=λi U Z F G H sm B=>by let#[h1,h2]:=h i U Z F G H sm B;show#[λd hd=>?_,λY=>h2 (by rw[Mp]at Y;show Y)];let#[e,he,rfl]:=Mf l 0 i d hd;let#[g1,g2]:=h1 e he;show#[g1,λx H' zq=>?_];let#[p,y,O,L,ex,eH]:=zq;subst ex eH;let#[F',s1,M,rp]:=g2 y H L;let#[f0,_,_]:=M.free O;show#[upd F' p (.tup [.int i,y]),s1.trans (zG.upd f0),M.newF O,?_];let:=aS.tup (K:=K) (F:=upd F' p (.tup [.int i,y])) (a:=p) (xs:=[.int i,y]) (ds:=[.int i,e]) AX (.cons (.int i) (.cons (rp.mono (zG.upd f0)) .nil));simpa using this
def Lp{K:W.Frag}{a:Addr}(e:F0 a=some (.tup xs))(r:zT K F0 xs l):eV K (dv a) l F0:=λi U Z F G H M B=>by let L:H a=some (.tup xs):=(M.trans B.fr) _ _ e;show#[λd hd=>?_,λh=>#[xs,L,by rw[r.len];show h]];let#[x,O,Y]:=r.get hd;show#[#[xs,x,L,O],λy H' J=>?_];let#[rfl,J]:=J;let:x=y:=qf (O.symm.trans (J xs L));subst this;show#[F,zG.refl F,B,Y.mono M]
def MS:bootBuiltins "enumerate"=some (.type "enumerate"):=by decide+kernel
def Ki(hc:X.calm=true)(hg:Gl X "enumerate")(hm:X.mg "enumerate"=none)(hv:bootBuiltins "enumerate"=some (.type "enumerate"))(ha:FE X a we)(hs:starEach [a] X.env=[(false,eval a X.env)]:=by rfl):
  FI X (.Tuple elts kk tpos) (.Call (.Name "enumerate" p) [a] [] pos) (kJ we):=λpn xe hp=>by
 show PI.imp (Pi (X:=wp X pn xe) hc hg hm hv (Aa ha Ab hs pn xe hp) hs) λZ H R q=>?_;let#[F,G,U,P,PX,h2,hw,O,hx]:=q;show#[F,G,U,λrs h1=>match rs with|[r]=>(zF (give r h1) λp=>zF (items p.1.toD) λl=>P (cN 0 l) p.2)|_=>False,PX,h2,hw,λrs h1 vs F1 H1 B s1 r1 hl M=>?_,hx];match rs,vs,M,r1,B with
 |[r],[v],M,r1,B=>
  let#[#[s,L],eg,B]:=Ao B;let#[l,el,B]:=Ao B;let#[F2,s2,l2,r2]:=AC (U':=[]) (Z':=[]) r1 hl M.1 eg;let#[F3,s3,rp,r3]:=Rel.giveD (U:=L) (vs:=[v]) (ss:=[s]) r2 (l2.trans hl);let sm:=s1.trans (s2.trans s3);cases rp with
  |cons a0 b0=>
   let J:items s.toD=some l:=el;generalize s.toD=d at a0 J;cases a0 with
   |lst Y r0=>cases J;show .inl #[_,rfl,#[_,bN.mono r3.fr Y],O _ L F3 H1 _ B sm r3 (Jb (λ_ _ _ _ z=>z.1) (IP Y r0))]
   |tup Y r0=>cases J;show .inr (.inl #[_,rfl,#[_,r3.fr _ _ Y],O _ L F3 H1 _ B sm r3 (Jb (λ_ _ _ _ z=>z.1) (Lp Y r0))])
   |str Y z0=>cases J;show .inr (.inr #[_,rfl,O _ L F3 H1 _ B sm r3 (Jb (λ_ _ _ _ z=>z.1) (Iz Y))])
   |_=>cases J
 |[],_,_,_,B=>show B.elim
 |[_],[],M,_,_=>show M.elim
 |[_],_::_::_,M,_,_=>show M.2.elim
 |_::_::_,_,_,_,B=>show B.elim
end FL
namespace FL
open PySem PySem.Spec PyProof.Rows L2
structure nc(z TI TO i1 i2:Addr)(f1 f2:List Addr):Prop where
 a1:TI≠z
 a2:TO≠z
 a3:TI≠TO
 a4:TI≠i1
 a5:TI≠i2
 m1:i1∈f1
 m2:i2∈f2
 z1:z∉f1
 z2:z∉f2
 o1:TO∉f1
 o2:TO∉f2
 c1:i1∉f2
 c2:i2∉f1
section
variable{z TI TO i1 i2:Addr}
def BH{f:List Addr}(J:a∈f)(B:b∉f):a≠b:=λq=>B (q▸J)
def Pv{Q:zv}(Zq:nc z TI TO i1 i2 f1 f2)(D1:Draws prog w A i1 f1 n1 P1 S1)(D2:Draws prog w A i2 f2 n2 P2 S2)
  (hz:IsZip s.heap z TI TO .none)(hI:IsPair s.heap TI (.ref i1) (.ref i2))(hO:IsPair s.heap TO a b)(t1:S1 k1 s.heap)(t2:S2 k2 s.heap)(l1:k1<n1)(l2:k2<n2)
  (k:∀x y h' tk,P1 k1 x->P2 k2 y->IsZip h' z TI TO (rawInt s.heap.objs.size)->(∃c d,IsPair h' TO c d)->S1 (k1+1) h'->S2 (k2+1) h'->IsPair h' s.heap.objs.size x y->
   (∀c o,c≠z->c≠TO->c≠i1->c≠i2->s.heap.get? c=some o->h'.get? c=some o)->Q (.ref s.heap.objs.size) {s with heap:=h',toks:=tk}):
  wpAny (model prog w) A (Builtin.«zip.__next__» #[[.ref z],[]]) (λhq s'=>∃v,hq=.done (.ret v)/\Q v s') E s:=by
 let hs:=BH Zq.m1 Zq.z1;let hp:=BH Zq.m2 Zq.z2;let hl:=BH Zq.m1 Zq.o1;let hi:=BH Zq.m2 Zq.o2;show wpAny _ _ (field (.ref z) 2>>=_) _ _ _;apply qa;show zj hz rfl (x:=.bool false) rfl ?_;apply qa;show zj hz rfl (x:=.ref TI) rfl ?_;apply qa;show wpAny_seqItems hI rfl ?_;apply qa;apply qa;show zj hz rfl (x:=.none) rfl (qb ?_);apply qa;apply wpAny_rule;apply qa;show zj hz rfl (x:=.ref TO) rfl ?_;apply qa;show zp hz (by simp) λha za sa=>?_;let h7:IsZip ha z TI TO .ellipsis:=za;apply qa;apply qa;apply qa;apply wpAny_onRaise;apply qa;let hk:S1 k1 ha:=D1.frame _ _ _ t1 λc O o q=>sa.extBut _ _ (BH O Zq.z1) q;let e2:S2 k2 ha:=D2.frame _ _ _ t2 λc O o q=>sa.extBut _ _ (BH O Zq.z2) q;show D1.item k1 _ _ _ l1 hk λx hb tb px e4 sb=>qb ?_;let h5:IsPair hb TO a b:=sb.extBut _ _ (Ne.symm hl) (sa.extBut _ _ Zq.a2 hO);apply qa;show wpAny_seqItems h5 rfl ?_;apply qa;show wpAny_updateSeq_pair h5 λO hr sc=>?_;let h4:IsPair O TO x b:=hr;show qa (wpAny_letGo (qb ?_));apply qa;apply qa;apply wpAny_onRaise;apply qa;let e1:S2 k2 O:=D2.frame _ _ _ e2 λc B o q=>sc.extBut _ _ (BH B Zq.o2) (sb.extBut _ _ (BH B Zq.c1) q);show D2.item k2 _ _ _ l2 e1 λy hd td py h9 sd=>qb ?_;let h3:IsPair hd TO x b:=sd.extBut _ _ (Ne.symm hi) h4;apply qa;show wpAny_seqItems h3 rfl ?_;apply qa;show wpAny_updateSeq_pair h3 λJ hm se=>?_;let L:IsPair J TO x y:=hm;show qa (wpAny_letGo (qb (qb ?_)));apply qa;show wpAny_seqItems L rfl ?_;apply qa;show wpAny_newTuple ?_;let h2:J.objs.size=s.heap.objs.size:=by rw[se.1,sd.1,sc.1,sb.1,sa.1]
 let ze:IsZip J z TI TO .ellipsis:=se.extBut _ _ (Ne.symm Zq.a2) (sd.extBut _ _ (Ne.symm hp) (sc.extBut _ _ (Ne.symm Zq.a2) (sb.extBut _ _ (Ne.symm hs) h7)));let e3:S1 (k1+1) J:=D1.frame _ _ _ e4 λc B o q=>se.extBut _ _ (BH B Zq.o1) (sd.extBut _ _ (BH B Zq.c2) (sc.extBut _ _ (BH B Zq.o1) q));let h8:S2 (k2+1) J:=D2.frame _ _ _ h9 λc B o q=>se.extBut _ _ (BH B Zq.o2) q;let hx:∀c o,c≠z->c≠TO->c≠i1->c≠i2->s.heap.get? c=some o->J.get? c=some o:=λc o M q2 q3 q4 q=>se.extBut _ _ q2 (sd.extBut _ _ q4 (sc.extBut _ _ q2 (sb.extBut _ _ q3 (sa.extBut _ _ M q))));let Y:z<J.objs.size:=qe ze;apply qa;let zf:IsZip (J.push {cls:=.type "tuple",data:=.seq [x,y].toArray}) z TI TO .ellipsis:=qc _ ze;apply qa;show zp zf (by simp) λhg zg sg=>?_;let h6:IsZip hg z TI TO (rawInt J.objs.size):=zg;show zp h6 (by simp) λhh zh sh=>?_;let h1:IsZip hh z TI TO (rawInt J.objs.size):=zh;let up:∀c o,c≠z->J.get? c=some o->hh.get? c=some o:=λc o M q=>sh.extBut _ _ M (sg.extBut _ _ M (qc _ q));let pT:IsPair hh J.objs.size x y:=sh.extBut _ _ (ne_of_gt Y) (sg.extBut _ _ (ne_of_gt Y) (qd _ rfl));rw[h2]at h1 pT;show qb #[_,rfl,?_];rw[h2];show k x y hh _ px py h1 #[_,_,up _ _ Zq.a2 L] (D1.frame _ _ _ e3 λc B o q=>up c o (BH B Zq.z1) q) (D2.frame _ _ _ h8 λc B o q=>up c o (BH B Zq.z2) q) pT λc o M q2 q3 q4 q=>up c o M (hx c o M q2 q3 q4 q)
def RY(M:i1≠z)(hz:IsZip s.heap z TI TO .none)(hI:IsPair s.heap TI (.ref i1) (.ref i2))
  (d:∀B,Heap.SameBut z s.heap B->∀(Q:zv)(E:zv),(∀h' e,Heap.ExtBut i1 B h'->(∃o,h'.get? e=some o/\o.cls=.type "StopIteration")->E (.ref e) {s with heap:=h'})->wpAny (model prog w) A (Builtin.SmallTypes.nextOf (.ref i1)) Q E {s with heap:=B})
  (k:∀h' e,(∀c o,c≠z->c≠i1->s.heap.get? c=some o->h'.get? c=some o)->(∃o,h'.get? e=some o/\o.cls=.type "StopIteration")->E (.ref e) {s with heap:=h'}):
  wpAny (model prog w) A (Builtin.«zip.__next__» #[[.ref z],[]]) Q E s:=by
 show wpAny _ _ (field (.ref z) 2>>=_) _ _ _;apply qa;show zj hz rfl (x:=.bool false) rfl ?_;apply qa;show zj hz rfl (x:=.ref TI) rfl ?_;apply qa;show wpAny_seqItems hI rfl ?_;apply qa;apply qa;show zj hz rfl (x:=.none) rfl (qb ?_);apply qa;apply wpAny_rule;apply qa;show zj hz rfl (x:=.ref TO) rfl ?_;apply qa;show zp hz (by simp) λB za sa=>?_;let J:IsZip B z TI TO .ellipsis:=za;apply qa;apply qa;apply qa;apply wpAny_onRaise;apply qa;show d B sa _ _ λhb e Y st=>?_;let#[oe,L,q2]:=st;let O:IsZip hb z TI TO .ellipsis:=Y _ _ (Ne.symm M) J;let ez:e≠z:=λq=>by subst q;rw[O]at L;cases L;simp at q2
 show zp O (by simp) λhc _ sc=>k hc e (λc o c1 c2 q=>sc.extBut _ _ c1 (Y _ _ c2 (sa.extBut _ _ c1 q))) #[oe,sc.extBut _ _ ez L,q2]
def Sg(D1:Draws prog w A i1 f1 n1 P1 S1)(m1:i1∈f1)(z1:z∉f1)(o1:TO∉f1)(L:TO≠z)(h3:i2≠z)
  (hz:IsZip s.heap z TI TO .none)(hI:IsPair s.heap TI (.ref i1) (.ref i2))(hO:IsPair s.heap TO a b)(t1:S1 k1 s.heap)(l1:k1<n1)
  (d:∀B tk,(∀c o,c≠z->c≠TO->c≠i1->s.heap.get? c=some o->B.get? c=some o)->∀(Q:zv)(E:zv),(∀h' e,Heap.ExtBut i2 B h'->(∃o,h'.get? e=some o/\o.cls=.type "StopIteration")->E (.ref e) {s with heap:=h',toks:=tk})->wpAny (model prog w) A (Builtin.SmallTypes.nextOf (.ref i2)) Q E {s with heap:=B,toks:=tk})
  (k:∀h' e tk,(∀c o,c≠z->c≠TO->c≠i1->c≠i2->s.heap.get? c=some o->h'.get? c=some o)->(∃o,h'.get? e=some o/\o.cls=.type "StopIteration")->E (.ref e) {s with heap:=h',toks:=tk}):
  wpAny (model prog w) A (Builtin.«zip.__next__» #[[.ref z],[]]) Q E s:=by
 let h4:=BH m1 z1;let h5:=BH m1 o1;show wpAny _ _ (field (.ref z) 2>>=_) _ _ _;apply qa;show zj hz rfl (x:=.bool false) rfl ?_;apply qa;show zj hz rfl (x:=.ref TI) rfl ?_;apply qa;show wpAny_seqItems hI rfl ?_;apply qa;apply qa;show zj hz rfl (x:=.none) rfl (qb ?_);apply qa;apply wpAny_rule;apply qa;show zj hz rfl (x:=.ref TO) rfl ?_;apply qa;show zp hz (by simp) λha za O=>?_;let h1:IsZip ha z TI TO .ellipsis:=za;apply qa;apply qa;apply qa;apply wpAny_onRaise;apply qa;let h2:S1 k1 ha:=D1.frame _ _ _ t1 λc B o q=>O.extBut _ _ (BH B z1) q;show D1.item k1 _ _ _ l1 h2 λx hb tb px h6 M=>qb ?_;let J:IsPair hb TO a b:=M.extBut _ _ (Ne.symm h5) (O.extBut _ _ L hO);apply qa;show wpAny_seqItems J rfl ?_;apply qa;show wpAny_updateSeq_pair J λB h7 sc=>?_;show qa (wpAny_letGo (qb ?_));apply qa;apply qa;apply wpAny_onRaise;apply qa;show d B tb (λc o Y c2 c3 q=>sc.extBut _ _ c2 (M.extBut _ _ c3 (O.extBut _ _ Y q))) _ _ λhd e xd st=>?_;let#[oe,q1,q2]:=st;let zd:IsZip hd z TI TO .ellipsis:=xd _ _ (Ne.symm h3) (sc.extBut _ _ (Ne.symm L) (M.extBut _ _ (Ne.symm h4) h1));let ez:e≠z:=λq=>by subst q;rw[zd]at q1;cases q1;simp at q2
 show zp zd (by simp) λhe _ se=>k he e tb (λc o Y c2 c3 c4 q=>se.extBut _ _ Y (xd _ _ c4 (sc.extBut _ _ c2 (M.extBut _ _ c3 (O.extBut _ _ Y q))))) #[oe,se.extBut _ _ ez q1,q2]
end
def lh(B J:It):It:=#[λi H=>B.go i H/\J.go i H,λi H x H'=>∃p M L,H p=none/\B.yld i H M H/\J.yld i H L H/\x=.ref p/\H'=upd H p (.tup [M,L]),λi H=>B.stop i H\/(B.go i H/\J.stop i H)]
def Re{P:Program}{w:World}{K:W.Frag}{J1 J2:It}{z TI TO i1 i2:Addr}{t1 t2:Nat->Heap->Prop}{elts:List Expr}{k:Nat}{pos:Pos}(S1:sH P w K J1 i1 t1)(S2:sH P w K J2 i2 t2)(nd:[z,TI,TO,i1,i2].Nodup):
  iE P w K (.Tuple elts k pos) (lh J1 J2) [z,TI,TO,i1,i2] z (λi h=>IsZip h z TI TO .none/\IsPair h TI (.ref i1) (.ref i2)/\(∃a b,IsPair h TO a b)/\t1 i h/\t2 i h) where
 mem:=m1
 obj:=λi h st b hb=>by
  let#[hz,hI,#[a,c,hO],q1,q2]:=st;simp at hb;rcases hb with rfl|rfl|rfl|rfl|rfl
  .show#[_,hz,λv z=>by cases z]
  .show#[_,hI,λv z=>by cases z]
  .show#[_,hO,λv z=>by cases z]
  .obtain⟨o,e1,e2,_⟩:=S1.live i h q1;show#[o,e1,e2]
  .obtain⟨o,e1,e2,_⟩:=S2.live i h q2;show#[o,e1,e2]
 keep:=λi h h' st kk=>by let#[hz,hI,#[a,c,hO],q1,q2]:=st;show#[kk _ (m1) _ hz,kk _ (m2) _ hI,#[a,c,kk _ (m3) _ hO],S1.keep i h h' q1 λo e=>kk _ (m4) o e,S2.keep i h h' q2 λo e=>kk _ (m5) o e]
 item:=by
  intro X hP hw hK hc i zV s Z H E I hf st hg;show cps λG kk=>?_;let#[hz,hI,#[a,c,hO],q1,q2]:=st;let hh:X.A.in1.handled=none:=I.ok.hd hc;let#[f1,n1,P1,T1,D1,u1,l1,m1,e1,v1,w1]:=S1.item X hP hw hK i zV s Z H X.A.in1 hh I q1 (hf i1 (m4)).1 hg.1;let#[f2,n2,P2,T2,D2,u2,l2,m2,e2,v2,w2]:=S2.item X hP hw hK i zV s Z H X.A.in1 hh I q2 (hf i2 (m5)).1 hg.2;let#[o1,g1,_,_,_,_,cl1]:=S1.live i _ q1;let#[o2,g2,_,_,_,_,cl2]:=S2.live i _ q2;simp only[qL,qA,not_mem_nil,or_false,not_or]at nd;let#[#[d1,d2,d3,d4],#[d5,d6,d7],#[d8,d9],d10,_]:=nd;let hn:∀b∈[z,TI,TO,i1,i2],H b=none:=λb hb=>(hf b hb).1;let out:∀{f:List Addr}{it b:Addr}{ob:Obj},(∀x∈f,x=it\/(H x≠none/\∃o,s.heap.get? x=some o/\o.cls=.type "tuple")\/∃o,s.heap.get? x=some o/\o.cls=.type "list")->b≠it->H b=none->s.heap.get? b=some ob->ob.cls≠.type "list"->b∉f:=λ{f it b ob} hf0 n1 n2 g n3 m=>by grind
  let zl:Value.type "zip"≠Value.type "list":=⋯
  let tl:Value.type "tuple"≠Value.type "list":=⋯
  let Zq:nc z TI TO i1 i2 f1 f2:=#[Ne.symm d1,Ne.symm d2,d5,d6,d7,m1,m2,out e1 d3 (hn z (by simp)) hz zl,out e2 d4 (hn z (by simp)) hz zl,out e1 d8 (hn TO (by simp)) hO tl,out e2 d9 (hn TO (by simp)) hO tl,out e2 d10 (hn i1 (by simp)) g1 cl1,out e1 (Ne.symm d10) (hn i2 (by simp)) g2 cl2]
  have lt:∀b∈[z,TI,TO,i1,i2],b<s.heap.objs.size:=λb hb=>by
   simp at hb;rcases hb with rfl|rfl|rfl|rfl|rfl
   .show qe hz
   .show qe hI
   .show qe hO
   .show qe g1
   .show qe g2
  let ty:s.TypeIs (.ref z) "zip":=#[_,hz,rfl]
  show kk ?_;apply qa;apply wpAny_attempt;show wpAny_callSpecial?_slot (name:=Str.ofString "__next__") ty F.slot_zip_next (zm F.slot_zip_next ty F.entry_zip_next (Pv Zq D1 D2 hz hI hO u1 u2 l1 l2 λx y h1 tk px py hz1 hO1 t1' t2' hT hk=>?_) (F.args_zip_next_1 _));show qb #[_,rfl,?_];show cps λ_ kk=>?_;let#[y1,ry1,hy1]:=v1 x px;let#[y2,ry2,hy2]:=v2 y py;show kk ?_;show wpAny_letOwnedTupleGo_zip hz1 λh2 hz2 sb=>?_;let nT:s.heap.objs.size≠z:=ne_of_gt (qe hz);let I2:Inv X zV Z (upd H s.heap.objs.size (.tup [y1,y2])) {s with heap:=h2,toks:=tk}:=MZ I (ch:=[z,TI,TO,i1,i2]) (us:=[x,y]) hf lt (by show 2<=_;decide) (.cons ry1 (.cons ry2 .nil)) #[_,sb.extBut _ _ nT hT,rfl,rfl,_,rfl] λb o hb q=>by simp at hb;show sb.extBut _ _ hb.1 (hk b o hb.1 hb.2.2.1 hb.2.2.2.1 hb.2.2.2.2 q)
  let#[ca,cb,hO1]:=hO1;show#[.ref s.heap.objs.size,_,I2,rfl,#[s.heap.objs.size,y1,y2,I.hok.fresh (q9 _),hy1,hy2,rfl,rfl],#[hz2,sb.extBut _ _ (Ne.symm d1) (hk _ _ (Ne.symm d1) d5 d6 d7 hI),#[_,_,sb.extBut _ _ (Ne.symm d2) hO1],S1.keep _ _ _ (w1 _ t1') λo q=>sb.extBut _ _ (Ne.symm d3) q,S2.keep _ _ _ (w2 _ t2') λo q=>sb.extBut _ _ (Ne.symm d4) q],λb hb=>?_];grind[An,ne_of_lt]
 done:=by
  intro X hP hw hK hc i zV s Z H E I hf st hg;show cps λG kk=>?_;let#[hz,hI,#[a,c,hO],q1,q2]:=st;let hh:X.A.in1.handled=none:=I.ok.hd hc;simp only[qL,qA,not_mem_nil,or_false,not_or]at nd;let#[#[d1,d2,d3,d4],#[d5,d6,d7],#[d8,d9],d10,_]:=nd;let ty:s.TypeIs (.ref z) "zip":=#[_,hz,rfl]
  let stop:∀(h':Heap)(e:Addr)(tk:Nat),(∀b o,b≠z->b≠TO->b≠i1->b≠i2->s.heap.get? b=some o->h'.get? b=some o)->Inv X zV Z H {s with heap:=h',toks:=tk}:=λh' e tk hk=>FP I (ch:=[z,TI,TO,i1,i2]) hf λb o hb q=>by grind
  show kk ?_;apply qa;apply wpAny_attempt;rcases hg with hg|⟨hg1,hg2⟩
  .refine wpAny_callSpecial?_slot (name:=Str.ofString "__next__") ty F.slot_zip_next (zm F.slot_zip_next ty F.entry_zip_next (RY (Ne.symm d3) hz hI (λha sa=>?_) λh' e hk st=>?_) (F.args_zip_next_1 _))
   .let Ia:Inv X zV Z H {s with heap:=ha}:=FP I (t':=s.toks) (ch:=[z]) (λb hb=>hf b (by simp at hb;simp[hb])) λb o hb q=>sa.extBut _ _ ↑hb q;show S1.done X hP hw hK i zV {s with heap:=ha} Z H X.A.in1 hh Ia (S1.keep _ _ _ q1 λo q=>sa.extBut _ _ (Ne.symm d3) q) hg
   .obtain⟨o,r1,r2⟩:=st;show qa (wpAny_isInstance (T:="StopIteration") (b:=true) #[o,r1,r2] isSubtype_stop (qb #[rfl,stop h' e s.toks λb o c1 c2 c3 c4 q=>hk b o c1 c3 q]))
  .obtain⟨f1,n1,P1,T1,D1,u1,l1,m1,e1,v1,w1⟩:=S1.item X hP hw hK i zV s Z H X.A.in1 hh I q1 (hf i1 (m4)).1 hg1;let hn:∀b∈[z,TI,TO,i1,i2],H b=none:=λb hb=>(hf b hb).1;let out:∀{f:List Addr}{it b:Addr}{ob:Obj},(∀x∈f,x=it\/(H x≠none/\∃o,s.heap.get? x=some o/\o.cls=.type "tuple")\/∃o,s.heap.get? x=some o/\o.cls=.type "list")->b≠it->H b=none->s.heap.get? b=some ob->ob.cls≠.type "list"->b∉f:=λ{f it b ob} hf0 n1 n2 g n3 m=>by grind
   let zl:Value.type "zip"≠Value.type "list":=⋯
   let tl:Value.type "tuple"≠Value.type "list":=⋯
   subst hP hw;show wpAny_callSpecial?_slot (name:=Str.ofString "__next__") ty F.slot_zip_next (zm F.slot_zip_next ty F.entry_zip_next (Sg D1 m1 (out e1 d3 (hn z (by simp)) hz zl) (out e1 d8 (hn TO (by simp)) hO tl) (Ne.symm d2) (Ne.symm d4) hz hI hO u1 l1 (λhc2 tk sa=>?_) λh' e tk hk st=>?_) (F.args_zip_next_1 _))
   .let Ia:Inv X zV Z H {s with heap:=hc2,toks:=tk}:=FP I (ch:=[z,TO,i1]) (λb hb=>hf b (by simp at hb;rcases hb with q|q|q<;>simp[q])) λb o hb q=>by grind
    show S2.done X rfl rfl hK i zV {s with heap:=hc2,toks:=tk} Z H X.A.in1 hh Ia (S2.keep _ _ _ q2 λo q=>sa _ _ (Ne.symm d4) (Ne.symm d9) (Ne.symm d10) q) hg2
   .obtain⟨o,r1,r2⟩:=st;show qa (wpAny_isInstance (T:="StopIteration") (b:=true) #[o,r1,r2] isSubtype_stop (qb #[rfl,stop h' e tk hk]))
 self:=λA i s Q E st h=>wpAny_pyIter_zip st.1 h
def nU(v:Value)(o:Obj)(s:Shared):Prop:=∀(prog:Program)(w:World)(A:Around)(Q:zv)(E:zv),Q (.ref s.heap.objs.size) {s with heap:=s.heap.push o}->wpAny (model prog w) A (pyIter v) Q E s
abbrev zA(h:Heap)(B:Obj):Heap:=h.push B
abbrev zB(h:Heap)(J B:Obj):Heap:=(zA h J).push B
abbrev zC(h:Heap)(B J:Obj):Heap:=(zB h B J).push {cls:=.type "tuple",data:=.seq [.ref h.objs.size,.ref (zA h B).objs.size].toArray}
abbrev zD(h:Heap)(J B:Obj):Heap:=(zC h J B).push {cls:=.type "tuple",data:=.seq [.none,.none].toArray}
abbrev zE(h:Heap)(J B:Obj):Heap:=(zD h J B).push {cls:=.type "zip",data:=.fields [.none,.bool false,.bool false,.ref (zB h J B).objs.size,.ref (zC h J B).objs.size].toArray}
def Qb(v1 Y:Value)(B J:Obj):Meets (Builtin.«zip.__new__» #[[.type "zip",v1,Y],[]]) (λ_ R s=>nU v1 B s/\nU Y J {s with heap:=zA s.heap B}/\R (.ok (.ret (.ref (zD s.heap B J).objs.size))) {s with heap:=zE s.heap B J}):=
 .of_wp λprog w A R s O=>by
  let#[hp,g,d,tk,os]:=s;let#[k1,k2,hr]:=O;let ss:=sub_zip;let M:=λ(A:Around)(Q:zv)(E:zv)=>k1 prog w A Q E;let L:=λ(A:Around)(Q:zv)(E:zv)=>k2 prog w A Q E
  wp_walk using M,L
  show#[_,rfl,hr]
def Pt(m1:nU v1 B s)(m2:nU v2 J {s with heap:=zA s.heap B})(f1:B.isFreed=false)(f2:J.isFreed=false)
  (k:∀h',IsZip h' (s.heap.objs.size+4) (s.heap.objs.size+2) (s.heap.objs.size+3) .none->IsPair h' (s.heap.objs.size+2) (.ref s.heap.objs.size) (.ref (s.heap.objs.size+1))->IsPair h' (s.heap.objs.size+3) .none .none->
   h'.get? s.heap.objs.size=some B->h'.get? (s.heap.objs.size+1)=some J->(∀c o,s.heap.get? c=some o->h'.get? c=some o)->Q (.ref (s.heap.objs.size+4)) {s with heap:=h'}):
  wpAny (model prog w) A (call (.type "zip") [v1,v2]) Q E s:=by
 show callType_new F.called_zip ⋯ (F.typeCall_zip_2 _ _) (F.newCall_zip_2 _ _) (λY=>F.args_object_init_3 Y _ _) F.entry_zip_new (Qb v1 v2 B J) #[m1,m2,?_];let O:(zA s.heap B).objs.size=s.heap.objs.size+1:=Heap.size_push ..;let M:(zB s.heap B J).objs.size=s.heap.objs.size+2:=by rw[Heap.size_push,O]
 let L:(zC s.heap B J).objs.size=s.heap.objs.size+3:=by rw[Heap.size_push,M]
 let q4:(zD s.heap B J).objs.size=s.heap.objs.size+4:=by rw[Heap.size_push,L]
 let g5:(zE s.heap B J).get? (zD s.heap B J).objs.size=some _:=qd _ rfl;let g4:(zE s.heap B J).get? (zC s.heap B J).objs.size=some _:=qc _ (qd _ rfl);let g3:(zE s.heap B J).get? (zB s.heap B J).objs.size=some _:=qc _ (qc _ (qd _ rfl));let g2:(zE s.heap B J).get? (zA s.heap B).objs.size=some J:=qc _ (qc _ (qc _ (qd _ f2)));let g1:(zE s.heap B J).get? s.heap.objs.size=some B:=qc _ (qc _ (qc _ (qc _ (qd _ f1))));rw[M,L,q4]at g5;rw[O,M]at g3;rw[L]at g4;rw[O]at g2;rw[q4];show#[#[_,g5,rfl],k _ g5 g3 g4 g1 g2 λc o x=>qc _ (qc _ (qc _ (qc _ (qc _ x))))]
def rQ(X:Cx)(H:Hp)(v:V)(J:It):Prop:=(∃a xs,v=.ref a/\bN X.K H a xs/\J=xW X.K a)\/(∃a xs,v=.ref a/\H a=some (.tup xs)/\J=dv a)\/∃x,v=.str x/\J=xK x
def KM(I:Inv X zV Z H s)(r:zK v u)(h:rQ X H v J):
  ∃o:Obj,nU u o s/\o.isFreed=false/\∀it,∃O,sH X.prog X.w X.K J it O/\∀h':Heap,h'.get? it=some o->O 0 h':=by
 rcases h with⟨a,xs,rfl,M,rfl⟩|⟨a,xs,rfl,M,rfl⟩|⟨x,rfl,rfl⟩
 .cases r;let#[L,Y,B,hz]:=I.list M;show#[{cls:=.type "list_iterator",data:=.fields [.ref a,.int 0 0].toArray},λprog w A Q E k=>wpAny_pyIter_list B.isList k,rfl,λit=>#[_,LH a it,λh' e=>#[_,e,rfl,rfl]]]
 .cases r;let#[L,Y,B,hz]:=I.tuple (bM.of M);show#[{cls:=.type "tuple_iterator",data:=.fields [.ref a,.int 0 0].toArray},λprog w A Q E k=>wpAny_pyIter_tuple B k,rfl,λit=>#[_,Kq a it,λh' e=>#[_,e,rfl,rfl]]]
 .obtain⟨t,rfl⟩:=r;show#[{cls:=.type (strIterType x),data:=.fields [.str x t,.int 0 0].toArray},λprog w A Q E k=>wpAny_pyIter_strU k,rfl,λit=>#[_,KH it x t,λh' e=>#[_,e,rfl,rfl]]]
def kh(X:Cx)(O:TA):TI:=λZ H R=>O Z H λvs H1=>∃J B M L,vs=[J,B]/\rQ X H1 J M/\rQ X H1 B L/\R (lh M L) H1
def Os(hc:X.calm=true)(hg:Gl X "zip")(hm:X.mg "zip"=none)(hv:bootBuiltins "zip"=some (.type "zip"))(hl:PA X [a,b] tl)
  (hs:starEach [a,b] X.env=[(false,eval a X.env),(false,eval b X.env)]:=by rfl)(L:starEach [b] X.env=[(false,eval b X.env)]:=by rfl):PI X (.Tuple elts kk tpos) (.Call (.Name "zip" p) [a,b] [] pos) (kh X tl):=by
 intro zV s Z H R I h;show wpAny_Call_Name_kw (DJ I hg hm hv ?_ ⋯ ⋯);show PyProof.Rows.callWith_type1 (Am (hl pos zV s Z H _ I h) λus B zq=>?_) (by rw[hs,L]) (by rw[L];rfl);let#[vs,H1,J,r1,q1]:=zq;let#[v1,v2,J1,J2,rfl,k1,k2,q]:=q1;cases r1 with
 |cons ra O=>
  cases O with
  |cons O rn=>
   cases rn;let#[o1,m1,f1,g1]:=KM J ra k1;let I2:Inv X zV Z H1 {B with heap:=zA B.heap o1}:=J.kept (t':=B.toks) λ_ _ e=>qc _ e;let#[o2,m2,f2,g2]:=KM I2 O k2;show Pt m1 m2 f1 f2 λh' Y hI hO e1 e2 kp=>?_;let#[t1,S1,b1]:=g1 B.heap.objs.size;let#[t2,S2,b2]:=g2 (B.heap.objs.size+1);show wpAny_pyIter_zip (s:={B with heap:=h'}) Y ?_;let lt:∀k:Nat,B.heap.objs.size<=B.heap.objs.size+k:=λk=>Nat.le_add_right _ _;show#[B.heap.objs.size+4,[B.heap.objs.size+4,B.heap.objs.size+2,B.heap.objs.size+3,B.heap.objs.size,B.heap.objs.size+1],_,_,H1,rfl,J.kept (t':=B.toks) kp,Re S1 S2 ?_,#[Y,hI,#[_,_,hO],b1 h' e1,b2 h' e2],λc M=>?_,q]
   .simp
   .simp at M;rcases M with rfl|rfl|rfl|rfl|rfl
    .show J.fpOk (lt 4) (J.hok.fresh (lt 4))
    .show J.fpOk (lt 2) (J.hok.fresh (lt 2))
    .show J.fpOk (lt 3) (J.hok.fresh (lt 3))
    .show J.fpOk (lt 0) (J.hok.fresh (lt 0))
    .show J.fpOk (lt 1) (J.hok.fresh (lt 1))
def RB{K:W.Frag}(h1:eV K J1 l F0)(h2:eV K J2 m F0):eV K (lh J1 J2) (dF l m) F0:=λi U Z F G H M B=>by
 let#[p1,p2]:=h1 i U Z F G H M B;let#[q1,q2]:=h2 i U Z F G H M B;show#[λd hd=>?_,λhl=>?_]
 .obtain⟨e,f,he,hf,rfl⟩:=Ll l m i d hd;let#[g1,g2]:=p1 e he;let#[g3,g4]:=q1 f hf;show#[#[g1,g3],λx H' zq=>?_];show cps λ_ kk=>?_;let#[p,L,J,hp,h4,h3,ex,eH]:=zq;subst ex eH;let#[F1,s1,r1,Y]:=g2 L H h4;let#[F2,s2,r2,O]:=(h2 i U Z F1 G H (M.trans s1) r1).1 f hf|>.2 J H h3;let#[f0,_,_]:=r2.free hp;show kk ?_;show⟨upd F2 p (.tup [L,J]),(s1.trans s2).trans (zG.upd f0),r2.newF hp,.tup (xs:=[L,J]) AX (.cons ((Y.mono s2).mono (zG.upd f0)) (.cons (O.mono (zG.upd f0)) .nil))⟩
 .rw[Lj]at hl;by_cases h:l.length<=i
  .show .inl (p2 h)
  .let h5:i<l.length:=by lia
   show .inr #[(p1 l[i] (qh h5)).1,q2 ∅]
def On:bootBuiltins "zip"=some (.type "zip"):=by decide+kernel
def Kx(M:zG F H)(r:aS X.K F v d)(e:items d=some l):∃J,rQ (wp X pn xe) H v J/\eV X.K J l F:=by
 cases r with
 |lst B L=>cases e;show#[_,.inl #[_,_,rfl,bN.mono M B,rfl],IP B L]
 |tup B L=>cases e;show#[_,.inr (.inl #[_,_,rfl,M _ _ B,rfl]),Lp B L]
 |str B O=>cases e;show#[_,.inr (.inr #[_,rfl,rfl]),Iz B]
 |_=>cases e
def OF(hc:X.calm=true)(hg:Gl X "zip")(hm:X.mg "zip"=none)(hv:bootBuiltins "zip"=some (.type "zip"))(ha:FE X a wa)(hb:FE X b wb)(hs:starEach [a,b] X.env=[(false,eval a X.env),(false,eval b X.env)]:=by rfl)(Y:starEach [b] X.env=[(false,eval b X.env)]:=by rfl):
  FI X (.Tuple elts kk tpos) (.Call (.Name "zip" p) [a,b] [] pos) (sT wa wb):=λpn xe hp=>by
 show PI.imp (Os (X:=wp X pn xe) hc hg hm hv (Aa ha (Aa hb Ab Y) (by rw[hs,Y]) pn xe hp) hs Y) λZ H R q=>?_;let#[F,G,U,P,PX,h1,hw,h2,hx]:=q;show#[F,G,U,λrs B=>match rs with|[r,t]=>(zF (give r B) λp=>zF (give t p.2) λq=>zF (items p.1.toD) λl=>zF (items q.1.toD) λm=>P (dF l m) q.2)|_=>False,PX,h1,hw,λrs B vs F1 H1 J s1 r1 hl O=>?_,hx];match rs,vs,O,r1,J with
 |[r,t],[v,u],O,r1,J=>
  dsimp only at J;show cps λ_ kk=>?_;let#[#[s,M],eg,J]:=Ao J;let#[#[s',L],h3,J]:=Ao J;let#[l,el,J]:=Ao J;let#[m,em,J]:=Ao J;obtain⟨F2,s2,ss,e3,l3,r3⟩:∃F2,zG F1 F2/\∃ss,ss=[s,s']/\L.length=B.length/\Rel X.K (L++ss.map some) (Z++[v,u].map some) F2 G H1:=by
   let e:aI [r,t] B=some ([s,s'],L):=by show(match give r B with|some (s,B)=>(match aI [t] B with|some (ss,M)=>some (s::ss,M)|none=>none)|none=>none)=_;rw[eg];show(match(match give t M with|some (s,B)=>some ([s],B)|none=>none)with|some (ss,M)=>some (s::ss,M)|none=>none)=_;rw[h3]
   let#[F2,s2,l2,z,r2]:=FR (rs:=[r,t]) (vs:=[v,u]) (U':=[]) (Z':=[]) r1 hl O e;show#[F2,s2,_,rfl,l2,↑r2]
  subst e3;let#[F3,s3,rp,r4]:=Rel.giveD (U:=L) (vs:=[v,u]) (ss:=[s,s']) r3 (l3.trans hl);show kk ?_;let sm:=s1.trans (s2.trans s3);cases rp with
  |cons a0 b0=>
   cases b0 with
   |cons b0 n0=>let#[J1,k1,i1]:=Kx (pn:=pn) (xe:=xe) r4.fr a0 el;let#[J2,k2,i2]:=Kx (pn:=pn) (xe:=xe) r4.fr b0 em;show#[v,u,J1,J2,rfl,k1,k2,h2 _ L F3 H1 _ J sm r4 (RB i1 i2)]
 |[],_,_,_,J=>show J.elim
 |[_],_,_,_,J=>show J.elim
 |[_,_],[],O,_,_=>show O.elim
 |[_,_],[_],O,_,_=>show O.2.elim
 |[_,_],_::_::_::_,O,_,_=>show O.2.2.elim
 |_::_::_::_,_,_,_,J=>show J.elim
def Ms(B:bX k A):A.mark none=A:=by first|rfl|assumption|(simp_all;done)
end FL
namespace FL
open Classical in
def iC(ks:List D)(k:D):Option Nat:=ks.findIdx? λx=>decide (x=k)
end FL
namespace FL
open PySem PySem.Spec PyProof.Rows L2
def LL(h:iC ks k=some i):ks[i]?=some k:=by unfold iC at h;rw[List.findIdx?_eq_some_iff_getElem]at h;let#[hi,h1,_]:=h;rw[qh hi];congr 1;simpa using h1
def Su(h:iC ks k=none):k∉ks:=by unfold iC at h;grind
section
variable{κ:Type}[DecidableEq κ]{kd:κ->D}(inj:∀a b,kd a=kd b->a=b)
include inj
def Rh{zW:List (κ×V)}{k:κ}{v:V}{i:Nat}(hn:(zW.map λp=>kd p.1).Nodup)(h:(zW.map λp=>kd p.1)[i]?=some (kd k)):dW zW k v=zW.set i (k,v):=by
 let hi:i<zW.length:=by let:=(qg.mp h).1;simpa using this
 let M:zW[i].1=k:=by rw[qF,qh hi]at h;show inj _ _ (qf h)
 let B:(zW.any λO=>decide (O.1=k))=true:=any_eq_true.mpr #[zW[i],getElem_mem hi,by simp[M]];unfold dW;rw[q5 B];apply ext_getElem?;intro j;rw[qF,getElem?_set];by_cases L:i=j
 .subst L;rw[qh hi];simp[M];show hi
 .rw[q8 L];cases q:zW[j]? with
  |none=>rfl
  |some p=>
   have J:¬p.1=k:=λz=>by
    apply L;let h2:(zW.map λp=>kd p.1)[j]?=some (kd k):=by rw[qF,q,<-z];rfl
    show(List.getElem?_inj ↑hi hn).mp (h.trans h2.symm)
   simp[J]
omit inj in
def QO{zW:List (κ×V)}{k:κ}{v:V}(h:kd k∉zW.map λp=>kd p.1):dW zW k v=zW++[(k,v)]:=by unfold dW;grind
def Ko{zW:List (κ×V)}{k:κ}{v:V}{ks:List D}(J:ks=zW.map λp=>kd p.1)(hn:ks.Nodup):
  (∀m,iC ks (kd k)=some m->ks=(dW zW k v).map (λp=>kd p.1)/\(zW.map (·.2)).set m v=(dW zW k v).map (·.2))/\(iC ks (kd k)=none->ks++[kd k]=(dW zW k v).map (λp=>kd p.1)/\zW.map (·.2)++[v]=(dW zW k v).map (·.2)):=by
 subst J;show#[λm B=>?_,λB=>?_]
 .let h:=LL B;rw[Rh inj hn h,map_set,map_set];show#[?_,rfl];apply ext_getElem?;intro j;rw[getElem?_set];by_cases L:m=j
  .subst L;rw[q5 rfl,q5 (qg.mp h).1,h]
  .rw[q8 L]
 .rw[QO (Su B),map_append,map_append];show#[rfl,rfl]
end
inductive iW(ks:List D)(xs:List V):Bool->HO->Prop
 |k {zW:List (aX×V)}:ks=zW.map (λp=>aO p.1)->xs=zW.map (·.2)->iW ks xs false (.dK zW)
 |t {zW:List (List aX×V)}:ks=zW.map (λp=>D.tup (p.1.map aO))->xs=zW.map (·.2)->iW ks xs true (.dT zW)
section
variable{K:W.Frag}
def FZ(r:aK K F H v (.dct t ks l) fp):∃a o xs B,v=.ref a/\fp=a::B/\H a=some o/\iW ks xs t o/\zJ K F H xs l B:=by
 cases r with
 |dK e q r=>show#[_,_,_,_,rfl,rfl,e,.k q rfl,r]
 |dT e q r=>show#[_,_,_,_,rfl,rfl,e,.t q rfl,r]
def iW.mk{a:Addr}{o:HO}{t:Bool}{ks:List D}{xs:List V}{l:List S}{B:List Addr}(d:iW ks xs t o)(e:H a=some o)(r:zJ K F H xs l B):aK K F H (.ref a) (.dct t ks l) (a::B):=by
 cases d with
 |k q z=>subst z;show .dK e q r
 |t q z=>subst z;show .dT e q r
def iW.len{o:HO}{t:Bool}{ks:List D}{xs:List V}(d:iW ks xs t o):ks.length=xs.length:=by
 cases d with
 |k q z=>subst z;subst q;simp
 |t q z=>subst z;subst q;simp
def iW.put{a:Addr}{o:HO}{t:Bool}{ks:List D}{xs:List V}{y v:V}{q:D}(d:iW ks xs t o)(e:H a=some o)(r:aS K H y q)(hk:bR t q=true)(hn:ks.Nodup)(hb:ks.length<sizeLine):
  ∃o',cx H a y v (upd H a o')/\(∀m,iC ks q=some m->iW ks (xs.set m v) t o')/\(iC ks q=none->iW (ks++[q]) (xs++[v]) t o'):=by
 cases d with
 |@k L h1 h2=>subst h2;let#[Y,rfl,rfl]:=EU r hk;let#[O,M]:=Ko (λ_ _=>DM) (k:=Y) (v:=v) h1 hn;show#[_,.inl #[L,Y,e,rfl,by rw[h1,qo]at hb;show hb,rfl],λm B=>.k (O m B).1 (O m B).2,λB=>.k (M B).1 (M B).2]
 |@t L h1 h2=>
  subst h2;cases r with
  |tup e1 q=>let#[J,rfl,rfl]:=EB q hk;let#[O,M]:=Ko (kd:=λl:List aX=>D.tup (l.map aO)) (λa b z=>Fd (D.tup.inj z)) (k:=J) (v:=v) h1 hn;show#[_,.inr #[L,J,_,e,rfl,e1,by rw[h1,qo]at hb;show hb,rfl],λm B=>.t (O m B).1 (O m B).2,λB=>.t (M B).1 (M B).2]
  |_=>cases hk
def Rel.dct{D:Addr}(r:Rel K (U++[some s]) (Z++[some v]) F G H)(hs:slot U n=some (.dct t ks l))(O:Z[n]?=some (some (.ref D)))(hD:H D=some o)(ho:iW ks xs t o)(h8:iW M h4 t o')
  (h9:∀(H':Hp)(fl fs:List Addr),zJ K F H' xs l fl->aK K F H' v s fs->∃B rest,zJ K F H' h4 l' B/\(B++rest).Perm (fl++fs)):
  Rel K (U.set n (some (.dct t M l'))) Z F G (upd H D o'):=by
 let hl:=Ah r;let#[fp,e,nd,ap]:=r.en;let#[f1,f2,rfl,a,b]:=e.cut hl;let#[v',fa,fi,fb,e1,rfl,q,up]:=a.at hs;rw[O]at e1;let e2:V.ref D=v':=↑e1
 subst e2;let#[a',o2,h3,fl,z1,rfl,h1,Y,rl]:=FZ q;cases z1;rw[hD]at h1;cases h1;let ex:h3=xs:=by
  cases ho with
  |k _ z=>cases Y with|k _ z'=>rw[z,z']
  |t _ z=>cases Y with|t _ z'=>rw[z,z']
 subst ex;cases b with
 |so sr nl=>
  cases nl;rename_i fs;let#[n1,n2,h7]:=qw.mp nd;let#[na,J,h6]:=qw.mp n1;let#[ni,nb,J]:=qw.mp J;let#[nD,hp]:=qL.mp ni;let hk:D∉fa:=λz=>h6 D z D (qj _ qm) rfl;let e4:D∉fb:=λz=>J D qm D z rfl;let e3:D∉fs:=λz=>h7 D (qi _ (qj _ qm)) D ↑z rfl;let h2:=ap D (qj _ (qi _ (qj _ qm)));let ne:∀{l:List Addr},D∉l->∀x∈l,upd H D o' x=H x:=λh x L=>An λz=>h (z▸L);let#[B,rest,h5,pm]:=h9 (upd H D o') fl fs (rl.mono (zG.refl F) (ne nD)) (sr.mono (zG.refl F) (ne e3));let a2:=up (F':=F) (H':=upd H D o') (o:=some (.dct t M l')) (u:=some (.ref D)) (zG.refl F) (λx L=>An λz=>(qx.mp L).elim (λw=>hk (z▸w)) λw=>e4 (z▸w)) (.so (h8.mk AX h5) .nil);rw[Fb O]at a2;let p:(fa++((D::(B++rest))++[]++fb)).Perm (fa++((D::fl)++fb)++(fs++[])):=by show(List.Perm.append_left _ (List.Perm.append_right _ (List.Perm.append_right _ (List.Perm.cons _ pm)))).trans ?_;simp;show List.Perm.append_left _ (List.Perm.cons _ (List.Perm.append_left _ qN))
  let sb:List.Sublist (fa++((D::B)++[]++fb)) (fa++((D::(B++rest))++[]++fb)):=by simp only[qp,qO];show List.Sublist.append (List.Sublist.refl _) (List.Sublist.cons_cons _ (List.Sublist.append (List.Sublist.refl _) (List.sublist_append_right _ _)))
  show#[zG.updR r.fr h2.1,λx o w=>?_,_,a2,sb.nodup (p.nodup_iff.mpr nd),λx L=>ap x (p.mem_iff.mp (sb.subset L))];let L:x≠D:=λz=>by rw[z,h2.2]at w;cases w
  rw[An L];show r.gr x o w
def IL:∀{us:List Value},zS (ns.map V.int) us->IntsAre us ns:=by
 induction ns with
 |nil=>intro us r;cases r;show .nil
 |cons n ns L=>
  intro us r;cases r with
  |cons J B=>let#[t,rfl]:=J;show .cons _ t (L B)
end
end FL
namespace FL
def lH(i j:Nat)(a:WA):WS:=λD U=>a U (λJ B=>match J with
 |[r,t]=>zF (give r B) λp=>zF (give t p.2) λq=>D.nx ((q.2.set i (some p.1)).set j (some q.1))
 |_=>False) D.ex
end FL
namespace FL
open PySem PySem.Spec PyProof.Rows L2
def Ly{α:Type}{l:List α}{r:List α}{v:α}(h:n<l.length):(l++r).set n v=l.set n v++r:=by rw[List.set_append_left _ _ h]
def HB(hc:X.calm=true)(hN:X.N.Nodup)(hi:X.N[i]?=some x)(hj:X.N[j]?=some y)(h1:i≠j)(h6:i∉ks)(h5:j∉ks)
  (hx:X.env.scope.names.lookup x=some .local)(hy:X.env.scope.names.lookup y=some .local)(ha:FA X [a,b] wa)
  (hw:swappedStores [.Tuple [.Name x px,.Name y py] kt pt] (.Tuple [a,b] k2 h2) X.env=pure (some [x,y]):=by rfl)
  (hs:swapsWithSole [.Tuple [.Name x px,.Name y py] kt pt] (.Tuple [a,b] k2 h2) pos.line X.env=pure false:=by rfl):
  FS X ks (.Assign [.Tuple [.Name x px,.Name y py] kt pt] (.Tuple [a,b] k2 h2) pos) (lH i j wa):=λpn xe hp zV s Z H D I q=>by
 let M:Z.length=X.N.length:=I.len;let h9:i<Z.length:=by rw[M];show(qg.mp hi).1
 let h8:j<Z.length:=by rw[M];show(qg.mp hj).1
 show NU (X:=wp X pn xe) hc hN hi hj h1 hx hy (ha pn xe hp) hw hs zV s Z H D I ?_;let#[F,G,U,E,h3,h4,n,b2,c,r,x2]:=q;let x0:XC (wp X pn xe) (·=Z) F G E.ex:=x2.mono (λe1 z=>by rw[z];show KP.refl) (zG.refl F) (zG.refl G);show#[F,G,U,_,_,h3,h4,λrs J vs F1 H1 B s1 r1 hl O=>?_,x0];match rs,vs,O,r1,B with
 |[r,t],[v,u],O,r1,B=>
  dsimp only at B;let#[#[s',L],eg,B]:=Ao B;let#[#[t',Y],h7,B]:=Ao B;let e:aI [r,t] J=some ([s',t'],Y):=by show(match give r J with|some (s,J)=>(match aI [t] J with|some (ss,L)=>some (s::ss,L)|none=>none)|none=>none)=_;rw[eg];show(match(match give t L with|some (s,J)=>some ([s],J)|none=>none)with|some (ss,L)=>some (s'::ss,L)|none=>none)=_;rw[h7]
  let#[F2,s2,l2,z2,r2]:=FR (rs:=[r,t]) (vs:=[v,u]) (U':=[]) (Z':=[]) r1 hl O e;let l3:Y.length=Z.length:=l2.trans hl;let r3:Rel X.K ((Y++[some s'])++[some t']) ((Z++[some v])++[some u]) F2 G H1:=↑r2
  let r4:=r3.store (i:=j) (by simp[l3]) (by simp;lia -verbose);rw[Ly ∅,Ly ∅]at r4;let r5:=r4.store (i:=i) (by simp[l3]) (by simp;lia -verbose);rw[set_comm _ _ (Ne.symm h1),set_comm (α:=Option V) _ _ (Ne.symm h1)]at r5;show#[v,u,rfl,n _ _ F2 H1 B (KP.trans (KP.set h6) (KP.set h5)) (s1.trans s2) r5]
 |[],_,_,_,B=>show B.elim
 |[_],_,_,_,B=>show B.elim
 |[_,_],[],O,_,_=>show O.elim
 |[_,_],[_],O,_,_=>show O.2.elim
 |[_,_],_::_::_::_,O,_,_=>show O.2.2.elim
 |_::_::_::_,_,_,_,B=>show B.elim
end FL
namespace FL
open PySem PySem.W PyProof.Rows
def cU(n:Nat)(rk:Nat->Int){α:Type}:KasT α->(α->Prop)->Prop
 |.ret a,P=>P a
 |.ask i j k,P=>i<n/\j<n/\cU n rk (k (decide (rk i<rk j))) P
def Fc:∀{t:KasT α},cU n rk t (λa=>cU n rk (f a) P)->cU n rk (t.bind f) P
 |.ret _,h=>h
 |.ask _ _ _,h=>#[h.1,h.2.1,Fc h.2.2]
def kA(rk:Nat->Int)(p:Array Nat)(k:Nat):Int:=rk ((p[k]?).getD 0)
def DC(p:Array Nat)(k:Nat):rk (p.getD k 0)=kA rk p k:=by unfold kA;rw[Array.getD_eq_getD_getElem?]
def jO(n:Nat)(p:Array Nat):Prop:=p.size=n/\∀k,p.getD k 0<n
def nR(rk:Nat->Int)(p:Array Nat)(m:Nat):Prop:=∀a b,a<=b->b<m->kA rk p a<=kA rk p b
def cw(rk:Nat->Int)(p:Array Nat)(m:Nat):Prop:=∀a b,a<=b->b<m->kA rk p b<=kA rk p a
def FX(h:jO n q)(B:p.Perm q)(hn:0<n):jO n p:=by
 show#[B.size_eq.trans h.1,λk=>?_];rw[Array.getD_eq_getD_getElem?];cases e:p[k]? with
 |none=>show hn
 |some x=>have J:x∈q:=B.mem_iff.mp (Array.mem_of_getElem? e);let#[j,L,M]:=Array.getElem_of_mem J;let:=h.2 j;simp_all
def HS(J:jO n p):∀(f m:Nat),1<=m->nR rk p m->(∀B,m<=B->B<=m+f->nR rk p B->(B<m+f->kA rk p B<kA rk p (B-1))->P B)->cU n rk (kas_asc p f m) P
 |0,m,_,hs,h=>h m (q9 _) (q9 _) hs λz=>absurd z ∅
 |f+1,m,h1,hs,h=>by
  show#[J.2 m,J.2 (m-1),?_];rw[DC (rk:=rk),DC (rk:=rk)];by_cases L:kA rk p m<kA rk p (m-1)
  .rw[qR L];show h m (q9 _) ∅ hs λ_=>L
  .rw[qS L];show HS J f (m+1) ∅ (λa b O hb=>?_) λB h2 h3 h4 h5=>h B ∅ ∅ h4 λz=>h5 ∅;by_cases M:b<m
   .show hs a b O M
   .let:b=m:=by lia
    by_cases Y:a=b
    .rw[Y];show Int.le_refl _
    .let:=hs a (b-1) ∅ ∅;lia
def IM(J:jO n p)(hs:nR rk p k):∀(f l r:Nat),l<=r->r<=k->r-l<=f->(∀a,a<l->kA rk p a<=kA rk p k)->(∀a,r<=a->a<k->kA rk p k<kA rk p a)->
  (∀B,B<=k->(∀a,a<B->kA rk p a<=kA rk p k)->(∀a,B<=a->a<k->kA rk p k<kA rk p a)->P B)->cU n rk (kas_place p k f l r) P
 |0,l,r,h1,h2,h3,h4,h5,h=>by
  let:l=r:=∅
  subst this;show h l h2 h4 h5
 |f+1,l,r,h1,h2,h3,h4,h5,h=>by
  unfold kas_place;by_cases L:l≥r
  .rw[q5 L];let:l=r:=by lia
   subst this;show h l h2 h4 h5
  .rw[q8 L];show#[J.2 k,J.2 _,?_];rw[DC (rk:=rk),DC (rk:=rk)];by_cases M:kA rk p k<kA rk p ((l+r)/2)
   .rw[qR M];show IM J hs f l ((l+r)/2) ∅ ∅ ∅ h4 (λa O Y=>?_) h;let:=hs _ a O Y;lia
   .rw[qS M];show IM J hs f ((l+r)/2+1) r ∅ h2 ∅ (λa O=>?_) h5 h;let:=hs a ((l+r)/2) ∅ ∅;lia
def Mk(B:k<p.size)(J:d<=k)(j:Nat):kA rk (bubble p k d) j=if j=k-d then kA rk p k else if k-d<j/\j<=k then kA rk p (j-1)else kA rk p j:=by unfold kA;rw[getElem?_bubble B d J j];grind
def KF(hn:0<n):∀(f:Nat)(p:Array Nat)(k:Nat),jO n p->nR rk p k->k+f<=n->(∀J,J.Perm p->jO n J->nR rk J (k+f)->P J)->cU n rk (kas_bin f p k) P
 |0,p,k,hr,hs,_,h=>h p (Array.Perm.refl _) hr hs
 |f+1,p,k,hr,hs,hk,h=>by
  show Fc (IM hr hs k 0 k (zero_le _) (q9 _) ∅ (λa z=>absurd z ∅) (λa z1 z2=>absurd z1 ∅) λl hl h1 h2=>?_);let L:k<p.size:=by rw[hr.1];lia
  let hp:=bubble_perm p k (k-l);show KF hn f _ (k+1) (FX hr hp hn) (λa b h3 hb=>?_) ∅ λJ q1 q2 q3=>h J (q1.trans hp) q2 (by rw[show k+(f+1)=k+1+f by lia];show q3);rw[Mk L ∅,Mk L ∅];let h4:k-(k-l)=l:=∅
  rw[h4];by_cases ha:a=l
  .rw[q5 ha];by_cases B:b=l
   .rw[q5 B];show Int.le_refl _
   .rw[q8 B];let:=h2 (b-1) ∅ ∅;lia
  .rw[q8 ha];by_cases O:l<a/\a<=k
   .rw[q5 O,q8 ∅,q5 #[∅,∅]];show hs (a-1) (b-1) ∅ ∅
   .rw[q8 O];let Y:a<l:=by lia
    by_cases B:b=l
    .rw[q5 B];show h1 a Y
    .rw[q8 B];by_cases M:l<b/\b<=k
     .rw[q5 M];show hs a (b-1) ∅ ∅
     .rw[q8 M];show hs a b h3 ∅
def Fw(B:j<=p.size)(k:Nat):kA rk (kas_rev p i j) k=if i<=k/\k<j then kA rk p (i+j-1-k)else kA rk p k:=by
 unfold kA kas_rev;rw[getElem?_mirror_all B];by_cases h:i<=k/\k<j
 .rw[q5 h,q5 h]
 .rw[q8 h,q8 h]
def Ez(p:Array Nat)(i j:Nat):(kas_rev p i j).Perm p:=mirror_perm ..
def Iw(hn:0<n):∀(f:Nat)(p:Array Nat)(m q:Nat),jO n p->cw rk p m->m+f<=n->q+1<=m->(∀a,m-(q+1)<=a->a<m->kA rk p a=kA rk p (m-1))->
  (∀J B L,J.Perm p->jO n J->cw rk J B->B<=m+f->m<=B->L+1<=B->(∀a,B-(L+1)<=a->a<B->kA rk J a=kA rk J (B-1))->P (J,B,L))->cU n rk (kas_desc f p m q) P
 |0,p,m,q,hr,hd,_,hq,he,h=>h p m q (Array.Perm.refl _) hr hd (q9 _) (q9 _) hq he
 |f+1,p,m,q,hr,hd,hm,hq,he,h=>by
  unfold kas_desc;show#[hr.2 m,hr.2 (m-1),?_];rw[DC (rk:=rk),DC (rk:=rk)];by_cases hc:kA rk p m<kA rk p (m-1)
  ·(rw[qR hc];dsimp only;rw[q5 rfl])
   have go:∀p2:Array Nat,p2.Perm p->(∀k,kA rk p2 k=kA rk p k)->cU n rk (kas_desc f p2 (m+1) 0) P:=by
    intro p2 hp M;show Iw hn f p2 (m+1) 0 (FX hr hp hn) (λa b Y hb=>?_) ∅ ∅ (λa h1 h2=>?_) λJ B L g1 g2 g3 g4 g5 g6 g7=>h J B L (g1.trans hp) g2 g3 ∅ ∅ g6 g7
    .rw[M,M];by_cases O:b<m
     .show hd a b Y O
     .let:b=m:=by lia
      by_cases ha:a=b
      .rw[ha];show Int.le_refl _
      .let:=hd a (b-1) ∅ ∅;lia
    .let:a=m+1-1:=by lia
     rw[this]
   by_cases h3:q>0
   .rw[q5 h3];show go _ (Ez ..) λk=>?_;rw[Fw (by rw[hr.1];lia)];by_cases M:m-(q+1)<=k/\k<m
    .rw[q5 M,he k M.1 M.2,he _ ∅ ∅]
    .rw[q8 M]
   .rw[q8 h3];show go p (Array.Perm.refl _) λ_=>rfl
  ·(rw[qS hc];dsimp only;rw[q8 qX])
   show#[hr.2 (m-1),hr.2 m,?_];rw[DC (rk:=rk),DC (rk:=rk)];by_cases h4:kA rk p (m-1)<kA rk p m
   ·(rw[qR h4];dsimp only;rw[q5 rfl])
    show h p m q (Array.Perm.refl _) hr hd ∅ (q9 _) hq he
   ·(rw[qS h4];dsimp only;rw[q8 qX])
    let h5:kA rk p m=kA rk p (m-1):=∅
    show Iw hn f p (m+1) (q+1) hr (λa b Y hb=>?_) ∅ ∅ (λa h1 h2=>?_) λJ B L g1 g2 g3 g4 g5 g6 g7=>h J B L g1 g2 g3 ∅ ∅ g6 g7
    .by_cases O:b<m
     .show hd a b Y O
     .let:b=m:=by lia
      by_cases ha:a=b
      .rw[ha];show Int.le_refl _
      .let:=hd a (b-1) ∅ ∅;lia
    .show kA rk p a=kA rk p m;by_cases ha:a=m
     .rw[ha]
     .rw[h5];show he a ∅ ∅
def Qr(B:m<=p.size)(J:cw rk p m):nR rk (kas_rev p 0 m) m:=λa b M L=>by rw[Fw B,Fw B,q5 #[zero_le _,∅],q5 #[zero_le _,L]];show J _ _ ∅ ∅
def Lu(hn:0<n)(M:jO n p)(hd:cw rk p m)(h1:1<=m)(Y:m<=n)
  (h:∀B L,L.Perm p->jO n L->m<=B->B<=n->nR rk L B->P (B,L)):cU n rk (kas_tail3 m n p) P:=by
 let O:=Qr (by rw[M.1];show Y) hd;let J:=FX M (Ez p 0 m) hn;show Fc (HS J (n-m) m h1 O λB g1 g2 g3 _=>h B _ (Ez ..) J g1 ∅ g3)
def Mh(hn:0<n)(hr:jO n p)(hd:cw rk p (m+1))(h1:1<=m)(hm:m+1<=n)
  (h:∀B J,J.Perm p->jO n J->1<=B->B<=n->nR rk J B->P (B,J)):cU n rk (kas_descPart m n p) P:=by
 show Fc (Iw hn (n-(m+1)) p (m+1) 0 hr hd ∅ ∅ (λa g1 M=>by rw[show a=m+1-1 by lia]) λJ B O g1 M g3 g4 g5 g6 g7=>?_);by_cases hq:O>0
 .rw[q5 hq];let L:∀k,kA rk (kas_rev J (B-(O+1)) B) k=kA rk J k:=λk=>by
   rw[Fw (by rw[M.1];lia)];by_cases L:B-(O+1)<=k/\k<B
   .rw[q5 L,g7 k L.1 L.2,g7 _ ∅ ∅]
   .rw[q8 L]
  show Lu hn (FX M (Ez ..) hn) (λa b h2 hb=>by rw[L,L];show g3 a b h2 hb) ∅ ∅ λm2 Y e1 e2 e3 e4 e5=>h m2 Y (e1.trans ((Ez ..).trans g1)) e2 ∅ e4 e5
 .rw[q8 hq];show Lu hn M g3 ∅ ∅ λm2 Y e1 e2 e3 e4 e5=>h m2 Y (e1.trans g1) e2 ∅ e4 e5
def Us(hn:2<=n)(B:jO n p)(h:∀O M,M.Perm p->jO n M->1<=O->O<=n->nR rk M O->P (O,M)):cU n rk (kas_count n p) P:=by
 show Fc (HS B (n-1) 1 (q9 _) (λa b L hb=>by rw[show a=b by lia];show Int.le_refl _) λm g1 g2 Y g4=>?_);by_cases hm:(m==n)=true
 .rw[q5 hm];show h m p (Array.Perm.refl _) B g1 ∅ Y
 .rw[q8 hm];by_cases J:m>1
  .rw[q5 J];show#[B.2 0,B.2 (m-1),?_];rw[DC (rk:=rk),DC (rk:=rk)];by_cases hc:kA rk p 0<kA rk p (m-1)
   ·(rw[qR hc];dsimp only;rw[q5 rfl])
    show h m p (Array.Perm.refl _) B g1 ∅ Y
   ·(rw[qS hc];dsimp only;rw[q8 qX])
    let h1:∀a,a<m->kA rk p a=kA rk p (m-1):=λa ha=>by let e1:=Y 0 a (zero_le _) ha;let e2:=Y a (m-1) ∅ ∅;lia
    let hk:∀k,kA rk (kas_rev p 0 m) k=kA rk p k:=λk=>by rw[Fw (by rw[B.1];lia)];grind
    show Mh ∅ (FX B (Ez ..) ∅) (λa b L hb=>?_) g1 ∅ λm2 p2 e1 e2 e3 e4 e5=>h m2 p2 (e1.trans (Ez ..)) e2 e3 e4 e5;grind
  .rw[q8 J];let:m=1:=by lia
   subst this;show Mh ∅ B (λa b L hb=>?_) (q9 _) ∅ h;grind
def RO(hn:0<n):jO n (List.range n).toArray:=by
 show#[by simp,λk=>?_];by_cases B:k<n
 .simp[B]
 .simp[B];show hn
def RE(hn:2<=n)(h:∀p,p.Perm (List.range n).toArray->nR rk p n->P p):cU n rk (kas_sort n) P:=by
 show Fc (Us hn (RO ∅) λm p M g2 g3 g4 L=>?_);let B:max m 1=m:=∅
 rw[B];by_cases J:m<n
 .rw[q5 J];show KF ∅ (n-m) p m g2 L ∅ λY e1 e2 O=>h Y (e1.trans M) (by rw[show m+(n-m)=n by lia]at O;show O)
 .rw[q8 J];let:m=n:=by lia
  subst this;show h p M L
end FL
namespace FL
open PySem PySem.Spec PyProof.Rows L2
def JW{h:Heap}(x:h.Ns a m)(y:h.Ns a B):m=B:=by let#[o,es,ep,e,d,_,f]:=x;let#[o',J,L,O,Y,_,M]:=y;grind
section
open PySem.W HT
def Mu{P:α->Prop}{R:α->Shared->Prop}(B:∀i j(C:Bool->Shared->Prop),i<n->j<n->C (decide (rk i<rk j)) s->kas_ask prog w A κ vs i j C s):
  ∀(t:KasT α),cU n rk t P->(∀a,P a->R a s)->t.kasWp (kas_ask prog w A κ vs) R s
 |.ret a,h,q=>q a h
 |.ask i j k,h,q=>B i j _ h.1 h.2.1 (Mu B (k _) h.2.2 q)
def rest(h₀:Heap)(L:Addr)(h:Heap):List (Addr×Obj):=(List.range h.objs.size).filterMap λb=>if b=L then none else if(h₀.get? b).isSome then none else(h.get? b).map λo=>(b,o)
theorem zb4:p∈rest h₀ L h↔h.get? p.1=some p.2/\p.1≠L/\h₀.get? p.1=none:=by
 unfold rest;rw[mem_filterMap];constructor
 .rintro⟨b,_,e⟩;by_cases h1:b=L
  .rw[q5 h1]at e;cases e
  .rw[q8 h1]at e;cases h2:h₀.get? b with
   |some o=>rw[h2]at e;cases e
   |none=>rw[h2]at e;let#[o,B,J]:=qY.mp e;cases J;show#[B,h1,h2]
 .rintro⟨B,J,M⟩;show#[p.1,qJ.mpr (qe B),?_];rw[q8 J,M,B];rfl
end
end FL
namespace FL
def tI(ns:List Int):D:=.tup (ns.map .int)
end FL
namespace FL
open PySem PySem.Spec PyProof.Rows L2
open HT
section
variable{K:W.Frag}
def TF{α:Type}(d:α):∀l:List α,(List.range l.length).map (λi=>l.getD i d)=l:=λl=>by show List.ext_getElem (by simp) λi h1 h2=>?_;simp[h2]
end
end FL
namespace FL
open PySem PySem.Spec PyProof.Rows L2
def PL{vs:List Value}(few:vs.length<2):(vs.toArray.zip vs.toArray).map (·.2)=vs.toArray:=by rw[List.zip_toArray,List.map_toArray,List.map_snd_zip (q9 _)]
def KS(L:s.heap.get? a=some (seqObj "list" vs.toArray n))(few:vs.length<2)
  (k:P (.done (.ret .none)) {s with heap:=sortedHeap s.heap a vs vs.toArray}):wpAny (model prog w) A (Builtin.«list.sort» ⟨[.ref a],[]⟩) P E s:=by
 rw[list_sort_plain];let B:vs.toArray.size<2:=few;let M:∃e,(s.heap.update a (Obj.mapSeq λ_=>#[])).get? a=some (seqObj "list" #[] e):=#[_,get?_update_seq L _]
 obtain⟨e,mid⟩:=M;let J:(((s.heap.update a (Obj.mapSeq λ_=>#[])).push (seqObj "tuple" vs.toArray 0)).push (seqObj "list" #[] 0)).get? a=some (seqObj "list" #[] e):=
  qc _ (qc _ mid)
 show qa (listItems_at L rfl (qa (listUpdate_at L rfl (qa (seqEpoch_at mid rfl (qa (wpAny_newTuple (qa (wpAny_newList (zr ?_))))))))));dsimp only;rw[q5 B,q5 B];show qa (qb (?_:wpAny _ _ _ _ _ _));let O:(arrOf (SortSt.mk' general' (vs.toArray.zip vs.toArray) #[] 7 none)).map (·.2)=vs.toArray:=by show PL few
 show qa (qb (?_:wpAny _ _ _ _ _ _));rw[O];show qa (seqEpoch_at J rfl (qa (listUpdate_at J rfl ?_ (hsz2:=by rw[zo];lia))));simp;show qb k
def TU(J:s.heap.IsList l vs.toArray)(few:vs.length<2)
  (k:Q (.ref (s.heap.objs.size+1)) {s with heap:=sortedAll s.heap vs vs.toArray}):wpAny (model prog w) A (call (.builtin "sorted") [.ref l]) Q E s:=by
 show Calls.call_function_entry kind_sorted plain_sorted entry_sorted (args_sorted1 _) (?_:wpAny _ _ _ _ _ _);show qa (m:=checkCount "sorted" 1 1 _) (qb (qa (collect_list J (qa (wpAny_newList ?_)))));generalize B:((s.heap.push (seqObj "list" #[] 0)).update s.heap.objs.size (Obj.mapSeq (·++vs.toArray)))=h1;let z:h1.objs.size=s.heap.objs.size+1:=by rw[<-B,Heap.size_update,size_push']
 let new:(h1.push (seqObj "list" vs.toArray 0)).get? (s.heap.objs.size+1)=some (seqObj "list" vs.toArray 0):=z▸qd _ rfl;rw[z];show qa (zr (zm slot_list_sort #[_,new,rfl] entry_list_sort (KS new few #[_,rfl,?_]) (args_list_sort _)));subst B;show qb #[_,rfl,k]
section
variable{K:W.Frag}
def uO(K:W.Frag):List V->Hp->VK->Prop:=λxs H Q=>∃a ys,xs=[.ref a]/\bN K H a ys/\ys.length<2/\∀q,H q=none->Q (.ref q) (upd H q (.lst ys))
def UQ:aZ X (.builtin "sorted") (uO X.K):=by
 intro zV s Z H xs us Q I r h;let#[a,ys,rfl,O,h2,q]:=h;cases r with
 |cons L J=>cases J;cases L;let#[B,r,M,_]:=I.list O;show TU M.isList (by rw[<-r.length];show h2) ?_;let#[e,Y]:=sortedAll_at s.heap B B.toArray;show#[.ref (s.heap.objs.size+1),_,I.laid (t':=s.toks) (o:=.lst ys) (λb ob w=>sortedAll_old w) (le_succ _) ?_,rfl,q _ (I.hok.fresh (le_succ _))];show#[by rw[zo];lia,B,e,r,Y]
end
end FL
namespace FL
def lK(a b:D):Option Bool:=match b with
 |.str l=>match a with
  |.str x=>some (fY l x).isSome
  |_=>none
 |d=>bc a d
def eU(a b:D):Option Bool:=(lK a b).map (!·)
def cF(a:WE):WE:=λU Q E=>a U (λr B=>zF (give r B) λp=>Q (.v (.sh p.1.toD)) p.2) E
def xR(i:Nat)(w:WS):WS:=λD U=>w {D with nx:=λB=>zF (slot B i) λs=>D.nx (B.set i (some (.sh s.toD)))} U
def xT(d q:D):Option (Option D):=match d with
 |.dct t ks vs=>if bR t q then some (lk ks vs q)else none
 |_=>none
def xC:D->Bool
 |.dct _ _ _=>true
 |_=>false
def kH(o k d:WE):WE:=λU Q E=>o U (λx J=>(zF (zR x J) λM=>xC M=true)/\k J (λy L=>d L (λz B=>
 zF (zR x B) λM=>zF (view y B) λq=>zF (xT M q) λo=>match o with
  |some e=>Q (.v (.sh e)) B
  |none=>Q z B) E) E) E
def mL(it:WI):WE:=λU Q E=>it U (λl B=>l.length<=big/\Q (.v (.sh (.tup l))) B) E
mutual
def pK:D->Bool
 |.non=>true
 |.bl _=>true
 |.int i=>decide (-1000000000000<i)&&decide (i<1000000000000)
 |.str l=>l.all λc=>decide (c<1114112)
 |.tup l=>eO l
 |.lst l=>eO l
 |_=>false
def eO:List D->Bool
 |[]=>true
 |d::r=>pK d&&eO r
end
mutual
def xP:D->Nat
 |.int _=>41
 |.str l=>l.length
 |.tup l=>lT l
 |.lst l=>lT l
 |_=>0
def lT:List D->Nat
 |[]=>0
 |d::r=>xP d+1+lT r
end
def bQ(p q:D):Option S:=match p,q with
 |.str x,.int n=>if 0<=n/\n<=1000/\x.length<=500 then some (.sh (.str (List.replicate n.toNat x).flatten))else none
 |p,q=>mV p q
end FL
namespace FL
open PySem PySem.Spec PyProof.Rows L2
section
variable{K:W.Frag}
def UL(x y:Str):Txt.contains x y=(fY x.cps.toList y.cps.toList).isSome:=by
 let h:=Qg x y;unfold Txt.find at h;unfold Txt.contains;cases q:Builtin.Str.occurrences x y 0 x.length 1 with
 |nil=>
  rw[q]at h;cases e:fY x.cps.toList y.cps.toList with
  |none=>rfl
  |some i=>rw[e]at h;let h':(-1:Int)=(i:Int):=h;lia
 |cons i r=>
  rw[q]at h;cases e:fY x.cps.toList y.cps.toList with
  |none=>rw[e]at h;let h':((i:Nat):Int)=-1:=h;lia
  |some i=>rfl
def yU(neg:Bool):R2:=λx y H Q=>∃z u,x=.str z/\y=.str u/\Q (.bl (if neg then !(Txt.contains u z)else Txt.contains u z)) H
def RM:OpR X (compareOp .NotIn) (yU true):=by intro zV s Z H x y v u Q I J B h;let#[z,t,rfl,rfl,q]:=h;let#[M,rfl]:=J;let#[L,rfl]:=B;show SB.notContains #[.bl _,H,I,rfl,q]
def uV(K:W.Frag)(neg:Bool):R2:=λx y H Q=>jG K neg x y H Q\/yU neg x y H Q
def Ut(B:X.A.units+32<cLine):OpR X (compareOp .NotIn) (uV X.K true):=FL.OpR.or (UP B) RM
def Rv(J:aS K H x p)(B:aS K H y q)(e:lK p q=some k)(L:Q (.bl (if neg then !k else k)) H):uV K neg x y H Q:=by
 unfold lK at e;split at e
 .split at e
  .cases J with
   |str O z1=>cases B with
    |str M Y=>show .inr #[_,_,rfl,rfl,?_];rw[UL,O,M,qf e];show L
  .cases e
 .show .inl (Qv J B e L)
def Uy:dM K (uV K true) eU:=λH x y p q k Q L J e M=>by
 unfold eU at e;cases B:lK p q with
 |none=>rw[B]at e;cases e
 |some b=>rw[B]at e;let O:(!b)=k:=qf e;subst O;show Rv L J B M
inductive nh(K:W.Frag)(F H:Hp)(xs:List V)(l:List S)(fp:List Addr)(m:Nat)(s:S):Prop
 |mk (x:V) (fa fi fb:List Addr):xs[m]?=some x->aK K F H x s fi->fp=fa++(fi++fb)->(∀{H':Hp}{v':V}{s':S}{fq:List Addr},(∀a∈fa++fb,H' a=H a)->aK K F H' v' s' fq->zJ K F H' (xs.set m v') (l.set m s') (fa++(fq++fb)))->nh K F H xs l fp m s
def zJ.at:∀{xs:List V}{l:List S}{fp:List Addr}{m:Nat}{s:S},zJ K F H xs l fp->l[m]?=some s->nh K F H xs l fp m s
 |_,_,_,_,_,.nil,h=>by simp at h
 |_,_,_,0,_,.cons (fp:=fp) (fq:=fq) a b,h=>by simp at h;subst h;show#[_,[],fp,fq,rfl,a,rfl,λJ r=>by rw[nil_append];show .cons r (b.mono (zG.refl F) λc B=>J c B)]
 |_,_,_,m+1,_,.cons (fp:=fp) (fq:=fq) a b,h=>by let#[x,Y,M,O,h1,h2,rfl,L]:=zJ.at (m:=m) b h;show#[x,fp++Y,M,O,h1,h2,(qp ..).symm,λJ r=>?_];rw[qp];show .cons (a.mono (zG.refl F) λc B=>J c (qj _ (qj _ B))) (L (λc B=>J c ((qx.mp B).elim (λz=>qj _ (qi _ z)) λz=>qi _ z)) r)
def Rel.hide2(r:Rel K (U++[some s]) (Z++[some v]) F G H)(h:U.length=Z.length):∃O fp,Rel K U Z F O H/\zG G O/\aK K F H v s fp/\(∀a∈fp,∃o,O a=some o/\H a=some o)/\
  ∀{U2:Env}{Z2:St}{L H2:Hp},zG F L->Rel K U2 Z2 L O H2->Rel K (U2++[some s]) (Z2++[some v]) L G H2:=by
 classical
 show cps λ_ kk=>?_;let#[fp,e,nd,ap]:=r.en;let#[f1,f2,rfl,a,b]:=e.cut h;let#[n1,n2,h2]:=qw.mp nd;show kk ?_;let b':=b;cases b' with
 |@so _ _ _ _ fs fn Y nl=>
 cases nl;show#[λx=>if x∈fs++[]then H x else G x,fs,#[r.fr,λx o q=>?_,f1,a,n1,λx B=>?_],λx o q=>?_,Y,λx B=>?_,λ{U2 Z2 L H2} sm M=>?_]
 .by_cases z:x∈fs++[]
  .let:=b.in_ x z;grind
  .simp only[z]at q;show r.gr x o q
 .grind
 .grind
 .obtain⟨o,q,_⟩:=b.in_ x (qj _ B);grind
 .obtain⟨J,e2,h1,h3⟩:=M.en;let hk:∀x∈fs++[],H2 x=H x/\L x=none/\x∉J:=λx B=>by let#[o,q,_]:=b.in_ x B;let w:=M.gr x o (by simp only[B];show q);grind
  show#[M.fr,λx o q=>?_,J++(fs++[]),e2.app (b.mono sm λx B=>(hk x B).1),?_,λx B=>?_]
  .let z:x∉fs++[]:=λz=>by grind
   show M.gr x o (by simp only[z];show q)
  .grind
  grind
def Rel.frzEnd(r:Rel K (U++[some s]) (Z++[some v]) F G H)(h:U.length=Z.length):∃F',zG F F'/\Rel K (U++[some (.sh s.toD)]) (Z++[some v]) F' G H:=by let#[u,F',M,J,L,B]:=r.give (i:=U.length) (s:=s) EF;rw[show(U++[some s]).set U.length (some (S.sh s.toD))=U++[some (S.sh s.toD)] from Mt]at B;show#[F',J,B]
end
section
variable{st:Stmt}
def Bg(he:FE X e we):FE X e (cF we):=λpn xe hp=>by show PE.imp (he pn xe hp) λZ H Q q=>?_;let#[F,G,U,P,PX,J,hw,L,hx]:=q;show#[F,G,U,_,PX,J,hw,λr h1 v F1 H1 M s1 Y rv=>?_,hx];let#[#[s,B],eg,M]:=Ao M;let#[F2,s2,l2,O]:=AC (U':=[]) (Z':=[]) Y (Ah Y) rv eg;let#[F3,s3,r3]:=Rel.frzEnd O (Ah O);show L _ B v F3 H1 M (s1.trans (s2.trans s3)) r3 trivial
def GF(h:FS X ks st w):FS X ks st (xR i w):=λpn xe hp=>by show PS.imp (h pn xe hp) λD Z H q=>?_;let#[F,G,U,E,L,hw,n,b,c,r,x]:=q;show#[F,G,U,_,L,hw,λO J F' H' M kp Y B=>?_,b,c,r,x];let#[s,es,M]:=Ao M;let#[v,F2,_,s2,_,r2]:=B.give es;show n _ J F2 H' M kp (Y.trans s2) r2
end
section
variable{K:W.Frag}
def Pa(h:xT d q=some o):∃t ks vs,d=.dct t ks vs/\bR t q=true/\lk ks vs q=o:=by unfold xT at h;grind
def JB{vs:List α}{P:V->α->Prop}(B:zW.length=vs.length)(h:∀(i:Nat) x y,(zW.map (·.2))[i]?=some x->vs[i]?=some y->P x y):
  (lk (zW.map λp=>aO p.1) vs (aO key)=none/\dB zW key=none)\/∃x y,dB zW key=some x/\lk (zW.map λp=>aO p.1) vs (aO key)=some y/\P x y:=
 FK aO (λ_ _=>DM) zW vs key P B h
def JA{vs:List α}{key:List aX}{P:V->α->Prop}(B:zW.length=vs.length)(h:∀(i:Nat) x y,(zW.map (·.2))[i]?=some x->vs[i]?=some y->P x y):
  (lk (zW.map λp=>D.tup (p.1.map aO)) vs (D.tup (key.map aO))=none/\dB zW key=none)\/∃x y,dB zW key=some x/\lk (zW.map λp=>D.tup (p.1.map aO)) vs (D.tup (key.map aO))=some y/\P x y:=
 FK (λl=>D.tup (l.map aO)) (λa b z=>Fd (D.tup.inj z)) zW vs key P B h
def PQ(O:aS K H x d)(M:bR t d=true)
  (r2:(∃zW,t=false/\Rd H a (.dK zW)/\ks=zW.map (λp=>aO p.1)/\zT K F (zW.map (·.2)) vs)\/∃zW,t=true/\Rd H a (.dT zW)/\ks=zW.map (λp=>D.tup (p.1.map aO))/\zT K F (zW.map (·.2)) vs):
  ∃o,gE H a x o/\((lk ks vs d=none/\o=none)\/∃v e,o=some v/\lk ks vs d=some e/\aS K F v e):=by
 rcases r2 with⟨zW,rfl,e,k,r⟩|⟨zW,rfl,e,k,r⟩
 .obtain⟨key,rfl,rfl⟩:=EU O M;show#[_,.inl #[zW,key,e,rfl,rfl],?_];rw[k];rcases JB (zW:=zW) (vs:=vs) (key:=key) (P:=λv e=>aS K F v e) (by let:=r.len;simpa using this) (λi x y h1 h2=>by let#[Y,B,L]:=r.get h2;rw[h1]at B;cases B;show L)with⟨h1,h2⟩|⟨v,e,h1,h2,h3⟩
  .show .inl #[h1,h2]
  .show .inr #[v,e,h1,h2,h3]
 .cases O with
  |tup e1 q=>
   let#[J,rfl,rfl]:=EB q M;show#[_,.inr #[zW,J,_,e,rfl,e1,rfl],?_];rw[k];rcases JA (zW:=zW) (vs:=vs) (key:=J) (P:=λv e=>aS K F v e) (by let:=r.len;simpa using this) (λi x y h1 h2=>by let#[Y,B,L]:=r.get h2;rw[h1]at B;cases B;show L)with⟨h1,h2⟩|⟨v,e,h1,h2,h3⟩
   .show .inl #[h1,h2]
   .show .inr #[v,e,h1,h2,h3]
  |_=>cases M
def bK.dct(r:bK K F H v (.dct t ks vs))(sm:zG F H):∃a,v=.ref a/\((∃zW,t=false/\Rd H a (.dK zW)/\ks=zW.map (λp=>aO p.1)/\zT K F (zW.map (·.2)) vs)\/
  ∃zW,t=true/\Rd H a (.dT zW)/\ks=zW.map (λp=>D.tup (p.1.map aO))/\zT K F (zW.map (·.2)) vs):=by
 rcases r with r|⟨a,xs,ds,L,B,J,r⟩|⟨a,zW,O,M,L,B,J,Y,r⟩|⟨a,zW,O,M,L,B,J,Y,r⟩
 .cases r with
  |dK e k r=>show#[_,rfl,.inl #[_,rfl,Rd.mono sm e,k,r]]
  |dT e k r=>show#[_,rfl,.inr #[_,rfl,Rd.mono sm e,k,r]]
 .cases B
 .cases B;show#[a,L,.inl #[zW,rfl,.inl J,Y,r]]
 .cases B;show#[a,L,.inr #[zW,rfl,.inl J,Y,r]]
end
def KN(hu:X.A.units+1<cLine)(ho:FE X o wo)(hi:FE X i wi)(hd:FE X d wd)(m:M2 X o "get" apos i d cpos):FE X (.Call (.Attribute o "get" apos) [i,d] [] cpos) (kH wo wi wd):=λpn xe hp=>by
 refine PE.imp (SA (X:=wp X pn xe) hu (ho pn xe hp) (hi pn xe hp) (hd pn xe hp) #[m.base,m.few,m.line,m.trees]) λZ H Q q=>?_;let#[F,G,U,P,PX,e1,hw,h6,hx]:=q;show#[F,G,U,_,PX,e1,hw,λx U1 o' F1 H1 hk s1 r1 rv=>?_,hx];let#[hD,hk]:=hk;let l1:=Ah r1;let#[d0,e0,hD]:=Ao hD;let M:∃a,o'=.ref a/\cn H1 a:=by
  cases d0 with
  |dct t ks vs=>
   let#[hc,hb,e2,h5]:=AY (U':=[]) (Z':=[]) r1 l1 rv e0;let#[a,ea,h]:=e2.dct h5.fr;rcases h with⟨L,_,h,_⟩|⟨L,_,h,_⟩
   .show#[a,ea,.inl #[L,h]]
   .show#[a,ea,.inr #[L,h]]
  |_=>cases hD
 let#[a,rfl,M]:=M;show#[a,rfl,M,?_];let#[G1,h4,gg,back]:=r1.hide l1;show#[F1,G1,U1,_,PX,h4,hk,λy U2 i' F2 H2 e3 s2 r2 h9=>?_,hx.mono (λ_ z=>z) s1 gg];let l2:=Ah r2;let#[G2,h3,e4,O]:=r2.hide l2;show#[F2,G2,U2,_,PX,h3,e3,λz J d' F3 H3 B s3 r3 h8=>?_,hx.mono (λ_ z=>z) (s1.trans s2) (gg.trans e4)];let Y:=Ah r3;let#[dd,ed,B]:=Ao B;let#[q,eq,B]:=Ao B;let#[oo,eo,B]:=Ao B;let r4:=back (s2.trans s3) (O s3 r3);simp at r4;let r5:Rel X.K (J++[zH y,zH x]) (Z++[some i',some (.ref a)]) F3 G H3:=Rel.mid (U:=J) (Z:=Z) r4 Y;let ri:=look (U':=[zH x]) (Z':=[some (.ref a)]) r5 Y h9 eq;let r6:Rel X.K ((J++[zH z])++[zH x]) ((Z++[some d'])++[some (.ref a)]) F3 G H3:=by let:=Rel.mid (U:=J++[zH z]) (Z:=Z++[some d']) (o:=zH y) (w:=some i') (U':=[zH x]) (Z':=[some (.ref a)]) ↑r4 (by simp[Y]);show this
 let r7:=Rel.swap (U1:=[zH z]) (Z1:=[some d']) (U2:=[zH x]) (Z2:=[some (.ref a)]) Y rfl ↑r6;let#[F4,s4,re,r8]:=AY (U':=[zH z]) (Z':=[some d']) r7 Y rv ed;let#[t,ks,vs,rfl,h7,rfl]:=Pa eo;let#[a',ea,hh]:=re.dct r8.fr;cases ea;let#[o2,g,h]:=PQ ri h7 hh;show#[o2,g,?_];rcases h with⟨h1,rfl⟩|⟨v,e,rfl,h1,h2⟩
 .rw[h1]at B;show h6 _ J d' F4 H3 B (s1.trans (s2.trans (s3.trans s4))) r8 h8
 .rw[h1]at B;show h6 _ J v F4 H3 B (s1.trans (s2.trans (s3.trans s4))) ((r8.drop Y).push h2) trivial
def Vc{n:Nat}(hh:A.handled=none)(hr:IsRange s.heap r a b c t u v)(hsmall:Builtin.Range.small a b c=true)
  (hn:Builtin.Range.rangeSize a b c=n)(zY:n<=2^24)
  (hQ:∀(h':Heap) tk z3,(∀b o,s.heap.get? b=some o->Heap.get? h' b=some o)->s.heap.objs.size<=h'.objs.size->ItemsOf (λi v=>∃t,v=.int (a+i*c) t) z3 n->Q z3.toList {s with heap:=h',toks:=tk}):wpAny (model prog w) A (collect (.ref r)) Q E s:=by
 refine qa (wpAny_runValue (codeAny_builtin F.entry_proto_collect ?_));show qa (zk ?_);show qb #[plainId_quiet F.plain_list_iadd _,codeAny_builtin F.entry_list_iadd ?_];let hS₁:(s.heap.push {cls:=.type "list",data:=.seq ([]:List Value).toArray}).get? s.heap.objs.size=some {cls:=.type "list",data:=.seq #[]}:=qd _ rfl;refine wpAny_extend_range (R:=λr s'=>match r with
  |.ok (.ret v)=>wpAny (model prog w) A (match v with
   |.ref a=>do
    let __do_lift<-load a
    match __do_lift.data with
     |.seq xs epoch=>pure xs.toList
     |x=>unsupported "internal:collect"
   |x=>unsupported "internal:collect") Q E s'
  |.ok a=>False
  |.error e=>E e s') (s:={s with heap:=s.heap.push {cls:=.type "list",data:=.seq ([]:List Value).toArray}}) hh (qc _ hr) hsmall hn zY _ _ 0 hS₁ λh' tk acc' c' hk hS' hacc=>?_
 show qa (wpAny_load hS' ?_);show qb (hQ h' tk acc' (λb o e=>hk b o (ne_of_lt (qe e)) (qc _ e)) (le_of_lt (qe hS')) hacc)
def Vh{n:Nat}(hh:A.handled=none)(hr:IsRange s.heap r a b c t u v)(hsmall:Builtin.Range.small a b c=true)
  (hn:Builtin.Range.rangeSize a b c=n)(zY:n<=2^24)
  (h:∀(h':Heap) tk z3,(∀b o,s.heap.get? b=some o->Heap.get? h' b=some o)->s.heap.objs.size<=h'.objs.size->ItemsOf (λi v=>∃t,v=.int (a+i*c) t) z3 n->Q₁ (.ref h'.objs.size) {s with heap:=h'.push {cls:=.type "tuple",data:=.seq z3},toks:=tk}):
  codeAny (model prog w) A (.call (.builtin "tuple.__new__") #[[.type "tuple",.ref r],[]]) (wants Q₁ E) s:=by
 show codeAny_of_tree ?_;show wpAny _ A.in1 (do checkBuiltinCall "tuple.__new__" #[[.type "tuple",.ref r],[]];again (.builtin "tuple.__new__" #[[.type "tuple",.ref r],[]])) _ _ s;show qa (zt (F.newCall_tuple_1 _) (qb #[plainId_quiet F.plain_tuple_new _,codeAny_builtin F.entry_tuple_new ?_]));rw[Around.under_plainId F.plain_tuple_new _];let hsub:=sub_tuple_self;let hinit:=init_tuple_lookup;let hmh:=madeHere_tuple;let hTI:s.TypeIs (.ref r) "range":=#[_,hr,rfl]
 wp_walk using wpAny_typeOf hTI,Vc (A:=A.in1) hh hr hsmall hn zY
 intro h' tk z3 hm hle hacc;show wpAny _ _ (Builtin.Tuple.tupleExact z3.toList.toArray>>=λv=>ret v) _ _ _;unfold Builtin.Tuple.tupleExact;show qa (zk ?_ (by show z3.toList.toArray.size<=sizeLine;simp only[toArray_toList];rw[hacc.1,zo];show zY));show qb ?_;let e:z3.toList.toArray=z3:=by simp
 rw[e];show h h' tk z3 hm hle hacc
def Vi{n:Nat}(hh:A.handled=none)(hr:IsRange s.heap r a b c t u v)(M:Builtin.Range.small a b c=true)
  (hn:Builtin.Range.rangeSize a b c=n)(Y:n<=2^24)
  (hQ:∀(h':Heap) tk O,(∀b o,s.heap.get? b=some o->Heap.get? h' b=some o)->s.heap.objs.size<=h'.objs.size->ItemsOf (λi v=>∃t,v=.int (a+i*c) t) O n->Q (.ref h'.objs.size) {s with heap:=h'.push {cls:=.type "tuple",data:=.seq O},toks:=tk}):
  wpAny (model prog w) A (call (.type "tuple") [.ref r]) Q E s:=by
 refine callType_codes (Q₁:=λL B=>B.TypeIs L "tuple"/\Q L B) F.called_tuple (F.typeCall_tuple_1 _) F.entry_object_init
  (Vh (A:=A.in1) hh hr M hn Y λs' tk O hm h2 h1=>#[#[_,qd _ rfl,rfl],hQ s' tk O hm h2 h1]) λL B J=>?_
 show#[J.1,F.args_object_init_2 L _,object_init_meets F.called_tuple.init.lookup F.called_tuple.made ⋯ prog w A.in1 _ B #[J.1,rfl,J.2]]
section
variable{K:W.Frag}
def yE(ta:TA):TE:=λZ H Q=>ta Z H λvs H1=>∃j:Int,vs=[.int j]/\∀p,H1 p=none->Q (.ref p) (upd H1 p (.rng 0 j))
def RN(hg:Gl X "range")(hm:X.mg "range"=none)(ha:PA X [a] ta)(hs:starEach [a] X.env=[(false,eval a X.env)]):PE X (.Call (.Name "range" p) [a] [] pos) (yE ta):=by
 intro zV s Z H Q I h;show Call_ (DJ I hg hm boot_range (PyProof.Rows.callWith_type1 (Am (ha pos zV s Z H _ I h) λus B L=>?_) hs rfl));let#[vs,H1,J,O,Y]:=L;let#[j,e,q]:=Y;subst e;cases O with
 |cons r M=>cases M;let#[t,rfl]:=r;show call_range_1 #[.ref B.heap.objs.size,_,J.laid (a:=B.heap.objs.size) (o:=.rng 0 j) (t':=B.toks+1+1) (λ_ _ q=>qc _ q) (q9 _) ?_,rfl,q _ (J.hok.fresh (q9 _))];show#[_,_,_,qd _ rfl]
def fC(i:Int)(n:Nat):List V:=(List.range n).map λ(k:Nat)=>V.int (i+(k:Int))
def mP(f:List V->HO):List V->Hp->VK->Prop:=λxs H Q=>∃(a:Addr)(i j:Int),xs=[.ref a]/\H a=some (.rng i j)/\(-(2^62)<=i/\i<2^62/\-(2^62)<=j/\j<2^62)/\j-i<=2^24/\∀p,H p=none->Q (.ref p) (upd H p (f (fC i (j-i).toNat)))
def QM(h:ItemsOf (λk v=>∃t,v=.int (i+k*1) t) B n):zS (fC i n) B.toList:=by
 unfold fC;show Jj (by rw[qo,qD,qV,h.1]) λj y v h1 h2=>?_;let#[t,rfl]:=h.2 j v (by rw[<-qZ];show h2);rw[qF]at h1;let J:j<n:=by let:=(qg.mp h2).1;rw[qV,h.1]at this;show this
 rw[List.getElem?_range J]at h1;cases h1;show#[t,by simp]
def UW(hc:X.calm=true):aZ X (.type "tuple") (mP .tup):=by
 intro zV s Z H xs us Q I r h;let#[a,i,j,rfl,hH,#[b1,b2,b3,b4],hz,q]:=h;let#[u,rfl,M]:=vals1 r;cases M;let#[t,u,v,O]:=I.hok a _ hH;let Y:Builtin.Range.rangeSize i j 1=((j-i).toNat:Nat):=by rw[rangeSize_one];split<;>lia
 show Vi (I.ok.hd hc) (show IsRange s.heap a i j 1 t u v from O) (small_one b1 b2 b3 b4) Y ∅ λh' tk L hk B J=>?_;show#[.ref h'.objs.size,_,I.laid (t':=tk) (λb o e=>qc _ (hk b o e)) B (show zU X.prog X.w _ (h'.push _) _ (.tup (fC i (j-i).toNat)) from#[#[?_,iV.new rfl (qd _ rfl)],L.toList,QM J,?_]),rfl,q _ (I.hok.fresh B)]
 .unfold fC;rw[qo,qD,zo];lia
 .simpa using IsTup.new h' L
def Rx:zT K F (fC i n) (fromTo i n):=by
 unfold fC fromTo;generalize List.range n=l;induction l with
 |nil=>show .nil
 |cons k l B=>show .cons (.int _) B
def PU{k:List D->Env->WQ->Prop}(L:∀pn xe,aZ (wp X pn xe) (.type T) (mP f))(hg:Gl X x)(hm:X.mg x=none)(hv:bootBuiltins x=some (.type T))(h7:Gl X "range")(h6:X.mg "range"=none)(ha:FE X a wa)
  (M:∀{U:Env}{Z:St}{F G H:Hp}{l:List D}{xs:List V}{P:WQ}{q:Addr},Rel X.K U Z F G H->zT X.K F xs l->k l U P->H q=none->∃r F',zG F F'/\P r U/\RV Z (.ref q) r/\Rel X.K (U++[zH r]) (Z++[some (.ref q)]) F' G (upd H q (f xs)))
  (hs:starEach [a] X.env=[(false,eval a X.env)])(he:starEach [.Call (.Name "range" p1) [a] [] pos1] X.env=[(false,eval (.Call (.Name "range" p1) [a] [] pos1) X.env)])(hn:x≠"__name__")(h8:(x==("__debug__":Str))=false):
  FE X (.Call (.Name x p) [.Call (.Name "range" p1) [a] [] pos1] [] pos) (λU Q E=>bB wa U (λl U1=>l.length<=big/\k l U1 Q) E):=λpn xe Y=>by
 show PE.imp (LZ (X:=wp X pn xe) (L pn xe) hg hm hv (Ks (RN (X:=wp X pn xe) h7 h6 (Aa ha Ab hs pn xe Y) hs) JQ (by rw[he];rfl)) hn h8 (by rw[he];rfl) (by rfl)) λZ H Q q=>?_;let#[F,G,U,P,PX,h4,hw,h5,hx]:=q;show#[F,G,U,λrs U1=>match rs with|[r]=>(match view r U1 with|some (.int j)=>(-big<=j/\j<=big)/\(fromTo 0 j.toNat).length<=big/\k (fromTo 0 j.toNat) U1 P|_=>False)|_=>False,PX,h4,hw,λrs U1 vs F1 H1 B s1 O hl J=>?_,hx];match rs,vs,J,O,B with
 |[r],[v],J,O,B=>
  dsimp only at B;split at B
  .rename_i j ej;let rp:=look (U':=[]) (Z':=[]) O hl J.1 ej;cases rp;let#[#[h1,h2],_,B]:=B;let eb:(big:Int)=1000000:=rfl;let r2:Rel X.K U1 Z F1 G H1:=(show Rel X.K (U1++[zH r]) (Z++[some (.int j)]) F1 G H1 from O).drop hl;show#[j,rfl,λp Y=>?_];let r3:=r2.newF (o:=.rng 0 j) Y;let#[f0,_,_]:=r2.free Y;show#[p,0,j,rfl,AX,#[∅,∅,∅,∅],∅,λq hq=>?_];rw[Int.sub_zero];let#[r,F',s',hP,h3,r4]:=M (xs:=fC 0 j.toNat) r3 Rx B hq;show h5 r U1 _ F' _ hP (s1.trans ((zG.upd f0).trans s')) r4 h3
  .show B.elim
 |[],_,_,_,M=>show M.elim
 |[_],[],J,_,_=>show J.elim
 |[_],_::_::_,J,_,_=>show J.2.elim
 |_::_::_,_,_,_,M=>show M.elim
def QF(hc:X.calm=true)(hg:Gl X "tuple")(hm:X.mg "tuple"=none)(hv:bootBuiltins "tuple"=some (.type "tuple"))(M:Gl X "range")(L:X.mg "range"=none)(ha:FE X a wa)
  (hs:starEach [a] X.env=[(false,eval a X.env)]:=by rfl)(he:starEach [.Call (.Name "range" O) [a] [] pos1] X.env=[(false,eval (.Call (.Name "range" O) [a] [] pos1) X.env)]:=by rfl):
  FE X (.Call (.Name "tuple" p) [.Call (.Name "range" O) [a] [] pos1] [] pos) (mL (bB wa)):=
 PU (f:=.tup) (k:=λl J Q=>Q (.v (.sh (.tup l))) J) (λpn xe=>UW (X:=wp X pn xe) hc) hg hm hv M L ha (λB rx hP Y=>by let#[f0,_,_]:=B.free Y;show#[_,_,zG.upd f0,hP,trivial,(B.newF (o:=.tup _) Y).push (.tup AX (rx.mono (zG.upd f0)))]) hs he ⋯ ⋯
end
def KE(h1:-1000000000000<i)(h2:i<1000000000000):i.natAbs.log2<40:=by
 let:i.natAbs<2^40:=∅
 by_cases B:i.natAbs=0
 .rw[B];decide
 .show(Nat.log2_lt B).mpr this
mutual
def RS:∀d:D,pK d=true->mO d=true
 |.non,_=>rfl
 |.bl _,_=>rfl
 |.int i,h=>by let h':(decide (-1000000000000<i)&&decide (i<1000000000000))=true:=h;rw[and_eq_true,qT,qT]at h';let:=KE h'.1 h'.2;show decide (i.natAbs.log2<1920)=true;rw[qT];lia
 |.str _,_=>rfl
 |.tup l,h=>IJ l h
 |.lst l,h=>IJ l h
 |.dct _ _ _,h=>by cases h
 |.set _,h=>by cases h
 |.exc _ _ _,h=>by cases h
def IJ:∀l:List D,eO l=true->eD l=true
 |[],_=>rfl
 |d::r,h=>by rw[eO,and_eq_true]at h;rw[eD,RS d h.1,IJ r h.2];rfl
end
mutual
def UE:∀d:D,pK d=true->(eM d).leavesShort 13=true
 |.non,_=>rfl
 |.bl _,_=>rfl
 |.int i,h=>by let h':(decide (-1000000000000<i)&&decide (i<1000000000000))=true:=h;rw[and_eq_true,qT,qT]at h';let:=int_text_length_le10 (a:=i) (k:=12) ⋯ ∅;simp only[eM,PyData.leavesShort,qT];show(Str.ofString (toString i)).length<=13;rw[PySem.ofString_length];show this
 |.str l,h=>by let h':(l.all λc=>decide (c<1114112))=true:=h;simp only[eM,PyData.leavesShort,qI,qT]at h'⊢;intro c B;let:=h' c ↑B;lia
 |.tup l,h=>by simp only[eM,PyData.leavesShort];show Je l h
 |.lst l,h=>by simp only[eM,PyData.leavesShort];show Je l h
 |.dct _ _ _,h=>by cases h
 |.set _,h=>by cases h
 |.exc _ _ _,h=>by cases h
def Je:∀l:List D,eO l=true->PyData.leavesShortAll 13 (cW l)=true
 |[],_=>rfl
 |d::r,h=>by rw[eO,and_eq_true]at h;simp only[cW,PyData.leavesShortAll,and_eq_true];show#[UE d h.1,Je r h.2]
end
mutual
def UC:∀d:D,pK d=true->(eM d).weight<=xP d
 |.non,_=>q9 _
 |.bl _,_=>q9 _
 |.int i,h=>by let h':(decide (-1000000000000<i)&&decide (i<1000000000000))=true:=h;rw[and_eq_true,qT,qT]at h';let:=KE h'.1 h'.2;simp only[eM,PyData.weight,xP];split<;>lia
 |.str l,h=>by simp[eM,PyData.weight,xP]
 |.tup l,h=>by simp only[eM,PyData.weight,xP];show Jg l h
 |.lst l,h=>by simp only[eM,PyData.weight,xP];show Jg l h
 |.dct _ _ _,h=>by cases h
 |.set _,h=>by cases h
 |.exc _ _ _,h=>by cases h
def Jg:∀l:List D,eO l=true->PyData.weightAll (cW l)<=lT l
 |[],_=>q9 _
 |d::r,h=>by rw[eO,and_eq_true]at h;let h1:=UC d h.1;let h2:=Jg r h.2;simp only[cW,PyData.weightAll,lT];lia
end
section
variable{K:W.Frag}
def Md(a:Array Nat):∀(n:Nat)(b:Array Nat),((List.replicate n a).foldl (·++·) b).toList=b.toList++(List.replicate n a.toList).flatten
 |0,b=>by simp
 |n+1,b=>by rw[List.replicate_succ,foldl_cons,Md a n,List.replicate_succ,List.flatten_cons,toList_append,qp]
def Oq(B:0<=n):(Txt.mul x n).cps.toList=(List.replicate n.toNat x.cps.toList).flatten:=by
 unfold Txt.mul;by_cases h1:n<1
 .rw[show n=0 by lia];rfl
 .rw[q8 h1];by_cases h2:(n==1||x.length==0)=true
  .rw[q5 h2];rw[or_eq_true,beq_iff_eq,beq_iff_eq]at h2;rcases h2 with h2|h2
   .subst h2;simp
   .let:x.cps.toList=[]:=by let e:x.cps.size=0:=h2;rw[<-List.length_eq_zero_iff];exact e
    rw[this];simp
  .rw[q8 h2];rw[Md];simp
def rV:R2:=λx y H Q=>∃z n,x=.str z/\y=.int n/\0<=n/\n<=1000/\z.length<=500/\Q (.str (Txt.mul z n)) H
def Pm:OpR X (binaryOp .Mult) rV:=by
 intro zV s Z H x y v u Q I J B h;let#[z,n,rfl,rfl,h0,h1,L,q]:=h;let#[t,rfl]:=J;let#[O,rfl]:=B;show SB.mul #[?_,λh _=>?_,λh _=>?_] λM k=>#[.str _,H,I.kept λ_ _ z=>z,#[_,rfl],q]
 .grind
 .let h3:(9223372036854775807:Int)/1000<=(2^63-1)/n:=by rw[Int.le_ediv_iff_mul_le ∅];grind
  grind
 .let Y:z.length*n.toNat<=500*1000:=mul_le_mul L ∅;simp only[Builtin.Str.tooLong,zo];lia
def SG:iH K (λx y H Q=>(rI nY λi j=>.int (i*j)) x y H Q\/rV x y H Q) bQ:=by
 intro Z U F G H x y p q s Q B L J e M;unfold bQ at e;split at e
 .rename_i l n;split at e
  .rename_i hc;cases e;let#[O,h1,hz]:=hc;let#[z,rfl,Y,_]:=L.str;let ey:y=.int n:=by
    rcases J with J|⟨_,_,_,_,e,_⟩|⟨_,_,_,_,_,e,_⟩|⟨_,_,_,_,_,e,_⟩
    .cases J;rfl
    .cases e
    .cases e
    .cases e
   subst ey;let h2:z.length=l.length:=by rw[<-Y];rfl
   show .inr #[z,n,rfl,rfl,O,h1,∅,?_];show M _ F H (zG.refl F) (B.push (.str ?_ ?_))
   .rw[Oq O,Y]
   .let h4:n.toNat*l.length<=1000*500:=mul_le_mul ∅ hz;let e5:∀m,((List.replicate m l).flatten).length=m*l.length:=λm=>by simp
    rw[e5];lia
  .cases e
 .show .inl (QL Z U F G H x y _ _ s Q B L J e M)
def Cd(M:FE X a J)(L:FE X b B):FE X (.BinOp a .Mult b pos) (zM bQ J B):=ES (λ_ _=>OpR.or NM Pm) SG M L
end
end FL
namespace FL
def fo(s0:S)(n k:Nat)(it:WI)(g:WG)(c:WT)(b:WB):WE:=λU Q E=>it U (λl J=>aL g c b l (J++some s0::List.replicate k none) (λB=>zF (slot B n) λs=>Q (.v s) (B.take n)) NX) E
end FL
namespace FL
open PySem PySem.Spec PyProof.Rows L2
def LF:FE X (.Dict [] [] pos) (kK true):=λpn xe L=>by show PE.imp Ry λZ H Q q=>?_;let#[F,G,U,P,PX,B,M,J,O]:=q;intro p L;show J _ U _ F _ M (zG.refl F) (Rel.newO (s:=.dct true [] []) B L (.dT (zW:=[]) AX rfl .nil)) trivial
def dO(K:W.Frag)(f:Addr):FuncData:=match K.lookup f with
 |some ⟨_,_,.func d,_⟩=>d
 |_=>default
def JG{K:W.Frag}(l:K.lookup f=some #[L,J,.func d,B]):dO K f=d:=by unfold dO;rw[l]
inductive Lk(K:W.Frag)(n:Str)(st:Stmt)(f:Addr):Prop
 |mk {oc kV dc pm cd ct:Value} {od an:Option Addr} {sl:Array (Option Value)} (a:W.nsIn K mainGlobals n=some (some (.ref f))) (l:K.lookup f=some ⟨oc,od,.func (W.fnOf n n (dQ st) (cO st) (aA st) .none kV dc pm an cd ct),sl⟩)
  (c:W.codeIn K cd n=true) (k:W.keepIn K (.ref f)=true):Lk K n st f
structure Tx(K:W.Frag)(mg:Str->Option Value)(f:Addr)(n:Str)(st:Stmt)(ps:List Str):Prop where
 F:xM K n n st f (dO K f)
 m:mg n=some (.ref f)
 k:W.keepIn K (.ref f)=true
 b:Binds K (dO K f) ps []
def nt(n:Str)(st:Stmt)(ps:List Str):Prop:=∀(kV B L:Value)(M:Option Addr)(J ct:Value)(us:List Value),us.length=ps.length->bindArgs (W.fnOf n n (dQ st) (cO st) (aA st) .none kV B L M J ct) #[us,[]]=pure (ps.zip us)
section
variable{K:W.Frag}{st:Stmt}
def Lk.mm(t:Lk K n st f)(X:K.In h)(G:h.Ns mainGlobals mg):mg n=some (.ref f):=by let#[a,l,c,k]:=t;show W.mg_of X G a
def Lk.tx(t:Lk K n st f)(X:K.In h)(G:h.Ns mainGlobals mg)(b:nt n st ps:=by intro _ _ _ _ _ _ us B;first|(let#[_,rfl]:=Dc (l:=us) B;rfl)|(let#[_,_,rfl]:=Eh (l:=us) B;rfl)|(let#[_,_,_,rfl]:=Eg (l:=us) B;rfl)|(let#[_,_,_,_,rfl]:=Ef (l:=us) B;rfl)|(let#[_,_,_,_,_,rfl]:=Ge (l:=us) B;rfl)):Tx K mg f n st ps:=by
 let#[a,l,c,k]:=t;let e:=JG l;let F:=Of l c k;show#[?_,W.mg_of X G a,k,?_]
 .rw[e];show F
 .rw[e];show F.binds b
def Lk.bt(t:Lk K n st f)(s:Shared)(v:Value)(b:nt n st [x]:=by intro _ _ _ _ _ _ us B;let#[_,rfl]:=Dc (l:=us) B;rfl):BindsTo s (dO K f) #[[v],[]] [(x,v)]:=by let#[a,l,c,k]:=t;let e:=JG l;rw[e];show .of_eq (b _ _ _ _ _ _ [v] rfl)
end
def Bd{N P:List Str}{B:Scope}(a:B.kind=.function:=by rfl)(b:B.isCoroutine=false:=by rfl)(c:B.isGenerator=false:=by rfl)(d:N.Nodup:=by decide+kernel)(e:N.take P.length=P:=by rfl)(f:∀x∈P,B.names.lookup x=some .local\/B.names.lookup x=some .cell:=by decide+kernel)(g:∀y∈B.names,y.2≠.free:=by decide+kernel):aD N P B:=#[a,b,c,d,e,f,g]
abbrev fM(P:Program)(w:World)(K:W.Frag)(mg:Str->Option Value)(base:Heap)(af:Nat->Addr)(k i:Nat)(ps:List Str)(sp:Sp):Prop:=fL P w K mg base (gO P w) k (af i) (dO K (af i)) ps sp
def Be{K:W.Frag}{st:Stmt}(t:Tx K mg f x st ps)(Sc:aD N ps (aA st))
  (O:∀(J:Value)(A:Around)(B:List PySem.Env)(s:Shared)(H:Hp)(E:XK),bX k (A.deeper (envOfC x (aA st) s.heap.objs.size f J))->lF (eT (gO P w) P w K mg base N x (aA st) f J A B s H E) ks (cO st) L)(hn:ps.length=n:=by rfl)(M:N.length=m:=by rfl):
  fL P w K mg base (gO P w) (k+1) f (dO K f) ps (dP K (eW n m ks L) n):=JC t.F Sc hn M O
section
theorem fw(i:Nat)(M:X.N[i]?=some x:=by rfl)(J:bj X.env.scope x:=by first|show Or.inl rfl|show Or.inr (Or.inl rfl)|show Or.inr (Or.inr rfl))(L:(x==("__debug__":Str))=false:=by decide)
  (B:(x==("__classdict__":Str))=false:=by decide):FE X (.Name x pos) (zw i):=Pu M J L B
def Af(i:Nat)(B:X.N.Nodup)(L:i∉ks:=by decide)(hi:X.N[i]?=some x:=by rfl)(J:Loc X.env.scope x:=by first|show Or.inl rfl|show Or.inr rfl)(O:X.fn x=true\/X.env.scope.names.lookup x=some .local:=by show Or.inl rfl):FG X ks (.Name x pos) (FL.zz i):=Ky L (λj M=>EY B M hi) hi J O
def BG(i:Nat)(L:i∉ks:=by decide)(J:(X.N.zipIdx.all λp=>!(p.1==x)||p.2==i)=true:=by kernel_rfl)(hi:X.N[i]?=some x:=by rfl)(B:Loc X.env.scope x:=by first|show Or.inl rfl|show Or.inr rfl)(M:X.fn x=true\/X.env.scope.names.lookup x=some .local:=by first|show Or.inr rfl|show Or.inl rfl):FG X ks (.Name x pos) (FL.zz i):=Ky L (uq J) hi B M
variable{st:Stmt}
def Ak(ms:List Bool)(t:Tx X.K X.mg f x st ps)(Fk:fL X.prog X.w X.K X.mg X.base (gO X.prog X.w) k f (dO X.K f) ps (dP X.K M n))(Y:bX j X.A)(ha:FA X (e::es) O)(hj:k<=j:=by decide)(hg:Gl X x:=by rfl)(B:∀ss P PX,M ss P PX->ss.length=n:=by show λ_ _ _ h=>h.1)
  (L:(x==("__debug__":Str))=false:=by decide)(he:starEach (e::es) X.env=(false,eval e X.env)::starEach es X.env:=by rfl)(J:(backTo pos (starEach es X.env)).any (·.1)=false:=by rfl):
  FE X (.Call (.Name x p) (e::es) [] pos) (zO M ms O):=QD Fk (Y.mono hj) hg t.m t.k t.b ha B L he J
end
end FL
namespace FL
def bO(l:List D):Bool:=l.all cV||l.all (bR true)
open Classical in
def cS(l:List D)(d:D):List D:=if d∈l then l else l++[d]
def aH(l:List D):List D:=l.foldl cS []
def nO(n:Nat)(e:WE):WB:=λU Q E=>e U (λr B=>zF (give r B) λp=>match slot p.2 n with
 |some (.set l)=>bO (p.1.toD::l)=true/\l.length<=150/\Q (p.2.set n (some (.set (cS l p.1.toD))))
 |_=>False) E
def newS(l:List D):Option S:=if bO l=true/\l.length<=150 then some (.set (aH l))else none
def gD:List D->Option S
 |[.lst l]=>newS l
 |[.tup l]=>newS l
 |_=>none
def iT:List D->Option S
 |[.set l]=>some (.sh (.int l.length))
 |ds=>aY ds
def fN:List Bool->List D->Prop
 |[],[]=>True
 |false::sh,.int _::r=>fN sh r
 |true::sh,.str _::r=>fN sh r
 |_,_=>False
def iU(sh:List Bool):D->Prop
 |.tup l=>fN sh l
 |_=>False
open Classical in
def cM(l:List D):Option S:=if l.length<64/\(l.length<2\/(gJ l).isSome=true\/(dZ l).isSome=true\/∃sh,sh≠[]/\∀d∈l,iU sh d)then some (.lst ((cX l).map .sh))else none
def cK:List D->Option S
 |[.lst l]=>cM l
 |[.set l]=>cM l
 |_=>none
@[inline]def Kd:D->D->Prop:=λa b=>(∃i j,a=.int i/\b=.int j)\/∃x y,a=.str x/\b=.str y
def Im(i j:Int):cI (.int i) (.int j)=if i<j then .lt else if j<i then .gt else .eq:=by rw[cI]
def GQ(x y:List Nat):cI (.str x) (.str y)=if x<y then .lt else if y<x then .gt else .eq:=by rw[cI]
def Tp(x y:List Nat):x<y\/y<x\/x=y:=by grind
def Hn(h:Kd a b):(cI a b=.lt/\cI b a=.gt)\/(cI a b=.gt/\cI b a=.lt)\/(a=b/\cI a b=.eq):=by
 rcases h with⟨i,j,rfl,rfl⟩|⟨x,y,rfl,rfl⟩
 .grind[Im]
 .rw[GQ,GQ];grind
def Oc(h:Kd a b)(h':Kd b c)(e:cI a b=.lt)(L:cI b c=.lt):cI a c=.lt:=by
 rcases h with⟨i,j,rfl,rfl⟩|⟨x,y,rfl,rfl⟩
 .rcases h' with⟨B,k,h1,rfl⟩|⟨x,y,h1,rfl⟩
  .grind[Im,Int.lt_trans]
  .cases h1
 .rcases h' with⟨B,k,h1,rfl⟩|⟨J,z,h1,rfl⟩
  .cases h1
  grind[GQ,List.lt_trans]
def Hc(h:fN sh (a::l))(h':fN sh (b::m)):Kd a b/\∃B,fN B l/\fN B m:=by
 cases sh with
 |nil=>show h.elim
 |cons t sh=>
  cases t
  .cases a<;>first|exact h.elim|skip
   cases b<;>first|show h'.elim|skip
   show#[.inl #[_,_,rfl,rfl],sh,h,h']
  .cases a<;>first|exact h.elim|skip
   cases b<;>first|show h'.elim|skip
   show#[.inr #[_,_,rfl,rfl],sh,h,h']
def EC(h:fN sh [])(h':fN sh m):m=[]:=by
 cases sh with
 |nil=>cases m with
  |nil=>rfl
  |cons _ _=>show h'.elim
 |cons t _=>cases t<;>show h.elim
def QW{sh B:List Bool}{l m:List D}(h:fN sh l)(h':fN B l):sh=B:=by
 induction l generalizing sh B with
 |nil=>
  cases sh with
  |nil=>cases B with
   |nil=>rfl
   |cons t _=>cases t<;>show h'.elim
  |cons t _=>cases t<;>show h.elim
 |cons a l L=>
  cases sh with
  |nil=>show h.elim
  |cons t sh=>cases B with
   |nil=>show h'.elim
   |cons J B=>cases t<;>cases J<;>cases a<;>first|show h.elim|show h'.elim|rw[L h h']
def Ja(a b:D)(l m:List D):aV (a::l) (b::m)=match cI a b with|.eq=>aV l m|o=>o:=by rw[aV];first|done|(cases cI a b<;>rfl)
def EE:∀{sh:List Bool}{l m:List D},fN sh l->fN sh m->(aV l m=.lt/\aV m l=.gt)\/(aV l m=.gt/\aV m l=.lt)\/(l=m/\aV l m=.eq)
 |sh,[],m,h,h'=>by rw[EC h h'];show .inr (.inr #[rfl,by rw[aV]])
 |sh,a::l,[],h,h'=>by cases EC h' h
 |sh,a::l,b::m,h,h'=>by
  let#[k,O,k1,Y]:=Hc h h';rw[Ja,Ja];rcases Hn k with⟨J,M⟩|⟨J,M⟩|⟨rfl,J⟩
  .rw[J,M];show .inl #[rfl,rfl]
  .rw[J,M];show .inr (.inl #[rfl,rfl])
  .rw[J];rcases EE k1 Y with⟨B,L⟩|⟨B,L⟩|⟨rfl,B⟩
   .show .inl #[B,L]
   .show .inr (.inl #[B,L])
   .show .inr (.inr #[rfl,B])
def KO:∀{sh:List Bool}{l m n:List D},fN sh l->fN sh m->fN sh n->aV l m=.lt->aV m n=.lt->aV l n=.lt
 |sh,[],m,n,h,h',h'',e,_=>by rw[EC h h']at e;cases e
 |sh,a::l,[],n,h,h',h'',e,_=>by cases EC h' h
 |sh,a::l,b::m,[],h,h',h'',e,_=>by cases EC h'' h
 |sh,a::l,b::m,c::n,h,h',h'',e,e'=>by
  let#[k,M,k1,k2]:=Hc h h';let#[O,L,Y,k4]:=Hc h' h'';let es:M=L:=QW (m:=[]) k2 Y;subst es;rw[Ja]at e e'⊢;rcases Hn k with⟨J,_⟩|⟨J,_⟩|⟨rfl,J⟩
  .rw[J]at e;rcases Hn O with⟨B,_⟩|⟨B,_⟩|⟨rfl,B⟩
   .rw[Oc k O J B]
   .rw[B]at e';cases e'
   .rw[J]
  .rw[J]at e;cases e
  .rw[J]at e;rcases Hn O with⟨B,_⟩|⟨B,_⟩|⟨rfl,B⟩
   .rw[B]
   .rw[B]at e';cases e'
   .rw[J]at e';rw[J];show KO k1 Y k4 e e'
def Ea(h:fN sh l)(h':fN sh m):dX (.tup l) (.tup m)=!(aV m l==.lt):=by
 unfold dX;rw[show cI (.tup l) (.tup m)=aV l m by rw[cI]];rcases EE h h' with⟨B,J⟩|⟨B,J⟩|⟨rfl,B⟩
 .rw[B,J];rfl
 .rw[B,J];rfl
 .rw[B];rfl
def Fy(sh:List Bool):fG (iU sh) where
 tot a b ha hb:=by
  cases a<;>first|show ha.elim|skip
  cases b<;>first|show hb.elim|skip
  rw[Ea ha hb,Ea hb ha];rcases EE ha hb with⟨f1,f2⟩|⟨f1,f2⟩|⟨_,f1⟩
  .show .inl (by rw[f2];rfl)
  .show .inr (by rw[f1];rfl)
  .show .inr (by rw[f1];rfl)
 tr a b c ha hb hc:=by
  cases a<;>first|show ha.elim|skip
  cases b<;>first|show hb.elim|skip
  cases c<;>first|show hc.elim|skip
  rw[Ea ha hb,Ea hb hc,Ea ha hc];intro h1 h2;rcases EE ha hb with⟨f1,f2⟩|⟨f1,f2⟩|⟨rfl,f1⟩
  .rcases EE hb hc with⟨g1,g2⟩|⟨g1,g2⟩|⟨rfl,g1⟩
   .rcases EE ha hc with⟨k1,k2⟩|⟨k1,k2⟩|⟨rfl,k1⟩
    .rw[k2];rfl
    .rw[KO ha hb hc f1 g1]at k1;cases k1
    .rw[k1];rfl
   .rw[g2]at h2;cases h2
   .show h1
  .rw[f2]at h1;cases h1
  .show h2
 anti a b ha hb:=by
  cases a<;>first|show ha.elim|skip
  cases b<;>first|show hb.elim|skip
  rw[Ea ha hb,Ea hb ha];intro h1 h2;rcases EE ha hb with⟨f1,f2⟩|⟨f1,f2⟩|⟨rfl,f1⟩
  .rw[f1]at h2;cases h2
  .rw[f2]at h1;cases h1
  .rfl
section
variable{ι κ:Type}[DecidableEq κ](g:ι->κ)
def bW(l:List ι)(i:ι):List ι:=if g i∈l.map g then l else l++[i]
def iP(l:List ι):List ι:=l.foldl (bW g) []
def Sv{f:ι->D}(h:∀i j,f i=f j↔g i=g j)(l:List ι)(i:ι):cS (l.map f) (f i)=(bW g l i).map f:=by unfold cS bW;grind
def Kp{f:ι->D}(h:∀i j,f i=f j↔g i=g j)(l:List ι):aH (l.map f)=(iP g l).map f:=by
 suffices ∀B:List ι,(l.map f).foldl cS (B.map f)=(l.foldl (bW g) B).map f from this []
 induction l with
 |nil=>show λ_=>rfl
 |cons i l J=>intro B;rw[qy,foldl_cons,Sv g h];show J _
def LG{l:List ι}{k:Nat}(h:k<l.length):iP g (l.take (k+1))=bW g (iP g (l.take k)) l[k]:=by unfold iP;rw[List.take_add_one,qh h,foldl_append];rfl
def FF:∀{l B:List ι}{i:ι},i∈l.foldl (bW g) B->i∈B\/i∈l
 |[],_,_,h=>.inl h
 |j::l,B,i,h=>by
  rw[foldl_cons]at h;rcases FF h with z|z
  .unfold bW at z;split at z
   .show .inl z
   .rcases qx.mp z with z|z
    .show .inl z
    .show .inr (qA.mpr (.inl (qu.mp z)))
  .show .inr (qk _ z)
def FH:∀(l B:List ι),(l.foldl (bW g) B).length<=B.length+l.length
 |[],_=>q9 _
 |j::l,B=>by
  rw[foldl_cons];let h1:=FH l (bW g B j);let h2:(bW g B j).length<=B.length+1:=by
   unfold bW;split
   .lia
   .rw[qq];show q9 _
  rw[qt];lia
end
def QR:x∈cS l d↔x∈l\/x=d:=by
 unfold cS;split
 .rename_i h;show#[.inl,λz=>z.elim id λe=>e▸h]
 .rw[qx,qu]
theorem zbs:x∈aH l↔x∈l:=by
 suffices ∀B:List D,x∈l.foldl cS B↔x∈B\/x∈l from(this []).trans (by simp)
 induction l with
 |nil=>show λ_=>by simp
 |cons i l J=>intro B;rw[foldl_cons,J,QR,qA,or_assoc]
def TY(h:l.Nodup):(cS l d).Nodup:=by
 unfold cS;split
 .show h
 .rename_i z;show qw.mpr #[h,by simp,λa J b B=>by rw[qu.mp B];show λe=>z (e▸J)]
def Gd(l:List D):(aH l).Nodup:=by
 suffices ∀B:List D,B.Nodup->(l.foldl cS B).Nodup from this [] .nil
 induction l with
 |nil=>show λ_ h=>h
 |cons i l J=>show λB h=>J _ (TY h)
def Ro(l:List D)(d:D):(cS l d).length<=l.length+1:=by
 unfold cS;split
 .lia
 .rw[qq];show q9 _
def Ho(l:List D):(aH l).length<=l.length:=by
 unfold aH
 suffices ∀B:List D,(l.foldl cS B).length<=B.length+l.length by simpa using this []
 induction l with
 |nil=>show λ_=>q9 _
 |cons i l J=>grind[foldl_cons,length_cons,cS,Ro]
def bF(ks:List D)(l:List S)(q:D):List D×List S×Nat:=match iC ks q with
 |some m=>(ks,l,m)
 |none=>(ks++[q],l++[.lst []],ks.length)
def dN(j:Nat)(k e:WE):WE:=λU Q E=>match slot U j with
 |some (.dct _ _ _)=>k U (λy B=>match view y B,slot B j with
  |some q,some (.dct t ks l)=>bR t q=true/\ks.Nodup/\ks.length<big/\(match(bF ks l q).2.1[(bF ks l q).2.2]? with
   |some (.lst l')=>e (B.set j none) (λr J=>zF (give r J) λp=>l'.length<big/\Q (.v (.sh .non)) (p.2.set j (some (.dct t (bF ks l q).1 ((bF ks l q).2.1.set (bF ks l q).2.2 (.lst (l'++[p.1]))))))) E
   |_=>False)
  |_,_=>False) E
 |_=>False
end FL
namespace FL
open PySem PySem.Spec PyProof.Rows L2
def Fv(h:kV a=kV b):a=b:=by cases a<;>cases b<;>cases h<;>rfl
def FJ:∀{a b:List aX},a.map kV=b.map kV->a=b
 |[],[],_=>rfl
 |[],_::_,h=>by cases h
 |_::_,[],h=>by cases h
 |x::a,y::b,h=>by
  injection h with h1 h2
  rw[Fv h1,FJ h2]
def La(h:zK (kV k) u):u.scannable=true:=by
 cases k with
 |inl i=>let#[t,rfl]:=h;rfl
 |inr x=>let#[t,rfl]:=h;rfl
def MV{α β:Type}{f:α->β}(J:∀a b,f a=f b->a=b){l m:List α}(h:(l.map f).Perm (m.map f)):l.Perm m:=by
 induction l generalizing m with
 |nil=>simp_all
 |cons a l B=>let#[b,L,e]:=qK.mp (h.mem_iff.mp (by simp:f a∈(a::l).map f));let:=J _ _ e;subst this;let#[m1,m2,rfl]:=append_of_mem L;show(List.Perm.cons b (B ?_)).trans perm_middle.symm;rw[map_append];rw[map_append,qy]at h;show(h.trans perm_middle).cons_inv
def xH(H:Hp)(vs:List V)(y:V)(b:Bool):Prop:=
 (∃(ks:List aX)(k:aX),vs=ks.map kV/\y=kV k/\(b=true↔k∈ks))\/
 ∃(ps:List (List aX×Addr))(k:List aX)(c:Addr),vs=ps.map (λp=>V.ref p.2)/\(∀p∈ps,H p.2=some (.tup (p.1.map kV)))/\y=.ref c/\H c=some (.tup (k.map kV))/\(b=true↔k∈ps.map (·.1))
def FO(I:Inv X zV Z H s)(e:H a=some (.set vs)):s.TypeIs (.ref a) "set":=by
 rcases I.hok a _ e with⟨_,⟨_,h1⟩|⟨_,_,_,o,_,_,_,h1,h2,_⟩|⟨_,_,_,_,o,_,_,_,h1,h2,_⟩⟩
 .show#[_,h1,rfl]
 .show#[o,h1,h2.1]
 .show#[o,h1,h2.1]
def Pk(I:Inv X zV Z H s){ks:List aX}(e:H a=some (.set vs))(J:vs=ks.map kV):∃xs:List (aX×Value),ks.Perm (xs.map (·.1))/\ST.VSet (ST.ldOf X.w) (aG X.prog X.w) s.heap a xs:=by
 rcases I.hok a _ e with⟨_,⟨L,h1⟩|⟨_,xs,p,V⟩|⟨B,xs,p,_,_⟩⟩
 .let:ks=[]:=by rw[L]at J;simpa using J.symm
  subst this;show#[[],.refl _,ST.vset_new h1]
 .show#[xs,MV (λ_ _=>Fv) ?_,V];rw[J]at p;rw[qE];show p
 .exfalso;cases vs with
  |nil=>show B rfl
  |cons v vs=>grind[mem_map,mem_cons_self,kV]
def Ql(I:Inv X zV Z H s){ps:List (List aX×Addr)}(e:H a=some (.set vs))(J:vs=ps.map (λp=>V.ref p.2))(M:∀p∈ps,H p.2=some (.tup (p.1.map kV))):∃xs,ps.Perm xs/\ST.TSet (ST.ldOf X.w) (tupleKind (aG X.prog X.w)) s.heap a xs:=by
 rcases I.hok a _ e with⟨_,⟨h0,h1⟩|⟨O,xs,p,_⟩|⟨_,xs,p,Y,T⟩⟩
 .let:ps=[]:=by rw[h0]at J;simpa using J.symm
  subst this;show#[[],.refl _,ST.tset_new h1]
 .exfalso;cases vs with
  |nil=>show O rfl
  |cons v vs=>
   let#[q,_,hq]:=qK.mp (p.mem_iff.mp qm);let h1:v∈ps.map (λp=>V.ref p.2):=by rw[<-J];show qm
   let#[k,_,hk]:=qK.mp h1;rw[<-hq]at hk;cases q with
   |mk q _=>cases q<;>cases hk
 .show#[xs,?_,T.full λx L=>DK I.hok (Y x L)];rw[J]at p
  --an address tells zZ tuple
  let q:(ps.map (·.2)).Perm (xs.map (·.2)):=MV (f:=V.ref) (λ_ _ h=>by cases h;rfl) (by rw[qE,qE];show p)
  letI f:Addr->List aX×Addr:=λb=>(Classical.epsilon λks:List aX=>H b=some (HO.tup (ks.map kV)),b)
  let hf:∀p:List aX×Addr,H p.2=some (.tup (p.1.map kV))->f p.2=p:=λp h=>by let e:H p.2=some (.tup ((Classical.epsilon λks:List aX=>H p.2=some (HO.tup (ks.map kV))).map kV)):=Classical.epsilon_spec (p:=λks:List aX=>H p.2=some (HO.tup (ks.map kV))) #[p.1,h];grind[Prod.ext,FJ]
  let B:∀l:List (List aX×Addr),(∀p∈l,H p.2=some (.tup (p.1.map kV)))->(l.map (·.2)).map f=l:=λl h=>by rw[qE];show(map_congr_left λp M=>hf p (h p M)).trans (map_id _)
  let:=q.map f;rwa[B ps M,B xs Y]at this
def Np(hu:A.units<cLine)(I:Inv X zV Z H s)(e:H a=some (.set vs))(hz:vs.length<=150)(g:xH H vs y b)(ry:zK y u)
  (h:∀s' r,Inv X zV Z (if b then H else upd H a (.set (vs++[y]))) s'->Q r s'):wpAny (model X.prog X.w) A (setAdd a u) Q E s:=by
 rcases g with⟨ks,k,L,rfl,O⟩|⟨ps,k,c,L,hp,rfl,hc,O⟩
 .obtain⟨xs,B,S⟩:=Pk I e L;let hl:xs.length<=150:=by let:=B.length_eq;rw[qo]at this;rw[L,qo]at hz;lia
  show ST.setAddV (Eu ry) (La ry) S hl (λJ r=>h _ r ?_) λJ h' ys sb pm Y r=>h _ r ?_
  .rw[q5 (O.mpr (B.mem_iff.mpr J))];show I.kept λ_ _ z=>z
  .rw[q8 λz=>J (B.mem_iff.mp (O.mp z))];show GN I (by rw[e];show True.intro) sb (let⟨o,_,_,_,ho,_⟩:=Y;#[o,ho]) #[by rw[qq];show Nat.add_le_add_right hz 1,.inr (.inl #[by simp,ys,?_,Y])];rw[L];let p1:=pm.map (λp:aX×Value=>kV p.1);show(qN.trans ?_).trans p1.symm;show List.Perm.cons _ ?_;let:=B.map kV;rw[qE]at this;show this
 .cases(show u=Value.ref c from ry);let#[xs,B,S]:=Ql I e L hp;let hl:xs.length<=150:=by let:=B.length_eq;rw[L,qo]at hz;lia
  show ST.setAddT hu (DK I.hok hc) S hl (λJ tk r _=>h _ r ?_) λJ h' ys tk r sb pm Y _=>h _ r ?_
  .rw[q5 (O.mpr ((B.map _).mem_iff.mpr J))];show I.kept λ_ _ z=>z
  .rw[q8 λz=>J ((B.map _).mem_iff.mp (O.mp z))];let M:∀d xs,H d=some (.tup xs)->upd H a (.set (vs++[V.ref c])) d=some (.tup xs):=λd xs z=>by rw[An (JL z e (λw=>nomatch w))];exact z
   show GN I (by rw[e];show True.intro) sb (let⟨o,_,_,_,ho,_⟩:=Y;#[o,ho]) #[by rw[qq];show Nat.add_le_add_right hz 1,.inr (.inr #[by simp,ys,?_,λp h1=>?_,Y.raw])]
   .rw[L];let p1:=pm.map (λp:List aX×Addr=>V.ref p.2);show(qN.trans ?_).trans p1.symm;show List.Perm.cons _ (B.map _)
   .rcases qA.mp (pm.mem_iff.mp h1)with rfl|z
    .show M _ _ hc
    .show M _ _ (hp p (B.mem_iff.mpr z))
section
variable{K:W.Frag}
def tK(p:List aX×Addr):D:=.tup (p.1.map aO)
theorem zcF{a b:List aX}:D.tup (a.map aO)=D.tup (b.map aO)↔a=b:=#[λh=>by injection h with h;show Fd h,λh=>by rw[h]]
def KA(r:aS K F x d)(h:bR true d=true):∃p:List aX×Addr,x=.ref p.2/\d=tK p/\F p.2=some (.tup (p.1.map kV)):=by
 cases r with
 |tup e r=>let#[ks,rfl,rfl]:=EB r h;show#[(ks,_),rfl,rfl,e]
 |_=>cases h
def IA(r:zT K F xs l):l.all (bR true)=true->∃ps:List (List aX×Addr),xs=ps.map (λp=>V.ref p.2)/\l=ps.map tK/\∀p∈ps,F p.2=some (.tup (p.1.map kV)):=
 zT.ind (P:=λxs l=>l.all (bR true)=true->∃ps:List (List aX×Addr),xs=ps.map (λp=>V.ref p.2)/\l=ps.map tK/\∀p∈ps,F p.2=some (.tup (p.1.map kV))) (λ_=>#[[],rfl,rfl,λ_ z=>nomatch z]) (λa _ B h=>by
  rw[all_cons,and_eq_true]at h;let#[p,rfl,rfl,e]:=KA a h.1;let#[ps,rfl,rfl,es]:=B h.2;show#[p::ps,rfl,rfl,λq J=>?_];rcases qA.mp J with rfl|z
  .show e
  .show es q z) r
def LB(h:slot U n=some s):U.set n (some s)=U:=by
 let h':=Ji h;apply ext_getElem?;intro j;by_cases B:n=j
 .subst B;rw[getElem?_set_self (qg.mp h').1,h']
 .rw[getElem?_set_ne B]
def OZ(Y:zG F H)(r:zT K F vs l)(rv:aS K F v d)(L:bO (d::l)=true):∃b,xH H vs v b/\cS l d=if b then l else l++[d]:=by
 unfold bO at L;rw[or_eq_true,all_cons,all_cons,and_eq_true,and_eq_true]at L;let B:∀p:Prop,(d∈l↔p)->∃b,(b=true↔p)/\cS l d=if b then l else l++[d]:=λp h=>by
  unfold cS;by_cases q:p
  .simp_all
  simp_all
 rcases L with⟨h1,h2⟩|⟨h1,h2⟩
 .obtain⟨k,rfl,rfl⟩:=EU rv h1;let#[ks,rfl,rfl]:=EB r h2;let#[b,M,e]:=B (k∈ks) (by rw[qK];show#[λ⟨j,J,z⟩=>DM z▸J,λz=>#[k,z,rfl]])
  show#[b,.inl #[ks,k,rfl,rfl,M],e]
 .obtain⟨p,rfl,rfl,ep⟩:=KA rv h1;let#[ps,rfl,rfl,O]:=IA r h2;let#[b,M,e]:=B (p.1∈ps.map (·.1)) (by rw[qK,qK];show#[λ⟨j,J,z⟩=>#[j,J,zcF.mp z],λ⟨j,J,z⟩=>#[j,J,zcF.mpr z]])
  show#[b,.inr #[ps,p.1,p.2,rfl,λq hq=>Y _ _ (O q hq),rfl,Y _ _ ep,M],e]
def Rel.sadd{D:Addr}(r:Rel K (U++[some s]) (Z++[some v]) F G H)(hs:slot U n=some (.set l))(J:Z[n]?=some (some (.ref D)))(M:bO (s.toD::l)=true):
  ∃vs b,H D=some (.set vs)/\vs.length=l.length/\xH H vs v b/\Rel K (U.set n (some (.set (cS l s.toD)))) Z F G (if b then H else upd H D (.set (vs++[v]))):=by
 let hl:=Ah r;let rd:=r.drop hl;let#[fp,e,nd,ap]:=r.en;let#[f1,f2,rfl,a,b]:=e.cut hl;let#[v',fa,fi,fb,e1,rfl,q,up]:=a.at hs;rw[J]at e1;let e2:V.ref D=v':=↑e1
 subst e2;let sh:∃d,s=.sh d:=by
  cases s with
  |sh d=>show#[d,rfl]
  |lst l=>simp[bO,cV,bR]at M
  |dct t ks vs=>simp[bO,cV,bR]at M
  |set l=>simp[bO,cV,bR]at M
 let#[d,rfl]:=sh;rw[S.toD_sh]at M⊢;cases q with
 |st hD rl=>
  rename_i xs;cases b with
  |so sr nl=>
   cases nl;cases sr with
   |sh rv=>
    let#[b,sa,ea]:=OZ r.fr rl rv M;show#[xs,b,hD,rl.len,sa,?_];rw[ea];cases b with
    |true=>simp;rw[LB hs];show rd
    |false=>
     simp;let B:(fa++([D]++fb)).Nodup:=↑nd
     let#[na,Y,h1]:=qw.mp B;let#[nD,nb]:=qL.mp Y;let h2:D∉fa:=λz=>h1 D z D qm rfl;let O:=ap D (by simp);let new:aK K F (upd H D (.set (xs++[v]))) (.ref D) (.set (l++[d])) [D]:=.st AX (rl.append (.cons rv .nil));let a2:=up (F':=F) (H':=upd H D (.set (xs++[v]))) (o:=some (.set (l++[d]))) (u:=some (.ref D)) (zG.refl F) (λx L=>An λz=>(qx.mp L).elim (λw=>h2 (z▸w)) λw=>nD (z▸w)) (.so new .nil);rw[Fb J]at a2;show#[zG.updR r.fr O.1,λx o w=>?_,_,a2,B,λx L=>ap x ↑L];let L:x≠D:=λz=>by rw[z,O.2]at w;cases w
     rw[An L];show r.gr x o w
end
section
variable{D:Addr}
def Sm(J:X.xe=λ_ _=>False)(hu:X.A.units+1<cLine)(h:FE X h4 we):lE X (eval h4 X.env>>=λv=>standAt p>>=λ_=>call (.builtin "set.add") [.ref D,v]>>=λ_=>pure ()) (rT X n D (nO n we)):=by
 intro zV s Z H Q I q;let#[F,G,U,P,h1,h2,hw,h3]:=q;let hp:PassesOwn (model X.prog X.w) X.A X.env X.xe:=by rw[J];show PassesOwn.never
 let Y:∀e s',X.xe e s'->False:=λe s' z=>by rw[J]at z;show z
 have he:=h X.pn X.xe hp zV s Z H (λv H1=>∃L U1 t l,zG F L/\Rel X.K (U1++[some t]) (Z++[some v]) L G H1/\slot U1 n=some (.set l)/\bO (t.toD::l)=true/\l.length<=150/\P (U1.set n (some (.set (cS l t.toD))))) I
  #[F,G,U,_,NX,h1,hw,λr U1 v L H1 B s1 M rv=>?_,Ht]
 .show qa (zu he (λu s1 zq=>?_) λe s' z=>Y e s' z);let#[v,H1,I1,rv,L,U1,t,l,sm,M,hs,B,hz,hP]:=zq;let#[vs,b,hD,h5,sa,r2]:=Rel.sadd M hs h2 B;show qa (wpAny_standAt (qa (ST.call_add_of (FO I1 hD) (Np hu I1 hD ∅ sa rv λs' _ I'=>?_))));show qb #[Z,_,I',h3 _ Z L _ hP KP.refl sm r2]
 .obtain⟨⟨t,O⟩,eg,B⟩:=Ao B;let#[F2,s2,l2,r2]:=AC (U':=[]) (Z':=[]) M (Ah M) rv eg;split at B
  .rename_i l e;show#[F2,O,t,l,s1.trans s2,r2,e,B.1,B.2.1,B.2.2]
  .show B.elim
end
section
variable{X:Cx}
def PY(H:Hp)(h:Heap)(_:sysModules<h.objs.size):zU X.prog X.w H (h.push (ST.freshSet (ST.ldOf X.w))) h.objs.size (.set []):=#[zero_le _,.inl #[rfl,qd _ rfl]]
def NJ(F H:Hp)(p:Addr)(e:H p=some (.set [])):aK X.K F H (.ref p) (.set []) [p]:=.st e .nil
set_option maxHeartbeats 4000000 in
def Oa(hn:X.N.length=n)(hu:X.A.units+1<cLine)(hm:X.A.mark none=X.A)(hc:X.calm=true)(Sc:bY X.env.scope scope X.N vars)(hk:vars.length=k)(hi:FI X tg iter wi)
  (hg:∀s H ex,FG (aB X scope vars s H ex) (List.range (n+1)) tg g)(ht:∀s H ex,gA (aB X scope vars s H ex) L (iI (aB X scope vars s H ex) wc))
  (h5:∀s H ex,FI (aB X scope vars s H ex) B iter2 O)(h6:∀s H ex,FG (aB X scope vars s H ex) (List.range (n+1)) B g2)(h2:∀s H ex,gA (aB X scope vars s H ex) ifs2 (iI (aB X scope vars s H ex) Y))
  (he:∀s H ex,FE (aB X scope vars s H ex) M we)
  (hs:∀x,foldedSetIterable iter X.env x=pure x:=by intro _;rfl)(h3:∀env x,foldedSetIterable iter2 env x=pure x:=by intro _ _;rfl):FE X (.SetComp M [#[tg,iter,L,0],#[B,iter2,ifs2,0]] scope pos) (fo (.set []) n k wi g wc (lM O g2 Y (nO n we))):=by
 subst hn;intro pn xe hp zV s Z H Q I q;let#[F,G,U,P,PX,h1,hw,h4,hx]:=q;show GP (ty:="set") (dat:=.set #[] 0 (.fresh 0 0 (ST.ldOf X.w))) (λA E s Q h=>ST.newSet_ok h) (s0:=.set []) (o0:=.set []) PY NJ rfl hs Sc hk hi (λs H ex D=>?_) (λ_ _ _=>rfl) (λ_ _ _=>rfl) (λ_ _ _=>rfl) (λ_ _ _=>#[_,rfl]) hp I h1 hw hx (HR h4);let J:gN (aB X scope vars s H ex) (.SetComp M [#[tg,iter,L,0],#[B,iter2,ifs2,0]] scope pos) 1 (.ref D) B _:=
  Fe (X:=aB X scope vars s H ex) hc rfl (h6 s H ex [] (λ_ _=>False) PassesOwn.never) (h2 s H ex) (λ_=>(Sm (X:=aB X scope vars s H ex) (n:=X.N.length) rfl hu (he s H ex)).f) (λ_=>rfl) (λ_=>rfl) (λ_=>rfl) (λ_=>rfl)
 show Fe (X:=aB X scope vars s H ex) hc rfl (hg s H ex [] (λ_ _=>False) PassesOwn.never) (ht s H ex) (λ_=>Lh (X:=aB X scope vars s H ex) rfl (h5 s H ex) J (h3 _) hm (λ_=>rfl) (λ_=>rfl) (λ_=>rfl) (λ_=>#[_,rfl])) (λ_=>rfl) (λ_=>rfl) (λ_=>rfl) (λ_=>rfl)
end
def kf(p:List aX×Addr):List aX:=p.1
section
variable(X:Cx)(s:Shared)
@[inline]def JK(ks:List aX)(i:Nat)(h:Heap):Prop:=(∀b o,s.heap.get? b=some o->h.get? b=some o)/\∃xs:List (aX×Value),(iP id (ks.take i)).Perm (xs.map (·.1))/\ST.VSet (ST.ldOf X.w) (aG X.prog X.w) h s.heap.objs.size xs/\(i=0->h.get? s.heap.objs.size=some (ST.freshSet (ST.ldOf X.w)))
@[inline]def JT(ps:List (List aX×Addr))(i:Nat)(h:Heap):Prop:=(∀b o,s.heap.get? b=some o->h.get? b=some o)/\∃xs:List (List aX×Addr),(iP kf (ps.take i)).Perm xs/\ST.TRaw (ST.ldOf X.w) (tupleKind (aG X.prog X.w)) h s.heap.objs.size xs/\(i=0->h.get? s.heap.objs.size=some (ST.freshSet (ST.ldOf X.w)))
def JK.stay{ks:List aX}{i:Nat}{h h':Heap}(x:JK X s ks i h)(B:∀b o,b≠s.heap.objs.size+1->h.get? b=some o->h'.get? b=some o):JK X s ks i h':=by let#[k,xs,p,#[o,es,ep,t,M,r],z]:=x;let J:s.heap.objs.size≠s.heap.objs.size+1:=ne_of_lt (lt_succ_self _);show#[λb o e=>B b o (ne_of_lt (lt_succ_of_lt (ST.lt_of_get e))) (k b o e),xs,p,#[o,es,ep,t,B _ _ J M,r],λL=>B _ _ J (z L)]
def JT.stay{ps:List (List aX×Addr)}{i:Nat}{h h':Heap}(x:JT X s ps i h)(B:∀b o,b≠s.heap.objs.size+1->h.get? b=some o->h'.get? b=some o):JT X s ps i h':=by let#[k,xs,p,#[o,es,ep,t,M,r],z]:=x;let J:s.heap.objs.size≠s.heap.objs.size+1:=ne_of_lt (lt_succ_self _);show#[λb o e=>B b o (ne_of_lt (lt_succ_of_lt (ST.lt_of_get e))) (k b o e),xs,p,#[o,es,ep,t,B _ _ J M,r],λL=>B _ _ J (z L)]
end
def GL:bootBuiltins "set"=some (.type "set"):=by decide+kernel
def Uz:isSubtype (.type "tuple") (.type "set")=pure false:=by rw[isSubtype_type];kernel_rfl
def UO:isSubtype (.type "tuple") (.type "frozenset")=pure false:=by rw[isSubtype_type];kernel_rfl
theorem Tc(hh:A.handled=none)(hu:A.units+20<cLine)(I:Inv X zV Z H s)(hT:s.TypeIs x T)(h4:isSubtype (.type T) (.type "set")=pure false)(h3:isSubtype (.type T) (.type "frozenset")=pure false)(h5:(Value.type T==Value.type "dict")=false)
  (W:ST.WalkOk X.prog X.w s x L.toArray.size (λi v=>L.toArray[i]?=some v))(rv:zS (ks.map kV) L)(hz:ks.length<=150)
  (h:∀s',Inv X zV Z (upd H s.heap.objs.size (.set ((iP id ks).map kV))) s'->Q (.ref s.heap.objs.size) s'):wpAny (model X.prog X.w) A (call (.type "set") [x]) Q E s:=by
 let hl:L.toArray.size=ks.length:=by rw[qr,<-rv.length,qo]
 refine ST.call_set (B:=A.units+20) (J:=JK X s ks) hh hT h4 h3 h5 W (λh e k=>#[k,[],.refl _,ST.vset_new e,λ_=>e]) (λi h h' hi x hk=>JK.stay X s x hk)
  (λA i v s' Q E hi hP⟨kp,xs,p,S,z⟩ hQ hA=>?_) (q9 _) λh' tk⟨kp,xs,p,S,z⟩ _ ht=>h _ ?_
 .rw[hl]at hi;let#[u,h7,ru]:=rv.get (i:=i) (x:=kV ks[i]) (by rw[qF,qh hi];rfl);let hv:v=u:=by grind
  subst hv;let h6:xs.length<=150:=by let h1:=p.length_eq;grind[FH,length_map,iP,bW,length_take,length_nil]
  let h2:∀{h':Heap},Heap.SameBut s.heap.objs.size s'.heap h'->∀b o,s.heap.get? b=some o->h'.get? b=some o:=λY b o e=>(Y.2 b (ne_of_lt (ST.lt_of_get e))).trans (kp b o e);let O:=LG (id:aX->aX) hi;show ST.setAddV (Eu ru) (La ru) S h6 (λhm r=>hQ s'.heap _ r (le_succ _) (Heap.SameBut.refl _ _) #[kp,xs,?_,S,λz=>nomatch z]) λhm h' ys Y pm S' r=>hQ h' _ r (le_succ _) Y #[h2 Y,ys,?_,S',λz=>nomatch z]
  .rw[O];unfold bW;grind
  .rw[O];unfold bW;rw[map_id,q8 (show¬id ks[i]∈iP id (ks.take i) from λz=>hm (p.mem_iff.mp z))];show(qN.trans (List.Perm.cons _ p)).trans (pm.map (·.1)).symm
 .rw[hl,List.take_length]at p;refine I.laid (t':=tk) kp (q9 _) #[?_,?_]
  .grind[length_map,FH,iP,bW,length_nil]
  .cases ks with
   |nil=>show .inl #[rfl,z hl]
   |cons y ks=>
    show .inr (.inl #[λe=>?_,xs,?_,S])
    .have h1:∀(l M:List aX),M≠[]->l.foldl (bW id) M≠[]:=λl=>by
      induction l with
      |nil=>show λ_ h=>h
      |cons i l ih=>
       show λM h=>ih _ ?_;unfold bW;split
       .show h
       .simp
     show h1 ks (bW id [] y) (by unfold bW;simp) (map_eq_nil_iff.mp e)
    .let:=p.map kV;rw[qE]at this;show this
theorem Tq(hh:A.handled=none)(hu:A.units+20<cLine)(I:Inv X zV Z H s)(hT:s.TypeIs x T)(e1:isSubtype (.type T) (.type "set")=pure false)(h9:isSubtype (.type T) (.type "frozenset")=pure false)(e2:(Value.type T==Value.type "dict")=false)
  (W:ST.WalkOk X.prog X.w s x L.toArray.size (λi v=>L.toArray[i]?=some v))(rv:zS (ps.map λp=>V.ref p.2) L)(hp:∀p∈ps,H p.2=some (.tup (p.1.map kV)))(hz:ps.length<=150)
  (h:∀s',Inv X zV Z (upd H s.heap.objs.size (.set ((iP kf ps).map λp=>V.ref p.2))) s'->Q (.ref s.heap.objs.size) s'):wpAny (model X.prog X.w) A (call (.type "set") [x]) Q E s:=by
 let hl:L.toArray.size=ps.length:=by rw[qr,<-rv.length,qo]
 let Y:∀{h:Heap},(∀b o,s.heap.get? b=some o->h.get? b=some o)->∀p∈ps,IsTupleKey (aG X.prog X.w) h p.1 p.2:=λk p hq=>by let#[o,L,n,h1,r]:=DK I.hok (hp p hq);show#[o,L,n,k _ _ h1,r]
 have h7:∀{h:Heap}{i:Nat}{xs:List (List aX×Addr)},(∀b o,s.heap.get? b=some o->h.get? b=some o)->(iP kf (ps.take i)).Perm xs->∀p∈xs,IsTupleKey (aG X.prog X.w) h p.1 p.2:=λk pm p hq=>by
  rcases FF kf (pm.mem_iff.mpr hq)with z|z
  .cases z
  .show Y k p (List.mem_of_mem_take z)
 refine ST.call_set (B:=A.units+20) (J:=JT X s ps) hh hT e1 h9 e2 W (λh e k=>#[k,[],.refl _,(ST.tset_new e).raw,λ_=>e]) (λi h h' hi x hk=>JT.stay X s x hk)
  (λA i v s' Q E hi hP⟨O,xs,p,S,z⟩ hQ hA=>?_) (q9 _) λh' tk⟨O,xs,p,S,z⟩ _ ht=>h _ ?_
 .rw[hl]at hi;let#[u,h8,ru]:=rv.get (i:=i) (x:=V.ref ps[i].2) (by rw[qF,qh hi];rfl);let hv:v=u:=by rw[List.getElem?_toArray,h8]at hP;exact(qf hP).symm
  subst hv;cases(show v=Value.ref ps[i].2 from ru);let e3:xs.length<=150:=by let h1:=p.length_eq;let h2:=FH kf (ps.take i) [];let h3:(iP kf (ps.take i)).length=((ps.take i).foldl (bW kf) []).length:=rfl;rw[qH,qv]at h2;lia
  let h6:∀{h':Heap},Heap.SameBut s.heap.objs.size s'.heap h'->∀b o,s.heap.get? b=some o->h'.get? b=some o:=λsb b o e=>(sb.2 b (ne_of_lt (ST.lt_of_get e))).trans (O b o e);let h5:=LG kf hi;show ST.setAddT ∅ (Y O ps[i] (getElem_mem hi)) (S.full (h7 O p)) e3 (λhm tk r ht=>hQ s'.heap _ r ht (Heap.SameBut.refl _ _) #[O,xs,?_,S,λz=>nomatch z]) λhm h' ys tk r sb pm S' ht=>hQ h' _ r ht sb #[h6 sb,ys,?_,S'.raw,λz=>nomatch z]
  .rw[h5];unfold bW;rw[q5 (show kf ps[i]∈_ from(p.map kf).mem_iff.mpr hm)];show p
  .rw[h5];unfold bW;rw[q8 (show¬kf ps[i]∈_ from λz=>hm ((p.map kf).mem_iff.mp z))];show(qN.trans (List.Perm.cons _ p)).trans pm.symm
 .rw[hl,List.take_length]at p;let h4:∀d xs,H d=some (HO.tup xs)->upd H s.heap.objs.size (.set ((iP kf ps).map λp=>V.ref p.2)) d=some (.tup xs):=λd xs z=>by rw[An (CZ z I.fresh)];exact z
  show I.laid (t':=tk) O (q9 _) #[?_,?_]
  .rw[qo];let:=FH kf ps [];let h3:(iP kf ps).length=(ps.foldl (bW kf) []).length:=rfl;rw[qv]at this;lia
  .cases ps with
   |nil=>show .inl #[rfl,z hl]
   |cons y ps=>
    show .inr (.inr #[λe=>?_,xs,p.map _,λq hq=>?_,S])
    .have h1:∀(l M:List (List aX×Addr)),M≠[]->l.foldl (bW kf) M≠[]:=λl=>by
      induction l with
      |nil=>show λ_ h=>h
      |cons i l ih=>
       show λM h=>ih _ ?_;unfold bW;split
       .show h
       .simp
     show h1 ps (bW kf [] y) (by unfold bW;simp) (map_eq_nil_iff.mp e)
    .rcases FF kf (p.mem_iff.mpr hq)with z|z
     .cases z
     .show h4 _ _ (hp q z)
def uP(K:W.Frag):List V->Hp->VK->Prop:=λxs H Q=>∃a vs,xs=[.ref a]/\(bN K H a vs\/bM K H a vs)/\vs.length<=150/\
 ((∃ks:List aX,vs=ks.map kV/\∀p,H p=none->Q (.ref p) (upd H p (.set ((iP id ks).map kV))))\/
  ∃ps:List (List aX×Addr),vs=ps.map (λp=>V.ref p.2)/\(∀p∈ps,H p.2=some (.tup (p.1.map kV)))/\∀p,H p=none->Q (.ref p) (upd H p (.set ((iP kf ps).map λp=>V.ref p.2))))
def SW(M:bX k X.A):aZ X (.type "set") (uP X.K):=by
 intro zV s Z H xs us Q I r h;let#[a,vs,rfl,L,hz,h]:=h;let hu:X.A.units+20<cLine:=by let:=M.units;lia
 cases r with
 |cons r1 r2=>
  cases r2;cases r1;let go:∀{T:String}{B:List Value},s.TypeIs (.ref a) T->isSubtype (.type T) (.type "set")=pure false->isSubtype (.type T) (.type "frozenset")=pure false->(Value.type T==Value.type "dict")=false->ST.WalkOk X.prog X.w s (.ref a) B.toArray.size (λi v=>B.toArray[i]?=some v)->zS vs B->
    wpAny (model X.prog X.w) X.A (call (.type "set") [.ref a]) (EP X zV Z Q) X.xe s:=λ{T B} hT h1 h2 h3 W J=>by
   rcases h with⟨ks,rfl,q⟩|⟨ps,rfl,hp,q⟩
   .show Tc M.hd hu I hT h1 h2 h3 W J ↑hz λs' O=>#[.ref _,_,O,rfl,q _ I.fresh]
   .show Tq M.hd hu I hT h1 h2 h3 W J hp ↑hz λs' O=>#[.ref _,_,O,rfl,q _ I.fresh]
  rcases L with L|L
  .obtain⟨B,J,Y,_⟩:=I.list L;show go Y.isList.typeIs F.sub_list_set F.sub_list_frozenset ⋯ (ST.walk_list Y.isList) J
  .obtain⟨B,J,⟨o,e,c,n,d⟩,_⟩:=I.tuple L;let ht:s.heap.IsTuple a B.toArray:=#[o,e,c,n,d]
   show go #[o,e,c] Uz UO ⋯ (ST.walk_tuple ht) J
section
variable{K:W.Frag}
def zT.of_all{ι:Type}{B:ι->V}{J:ι->D}:∀{l:List ι},(∀i∈l,aS K F (B i) (J i))->zT K F (l.map B) (l.map J)
 |[],_=>.nil
 |i::l,h=>.cons (h i qm) (zT.of_all λj L=>h j (qk _ L))
def zT.to_all{ι:Type}{B:ι->V}{J:ι->D}:∀{l:List ι},zT K F (l.map B) (l.map J)->∀i∈l,aS K F (B i) (J i)
 |[],_,_,h=>nomatch h
 |j::l,.cons a b,i,h=>by
  rcases qA.mp h with rfl|z
  .show a
  .show zT.to_all b i z
def Rel.newS{p:Addr}(B:Rel K U Z F G H)(J:H p=none)(r:zT K F vs l):Rel K (U++[some (.set l)]) (Z++[some (.ref p)]) F G (upd H p (.set vs)):=B.newO J (.st AX r)
def Rp:cZ K (uP K) gD:=by
 intro Z U F G H vs ds s Q B Y e O;let#[d,v,rfl,rfl]:=BF (λx y r=>by cases x<;>rfl) rfl Y e;let J:∀{a:Addr}{xs:List V}{l:List D},(bN K H a xs\/bM K H a xs)->zT K F xs l->newS l=some s->uP K [.ref a] H Q:=λ{a xs l} h2 r e=>by
  unfold newS at e;split at e
  .rename_i hc;cases e;show#[a,xs,rfl,h2,by rw[r.len];show hc.2,?_];let L:=hc.1;unfold bO at L;rw[or_eq_true]at L;rcases L with L|L
   .obtain⟨ks,rfl,rfl⟩:=EB r L;show .inl #[ks,rfl,λp M=>?_];rw[Kp id (f:=aO) λi j=>#[DM,λz=>by rw[show i=j from z]]]at O;show O _ F _ (zG.refl F) (B.newS M (zT.of_all λi hi=>zT.to_all r i ?_));rcases FF id hi with z|z
    .cases z
    .show z
   .obtain⟨ps,rfl,rfl,hf⟩:=IA r L;show .inr #[ps,rfl,λp M=>B.fr _ _ (hf p M),λp M=>?_];rw[Kp kf (f:=tK) λi j=>zcF]at O;show O _ F _ (zG.refl F) (B.newS M (zT.of_all λi hi=>zT.to_all r i ?_));rcases FF kf hi with z|z
    .cases z
    .show z
  .cases e
 cases d with
 |lst l=>let#[a,xs,rfl,h1,r1]:=Y.1.lst B.fr;show J (.inl h1) r1 e
 |tup l=>let#[a,xs,rfl,h1,r1]:=Y.1.tup;show J (.inr (bM.of (B.fr _ _ h1))) r1 e
 |_=>cases e
def GU(M:bX k X.A)(Y:Gl X "set")(O:X.mg "set"=none)(L:bootBuiltins "set"=some (.type "set"))(ha:FA X (e::es) J)(he:starEach (e::es) X.env=(false,eval e X.env)::starEach es X.env:=by rfl)(B:(backTo pos (starEach es X.env)).any (·.1)=false:=by rfl):FE X (.Call (.Name "set" p) (e::es) [] pos) (wB gD J):=
 Hg (λpn xe=>SW (X:=wp X pn xe) M) Rp Y O L ha ⋯ ⋯ he B
def rX(K:W.Frag):List V->Hp->VK->Prop:=λxs H Q=>(∃a vs,xs=[.ref a]/\H a=some (.set vs)/\Q (.int vs.length) H)\/uT K xs H Q
def SQ:aZ X (.builtin "len") (rX X.K):=λzV s Z H xs L Q I r h=>by
 rcases h with⟨a,vs,rfl,e,q⟩|h
 .cases r with
  |cons O M=>
   cases M;cases O;let B:∀n:Nat,n=vs.length->∀t,EP X zV Z Q (.int n t) {s with toks:=s.toks+1+1}:=λn Y t=>#[.int n,H,I.kept λ_ _ z=>z,#[t,rfl],by rw[Y];show q]
   rcases I.hok a _ e with⟨hz,⟨h0,h1⟩|⟨_,xs,p,S⟩|⟨_,xs,p,_,S⟩⟩
   .show ST.VSet.len (K:=aX) (knd:=aG X.prog X.w) (ST.vset_new h1) (zero_le _) (B 0 (by rw[h0];rfl) _)
   .let J:=p.length_eq;rw[qo]at J;show ST.VSet.len S ∅ (B _ J.symm _)
   .let J:=p.length_eq;rw[qo]at J;show ST.TRaw.len S ∅ (B _ J.symm _)
 .show LV zV s Z H xs L Q I r h
def bK.set(r:bK K F H v (.set l)):∃a xs,v=.ref a/\F a=some (.set xs)/\zT K F xs l:=by
 rcases r with r|⟨_,_,_,_,e,_⟩|⟨_,_,_,_,_,e,_⟩|⟨_,_,_,_,_,e,_⟩
 .cases r with
  |st e r=>show#[_,_,rfl,e,r]
 .cases e
 .cases e
 .cases e
def Ug:cZ K (rX K) iT:=by
 intro Z U F G H vs O s Q B J e L;let#[d,v,rfl,rfl]:=BF (λx y r=>by cases x<;>rfl) rfl J e;cases d with
 |set l=>cases e;let#[a,xs,rfl,h1,M]:=bK.set J.1;show .inl #[a,xs,rfl,B.fr _ _ h1,by rw[M.len];show L _ F H (zG.refl F) (B.push (.int _))]
 |_=>show .inr (LI Z U F G H [v] _ s Q B J e L)
def Qs(M:Gl X "len")(L:X.mg "len"=none)(Y:FA X (e::es) J)(O:starEach (e::es) X.env=(false,eval e X.env)::starEach es X.env:=by rfl)(B:(backTo pos (starEach es X.env)).any (·.1)=false:=by rfl):FE X (.Call (.Name "len" p) (e::es) [] pos) (wB iT J):=
 Ga (λ_ _=>SQ) Ug M L PySem.boot_len Y ⋯ ⋯ O B
end
def HX:∀l:List Nat,(∀x∈l,p x=true->q x=true)->l.countP p<=l.countP q
 |[],_=>q9 _
 |a::l,h=>by
  rw[countP_cons,countP_cons];let:=HX l λx B=>h x (qk _ B);cases e:p a with
  |true=>rw[h a qm e];lia
  |false=>simp;lia
def KG:∀l:List Nat,(∀x∈l,p x=true->q x=true)->(∃x,x∈l/\q x=true/\p x=false)->l.countP p<l.countP q
 |[],_,z=>by let#[_,z,_]:=z;cases z
 |a::l,h,z=>by
  rw[countP_cons,countP_cons];let#[x,B,J,L]:=z;by_cases e:x=a
  .subst e;let:=HX l λx B=>h x (qk _ B);rw[J];lia
  .let:=KG l (λx B=>h x (qk _ B)) #[x,(qA.mp B).resolve_left e,J,L];cases e:p a with
   |true=>rw[h a qm e];lia
   |false=>simp;lia
def uM(l:List D)(i:Nat):Int:=((List.range l.length).countP λj=>!dX (l.getD i .non) (l.getD j .non):Nat)
def JX(o:fG P)(hp:∀d∈l,P d)(hi:i<l.length)(hj:j<l.length):decide (uM l i<uM l j)=!dX (l.getD j .non) (l.getD i .non):=by
 let B:∀k,k<l.length->P (l.getD k .non):=λk M=>by grind
 let J:=B i hi;let Y:=B j hj;unfold uM;cases e:dX (l.getD j .non) (l.getD i .non)with
 |false=>
  show qR (Int.ofNat_lt.mpr (KG _ (λk M h=>?_) #[i,qJ.mpr hi,by rw[e];rfl,?_]))
  .have O:=B k (qJ.mp M);cases q:dX (l.getD j .non) (l.getD k .non)with
   |false=>rfl
   |true=>
    let L:dX (l.getD i .non) (l.getD k .non)=false:=↑h
    rcases o.tot _ _ J Y with z|z
    .rw[o.tr _ _ _ J Y O z q]at L;cases L
    .rw[z]at e;cases e
  .rcases o.tot _ _ J J with z|z<;>rw[z]<;>rfl
 |true=>
  refine qS λh=>?_;let:=HX (p:=λk=>!dX (l.getD j .non) (l.getD k .non)) (q:=λk=>!dX (l.getD i .non) (l.getD k .non)) (List.range l.length) λk M h=>by
   let O:=B k (qJ.mp M);cases q:dX (l.getD i .non) (l.getD k .non)with
   |false=>rfl
   |true=>rw[o.tr _ _ _ Y J O e q]at h;cases h
  lia
section
open PySem.W HT
theorem UR{ks J:List aX}(i:Nat)(r:zS (ks.map kV) us)(O:zS (J.map kV) vs)(h:fN sh (ks.map aO))(h':fN sh (J.map aO))(B:Q (aV (ks.map aO) (J.map aO)==.lt) s):KatLex prog w A b (decide (ks.length<J.length)) Q (us.zip vs) i s:=by
 induction ks generalizing us vs J i sh with
 |nil=>
  let e:J=[]:=by simpa using EC h h'
  subst e;cases r;show kat_nil B
 |cons k ks ih=>cases J with
  |nil=>have e:=EC (m:=(k::ks).map aO) h' h;cases e
  |cons j J=>
   rw[qy,qy]at B;let#[kd,h3,h1,h2]:=Hc h h';let e:decide ((k::ks).length<(j::J).length)=decide (ks.length<J.length):=decide_eq_decide.2 Nat.succ_lt_succ_iff;rw[e];cases r with
   |@cons _ u _ us Y r=>
    cases O with
    |@cons _ v _ vs M O=>
     cases k with
     |inl n=>
      let#[t,rfl]:=Y;cases j with
      |inr y=>rcases kd with⟨_,_,_,z⟩|⟨_,_,z,_⟩<;>cases z
      |inl m=>
       let#[t',rfl]:=M;show kat_cons (wpAny_eqBool_int ?_);let B:Q ((match cI (D.int n) (D.int m)with|.eq=>aV (ks.map aO) (J.map aO)|o=>o)==.lt) s:=B;rw[Im]at B;by_cases nm:n=m
       .subst nm;rw[q8 (Int.lt_irrefl n),q8 (Int.lt_irrefl n)]at B;rw[show(n==n)=true by simp];show kat_yes (ih (i+1) r O h1 h2 B)
       .rw[show(n==m)=false by simp[nm]];let L:Q (decide (n<m)) s:=by
         by_cases z:n<m
         .rw[q5 z]at B;rw[qR z];show B
         .rw[q8 z,q5 ∅]at B;rw[qS z];show B
        show kat_no ?_;cases(b&&i==0)with
        |true=>show oneLt_int L
        |false=>show kat_one _ _ (PyProof.Rows.lt_int L)
     |inr x=>
      let#[t,rfl]:=Y;cases j with
      |inl y=>rcases kd with⟨_,_,z,_⟩|⟨_,_,_,z⟩<;>cases z
      |inr y=>
       let#[t',rfl]:=M;show kat_cons (wpAny_eqBool_str ?_);let B:Q ((match cI (D.str x.cps.toList) (D.str y.cps.toList)with|.eq=>aV (ks.map aO) (J.map aO)|o=>o)==.lt) s:=B;rw[GQ]at B;by_cases nm:x=y
       .subst nm;rw[q8 (List.lt_irrefl _),q8 (List.lt_irrefl _)]at B;rw[qR rfl];show kat_yes (ih (i+1) r O h1 h2 B)
       .rw[qS nm];let L:Q (decide (x.cps.toList<y.cps.toList)) s:=by
         rcases Tp x.cps.toList y.cps.toList with z|z|z
         .rw[q5 z]at B;rw[qR z];show B
         .rw[q8 (lt_asymm z),q5 z]at B;rw[qS (lt_asymm z)];show B
         .show absurd (DM (a:=.inr x) (b:=.inr y) (by show D.str _=D.str _;rw[z])) (λe=>nm (by cases e;rfl))
        show kat_no ?_;cases(b&&i==0)with
        |true=>show oneLt_str L
        |false=>show kat_one _ _ (PyProof.Rows.lt_str L)
def xF(h:Heap)(b:Addr)(ks:List aX):Prop:=∃us,zS (ks.map kV) us/\IsTup h b us.toArray
def BV:∀{ps:List (List aX×Addr)},(∀p∈ps,xF h p.2 p.1/\fN (t::sh) (p.1.map aO))->∃fs:List Value,KatTups h (ps.map λp=>Value.ref p.2) fs/\fs.length=ps.length/\∀v∈fs,if t then∃z u,v=Value.str z u else∃z u,v=Value.int z u
 |[],_=>#[[],.nil,rfl,λ_ z=>nomatch z]
 |(ks,b)::ps,hp=>by
  let#[fs,Y,O,M]:=BV (ps:=ps) λp hq=>hp p (qk _ hq);let#[#[L,r,o,e,c,n,d],B]:=hp (ks,b) qm;cases ks with
  |nil=>cases t<;>show B.elim
  |cons k ks=>
   cases r with
   |@cons _ u _ L J r=>
    show#[u::fs,.cons e c d rfl Y,by simp[O],λv hv=>?_];rcases qA.mp hv with z|z
    .subst z;cases t
     .cases k with
      |inl i=>let#[tk,rfl]:=J;show#[_,_,rfl]
      |inr x=>show B.elim
     .cases k with
      |inl i=>show B.elim
      |inr x=>let#[tk,rfl]:=J;show#[_,_,rfl]
    .show M v z
def Mq{L D:Addr}{Q:Shared->Prop}(F':Fr h₀ L s.heap m)(N':News h₀ L s.heap ((D,seqObj "list" #[] e1)::news))(hD:∀q∈news,q.1<D)
  (ht:∀p∈ps,xF s.heap p.2 p.1/\fN sh (p.1.map aO))(h5:sh≠[])(h2:2<=ps.length)
  (h9:∀qs:List (List aX×Addr),qs.Perm ps->(qs.map tK).Pairwise (dX · ·=true)->∀O c,Fr h₀ L O m->News h₀ L O ((D,seqObj "list" (qs.map λp=>Value.ref p.2).toArray c)::news)->Q {s with heap:=O}):
  wpAny (model prog w) A (keyKind' (ps.map λp=>Value.ref p.2).toArray) (λκ s'=>(kas_sort (ps.map λp=>Value.ref p.2).length).kasWp (kas_ask prog w A κ (ps.map λp=>Value.ref p.2)) (λp B=>KasFin h₀ L m D e1 (p.toList.map λi=>(ps.map λp=>Value.ref p.2).getD i Value.none) Q B) s') (λ_ _=>False) s:=by
 cases sh with
 |nil=>show absurd rfl h5
 |cons t sh=>
  let#[fs,t1,t2,t3]:=BV ht;let hk:∀d∈ps.map tK,iU (t::sh) d:=λd hd=>by let#[p,hp,rfl]:=qK.mp hd;show(ht p hp).2
  have hl:(ps.map tK).length=ps.length:=qo ..;let go:∀b,(kas_sort (ps.map λp=>Value.ref p.2).length).kasWp (kas_ask prog w A (tuples' b) (ps.map λp=>Value.ref p.2)) (λp B=>KasFin h₀ L m D e1 (p.toList.map λi=>(ps.map λp=>Value.ref p.2).getD i Value.none) Q B) s:=λb=>by
   show Mu (n:=ps.length) (rk:=uM (ps.map tK)) (P:=λp=>p.Perm (List.range ps.length).toArray/\nR (uM (ps.map tK)) p ps.length) (λi j C hi J hc=>?_) _ (by rw[qo];show RE h2 λp a b=>#[a,b]) λp⟨p1,p2⟩=>?_
   .rw[JX (Fy (t::sh)) hk ∅ ∅]at hc;let Y:∀i,i<ps.length->(ps.map tK).getD i .non=tK (ps.getD i ([],0)):=λi hi=>by simp[hi]
    let gV:∀i,i<ps.length->(ps.map λp=>Value.ref p.2).getD i Value.none=.ref (ps.getD i ([],0)).2:=λi hi=>by simp[hi]
    have gP:∀i,i<ps.length->ps.getD i ([],0)∈ps:=λi hi=>by
     let e:ps.getD i ([],0)=ps[i]:=by simp[hi]
     rw[e];show getElem_mem hi
    rw[Y i hi,Y j J]at hc;let#[#[us,r,o,e,c,n,d],ki]:=ht _ (gP i hi);let#[#[h1,r',o',e',c',n',d'],kj]:=ht _ (gP j J);rw[show dX (tK (ps.getD j ([],0))) (tK (ps.getD i ([],0)))=_ from Ea kj ki,Bool.not_not]at hc;unfold kas_ask;rw[gV i hi,gV j J];show kat_lt e d e' d' ?_;let l1:us.toArray.size=(ps.getD i ([],0)).1.length:=by rw[qr,<-r.length,qo]
    let l2:h1.toArray.size=(ps.getD j ([],0)).1.length:=by rw[qr,<-r'.length,qo]
    rw[l1,l2];show UR 0 r r' ki kj hc
   .have M:∀i∈p.toList,i<ps.length:=λi hi=>by let:=p1.mem_iff.mp (mem_toList_iff.mp hi);simpa using this
    let h4:p.size=ps.length:=by let:=p1.size_eq;simpa using this
    let pp:p.toList.Perm (List.range ps.length):=Array.perm_iff_toList_perm.mp p1;show KasFin.intro F' N' (.head λp hp=>ne_of_lt (hD p hp)) λO c F3 N3=>h9 (p.toList.map λi=>ps.getD i ([],0)) ((pp.map _).trans (by rw[TF])) ?_ O c F3 ?_
    .rw[qE,pairwise_map];show List.pairwise_iff_getElem.mpr λi j hi J e2=>?_;let h6:j<ps.length:=by rw[<-h4];simpa using J
     let k:=p2 i j ∅ h6;let gi:∀i(h:i<p.toList.length),kA (uM (ps.map tK)) p i=uM (ps.map tK) p.toList[i]:=λi h=>by unfold kA;rw[getElem?_eq_getElem h];simp
     rw[gi i hi,gi j J]at k;let h8:=M _ (getElem_mem hi);let h7:=M _ (getElem_mem J);let:=JX (Fy (t::sh)) hk (i:=p.toList[j]) (j:=p.toList[i]) ∅ ∅;rw[qS ∅]at this;let e:dX ((ps.map tK).getD p.toList[i] .non) ((ps.map tK).getD p.toList[j] .non)=true:=↑this.symm
     let Y:∀i,i<ps.length->(ps.map tK).getD i .non=tK (ps.getD i ([],0)):=λi hi=>by simp[hi]
     rw[Y _ h8,Y _ h7]at e;show e
    .let eo:(p.toList.map λi=>(ps.map λp=>Value.ref p.2).getD i Value.none)=(p.toList.map λi=>ps.getD i ([],0)).map λp=>Value.ref p.2:=by rw[qE];show map_congr_left λi hi=>?_;simp[M i hi]
     rw[<-eo];show N3
  cases t
  .show kat_kind (T:=.type "int") t1 ∅ (λv hv=>?_) (by rfl) (go _);let#[z,u,rfl]:=t3 v hv;show Looks.of_pure rfl
  .show kat_kind (T:=.type "str") t1 ∅ (λv hv=>?_) (by rfl) (go _);let#[z,u,rfl]:=t3 v hv;show Looks.of_pure rfl
end
def Inv.laidD(I:Inv X zV Z H s)(hn:∀m,s.heap.Ns X.env.locals m->h'.Ns X.env.locals m)(k:∀b u,b≠X.env.locals->s.heap.get? b=some u->h'.get? b=some u)
  (O:s.heap.get? a=none)(new:zU X.prog X.w (upd H a o) h' a o):Inv X zV Z (upd H a o) {s with heap:=h',toks:=t',drawn:=d'}:=by
 have J:H a=none:=by
  cases e:H a with
  |none=>rfl
  |some u=>let#[v,z]:=zU.there (I.hok a u e);rw[O]at z;cases z
 refine I.step (g':=s.gens) (d':=d') (ch:=[]) (λ_ z=>nomatch z) (λb B M _ _ e _=>k b B M e) (λb B M _ _ e _=>#[B.slots,k b B M e]) (λb B _ e n=>by rw[An (λz=>by rw[z,O]at e;cases e)];show n)
  (λb B _ e=>?_) (λb xs q=>by rw[An (CZ q J)];show q) (λb u xs q=>by rw[An (CZ q J)];show q) (λb ps q=>#[#[],by rw[An (CZ q J),q];simp]) hn (λb B e=>?_) I.bare
 .by_cases L:b=X.env.locals
  .obtain⟨m,x,_⟩:=I.loc;let#[o',_,_,e',_]:=hn m x;show#[o',by rw[L];show e']
  .show#[B,k b B L e]
 .by_cases L:b=a
  .grind[AX]
  .rw[An L]at e;show(I.hok b B e).stay (λc v Y q=>k c v (λz=>?_) q) (λc q=>by rw[An (CZ q J)];show q) λc xs q=>by rw[An (CZ q J)];exact q
   rw[z]at Y;rcases Y with r|r
   .rw[<-r,I.free]at e;cases e
   .rw[I.free]at r;cases r
def Qk(h:fW k v=true):zK (kV k) v:=by
 rcases DF h with⟨i,t,rfl,rfl⟩|⟨x,t,rfl,rfl⟩
 .show#[t,rfl]
 .show#[t,rfl]
def MI(r:zS xs ys)(p:J.Perm ys):∃us,us.Perm xs/\zS us J:=by
 induction p generalizing xs with
 |nil=>cases r;show#[[],.refl _,.nil]
 |cons x _ Y=>
  cases r with
  |cons B r=>let#[us,p,q]:=Y r;show#[_::us,.cons _ p,.cons B q]
 |swap x y l=>
  cases r with
  |cons B r=>
   cases r with
   |cons L r=>show#[_,.swap _ _ _,.cons L (.cons B r)]
 |trans _ _ O M=>grind
def bq(X:Cx)(s:Shared)(a:Addr)(vs:List V):Prop:=∃es ep t us,ST.SetAt s.heap a es ep t/\ST.Rising t.place/\t.place.size=es.size/\(X.w.params.followText "set-order"=false->t.led=true)/\us.Perm vs/\zS us (es.toList.map (·.2))/\es.size=vs.length
def Oi(I:Inv X zV Z H s)(e:H a=some (.set vs)):bq X s a vs:=by
 let led:∀{t:SetTable},t.led=ST.ldOf X.w->X.w.params.followText "set-order"=false->t.led=true:=λe h=>by rw[e];unfold ST.ldOf;rw[h];rfl
 have kk:∀{xs:List (aX×Value)},ST.VSet (ST.ldOf X.w) (aG X.prog X.w) s.heap a xs->vs.Perm (xs.map λp=>kV p.1)->bq X s a vs:=λ{xs} S p=>by
  let#[es,ep,t,h1,h2,Y,O,B]:=S.at;let J:∀p∈xs,(aG X.prog X.w).is p.1 p.2=true/\p.2.scannable=true:=let⟨_,_,_,_,_,_,_,_,_,J,_⟩:=S;J
  have hv:zS (xs.map λp=>kV p.1) (es.toList.map (·.2)):=by
   rw[B]
   clear B p S
   induction xs with
   |nil=>show .nil
   |cons x xs L=>show .cons (Qk (J x qm).1) (L λq hq=>J q (qk _ hq))
  let hl:es.size=vs.length:=by let:=congrArg List.length B;rw[qo,qo,qV]at this;rw[p.length_eq,qo,this]
  show#[es,ep,t,_,h1,h2,Y,led O,p.symm,hv,hl]
 rcases I.hok a _ e with⟨hz,⟨h0,h1⟩|⟨_,xs,p,S⟩|⟨_,xs,p,hx,S⟩⟩
 .show kk (xs:=[]) (ST.vset_new h1) (by rw[h0];show .refl _)
 .show kk S p
 .obtain⟨es,ep,t,h1,h2,Y,O,B⟩:=(S.full λx M=>DK I.hok (hx x M)).at;refine#[es,ep,t,xs.map λp=>V.ref p.2,h1,h2,Y,led O,p.symm,?_,?_]
  .rw[B]
   clear B p S hx
   induction xs with
   |nil=>show .nil
   |cons x xs L=>show .cons rfl L
  .let:=congrArg List.length B;rw[qo,qo,qV]at this;rw[p.length_eq,qo,this]
def RG{α:Type}{l m:List α}(p:l.Perm m)(h:m.length<2):l=m:=by
 match m,h with
 |[],_=>show p.eq_nil
 |[a],_=>show p.eq_singleton
def IF{ι β:Type}{f:ι->β}{us:List β}{ns:List ι}(p:us.Perm (ns.map f)):∃ms:List ι,us=ms.map f/\ms.Perm ns:=by
 induction us generalizing ns with
 |nil=>simp_all
 |cons u us L=>let#[n,M,rfl]:=qK.mp (p.mem_iff.mp qm);let#[J,B,rfl]:=append_of_mem M;rw[map_append]at p;let#[ms,rfl,q]:=L (ns:=J++B) (by rw[map_append];show(p.trans perm_middle).cons_inv);show#[n::ms,rfl,(List.Perm.cons n q).trans perm_middle.symm]
def Ih:∀{ps:List (List aX×Addr)}{B:List Value},zS (ps.map λp=>V.ref p.2) B->B=ps.map λp=>Value.ref p.2
 |[],_,.nil=>rfl
 |p::ps,_,.cons r t=>by let e:_=Value.ref p.2:=r;rw[e,Ih t];rfl
def Il:∀ps:List (List aX×Addr),zS (ps.map λp=>V.ref p.2) (ps.map λp=>Value.ref p.2)
 |[]=>.nil
 |_::ps=>.cons rfl (Il ps)
section
variable{K:W.Frag}
def uU(vs:List V)(H:Hp)(Q:VK):Prop:=
 (vs.length<2/\∀q,H q=none->Q (.ref q) (upd H q (.lst vs)))\/
 (∃ns:List Int,vs=ns.map V.int/\ns.length<64/\∀J:List Int,J.Perm ns->J.Pairwise (·<=·)->∀q,H q=none->Q (.ref q) (upd H q (.lst (J.map V.int))))\/
 (∃L:List Str,vs=L.map V.str/\L.length<64/\∀B:List Str,B.Perm L->sortedS B=true->∀q,H q=none->Q (.ref q) (upd H q (.lst (B.map V.str))))\/
 ∃(ps:List (List aX×Addr))(sh:List Bool),vs=ps.map (λp=>V.ref p.2)/\2<=ps.length/\ps.length<64/\(∀p∈ps,H p.2=some (.tup (p.1.map kV))/\fN sh (p.1.map aO))/\sh≠[]/\∀M:List (List aX×Addr),M.Perm ps->(M.map tK).Pairwise (dX · ·=true)->∀q,H q=none->Q (.ref q) (upd H q (.lst (M.map λp=>V.ref p.2)))
def jF(K:W.Frag):List V->Hp->VK->Prop:=λxs H Q=>∃a vs,xs=[.ref a]/\(bN K H a vs\/H a=some (.set vs))/\uU vs H Q
def Hl{s:Shared}(F:Fr h₀ L s.heap m)(F':Fr h₀ L h' m)(M:News h₀ L h' (rest h₀ L s.heap)):∀b u,b≠L->s.heap.get? b=some u->h'.get? b=some u:=λb u J e=>by
 cases B:h₀.get? b with
 |some o=>rw[F.keep b o B]at e;rw[<-e];show F'.keep b o B
 |none=>show(M (b,u) (zb4.mpr #[e,J,B])).1
def KZ(I:Inv X zV Z H s)(k:∀b u,b≠X.env.locals->s.heap.get? b=some u->h'.get? b=some u){p:List aX×Addr}(e:H p.2=some (.tup (p.1.map kV))):xF h' p.2 p.1:=by let#[B,r,#[o,e,c,n,d],_]:=I.tuple (bM.of e);show#[B,r,o,k p.2 o (λz=>?_) e,c,n,d];let#[m,#[o',es,ep,J,L,_],_]:=I.loc;grind
def Tv(hh:X.A.handled=none):aZ X (.builtin "sorted") (jF X.K):=by
 intro zV s Z H xs us Q I r h;let#[a,vs,rfl,Y,h]:=h;cases r with
 |cons r1 r2=>
  cases r2;cases r1;rcases Y with Y|Y
  .rcases h with⟨h2,q⟩|⟨ns,rfl,J,q⟩|⟨zs,rfl,J,q⟩|⟨ps,sh,rfl,h2,J,L,e3,q⟩
   .show UQ zV s Z H [.ref a] [.ref a] Q I (.cons rfl .nil) #[a,vs,rfl,Y,h2,q]
   .show MR zV s Z H [.ref a] [.ref a] Q I (.cons rfl .nil) #[a,rfl,.inl #[ns,J,Y,q]]
   .show MR zV s Z H [.ref a] [.ref a] Q I (.cons rfl .nil) #[a,rfl,.inr #[zs,J,Y,q]]
   .obtain⟨ha,rv,pl,_⟩:=I.list Y;let hv:=Ih rv;subst hv;let#[m,F]:=I.fr;let N:News X.base X.env.locals s.heap (rest X.base X.env.locals s.heap):=λp L=>zb4.mp L;show W.kat_sorted F N pl.isList (by rw[qo];show h2) (by rw[qo];show J) λD e1 h' F' N' hD=>?_;let tl:∀{h':Heap}{d o news},News X.base X.env.locals h' ((d,o)::news)->News X.base X.env.locals h' news:=λN p L=>N p (qk _ L);let B:s.heap.get? D=none:=by
     cases e:s.heap.get? D with
     |none=>rfl
     |some u=>let#[_,n1,n2]:=N' (D,seqObj "list" #[] e1) qm;show absurd (hD (D,u) (zb4.mpr #[e,n1,n2])) (lt_irrefl _)
    show Mq (s:={s with heap:=h'}) F' N' hD (λp h5=>#[KZ I (Hl F F' (tl N')) (L p h5).1,(L p h5).2]) e3 h2 λqs pq pw h3 c F3 N3=>?_;show#[.ref D,_,Inv.laidD (s:=s) (t':=s.toks) (d':=s.drawn) (o:=.lst (qs.map λp=>V.ref p.2)) I (λm' x=>by rw[JW x F.ns];show F3.ns) (Hl F F3 (tl N3)) B ?_,rfl,q qs pq pw D ?_]
    .show#[by rw[qo,pq.length_eq,zo];lia,_,c,Il qs,(N3 (D,_) qm).1]
    .cases e:H D with
     |none=>rfl
     |some u=>let#[v,z]:=zU.there (I.hok D u e);rw[B]at z;cases z
  .obtain⟨es,ep,t,us,h1,h2,h3,h4,pu,hv,hl⟩:=Oi I Y
   --the end:a new list
   have e4:∀{s2:Shared}{D:Addr}{O:Array Value}{e:Nat}{ws:List V},zS ws O.toList->ws.length<=1000->s2.heap.get? D=some (seqObj "list" O e)->s.heap.get? D=none->(∀b o,s.heap.get? b=some o->s2.heap.get? b=some o)->s2.gens=s.gens->s2.os=s.os->(∀q,H q=none->Q (.ref q) (upd H q (.lst ws)))->EP X zV Z Q (.ref D) s2:=λ{s2 D O e ws} rv hw hD B hk hg ho q=>by
    let#[h2,g2,d2,t2,o2]:=s2;subst hg ho;show#[.ref D,_,Inv.laidD (s:=s) (t':=t2) (d':=d2) (o:=.lst ws) I (λm x=>x.at' λo e=>hk _ o e) (λb u _ e=>hk b u e) B ?_,rfl,q D ?_]
    .show#[by rw[zo];lia,O.toList,e,rv,by rw[toArray_toList];show hD]
    .cases e:H D with
     |none=>rfl
     |some u=>let#[v,z]:=zU.there (I.hok D u e);rw[B]at z;cases z
   have none_of:∀{M:Shared},(∀b o,s.heap.get? b=some o->M.heap.get? b=some o)->s.heap.get? M.heap.objs.size=none:=λ{M} hx=>by
    cases q:s.heap.get? M.heap.objs.size with
    |none=>rfl
    |some o=>show absurd (ST.lt_of_get (hx _ _ q)) (lt_irrefl _)
   rcases h with⟨h6,q⟩|⟨ns,rfl,J,q⟩|⟨zs,rfl,J,q⟩|⟨ps,sh,rfl,h6,J,L,e3,q⟩
   .show ST.sorted_set hh (FO I Y) h1 h2 h3 h4 ∅ λM ord e2 hx hg ho ht new=>?_;let#[ws,pw,h7]:=MI hv (e2.map (·.2));let ew:ws=vs:=RG (pw.trans pu) h6;subst ew;let hd:(ord.map (·.2)).length<2:=by rw[<-h7.length];exact h6
    show KS new hd #[_,rfl,?_];let#[e,he]:=ST.sortedHeap_at new (ord.map (·.2)).toArray;show e4 h7 ∅ he (none_of hx) (λb o e=>ST.sortedHeap_old (ne_of_lt (ST.lt_of_get (hx b o e))) (qc _ (hx b o e)) _) hg ho q
   .obtain⟨ms,rfl,pm⟩:=IF pu;rw[qo]at hl;show ST.sorted_set_ints hh (FO I Y) h1 h2 h3 h4 ∅ (IL hv) λs2 D O e h9 a1 a2 a3 hD B hk hg ho ht=>e4 (Fm a1) (by rw[qo,a2.length_eq,pm.length_eq];lia) hD B hk hg ho (q h9 (a2.trans pm) a3)
   .obtain⟨ms,rfl,pm⟩:=IF pu;rw[qo]at hl;show ST.sorted_set_strs hh (FO I Y) h1 h2 h3 h4 ∅ (He hv) λs2 D O e h9 a1 a2 a3 hD B hk hg ho ht=>e4 (IZ a1) (by rw[qo,a2.length_eq,pm.length_eq];lia) hD B hk hg ho (q h9 (a2.trans pm) a3)
   .rw[qo]at hl;show ST.sorted_set hh (FO I Y) h1 h2 h3 h4 ∅ λM ord e2 hx hg ho ht new=>?_;let#[ws,pw,h7]:=MI hv (e2.map (·.2));let#[hi,rfl,pp]:=IF (pw.trans pu);let hs:=Ih h7;rw[hs]at new⊢;let#[m,F]:=I.fr;let N:News X.base X.env.locals s.heap (rest X.base X.env.locals s.heap):=λp L=>zb4.mp L;let h8:∀b o,s.heap.get? b=some o->(M.heap.push (seqObj "list" (hi.map λp=>Value.ref p.2).toArray 0)).get? b=some o:=λb o e=>qc _ (hx b o e);let hL:X.env.locals<M.heap.objs.size:=by let#[o',_,_,e',_]:=F.ns;exact ST.lt_of_get (hx _ _ e')
    have B:=none_of hx;let hr:X.base.get? M.heap.objs.size=none:=by
     cases q:X.base.get? M.heap.objs.size with
     |none=>rfl
     |some o=>rw[F.keep _ _ q]at B;cases B
    let hb:∀p∈rest X.base X.env.locals s.heap,p.1<M.heap.objs.size:=λp L=>ST.lt_of_get (hx _ _ (N p L).1);let tl:∀{h':Heap}{d o news},News X.base X.env.locals h' ((d,o)::news)->News X.base X.env.locals h' news:=λN p L=>N p (qk _ L);show W.kat_list_sort (s:={M with heap:=M.heap.push (seqObj "list" (hi.map λp=>Value.ref p.2).toArray 0)}) (news:=rest X.base X.env.locals s.heap) (F.kept h8) (N.grown h8) new (ne_of_gt hL) hr (λp L=>ne_of_lt (hb p L)) (by rw[qo,pp.length_eq];show h6) (by rw[qo,pp.length_eq];show J) λe1 h' F' N'=>?_;show Mq (s:={M with heap:=h'}) F' N' hb (λp h5=>#[KZ I (Hl F F' (tl N')) (L p (pp.mem_iff.mp h5)).1,(L p (pp.mem_iff.mp h5)).2]) e3 (by rw[pp.length_eq];show h6) λqs pq hc h3 c F3 N3=>#[_,rfl,?_]
    let#[hm,g1,d1,t1,o1]:=M;subst hg ho;show#[.ref _,_,Inv.laidD (s:=s) (t':=t1) (d':=d1) (o:=.lst (qs.map λp=>V.ref p.2)) I (λm' x=>by rw[JW x F.ns];show F3.ns) (Hl F F3 (tl N3)) B ?_,rfl,q qs (pq.trans pp) hc _ ?_]
    .show#[by rw[qo,pq.length_eq,pp.length_eq,zo];lia,_,c,Il qs,(N3 (_,_) qm).1]
    .cases e:H hm.objs.size with
     |none=>rfl
     |some u=>let#[v,z]:=zU.there (I.hok _ u e);rw[B]at z;cases z
def MK(h:l.length<2):cX l=l:=by
 match l,h with
 |[],_=>rfl
 |[_],_=>rfl
def Kz:∀{sh:List Bool}{l:List D},fN sh l->l.all cV=true
 |[],[],_=>rfl
 |[],_::_,h=>h.elim
 |t::_,[],h=>by cases t<;>show h.elim
 |t::sh,a::l,h=>by cases t<;>cases a<;>first|show h.elim|show Kz (sh:=sh) (l:=l) h
def Uo:cZ K (jF K) cK:=by
 intro Z U F G H vs ds s Q B re e J;let#[d,v,rfl,rfl]:=BF (λx y r=>by cases x<;>rfl) rfl re e;let O:∀{a:Addr}{xs:List V}{l:List D},(bN K H a xs\/H a=some (.set xs))->zT K F xs l->cM l=some s->jF K [.ref a] H Q:=λ{a xs l} h6 r e=>by
  unfold cM at e;split at e
  .rename_i hc;cases e;show#[a,xs,rfl,h6,?_];let#[M,hc]:=hc;let h8:=r.len;rcases hc with h2|hi|hs|⟨sh,h7,h3⟩
   .show .inl #[∅,λq L=>?_];rw[MK h2]at J;show J _ F _ (zG.refl F) (B.newLD L r)
   .obtain⟨ns,q1⟩:=isSome_iff_exists.mp hi;let#[e1,e2]:=PR r q1;subst e1 e2;show .inr (.inl #[ns,rfl,by rwa[qo]at M,λh4 p pw q L=>?_]);rw[FV Iq (m:=h4.map D.int) (λd hd=>by let#[z,_,rfl]:=qK.mp hd;trivial) (p.map _) (pairwise_map.mpr (pw.imp λ{a b} h=>by rw[Pw];show qR h))]at J;show J _ F _ (zG.refl F) (B.newLD L (IX h4))
   .obtain⟨ys,q2⟩:=isSome_iff_exists.mp hs;let#[zs,e1,e2]:=Kw r q2;subst e1;let#[e3,sm]:=MC r rfl;subst e3;show .inr (.inr (.inl #[zs,rfl,by rwa[qo]at M,λY p pw q L=>?_]));rw[FV HV (m:=Y.map λz=>D.str z.cps.toList) (λd hd=>by let#[z,_,rfl]:=qK.mp hd;trivial) (p.map _) (TJ Y pw)]at J;show J _ F _ (zG.refl F) (B.newLD L (Ma Y λz hz=>sm z (p.mem_iff.mp hz)))
   .by_cases h2:l.length<2
    .show .inl #[∅,λq L=>?_];rw[MK h2]at J;show J _ F _ (zG.refl F) (B.newLD L r)
    .let h5:l.all (bR true)=true:=qI.mpr λd hd=>by let:=h3 d hd;cases d<;>first|exact this.elim|exact Kz this
     let#[ps,rfl,rfl,hf]:=IA r h5;rw[qo]at M h2;show .inr (.inr (.inr #[ps,sh,rfl,∅,M,λp hp=>#[B.fr _ _ (hf p hp),h3 (tK p) (qK.mpr #[p,hp,rfl])],h7,λqs pq pw q L=>?_]));rw[FV (Fy sh) h3 (pq.map tK) pw]at J;show J _ F _ (zG.refl F) (B.newLD L (zT.of_all λi hi=>zT.to_all r i (pq.mem_iff.mp hi)))
  .cases e
 cases d with
 |lst l=>let#[a,xs,rfl,h1,r1]:=re.1.lst B.fr;show O (.inl h1) r1 e
 |set l=>let#[a,xs,rfl,h1,r1]:=bK.set re.1;show O (.inr (B.fr _ _ h1)) r1 e
 |_=>cases e
def Fh(M:bX k X.A)(Y:Gl X "sorted")(O:X.mg "sorted"=none)(L:bootBuiltins "sorted"=some (.builtin "sorted"))(ha:FA X (e::es) J)(he:starEach (e::es) X.env=(false,eval e X.env)::starEach es X.env:=by rfl)(B:(backTo pos (starEach es X.env)).any (·.1)=false:=by rfl):FE X (.Call (.Name "sorted" p) (e::es) [] pos) (wB cK J):=
 Ga (λpn xe=>Tv (X:=wp X pn xe) M.hd) Uo Y O L ha ⋯ ⋯ he B
end
def QH{K:Type}[DecidableEq K]{knd:KeyKind prog w K}{d:Addr}{zW:List (K×Value)}{k:K}{key v:Value}{Q:zv}(B:knd.is k key=true)(hm:s.heap.DictOf knd d zW)(O:valueAt zW k=none)(h6:zW.length<=sizeLine)
  (hQ:∀h',h'.DictOf knd d (stored zW k v)->Heap.SameBut d s.heap h'->Q v {s with heap:=h',toks:=s.toks+1}):wpAny (model prog w) A (dictSetDefault d key v) Q E s:=by
 let#[o,es,ep,ho,hc,hd,hk,hp,hn]:=hm;let h5:es.size<=sizeLine:=by let e1:=hp.length;rw[qV]at e1;lia
 let L:∀J∈zW,¬J.1=k:=λJ h4 e=>by unfold valueAt at O;rw[Option.map_eq_none_iff,List.find?_eq_none]at O;show O J h4 (qR e)
 let M:¬(zW.any λJ=>decide (J.1=k))=true:=λz=>by let#[J,h1,h2]:=any_eq_true.mp z;show L J h1 (qU h2)
 have Y:(es.findIdx? λe=>knd.is k e.key)=none:=by
  let h1:(es.findIdx? λe=>knd.is k e.key)=zW.findIdx? λJ=>decide (J.1=k):=by rw[<-hp.findIdx k];let#[l]:=es;simp
  rw[h1,List.findIdx?_eq_none_iff];show λJ h=>qS (L J h)
 refine zr (qa (knd.pyHash B (qa (wpAny_dictFind_of (s:={s with toks:=s.toks+1}) B ho hd hk ?_))));rw[Y];refine qa (wpAny_rule (qa (wpAny_updateDictKeys (hz:=h5) (s:={s with toks:=s.toks+1}) ho hd (qb (hQ _ ⟨_,_,ep+1,zi _ ho (Obj.isFreed_of_dict (Obj.data_mapDictKeys hd _)),
  hc.mapDictKeys _,Obj.data_mapDictKeys hd _,hk.push B _,?_,?_⟩ (Heap.SameBut.update ..))))))
 .rw[stored,q8 M];let:=hp.append B (knd.hash k) v;simpa using this
 .rw[stored,q8 M,map_append];exact qw.mpr ⟨hn,by simp,λa ha b hb e=>by
   let#[J,h1,h2]:=qK.mp ha;let h3:b=k:=↑hb
   show L J h1 (h2.trans (e.trans h3))⟩
def KR{K:Type}[DecidableEq K]{knd:HeapKind prog w K}{d a:Addr}{xs:List (K×Addr×Value)}{k:K}{v:Value}{Q:zv}(hu:knd.room A)(J:knd.is s.heap k a)(hm:s.heap.DictOfH knd d xs)(h4:xs.length<=sizeLine)
  (h1:∀p,atKey xs k=some p->Q p.2 {s with toks:=s.toks+knd.draws k})
  (h2:atKey xs k=none->∀h',h'.DictOfH knd d (storedH xs k a v)->Heap.SameBut d s.heap h'->Q v {s with heap:=h',toks:=s.toks+knd.draws k}):wpAny (model prog w) A (dictSetDefault d (.ref a) v) Q E s:=by
 let#[o,es,ep,M,hc,L,he,Y,hn]:=hm;show zr (qa (knd.pyHash hu J (qa (wpAny_dictFind_heap (s:={s with toks:=s.toks+knd.draws k}) hu J M L he Y hn (λB=>?_) λj p hj=>?_))))
 .have O:k∉xs.map (·.1):=not_mem_keys_of_get B;refine qa (wpAny_rule (qa (wpAny_updateDictKeys (hz:=by let e:=size_of_entries he;lia) (s:={s with toks:=s.toks+knd.draws k}) M L (qb (h2 (atKey_none_of_get B) _ ⟨_,_,ep+1,zi _ M (Obj.isFreed_of_dict (Obj.data_mapDictKeys L _)),
   hc.mapDictKeys _,Obj.data_mapDictKeys L _,?_,?_,?_⟩ (Heap.SameBut.update ..))))))
  .rw[storedH_new (atKey_none_of_get B)];simp[he,entryOfKey]
  .rw[storedH_new (atKey_none_of_get B)];intro x hx;rcases qx.mp hx with z|z
   .show knd.keeps (Y x z) M L (Heap.SameBut.update ..)
   .rw[qu.mp z];show knd.keeps J M L (Heap.SameBut.update ..)
  .rw[storedH_new (atKey_none_of_get B),map_append];exact qw.mpr ⟨hn,by simp,λx hx y hy e=>by
    let h3:y=k:=↑hy
    show O (h3▸e▸hx)⟩
 .show qa (wpAny_dictEntries (s:={s with toks:=s.toks+knd.draws k}) M L ?_);rw[entry_at he j,hj];show qa (wpAny_rule (qb (h1 p (atKey_of_get hn hj))))
def GS(B:s.TypeIs (.ref d) "dict")(J:(d==sysModules)=false)(h:wpAny (model prog w) A.in1 (dictSetDefault d u r) Q E s):wpAny (model prog w) A (call (.builtin "dict.setdefault") [.ref d,u,r]) Q E s:=by show zm PySem.F.slot_dict_setdefault B PySem.F.entry_dict_setdefault ?_ (PySem.F.args_dict_setdefault_3 _ _ _);show qa (qa (wpAny_notOrdered_dict B ?_));show qb ?_;show wpAny _ _ (if(d==sysModules)=true then _ else(dictSetDefault d u r>>=_)) _ _ s;rw[q8 (by rw[J];show qX)];show qa (zu h (λv s' q=>qb #[v,rfl,q]) λ_ _ z=>z)
def xN(H:Hp)(a:Addr)(y d:V)(v:V)(H':Hp):Prop:=(gE H a y (some v)/\H'=H)\/(gE H a y none/\v=d/\cx H a y d H')
def JD(hu:A.units+1<cLine)(I:Inv X zV Z H s)(g:xN H a y d v H')(ry:zK y u)(rd:zK d r)(h:∀w' s',Inv X zV Z H' s'->zK v w'->Q w' s'):
  wpAny (model X.prog X.w) A (call (.builtin "dict.setdefault") [.ref a,u,r]) Q E s:=by
 rcases g with⟨⟨O,k,e,ey,l⟩|⟨O,k,b,e,ey,eb,l⟩,rfl⟩|⟨g,rfl,⟨O,k,e,ey,hl,eH⟩|⟨O,k,b,e,ey,eb,hl,eH⟩⟩
 .subst ey;let#[z,Y,vs,B,M]:=Fp I.hok e;let#[w',hw,h8]:=eK.some_of (v:=v) (o:=valueAt vs k) (by rw[l];show B.val k);refine GS M.typeIs Y (wpAny_dictSetDefault_of (Eu ry) M.mapOf (λv' hv=>?_) (λhn=>absurd (hn.symm.trans hw) (λz=>nomatch z)) (λo es ep h1 h2=>?_))
  .rw[hw]at hv;cases hv;show h _ _ (I.tok _) h8
  .obtain⟨o',e4,hk,g1,_,g2,_,g3,_⟩:=M;rw[g1]at h1;cases h1;rw[g2]at h2;let e1:=g3.length;let e2:=B.length;rw[qV]at e1;lia
 .subst ey;cases(show u=Value.ref b from ry);let#[z,Y,xs,B,M]:=Fs I.hok e;let#[w',hw,h8]:=eK.some_of (v:=v) (o:=(atKey xs k).map (·.2)) (by rw[l];show B.val k);refine GS M.typeIs Y (KR (tupleKind_room_in1 hu) (DK I.hok eb) M (by rw[<-Paired.length B];show z) (λp hp=>?_) λhn=>?_)
  .rw[hp]at hw;cases hw;show h _ _ (I.tok _) h8
  .rw[hn]at hw;cases hw
 .subst ey eH;let#[z,Y,vs,B,M]:=NS I.hok e;let h9:valueAt vs k=none:=by
   rcases g with⟨e3,k',L,J,l'⟩|⟨_,_,_,_,J,_⟩
   .have ek:=Fv J;subst ek;rcases L with L|⟨o',L⟩
    .rw[e]at L;cases L;let:=B.val k;rw[<-l']at this;cases q:valueAt vs k with
     |none=>rfl
     |some x=>rw[q]at this;show this.elim
    .rw[e]at L;cases L
   .cases k<;>cases J
  show GS M.typeIs Y (QH (Eu ry) M h9 (by rw[<-B.length];show z) λh' h7 hs=>h _ _ ?_ rd);show GN I (by rw[e];show True.intro) hs (let⟨q,_,_,hq,_⟩:=h7;#[q,hq]) (Ob (by let:=MW O k v;lia) Y (B.put k rd) h7)
 .subst ey eH;cases(show u=Value.ref b from ry);let#[z,Y,xs,B,M]:=NP I.hok e;let h9:∀p,atKey xs k=some p->False:=λp hp=>by
   rcases g with⟨_,k',_,J,_⟩|⟨e3,k',b',L,J,h6,l'⟩
   .cases k'<;>cases J
   .cases J;rw[eb]at h6;let ek:k=k':=FJ (by injection h6 with h6;injection h6);subst ek;rcases L with L|⟨o',L⟩
    .rw[e]at L;cases L;let:=B.val k;rw[<-l',hp]at this;show this
    .rw[e]at L;cases L
  show GS M.typeIs Y (KR (tupleKind_room_in1 hu) (DK I.hok eb) M (by rw[<-Paired.length B];show z) (λp hp=>(h9 p hp).elim) λ_ h' h7 hs=>h _ _ ?_ rd);let#[q,es,ep,hq,h2,h3,h4,_,h5]:=h7;show GN I (by rw[e];show True.intro) hs ⟨q,hq⟩ ⟨by let:=MW O k v;lia,Y,_,(B.put k eb rd).keeps λc ys ec=>?_,q,es,ep,hq,h2,h3,h4,h5⟩;rw[An (JL ec e (λz=>nomatch z))];show ec
def yI(J ty tx:TE):TE:=λZ H Q=>J Z H λx H1=>∃a,x=.ref a/\cn H1 a/\ty Z H1 λy H2=>tx Z H2 λz L=>∃v B,xN L a y z v B/\Q v B
def Qu(hu:X.A.units+1<cLine)(ho:PE X o M)(he:PE X e ty)(hf:PE X f tx)(m:M2 X o "setdefault" apos e f cpos):PE X (.Call (.Attribute o "setdefault" apos) [e,f] [] cpos) (yI M ty tx):=by
 intro zV s Z H Q I h;show wpAny_Call_method m.base m.few m.line PySem.F.plainAttrs_dict PySem.F.slot_dict_setdefault PySem.F.type_dict_setdefault (Am (ho zV s Z H _ I h) λu s1 L=>?_);let#[x,H1,J,rx,a,ex,d,q1]:=L;subst ex;obtain rfl:u=Value.ref a:=rx;let#[Y,O,_]:=JZ J d;show#[Y,O,?_];rw[m.trees];show Calls.callWith_builtin rfl (Calls.evalArgs_plain (Calls.spliced_cons (Am (he zV s1 Z H1 _ J q1) λiv s2⟨y,H2,I2,ry,q2⟩=>Calls.spliced_cons (Am (hf zV s2 Z H2 _ I2 q2) λfv s3⟨z,H3,I3,rz,v,H4,g,q3⟩=>Calls.spliced_nil ?_))))
 show JD hu I3 g ry rz λw' s4 I4 B=>#[_,H4,I4,B,q3]
section
variable{K:W.Frag}
def QY:iC (x::l) k=(open Classical in if x=k then some 0 else(iC l k).map (·+1)):=by grind[iC,List.findIdx]
def Ic{κ:Type}[DecidableEq κ]{g:κ->D}(B:∀a b,g a=g b->a=b):∀(zW:List (κ×V))(k:κ),dB zW k=(iC (zW.map λp=>g p.1) (g k)).bind λm=>(zW.map (·.2))[m]?
 |[],k=>rfl
 |p::r,k=>by
  rw[qy,QY];by_cases e:p.1=k
  .rw[EZ e,q5 (by rw[e])];rfl
  .rw[Fi e,q8 λz=>e (B _ _ z),Ic B r k];cases iC (r.map λp=>g p.1) (g k)with
   |none=>rfl
   |some m=>rfl
def iW.get{a:Addr}{o:HO}{t:Bool}{ks:List D}{xs:List V}{y:V}{q:D}(d:iW ks xs t o)(e:H a=some o)(r:aS K H y q)(M:bR t q=true):gE H a y ((iC ks q).bind λm=>xs[m]?):=by
 cases d with
 |@k B h1 h2=>subst h1 h2;let#[L,rfl,rfl]:=EU r M;show .inl #[B,L,.inl e,rfl,(Ic (λ_ _=>DM) B L).symm]
 |@t B h1 h2=>
  subst h1 h2;cases r with
  |tup O q=>let#[J,rfl,rfl]:=EB q M;show .inr #[B,J,_,.inl e,rfl,O,(Ic (g:=λl:List aX=>D.tup (l.map aO)) (λa b z=>Fd (D.tup.inj z)) B J).symm]
  |_=>cases M
def Rel.sdefR{p D:Addr}(r:Rel K (U++[some (.lst [])]) (Z++[some (.ref p)]) F G H)(hs:slot U n=some (.dct t ks l))(L:Z[n]?=some (some (.ref D)))(ry:aS K H y q)(hk:bR t q=true)(hn:ks.Nodup)(hb:ks.length<big):
  ∃v H',xN H D y (.ref p) v H'/\Rel K (U.set n (some (.dct t (bF ks l q).1 (bF ks l q).2.1))) Z F G H'/\∃o xs,H' D=some o/\iW (bF ks l q).1 xs t o/\xs[(bF ks l q).2.2]?=some v:=by
 let rd:=r.drop (Ah r);let#[v',fp,e1,sr]:=rd.at hs;rw[L]at e1;let e2:V.ref D=v':=↑e1
 subst e2;let#[a',o,xs,fl,z1,_,hD,M,rl]:=FZ sr;cases z1;let Y:=M.len;let B:=M.get hD ry hk;cases J:iC ks q with
 |some m=>
  let es:bF ks l q=(ks,l,m):=by unfold bF;rw[J]
  let O:m<xs.length:=by let:=(qg.mp (LL J)).1;lia
  rw[J]at B;let B:gE H D y xs[m]?:=B;rw[qh O]at B;rw[es];show#[xs[m],H,.inl #[B,rfl],by rw[LB hs];show rd,o,xs,hD,M,qh O]
 |none=>
  let es:bF ks l q=(ks++[q],l++[.lst []],ks.length):=by unfold bF;rw[J]
  rw[J]at B;let#[o',dp,h1,h2]:=M.put (v:=.ref p) hD ry hk hn (by rw[zo];show lt_trans hb ⋯);rw[es];show#[.ref p,_,.inr #[B,rfl,dp],r.dct hs L hD M (h2 J) λH' fl fs rl sr=>#[fl++fs,[],zJ.snoc rl sr,by simp],o',_,AX,h2 J,?_];rw[Y,getElem?_append_right (q9 _),sub_self];rfl
def Rel.appendAtD{D b:Addr}(r:Rel K (U++[some t,some (.dct tb ks l)]) (Z++[some v,some (.ref D)]) F G H)(h:U.length=Z.length)(hm:l[m]?=some (.lst l'))
  (hD:H D=some o)(ho:iW ks xs tb o)(hb:xs[m]?=some (.ref b))(hy:H b=some (.lst ys)):
  ys.length=l'.length/\Rel K (U++[some (.dct tb ks (l.set m (.lst (l'++[t]))))]) (Z++[some (.ref D)]) F G (upd H b (.lst (ys++[v]))):=by
 let#[fp,e,nd,ap]:=r.en;let#[f1,f2,rfl,a,c]:=e.cut h;cases c with
 |@so _ _ _ _ M f3 st c=>
 cases c with
 |@so _ _ _ _ fD fn sd nl=>
 cases nl;let#[a',o2,Y,fl,z1,rfl,h6,h4,rl]:=FZ sd;cases z1;rw[hD]at h6;cases h6;let ex:Y=xs:=by
  cases ho with
  |k _ z=>cases h4 with|k _ z'=>rw[z,z']
  |t _ z=>cases h4 with|t _ z'=>rw[z,z']
 subst ex;let#[x,O,fi,L,J,sx,rfl,up]:=rl.at hm;rw[hb]at J;cases J;cases sx with
 |@lst _ e1 _ B h5 ry=>
 rw[hy]at h5;cases h5;show#[ry.len,?_];let hp:(f1++(M++(D::(O++(b::B++L))++[]))).Perm (b::(f1++(M++(D::(O++(B++L)))))):=by let h1:(O++b::(B++L)).Perm (b::(O++(B++L))):=perm_middle;show((h1.cons D).append_left (f1++M)|>.trans ?_|>λz=>↑z);let h2:(D::b::(O++(B++L))).Perm (b::D::(O++(B++L))):=List.Perm.swap ..;show(h2.append_left (f1++M)).trans ?_;show perm_middle.trans (by rw[qp])
 let h8:=hp.nodup_iff.mp nd;let#[nb,_]:=qL.mp h8;let ne:∀{w:List Addr},(∀x∈w,x∈f1++(M++(D::(O++(B++L)))))->∀x∈w,upd H b (.lst (ys++[v])) x=H x:=λhw x J=>An λz=>nb (z▸hw x J);let h7:=ap b (hp.mem_iff.mpr qm);let new:aK K F (upd H b (.lst (ys++[v]))) (.ref b) (.lst (l'++[t])) (b::(B++M)):=.lst AX (zJ.snoc (ry.mono (zG.refl F) (ne λx J=>by simp[J])) (st.mono (zG.refl F) (ne λx J=>by simp[J])));let r2:=up (H':=upd H b (.lst (ys++[v]))) (ne λx J=>by rcases qx.mp J with z|z<;>simp[z]) new
 have e2:Y.set m (.ref b)=Y:=by
  apply ext_getElem?;intro j;by_cases hj:m=j
  .subst hj;rw[getElem?_set_self (qg.mp hb).1,hb]
  .rw[getElem?_set_ne hj]
 rw[e2]at r2;let h9:D≠b:=λz=>nb (by simp[z]);let top:aK K F (upd H b (.lst (ys++[v]))) (.ref D) (.dct tb ks (l.set m (.lst (l'++[t])))) (D::(O++((b::(B++M))++L))):=h4.mk ((An h9).trans hD) r2;let p:(f1++((D::(O++((b::(B++M))++L)))++[])).Perm (f1++(M++(D::(O++(b::B++L))++[]))):=by
  show List.Perm.append_left _ ?_;simp;let h1:(B++(M++L)).Perm (M++(B++L)):=by rw[<-qp,<-qp];show List.Perm.append_right _ qN
  let h2:(O++b::(B++(M++L))).Perm (M++(O++b::(B++L))):=by show((h1.cons b).append_left O).trans ?_;let h3:(b::(M++(B++L))).Perm (M++(b::(B++L))):=perm_middle.symm;show(h3.append_left O).trans ?_;rw[<-qp,<-qp];show List.Perm.append_right _ qN
  show(h2.cons D).trans ?_;show perm_middle.symm
 show#[zG.updR r.fr h7.1,λx o w=>?_,_,(a.mono (zG.refl F) (ne λx J=>by simp[J])).app (.so top .nil),p.nodup_iff.mpr nd,λx J=>ap x (p.mem_iff.mp J)];let J:x≠b:=λz=>by rw[z,h7.2]at w;cases w
 rw[An J];show r.gr x o w
end
theorem set_set{U:Env}:(U.set n a).set n b=U.set n b:=List.set_set ..
def RD(h:slot U n=some s):slot (U.set n (some s')) n=some s':=by
 induction U generalizing n with
 |nil=>cases h
 |cons a U B=>cases n with
  |zero=>rfl
  |succ n=>show B h
def MQ(hu:X.A.units+1<cLine)(ho:FE X o (zw j))(hi:FE X i wi)(he:FE X e we)(m2:M2 X o "setdefault" h5 i (.List [] lp) h4)
  (e3:attributeBase (.Call (.Attribute o "setdefault" h5) [i,.List [] lp] [] h4) "append" X.env (eval (.Call (.Attribute o "setdefault" h5) [i,.List [] lp] [] h4) X.env)=eval (.Call (.Attribute o "setdefault" h5) [i,.List [] lp] [] h4) X.env:=by rfl)
  (k2:((backTo cpos (starEach [e] X.env)).all (λx=>!x.1)&&(backToKw cpos (keywordEach [] X.env)).all (λx=>x.1.isSome)
   &&decide ([e].length+([]:List Keyword).length+(if([]:List Keyword).isEmpty then 0 else 1)<30))=true:=by rfl)
  (h9:(apos.endLine==cpos.line)=true:=by rfl)(hs:starEach [e] X.env=[(false,eval e X.env)]:=by rfl):FE X (.Call (.Attribute (.Call (.Attribute o "setdefault" h5) [i,.List [] lp] [] h4) "append" apos) [e] [] cpos) (dN j wi we):=λpn xe hp=>by
 show PE.imp (ER (X:=wp X pn xe) PySem.F.plainAttrs_list PySem.F.slot_list_append PySem.F.type_list_append Jd (Qu (X:=wp X pn xe) hu (ho pn xe hp) (hi pn xe hp) (Bh Ab pn xe hp) #[m2.base,m2.few,m2.line,m2.trees]) (Aa he Ab hs pn xe hp) e3 k2 h9 hs rfl) λZ H Q q=>?_;let#[F,G,U,P,PX,zX,hw,hok,hx]:=q;unfold dN at hw;cases qs:slot U j with
 |none=>rw[qs]at hw;show hw.elim
 |some s0=>
  cases s0 with
  |dct t0 ks0 l0=>
   rw[qs]at hw;dsimp only at hw;show#[F,G,U,λy U1=>y=.loc j/\U1=U,PX,zX,by unfold zw;rw[qs];show#[rfl,rfl],λy U1 o' F1 H1 M s1 r1 rv=>?_,hx];let#[rfl,rfl]:=M;let l1:=Ah r1;let Y:Z[j]?=some (some o'):=rv;let r2:=r1.drop l1;let h8:∃D,o'=.ref D/\cn H1 D:=by
    let#[v',fp,e1,sr]:=r2.at qs;rw[Y]at e1;let e2:o'=v':=↑e1
    subst e2;let#[a',o,xs,fl,z1,_,hD,h3,rl]:=FZ sr;subst z1;cases h3 with
    |k _ _=>show#[a',rfl,.inl #[_,.inl hD]]
    |t _ _=>show#[a',rfl,.inr #[_,.inl hD]]
   let#[D,rfl,h8]:=h8;show#[D,rfl,h8,?_];show#[F1,G,U1,_,PX,r2,hw,λz U2 i' F2 H2 L s2 r3 rv2=>?_,hx.grow s1];let l2:=Ah r3;split at L
   .rename_i q t ks l eq ql;let#[k1,hnd,k3,L]:=L;split at L
    .rename_i l' el;let#[G3,hd,gg,e4]:=r3.hide l2;show#[F2,G3,U2,λw B=>w=.v (.lst [])/\B=U2,PX,hd,#[rfl,rfl],λw B d' F3 H3 hk3 s3 r4 rv4=>?_,hx.mono (λ_ z=>z) (s1.trans s2) gg];let#[rfl,rfl]:=hk3;let r5:=e4 s3 r4;rw[qp,qp]at r5;let r6:Rel X.K (B++[zH z,some (.lst [])]) (Z++[some i',some d']) F3 G H3:=Rel.swap (U1:=[some (.lst [])]) (Z1:=[some d']) (U2:=[zH z]) (Z2:=[some i']) l2 rfl r5;let ri:=look (U':=[some (.lst [])]) (Z':=[some d']) r6 l2 rv2 eq;let r7:Rel X.K (B++[some (.lst [])]) (Z++[some d']) F3 G H3:=Rel.mid r6 l2;let hd':∃p,d'=.ref p:=by
      let#[u,fp,e1,sr]:=r7.at (i:=B.length) (s:=.lst []) EF;rw[l2,getElem?_append_right (q9 _),sub_self]at e1;let e2:d'=u:=↑e1
      subst e2;cases sr with
      |lst _ _=>show#[_,rfl]
     let#[p,rfl]:=hd';let#[v,H4,ds,r8,ob,xs,hD,h3,hv]:=Rel.sdefR r7 ql Y ri k1 hnd k3;let hql:=RD (s':=.dct t (bF ks l q).1 (bF ks l q).2.1) ql;let l8:(B.set j (some (.dct t (bF ks l q).1 (bF ks l q).2.1))).length=Z.length:=↑l2
     let r9:=Rel.lend (U':=[]) (Z':=[]) (r8.pushN (u:=some (.ref D))) l8 hql Y;rw[set_set]at r9;let l5:(B.set j none).length=Z.length:=↑l2
     obtain⟨G2,fq,r10,gg2,sq,hG,back⟩:=r9.hide2 l5;let#[a',o2,xs',fl,z1,efq,hD',h6,rl]:=FZ sq;cases z1;rw[hD]at hD';cases hD';let ex:xs'=xs:=by
      cases h3 with
      |k _ z=>cases h6 with|k _ z'=>rw[z,z']
      |t _ z=>cases h6 with|t _ z'=>rw[z,z']
     subst ex;let#[x,fa,fi,fb,hq,sx,efl,_]:=rl.at el;rw[hv]at hq;cases hq;cases sx with
     |@lst b ys _ fy hy ry=>
     show#[_,H4,ds,.inl #[rfl,_,bN.of hy],F3,G2,B.set j none,λrs h7=>match rs with|[r]=>(zF (give r h7) λp=>l'.length<big/\P (.v (.sh .non)) (p.2.set j (some (.dct t (bF ks l q).1 ((bF ks l q).2.1.set (bF ks l q).2.2 (.lst (l'++[p.1])))))))|_=>False,PX,r10,L,λrs h7 vs F4 H5 M s4 O hl J=>?_,hx.mono (λ_ z=>z) (s1.trans (s2.trans s3)) gg2];match rs,vs,J,O,M with
     |[r],[v],J,O,M=>
      dsimp only at M;let#[#[t',U5],eg,M]:=Ao M;let hr:=back s4 O;simp only[qy,map_nil,qp,qO,nil_append]at hr;let l3:h7.length=Z.length:=hl;let#[F5,s5,l4,r13]:=AC (U':=[some (.dct t (bF ks l q).1 (bF ks l q).2.1)]) (Z':=[some (.ref D)]) hr l3 J.1 eg;let kept:∀c∈D::fl,H5 c=H4 c:=λc hc=>by let#[o,h1,h2]:=hG c (efq▸hc);rw[(O.gr c o h1).1.1,h2]
      let hb:b∈D::fl:=qk _ (by rw[efl];simp);let#[ha,r14]:=Rel.appendAtD r13 (l4.trans l3) el ((kept D qm).trans hD) h3 hv ((kept b hb).trans hy);let hm:=Rel.back1 (U':=[]) (Z':=[]) (i:=j) r14 (l4.trans l3) Y;rw[qz,qz]at hm;show#[b,ys,v,rfl,rfl,(kept b hb).trans hy,by rw[ha,zo];show lt_trans M.1 ⋯,hok _ _ .non F5 _ M.2 (s1.trans (s2.trans (s3.trans (s4.trans s5)))) (hm.push .non) trivial]
     |[],_,_,_,M=>show M.elim
     |[_],[],J,_,_=>show J.elim
     |[_],_::_::_,J,_,_=>show J.2.elim
     |_::_::_,_,_,_,M=>show M.elim
    .show L.elim
   .show L.elim
  |_=>rw[qs]at hw;show hw.elim
end FL
namespace FL
def lI(j:Nat)(d:D)(o:Option S)(U:Env)(Q:WQ):Prop:=match d,o with
 |.lst ds,some (.lst l)=>l.length+ds.length<=big/\Q (.v (.sh .non)) (U.set j (some (.lst (l++ds.map .sh))))
 |_,_=>False
def kI(j:Nat)(e:WE):WE:=λU Q E=>match slot U j with
 |some (.lst _)=>e U (λr B=>zF (zR r B) λd=>lI j d (slot B j) B Q) E
 |_=>False
end FL
namespace FL
open PySem PySem.Spec PyProof.Rows L2
def Uq(l b:Addr)(xs ys:Array Value)(n m:Nat)(J:Array (Option Value))(h1:¬(!xs.isEmpty&&Builtin.List.listTooLong (xs.size+ys.size))=true)(h2:xs.size<=sizeLine)(M:xs.size+ys.size<=sizeLine+1):
  Meets (Builtin.«list.extend» #[[.ref l,.ref b],[]]) (λ_ R s=>s.heap.get? l=some {cls:=.type "list",data:=.seq xs n}/\s.heap.get? b=some {cls:=.type "list",data:=.seq ys m,slots:=J}/\R (.ok (.ret Value.none)) {s with heap:=s.heap.update l (Obj.mapSeq λx=>x++ys)}):=
 .of_wp λprog w A R s h=>by
  let#[B,L,h]:=h;let hz:(xs++ys).size<=sizeLine+1:=by rw[Array.size_append];show M
  wp_walk using(wpAny_updateSeq B rfl (hz:=h2) (_hz':=hz)),AutoSeq1.wpAny_loadPart' B,AutoSeq1.wpAny_loadPart' L
  show#[_,rfl,h]
def yW(K:W.Frag):V->List V->Hp->VK->Prop:=λx vs H Q=>∃l b xs B,x=.ref l/\vs=[.ref b]/\H l=some (.lst xs)/\bN K H b B/\xs.length+B.length<=sizeLine/\Q .non (upd H l (.lst (xs++B)))
def Qe{X:Cx}:xV X "list.extend" (yW X.K):=by intro zV s Z H x vs v us Q I Y rv h;let#[l,b,xs,zs,rfl,rfl,M,hB,hz,q]:=h;cases Y;let#[u,rfl,ru]:=rv.one;cases ru;let#[z,J,n,r,hl,e]:=I.lstM M;let#[B,L,#[#[c,dd,dt,O],n2,e2,h1,h2,h3],z2]:=I.list hB;cases h1;cases h2;cases h3;let l2:=L.length;show call_meets F.slot_list_extend #[_,e,rfl] F.entry_list_extend (F.args_list_extend_2 _ _) (Uq l b J.toArray B.toArray n n2 O ?_ (by rw[qr];lia) (by rw[qr,qr];lia)) #[e,e2,.non,_,I.lset (its':=J++B) M e (by simp) (r.append L) (by rw[qq];show hz),rfl,q];rw[BR (by rw[qr,qr];lia),Bool.and_false];show qX
section
variable{K:W.Frag}{F H G:Hp}{Z:St}
def Rel.extS{U:Env}{n:Nat}{l:List S}{ds:List FL.D}{D:Addr}{ys:List V}(r:Rel K U Z F G H)(ry:zT K F ys ds)(hs:slot U n=some (.lst l))(J:Z[n]?=some (some (.ref D))):
  ∃xs,H D=some (.lst xs)/\xs.length=l.length/\Rel K (U.set n (some (.lst (l++ds.map .sh)))) Z F G (upd H D (.lst (xs++ys))):=by
 let#[fp,e,nd,ap]:=r.en;let#[v',fa,fi,fb,e1,rfl,q,up]:=e.at hs;rw[J]at e1;cases e1;cases q with
 |@lst _ xs _ fl hD rl=>show#[xs,hD,rl.len,?_];let#[na,B,M]:=qw.mp nd;let#[ni,nb,B]:=qw.mp B;let h1:D∉fa:=λz=>M D z D (qj _ qm) rfl;let Y:D∉fb:=λz=>B D qm D z rfl;let L:=ap D (qi _ (qj _ qm));let sy:∀H',zJ K F H' ys (ds.map .sh) []:=λH'=>zT.ind (P:=λys ds=>zJ K F H' ys (ds.map .sh) []) .nil (λa _ ih=>.cons (fq:=[]) (.sh a) ih) ry;let new:aK K F (upd H D (.lst (xs++ys))) (.ref D) (.lst (l++ds.map .sh)) (D::(fl++[])):=.lst AX (zJ.app (rl.mono (zG.refl F) λx O=>An λz=>(qL.mp ni).1 (z▸O)) (sy _));let a2:=up (F':=F) (H':=upd H D (.lst (xs++ys))) (o:=some (.lst (l++ds.map .sh))) (u:=some (.ref D)) (zG.refl F) (λx O=>An λz=>(qx.mp O).elim (λw=>h1 (z▸w)) λw=>Y (z▸w)) (.so new .nil);rw[Fb J]at a2;simp at a2;show#[zG.updR r.fr L.1,λx o w=>?_,_,a2,nd,ap];rw[An λz=>by rw[z,L.2]at w;cases w];show r.gr x o w
end
def Qi{X:Cx}{j:Nat}{o e:Expr}{we:WE}{apos B:Pos}(ho:FE X o (zw j))(he:FE X e we)
  (Y:attributeBase o "extend" X.env (eval o X.env)=eval o X.env:=by rfl)
  (h5:((backTo B (starEach [e] X.env)).all (λx=>!x.1)&&(backToKw B (keywordEach [] X.env)).all (λx=>x.1.isSome)
   &&decide ([e].length+([]:List Keyword).length+(if([]:List Keyword).isEmpty then 0 else 1)<30))=true:=by rfl)
  (O:(apos.endLine==B.line)=true:=by rfl)(hs:starEach [e] X.env=[(false,eval e X.env)]:=by rfl):FE X (.Call (.Attribute o "extend" apos) [e] [] B) (kI j we):=λpn xe hp=>by
 show PE.imp (ER (X:=wp X pn xe) PySem.F.plainAttrs_list PySem.F.slot_list_extend PySem.F.type_list_extend Qe (ho pn xe hp) (Aa he Ab hs pn xe hp) Y h5 O hs rfl) λZ H Q q=>?_;let#[F,G,U,P,PX,h6,hw,h7,hx]:=q;unfold kI at hw;split at hw
 .rename_i l0 qs;show#[F,G,U,λy M=>y=.loc j/\M=U,PX,h6,by unfold zw;rw[qs];show#[rfl,rfl],λy M o' F1 H1 L s1 r1 rv=>?_,hx];let#[rfl,rfl]:=L;let l1:=Ah r1;let h3:Z[j]?=some (some o'):=rv;let r2:=r1.drop l1;let#[v',fp,e1,sr]:=r2.at qs;rw[h3]at e1;cases e1;cases sr with
  |@lst a xs _ fl hD rl=>
   show#[.inl #[rfl,_,bN.of hD],F1,G,M,λrs J=>match rs with|[r]=>zF (zR r J) λd=>lI j d (slot J j) J P|_=>False,PX,r2,hw,λrs J vs F2 H2 L s2 r3 hl h1=>?_,hx.grow s1];split at L
   .rename_i r;obtain⟨v,rfl⟩:∃v,vs=[v]:=by
     match vs,h1 with
     |[v],_=>show#[v,rfl]
     |[],rv=>show rv.elim
     |_::_::_,rv=>show rv.2.elim
    let#[d,ed,L]:=Ao L;unfold lI at L;split at L
    .rename_i ds l ql;let#[F3,s3,re,r4]:=AY (U':=[]) (Z':=[]) r3 hl h1.1 ed;let h2:Rel X.K J Z F3 G H2:=by simpa using r4
     let#[b,ys,rfl,sq,ry]:=bK.lst h2.fr re;let#[zs,h8,h4,r5]:=h2.extS ry ql h3;show#[a,b,zs,ys,rfl,rfl,h8,sq,by rw[h4,ry.len];show le_trans L.1 ⋯,h7 _ _ .non F3 _ L.2 (s1.trans (s2.trans s3)) (r5.push .non) trivial]
    .show L.elim
   .show L.elim
 .show hw.elim
end FL
namespace FL
mutual
def pN:D->D->Bool
 |.int _,.int _=>true
 |.tup l,.tup m=>fE l m
 |_,_=>false
def fE:List D->List D->Bool
 |a::l,b::m=>pN a b&&fE l m
 |_,_=>true
end
end FL
namespace FL
open PySem PySem.Spec PyProof.Rows L2
open PySem.SeqAt AutoSeq1
def az:cI (.int i) (.int j)=if i<j then .lt else if j<i then .gt else .eq:=rfl
mutual
def Se:∀(d:D),pN d d=true->cI d d=.eq
 |.int i,_=>by rw[az,q8 (Int.lt_irrefl i),q8 (Int.lt_irrefl i)]
 |.tup l,h=>Mo l h
 |.non,h|.bl _,h|.str _,h|.lst _,h|.dct ..,h|.set _,h|.exc ..,h=>by cases h
def Mo:∀(l:List D),fE l l=true->aV l l=.eq
 |[],_=>by rw[aV]
 |d::l,h=>by rw[fE,and_eq_true]at h;rw[aV,Se d h.1];show Mo l h.2
end
mutual
def Oj:∀(d e:D),pN d e=true->cI d e=.eq->d=e
 |.int i,e,h,c=>by
  cases e with
  |int j=>
   rw[az]at c;split at c
   .cases c
   .split at c
    .cases c
    .rw[show i=j by lia]
  |_=>cases h
 |.tup l,e,h,c=>by
  cases e with
  |tup m=>rw[Kn l m h c]
  |_=>cases h
 |.non,_,h,_|.bl _,_,h,_|.str _,_,h,_|.lst _,_,h,_|.dct ..,_,h,_|.set _,_,h,_|.exc ..,_,h,_=>by cases h
def Kn:∀(l m:List D),fE l m=true->aV l m=.eq->l=m
 |[],[],_,_=>rfl
 |[],_::_,_,c=>by rw[aV]at c;cases c
 |_::_,[],_,c=>by rw[aV]at c;cases c
 |d::l,e::m,h,c=>by
  rw[fE,and_eq_true]at h;rw[aV]at c;cases q:cI d e with
  |eq=>rw[q]at c;rw[Oj d e h.1 q,Kn l m h.2 c]
  |lt=>rw[q]at c;cases c
  |gt=>rw[q]at c;cases c
end
mutual
def Ul:∀(d e:D),pN d e=true->aR d e=false
 |.int i,e,h=>by cases e<;>first|rfl|cases h
 |.tup l,e,h=>by
  cases e with
  |tup m=>show MX l m h
  |_=>cases h
 |.non,_,h|.bl _,_,h|.str _,_,h|.lst _,_,h|.dct ..,_,h|.set _,_,h|.exc ..,_,h=>by cases h
def MX:∀(l m:List D),fE l m=true->bD l m=false
 |[],[],_=>rfl
 |[],_::_,_=>rfl
 |_::_,[],_=>rfl
 |d::l,e::m,h=>by rw[fE,and_eq_true]at h;show(aR d e||bD l m)=false;rw[Ul d e h.1,MX l m h.2];rfl
end
end FL
namespace FL
def e_C:wC d U Q E=Q (.v (.sh d)) U:=rfl
def kV(o:Option S)(Q:WQ)(U:Env):Prop:=zF o λs=>Q (.v s) U
def e_V:kV (some s) Q U=Q (.v s) U:=rfl
def nH(o:D->D->Option S)(x y:Option D)(Q:WQ)(U:Env):Prop:=zF x λp=>zF y λq=>kV (o p q) Q U
def kZ(o:D->D->Option S)(x:R)(Q:WQ):WQ:=λy B=>nH o (zR x B) (zR y B) Q B
def sF(o:D->D->Option S)(b:WE)(Q:WQ)(E:WX):WQ:=λx B=>b B (kZ o x Q) E
def zqC:zM o a b U Q E=a U (sF o b Q E) E:=rfl
def zmj:sF o b Q E x U=b U (kZ o x Q) E:=rfl
def zms:nH o (some p) (some q) Q U=kV (o p q) Q U:=rfl
def vV(o:D->Option S)(x:Option D)(Q:WQ)(U:Env):Prop:=zF x λp=>kV (o p) Q U
def mf(o:D->Option S)(Q:WQ):WQ:=λx U=>vV o (zR x U) Q U
def e_Un{o:D->Option S}:fm o a U Q E=a U (mf o Q) E:=rfl
def zpl{o:D->Option S}:mf o Q x U=vV o (zR x U) Q U:=rfl
def zpF{o:D->Option S}:vV o (some p) Q U=kV (o p) Q U:=rfl
def kC(o:Option Bool)(Q:Bool->Env->Prop)(U:Env):Prop:=zF o λc=>Q c U
def e_Ck{c:Bool}:kC (some c) QT U=QT c U:=rfl
def gI(o:D->D->Option Bool)(x y:Option D)(Q:Bool->Env->Prop)(U:Env):Prop:=zF x λp=>zF y λq=>kC (o p q) Q U
def fX(o:D->D->Option Bool)(x:R)(Q:Bool->Env->Prop):WQ:=λy B=>gI o (view x B) (view y B) Q B
def sD(o:D->D->Option Bool)(b:WE)(Q:Bool->Env->Prop)(E:WX):WQ:=λx B=>b B (fX o x Q) E
def zqs:aJ B a b U QT E=a U (sD B b QT E) E:=rfl
def zn8:sD B b QT E x U=b U (fX B x QT) E:=rfl
def zl0:gI B (some p) (some q) QT U=kC (B p q) QT U:=rfl
def jH(x:Option D)(Q:Bool->Env->Prop)(U:Env):Prop:=zF x λp=>kC (iL p) Q U
def sC(Q:Bool->Env->Prop):WQ:=λx U=>jH (view x U) Q U
def zmM:kG a U QT E=a U (sC QT) E:=rfl
def zkC:sC QT x U=jH (view x U) QT U:=rfl
def zkr:jH (some p) QT U=kC (iL p) QT U:=rfl
def xA(b:WT)(Q:Bool->Env->Prop)(E:WX):Bool->Env->Prop:=λc B=>if c then b B Q E else Q false B
def zq9:dG t u U QT E=t U (xA u QT E) E:=rfl
def zmS:xA u QT E true U=u U QT E:=rfl
def zmI:xA u QT E false U=QT false U:=rfl
def ka(b:WT)(Q:Bool->Env->Prop)(E:WX):Bool->Env->Prop:=λc B=>if c then Q true B else b B Q E
def e_Or:oB t u U QT E=t U (ka u QT E) E:=rfl
def zqy:ka u QT E true U=QT true U:=rfl
def zp3:ka u QT E false U=u U QT E:=rfl
def ag(Q:Bool->Env->Prop):Bool->Env->Prop:=λc B=>Q (!c) B
def zpc:lS t U QT E=t U (ag QT) E:=rfl
def znI{c:Bool}:ag QT c U=QT (!c) U:=rfl
def ae(Q:WQ):Bool->Env->Prop:=λc B=>Q (.v (.sh (.bl c))) B
def zp8:fP t U Q E=t U (ae Q) E:=rfl
def zng{c:Bool}:ae Q c U=Q (.v (.sh (.bl c))) U:=rfl
def wN(a b:WE)(Q:WQ)(E:WX):Bool->Env->Prop:=λk B=>if k then a B Q E else b B Q E
def zoL:oG t a b U Q E=t U (wN a b Q E) E:=rfl
def zl6:wN a b Q E true U=a U Q E:=rfl
def znS:wN a b Q E false U=b U Q E:=rfl
def zph:zy U QA E=QA [] U:=rfl
def jI(r:R)(Q:List R->Env->Prop):List R->Env->Prop:=λB U=>Q (r::B) U
def nG(b:WA)(Q:List R->Env->Prop)(E:WX):WQ:=λr B=>b B (jI r Q) E
def znR:zx a B U QA E=a U (nG B QA E) E:=rfl
def zk2:nG B QA E r U=B U (jI r QA) E:=rfl
def zk5:jI r QA rs U=QA (r::rs) U:=rfl
def ax(s:S):Option (List S×Env)->Option (List S×Env)
 |some (ss,U)=>some (s::ss,U)
 |none=>none
def kq(rs:List R):Option (S×Env)->Option (List S×Env)
 |some (s,U)=>ax s (aI rs U)
 |none=>none
def zqV:aI [] U=some ([],U):=rfl
theorem e_gA:aI (r::rs) U=kq rs (give r U):=by
 rw[aI];unfold kq;cases give r U with
 |none=>rfl
 |some z=>let#[s,B]:=z;show(match aI rs B with|some (ss,U2)=>some (s::ss,U2)|none=>none)=ax s (aI rs B);unfold ax;rfl
def zrx:kq rs (some (s,U))=ax s (aI rs U):=rfl
def zo9:ax s (some (ss,U))=some (s::ss,U):=rfl
def e_gv:give (.v s) U=some (s,U):=rfl
def kR(l:Bool)(x:Option (List S×Env))(Q:WQ):Prop:=zF (if l then x else none) λp=>Q (.v (.sh (.tup (p.1.map S.toD)))) p.2
def kY(l:Bool)(x:Option (List S×Env))(Q:WQ):Prop:=zF (if l then x else none) λp=>Q (.v (.lst p.1)) p.2
def dD(rs:List R):Bool:=decide (rs.length<=big)
def vW(Q:WQ):List R->Env->Prop:=λB U=>kR (dD B) (aI B U) Q
def wJ(Q:WQ):List R->Env->Prop:=λB U=>kY (dD B) (aI B U) Q
theorem zqE:aW B U Q E=B U (vW Q) E:=by unfold aW vW kR dD;simp
def zmm:vW Q rs U=kR (dD rs) (aI rs U) Q:=rfl
def zmU:kR true (some (ss,U)) Q=Q (.v (.sh (.tup (ss.map S.toD)))) U:=rfl
theorem zo1:cE B U Q E=B U (wJ Q) E:=by unfold cE wJ kY dD;simp
def znu:wJ Q rs U=kY (dD rs) (aI rs U) Q:=rfl
def znT:kY true (some (ss,U)) Q=Q (.v (.lst ss)) U:=rfl
def e_l0:dD []=true:=rfl
def e_l1:dD [B]=true:=rfl
def e_l2:dD [J,B]=true:=rfl
def e_l3:dD [L,J,B]=true:=rfl
def e_l4:dD [M,L,J,B]=true:=rfl
def e_l5:dD [O,M,L,J,B]=true:=rfl
def e_vv:view (.v s) U=some s.toD:=rfl
def e_vl:view (.loc i) U=(slot U i).map S.toD:=rfl
def e_cv:zR (.v s) U=some s.toD:=rfl
def vC:Option S->Option D
 |some s=>if s.flat then some s.toD else none
 |none=>none
theorem e_cl:zR (.loc i) U=vC (slot U i):=by unfold zR vC;rfl
theorem znL(h:l.all S.isSh=true):vC (some (.lst l))=some (.lst (l.map S.toD)):=by show(if l.all S.isSh=true then some (S.toD (.lst l))else none)=_;rw[q5 h,S.toD_lst]
theorem e_sh{l:List D}:(l.map S.sh).all S.isSh=true:=by simp[S.isSh]
theorem zan{l:List D}:(l.map S.sh).map S.toD=l:=by rw[qE];show map_id l
theorem zqD:vC (some (.lst (l.map S.sh)))=some (.lst l):=by rw[znL e_sh,zan]
def rA(o:Option S)(Q:WQ)(U:Env):Prop:=match o with|some (.sh d)=>Q (.v (.sh d)) U|_=>False
def rB(o:Option S)(q:D)(Q:WQ)(U:Env):Prop:=match o with|some s=>rA (iR s q) Q U|none=>False
def nB(x:R)(o:Option D)(Q:WQ)(U:Env):Prop:=zF o λq=>match x with|.v s=>kV (iR s q) Q U|.loc i=>rB (slot U i) q Q U
def rC(x:R)(Q:WQ):WQ:=λy B=>nB x (view y B) Q B
def wK(b:WE)(Q:WQ)(E:WX):WQ:=λx B=>b B (rC x Q) E
theorem e_Ix:bU a b U Q E=a U (wK b Q E) E:=by unfold bU wK rC nB rB rA kV;rfl
def zqM:wK b Q E x U=b U (rC x Q) E:=rfl
def zqj:rC x Q y U=nB x (view y U) Q U:=rfl
def zob:nB (.v s) (some q) Q U=kV (iR s q) Q U:=rfl
def zlH:nB (.loc i) (some q) Q U=rB (slot U i) q Q U:=rfl
def zo5:rB (some s) q Q U=rA (iR s q) Q U:=rfl
def zpj:rA (some (.sh d)) Q U=Q (.v (.sh d)) U:=rfl
def zpd:iR (.sh (.tup l)) (.int z)=(atI l z).map S.sh:=rfl
def zoG:iR (.sh (.lst l)) (.int z)=(atI l z).map S.sh:=rfl
def zqZ:iR (.sh (.str l)) (.int z)=(atI l z).map λc=>S.sh (.str [c]):=rfl
def zrj:iR (.lst l) (.int z)=atI l z:=rfl
def DZ(B:0<=z)(h:l[z.toNat]?=some v):atI l z=some v:=by let:z.toNat<l.length:=(qg.mp h).1;unfold atI ixN;rw[q5 B,q5 ∅];show h
theorem zqT:atI (v::l) 0=some v:=DZ ⋯ rfl
theorem zpG:atI (B::v::l) 1=some v:=DZ ⋯ rfl
theorem zpu:atI (J::B::v::l) 2=some v:=DZ ⋯ rfl
theorem zrr:atI (L::J::B::v::l) 3=some v:=DZ ⋯ rfl
theorem zpp:atI (M::L::J::B::v::l) 4=some v:=DZ ⋯ rfl
def pA(s:S):Option (List S×Env)->Option (List S×Env)
 |some (ss,U)=>some (s::ss,U)
 |none=>none
theorem e_p0:cQ ms [] U=some ([],U):=by cases ms<;>rfl
theorem e_pv:cQ (h::ms) (.v s::rs) U=pA s (cQ ms rs U):=by rw[cQ];unfold pA;rfl
def pL(i:Nat)(o:Option S)(ms:List Bool)(rs:List R)(U:Env):Option (List S×Env):=match o with
 |some s=>pA s (cQ ms rs (U.set i none))
 |none=>none
theorem e_pl:cQ (true::ms) (.loc i::rs) U=pL i (slot U i) ms rs U:=by rw[cQ];unfold pL pA;cases slot U i<;>rfl
def zre:pL i (some s) ms rs U=pA s (cQ ms rs (U.set i none)):=rfl
def e_pA:pA s (some (ss,U))=some (s::ss,U):=rfl
def e_b0:back ms [] ss U=U:=rfl
def e_bv{s t:S}:back (h::ms) (.v s::rs) (t::ss) U=back ms rs ss U:=rfl
def e_bl{t:S}:back (true::ms) (.loc i::rs) (t::ss) U=back ms rs ss (U.set i (some t)):=rfl
def nF(ms:List Bool)(rs:List R)(U:Env)(Q:WQ):S->List S->Prop:=λs B=>Q (.v s) (back ms rs B U)
def wY(ms:List Bool)(rs:List R)(U:Env)(E:WX):D->List S->Prop:=λx B=>E x (back ms rs B U)
def jJ(f:WF)(ms:List Bool)(rs:List R)(o:Option (List S×Env))(Q:WQ)(E:WX):Prop:=zF o λp=>f p.1 (nF ms rs p.2 Q) (wY ms rs p.2 E)
def sE(f:WF)(ms:List Bool)(Q:WQ)(E:WX):List R->Env->Prop:=λB U=>jJ f ms B (cQ ms B U) Q E
def zn9:zO f ms B U Q E=B U (sE f ms Q E) E:=rfl
def zlm:sE f ms Q E rs U=jJ f ms rs (cQ ms rs U) Q E:=rfl
def zkG:jJ f ms rs (some (ss,U)) Q E=f ss (nF ms rs U Q) (wY ms rs U E):=rfl
def zmp:nF ms rs U Q s ss=Q (.v s) (back ms rs ss U):=rfl
def vA:Option D->Option (List D)->Option (List D)
 |some d,some ds=>some (d::ds)
 |_,_=>none
def fQ(rs:List R)(U:Env):Option (List D):=match rs with
 |[]=>some []
 |r::rs=>vA (zR r U) (fQ rs U)
def Ii:∀rs:List R,(rs.mapM λr=>zR r U)=fQ rs U
 |[]=>rfl
 |r::rs=>by
  rw[List.mapM_cons,Ii rs,fQ];cases zR r U with
  |none=>rfl
  |some d=>cases fQ rs U<;>rfl
def zow:fQ [] U=some []:=rfl
def e_vA:fQ (r::rs) U=vA (zR r U) (fQ rs U):=rfl
def zqa:vA (some d) (some ds)=some (d::ds):=rfl
def wZ(f:List D->Option S)(o:Option (List D))(Q:WQ)(U:Env):Prop:=zF o λB=>kV (f B) Q U
def kB(f:List D->Option S)(Q:WQ):List R->Env->Prop:=λB U=>wZ f (fQ B U) Q U
theorem e_B:wB f B U Q E=B U (kB f Q) E:=by unfold wB kB wZ kV;simp only[Ii]
def e_B1:kB f Q rs U=wZ f (fQ rs U) Q U:=rfl
def e_B2:wZ f (some ds) Q U=kV (f ds) Q U:=rfl
def pY(f:List Nat->List D->Option S)(l:List Nat)(Q:WQ):List R->Env->Prop:=λB U=>wZ (f l) (fQ B U) Q U
def kb(f:List Nat->List D->Option S)(B:WA)(Q:WQ)(E:WX):WQ:=λx U=>match x with
 |.v (.sh (.str l))=>B U (pY f l Q) E
 |_=>False
theorem e_MS:xQ f a B U Q E=a U (kb f B Q E) E:=by unfold xQ kb pY wZ kV;simp only[Ii];all_goals rfl
def zqd:kb f B Q E (.v (.sh (.str l))) U=B U (pY f l Q) E:=rfl
def zq1:pY f l Q rs U=wZ (f l) (fQ rs U) Q U:=rfl
def rG(j:Nat)(s:S)(o:Option S)(U:Env)(Q:WQ):Prop:=match o with
 |some (.lst l)=>l.length<big/\Q (.v (.sh .non)) (U.set j (some (.lst (l++[s]))))
 |_=>False
def rH(j:Nat)(o:Option (S×Env))(Q:WQ):Prop:=zF o λp=>rG j p.1 (slot p.2 j) p.2 Q
def rJ(j:Nat)(Q:WQ):WQ:=λr U=>rH j (give r U) Q
def ke(j:Nat)(o:Option S)(a:WE)(U:Env)(Q:WQ)(E:WX):Prop:=match o with
 |some (.lst _)=>a U (rJ j Q) E
 |_=>False
theorem e_Ap:aQ j a U Q E=ke j (slot U j) a U Q E:=by unfold aQ ke rJ rH rG;rfl
def zpA:ke j (some (.lst l)) a U Q E=a U (rJ j Q) E:=rfl
def zql:rJ j Q r U=rH j (give r U) Q:=rfl
def zqo:rH j (some (s,U)) Q=rG j s (slot U j) U Q:=rfl
def zq7:rG j s (some (.lst l)) U Q=(l.length<big/\Q (.v (.sh .non)) (U.set j (some (.lst (l++[s]))))):=rfl
def kW(j:Nat)(o:Option D)(p:Option S)(U:Env)(Q:WQ):Prop:=match o,p with
 |some (.int i),some (.lst l)=>zF (if l.length<=big then ixN l.length i else none) λk=>zF l[k]? λs=>Q (.v s) (U.set j (some (.lst (l.eraseIdx k))))
 |_,_=>False
def kX(j:Nat)(Q:WQ):WQ:=λr U=>kW j (view r U) (slot U j) U Q
def wI(j:Nat)(o:Option S)(a:WE)(U:Env)(Q:WQ)(E:WX):Prop:=match o with
 |some (.lst _)=>a U (kX j Q) E
 |_=>False
theorem zpg:eX j a U Q E=wI j (slot U j) a U Q E:=by unfold eX wI kX kW;rfl
def znO:wI j (some (.lst l)) a U Q E=a U (kX j Q) E:=rfl
def zm0:kX j Q r U=kW j (view r U) (slot U j) U Q:=rfl
def HN(L:0<=z)(J:l.length<=big)(h:l[z.toNat]?=some s)(B:Q (.v s) (U.set j (some (.lst (l.eraseIdx z.toNat))))):kW j (some (.int z)) (some (.lst l)) U Q:=by
 let:z.toNat<l.length:=(qg.mp h).1;let e:(if l.length<=big then ixN l.length z else none)=some z.toNat:=by unfold ixN;rw[q5 J,q5 L,q5 ∅]
 show zF (if l.length<=big then ixN l.length z else none) _;rw[e,Ml,h];show B
def nC(T:String)(o:Option D)(Q:WQ)(U:Env):Prop:=zF o λd=>gG d=true/\Q (.v (.sh (.bl (jK T d)))) U
def ah(T:String)(Q:WQ):WQ:=λx U=>nC T (view x U) Q U
def zrw:sU T a U Q E=a U (ah T Q) E:=rfl
def zlI:ah T Q x U=nC T (view x U) Q U:=rfl
theorem zkP{z:Bool}:nC T (some (.bl z)) Q U=Q (.v (.sh (.bl (jK T (.bl z))))) U:=by show(_/\_)=_;simp[gG]
def pQ(j:Nat)(r:R)(o:Option S)(U:Env)(Q:WQ):Prop:=match r,o with
 |.v (.lst m),some (.lst l)=>l.length+m.length<=big/\Q (.v (.sh .non)) (U.set j (some (.lst (l++m))))
 |_,_=>False
def pR(j:Nat)(Q:WQ):WQ:=λr U=>pQ j r (slot U j) U Q
def jx(j:Nat)(o:Option S)(a:WE)(U:Env)(Q:WQ)(E:WX):Prop:=match o with
 |some (.lst _)=>a U (pR j Q) E
 |_=>False
theorem e_Xt:dA j a U Q E=jx j (slot U j) a U Q E:=by unfold dA jx pR pQ;rfl
def zpN:jx j (some (.lst l)) a U Q E=a U (pR j Q) E:=rfl
def zpK:pR j Q r U=pQ j r (slot U j) U Q:=rfl
def zoo{l m:List S}:pQ j (.v (.lst m)) (some (.lst l)) U Q=(l.length+m.length<=big/\Q (.v (.sh .non)) (U.set j (some (.lst (l++m))))):=rfl
def zlL{t:Bool}:kK t U Q E=Q (.v (.dct t [] [])) U:=rfl
def wH(o:Option D)(Q:Option Int->Env->Prop)(U:Env):Prop:=match o with|some (.int i)=>Q (some i) U|_=>False
def mn(Q:Option Int->Env->Prop):WQ:=λx U=>wH (view x U) Q U
def zoT{Q:Option Int->Env->Prop}:fB none U Q E=Q none U:=rfl
def e_Pt{Q:Option Int->Env->Prop}:fB (some a) U Q E=a U (mn Q) E:=rfl
def zry{Q:Option Int->Env->Prop}:mn Q x U=wH (view x U) Q U:=rfl
def zqk{Q:Option Int->Env->Prop}:wH (some (.int z)) Q U=Q (some z) U:=rfl
def vX(o:Option D)(l h:Option Int)(Q:WQ)(U:Env):Prop:=zF o λd=>kV (iX d l h) Q U
def vY(x:R)(l:Option Int)(Q:WQ):Option Int->Env->Prop:=λh U=>vX (zR x U) l h Q U
def vZ(x:R)(hi:Option WE)(Q:WQ)(E:WX):Option Int->Env->Prop:=λl U=>fB hi U (vY x l Q) E
def mi(lo hi:Option WE)(Q:WQ)(E:WX):WQ:=λx U=>fB lo U (vZ x hi Q E) E
def e_Sl:dY a lo hi U Q E=a U (mi lo hi Q E) E:=rfl
def zro:mi lo hi Q E x U=fB lo U (vZ x hi Q E) E:=rfl
def zqX:vZ x hi Q E l U=fB hi U (vY x l Q) E:=rfl
def zpq:vY x l Q h U=vX (zR x U) l h Q U:=rfl
def zq2:vX (some d) l h Q U=kV (iX d l h) Q U:=rfl
def yA(D:Ends)(k:Env->Prop):Ends:={D with nx:=k}
def e_nx:(yA D' K).nx=K:=rfl
def e_rt:(yA D' K).rt=D'.rt:=rfl
def e_ex:(yA D' K).ex=D'.ex:=rfl
def znp:aP D' U=D'.nx U:=rfl
def zoZ:zN v w D' U=v (yA D' (w D')) U:=rfl
def ai(a b:WS)(D:Ends):Bool->Env->Prop:=λk U=>if k then a D U else b D U
def e_If:dU t v w D' U=t U (ai v w D') D'.ex:=rfl
def zqm:ai v w D' true U=v D' U:=rfl
def zqH:ai v w D' false U=w D' U:=rfl
def zoJ:bE a D' U=a U D'.rt D'.ex:=rfl
def mx(D:Ends):WQ:=λ_ U=>D.nx U
def zmQ:wExpr a D' U=a U (mx D') D'.ex:=rfl
def zkV:mx D' r U=D'.nx U:=rfl
def nI(g:WG)(D:Ends)(o:Option (S×Env)):Prop:=zF o λp=>g p.1 p.2 D.nx
def aq(g:WG)(D:Ends):WQ:=λr U=>nI g D (give r U)
def zp5:zP g a D' U=a U (aq g D') D'.ex:=rfl
def zmt:aq g D' r U=nI g D' (give r U):=rfl
def zmY:nI g D' (some (s,U))=g s U D'.nx:=rfl
def mX(i j:Nat)(D:Ends)(s:S)(o:Option (S×Env)):Prop:=zF o λq=>D.nx ((q.2.set i (some s)).set j (some q.1))
def mY(i j:Nat)(D:Ends)(t:R)(o:Option (S×Env)):Prop:=zF o λp=>mX i j D p.1 (give t p.2)
def aa(i j:Nat)(D:Ends):List R->Env->Prop:=λB U=>match B with
 |[r,t]=>mY i j D t (give r U)
 |_=>False
theorem zp2:lH i j B D' U=B U (aa i j D') D'.ex:=by unfold lH;congr 1
def zno:aa i j D' [r,x] U=mY i j D' x (give r U):=rfl
def znb:mY i j D' x (some (s,U))=mX i j D' s (give x U):=rfl
def zmd:mX i j D' s (some (s',U))=D'.nx ((U.set i (some s)).set j (some s')):=rfl
def e_gN:zz i s U K=K (U.set i (some s)):=rfl
def mv(B:List WG)(d:D)(U:Env)(Q:Env->Prop):Prop:=match d with|.tup ds=>ds.length=B.length/\eA B ds U Q|_=>False
def e_gT:bT B s U K=mv B s.toD U K:=rfl
def zoB:mv B (.tup ds) U K=(ds.length=B.length/\eA B ds U K):=rfl
def ak(B:List WG)(ds:List D)(Q:Env->Prop):Env->Prop:=λU=>eA B ds U Q
def zpY:eA [] [] U K=K U:=rfl
def zpk:eA (g::B) (d::ds) U K=g (.sh d) U (ak B ds K):=rfl
def zo2:ak B ds K U=eA B ds U K:=rfl
def gH(j:Nat)(D:Ends)(x:R)(q:FL.D)(s:S)(o:Option S)(U:Env):Prop:=match x,q,o with
 |.loc k,.int n,some (.lst l)=>k=j/\zF (ixN l.length n) λm=>D.nx (U.set j (some (.lst (l.set m s))))
 |_,_,_=>False
def kS(j:Nat)(D:Ends)(x:R)(o:Option FL.D)(p:Option (S×Env)):Prop:=zF o λq=>zF p λp=>gH j D x q p.1 (slot p.2 j) p.2
def kT(j:Nat)(D:Ends)(r x:R):WQ:=λy U=>kS j D x (view y U) (give r U)
def kU(j:Nat)(i:WE)(D:Ends)(r:R):WQ:=λx U=>i U (kT j D r x) D.ex
def mW(j:Nat)(i:WE)(D:Ends):WQ:=λr U=>zw j U (kU j i D r) D.ex
theorem zrf:fO j a b D' U=b U (mW j a D') D'.ex:=by unfold fO mW kU kT kS gH;rfl
def znW:mW j a D' r U=zw j U (kU j a D' r) D'.ex:=rfl
def zlN:kU j a D' r x U=a U (kT j D' r x) D'.ex:=rfl
def znn:kT j D' r x y U=kS j D' x (view y U) (give r U):=rfl
def zmJ:kS j D' x (some q) (some (s,U))=gH j D' x q s (slot U j) U:=rfl
def Kf(B:0<=z)(h1:z<l.length):gH j D' (.loc j) (.int z) s (some (.lst l)) U=D'.nx (U.set j (some (.lst (l.set z.toNat s)))):=by show(j=j/\zF (ixN l.length z) _)=_;unfold ixN;rw[q5 B,q5 h1,Ml];simp
theorem zlC:gH j D' (.loc j) (.int 0) s (some (.lst [s0,B])) U=D'.nx (U.set j (some (.lst [s,B]))):=Kf ⋯ (by show(0:Int)<2;decide)
theorem zlr:gH j D' (.loc j) (.int 1) s (some (.lst [s0,B])) U=D'.nx (U.set j (some (.lst [s0,s]))):=Kf ⋯ (by show(1:Int)<2;decide)
def wL(o:Option (List D))(U:Env)(Q:List D->Env->Prop):Prop:=zF o λl=>Q l U
def wM(o:Option (S×Env))(Q:List D->Env->Prop):Prop:=zF o λp=>wL (items p.1.toD) p.2 Q
def mu(Q:List D->Env->Prop):WQ:=λr U=>wM (give r U) Q
def e_It:bJ a U QI E=a U (mu QI) E:=rfl
def zrt:mu QI r U=wM (give r U) QI:=rfl
def zpQ:wM (some (s,U)) QI=wL (items s.toD) U QI:=rfl
def zoC:wL (some l) U QI=QI l U:=rfl
def zov:items (.lst l)=some l:=rfl
def zqw:items (.tup l)=some l:=rfl
def zp6:items (.str l)=some (l.map λc=>.str [c]):=rfl
def wW(o:Option (List D))(U:Env)(Q:List D->Env->Prop):Prop:=zF o λl=>Q (cN 0 l) U
def wX(o:Option (S×Env))(Q:List D->Env->Prop):Prop:=zF o λp=>wW (items p.1.toD) p.2 Q
def my(Q:List D->Env->Prop):WQ:=λr U=>wX (give r U) Q
def e_En:kJ a U QI E=a U (my QI) E:=rfl
def zqK:my QI r U=wX (give r U) QI:=rfl
def zox:wX (some (s,U)) QI=wW (items s.toD) U QI:=rfl
def zoM:wW (some l) U QI=QI (cN 0 l) U:=rfl
def vP(o p:Option (List D))(U:Env)(Q:List D->Env->Prop):Prop:=zF o λl=>zF p λm=>Q (dF l m) U
def vQ(s:S)(o:Option (S×Env))(Q:List D->Env->Prop):Prop:=zF o λq=>vP (items s.toD) (items q.1.toD) q.2 Q
def vR(t:R)(o:Option (S×Env))(Q:List D->Env->Prop):Prop:=zF o λp=>vQ p.1 (give t p.2) Q
def vS(r:R)(Q:List D->Env->Prop):WQ:=λt U=>vR t (give r U) Q
def md(b:WE)(Q:List D->Env->Prop)(E:WX):WQ:=λr U=>b U (vS r Q) E
def e_Zi:sT a b U QI E=a U (md b QI E) E:=rfl
def zoK:md b QI E r U=b U (vS r QI) E:=rfl
def zoI:vS r QI x U=vR x (give r U) QI:=rfl
def zpv:vR x (some (s,U)) QI=vQ s (give x U) QI:=rfl
def zqY:vQ s' (some (s,U)) QI=vP (items s'.toD) (items s.toD) U QI:=rfl
def zrs{l m:List D}:vP (some l) (some m) U QI=QI (dF l m) U:=rfl
def wG(o:Option D)(Q:List D->Env->Prop)(U:Env):Prop:=match o with|some (.int j)=>(-big<=j/\j<=big)/\Q (fromTo 0 j.toNat) U|_=>False
def ml(Q:List D->Env->Prop):WQ:=λr U=>wG (view r U) Q U
def e_R1:bB a U QI E=a U (ml QI) E:=rfl
def zqB:ml QI r U=wG (view r U) QI U:=rfl
def zp9:wG (some (.int z)) QI U=((-big<=z/\z<=big)/\QI (fromTo 0 z.toNat) U):=rfl
def wD(o p:Option D)(Q:List D->Env->Prop)(U:Env):Prop:=match o,p with|some (.int i),some (.int j)=>(-big<=i/\i<=big/\-big<=j/\j<=big)/\Q (fromTo i (j-i).toNat) U|_,_=>False
def wF(r:R)(Q:List D->Env->Prop):WQ:=λt U=>wD (view r U) (view t U) Q U
def mj(b:WE)(Q:List D->Env->Prop)(E:WX):WQ:=λr U=>b U (wF r Q) E
def e_R2:gZ a b U QI E=a U (mj b QI E) E:=rfl
def zqn:mj b QI E r U=b U (wF r QI) E:=rfl
def zpS:wF r QI x U=wD (view r U) (view x U) QI U:=rfl
def zqt:wD (some (.int z)) (some (.int B)) QI U=((-big<=z/\z<=big/\-big<=B/\B<=big)/\QI (fromTo z (B-z).toNat) U):=rfl
def kFor(g:WG)(b:WS)(D:Ends):List FL.D->Env->Prop:=λl U=>cL g b l D U
def zq0:cT it g v D' U=it U (kFor g v D') D'.ex:=rfl
def zlU:kFor g v D' l U=cL g v l D' U:=rfl
def yZ(g:WG)(b:WS)(xs:List FL.D)(D:Ends):Ends:={D with nx:=cL g b xs D,ct:=cL g b xs D,bk:=D.nx}
def mq(g:WG)(b:WS)(xs:List FL.D)(D:Ends):Env->Prop:=λU=>b (yZ g b xs D) U
def ku:cL g v (d::xs) D' U=g (.sh d) U (mq g v xs D'):=rfl
def zqu:mq g v xs D' U=v (yZ g v xs D') U:=rfl
def zqJ:(yZ g v xs D').nx=cL g v xs D':=rfl
def zoN:(yZ g v xs D').ex=D'.ex:=rfl
def mZ(n:Nat)(o:Option S)(U:Env)(Q:WQ):Prop:=zF o λs=>Q (.v s) (U.take n)
def nA(n:Nat)(Q:WQ):Env->Prop:=λU=>mZ n (slot U n) U Q
def pZ(n:Nat)(E:WX):WX:=NX
def mr(n k:Nat)(g:WG)(c:WT)(b:WB)(Q:WQ)(E:WX):List D->Env->Prop:=λl U=>aL g c b l (U++some (.lst [])::List.replicate k none) (nA n Q) (pZ n E)
def e_LC:jB n m it g c B U Q E=it U (mr n m g c B Q E) E:=rfl
def zqq:mr n m g c B Q E l U=aL g c B l (U++some (.lst [])::List.replicate m none) (nA n Q) (pZ n E):=rfl
def zpP:nA n Q U=mZ n (slot U n) U Q:=rfl
def zmc:mZ n (some s) U Q=Q (.v s) (U.take n):=rfl
def pP(g:WG)(c:WT)(b:WB)(xs:List D)(Q:Env->Prop)(E:WX):Env->Prop:=λU=>aL g c b xs U Q E
def vO(g:WG)(c:WT)(b:WB)(xs:List D)(Q:Env->Prop)(E:WX):Bool->Env->Prop:=λk U=>if k then b U (pP g c b xs Q E) E else aL g c b xs U Q E
def lz(g:WG)(c:WT)(b:WB)(xs:List D)(Q:Env->Prop)(E:WX):Env->Prop:=λU=>c U (vO g c b xs Q E) E
def zqv:aL g c B [] U QE E=QE U:=rfl
def ay:aL g c B (d::xs) U QE E=g (.sh d) U (lz g c B xs QE E):=rfl
def zpi:lz g c B xs QE E U=c U (vO g c B xs QE E) E:=rfl
def zlM:vO g c B xs QE E true U=B U (pP g c B xs QE E) E:=rfl
def zpU:pP g c B xs QE E U=aL g c B xs U QE E:=rfl
def rE(n:Nat)(s:S)(o:Option S)(U:Env)(Q:Env->Prop):Prop:=match o with
 |some (.lst l)=>l.length<big/\Q (U.set n (some (.lst (l++[s]))))
 |_=>False
def rF(n:Nat)(o:Option (S×Env))(Q:Env->Prop):Prop:=zF o λp=>rE n p.1 (slot p.2 n) p.2 Q
def kc(n:Nat)(Q:Env->Prop):WQ:=λr U=>rF n (give r U) Q
theorem e_Em:bV n a U QE E=a U (kc n QE) E:=by unfold bV kc rF rE;rfl
def zoS:kc n QE r U=rF n (give r U) QE:=rfl
def zp1:rF n (some (s,U)) QE=rE n s (slot U n) U QE:=rfl
def zqA:rE n s (some (.lst l)) U QE=(l.length<big/\QE (U.set n (some (.lst (l++[s]))))):=rfl
def ma(g:WG)(c:WT)(b:WB)(Q:Env->Prop)(E:WX):List D->Env->Prop:=λl U=>aL g c b l U Q E
def e_bF:lM it g c B U QE E=it U (ma g c B QE E) E:=rfl
def zrq:ma g c B QE E l U=aL g c B l U QE E:=rfl
def zoq:dE U QT E=QT true U:=rfl
def wV(o:Option (List S))(P:S->List S->Prop)(s:S):Prop:=zF o λfs=>P s fs
def wA(n:Nat)(ss:List S)(P:S->List S->Prop)(i:Nat)(o:Option S)(U:Env):Prop:=zF o λs=>if i<n then wV (aC ss (U.set i (some (.sh s.toD)))) P (.sh s.toD)else wV (aC ss U) P s
def dq(n:Nat)(ss:List S)(P:S->List S->Prop):WQ:=λr U=>match r with
 |.v s=>wV (aC ss U) P s
 |.loc i=>wA n ss P i (slot U i) U
def dr(n:Nat)(ss:List S)(P:S->List S->Prop)(PX:D->List S->Prop):Ends where
 nx:=λU=>wV (aC ss U) P (.sh .non)
 rt:=dq n ss P
 bk:=λ_=>False
 ct:=λ_=>False
 ex:=λx U=>zF (aC ss U) λfs=>PX x fs
def Ba(B:ss.length=n)(J:((List.range ss.length).all λi=>decide (i∈ks))=true)(h:v (dr n ss P PX) (ss.map some++List.replicate (m-n) none)):eW n m ks v ss P PX:=by show#[B,λi s hi=>?_,h];let:=(qg.mp hi).1;show .inl (by simpa using qI.mp J i ↑this)
def zqg:(dr n ss P PX).rt=dq n ss P:=rfl
def e_Rt:dq n ss P (.v s) U=wV (aC ss U) P s:=rfl
def zoR:dq n ss P (.loc i) U=wA n ss P i (slot U i) U:=rfl
theorem zps(h:¬i<n):wA n ss P i (some s) U=wV (aC ss U) P s:=by show(if i<n then _ else _)=_;rw[q8 h]
def e_Fn:wV (some fs) P s=P s fs:=rfl
def fA(s:S):Option (List S)->Option (List S)
 |some fs=>some (s::fs)
 |none=>none
theorem e_f0:aC [] U=some []:=by cases U<;>rfl
theorem e_fs:aC (.sh d::ss) (o::U)=fA (.sh d) (aC ss U):=by show(aC ss U).map _=_;cases aC ss U<;>rfl
theorem e_fl:aC (.lst l::ss) (some s::U)=fA s (aC ss U):=by show(aC ss U).map _=_;cases aC ss U<;>rfl
def e_fA:fA s (some fs)=some (s::fs):=rfl
def zpC:aN (.int i) (.int j)=some (.sh (.int (i+j))):=rfl
theorem znh(h:x.length+y.length<=big):aN (.str x) (.str y)=some (.sh (.str (x++y))):=q5 h
theorem znK(h:l.length+m.length<=big):aN (.lst l) (.lst m)=some (.lst ((l++m).map .sh)):=q5 h
theorem znw(h:l.length+m.length<=big):aN (.tup l) (.tup m)=some (.sh (.tup (l++m))):=q5 h
def zpO:fU (.int i) (.int j)=some (.sh (.int (i-j))):=rfl
theorem zmf(h:-(2^64)<i/\i<2^64):mV (.int i) (.int j)=some (.sh (.int (i*j))):=by show(if kQ i j=true then _ else none)=_;rw[q5 (by simp only[kQ,h.1,h.2,decide_true,Bool.and_self,Bool.true_or])]
theorem zoE(h:0<j):fH (.int i) (.int j)=some (.sh (.int (i %j))):=q5 h
theorem zmn(h:0<j)(h2:j<18446744073709551616):gF (.int i) (.int j)=some (.sh (.int (i/j))):=q5 #[h,h2]
theorem zpx(h:0<=j/\j<=1000/\i.natAbs<2^64):mU (.int i) (.int j)=some (.sh (.int (i^j.toNat))):=q5 h
def zop:pM (.int i)=some (.sh (.int (-i))):=rfl
def e_lt:rO (.int i) (.int j)=some (decide (i<j)):=rfl
def e_gt:lB (.int i) (.int j)=some (decide (j<i)):=rfl
def e_le:du (.int i) (.int j)=some (decide (i<=j)):=rfl
def e_ge:xU (.int i) (.int j)=some (decide (j<=i)):=rfl
theorem zn6:eI (.int i) (.int j)=some (decide (i=j)):=by unfold eI;rw[q8 (by show λz=>Bool.noConfusion (show false=true from z))];simp
theorem zon:cY (.int i) (.int j)=some (!decide (i=j)):=by unfold cY;rw[zn6];rfl
theorem znq:eI (.str x) (.str y)=some (decide (x=y)):=by unfold eI;rw[q8 (by show λz=>Bool.noConfusion (show false=true from z))];simp
theorem zrp:cY (.str x) (.str y)=some (!decide (x=y)):=by unfold cY;rw[znq];rfl
theorem zl2:eI (.bl b) (.bl c)=some (decide (b=c)):=by unfold eI;rw[q8 (by show λz=>Bool.noConfusion (show false=true from z))];simp
theorem zpZ:cY (.bl b) (.bl c)=some (!decide (b=c)):=by unfold cY;rw[zl2];rfl
def zru:iL (.bl b)=some b:=rfl
def zlK:aY [.str x]=some (.sh (.int x.length)):=rfl
def znz:aY [.tup l]=some (.sh (.int l.length)):=rfl
def zl3:aY [.lst l]=some (.sh (.int l.length)):=rfl
def zlF:jM [.bl b]=some (.sh (.int (if b then 1 else 0))):=rfl
def zma:cJ [.lst l]=some (.sh (.tup l)):=rfl
def zl1:eJ [.tup l]=some (.lst (l.map .sh)):=rfl
theorem zn5(h:x.length<=big):eJ [.str x]=some (.lst (x.map λc=>.sh (.str [c]))):=q5 h
def zpM:nN [.int i,.int j]=some (.sh (.int (if j>i then j else i))):=rfl
def zoy:lL [.int i,.int j]=some (.sh (.int (if j<i then j else i))):=rfl
def zqb:iX (.str x) a b=some (.sh (.str (aU x a b))):=rfl
def zpw:iX (.tup l) a b=some (.sh (.tup (aU l a b))):=rfl
def zrg:iX (.lst l) a b=some (.lst ((aU l a b).map .sh)):=rfl
def zpE:zw 0 (some (.sh d)::U) Q E=Q (.v (.sh d)) (some (.sh d)::U):=rfl
def zqi:zw 0 (some (.lst l)::U) Q E=Q (.loc 0) (some (.lst l)::U):=rfl
def zp4:slot (v::U) 0=v:=rfl
def zoV:List.set (u::U) 0 v=v::U:=rfl
def zqO:zw 1 (s0::some (.sh d)::U) Q E=Q (.v (.sh d)) (s0::some (.sh d)::U):=rfl
def zos:zw 1 (s0::some (.lst l)::U) Q E=Q (.loc 1) (s0::some (.lst l)::U):=rfl
def zqF:slot (s0::v::U) 1=v:=rfl
def zpy:List.set (s0::u::U) 1 v=s0::v::U:=rfl
def zqx:zw 2 (s0::B::some (.sh d)::U) Q E=Q (.v (.sh d)) (s0::B::some (.sh d)::U):=rfl
def zpe:zw 2 (s0::B::some (.lst l)::U) Q E=Q (.loc 2) (s0::B::some (.lst l)::U):=rfl
def zpJ:slot (s0::B::v::U) 2=v:=rfl
def zqQ:List.set (s0::B::u::U) 2 v=s0::B::v::U:=rfl
def zo4:zw 3 (s0::J::B::some (.sh d)::U) Q E=Q (.v (.sh d)) (s0::J::B::some (.sh d)::U):=rfl
def zrc:zw 3 (s0::J::B::some (.lst l)::U) Q E=Q (.loc 3) (s0::J::B::some (.lst l)::U):=rfl
def zrn:slot (s0::J::B::v::U) 3=v:=rfl
def zqP:List.set (s0::J::B::u::U) 3 v=s0::J::B::v::U:=rfl
def zo7:zw 4 (s0::L::J::B::some (.sh d)::U) Q E=Q (.v (.sh d)) (s0::L::J::B::some (.sh d)::U):=rfl
def zoU:zw 4 (s0::L::J::B::some (.lst l)::U) Q E=Q (.loc 4) (s0::L::J::B::some (.lst l)::U):=rfl
def zqR:slot (s0::L::J::B::v::U) 4=v:=rfl
def zpT:List.set (s0::L::J::B::u::U) 4 v=s0::L::J::B::v::U:=rfl
def zpz:zw 5 (s0::M::L::J::B::some (.sh d)::U) Q E=Q (.v (.sh d)) (s0::M::L::J::B::some (.sh d)::U):=rfl
def zqc:slot (s0::M::L::J::B::v::U) 5=v:=rfl
def zri:List.set (s0::M::L::J::B::u::U) 5 v=s0::M::L::J::B::v::U:=rfl
def zqL:zw 6 (s0::O::M::L::J::B::some (.sh d)::U) Q E=Q (.v (.sh d)) (s0::O::M::L::J::B::some (.sh d)::U):=rfl
def zrh:zw 6 (s0::O::M::L::J::B::some (.lst l)::U) Q E=Q (.loc 6) (s0::O::M::L::J::B::some (.lst l)::U):=rfl
def zot:slot (s0::O::M::L::J::B::v::U) 6=v:=rfl
def zqh:List.set (s0::O::M::L::J::B::u::U) 6 v=s0::O::M::L::J::B::v::U:=rfl
def zom:zw 7 (s0::Y::O::M::L::J::B::some (.sh d)::U) Q E=Q (.v (.sh d)) (s0::Y::O::M::L::J::B::some (.sh d)::U):=rfl
def zpX:zw 7 (s0::Y::O::M::L::J::B::some (.lst l)::U) Q E=Q (.loc 7) (s0::Y::O::M::L::J::B::some (.lst l)::U):=rfl
def zor:slot (s0::Y::O::M::L::J::B::v::U) 7=v:=rfl
def zra:List.set (s0::Y::O::M::L::J::B::u::U) 7 v=s0::Y::O::M::L::J::B::v::U:=rfl
def zq6:zw 8 (s0::s1::Y::O::M::L::J::B::some (.sh d)::U) Q E=Q (.v (.sh d)) (s0::s1::Y::O::M::L::J::B::some (.sh d)::U):=rfl
def zou:zw 8 (s0::s1::Y::O::M::L::J::B::some (.lst l)::U) Q E=Q (.loc 8) (s0::s1::Y::O::M::L::J::B::some (.lst l)::U):=rfl
def zoX:slot (s0::s1::Y::O::M::L::J::B::v::U) 8=v:=rfl
def zqf:List.set (s0::s1::Y::O::M::L::J::B::u::U) 8 v=s0::s1::Y::O::M::L::J::B::v::U:=rfl
def zrl:zw 9 (s0::s1::s2::Y::O::M::L::J::B::some (.sh d)::U) Q E=Q (.v (.sh d)) (s0::s1::s2::Y::O::M::L::J::B::some (.sh d)::U):=rfl
def zpr:slot (s0::s1::s2::Y::O::M::L::J::B::v::U) 9=v:=rfl
def zpa:List.set (s0::s1::s2::Y::O::M::L::J::B::u::U) 9 v=s0::s1::s2::Y::O::M::L::J::B::v::U:=rfl
def zlY:zw 10 (s0::s1::s2::s3::Y::O::M::L::J::B::some (.sh d)::U) Q E=Q (.v (.sh d)) (s0::s1::s2::s3::Y::O::M::L::J::B::some (.sh d)::U):=rfl
def zmh:List.set (s0::s1::s2::s3::Y::O::M::L::J::B::u::U) 10 v=s0::s1::s2::s3::Y::O::M::L::J::B::v::U:=rfl
def zni:zw 11 (s0::s1::s2::s3::s4::Y::O::M::L::J::B::some (.sh d)::U) Q E=Q (.v (.sh d)) (s0::s1::s2::s3::s4::Y::O::M::L::J::B::some (.sh d)::U):=rfl
def zlV:slot (s0::s1::s2::s3::s4::Y::O::M::L::J::B::v::U) 11=v:=rfl
def zn2:List.set (s0::s1::s2::s3::s4::Y::O::M::L::J::B::u::U) 11 v=s0::s1::s2::s3::s4::Y::O::M::L::J::B::v::U:=rfl
def zmy:zw 12 (s0::s1::s2::s3::s4::s5::Y::O::M::L::J::B::some (.sh d)::U) Q E=Q (.v (.sh d)) (s0::s1::s2::s3::s4::s5::Y::O::M::L::J::B::some (.sh d)::U):=rfl
def zmA:List.set (s0::s1::s2::s3::s4::s5::Y::O::M::L::J::B::u::U) 12 v=s0::s1::s2::s3::s4::s5::Y::O::M::L::J::B::v::U:=rfl
def zoa:zw 13 (s0::s1::s2::s3::s4::s5::s6::Y::O::M::L::J::B::some (.sh d)::U) Q E=Q (.v (.sh d)) (s0::s1::s2::s3::s4::s5::s6::Y::O::M::L::J::B::some (.sh d)::U):=rfl
def zmF:List.set (s0::s1::s2::s3::s4::s5::s6::Y::O::M::L::J::B::u::U) 13 v=s0::s1::s2::s3::s4::s5::s6::Y::O::M::L::J::B::v::U:=rfl
def zmo:kZ o (.v (.sh p)) Q (.v (.sh q)) U=kV (o p q) Q U:=rfl
def zn4:fX B (.v (.sh p)) QT (.v (.sh q)) U=kC (B p q) QT U:=rfl
def zlZ:fX B (.v (.sh p)) QT (.v (.lst m)) U=gI B (some p) (some (S.lst m).toD) QT U:=rfl
def znv:fX B (.v (.sh p)) QT (.loc k) U=gI B (some p) (view (.loc k) U) QT U:=rfl
def zmR:kZ o (.v (.lst l)) Q (.v (.lst m)) U=nH o (some (S.lst l).toD) (some (S.lst m).toD) Q U:=rfl
def zme:fX B (.v (.lst l)) QT (.v (.lst m)) U=gI B (some (S.lst l).toD) (some (S.lst m).toD) QT U:=rfl
def znQ:fX B (.loc j) QT (.v (.lst m)) U=gI B (view (.loc j) U) (some (S.lst m).toD) QT U:=rfl
def zp7:lK d (.lst l)=bc d (.lst l):=rfl
def znM:eU p q=(lK p q).map (!·):=rfl
def wU(Q:WQ)(o:Option (S×Env)):Prop:=zF o λp=>Q (.v (.sh p.1.toD)) p.2
def mw(Q:WQ):WQ:=λr U=>wU Q (give r U)
def zpV:cF a U Q E=a U (mw Q) E:=rfl
def zn0:mw Q r U=wU Q (give r U):=rfl
def zmw:wU Q (some (s,U))=Q (.v (.sh s.toD)) U:=rfl
def nE(i:Nat)(D:Ends)(o:Option S)(U:Env):Prop:=zF o λs=>D.nx (U.set i (some (.sh s.toD)))
def ao(i:Nat)(D:Ends):Env->Prop:=λU=>nE i D (slot U i) U
def zrm:xR i v D' U=v (yA D' (ao i D')) U:=rfl
def znr:ao i D' U=nE i D' (slot U i) U:=rfl
def znl:nE i D' (some s) U=D'.nx (U.set i (some (.sh s.toD))):=rfl
def rD(o:Option (Option D))(z:R)(U:Env)(Q:WQ):Prop:=zF o λo=>match o with
 |some e=>Q (.v (.sh e)) U
 |none=>Q z U
def wO(o p:Option D)(z:R)(U:Env)(Q:WQ):Prop:=zF o λB=>zF p λq=>rD (xT B q) z U Q
def wQ(x y:R)(Q:WQ):WQ:=λz U=>wO (zR x U) (view y U) z U Q
def wR(x:R)(d:WE)(Q:WQ)(E:WX):WQ:=λy U=>d U (wQ x y Q) E
def rM(o:Option D):Prop:=zF o λB=>xC B=true
def aj(k d:WE)(Q:WQ)(E:WX):WQ:=λx U=>rM (zR x U)/\k U (wR x d Q E) E
def e_Ge:kH a b c U Q E=a U (aj b c Q E) E:=rfl
def zoA:aj b c Q E x U=(rM (zR x U)/\b U (wR x c Q E) E):=rfl
theorem zqI:rM (some (.dct t ks vs))=True:=by simp[rM,xC]
def zpW:wR x c Q E y U=c U (wQ x y Q) E:=rfl
def zpH:wQ x y Q z U=wO (zR x U) (view y U) z U Q:=rfl
def zo3:wO (some p) (some q) z U Q=rD (xT p q) z U Q:=rfl
def zml:rD (some (some d)) z U Q=Q (.v (.sh d)) U:=rfl
def zmK:rD (some none) z U Q=Q z U:=rfl
def zlT{z:Int}:xT (.dct true ks vs) (.tup [.int z,.str u])=some (lk ks vs (.tup [.int z,.str u])):=rfl
def mh(Q:WQ):List D->Env->Prop:=λl U=>l.length<=big/\Q (.v (.sh (.tup l))) U
def e_TI:mL it U Q E=it U (mh Q) E:=rfl
def zp0:mh Q l U=(l.length<=big/\Q (.v (.sh (.tup l))) U):=rfl
def zn7{z B:Int}:bQ (.int z) (.int B)=mV (.int z) (.int B):=rfl
theorem uB{w v:WB}(h:w=v)(U:Env)(Q:Env->Prop)(E:WX):w U Q E=v U Q E:=by rw[h]
theorem uS{w v:WS}(h:w=v)(D':Ends)(U:Env):w D' U=v D' U:=by rw[h]
def mz(s0:S)(n k:Nat)(g:WG)(c:WT)(b:WB)(Q:WQ)(E:WX):List D->Env->Prop:=λl U=>aL g c b l (U++some s0::List.replicate k none) (nA n Q) (pZ n E)
def e_CM:fo s0 n m it g c B U Q E=it U (mz s0 n m g c B Q E) E:=rfl
def zpf:mz s0 n m g c B Q E l U=aL g c B l (U++some s0::List.replicate m none) (nA n Q) (pZ n E):=rfl
section
variable{U:Env}{Q:WQ}{QE:Env->Prop}{E:WX}{a b:WE}{x y r:R}{s:S}{q d:D}{n m j:Nat}{l:List D}
def rK(n:Nat)(s:S)(o:Option S)(U:Env)(Q:Env->Prop):Prop:=match o with
 |some (.set l)=>bO (s.toD::l)=true/\l.length<=150/\Q (U.set n (some (.set (cS l s.toD))))
 |_=>False
def rL(n:Nat)(p:Option (S×Env))(Q:Env->Prop):Prop:=zF p λp=>rK n p.1 (slot p.2 n) p.2 Q
def kg(n:Nat)(Q:Env->Prop):WQ:=λr U=>rL n (give r U) Q
theorem e_Ad:nO n a U QE E=a U (kg n QE) E:=by unfold nO kg rL rK;rfl
def zpm:kg n QE r U=rL n (give r U) QE:=rfl
def zpR:rL n (some (s,U)) QE=rK n s (slot U n) U QE:=rfl
def zpb:rK n s (some (.set l)) U QE=(bO (s.toD::l)=true/\l.length<=150/\QE (U.set n (some (.set (cS l s.toD))))):=rfl
def zof:(S.set l).toD=.set l:=rfl
def zm7:iT [.set l]=some (.sh (.int l.length)):=rfl
def zlX:cK [.lst l]=cM l:=rfl
def zm8:cK [.set l]=cM l:=rfl
def zqS:gD [.lst l]=newS l:=rfl
def EX(h:bO l=true/\l.length<=150):newS l=some (.set (aH l)):=q5 h
def pS(j:Nat)(t:Bool)(z:List D×List S×Nat)(B:List S)(Q:WQ)(o:Option (S×Env)):Prop:=zF o λp=>B.length<big/\Q (.v (.sh .non)) (p.2.set j (some (.dct t z.1 (z.2.1.set z.2.2 (.lst (B++[p.1]))))))
def pU(j:Nat)(t:Bool)(z:List D×List S×Nat)(B:List S)(Q:WQ):WQ:=λr U=>pS j t z B Q (give r U)
def pV(j:Nat)(t:Bool)(z:List D×List S×Nat)(e:WE)(o:Option S)(U:Env)(Q:WQ)(E:WX):Prop:=match o with
 |some (.lst l')=>e (U.set j none) (pU j t z l' Q) E
 |_=>False
def pW(j:Nat)(e:WE)(o:Option D)(p:Option S)(U:Env)(Q:WQ)(E:WX):Prop:=match o,p with
 |some q,some (.dct t ks l)=>bR t q=true/\ks.Nodup/\ks.length<big/\pV j t (bF ks l q) e (bF ks l q).2.1[(bF ks l q).2.2]? U Q E
 |_,_=>False
def pX(j:Nat)(e:WE)(Q:WQ)(E:WX):WQ:=λy U=>pW j e (view y U) (slot U j) U Q E
def jz(j:Nat)(o:Option S)(k e:WE)(U:Env)(Q:WQ)(E:WX):Prop:=match o with
 |some (.dct _ _ _)=>k U (pX j e Q E) E
 |_=>False
theorem e_SA:dN j a b U Q E=jz j (slot U j) a b U Q E:=by unfold dN jz pX pW pV pU pS;rfl
def zo0{t:Bool}{ks:List D}{l:List S}:jz j (some (.dct t ks l)) a b U Q E=a U (pX j b Q E) E:=rfl
def zo8:pX j b Q E y U=pW j b (view y U) (slot U j) U Q E:=rfl
def zoQ{t:Bool}{ks:List D}{l:List S}:pW j b (some q) (some (.dct t ks l)) U Q E=(bR t q=true/\ks.Nodup/\ks.length<big/\pV j t (bF ks l q) b (bF ks l q).2.1[(bF ks l q).2.2]? U Q E):=rfl
def Ld{t:Bool}{z:List D×List S×Nat}{B:List S}(h:z.2.1[z.2.2]?=some (.lst B)):pV j t z b z.2.1[z.2.2]? U Q E=b (U.set j none) (pU j t z B Q) E:=by rw[h];rfl
def zpo{t:Bool}{z:List D×List S×Nat}{B:List S}:pU j t z B Q r U=pS j t z B Q (give r U):=rfl
def zqW{t:Bool}{z:List D×List S×Nat}{B:List S}:pS j t z B Q (some (s,U))=(B.length<big/\Q (.v (.sh .non)) (U.set j (some (.dct t z.1 (z.2.1.set z.2.2 (.lst (B++[s]))))))):=rfl
variable{fr:D->Option S}
variable{c:WE}{QI:List D->Env->Prop}
def vT(j:Nat)(Q:WQ)(o:Option D)(U:Env):Prop:=zF o λd=>lI j d (slot U j) U Q
def vU(j:Nat)(Q:WQ):WQ:=λr U=>vT j Q (zR r U) U
def me(j:Nat)(o:Option S)(e:WE)(U:Env)(Q:WQ)(E:WX):Prop:=match o with
 |some (.lst _)=>e U (vU j Q) E
 |_=>False
def e_Xs:kI j a U Q E=me j (slot U j) a U Q E:=rfl
def zoP{l:List S}:me j (some (.lst l)) a U Q E=a U (vU j Q) E:=rfl
def zqe:vU j Q r U=vT j Q (zR r U) U:=rfl
def zq5:vT j Q (some d) U=lI j d (slot U j) U Q:=rfl
def zoW{l:List S}{ds:List D}:lI j (.lst ds) (some (.lst l)) U Q=(l.length+ds.length<=big/\Q (.v (.sh .non)) (U.set j (some (.lst (l++ds.map .sh))))):=rfl
end
section
variable{U:Env}{Q:WQ}{E:WX}{D':Ends}{a:WE}{v w:WS}{x:R}{j:Nat}{c:List Nat}{cs kn yes fs:List (List Nat)}{vs:List D}{d:D}
def zq4{ms:List Bool}{rs:List R}{ss:List S}:wY ms rs U E d ss=E d (back ms rs ss U):=rfl
def zlD:hE c D' U=D'.ex (.exc c [] []) U:=rfl
def sL(cs:List (List Nat))(w:WS)(D:Ends):Ends:={D with ex:=λd U=>dw cs d/\w {D with ex:=NX} U}
def zrd:oF cs v w D' U=v (sL cs w D') U:=rfl
def zmZ:(sL cs w D').nx=D'.nx:=rfl
def xY(D:Ends):Ends:={D with ex:=NX}
theorem zm5(h:cs.contains c=true):(sL cs w D').ex (.exc c fs vs) U=w (xY D') U:=by
 show(dw cs _/\w _ U)=_;let:dw cs (.exc c fs vs):=#[c,↑h,fs,vs,rfl]
 simp only[this,true_and];rfl
def zlP:(xY D').nx=D'.nx:=rfl
end
def sg(c:Nat):D:=.str [c]
def ee:items (.str l)=some (l.map sg):=rfl
def Kr(l:List Nat):dZ (l.map sg)=some (l.map λc=>[c]):=by let:=SU (l.map λc=>[c]);rw[qE]at this;show this
def LK:∀l:List Nat,((l.map λc=>[c]).map List.length).sum=l.length
 |[]=>rfl
 |c::l=>by let:=LK l;simp at this⊢;lia
def LW:∀l:List Nat,(l.map λc=>[c]).flatten=l
 |[]=>rfl
 |c::l=>by let:=LW l;simp;rw[this]
def Kj(h:l.length<=big):iQ [] [.lst (l.map sg)]=some (.sh (.str l)):=by show(dZ (l.map sg)).bind _=_;grind[Kr,List.length,big,dI,LK,Tg,LW]
def oH:D->Nat
 |.str [c]=>c
 |_=>0
def Pf(h:l.Perm (A.map sg)):∃B:List Nat,B.Perm A/\l=B.map sg:=by
 show#[l.map oH,?_,?_]
 .let:=h.map oH;rw[qE]at this;let e:(oH∘sg)=id:=funext λc=>rfl;rw[e,map_id]at this;show this
 .rw[qE];let:∀d∈l,(sg∘oH) d=id d:=λd J=>by let#[c,_,rfl]:=qK.mp (h.mem_iff.mp J);rfl
  rw[map_congr_left this,map_id]
def cC:big=1000000:=rfl
def Ec:(fromTo lo n).length=n:=by simp[fromTo]
def Jk{l:List D}{k:Nat}(h:l[k]?=some d):(l.map S.sh)[k]?=some (.sh d):=by rw[qF,h];rfl
def GV{α β:Type}{f:α->β}{l:List α}{z:Int}(J:0<=z)(h1:z<l.length):∃v,v∈l/\l[z.toNat]?=some v/\atI (l.map f) z=some (f v):=by
 let B:z.toNat<l.length:=∅
 show#[l[z.toNat],getElem_mem B,qh B,DZ J (by rw[qF,qh B];rfl)]
def Ew(J:0<=z)(h1:z<l.length):∃v,v∈l/\l[z.toNat]?=some v/\atI l z=some v:=by
 let B:z.toNat<l.length:=∅
 show#[l[z.toNat],getElem_mem B,qh B,DZ J (qh B)]
def ED{α β:Type}{f:α->β}:∀(l:List α)(k:Nat),(l.map f).eraseIdx k=(l.eraseIdx k).map f
 |[],_=>rfl
 |_::_,0=>rfl
 |x::l,k+1=>by show f x::(l.map f).eraseIdx k=f x::(l.eraseIdx k).map f;rw[ED l k]
def Fg(f:α->β)(l:List α)(a b:Option Int):aU (l.map f) a b=(aU l a b).map f:=by unfold aU;simp_all
def Ed(l:List α)(a b:Option Int):(aU l a b).length<=l.length:=by unfold aU;rw[qH,qG];show le_trans (min_le_right ..) (sub_le ..)
def DL(h:x∈aU l a b):x∈l:=by show List.mem_of_mem_drop (List.mem_of_mem_take h)
def Io(l:List α){k:Int}(B:0<=k)(h1:k<=l.length):aU l none (some k)=l.take k.toNat:=by unfold aU sIx;grind
def FN(l:List α)(B:0<=k):aU l (some k) none=l.drop k.toNat:=by
 unfold aU sIx;let:¬k<0:=∅
 simp[q8 this];by_cases h:k.toNat<=l.length
 .rw[min_eq_left h,take_of_length_le];rw[qG];lia
 .let h2:l.length<=k.toNat:=by lia
  rw[min_eq_right h2,drop_of_length_le (q9 _),drop_of_length_le h2,take_nil]
def MH{α:Type}:∀(l:List α)(i:Nat)(h:i<l.length),(l[i]::l.eraseIdx i).Perm l
 |x::l,0,_=>List.Perm.refl _
 |x::l,i+1,h=>by
  let hi:i<l.length:=↑h
  show(List.Perm.swap x l[i] _).trans (List.Perm.cons x (MH l i hi))
def pO(b:WB)(K:Env->Prop)(E:WX):Bool->Env->Prop:=λk U=>if k then b U K E else K U
def lP(c:WT)(b:WB)(K:Env->Prop)(E:WX):Env->Prop:=λU=>c U (pO b K E) E
def eL:lP c b K E U=c U (pO b K E) E:=rfl
def lO:pO b K E true U=b U K E:=rfl
def lq:pO b K E false U=K U:=rfl
def GH{α:Type}{toD:α->D}(I:List α->Env->Prop)(xs:List α)
  (step:∀(J:List α)(x:α)(B:List α)(K:Env->Prop)(U:Env),J++x::B=xs->I J U->(∀U',I (J++[x]) U'->K U')->g (.sh (toD x)) U (lP c b K E))
  (M:∀U,I xs U->Q U)(Y:I [] U):aL g c b (xs.map toD) U Q E:=by
 have L:∀(B J:List α)(U:Env),J++B=xs->I J U->aL g c b (B.map toD) U Q E:=by
  intro B;induction B with
  |nil=>intro J U e h;rw[qz]at e;subst e;show M U h
  |cons x B O=>intro J U e h;show step J x B (pP g c b (B.map toD) Q E) U e h λU' h'=>O (J++[x]) U' (by rw[<-e];simp) h'
 show L xs [] U rfl Y
def Cb{α:Type}{toD:α->D}(I:List α->Env->Prop)(xs:List α)
  (step:∀(J:List α)(x:α)(B:List α)(L:Ends)(U:Env),J++x::B=xs->I J U->(∀U',I (J++[x]) U'->L.nx U')->(∀U',I (J++[x]) U'->L.ct U')->L.rt=D'.rt->L.bk=D'.nx->g (.sh (toD x)) U (λU=>b L U))
  (O:∀U,I xs U->D'.nx U)(h0:I [] U):cL g b (xs.map toD) D' U:=by
 have M:∀(B J:List α)(U:Env),J++B=xs->I J U->cL g b (B.map toD) D' U:=by
  intro B;induction B with
  |nil=>intro J U e h;rw[qz]at e;subst e;show O U h
  |cons x B Y=>intro J U e h;let k:=λU' h'=>Y (J++[x]) U' (by rw[<-e];simp) h';show step J x B (yZ g b (B.map toD) D') U e h k k rfl rfl
 show M xs [] U rfl h0
def Ke{α:Type}{toD:α->D}(I:List α->List S->Env->Prop)(xs:List α)
  (step:∀(J:List α)(x:α)(L:List α)(l:List S)(U:Env)(vs:List (Option S))(K:Env->Prop),J++x::L=xs->vs.length=k->I J l U->(∀O U1 B,B.length=k->I (J++[x]) O U1->K (U1++some (.lst O)::B))->g (.sh (toD x)) (U++some (.lst l)::vs) (lP c b K E))
  (h6:∀l U vs,vs.length=k->I xs l U->Q (U++some (.lst l)::vs))(hv:vs.length=k)(h0:I [] [] U):aL g c b (xs.map toD) (U++some (.lst [])::vs) Q E:=by
 show GH (λJ M=>∃l U1 B,B.length=k/\I J l U1/\M=U1++some (.lst l)::B) xs (λJ x L K M e hI hK=>?_) (λM hI=>?_) #[[],U,vs,hv,h0,rfl]
 .obtain⟨l,U1,B,h1,h2,rfl⟩:=hI;show step J x L l U1 B K e h1 h2 λO Y h5 h3 h4=>hK _ #[O,Y,h5,h3,h4,rfl]
 .obtain⟨l,U1,B,h1,h2,rfl⟩:=hI;show h6 l U1 B h1 h2
def HI{α:Type}{toD:α->D}(xs:List α)(h:α->Option S)
  (step:∀x∈xs,∀(l:List S)(vs:List (Option S))(K:Env->Prop),vs.length=k->l.length<xs.length->(∀B,B.length=k->K (U++some (.lst (l++(h x).toList))::B))->g (.sh (toD x)) (U++some (.lst l)::vs) (lP c b K E))
  (M:∀vs,vs.length=k->Q (U++some (.lst (xs.filterMap h))::vs))(Y:vs.length=k):aL g c b (xs.map toD) (U++some (.lst [])::vs) Q E:=by
 show Ke (λJ l L=>L=U/\l=J.filterMap h) xs (λJ x O l L vs K e h1 h2 hK=>?_) (λl L vs h1 h2=>?_) Y #[rfl,rfl]
 .obtain⟨rfl,rfl⟩:=h2;let hl:(J.filterMap h).length<xs.length:=by let:=List.length_filterMap_le h J;rw[<-e];simp;lia
  show step x (by rw[<-e];simp) _ vs K h1 hl λB h3=>hK _ _ B h3 #[rfl,?_];cases q:h x<;>simp[q]
 .obtain⟨rfl,rfl⟩:=h2;show M vs h1
def Er{vs:List (Option S)}(h:vs.length=1):∃a,vs=[a]:=by
 match vs,h with
 |[a],_=>show#[a,rfl]
def Ep{vs:List (Option S)}(h:vs.length=2):∃a b,vs=[a,b]:=by
 match vs,h with
 |[a,b],_=>show#[a,b,rfl]
def CA{vs:List (Option S)}(h:vs.length=3):∃a b c,vs=[a,b,c]:=by
 match vs,h with
 |[a,b,c],_=>show#[a,b,c,rfl]
section
variable{α:Type}
def Ni(xs:List α)(h:α->Option S)
  (step:∀x∈xs,∀(l:List S)(o:Option S)(K:Env->Prop),l.length<xs.length->(∀o,K (U.take n++[some (.lst (l++(h x).toList)),o]))->zz (n+1) (.sh (toD x)) (U.take n++[some (.lst l),o]) (lP c b K E))
  (J:∀o,Q (U.take n++[some (.lst (xs.filterMap h)),o]))(e:U=U.take n++[some (.lst []),o0]:=by rfl):aL (zz (n+1)) c b (xs.map toD) U Q E:=by
 rw[e];show HI (k:=1) xs h (λx L l vs K B M O=>?_) (λvs B=>?_) rfl
 .obtain⟨a,rfl⟩:=Er B;show step x L l a K M λo=>O [o] rfl
 .obtain⟨a,rfl⟩:=Er B;show J a
def Vp(xs:List α)(h:α->Option S)
  (step:∀x∈xs,∀(l:List S)(o o':Option S)(K:Env->Prop),l.length<xs.length->(∀o o',K (U.take n++[some (.lst (l++(h x).toList)),o,o']))->bT [zz (n+1),zz (n+2)] (.sh (toD x)) (U.take n++[some (.lst l),o,o']) (lP c b K E))
  (J:∀o o',Q (U.take n++[some (.lst (xs.filterMap h)),o,o']))(e:U=U.take n++[some (.lst []),o0,o1]:=by rfl):aL (bT [zz (n+1),zz (n+2)]) c b (xs.map toD) U Q E:=by
 rw[e];show HI (k:=2) xs h (λx M l vs K B O Y=>?_) (λvs B=>?_) rfl
 .obtain⟨a,L,rfl⟩:=Ep B;show step x M l a L K O λo o'=>Y [o,o'] rfl
 .obtain⟨a,L,rfl⟩:=Ep B;show J a L
def Vo(xs:List α)(h:α->Option S)
  (step:∀x∈xs,∀(l:List S)(o o' B:Option S)(K:Env->Prop),l.length<xs.length->(∀o o' B,K (U.take n++[some (.lst (l++(h x).toList)),o,o',B]))->bT [zz (n+1),zz (n+2),zz (n+3)] (.sh (toD x)) (U.take n++[some (.lst l),o,o',B]) (lP c b K E))
  (M:∀o o' B,Q (U.take n++[some (.lst (xs.filterMap h)),o,o',B]))(e:U=U.take n++[some (.lst []),o0,o1,o2]:=by rfl):aL (bT [zz (n+1),zz (n+2),zz (n+3)]) c b (xs.map toD) U Q E:=by
 rw[e];show HI (k:=3) xs h (λx Y l vs K L hl hK=>?_) (λvs L=>?_) rfl
 .obtain⟨a,O,J,rfl⟩:=CA L;show step x Y l a O J K hl λo o' B=>hK [o,o',B] rfl
 .obtain⟨a,O,J,rfl⟩:=CA L;show M a O J
def GB(xs:List α)(h:α->S)
  (step:∀x∈xs,∀(l:List S)(o:Option S)(K:Env->Prop),l.length<xs.length->(∀o,K (U.take n++[some (.lst (l++[h x])),o]))->zz (n+1) (.sh (toD x)) (U.take n++[some (.lst l),o]) (lP c b K E))
  (B:∀o,Q (U.take n++[some (.lst (xs.map h)),o]))(e:U=U.take n++[some (.lst []),o0]:=by rfl):aL (zz (n+1)) c b (xs.map toD) U Q E:=
 Ni xs (λx=>some (h x)) step (λo=>by rw[show(xs.filterMap λx=>some (h x))=xs.map h from List.filterMap_eq_map▸rfl];show B o) e
def Vn(xs:List α)(h:α->S)
  (step:∀x∈xs,∀(l:List S)(o o':Option S)(K:Env->Prop),l.length<xs.length->(∀o o',K (U.take n++[some (.lst (l++[h x])),o,o']))->bT [zz (n+1),zz (n+2)] (.sh (toD x)) (U.take n++[some (.lst l),o,o']) (lP c b K E))
  (B:∀o o',Q (U.take n++[some (.lst (xs.map h)),o,o']))(e:U=U.take n++[some (.lst []),o0,J]:=by rfl):aL (bT [zz (n+1),zz (n+2)]) c b (xs.map toD) U Q E:=
 Vp xs (λx=>some (h x)) step (λo o'=>by rw[show(xs.filterMap λx=>some (h x))=xs.map h from List.filterMap_eq_map▸rfl];show B o o') e
def Vm(xs:List α)(h:α->S)
  (step:∀x∈xs,∀(l:List S)(o o' B:Option S)(K:Env->Prop),l.length<xs.length->(∀o o' B,K (U.take n++[some (.lst (l++[h x])),o,o',B]))->bT [zz (n+1),zz (n+2),zz (n+3)] (.sh (toD x)) (U.take n++[some (.lst l),o,o',B]) (lP c b K E))
  (J:∀o o' B,Q (U.take n++[some (.lst (xs.map h)),o,o',B]))(e:U=U.take n++[some (.lst []),o0,M,L]:=by rfl):aL (bT [zz (n+1),zz (n+2),zz (n+3)]) c b (xs.map toD) U Q E:=
 Vo xs (λx=>some (h x)) step (λo o' B=>by rw[show(xs.filterMap λx=>some (h x))=xs.map h from List.filterMap_eq_map▸rfl];show J o o' B) e
end
def Hu(I:Nat->Env->Prop)(xs:List D)
  (step:∀(k:Nat)(x:D),xs[k]?=some x->∀(J:Ends)(U:Env),I k U->(∀U',I (k+1) U'->J.nx U')->(∀U',I (k+1) U'->J.ct U')->J.rt=D'.rt->J.bk=D'.nx->g (.sh x) U (λU=>b J U))
  (h1:∀U,I xs.length U->D'.nx U)(h0:I 0 U):cL g b xs D' U:=by
 let:=Cb (toD:=λx:D=>x) (g:=g) (b:=b) (D':=D') (λB U=>I B.length U) xs (λB x h2 J U e hI M O L Y=>step B.length x (by rw[<-e];simp) J U hI (λU' h=>M U' ↑h) (λU' h=>O U' ↑h) L Y) h1 h0;rwa[List.map_id']at this
theorem bf{α:Type}{toD:α->D}(xs:List α)(h:α->List S)
  (step:∀x∈xs,∀(l:List S)(vs:List (Option S))(K:Env->Prop),vs.length=k->l.length+(h x).length<=(xs.flatMap h).length->(∀B,B.length=k->K (U.take n++some (.lst (l++h x))::B))->g (.sh (toD x)) (U.take n++some (.lst l)::vs) (lP c b K E))
  (M:∀vs,vs.length=k->Q (U.take n++some (.lst (xs.flatMap h))::vs))(e:U=U.take n++some (.lst [])::vs:=by rfl)(Y:vs.length=k:=by rfl):aL g c b (xs.map toD) U Q E:=by
 rw[e];show Ke (λL l J=>J=U.take n/\l=L.flatMap h) xs (λL x O l J vs K e h1 h2 hK=>?_) (λl J vs h1 h2=>?_) Y #[rfl,rfl]
 .obtain⟨rfl,rfl⟩:=h2;let hl:(L.flatMap h).length+(h x).length<=(xs.flatMap h).length:=by rw[<-e,flatMap_append,flatMap_cons,qq,qq];lia
  show step x (by rw[<-e];simp) _ vs K h1 hl λB h3=>hK _ _ B h3 #[rfl,by rw[flatMap_append];simp]
 .obtain⟨rfl,rfl⟩:=h2;show M vs h1
section
variable{α:Type}
def Vq(F:List S->Option S->Option S->Env)(xs:List α)(h:α->Option S)
  (step:∀x∈xs,∀(l:List S)(o o':Option S)(K:Env->Prop),l.length+(h x).toList.length<=L.length+(xs.filterMap h).length->(∀o o',K (F (l++(h x).toList) o o'))->g (.sh (toD x)) (F l o o') (lP c b K E))
  (O:∀o o',Q (F (L++xs.filterMap h) o o')):aL g c b (xs.map toD) (F L o0 o1) Q E:=by
 show GH (λJ B=>∃o o',B=F (L++J.filterMap h) o o') xs (λJ x Y K B e M hK=>?_) (λB M=>?_) #[o0,o1,by simp]
 .obtain⟨o,o',rfl⟩:=M;refine step x (by rw[<-e];simp) _ o o' K ?_ λo o'=>hK _ #[o,o',?_]
  .rw[<-e,List.filterMap_append,qq];cases q:h x<;>simp[q]<;>lia
  .rw[List.filterMap_append];cases q:h x<;>simp[q]
 .obtain⟨o,o',rfl⟩:=M;show O o o'
end
def Lo:∀l:List (List Nat),∀d∈l.map D.str,nV d:=λl d B=>by let#[x,_,rfl]:=qK.mp B;trivial
def Oe:([a]:List Nat)<[b]↔a<b:=by simp[qC]
def Ur{l:List Nat}(h:l.Pairwise (·<=·))(hn:l.Nodup):l.Pairwise (·<·):=by let:=h.and hn;show this.imp λ⟨h1,h2⟩=>∅
def Ou(h:nV x):(aR x (.str z)||decide (30<eS x))=false:=by
 cases x with
 |str i=>rfl
 |_=>show h.elim
def US{ns:List (List Nat)}:(if(ns.map D.str).any (λx=>aR x (.str z)||decide (30<eS x))then none else some (open Classical in decide (D.str z∈ns.map D.str)))=some (decide (z∈ns)):=by grind[mem_map,any_eq_true.mp,Ou,Lo]
def RJ{ns:List (List Nat)}:bc (.str z) (.lst (ns.map D.str))=some (decide (z∈ns)):=US
def JJ{α β:Type}(p:α->Bool)(f:α->β):∀l:List α,(l.filterMap λx=>if p x=true then some (f x)else none)=(l.filter p).map f
 |[]=>rfl
 |x::l=>by let B:=JJ p f l;cases q:p x<;>simp[q,B]
def LC{α:Type}[DecidableEq α]:∀(l m:List α),l.Nodup->(∀x∈l,x∈m)->l.length<=m.length
 |[],m,_,_=>by simp
 |x::l,m,hn,hs=>by
  let#[h1,h2]:=qL.mp hn;let J:x∈m:=hs x (by simp);let:=LC l (m.erase x) h2 λy B=>by show(List.mem_erase_of_ne ?_).mpr (hs y (by simp[B]));intro z;subst z;show h1 B
  rw[List.length_erase_of_mem J]at this;let L:=List.length_pos_of_mem J;rw[qt];lia
def Me:∀l:List (List Nat),bI (l.map D.str)=0
 |[]=>rfl
 |z::l=>by show max (eS (.str z)) (bI (l.map D.str))=0;rw[Me l];rfl
def Sz:cY (.lst (l.map D.str)) (.lst [])=some (!decide (l=[])):=by
 unfold cY eI;rw[q8 (by
  let:eS (.lst (l.map D.str))=1:=by show bI (l.map D.str)+1=1;rw[Me]
  rw[this];cases l<;>show λz=>Bool.noConfusion (show false=true from z))]
 simp
def Fj:∀l:List D,(∀d∈l,eS d<=n)->bI l<=n
 |[],_=>zero_le _
 |d::l,h=>by show max (eS d) (bI l)<=n;let h1:=h d (by simp);let h2:=Fj l λx B=>h x (by simp[B]);lia
def Kk(h:bI l<=29):cY (.lst l) (.lst [])=some (!l.isEmpty):=by
 unfold cY eI;rw[q8 (by
  let:eS (.lst l)=bI l+1:=rfl;cases l with
  |nil=>show λz=>Bool.noConfusion (show false=true from z)
  |cons x l=>show λz=>absurd (qU (show decide (30<bI (x::l)+1)=true from z)) ∅)]
 cases l<;>simp
def BK{α:Type}{l:List α}(h:l.length=n+1):∃a r,l=a::r/\r.length=n:=by
 cases l with
 |nil=>cases h
 |cons a r=>show#[a,r,rfl,Nat.succ.inj h]
def Jm{α:Type}{l:List α}(h:l.length=0):l=[]:=List.length_eq_zero_iff.mp h
def Dc{α:Type}{l:List α}(h:l.length=1):∃a,l=[a]:=by let#[a,r,rfl,k]:=BK h;obtain rfl:=Jm k;show#[a,rfl]
def Eh{α:Type}{l:List α}(h:l.length=2):∃J B,l=[J,B]:=by let#[J,r,rfl,k]:=BK h;let#[B,rfl]:=Dc k;show#[J,B,rfl]
def Eg{α:Type}{l:List α}(h:l.length=3):∃L J B,l=[L,J,B]:=by let#[L,r,rfl,k]:=BK h;let#[J,B,rfl]:=Eh k;show#[L,J,B,rfl]
def Ef{α:Type}{l:List α}(h:l.length=4):∃M L J B,l=[M,L,J,B]:=by let#[M,r,rfl,k]:=BK h;let#[L,J,B,rfl]:=Eg k;show#[M,L,J,B,rfl]
def Ge{α:Type}{l:List α}(h:l.length=5):∃O M L J B,l=[O,M,L,J,B]:=by let#[O,r,rfl,k]:=BK h;let#[M,L,J,B,rfl]:=Ef k;show#[O,M,L,J,B,rfl]
theorem Na:∀l m:List Int,aV (l.map D.int) (m.map D.int)=if l<m then .lt else if m<l then .gt else .eq
 |[],[]=>by simp[aV]
 |[],b::m=>by simp[aV]
 |a::l,[]=>by simp[aV]
 |a::l,b::m=>by
  let B:=Na l m;rw[qy,qy,aV];rw[show cI (.int a) (.int b)=if a<b then .lt else if b<a then .gt else .eq from rfl];by_cases h1:a<b
  .rw[q5 h1,q5 (qC.mpr (.inl h1))]
  .rw[q8 h1];by_cases h2:b<a
   .rw[q5 h2,q8 (by rw[qC];rintro(h|⟨h,_⟩)<;>lia),q5 (qC.mpr (.inl h2))]
   .have e:a=b:=by lia
    subst e;rw[q8 h2];rw[B]
    have L:(a::l<a::m)↔l<m:=by rw[qC];constructor
                               .rintro(h|⟨_,h⟩)
                                .lia
                                .show h
                               .intro h;show .inr #[rfl,h]
    have J:(a::m<a::l)↔m<l:=by rw[qC];constructor
                               .rintro(h|⟨_,h⟩)
                                .lia
                                .show h
                               .intro h;show .inr #[rfl,h]
    simp
def OD(l m:List Int):dX (tI l) (tI m)=!decide (m<l):=by
 show(match aV (l.map D.int) (m.map D.int)with|.gt=>false|_=>true)=_;rw[Na];by_cases h:m<l
 .rw[q8 (lt_asymm h),q5 h,qR h];rfl
 .rw[q8 h,qS h];by_cases h2:l<m
  .rw[q5 h2];rfl
  .rw[q8 h2];rfl
abbrev Wd:=List Nat
def hV(w:Wd)(i j:Nat):Wd:=(w.drop i).take (j-i)
def Rk(l:List α)(i j:Nat):aU l (some (i:Int)) (some (j:Int))=(l.drop i).take (j-i):=by
 unfold aU sIx;let h1:¬(i:Int)<0:=∅
 let h2:¬(j:Int)<0:=∅
 simp[q8 h1,q8 h2,qW];by_cases hi:i<=l.length
 .rw[min_eq_left hi];by_cases B:j<=l.length
  .rw[min_eq_left B]
  .rw[take_of_length_le (by rw[qG];lia),take_of_length_le (by rw[qG];lia)]
 .rw[min_eq_right (a:=i) ∅,drop_of_length_le (i:=l.length) (q9 _),drop_of_length_le (i:=i) ∅,take_nil,take_nil]
def PK(w:Wd)(i j:Nat):aU w (some (i:Int)) (some (j:Int))=hV w i j:=Rk w i j
def PM(h1:i<=j)(h2:j<=w.length):(hV w i j).length=j-i:=by unfold hV;rw[qH,qG];lia
def jD(B:List Wd)(w:Wd)(i j:Nat):Bool:=decide (i<j)&&(decide (j<=w.length)&&decide (hV w i j∈B))
theorem zbF:jD B w i j=true↔i<j/\j<=w.length/\hV w i j∈B:=by unfold jD;simp
def fu(B:List Wd)(w:Wd)(p q:Nat):Bool:=jD B w p q||jD B w q p
abbrev Tr:=Nat×Nat×Nat
def hU(B:List Wd)(w:Wd)(i:Nat):List Tr:=(List.range (w.length+1)).filterMap λj=>if jD B w i j=true then some (i,j,B.idxOf (hV w i j))else none
def dC(B:List Wd)(w:Wd):List Tr:=(List.range w.length).flatMap (hU B w)
def eN(B:List Wd)(w:Wd)(i:Nat):List Tr:=(List.range B.length).filterMap λk=>if decide (hV w i (i+((B[k]?).getD []).length)=(B[k]?).getD [])=true then some (i,i+((B[k]?).getD []).length,k)else none
theorem zbB:t∈hU B w i↔t.1=i/\jD B w i t.2.1=true/\t.2.2=B.idxOf (hV w i t.2.1):=by
 unfold hU;rw[mem_filterMap];constructor
 .rintro⟨j,_,h⟩;split at h
  .rename_i J;cases h;show#[rfl,J,rfl]
  .cases h
 .rintro⟨h1,h2,L⟩;refine#[t.2.1,?_,?_]
  .rw[qJ];let:=zbF.mp h2;lia
  .subst h1;rw[q5 h2,<-L]
theorem zcx:t∈dC B w↔jD B w t.1 t.2.1=true/\t.2.2=B.idxOf (hV w t.1 t.2.1):=by
 unfold dC;rw[mem_flatMap];constructor
 .grind[zbB]
 .rintro⟨h1,h2⟩;show#[t.1,?_,zbB.mpr #[rfl,h1,h2]];rw[qJ];let:=zbF.mp h1;lia
theorem zbK:(hU B w i).Pairwise λt u=>t.1=u.1/\t.2.1<u.2.1:=by
 unfold hU;rw[List.pairwise_filterMap];show pairwise_lt_range.imp λ{a b} M=>?_;intro x L y J;split at L
 .split at J
  .cases L;cases J;show#[rfl,M]
  .cases J
 .cases L
theorem zfo:(dC B w).Pairwise λt u=>t.1<u.1\/(t.1=u.1/\t.2.1<u.2.1):=by
 unfold dC;rw[List.pairwise_flatMap];show#[λi _=>zbK.imp λh=>.inr h,pairwise_lt_range.imp λ{a b} M=>?_];intro x L y J;let h1:=(zbB.mp L).1;let h2:=(zbB.mp J).1
 left;lia
def RX:t∈eN B w i↔t.1=i/\∃o,B[t.2.2]?=some o/\t.2.1=i+o.length/\hV w i (i+o.length)=o:=by
 unfold eN;rw[mem_filterMap];show#[λ⟨k,J,e⟩=>?_,λ⟨h1,o,h2,M,L⟩=>#[t.2.2,qJ.mpr (qg.mp h2).1,?_]]
 .rw[qh (qJ.mp J)]at e;split at e
  .cases e;show#[rfl,_,qh (qJ.mp J),rfl,qU ‹_›]
  .cases e
 .rw[h2];show(q5 (qR L)).trans ?_;show some (i,i+o.length,t.2.2)=some t;rw[<-M,<-h1]
def LJ(hB:B.Nodup)(O:∀x∈B,x≠[])(hi:i<=w.length):(hU B w i).Perm (eN B w i):=by
 show(List.perm_ext_iff_of_nodup ?_ ?_).mpr λt=>?_
 .show zbK.imp λ⟨_,h⟩ e=>by rw[e]at h;lia
 .unfold eN;rw[List.Nodup,List.pairwise_filterMap];show nodup_range.imp λ{a b} Y x M y J e=>?_;subst e;split at M
  .split at J
   .cases M;injection J with J
    injection J with _ J
    injection J with _ J
    show Y J.symm
   .cases J
  .cases M
 .rw[zbB,RX];constructor
  .rintro⟨h1,h2,L⟩;let#[a1,a2,a3]:=zbF.mp h2;let hl:=PM (w:=w) (i:=i) (j:=t.2.1) ∅ a2;show#[h1,hV w i t.2.1,?_,by rw[hl];lia,by rw[hl];congr 1;lia];rw[L];rw[qh (List.idxOf_lt_length_of_mem a3),List.getElem_idxOf]
  .rintro⟨h1,o,h2,L,h4⟩;let hm:o∈B:=qM h2;let ho:=O o hm;let h5:0<o.length:=qP.mpr ho;let h6:i+o.length<=w.length:=by let:=congrArg List.length h4;unfold hV at this;rw[qH,qG]at this;lia
   show#[h1,zbF.mpr #[∅,∅,by rw[L,h4];show hm],?_];rw[L,h4];let#[hk,e]:=qg.mp h2;rw[<-e];show(hB.idxOf_getElem _ hk).symm
def Sn(L:B.Nodup)(J:∀x∈B,x≠[])(hi:i<=w.length):(hU B w i).length<=min B.length (w.length-i):=by
 show Nat.le_min.mpr #[?_,?_]
 .rw[(LJ L J hi).length_eq];unfold eN;grind
 .let h:=LC ((hU B w i).map (·.2.1)) (List.range' (i+1) (w.length-i)) ?_ ?_
  .simpa using h
  .rw[List.Nodup,pairwise_map];show zbK.imp λ⟨_,h⟩=>∅
  grind[mem_map,zbF,zbB,List.mem_range'_1]
def MN{α:Type}{f g:α->Nat}:∀l:List α,(∀x∈l,f x<=g x)->(l.map f).sum<=(l.map g).sum
 |[],_=>by simp
 |x::l,h=>by let h1:=h x (by simp);let h2:=MN l λy B=>h y (by simp[B]);simp;lia
def Ls(M:B.Nodup)(J:∀x∈B,x≠[])(O:B.length<=6)(L:w.length<=12):(dC B w).length<64:=by
 unfold dC;rw[List.length_flatMap];let h1:=MN (f:=λi=>(hU B w i).length) (g:=λi=>min 6 (w.length-i)) (List.range w.length) λi hi=>by let:=Sn (w:=w) (i:=i) M J (by rw[qJ]at hi;lia);lia
 let h2:∀n,n<=12->((List.range n).map λi=>min 6 (n-i)).sum<64:=⋯
 show Nat.lt_of_le_of_lt h1 (h2 _ L)
def MP{α β:Type}{f g:α->List β}:∀l:List α,(∀x∈l,(f x).Perm (g x))->(l.flatMap f).Perm (l.flatMap g)
 |[],_=>.refl _
 |x::l,h=>by show(h x (by simp)).append (MP l λy B=>h y (by simp[B]))
def LU(L:B.Nodup)(J:∀x∈B,x≠[]):(dC B w).Perm ((List.range w.length).flatMap (eN B w)):=
 MP _ λi hi=>LJ L J (by rw[qJ]at hi;lia)
def yB(t:Tr):List Int:=[(t.1:Int),(t.2.1:Int),(t.2.2:Int)]
def jC(t:Tr):D:=tI (yB t)
def lr(t:Tr):jC t=.tup [.int t.1,.int t.2.1,.int t.2.2]:=rfl
def IC{α:Type}(f:α->D):∀(B:List α)(k:Nat),cN k (B.map f)=(List.range B.length).map λi=>D.tup [.int ((k+i:Nat):Int),(B[i]?).elim .non f]
 |[],k=>rfl
 |b::B,k=>by rw[qy,cN,IC f B (k+1),qt,List.range_succ_eq_map,qy,qE];congr 1;show map_congr_left λi _=>?_;rw[show k+1+i=k+(i+1) by lia];rfl
def RU(B:List Wd):cN 0 (B.map D.str)=(List.range B.length).map λ(k:Nat)=>D.tup [.int (k:Int),.str ((B[k]?).getD [])]:=by rw[IC];simp_all
def CD{z:Int}{n:Nat}(h:z=n):fromTo 0 z.toNat=(List.range n).map λ(k:Nat)=>D.int (k:Int):=by subst h;show map_congr_left λk _=>?_;rw[Int.zero_add]
def IE{α β:Type}{f g:α->Option β}:∀{l:List α},(∀x∈l,f x=g x)->l.filterMap f=l.filterMap g
 |[],_=>rfl
 |x::l,h=>by rw[filterMap_cons,filterMap_cons,h x (by simp),IE λy B=>h y (by simp[B])]
def zQ(q:Nat):D:=.int (q:Int)
def IR(h:B++i::post=List.range n):B.length=i/\i<n:=by
 let h1:(List.range n)[B.length]?=some i:=by rw[<-h];simp
 let#[h2,J]:=qg.mp h1;rw[List.getElem_range]at J;rw[qD]at h2;lia
inductive cP(R:Nat->Nat->Prop):Nat->Nat->Prop
 |refl (p:Nat):cP R p p
 |step {p q r:Nat}:cP R p q->R q r->cP R p r
def cP.trans{R:Nat->Nat->Prop}(h1:cP R p q)(h2:cP R q r):cP R p r:=by
 induction h2 with
 |refl=>show h1
 |step _ e B=>show .step B e
def cP.one{R:Nat->Nat->Prop}(h:R p q):cP R p q:=.step (.refl p) h
def cP.symm{R:Nat->Nat->Prop}(J:∀p q,R p q->R q p)(h:cP R p q):cP R q p:=by
 induction h with
 |refl=>show .refl _
 |step _ e B=>show(cP.one (J _ _ e)).trans B
def cP.mono{R B:Nat->Nat->Prop}(h:∀p q,R p q->B p q)(c:cP R p q):cP B p q:=by
 induction c with
 |refl=>show .refl _
 |step _ e J=>show .step J (h _ _ e)
structure bL(R:Nat->Nat->Prop)(L:Nat->Nat):Prop where
 conn:∀p,cP R p (L p)
 same:∀p q,R p q->L p=L q
 le:∀p,L p<=p
def bL.eq{R:Nat->Nat->Prop}(h:bL R L)(c:cP R p q):L p=L q:=by
 induction c with
 |refl=>rfl
 |step _ e B=>show B.trans (h.same _ _ e)
def bL.zero{R:Nat->Nat->Prop}(B:∀p q,R p q->R q p)(h:bL R L)(p:Nat):L p=0↔cP R 0 p:=by
 let J:L 0=0:=by let:=h.le 0;lia
 constructor
 .intro e;let:=h.conn p;rw[e]at this;show this.symm B
 .intro c;rw[<-h.eq c,J]
theorem zgn:bL (λ_ _=>False) λp=>p:=#[λp=>.refl p,λ_ _ h=>h.elim,λp=>q9 p]
def eE(L:Nat->Nat)(i j:Nat):Nat->Nat:=λp=>if L p=max (L i) (L j)then min (L i) (L j)else L p
def Ss{R R':Nat->Nat->Prop}{L:Nat->Nat}{i j:Nat}(hR:∀p q,R' p q->R' q p)(hsub:∀p q,R p q->R' p q)(hij:R' i j)(hall:∀p q,R' p q->R p q\/(p=i/\q=j)\/(p=j/\q=i))(h:bL R L):bL R' (eE L i j) where
 conn p:=by
  unfold eE;split
  .rename_i e;let cp:cP R' p (L p):=(h.conn p).mono hsub;let ci:cP R' i (L i):=(h.conn i).mono hsub;let cj:cP R' j (L j):=(h.conn j).mono hsub;let cij:cP R' (L i) (L j):=(ci.symm hR).trans ((cP.one hij).trans cj);rw[e]at cp;rcases Nat.le_total (L i) (L j)with hh|hh
   .rw[Nat.max_eq_right hh]at cp;rw[min_eq_left hh];show cp.trans (cij.symm hR)
   .rw[Nat.max_eq_left hh]at cp;rw[min_eq_right hh];show cp.trans cij
  .show(h.conn p).mono hsub
 same p q e:=by
  let key:eE L i j i=eE L i j j:=by unfold eE;split<;>split<;>lia
  rcases hall p q e with e|⟨rfl,rfl⟩|⟨rfl,rfl⟩
  .unfold eE;rw[h.same p q e]
  .show key
  .show key.symm
 le p:=by let:=h.le p;unfold eE;split<;>lia
def rP(B:List Wd)(w:Wd)(p q:Nat):Prop:=fu B w p q=true
def iF(B:List Tr)(p q:Nat):Prop:=∃t∈B,(t.1=p/\t.2.1=q)\/(t.1=q/\t.2.1=p)
def SK(p q:Nat)(h:iF B p q):iF B q p:=by let#[t,J,h]:=h;show#[t,J,h.symm]
def RA:iF (dC B w) p q↔rP B w p q:=by
 unfold iF rP fu;rw[or_eq_true];constructor
 .grind[zcx]
 .rintro(h|h)
  .show#[(p,q,B.idxOf (hV w p q)),zcx.mpr #[h,rfl],.inl #[rfl,rfl]]
  .show#[(q,p,B.idxOf (hV w q p)),zcx.mpr #[h,rfl],.inr #[rfl,rfl]]
def SX(h:bL (iF B) L):bL (iF (B++[t])) (eE L t.1 t.2.1):=by
 show Ss SK (λp q⟨u,J,e⟩=>#[u,qj _ J,e]) #[t,by simp,.inl #[rfl,rfl]] (λp q M=>?_) h;let#[u,J,e]:=M;rcases qx.mp J with z|z
 .show .inl #[u,z,e]
 .rw[qu.mp z]at e;rcases e with⟨a,b⟩|⟨a,b⟩
  .show .inr (.inl #[a.symm,b.symm])
  .show .inr (.inr #[b.symm,a.symm])
def bL.congr{R B:Nat->Nat->Prop}(h:∀p q,R p q↔B p q)(k:bL R L):bL B L:=
 #[λp=>(k.conn p).mono λp q e=>(h p q).mp e,λp q e=>k.same p q ((h p q).mpr e),k.le]
def dH:List Tr->(Nat->Nat)->Nat->Nat
 |[],L=>L
 |t::r,L=>dH r (eE L t.1 t.2.1)
def eQ(B:List Wd)(w:Wd):Nat->Nat:=dH (dC B w) λp=>p
def Mb:∀(J B:List Tr)(L:Nat->Nat),bL (iF B) L->bL (iF (B++J)) (dH J L)
 |[],B,L,h=>by rw[qz];show h
 |t::r,B,L,h=>by let:=Mb r (B++[t]) _ (SX (t:=t) h);rw[qp]at this;show this
def RW(B:List Wd)(w:Wd):bL (rP B w) (eQ B w):=by
 let J:bL (iF []) λp=>p:=zgn.congr λp q=>#[λh=>h.elim,λ⟨_,h,_⟩=>nomatch h]
 show(Mb (dC B w) [] _ J).congr λp q=>RA
def Nc:∀(a b:List Tr)(L:Nat->Nat),dH (a++b) L=dH b (dH a L)
 |[],_,_=>rfl
 |t::a,b,L=>Nc a b _
def cG(n:Nat)(f:Nat->Nat):List D:=(List.range (n+1)).map λp=>zQ (f p)
def LD:(cG n f).length=n+1:=by simp[cG]
def Sw(h:p<=n):(cG n f)[p]?=some (zQ (f p)):=by unfold cG;rw[qF,List.getElem?_range ∅];rfl
def Ij(h:p<=n):atI (cG n f) (p:Int)=some (.int ((f p:Nat):Int)):=by show DZ ∅ ?_;rw[qW];show Sw h
def Jy{a b:Nat}:(if(b:Int)<(a:Int)then(b:Int)else(a:Int))=((min a b:Nat):Int):=by split<;>lia
def Jz{a b:Nat}:(if(b:Int)>(a:Int)then(b:Int)else(a:Int))=((max a b:Nat):Int):=by split<;>lia
def lu(D':Ends)(m:Nat)(J:Nat->Env->Prop):Ends:={D' with nx:=λB=>∃L,L<m/\J L B,ct:=λB=>∃L,L<m/\J L B,bk:=D'.nx}
def jy(b:WS)(D':Ends)(m:Nat)(J:Nat->Env->Prop)(k:Bool)(U:Env):Prop:=if k then b (lu D' m J) U else D'.nx U
def eh:jy b D' m J true U=b (lu D' m J) U:=rfl
def fc:jy b D' m J false U=D'.nx U:=rfl
def Nz(J:Nat->Env->Prop)(m:Nat)(L:J m U)(h:∀m U,J m U->c U (jy b D' m J) D'.ex):gY c b D' U:=#[J,#[m,L],λm U B=>h m U B]
end FL
namespace Law
open FL
abbrev xO:List Nat:=[73,115,70,105,120,101,100]
def mK:WB:=bV 2 (aW (zx (zw 3) (zx (zM aN (zw 3) (wB aY (zx (zw 5) zy))) (zx (zw 4) zy))))
def tN:=uB mK.eq_1
def mJ:WB:=lM (kJ (zw 0)) (bT [zz 4,zz 5]) (aJ eI (dY (zw 1) (some (zw 3)) (some (zM aN (zw 3) (wB aY (zx (zw 5) zy))))) (zw 5)) mK
def tM:=uB mJ.eq_1
def fk:WF:=eW 2 2 [0,1]
 (bE (wB cK (zx (jB 2 3 (bB (wB aY (zx (zw 1) zy))) (zz 3) dE mJ) zy)))
def mD:WB:=bV 5 (oG (aJ eI (zw 6) (zw 4)) (zw 3) (zw 6))
def tH:=uB mD.eq_1
def fg:WF:=eW 3 5 [0,1,2]
 (zN (zP (bT [zz 3,zz 4]) (aW (zx (wB lL (zx (bU (zw 0) (zw 1)) (zx (bU (zw 0) (zw 2)) zy))) (zx (wB nN (zx (bU (zw 0) (zw 1)) (zx (bU (zw 0) (zw 2)) zy))) zy))))
  (bE (jB 5 1 (bJ (zw 0)) (zz 6) dE mD)))
def mC:WS:=wExpr (dN 4 (aW (zx (zw 5) (zx (zw 6) zy))) (zw 7))
def tG:=uS mC.eq_1
def jA:WB:=nO 11 (zw 13)
def tD:=uB jA.eq_1
def iZ:WB:=lM (bJ (kH (zw 4) (aW (zx (zw 12) (zx (zw 6) zy))) (cE zy))) (zz 13) dE jA
def tB:=uB iZ.eq_1
def mB:WS:=zP (zz 10) (cF (wB cK (zx (fo (.set []) 11 2 (bJ (zw 10)) (zz 12) dE iZ) zy)))
def tF:=uS mB.eq_1
def lY:WB:=bV 11 (aW (zx (zw 9) (zx (zw 12) zy)))
def sZ:=uB lY.eq_1
def lZ:WS:=zN (zP (zz 10) (cF (cE (zx (zw 9) zy))))
  (zN (cT (bJ (zw 1)) (zz 6) mB)
  (wExpr (dA 8 (jB 11 1 (bJ (zw 10)) (zz 12) dE lY))))
def tE:=uS lZ.eq_1
def xZ:WF:=eW 2 11 [0,1]
 (zN (zP (bT [zz 2,zz 3]) (zw 0))
  (zN (zP (zz 4) (kK true))
  (zN (xR 4 (cT (bJ (zw 3)) (bT [zz 5,zz 6,zz 7]) mC))
  (zN (zP (zz 8) (cE zy))
  (zN (cT (bB (zw 2)) (zz 9) lZ)
  (bE (wB cJ (zx (zw 8) zy))))))))
def lU:WS:=zN (zP (zz 5) (oG (kG (bU (zw 1) (zw 3))) (wC (.int 1)) (wC (.int 0))))
  (zN (wExpr (aQ 2 (aW (zx (zM bQ (wC (.int 2)) (zw 3)) (zx (zw 4) (zx (zM aN (zM aN (zM bQ (wC (.int 2)) (zw 3)) (wC (.int 2))) (zw 5)) zy))))))
  (wExpr (aQ 2 (aW (zx (zM aN (zM bQ (wC (.int 2)) (zw 3)) (wC (.int 1))) (zx (zw 4) (zx (zM fU (zM aN (zM bQ (wC (.int 2)) (zw 3)) (wC (.int 3))) (zw 5)) zy)))))))
def sV:=uS lU.eq_1
def df:WF:=eW 2 6 [0,1]
 (zN (zP (zz 2) (cE zy))
  (zN (cT (kJ (zw 0)) (bT [zz 3,zz 4]) lU)
  (bE (aW (zx (zM aN (zM bQ (wC (.int 2)) (wB aY (zx (zw 0) zy))) (wC (.int 2))) (zx (wB cJ (zx (zw 2) zy)) zy))))))
def da:WF:=eW 2 4 [0,1]
 (zN (zP (zz 2) (zM aN (zM bQ (wC (.int 7919)) (zw 1)) (wC (.int 11))))
  (zN (dU (aJ rO (zw 1) (wB aY (zx (zw 0) zy))) (zP (zz 2) (bU (zw 0) (zw 1))) (dU (aJ lB (wB aY (zx (zw 0) zy)) (wC (.int 0))) (zP (zz 2) (zM aN (zw 2) (zM bQ (zM fH (bU (zw 0) (zM fH (zw 1) (wB aY (zx (zw 0) zy)))) (wC (.int 2147483629))) (wC (.int 69623))))) aP))
  (zN (zP (zz 3) (zM aN (zM fH (zM aN (zM bQ (zM fH (zw 2) (wC (.int 2147483629))) (wC (.int 48271))) (zM bQ (wC (.int 40692)) (zw 1))) (wC (.int 2147483629))) (wC (.int 1))))
  (bE (cE (zx (bU (cE (zx (wC (.int 0)) (zx (zw 2) zy))) (wB jM (zx (fP (aJ xU (zw 2) (zM mU (wC (.int 10)) (wC (.int 18))))) zy))) (zx (zw 3) zy)))))))
def bA:WF:=eW 2 4 [0,1]
 (zN (dU (aJ lB (bU (zw 0) (wC (.int 0))) (wC (.int 0))) (zN (zP (zz 2) (zM fH (bU (zw 0) (wC (.int 0))) (zw 1)))
  (zN (fO 0 (wC (.int 0)) (zM gF (bU (zw 0) (wC (.int 0))) (zw 1)))
  (bE (zw 2)))) aP)
  (zN (zP (zz 3) (zM fH (zM bQ (bU (zw 0) (wC (.int 1))) (wC (.int 69623))) (wC (.int 2147483647))))
  (zN (fO 0 (wC (.int 1)) (zM aN (zM fH (zM aN (zM bQ (zw 3) (wC (.int 48271))) (wC (.int 30103))) (wC (.int 2147483629))) (wC (.int 1))))
  (bE (zM fH (zM gF (zM aN (zM bQ (zw 3) (wC (.int 2147483647))) (bU (zw 0) (wC (.int 1)))) (wC (.int 8191))) (zw 1))))))
def kE:WS:=zN (dU (dG (aJ eI (dY (zw 1) (some (zw 2)) (some (zM aN (zw 2) (wB aY (zx (zw 5) zy))))) (dY (zw 5) none (some (zM fU (wB aY (zx (zw 1) zy)) (zw 2))))) (aJ du (zM aN (zw 2) (wB aY (zx (zw 5) zy))) (zw 3))) (wExpr (aQ 4 (aW (zx (zw 5) (zx (zM aN (zw 2) (wB aY (zx (zw 5) zy))) zy))))) aP)
  (dU (dG (aJ xU (zw 2) (wB aY (zx (zw 5) zy))) (aJ eI (dY (zw 1) (some (zM fU (zw 2) (wB aY (zx (zw 5) zy)))) (some (zw 2))) (zw 5))) (wExpr (aQ 4 (aW (zx (zw 5) (zx (zM fU (zw 2) (wB aY (zx (zw 5) zy))) zy))))) aP)
def oX:=uS kE.eq_1
def sP:WF:=eW 4 6 [0,1,2,3]
 (zN (zP (zz 4) (cE zy))
  (zN (cT (bJ (zw 0)) (zz 5) kE)
  (bE (zw 4))))
def jW:WS:=wExpr (dN 1 (aW (zx (zw 2) (zx (zw 3) zy))) (zw 4))
def oQ:=uS jW.eq_1
def oE:WF:=eW 1 5 [0]
 (zN (zP (zz 1) (kK true))
  (zN (cT (bJ (bU (zw 0) (wC (.int 1)))) (bT [zz 2,zz 3,zz 4]) jW)
  (bE (zw 1))))
def gR:WS:=wExpr (kI 7 (cF (kH (zw 1) (aW (zx (zw 8) (zx (zw 6) zy))) (cE zy))))
def kM:=uS gR.eq_1
def jV:WS:=zN (zP (zz 7) (cE zy))
  (zN (cT (bJ (zw 5)) (zz 8) gR)
  (zP (zz 5) (cF (wB cK (zx (wB gD (zx (zw 7) zy)) zy)))))
def oP:=uS jV.eq_1
def jT:WB:=bV 9 (aW (zx (zw 4) (zx (zw 10) zy)))
def oN:=uB jT.eq_1
def jU:WS:=zN (zP (zz 5) (cF (cE (zx (zw 4) zy))))
  (zN (cT (bJ (zw 2)) (zz 6) jV)
  (wExpr (dA 3 (jB 9 1 (bJ (zw 5)) (zz 10) dE jT))))
def oO:=uS jU.eq_1
def lG:WF:=eW 3 9 [0,1,2]
 (zN (zP (zz 3) (cE zy))
  (zN (cT (bB (zw 0)) (zz 4) jU)
  (bE (zw 3))))
def mE:WS:=zP (zz 2) (cF (zO fg [true,true,true] (zx (zw 2) (zx (zw 3) (zx (zw 4) zy)))))
def tJ:=uS mE.eq_1
def fh:WF:=eW 2 5 [0,1]
 (zN (zP (zz 2) (cF (wB eJ (zx (zw 0) zy))))
  (zN (cT (bJ (zw 1)) (bT [zz 3,zz 4]) mE)
  (bE (wB cJ (zx (zw 2) zy)))))
def lX:WB:=bV 2 (cF (zO xZ [true,true] (zx (zw 0) (zx (zw 3) zy))))
def sY:=uB lX.eq_1
def dg:WF:=eW 2 2 [0,1]
 (bE (wB cJ (zx (jB 2 1 (bJ (zw 1)) (zz 3) dE lX) zy)))
def gX:WB:=bV 3 (cF (eX 2 (zO bA [true,true] (zx (zw 0) (zx (wB aY (zx (zw 2) zy)) zy)))))
def pC:=uB gX.eq_1
def sS:WF:=eW 2 3 [0,1]
 (zN (zP (zz 2) (wB eJ (zx (wC (.str [97,98,99,100,101,102,103,104,105,106,107,108,109,110,111,112,113,114,115,116,117,118,119,120,121,122])) zy)))
  (bE (xQ iQ (wC (.str [])) (zx (wB cK (zx (jB 3 1 (bB (zw 1)) (zz 4) dE gX) zy)) zy))))
def gW:WB:=bV 4 (bU (zw 1) (zO bA [true,true] (zx (zw 0) (zx (wB aY (zx (zw 1) zy)) zy))))
def oZ:=uB gW.eq_1
def mI:WF:=eW 3 4 [0,1,2]
 (zN (zP (zz 3) (zM bQ (zO bA [true,true] (zx (zw 0) (zx (zM aN (zw 2) (wC (.int 1))) zy))) (wB jM (zx (fP (aJ cY (zw 1) (wC (.str [])))) zy))))
  (bE (xQ iQ (wC (.str [])) (zx (jB 4 1 (bB (zw 3)) (zz 5) dE gW) zy))))
def sR:WF:=eW 3 7 [0,1,2]
 (zN (zP (zz 3) (bU (zw 2) (zO bA [true,true] (zx (zw 0) (zx (wB aY (zx (zw 2) zy)) zy)))))
  (zN (zP (zz 4) (zO bA [true,true] (zx (zw 0) (zx (wC (.int 5)) zy))))
  (zN (zP (zz 5) (bU (zw 1) (zO bA [true,true] (zx (zw 0) (zx (wB aY (zx (zw 1) zy)) zy)))))
  (zN (zP (zz 6) (zO bA [true,true] (zx (zw 0) (zx (wB aY (zx (zw 3) zy)) zy))))
  (bE (bU (cE (zx (dY (zw 3) none (some (zM aN (zw 6) (wC (.int 1))))) (zx (dY (zw 3) (some (zw 6)) none) (zx (zM aN (zw 5) (zw 3)) (zx (zM aN (zw 3) (zw 5)) (zx (zM aN (zw 3) (zw 3)) zy)))))) (zw 4)))))))
def jZ:WB:=bV 11 (zw 12)
def kN:=uB jZ.eq_1
def kD:WS:=zN (zP (zz 7) (cF (zO sP [true,true,true,true] (zx (zw 1) (zx (zw 4) (zx (zw 5) (zx (zw 3) zy)))))))
  (zN (dU (aJ lB (zw 6) (wC (.int 4))) (xR 7 (zP (zz 7) (jB 11 1 (bJ (zw 7)) (zz 12) (aJ lB (bU (zw 12) (wC (.int 1))) (zw 5)) jZ))) aP)
  (dU (aJ cY (zw 7) (cE zy)) (zN (zP (bT [zz 8,zz 9]) (bU (zw 7) (zO bA [true,true] (zx (zw 0) (zx (wB aY (zx (zw 7) zy)) zy)))))
  (zN (dU (aJ lB (zw 9) (zw 5)) (zP (zz 4) (zM aN (zM aN (dY (zw 4) none (some (zw 5))) (zw 8)) (dY (zw 4) (some (zw 9)) none))) aP)
  (zP (zz 5) (zw 9)))) aP))
def oW:=uS kD.eq_1
def sO:WF:=eW 4 11 [0,1,2,3]
 (zN (zP (bT [zz 4,zz 5]) (aW (zx (wC (.str [])) (zx (wC (.int 0)) zy))))
  (zN (cT (bB (zM aN (wC (.int 1)) (zO bA [true,true] (zx (zw 0) (zx (wC (.int 9)) zy))))) (zz 6) kD)
  (zN (dU (dG (aJ cY (zw 4) (wC (.str []))) (aJ eI (zO bA [true,true] (zx (zw 0) (zx (wC (.int 5)) zy))) (wC (.int 0)))) (zN (zP (zz 10) (zO bA [true,true] (zx (zw 0) (zx (wB aY (zx (zw 4) zy)) zy))))
  (zP (zz 4) (zM aN (zM aN (dY (zw 4) none (some (zw 10))) (bU (zw 2) (zO bA [true,true] (zx (zw 0) (zx (wB aY (zx (zw 2) zy)) zy))))) (dY (zw 4) (some (zM aN (zw 10) (wC (.int 1)))) none)))) aP)
  (bE (zw 4)))))
def gU:WS:=zN (zP (zz 10) (zO bA [true,true] (zx (zw 0) (zx (zw 5) zy))))
  (zN (wExpr (aQ 6 (aW (zx (zw 8) (zx (zw 9) (zx (zw 10) zy))))))
  (zP (zz 8) (zw 10)))
def oV:=uS gU.eq_1
def jY:WS:=zN (zP (zz 8) (zO bA [true,true] (zx (zw 0) (zx (zw 5) zy))))
  (cT (bJ (zw 2)) (zz 9) gU)
def oU:=uS jY.eq_1
def jX:WS:=zN (lH 8 10 (zx (zO bA [true,true] (zx (zw 0) (zx (zw 5) zy))) (zx (zO bA [true,true] (zx (zw 0) (zx (zw 5) zy))) zy)))
  (wExpr (aQ 6 (aW (zx (zw 8) (zx (bU (zw 1) (zO bA [true,true] (zx (zw 0) (zx (wB aY (zx (zw 1) zy)) zy)))) (zx (zw 10) zy))))))
def oS:=uS jX.eq_1
def gT:WS:=wExpr (eX 6 (zO bA [true,true] (zx (zw 0) (zx (wB aY (zx (zw 6) zy)) zy))))
def oR:=uS gT.eq_1
def mH:WF:=eW 5 12 [0,1,2,3,4]
 (zN (zP (zz 5) (zM aN (wC (.int 1)) (zO bA [true,true] (zx (zw 0) (zx (zw 3) zy)))))
  (zN (zP (zz 6) (cE zy))
  (zN (cT (bB (zO bA [true,true] (zx (zw 0) (zx (wC (.int 4)) zy)))) (zz 7) jY)
  (zN (cT (bB (zM bQ (zO bA [true,true] (zx (zw 0) (zx (zM aN (zw 4) (wC (.int 1))) zy))) (wB jM (zx (fP (aJ cY (zw 1) (wC (.str [])))) zy)))) (zz 11) jX)
  (zN (gY (aJ lB (wB iT (zx (wB gD (zx (zw 6) zy)) zy)) (zw 4)) gT)
  (bE (aW (zx (zw 5) (zx (wB cJ (zx (wB cK (zx (wB gD (zx (zw 6) zy)) zy)) zy)) zy)))))))))
def jS:WS:=dU (aJ cY (zO lG [true,true,true] (zx (bU (zw 2) (wC (.int 0))) (zx (zw 4) (zx (zw 6) zy)))) (zO lG [true,true,true] (zx (bU (zw 2) (wC (.int 0))) (zx (zw 5) (zx (zw 6) zy))))) (bE (wC (.bl false))) aP
def oM:=uS jS.eq_1
def oD:WF:=eW 4 7 [0,1,2,3]
 (zN (dU (aJ cY (bU (zw 2) (wC (.int 0))) (bU (zw 3) (wC (.int 0)))) (bE (wC (.bl false))) aP)
  (zN (lH 4 5 (zx (cF (zO oE [true] (zx (zw 2) zy))) (zx (cF (zO oE [true] (zx (zw 3) zy))) zy)))
  (zN (cT (bJ (zw 0)) (zz 6) jS)
  (bE (fP (aJ cY (zO lG [true,true,true] (zx (bU (zw 2) (wC (.int 0))) (zx (zw 4) (zx (zw 1) zy)))) (zO lG [true,true,true] (zx (bU (zw 2) (wC (.int 0))) (zx (zw 5) (zx (zw 1) zy))))))))))
def oC:WF:=eW 3 11 [0,1,2]
 (zN (zP (bT [zz 3,zz 4]) (zw 2))
  (zN (zP (zz 5) (zO bA [true,true] (zx (zw 0) (zx (wC (.int 4)) zy))))
  (zN (dU (aJ eI (zw 5) (wC (.int 0))) (bE (aW (zx (wB lL (zx (wC (.int 26)) (zx (zM aN (zw 3) (wC (.int 1))) zy))) (zx (zw 4) zy)))) aP)
  (zN (zP (zz 6) (wB eJ (zx (zw 4) zy)))
  (zN (lH 7 8 (zx (zO bA [true,true] (zx (zw 0) (zx (zw 3) zy))) (zx (zO bA [true,true] (zx (zw 0) (zx (zw 3) zy))) zy)))
  (zN (zP (zz 9) (bU (zw 1) (zO bA [true,true] (zx (zw 0) (zx (wB aY (zx (zw 1) zy)) zy)))))
  (zN (dU (dG (aJ cY (zw 6) (cE zy)) (aJ rO (zw 5) (wC (.int 3)))) (zP (bT [zz 7,zz 9,zz 10]) (eX 6 (zO bA [true,true] (zx (zw 0) (zx (wB aY (zx (zw 6) zy)) zy))))) aP)
  (zN (dU (dG (aJ lB (zw 5) (wC (.int 1))) (aJ rO (wB aY (zx (zw 6) zy)) (wC (.int 24)))) (wExpr (aQ 6 (aW (zx (zw 7) (zx (zw 9) (zx (zw 8) zy)))))) aP)
  (bE (aW (zx (zw 3) (zx (wB cJ (zx (wB cK (zx (wB gD (zx (zw 6) zy)) zy)) zy)) zy))))))))))))
def mG:WB:=bV 2 (aW (zx (zw 3) (zx (zw 4) zy)))
def tL:=uB mG.eq_1
def fj:WF:=eW 2 2 [0,1]
 (bE (zO fh [true,true] (zx (mL (bB (zM aN (wB aY (zx (zw 1) zy)) (wC (.int 1))))) (zx (cF (jB 2 3 (bJ (zO fk [true,true] (zx (zw 0) (zx (zw 1) zy)))) (bT [zz 3,zz 4,zz 5]) dE mG)) zy))))
def de:WF:=eW 4 4 [0,1,2,3]
 (zN (dU (oB (aJ cY (bU (zw 2) (wC (.int 0))) (bU (zw 3) (wC (.int 0)))) (aJ cY (zO dg [true,true] (zx (zw 2) (zx (zw 0) zy))) (zO dg [true,true] (zx (zw 3) (zx (zw 0) zy))))) (bE (wC (.bl false))) aP)
  (bE (fP (aJ cY (zO xZ [true,true] (zx (zw 2) (zx (zw 1) zy))) (zO xZ [true,true] (zx (zw 3) (zx (zw 1) zy)))))))
def kF:WS:=zN (zP (zz 6) (zM aN (bU (zw 1) (zO bA [true,true] (zx (zw 0) (zx (wB aY (zx (zw 1) zy)) zy)))) (zO mI [true,true,true] (zx (zw 0) (zx (zw 1) (zx (zM fU (zw 3) (wC (.int 1))) zy))))))
  (zN (dU (dG (aJ cY (zw 4) (cE zy)) (aJ eI (zO bA [true,true] (zx (zw 0) (zx (wC (.int 2)) zy))) (wC (.int 0)))) (zP (zz 6) (dY (zO sR [true,true,true] (zx (zw 0) (zx (zw 1) (zx (zw 4) zy)))) none (some (zw 3)))) aP)
  (dU (aJ eU (zw 6) (zw 4)) (wExpr (aQ 4 (zw 6))) aP))
def oY:=uS kF.eq_1
def sQ:WF:=eW 4 7 [0,1,2,3]
 (zN (zP (zz 4) (cE zy))
  (zN (cT (bB (zM bQ (zO bA [true,true] (zx (zw 0) (zx (zM aN (zw 2) (wC (.int 1))) zy))) (wB jM (zx (fP (aJ cY (zw 1) (wC (.str [])))) zy)))) (zz 5) kF)
  (bE (wB cJ (zx (zw 4) zy)))))
def sN:WF:=eW 4 6 [0,1,2,3]
 (zN (zP (zz 4) (zO bA [true,true] (zx (zw 0) (zx (wC (.int 4)) zy))))
  (zN (dU (aJ eI (zw 4) (wC (.int 0))) (bE (zO mI [true,true,true] (zx (zw 0) (zx (zw 2) (zx (zw 3) zy))))) aP)
  (zN (zP (zz 5) (cF (zO sO [true,true,true,true] (zx (zw 0) (zx (zw 1) (zx (zw 2) (zx (zw 3) zy)))))))
  (zN (dU (aJ eI (zw 4) (wC (.int 1))) (zP (zz 5) (dY (zM aN (zw 5) (zO mI [true,true,true] (zx (zw 0) (zx (zw 2) (zx (zw 3) zy))))) none (some (zw 3)))) aP)
  (bE (zw 5))))))
def lW:WB:=bV 5 (wC (.bl false))
def sX:=uB lW.eq_1
def lV:WB:=bV 5 (fP (aJ cY (fP (aJ eI (zw 6) (wC (.int 0)))) (fP (aJ eI (zw 7) (wC (.int 0))))))
def sW:=uB lV.eq_1
def ff:WF:=eW 2 5 [0,1]
 (zN (zP (zz 2) (cF (zO fj [true,true] (zx (zw 0) (zx (zw 1) zy)))))
  (zN (dU (aJ eI (bU (zw 2) (fm pM (wC (.int 1)))) (wC (.int 0))) (hE xO) aP)
  (zN (xR 3 (zP (zz 3) (jB 5 1 (bJ (zw 1)) (zz 6) dE lW)))
  (zN (xR 4 (zP (zz 4) (jB 5 2 (sT (zw 2) (dY (zw 2) (some (wC (.int 1))) none)) (bT [zz 6,zz 7]) dE lV)))
  (bE (aW (zx (zO df [true,true] (zx (zw 1) (zx (zw 3) zy))) (zx (zO df [true,true] (zx (zw 1) (zx (zw 4) zy))) zy))))))))
def jR:WS:=zP (zz 5) (cF (zO oC [true,true,true] (zx (zw 0) (zx (zw 1) (zx (zw 5) zy)))))
def oK:=uS jR.eq_1
def sM:WF:=eW 4 11 [0,1,2,3]
 (zN (zP (zz 4) (cF (zO mH [true,true,true,true,true] (zx (zw 0) (zx (zw 1) (zx (dY (zw 3) none (some (wC (.int 6)))) (zx (wC (.int 8)) (zx (wC (.int 24)) zy))))))))
  (zN (zP (zz 5) (zw 4))
  (zN (cT (bB (zO bA [true,true] (zx (zw 0) (zx (wC (.int 3)) zy)))) (zz 6) jR)
  (zN (zP (zz 7) (cE (zx (aW (zx (zw 4) (zx (zw 5) zy))) zy)))
  (zN (dU (aJ eI (zO bA [true,true] (zx (zw 0) (zx (wC (.int 3)) zy))) (wC (.int 0))) (wExpr (aQ 7 (aW (zx (zw 4) (zx (zO mH [true,true,true,true,true] (zx (zw 0) (zx (zw 1) (zx (dY (zw 3) none (some (wC (.int 6)))) (zx (wC (.int 8)) (zx (wC (.int 24)) zy)))))) zy))))) aP)
  (zN (zP (zz 8) (wC .non))
  (zN (oF [xO] (zP (zz 8) (cF (zO ff [true,true] (zx (zw 2) (zx (zw 3) zy))))) (zP (zz 8) (wC .non)))
  (zN (dU (aJ eG (zw 8) (wC .non)) (zN (zP (bT [zz 4,zz 5]) (zw 8))
  (zN (wExpr (dA 7 (cE (zx (zw 8) (zx (aW (zx (zw 4) (zx (zw 4) zy))) zy)))))
  (zN (zP (zz 9) (cF (zO oC [true,true,true] (zx (zw 0) (zx (zw 1) (zx (zw 5) zy))))))
  (zN (wExpr (dA 7 (cE (zx (aW (zx (zw 4) (zx (zw 9) zy))) (zx (aW (zx (zw 9) (zx (zw 5) zy))) zy)))))
  (zN (dU (aJ rO (bU (zw 4) (wC (.int 0))) (wC (.int 26))) (wExpr (aQ 7 (aW (zx (aW (zx (zM aN (bU (zw 4) (wC (.int 0))) (wC (.int 1))) (zx (bU (zw 4) (wC (.int 1))) zy))) (zx (aW (zx (zM aN (bU (zw 5) (wC (.int 0))) (wC (.int 1))) (zx (bU (zw 5) (wC (.int 1))) zy))) zy))))) aP)
  (zN (zP (zz 10) (zO bA [true,true] (zx (zw 0) (zx (wB aY (zx (bU (zw 4) (wC (.int 1))) zy)) zy))))
  (wExpr (aQ 7 (aW (zx (aW (zx (bU (zw 4) (wC (.int 0))) (zx (zM aN (dY (bU (zw 4) (wC (.int 1))) none (some (zw 10))) (dY (bU (zw 4) (wC (.int 1))) (some (zM aN (zw 10) (wC (.int 1)))) none)) zy))) (zx (aW (zx (bU (zw 5) (wC (.int 0))) (zx (zM aN (dY (bU (zw 5) (wC (.int 1))) none (some (zw 10))) (dY (bU (zw 5) (wC (.int 1))) (some (zM aN (zw 10) (wC (.int 1)))) none)) zy))) zy))))))))))) aP)
  (bE (zw 7))))))))))
def jQ:WS:=zN (zP (zz 12) (cF (zO de [true,true,true,true] (zx (zw 4) (zx (zw 5) (zx (bU (zw 11) (wC (.int 0))) (zx (bU (zw 11) (wC (.int 1))) zy)))))))
  (dU (oB (lS (kG (sU "bool" (zw 12)))) (aJ cY (zw 12) (zw 10))) (bE (wC (.bl false))) aP)
def kL:=uS jQ.eq_1
def gQ:WS:=zN (zP (zz 10) (cF (zO oD [true,true,true,true] (zx (zw 4) (zx (zw 5) (zx (zw 8) (zx (zw 9) zy)))))))
  (zN (cT (bJ (cE (zx (aW (zx (zw 8) (zx (zw 9) zy))) (zx (aW (zx (zw 9) (zx (zw 8) zy))) zy)))) (zz 11) jQ)
  (dU (aJ cY (zO de [true,true,true,true] (zx (dY (zw 4) (some (wC (.int 1))) none) (zx (zw 5) (zx (zw 8) (zx (zw 9) zy))))) (zO oD [true,true,true,true] (zx (dY (zw 4) (some (wC (.int 1))) none) (zx (zw 5) (zx (zw 8) (zx (zw 9) zy)))))) (bE (wC (.bl false))) aP))
def oJ:=uS gQ.eq_1
def jP:WS:=zN (zP (zz 1) (zO da [true,true] (zx (zw 0) (zx (zw 3) zy))))
  (zN (zP (zz 4) (cF (zO sQ [true,true,true,true] (zx (zw 1) (zx (zw 2) (zx (wC (.int 6)) (zx (wC (.int 6)) zy)))))))
  (zN (zP (zz 5) (cF (zO sN [true,true,true,true] (zx (zw 1) (zx (zw 4) (zx (zw 2) (zx (bU (cE (zx (wC (.int 6)) (zx (wC (.int 6)) (zx (wC (.int 6)) (zx (wC (.int 12)) zy))))) (zO bA [true,true] (zx (zw 1) (zx (wC (.int 4)) zy)))) zy)))))))
  (zN (zP (zz 6) (cF (zO sM [true,true,true,true] (zx (zw 1) (zx (zw 2) (zx (zw 4) (zx (zw 5) zy)))))))
  (zN (zP (zz 7) (zO bA [true,true] (zx (zw 1) (zx (wB aY (zx (zw 6) zy)) zy))))
  (cT (bJ (dY (zM aN (dY (zw 6) (some (zw 7)) none) (dY (zw 6) none (some (zw 7)))) none (some (wC (.int 4))))) (bT [zz 8,zz 9]) gQ)))))
def oI:=uS jP.eq_1
def mF:WF:=eW 1 13 [0]
 (zN (zP (zz 1) (zO da [true,true] (zx (zw 0) (zx (wC (.int 0)) zy))))
  (zN (zP (zz 2) (zO sS [true,true] (zx (zw 1) (zx (zM aN (wC (.int 1)) (zO bA [true,true] (zx (zw 1) (zx (wC (.int 4)) zy)))) zy))))
  (zN (cT (gZ (wC (.int 1)) (wB nN (zx (wC (.int 2)) (zx (wB lL (zx (wC (.int 3)) (zx (wB aY (zx (zw 0) zy)) zy))) zy)))) (zz 3) jP)
  (bE (wC (.bl true))))))
end Law
end
namespace Law
open FL
variable{P:S->List S->Prop}{PX:D->List S->Prop}
set_option hygiene false in
local macro_rules
 |`(tactic|simp! [$xs,*] $[$l:location]?)=>do
  let ls<-("e_C e_V zqC zmj zms e_Un zpl zpF e_Ck zqs zn8 zl0 zmM zkC zkr zq9 zmS zmI e_Or zqy zp3 zpc znI zp8 zng zoL zl6 znS zph znR zk2 zk5 zqV e_gA zrx zo9 e_gv zqE zmm zmU zo1 znu znT e_l0 e_l1 e_l2 e_l3 e_l4 e_l5 e_vv e_vl e_cv e_cl znL e_sh zan zqD e_Ix zqM zqj zob zlH zo5 zpj zpd zoG zqZ zrj zqT zpG zpu zrr zpp e_p0 e_pv e_pl zre e_pA e_b0 e_bv e_bl zn9 zlm zkG zmp zow e_vA zqa e_B e_B1 e_B2 e_MS zqd zq1 e_Ap zpA zql zqo zq7 zpg znO zm0 zrw zlI zkP e_Xt zpN zpK zoo zlL zoT e_Pt zry zqk e_Sl zro zqX zpq zq2 e_nx e_rt e_ex znp zoZ e_If zqm zqH zoJ zmQ zkV zp5 zmt zmY zp2 zno znb zmd e_gN e_gT zoB zpY zpk zo2 zrf znW zlN znn zmJ zlC zlr e_It zrt zpQ zoC zov zqw zp6 e_En zqK zox zoM e_Zi zoK zoI zpv zqY zrs e_R1 zqB zp9 e_R2 zqn zpS zqt zq0 zlU zqu zqJ zoN e_LC zqq zpP zmc zqv zpi zlM zpU e_Em zoS zp1 zqA e_bF zrq zoq zqg e_Rt zoR zps e_Fn e_f0 e_fs e_fl e_fA zpC znh znK znw zpO zmf zoE zmn zpx zop e_lt e_gt e_le e_ge zn6 zon znq zrp zl2 zpZ zru zlK znz zl3 zlF zma zl1 zn5 zpM zoy zqb zpw zrg zpE zqi zp4 zoV zqO zos zqF zpy zqx zpe zpJ zqQ zo4 zrc zrn zqP zo7 zoU zqR zpT zpz zqc zri zqL zrh zot zqh zom zpX zor zra zq6 zou zoX zqf zrl zpr zpa zlY zmh zni zlV zn2 zmy zmA zoa zmF zmo zn4 zlZ znv zmR zme znQ zp7 znM zpV zn0 zmw zrm znr znl e_Ge zoA zqI zpW zpH zo3 zml zmK zlT e_TI zp0 zn7 e_CM zpf e_Ad zpm zpR zpb zof zm7 zlX zm8 zqS e_SA zo0 zo8 zoQ zpo zqW e_Xs zoP zqe zq5 zoW zq4 zlD zrd zmZ zm5 zlP map_some S.toD_sh S.toD_lst qy map_nil qO nil_append List.replicate_succ List.replicate_zero Nat.reduceSub Nat.reduceAdd qz List.take_succ_cons List.take_zero true_and S.toDs_map S.toD_dct Int.reduceEq Int.reduceLT Int.reduceLE decide_true decide_false Bool.not_true Bool.not_false".splitOn " ").toArray.mapM λn=>`(Lean.Parser.Tactic.simpLemma|$(Lean.mkIdent n.toName):ident)
  let ls:=ls++xs.getElems
  `(tactic|simp -implicitDefEqProofs (disch:=first|omega|decide|rfl|(simp only[qo,qq,qt,qv,qD,cC];omega)|(simp only[qo,qq,qt,qv,qD,cC];done)) only[$ls,*] $[$l:location]?)
local macro_rules|`(tactic|lia)=>`(tactic|lia -verbose)
noncomputable section pu
def aF(a s:Int):S:=.lst [.sh (.int a),.sh (.int s)]
def AE{a s m:Int}(L:0<=a)(hs:1<=s)(B:s<=2147483629)(J:0<m)(O:m<18446744073709551616)
  (h:∀r M s',0<=r->r<m->0<=M->1<=s'->s'<=2147483629->P (.sh (.int r)) [aF M s',.sh (.int m)]):bA [aF a s,.sh (.int m)] P PX:=by
 show Ba rfl rfl ?_;simp! [aF];cases Y:decide (0<a)
 .simp! [e_C];show h _ _ _ (Int.emod_nonneg _ ∅) (Int.emod_lt_of_pos _ J) L ∅ ∅
 .simp! [e_C];show h _ _ _ (Int.emod_nonneg _ ∅) (Int.emod_lt_of_pos _ J) (Int.ediv_nonneg L ∅) hs B
def Lw{ns:List Int}{k:Int}(O:0<=k)
  (h:∀a s,0<=a->1<=s->s<=2147483629->P (aF a s) [.sh (.lst (ns.map .int)),.sh (.int k)]):da [.sh (.lst (ns.map .int)),.sh (.int k)] P PX:=by
 show Ba rfl rfl ?_;simp! [length_map];by_cases h1:k<ns.length
 .obtain⟨v,M,_,e⟩:=GV (f:=D.int) O h1;simp! [length_map,h1,decide_true,e];cases J:decide ((10:Int)^(18:Int).toNat<=v)
  .simp! [if_true,false_eq_true,if_false];show h _ _ ⋯ ∅ ∅
  .simp! [if_true];let:(0:Int)<=v:=by
    let:=qU J;let e:(10:Int)^(18:Int).toNat=1000000000000000000:=⋯
    lia
   show h _ _ this ∅ ∅
 .by_cases h2:0<ns.length
  .have L:(0:Int)<ns.length:=by lia
   let#[v,M,_,e]:=GV (f:=D.int) (l:=ns) (z:=k %ns.length) (Int.emod_nonneg _ ∅) (Int.emod_lt_of_pos _ L);simp! [length_map,h1,L,decide_true,decide_false,e];generalize 7919*k+11+v %2147483629*69623=B;cases J:decide ((10:Int)^(18:Int).toNat<=B)
   .simp! [if_true,false_eq_true,if_false];show h _ _ ⋯ ∅ ∅
   .simp! [if_true];let:(0:Int)<=B:=by
     let:=qU J;let e:(10:Int)^(18:Int).toNat=1000000000000000000:=⋯
     lia
    show h _ _ this ∅ ∅
  .have L:¬(0:Int)<ns.length:=by lia
   simp! [length_map,h1,L,decide_true,decide_false];generalize 7919*k+11=B;cases J:decide ((10:Int)^(18:Int).toNat<=B)
   .simp! [if_true,false_eq_true,if_false];show h _ _ ⋯ ∅ ∅
   .simp! [if_true];let:(0:Int)<=B:=by
     let:=qU J;let e:(10:Int)^(18:Int).toNat=1000000000000000000:=⋯
     lia
    show h _ _ this ∅ ∅
def QS{l:List D}(h:(dZ l).isSome=true)(B:l.length<64):cM l=some (.lst ((cX l).map .sh)):=by unfold cM;rw[q5 #[B,.inr (.inr (.inl h))]]
def Rc{A:List Nat}(h:A.length<64):∃B:List Nat,B.Perm A/\B.Pairwise (·<=·)/\cM (A.map sg)=some (.lst ((B.map sg).map .sh)):=by
 let e:A.map sg=(A.map λc=>[c]).map D.str:=by rw[qE];rfl
 let#[B,M,L]:=Pf (DE (A.map sg));show#[B,M,?_,?_]
 .let J:=Gb HV (A.map sg) (by rw[e];show Lo _);rw[L,pairwise_map]at J;show J.imp λ{a b} h=>?_;let h':(!decide (([b]:List Nat)<[a]))=true:=by rw[<-Lc];exact h
  let h2:¬([b]:List Nat)<[a]:=↑h'
  rw[Oe]at h2;lia
 .rw[QS (by rw[Kr];rfl) ↑h,L]
def letters:List Nat:=[97,98,99,100,101,102,103,104,105,106,107,108,109,110,111,112,113,114,115,116,117,118,119,120,121,122]
def QU{Q:Env->Prop}{E:WX}{m:Int}:∀(xs:List D)(a s:Int)(L A:List Nat)(o:Option S),xs.length<=L.length->0<=a->1<=s->s<=2147483629->(A++L).Perm letters->
  (∀a' s'(L' A':List Nat) o',0<=a'->1<=s'->s'<=2147483629->A'.length=A.length+xs.length->(A'++L').Perm letters->Q [some (aF a' s'),some (.sh (.int m)),some (.lst ((L'.map sg).map .sh)),some (.lst ((A'.map sg).map .sh)),o'])->
  aL (zz 4) dE gX xs [some (aF a s),some (.sh (.int m)),some (.lst ((L.map sg).map .sh)),some (.lst ((A.map sg).map .sh)),o] Q E:=by
 intro xs;induction xs with
 |nil=>intro a s L A o h1 ha hs J B h;show h a s L A o ha hs J (by simp) B
 |cons x xs ih=>
  intro a s L A o h1 ha hs J B h;let h2:=B.length_eq;let h7:letters.length=26:=rfl;simp only[qt,qq]at h1 h h2;rw[ay];simp! [pC,e_sh,zan,aF,length_map];show AE ha hs J ?_ ?_ λr a' s' hr h4 h6 h3 Y=>?_
  .lia
  .lia
  simp! [e_sh,zan,aF,length_map];let#[c,hc,hg,_]:=Ew (l:=L) hr h4;show HN hr (by simp only[qo,cC];lia) (Jk (d:=sg c) (by rw[qF,hg];rfl)) ?_;simp! [e_sh,zan,aF,length_map];show#[by simp only[cC];lia,?_];let e1:((L.map sg).map S.sh).eraseIdx r.toNat=((L.eraseIdx r.toNat).map sg).map S.sh:=by rw[ED,ED]
  let e2:((A.map sg).map S.sh)++[S.sh (sg c)]=(((A++[c]).map sg).map S.sh):=by simp
  rw[e1,e2];let O:r.toNat<L.length:=∅
  let hl:(L.eraseIdx r.toNat).length=L.length-1:=List.length_eraseIdx_of_lt O;let h5:L[r.toNat]=c:=by rw[qh O]at hg;show qf hg
  let M:(A++[c]++L.eraseIdx r.toNat).Perm (A++L):=by rw[qp];show List.Perm.append_left A ?_;let:=MH L r.toNat O;rw[h5]at this;show this
  show ih a' s' _ _ _ ∅ h6 h3 Y (M.trans B) λa2 s2 L' A' o' x1 x2 x3 x4 x5=>h a2 s2 L' A' o' x1 x2 x3 (by rw[x4];simp only[qq,qB];lia) x5
def UJ{a s m:Int}(ha:0<=a)(hs:1<=s)(Y:s<=2147483629)(hm:0<=m)(h6:m<=26)
  (h:∀(l:List Nat) M s',l.length=m.toNat->l.Pairwise (·<·)->(∀c∈l,97<=c/\c<=122)->0<=M->1<=s'->s'<=2147483629->P (.sh (.str l)) [aF M s',.sh (.int m)]):sS [aF a s,.sh (.int m)] P PX:=by
 refine Ba rfl rfl ?_;simp! [aF,e_sh,zan];show#[by simp only[cC];lia,?_];let hf:(fromTo 0 m.toNat).length=m.toNat:=Ec;let h5:letters.length=26:=rfl;refine QU (fromTo 0 m.toNat) a s letters [] none (by rw[hf,h5];lia) ha hs Y (List.Perm.refl _)
  λM s' L' A' o' h4 h1 B hA J=>?_
 rw[hf,qv,zero_add]at hA;let h2:A'.Nodup:=(qw.mp (J.nodup_iff.mpr ⋯)).1;let h3:∀c∈A',97<=c/\c<=122:=λc hc=>by
  let:c∈letters:=J.mem_iff.mp (qj _ hc);let L:∀c∈letters,97<=c/\c<=122:=⋯
  show L c this
 let#[A2,hp,O,e]:=Rc (A:=A') ∅;let hl:A2.length=m.toNat:=hp.length_eq.trans hA;simp! [aF,e_sh,zan,e,Kj (show A2.length<=big by simp only[cC];lia)];show h A2 M s' hl (Ur O (hp.nodup_iff.mpr h2)) (λc hc=>h3 c (hp.mem_iff.mp hc)) h4 h1 B
def Tt{Q:Env->Prop}{E:WX}{m many:Int}{col:List Nat}(hc:0<col.length)(h5:col.length<=26):∀(xs:List D)(a s:Int)(A:List Nat)(o:Option S),0<=a->1<=s->s<=2147483629->A.length+xs.length<=1000->
  (∀M s'(L:List Nat) o',0<=M->1<=s'->s'<=2147483629->L.length=A.length+xs.length->(∀z∈L,z∈A\/z∈col)->Q [some (aF M s'),some (.sh (.str col)),some (.sh (.int m)),some (.sh (.int many)),some (.lst ((L.map sg).map .sh)),o'])->
  aL (zz 5) dE gW xs [some (aF a s),some (.sh (.str col)),some (.sh (.int m)),some (.sh (.int many)),some (.lst ((A.map sg).map .sh)),o] Q E:=by
 intro xs;induction xs with
 |nil=>intro a s A o ha hs B h3 h;show h a s A o ha hs B (by simp) λz O=>.inl O
 |cons x xs ih=>
  intro a s A o ha hs B h3 h;simp only[qt]at h3 h;rw[ay];simp! [oZ,e_sh,zan,aF,length_map];show AE ha hs B ∅ ∅ λr M s' hr h1 h4 Y J=>?_;let#[c,h2,_,e]:=Ew (l:=col) hr h1;simp! [e,e_sh,zan,aF,length_map];show#[by simp only[cC];lia,?_];let e2:((A.map sg).map S.sh)++[S.sh (.str [c])]=(((A++[c]).map sg).map S.sh):=by simp[sg]
  rw[e2];show ih M s' _ _ h4 Y J (by simp only[qq,qB];lia) λa2 s2 L o' x1 x2 x3 x4 x5=>h a2 s2 L o' x1 x2 x3 (by rw[x4];simp only[qq,qB];lia) λz O=>?_;rcases x5 z O with q|q
  .rcases qx.mp q with q|q
   .show .inl q
   .rw[qu.mp q];show .inr h2
  .show .inr q
def IU{a s m:Int}{col:List Nat}(ha:0<=a)(hs:1<=s)(M:s<=2147483629)(hm:0<=m)(h6:m<=900)(hc:0<col.length)(h2:col.length<=26)
  (h:∀(l:List Nat) L s',l.length<=m.toNat->(∀z∈l,z∈col)->0<=L->1<=s'->s'<=2147483629->P (.sh (.str l)) [aF L s',.sh (.str col),.sh (.int m)]):mI [aF a s,.sh (.str col),.sh (.int m)] P PX:=by
 show Ba rfl rfl ?_;simp! [aF,e_sh,zan];show AE ha hs M ∅ ∅ λr a1 s1 hr h5 h3 O B=>?_;let h1:(decide (col=[]))=false:=by simp;intro z;rw[z]at hc;simp at hc
 simp! [aF,e_sh,zan,h1,Bool.not_false,if_true,mul_one];show#[by simp only[cC];lia,?_];let hf:(fromTo 0 r.toNat).length=r.toNat:=Ec;show Tt (A:=[]) hc h2 _ a1 s1 none h3 O B (by rw[hf];simp only[qv];lia) λL s' A' o' h4 Y J hA hg=>?_;rw[hf,qv,zero_add]at hA;simp! [aF,e_sh,zan];rw[Kj (by simp only[cC];lia)];simp! [aF,e_sh,zan];show h A' L s' ∅ (λz hz=>(hg z hz).resolve_left (by simp)) h4 Y J
def Sr{a s:Int}{col:List Nat}{B:List Wd}(ha:0<=a)(hs:1<=s)(h1:s<=2147483629)(hc:0<col.length)(r2:col.length<=26)(hB:0<B.length)(k1:B.length<=1000)(hw:∀w∈B,w≠[]/\w.length<=1000/\∀c∈w,c∈col)
  (h:∀(w:Wd) a' s',w≠[]->w.length<=2000->(∀c∈w,c∈col)->0<=a'->1<=s'->s'<=2147483629->P (.sh (.str w)) [aF a' s',.sh (.str col),.lst ((B.map D.str).map .sh)]):sR [aF a s,.sh (.str col),.lst ((B.map D.str).map .sh)] P PX:=by
 show Ba rfl rfl ?_;simp! [aF,e_sh,zan,length_map];show AE ha hs h1 ∅ ∅ λr a1 s1 hr e3 hb e1 h5=>?_;let#[w,h8,_,e]:=GV (f:=λz=>S.sh (D.str z)) (l:=B) hr e3;let e':atI ((B.map D.str).map S.sh) r=some (S.sh (.str w)):=by rw[qE];show e
 let#[h2,hd,M]:=hw w h8;let hl:0<w.length:=qP.mpr h2;simp! [aF,e'];show AE hb e1 h5 ⋯ ⋯ λkd a2 s2 r1 hq hi h1 h4=>?_;simp! [aF];show AE hi h1 h4 ∅ ∅ λr3 a3 s3 e2 h6 hp h9 h3=>?_;let#[c,h7,_,ec]:=Ew (l:=col) e2 h6;simp! [aF,ec];show AE hp h9 h3 ∅ ∅ λp a4 s4 e4 hm Y O J=>?_;simp! [aF];rw[Io w ∅ ∅,FN w e4];let hk:kd=0\/kd=1\/kd=2\/kd=3\/kd=4:=∅
 rcases hk with rfl|rfl|rfl|rfl|rfl
 .simp! [aF];refine h _ _ _ ?_ ?_ (λc hc=>M c (List.mem_of_mem_take hc)) Y O J
  .intro z;let:=congrArg List.length z;rw[qH,qv]at this;lia
  .rw[qH];lia
 .simp! [aF];refine h _ _ _ ?_ ?_ (λc hc=>M c (List.mem_of_mem_drop hc)) Y O J
  .intro z;let:=congrArg List.length z;rw[qG,qv]at this;lia
  .rw[qG];lia
 .simp! [aF];show h _ _ _ (by simp) (by simp;lia -verbose) (λx L=>?_) Y O J;rcases qA.mp L with rfl|L
  .show h7
  .show M x L
 .simp! [aF];show h _ _ _ (by simp) (by simp;lia -verbose) (λx L=>?_) Y O J;rcases qx.mp L with L|L
  .show M x L
  .rw[qu.mp L];show h7
 .simp! [aF];show h _ _ _ (by simp[h2]) (by simp;lia -verbose) (λx L=>?_) Y O J;rcases qx.mp L with L|L<;>show M x L
def lA(col:List Nat)(many J:Nat)(B:List Wd):Prop:=B.length<=many/\B.Nodup/\∀w∈B,w≠[]/\w.length<=J/\∀c∈w,c∈col
def zL(B:List Wd):D:=.tup (B.map D.str)
def TX{a s many J:Int}{col:List Nat}(ha:0<=a)(hs:1<=s)(M:s<=2147483629)(hc:0<col.length)(e3:col.length<=26)(hm:0<=many)(hm2:many<=500)(ho:1<=J)(ho2:J<=500)
  (h:∀(B:List Wd) a' s',lA col many.toNat J.toNat B->0<=a'->1<=s'->s'<=2147483629->P (.sh (zL B)) [aF a' s',.sh (.str col),.sh (.int many),.sh (.int J)]):sQ [aF a s,.sh (.str col),.sh (.int many),.sh (.int J)] P PX:=by
 show Ba rfl rfl ?_;simp! [aF];show AE ha hs M ∅ ∅ λr a1 s1 hr hr2 ha1 hq h9=>?_;let r2:(decide (col=[]))=false:=by simp;intro z;rw[z]at hc;simp at hc
 simp! [aF,r2,if_true,mul_one];show#[by simp only[cC];lia,?_];show Hu (λk U=>∃(a s:Int)(B:List Wd)(o5 o6:Option S),0<=a/\1<=s/\s<=2147483629/\lA col k J.toNat B/\U=[some (aF a s),some (.sh (.str col)),some (.sh (.int many)),some (.sh (.int J)),some (.lst ((B.map D.str).map .sh)),o5,o6]) _ (λk x hk D2 U hI e2 hct hrt hbk=>?_) (λU hI=>?_) #[a1,s1,[],none,none,ha1,hq,h9,#[by simp,by simp,by simp],rfl]
 .obtain⟨a,s,B,o5,o6,ha,hs,M,hB,rfl⟩:=hI;let k2:=(qg.mp hk).1;rw[Ec]at k2;let#[hB1,hi,O]:=hB;simp! [aF,oY];show AE ha hs M ∅ ∅ λr3 a2 s2 r1 e1 ha2 M h8=>?_;let#[c,k3,_,ec]:=Ew (l:=col) r1 e1;simp! [aF,ec];refine IU ha2 M h8 ∅ ∅ hc e3 λw a3 s3 hw1 hb hp h6 h4=>?_
  --what is done with a word
  have put:∀(w:Wd)(a s:Int),0<=a->1<=s->s<=2147483629->w≠[]->w.length<=J.toNat->(∀c∈w,c∈col)->
    (dU (aJ eU (zw 6) (zw 4)) (wExpr (aQ 4 (zw 6))) aP) D2 [some (aF a s),some (.sh (.str col)),some (.sh (.int many)),some (.sh (.int J)),some (.lst ((B.map D.str).map .sh)),some (.sh x),some (.sh (.str w))]:=λw a s ha hs M h1 h2 h3=>by
   simp! [aF,zan,RJ];cases q:decide (w∈B)
   .simp! [length_map];rw[show((B.map D.str).map S.sh)++[S.sh (.str w)]=((B++[w]).map D.str).map S.sh by simp];refine#[by simp only[cC];lia,e2 _ #[a,s,_,_,_,ha,hs,M,#[by simp only[qq,qB];lia,?_,λx hx=>?_],rfl]]
    .show qw.mpr #[hi,by simp,λx hx y hy e=>?_];rw[qu.mp hy]at e;subst e;let:=of_decide_eq_false q;show this hx
    .rcases qx.mp hx with z|z
     .show O x z
     .rw[qu.mp z];show#[h1,h2,h3]
   .simp! [e_C];show e2 _ #[a,s,B,_,_,ha,hs,M,#[∅,hi,O],rfl]
  have L:([c]++w)≠[]/\([c]++w).length<=J.toNat/\∀x∈[c]++w,x∈col:=by
   show#[by simp,by simp;lia,λx hx=>?_];rcases qx.mp hx with z|z
   .rw[qu.mp z];show k3
   .show hb x z
  simp! [aF,zan,Sz,length_cons,length_nil];cases q:decide (B=[])
  .simp! [aF];show AE hp h6 h4 ⋯ ⋯ λr4 a4 s4 hr4 hr42 e4 h5 Y=>?_;simp! [aF];cases q2:decide (r4=0)
   .simp! [e_C];let:=put _ a4 s4 e4 h5 Y L.1 L.2.1 L.2.2;simp! [aF]at this;show this
   .simp! [aF];show Sr e4 h5 Y hc e3 (qP.mpr (of_decide_eq_false q)) ∅ (λw hw=>#[(O w hw).1,by let:=(O w hw).2.1;lia,(O w hw).2.2]) λw2 a5 s5 hn hl k1 ha5 hd h7=>?_;simp! [aF];let hw2l:0<w2.length:=qP.mpr hn;let:=put (aU w2 none (some J)) a5 s5 ha5 hd h7 (λz=>?_) ?_ λc hc=>k1 c (DL hc)
    .simp! [aF]at this;show this
    .let z2:=congrArg List.length z;unfold aU sIx at z2;let:¬J<0:=by lia
     simp only[q8 this,drop_zero,Nat.sub_zero,qH,qv]at z2;lia
    .unfold aU sIx;let:¬J<0:=by lia
     simp only[q8 this,drop_zero,Nat.sub_zero,qH];lia
  .simp! [e_C];let:=put _ a3 s3 hp h6 h4 L.1 L.2.1 L.2.2;simp! [aF]at this;show this
 .obtain⟨a,s,B,o5,o6,ha,hs,M,hB,rfl⟩:=hI;rw[Ec]at hB;simp! [aF,zan];show h B a s #[by let:=hB.1;lia,hB.2] ha hs M
abbrev Mv:=Wd×Int
def fV(m:Mv):D:=.tup [.str m.1,.int m.2]
def Qy(l:List Mv):bI (l.map fV)<=29:=Fj _ λd B=>by let#[m,_,rfl]:=qK.mp B;show 1<=29;decide
def ND{l:List Mv}:cY (.lst (l.map fV)) (.lst [])=some (!l.isEmpty):=by rw[Kk (Qy l),List.isEmpty_map]
def TK{B:List Wd}{t:Wd}{p J:Int}(hB:B.length<=1000)(ht:t.length<=1000)(hp:0<=p)(h9:p<=J)
  (h:∀ms:List Mv,ms.length<=2000->(∀m∈ms,m.1∈B/\0<=m.2/\m.2<=J/\(m.2=p+m.1.length\/m.2<=p))->P (.lst ((ms.map fV).map .sh)) [.sh (zL B),.sh (.str t),.sh (.int p),.sh (.int J)]):sP [.sh (zL B),.sh (.str t),.sh (.int p),.sh (.int J)] P PX:=by
 show Ba rfl rfl ?_;simp! [zL];show Cb (λM U=>∃(ms:List Mv)(o:Option S),ms.length<=2*M.length/\(∀m∈ms,m.1∈B/\0<=m.2/\m.2<=J/\(m.2=p+m.1.length\/m.2<=p))/\U=[some (.sh (zL B)),some (.sh (.str t)),some (.sh (.int p)),some (.sh (.int J)),some (.lst ((ms.map fV).map .sh)),o]) B (λM w h5 D2 U e hI h3 e1 h8 e2=>?_) (λU hI=>?_) #[[],none,by simp,by simp,rfl]
 .obtain⟨ms,o,hl,hm,rfl⟩:=hI;let h6:M.length+1<=B.length:=by rw[<-e];simp only[qq,qt];lia
  let h2:w∈B:=by rw[<-e];simp
  have snd:∀ms:List Mv,ms.length<=2*M.length+1->(∀m∈ms,m.1∈B/\0<=m.2/\m.2<=J/\(m.2=p+m.1.length\/m.2<=p))->
    (dU (dG (aJ xU (zw 2) (wB aY (zx (zw 5) zy))) (aJ eI (dY (zw 1) (some (zM fU (zw 2) (wB aY (zx (zw 5) zy)))) (some (zw 2))) (zw 5))) (wExpr (aQ 4 (aW (zx (zw 5) (zx (zM fU (zw 2) (wB aY (zx (zw 5) zy))) zy))))) aP) D2 [some (.sh (zL B)),some (.sh (.str t)),some (.sh (.int p)),some (.sh (.int J)),some (.lst ((ms.map fV).map .sh)),some (.sh (.str w))]:=λms hl hm=>by
   let O:D2.nx [some (.sh (zL B)),some (.sh (.str t)),some (.sh (.int p)),some (.sh (.int J)),some (.lst ((ms.map fV).map .sh)),some (.sh (.str w))]:=h3 _ #[ms,_,by simp only[qq,qB];lia,hm,rfl];simp! [zL];cases q1:decide ((w.length:Int)<=p)
   .simp! [e_C];show O
   let h7:=qU q1;simp! [zL];cases q2:decide (aU t (some (p-(w.length:Int))) (some p)=w)
   .simp! [e_C];show O
   simp! [length_map];rw[show((ms.map fV).map S.sh)++[S.sh (.tup [.str w,.int (p-w.length)])]=((ms++[(w,p-w.length)]).map fV).map S.sh by simp[fV]];show#[by simp only[cC];lia,h3 _ #[_,_,by simp only[qq,qB];lia,λm h1=>?_,rfl]];rcases qx.mp h1 with z|z
   .show hm m z
   .rw[qu.mp z];show#[h2,by show 0<=p-w.length;lia,by show p-(w.length:Int)<=J;lia,.inr (by show p-(w.length:Int)<=p;lia)]
  simp! [oX,zL];let L:=snd ms ∅ hm;simp! [zL]at L;cases q1:decide (aU t (some p) (some (p+(w.length:Int)))=aU w none (some ((t.length:Int)-p)))
  .simp! [e_C];show L
  simp! [e_C];cases q2:decide (p+(w.length:Int)<=J)
  .simp! [e_C];show L
  have h4:=qU q2;simp! [length_map];rw[show((ms.map fV).map S.sh)++[S.sh (.tup [.str w,.int (p+w.length)])]=((ms++[(w,p+w.length)]).map fV).map S.sh by simp[fV]];show#[by simp only[cC];lia,?_];let Y:=snd (ms++[(w,p+w.length)]) (by simp only[qq,qB];lia) λm h1=>by
   rcases qx.mp h1 with z|z
   .show hm m z
   .rw[qu.mp z];show#[h2,by show 0<=p+(w.length:Int);lia,h4,.inl rfl]
  simp! [zL]at Y;show Y
 .obtain⟨ms,o,hl,hm,rfl⟩:=hI;simp! [zL];show h ms ∅ hm
def Gz{t w:Wd}{p g:Int}(J:0<=p)(B:p<=t.length)(L:g=p+w.length):((aU t none (some p)++w)++aU t (some g) none).length=max g.toNat t.length:=by let#[k,rfl]:=Int.eq_ofNat_of_zero_le J;let M:k<=t.length:=ofNat_le.mp B;rw[<-Int.natCast_add]at L;subst L;rw[Io t J B,FN t (Int.natCast_nonneg _)];simp only[qq,qH,qG,qW];rw[min_eq_left M,Nat.add_comm,Nat.sub_add_eq_max,Nat.max_comm]
def Si{a s J:Int}{col:List Nat}{B:List Wd}(ha:0<=a)(hs:1<=s)(O:s<=2147483629)(hc:0<col.length)(hc2:col.length<=26)(hm:0<=J)(hm2:J<=500)(hB:B.length<=1000)(hw:∀w∈B,w.length<=1000/\∀c∈w,c∈col)
  (h:∀(t:Wd) a' s',t.length<=J.toNat->(∀c∈t,c∈col)->0<=a'->1<=s'->s'<=2147483629->P (.sh (.str t)) [aF a' s',.sh (zL B),.sh (.str col),.sh (.int J)]):sO [aF a s,.sh (zL B),.sh (.str col),.sh (.int J)] P PX:=by
 show Ba rfl rfl ?_;simp! [aF,length_cons,length_nil];show AE ha hs O ⋯ ⋯ λr a1 s1 hr h5 h1 Y L=>?_;simp! [aF];show#[by simp only[cC];lia,?_];show Cb (toD:=λk:Nat=>D.int (0+(k:Int))) (λhx U=>∃(a s:Int)(t:Wd)(p:Int)(o6 o7 o8 o9 h2:Option S),0<=a/\1<=s/\s<=2147483629/\t.length<=J.toNat/\(∀c∈t,c∈col)/\0<=p/\p<=t.length/\U=[some (aF a s),some (.sh (zL B)),some (.sh (.str col)),some (.sh (.int J)),some (.sh (.str t)),some (.sh (.int p)),o6,o7,o8,o9,h2]) (List.range _) (λhx k post D2 U e hI h7 hct hrt hbk=>?_) (λU hI=>?_) #[a1,s1,[],0,none,none,none,none,none,h1,Y,L,by simp,by simp,⋯,by simp,rfl]
 .obtain⟨a,s,t,p,o6,o7,o8,o9,h2,ha,hs,O,ht,M,hp,h6,rfl⟩:=hI;simp! [aF,oW];refine TK hB ∅ hp ∅ λms h8 hm=>?_
  --the choice among some moves
  have h4:∀ms:List Mv,ms.length<=2000->(∀m∈ms,m.1∈B/\0<=m.2/\m.2<=J/\(m.2=p+m.1.length\/m.2<=p))->
    (dU (aJ cY (zw 7) (cE zy)) (zN (zP (bT [zz 8,zz 9]) (bU (zw 7) (zO bA [true,true] (zx (zw 0) (zx (wB aY (zx (zw 7) zy)) zy)))))
  (zN (dU (aJ lB (zw 9) (zw 5)) (zP (zz 4) (zM aN (zM aN (dY (zw 4) none (some (zw 5))) (zw 8)) (dY (zw 4) (some (zw 9)) none))) aP)
  (zP (zz 5) (zw 9)))) aP) D2 [some (aF a s),some (.sh (zL B)),some (.sh (.str col)),some (.sh (.int J)),some (.sh (.str t)),some (.sh (.int p)),some (.sh (.int (0+(k:Int)))),some (.sh (.lst (ms.map fV))),o8,o9,h2]:=λms h8 hm=>by
   simp! [aF,ND];cases q:ms.isEmpty
   .simp! [aF,length_map];let e3:0<ms.length:=by
     cases ms with
     |nil=>cases q
     |cons _ _=>simp
    show AE ha hs O ∅ ∅ λr a1 s1 hr h5 h1 Y L=>?_;let#[m,h3,_,em]:=GV (f:=fV) hr h5;let#[r1,hk,hg1,hg2]:=hm m h3;let#[hw1,hb]:=hw m.1 r1;simp! [aF,em,fV,length_cons,length_nil];cases q2:decide (p<m.2)
    .simp! [e_C];let:=of_decide_eq_false q2;show h7 _ #[a1,s1,t,m.2,_,_,_,_,_,h1,Y,L,ht,M,hk,∅,rfl]
    .have q2':=qU q2;let r2:m.2=p+m.1.length:=by lia
     let e4:=Gz hp h6 r2;let l1:(aU t none (some p)).length<=1000:=le_trans (Ed _ _ _) ∅;let l2:(aU t (some m.2) none).length<=1000:=le_trans (Ed _ _ _) ∅;simp! [length_append];show h7 _ #[a1,s1,(aU t none (some p)++m.1)++aU t (some m.2) none,m.2,_,_,_,_,_,h1,Y,L,by rw[e4];lia,λc hc=>?_,hk,by rw[e4];lia,rfl];rcases qx.mp hc with z|z
     .rcases qx.mp z with z|z
      .show M c (DL z)
      .show hb c z
     .show M c (DL z)
   .simp! [e_C];show h7 _ #[a,s,t,p,_,_,_,_,_,ha,hs,O,ht,M,hp,h6,rfl]
  simp! [aF,zan];cases q:decide ((4:Int)<0+(k:Int))
  .simp! [e_C];let:=h4 ms h8 hm;simp! [aF]at this;show this
  .simp! [e_C];refine Ni (n:=11) (toD:=fV) ms (λm=>if decide (p<m.2)=true then some (.sh (fV m))else none) (λm h3 l o K hl hK=>?_) λo=>?_
   .cases q3:decide (p<m.2)
    .simp! [eL,lq,kN,fV,q3];rw[q3]at hK;let:=hK (some (.sh (fV m)));rw[q8 ⋯,toList_none,qz]at this;show this
    .simp! [eL,lO,kN,fV,q3];rw[q3]at hK;show#[by simp only[cC];lia,hK _]
   .rw[JJ (λm:Mv=>decide (p<m.2)) (λm=>S.sh (fV m)),show((ms.filter λm:Mv=>decide (p<m.2)).map λm=>S.sh (fV m))=((ms.filter λm:Mv=>decide (p<m.2)).map fV).map S.sh by rw[qE];rfl];simp! [zan];let:=h4 (ms.filter λm:Mv=>decide (p<m.2)) (le_trans (length_filter_le _ _) h8) λm h3=>hm m (mem_filter.mp h3).1;simp! [aF]at this;show this
 .obtain⟨a,s,t,p,o6,o7,o8,o9,h2,ha,hs,O,ht,M,hp,h6,rfl⟩:=hI;simp! [aF];cases q:decide (t=[])
  .have e3:0<t.length:=qP.mpr (of_decide_eq_false q);simp! [aF];show AE ha hs O ⋯ ⋯ λr a1 s1 hr h5 h1 Y L=>?_;simp! [aF];cases q2:decide (r=0)
   .simp! [e_C];show h t a1 s1 ht M h1 Y L
   .simp! [aF];show AE h1 Y L ∅ ∅ λx a2 s2 hi hx1 k3 O e1=>?_;simp! [aF];show AE k3 O e1 ∅ ∅ λr3 a3 s3 hq e2 k2 hd h9=>?_;let#[c,k1,_,ec]:=Ew (l:=col) hq e2;let l1:(aU t none (some x)).length<=1000:=le_trans (Ed _ _ _) ∅;let l2:(aU t (some (x+1)) none).length<=1000:=le_trans (Ed _ _ _) ∅;let l3:=Gz (t:=t) (w:=[c]) (p:=x) (g:=x+1) hi ∅ (by simp);simp! [aF,ec,length_append,length_cons,length_nil];show h _ a3 s3 (by rw[l3];lia) (λy hy=>?_) k2 hd h9;rcases qx.mp hy with z|z
    .rcases qx.mp z with z|z
     .show M y (DL z)
     .rw[qu.mp z];show k1
    .show M y (DL z)
  .simp! [e_C];show h t a s ht M ha hs O
def Uh{B:List Wd}{w:Wd}{l:List Tr}(M:(dC B w).Perm l)(J:l.length<64):cM (l.map jC)=some (.lst (((dC B w).map jC).map .sh)):=by
 let e:∀l:List Tr,l.map jC=(l.map yB).map tI:=λl=>by rw[qE];rfl
 let L:∀d∈l.map jC,iU [false,false,false] d:=λd O=>by let#[t,_,rfl]:=qK.mp O;trivial
 unfold cM;rw[q5 #[by rw[qo];show J,.inr (.inr (.inr #[[false,false,false],(λz=>nomatch z),L]))],FV (Fy _) (m:=(dC B w).map jC) L (M.map _)];show pairwise_map.mpr (zfo.imp λ{t u} h=>?_);show dX (tI (yB t)) (tI (yB u))=true;rw[OD];grind[yB,cons_lt_cons_iff]
structure cq(B:List Wd)(w:Wd):Prop where
 nd:B.Nodup
 ne:∀x∈B,x≠[]
 le:∀x∈B,x.length<=1000
 six:B.length<=6
 tw:w.length<=12
def UY{B:List Wd}{w:Wd}(J:cq B w)
  (h:P (.lst (((dC B w).map jC).map .sh)) [.sh (zL B),.sh (.str w)]):fk [.sh (zL B),.sh (.str w)] P PX:=by
 let h1:=J.tw;let h6:=J.six;let M:((List.range w.length).flatMap (eN B w)).length<64:=by rw[<-(LU J.nd J.ne).length_eq];show Ls J.nd J.ne h6 h1
 let he:(List.range w.length).flatMap (λi=>(eN B w i).map λt=>S.sh (jC t))=(((List.range w.length).flatMap (eN B w)).map jC).map S.sh:=by simp[List.map_flatMap,Function.comp_def]
 show Ba rfl rfl ?_;simp! [e_C];show#[by simp only[cC];lia,?_];rw[CD rfl];show bf (n:=2) (k:=3) (List.range w.length) (λi=>(eN B w i).map λt=>S.sh (jC t)) (λi hi l vs K Y hl hK=>?_) (λvs Y=>?_)
 .obtain⟨a,b,c,rfl⟩:=CA Y;rw[he,qo,qo,qo]at hl;simp! [eL,lO,tM,zL,RU];refine Vq (λl o o'=>[some (.sh (zL B)),some (.sh (.str w)),some (.lst l),some (.sh (.int (i:Int))),o,o']) (List.range B.length) (λk=>if decide (hV w i (i+((B[k]?).getD []).length)=(B[k]?).getD [])=true then some (S.sh (jC (i,i+((B[k]?).getD []).length,k)))else none) (λk hk l2 o o' K2 L O=>?_) λo o'=>?_
  .let hm:(List.range B.length).filterMap (λk=>if decide (hV w i (i+((B[k]?).getD []).length)=(B[k]?).getD [])=true then some (S.sh (jC (i,i+((B[k]?).getD []).length,k)))else none)=(eN B w i).map λt=>S.sh (jC t):=by unfold eN;rw[List.map_filterMap];show IE λx _=>?_;split<;>rfl
   rw[hm,qo]at L;let ec:aU w (some (i:Int)) (some ((i:Int)+((((B[k]?).getD []).length:Nat):Int)))=hV w i (i+((B[k]?).getD []).length):=by rw[<-Int.natCast_add];show PK w _ _
   cases q:decide (hV w i (i+((B[k]?).getD []).length)=(B[k]?).getD [])
   .simp! [eL,zL,length_cons,length_nil,ec,q,lq];let:=O (some (.sh (.int (k:Int)))) (some (.sh (.str ((B[k]?).getD []))));rw[q,q8 ⋯,toList_none,qz]at this;show this
   .simp! [eL,zL,length_cons,length_nil,ec,q,lO,tN];let:=O (some (.sh (.int (k:Int)))) (some (.sh (.str ((B[k]?).getD []))));rw[q,q5 rfl,Option.toList_some]at this L;simp only[qB]at L;show#[by simp only[cC];lia,?_];rw[lr,Int.natCast_add]at this;show this
  .let hm:(List.range B.length).filterMap (λk=>if decide (hV w i (i+((B[k]?).getD []).length)=(B[k]?).getD [])=true then some (S.sh (jC (i,i+((B[k]?).getD []).length,k)))else none)=(eN B w i).map λt=>S.sh (jC t):=by unfold eN;rw[List.map_filterMap];show IE λx _=>?_;split<;>rfl
   rw[hm];show hK _ rfl
 .obtain⟨a,b,c,rfl⟩:=CA Y;rw[he];simp! [zan,Uh (LU J.nd J.ne) M];show h
def uW(t:Tr):D:=.tup [.int (t.1:Int),.int (t.2.1:Int)]
def UN{n i j:Nat}{L:Nat->Nat}(hn:n<=60)(hi:i<=n)(M:j<=n)
  (h:P (.lst ((cG n (eE L i j)).map .sh)) [.sh (.lst (cG n L)),.sh (.int (i:Int)),.sh (.int (j:Int))]):fg [.sh (.lst (cG n L)),.sh (.int (i:Int)),.sh (.int (j:Int))] P PX:=by
 show Ba rfl rfl ?_;simp! [Ij hi,Ij M,Jy,Jz,length_cons,length_nil];rw[show cG n L=(List.range (n+1)).map λp=>zQ (L p) from rfl];show GB (n:=5) (List.range (n+1)) (λp=>.sh (zQ (eE L i j p))) (λp O l o K J B=>?_) λo=>?_
 .rw[qD]at J;let e:zQ (eE L i j p)=.int (if decide (((L p:Nat):Int)=((max (L i) (L j):Nat):Int))=true then((min (L i) (L j):Nat):Int)else((L p:Nat):Int)):=by
   unfold eE zQ;by_cases q:L p=max (L i) (L j)
   .rw[q5 q,q5 (qR ∅)]
   .rw[q8 q,q8 (by rw[qT];lia)]
  cases q:decide (((L p:Nat):Int)=((max (L i) (L j):Nat):Int))<;>rw[e,q]at B<;>simp! [eL,lO,tH,zQ,q]
  .show#[by simp only[cC];lia,B _]
  .show#[by simp only[cC];lia,B _]
 .rw[show((List.range (n+1)).map λp=>S.sh (zQ (eE L i j p)))=(cG n (eE L i j)).map S.sh by unfold cG;rw[qE];rfl];simp! [e_C];show h
def Vk{n:Nat}{L:Nat->Nat}{ts:List Tr}(hn:n<=60)(ht:∀t∈ts,t.1<=n/\t.2.1<=n)
  (h:P (.sh (.tup (cG n (dH ts L)))) [.sh (.tup (cG n L)),.sh (.lst (ts.map uW))]):fh [.sh (.tup (cG n L)),.sh (.lst (ts.map uW))] P PX:=by
 show Ba rfl rfl ?_;simp! [zan];show Cb (λB U=>∃O M,U=[some (.sh (.tup (cG n L))),some (.sh (.lst (ts.map uW))),some (.sh (.lst (cG n (dH B L)))),O,M]) ts (λB t h1 D2 U e hI Y h3 h2 h4=>?_) (λU hI=>?_) #[none,none,rfl]
 .obtain⟨O,M,rfl⟩:=hI;let J:=ht t (by rw[<-e];simp);simp! [uW,length_cons,length_nil,tJ];show UN hn J.1 J.2 ?_;simp! [zan];show Y _ #[some (.sh (.int (t.1:Int))),some (.sh (.int (t.2.1:Int))),?_];rw[Nc];rfl
 .obtain⟨O,M,rfl⟩:=hI;simp! [e_C];show h
def Tu{B:List Wd}{w:Wd}(J:cq B w)
  (h:P (.sh (.tup (cG w.length (eQ B w)))) [.sh (zL B),.sh (.str w)]):fj [.sh (zL B),.sh (.str w)] P PX:=by
 let h2:=J.tw;let M:∀t∈dC B w,t.1<=w.length/\t.2.1<=w.length:=λt O=>by let:=zbF.mp (zcx.mp O).1;lia
 let h1:=Ls J.nd J.ne J.six J.tw;show Ba rfl rfl ?_;simp! [e_C];show#[by simp only[cC];lia,?_];rw[CD (n:=w.length+1) ∅];show#[by rw[qo,qD];simp only[cC];lia,?_];show UY J ?_;simp! [zan];show Vm (n:=2) (dC B w) (λt=>.sh (uW t)) (λt O l o1 o2 Y K hl hK=>?_) λo1 o2 Y=>?_
 .simp! [eL,lO,tL,lr,length_cons,length_nil];show#[by simp only[cC];lia,hK _ _ _]
 .rw[show((dC B w).map λt=>S.sh (uW t))=((dC B w).map uW).map S.sh by rw[qE];rfl];simp! [zan];show Vk (n:=w.length) (L:=λp=>p) (ts:=dC B w) ∅ M ?_;simp! [e_C];show h
def Pq(l:List D):cN 0 l=(List.range l.length).map λ(k:Nat)=>D.tup [.int (k:Int),(l[k]?).getD .non]:=by let:=IC (λd:D=>d) l 0;rw[List.map_id']at this;rw[this];show map_congr_left λi _=>?_;rw[zero_add];cases l[i]?<;>rfl
def nL(w:Wd)(p:Nat):D:=((w.map λc=>D.str [c])[p]?).getD .non
def nZ(w:Wd)(f:Nat->Bool)(p:Nat):List D:=[.tup [.int (2*(p:Int)),nL w p,.int (2*(p:Int)+2+if f p then 1 else 0)],.tup [.int (2*(p:Int)+1),nL w p,.int (2*(p:Int)+3-if f p then 1 else 0)]]
def gK(w:Wd)(f:Nat->Bool):D:=.tup [.int (2*(w.length:Int)+2),.tup ((List.range w.length).flatMap (nZ w f))]
def Ik(w:Wd)(f:Nat->Bool)(l:List Nat):(l.flatMap (nZ w f)).length=2*l.length:=by
 induction l with
 |nil=>rfl
 |cons a r B=>rw[flatMap_cons,qq,B];simp[nZ];lia
def Mc{w:Wd}{f:Nat->Bool}(h7:w.length<=60)
  (h:P (.sh (gK w f)) [.sh (.str w),.sh (.lst ((List.range w.length).map λp=>D.bl (f p)))]):df [.sh (.str w),.sh (.lst ((List.range w.length).map λp=>D.bl (f p)))] P PX:=by
 show Ba rfl rfl ?_;simp! [Pq,length_map];show Cb (λB U=>∃Y O M:Option S,U=[some (.sh (.str w)),some (.sh (.lst ((List.range w.length).map λp=>D.bl (f p)))),some (.lst ((B.flatMap (nZ w f)).map .sh)),Y,O,M]) (List.range w.length) (λB k h2 D2 U e hI J h5 h3 h6=>?_) (λU hI=>?_) #[none,none,none,rfl]
 .obtain⟨Y,O,M,rfl⟩:=hI;let#[h4,h1]:=IR e;let L:=Ik w f B;let ea:atI ((List.range w.length).map λp=>D.bl (f p)) (k:Int)=some (.bl (f k)):=by unfold atI ixN;rw[q5 ∅,q5 (by simp;lia -verbose)];simp[h1]
  let hm:(B++[k]).flatMap (nZ w f)=B.flatMap (nZ w f)++nZ w f k:=by simp
  rw[hm]at J;cases q:f k;all_goals
   simp! [sV,length_cons,length_nil,ea,q];show#[by rw[qo,L];simp only[cC];lia,by rw[qq,qo,L];simp only[cC,qB];lia,J _ #[some (.sh (.int (k:Int))),some (.sh (nL w k)),some (.sh (.int (if f k then 1 else 0))),?_]];simp[nZ,nL,q]
 .obtain⟨Y,O,M,rfl⟩:=hI;let L:=Ik w f (List.range w.length);rw[qD]at L;simp! [length_cons,length_nil,zan];show h
def xB(B:List Wd)(w:Wd):Bool:=decide (eQ B w w.length=0)
def rN(B:List Wd)(w:Wd)(p:Nat):Bool:=!decide (decide (eQ B w p=0)=decide (eQ B w (p+1)=0))
def mM(B:List Wd)(w:Wd):D:=.tup [gK w λ_=>false,gK w (rN B w)]
def Lf:∀l m:List D,dF l m=List.zipWith (λd e=>D.tup [d,e]) l m
 |[],m=>by cases m<;>rfl
 |_::_,[]=>rfl
 |d::l,e::m=>by rw[List.zipWith_cons_cons,<-Lf l m];rfl
def OV(n:Nat)(f:Nat->Nat):dF (cG n f) (aU (cG n f) (some 1) none)=(List.range n).map λp=>D.tup [zQ (f p),zQ (f (p+1))]:=by
 rw[FN _ ⋯,Lf];apply ext_getElem?;intro j;by_cases J:j<n
 .let h1:(cG n f)[j]?=some (zQ (f j)):=by simp[cG,show j<n+1 by lia]
  let h2:((cG n f).drop (1:Int).toNat)[j]?=some (zQ (f (j+1))):=by rw[List.getElem?_drop];simp[cG,Nat.add_comm 1 j,show j+1<n+1 by lia]
  rw[List.getElem?_zipWith,h1,h2];simp[J]
 .let B:=LD (n:=n) (f:=f);rw[qQ (by simp[B];lia),qQ (by simp;lia -verbose)]
def Rg{n:Nat}{f:Nat->Nat}:atI (cG n f) (-1)=some (.int ((f n:Nat):Int)):=by
 let B:atI (cG n f) (-1)=atI (cG n f) ((n:Nat):Int):=by unfold atI;rw[LD];congr 1;unfold ixN;rw[q8 ⋯,q5 ∅,q5 ∅,q5 ∅];congr 1;lia
 rw[B,Ij (q9 _)]
def Uj{B:List Wd}{w:Wd}(M:cq B w)
  (h1:xB B w=true->PX (.exc xO [] []) [.sh (zL B),.sh (.str w)])(h2:xB B w=false->P (.sh (mM B w)) [.sh (zL B),.sh (.str w)]):ff [.sh (zL B),.sh (.str w)] P PX:=by
 let h3:=M.tw;show Ba rfl rfl ?_;simp! [e_C];show Tu M ?_;simp! [zan];let O:∀n:Nat,decide (((n:Nat):Int)=0)=decide (n=0):=λn=>by simp
 simp! [Rg];rw[O];cases q:decide (eQ B w w.length=0)
 .simp! [e_C];refine GB (n:=5) w (toD:=λc=>D.str [c]) (λ_=>.sh (.bl false)) (λc hc l o K L J=>?_) λo=>?_
  .simp! [eL,lO,sX];show#[by simp only[cC];lia,J _]
  .simp! [zan];rw[OV];refine Vn (n:=5) (List.range w.length) (toD:=λp=>D.tup [zQ (eQ B w p),zQ (eQ B w (p+1))]) (λp=>.sh (.bl (rN B w p))) (λp hp l o o' K L J=>?_) λo o'=>?_
   .simp! [eL,lO,sW,zQ,O,length_cons,length_nil];show#[by simp only[cC];rw[qD]at L;lia,J _ _]
   .let ew:List.map S.toD (List.map (λ_=>S.sh (D.bl false)) w)=(List.range w.length).map λ_=>D.bl false:=by rw[qE];apply ext_getElem?;intro j;by_cases Y:j<w.length<;>simp[Y]
    let ec:List.map S.toD (List.map (λp=>S.sh (D.bl (rN B w p))) (List.range w.length))=(List.range w.length).map λp=>D.bl (rN B w p):=by rw[qE];rfl
    simp! [zan,ew,ec];show Mc (f:=λ_=>false) ∅ ?_;simp! [zan];show Mc (f:=rN B w) ∅ ?_;simp! [zan,length_cons,length_nil];show h2 q
 .simp! [e_C];show h1 q
abbrev St:=Int×Nat×Int
def bZ(t:St):D:=.tup [.int t.1,.str [t.2.1],.int t.2.2]
def gv:List Bool:=[false,true,false]
def Fz(L:List St):bO (L.map bZ)=true:=by unfold bO;rw[or_eq_true];show .inr (qI.mpr λd B=>?_);let#[t,_,rfl]:=qK.mp B;rfl
def JR{P:St->Prop}:∀{l:List D},(∀d∈l,∃t,d=bZ t/\P t)->∃sts:List St,l=sts.map bZ/\∀t∈sts,P t
 |[],_=>#[[],rfl,λ_ z=>nomatch z]
 |d::l,h=>by
  let#[t,rfl,J]:=h d qm;let#[sts,rfl,L]:=JR (l:=l) λe M=>h e (qk _ M);show#[t::sts,rfl,λu B=>?_];rcases qA.mp B with rfl|z
  .show J
  .show L u z
def Lv{P:St->Prop}{L:List St}(hL:∀t∈L,P t)(O:(aH (L.map bZ)).length<64):∃sts:List St,cM (aH (L.map bZ))=some (.lst ((sts.map bZ).map .sh))/\sts.length=(aH (L.map bZ)).length/\(∀t∈sts,P t)/\(sts.map bZ).Pairwise (dX · ·=true)/\(sts.map bZ).Nodup:=by
 let Y:∀d∈aH (L.map bZ),∃t,d=bZ t/\P t:=λd J=>by let#[t,ht,rfl]:=qK.mp (zbs.mp J);show#[t,rfl,hL t ht]
 let M:=DE (aH (L.map bZ));let#[sts,e,hs]:=JR (P:=P) (l:=cX (aH (L.map bZ))) λd J=>Y d (M.mem_iff.mp J);let B:∀d∈aH (L.map bZ),iU gv d:=λd J=>by let#[t,rfl,_]:=Y d J;trivial
 show#[sts,?_,?_,hs,?_,?_]
 .unfold cM;rw[q5 #[O,.inr (.inr (.inr #[gv,λz=>(nomatch z),B]))],e]
 .let:=M.length_eq;rw[e,qo]at this;show this
 .rw[<-e];show Gb (Fy gv) _ B
 .rw[<-e];show M.nodup_iff.mpr (Gd _)
def bS(many:Int)(sts:List St):D:=.tup [.int many,.tup (sts.map bZ)]
def iO(many:Int)(col B:List Nat)(t:St):Prop:=(0<=t.1/\t.1<many)/\(0<=t.2.2/\t.2.2<many)/\(t.2.1∈col\/t.2.1∈B)
def lQ(L:List St):S:=.lst ((L.map bZ).map .sh)
def HP(L:List St)(t:St):(L.map bZ).map S.sh++[S.sh (.tup [.int t.1,.str [t.2.1],.int t.2.2])]=((L++[t]).map bZ).map S.sh:=by simp[bZ]
def QQ{D':Ends}{many:Int}{col O:List Nat}{s3 s4 s7 Y:Option S}(hm:1<=many)(e2:many<=1000):∀(xs:List Nat)(a s x:Int)(L:List St)(J B:Option S),0<=a->1<=s->s<=2147483629->0<=x->x<many->(∀c∈xs,c∈O)->L.length+xs.length<=1000->(∀t∈L,iO many col O t)->
  (∀a' s' x'(L':List St) J B,0<=a'->1<=s'->s'<=2147483629->L'.length=L.length+xs.length->(∀t∈L',iO many col O t)->D'.nx [some (aF a' s'),some (.sh (.str col)),some (.sh (.str O)),s3,s4,some (.sh (.int many)),some (lQ L'),s7,some (.sh (.int x')),J,B,Y])->
  cL (zz 9) gU (xs.map sg) D' [some (aF a s),some (.sh (.str col)),some (.sh (.str O)),s3,s4,some (.sh (.int many)),some (lQ L),s7,some (.sh (.int x)),J,B,Y]:=by
 intro xs;induction xs with
 |nil=>intro a s x L J B ha hs M hx h6 hc hl hL h;show h a s x L J B ha hs M (by simp) hL
 |cons c xs ih=>
  intro a s x L J B ha hs M hx h6 hc hl hL h;rw[qy,ku];simp only[qt]at hl h;simp! [oV,aF,lQ,sg];show AE ha hs M ∅ ∅ λr a' s' hr h8 e1 h9 h7=>?_;simp! [aF,lQ,length_map];show#[by simp only[cC];lia,?_];rw[HP L (x,c,r)];show ih a' s' r (L++[(x,c,r)]) _ _ e1 h9 h7 hr h8 (λd hd=>hc d (qk _ hd)) (by rw[qq,qB];lia) (λt ht=>?_) λa2 s2 x2 L' J B h1 h2 h3 h4 h5=>h a2 s2 x2 L' J B h1 h2 h3 (by rw[h4,qq,qB];lia) h5;rcases qx.mp ht with z|z
  .show hL t z
  .rw[qu.mp z];show#[#[hx,h6],#[hr,h8],.inr (hc c qm)]
def RI{D':Ends}{many M:Int}{col Y:List Nat}{s3 s7 s8 s9 O J:Option S}(hM:0<=M)(h8:M<=60){a s:Int}{L:List St}(ha:0<=a)(hs:1<=s)(B:s<=2147483629)(hl:L.length<=150)(hL:∀t∈L,iO many col Y t)
  (h:∀a' s'(L':List St),0<=a'->1<=s'->s'<=2147483629->L'.length<=150->((aH (L'.map bZ)).length:Int)<=M->(∀t∈L',iO many col Y t)->D'.nx [some (aF a' s'),some (.sh (.str col)),some (.sh (.str Y)),s3,some (.sh (.int M)),some (.sh (.int many)),some (lQ L'),s7,s8,s9,O,J]):
  gY (aJ lB (wB iT (zx (wB gD (zx (zw 6) zy)) zy)) (zw 4)) gT D' [some (aF a s),some (.sh (.str col)),some (.sh (.str Y)),s3,some (.sh (.int M)),some (.sh (.int many)),some (lQ L),s7,s8,s9,O,J]:=by
 show Nz (λm U=>∃(a s:Int)(L:List St),0<=a/\1<=s/\s<=2147483629/\L.length<=150/\m=L.length/\(∀t∈L,iO many col Y t)/\U=[some (aF a s),some (.sh (.str col)),some (.sh (.str Y)),s3,some (.sh (.int M)),some (.sh (.int many)),some (lQ L),s7,s8,s9,O,J]) _ #[a,s,L,ha,hs,B,hl,rfl,hL,rfl] λm U hJ=>?_;let#[a,s,L,ha,hs,B,hl,rfl,hL,rfl]:=hJ;simp! [lQ,zan,length_map,EX (l:=L.map bZ) #[Fz L,by rw[length_map];show hl]];let h4:=Ho (L.map bZ);rw[qo]at h4;cases q:decide (M<((aH (L.map bZ)).length:Int))
 .simp! [fc];show h a s L ha hs B hl (by let:=of_decide_eq_false q;lia) hL
 .let q':=qU q;simp! [eh,oR,aF,length_map];show AE ha hs B ∅ ∅ λr a' s' hr h7 h5 h3 h1=>?_;simp! [aF,length_map];let h2:r.toNat<L.length:=by lia
  show HN hr (by simp only[qo,cC];lia) (Jk (d:=bZ L[r.toNat]) (by rw[qF,qh h2];rfl)) ?_;simp! [aF];let h6:(L.eraseIdx r.toNat).length=L.length-1:=List.length_eraseIdx_of_lt h2;show#[L.length-1,∅,a',s',L.eraseIdx r.toNat,h5,h3,h1,∅,∅,λt ht=>hL t (List.mem_of_mem_eraseIdx ht),?_];rw[ED,ED]
def Mz{a s R M:Int}{col Y:List Nat}(ha:0<=a)(hs:1<=s)(B:s<=2147483629)(hR:0<R)(hR2:R<=900)(hM:0<=M)(hM2:M<=60)(hc:0<col.length)(hc2:col.length<=26)(hw:Y.length<=25)
  (h:∀(many:Int)(sts:List St) a' s',1<=many->many<=R->(sts.length:Int)<=M->(∀t∈sts,iO many col Y t)->(sts.map bZ).Pairwise (dX · ·=true)->(sts.map bZ).Nodup->0<=a'->1<=s'->s'<=2147483629->P (.sh (bS many sts)) [aF a' s',.sh (.str col),.sh (.str Y),.sh (.int R),.sh (.int M)]):
  mH [aF a s,.sh (.str col),.sh (.str Y),.sh (.int R),.sh (.int M)] P PX:=by
 show Ba rfl rfl ?_;simp! [aF];show AE ha hs B hR ∅ λr a1 s1 hr hr2 k2 hd h9=>?_;simp! [aF];show AE k2 hd h9 ⋯ ⋯ λr2 a2 s2 hr20 hr22 k1 hs2' h8=>?_;simp! [aF];show#[by simp only[cC];lia,?_];let hne:(decide (col=[]))=false:=by simp;intro z;rw[z]at hc;simp at hc
 show Hu (λk U=>∃(a s:Int)(L:List St)(o7 o8 o9 J:Option S),0<=a/\1<=s/\s<=2147483629/\L.length=k*Y.length/\(∀t∈L,iO (1+r) col Y t)/\U=[some (aF a s),some (.sh (.str col)),some (.sh (.str Y)),some (.sh (.int R)),some (.sh (.int M)),some (.sh (.int (1+r))),some (lQ L),o7,o8,o9,J,none]) _ (λk x hx D2 U hI hq hct hrt hbk=>?_) (λU hI=>?_) #[a2,s2,[],none,none,none,none,k1,hs2',h8,by simp,λ_ z=>(nomatch z),rfl]
 .obtain⟨a,s,L,o7,o8,o9,J,ha,hs,B,hL,O,rfl⟩:=hI;let hk:k<4:=by let:=(qg.mp hx).1;rw[Ec]at this;lia
  let hb:k*Y.length<=3*25:=mul_le_mul ∅ hw;simp! [oU,aF];show AE ha hs B ∅ ∅ λr3 a3 s3 hm hp r1 hl h7=>?_;simp! [aF,ee];show QQ ∅ ∅ Y a3 s3 r3 L _ _ r1 hl h7 hm hp (λc hc=>hc) ∅ O λa' s' x' L' o9 J h1 h2 h3 h4 h5=>hq _ #[a',s',L',_,_,o9,J,h1,h2,h3,?_,h5,rfl];rw[h4,hL,succ_mul]
 .obtain⟨a,s,L,o7,o8,o9,J,ha,hs,B,hL,O,rfl⟩:=hI;rw[Ec]at hL;let hb:r2.toNat*Y.length<=3*25:=mul_le_mul ∅ hw;simp! [aF];show AE ha hs B ∅ ∅ λr4 a4 s4 hr4 hr42 ha4 hs4 hs24=>?_;simp! [aF,hne,Bool.not_false,if_true,mul_one];show#[by simp only[cC];lia,?_];refine Hu (λk U=>∃(a s:Int)(L:List St)(o7 o8 o9 J hi:Option S),0<=a/\1<=s/\s<=2147483629/\L.length<=75+k/\(∀t∈L,iO (1+r) col Y t)/\U=[some (aF a s),some (.sh (.str col)),some (.sh (.str Y)),some (.sh (.int R)),some (.sh (.int M)),some (.sh (.int (1+r))),some (lQ L),o7,o8,o9,J,hi]) _ (λk x hx D2 U hI hq hct hrt hbk=>?_) (λU hI=>?_) #[a4,s4,L,o7,o8,o9,J,none,ha4,hs4,hs24,∅,O,rfl]
  .obtain⟨a,s,L,o7,o8,o9,J,hi,ha,hs,B,hL,O,rfl⟩:=hI;let hk:k<61:=by let:=(qg.mp hx).1;rw[Ec]at this;lia
   simp! [oS,aF];show AE ha hs B ∅ ∅ λx1 a1 s1 hx1 hx12 k2 hd h9=>?_;simp! [aF];show AE k2 hd h9 ∅ ∅ λy1 a2 s2 hy1 k3 k1 B h8=>?_;simp! [aF,lQ];show AE k1 B h8 ∅ ∅ λr3 a3 s3 hm hp r1 hl h7=>?_;let#[c,hcm,_,e]:=Ew (l:=col) hm hp;simp! [aF,e,length_map];show#[by simp only[cC];lia,?_];rw[HP L (x1,c,y1)];show hq _ #[a3,s3,L++[(x1,c,y1)],_,_,_,_,_,r1,hl,h7,by rw[qq,qB];lia,λt ht=>?_,rfl];rcases qx.mp ht with z|z
   .show O t z
   .rw[qu.mp z];show#[#[hx1,hx12],#[hy1,k3],.inl hcm]
  .obtain⟨a,s,L,o7,o8,o9,J,hi,ha,hs,B,hL,O,rfl⟩:=hI;rw[Ec]at hL;simp! [e_C];show RI (L:=L) hM hM2 ha hs B ∅ O λa' s' L' h1 h2 h3 h4 h5 h6=>?_;let#[sts,e1,e2,e3,e4,e5]:=Lv h6 ∅;simp! [lQ,zan,length_map,EX (l:=L'.map bZ) #[Fz L',by rw[length_map];show h4],e1];show h (1+r) sts a' s' ∅ ∅ ∅ e3 e4 e5 h1 h2 h3
def dh:D->Int
 |.int i=>i
 |_=>0
def HQ:∀{l:List D},(∀d∈l,∃i,d=D.int i)->(l.map dh).map D.int=l
 |[],_=>rfl
 |d::l,h=>by let#[i,rfl]:=h d qm;rw[qy,qy,HQ λe B=>h e (qk _ B)];rfl
def jE(sts:List St)(c:Nat)(ns:List Int):List Int:=(sts.filter λt=>decide (t.2.1=c)&&decide (t.1∈ns)).map (·.2.2)
def nx(sts:List St)(c:Nat)(ns:List Int):List Int:=(cX (aH ((jE sts c ns).map D.int))).map dh
def GO(sts:List St)(c:Nat)(ns:List Int):(jE sts c ns).length<=sts.length:=by unfold jE;rw[qo];show length_filter_le ..
def FU{l:List Int}{d:D}(h:d∈aH (l.map D.int)):∃i,d=D.int i:=by let#[i,_,rfl]:=qK.mp (zbs.mp h);show#[i,rfl]
def EM(sts:List St)(c:Nat)(ns:List Int):(nx sts c ns).map D.int=cX (aH ((jE sts c ns).map D.int)):=HQ λd B=>FU ((DE _).mem_iff.mp B)
def Pz(sts:List St)(c:Nat)(ns:List Int):(nx sts c ns).length<=sts.length:=by
 let h1:(nx sts c ns).length=(aH ((jE sts c ns).map D.int)).length:=by unfold nx;rw[qo];show(DE _).length_eq
 let h2:=Ho ((jE sts c ns).map D.int);let B:=GO sts c ns;rw[qo]at h2;lia
def PH(l:List Int):bO (l.map D.int)=true:=by unfold bO;rw[or_eq_true];show .inl (qI.mpr λd B=>?_);let#[t,_,rfl]:=qK.mp B;rfl
def KU{l:List D}(h:∀d∈l,∃i,d=D.int i)(B:l.length<64):cM l=some (.lst ((cX l).map .sh)):=by unfold cM;rw[q5 #[B,.inr (.inl (by rw[<-HQ h,SI];rfl))]]
def bH(sts:List St)(w:List Nat)(x:Int):List Int:=w.foldl (λB c=>nx sts c B) [x]
def IY(sts:List St)(w:List Nat)(c:Nat)(x:Int):bH sts (w++[c]) x=nx sts c (bH sts w x):=by unfold bH;rw[foldl_append];rfl
def IB(sts:List St)(w:List Nat)(x:Int):(bH sts w x).length<=sts.length+1:=by
 rcases List.eq_nil_or_concat w with rfl|⟨v,c,rfl⟩
 .simp[bH]
 .rw[List.concat_eq_append,IY];let:=Pz sts c (bH sts v x);lia
def pD(p:Int×Int):D:=.tup [.int p.1,.int p.2]
def pE(m:Nat)(sts:List St)(w:List Nat):List (Int×Int):=(List.range m).flatMap λ(x:Nat)=>(bH sts w (x:Int)).map λy=>((x:Int),y)
def aM(m:Nat)(sts:List St)(w:List Nat):List D:=(pE m sts w).map pD
def Ip(sts:List St)(w:List Nat):∀m,(aM m sts w).length<=m*(sts.length+1)
 |0=>by simp[aM,pE]
 |m+1=>by let h1:=Ip sts w m;let h2:=IB sts w m;unfold aM pE at h1⊢;rw[qo]at h1⊢;rw[List.range_succ,flatMap_append,qq,succ_mul];simp only[flatMap_cons,List.flatMap_nil,qz,qo];lia
def Lx(m:Nat)(sts:List St)(w:List Nat):aM (m+1) sts w=aM m sts w++(bH sts w m).map λy=>D.tup [.int m,.int y]:=by unfold aM pE;rw[List.range_succ,flatMap_append];simp[pD]
abbrev Gk:=Int×Nat
def eF(k:Gk):D:=.tup [.int k.1,.str [k.2]]
def GG{a b:Gk}(h:eF a=eF b):a=b:=by
 unfold eF at h;injection h with h
 injection h with h1 h2
 injection h2 with h2 _
 injection h1 with h1
 injection h2 with h2
 injection h2 with h2
 show Prod.ext h1 h2
def aT(B:List St)(k:Gk):List Int:=(B.filter λt=>decide ((t.1,t.2.1)=k)).map (·.2.2)
def Hf(B:List St)(t:St)(k:Gk):aT (B++[t]) k=aT B k++(if(t.1,t.2.1)=k then[t.2.2]else[]):=by
 unfold aT;rw[List.filter_append,map_append];congr 1;by_cases h:(t.1,t.2.1)=k
 .rw[q5 h,List.filter_cons_of_pos (by show qR h)];rfl
 .rw[q8 h,List.filter_cons_of_neg (by rw[qT];show h)];rfl
structure iG(G:List (Gk×List Int))(pre:List St):Prop where
 nd:(G.map (·.1)).Nodup
 val:∀p∈G,p.2=aT pre p.1
 all:∀t∈pre,(t.1,t.2.1)∈G.map (·.1)
 len:G.length<=pre.length
def cA(G:List (Gk×List Int)):List D:=G.map λp=>eF p.1
def iB(G:List (Gk×List Int)):List S:=G.map λp=>S.lst ((p.2.map D.int).map S.sh)
def fF(G:List (Gk×List Int)):List D:=G.map λp=>D.lst (p.2.map D.int)
def gS(G:List (Gk×List Int)):S:=.dct true (cA G) (iB G)
def HG(G:List (Gk×List Int)):(gS G).toD=.dct true (cA G) (fF G):=by unfold gS iB fF;rw[S.toD_dct,qE];congr 1;show map_congr_left λp _=>?_;simp[Function.comp_def]
def OC{G:List (Gk×List Int)}{k:Gk}:(∃m p,iC (cA G) (eF k)=some m/\G[m]?=some p/\p.1=k)\/(iC (cA G) (eF k)=none/\k∉G.map (·.1)):=by
 unfold iC cA;cases q:(G.map λp=>eF p.1).findIdx? (λx=>open Classical in decide (x=eF k))with
 |some m=>let#[h1,h2,_]:=List.findIdx?_eq_some_iff_getElem.mp q;rw[qo]at h1;show .inl #[m,G[m],rfl,qh h1,?_];rw[List.getElem_map]at h2;show GG ↑h2
 |none=>show .inr #[rfl,λz=>?_];let#[p,B,rfl]:=qK.mp z;let:=List.findIdx?_eq_none_iff.mp q (eF p.1) (qK.mpr #[p,B,rfl]);simp at this
def Kh{G:List (Gk×List Int)}{J:List St}(h:iG G J)(t:St):∃(G':List (Gk×List Int))(l':List Int),iG G' (J++[t])/\l'.length<=J.length/\
  (bF (cA G) (iB G) (eF (t.1,t.2.1))).2.1[(bF (cA G) (iB G) (eF (t.1,t.2.1))).2.2]?=some (.lst ((l'.map D.int).map .sh))/\
  S.dct true (bF (cA G) (iB G) (eF (t.1,t.2.1))).1 ((bF (cA G) (iB G) (eF (t.1,t.2.1))).2.1.set (bF (cA G) (iB G) (eF (t.1,t.2.1))).2.2 (.lst ((l'.map D.int).map .sh++[.sh (.int t.2.2)])))=gS G':=by
 let h2:∀k,(aT J k).length<=J.length:=λk=>by unfold aT;rw[qo];show length_filter_le ..
 rcases OC (G:=G) (k:=(t.1,t.2.1))with⟨m,p,e1,M,e3⟩|⟨e1,M⟩
 .have hm:=(qg.mp M).1;let hp:p∈G:=qM M;let es:bF (cA G) (iB G) (eF (t.1,t.2.1))=(cA G,iB G,m):=by unfold bF;rw[e1]
  let O:∀j,j<G.length->(G[j]?.map (·.1))=some (t.1,t.2.1)->j=m:=λj B z=>by show(List.getElem?_inj (l:=G.map (·.1)) (by rw[qo];show B) h.nd).mp ?_;rw[qF,qF,z,M];show _=some p.1;rw[e3]
  show#[G.set m (p.1,p.2++[t.2.2]),p.2,#[?_,λq Y=>?_,λu h4=>?_,by rw[length_set,qq];let:=h.len;lia],by rw[h.val p hp];show h2 _,?_,?_]
  .have:(G.set m (p.1,p.2++[t.2.2])).map (·.1)=G.map (·.1):=by
    rw[map_set];apply ext_getElem?;intro j;rw[getElem?_set];by_cases B:m=j
    .subst B;rw[q5 rfl,q5 (by rw[qo];show hm),qF,M];rfl
    .rw[q8 B]
   rw[this];show h.nd
  .obtain⟨j,B,rfl⟩:=getElem_of_mem Y;rw[length_set]at B;rw[List.getElem_set];by_cases L:m=j
   .rw[q5 L];show p.2++[t.2.2]=aT (J++[t]) p.1;rw[Hf,e3,q5 rfl,h.val p hp,e3]
   .rw[q8 L,Hf,q8 λz=>L (O j B (by rw[qh B,z];rfl)).symm,qz];show h.val _ (getElem_mem B)
  .have hk:∀k∈G.map (·.1),k∈(G.set m (p.1,p.2++[t.2.2])).map (·.1):=λk hk=>by
    let#[q,Y,rfl]:=qK.mp hk;let#[j,B,rfl]:=getElem_of_mem Y;by_cases L:m=j
    .subst L;show qK.mpr #[(p.1,p.2++[t.2.2]),List.mem_set B _,?_];rw[qh B]at M;cases M;rfl
    .show qK.mpr #[G[j],?_,rfl];let:(G.set m (p.1,p.2++[t.2.2]))[j]?=some G[j]:=by rw[getElem?_set_ne L,qh B]
     show qM this
   rcases qx.mp h4 with z|z
   .show hk _ (h.all u z)
   .rw[qu.mp z];show hk _ (qK.mpr #[p,hp,e3])
  .rw[es];show(iB G)[m]?=_;unfold iB;rw[qF,M];rfl
  .rw[es];unfold gS cA iB;show S.dct true (G.map λp=>eF p.1) ((G.map λp=>S.lst ((p.2.map D.int).map S.sh)).set m _)=_;congr 1
   .rw[map_set];apply ext_getElem?;intro j;rw[getElem?_set];by_cases B:m=j
    .subst B;rw[q5 rfl,q5 (by rw[qo];show hm),qF,M];rfl
    .rw[q8 B]
   .rw[map_set];congr 2;simp
 .have es:bF (cA G) (iB G) (eF (t.1,t.2.1))=(cA G++[eF (t.1,t.2.1)],iB G++[.lst []],(cA G).length):=by unfold bF;rw[e1]
  let hl:(cA G).length=(iB G).length:=by unfold cA iB;simp
  let h1:aT J (t.1,t.2.1)=[]:=by unfold aT;rw[map_eq_nil_iff,List.filter_eq_nil_iff];intro u O z;rw[qT]at z;show M (z▸h.all u O)
  show#[G++[((t.1,t.2.1),[t.2.2])],[],#[?_,λq Y=>?_,λu O=>?_,by rw[qq,qq];let:=h.len;simp only[qB];lia],zero_le _,?_,?_]
  .rw[map_append];show qw.mpr #[h.nd,by simp,λa ha b hb e=>by rw[qy,map_nil,qu]at hb;let h3:b=(t.1,t.2.1):=hb;rw[e,h3]at ha;show M ha]
  .rcases qx.mp Y with z|z
   .rw[Hf,q8 λy=>M (qK.mpr #[q,z,y.symm]),qz];show h.val q z
   .rw[qu.mp z,Hf,q5 rfl,h1];rfl
  .rw[map_append];rcases qx.mp O with z|z
   .show qj _ (h.all u z)
   .rw[qu.mp z];show qi _ (by simp)
  .rw[es];show(iB G++[S.lst []])[(cA G).length]?=_;rw[hl,getElem?_append_right (q9 _),sub_self];rfl
  .rw[es];show S.dct true (cA G++[eF (t.1,t.2.1)]) ((iB G++[S.lst []]).set (cA G).length _)=_;rw[hl,List.set_append_right _ _ (q9 _),sub_self];unfold gS cA iB;rw[map_append,map_append];rfl
def Hx{f:Gk->List Int}{k:Gk}:∀{G:List (Gk×List Int)},(∀p∈G,p.2=f p.1)->lk (cA G) (fF G) (eF k)=some (.lst ((f k).map D.int))\/(lk (cA G) (fF G) (eF k)=none/\k∉G.map (·.1))
 |[],_=>.inr #[rfl,λz=>nomatch z]
 |p::G,h=>by
  let e:lk (cA (p::G)) (fF (p::G)) (eF k)=(open Classical in if eF p.1=eF k then some (D.lst (p.2.map D.int))else lk (cA G) (fF G) (eF k)):=rfl;by_cases B:p.1=k
  .left
   rw[e,q5 (by rw[B]),h p qm,B]
  .rw[e,q8 λz=>B (GG z)];rcases Hx (G:=G) (f:=f) (k:=k) λq J=>h q (qk _ J)with z|⟨z,y⟩
   .show .inl z
   .show .inr #[z,λw=>?_];rw[qy,qA]at w;rcases w with w|w
    .show B w.symm
    .show y w
def JO:∀{l m:List D},l.Nodup->(∀d∈l,d∈m)->l.length<=m.length
 |[],_,_,_=>zero_le _
 |d::l,m,h,hs=>by
  obtain⟨m1,m2,rfl⟩:=append_of_mem (hs d qm);let#[h1,h2]:=qL.mp h;let:=JO (l:=l) (m:=m1++m2) h2 λe B=>by
   rcases qx.mp (hs e (qk _ B))with z|z
   .show qj _ z
   .rcases qA.mp z with rfl|z
    .show absurd B h1
    .show qi _ z
  simp only[qq,qt]at this⊢;lia
def TQ(l:List D)(d:D):aH (l++[d])=cS (aH l) d:=by unfold aH;rw[foldl_append];rfl
def Mm{l m:List Int}(h:∀i,i∈l↔i∈m):cX (aH (l.map D.int))=cX (aH (m.map D.int)):=by
 have B:(aH (m.map D.int)).Perm (aH (l.map D.int)):=(List.perm_ext_iff_of_nodup (Gd _) (Gd _)).mpr λd=>by
  rw[zbs,zbs];constructor
  .intro z;let#[i,hi,rfl]:=qK.mp z;show qK.mpr #[i,(h i).mpr hi,rfl]
  .intro z;let#[i,hi,rfl]:=qK.mp z;show qK.mpr #[i,(h i).mp hi,rfl]
 let hi:∀{l:List Int},∀d∈aH (l.map D.int),sI d:=λd J=>by let#[i,rfl]:=FU J;trivial
 show FV Iq hi ((DE _).trans B) (Gb Iq _ hi)
def fJ(sts:List St)(c:Nat)(ns:List Int):List Int:=ns.flatMap λr=>aT sts (r,c)
theorem zeQ{sts:List St}{c:Nat}{ns:List Int}{i:Int}:i∈fJ sts c ns↔i∈jE sts c ns:=by
 unfold fJ jE aT;simp only[mem_flatMap,qK,mem_filter,and_eq_true,qT];constructor
 .rintro⟨r,J,t,⟨B,e⟩,rfl⟩;injection e with e1 e2
  show#[t,#[B,e2,e1▸J],rfl]
 .rintro⟨t,⟨B,e,J⟩,rfl⟩;show#[t.1,J,t,#[B,by rw[e]],rfl]
def KC{sts:List St}{l:List Int}{c:Nat}{ns:List Int}(h:∀i∈l,i∈fJ sts c ns):(aH (l.map D.int)).length<=sts.length:=by
 let h1:=JO (l:=aH (l.map D.int)) (m:=(jE sts c ns).map D.int) (Gd _) λd B=>by let#[i,hi,rfl]:=qK.mp (zbs.mp B);show qK.mpr #[i,zeQ.mp (h i hi),rfl]
 rw[qo]at h1;show le_trans h1 (GO ..)
def OX{i:Int}{l:List Int}:bO (.int i::aH (l.map D.int))=true:=by
 unfold bO;rw[or_eq_true];show .inl (qI.mpr λd B=>?_);rcases qA.mp B with rfl|z
 .rfl
 .obtain⟨j,rfl⟩:=FU z;rfl
def QV{Q:Env->Prop}{E:WX}{G:List (Gk×List Int)}{sts:List St}{c:Nat}{ns:List Int}{s0 s1 s2 s3 s5 s7 s8 s9 M J B:Option S}(hG:iG G sts)(hl:sts.length<=60)
  (h6:∀J B,Q [s0,s1,s2,s3,some (.sh (.dct true (cA G) (fF G))),s5,some (.sh (.str [c])),s7,s8,s9,M,some (.set (aH ((fJ sts c ns).map D.int))),J,B]):
  aL (zz 12) dE iZ (ns.map D.int) [s0,s1,s2,s3,some (.sh (.dct true (cA G) (fF G))),s5,some (.sh (.str [c])),s7,s8,s9,M,some (.set []),J,B] Q E:=by
 show GH (λL U=>∃J B,U=[s0,s1,s2,s3,some (.sh (.dct true (cA G) (fF G))),s5,some (.sh (.str [c])),s7,s8,s9,M,some (.set (aH ((fJ sts c L).map D.int))),J,B]) ns (λL r h7 K U e hI hK=>?_) (λU hI=>?_) #[J,B,rfl]
 .obtain⟨J,B,rfl⟩:=hI;let hr:r∈ns:=by rw[<-e];simp
  let eb:fJ sts c (L++[r])=fJ sts c L++aT sts (r,c):=by unfold fJ;rw[flatMap_append];simp
  have Y:∀(xs:List Int)(B:Option S),xs=aT sts (r,c)->aL (zz 13) dE jA (xs.map D.int) [s0,s1,s2,s3,some (.sh (.dct true (cA G) (fF G))),s5,some (.sh (.str [c])),s7,s8,s9,M,some (.set (aH ((fJ sts c L).map D.int))),some (.sh (.int r)),B] K E:=λxs B ex=>by
   show GH (λO U=>∃B,U=[s0,s1,s2,s3,some (.sh (.dct true (cA G) (fF G))),s5,some (.sh (.str [c])),s7,s8,s9,M,some (.set (aH ((fJ sts c L++O).map D.int))),some (.sh (.int r)),B]) xs (λO z h4 K2 U e2 h3 h5=>?_) (λU h3=>?_) #[B,by rw[qz]]
   .obtain⟨B,rfl⟩:=h3;let hb:(aH ((fJ sts c L++O).map D.int)).length<=sts.length:=KC (c:=c) (ns:=ns) λi hi=>by
     unfold fJ;rw[mem_flatMap];rcases qx.mp hi with y|y
     .unfold fJ at y;let#[r',h1,h2]:=mem_flatMap.mp y;show#[r',by rw[<-e];show qj _ h1,h2]
     .show#[r,hr,by rw[<-ex,<-e2];show qj _ y]
    simp! [eL,lO,tD];show#[OX,∅,?_];rw[<-TQ];show h5 _ #[some (.sh (.int z)),by simp]
   .obtain⟨B,rfl⟩:=h3;rw[ex,<-eb];show hK _ #[_,_,rfl]
  simp! [eL,lO,tB];rcases Hx (k:=(r,c)) hG.val with z|⟨z,y⟩
  .let z':lk (cA G) (fF G) (.tup [.int r,.str [c]])=some (.lst ((aT sts (r,c)).map D.int)):=z;simp! [z'];show Y _ _ rfl
  .have z':lk (cA G) (fF G) (.tup [.int r,.str [c]])=none:=z;let hn:[]=aT sts (r,c):=by
    unfold aT
    symm
    rw[map_eq_nil_iff,List.filter_eq_nil_iff];intro u hu w;rw[qT]at w;show y (w▸hG.all u hu)
   simp! [z'];show Y [] _ hn
 .obtain⟨J,B,rfl⟩:=hI;show h6 J B
def II{m:Nat}{sts:List St}{w:List Nat}(hl:sts.length<=60)(hm:m<=900)
  (h:P (.sh (.tup (aM m sts w))) [.sh (bS m sts),.sh (.str w)]):xZ [.sh (bS m sts),.sh (.str w)] P PX:=by
 show Ba rfl rfl ?_;simp! [bS,length_cons,length_nil];show Cb (toD:=bZ) (λB U=>∃(G:List (Gk×List Int))(O L M:Option S),iG G B/\U=[some (.sh (bS m sts)),some (.sh (.str w)),some (.sh (.int m)),some (.sh (.tup (sts.map bZ))),some (gS G),O,L,M,none,none,none]) sts (λB t h3 D2 U e hI h1 h9 h7 e3=>?_) (λU hI=>?_) #[[],none,none,none,#[.nil,λ_ z=>(nomatch z),λ_ z=>(nomatch z),q9 _],rfl]
 .obtain⟨G,O,L,M,hG,rfl⟩:=hI;let ha:B.length<=sts.length:=by rw[<-e];simp
  let#[G',l',hx,r2,e1,e2]:=Kh hG t;let h8:(cA G).Nodup:=by unfold cA;let:=hG.nd;rw[show(G.map λp=>eF p.1)=(G.map (·.1)).map eF by rw[qE];rfl];show List.Pairwise.map _ (λa b e4 z=>e4 (GG z)) this
  let s1:(cA G).length<=60:=by let:=hG.len;unfold cA;rw[qo];lia
  simp! [tG,bZ,length_cons,length_nil,gS];show#[rfl,h8,by simp only[cC];lia,?_];let h5:=e1;unfold eF at h5 e2;rw[Ld h5];simp! [length_map];show#[by simp only[cC];lia,?_];rw[e2];show h1 _ #[G',_,_,_,hx,rfl]
 .obtain⟨G,O,L,M,hG,rfl⟩:=hI;simp! [HG];show#[by simp only[cC];lia,?_];rw[CD (n:=m) rfl];refine Cb (λB U=>∃(O L M o9 Y:Option S),U=[some (.sh (bS m sts)),some (.sh (.str w)),some (.sh (.int m)),some (.sh (.tup (sts.map bZ))),some (.sh (.dct true (cA G) (fF G))),O,L,M,some (.lst ((aM B.length sts w).map .sh)),o9,Y]) (List.range m) (λB k h3 D2 U e hI h1 h9 h7 e3=>?_) (λU hI=>?_) #[O,L,M,none,none,rfl]
  .obtain⟨O,L,M,o9,Y,rfl⟩:=hI;let#[hk,r3]:=IR e;simp! [tE,zan,ee];refine Cb (toD:=sg) (λJ U=>∃(L:Option S),U=[some (.sh (bS m sts)),some (.sh (.str w)),some (.sh (.int m)),some (.sh (.tup (sts.map bZ))),some (.sh (.dct true (cA G) (fF G))),O,L,M,some (.lst ((aM B.length sts w).map .sh)),some (.sh (.int k)),some (.sh (.lst ((bH sts J k).map D.int)))]) w (λJ c h6 D3 U e2 h2 h4 hc hp hs=>?_) (λU h2=>?_) #[L,rfl]
   .obtain⟨L,rfl⟩:=h2;simp! [tF,sg];show QV hG hl λhq hr=>?_;let hb:(aH ((fJ sts c (bH sts J k)).map D.int)).length<=sts.length:=KC λi hi=>hi;simp! [KU (λd hd=>FU hd) (show(aH ((fJ sts c (bH sts J k)).map D.int)).length<64 by lia),zan];rw[Mm (m:=jE sts c (bH sts J k)) λi=>zeQ,<-EM,<-IY];show h4 _ #[_,rfl]
   .obtain⟨L,rfl⟩:=h2;let he:=IB sts w (k:Int);let ht:=Ip sts w B.length;let hb:B.length*(sts.length+1)<=900*61:=mul_le_mul ∅ ∅;simp! [e_C];refine GB (n:=11) (toD:=D.int) (bH sts w k) (λy=>S.sh (.tup [.int k,.int y])) (λy hy l o K r1 hK=>?_) λo=>?_
    .simp! [eL,lO,sZ,length_cons,length_nil];show#[by simp only[cC];lia,hK _]
    .simp! [length_map];show#[by simp only[cC];lia,h1 _ #[O,L,M,some (.sh (.int k)),some (.sh (.lst ((bH sts w k).map D.int))),?_]];rw[qq,qB,Lx,map_append,hk,qE];rfl
  .obtain⟨O,L,M,o9,Y,rfl⟩:=hI;rw[qD];simp! [zan];show h
def Sh{d:D}(h:aR d d=false)(B:eS d<=30):cY d d=some false:=by unfold cY eI;rw[q8 (by rw[h,qS ∅];decide)];simp
def UA{l:List D}(h:∀d∈l,aR d d=false):bD l l=false:=by
 induction l with
 |nil=>rfl
 |cons d l B=>show(aR d d||bD l l)=false;rw[h d qm,B λe J=>h e (qk _ J)];rfl
def Fj{l:List D}{n:Nat}(h:∀d∈l,eS d<=n):bI l<=n:=by
 induction l with
 |nil=>show zero_le _
 |cons d l B=>show max (eS d) (bI l)<=n;let h1:=h d qm;let h2:=B λe J=>h e (qk _ J);lia
def IT(ps:List (Int×Int)):aR (.tup (ps.map pD)) (.tup (ps.map pD))=false/\eS (.tup (ps.map pD))<=2:=by
 show#[UA λd B=>?_,?_]
 .obtain⟨p,_,rfl⟩:=qK.mp B;rfl
 .show bI (ps.map pD)+1<=2;let:=Fj (l:=ps.map pD) (n:=1) λd B=>by let#[p,_,rfl]:=qK.mp B;exact q9 _
  lia
def iD(a b:D):atI [a,b] 0=some a:=rfl
def nP(a b:D):atI [a,b] 1=some b:=rfl
def NQ{G:List (Gk×List Int)}{sts:List St}(J:iG G sts):(cA G).Nodup:=by unfold cA;rw[show(G.map λp=>eF p.1)=(G.map (·.1)).map eF by rw[qE];rfl];show List.Pairwise.map _ (λa b B z=>B (GG z)) J.nd
def ME{m:Nat}{sts:List St}(hl:sts.length<=60)
  (h:∀G,iG G sts->P (gS G) [.sh (bS m sts)]):oE [.sh (bS m sts)] P PX:=by
 show Ba rfl rfl ?_;simp! [bS,nP];show Cb (toD:=bZ) (λB U=>∃(G:List (Gk×List Int))(Y O M:Option S),iG G B/\U=[some (.sh (bS m sts)),some (gS G),Y,O,M]) sts (λB t h3 D2 U e hI h1 h8 h4 h9=>?_) (λU hI=>?_) #[[],none,none,none,#[.nil,λ_ z=>(nomatch z),λ_ z=>(nomatch z),q9 _],rfl]
 .obtain⟨G,Y,O,M,J,rfl⟩:=hI;let h5:B.length<=sts.length:=by rw[<-e];simp
  let#[G',l',h2,h6,e1,e2]:=Kh J t;let h7:(cA G).length<=60:=by let:=J.len;unfold cA;rw[qo];lia
  simp! [oQ,bZ,length_cons,length_nil,gS];show#[rfl,NQ J,by simp only[cC];lia,?_];let L:=e1;unfold eF at L e2;rw[Ld L];simp! [length_map];show#[by simp only[cC];lia,?_];rw[e2];show h1 _ #[G',_,_,_,h2,rfl]
 .obtain⟨G,Y,O,M,J,rfl⟩:=hI;simp! [e_C];show h G J
def My{α:Type}{p q s:α->Bool}(h:∀t,p t=true->s t=true/\q t=false)(h2:∀t,q t=true->s t=true):∀l:List α,(l.filter p).length+(l.filter q).length<=(l.filter s).length
 |[]=>q9 _
 |a::l=>by
  let J:=My h h2 l;rw[filter_cons,filter_cons,filter_cons];cases B:p a with
  |true=>rw[(h a B).1,(h a B).2,q5 rfl,q5 rfl,q8 ⋯,qt,qt];lia
  |false=>
   cases L:q a with
   |true=>rw[h2 a L,q8 ⋯,q5 rfl,q5 rfl,qt,qt];lia
   |false=>
    rw[q8 ⋯,q8 ⋯];split
    .rw[qt];lia
    .show J
def RK{c:Nat}{r:Int}{ns:List Int}(J:r∉ns)(sts:List St):(aT sts (r,c)).length+(jE sts c ns).length<=(jE sts c (r::ns)).length:=by
 unfold aT jE;rw[qo,qo,qo];show My (λt B=>?_) (λt B=>?_) sts
 .let e:=qU B;injection e with e1 e2
  subst e1 e2;simp[J]
 .rw[and_eq_true,qT,qT]at B⊢;show#[B.1,qk _ B.2]
def HF{c:Nat}{sts:List St}:∀{ns:List Int},ns.Nodup->(fJ sts c ns).length<=(jE sts c ns).length
 |[],_=>zero_le _
 |r::ns,h=>by let#[h1,h2]:=qL.mp h;let:=HF (sts:=sts) (c:=c) h2;let:=RK (c:=c) h1 sts;unfold fJ at*;rw[flatMap_cons,qq];lia
def Nj{sts:List St}{c:Nat}{ns:List Int}:(nx sts c ns).Nodup:=by
 let:((nx sts c ns).map D.int).Nodup:=by rw[EM];show(DE _).nodup_iff.mpr (Gd _)
 show(pairwise_map.mp this).imp λ{a b} h z=>h (by rw[z])
def KB{sts:List St}{x:Int}(w:List Nat):(bH sts w x).Nodup:=by
 have:∀(w:List Nat)(ns:List Int),ns.Nodup->(w.foldl (λns c=>nx sts c ns) ns).Nodup:=λw=>by
  induction w with
  |nil=>show λns h=>h
  |cons c w B=>show λns h=>B _ Nj
 show this w [x] (by simp)
def Up{D':Ends}{G:List (Gk×List Int)}{sts:List St}{c:Nat}{ns:List Int}{s0 s2 s3 Y O:Option S}{J:Option S}(hG:iG G sts)(hl:sts.length<=60)(hn:ns.Nodup)
  (h3:∀J,D'.nx [s0,some (.sh (.dct true (cA G) (fF G))),s2,s3,Y,O,some (.sh (.str [c])),some (.lst (((fJ sts c ns).map D.int).map .sh)),J]):
  cL (zz 8) gR (ns.map D.int) D' [s0,some (.sh (.dct true (cA G) (fF G))),s2,s3,Y,O,some (.sh (.str [c])),some (.lst []),J]:=by
 show Cb (λB U=>∃J,U=[s0,some (.sh (.dct true (cA G) (fF G))),s2,s3,Y,O,some (.sh (.str [c])),some (.lst (((fJ sts c B).map D.int).map .sh)),J]) ns (λB r h4 D2 U e hI L h6 h5 h7=>?_) (λU hI=>?_) #[J,rfl]
 .obtain⟨J,rfl⟩:=hI;let h1:B.Nodup:=by rw[<-e]at hn;exact(qw.mp hn).1
  let hb:=HF (sts:=sts) (c:=c) h1;let hs:=GO sts c B;let he:(aT sts (r,c)).length<=sts.length:=by unfold aT;rw[qo];show length_filter_le ..
  let eb:fJ sts c (B++[r])=fJ sts c B++aT sts (r,c):=by unfold fJ;rw[flatMap_append];simp
  rcases Hx (k:=(r,c)) hG.val with z|⟨z,y⟩
  .let M:lk (cA G) (fF G) (.tup [.int r,.str [c]])=some (.lst ((aT sts (r,c)).map D.int)):=z;simp! [kM,M,length_map];show#[by simp only[cC];lia,?_];rw[<-map_append,<-map_append,<-eb];show L _ #[_,rfl]
  .let M:lk (cA G) (fF G) (.tup [.int r,.str [c]])=none:=z;let h2:aT sts (r,c)=[]:=by unfold aT;rw[map_eq_nil_iff,List.filter_eq_nil_iff];intro u hu w;rw[qT]at w;exact y (w▸hG.all u hu)
   simp! [kM,M,zan,length_map];show#[by simp only[cC,qv];lia,?_];rw[h2,qz]at eb;rw[<-eb];show L _ #[_,rfl]
 .obtain⟨J,rfl⟩:=hI;show h3 J
def Hd{m:Nat}{G:List (Gk×List Int)}{sts:List St}{w:List Nat}(hG:iG G sts)(hl:sts.length<=60)(hm:m<=900)
  (h:P (.lst ((aM m sts w).map .sh)) [.sh (.int (m:Int)),.sh (.dct true (cA G) (fF G)),.sh (.str w)]):lG [.sh (.int (m:Int)),.sh (.dct true (cA G) (fF G)),.sh (.str w)] P PX:=by
 show Ba rfl rfl ?_;simp! [e_C];show#[by simp only[cC];lia,?_];rw[CD (n:=m) rfl];show Cb (λJ U=>∃(o4 o5 O M L:Option S),U=[some (.sh (.int (m:Int))),some (.sh (.dct true (cA G) (fF G))),some (.sh (.str w)),some (.lst ((aM J.length sts w).map .sh)),o4,o5,O,M,L]) (List.range m) (λJ k h5 D2 U e hI h4 e4 h9 hx=>?_) (λU hI=>?_) #[none,none,none,none,none,rfl]
 .obtain⟨o4,o5,O,M,L,rfl⟩:=hI;let#[hk,e3]:=IR e;simp! [oO,zan,ee];refine Cb (toD:=sg) (λB U=>∃(O M L:Option S),U=[some (.sh (.int (m:Int))),some (.sh (.dct true (cA G) (fF G))),some (.sh (.str w)),some (.lst ((aM J.length sts w).map .sh)),some (.sh (.int (k:Int))),some (.sh (.lst ((bH sts B k).map D.int))),O,M,L]) w (λB c h3 D3 U e2 Y h1 h7 h6 h8=>?_) (λU Y=>?_) #[O,M,L,rfl]
  .obtain⟨O,M,L,rfl⟩:=Y;simp! [oP,sg];show Up hG hl (KB B) λL=>?_;let hb:=HF (sts:=sts) (c:=c) (KB (sts:=sts) (x:=(k:Int)) B);let hs:=GO sts c (bH sts B (k:Int));let h2:=Ho ((fJ sts c (bH sts B (k:Int))).map D.int);rw[qo]at h2;simp! [zan,EX #[PH (fJ sts c (bH sts B (k:Int))),by rw[length_map];lia],KU (λd hd=>FU hd) (show(aH ((fJ sts c (bH sts B (k:Int))).map D.int)).length<64 by lia)];rw[Mm (m:=jE sts c (bH sts B (k:Int))) λi=>zeQ,<-EM,<-IY];show h1 _ #[_,_,_,rfl]
  .obtain⟨O,M,L,rfl⟩:=Y;let he:=IB sts w (k:Int);let ht:=Ip sts w J.length;let hb:J.length*(sts.length+1)<=900*61:=mul_le_mul ∅ ∅;simp! [e_C];refine GB (n:=9) (toD:=D.int) (bH sts w k) (λy=>S.sh (.tup [.int k,.int y])) (λy hy l o K e1 hK=>?_) λo=>?_
   .simp! [eL,lO,oN,length_cons,length_nil];show#[by simp only[cC];lia,hK _]
   .simp! [length_map];show#[by simp only[cC];lia,h4 _ #[some (.sh (.int k)),some (.sh (.lst ((bH sts w k).map D.int))),O,M,L,?_]];rw[qq,qB,Lx,map_append,hk,qE];rfl
 .obtain⟨o4,o5,O,M,L,rfl⟩:=hI;rw[qD];simp! [zan];show h
open Classical in
def HE{d e:D}(h:aR d e=false)(B:eS d<=30):cY d e=some (!decide (d=e)):=by unfold cY eI;rw[q8 (by rw[h,qS ∅];decide)];rfl
def FQ:∀{l m:List D},(∀a∈l,∀b∈m,aR a b=false)->bD l m=false
 |[],_,_=>by rw[bD];intros;simp_all
 |_::_,[],_=>by rw[bD];intros;simp_all
 |a::l,b::m,h=>by show(aR a b||bD l m)=false;rw[h a qm b qm,FQ λx J y B=>h x (qk _ J) y (qk _ B)];rfl
open Classical in
def pB(B:List Wd)(w:List Nat)(m n:Nat)(sts tts:List St):Bool:=decide (m=n)&&(decide (∀u∈B,aM m sts u=aM n tts u)&& !decide (aM m sts w=aM n tts w))
def NT(a b:List (Int×Int))(k:Bool)(h:a.map pD=b.map pD↔k=true):cY (.lst (a.map pD)) (.lst (b.map pD))=some (!k):=by
 rw[HE]
 .congr 2;rw[Bool.eq_iff_iff,<-h];simp
 .show FQ λx J y B=>?_;let#[p,_,rfl]:=qK.mp J;let#[q,_,rfl]:=qK.mp B;rfl
 .let:=(IT a).2;show bI _+1<=30;let h2:eS (.tup (a.map pD))=bI (a.map pD)+1:=rfl;lia
def OJ(a b:List (Int×Int))(k:Bool)(h:a.map pD=b.map pD↔k=true):cY (.tup (a.map pD)) (.tup (b.map pD))=some (!k):=by
 rw[HE]
 .congr 2;rw[Bool.eq_iff_iff,<-h];simp
 .show FQ λx J y B=>?_;let#[p,_,rfl]:=qK.mp J;let#[q,_,rfl]:=qK.mp B;rfl
 .let:=(IT a).2;lia
def Hv{m n:Nat}{sts tts:List St}{u:List Nat}(k:Bool)(h:aM m sts u=aM n tts u↔k=true):cY (.lst (aM m sts u)) (.lst (aM n tts u))=some (!k):=NT _ _ k h
def Nr{m n:Nat}{sts tts:List St}{u:List Nat}(k:Bool)(h:aM m sts u=aM n tts u↔k=true):cY (.tup (aM m sts u)) (.tup (aM n tts u))=some (!k):=OJ _ _ k h
open Classical in
def MB{B:List Wd}{w:List Nat}{m n:Nat}{sts tts:List St}(hm:m<=60)(hl:sts.length<=60)(hk:tts.length<=60)
  (h:P (.sh (.bl (pB B w m n sts tts))) [.sh (zL B),.sh (.str w),.sh (bS m sts),.sh (bS n tts)]):oD [.sh (zL B),.sh (.str w),.sh (bS m sts),.sh (bS n tts)] P PX:=by
 show Ba rfl rfl ?_;simp! [bS,iD];by_cases e:m=n
 .subst e;simp! [decide_true,Bool.not_true];show ME hl λG hG=>?_;simp! [HG];show ME hk λG2 M=>?_;simp! [HG,zL];refine Cb (toD:=D.str) (λJ U=>(∀u∈J,aM m sts u=aM m tts u)/\∃Y:Option S,U=[some (.sh (zL B)),some (.sh (.str w)),some (.sh (bS m sts)),some (.sh (bS m tts)),some (.sh (.dct true (cA G) (fF G))),some (.sh (.dct true (cA G2) (fF G2))),Y]) B (λJ u h3 D2 U e hI h2 h4 h1 h5=>?_) (λU hI=>?_) #[λ_ z=>(nomatch z),none,rfl]
  .obtain⟨hp,Y,rfl⟩:=hI;simp! [oM,bS,iD];show Hd hG hl ∅ ?_;simp! [bS,iD];show Hd M hk ∅ ?_;by_cases O:aM m sts u=aM m tts u
   .simp! [zan,Hv true (iff_of_true O rfl),Bool.not_true];show h2 _ #[λv hv=>?_,_,rfl];rcases qx.mp hv with z|z
    .show hp v z
    .rw[qu.mp z];show O
   .let L:pB B w m m sts tts=false:=by unfold pB;rw[qS (p:=∀u∈B,aM m sts u=aM m tts u) λz=>O (z u (by rw[<-e];simp))];simp
    rw[L]at h;simp! [zan,Hv false #[λz=>(O z).elim,λz=>by cases z],Bool.not_false,h1];show h
  .obtain⟨hp,Y,rfl⟩:=hI;simp! [bS,iD];show Hd hG hl ∅ ?_;simp! [bS,iD];show Hd M hk ∅ ?_;let L:pB B w m m sts tts=!decide (aM m sts w=aM m tts w):=by unfold pB;rw[qR (p:=∀u∈B,aM m sts u=aM m tts u) hp,qR rfl];simp
   rw[L]at h;simp! [zan,Hv (u:=w) (m:=m) (n:=m) (sts:=sts) (tts:=tts) (decide (aM m sts w=aM m tts w)) (by simp)];show h
 .let L:pB B w m n sts tts=false:=by unfold pB;rw[qS e];rfl
  rw[L]at h;simp! [show decide (((m:Nat):Int)=(n:Int))=false from decide_eq_false ∅,Bool.not_false];show h
def MM{m:Nat}{sts:List St}{B:List Wd}(M:sts.length<=60)(J:m<=900)(hB:B.length<=60)
  (h:P (.sh (.tup (B.map λw=>D.tup (aM m sts w)))) [.sh (bS m sts),.sh (zL B)]):dg [.sh (bS m sts),.sh (zL B)] P PX:=by
 show Ba rfl rfl ?_;simp! [zL];show GB (n:=2) (toD:=D.str) B (λw=>S.sh (.tup (aM m sts w))) (λw Y l o K L O=>?_) λo=>?_
 .simp! [eL,lO,sY];show II M J ?_;simp! [e_C];show#[by simp only[cC];lia,O _]
 .rw[show(B.map λw=>S.sh (D.tup (aM m sts w)))=(B.map λw=>D.tup (aM m sts w)).map S.sh by rw[qE];rfl];simp! [zan];show h
def JU{m n:Nat}{sts tts:List St}(B:List Wd)(k:Bool)(h:(∀u∈B,aM m sts u=aM n tts u)↔k=true):cY (.tup (B.map λw=>D.tup (aM m sts w))) (.tup (B.map λw=>D.tup (aM n tts w)))=some (!k):=by
 rw[HE]
 .congr 2;rw[Bool.eq_iff_iff,<-h];simp[List.map_inj_left]
 .show FQ λx L y J=>?_;let#[u,_,rfl]:=qK.mp L;let#[v,_,rfl]:=qK.mp J;show FQ λx L y J=>?_;let#[p,_,rfl]:=qK.mp L;let#[q,_,rfl]:=qK.mp J;rfl
 .show bI _+1<=30;let:=Fj (l:=B.map λw=>D.tup (aM m sts w)) (n:=2) λd M=>by let#[w,_,rfl]:=qK.mp M;exact(IT _).2
  lia
open Classical in
def IS{B:List Wd}{w:List Nat}{m n:Nat}{sts tts:List St}(hm:m<=60)(hn:n<=60)(M:sts.length<=60)(O:tts.length<=60)(Y:B.length<=60)
  (h:P (.sh (.bl (pB B w m n sts tts))) [.sh (zL B),.sh (.str w),.sh (bS m sts),.sh (bS n tts)]):de [.sh (zL B),.sh (.str w),.sh (bS m sts),.sh (bS n tts)] P PX:=by
 show Ba rfl rfl ?_;simp! [show∀(k:Int)(l:List St),atI [D.int k,.tup (l.map bZ)] 0=some (.int k) from λ_ _=>rfl,bS];by_cases e:m=n
 .subst e;simp! [decide_true,Bool.not_true];show MM M ∅ Y ?_;simp! [e_C];show MM O ∅ Y ?_;by_cases L:∀u∈B,aM m sts u=aM m tts u
  .simp! [JU B true (iff_of_true L rfl),Bool.not_true];show II M ∅ ?_;simp! [e_C];show II O ∅ ?_;let J:pB B w m m sts tts=!decide (aM m sts w=aM m tts w):=by unfold pB;rw[qR (p:=∀u∈B,aM m sts u=aM m tts u) L,qR rfl];simp
   rw[J]at h;simp! [Nr (u:=w) (m:=m) (n:=m) (sts:=sts) (tts:=tts) (decide (aM m sts w=aM m tts w)) (by simp)];show h
  .let J:pB B w m m sts tts=false:=by unfold pB;rw[qS (p:=∀u∈B,aM m sts u=aM m tts u) L];simp
   rw[J]at h;simp! [JU B false #[λz=>(L z).elim,λz=>by cases z],Bool.not_false];show h
 .let J:pB B w m n sts tts=false:=by unfold pB;rw[qS e];rfl
  rw[J]at h;simp! [show decide (((m:Nat):Int)=(n:Int))=false from decide_eq_false ∅,Bool.not_false];show h
def Nl(L:List St):cY (.lst (L.map bZ)) (.lst [])=some (!L.isEmpty):=by rw[Kk (le_trans (m:=1) (Fj λd B=>by let#[p,_,rfl]:=qK.mp B;show q9 _) ⋯),List.isEmpty_map]
def Ln{a s:Int}{col:List Nat}{m:Nat}{sts:List St}(ha:0<=a)(hs:1<=s)(h6:s<=2147483629)(hc:0<col.length)(hc2:col.length<=26)(h1:1<=m)(hm:m<=26)(hl:sts.length<=24)
  (h:∀(n:Nat)(tts:List St) M s',1<=n->n<=26->tts.length<=24->0<=M->1<=s'->s'<=2147483629->P (.sh (bS n tts)) [aF M s',.sh (.str col),.sh (bS m sts)]):
  oC [aF a s,.sh (.str col),.sh (bS m sts)] P PX:=by
 let Y:∀L:List St,L.length<=24->∃tts:List St,cM (aH (L.map bZ))=some (.lst ((tts.map bZ).map .sh))/\tts.length<=24:=λL hL=>by let hle:=Ho (L.map bZ);rw[qo]at hle;let#[tts,e1,e2,_,_,_]:=Lv (P:=λ_=>True) (L:=L) (λ_ _=>trivial) ∅;show#[tts,e1,∅]
 have k1:∀(r:Int)(L:List St)(x y:Int)(c:Nat) M s' h9,L.length<=24->0<=M->1<=s'->s'<=2147483629->
   zN (dU (dG (aJ lB (zw 5) (wC (.int 1))) (aJ rO (wB aY (zx (zw 6) zy)) (wC (.int 24)))) (wExpr (aQ 6 (aW (zx (zw 7) (zx (zw 9) (zx (zw 8) zy)))))) aP)
    (bE (aW (zx (zw 3) (zx (wB cJ (zx (wB cK (zx (wB gD (zx (zw 6) zy)) zy)) zy)) zy)))) (dr 3 [aF a s,.sh (.str col),.sh (bS m sts)] P PX)
    [some (aF M s'),some (.sh (.str col)),some (.sh (bS m sts)),some (.sh (.int (m:Int))),some (.sh (.tup (sts.map bZ))),some (.sh (.int r)),some (.lst ((L.map bZ).map .sh)),some (.sh (.int x)),some (.sh (.int y)),some (.sh (.str [c])),h9]:=λr L x y c M s' h9 hL h2 h3 h4=>by
  by_cases hr:1<r
  .by_cases hL2:L.length<24
   .simp! [zan,length_map,show decide ((1:Int)<r)=true from decide_eq_true hr,show decide ((L.length:Int)<24)=true from decide_eq_true ∅,length_cons,length_nil];show#[by simp only[cC];lia,?_];rw[HP L (x,c,y)];let hL3:(L++[(x,c,y)]).length<=24:=by rw[qq,qB];lia
    let#[tts,e1,e2]:=Y _ hL3;simp! [zan,EX (l:=(L++[(x,c,y)]).map bZ) #[Fz _,by rw[qo];lia],e1];show h m tts M s' h1 hm e2 h2 h3 h4
   .obtain⟨tts,e1,e2⟩:=Y L hL;simp! [zan,length_map,show decide ((1:Int)<r)=true from decide_eq_true hr,show decide ((L.length:Int)<24)=false from decide_eq_false ∅,EX (l:=L.map bZ) #[Fz L,by rw[length_map];lia],e1];show h m tts M s' h1 hm e2 h2 h3 h4
  .obtain⟨tts,e1,e2⟩:=Y L hL;simp! [zan,show decide ((1:Int)<r)=false from decide_eq_false hr,EX (l:=L.map bZ) #[Fz L,by rw[length_map];lia],e1];show h m tts M s' h1 hm e2 h2 h3 h4
 show Ba rfl rfl ?_;simp! [aF,bS,length_cons,length_nil];show AE ha hs h6 ⋯ ⋯ λr a1 s1 hr hr2 r3 hb O=>?_;simp! [aF];by_cases r1:r=0
 .subst r1;simp! [decide_true];rw[show(if(m:Int)+1<26 then(m:Int)+1 else 26)=((min 26 (m+1):Nat):Int) by split<;>lia];show h _ sts a1 s1 ∅ ∅ hl r3 hb O
 .simp! [decide_eq_false r1,zan];show AE r3 hb O ∅ ∅ λx a2 s2 hx hx2 ha2 h6 hk=>?_;simp! [aF];show AE ha2 h6 hk ∅ ∅ λy a3 s3 hy hy2 ha3 k3 e4=>?_;simp! [aF];show AE ha3 k3 e4 ∅ ∅ λq a4 s4 hq hq2 h8 h5 J=>?_;let#[c,hcm,_,e]:=Ew (l:=col) hq hq2;simp! [aF,e,zan,Nl];let B:=k1 r;unfold aF bS at B;generalize zN (dU (dG (aJ lB (zw 5) (wC (.int 1))) (aJ rO (wB aY (zx (zw 6) zy)) (wC (.int 24)))) (wExpr (aQ 6 (aW (zx (zw 7) (zx (zw 9) (zx (zw 8) zy)))))) aP) (bE (aW (zx (zw 3) (zx (wB cJ (zx (wB cK (zx (wB gD (zx (zw 6) zy)) zy)) zy)) zy)))) (dr 3 [.lst [.sh (.int a),.sh (.int s)],.sh (.str col),.sh (.tup [.int (m:Int),.tup (sts.map bZ)])] P PX)=W at B⊢;by_cases h7:sts=[]
  .let hi:sts.isEmpty=true:=by rw[h7];rfl
   simp! [hi,Bool.not_true];show B sts x y c a4 s4 _ hl h8 h5 J
  .have hi:sts.isEmpty=false:=by rw[List.isEmpty_eq_false_iff];exact h7
   let h0:0<sts.length:=qP.mpr h7;by_cases hd:r<3
   .simp! [hi,Bool.not_false,decide_eq_true hd,length_map];show AE h8 h5 J ∅ ∅ λp a5 s5 hp hp2 ha5 k2 e3=>?_;simp! [aF,length_map];let r2:p.toNat<sts.length:=by lia
    show HN hp (by simp only[qo,cC];lia) (Jk (d:=bZ sts[p.toNat]) (by rw[qF,qh r2];rfl)) ?_;let hle2:(sts.eraseIdx p.toNat).length=sts.length-1:=List.length_eraseIdx_of_lt r2;rw[ED,ED];generalize sts[p.toNat]=t;simp! [bZ,length_cons,length_nil];show B (sts.eraseIdx p.toNat) t.1 y t.2.1 a5 s5 _ ∅ ha5 k2 e3
   .simp! [hi,Bool.not_false,decide_eq_false hd];show B sts x y c a4 s4 _ hl h8 h5 J
def TZ{a s J:Int}{col:List Nat}{B:List Wd}(ha:0<=a)(hs:1<=s)(h9:s<=2147483629)(hc:0<col.length)(h3:col.length<=26)(h1:0<=J)(e2:J<=12)(hB:B.length<=1000)(hw:∀w∈B,w.length<=1000/\∀c∈w,c∈col)
  (h:∀(t:Wd) a' s',t.length<=12->(∀c∈t,c∈col)->0<=a'->1<=s'->s'<=2147483629->P (.sh (.str t)) [aF a' s',.sh (zL B),.sh (.str col),.sh (.int J)]):sN [aF a s,.sh (zL B),.sh (.str col),.sh (.int J)] P PX:=by
 show Ba rfl rfl ?_;simp! [aF,length_cons,length_nil];show AE ha hs h9 ∅ ∅ λr a1 s1 hr e3 h7 h6 Y=>?_;simp! [aF];cases q:decide (r=0)
 .simp! [e_C];show Si h7 h6 Y hc h3 h1 ∅ hB hw λt a2 s2 ht h4 O M L=>?_;let ht:t.length<=12:=by lia
  simp! [aF,zan];cases q1:decide (r=1)
  .simp! [aF];show h t a2 s2 ht h4 O M L
  .simp! [aF];show IU O M L h1 ∅ hc h3 λl a3 s3 hl h2 e1 h8 h5=>?_;let hl:l.length<=12:=by lia
   simp! [aF,zan];show h _ a3 s3 ?_ (λc hc=>?_) e1 h8 h5
   .unfold aU sIx;simp only[q8 (show¬J<0 by lia)];rw[qH];lia
   .show(qx.mp (DL hc)).elim (h4 c) (h2 c)
 .simp! [e_C];show IU h7 h6 Y h1 ∅ hc h3 λl a2 s2 hl h2 O M L=>?_;simp! [aF];show h l a2 s2 ∅ h2 O M L
def kv(w:Wd)(f:Nat->Bool)(p:Nat):List St:=[(2*(p:Int),w.getD p 0,2*(p:Int)+2+if f p then 1 else 0),(2*(p:Int)+1,w.getD p 0,2*(p:Int)+3-if f p then 1 else 0)]
def dS(w:Wd)(f:Nat->Bool):List St:=(List.range w.length).flatMap (kv w f)
def HZ(w:Wd)(f:Nat->Bool):gK w f=bS ((2*w.length+2:Nat):Int) (dS w f):=by
 unfold gK bS dS;rw[List.map_flatMap,List.flatMap_def,List.flatMap_def,show(List.range w.length).map (nZ w f)=(List.range w.length).map λp=>(kv w f p).map bZ from map_congr_left λp B=>by let B:=qJ.mp B;unfold nZ kv nL bZ;simp[qh B]]
 congr 3
def Ft(w:Wd)(f:Nat->Bool):(dS w f).length=2*w.length:=by
 let h:=Ik w f (List.range w.length);rw[qD]at h;let e:=HZ w f;unfold gK bS at e;injection e with e
 injection e with _ e
 injection e with e _
 injection e with e
 rw[e,qo]at h;show h
abbrev Ch:=Nat×List St
abbrev PC:=Ch×Ch
def cD(c:Ch):D:=bS (c.1:Int) c.2
def iM(q:PC):D:=.tup [cD q.1,cD q.2]
def mT(c:Ch):Prop:=1<=c.1/\c.1<=26/\c.2.length<=24
def sA(q:PC):Prop:=mT q.1/\mT q.2
def HA(A:List PC)(q:PC):(A.map iM).map S.sh++[S.sh (iM q)]=((A++[q]).map iM).map S.sh:=by simp
def Nv(l:List D):eG (.tup l) .non=some true:=by unfold eG bb;simp
def NC:eG .non .non=some false:=by unfold eG bb;simp
def Rj{K:Ends}{b:Bool}{a s:Int}{col w:List Nat}{m:Nat}{sts:List St}{s2 s5 s6:Option S}{A:List PC}(ha:0<=a)(hs:1<=s)(L:s<=2147483629)(hc:0<col.length)(h2:col.length<=26)(hw:w.length<=12)(ho:mT (m,sts))(hA:A.length<=1)(M:∀q∈A,sA q)
  (h:∀(O:List PC) a' s',A.length<=O.length->O.length<=2->(∀q∈O,sA q)->0<=a'->1<=s'->s'<=2147483629->K.nx [some (aF a' s'),some (.sh (.str col)),s2,some (.sh (.str w)),some (.sh (cD (m,sts))),s5,s6,some (.lst ((O.map iM).map .sh)),none,none,none]):
  ai (wExpr (aQ 7 (aW (zx (zw 4) (zx (zO mH [true,true,true,true,true] (zx (zw 0) (zx (zw 1) (zx (dY (zw 3) none (some (wC (.int 6)))) (zx (wC (.int 8)) (zx (wC (.int 24)) zy)))))) zy))))) aP K b [some (aF a s),some (.sh (.str col)),s2,some (.sh (.str w)),some (.sh (cD (m,sts))),s5,s6,some (.lst ((A.map iM).map .sh)),none,none,none]:=by
 let e1:=Ed w none (some 6);cases b with
 |false=>simp! [e_C];show h A a s (q9 _) ∅ M ha hs L
 |true=>
  simp! [aF];show Mz ha hs L ⋯ ⋯ ⋯ ⋯ hc h2 ∅ λmany B a1 s1 h9 h8 h5 h4 h6 h7 h3 Y J=>?_;obtain⟨n,rfl⟩:∃n:Nat,many=n:=#[many.toNat,∅]
  let h1:mT (n,B):=#[by show 1<=n;lia,by show n<=26;lia,by show B.length<=24;lia]
  simp! [aF,length_map,length_cons,length_nil];show#[by simp only[cC];lia,?_];let:=h (A++[((m,sts),(n,B))]) a1 s1 (by simp) (by rw[qq,qB];lia) (λq hq=>?_) h3 Y J
  .rw[<-HA]at this;show this
  .rcases qx.mp hq with z|z
   .show M q z
   .rw[qu.mp z];show#[ho,h1]
def Ti{K:Ends}{n:Nat}{L t2:List St}{s0 s1 s2 s3 Y O M:Option S}{A:List PC}(o1:mT (n,L))(o2:mT (n,t2))(hA:A.length<=7)(B:∀q∈A,sA q)
  (h:∀J:List PC,1<=J.length\/J=A->J.length<=A.length+1->(∀q∈J,sA q)->K.nx [s0,s1,s2,s3,some (.sh (bS (n:Int) L)),some (.sh (bS (n:Int) t2)),Y,some (.lst ((J.map iM).map .sh)),O,M,none]):
  ai (wExpr (aQ 7 (aW (zx (aW (zx (zM aN (bU (zw 4) (wC (.int 0))) (wC (.int 1))) (zx (bU (zw 4) (wC (.int 1))) zy))) (zx (aW (zx (zM aN (bU (zw 5) (wC (.int 0))) (wC (.int 1))) (zx (bU (zw 5) (wC (.int 1))) zy))) zy))))) aP K (decide ((n:Int)<26)) [s0,s1,s2,s3,some (.sh (bS (n:Int) L)),some (.sh (bS (n:Int) t2)),Y,some (.lst ((A.map iM).map .sh)),O,M,none]:=by
 by_cases hn:(n:Int)<26
 .simp! [decide_eq_true hn,bS,iD,nP,length_cons,length_nil,length_map];show#[by simp only[cC];lia,?_];let:=h (A++[((n+1,L),(n+1,t2))]) (.inl (by simp)) (by simp) λq hq=>by
   rcases qx.mp hq with z|z
   .show B q z
   .rw[qu.mp z];show#[#[by show 1<=n+1;lia,by show n+1<=26;lia,o1.2.2],#[by show 1<=n+1;lia,by show n+1<=26;lia,o2.2.2]]
  rw[<-HA]at this;show this
 .simp! [decide_eq_false hn];show h A (.inr rfl) ∅ B
def UG{a s:Int}{col w:List Nat}{B:List Wd}(ha:0<=a)(hs:1<=s)(M:s<=2147483629)(hc:0<col.length)(h8:col.length<=26)(hf:cq B w)
  (h:∀(A:List PC) a' s',1<=A.length->A.length<=9->(∀q∈A,sA q)->0<=a'->1<=s'->s'<=2147483629->P (.lst ((A.map iM).map .sh)) [aF a' s',.sh (.str col),.sh (zL B),.sh (.str w)]):
  sM [aF a s,.sh (.str col),.sh (zL B),.sh (.str w)] P PX:=by
 let h12:=hf.tw;let hcl:=Ed w none (some 6);show Ba rfl rfl ?_;simp! [aF];show Mz ha hs M ⋯ ⋯ ⋯ ⋯ hc h8 ∅ λmany Y a1 s1 hm1 hm8 hst hsts hpw hnd ha1 k3 hd=>?_;obtain⟨m,rfl⟩:∃m:Nat,many=m:=#[many.toNat,∅]
 let ho:mT (m,Y):=#[by show 1<=m;lia,by show m<=26;lia,by show Y.length<=24;lia]
 simp! [aF];show AE ha1 k3 hd ⋯ ⋯ λr a2 s2 hr hr2 ha2 M hl=>?_;simp! [aF];show#[by simp only[cC];lia,?_];show Hu (λk U=>∃(a s:Int)(c:Ch)(o6:Option S),0<=a/\1<=s/\s<=2147483629/\mT c/\U=[some (aF a s),some (.sh (.str col)),some (.sh (zL B)),some (.sh (.str w)),some (.sh (cD (m,Y))),some (.sh (cD c)),o6,none,none,none,none]) _ (λk x hx D2 U hI hnx hct hrt hbk=>?_) (λU hI=>?_) #[a2,s2,(m,Y),none,ha2,M,hl,ho,rfl]
 .obtain⟨a,s,c,o6,ha,hs,M,h7,rfl⟩:=hI;simp! [oK,cD,aF];show Ln ha hs M hc h8 h7.1 h7.2.1 h7.2.2 λn r1 a' s' h1 h2 h3 h4 h5 h6=>?_;simp! [e_C];show hnx _ #[a',s',(n,r1),_,h4,h5,h6,#[h1,h2,h3],rfl]
 .obtain⟨a,s,c,o6,ha,hs,M,h7,rfl⟩:=hI;simp! [aF,zan,length_cons,length_nil];show AE ha hs M ⋯ ⋯ λr2 a3 s3 hr3 hr23 ha3 k2 hb=>?_;simp! [aF];show Rj (A:=[((m,Y),c)]) ha3 k2 hb hc h8 h12 ho (q9 1) (λq hq=>by rw[qu.mp hq];show#[ho,h7]) λA a4 s4 e2 hA2 hA hm e4 h9=>?_;let e2:1<=A.length:=e2;let e0:([]:List (List Nat)).contains xO=false:=rfl;let e1:[xO].contains xO=true:=by decide
  simp! [e_C];show Uj hf (λq=>?_) λq=>?_
  .simp! [e0,e1,NC,length_cons,length_nil];show h A a4 s4 e2 ∅ hA hm e4 h9
  .unfold mM;rw[HZ,HZ];let hw1:1<=w.length:=by
    cases w with
    |nil=>have z:eQ B [] 0=0:=((RW B []).zero (λa b hab=>by unfold rP fu at*;rw[Bool.or_comm];show hab) 0).mpr (.refl _);unfold xB at q;rw[show([]:Wd).length=0 from rfl,z]at q;cases q
    |cons=>simp
   let o1:mT (2*w.length+2,dS w λ_=>false):=#[by show 1<=2*w.length+2;lia,by show 2*w.length+2<=26;lia,by show(dS w λ_=>false).length<=24;rw[Ft];lia]
   let o2:mT (2*w.length+2,dS w (rN B w)):=#[by show 1<=2*w.length+2;lia,by show 2*w.length+2<=26;lia,by show(dS w (rN B w)).length<=24;rw[Ft];lia]
   let l1:1<=(dS w λ_=>false).length:=by rw[Ft];lia
   let e3:(dS w λ_=>false).length=(dS w (rN B w)).length:=by rw[Ft,Ft]
   generalize dS w (λ_=>false)=J at*;generalize dS w (rN B w)=L at*;generalize 2*w.length+2=n at*;simp! [Nv,length_cons,length_nil,length_map];show#[by simp only[cC];lia,?_];simp! [aF];show Ln hm e4 h9 hc h8 o2.1 o2.2.1 o2.2.2 λk O a5 s5 h31 h32 h33 ha5 k1 hi=>?_;let o3:mT (k,O):=#[h31,h32,h33]
   simp! [aF,length_cons,length_nil,length_map,length_append];show#[by simp only[cC];lia,?_];rw[show((A.map iM).map S.sh++[S.sh (.tup [bS (n:Int) J,bS (n:Int) L]),S.sh (.tup [bS (n:Int) J,bS (n:Int) J])])++[S.sh (.tup [bS (n:Int) J,bS (k:Int) O]),S.sh (.tup [bS (k:Int) O,bS (n:Int) L])]=((A++[((n,J),(n,L)),((n,J),(n,J)),((n,J),(k,O)),((k,O),(n,L))]).map iM).map S.sh by simp[iM,cD]];let hA4:∀q∈A++[((n,J),(n,L)),((n,J),(n,J)),((n,J),(k,O)),((k,O),(n,L))],sA q:=λq hq=>by
    rcases qx.mp hq with z|z
    .show hA q z
    .simp only[qA,not_mem_nil,or_false]at z;rcases z with rfl|rfl|rfl|rfl
     .show#[o1,o2]
     .show#[o1,o1]
     .show#[o1,o3]
     .show#[o3,o2]
   let hA5:(A++[((n,J),(n,L)),((n,J),(n,J)),((n,J),(k,O)),((k,O),(n,L))]).length=A.length+4:=by simp
   generalize A++[((n,J),(n,L)),((n,J),(n,J)),((n,J),(k,O)),((k,O),(n,L))]=A4 at*;simp! [show iR (S.sh (bS (n:Int) J)) (.int 0)=some (.sh (.int (n:Int))) from rfl];show Ti o1 o2 ∅ hA4 λA6 _ hA6 hA7=>?_;simp! [show iR (S.sh (bS (n:Int) J)) (.int 1)=some (.sh (.tup (J.map bZ))) from rfl,length_map];show AE ha5 k1 hi ∅ (by let:=o1.2.2;show(J.length:Int)<_;let:J.length<=24:=o1.2.2;lia) λp a6 s6 hp hp2 ha6 r3 hk=>?_;let ec:∀t:List St,t.length=J.length->aU (t.map bZ) none (some p)=(t.take p.toNat).map bZ/\aU (t.map bZ) (some (p+1)) none=(t.drop (p+1).toNat).map bZ:=λt ht=>by rw[Fg,Fg,Io _ hp ∅,FN _ ∅];show#[rfl,rfl]
   let t24:J.length<=24:=o1.2.2;let b1:(J.take p.toNat).length+(J.drop (p+1).toNat).length<=24:=by rw[qH,qG];lia
   let b2:(L.take p.toNat).length+(L.drop (p+1).toNat).length<=24:=by rw[qH,qG];lia
   simp! [aF,bS,iD,nP,(ec J rfl).1,(ec J rfl).2,(ec L e3.symm).1,(ec L e3.symm).2,length_cons,length_nil,length_map,length_append];show#[by simp only[cC];lia,?_];let:=h (A6++[((n,J.take p.toNat++J.drop (p+1).toNat),(n,L.take p.toNat++L.drop (p+1).toNat))]) a6 s6 (by simp) (by rw[qq,qB];lia) (λq hq=>?_) ha6 r3 hk
   .rw[<-HA]at this;simp only[iM,cD,bS,map_append]at this;show this
   .rcases qx.mp hq with z|z
    .show hA7 q z
    .rw[qu.mp z];show#[#[o1.1,o1.2.1,by show(_++_:List St).length<=24;rw[qq];show b1],#[o2.1,o2.2.1,by show(_++_:List St).length<=24;rw[qq];show b2]]
def Py(B:List Wd)(w:List Nat)(m n:Nat)(sts tts:List St):pB B w m n sts tts=pB B w n m tts sts:=by unfold pB;rw[Bool.eq_iff_iff];simp only[and_eq_true,qT,Bool.not_eq_true',decide_eq_false_iff_not];show#[λ⟨a,b,c⟩=>#[a.symm,λu J=>(b u J).symm,λz=>c z.symm],λ⟨a,b,c⟩=>#[a.symm,λu J=>(b u J).symm,λz=>c z.symm]]
def Hw(b:Bool):cY (.bl b) (.bl b)=some false:=Sh rfl (by show 0<=30;decide)
def GC{D':Ends}{B:List Wd}{w:List Nat}{q:PC}{s0 s1 s2 s3 s6 s7 Y O M:Option S}(hB:B.length<=60)(hq:sA q)
  (h:∀Y O M,D'.nx [s0,s1,s2,s3,some (.sh (zL B)),some (.sh (.str w)),s6,s7,some (.sh (cD q.1)),some (.sh (cD q.2)),Y,O,M]):
  gQ D' [s0,s1,s2,s3,some (.sh (zL B)),some (.sh (.str w)),s6,s7,some (.sh (cD q.1)),some (.sh (cD q.2)),Y,O,M]:=by
 let#[#[m,L],#[n,J]]:=q;let#[#[h1,h2,h3],#[h4,h5,h6]]:=hq;let h2:m<=26:=h2;let h5:n<=26:=h5;let h3:L.length<=24:=h3;let h6:J.length<=24:=h6;rw[oJ];simp! [cD];show MB ∅ ∅ ∅ ?_;simp! [length_cons,length_nil];show Cb (toD:=λp:PC=>D.tup [cD p.1,cD p.2]) (λ_ U=>∃O M:Option S,U=[s0,s1,s2,s3,some (.sh (zL B)),some (.sh (.str w)),s6,s7,some (.sh (bS (m:Int) L)),some (.sh (bS (n:Int) J)),some (.sh (.bl (pB B w m n L J))),O,M]) [((m,L),(n,J)),((n,J),(m,L))] (λh9 p h8 D2 U e hI h7 e2 e1 e3=>?_) (λU hI=>?_) #[O,M,rfl]
 .obtain⟨O,M,rfl⟩:=hI;let hp:p=((m,L),(n,J))\/p=((n,J),(m,L)):=by
   let:p∈[((m,L),(n,J)),((n,J),(m,L))]:=by rw[<-e];simp
   simpa using this
  rcases hp with rfl|rfl
  .simp! [kL,cD,iD,nP];show IS ∅ ∅ ∅ ∅ hB ?_;simp! [show∀b,jK "bool" (.bl b)=true from λ_=>rfl,Bool.not_true,Hw];show h7 _ #[_,_,rfl]
  .simp! [kL,cD,iD,nP];show IS ∅ ∅ ∅ ∅ hB ?_;rw[Py B w n m J L];simp! [show∀b,jK "bool" (.bl b)=true from λ_=>rfl,Bool.not_true,Hw];show h7 _ #[_,_,rfl]
 .obtain⟨O,M,rfl⟩:=hI;let eb:aU (B.map D.str) (some 1) none=(B.drop 1).map D.str:=by rw[Fg,FN _ ⋯];rfl
  simp! [zL,eb];show IS (B:=B.drop 1) ∅ ∅ ∅ ∅ (by rw[qG];lia) ?_;simp! [zL,eb];show MB (B:=B.drop 1) ∅ ∅ ∅ ?_;simp! [Hw];show h _ _ _
def Oz{col:List Nat}{B:List Wd}{w:Wd}(h:lA col 6 6 B)(L:w.length<=12):cq B w:=#[h.2.1,λx J=>(h.2.2 x J).1,λx J=>by let:=(h.2.2 x J).2.1;lia,h.1,L]
def Do:∀ns:List Int,ns.length<=63->mF [.sh (.lst (ns.map .int))] (λs _=>s=.sh (.bl true)) λ_ _=>False:=by
 intro ns hl;show Ba rfl rfl ?_;simp! [length_map];show Lw ∅ λa s ha hs h1=>?_;simp! [aF];show AE ha hs h1 ∅ ∅ λr a1 s1 hr hr2 h4 h3 Y=>?_;simp! [aF,zan];show UJ h4 h3 Y ∅ ∅ λh6 a2 s2 hcl hcp hcr e1 k1 h2=>?_;simp! [aF,zan,length_map];generalize hz:(if(if(ns.length:Int)<3 then(ns.length:Int)else 3)>2 then(if(ns.length:Int)<3 then(ns.length:Int)else 3)else 2)=z;let hz1:2<=z/\z<=3:=by subst hz;split<;>split<;>lia
 show#[by simp only[cC];lia,?_];rw[show fromTo 1 (z-1).toNat=(List.range (z-1).toNat).map λ(k:Nat)=>D.int ((k:Int)+1) by unfold fromTo;show map_congr_left λk _=>by rw[Int.add_comm]]
 show Cb (λe3 U=>∃(o1 o3 o4 o5 o6 o7 o8 o9 M L J:Option S),U=[some (.sh (.lst (ns.map .int))),o1,some (.sh (.str h6)),o3,o4,o5,o6,o7,o8,o9,M,L,J]) (List.range (z-1).toNat) (λe3 k r2 D2 U e hI hb hct hrt hbk=>?_) (λU hI=>?_) #[_,_,_,_,_,_,_,_,_,_,_,rfl]
 .obtain⟨o1,o3,o4,o5,o6,o7,o8,o9,M,L,J,rfl⟩:=hI;simp! [oI];show Lw ∅ λa s ha hs h1=>?_;simp! [aF];show TX ha hs h1 ∅ ∅ ⋯ ⋯ ⋯ ⋯ λB a1 s1 hB h4 h3 Y=>?_;let hB:lA h6 6 6 B:=hB;let hB6:B.length<=6:=hB.1;simp! [aF,length_cons,length_nil];show AE h4 h3 Y ⋯ ⋯ λx a2 s2 hx hx2 e1 h1 h2=>?_;obtain⟨O,em,h0,hm⟩:∃O:Int,atI [S.sh (D.int 6),.sh (.int 6),.sh (.int 6),.sh (.int 12)] x=some (.sh (.int O))/\0<=O/\O<=12:=by
   let:x=0\/x=1\/x=2\/x=3:=∅
   rcases this with rfl|rfl|rfl|rfl
   .show#[6,rfl,⋯,⋯]
   .show#[6,rfl,⋯,⋯]
   .show#[6,rfl,⋯,⋯]
   .show#[12,rfl,⋯,⋯]
  simp! [aF,em,zan];show TZ e1 h1 h2 ∅ ∅ h0 hm ∅ (λy hy=>#[by let:=(hB.2.2 y hy).2.1;lia,(hB.2.2 y hy).2.2]) λt a3 s3 ht htc hd hi h8=>?_;let hf:=Oz hB ht;simp! [aF,zan];show UG hd hi h8 ∅ ∅ hf λA a4 s4 hA1 hA9 hA hc hk h7=>?_;simp! [aF,zan,length_map];show AE hc hk h7 ∅ ∅ λp a5 s5 hp hp2 ha5 hs5 r3=>?_;let b1:=Ed (A.map iM) (some p) none;let b2:=Ed (A.map iM) none (some p);rw[qo]at b1 b2;simp! [aF,zan,length_map];rw[Fg,Fg,<-map_append,Fg];show Cb (toD:=iM) (λ_ U=>∃(o8 o9 M L J:Option S),U=[some (.sh (.lst (ns.map .int))),some (aF a5 s5),some (.sh (.str h6)),some (.sh (.int ((k:Int)+1))),some (.sh (zL B)),some (.sh (.str t)),some (.sh (.lst (A.map iM))),some (.sh (.int p)),o8,o9,M,L,J]) _ (λr1 q e4 D3 U e2 h5 h9 k3 k2 hbk2=>?_) (λU h5=>?_) #[o8,o9,M,L,J,rfl]
  .obtain⟨o8,o9,M,L,J,rfl⟩:=h5;let hq:q∈aU (aU A (some p) none++aU A none (some p)) none (some 4):=by rw[<-e2];simp
   let hq:sA q:=hA q ((qx.mp (DL hq)).elim DL DL);simp! [iM,length_cons,length_nil];show GC ∅ hq λM L J=>h9 _ #[_,_,M,L,J,rfl]
  .obtain⟨o8,o9,M,L,J,rfl⟩:=h5;show hb _ #[_,_,_,_,_,_,_,_,_,_,_,rfl]
 .obtain⟨o1,o3,o4,o5,o6,o7,o8,o9,M,L,J,rfl⟩:=hI;simp! [e_C]
end pu
end Law
section
set_option maxHeartbeats 4000000
namespace Law
open PySem PySem.Spec PyProof.Rows L2 FL
local macro_rules
 |`(tactic|trivial)=>`(tactic|first|exact Or.inl rfl|exact Or.inr rfl)
@[inline]def top(i:Nat):Stmt:=PySem.Challenge.pw_walktold_k43_maps_that_part.main.body.getD i (.Pass #[0,0,0,0])
@[reducible]def ik:Stmt:=top 4
def oz:List Str:=["board","word"]
abbrev je:List Str:=["board","word"]
def Jr:aD oz je (aA ik):=Bd
@[reducible]def ij:Stmt:=top 5
def oy:List Str:=["board","word"]
abbrev jd:List Str:=["board","word"]
def Jq:aD oy jd (aA ij):=Bd
@[reducible]def ig:Stmt:=top 6
def ox:List Str:=["land","ends","told","i","j"]
abbrev jc:List Str:=["land","ends"]
def Dk:aD ox jc (aA ig):=Bd
@[reducible]def ie:Stmt:=top 7
def ow:List Str:=["land","i","j","low","high"]
abbrev jb:List Str:=["land","i","j"]
def EK:aD ow jb (aA ie):=Bd
@[reducible]def ic:Stmt:=top 9
def ou:List Str:=["chart","word","many","streets","goes","begin","colour","end","pairs","x","front"]
abbrev ja:List Str:=["chart","word"]
def Bc:aD ou ja (aA ic):=Bd
@[reducible]def ib:Stmt:=top 10
def ot:List Str:=["chart","board"]
abbrev iz:List Str:=["chart","board"]
def Jp:aD ot iz (aA ib):=Bd
@[reducible]def ia:Stmt:=top 12
def oq:List Str:=["board","word","land","straight","crossed"]
abbrev iy:List Str:=["board","word"]
def DN:aD oq iy (aA ia):=Bd
@[reducible]def gz:Stmt:=top 13
def om:List Str:=["word","crossed","streets","place","colour","turn"]
abbrev ix:List Str:=["word","crossed"]
def Di:aD om ix (aA gz):=Bd
@[reducible]def gy:Stmt:=top 14
def oj:List Str:=["board","word","one","other"]
abbrev iw:List Str:=["board","word","one","other"]
def Jo:aD oj iw (aA gy):=Bd
@[reducible]def gx:Stmt:=top 16
def oh:List Str:=["_law_script","_law_k","_law_cell","_law_seed"]
abbrev iu:List Str:=["_law_script","_law_k"]
def Dh:aD oh iu (aA gx):=Bd
@[reducible]def uL:Stmt:=top 17
def jv:List Str:=["_law_box_here","_law_many","_law_digit","_law_one"]
abbrev vN:List Str:=["_law_box_here","_law_many"]
def Dm:aD jv vN (aA uL):=Bd
@[reducible]def uK:Stmt:=top 18
def ju:List Str:=["_law_box_here","_law_many","_law_left"]
abbrev vM:List Str:=["_law_box_here","_law_many"]
def Ej:aD ju vM (aA uK):=Bd
@[reducible]def uJ:Stmt:=top 19
def jt:List Str:=["_law_box_here","_law_colours_here","_law_most","_law_many"]
abbrev vL:List Str:=["_law_box_here","_law_colours_here","_law_most"]
def Ei:aD jt vL (aA uJ):=Bd
@[reducible]def uI:Stmt:=top 20
def js:List Str:=["_law_box_here","_law_colours_here","_law_board_here","_law_one","_law_kind","_law_colour","_law_at"]
abbrev vK:List Str:=["_law_box_here","_law_colours_here","_law_board_here"]
def BQ:aD js vK (aA uI):=Bd
@[reducible]def uH:Stmt:=top 21
def jr:List Str:=["_law_box_here","_law_colours_here","_law_many","_law_most","_law_found","_law_k","_law_word_here"]
abbrev vJ:List Str:=["_law_box_here","_law_colours_here","_law_many","_law_most"]
def BP:aD jr vJ (aA uH):=Bd
@[reducible]def uG:Stmt:=top 22
def jq:List Str:=["_law_board_here","_law_text","_law_p","_law_most","_law_found","_law_one"]
abbrev vI:List Str:=["_law_board_here","_law_text","_law_p","_law_most"]
def Dl:aD jq vI (aA uG):=Bd
@[reducible]def uF:Stmt:=top 23
def jo:List Str:=["_law_box_here","_law_board_here","_law_colours_here","_law_most","_law_text","_law_p","_law_turn","_law_some","_law_one","_law_goal","_law_at"]
abbrev vH:List Str:=["_law_box_here","_law_board_here","_law_colours_here","_law_most"]
def AB:aD jo vH (aA uF):=Bd
@[reducible]def uE:Stmt:=top 24
def jn:List Str:=["_law_box_here","_law_colours_here","_law_word_here","_law_rooms","_law_streets","_law_many","_law_found","_law_turn","_law_x","_law_colour","_law_y","_law_k"]
abbrev vG:List Str:=["_law_box_here","_law_colours_here","_law_word_here","_law_rooms","_law_streets"]
def AQ:aD jn vG (aA uE):=Bd
@[reducible]def uD:Stmt:=top 25
def jm:List Str:=["_law_box_here","_law_board_here","_law_colours_here","_law_most","_law_kind","_law_found"]
abbrev vF:List Str:=["_law_box_here","_law_board_here","_law_colours_here","_law_most"]
def Cw:aD jm vF (aA uD):=Bd
@[reducible]def uC:Stmt:=top 26
def jl:List Str:=["_law_chart_here","_law_found","_law_x","_law_colour","_law_y"]
abbrev vE:List Str:=["_law_chart_here"]
def BO:aD jl vE (aA uC):=Bd
@[reducible]def uA:Stmt:=top 27
def jk:List Str:=["_law_many","_law_leads_here","_law_word_here","_law_found","_law_x","_law_here","_law_colour","_law_there","_law_y"]
abbrev vD:List Str:=["_law_many","_law_leads_here","_law_word_here"]
def AZ:aD jk vD (aA uA):=Bd
@[reducible]def tZ:Stmt:=top 28
def jj:List Str:=["_law_board_here","_law_word_here","_law_one","_law_other","_law_first","_law_second","_law_own"]
abbrev vB:List Str:=["_law_board_here","_law_word_here","_law_one","_law_other"]
def Dj:aD jj vB (aA tZ):=Bd
@[reducible]def tY:Stmt:=top 29
def ji:List Str:=["_law_box_here","_law_colours_here","_law_chart_here","_law_many","_law_streets","_law_kind","_law_left","_law_x","_law_y","_law_colour","_law_z"]
abbrev uZ:List Str:=["_law_box_here","_law_colours_here","_law_chart_here"]
def AO:aD ji uZ (aA tY):=Bd
@[reducible]def tX:Stmt:=top 30
def jh:List Str:=["_law_box_here","_law_colours_here","_law_board_here","_law_word_here","_law_one","_law_other","_law_turn","_law_found","_law_sides","_law_spoilt","_law_at"]
abbrev uY:List Str:=["_law_box_here","_law_colours_here","_law_board_here","_law_word_here"]
def Ay:aD jh uY (aA tX):=Bd
@[reducible]def tV:Stmt:=top 31
def jg:List Str:=["_law_script","_law_box_here","_law_colours_here","_law_k","_law_board_here","_law_word_here","_law_pairs_here","_law_at","_law_one","_law_other","_law_due","_law_pair","_law_found"]
abbrev uX:List Str:=["_law_script"]
def Aw:aD jg uX (aA tV):=Bd
structure Txt(K:W.Frag)(mg:Str->Option Value)(af:Nat->Addr):Prop where
 t_0:Tx K mg (af 0) "stretches" ik je
 t_1:Tx K mg (af 1) "lands" ij jd
 t_2:Tx K mg (af 2) "all_joined" ig jc
 t_3:Tx K mg (af 3) "land_joined" ie jb
 t_4:Tx K mg (af 4) "table" ic ja
 t_5:Tx K mg (af 5) "board_tables" ib iz
 t_6:Tx K mg (af 6) "twins" ia iy
 t_7:Tx K mg (af 7) "double_map" gz ix
 t_8:Tx K mg (af 8) "part" gy iw
 t_9:Tx K mg (af 9) "_law_box" gx iu
 t_10:Tx K mg (af 10) "_law_take" uL vN
 t_11:Tx K mg (af 11) "_law_colours" uK vM
 t_12:Tx K mg (af 12) "_law_word" uJ vL
 t_13:Tx K mg (af 13) "_law_near" uI vK
 t_14:Tx K mg (af 14) "_law_board" uH vJ
 t_15:Tx K mg (af 15) "_law_moves" uG vI
 t_16:Tx K mg (af 16) "_law_led" uF vH
 t_17:Tx K mg (af 17) "_law_chart" uE vG
 t_18:Tx K mg (af 18) "_law_any_word" uD vF
 t_19:Tx K mg (af 19) "_law_leads" uC vE
 t_20:Tx K mg (af 20) "_law_pairs_of" uA vD
 t_21:Tx K mg (af 21) "_law_parts" tZ vB
 t_22:Tx K mg (af 22) "_law_put_otherwise" tY uZ
 t_23:Tx K mg (af 23) "_law_pairs" tX uY
 t_24:Tx K mg (af 24) "law" tV uX
 n_bool:mg "bool"=none
 n_enumerate:mg "enumerate"=none
 n_int:mg "int"=none
 n_isinstance:mg "isinstance"=none
 n_len:mg "len"=none
 n_list:mg "list"=none
 n_max:mg "max"=none
 n_min:mg "min"=none
 n_range:mg "range"=none
 n_set:mg "set"=none
 n_sorted:mg "sorted"=none
 n_tuple:mg "tuple"=none
 n_zip:mg "zip"=none
 g_IsFixed:mg "IsFixed"=some (.ref (af 25))
 k_IsFixed:W.nsIn K mainGlobals "IsFixed"=some (some (.ref (af 25)))
 e_IsFixed:W.excIn K (af 25) jL gC=true
 m_IsFixed_IsFixed:W.mroIn K (af 25) (.ref (af 25))=some true
section
variable{P:Program}{w:World}{K:W.Frag}{mg:Str->Option Value}{base:Heap}{af:Nat->Addr}
def Jx(T:Txt K mg af):fM P w K mg base af 1 0 je (dP K fk 2):=Be T.t_0 Jr λ_ _ _ _ _ _ B=>Aj (AL (Fh B (by rfl) T.n_sorted Ff (Aa (OG (vars:=["i","k","one"]) rfl (Ms B) (by rfl) (As (by kernel_rfl)) rfl (DG (by rfl) T.n_range (AM (by rfl) T.n_len (Aa (fw 1) Ab))) (λ_ _ _=>BG 3) (λ_ _ _=>CY) (λ_ _ _=>Ki (by rfl) (by rfl) T.n_enumerate MS (fw 0)) (λ_ _ _=>Cf (by rfl) (AG (BG 4) (AG (BG 5) Ce))) (λ_ _ _=>Lb rfl (AD (λ_ _=>CG (CI B)) CH (HJ (fw 1) (fw 3) (Ax (fw 3) (AM (by rfl) T.n_len (Aa (fw 5) Ab)))) (fw 5) (Ac _))) (λ_ _ _=>AF (Aa (fw 3) (Aa (Ax (fw 3) (AM (by rfl) T.n_len (Aa (fw 5) Ab))) (Aa (fw 4) Ab))))) Ab)))
def Ju(T:Txt K mg af):fM P w K mg base af 1 3 jb (dP K fg 3):=Be T.t_3 EK λ_ _ _ _ _ _ B=>Ag (Al (AF (Aa (HM (by rfl) (by rfl) T.n_min HH (Aa (Au (fw 0) (fw 1)) (Aa (Au (fw 0) (fw 2)) Ab))) (Aa (JY (by rfl) (by rfl) T.n_max JP (Aa (Au (fw 0) (fw 1)) (Aa (Au (fw 0) (fw 2)) Ab))) Ab))) (Cf (by rfl) (AG (Af 3 EK.nd) (AG (Af 4 EK.nd) Ce))))
  (Aj (AL (Ey (vars:=["one"]) rfl (by rfl) (As (by kernel_rfl)) rfl (Bt (fw 0)) (λ_ _ _=>BG 6) (λ_ _ _=>CY) (λ_ _ _=>KW (AD (λ_ _=>CG (CI B)) CH (fw 6) (fw 4) (Ac _)) (fw 3) (fw 6)))))
def EL(T:Txt K mg af):fM P w K mg base af 1 4 ja (dP K xZ 2):=Be T.t_4 Bc λ_ _ _ _ _ _ B=>Ag (Al (fw 0) (Cf (by rfl) (AG (Af 2 Bc.nd) (AG (Af 3 Bc.nd) Ce))))
  (Ag (Al LF (Af 4 Bc.nd))
  (Ag (GF (Br (by rfl) (Bt (fw 3)) (Cf (by rfl) (AG (Af 5 Bc.nd) (AG (Af 6 Bc.nd) (AG (Af 7 Bc.nd) Ce)))) (Aj (BB (MQ (j:=4) (Fq B) (fw 4) (AF (Aa (fw 5) (Aa (fw 6) Ab))) (fw 7) #[rfl,rfl,rfl,rfl])))))
  (Ag (Al (Bh Ab) (Af 8 Bc.nd))
  (Ag (Br (by rfl) (DG (by rfl) T.n_range (fw 2)) (Af 9 Bc.nd) (Ag (Al (Bg (Bh (Aa (fw 9) Ab))) (Af 10 Bc.nd))
  (Ag (Br (by rfl) (Bt (fw 1)) (Af 6 Bc.nd) (Aj (Al (Bg (Fh B (by rfl) T.n_sorted Ff (Aa (Oa (vars:=["room","end"]) rfl (Fq B) (Ms B) (by rfl) (As (by kernel_rfl)) rfl (Bt (fw 10)) (λ_ _ _=>BG 12) (λ_ _ _=>CY) (λ_ _ _=>Bt (KN (Fq B) (fw 4) (AF (Aa (fw 12) (Aa (fw 6) Ab))) (Bh Ab) #[rfl,rfl,rfl,rfl])) (λ_ _ _=>BG 13) (λ_ _ _=>CY) (λ_ _ _=>fw 13)) Ab))) (Af 10 Bc.nd))))
  (Aj (BB (Hi (j:=8) (fw 8) (Ey (vars:=["y"]) rfl (by rfl) (As (by kernel_rfl)) rfl (Bt (fw 10)) (λ_ _ _=>BG 12) (λ_ _ _=>CY) (λ_ _ _=>AF (Aa (fw 9) (Aa (fw 12) Ab))))))))))
  (Aj (AL (EI (by rfl) T.n_tuple Ee (Aa (fw 8) Ab))))))))
def Gi(T:Txt K mg af):fM P w K mg base af 1 7 ix (dP K df 2):=Be T.t_7 Di λ_ _ _ _ _ _ B=>Ag (Al (Bh Ab) (Af 2 Di.nd))
  (Ag (Br (by rfl) (Ki (by rfl) (by rfl) T.n_enumerate MS (fw 0)) (Cf (by rfl) (AG (Af 3 Di.nd) (AG (Af 4 Di.nd) Ce))) (Ag (Al (KW (Kg (Au (fw 1) (fw 3))) Ad Ad) (Af 5 Di.nd))
  (Ag (BB (Da (j:=2) (fw 2) (AF (Aa (Cd Ad (fw 3)) (Aa (fw 4) (Aa (Ax (Ax (Cd Ad (fw 3)) Ad) (fw 5)) Ab))))))
  (Aj (BB (Da (j:=2) (fw 2) (AF (Aa (Ax (Cd Ad (fw 3)) Ad) (Aa (fw 4) (Aa (Fu (Ax (Cd Ad (fw 3)) Ad) (fw 5)) Ab))))))))))
  (Aj (AL (AF (Aa (Ax (Cd Ad (AM (by rfl) T.n_len (Aa (fw 0) Ab))) Ad) (Aa (EI (by rfl) T.n_tuple Ee (Aa (fw 2) Ab)) Ab))))))
def Gg(T:Txt K mg af):fM P w K mg base af 1 9 iu (dP K da 2):=Be T.t_9 Dh λ_ _ _ _ _ _ B=>Ag (Al (Ax (Cd Ad (fw 1)) Ad) (Af 2 Dh.nd))
  (Ag (Bb (AD (λ_ _=>GJ) GX (fw 1) (AM (by rfl) T.n_len (Aa (fw 0) Ab)) (Ac _)) (Aj (Al (Au (fw 0) (fw 1)) (Af 2 Dh.nd))) (Aj (Bb (AD (λ_ _=>Ex) EA (AM (by rfl) T.n_len (Aa (fw 0) Ab)) Ad (Ac _)) (Aj (Al (Ax (fw 2) (Cd (DY (Au (fw 0) (DY (fw 1) (AM (by rfl) T.n_len (Aa (fw 0) Ab)))) Ad) Ad)) (Af 2 Dh.nd))) Bf)))
  (Ag (Al (Ax (DY (Ax (Cd (DY (fw 2) Ad) Ad) (Cd Ad (fw 1))) Ad) Ad) (Af 3 Dh.nd))
  (Aj (AL (Bh (Aa (Au (Bh (Aa Ad (Aa (fw 2) Ab))) (GW (by rfl) T.n_int GI (Aa (DI (λ_ _=>Ka) KI (fw 2) (NV Ad Ad) (Ac _)) Ab))) (Aa (fw 3) Ab)))))))
def Ae(T:Txt K mg af):fM P w K mg base af 1 10 vN (dP K bA 2):=Be T.t_10 Dm λ_ _ _ _ _ _ B=>Ag (Bb (AD (λ_ _=>Ex) EA (Au (fw 0) Ad) Ad (Ac _)) (Ag (Al (DY (Au (fw 0) Ad) (fw 1)) (Af 2 Dm.nd))
  (Ag (Li (j:=0) (fw 0) Ad (Kt (Au (fw 0) Ad) (fw 1)))
  (Aj (AL (fw 2))))) Bf)
  (Ag (Al (DY (Cd (Au (fw 0) Ad) Ad) Ad) (Af 3 Dm.nd))
  (Ag (Li (j:=0) (fw 0) Ad (Ax (DY (Ax (Cd (fw 3) Ad) Ad) Ad) Ad))
  (Aj (AL (DY (Kt (Ax (Cd (fw 3) Ad) (Au (fw 0) Ad)) Ad) (fw 1))))))
def Gr(T:Txt K mg af):fM P w K mg base af 1 15 vI (dP K sP 4):=Be T.t_15 Dl λ_ _ _ _ _ _ B=>Ag (Al (Bh Ab) (Af 4 Dl.nd))
  (Ag (Br (by rfl) (Bt (fw 0)) (Af 5 Dl.nd) (Ag (Bb (DX (ET (AD (λ_ _=>CG (CI B)) CH (HJ (fw 1) (fw 2) (Ax (fw 2) (AM (by rfl) T.n_len (Aa (fw 5) Ab)))) (CW (fw 5) (Fu (AM (by rfl) T.n_len (Aa (fw 1) Ab)) (fw 2))) (Ac _)) (EW (AD (λ_ _=>PF) QB (Ax (fw 2) (AM (by rfl) T.n_len (Aa (fw 5) Ab))) (fw 3) (Ac _))))) (Aj (BB (Da (j:=4) (fw 4) (AF (Aa (fw 5) (Aa (Ax (fw 2) (AM (by rfl) T.n_len (Aa (fw 5) Ab))) Ab)))))) Bf)
  (Aj (Bb (DX (ET (AD (λ_ _=>Ka) KI (fw 2) (AM (by rfl) T.n_len (Aa (fw 5) Ab)) (Ac _)) (EW (AD (λ_ _=>CG (CI B)) CH (HJ (fw 1) (Fu (fw 2) (AM (by rfl) T.n_len (Aa (fw 5) Ab))) (fw 2)) (fw 5) (Ac _))))) (Aj (BB (Da (j:=4) (fw 4) (AF (Aa (fw 5) (Aa (Fu (fw 2) (AM (by rfl) T.n_len (Aa (fw 5) Ab))) Ab)))))) Bf))))
  (Aj (AL (fw 4))))
def Em(T:Txt K mg af):fM P w K mg base af 1 19 vE (dP K oE 1):=Be T.t_19 BO λ_ _ _ _ _ _ B=>Ag (Al LF (Af 1 BO.nd))
  (Ag (Br (by rfl) (Bt (Au (fw 0) Ad)) (Cf (by rfl) (AG (Af 2 BO.nd) (AG (Af 3 BO.nd) (AG (Af 4 BO.nd) Ce)))) (Aj (BB (MQ (j:=1) (Fq B) (fw 1) (AF (Aa (fw 2) (Aa (fw 3) Ab))) (fw 4) #[rfl,rfl,rfl,rfl]))))
  (Aj (AL (fw 1))))
def Cz(T:Txt K mg af):fM P w K mg base af 1 20 vD (dP K lG 3):=Be T.t_20 AZ λ_ _ _ _ _ _ B=>Ag (Al (Bh Ab) (Af 3 AZ.nd))
  (Ag (Br (by rfl) (DG (by rfl) T.n_range (fw 0)) (Af 4 AZ.nd) (Ag (Al (Bg (Bh (Aa (fw 4) Ab))) (Af 5 AZ.nd))
  (Ag (Br (by rfl) (Bt (fw 2)) (Af 6 AZ.nd) (Ag (Al (Bh Ab) (Af 7 AZ.nd))
  (Ag (Br (by rfl) (Bt (fw 5)) (Af 8 AZ.nd) (Aj (BB (Qi (j:=7) (fw 7) (Bg (KN (Fq B) (fw 1) (AF (Aa (fw 8) (Aa (fw 6) Ab))) (Bh Ab) #[rfl,rfl,rfl,rfl]))))))
  (Aj (Al (Bg (Fh B (by rfl) T.n_sorted Ff (Aa (GU B (by rfl) T.n_set GL (Aa (fw 7) Ab)) Ab))) (Af 5 AZ.nd))))))
  (Aj (BB (Hi (j:=3) (fw 3) (Ey (vars:=["_law_y"]) rfl (by rfl) (As (by kernel_rfl)) rfl (Bt (fw 5)) (λ_ _ _=>BG 10) (λ_ _ _=>CY) (λ_ _ _=>AF (Aa (fw 4) (Aa (fw 10) Ab))))))))))
  (Aj (AL (fw 3))))
def Jv(T:Txt K mg af):fM P w K mg base af 2 2 jc (dP K fh 2):=Be T.t_2 Dk λ_ _ _ _ _ _ B=>Ag (Al (Bg (Iu (by rfl) (by rfl) T.n_list Ib (Aa (fw 0) Ab))) (Af 2 Dk.nd))
  (Ag (Br (by rfl) (Bt (fw 1)) (Cf (by rfl) (AG (Af 3 Dk.nd) (AG (Af 4 Dk.nd) Ce))) (Aj (Al (Bg (Ak [true,true,true] T.t_3 (Ju T) B (Aa (fw 2) (Aa (fw 3) (Aa (fw 4) Ab))))) (Af 2 Dk.nd))))
  (Aj (AL (EI (by rfl) T.n_tuple Ee (Aa (fw 2) Ab)))))
def Gj(T:Txt K mg af):fM P w K mg base af 2 5 iz (dP K dg 2):=Be T.t_5 Jp λ_ _ _ _ _ _ B=>Aj (AL (EI (by rfl) T.n_tuple Ee (Aa (Ey (vars:=["word"]) rfl (by rfl) (As (by kernel_rfl)) rfl (Bt (fw 1)) (λ_ _ _=>BG 3) (λ_ _ _=>CY) (λ_ _ _=>Bg (Ak [true,true] T.t_4 (EL T) B (Aa (fw 0) (Aa (fw 3) Ab))))) Ab)))
def Gv(T:Txt K mg af):fM P w K mg base af 2 11 vM (dP K sS 2):=Be T.t_11 Ej λ_ _ _ _ _ _ B=>Ag (Al (Iu (by rfl) (by rfl) T.n_list Ib (Aa (Eb (by rfl) ⋯) Ab)) (Af 2 Ej.nd))
  (Aj (AL (KJ (Eb (by rfl) ⋯) (Aa (Fh B (by rfl) T.n_sorted Ff (Aa (Ey (vars:=["_law_k"]) rfl (by rfl) (As (by kernel_rfl)) rfl (DG (by rfl) T.n_range (fw 1)) (λ_ _ _=>BG 4) (λ_ _ _=>CY) (λ_ _ _=>Bg (ID (j:=2) (fw 2) (Ak [true,true] T.t_10 (Ae T) B (Aa (fw 0) (Aa (AM (by rfl) T.n_len (Aa (fw 2) Ab)) Ab)))))) Ab)) Ab))))
def Dr(T:Txt K mg af):fM P w K mg base af 2 12 vL (dP K mI 3):=Be T.t_12 Ei λ_ _ _ _ _ _ B=>Ag (Al (Cd (Ak [true,true] T.t_10 (Ae T) B (Aa (fw 0) (Aa (Ax (fw 2) Ad) Ab))) (GW (by rfl) T.n_int GI (Aa (DI (λ_ _=>BZ (BL B)) Cc (fw 1) (Eb (by rfl) ⋯) (Ac _)) Ab))) (Af 3 Ei.nd))
  (Aj (AL (KJ (Eb (by rfl) ⋯) (Aa (Ey (vars:=["_law_k"]) rfl (by rfl) (As (by kernel_rfl)) rfl (DG (by rfl) T.n_range (fw 3)) (λ_ _ _=>BG 5) (λ_ _ _=>CY) (λ_ _ _=>Au (fw 1) (Ak [true,true] T.t_10 (Ae T) B (Aa (fw 0) (Aa (AM (by rfl) T.n_len (Aa (fw 1) Ab)) Ab))))) Ab))))
def Gu(T:Txt K mg af):fM P w K mg base af 2 13 vK (dP K sR 3):=Be T.t_13 BQ λ_ _ _ _ _ _ B=>Ag (Al (Au (fw 2) (Ak [true,true] T.t_10 (Ae T) B (Aa (fw 0) (Aa (AM (by rfl) T.n_len (Aa (fw 2) Ab)) Ab)))) (Af 3 BQ.nd))
  (Ag (Al (Ak [true,true] T.t_10 (Ae T) B (Aa (fw 0) (Aa Ad Ab))) (Af 4 BQ.nd))
  (Ag (Al (Au (fw 1) (Ak [true,true] T.t_10 (Ae T) B (Aa (fw 0) (Aa (AM (by rfl) T.n_len (Aa (fw 1) Ab)) Ab)))) (Af 5 BQ.nd))
  (Ag (Al (Ak [true,true] T.t_10 (Ae T) B (Aa (fw 0) (Aa (AM (by rfl) T.n_len (Aa (fw 3) Ab)) Ab))) (Af 6 BQ.nd))
  (Aj (AL (Au (Bh (Aa (CW (fw 3) (Ax (fw 6) Ad)) (Aa (DH (fw 3) (fw 6)) (Aa (Ax (fw 5) (fw 3)) (Aa (Ax (fw 3) (fw 5)) (Aa (Ax (fw 3) (fw 3)) Ab)))))) (fw 4)))))))
def Gq(T:Txt K mg af):fM P w K mg base af 2 16 vH (dP K sO 4):=Be T.t_16 AB λ_ _ _ _ _ _ B=>Ag (Al (AF (Aa (Eb (by rfl) ⋯) (Aa Ad Ab))) (Cf (by rfl) (AG (Af 4 AB.nd) (AG (Af 5 AB.nd) Ce))))
  (Ag (Br (by rfl) (DG (by rfl) T.n_range (Ax Ad (Ak [true,true] T.t_10 (Ae T) B (Aa (fw 0) (Aa Ad Ab))))) (Af 6 AB.nd) (Ag (Al (Bg (Ak [true,true,true,true] T.t_15 (Gr T) B (Aa (fw 1) (Aa (fw 4) (Aa (fw 5) (Aa (fw 3) Ab)))))) (Af 7 AB.nd))
  (Ag (Bb (AD (λ_ _=>Ex) EA (fw 6) Ad (Ac _)) (Aj (GF (IQ (i:=7) ⋯ (λj J=>EY AB.nd J rfl) rfl (by rfl) (by rfl) (vars:=["_law_move"]) rfl (by rfl) (As (by kernel_rfl)) rfl (Bt (fw 7)) (λ_ _ _=>BG 12) (λ_ _ _=>Lb rfl (AD (λ_ _=>Ex) EA (Au (fw 12) Ad) (fw 5) (Ac _))) (λ_ _ _=>fw 12)))) Bf)
  (Aj (Bb (AD (λ_ _=>BZ (BL B)) Cc (fw 7) (Bh Ab) (Ac _)) (Ag (Al (Au (fw 7) (Ak [true,true] T.t_10 (Ae T) B (Aa (fw 0) (Aa (AM (by rfl) T.n_len (Aa (fw 7) Ab)) Ab)))) (Cf (by rfl) (AG (Af 8 AB.nd) (AG (Af 9 AB.nd) Ce))))
  (Ag (Bb (AD (λ_ _=>Ex) EA (fw 9) (fw 5) (Ac _)) (Aj (Al (Ax (Ax (CW (fw 4) (fw 5)) (fw 8)) (DH (fw 4) (fw 9))) (Af 4 AB.nd))) Bf)
  (Aj (Al (fw 9) (Af 5 AB.nd))))) Bf)))))
  (Ag (Bb (DX (ET (AD (λ_ _=>BZ (BL B)) Cc (fw 4) (Eb (by rfl) ⋯) (Ac _)) (EW (AD (λ_ _=>CG (CI B)) CH (Ak [true,true] T.t_10 (Ae T) B (Aa (fw 0) (Aa Ad Ab))) Ad (Ac _))))) (Ag (Al (Ak [true,true] T.t_10 (Ae T) B (Aa (fw 0) (Aa (AM (by rfl) T.n_len (Aa (fw 4) Ab)) Ab))) (Af 10 AB.nd))
  (Aj (Al (Ax (Ax (CW (fw 4) (fw 10)) (Au (fw 2) (Ak [true,true] T.t_10 (Ae T) B (Aa (fw 0) (Aa (AM (by rfl) T.n_len (Aa (fw 2) Ab)) Ab))))) (DH (fw 4) (Ax (fw 10) Ad))) (Af 4 AB.nd)))) Bf)
  (Aj (AL (fw 4)))))
def En(T:Txt K mg af):fM P w K mg base af 2 17 vG (dP K mH 5):=Be T.t_17 AQ λ_ _ _ _ _ _ B=>Ag (Al (Ax Ad (Ak [true,true] T.t_10 (Ae T) B (Aa (fw 0) (Aa (fw 3) Ab)))) (Af 5 AQ.nd))
  (Ag (Al (Bh Ab) (Af 6 AQ.nd))
  (Ag (Br (by rfl) (DG (by rfl) T.n_range (Ak [true,true] T.t_10 (Ae T) B (Aa (fw 0) (Aa Ad Ab)))) (Af 7 AQ.nd) (Ag (Al (Ak [true,true] T.t_10 (Ae T) B (Aa (fw 0) (Aa (fw 5) Ab))) (Af 8 AQ.nd))
  (Aj (Br (by rfl) (Bt (fw 2)) (Af 9 AQ.nd) (Ag (Al (Ak [true,true] T.t_10 (Ae T) B (Aa (fw 0) (Aa (fw 5) Ab))) (Af 10 AQ.nd))
  (Ag (BB (Da (j:=6) (fw 6) (AF (Aa (fw 8) (Aa (fw 9) (Aa (fw 10) Ab))))))
  (Aj (Al (fw 10) (Af 8 AQ.nd)))))))))
  (Ag (Br (by rfl) (DG (by rfl) T.n_range (Cd (Ak [true,true] T.t_10 (Ae T) B (Aa (fw 0) (Aa (Ax (fw 4) Ad) Ab))) (GW (by rfl) T.n_int GI (Aa (DI (λ_ _=>BZ (BL B)) Cc (fw 1) (Eb (by rfl) ⋯) (Ac _)) Ab)))) (Af 11 AQ.nd) (Ag (HB (i:=8) (j:=10) (by rfl) AQ.nd (by rfl) (by rfl) ⋯ ⋯ ⋯ (by rfl) (by rfl) (Aa (Ak [true,true] T.t_10 (Ae T) B (Aa (fw 0) (Aa (fw 5) Ab))) (Aa (Ak [true,true] T.t_10 (Ae T) B (Aa (fw 0) (Aa (fw 5) Ab))) Ab)))
  (Aj (BB (Da (j:=6) (fw 6) (AF (Aa (fw 8) (Aa (Au (fw 1) (Ak [true,true] T.t_10 (Ae T) B (Aa (fw 0) (Aa (AM (by rfl) T.n_len (Aa (fw 1) Ab)) Ab)))) (Aa (fw 10) Ab)))))))))
  (Ag (Sa (AD (λ_ _=>Ex) EA (Qs (by rfl) T.n_len (Aa (GU B (by rfl) T.n_set GL (Aa (fw 6) Ab)) Ab)) (fw 4) (Ac _)) (Aj (BB (ID (j:=6) (fw 6) (Ak [true,true] T.t_10 (Ae T) B (Aa (fw 0) (Aa (AM (by rfl) T.n_len (Aa (fw 6) Ab)) Ab)))))))
  (Aj (AL (AF (Aa (fw 5) (Aa (EI (by rfl) T.n_tuple Ee (Aa (Fh B (by rfl) T.n_sorted Ff (Aa (GU B (by rfl) T.n_set GL (Aa (fw 6) Ab)) Ab)) Ab)) Ab)))))))))
def El(T:Txt K mg af):fM P w K mg base af 2 21 vB (dP K oD 4):=Be T.t_21 Dj λ_ _ _ _ _ _ B=>Ag (Bb (AD (λ_ _=>BZ (BL B)) Cc (Au (fw 2) Ad) (Au (fw 3) Ad) (Ac _)) (Aj (AL Et)) Bf)
  (Ag (HB (i:=4) (j:=5) (by rfl) Dj.nd (by rfl) (by rfl) ⋯ ⋯ ⋯ (by rfl) (by rfl) (Aa (Bg (Ak [true] T.t_19 (Em T) B (Aa (fw 2) Ab))) (Aa (Bg (Ak [true] T.t_19 (Em T) B (Aa (fw 3) Ab))) Ab)))
  (Ag (Br (by rfl) (Bt (fw 0)) (Af 6 Dj.nd) (Aj (Bb (AD (λ_ _=>BZ (BL B)) Cc (Ak [true,true,true] T.t_20 (Cz T) B (Aa (Au (fw 2) Ad) (Aa (fw 4) (Aa (fw 6) Ab)))) (Ak [true,true,true] T.t_20 (Cz T) B (Aa (Au (fw 2) Ad) (Aa (fw 5) (Aa (fw 6) Ab)))) (Ac _)) (Aj (AL Et)) Bf)))
  (Aj (AL (DI (λ_ _=>BZ (BL B)) Cc (Ak [true,true,true] T.t_20 (Cz T) B (Aa (Au (fw 2) Ad) (Aa (fw 4) (Aa (fw 1) Ab)))) (Ak [true,true,true] T.t_20 (Cz T) B (Aa (Au (fw 2) Ad) (Aa (fw 5) (Aa (fw 1) Ab)))) (Ac _))))))
def Ek(T:Txt K mg af):fM P w K mg base af 2 22 uZ (dP K oC 3):=Be T.t_22 AO λ_ _ _ _ _ _ B=>Ag (Al (fw 2) (Cf (by rfl) (AG (Af 3 AO.nd) (AG (Af 4 AO.nd) Ce))))
  (Ag (Al (Ak [true,true] T.t_10 (Ae T) B (Aa (fw 0) (Aa Ad Ab))) (Af 5 AO.nd))
  (Ag (Bb (AD (λ_ _=>CG (CI B)) CH (fw 5) Ad (Ac _)) (Aj (AL (AF (Aa (HM (by rfl) (by rfl) T.n_min HH (Aa Ad (Aa (Ax (fw 3) Ad) Ab))) (Aa (fw 4) Ab))))) Bf)
  (Ag (Al (Iu (by rfl) (by rfl) T.n_list Ib (Aa (fw 4) Ab)) (Af 6 AO.nd))
  (Ag (HB (i:=7) (j:=8) (by rfl) AO.nd (by rfl) (by rfl) ⋯ ⋯ ⋯ (by rfl) (by rfl) (Aa (Ak [true,true] T.t_10 (Ae T) B (Aa (fw 0) (Aa (fw 3) Ab))) (Aa (Ak [true,true] T.t_10 (Ae T) B (Aa (fw 0) (Aa (fw 3) Ab))) Ab)))
  (Ag (Al (Au (fw 1) (Ak [true,true] T.t_10 (Ae T) B (Aa (fw 0) (Aa (AM (by rfl) T.n_len (Aa (fw 1) Ab)) Ab)))) (Af 9 AO.nd))
  (Ag (Bb (DX (ET (AD (λ_ _=>BZ (BL B)) Cc (fw 6) (Bh Ab) (Ac _)) (EW (AD (λ_ _=>GJ) GX (fw 5) Ad (Ac _))))) (Aj (Al (ID (j:=6) (fw 6) (Ak [true,true] T.t_10 (Ae T) B (Aa (fw 0) (Aa (AM (by rfl) T.n_len (Aa (fw 6) Ab)) Ab)))) (Cf (by rfl) (AG (Af 7 AO.nd) (AG (Af 9 AO.nd) (AG (Af 10 AO.nd) Ce)))))) Bf)
  (Ag (Bb (DX (ET (AD (λ_ _=>Ex) EA (fw 5) Ad (Ac _)) (EW (AD (λ_ _=>GJ) GX (AM (by rfl) T.n_len (Aa (fw 6) Ab)) Ad (Ac _))))) (Aj (BB (Da (j:=6) (fw 6) (AF (Aa (fw 7) (Aa (fw 9) (Aa (fw 8) Ab))))))) Bf)
  (Aj (AL (AF (Aa (fw 3) (Aa (EI (by rfl) T.n_tuple Ee (Aa (Fh B (by rfl) T.n_sorted Ff (Aa (GU B (by rfl) T.n_set GL (Aa (fw 6) Ab)) Ab)) Ab)) Ab))))))))))))
def Jw(T:Txt K mg af):fM P w K mg base af 3 1 jd (dP K fj 2):=Be T.t_1 Jq λ_ _ _ _ _ _ B=>Aj (AL (Ak [true,true] T.t_2 (Jv T) B (Aa (QF (by rfl) (by rfl) T.n_tuple Ee (by rfl) T.n_range (Ax (AM (by rfl) T.n_len (Aa (fw 1) Ab)) Ad)) (Aa (Bg (Ey (vars:=["i","j","k"]) rfl (by rfl) (As (by kernel_rfl)) rfl (Bt (Ak [true,true] T.t_0 (Jx T) B (Aa (fw 0) (Aa (fw 1) Ab)))) (λ_ _ _=>Cf (by rfl) (AG (BG 3) (AG (BG 4) (AG (BG 5) Ce)))) (λ_ _ _=>CY) (λ_ _ _=>AF (Aa (fw 3) (Aa (fw 4) Ab))))) Ab))))
def Gh(T:Txt K mg af):fM P w K mg base af 3 8 iw (dP K de 4):=Be T.t_8 Jo λ_ _ _ _ _ _ B=>Ag (Bb (DX (JM (AD (λ_ _=>BZ (BL B)) Cc (Au (fw 2) Ad) (Au (fw 3) Ad) (Ac _)) (JS (AD (λ_ _=>BZ (BL B)) Cc (Ak [true,true] T.t_5 (Gj T) B (Aa (fw 2) (Aa (fw 0) Ab))) (Ak [true,true] T.t_5 (Gj T) B (Aa (fw 3) (Aa (fw 0) Ab))) (Ac _))))) (Aj (AL Et)) Bf)
  (Aj (AL (DI (λ_ _=>BZ (BL B)) Cc (Ak [true,true] T.t_4 (EL T) B (Aa (fw 2) (Aa (fw 1) Ab))) (Ak [true,true] T.t_4 (EL T) B (Aa (fw 3) (Aa (fw 1) Ab))) (Ac _))))
def Gs(T:Txt K mg af):fM P w K mg base af 3 14 vJ (dP K sQ 4):=Be T.t_14 BP λ_ _ _ _ _ _ B=>Ag (Al (Bh Ab) (Af 4 BP.nd))
  (Ag (Br (by rfl) (DG (by rfl) T.n_range (Cd (Ak [true,true] T.t_10 (Ae T) B (Aa (fw 0) (Aa (Ax (fw 2) Ad) Ab))) (GW (by rfl) T.n_int GI (Aa (DI (λ_ _=>BZ (BL B)) Cc (fw 1) (Eb (by rfl) ⋯) (Ac _)) Ab)))) (Af 5 BP.nd) (Ag (Al (Ax (Au (fw 1) (Ak [true,true] T.t_10 (Ae T) B (Aa (fw 0) (Aa (AM (by rfl) T.n_len (Aa (fw 1) Ab)) Ab)))) (Ak [true,true,true] T.t_12 (Dr T) B (Aa (fw 0) (Aa (fw 1) (Aa (Fu (fw 3) Ad) Ab))))) (Af 6 BP.nd))
  (Ag (Bb (DX (ET (AD (λ_ _=>BZ (BL B)) Cc (fw 4) (Bh Ab) (Ac _)) (EW (AD (λ_ _=>CG (CI B)) CH (Ak [true,true] T.t_10 (Ae T) B (Aa (fw 0) (Aa Ad Ab))) Ad (Ac _))))) (Aj (Al (CW (Ak [true,true,true] T.t_13 (Gu T) B (Aa (fw 0) (Aa (fw 1) (Aa (fw 4) Ab)))) (fw 3)) (Af 6 BP.nd))) Bf)
  (Aj (Bb (AD (λ_ _=>Ut (BL B)) Uy (fw 6) (fw 4) (by with_unfolding_all rfl)) (Aj (BB (Da (j:=4) (fw 4) (fw 6)))) Bf)))))
  (Aj (AL (EI (by rfl) T.n_tuple Ee (Aa (fw 4) Ab)))))
def Gp(T:Txt K mg af):fM P w K mg base af 3 18 vF (dP K sN 4):=Be T.t_18 Cw λ_ _ _ _ _ _ B=>Ag (Al (Ak [true,true] T.t_10 (Ae T) B (Aa (fw 0) (Aa Ad Ab))) (Af 4 Cw.nd))
  (Ag (Bb (AD (λ_ _=>CG (CI B)) CH (fw 4) Ad (Ac _)) (Aj (AL (Ak [true,true,true] T.t_12 (Dr T) B (Aa (fw 0) (Aa (fw 2) (Aa (fw 3) Ab)))))) Bf)
  (Ag (Al (Bg (Ak [true,true,true,true] T.t_16 (Gq T) B (Aa (fw 0) (Aa (fw 1) (Aa (fw 2) (Aa (fw 3) Ab)))))) (Af 5 Cw.nd))
  (Ag (Bb (AD (λ_ _=>CG (CI B)) CH (fw 4) Ad (Ac _)) (Aj (Al (CW (Ax (fw 5) (Ak [true,true,true] T.t_12 (Dr T) B (Aa (fw 0) (Aa (fw 2) (Aa (fw 3) Ab))))) (fw 3)) (Af 5 Cw.nd))) Bf)
  (Aj (AL (fw 5))))))
def Jt(T:Txt K mg af):fM P w K mg base af 4 6 iy (dP K ff 2):=Be T.t_6 DN λ_ _ _ _ _ _ B=>Ag (Al (Bg (Ak [true,true] T.t_1 (Jw T) B (Aa (fw 0) (Aa (fw 1) Ab)))) (Af 2 DN.nd))
  (Ag (Bb (AD (λ_ _=>CG (CI B)) CH (Au (fw 2) (NY Ad)) Ad (Ac _)) (Aj (SH T.g_IsFixed (JI (by decide+kernel) T.k_IsFixed) T.e_IsFixed)) Bf)
  (Ag (GF (IQ (i:=3) ⋯ (λj J=>EY DN.nd J rfl) rfl (by rfl) (by rfl) (vars:=["colour"]) rfl (by rfl) (As (by kernel_rfl)) rfl (Bt (fw 1)) (λ_ _ _=>BG 6) (λ_ _ _=>CY) (λ_ _ _=>Et)))
  (Ag (GF (IQ (i:=4) ⋯ (λj J=>EY DN.nd J rfl) rfl (by rfl) (by rfl) (vars:=["one","other"]) rfl (by rfl) (As (by kernel_rfl)) rfl (OF (by rfl) (by rfl) T.n_zip On (fw 2) (DH (fw 2) Ad)) (λ_ _ _=>Cf (by rfl) (AG (BG 6) (AG (BG 7) Ce))) (λ_ _ _=>CY) (λ_ _ _=>DI (λ_ _=>BZ (BL B)) Cc (DI (λ_ _=>CG (CI B)) CH (fw 6) Ad (Ac _)) (DI (λ_ _=>CG (CI B)) CH (fw 7) Ad (Ac _)) (Ac _))))
  (Aj (AL (AF (Aa (Ak [true,true] T.t_7 (Gi T) B (Aa (fw 1) (Aa (fw 3) Ab))) (Aa (Ak [true,true] T.t_7 (Gi T) B (Aa (fw 1) (Aa (fw 4) Ab))) Ab))))))))
def Gn(T:Txt K mg af):fM P w K mg base af 5 23 uY (dP K sM 4):=Be T.t_23 Ay λ_ _ _ _ _ _ B=>Ag (Al (Bg (Ak [true,true,true,true,true] T.t_17 (En T) B (Aa (fw 0) (Aa (fw 1) (Aa (CW (fw 3) Ad) (Aa Ad (Aa Ad Ab))))))) (Af 4 Ay.nd))
  (Ag (Al (fw 4) (Af 5 Ay.nd))
  (Ag (Br (by rfl) (DG (by rfl) T.n_range (Ak [true,true] T.t_10 (Ae T) B (Aa (fw 0) (Aa Ad Ab)))) (Af 6 Ay.nd) (Aj (Al (Bg (Ak [true,true,true] T.t_22 (Ek T) B (Aa (fw 0) (Aa (fw 1) (Aa (fw 5) Ab))))) (Af 5 Ay.nd))))
  (Ag (Al (Bh (Aa (AF (Aa (fw 4) (Aa (fw 5) Ab))) Ab)) (Af 7 Ay.nd))
  (Ag (Bb (AD (λ_ _=>CG (CI B)) CH (Ak [true,true] T.t_10 (Ae T) B (Aa (fw 0) (Aa Ad Ab))) Ad (Ac _)) (Aj (BB (Da (j:=7) (fw 7) (AF (Aa (fw 4) (Aa (Ak [true,true,true,true,true] T.t_17 (En T) B (Aa (fw 0) (Aa (fw 1) (Aa (CW (fw 3) Ad) (Aa Ad (Aa Ad Ab)))))) Ab)))))) Bf)
  (Ag (Al HK (Af 8 Ay.nd))
  (Ag (Pe T.g_IsFixed (ck T.e_IsFixed) (UU (JI (by decide+kernel) T.k_IsFixed) (ck T.e_IsFixed) T.m_IsFixed_IsFixed TM) (Aj (Al (Bg (Ak [true,true] T.t_6 (Jt T) B (Aa (fw 2) (Aa (fw 3) Ab)))) (Af 8 Ay.nd))) (λ_=>Aj (Al HK (Af 8 Ay.nd))))
  (Ag (Bb (AD (λ_ _=>SL) Um (fw 8) HK (Ac _)) (Ag (Al (fw 8) (Cf (by rfl) (AG (Af 4 Ay.nd) (AG (Af 5 Ay.nd) Ce))))
  (Ag (BB (Hi (j:=7) (fw 7) (Bh (Aa (fw 8) (Aa (AF (Aa (fw 4) (Aa (fw 4) Ab))) Ab)))))
  (Ag (Al (Bg (Ak [true,true,true] T.t_22 (Ek T) B (Aa (fw 0) (Aa (fw 1) (Aa (fw 5) Ab))))) (Af 9 Ay.nd))
  (Ag (BB (Hi (j:=7) (fw 7) (Bh (Aa (AF (Aa (fw 4) (Aa (fw 9) Ab))) (Aa (AF (Aa (fw 9) (Aa (fw 5) Ab))) Ab)))))
  (Ag (Bb (AD (λ_ _=>GJ) GX (Au (fw 4) Ad) Ad (Ac _)) (Aj (BB (Da (j:=7) (fw 7) (AF (Aa (AF (Aa (Ax (Au (fw 4) Ad) Ad) (Aa (Au (fw 4) Ad) Ab))) (Aa (AF (Aa (Ax (Au (fw 5) Ad) Ad) (Aa (Au (fw 5) Ad) Ab))) Ab)))))) Bf)
  (Ag (Al (Ak [true,true] T.t_10 (Ae T) B (Aa (fw 0) (Aa (AM (by rfl) T.n_len (Aa (Au (fw 4) Ad) Ab)) Ab))) (Af 10 Ay.nd))
  (Aj (BB (Da (j:=7) (fw 7) (AF (Aa (AF (Aa (Au (fw 4) Ad) (Aa (Ax (CW (Au (fw 4) Ad) (fw 10)) (DH (Au (fw 4) Ad) (Ax (fw 10) Ad))) Ab))) (Aa (AF (Aa (Au (fw 5) Ad) (Aa (Ax (CW (Au (fw 5) Ad) (fw 10)) (DH (Au (fw 5) Ad) (Ax (fw 10) Ad))) Ab))) Ab)))))))))))) Bf)
  (Aj (AL (fw 7))))))))))
def Gm(T:Txt K mg af):fM P w K mg base af 6 24 uX (dP K mF 1):=Be T.t_24 Aw λ_ _ _ _ _ _ B=>Ag (Al (Ak [true,true] T.t_9 (Gg T) B (Aa (fw 0) (Aa Ad Ab))) (Af 1 Aw.nd))
  (Ag (Al (Ak [true,true] T.t_11 (Gv T) B (Aa (fw 1) (Aa (Ax Ad (Ak [true,true] T.t_10 (Ae T) B (Aa (fw 1) (Aa Ad Ab)))) Ab))) (Af 2 Aw.nd))
  (Ag (Br (by rfl) (Th (by rfl) T.n_range Ad (JY (by rfl) (by rfl) T.n_max JP (Aa Ad (Aa (HM (by rfl) (by rfl) T.n_min HH (Aa Ad (Aa (AM (by rfl) T.n_len (Aa (fw 0) Ab)) Ab))) Ab)))) (Af 3 Aw.nd) (Ag (Al (Ak [true,true] T.t_9 (Gg T) B (Aa (fw 0) (Aa (fw 3) Ab))) (Af 1 Aw.nd))
  (Ag (Al (Bg (Ak [true,true,true,true] T.t_14 (Gs T) B (Aa (fw 1) (Aa (fw 2) (Aa Ad (Aa Ad Ab)))))) (Af 4 Aw.nd))
  (Ag (Al (Bg (Ak [true,true,true,true] T.t_18 (Gp T) B (Aa (fw 1) (Aa (fw 4) (Aa (fw 2) (Aa (Au (Bh (Aa Ad (Aa Ad (Aa Ad (Aa Ad Ab))))) (Ak [true,true] T.t_10 (Ae T) B (Aa (fw 1) (Aa Ad Ab)))) Ab)))))) (Af 5 Aw.nd))
  (Ag (Al (Bg (Ak [true,true,true,true] T.t_23 (Gn T) B (Aa (fw 1) (Aa (fw 2) (Aa (fw 4) (Aa (fw 5) Ab)))))) (Af 6 Aw.nd))
  (Ag (Al (Ak [true,true] T.t_10 (Ae T) B (Aa (fw 1) (Aa (AM (by rfl) T.n_len (Aa (fw 6) Ab)) Ab))) (Af 7 Aw.nd))
  (Aj (Br (by rfl) (Bt (CW (Ax (DH (fw 6) (fw 7)) (CW (fw 6) (fw 7))) Ad)) (Cf (by rfl) (AG (Af 8 Aw.nd) (AG (Af 9 Aw.nd) Ce))) (Ag (Al (Bg (Ak [true,true,true,true] T.t_21 (El T) B (Aa (fw 4) (Aa (fw 5) (Aa (fw 8) (Aa (fw 9) Ab)))))) (Af 10 Aw.nd))
  (Ag (Br (by rfl) (Bt (Bh (Aa (AF (Aa (fw 8) (Aa (fw 9) Ab))) (Aa (AF (Aa (fw 9) (Aa (fw 8) Ab))) Ab)))) (Af 11 Aw.nd) (Ag (Al (Bg (Ak [true,true,true,true] T.t_8 (Gh T) B (Aa (fw 4) (Aa (fw 5) (Aa (Au (fw 11) Ad) (Aa (Au (fw 11) Ad) Ab)))))) (Af 12 Aw.nd))
  (Aj (Bb (DX (JM (Oo (Kg (NK (by rfl) T.n_isinstance UZ (by rfl) T.n_bool PN ⋯ (fw 12)))) (JS (AD (λ_ _=>BZ (BL B)) Cc (fw 12) (fw 10) (Ac _))))) (Aj (AL Et)) Bf))))
  (Aj (Bb (AD (λ_ _=>BZ (BL B)) Cc (Ak [true,true,true,true] T.t_8 (Gh T) B (Aa (DH (fw 4) Ad) (Aa (fw 5) (Aa (fw 8) (Aa (fw 9) Ab))))) (Ak [true,true,true,true] T.t_21 (El T) B (Aa (DH (fw 4) Ad) (Aa (fw 5) (Aa (fw 8) (Aa (fw 9) Ab))))) (Ac _)) (Aj (AL Et)) Bf))))))))))))
  (Aj (AL Et))))
end
theorem all_mk{l:W.OpenLaw}{w:World}{K:W.Frag}{h:Heap}{mg:Str->Option Value}{fa:Addr}(X:K.In h)(G:h.Ns mainGlobals mg)(hfa:mg "law"=some (.ref fa))
  {f_0 f_1 f_2 f_3 f_4 f_5 f_6 f_7 f_8 f_9 f_10 f_11 f_12 f_13 f_14 f_15 f_16 f_17 f_18 f_19 f_20 f_21 f_22 f_23 f_24:Addr}
  (h_0:Lk K "stretches" ik f_0)
  (h_1:Lk K "lands" ij f_1)
  (h_2:Lk K "all_joined" ig f_2)
  (h_3:Lk K "land_joined" ie f_3)
  (h_4:Lk K "table" ic f_4)
  (h_5:Lk K "board_tables" ib f_5)
  (h_6:Lk K "twins" ia f_6)
  (h_7:Lk K "double_map" gz f_7)
  (h_8:Lk K "part" gy f_8)
  (h_9:Lk K "_law_box" gx f_9)
  (h_10:Lk K "_law_take" uL f_10)
  (h_11:Lk K "_law_colours" uK f_11)
  (h_12:Lk K "_law_word" uJ f_12)
  (h_13:Lk K "_law_near" uI f_13)
  (h_14:Lk K "_law_board" uH f_14)
  (h_15:Lk K "_law_moves" uG f_15)
  (h_16:Lk K "_law_led" uF f_16)
  (h_17:Lk K "_law_chart" uE f_17)
  (h_18:Lk K "_law_any_word" uD f_18)
  (h_19:Lk K "_law_leads" uC f_19)
  (h_20:Lk K "_law_pairs_of" uA f_20)
  (h_21:Lk K "_law_parts" tZ f_21)
  (h_22:Lk K "_law_put_otherwise" tY f_22)
  (h_23:Lk K "_law_pairs" tX f_23)
  (h_24:Lk K "law" tV f_24)
  (z_bool:W.nsIn K mainGlobals "bool"=some none)
  (z_enumerate:W.nsIn K mainGlobals "enumerate"=some none)
  (z_int:W.nsIn K mainGlobals "int"=some none)
  (z_isinstance:W.nsIn K mainGlobals "isinstance"=some none)
  (z_len:W.nsIn K mainGlobals "len"=some none)
  (z_list:W.nsIn K mainGlobals "list"=some none)
  (z_max:W.nsIn K mainGlobals "max"=some none)
  (z_min:W.nsIn K mainGlobals "min"=some none)
  (z_range:W.nsIn K mainGlobals "range"=some none)
  (z_set:W.nsIn K mainGlobals "set"=some none)
  (z_sorted:W.nsIn K mainGlobals "sorted"=some none)
  (z_tuple:W.nsIn K mainGlobals "tuple"=some none)
  (z_zip:W.nsIn K mainGlobals "zip"=some none)
  {C_IsFixed:Addr}
  (k_IsFixed:W.nsIn K mainGlobals "IsFixed"=some (some (.ref C_IsFixed)))
  (e_IsFixed:W.excIn K C_IsFixed jL gC=true)
  (m_IsFixed_IsFixed:W.mroIn K C_IsFixed (.ref C_IsFixed)=some true):
  ∃fd:FuncData,(∀(s:Shared)(v:Value),BindsTo s fd #[[v],[]] [("_law_script",v)])/\∀base:Heap,K.In base->base.Ns mainGlobals mg->fL l.prog w K mg base (gO l.prog w) 6 fa fd ["_law_script"] (dP K mF 1):=by
 let e:=hfa.symm.trans (h_24.mm X G);cases e;let T:Txt K mg (λn=>[f_0,f_1,f_2,f_3,f_4,f_5,f_6,f_7,f_8,f_9,f_10,f_11,f_12,f_13,f_14,f_15,f_16,f_17,f_18,f_19,f_20,f_21,f_22,f_23,fa,C_IsFixed].getD n 0):=#[h_0.tx X G,h_1.tx X G,h_2.tx X G,h_3.tx X G,h_4.tx X G,h_5.tx X G,h_6.tx X G,h_7.tx X G,h_8.tx X G,h_9.tx X G,h_10.tx X G,h_11.tx X G,h_12.tx X G,h_13.tx X G,h_14.tx X G,h_15.tx X G,h_16.tx X G,h_17.tx X G,h_18.tx X G,h_19.tx X G,h_20.tx X G,h_21.tx X G,h_22.tx X G,h_23.tx X G,h_24.tx X G,W.mg_none_of X G z_bool,W.mg_none_of X G z_enumerate,W.mg_none_of X G z_int,W.mg_none_of X G z_isinstance,W.mg_none_of X G z_len,W.mg_none_of X G z_list,W.mg_none_of X G z_max,W.mg_none_of X G z_min,W.mg_none_of X G z_range,W.mg_none_of X G z_set,W.mg_none_of X G z_sorted,W.mg_none_of X G z_tuple,W.mg_none_of X G z_zip,W.mg_of X G k_IsFixed,k_IsFixed,e_IsFixed,m_IsFixed_IsFixed]
 show#[_,λs v=>h_24.bt s v,λbase _ _=>Gm T]
theorem walk{l:W.OpenLaw}{q:Program}{B:List Str}{XP:(Str->Option Value)->Heap->Prop}{M:World->Heap->Prop}{d:DefRec}{K:Params->W.Frag}(hn:l.most=some 63)(J:d.params.defaults=[])
  (hY:∀(w:World)(h:Heap),M w h->(K w.params).In h)
  (F:∀(w:World)(mg:Str->Option Value)(L:Addr)(h:Heap),(K w.params).In h->h.Ns mainGlobals mg->mg d.name=some (.ref L)->
   ∃fd:FuncData,(∀(s:Shared)(u:Value),BindsTo s fd #[[u],[]] [("_law_script",u)])/\∀base:Heap,(K w.params).In base->base.Ns mainGlobals mg->fL l.prog w (K w.params) mg base (gO l.prog w) 6 L fd ["_law_script"] (dP (K w.params) mF 1)):
  W.WalkO q B XP M l.row.toRowW d [] (λf vs=>PySem.call f vs):=
 L2.walk_of (n:=63) (k:=6) (x:="_law_script") (CX:=λw=>gO l.prog w) (sp:=λw=>dP (K w.params) mF 1) hn ⋯ J #[rfl,⋯,⋯,rfl] hY F (λ_ H a O Y _ hS=>Om Do H a O Y hS) λ_ _ _ _ _ h=>by let#[_,_,_,_,_,_,_,_,_,q,_]:=h;show q
end Law
end
end
open PySem PySem.W PyProof.Rows
namespace PySem.W.Fast
theorem tw18420993472023510643:True:=⟨⟩
theorem tw18233516667935530126:True:=⟨⟩
theorem tw7222065284292800149:True:=⟨⟩
theorem tw16419882909569867257:True:=⟨⟩
theorem tw2443908897651770352:True:=⟨⟩
theorem tw451827444921556635:True:=⟨⟩
theorem tw5655291454249493401:True:=⟨⟩
theorem tw9589725950589193927:True:=⟨⟩
theorem tw1758816393687782499:True:=⟨⟩
theorem tw7833541437008800108:True:=⟨⟩
theorem tw15238112272231198109:True:=⟨⟩
theorem tw11179909167419485658:True:=⟨⟩
theorem tw10596073041929236317:True:=⟨⟩
theorem tw16651327628536819108:True:=⟨⟩
theorem tw14471977740633533081:True:=⟨⟩
theorem tw5938895169361435480:True:=⟨⟩
theorem tw2338016661217985088:True:=⟨⟩
theorem tw6436408468943245987:True:=⟨⟩
theorem tw13170433046734835751:True:=⟨⟩
theorem tw12149118664503477897:True:=⟨⟩
theorem tw6686578495797625648:True:=⟨⟩
theorem tw13967471182888522540:True:=⟨⟩
theorem tw12183533193195375338:True:=⟨⟩
theorem tw9140775519312169081:True:=⟨⟩
theorem tw16176571183657205999:True:=⟨⟩
theorem tw5168787305434442197:True:=⟨⟩
theorem tw4144025773378077245:True:=⟨⟩
theorem tw5363473197917738219:True:=⟨⟩
theorem tw12572910827557235268:True:=⟨⟩
theorem tw135437923782334408:True:=⟨⟩
theorem tw10761785914928231125:True:=⟨⟩
theorem tw7885429634428338405:True:=⟨⟩
theorem tw10160414753911261894:True:=⟨⟩
theorem tw7365091113473467134:True:=⟨⟩
theorem tw860446345179482096:True:=⟨⟩
theorem tw10628764839235941534:True:=⟨⟩
theorem tw1290937254183907647:True:=⟨⟩
theorem tw12777499221545193920:True:=⟨⟩
theorem tw8306810617025693719:True:=⟨⟩
theorem tw13917831951453480611:True:=⟨⟩
theorem tw13370712811439086965:True:=⟨⟩
theorem tw5947983877037293466:True:=⟨⟩
theorem tw687797066748593218:True:=⟨⟩
theorem tw5213401098101773270:True:=⟨⟩
theorem tw14622529050368812639:True:=⟨⟩
theorem tw185922153587636617:True:=⟨⟩
theorem tw9157666089386665846:True:=⟨⟩
theorem tw10901076502118484352:True:=⟨⟩
theorem tw78801086721097002:True:=⟨⟩
theorem tw2186039906301727739:True:=⟨⟩
theorem tw10637329731933710564:True:=⟨⟩
theorem tw16888253293372878133:True:=⟨⟩
theorem tw10445408557679055423:True:=⟨⟩
theorem tw1190730729811239201:True:=⟨⟩
theorem tw7614564211063460340:True:=⟨⟩
theorem tw7741063280322471088:True:=⟨⟩
theorem tw17723182560833874430:True:=⟨⟩
theorem tw18296707569653433212:True:=⟨⟩
theorem tw1014076396013389404:True:=⟨⟩
theorem tw13201969008525797847:True:=⟨⟩
theorem tw9612093936419631658:True:=⟨⟩
theorem tw14760909115573642762:True:=⟨⟩
theorem tw426368026502000111:True:=⟨⟩
theorem tw10506377765090138692:True:=⟨⟩
theorem tw13366603017002377662:True:=⟨⟩
theorem tw2378006546677542368:True:=⟨⟩
theorem tw3357241807959347786:True:=⟨⟩
theorem tw7139827306375135225:True:=⟨⟩
theorem tw5905180574473066147:True:=⟨⟩
theorem tw17664725145886522054:True:=⟨⟩
theorem tw3883160509928538276:True:=⟨⟩
theorem tw7030017932534423086:True:=⟨⟩
theorem tw7602244095815556610:True:=⟨⟩
theorem tw1635918407006611653:True:=⟨⟩
theorem tw6214564351461906650:True:=⟨⟩
theorem tw11343632605085466887:True:=⟨⟩
theorem tw2613025911550854815:True:=⟨⟩
theorem tw3662749238146631431:True:=⟨⟩
theorem tw8386905091216978438:True:=⟨⟩
theorem tw393746049934011565:True:=⟨⟩
theorem tw12410140815796648136:True:=⟨⟩
theorem tw18260739356937597085:True:=⟨⟩
theorem tw4154926348748052080:True:=⟨⟩
theorem tw9979860613351353738:True:=⟨⟩
theorem tw2712026437190891296:True:=⟨⟩
theorem tw413387347658220465:True:=⟨⟩
theorem tw15217469383787347243:True:=⟨⟩
theorem tw691904738537258:True:=⟨⟩
theorem tw17630042842834716234:True:=⟨⟩
theorem tw12272973171324262612:True:=⟨⟩
theorem tw5570667329188843651:True:=⟨⟩
theorem tw11945917819243185385:True:=⟨⟩
theorem tw3203633714840701100:True:=⟨⟩
theorem tw7035442487263186859:True:=⟨⟩
theorem tw4760148543897328755:True:=⟨⟩
theorem tw6656999988942457670:True:=⟨⟩
theorem tw5041185913842912260:True:=⟨⟩
theorem tw8343905630372298380:True:=⟨⟩
theorem tw9111671351403968245:True:=⟨⟩
theorem tw2879965528505102160:True:=⟨⟩
theorem tw7358230477758633478:True:=⟨⟩
theorem tw15473807593761220222:True:=⟨⟩
theorem tw210604498692166694:True:=⟨⟩
theorem tw14083955574647037857:True:=⟨⟩
theorem tw184821840460740032:True:=⟨⟩
theorem tw16839890242696792861:True:=⟨⟩
theorem tw5705123783061279228:True:=⟨⟩
theorem tw13669927955088157324:True:=⟨⟩
theorem tw15407366230458618877:True:=⟨⟩
theorem tw13446021076388152257:True:=⟨⟩
theorem tw8183600700326695943:True:=⟨⟩
theorem tw8893268498163053283:True:=⟨⟩
theorem tw1669162750070233768:True:=⟨⟩
theorem tw12932091598457698434:True:=⟨⟩
theorem tw10313348124166207168:True:=⟨⟩
theorem tw17936653411191348352:True:=⟨⟩
theorem tw10491680099835009718:True:=⟨⟩
theorem tw8668700928777012149:True:=⟨⟩
theorem tw5686709505484935628:True:=⟨⟩
theorem tw18288682871685451340:True:=⟨⟩
theorem tw6191023427603258593:True:=⟨⟩
theorem tw7353577778134558461:True:=⟨⟩
end PySem.W.Fast
set_option maxRecDepth 100000 in
set_option maxHeartbeats 0 in
theorem PySem.Challenge.cw_walktold_k43_maps_that_part_holds : PySem.Challenge.rw_walktold_k43_maps_that_part.Holds := by
 w_on; o_law; k_head; (case hw=>w_witness2)
 k_fill
 refine Law.walk (l:=PySem.Challenge.rw_walktold_k43_maps_that_part) rfl rfl (fun w h Y=>PySem.W.kIn_of Y) ?F
 case F=>
  intro w mg fa h KX G hmg
  refine' Law.all_mk KX G hmg ..
  all_goals try first | k_is | (refine' ⟨?_,?_,?_,?_⟩ <;> try k_is)
  all_goals try first | k_is | k_exc | kit_is
