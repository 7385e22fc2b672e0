import PyProof.Rows.All
import Wide.All
import OpenK.AllK
import Wide.FinOn
import PySem.Challenge.RW_walktold_k84_gathered
set_option Elab.async false
set_option linter.all false
set_option maxRecDepth 100000
set_option compiler.extract_closed false
set_option bootstrap.genMatcherCode false
open Array (getElem?_eq_getElem getElem?_toList getElem_extract getElem_mem_toList getElem_toList length_toList mem_toList_iff perm_iff_toList_perm size_extract toArray_toList toList_append toList_extract toList_push)
open Bool (and_eq_true false_eq_true or_eq_true)
open Int (mul_one toNat_natCast)
open List (all_cons all_eq_true any_cons any_eq_true append_assoc append_nil append_of_mem cons_append countP_cons drop_drop drop_eq_getElem_cons drop_zero ext_getElem? extract_eq_take_drop filterMap_cons find?_cons flatMap_append flatMap_cons flatMap_def foldl_append foldl_cons getElem?_append_left getElem?_append_right getElem?_eq_none getElem?_map getElem?_set getElem?_set_ne getElem?_set_self getElem?_toArray getElem_map getElem_mem getElem_of_mem length_append length_cons length_drop length_map length_nil length_range length_set length_singleton length_take lookup_cons lt_asymm map_append map_congr_left map_cons map_eq_nil_iff map_id map_map map_nil map_set mem_append mem_cons mem_cons_self mem_filter mem_flatMap mem_map mem_of_getElem? mem_range mem_singleton nil_append nodup_append nodup_cons of_mem_zip pairwise_append pairwise_cons pairwise_iff_getElem pairwise_map perm_append_comm perm_middle reverse_perm set_comm size_toArray take_append_drop take_length take_of_length_le)
open Nat (le_add_right le_of_eq le_of_lt le_refl le_succ le_trans lt_irrefl lt_of_le_of_lt lt_of_lt_of_le lt_or_ge lt_succ_of_lt lt_succ_self lt_trans min_le_right mod_lt mul_le_mul ne_of_gt ne_of_lt not_lt sub_le sub_self succ_mul zero_add zero_le)
open Option (isSome_iff_exists isSome_map isSome_some map_eq_some_iff map_some)
def qa:=@PySem.wpAny_bind
def qb:=@PySem.wpAny_pure
def qc:=@PySem.Heap.get?_push_of_some
def qd:=@PySem.Heap.get?_push_size
def qe:=@PySem.Heap.lt_size
def qf.{u}:=@Option.some.inj.{u}
def qg.{u}:=@List.getElem?_eq_some_iff.{u}
def qh.{u}:=@List.getElem?_eq_getElem.{u}
def qi.{u}:=@List.mem_append_right.{u}
def qj.{u}:=@List.mem_append_left.{u}
def qk.{u}:=@List.mem_cons_of_mem.{u}
def qm.{u}:=@List.mem_cons_self.{u}
def qo:=@List.length_map
def qp:=@List.append_assoc
def qq:=@List.length_append
def qr:=@List.size_toArray
def qt:=@List.length_cons
def qu:=@List.mem_singleton
def qv:=@List.length_nil
def qw:=@List.nodup_append
def qx:=@List.mem_append
def qy:=@List.map_cons
def qz:=@List.append_nil
def qA:=@List.mem_cons
def qB:=@List.length_singleton
def qC:=@List.length_range
def qD:=@List.map_map
def qE:=@List.getElem?_map
def qF:=@List.length_drop
def qG:=@List.length_take
def qH:=@List.all_eq_true
def qI:=@List.mem_range
def qJ:=@List.mem_map
def qK:=@List.nodup_cons
def qL:=@List.mem_of_getElem?
def qM:=@List.perm_append_comm
def qN:=@List.cons_append
def qO:=@List.getElem?_eq_none
def qP:=@decide_eq_true
def qQ:=@decide_eq_false
def qR:=@decide_eq_true_eq
def qS:=@of_decide_eq_true
def qT:=@Array.length_toList
def qU:=@Int.toNat_natCast
def qV:=Bool.false_ne_true
def qW:=@Option.map_eq_some_iff
def qX:=@Array.getElem?_toList
def qY:=@if_pos
def qZ:=@if_neg
def q5:=@Nat.le_refl
def q8:=@PySem.Heap.get?_update_other
def q9:=@PySem.Heap.get?_update_self
def zb:=@PySem.wpAny_newObj_type
def zc:=@PySem.wpAny_call_entry
def zd:=@PySem.sizeLine_eq
def ze:=@PySem.wpAny_holding
def zf:=@PySem.wpAny_of_eq
def zg:=@PySem.wpAny_mono
abbrev zh:=PySem.Value->PySem.Shared->Prop
theorem aZ8(h:1=1:=by rfl):True:=trivial
theorem aZ9(h:1=1:=by decide):True:=trivial
@[inline]def rZ9:=aZ8._auto_1
@[inline]def dZ9:=aZ9._auto_1
theorem cpsZ9{A:Prop}(h:∀G:Prop,(A->G)->G):A:=h A id
section
set_option hygiene false in
open Lean Parser.Tactic in
local macro_rules
|`($m:declModifiers def $i:declId $s:optDeclSig $v:declVal)=>do
 let a:=m.raw.getArgs
 if !a[4]!.isNone then Macro.throwUnsupported
 match i.raw[0].getId with
 |.str p n=>do
  let f(s:Syntax):=s.rewriteBottomUp (·.setInfo .none)
  let c:=mkNode ``Parser.Command.declaration
  let i:=f i
  let s:=f s
  let v:=f v
  if a[1]!.isNone&&(n.front.isUpper||!p.isAnonymous) then return c #[m,mkNode ``Parser.Command.theorem #[mkAtom "theorem",i,mkNode ``Parser.Command.declSig #[s[0],s[1][0]],v]] else return c #[m.raw.setArg 4 (mkNullNode #[mkNode ``Parser.Command.noncomputable #[mkAtom "noncomputable"]]),mkNode ``Parser.Command.definition #[mkAtom "def",i,s,v,mkNullNode]]
 |_=>Macro.throwUnsupported
|`(#[$x,*])=>if x.getElems.isEmpty then Macro.throwUnsupported else `(⟨$x,*⟩)
|`(∅)=>`((by lia))
|`(⋯)=>`((by decide))
|`(↑$x)=>`((by simpa using $x))
|`(tactic|lia)=>`(tactic|first|assumption|exact Nat.le_refl _|exact Nat.le_of_lt ‹_›|exact Nat.succ_pos _|exact Nat.not_lt.1 ‹_›|exact Nat.lt_of_lt_of_le ‹_› ‹_›|exact Nat.lt_of_le_of_lt ‹_› ‹_›|exact Nat.le_trans ‹_› ‹_›|exact Nat.lt_trans ‹_› ‹_›|exact Nat.ne_of_lt ‹_›|exact Nat.ne_of_gt ‹_›|exact Nat.lt_succ_of_le ‹_›|exact Nat.le_add_right _ _|exact Nat.sub_le _ _|exact Nat.le_of_lt_succ ‹_›|exact absurd ‹_› (Nat.not_lt_zero _)|exact absurd ‹_ < _› (Nat.not_lt.2 ‹_›)|exact Nat.lt_of_le_of_ne ‹_› ‹_›|exact Nat.pos_of_ne_zero ‹_›|exact Nat.le_trans ‹_› (Nat.le_add_right _ _)|exact Nat.le_trans (Nat.sub_le _ _) ‹_›|exact Int.le_of_lt ‹_›|exact Nat.sub_lt ‹_› Nat.one_pos|exact Nat.add_sub_of_le ‹_›|exact Nat.lt_add_of_pos_right ‹_›|exact Nat.lt_of_lt_of_eq ‹_› ‹_›|exact Nat.le_of_eq ‹_›|exact Nat.not_lt_of_le ‹_›|exact Nat.sub_pos_of_lt ‹_›|exact Nat.le_of_eq (Nat.add_sub_of_le ‹_›)|lia -verbose)
|`(tactic|show $e:term)=>`(tactic|first|refine $e|fail)
|`(tactic|let #[$x,*]:=$e)=>do
 let rec go:Nat->Syntax->MacroM (TSyntax ``rcasesPatLo)
  |n+1,t=>do match t with
   |`(#[$y,*])=>let z<-y.getElems.mapM (go n ·.raw);`(rcasesPatLo|⟨$[$z],*⟩)
   |`(_)=>`(rcasesPatLo|_)
   |_=>`(rcasesPatLo|$(⟨t⟩):ident)
  |_,_=>Macro.throwUnsupported
 let z<-x.getElems.mapM (go 9 ·.raw)
 if z.size>3 then `(tactic|(refine _root_.cpsZ9 fun gZ kZ=>?_;rcases $e:term with ⟨$[$z],*⟩;refine kZ ?_;clear kZ gZ)) else `(tactic|obtain ⟨$[$z],*⟩:=$e)
|`(tactic|let $d:letDecl)=>`(tactic|have $d:letDecl)
noncomputable section
namespace ST
open PySem PySem.SetTable
@[inline]def Rising(xs:Array Nat):Prop:=∀i j(hi:i<xs.size)(v:j<xs.size),i<j->xs[i]<xs[j]
def EI{xs:Array Nat}(h:i<xs.size):xs.getD i d=xs[i]:=by simp[Array.getD,h]
def EH(Y:Rising xs):∀(v lo hi:Nat),hi<=xs.size->lo<=hi->hi-lo<=v->(∀i(h:i<xs.size),i<lo->xs[i]<j)->(∀i(h:i<xs.size),hi<=i->j<=xs[i])->
  below.go xs j v lo hi<=xs.size/\(∀i(h:i<xs.size),i<below.go xs j v lo hi->xs[i]<j)/\∀i(h:i<xs.size),below.go xs j v lo hi<=i->j<=xs[i]:=by
 intro v;induction v with
 |zero=>
  intro lo hi h1 h2 h3 G F;let:lo=hi:=∅
  subst this;show#[by show lo<=_;lia,λi h z=>G i h z,λi h z=>F i h z]
 |succ v O=>
  intro lo hi h1 h2 h3 G F;unfold below.go;by_cases B:lo<hi
  .rw[qY B];let J:(lo+hi)/2<xs.size:=by lia
   dsimp only;rw[EI J];by_cases M:xs[(lo+hi)/2]<j
   .rw[qY M];show O _ _ h1 ∅ ∅ (λi h z=>?_) F;by_cases L:i=(lo+hi)/2
    .subst L;show M
    .let:=Y i ((lo+hi)/2) h J ∅;lia
   .rw[qZ M];show O _ _ ∅ ∅ ∅ G λi h z=>?_;by_cases L:i=(lo+hi)/2
    .subst L;lia
    .let:=Y ((lo+hi)/2) i J h ∅;lia
  .rw[qZ B];let:lo=hi:=by lia
   subst this;show#[∅,λi h z=>G i h z,λi h z=>F i h z]
def Aw(v:Rising xs):below xs j<=xs.size/\(∀i(h:i<xs.size),i<below xs j->xs[i]<j)/\∀i(h:i<xs.size),below xs j<=i->j<=xs[i]:=
 EH v xs.size 0 xs.size (q5 _) (zero_le _) ∅ (λi h z=>by lia) λi h z=>∅
def Ej(z:Rising xs)(h:i<xs.size)(e:xs[i]=j):below xs j=i:=by
 let#[h1,h2,B]:=Aw (j:=j) z;rcases Nat.lt_trichotomy (below xs j) i with v|v|v
 .let F:=B (below xs j) ∅ (q5 _);let:=z (below xs j) i ∅ h v;lia
 .show v
 .let:=h2 i h v;lia
def BC{t:SetTable}(v:Rising t.place)(h:i<t.place.size)(e:t.place[i]=j):t.slot j=.live i:=by
 unfold slot;dsimp only;rw[Ej v h e];let:t.place[i]?=some j:=by rw[getElem?_eq_getElem h,e]
 rw[this];simp
def BD{t:SetTable}(z:t.dummies=#[])(h:∀i(hi:i<t.place.size),t.place[i]≠j):t.slot j=.empty:=by
 unfold slot;dsimp only;let h1:(t.place[below t.place j]?==some j)=false:=by
  cases q:t.place[below t.place j]? with
  |none=>rfl
  |some v=>let#[hi,e]:=Array.getElem?_eq_some_iff.mp q;let:=h _ hi;rw[e]at this;simpa using this
 rw[h1,z];rfl
def Ao{t:SetTable}(v:Rising t.place)(z:t.dummies=#[])(j:Nat):(t.slot j=.empty/\∀i(hi:i<t.place.size),t.place[i]≠j)\/∃i,∃hi:i<t.place.size,t.place[i]=j/\t.slot j=.live i:=by
 by_cases h:∃i,∃hi:i<t.place.size,t.place[i]=j
 .obtain⟨i,hi,e⟩:=h;show .inr #[i,hi,e,BC v hi e]
 .let h':∀i(hi:i<t.place.size),t.place[i]≠j:=λi hi e=>h #[i,hi,e];show .inl #[BD z h',h']
def aD(t:SetTable)(p:Probe):Nat->Probe
 |0=>p
 |n+1=>aD t (t.advance p) n
def AV(t:SetTable):∀(n:Nat)(p:Probe),aD t p (n+1)=t.advance (aD t p n)
 |0,_=>rfl
 |n+1,p=>AV t n (t.advance p)
def Af(t:SetTable):∀(m n:Nat)(p:Probe),aD t p (m+n)=aD t (aD t p m) n
 |0,n,p=>by rw[zero_add];rfl
 |m+1,n,p=>by rw[Nat.add_right_comm];show Af t m n (t.advance p)
def DR(hr:Rising t.place)(hd:t.dummies=#[]):∀(v n:Nat)(p:Probe),p.dummy=none->t.slot (aD t p n).j=.empty->(∀m,m<n->t.slot (aD t p m).j≠.empty)->n<v->
  (probe.go t hashAt h v p=some (.empty (aD t p n).j none)/\∀m,m<n->∀i,t.slot (aD t p m).j=.live i->hashAt i≠h)\/
  ∃m i,m<n/\t.slot (aD t p m).j=.live i/\hashAt i=h/\probe.go t hashAt h v p=some (.candidate (aD t p m).j i (aD t p (m+1)))/\∀B,B<m->∀F,t.slot (aD t p B).j=.live F->hashAt F≠h:=by
 intro v;induction v with
 |zero=>intro n p _ _ _ h;lia
 |succ v ih=>
  intro n p G he L hf;cases n with
  |zero=>show .inl #[?_,λm hm=>∅];unfold probe.go;let h6:t.slot p.j=.empty:=he;rw[h6];rw[G];rfl
  |succ n=>
   rcases Ao hr hd p.j with⟨O,_⟩|⟨i,hi,ei,hl⟩
   .show absurd O (L 0 ∅)
   .by_cases hh:hashAt i=h
    .show .inr #[0,i,∅,hl,hh,?_,λB h5=>∅];unfold probe.go;rw[hl];show(if(hashAt i==h)=true then _ else _)=_;rw[qY (by rw[hh];simp)];rfl
    .have M:probe.go t hashAt h (v+1) p=probe.go t hashAt h v (t.advance p):=by
      conv=>lhs;unfold probe.go
      grind
     have Y:(t.advance p).dummy=none:=by
      unfold advance;split
      .show G
      .show G
     rcases ih n (t.advance p) Y he (λm hm=>L (m+1) ∅) ∅with⟨h1,h2⟩|⟨m,F,hm,h1,h2,h3,h4⟩
     .show .inl #[by rw[M,h1];rfl,λm hm F z=>?_];cases m with
      |zero=>have:t.slot p.j=.live F:=z;rw[hl]at this;cases this;show hh
      |succ m=>show h2 m ∅ F z
     .show .inr #[m+1,F,∅,h1,h2,by rw[M,h3];rfl,λB h5 J z=>?_];cases B with
      |zero=>have:t.slot p.j=.live J:=z;rw[hl]at this;cases this;show hh
      |succ B=>show h4 B ∅ J z
def aV(mask:Nat)(b:Nat):Nat->Nat×Nat
 |0=>(b %(mask+1),b)
 |k+1=>leap mask (aV mask b k).1 (aV mask b k).2
def aR(mask:Nat)(p:Nat×Nat):Probe:={j:=p.1,more:=runEnd mask p.1-p.1,i:=p.1,perturb:=p.2,dummy:=none}
def ED(mask i:Nat):runEnd mask i-i<=9:=by unfold runEnd;split<;>lia
def Bl:∀m,m<=runEnd t.mask p.1-p.1->aD t (aR t.mask p) m={aR t.mask p with j:=p.1+m,more:=runEnd t.mask p.1-p.1-m}
 |0,_=>rfl
 |m+1,h=>by rw[AV,Bl m ∅];unfold advance;rw[qY (by show runEnd t.mask p.1-p.1-m>0;lia)];rfl
def BH:aD t (aR t.mask p) (runEnd t.mask p.1-p.1+1)=aR t.mask (leap t.mask p.1 p.2):=by rw[AV,Bl _ (q5 _)];unfold advance;rw[qZ (by show¬(runEnd t.mask p.1-p.1-(runEnd t.mask p.1-p.1)>0);lia)];rfl
def Bm:∀k,∃n,n<=10*k/\aD t (t.probeStart h) n=aR t.mask (aV t.mask (bits h) k)
 |0=>#[0,∅,rfl]
 |k+1=>by let#[n,v,e]:=Bm (t:=t) (h:=h) k;let:=ED t.mask (aV t.mask (bits h) k).1;show#[n+(runEnd t.mask (aV t.mask (bits h) k).1-(aV t.mask (bits h) k).1+1),∅,?_];rw[Af,e,BH];rfl
def EK(h:Int):bits h<2^64:=by unfold bits;grind
def Bo(mask b:Nat):∀k,(aV mask b k).2=b/32^k
 |0=>by simp[aV]
 |k+1=>by show(aV mask b k).2/32=_;rw[Bo mask b k,Nat.div_div_eq_div_mul,Nat.pow_succ]
def CG{mask:Nat}(v:13<=k):(aV mask (bits h) k).2=0:=by
 rw[Bo];show Nat.div_eq_of_lt (lt_of_lt_of_le (EK h) ?_)
 calc 2^64<=32^13:=by decide
  _<=32^k:=Nat.pow_le_pow_right ⋯ v
def tV(M i:Nat):Nat:=(i*5+1) %M
def it(M:Nat):Nat->Nat->Nat
 |0,i=>i
 |k+1,i=>it M k (tV M i)
def Bq(M:Nat):∀a b i,it M (a+b) i=it M b (it M a i)
 |0,b,i=>by rw[zero_add];rfl
 |a+1,b,i=>by rw[Nat.add_right_comm];show Bq M a b (tV M i)
def Bp{mask:Nat}:∀k,(aV mask (bits h) (13+k)).1=it (mask+1) k (aV mask (bits h) 13).1
 |0=>rfl
 |k+1=>by rw[Bq (mask+1) k 1,<-Bp k];show(leap mask (aV mask (bits h) (13+k)).1 (aV mask (bits h) (13+k)).2).1=_;rw[CG ∅];rfl
def hit(M e:Nat):Nat->Nat->Bool
 |0,_=>false
 |n+1,i=>bif Nat.beq i e then true else hit M e n (tV M i)
def CJ:∀{n i:Nat},hit M e n i=true->∃k,k<n/\it M k i=e
 |0,_,h=>by cases h
 |n+1,i,h=>by
  unfold hit at h;cases q:Nat.beq i e with
  |true=>show#[0,∅,Nat.eq_of_beq_eq_true q]
  |false=>rw[q]at h;let#[k,z,v]:=CJ (n:=n) h;show#[k+1,∅,v]
def bH(mask:Nat):Prop:=mask=7\/mask=15\/mask=31\/mask=63\/mask=127\/mask=255\/mask=511
def EL{mask:Nat}(h:bH mask):(List.range (mask+1)).all (λe=>hit (mask+1) e (mask+1) 0)=true/\it (mask+1) (mask+1) 0=0:=by rcases h with rfl|rfl|rfl|rfl|rfl|rfl|rfl<;>show⟨by decide+kernel,by decide+kernel⟩
def GY{mask s e:Nat}(h:bH mask)(hs:s<=mask)(F:e<=mask):∃k,k<=mask/\it (mask+1) k s=e:=by
 let#[h1,h2]:=EL h;rw[qH]at h1;let#[a,J,z]:=CJ (h1 s (qI.mpr ∅));let#[b,G,v]:=CJ (h1 e (qI.mpr ∅));by_cases B:a<=b
 .show#[b-a,∅,by rw[<-z,<-Bq,show a+(b-a)=b by lia,v]]
 .show#[mask+1-a+b,∅,?_];rw[<-z,<-Bq,show a+(mask+1-a+b)=mask+1+b by lia,Bq,h2,v]
def CD(z:bH t.mask)(B:e<=t.mask):∃n,n<10*turns t.mask/\(aD t (t.probeStart h) n).j=e:=by
 let v:(aV t.mask (bits h) 13).1<=t.mask:=by let:(aV t.mask (bits h) 13).1<t.mask+1:=mod_lt _ ∅;lia
 let#[k,L,G]:=GY z v B;let#[n,J,F]:=Bm (t:=t) (h:=h) (13+k);show#[n,by unfold turns;lia,?_];rw[F];show(aV t.mask (bits h) (13+k)).1=e;rw[Bp,G]
def GV{P:Nat->Prop}[DecidablePred P]:∀n,P n->∃m,m<=n/\P m/\∀k,k<m->¬P k:=by
 intro n;induction n using Nat.strongRecOn with
 |ind n B=>
  intro F;by_cases h:∃k,k<n/\P k
  .obtain⟨k,z,v⟩:=h;let#[m,h1,h2,G]:=B k z v;show#[m,∅,h2,G]
  .show#[n,q5 _,F,λk z v=>h #[k,z,v]]
structure fS(t:SetTable)(hs:List Int):Prop where
 ris:Rising t.place
 dum:t.dummies=#[]
 mask:bH t.mask
 size:t.place.size=hs.length
 le:∀i(hi:i<t.place.size),t.place[i]<=t.mask
 few:hs.length<=t.mask
 reach:∀i(hi:i<t.place.size)(h:Int),hs[i]?=some h->∃n,(aD t (t.probeStart h) n).j=t.place[i]/\∀m,m<n->t.slot (aD t (t.probeStart h) m).j≠.empty
def EY:∀(l m:List Nat),l.Nodup->(∀x∈l,x∈m)->l.length<=m.length
 |[],m,_,_=>by simp
 |x::l,m,hn,hs=>by
  let#[h1,h2]:=qK.mp hn;let B:x∈m:=hs x (by simp);let:=EY l (m.erase x) h2 λy v=>by show(List.mem_erase_of_ne ?_).mpr (hs y (by simp[v]));intro z;subst z;show h1 v
  rw[List.length_erase_of_mem B]at this;let F:=List.length_pos_of_mem B;rw[qt];lia
def DS:∀(m:Nat)(l:List Nat),l.Nodup->(∀x∈l,x<m)->l.length<m->∃e,e<m/\e∉l:=by
 intro m l B z F;by_cases h:∃e,e<m/\e∉l
 .show h
 .exfalso;let:∀e∈List.range m,e∈l:=λe v=>by
   by_cases q:e∈l
   .show q
   .show absurd #[e,qI.mp v,q] h
  let:=EY (List.range m) l List.nodup_range this;rw[qC]at this;lia
def fS.free(T:fS t hs)(h:Int):∃n,n<10*turns t.mask/\t.slot (aD t (t.probeStart h) n).j=.empty/\∀m,m<n->t.slot (aD t (t.probeStart h) m).j≠.empty:=by
 obtain⟨e,Y,B⟩:=DS (t.mask+1) t.place.toList (by
  rw[List.Nodup,pairwise_iff_getElem];intro i j hi J F;let:=T.ris i j hi ↑J F;simp;lia) (λx G=>by
   let#[i,hi,e]:=getElem_of_mem G;let:=T.le i hi;rw[getElem_toList]at e;lia) (by
   let:=T.few;let:=T.size;rw[qT];lia)
 let#[n,O,M]:=CD (h:=h) T.mask (show e<=t.mask by lia);let v:t.slot (aD t (t.probeStart h) n).j=.empty:=by rw[M];show BD T.dum λi hi z=>B ?_;rw[<-z];show getElem_mem_toList hi
 let#[m,h1,h2,L]:=GV (P:=λn=>t.slot (aD t (t.probeStart h) n).j=.empty) n v;show#[m,∅,h2,L]
theorem ris_list:Rising xs↔xs.toList.Pairwise (·<·):=by rw[pairwise_iff_getElem];first|rfl|assumption|(simp_all;done)
def Br(G:Rising xs)(hn:∀i(hi:i<xs.size),xs[i]≠j):Rising (insertAt xs (below xs j) j):=by
 let#[h1,h2,Y]:=Aw (j:=j) G;rw[ris_list,toList_insertAt];let J:=ris_list.mp G;rw[<-take_append_drop (below xs j) xs.toList]at J;let#[O,M,L]:=pairwise_append.mp J;show pairwise_append.mpr #[O,pairwise_cons.mpr #[λy z=>?_,M],λx F y z=>?_]
 .obtain⟨i,hi,e⟩:=getElem_of_mem z;rw[List.getElem_drop,getElem_toList]at e;let v:below xs j+i<xs.size:=by simp at hi;lia
  let a:=Y (below xs j+i) v ∅;let b:=hn (below xs j+i) v;lia
 .have B:x<j:=by
   let#[i,hi,e]:=getElem_of_mem F;rw[List.getElem_take,getElem_toList]at e;let v:i<xs.size/\i<below xs j:=by simp at hi;lia
   let:=h2 i v.1 v.2;lia
  rcases qA.mp z with rfl|z
  .show B
  .show L x F y z
theorem mem_insert:x∈(insertAt xs p j).toList↔x=j\/x∈xs.toList:=by rw[toList_insertAt,qx];grind[take_append_drop,mem_append]
def Ap(h:t'.mask=t.mask):∀(n:Nat)(p:Probe),aD t' p n=aD t p n
 |0,_=>rfl
 |n+1,p=>by
  let e:t'.advance p=t.advance p:=by unfold advance;rw[h]
  show aD t' (t'.advance p) n=aD t (t.advance p) n;rw[e,Ap h n]
def An{t t':SetTable}(h:t'.mask=t.mask)(b:Int):t'.probeStart b=t.probeStart b:=by unfold probeStart;rw[h]
def Bn{t:SetTable}(v:Rising t.place)(G:t.dummies=#[])(j:Nat):t.slot j≠.empty↔j∈t.place.toList:=by
 rcases Ao v G j with⟨h,B⟩|⟨i,hi,e,h⟩
 .show#[λz=>absurd h z,λF=>?_];let#[i,hi,e]:=getElem_of_mem F;show absurd e (B i hi)
 .show#[λ_=>?_,λ_=>by rw[h];show nofun];rw[<-e];show getElem_mem_toList hi
def AS{t:SetTable}(v:t.dummies=#[]):(t.put j).1.place=insertAt t.place (below t.place j) j/\(t.put j).1.mask=t.mask/\(t.put j).1.dummies=#[]/\(t.put j).2=below t.place j:=by unfold put;show#[rfl,rfl,?_,rfl];rw[v];rfl
def fS.put(T:fS t hs)(he:t.slot (aD t (t.probeStart h) n).j=.empty)(h4:∀m,m<n->t.slot (aD t (t.probeStart h) m).j≠.empty)(hj:(aD t (t.probeStart h) n).j<=t.mask)(hf:hs.length+1<=t.mask):
  fS (t.put (aD t (t.probeStart h) n).j).1 (hs.take (t.put (aD t (t.probeStart h) n).j).2++h::hs.drop (t.put (aD t (t.probeStart h) n).j).2):=by
 generalize h5:(aD t (t.probeStart h) n).j=j at*;let h3:∀i(hi:i<t.place.size),t.place[i]≠j:=by
  rcases Ao T.ris T.dum j with⟨_,hn⟩|⟨i,hi,e,L⟩
  .show hn
  .rw[L]at he;cases he
 let#[Y,J,e3,e4]:=AS (t:=t) (j:=j) T.dum;let M:=Br T.ris h3;let#[b1,b2,b3]:=Aw (j:=j) T.ris;let h2:(insertAt t.place (below t.place j) j).size=t.place.size+1:=by rw[<-qT,toList_insertAt,qq,qt,qG,qF,qT];lia
 let more:∀k,t.slot k≠.empty->(t.put j).1.slot k≠.empty:=λk B=>by rw[Bn (by rw[Y];show M) e3,Y,mem_insert];show .inr ((Bn T.ris T.dum k).mp B)
 show#[by rw[Y];show M,e3,by rw[J];show T.mask,?_,λi hi=>?_,?_,λi hi g O=>?_]
 .rw[Y,h2,qq,qt,qG,qF,e4,T.size];let:=T.size;lia
 .let hm:(t.put j).1.place[i]∈(insertAt t.place (below t.place j) j).toList:=by rw[<-Y];exact getElem_mem_toList hi
  rw[J];rcases mem_insert.mp hm with z|z
  .rw[z];show hj
  .obtain⟨k,B,e⟩:=getElem_of_mem z;rw[<-e];show T.le k ↑B
 .rw[J,qq,qt,qG,qF];lia
 .rw[e4]at O;let v:(t.put j).1.place[i]?=(t.place.toList.take (below t.place j)++j::t.place.toList.drop (below t.place j))[i]?:=by rw[Y,<-qX,toList_insertAt]
  rw[getElem?_eq_getElem hi]at v;let F:(t.place.toList.take (below t.place j)).length=below t.place j:=by rw[qG,qT];lia
  let G:(hs.take (below t.place j)).length=below t.place j:=by let:=T.size;rw[qG];lia
  let h1:∀k(B:k<t.place.size),hs[k]?=some g->(t.put j).1.place[i]=t.place[k]->∃n,(aD (t.put j).1 ((t.put j).1.probeStart g) n).j=(t.put j).1.place[i]/\∀m,m<n->(t.put j).1.slot (aD (t.put j).1 ((t.put j).1.probeStart g) m).j≠.empty:=λk B h6 e=>by let#[n',a,b]:=T.reach k B g h6;show#[n',by rw[Ap J,An J,a,e],λm hm=>?_];rw[Ap J,An J];show more _ (b m hm)
  rcases Nat.lt_trichotomy i (below t.place j)with L|L|L
  .rw[getElem?_append_left (by rw[F];show L),List.getElem?_take_of_lt L]at v;rw[getElem?_append_left (by rw[G];show L),List.getElem?_take_of_lt L]at O;let B:i<t.place.size:=by lia
   rw[qX,getElem?_eq_getElem B]at v;show h1 i B O (qf v)
  .subst L;rw[getElem?_append_right (by rw[F];show q5 _),F,sub_self,List.getElem?_cons_zero]at v;rw[getElem?_append_right (by rw[G];show q5 _),G,sub_self,List.getElem?_cons_zero]at O;let eg:=qf O;subst eg;show#[n,by rw[Ap J,An J,h5,qf v],λm hm=>?_];rw[Ap J,An J];show more _ (h4 m hm)
  .obtain⟨k,rfl⟩:∃k,i=k+1:=#[i-1,∅]
   rw[getElem?_append_right (by rw[F];lia),F,show k+1-below t.place j=(k-below t.place j)+1 by lia,List.getElem?_cons_succ,List.getElem?_drop,show below t.place j+(k-below t.place j)=k by lia]at v;rw[getElem?_append_right (by rw[G];lia),G,show k+1-below t.place j=(k-below t.place j)+1 by lia,List.getElem?_cons_succ,List.getElem?_drop,show below t.place j+(k-below t.place j)=k by lia]at O;let B:k<t.place.size:=by let:=hi;simp only[Y,h2]at this;lia
   rw[qX,getElem?_eq_getElem B]at v;show h1 k B O (qf v)
def cS(o:Array (Option Nat))(j:Nat):Bool:=(o.getD j (some 0)).isNone
def bare(mask:Nat):SetTable:={fresh 0 0 true with mask:=mask}
def Dw{mask:Nat}:∀(v:Nat)(p:Nat×Nat)(K:Nat),K<v->(∃q,cS o q.1=true/\q=(Nat.repeat (λx:Nat×Nat=>leap mask x.1 x.2) K p))->
  ∃j n,layClean.free mask o v p.1 p.2=some j/\(aD (bare mask) (aR mask p) n).j=j/\cS o j=true/\∀m,m<n->cS o (aD (bare mask) (aR mask p) m).j=false:=by
 intro v;induction v with
 |zero=>intro p K h;lia
 |succ v L=>
  intro p K hK Y;let run:∀m,m<=runEnd mask p.1-p.1->(aD (bare mask) (aR mask p) m).j=p.1+m:=λm B=>by let:=Bl (t:=bare mask) (p:=p) m B;let e:(aD (bare mask) (aR mask p) m).j=({aR mask p with j:=p.1+m,more:=runEnd mask p.1-p.1-m}:Probe).j:=congrArg Probe.j this;show e
  let h4:p.1<=runEnd mask p.1:=by unfold runEnd;split<;>lia
  unfold layClean.free;cases G:(List.range (runEnd mask p.1+1-p.1)).find? (λk=>(o.getD (p.1+k) (some 0)).isNone)with
  |some k=>rw[List.find?_range_eq_some]at G;let#[h1,h2,O]:=G;rw[qI]at h2;show#[p.1+k,k,rfl,run k ∅,h1,λm B=>?_];rw[run m ∅];let:=O m B;simpa[cS] using this
  |none=>
   rw[List.find?_range_eq_none]at G;let z:∀m,m<=runEnd mask p.1-p.1->cS o (aD (bare mask) (aR mask p) m).j=false:=λm B=>by rw[run m B];let:=G m ∅;simpa[cS] using this
   cases K with
   |zero=>let#[q,h1,h2]:=Y;let O:q=p:=h2;let:=z 0 ∅;let e:(aD (bare mask) (aR mask p) 0).j=p.1:=rfl;rw[e,<-O,h1]at this;cases this
   |succ K=>
    obtain⟨q,h1,h2⟩:=Y;let J:∀(K:Nat)(p:Nat×Nat),Nat.repeat (λx:Nat×Nat=>leap mask x.1 x.2) (K+1) p=Nat.repeat (λx:Nat×Nat=>leap mask x.1 x.2) K (leap mask p.1 p.2):=by
     intro K;induction K with
     |zero=>intro p;rfl
     |succ K L=>intro p;show leap mask (Nat.repeat (λx:Nat×Nat=>leap mask x.1 x.2) (K+1) p).1 (Nat.repeat (λx:Nat×Nat=>leap mask x.1 x.2) (K+1) p).2=leap mask (Nat.repeat (λx:Nat×Nat=>leap mask x.1 x.2) K (leap mask p.1 p.2)).1 (Nat.repeat (λx:Nat×Nat=>leap mask x.1 x.2) K (leap mask p.1 p.2)).2;rw[L p]
    let#[j,n,a1,a2,a3,a4]:=L (leap mask p.1 p.2) K ∅ #[q,h1,by rw[h2,J]];let pl:=BH (t:=bare mask) (p:=p);let F:aD (bare mask) (aR mask p) (runEnd mask p.1-p.1+1)=aR mask (leap mask p.1 p.2):=pl;show#[j,runEnd mask p.1-p.1+1+n,a1,by rw[Af,F];show a2,a3,λm B=>?_];by_cases M:m<=runEnd mask p.1-p.1
    .show z m M
    .obtain⟨k,rfl⟩:∃k,m=runEnd mask p.1-p.1+1+k:=#[m-(runEnd mask p.1-p.1+1),∅]
     rw[Af,F];show a4 k ∅
def BI(mask b:Nat):∀k,aV mask b k=Nat.repeat (λx:Nat×Nat=>leap mask x.1 x.2) k (b %(mask+1),b)
 |0=>rfl
 |k+1=>by show leap mask (aV mask b k).1 (aV mask b k).2=_;rw[BI mask b k];rfl
structure lP(mask:Nat)(o:Array (Option Nat))(hs:List Int)(ps:List Nat):Prop where
 size:o.size=mask+1
 len:ps.length=hs.length
 nd:ps.Nodup
 le:∀j∈ps,j<=mask
 own:∀(j i:Nat),o.getD j none=some i↔ps[i]?=some j
 reach:∀(i:Nat)(h:Int)(j:Nat),hs[i]?=some h->ps[i]?=some j->∃n,(aD (bare mask) ((bare mask).probeStart h) n).j=j/\∀m,m<n->(aD (bare mask) ((bare mask).probeStart h) m).j∈ps
def Bt{mask:Nat}(O:lP mask o hs ps)(J:j<=mask):cS o j=true↔j∉ps:=by
 let v:j<o.size:=by rw[O.size];lia
 unfold cS;let G:o.getD j (some 0)=o[j]:=by simp[v]
 let z:o.getD j none=o[j]:=by simp[v]
 rw[G];constructor
 .intro h F;let#[i,hi,e]:=getElem_of_mem F;let:=(O.own j i).mpr (by rw[qh hi,e]);rw[z]at this;rw[this]at h;cases h
 .intro B;cases q:o[j]with
  |none=>rfl
  |some i=>have:=(O.own j i).mp (by rw[z,q]);show absurd (qL this) B
def BQ(F:bH t.mask):∀n,(aD t (t.probeStart h) n).j<=t.mask:=by
 have v:∀n(p:Probe),(p.j+p.more<=t.mask)->(aD t p n).j+(aD t p n).more<=t.mask:=by
  intro n;induction n with
  |zero=>intro p z;show z
  |succ n B=>
   intro p z;show B (t.advance p) ?_;unfold advance;split
   .show p.j+1+(p.more-1)<=t.mask;lia
   .let hi:(p.i*5+1+p.perturb/32) %(t.mask+1)<=t.mask:=by let:=mod_lt (p.i*5+1+p.perturb/32) (show 0<t.mask+1 by lia);lia
    show(p.i*5+1+p.perturb/32) %(t.mask+1)+(runEnd t.mask ((p.i*5+1+p.perturb/32) %(t.mask+1))-(p.i*5+1+p.perturb/32) %(t.mask+1))<=t.mask;unfold runEnd;split<;>lia
 intro n;let:=v n (t.probeStart h) (by
  let hi:bits h %(t.mask+1)<=t.mask:=by let:=mod_lt (bits h) (show 0<t.mask+1 by lia);lia
  show bits h %(t.mask+1)+(runEnd t.mask (bits h %(t.mask+1))-bits h %(t.mask+1))<=t.mask;unfold runEnd;split<;>lia)
 lia
def lP.step{mask:Nat}(B:bH mask)(O:lP mask o hs ps)(hf:hs.length<mask+1):
  ∃j,layClean.free mask o (turns mask) (bits h %(mask+1)) (bits h)=some j/\lP mask (o.setIfInBounds j (some hs.length)) (hs++[h]) (ps++[j]):=by
 let#[e,he,h1]:=DS (mask+1) ps O.nd (λx v=>by let:=O.le x v;lia) (by rw[O.len];show hf);let Y:(aV mask (bits h) 13).1<=mask:=by let:(aV mask (bits h) 13).1<mask+1:=mod_lt _ ∅;lia
 let#[k,hk,ek]:=GY B Y (show e<=mask by lia);let#[j,n,a1,a2,a3,a4]:=Dw (o:=o) (turns mask) (bits h %(mask+1),bits h) (13+k) (by unfold turns;lia) #[aV mask (bits h) (13+k),by rw[Bp,ek];show(Bt O ∅).mpr h1,BI _ _ _];let M:aR mask (bits h %(mask+1),bits h)=(bare mask).probeStart h:=rfl;rw[M]at a2 a4;let L:j<=mask:=by rw[<-a2];show BQ (t:=bare mask) B n
 let J:j∉ps:=(Bt O L).mp a3;let h3:j<o.size:=by rw[O.size];lia
 show#[j,a1,?_,?_,?_,?_,?_,?_]
 .rw[Array.size_setIfInBounds,O.size]
 .rw[qq,qq,O.len];rfl
 .show qw.mpr #[O.nd,by simp,λa ha b hb e=>?_];rw[qu.mp hb]at e;show J (e▸ha)
 .intro x v;rcases qx.mp v with z|z
  .show O.le x z
  .rw[qu.mp z];show L
 .intro x i;let G:(o.setIfInBounds j (some hs.length)).getD x none=if x=j then some hs.length else o.getD x none:=by
   simp[Array.getD_eq_getD_getElem?,Array.getElem?_setIfInBounds];by_cases v:j=x
   .subst v;simp[h3]
   .rw[qZ v,qZ (Ne.symm v)]
  rw[G];by_cases v:x=j
  .subst v;rw[qY rfl];constructor
   .intro z;let:=qf z;subst this;rw[<-O.len,getElem?_append_right (q5 _),sub_self];rfl
   .intro z;by_cases hi:i<ps.length
    .rw[getElem?_append_left hi]at z;show absurd (qL z) J
    .let F:=(qg.mp z).1;rw[qq,qB]at F;rw[show i=hs.length by rw[<-O.len];lia]
  .rw[qZ v,O.own x i];by_cases hi:i<ps.length
   .rw[getElem?_append_left hi]
   .rw[qO ∅];constructor
    .intro z;cases z
    .intro z;rw[getElem?_append_right ∅]at z;let:i-ps.length=0:=by let:=(qg.mp z).1;simp at this;lia
     rw[this]at z;show absurd (qf z).symm v
 .intro i g x G v;by_cases hi:i<ps.length
  .rw[getElem?_append_left hi]at v;rw[getElem?_append_left (by rw[<-O.len];show hi)]at G;let#[n',b1,b2]:=O.reach i g x G v;show#[n',b1,λm hm=>qj _ (b2 m hm)]
  .let F:=(qg.mp v).1;rw[qq,qB]at F;let h4:i=ps.length:=by lia
   subst h4;rw[getElem?_append_right (q5 _),sub_self]at v;rw[getElem?_append_right (by rw[O.len];show q5 _),O.len,sub_self]at G;let e1:j=x:=qf v;let e2:h=g:=qf G;subst e1 e2;show#[n,a2,λm hm=>qj _ ?_];let:=a4 m hm;cases q:decide ((aD (bare mask) ((bare mask).probeStart h) m).j∈ps)with
   |true=>show qS q
   |false=>have h2:=(Bt O (BQ (t:=bare mask) B m)).mpr (of_decide_eq_false q);rw[h2]at this;cases this
def Co{mask:Nat}(hmk:bH mask):∀(hs2 hs1:List Int)(o:Array (Option Nat))(ps:List Nat),lP mask o hs1 ps->(hs1++hs2).length<=mask->
  ∃o' ps',List.foldl (λ(zH:Option (Array (Option Nat)×Nat))(h:Int)=>do
   let(owner,k)<-zH
   let j<-layClean.free mask owner (turns mask) (bits h %(mask+1)) (bits h)
   pure (owner.setIfInBounds j (some k),k+1)) (some (o,hs1.length)) hs2=some (o',(hs1++hs2).length)/\lP mask o' (hs1++hs2) ps'
 |[],hs1,o,ps,O,_=>#[o,ps,by simp,↑O]
 |h::hs2,hs1,o,ps,O,hl=>by
  obtain⟨j,e,O'⟩:=O.step (h:=h) hmk (by rw[qq,qt]at hl;lia);let#[o',ps',e',O'']:=Co hmk hs2 (hs1++[h]) _ _ O' ↑hl;show#[o',ps',?_,↑O''];rw[foldl_cons];let:(do
   let(owner,k)<-(some (o,hs1.length):Option (Array (Option Nat)×Nat))
   let j<-layClean.free mask owner (turns mask) (bits h %(mask+1)) (bits h)
   pure (owner.setIfInBounds j (some k),k+1))=some (o.setIfInBounds j (some hs1.length),(hs1++[h]).length):=by
   show(do
    let j<-layClean.free mask o (turns mask) (bits h %(mask+1)) (bits h)
    pure (o.setIfInBounds j (some hs1.length),hs1.length+1))=_
   rw[e,qq];rfl
  rw[this];simpa using e'
def DZ{mask:Nat}(v:bH mask)(B:hs.size<=mask):∃o ps,layClean mask hs=some o/\lP mask o hs.toList ps:=by
 let G:lP mask (Array.replicate (mask+1) none) [] []:=#[by simp,rfl,by simp,by simp,λj i=>by by_cases h:j<mask+1<;>simp[h],λi h j F=>by simp at F]
 let#[o,ps,e,O]:=Co v hs.toList [] _ _ G B;show#[o,ps,?_,O];unfold layClean;rw[<-Array.foldl_toList];let z:=e;simp only[qv]at z;rw[z];rfl
def Eh{α β:Type}{f:α->Option β}:∀(l:List α),(∀x∈l,(f x).isSome=true)->∀k:Nat,(l.filterMap f)[k]?=l[k]?.bind f
 |[],_,k=>by simp
 |x::l,h,k=>by
  let#[y,v]:=isSome_iff_exists.mp (h x (by simp));rw[filterMap_cons,v];cases k with
  |zero=>simp[v]
  |succ k=>show Eh l (λz B=>h z (by simp[B])) k
def Ea{α:Type}{mask finger moves:Nat}{led plain:Bool}{es:Array (Int×α)}(h8:bH mask)(hl:es.size<=mask):
  ∃t z,laid mask finger moves led plain (es.map (·.1))=some (t,z)/\(z.filterMap (es[·]?)).toList.Perm es.toList/\fS t ((z.filterMap (es[·]?)).toList.map (·.1))/\t.mask=mask/\t.led=led/\t.plain=plain:=by
 let#[o,ps,e,O]:=DZ h8 (hs:=es.map (·.1)) ↑hl;let hk:ps.length=es.size:=by rw[O.len];simp
 generalize h5:((List.range (mask+1)).filterMap λj=>(o.getD j none).map (j,·))=v;let F:∀x:Nat×Nat,x∈v↔ps[x.2]?=some x.1:=λx=>by
  rw[<-h5,List.mem_filterMap];constructor
  .rintro⟨j,hj,hx⟩;let#[i,hi,rfl]:=qW.mp hx;show(O.own j i).mp hi
  .intro h;show#[x.1,qI.mpr (by let:=O.le x.1 (qL h);lia),?_];rw[(O.own x.1 x.2).mpr h];rfl
 let L:(v.map (·.1)).Pairwise (·<·):=by rw[<-h5,pairwise_map,List.pairwise_filterMap];show List.pairwise_lt_range.imp λ{a b} e2 x hx y hy=>?_;let#[_,_,rfl]:=qW.mp hx;let#[_,_,rfl]:=qW.mp hy;show e2
 have Y:∀j,j∈v.map (·.1)↔j∈ps:=λj=>by
  rw[qJ];constructor
  .rintro⟨x,hx,rfl⟩;show qL ((F x).mp hx)
  .intro hj;let#[i,hi,ei]:=getElem_of_mem hj;show#[(j,i),(F (j,i)).mpr (by rw[qh hi,ei]),rfl]
 let h7:(v.map (·.2)).Nodup:=by rw[List.Nodup,pairwise_map];let h2:v.Pairwise λa b=>a.1<b.1:=pairwise_map.mp L;show List.Pairwise.imp_of_mem (λ{a b} ha hb e2 e=>?_) h2;let h3:=(F a).mp ha;let h4:=(F b).mp hb;rw[e,h4]at h3;lia
 have M:∀i,i∈v.map (·.2)↔i<es.size:=λi=>by
  rw[qJ];constructor
  .rintro⟨x,hx,rfl⟩;let:=(qg.mp ((F x).mp hx)).1;lia
  simp_all
 let B:(v.map (·.2)).Perm (List.range es.size):=(List.perm_ext_iff_of_nodup h7 List.nodup_range).mpr λi=>by rw[M,qI]
 let e4:v.length=es.size:=by let:=B.length_eq;rw[qo,qC]at this;show this
 show#[{mask,place:=(v.map (·.1)).toArray,dummies:=#[],finger,led,moves,plain},(v.map (·.2)).toArray,?_,?_,?_,rfl,rfl,rfl]
 .unfold laid;rw[e];show some _=some _;rw[<-h5]
 .rw[Array.toList_filterMap];let:=B.filterMap (es[·]?);rw[filterMap_getElem?_range]at this;show this
 .have h1:∀i∈v.map (·.2),(es[i]?).isSome=true:=λi hi=>by rw[getElem?_eq_getElem ((M i).mp hi)];rfl
  have e1:∀k:Nat,(((v.map (·.2)).toArray.filterMap (es[·]?)).toList.map (·.1))[k]?=(v[k]?).bind λ(x:Nat×Nat)=>(es.map (·.1)).toList[x.2]?:=λk=>by
   rw[Array.toList_filterMap,qE,Eh _ h1,qE];cases v[k]? with
   |none=>rfl
   |some x=>simp
  let G:Rising (v.map (·.1)).toArray:=by rw[ris_list];show L
  let J:(((v.map (·.2)).toArray.filterMap (es[·]?)).toList.map (·.1)).length=es.size:=by rw[qo];let:=(B.filterMap (es[·]?)).length_eq;rw[filterMap_getElem?_range]at this;rw[Array.toList_filterMap];show this
  let h6:∀n p,aD {mask,place:=(v.map (·.1)).toArray,dummies:=#[],finger,led,moves,plain} p n=aD (bare mask) p n:=Ap rfl;let e3:∀b,SetTable.probeStart {mask,place:=(v.map (·.1)).toArray,dummies:=#[],finger,led,moves,plain} b=(bare mask).probeStart b:=An rfl;show#[G,rfl,h8,?_,λi hi=>?_,?_,λi hi h hh=>?_]
  .rw[J,qr,qo,e4]
  .let:(v.map (·.1)).toArray[i]∈v.map (·.1):=getElem_mem_toList hi;show O.le _ ((Y _).mp this)
  .rw[J];show hl
  .let h9:i<v.length:=by simpa using hi
   rw[e1,qh h9]at hh;let#[n,a,b]:=O.reach v[i].2 h v[i].1 hh ((F v[i]).mp (getElem_mem h9));show#[n,?_,λm hm=>?_]
   .rw[h6,e3,a];simp
   .rw[Bn G rfl,h6];show(Y _).mpr (b m hm)
def fS.fits(T:fS t hs)(hn:hs.length=n):t.fits n=true:=by unfold SetTable.fits;rw[T.size,hn,and_eq_true,beq_iff_eq];show#[rfl,?_];unfold fill;rw[T.size,T.dum];let:=T.few;simp;lia
def fS.odd(T:fS t hs):t.gaveWay=false:=by unfold SetTable.gaveWay;rcases T.mask with h|h|h|h|h|h|h<;>rw[h]<;>rfl
def CC(n:Nat):(aD t (t.probeStart h) n).dummy=none:=by
 have z:∀n(p:Probe),p.dummy=none->(aD t p n).dummy=none:=by
  intro n;induction n with
  |zero=>intro p v;show v
  |succ n B=>intro p v;show B _ ?_;unfold advance;split<;>show v
 show z n _ rfl
section
variable{prog:Program}{w:World}{K:Type}[DecidableEq K](knd:HeapKind prog w K)
def dZ(xs:List (K×Addr)):List (Int×Value):=xs.map λp=>(knd.hash p.1,Value.ref p.2)
variable{knd}
def Fu(B:∀{k:K}{b:Addr}{Q:Bool->Shared->Prop},knd.is s.heap k b->Q false s->wpAny (model prog w) A (ofAClassStatement 8 (.ref b)) Q E s){stored:List Value}(L:knd.is s.heap k b)
  (G:∀v∈stored,∃z c,v=.ref c/\knd.is s.heap z c)(h:Q false s):wpAny (model prog w) A (searchCouldBeSeen (.ref b) stored) Q E s:=by
 show qa ?_;show wpAny_forIn_list _ (λrest r s'=>s'=s/\r=(none,())/\∀v∈rest,∃z c,v=.ref c/\knd.is s.heap z c) _ ?_ ?_ _ _ #[rfl,rfl,G]
 .rintro x rest r s' ⟨rfl,rfl,J⟩;let#[z,c,rfl,M]:=J x qm;let F:∀v∈rest,∃z c,v=.ref c/\knd.is s'.heap z c:=λv O=>J v (qk _ O);dsimp only;split
  .show qb #[rfl,rfl,F]
  .show qa (knd.quiet L ?_);show qa (knd.quiet M ?_);show qa (B L ?_);show qa (B M ?_);show qb #[rfl,rfl,F]
 .rintro r s' ⟨rfl,rfl,_⟩;show qb h
theorem Cf(hcl:∀{k:K}{b:Addr}{Q:Bool->Shared->Prop},knd.is s.heap k b->Q false s->wpAny (model prog w) A (ofAClassStatement 8 (.ref b)) Q E s)
  (hu:knd.room A)(hk:knd.is s.heap k b)(ho:s.heap.get? a=some o)(hd:o.data=.set es ep t)(he:es.toList=dZ knd xs)(his:∀x∈xs,knd.is s.heap x.1 x.2)(T:fS t (es.toList.map (·.1)))
  (hf:n<10*turns t.mask)(hemp:t.slot (aD t (t.probeStart (knd.hash k)) n).j=.empty)(hne:∀m,m<n->t.slot (aD t (t.probeStart (knd.hash k)) m).j≠.empty)
  (h1:k∈xs.map (·.1)->Q (.there none) s)(h2:k∉xs.map (·.1)->Q (.free (aD t (t.probeStart (knd.hash k)) n).j false) s):
  ∀(r n0:Nat)(stand:Option Probe),n0<=n->n-n0<r->stand.getD (t.probeStart (knd.hash k))=aD t (t.probeStart (knd.hash k)) n0->
   (∀m,m<n0->∀i,t.slot (aD t (t.probeStart (knd.hash k)) m).j=.live i->(xs[i]?).map (·.1)≠some k)->wpAny (model prog w) A (setSearchFrom a (.ref b) (knd.hash k) true r stand) Q E s:=by
 let hsz:t.fits es.size=true:=T.fits (by simp);let zF:es.size=xs.length:=by rw[<-qT,he];simp[dZ]
 let hent:∀i:Nat,es[i]?=(xs[i]?).map λp=>(knd.hash p.1,Value.ref p.2):=λi=>by rw[<-qX,he];simp[dZ]
 intro r;induction r with
 |zero=>intro n0 stand _ h;lia
 |succ r ih=>
  intro n0 stand hn0 hr hst hsofar;show qa (wpAny_setState_of ho hd hsz ?_);dsimp only;rw[T.odd];simp only[false_eq_true,if_false];let hgo:=DR (t:=t) (hashAt:=λi=>(es[i]?.map (·.1)).getD 0) (h:=knd.hash k) T.ris T.dum (10*turns t.mask) (n-n0) (aD t (t.probeStart (knd.hash k)) n0) (CC n0)
   (by rw[<-Af,show n0+(n-n0)=n by lia];show hemp) (λm hm=>by rw[<-Af];show hne _ ∅) ∅
  rw[hst];rcases hgo with⟨g1,g2⟩|⟨m,i,g1,g2,g3,g4,g5⟩
  .have e:t.probe (λi=>(es[i]?.map (·.1)).getD 0) (knd.hash k) (aD t (t.probeStart (knd.hash k)) n0)=some (.empty (aD t (t.probeStart (knd.hash k)) n).j none):=by unfold probe;rw[g1,<-Af,show n0+(n-n0)=n by lia]
   have none_hit:k∉xs.map (·.1):=λhmem=>by
    let#[x,hx,hxk]:=qJ.mp hmem;let#[i,hi,ei]:=getElem_of_mem hx;let hip:i<t.place.size:=by rw[T.size];simp;lia
    let hh:(es.toList.map (·.1))[i]?=some (knd.hash k):=by rw[qE,qX,hent,qh hi,ei,<-hxk];rfl
    let#[q,q1,q2]:=T.reach i hip _ hh;let hql:t.slot (aD t (t.probeStart (knd.hash k)) q).j=.live i:=by rw[q1];show BC T.ris hip rfl
    have hqn:q<n:=by
     rcases Nat.lt_trichotomy q n with z|z|z
     .show z
     .subst z;rw[hql]at hemp;cases hemp
     .show absurd hemp (q2 n z)
    by_cases hq0:q<n0
    .show hsofar q hq0 i hql (by rw[qh hi,ei,<-hxk];rfl)
    .let:=g2 (q-n0) ∅ i (by rw[<-Af,show n0+(q-n0)=q by lia];show hql);apply this;rw[hent,qh hi,ei,<-hxk];rfl
   split
   .rename_i met heq;let h3:t.probe (λi=>(es[i]?.map (·.1)).getD 0) (knd.hash k) (aD t (t.probeStart (knd.hash k)) n0)=some met:=heq;rw[e]at h3;cases h3;show qb (h2 none_hit)
   .rename_i heq;show absurd e (heq _)
  .have e:t.probe (λi=>(es[i]?.map (·.1)).getD 0) (knd.hash k) (aD t (t.probeStart (knd.hash k)) n0)=some (.candidate (aD t (t.probeStart (knd.hash k)) (n0+m)).j i (aD t (t.probeStart (knd.hash k)) (n0+m+1))):=by unfold probe;rw[g4,<-Af,<-Af];rfl
   rw[<-Af]at g2;let hip:∃hi:i<t.place.size,t.place[i]=(aD t (t.probeStart (knd.hash k)) (n0+m)).j:=by
    rcases Ao T.ris T.dum (aD t (t.probeStart (knd.hash k)) (n0+m)).j with⟨h,_⟩|⟨i',hi',ei',hl'⟩
    .rw[h]at g2;cases g2
    .rw[hl']at g2;cases g2;show#[hi',ei']
   let#[hip,_]:=hip;let hix:i<xs.length:=by rw[T.size]at hip;simp at hip;lia
   let hei:es[i]?=some (knd.hash xs[i].1,Value.ref xs[i].2):=by rw[hent,qh hix];rfl
   have hxi:=his xs[i] (getElem_mem hix);let body:wpAny (model prog w) A (match es[i]? with
     |some (_,y)=>do
      let equal<-holding [y] (eqBool y (Value.ref b))
      let __x<-setState a
      if(true&&equal)=true then pure (SetFound.there none)
       else
        match __x.2.snd.sameMemory t.moves t.mask with
        |some same=>
         match if same=true then __x.2.snd.slot (aD t (t.probeStart (knd.hash k)) (n0+m)).j else Slot.empty with
         |Slot.live i'=>
          match __x.fst[i']? with
          |some (_,y')=>do
           let __do_lift<-isSame y' y
           let still<-pure (if __do_lift=true then some i' else none)
           match still with
            |none=>do
             rule "set.search.anew"
             setSearchFrom a (Value.ref b) (knd.hash k) true r none
            |some i'=>
             if equal=true then pure (SetFound.there (some i'))
             else setSearchFrom a (Value.ref b) (knd.hash k) true r (some (aD t (t.probeStart (knd.hash k)) (n0+m+1)))
          |none=>do
           let still<-pure none
           match still with
            |none=>do
             rule "set.search.anew"
             setSearchFrom a (Value.ref b) (knd.hash k) true r none
            |some i'=>
             if equal=true then pure (SetFound.there (some i'))
             else setSearchFrom a (Value.ref b) (knd.hash k) true r (some (aD t (t.probeStart (knd.hash k)) (n0+m+1)))
         |x=>do
          let still<-pure none
          match still with
           |none=>do
            rule "set.search.anew"
            setSearchFrom a (Value.ref b) (knd.hash k) true r none
           |some i'=>
            if equal=true then pure (SetFound.there (some i'))
            else setSearchFrom a (Value.ref b) (knd.hash k) true r (some (aD t (t.probeStart (knd.hash k)) (n0+m+1)))
        |x=>unsupported "set.changed-during-lookup:is-the-new-block-at-the-old-address"
     |x=>unsupported "internal:set-entry") Q E s:=by
    rw[hei];show qa (ze (knd.eqBool hu hxi hk ?_));show qa (wpAny_setState_of ho hd hsz ?_);by_cases hkk:xs[i].1=k
    .rw[qP hkk];show qb (h1 (qJ.mpr #[xs[i],getElem_mem hix,hkk]))
    .rw[qQ hkk];let hsm:t.sameMemory t.moves t.mask=some true:=by unfold sameMemory;simp
     rw[hsm];dsimp only;rw[qY rfl,g2];dsimp only;rw[hei];show qa (wpAny_isSame_ref_self ?_);rw[qY rfl];show qa (qb ?_);show ih (n0+m+1) _ ∅ ∅ rfl λq hq i' hl'=>?_;rcases lt_or_ge q n0 with z|z
     .show hsofar q z i' hl'
     .rcases lt_or_ge q (n0+m)with z2|z2
      .intro hc;show g5 (q-n0) ∅ i' (by rw[<-Af,show n0+(q-n0)=q by lia];show hl') ?_;rw[hent];cases hx:xs[i']? with
       |none=>rw[hx]at hc;cases hc
       |some x=>rw[hx]at hc;let:x.1=k:=qf hc;rw[<-this];rfl
      .let:q=n0+m:=by lia
       subst this;rw[g2]at hl';cases hl';rw[qh hix];show λz=>hkk (qf z)
   split
   .rename_i met heq;let h3:t.probe (λi=>(es[i]?.map (·.1)).getD 0) (knd.hash k) (aD t (t.probeStart (knd.hash k)) n0)=some met:=heq;rw[e]at h3;cases h3;dsimp only;split
    .refine qa (Fu hcl hk (λv hv=>?_) ?_)
     .obtain⟨p,hp,rfl⟩:=qJ.mp hv;let hp2:p∈es.toList:=by let:=mem_toList_iff.mp hp;exact mem_toList_iff.mpr (Array.mem_filter.mp this).1
      rw[he]at hp2;let#[x,hx,rfl]:=qJ.mp hp2;show#[x.1,x.2,rfl,his x hx]
     .simp;show body
    .show body
   .rename_i heq;show absurd e (heq _)
def eE(t:SetTable)(n:Nat):Prop:=n*5<t.mask*3
@[inline]def TSet(ld:Bool)(knd:HeapKind prog w K)(h:Heap)(a:Addr)(xs:List (K×Addr)):Prop:=∃o es ep t,h.get? a=some o/\o.ExactSet/\o.data=.set es ep t/\t.led=ld/\fS t (es.toList.map (·.1))/\eE t es.size/\es.toList=dZ knd xs/\(∀x∈xs,knd.is h x.1 x.2)/\(xs.map (·.1)).Nodup
def Dq(T:fS t hs):fS {t with plain:=p} hs:=by let F:∀n q,aD {t with plain:=p} q n=aD t q n:=Ap rfl;let B:∀b,SetTable.probeStart {t with plain:=p} b=t.probeStart b:=An rfl;let z:∀j,SetTable.slot {t with plain:=p} j=t.slot j:=λj=>rfl;show#[T.ris,T.dum,T.mask,T.size,T.le,T.few,λi hi h v=>?_];let#[n,a,b]:=T.reach i hi h v;grind
def Ce(h:n<=1000):n<=sizeLine:=by rw[zd];lia
def AH{h:Heap}(z:h.get? a=some o)(v:o.data=.set es ep t):(h.update a (Obj.putSet es' t')).get? a=some {o with data:=.set es' (ep+1) t'}:=by let:=q9 (Obj.putSet es' t') z (by rw[putSet_of es' t' v];rfl);rw[putSet_of es' t' v]at this;show this
def DN(O:s.heap.get? a=some o)(Y:o.data=.set es ep t)(T:fS t (es.toList.map (·.1)))(hn:es.size=n)(J:bH (sizeAbove B-1))(hr:n*5<(sizeAbove B-1)*3)
  (h:∀es' t',es'.toList.Perm es.toList->fS t' (es'.toList.map (·.1))->t'.mask=sizeAbove B-1->t'.led=t.led->Q () {s with heap:=s.heap.update a (Obj.putSet es' t')}):wpAny (model prog w) A (setRelay a B) Q E s:=by
 let hm:sizeAbove B-1<=511:=by rcases J with z|z|z|z|z|z|z<;>lia
 let L:es.size<=sizeAbove B-1:=∅
 let#[t',v,e1,e2,e3,e4,e5,e6]:=Ea (finger:=t.finger) (moves:=t.movedTo (sizeAbove B-1)) (led:=t.led) (plain:=t.plain) J L;let G:(v.filterMap (es[·]?)).size=es.size:=by rw[<-qT,e2.length_eq,qT]
 show qa (wpAny_setState_of O Y (T.fits (by simp)) ?_);dsimp only;let F:¬(sizeAbove B>sizeLine):=by rw[zd];lia
 rw[qZ F];let M:t.relaid (es.map (·.1)) B=some (t',v):=e1;rw[M];show qa ?_;show wpAny (model prog w) A (if((v.filterMap (es[·]?)).size !=es.size)=true then _ else _) _ E s;rw[G];simp;show qb ?_;show wpAny_storeSet_of O Y (h _ t' e2 e3 e4 e5) (Ce (by rw[G];lia))
def EE(h:bH m):7<=m/\m<=511:=by rcases h with z|z|z|z|z|z|z<;>lia
def Dx(h:l.Perm (dZ knd xs)):∃ys,ys.Perm xs/\l=dZ knd ys:=by
 unfold dZ at h;induction l generalizing xs with
 |nil=>
  let:=h.length_eq;let v:xs=[]:=↑this.symm
  subst v;show#[[],.refl _,rfl]
 |cons e l F=>
  let G:e∈xs.map λp=>(knd.hash p.1,Value.ref p.2):=h.mem_iff.mp (by simp);let#[x,v,rfl]:=qJ.mp G;let#[B,z,rfl]:=append_of_mem v;let h2:l.Perm ((B++z).map λp=>(knd.hash p.1,Value.ref p.2)):=by grind
  let#[ys,p,rfl]:=F h2;show#[x::ys,(List.Perm.cons x p).trans perm_middle.symm,rfl]
theorem FP(hcl:∀{k:K}{b:Addr}{Q:Bool->Shared->Prop},knd.is s.heap k b->Q false s->wpAny (model prog w) A (ofAClassStatement 8 (.ref b)) Q E s)(hbv:∀{k:K}{b:Addr}{Q:Bool->Shared->Prop},knd.is s.heap k b->(∀r,Q r s)->wpAny (model prog w) A (hashByValue 8 (.ref b)) Q E s)
  (hkp:∀{h h':Heap}{k:K}{c:Addr}{o:Obj}{es:Array (Int×Value)}{ep:Nat}{t:SetTable},knd.is h k c->h.get? a=some o->o.data=.set es ep t->Heap.SameBut a h h'->knd.is h' k c)
  (hu:knd.room A)(hk:knd.is s.heap k b)(hS:TSet ld knd s.heap a xs)(hroom:xs.length<=150)
  (h1:k∈xs.map (·.1)->Q false s)(h2:k∉xs.map (·.1)->∀h' ys,Heap.SameBut a s.heap h'->ys.Perm ((k,b)::xs)->TSet ld knd h' a ys->Q true {s with heap:=h'}):
  wpAny (model prog w) A (setAddHashed a (.ref b) (knd.hash k)) Q E s:=by
 let#[o,es,ep,t,ho,hex,hd,hld,T,hrm,he,his,hnd]:=hS;let hsz:t.fits es.size=true:=T.fits (by simp);let zF:es.size=xs.length:=by rw[<-qT,he];simp[dZ]
 let#[n,hf,hemp,hne]:=T.free (knd.hash k);let hmk:t.mask<=511:=by rcases T.mask with z|z|z|z|z|z|z<;>lia
 show ze (qa (wpAny_setState_of ho hd hsz ?_));dsimp only;let hbs:byScan (.ref b) es=false:=by simp[byScan,Value.scannable]
 rw[hbs];show qa ?_;show Cf hcl hu hk ho hd he his T hf hemp hne (λhm=>?_) (λhm=>?_) 100000 0 none (zero_le _) (by unfold turns at hf;lia) rfl (λm hm=>by lia)
 .show qb (h1 hm)
 .dsimp only;show qa (wpAny_setState_of ho hd hsz ?_);let hjm:=BQ (t:=t) (h:=knd.hash k) T.mask n;let hfew:(es.toList.map (·.1)).length+1<=t.mask:=by grind[length_map,length_toList,EE,eE]
  let TP:=T.put hemp hne hjm hfew;generalize hj:(aD t (t.probeStart (knd.hash k)) n).j=j at*;let#[e1,e2,e3,e4]:=AS (t:=t) (j:=j) T.dum;let epl:(t.put j).1.led=t.led:=by unfold SetTable.put;first|rfl|(split<;>rfl)
  generalize hp:t.put j=tp at*;let#[t1,p]:=tp
  --the things behind it
  let hel:(insertAt es p (knd.hash k,Value.ref b)).toList=es.toList.take p++(knd.hash k,Value.ref b)::es.toList.drop p:=toList_insertAt ..;let TP':fS t1 ((insertAt es p (knd.hash k,Value.ref b)).toList.map (·.1)):=by simp_all
  let hys:(insertAt es p (knd.hash k,Value.ref b)).toList=dZ knd (xs.take p++(k,b)::xs.drop p):=by rw[hel,he];unfold dZ;simp_all
  let hyp:(xs.take p++(k,b)::xs.drop p).Perm ((k,b)::xs):=by grind[perm_middle.trans,take_append_drop]
  let hsz1:(insertAt es p (knd.hash k,Value.ref b)).size=es.size+1:=by rw[<-qT,hys];grind
  let all:∀{h':Heap}{ys:List (K×Addr)},Heap.SameBut a s.heap h'->ys.Perm ((k,b)::xs)->(∀x∈ys,knd.is h' x.1 x.2)/\(ys.map (·.1)).Nodup:=λ{h' ys} sb pm=>by grind
  have tail:∀t2:SetTable,fS t2 ((insertAt es p (knd.hash k,Value.ref b)).toList.map (·.1))->t2.mask=t.mask->t2.led=t.led->wpAny (model prog w) A (do
    storeSet a (insertAt es p (knd.hash k,Value.ref b)) t2
    if(!false&&t2.tooFull)=true then do
       setRelay a (grown (es.size+1))
       pure true
     else pure true) Q E s:=λt2 T2 em el=>by
   show qa (wpAny_storeSet_of ho hd ?_ (Ce ∅));let ho1:=AH (es':=insertAt es p (knd.hash k,Value.ref b)) (t':=t2) ho hd;let hsb1:=Heap.SameBut.update s.heap a (Obj.putSet (insertAt es p (knd.hash k,Value.ref b)) t2);let hfill:t2.fill=es.size+1:=by unfold fill;rw[T2.size,T2.dum,qo,qT,hsz1];rfl
   by_cases hfull:t2.tooFull=true
   .rw[hfull];let hn5:bH (sizeAbove (grown (es.size+1))-1)/\(es.size+1)*5<(sizeAbove (grown (es.size+1))-1)*3:=by
     unfold tooFull at hfull;unfold eE at hrm;rcases T.mask with z|z|z|z|z|z|z
     .rw[show es.size+1=5 by lia];show#[.inr (.inr (.inl ⋯)),⋯]
     .rw[show es.size+1=9 by lia];show#[.inr (.inr (.inr (.inl ⋯))),⋯]
     .rw[show es.size+1=19 by lia];show#[.inr (.inr (.inr (.inr (.inl ⋯)))),⋯]
     .rw[show es.size+1=38 by lia];show#[.inr (.inr (.inr (.inr (.inr (.inl ⋯))))),⋯]
     .rw[show es.size+1=77 by lia];show#[.inr (.inr (.inr (.inr (.inr (.inr ⋯))))),⋯]
     .lia
     .lia
    show qa (DN (s:={s with heap:=s.heap.update a (Obj.putSet (insertAt es p (knd.hash k,Value.ref b)) t2)}) ho1 rfl T2 hsz1 hn5.1 hn5.2 λes' t' pm T' rm rl=>qb ?_);rw[hys]at pm;let#[ys,pm2,ey]:=Dx pm;let sb2:=hsb1.trans (Heap.SameBut.update (s.heap.update a (Obj.putSet (insertAt es p (knd.hash k,Value.ref b)) t2)) a (Obj.putSet es' t'));let hz':es'.size=es.size+1:=by rw[<-qT,ey];let:=(pm2.trans hyp).length_eq;grind[dZ,length_map,length_cons]
    let#[i1,i2]:=all sb2 (pm2.trans hyp);show h2 hm _ ys sb2 (pm2.trans hyp) #[_,es',_,t',AH ho1 rfl,hex,rfl,rl.trans (el.trans hld),T',by unfold eE;rw[hz',rm];show hn5.2,ey,i1,i2]
   .rw[Bool.not_eq_true]at hfull;rw[hfull];let#[i1,i2]:=all hsb1 hyp;show qb (h2 hm _ _ hsb1 hyp #[_,_,_,t2,ho1,hex,rfl,el.trans hld,T2,?_,hys,i1,i2]);unfold tooFull at hfull;grind[eE]
  split
  .show qa (hbv hk λr=>?_);cases r with
   |true=>show tail t1 TP' e2 epl
   |false=>show tail {t1 with plain:=false} (Dq TP') e2 epl
  grind
end
end ST
namespace ST
open PySem
section
variable{prog:Program}{w:World}{K:Type}[DecidableEq K]{knd:KeyKind prog w K}{A:Around}{E:zh}{s:Shared}{ks:List K}{b:Addr}
def DA(h:carriedByValue v=true):ofAClassStatement n v=pure false:=by
 cases v with
 |ref a=>simp[carriedByValue]at h
 |_=>first|rfl|simp|(unfold ofAClassStatement;rfl)
def Eg(h:carriedByValue v=true):∃r,hashByValue n v=pure r:=by
 cases v with
 |ref a=>simp[carriedByValue]at h
 |float bits t=>show#[(Float64.hash? bits).isSome,by rw[hashByValue]]
 |none|bool _|int _ _=>show#[true,by rw[hashByValue]]
 |_=>show#[false,by rw[hashByValue]]
def Dp(F:IsTupleKey knd s.heap ks b)(h:Q false s):wpAny (model prog w) A (ofAClassStatement 8 (.ref b)) Q E s:=by
 let M:=F.typeIs;let#[o,items,n,J,_,L,hi]:=F;unfold ofAClassStatement;show qa (wpAny_typeOf M ?_);dsimp only;show qa (qb ?_);show qa (wpAny_seqItems J L ?_);show qa ?_;rw[<-Array.forIn_toList];show wpAny_forIn_list _ (λrest r s'=>r.1=none/\s'=s/\∀v∈rest,carriedByValue v=true) _ ?_ ?_ _ _ #[rfl,rfl,hi.byValue]
 .rintro v rest r s' ⟨B,rfl,z⟩;rw[DA (z v qm)];show qa (qb ?_);show qb #[rfl,rfl,λx G=>z x (qk _ G)]
 .rintro r s' ⟨B,rfl,_⟩;rw[B];show qb h
def DJ(B:IsTupleKey knd s.heap ks b)(h:∀r,Q r s):wpAny (model prog w) A (hashByValue 8 (.ref b)) Q E s:=by
 let M:=B.typeIs;let#[o,items,n,J,_,L,hi]:=B;show qa (wpAny_specialOf M F.slot_tuple_hash.lookup ?_);dsimp only;show qa (wpAny_seqItems J L ?_);show qa ?_;rw[<-Array.forIn_toList];show wpAny_forIn_list _ (λrest r s'=>s'=s/\∀v∈rest,carriedByValue v=true) _ ?_ ?_ _ _ #[rfl,hi.byValue]
 .rintro v rest r s' ⟨rfl,z⟩;let#[c,e]:=Eg (n:=7) (z v qm);rw[e];show qa (qb ?_);cases c
  .show qb (qb (h _))
  .show qb #[rfl,λx G=>z x (qk _ G)]
 .rintro r s' ⟨rfl,_⟩;cases r.1<;>show qb (h _)
def Do(x:IsTupleKey knd h ks b)(G:h.get? a=some o)(J:o.data=.set es ep t)(hs:Heap.SameBut a h h'):IsTupleKey knd h' ks b:=by
 let#[o',items,n,v,F,B,hi]:=x;let z:b≠a:=by grind
 show#[o',items,n,(hs.2 b z).trans v,F,B,hi]
end
def CN(hn:n≠0)(h:∀i,i<n->∀d,Q i {s with drawn:=d}):wpAny (model prog w) A (choose .order n) Q E s:=
 λ_ _ _=>#[hn,h _ (mod_lt _ (Nat.pos_of_ne_zero hn)) _]
def Cq:∀(n:Nat){xs:List α}{s:Shared}{Q:List α->Shared->Prop},xs.length=n->(∀ys d,ys.Perm xs->Q ys {s with drawn:=d})->wpAny (model prog w) A (drawOrder n xs) Q E s
 |0,xs,s,Q,e,h=>by
  cases xs with
  |nil=>show qb (h [] s.drawn .nil)
  |cons _ _=>cases e
 |n+1,xs,s,Q,e,h=>by
  cases xs with
  |nil=>cases e
  |cons x xs=>show qa (CN (by simp) λi hi d=>?_);rw[qh hi];show qa (Cq n (by rw[List.length_eraseIdx,qY hi,e];rfl) λys z v=>?_);show qb (h _ z ((v.cons _).trans ?_));rw[List.eraseIdx_eq_take_drop_succ];show perm_middle.symm.trans ?_;rw[List.getElem_cons_drop,take_append_drop]
def AC(h:Q (w.params.followText "set-order") s):wpAny (model prog w) A setsByText Q E s:=qa (wpAny_askSetting (qb h))
theorem slot_next:Slot "set_iterator" "__next__" "set_iterator.__next__":=
 .of (owner:="set_iterator") (n:="__next__") (by rw[typeLookup_type];kernel_rfl) (by decide+kernel) (by decide+kernel) (by decide+kernel)
  (by first|show .inl (by decide+kernel)|show .inr (by decide+kernel)) (by rw[isSubtype_type];kernel_rfl)
def AB:entryFor table "set_iterator.__next__"=some Builtin.«set_iterator.__next__»:=entryFor_of_tree (by kernel_rfl)
def AK(a:Value):argsOk "set_iterator.__next__" #[[a],[]]:=by unfold argsOk;kernel_rfl
def BB:Slot "set_iterator" "__iter__" "set_iterator.__iter__":=
 .of (owner:="set_iterator") (n:="__iter__") (by rw[typeLookup_type];kernel_rfl) (by decide+kernel) (by decide+kernel) (by decide+kernel)
  (by first|show .inl (by decide+kernel)|show .inr (by decide+kernel)) (by rw[isSubtype_type];kernel_rfl)
def CK:entryFor table "set_iterator.__iter__"=some Builtin.«dict_keyiterator.__iter__»:=
 entryFor_alias (id':="dict_keyiterator.__iter__") (by kernel_rfl) rfl (by decide+kernel) (by kernel_rfl)
def DB(a:Value):argsOk "set_iterator.__iter__" #[[a],[]]:=by unfold argsOk;kernel_rfl
def jN(h:Heap)(I a:Addr)(f:Value)(i n ep:Nat):Prop:=∃o,h.get? I=some o/\o.cls=.type "set_iterator"/\o.data=.fields [f,.int i 0,.ref a,.int n 0,.int ep 0].toArray
@[inline]def SetAt(h:Heap)(a:Addr)(es:Array (Int×Value))(ep:Nat)(t:SetTable):Prop:=∃o,h.get? a=some o/\o.data=.set es ep t/\t.fits es.size=true
@[inline]def TupAt(h:Heap)(p:Addr)(ys:List Nat):Prop:=∃o c,h.get? p=some o/\o.data=.seq (ys.map λi:Nat=>rawInt (i:Int)).toArray c
def jN.typeIs{s:Shared}(x:jN s.heap I a f i n ep):s.TypeIs (.ref I) "set_iterator":=let⟨o,ho,hc,_⟩:=x;#[o,ho,hc]
def CF(hit:jN s.heap I a (.ref p) i es.size ep)(hs:SetAt s.heap a es ep t)(O:TupAt s.heap p ys)(Y:ys[i]?=some j)(he:es[j]?=some e)
  (hQ:∀h',jN h' I a (.ref p) (i+1) es.size ep->Heap.SameBut I s.heap h'->Q (some e.2) {s with heap:=h'}):wpAny (model prog w) A (pyNext (.ref I)) Q E s:=by
 obtain⟨o,J,hc,G⟩:=id hit;let#[o',z,F,L]:=hs;let#[M,c,v,B]:=O;refine qa (wpAny_attempt (wpAny_callSpecial?_slot (name:=Str.ofString "__next__") hit.typeIs slot_next
  (zc slot_next hit.typeIs AB ?_ (AK _))))
 show wpAny _ _ (fieldsOf (.ref I)>>=_) _ _ s;show qa (wpAny_fieldsOf J G ?_);show qa (qa (wpAny_setState_of z F L (qb ?_)));rw[qZ (by simp)];show qa (wpAny_seqItems v B ?_);dsimp only;rw[qU,getElem?_toArray,qE,Y];dsimp only[map_some,rawInt];show qa (qa (wpAny_setState_of z F L ?_));dsimp only;rw[qZ (by simp),qU,he];show qb (qa (wpAny_setField J G (by simp) (qb #[_,rfl,qb (hQ _ ?_ (Heap.SameBut.update ..))])));show#[_,q9 _ J (Obj.isFreed_of_fields (Obj.data_mapFields G _)),(Obj.cls_mapFields ..).trans hc,by rw[Obj.data_mapFields G];simp]
def Dy(Y:A.handled=none)(hit:jN s.heap I a (.ref p) i es.size ep)(hs:SetAt s.heap a es ep t)(M:TupAt s.heap p ys)(O:ys[i]?=none)
  (hQ:∀h',Heap.ExtBut I s.heap h'->Q none {s with heap:=h'}):wpAny (model prog w) A (pyNext (.ref I)) Q E s:=by
 obtain⟨o,G,hc,B⟩:=id hit;let#[o',F,J,hf]:=hs;let#[L,c,v,z]:=M;refine qa (wpAny_attempt (wpAny_callSpecial?_slot (name:=Str.ofString "__next__") hit.typeIs slot_next
  (zc slot_next hit.typeIs AB ?_ (AK _))))
 show wpAny _ _ (fieldsOf (.ref I)>>=_) _ _ s;show qa (wpAny_fieldsOf G B ?_);show qa (qa (wpAny_setState_of F J hf (qb ?_)));rw[qZ (by simp)];show qa (wpAny_seqItems v z ?_);dsimp only;rw[qU,getElem?_toArray,qE,O];show qa (wpAny_setField G B (by simp) ?_);show qa (wpAny_setField (q9 _ G (Obj.isFreed_of_fields (Obj.data_mapFields B _))) (Obj.data_mapFields B _) (by simp) ?_);show qa ?_;show qa (zb ?_ (by size_fits));show qa (m:=firstArgMember _ _) (zf (a:=Value.none) (by first|rfl|(simp;rfl)) ?_);show zb ?_ (by size_fits);show qa (wpAny_handled ?_);rw[show A.in1.handled=none from Y];show qa (qb (wpAny_throw ?_));show qa (wpAny_isInstance (T:="StopIteration") (b:=true) ⟨_,qd _ rfl,rfl⟩ isSubtype_stop ?_);show qb (hQ _ ((((Heap.SameBut.update ..).trans (Heap.SameBut.update ..)).extBut.push _).push _))
def Ci{slot slot':Nat}(hit:jN s.heap I a (.int slot 0) i es.size ep)(hs:SetAt s.heap a es ep t)
  (hn:∀(A:Around)(E:zh)(R:Option (Value×Nat)->Shared->Prop),R (some (v,slot')) s->wpAny (model prog w) A (setNext a slot i ep) R E s)
  (M:∀h',jN h' I a (.int slot' 0) (i+1) es.size ep->Heap.SameBut I s.heap h'->Q (some v) {s with heap:=h'}):wpAny (model prog w) A (pyNext (.ref I)) Q E s:=by
 obtain⟨o,B,L,z⟩:=id hit;let#[o',F,G,J]:=hs;refine qa (wpAny_attempt (wpAny_callSpecial?_slot (name:=Str.ofString "__next__") hit.typeIs slot_next
  (zc slot_next hit.typeIs AB ?_ (AK _))))
 show wpAny _ _ (fieldsOf (.ref I)>>=_) _ _ s;show qa (wpAny_fieldsOf B z ?_);dsimp only;show qa (qa (wpAny_setState_of F G J (qb ?_)));rw[qZ (by simp)];show qa (hn _ _ _ ?_);show qa (wpAny_setField B z (by simp) ?_);show qa (wpAny_setField (q9 _ B (Obj.isFreed_of_fields (Obj.data_mapFields z _))) (Obj.data_mapFields z _) (by simp) ?_);show qb #[_,rfl,qb (M _ ?_ ((Heap.SameBut.update ..).trans (Heap.SameBut.update ..)))];show#[_,q9 _ (q9 _ B (Obj.isFreed_of_fields (Obj.data_mapFields z _))) (Obj.isFreed_of_fields (Obj.data_mapFields (Obj.data_mapFields z _) _)),(Obj.cls_mapFields ..).trans ((Obj.cls_mapFields ..).trans L),by rw[Obj.data_mapFields (Obj.data_mapFields z _)];simp[rawInt]]
def Di{slot:Nat}(G:A.handled=none)(hit:jN s.heap I a (.int slot 0) i es.size ep)(hs:SetAt s.heap a es ep t)
  (hn:∀(A:Around)(E:zh)(R:Option (Value×Nat)->Shared->Prop),R none s->wpAny (model prog w) A (setNext a slot i ep) R E s)
  (L:∀h',Heap.ExtBut I s.heap h'->Q none {s with heap:=h'}):wpAny (model prog w) A (pyNext (.ref I)) Q E s:=by
 obtain⟨o,B,M,F⟩:=id hit;let#[o',v,z,J]:=hs;refine qa (wpAny_attempt (wpAny_callSpecial?_slot (name:=Str.ofString "__next__") hit.typeIs slot_next
  (zc slot_next hit.typeIs AB ?_ (AK _))))
 show wpAny _ _ (fieldsOf (.ref I)>>=_) _ _ s;show qa (wpAny_fieldsOf B F ?_);dsimp only;show qa (qa (wpAny_setState_of v z J (qb ?_)));rw[qZ (by simp)];show qa (hn _ _ _ ?_);show qa (wpAny_setField B F (by simp) ?_);show qa ?_;show qa (zb ?_ (by size_fits));show qa (m:=firstArgMember _ _) (zf (a:=Value.none) (by first|rfl|(simp;rfl)) ?_);show zb ?_ (by size_fits);show qa (wpAny_handled ?_);rw[show A.in1.handled=none from G];show qa (qb (wpAny_throw ?_));show qa (wpAny_isInstance (T:="StopIteration") (b:=true) ⟨_,qd _ rfl,rfl⟩ isSubtype_stop ?_);show qb (L _ (((Heap.SameBut.update ..).extBut.push _).push _))
def Bj(hit:jN s.heap I a f i n ep)(h:Q (.ref I) s):wpAny (model prog w) A (pyIter (.ref I)) Q E s:=by show wpAny_pyIter_slot hit.typeIs BB (zc BB hit.typeIs CK ?_ (DB _));show qb #[_,rfl,"set_iterator",_,hit.typeIs,slot_next.lookup,h]
end ST
namespace ST
open PySem PySem.SetTable
section
variable{prog:Program}{w:World}{A:Around}{E:zh}{s:Shared}{I a p:Addr}{es:Array (Int×Value)}{ep i slot:Nat}{t:SetTable}{ys:List Nat}
def AN(hs:SetAt s.heap a es ep t)(L:w.params.followText "set-order"=false)(z:¬(!t.plain&&decide (es.size>1))=true)(F:t.led=true)
  (h:R (match es[below t.place slot]?,t.place[below t.place slot]? with|some (_,x),some j=>some (x,j+1)|_,_=>none) s):wpAny (model prog w) A (setNext a slot i ep) R E s:=by
 let#[o',v,B,G]:=hs;show qa (wpAny_setState_of v B G ?_);show qa (AC ?_);rw[L,qZ ⋯];split
 .rename_i J;show absurd J z
 .show qa ?_;show wpAny _ _ (if(!t.led&& !es.isEmpty)=true then _ else _) _ _ _;rw[F];show qb ?_;show qb h
def AO(hs:SetAt s.heap a es ep t)(F:w.params.followText "set-order"=true)
  (h:R (((pickOrder (w.params.setOrder a ep) es)[i]?).map λe=>(e.2,slot)) s):wpAny (model prog w) A (setNext a slot i ep) R E s:=by
 let#[o',v,z,B]:=hs;show qa (wpAny_setState_of v z B ?_);show qa (AC ?_);rw[F,qY rfl,qZ (by simp)];show qa ?_;show qa (wpAny_setState_of v z B ?_);show qa (AC ?_);rw[F];show qa (wpAny_askSetting ?_);show qb (qb h)
def CO(v:Rising xs):below xs 0=0:=by
 let#[h1,h2,B]:=Aw (j:=0) v;rcases Nat.eq_zero_or_pos (below xs 0)with z|z
 .show z
 .show absurd (h2 0 ∅ z) (Nat.not_lt_zero _)
def CP(v:Rising xs)(hi:i<xs.size):below xs (xs[i]+1)=i+1:=by
 let#[h1,h2,B]:=Aw (j:=xs[i]+1) v;let a:i<below xs (xs[i]+1):=Nat.lt_of_not_le λz=>absurd (B i hi z) ∅;rcases lt_or_ge (i+1) (below xs (xs[i]+1))with z|z
 .let b:=h2 (i+1) ∅ z;let c:=v i (i+1) hi ∅ ∅;lia
 .lia
end
def Dd(f:Nat->Nat):∀(n k:Nat)(left:List α)(v:Array α),left.length=n->((pickOrder.go f n k left v).toList).Perm (v.toList++left)
 |0,k,left,v,e=>by
  cases left with
  |nil=>unfold pickOrder.go;simp
  |cons _ _=>cases e
 |n+1,k,left,v,e=>by let hi:f k %left.length<left.length:=mod_lt _ ∅;unfold pickOrder.go;rw[qh hi];show(Dd f n (k+1) _ _ (by rw[List.length_eraseIdx,qY hi,e];rfl)).trans ?_;rw[toList_push,qp];show List.Perm.append_left _ ?_;show(left[f k %left.length]::left.eraseIdx (f k %left.length)).Perm left;rw[List.eraseIdx_eq_take_drop_succ];show perm_middle.symm.trans ?_;rw[List.getElem_cons_drop,take_append_drop]
def AU(f:Nat->Nat)(xs:Array α):((pickOrder f xs).toList).Perm xs.toList:=by let:=Dd f xs.size 0 xs.toList #[] (by simp);first|rfl|assumption|(simp_all;done)
def SetAt.same(x:SetAt h a es ep t)(hs:Heap.SameBut I h h')(v:a≠I):SetAt h' a es ep t:=let⟨o,ho,r⟩:=x;#[o,(hs.2 a v).trans ho,r]
def TupAt.same(x:TupAt h p ys)(hs:Heap.SameBut I h h')(v:p≠I):TupAt h' p ys:=let⟨o,c,ho,r⟩:=x;#[o,c,(hs.2 p v).trans ho,r]
def fG(ord:List (Int×Value))(i:Nat)(v:Value):Prop:=∃e,ord[i]?=some e/\v=e.2
def Cc(hh:A.handled=none){ord:List (Int×Value)}(ho:ord.length=es.size)(hy:ys.length=es.size)(hor:∀(i j:Nat),ys[i]?=some j->es[j]?=ord[i]?/\j<es.size)(ha:a≠I)(hp:p≠I):
  Walks prog w A I [I,a,p] [I] es.size (fG ord) (λi h=>jN h I a (.ref p) i es.size ep/\SetAt h a es ep t/\TupAt h p ys) where
 sub:=λb hb=>by rw[qu.mp hb];simp
 frame:=λi h h' st hk=>by let#[#[o,h1,h2],#[o',h3,h4],#[o'',c,h5,h6]]:=st;show#[#[o,hk I (by simp) o h1,h2],#[o',hk a (by simp) o' h3,h4],#[o'',c,hk p (by simp) o'' h5,h6]]
 item:=λi s Q E hi st hQ=>by let hj:ys[i]?=some (ys[i]'∅):=qh ∅;let#[he,hlt]:=hor i _ hj;let hoi:ord[i]?=some (ord[i]'∅):=qh ∅;show CF st.1 st.2.1 st.2.2 hj (he.trans hoi) λh' hit' hs'=>?_;show hQ _ h' s.toks #[_,hoi,rfl] #[hit',st.2.1.same hs' ha,st.2.2.same hs' hp] λb o hb e=>hs'.extBut b o (λz=>hb (by simp[z])) e
 done:=λs Q E st hQ=>Dy hh st.1 st.2.1 st.2.2 (qO ∅) λh' he'=>hQ h' s.toks λb o hb e=>he' b o (λz=>hb (by simp[z])) e
 self:=λ_ _ _ _ st hQ=>Bj st.1 hQ
def Cy(hh:A.handled=none)(hb:w.params.followText "set-order"=true)(ha:a≠I):
  Walks prog w A I [I,a] [I] es.size (fG (pickOrder (w.params.setOrder a ep) es).toList) (λi h=>jN h I a (.int ((0:Nat):Int) 0) i es.size ep/\SetAt h a es ep t) where
 sub:=λb hb=>by rw[qu.mp hb];simp
 frame:=λi h h' st hk=>by let#[#[o,h1,h2],#[o',h3,h4]]:=st;show#[#[o,hk I (by simp) o h1,h2],#[o',hk a (by simp) o' h3,h4]]
 item:=λi s Q E hi st hQ=>by let hl:=(AU (w.params.setOrder a ep) es).length_eq;rw[qT,qT]at hl;let hoi:(pickOrder (w.params.setOrder a ep) es)[i]?=some ((pickOrder (w.params.setOrder a ep) es)[i]'∅):=getElem?_eq_getElem ∅;show Ci (slot':=0) st.1 st.2 (λA E R hR=>AO st.2 hb (by rw[hoi];show hR)) λh' hit' hs'=>?_;show hQ _ h' s.toks #[_,by rw[qX];show hoi,rfl] #[hit',st.2.same hs' ha] λb o hb e=>hs'.extBut b o (λz=>hb (by simp[z])) e
 done:=λs Q E st hQ=>by let hl:=(AU (w.params.setOrder a ep) es).length_eq;rw[qT,qT]at hl;show Di hh st.1 st.2 (λA E R hR=>AO st.2 hb (by rw[Array.getElem?_eq_none ∅];show hR)) λh' he'=>hQ h' s.toks λb o hb e=>he' b o (λz=>hb (by simp[z])) e
 self:=λ_ _ _ _ st hQ=>Bj st.1 hQ
def Cb(hh:A.handled=none)(hb:w.params.followText "set-order"=false)(hnd:¬(!t.plain&&decide (es.size>1))=true)(hl:t.led=true)(hr:Rising t.place)(hz:t.place.size=es.size)(ha:a≠I):
  Walks prog w A I [I,a] [I] es.size (fG es.toList) (λi h=>∃slot:Nat,jN h I a (.int slot 0) i es.size ep/\below t.place slot=i/\SetAt h a es ep t) where
 sub:=λb hb=>by rw[qu.mp hb];simp
 frame:=λi h h' st hk=>by let#[sl,#[o,h1,h2],hbl,#[o',h3,h4]]:=st;show#[sl,#[o,hk I (by simp) o h1,h2],hbl,#[o',hk a (by simp) o' h3,h4]]
 item:=λi s Q E hi st hQ=>by
  let#[sl,hit,hbl,hs]:=st;let hi':i<t.place.size:=∅
  show Ci (slot':=t.place[i]+1) (v:=es[i].2) hit hs (λA E R hR=>AN hs hb hnd hl (by rw[hbl,getElem?_eq_getElem hi,getElem?_eq_getElem hi'];show hR)) λh' hit' hs'=>?_;show hQ _ h' s.toks #[es[i],by rw[qX];show getElem?_eq_getElem hi,rfl] #[_,hit',CP hr hi',hs.same hs' ha] λb o hb e=>hs'.extBut b o (λz=>hb (by simp[z])) e
 done:=λs Q E st hQ=>by let#[sl,hit,hbl,hs]:=st;show Di hh hit hs (λA E R hR=>AN hs hb hnd hl (by rw[hbl,Array.getElem?_eq_none (q5 _)];show hR)) λh' he'=>hQ h' s.toks λb o hb e=>he' b o (λz=>hb (by simp[z])) e
 self:=λ_ _ _ _ st hQ=>by let#[sl,hit,_]:=st;show Bj hit hQ
def CL:entryFor table "set.__iter__"=some Builtin.«frozenset.__iter__»:=
 entryFor_alias (id':="frozenset.__iter__") (by kernel_rfl) rfl (by decide+kernel) (by kernel_rfl)
theorem lt_of_get{h:Heap}(e:h.get? b=some o):b<h.objs.size:=Nat.lt_of_not_le λz=>by
 let:h.get? b=none:=by unfold Heap.get?;rw[Array.getElem?_eq_none z]
 rw[this]at e;cases e
def gI(es:Array (Int×Value))(j:Nat):Int×Value:=(es[j]?).getD (0,.none)
def Dt(es:Array (Int×Value)):(List.range es.size).map (gI es)=es.toList:=by show List.ext_getElem (by simp) λi h1 h2=>?_;simp at h1;rw[getElem_map,List.getElem_range];unfold gI;rw[getElem?_eq_getElem h1];rfl
def Ec(hT:s.TypeIs (.ref a) "set")(hs:SetAt s.heap a es ep t)(hr:Rising t.place)(hz:t.place.size=es.size)(h3:w.params.followText "set-order"=false->t.led=true)(hn:es.size<=300)
  (hQ:∀(I:Addr)(h':Heap)(d:Drawn)(ord:List (Int×Value))(fp:List Addr)(St:Nat->Heap->Prop),ord.Perm es.toList->(∀A':Around,A'.handled=none->Walks prog w A' I fp [I] es.size (fG ord) St)->St 0 h'->I∈fp->
   (∀b∈fp,(b=a\/s.heap.objs.size<=b)/\b<h'.objs.size)->(∀b o,s.heap.get? b=some o->h'.get? b=some o)->s.heap.objs.size<=I->Q (.ref I) {s with heap:=h',drawn:=d}):wpAny (model prog w) A (pyIter (.ref a)) Q E s:=by
 let#[o',v,B,hf]:=id hs;let G:=lt_of_get v;show wpAny_pyIter_slot hT F.slot_set_iter (zc F.slot_set_iter hT CL ?_ (F.args_set_iter_1 _));unfold Builtin.«frozenset.__iter__» Builtin.Frozenset.slot0 slotArgs;simp only[List.isEmpty_nil,Bool.not_true,↓reduceIte,bind_assoc,qv,bne_self_eq_false];show qa (qb ?_);show qa (qb ?_);show qa (qa (wpAny_setEntries_of v B hf (qb ?_)));show qa (qa (wpAny_setState_of v B hf ?_));show qa (AC (qb ?_));let L:∀(h:Heap)(o:Obj)(b:Addr)(o2:Obj),h.get? b=some o2->(h.push o).get? b=some o2:=λh o b o2 e=>qc _ e;show wpAny _ _ (if(!w.params.followText "set-order"&&(!t.plain&&decide (es.size>1)))=true then _ else _) _ _ _;by_cases hc:(!w.params.followText "set-order"&&(!t.plain&&decide (es.size>1)))=true
 .rw[qY hc];show qa (Cq es.size (by simp) λys d hp=>?_);let O:ys.length=es.size:=by rw[hp.length_eq];simp
  let M:∀j∈ys,j<es.size:=λj Y=>qI.mp (hp.mem_iff.mp Y);show qa (wpAny_newTuple ?_ (by rw[qo,O];show le_trans hn ⋯));show qa (qa (wpAny_setState_of (L _ _ _ _ v) B hf (qb ?_)));show qa (zb (qb #[_,rfl,"set_iterator",_,#[_,qd _ rfl,rfl],slot_next.lookup,?_]) (by size_fits));let g1:∀j,j<es.size->es[j]?=some (gI es j):=λj Y=>by unfold gI;rw[getElem?_eq_getElem Y];rfl
  let h5:(s.heap.push {cls:=.type "tuple",data:=.seq (ys.map λi:Nat=>rawInt (i:Int)).toArray}).get? s.heap.objs.size=some {cls:=.type "tuple",data:=.seq (ys.map λi:Nat=>rawInt (i:Int)).toArray}:=qd _ rfl;show hQ _ _ d (ys.map (gI es)) [_,a,s.heap.objs.size] _ ((hp.map _).trans (by rw[Dt])) (λA' hA=>Cc (ep:=ep) (t:=t) (ys:=ys) hA (by rw[qo,O]) O (λi j Y=>#[?_,M j (qL Y)]) ?_ ?_) #[#[_,qd _ rfl,rfl,rfl],#[_,L _ _ _ _ (L _ _ _ _ v),B,hf],#[_,_,L _ _ _ _ h5,rfl]] (by simp) (λb J=>?_) (λb o e=>L _ _ _ _ (L _ _ _ _ e)) ?_
  .rw[qE,Y];show g1 j (M j (qL Y))
  .rw[Heap.size_push];show ne_of_lt (lt_succ_of_lt G)
  .rw[Heap.size_push];show ne_of_lt (lt_succ_self _)
  .rw[Heap.size_push,Heap.size_push];rw[Heap.size_push]at J;rcases qA.mp J with rfl|J
   .show#[.inr (le_succ _),lt_succ_self _]
   .rcases qA.mp J with rfl|J
    .show#[.inl rfl,lt_succ_of_lt (lt_succ_of_lt G)]
    .rw[qu.mp J];show#[.inr (q5 _),lt_succ_of_lt (lt_succ_self _)]
  .rw[Heap.size_push];show le_succ _
 .rw[qZ hc];show qa (qb ?_);show qa (qa (wpAny_setState_of v B hf (qb ?_)));show qa (zb (qb #[_,rfl,"set_iterator",_,#[_,qd _ rfl,rfl],slot_next.lookup,?_]) (by size_fits));let h2:a≠s.heap.objs.size:=ne_of_lt G;let h4:∀(o:Obj),∀b∈[s.heap.objs.size,a],(b=a\/s.heap.objs.size<=b)/\b<(s.heap.push o).objs.size:=λo b J=>by
   rw[Heap.size_push];rcases qA.mp J with rfl|J
   .show#[.inr (q5 _),lt_succ_self _]
   .rw[qu.mp J];show#[.inl rfl,lt_succ_of_lt G]
  by_cases J:w.params.followText "set-order"=true
  .show hQ _ _ s.drawn _ [_,a] _ (AU (w.params.setOrder a ep) es) (λA' hA=>Cy (ep:=ep) (t:=t) hA J h2) #[#[_,qd _ rfl,rfl,rfl],#[_,L _ _ _ _ v,B,hf]] (by simp) (h4 _) (λb o e=>L _ _ _ _ e) (q5 _)
  .let h1:w.params.followText "set-order"=false:=by simpa using J
   show hQ _ _ s.drawn _ [_,a] _ (.refl _) (λA' hA=>Cb (ep:=ep) (t:=t) hA h1 (λz=>hc (by rw[h1,z];rfl)) (h3 h1) hr hz h2) #[0,#[_,qd _ rfl,rfl,rfl],CO hr,#[_,L _ _ _ _ v,B,hf]] (by simp) (h4 _) (λb o e=>L _ _ _ _ e) (q5 _)
def Du(hn:ord.length=n)(h:ItemsOf (fG ord) v n):v.toList=ord.map (·.2):=by
 show ext_getElem? λi=>?_;rw[qX,qE];rcases lt_or_ge i n with hi|hi
 .let h1:v[i]?=some (v[i]'(by rw[h.1];show hi)):=getElem?_eq_getElem _;let#[e,B,z]:=h.2 i _ h1;rw[h1,B,z];rfl
 .rw[Array.getElem?_eq_none (by rw[h.1];show hi),qO (by rw[hn];show hi)];rfl
def Cr(hh:A.handled=none)(hT:s.TypeIs (.ref a) "set")(hs:SetAt s.heap a es ep t)(hr:Rising t.place)(hz:t.place.size=es.size)(h5:w.params.followText "set-order"=false->t.led=true)(hn:es.size<=300)
  (hQ:∀(s':Shared)(ord:List (Int×Value)),ord.Perm es.toList->(∀b o,s.heap.get? b=some o->s'.heap.get? b=some o)->s'.gens=s.gens->s'.os=s.os->s.toks<=s'.toks->Q (ord.map (·.2)) s'):wpAny (model prog w) A (collect (.ref a)) Q E s:=by
 let#[o',h4,hi,hf]:=id hs;let L:=lt_of_get h4;show qa (wpAny_runValue (codeAny_builtin F.entry_proto_collect ?_));show qa (zb ?_);show qb #[plainId_quiet F.plain_list_iadd _,codeAny_builtin F.entry_list_iadd ?_];let h2:(s.heap.push {cls:=.type "list",data:=.seq ([]:List Value).toArray}).get? s.heap.objs.size=some {cls:=.type "list",data:=.seq ([]:List Value).toArray}:=qd _ rfl;let h1:Builtin.List.listSameRef (.ref s.heap.objs.size) (.ref a)=false:=by simp[Builtin.List.listSameRef];show(ne_of_gt L)
 let e4:SetAt (s.heap.push {cls:=.type "list",data:=.seq ([]:List Value).toArray}) a es ep t:=#[o',qc _ h4,hi,hf]
 let O:Shared.TypeIs {s with heap:=s.heap.push {cls:=.type "list",data:=.seq ([]:List Value).toArray}} (.ref a) "set":=by let#[o2,e1,e2]:=hT;show#[o2,qc _ e1,e2]
 show wpAny _ A.in1 (Builtin.List.listExtendWith (.ref s.heap.objs.size) (.ref a) (.ref s.heap.objs.size)) _ _ _;show qa (wpAny_typeOf O ?_);rw[qZ (by rw[h1];decide)];show qa (Ec O e4 hr hz h5 hn λI h' d ord fp St hp W h9 hI hx v h8=>?_);let M:Shared.TypeIs {s with heap:=h',drawn:=d} (.ref a) "set":=by let#[o2,e1,e2]:=O;show#[o2,v _ _ e1,e2]
 show qa (ze ?_);show qa (wpAny_specialOf M F.slot_set_len.lookup ?_);generalize hk:("set.__len__":String)=hd
 wp_delta
 subst hk;show qa (wpAny_isInstance (b:=true) M (by rw[isSubtype_type];kernel_rfl) ?_);show qa (wpAny_typeOf M ?_);show qb ?_;let G:=v _ _ h2;let WS:=(W A.in1 hh).toS;show qa (wpAny_rule ?_);show qa ?_;show qa (wpAny_updateSeq G rfl ?_);let B:=q9 (Obj.mapSeq (·.push Value.none)) G rfl;show wpAny_updateSeq (hz:=by seq_fits) B rfl ?_;let Y:=q9 (Obj.mapSeq (·.pop)) B rfl;let h3:∀b o,b≠s.heap.objs.size->h'.get? b=some o->((h'.update s.heap.objs.size (Obj.mapSeq (·.push Value.none))).update s.heap.objs.size (Obj.mapSeq (·.pop))).get? b=some o:=
  λb o J e=>(q8 _ _ (Ne.symm J)).trans ((q8 _ _ (Ne.symm J)).trans e)
 have h7:s.heap.objs.size∉fp:=λhm=>by
  rcases(hx _ hm).1 with z|z
  .show ne_of_gt L z
  .rw[Heap.size_push]at z;show Nat.not_succ_le_self _ z
 let e3:es.size<=sizeLine:=le_trans hn ⋯;show qb #[plainId_quiet F.plain_extend_loop _,codeAny_extend_loopS WS e3 _ h7 _ es.size 0 _ _ _ rfl (zero_le _) ((W A.in1 hh).frame 0 _ _ h9 λb J o e=>h3 b o (λz=>h7 (z▸J)) e) Y (ItemsOf.nil _) λs' hl c' hm hc h6=>?_];show qa (wpAny_load hc ?_);show qb ?_;rw[Du (by rw[hp.length_eq,qT]) h6];show hQ s' ord hp (λb o e=>?_) hm.gens hm.os hm.toks;let J:=lt_of_get e;show hm.heap b o (λz=>?_) (h3 b o (ne_of_lt J) (v _ _ (qc _ e)));rcases qA.mp z with z|z
 .show ne_of_lt J z
 .rw[qu.mp z]at J;rw[Heap.size_push]at h8;show lt_irrefl _ (lt_of_lt_of_le J (le_trans (le_succ _) h8))
end ST
namespace ST
open PySem PySem.SetTable PyProof.Rows
section
variable{prog:Program}{w:World}{A:Around}{E:zh}{s:Shared}{I a p:Addr}{es:Array (Int×Value)}{ep i slot:Nat}{t:SetTable}{ys:List Nat}{h h':Heap}
theorem sorted_set(hh:A.handled=none)(hT:s.TypeIs (.ref a) "set")(hs:SetAt s.heap a es ep t)(Y:Rising t.place)(hz:t.place.size=es.size)(B:w.params.followText "set-order"=false->t.led=true)(hn:es.size<=300)
  (k:∀(v:Shared)(ord:List (Int×Value)),ord.Perm es.toList->(∀b o,s.heap.get? b=some o->v.heap.get? b=some o)->v.gens=s.gens->v.os=s.os->s.toks<=v.toks->
   (v.heap.push (seqObj "list" (ord.map (·.2)).toArray 0)).get? v.heap.objs.size=some (seqObj "list" (ord.map (·.2)).toArray 0)->
   wpAny (model prog w) A.in1.in1 (Builtin.«list.sort» #[[.ref v.heap.objs.size],[]]) (λF J=>∃r,F=.done (.ret r)/\Q (.ref v.heap.objs.size) J) E {v with heap:=v.heap.push (seqObj "list" (ord.map (·.2)).toArray 0)}):
  wpAny (model prog w) A (call (.builtin "sorted") [.ref a]) Q E s:=by
 show Calls.call_function_entry kind_sorted plain_sorted entry_sorted (args_sorted1 _) (?_:wpAny _ _ _ _ _ _);show qa (m:=checkCount "sorted" 1 1 _) (qb (qa (Cr hh hT hs Y hz B hn λv ord L M hg ho O=>?_)));let G:ord.length<=sizeLine:=by rw[L.length_eq];show le_trans hn ⋯
 show qa (wpAny_newList ?_ (by rw[qo];show G));let new:(v.heap.push (seqObj "list" (ord.map (·.2)).toArray 0)).get? v.heap.objs.size=some (seqObj "list" (ord.map (·.2)).toArray 0):=qd _ rfl;show qa (ze (zc slot_list_sort #[_,new,rfl] entry_list_sort (zg (k v ord L M hg ho O new) ?_ λe s' z=>z) (args_list_sort _)));rintro F J ⟨r,rfl,q⟩;show#[_,rfl,qb #[_,rfl,q]]
end
def oD:Value->Int
 |.int n _=>n
 |_=>0
theorem ints_map(h:IntsAre vs ns):ns=vs.map oD/\∀v∈vs,∃n t,v=.int n t:=by
 induction h with
 |nil=>show#[rfl,λv z=>nomatch z]
 |cons n t _ B=>show#[by rw[qy,<-B.1];rfl,λv z=>?_];grind
def Df:∀{vs:List Value},(∀v∈vs,∃n t,v=.int n t)->IntsAre vs (vs.map oD)
 |[],_=>.nil
 |v::vs,h=>by let#[n,t,rfl]:=h v qm;show .cons n t (Df λu z=>h u (qk _ z))
def Dv(h:IntsAre vs ns)(z:B.Perm vs):∃ms,IntsAre B ms/\ms.Perm ns:=by let#[rfl,h2]:=ints_map h;show#[_,Df λv F=>h2 v (z.mem_iff.mp F),z.map _]
theorem sortedHeap_at(z:h.get? a=some (seqObj "list" vs.toArray n))(v:Array Value):∃e,(sortedHeap h a vs v).get? a=some (seqObj "list" v e):=
 #[_,get?_update_seq (qc _ (qc _ (get?_update_seq z _))) _]
theorem sortedHeap_old(v:b≠a)(B:h.get? b=some o)(z:Array Value):(sortedHeap h a vs z).get? b=some o:=
 (q8 _ _ (Ne.symm v)).trans (qc _ (qc _ ((q8 _ _ (Ne.symm v)).trans B)))
section
variable{prog:Program}{w:World}{A:Around}{E:zh}{s:Shared}{a:Addr}{es:Array (Int×Value)}{ep:Nat}{t:SetTable}
theorem sorted_set_ints(hh:A.handled=none)(hT:s.TypeIs (.ref a) "set")(hs:SetAt s.heap a es ep t)(hr:Rising t.place)(hz:t.place.size=es.size)(F:w.params.followText "set-order"=false->t.led=true)(hn:es.size<64)
  (hI:IntsAre (es.toList.map (·.2)) ns)
  (k:∀(B:Shared)(D:Addr)(v:Array Value)(e:Nat)(z:List Int),IntsAre v.toList z->z.Perm ns->z.Pairwise (·<=·)->B.heap.get? D=some (seqObj "list" v e)->s.heap.get? D=none->(∀b o,s.heap.get? b=some o->B.heap.get? b=some o)->
   B.gens=s.gens->B.os=s.os->s.toks<=B.toks->Q (.ref D) B):wpAny (model prog w) A (call (.builtin "sorted") [.ref a]) Q E s:=by
 show sorted_set hh hT hs hr hz F ∅ λM ord O G hg ho Y new=>?_;let#[ms,hm,J]:=Dv hI (O.map _);let hl:(ord.map (·.2)).length<64:=by rw[qo,O.length_eq];show hn
 show list_sort_tree new hm hl λv z a1 a2 a3=>#[_,rfl,?_]
 obtain⟨e,he⟩:=sortedHeap_at new v;let L:s.heap.get? M.heap.objs.size=none:=by
  cases q:s.heap.get? M.heap.objs.size with
  |none=>rfl
  |some o=>show absurd (lt_of_get (G _ _ q)) (lt_irrefl _)
 show k _ _ v e z a1 (a2.trans J) a3 he L (λb o q=>sortedHeap_old (ne_of_lt (lt_of_get (G b o q))) (qc _ (G b o q)) v) hg ho Y
end
def textOf:Value->Str
 |.str x _=>x
 |_=>Str.empty
theorem strs_map(h:StrsAre vs ss):ss=vs.map textOf/\∀v∈vs,∃x t,v=.str x t:=by
 induction h with
 |nil=>show#[rfl,λv z=>nomatch z]
 |cons n t _ B=>show#[by rw[qy,<-B.1];rfl,λv z=>?_];grind
def CZ:∀{vs:List Value},(∀v∈vs,∃x t,v=.str x t)->StrsAre vs (vs.map textOf)
 |[],_=>.nil
 |v::vs,h=>by let#[n,t,rfl]:=h v qm;show .cons n t (CZ λu z=>h u (qk _ z))
def Dr(h:StrsAre vs ss)(z:B.Perm vs):∃ms,StrsAre B ms/\ms.Perm ss:=by let#[rfl,h2]:=strs_map h;show#[_,CZ λv F=>h2 v (z.mem_iff.mp F),z.map _]
section
variable{prog:Program}{w:World}{A:Around}{E:zh}{s:Shared}{a:Addr}{es:Array (Int×Value)}{ep:Nat}{t:SetTable}
theorem sorted_set_strs(hh:A.handled=none)(hT:s.TypeIs (.ref a) "set")(hs:SetAt s.heap a es ep t)(hr:Rising t.place)(hz:t.place.size=es.size)(F:w.params.followText "set-order"=false->t.led=true)(hn:es.size<64)
  (hI:StrsAre (es.toList.map (·.2)) ss)
  (k:∀(z:Shared)(D:Addr)(B:Array Value)(e:Nat)(v:List Str),StrsAre B.toList v->v.Perm ss->sortedS v=true->z.heap.get? D=some (seqObj "list" B e)->s.heap.get? D=none->(∀b o,s.heap.get? b=some o->z.heap.get? b=some o)->
   z.gens=s.gens->z.os=s.os->s.toks<=z.toks->Q (.ref D) z):wpAny (model prog w) A (call (.builtin "sorted") [.ref a]) Q E s:=by
 show sorted_set hh hT hs hr hz F ∅ λs1 ord hp J hg ho ht new=>?_;let#[ms,M,L]:=Dr hI (hp.map _);let hl:(ord.map (·.2)).length<64:=by rw[qo,hp.length_eq];show hn
 show list_sort_treeK strKind_oneLt new M.keysOf (λh1 Y rest e=>keyKind_strs (by rw[<-e];show M)) hl λG a1 a2=>#[_,rfl,?_]
 obtain⟨v,b1,b2,b3⟩:=sorted_out_str M a1 a2;let#[e,he]:=sortedHeap_at new ((arrOf G).map (·.2));let O:s.heap.get? s1.heap.objs.size=none:=by
  cases q:s.heap.get? s1.heap.objs.size with
  |none=>rfl
  |some o=>show absurd (lt_of_get (J _ _ q)) (lt_irrefl _)
 show k _ _ _ e v b1 (b2.trans L) b3 he O (λb o q=>sortedHeap_old (ne_of_lt (lt_of_get (J b o q))) (qc _ (J b o q)) _) hg ho ht
def TSet.at{K:Type}[DecidableEq K]{knd:HeapKind prog w K}{ld:Bool}{h:Heap}{xs:List (K×Addr)}(x:TSet ld knd h a xs):∃es ep t,SetAt h a es ep t/\Rising t.place/\t.place.size=es.size/\t.led=ld/\es.toList.map (·.2)=xs.map λp=>Value.ref p.2:=by
 let#[o,es,ep,t,B,hex,L,v,T,z,J,G,F]:=x;show#[es,ep,t,#[o,B,L,T.fits (by simp)],T.ris,?_,v,?_]
 .rw[T.size];simp
 .rw[J];unfold dZ;rw[qD];rfl
end
end ST
namespace ST
open PySem PySem.SetTable
def AJ(n:Nat):Rising (Array.range n):=by rw[ris_list];simp[List.pairwise_lt_range]
def Dg(F:Rising t.place)(G:t.dummies=#[]):∀(v:Nat)(p:Probe){j:Nat}{d:Option Nat},p.dummy=none->probe.go t hashAt h v p=some (.empty j d)->d=none/\t.slot j=.empty
 |0,_,_,_,_,e=>by cases e
 |v+1,p,j,d,hp,e=>by
  rw[probe.go]at e;let B:(t.advance p).dummy=none:=by
   unfold advance;split
   .show hp
   .show hp
  rcases Ao F G p.j with⟨z,_⟩|⟨i,hi,_,z⟩
  .rw[z]at e;cases e;show#[hp,z]
  .rw[z]at e;dsimp only at e;split at e
   .cases e
   .show Dg F G v _ B e
def Eb{mask finger moves:Nat}{led plain:Bool}(e:laid mask finger moves led plain hs=some (t',order)):Rising t'.place/\t'.dummies=#[]/\t'.led=led:=by
 unfold laid at e;cases q:layClean mask hs with
 |none=>rw[q]at e;cases e
 |some v=>rw[q]at e;cases e;show#[?_,rfl,rfl];rw[ris_list];rw[pairwise_map,List.pairwise_filterMap];show List.Pairwise.imp (λ{a b} z x F y B=>?_) List.pairwise_lt_range;let#[_,_,rfl]:=qW.mp F;let#[_,_,rfl]:=qW.mp B;show z
structure WTab(t:SetTable)(n:Nat)(ld:Bool):Prop where
 ris:Rising t.place
 dum:t.dummies=#[]
 fit:t.fits n=true
 ldd:t.led=ld
def DY(T:WTab t es.size ld):WTab (layNew t es h x).2.1 (layNew t es h x).1.size ld:=by
 refine#[?_,?_,layNew_fits t es h x,?_];all_goals
  unfold layNew;split
 .rename_i slot v e;dsimp only;unfold orStandIn;split
  .unfold freeSlot at e;split at e
   .rename_i j d q;cases e;let#[rfl,z]:=Dg T.ris T.dum _ (t.probeStart h) rfl q;rcases Ao T.ris T.dum j with⟨_,y⟩|⟨i,hi,_,y⟩
    .show Br T.ris y
    .rw[z]at y;cases y
   .cases e
  .show AJ _
 .show AJ _
 .dsimp only;unfold orStandIn;split
  .show(AS T.dum).2.2.1
  .rfl
 .rfl
 .dsimp only;unfold orStandIn;split
  .show T.ldd
  .show T.ldd
 .show T.ldd
def CA(T:WTab t m ld):WTab (relayAll t es n).2.1 (relayAll t es n).1.size ld:=by
 refine#[?_,?_,relayAll_fits t es n,?_];all_goals
  unfold relayAll;split
 all_goals first
  |(rename_i z v e;dsimp only;let#[a,b,c]:=Eb e;split
    .first|show a|show b|show c.trans T.ldd
    .first|show AJ _|rfl|show T.ldd)
  |show AJ _
  |rfl
  |show T.ldd
def CB(T:WTab t n ld):WTab {t with plain:=p} n ld:=⟨T.ris,T.dum,by let:=T.fit;cases t;show this,T.ldd⟩
section
variable{prog:Program}{w:World}{A:Around}{E:zh}{s:Shared}{a:Addr}{K:Type}[DecidableEq K]{knd:KeyKind prog w K}{xs:List (K×Value)}
def eM(knd:KeyKind prog w K)(xs:List (K×Value)):List (Int×Value):=xs.map λp=>(knd.hash p.1,p.2)
@[inline]def VSet(ld:Bool)(knd:KeyKind prog w K)(h:Heap)(a:Addr)(xs:List (K×Value)):Prop:=∃o es ep t,h.get? a=some o/\o.ExactSet/\o.data=.set es ep t/\WTab t es.size ld/\es.toList=eM knd xs/\(∀p∈xs,knd.is p.1 p.2=true/\p.2.scannable=true)/\(xs.map (·.1)).Nodup
def BJ(h:l.Perm (eM knd xs)):∃ys,ys.Perm xs/\l=eM knd ys:=by
 unfold eM at h;induction l generalizing xs with
 |nil=>
  let v:xs=[]:=↑h.length_eq.symm
  subst v;show#[[],.refl _,rfl]
 |cons e l F=>let#[x,v,rfl]:=qJ.mp (h.mem_iff.mp qm);let#[B,z,rfl]:=append_of_mem v;rw[map_append]at h;let#[ys,p,rfl]:=F (xs:=B++z) (by rw[map_append];show(h.trans perm_middle).cons_inv);show#[x::ys,(List.Perm.cons x p).trans perm_middle.symm,rfl]
def EJ{es:Array (Int×Value)}(F:es.toList=eM knd xs)(B:∀p∈xs,knd.is p.1 p.2=true/\p.2.scannable=true):ElemsOf knd es.toList:=λe z=>by rw[F]at z;let#[p,v,rfl]:=qJ.mp z;show#[#[p.1,(B p v).1,rfl],(B p v).2]
theorem Cs{g:Bool->Sem Unit}(hg:∀(b:Bool)(s₁:Shared)(Q':Unit->Shared->Prop),Q' () s₁->wpAny (model prog w) A (g b) Q' E s₁)(ho:s.heap.get? a=some o)(hex:o.ExactSet)(hd:o.data=.set es ep t)
  (T:WTab t2 es1.size ld)(he:es1.toList=eM knd ys)(hk:∀p∈ys,knd.is p.1 p.2=true/\p.2.scannable=true)(hnd:(ys.map (·.1)).Nodup)(hz:ys.length<=1000)
  (h:∀h' zs,Heap.SameBut a s.heap h'->zs.Perm ys->VSet ld knd h' a zs->R (some true) {s with heap:=h'}):
  wpAny (model prog w) A (do
    storeSet a es1 t2
    if(!wd&&t2.tooFull)=true then do
       g (relayAll t2 es1 (grown es1.size)).2.2
       storeSet a (relayAll t2 es1 (grown es1.size)).1 (relayAll t2 es1 (grown es1.size)).2.1
       pure (some true)
     else pure (some true)) R E s:=by
 let hz1:es1.size<=sizeLine:=by rw[<-qT,he];unfold eM;rw[qo,zd];lia
 show qa (wpAny_storeSet_of ho hd ?_ hz1);let ho1:=AH (es':=es1) (t':=t2) ho hd;let sb1:=Heap.SameBut.update s.heap a (Obj.putSet es1 t2);split
 .let hp:=relayAll_perm t2 es1 (grown es1.size);let T2:=CA (es:=es1) (n:=grown es1.size) T;generalize relayAll t2 es1 (grown es1.size)=R3 at hp T2⊢;let#[es2,t3,gave]:=R3;rw[he]at hp;let#[zs,pz,ez]:=BJ hp;let hz2:es2.size<=sizeLine:=by rw[<-qT,ez];unfold eM;rw[qo,pz.length_eq,zd];lia
  show qa (hg _ _ _ (qa (wpAny_storeSet_of ho1 rfl (qb ?_) hz2)));show h _ zs (sb1.trans (Heap.SameBut.update _ a _)) pz #[_,es2,_,t3,AH ho1 rfl,hex,rfl,T2,ez,λp hp=>hk p (pz.mem_iff.mp hp),(pz.map _).nodup_iff.mpr hnd]
 .show qb (h _ ys sb1 (.refl _) #[_,es1,_,t2,ho1,hex,rfl,T,he,hk,hnd])
def JG(J:knd.is k x=true)(M:x.scannable=true)(hS:VSet ld knd s.heap a xs)(e2:xs.length<=150)
  (h1:k∈xs.map (·.1)->Q false s)(h2:k∉xs.map (·.1)->∀h' ys,Heap.SameBut a s.heap h'->ys.Perm ((k,x)::xs)->VSet ld knd h' a ys->Q true {s with heap:=h'}):
  wpAny (model prog w) A (setAddHashed a x (knd.hash k)) Q E s:=by
 let#[o,es,ep,t,ho,hex,hd,T,he,hk,e3]:=hS;let h8:=EJ he hk;let e4:es.size=xs.length:=by rw[<-qT,he];simp[eM]
 let hb:es.size<scanBound:=by show es.size<4096;lia
 show ze (qa (wpAny_setState_of ho hd T.fit ?_));dsimp only;rw[byScan_of M hb h8];show qa (qa (wpAny_rule (qa (wpAny_setScan_of J ho hd T.fit h8 ?_))));let h3:∀p∈xs,knd.is k p.2=true↔p.1=k:=λp F=>#[λz=>(knd.inj p.2 k p.1 z (hk p F).1).symm,λz=>z▸(hk p F).1]
 cases hr:List.findIdx? (λe=>knd.is k e.2) es.toList with
 |some j=>let#[hj,h5,_]:=List.findIdx?_eq_some_iff_getElem.mp hr;let hm:=getElem_mem hj;generalize es.toList[j]=e at hm h5;rw[he]at hm;let#[p,F,rfl]:=qJ.mp hm;show qb (qb (h1 (qJ.mpr #[p,F,(h3 p F).mp h5])))
 |none=>
  let hn:k∉xs.map (·.1):=λz=>by let#[p,F,e]:=qJ.mp z;let q:=List.findIdx?_eq_none_iff.mp hr (knd.hash p.1,p.2) (by rw[he];show qJ.mpr #[p,F,rfl]);rw[(h3 p F).mpr e]at q;cases q
  have v:=layNew_perm t es (knd.hash k) x;let T1:=DY (es:=es) (h:=knd.hash k) (x:=x) T;generalize layNew t es (knd.hash k) x=L at v T1⊢;let#[es1,t1,wd,h9]:=L;rw[toList_push,he]at v;let#[ys,py,ey]:=BJ (knd:=knd) (xs:=(k,x)::xs) (v.trans (qM.trans (by unfold eM;show .refl _)));let h7:∀p∈ys,knd.is p.1 p.2=true/\p.2.scannable=true:=λp F=>by
   rcases qA.mp (py.mem_iff.mp F)with rfl|z
   .show#[J,M]
   .show hk p z
  let h6:(ys.map (·.1)).Nodup:=(py.map _).nodup_iff.mpr (qK.mpr #[hn,e3]);let h4:ys.length<=1000:=by rw[py.length_eq,qt];lia
  have gw:∀(b:Bool)(B:Shared)(Q':Unit->Shared->Prop),Q' () B->wpAny (model prog w) A (match b with|true=>rule "set.scan.the-table-gave-way"|false=>pure ()) Q' E B:=λb B Q' q=>by
   cases b
   .show qb q
   .show wpAny_rule q
  let e1:∀h' G,Heap.SameBut a s.heap h'->G.Perm ys->VSet ld knd h' a G->Q true {s with heap:=h'}:=λh' G O Y V=>h2 hn h' G O (Y.trans py) V;show qa (gw h9 _ _ ?_);split
  .show qa ?_;rw[hashByValue_scannable 8 M];show qb (Cs gw ho hex hd (es1:=es1) (t2:=_) ?_ ey h7 h6 h4 λh' G O Y V=>qb (e1 h' G O Y V));split
   .show T1
   .show CB T1
  .show qa (qb ?_);show Cs gw ho hex hd T1 ey h7 h6 h4 λh' G O Y V=>qb (e1 h' G O Y V)
theorem setAddV(v:knd.is k x=true)(B:x.scannable=true)(L:VSet ld knd s.heap a xs)(z:xs.length<=150)
  (h1:k∈xs.map (·.1)->∀r,Q r {s with toks:=s.toks+1})(h2:k∉xs.map (·.1)->∀h' ys,Heap.SameBut a s.heap h'->ys.Perm ((k,x)::xs)->VSet ld knd h' a ys->∀r,Q r {s with heap:=h',toks:=s.toks+1}):
  wpAny (model prog w) A (setAdd a x) Q E s:=by
 show ze (qa (knd.pyHash v ?_));show JG (s:={s with toks:=s.toks+1}) v B L z (λF=>h1 F _) λF h' ys G J T=>h2 F h' ys G J T _
def VSet.at(x:VSet ld knd h a xs):∃es ep t,SetAt h a es ep t/\Rising t.place/\t.place.size=es.size/\t.led=ld/\es.toList.map (·.2)=xs.map (·.2):=by
 let#[o,es,ep,t,v,hex,B,T,z,_]:=x;show#[es,ep,t,#[o,v,B,T.fit],T.ris,?_,T.ldd,?_]
 .let:=T.fit;unfold fits at this;grind
 .rw[z];unfold eM;rw[qD];rfl
end
end ST
namespace ST
open PySem PySem.SetTable PyProof.Rows
def freshSet(ld:Bool):Obj:={cls:=.type "set",dict:=none,data:=.set #[] 0 (.fresh 0 0 ld)}
def ldOf(w:World):Bool:=!w.params.followText "set-order"
theorem newSet_ok(h:Q (.ref s.heap.objs.size) {s with heap:=s.heap.push (freshSet (ldOf w))}):wpAny (model prog w) A (newSet (.type "set")) Q E s:=by show qa (qa (wpAny_askSetting (qb ?_)));show qa (wpAny_alloc (qb h))
def BA(ld:Bool):fS (.fresh 0 0 ld) []:=by
 let v:∀{i:Nat},i<(SetTable.fresh 0 0 ld).place.size->False:=λh=>by simp[SetTable.fresh]at h
 show#[λi j hi _ _=>(v hi).elim,rfl,.inl rfl,rfl,λi hi=>(v hi).elim,by simp,λi hi=>(v hi).elim]
theorem vset_new{K:Type}[DecidableEq K]{knd:KeyKind prog w K}{ld:Bool}{h:Heap}{a:Addr}(e:h.get? a=some (freshSet ld)):VSet ld knd h a []:=
 #[_,#[],0,_,e,#[rfl,rfl,rfl],rfl,#[(BA ld).ris,rfl,rfl,rfl],rfl,λ_ z=>(nomatch z),.nil]
theorem tset_new{K:Type}[DecidableEq K]{knd:HeapKind prog w K}{ld:Bool}{h:Heap}{a:Addr}(e:h.get? a=some (freshSet ld)):TSet ld knd h a []:=
 #[_,#[],0,_,e,#[rfl,rfl,rfl],rfl,rfl,BA ld,(by show 0*5<7*3;decide),rfl,λ_ z=>(nomatch z),.nil]
def DI{St:Nat->Shared->Prop}(W:WalksS prog w A.in1 I fp wr G n P St)(S:Addr)(h3:S∉fp){J:Nat->Heap->Prop}
  (stay:∀i h h',i<=n->J i h->(∀b o,b∉wr->h.get? b=some o->h'.get? b=some o)->J i h')
  (step:∀i v(s:Shared)(Q:Bool->Shared->Prop)(E:zh),i<n->P i v->J i s.heap->(∀h' tk r,s.toks<=tk->Heap.SameBut S s.heap h'->J (i+1) h'->Q r {s with heap:=h',toks:=tk})->wpAny (model prog w) A.in1 (setAdd S v) Q E s):
  ∀(k i:Nat)(s:Shared),n-i=k->i<=n->St i s->J i s.heap->(∀s',Moved (S::wr) G s s'->J n s'.heap->R (.ok (.ret .none)) s')->
   codeAny (model prog w) A (.builtin "set.update.loop" #[[.ref S,.ref I],[]]) R s:=by
 intro k;induction k with
 |zero=>
  intro i s hk hi st hJ hR;let e:i=n:=∅
  subst e;show codeAny_builtin F.entry_set_update_loop ?_;show qa (W.done s _ _ st λs' O=>?_);show qb (hR s' (O.mono λb L=>qk _ L) (stay _ _ _ (q5 _) hJ O.heap))
 |succ k ih=>
  intro i s hk hi st hJ hR;let B:i<n:=∅
  show codeAny_builtin F.entry_set_update_loop ?_;show qa (W.item i s _ _ B st λv s' hP h1 O=>?_);show qa (ze (step i v s' _ _ B hP (stay _ _ _ hi hJ O.heap) λh' tk r ht sb h4=>?_));show qb #[plainId_quiet F.plain_set_update_loop _,ih (i+1) _ ∅ B (W.frame _ s' _ _ h1 ht λb L o e=>?_) h4 λh2 M Y=>?_]
  .rw[sb.2 b (λz=>h3 (z▸L))];show e
  .show hR h2 (Moved.trans W.gtrans ((O.mono λb L=>qk _ L).then_heap ht λb o L e=>?_) M) Y;rw[sb.2 b (λz=>L (z▸qm))];show e
def DL(x:Value)(h:Q (.ref s.heap.objs.size) {s with heap:=s.heap.push (freshSet (ldOf w))}):
  codeAny (model prog w) A (.call (.builtin "set.__new__") #[[.type "set",x],[]]) (wants Q E) s:=by
 show codeAny_of_tree ?_;show qa (zf (F.newCall_set_1 x) (qb #[plainId_quiet F.plain_set_new _,codeAny_builtin F.entry_set_new ?_]));unfold Builtin.«set.__new__» Builtin.Frozenset.newClass;let v:=sub_set_self
 wp_walk
 show wpAny_askSetting (qb ?_);show qa (wpAny_alloc (qb ?_));show qb h
@[inline]def WalkOk(prog:Program)(w:World)(s:Shared)(x:Value)(n:Nat)(P:Nat->Value->Prop):Prop:=∀(A:Around)(E:zh)(v:Shared)(Q:zh),(∀b o,s.heap.get? b=some o->v.heap.get? b=some o)->
 (∀(o:Obj)(fp:List Addr)(St:Nat->Heap->Prop),(∀A:Around,A.handled=none->Walks prog w A v.heap.objs.size fp [v.heap.objs.size] n P St)->St 0 (v.heap.push o)->(∀b∈fp,b=v.heap.objs.size\/b<s.heap.objs.size)->Q (.ref v.heap.objs.size) {v with heap:=v.heap.push o})->
 wpAny (model prog w) A (pyIter x) Q E v
def GU(B:s.TypeIs x T)(z:isSubtype (.type T) (.type "set")=pure false)(v:isSubtype (.type T) (.type "frozenset")=pure false)(h:Q false s):wpAny (model prog w) A (Builtin.Frozenset.isAnySet x) Q E s:=by show qa (wpAny_isInstance B z ?_);show wpAny_isInstance B v h
set_option maxHeartbeats 3200000 in
theorem call_set{J:Nat->Heap->Prop}(hh:A.handled=none)(hT:s.TypeIs x T)(e2:isSubtype (.type T) (.type "set")=pure false)(e1:isSubtype (.type T) (.type "frozenset")=pure false)(e3:(Value.type T==Value.type "dict")=false)
  (W:WalkOk prog w s x n P)(h0:∀h,h.get? s.heap.objs.size=some (freshSet (ldOf w))->(∀b o,s.heap.get? b=some o->h.get? b=some o)->J 0 h)
  (stay:∀i h h',i<=n->J i h->(∀b o,b≠s.heap.objs.size+1->h.get? b=some o->h'.get? b=some o)->J i h')
  (step:∀(A:Around) i v(s':Shared)(Q:Bool->Shared->Prop)(E:zh),i<n->P i v->J i s'.heap->(∀h' tk r,s'.toks<=tk->Heap.SameBut s.heap.objs.size s'.heap h'->J (i+1) h'->Q r {s' with heap:=h',toks:=tk})->A.units<=B->wpAny (model prog w) A (setAdd s.heap.objs.size v) Q E s')
  (hB:A.units+20<=B)
  (h:∀(h':Heap)(tk:Nat),J n h'->(∀b o,s.heap.get? b=some o->h'.get? b=some o)->s.toks<=tk->Q (.ref s.heap.objs.size) {s with heap:=h',toks:=tk}):
  wpAny (model prog w) A (call (.type "set") [x]) Q E s:=by
 let#[c,tl,hl]:=F.called_set.mro;let e4:=F.called_set.made;let hs:=F.called_set.sub;show wpAny_call (codeAny_of_tree ?_);show wpAny _ _ (callAny (.type "set") _) _ _ _;show qb #[Code.quiet_builtin _ (by decide+kernel),codeAny_builtin F.entry_type_call ?_];rw[Around.under_plain (weight_type_call_type "set" [x] []) rfl];let h1:=F.called_set.notType;let h2:=F.called_set.canCreate;let hq:=F.typeCall_set_1 x
 repeat (any_goals (first|assumption|wp_step))
 show codeAny_mono (DL x (E:=E) (Q:=λh5 M=>h5=.ref s.heap.objs.size/\M={s with heap:=s.heap.push (freshSet (ldOf w))}) #[rfl,rfl]) λr M hr=>?_;cases r with
 |error e=>show hr
 |ok fl=>
  cases fl with
  |ret h5=>
   let#[rfl,rfl]:=hr;let hS:(s.heap.push (freshSet (ldOf w))).get? s.heap.objs.size=some (freshSet (ldOf w)):=qd _ rfl;let h6:Shared.TypeIs {s with heap:=s.heap.push (freshSet (ldOf w))} (.ref s.heap.objs.size) "set":=⟨_,hS,rfl⟩
   let hd:=F.called_set.init.lookup;let ha:=F.called_set.init.bind (.ref s.heap.objs.size)
   repeat (any_goals (first|assumption|wp_step))
   show codeAny_mono (codeAny_call_builtin (R:=wants (λr L=>r=.none/\∃h' tk,L={s with heap:=h',toks:=tk}/\J n h'/\(∀b o,s.heap.get? b=some o->h'.get? b=some o)/\s.toks<=tk) E) F.called_set.init.plain F.entry_set_init (check_set_init_1 h6 ?_)) λh4 L G=>?_
   .have O:Shared.TypeIs {s with heap:=s.heap.push (freshSet (ldOf w))} x T:=by
     cases x with
     |ref l=>let#[o,e,q]:=hT;show#[o,qc _ e,q]
     |_=>show hT
    unfold Builtin.«set.__init__» noKeywords;generalize hp:Builtin.Frozenset.updateFrom=UF;unfold freshSet at hS h6 O⊢
    wp_walk
    subst hp;unfold Builtin.Frozenset.updateFrom;show qa (GU O e2 e1 ?_);simp only[false_eq_true,if_false];show qa (wpAny_typeOf O ?_);rw[e3];simp only[false_eq_true,if_false];show qa (W _ _ _ _ (λb o e=>qc _ e) λo fp St wk h8 hx=>?_);let hz:(s.heap.push (freshSet (ldOf w))).objs.size=s.heap.objs.size+1:=Heap.size_push ..;let hc:s.heap.objs.size∉fp:=λz=>by
     rcases hx _ z with y|y
     .rw[show s.heap.objs.size=(s.heap.push (freshSet (ldOf w))).objs.size from y]at hz;show absurd hz (ne_of_lt (lt_succ_self _))
     .show lt_irrefl _ y
    refine qa (wpAny_runValue ?_);refine DI (wk A.in1.in1.in1 hh).toS s.heap.objs.size hc (J:=J) (λi h h' hi Y hk=>stay i h h' hi Y λb o hb e=>hk b o (λz=>hb (by rw[<-hz];show qu.mp z)) e)
     (λi v s' Q E hi hP Y hk=>step _ i v s' Q E hi hP Y hk (by show A.units+1+1+1<=B;lia)) (n-0) 0 _ rfl (zero_le _) h8 (h0 _ (qc _ hS) λb o e=>qc _ (qc _ e)) λs' hm Y=>?_
    let#[h',g',d',h7,h9]:=s';let eg:g'=s.gens:=hm.gens;let ed:d'=s.drawn:=hm.drawn;let eo:h9=s.os:=hm.os;subst eg ed eo;show qb ?_;show wpAny _ _ (ret Value.none) _ _ _;show qb #[rfl,h',h7,rfl,Y,λb o e=>?_,hm.toks];let hb:=lt_of_get e;show hm.heap b o (λz=>?_) (qc _ (qc _ e));rcases qA.mp z with z|z
    .show ne_of_lt hb z
    .let:=qu.mp z;rw[this]at hb;show absurd hb (by show¬(s.heap.push (freshSet (ldOf w))).objs.size<_;rw[hz];show not_lt.mpr (le_succ _))
   .cases h4 with
    |error e=>show G
    |ok h3=>
     cases h3 with
     |ret r=>
      let#[rfl,h',tk,rfl,Y,hk,ht]:=G
      repeat (any_goals (first|assumption|wp_step))
      show h _ _ Y hk ht
     |_=>show G.elim
  |_=>show hr.elim
theorem walk_list(M:s.heap.IsList l items):WalkOk prog w s (.ref l) items.size (λi v=>items[i]?=some v):=λA E J Q L h=>by
 let#[o,e,r]:=M;let F:J.heap.IsList l items:=#[o,L _ _ e,r]
 have G:=lt_of_get e;let B:=lt_of_get (L _ _ e);exact wpAny_pyIter_list F (h _ [J.heap.objs.size,l] _ (λA Y=>Walks.list Y _ l (ne_of_lt B) items) #[#[_,qd _ rfl,rfl,rfl],F.push _] λb O=>by
  rcases qA.mp O with z|z
  .show .inl z
  .show .inr (by rw[qu.mp z];show G))
theorem walk_tuple(M:s.heap.IsTuple l items):WalkOk prog w s (.ref l) items.size (λi v=>items[i]?=some v):=λA E J Q L h=>by
 let#[o,e,r]:=M;let F:J.heap.IsTuple l items:=#[o,L _ _ e,r]
 have G:=lt_of_get e;let B:=lt_of_get (L _ _ e);exact wpAny_pyIter_tuple F (h _ [J.heap.objs.size,l] _ (λA Y=>Walks.tuple Y _ l (ne_of_lt B) items) #[#[_,qd _ rfl,rfl,rfl],let#[o,e,r]:=F;#[o,qc _ e,r]] λb O=>by
  rcases qA.mp O with z|z
  .show .inl z
  .show .inr (by rw[qu.mp z];show G))
end ST
theorem m1{α:Type}{a:α}{l:List α}:a∈a::l:=.head _
def Ff(i:Int)(n:Nat):max 0 (min (if i<0 then i+(n:Int)else i) (n:Int))=(((if i<0 then(i+(n:Int)).toNat else min i.toNat n):Nat):Int):=by
 by_cases h:i<0
 .rw[qY h,qY h,Int.min_eq_left ∅,Int.ofNat_toNat,Int.max_comm]
 .rw[qZ h,qZ h];let#[k,rfl]:=Int.eq_ofNat_of_zero_le (Int.not_lt.mp h);rw[qU];rcases Nat.le_total k n with q|q
  .rw[Nat.min_eq_left q,Int.min_eq_left (Int.ofNat_le.mpr q),Int.max_eq_right (Int.natCast_nonneg k)]
  .rw[Nat.min_eq_right q,Int.min_eq_right (Int.ofNat_le.mpr q),Int.max_eq_right (Int.natCast_nonneg n)]
theorem cps{A:Prop}(h:∀G:Prop,(A->G)->G):A:=h A id
namespace ST
open PySem PySem.SetTable
section
variable{prog:Program}{w:World}{A:Around}{E:zh}{s:Shared}{a b:Addr}{K:Type}[DecidableEq K]{knd:KeyKind prog w K}{ks:List K}{ld:Bool}{xs:List (List K×Addr)}
theorem setAddT(F:A.units<cLine)(v:IsTupleKey knd s.heap ks b)(Y:TSet ld (tupleKind knd) s.heap a xs)(z:xs.length<=150)
  (h1:ks∈xs.map (·.1)->∀tk r,s.toks<=tk->Q r {s with toks:=tk})
  (h2:ks∉xs.map (·.1)->∀h' ys tk r,Heap.SameBut a s.heap h'->ys.Perm ((ks,b)::xs)->TSet ld (tupleKind knd) h' a ys->s.toks<=tk->Q r {s with heap:=h',toks:=tk}):
  wpAny (model prog w) A (setAdd a (.ref b)) Q E s:=by
 show ze (qa ((tupleKind knd).pyHash F v ?_));show FP (s:={s with toks:=s.toks+(tupleKind knd).draws ks}) (knd:=tupleKind knd) (λv q=>Dp v q) (λv q=>DJ v q) (λv M O L=>Do v M O L) F v Y z (λB=>h1 B _ _ (le_add_right _ _)) λB h' ys G J T=>h2 B h' ys _ _ G J T (le_add_right _ _)
theorem call_add_of(B:s.TypeIs (.ref a) "set")(h:wpAny (model prog w) A.in1 (setAdd a v) (λ_ s'=>Q .none s') E s):wpAny (model prog w) A (call (.builtin "set.add") [.ref a,v]) Q E s:=by show zc F.slot_set_add B F.entry_set_add ?_ (F.args_set_add_2 _ _);unfold Builtin.«set.add» Builtin.Frozenset.oneOther;simp only[List.isEmpty_nil,bind_assoc];show qa (qb ?_);show qa (qb ?_);show qa (zg h (λr s' q=>qb #[_,rfl,q]) λ_ _ z=>z)
@[inline]def TRaw(ld:Bool)(knd:HeapKind prog w K)(h:Heap)(a:Addr)(xs:List (K×Addr)):Prop:=∃o es ep t,h.get? a=some o/\o.ExactSet/\o.data=.set es ep t/\t.led=ld/\fS t (es.toList.map (·.1))/\eE t es.size/\es.toList=dZ knd xs/\(xs.map (·.1)).Nodup
def TRaw.full{knd:HeapKind prog w K}{xs:List (K×Addr)}(x:TRaw ld knd h a xs)(k:∀x∈xs,knd.is h x.1 x.2):TSet ld knd h a xs:=by let#[o,es,ep,t,h1,h2,J,G,F,B,z,v]:=x;show#[o,es,ep,t,h1,h2,J,G,F,B,z,k,v]
def TSet.raw{knd:HeapKind prog w K}{xs:List (K×Addr)}(x:TSet ld knd h a xs):TRaw ld knd h a xs:=by let#[o,es,ep,t,h1,h2,J,G,F,B,z,k,v]:=x;show#[o,es,ep,t,h1,h2,J,G,F,B,z,v]
def VSet.len{xs:List (K×Value)}(x:VSet ld knd s.heap a xs)(hz:xs.length<=1000)(h:Q (.int xs.length (s.toks+1)) {s with toks:=s.toks+1+1}):wpAny (model prog w) A (call (.builtin "len") [.ref a]) Q E s:=by
 let#[o,es,ep,t,z,hex,F,T,B,_]:=x;let v:es.size=xs.length:=by rw[<-qT,B];simp[eM]
 show call_len_set z hex F T.fit (by rw[v];lia) (by rw[v];show h)
def TRaw.len{knd:HeapKind prog w K}{xs:List (K×Addr)}(x:TRaw ld knd s.heap a xs)(hz:xs.length<=1000)(h:Q (.int xs.length (s.toks+1)) {s with toks:=s.toks+1+1}):wpAny (model prog w) A (call (.builtin "len") [.ref a]) Q E s:=by
 let#[o,es,ep,t,z,hex,F,_,T,_,B,_]:=x;let v:es.size=xs.length:=by rw[<-qT,B];simp[dZ]
 show call_len_set z hex F (T.fits (by simp)) (by rw[v];lia) (by rw[v];show h)
end
instance okDec(m:Nat):Decidable (bH m):=by unfold bH;infer_instance
end ST
namespace ST
open PySem
def BL:entryFor table "dict.update.loop"=some Builtin.«dict.update.loop»:=entryFor_of_tree (by kernel_rfl)
def BK:plainId "dict.update.loop"=true:=by decide+kernel
theorem pair_items{t:Addr}{k y:Value}{Q:List Value->Shared->Prop}(v:s.heap.IsTuple t [k,y].toArray)(h:Q [k,y] s):wpAny (model prog w) A (Builtin.Dict.pairItems (.ref t)) Q E s:=by
 let#[o,e,c,r]:=v;let#[z,g,d,tk,os]:=s
 repeat (any_goals (first|assumption|wp_step))
 let#[n,r]:=r;rw[r];show qb (qb h)
def Dz{R:Result->Shared->Prop}{I:Addr}{fp wr:List Addr}{G:Array GenState->Array GenState->Prop}{n:Nat}{P:Nat->Value->Prop}{St:Nat->Shared->Prop}(W:WalksS prog w A.in1 I fp wr G n P St)(D:Addr)(hD:D∉fp){J:Nat->Heap->Prop}
  (stay:∀i h h',i<=n->J i h->(∀b o,b∉wr->h.get? b=some o->h'.get? b=some o)->J i h')
  (step:∀i v(s:Shared),i<n->P i v->J i s.heap->∃t k y,v=.ref t/\s.heap.IsTuple t [k,y].toArray/\
   ∀(Q:Unit->Shared->Prop)(E:zh),(∀h' tk,s.toks<=tk->Heap.SameBut D s.heap h'->J (i+1) h'->Q () {s with heap:=h',toks:=tk})->wpAny (model prog w) A.in1 (dictSet D k y) Q E s):
  ∀(k i:Nat)(j:Int)(s:Shared),n-i=k->i<=n->St i s->J i s.heap->(∀s',Moved (D::wr) G s s'->J n s'.heap->R (.ok (.ret .none)) s')->
   codeAny (model prog w) A (.builtin "dict.update.loop" #[[.ref D,.ref I,.int j 0,.none],[]]) R s:=by
 intro k;induction k with
 |zero=>
  intro i j s hk hi st hJ hR;let e:i=n:=∅
  subst e;show codeAny_builtin BL ?_;show qa (W.done s _ _ st λs' M=>?_);show qa (qb (qb (hR s' (M.mono λb F=>qk _ F) (stay _ _ _ (q5 _) hJ M.heap))))
 |succ k ih=>
  intro i j s hk hi st hJ hR;let B:i<n:=∅
  show codeAny_builtin BL ?_;show qa (W.item i s _ _ B st λv s' hP h1 M=>?_);show qa (ze ?_);let#[t,x,y,rfl,ht,hw]:=step i v s' B hP (stay _ _ _ hi hJ M.heap);show qa (wpAny_tryCatch (pair_items ht (ze (hw _ _ λh' tk O sb h3=>?_))));show qb #[plainId_quiet BK _,ih (i+1) _ _ ∅ B (W.frame _ s' _ _ h1 O λb F o e=>?_) h3 λh2 L Y=>?_]
  .rw[sb.2 b (λz=>hD (z▸F))];show e
  .show hR h2 (Moved.trans W.gtrans ((M.mono λb F=>qk _ F).then_heap O λb o F e=>?_) L) Y;rw[sb.2 b (λz=>F (z▸qm))];show e
def DV:typeLookup (.type "tuple") "keys"=pure none:=by rw[typeLookup_type,builtinLookup_eq_fast];kernel_rfl
def CH{prog:Program}{w:World}{A:Around}{E:zh}{s:Shared}{a:Addr}{xs:Array Value}{n:Nat}{B:Array _}{Q:Option Value->Shared->Prop}(M:A.handled=none)
  (G:s.heap.get? a=some {cls:=.type "tuple",data:=.seq xs n,slots:=B})(h:∀h' tk e,Heap.NewAttrErr s.heap h' e (.ref a) "keys"->Q none {s with heap:=h',toks:=tk}):
  wpAny (model prog w) A (getAttr? (.ref a) "keys") Q E s:=by
 let#[L,g,d,tk,os]:=s;let v:∀t,(#[L,g,d,t,os]:Shared).TypeIs (.ref a) "tuple":=λ_=>#[_,G,rfl]
 let q1:=sub_AttributeError;let q2:=F.slot_tuple_getattribute.lookup;let q3:=F.slot_tuple_getattribute.bind (.ref a);let q4:=am_tuple_getattr_none;unfold getAttr? getAttrBy? getAttrBy
 repeat (any_goals (first|assumption|show v _|((with_reducible show wpAny _ _ (call (Value.builtin "tuple.__getattribute__") _ _) _ _ _);show call_meets F.slot_tuple_getattribute (v _) am_entry_tuple_getattribute (F.args_tuple_getattribute_2 _ _) (meets_getattribute_miss_tuple a xs n B "keys" _ DV (by decide+kernel)) ⟨G,M,λh' J e z=>?_⟩)|wp_step))
 let#[Y,O,he]:=z.there;show wpAny _ _ (getattributeRaised _ _ _ _ _ _ _) _ _ _;unfold getattributeRaised
 repeat (any_goals (first|assumption|wp_step))
 show h _ _ _ z
theorem call_dictU{l:Addr}{xs:Array Value}{n0 B:Nat}{sl:Array _}{J:Nat->Heap->Prop}{Q:zh}(hA:A.handled=none)(hl:s.heap.get? l=some {cls:=.type "tuple",data:=.seq xs n0,slots:=sl})
  (h0:∀h,h.get? s.heap.objs.size=some {cls:=.type "dict",data:=.dict #[]}->(∀b o,s.heap.get? b=some o->h.get? b=some o)->J 0 h)
  (stay:∀i h h',J i h->(∀b o,b<=s.heap.objs.size->h.get? b=some o->h'.get? b=some o)->J i h')
  (step:∀(A:Around) i v(s':Shared),A.units<=B->i<xs.size->xs[i]?=some v->J i s'.heap->∃t k y,v=.ref t/\s'.heap.IsTuple t [k,y].toArray/\
   ∀(Q:Unit->Shared->Prop)(E:zh),(∀h' tk,s'.toks<=tk->Heap.SameBut s.heap.objs.size s'.heap h'->J (i+1) h'->Q () {s' with heap:=h',toks:=tk})->wpAny (model prog w) A (dictSet s.heap.objs.size k y) Q E s')
  (hB:A.units+20<=B)
  (h:∀(h':Heap)(tk:Nat),J xs.size h'->(∀b o,s.heap.get? b=some o->h'.get? b=some o)->Q (.ref s.heap.objs.size) {s with heap:=h',toks:=tk}):
  wpAny (model prog w) A (call (.type "dict") [.ref l]) Q E s:=by
 show callType_codes (Q₁:=λO L=>O=.ref s.heap.objs.size/\L={s with heap:=s.heap.push {cls:=.type "dict",data:=.dict #[]}}) F.kt_called_dict (F.kt_typeCall_dict_1 _) F.entry_dict_init (kt_code_dict_new _ #[rfl,rfl]) ?_;rintro O L ⟨rfl,rfl⟩;let hD:(s.heap.push {cls:=.type "dict",data:=.dict #[]}).get? s.heap.objs.size=some {cls:=.type "dict",data:=.dict #[]}:=qd _ rfl;let tD:Shared.TypeIs {s with heap:=s.heap.push {cls:=.type "dict",data:=.dict #[]}} (.ref s.heap.objs.size) "dict":=⟨_,hD,rfl⟩
 let M:=qc {cls:=.type "dict",data:=.dict #[]} hl;let tL:Shared.TypeIs {s with heap:=s.heap.push {cls:=.type "dict",data:=.dict #[]}} (.ref l) "tuple":=⟨_,M,rfl⟩
 show#[tD,F.args_dict_init_2 _ _,?_];show qa ?_;show qa (wpAny_notOrdered_dict tD ?_);show qb ?_;show wpAny _ _ (Builtin.Dict.updateFrom "dict.__init__" s.heap.objs.size (.ref l) [] .none) _ _ _;show qa (wpAny_typeOf tL ?_);show qa (CH hA M λh2 h4 e hn=>?_);let h1:({s with heap:=h2,toks:=h4}:Shared).heap.IsTuple l xs:=⟨_,hn.keeps _ _ M,rfl,_,rfl⟩
 have h3:=hn.keeps _ _ hD;let G:s.heap.objs.size<h2.objs.size:=lt_of_get h3;let Y:l<s.heap.objs.size:=lt_of_get hl;show qa (wpAny_rule (qa (wpAny_pyIter_tuple h1 ?_)));show qb #[plainId_quiet BK _,?_];refine Dz (W:=(Walks.tuple (A:=A.in1.in1) hA h2.objs.size l (ne_of_lt (lt_trans Y G)) xs).toS) s.heap.objs.size (λz=>?_) (J:=J) (λi h h' _ hJ hk=>stay i h h' hJ λb o hb e=>hk b o (λz=>?_) e)
  (λi v s' hi hP hJ=>step _ i v s' (by show A.units+1+1<=B;lia) hi hP hJ) (xs.size-0) 0 _ _ rfl (zero_le _) #[#[_,qd _ rfl,rfl,rfl],h1.push _] (h0 _ (qc _ h3) λb o e=>qc _ (hn.keeps _ _ (qc _ e))) λs' hm hJ=>?_
 .rcases qA.mp z with z|z
  .show ne_of_lt G z
  .show ne_of_gt Y (qu.mp z)
 .show absurd (qu.mp z) (ne_of_lt (lt_of_le_of_lt hb G))
 .obtain⟨h',g',d',h5,h6⟩:=s';let eg:g'=s.gens:=hm.gens;let ed:d'=s.drawn:=hm.drawn;let eo:h6=s.os:=hm.os;subst eg ed eo;show#[rfl,h h' h5 hJ λb o e=>?_];let hb:=lt_of_get e;show hm.heap b o (λz=>?_) (qc _ (hn.keeps _ _ (qc _ e)));rcases qA.mp z with z|z
  .show ne_of_lt hb z
  .show ne_of_lt (lt_trans hb G) (qu.mp z)
theorem walk_str(x:Str)(t:Tok):WalkOk prog w s (.str x t) x.cps.size (SignAt x):=λA E v Q B h=>wpAny_pyIter_str λo St W st=>h o [v.heap.objs.size] St W st λb z=>.inl (qu.mp z)
end ST
namespace L2
open PySem PySem.Spec PyProof.Rows
abbrev aK:=Sum Int Str
def fB:aK->Value->Bool
 |.inl k,v=>Value.isInt k v
 |.inr x,v=>Value.isStrOf x v
def yN(w:World):aK->Int
 |.inl k=>hashInt k
 |.inr x=>hashStr w x
def Er:∀{k:aK}{v:Value},fB k v=true->(∃i t,k=Sum.inl i/\v=Value.int i t)\/(∃x t,k=Sum.inr x/\v=Value.str x t)
 |.inl i,v,h=>by let#[t,e]:=Value.isInt_shape (k:=i) (v:=v) h;show .inl #[i,t,rfl,e]
 |.inr x,v,h=>by let#[t,e]:=Value.isStrOf_shape (x:=x) (v:=v) h;show .inr #[x,t,rfl,e]
def RK(i:Int)(t:Tok):fB (.inl i) (.int i t)=true:=by simp[fB,Value.isInt]
def Sr(x:Str)(t:Tok):fB (.inr x) (.str x t)=true:=by simp[fB,Value.isStrOf]
def NR(a b:Int):decide ((Sum.inl a:aK)=Sum.inl b)=(a==b):=by grind
def OK(a b:Str):decide ((Sum.inr a:aK)=Sum.inr b)=decide (a=b):=by grind
def NW(a:Int)(b:Str):decide ((Sum.inl a:aK)=Sum.inr b)=false:=qQ (λq=>nomatch q)
def NY(a:Str)(b:Int):decide ((Sum.inr a:aK)=Sum.inl b)=false:=qQ (λq=>nomatch q)
def aE(prog:Program)(w:World):PySem.KeyKind prog w aK where
 is:=fB
 hash:=yN w
 inj:=λv a b ha hb=>by
  rcases Er ha with⟨i,t,rfl,rfl⟩|⟨x,t,rfl,rfl⟩
  .rcases Er hb with⟨j,u,rfl,e⟩|⟨y,u,rfl,e⟩
   .injection e with e1 _;rw[e1]
   .show nomatch e
  .rcases Er hb with⟨j,u,rfl,e⟩|⟨y,u,rfl,e⟩
   .show nomatch e
   .injection e with e1 _;rw[e1]
 byValue:=λk v h=>by rcases Er h with⟨i,t,rfl,rfl⟩|⟨x,t,rfl,rfl⟩<;>rfl
 pyHash:=λhv h=>by
  rcases Er hv with⟨i,t,rfl,rfl⟩|⟨x,t,rfl,rfl⟩
  .show wpAny_pyHash_int h
  .show wpAny_pyHash_str h
 eqBool:=λhu hv h=>by
  rcases Er hu with⟨i,t,rfl,rfl⟩|⟨x,t,rfl,rfl⟩
  .rcases Er hv with⟨j,u,rfl,rfl⟩|⟨y,u,rfl,rfl⟩
   .rw[NR]at h;show wpAny_eqBool_int h
   .rw[NW]at h;show SeqAt.EqAt.int_str i t y u _ _ _ _ h
  .rcases Er hv with⟨j,u,rfl,rfl⟩|⟨y,u,rfl,rfl⟩
   .rw[NY]at h;show SeqAt.EqAt.str_int x t j u _ _ _ _ h
   .rw[OK]at h;show wpAny_eqBool_str h
 «strs»:=λk x t v h=>by
  rcases Er h with⟨i,u,rfl,e⟩|⟨y,u,rfl,e⟩
  .show nomatch e
  .injection e with e1 _
   subst e1;cases v<;>rfl
def Su(prog:Program)(w:World)(i:Int)(t:Tok):(aE prog w).is (.inl i) (.int i t)=true:=RK i t
def Sx(prog:Program)(w:World)(x:Str)(t:Tok):(aE prog w).is (.inr x) (.str x t)=true:=Sr x t
inductive V where
 |non|bl(b:Bool)|int(i:Int)|str(x:Str)|byt(b:Array UInt8)|flt(b:UInt64)|ref(a:Addr)|ty(n:String)
 deriving DecidableEq
def zt:V->Value->Prop
 |.non,u=>u=Value.none
 |.bl b,u=>u=Value.bool b
 |.int i,u=>∃t,u=Value.int i t
 |.str x,u=>∃t,u=Value.str x t
 |.byt b,u=>∃t,u=Value.bytes b t
 |.flt b,u=>∃t,u=Value.float b t
 |.ref a,u=>u=Value.ref a
 |.ty n,u=>u=Value.type n
abbrev zz:List V->List Value->Prop:=Paired zt
def zz.length(r:zz xs v):xs.length=v.length:=Paired.length r
def zz.get:∀{xs:List V}{v:List Value}{i:Nat}{x:V},zz xs v->xs[i]?=some x->∃u,v[i]?=some u/\zt x u
 |_,_,_,_,.nil,e=>by simp at e
 |_,_,0,_,.cons r _,e=>by simp at e;subst e;show#[_,rfl,r]
 |_,_,i+1,x,.cons _ t,e=>by let#[u,h1,h2]:=zz.get (i:=i) (x:=x) t ↑e;show#[u,↑h1,h2]
def zz.set(r:zt x u):∀{xs:List V}{v:List Value}(i:Nat),zz xs v->zz (xs.set i x) (v.set i u)
 |_,_,_,.nil=>.nil
 |_,_,0,.cons _ t=>.cons r t
 |_,_,i+1,.cons q t=>.cons q (zz.set r i t)
def zz.append:∀{xs ys:List V}{z v:List Value},zz xs z->zz ys v->zz (xs++ys) (z++v):=by
 intro xs ys z v r s;induction r with
 |nil=>show s
 |cons r _ B=>show .cons r B
def zz.take:∀{xs:List V}{v:List Value}(n:Nat),zz xs v->zz (xs.take n) (v.take n)
 |_,_,0,_=>.nil
 |_,_,_+1,.nil=>.nil
 |_,_,n+1,.cons r t=>.cons r (zz.take n t)
def zz.drop:∀{xs:List V}{v:List Value}(n:Nat),zz xs v->zz (xs.drop n) (v.drop n)
 |_,_,0,r=>r
 |_,_,_+1,.nil=>.nil
 |_,_,n+1,.cons _ t=>zz.drop n t
def zz.none_of:∀{xs:List V}{v:List Value}{i:Nat},zz xs v->xs[i]?=none->v[i]?=none:=λ{xs v i} r e=>by let h1:=r.length;let h2:xs.length<=i:=List.getElem?_eq_none_iff.mp e;show List.getElem?_eq_none_iff.mpr ∅
def eB:Option V->Option Value->Prop
 |some v,some u=>zt v u
 |none,none=>True
 |_,_=>False
@[inline]def KV{κ:Type}:List (κ×V)->List (κ×Value)->Prop:=Paired λ(p:κ×V)(q:κ×Value)=>p.1=q.1/\zt p.2 q.2
def kV:aK->V
 |.inl i=>.int i
 |.inr x=>.str x
inductive HO where
 |lst(xs:List V)
 |tup(xs:List V)
 |dK(zD:List (aK×V))|dT(zD:List (List aK×V))
 |set(vs:List V)
 |ins(C dx:Addr)(fs:List (Str×V))
 |own(x:Addr)
 |xd(fs:List (Str×V))
 |met(f x:Addr)
 |rng(lo hi:Int)
 |frz(o:Obj)(u:HO)
 |tbl(ps:Array Value)
 |ext(φ:Heap->Prop)
abbrev Hp:=Addr->Option HO
def upd(H:Hp)(a:Addr)(o:HO):Hp:=λb=>if b=a then some o else H b
def Bx:upd H a o a=some o:=by unfold upd;rw[qY rfl]
def Ak(h:b≠a):upd H a o b=H b:=by unfold upd;rw[qZ h]
def JL{H:Hp}(h:H a=some o)(h':H b=some u)(d:o≠u):a≠b:=by grind
def DE{H:Hp}(h:H a=some o)(h':H b=none):a≠b:=by intro e;subst e;rw[h]at h';cases h'
section
variable(P:Program)(w:World)
def iG(h:Heap)(a:Addr):Prop:=∀o,h.get? a=some o->o.dict=none
def iG.new{h:Heap}{c:Value}{x:Data}{n:Addr}(e:n=h.objs.size)(v:(h.push {cls:=c,data:=x}).get? h.objs.size=some {cls:=c,data:=x}):iG (h.push {cls:=c,data:=x}) n:=λo q=>by subst e;rw[v]at q;cases q;rfl
def zB(H:Hp)(h:Heap)(a:Addr):HO->Prop
 |.lst xs=>xs.length<=sizeLine/\∃(z:List Value)(n:Nat),zz xs z/\h.get? a=some {cls:=.type "list",data:=.seq z.toArray n}
 |.tup xs=>(xs.length<=sizeLine/\iG h a)/\∃z:List Value,zz xs z/\IsTup h a z.toArray
 |.dK zD=>zD.length<=sizeLine/\(a==sysModules)=false/\∃vs,KV zD vs/\h.DictOf (aE P w) a vs
 |.dT zD=>zD.length<=sizeLine/\(a==sysModules)=false/\∃xs:List (List aK×Addr×Value),
  Paired (λ(p:List aK×V)(q:List aK×Addr×Value)=>p.1=q.1/\H q.2.1=some (.tup (p.1.map kV))/\zt p.2 q.2.2) zD xs/\
  ∃o es ep,h.get? a=some o/\o.ExactDict/\o.data=.dict es ep/\es.toList=xs.map (entryOfKey (tupleKind (aE P w)))/\(xs.map (·.1)).Nodup
 |.set vs=>vs.length<=151/\((vs=[]/\h.get? a=some (ST.freshSet (ST.ldOf w)))\/(vs≠[]/\∃xs:List (aK×Value),vs.Perm (xs.map λp=>kV p.1)/\ST.VSet (ST.ldOf w) (aE P w) h a xs)\/vs≠[]/\∃xs:List (List aK×Addr),vs.Perm (xs.map λp=>V.ref p.2)/\(∀p∈xs,H p.2=some (.tup (p.1.map kV)))/\ST.TRaw (ST.ldOf w) (tupleKind (aE P w)) h a xs)
 |.ins C dx fs=>H dx=some (.own a)/\fs.length<=1000/\dx≠a/\h.get? a=some (W.instObj C dx)/\
  ∃B,h.Ns1 dx B/\(∀f,eB (fs.lookup f) (B f))/\PySem.Within B (fs.map (·.1))
 |.own _=>∃o,h.get? a=some o
 |.xd fs=>∃B,h.Ns1 a B/\∀f,eB (fs.lookup f) (B f)
 |.rng lo hi=>∃t u v,h.get? a=some {cls:=.type "range",data:=.fields [.int lo t,.int hi u,.int 1 v].toArray}
 |.frz o u=>h.get? a=some o/\zB H h a u
 |.tbl ps=>h.get? a=some {cls:=.none,data:=.fields ps}
 |.met f x=>h.get? a=some (W.methodObj (.ref f) (.ref x))
 |.ext φ=>φ h/\(∃o,h.get? a=some o)/\∀h1 h2:Heap,φ h1->(∀o,h1.get? a=some o->h2.get? a=some o)->φ h2
def dP(H:Hp)(h:Heap):Prop:=∀a o,H a=some o->zB P w H h a o
end
section
variable{P:Program}{w:World}{H H':Hp}{h h':Heap}{a:Addr}{o:HO}
def zB.lt(x:zB P w H h a o):a<h.objs.size:=by
 cases o with
 |lst xs=>let#[_,_,_,_,e]:=x;show qe e
 |tup xs=>let#[_,_,_,p]:=x;show p.lt
 |dK v=>let#[_,_,_,_,o,_,_,e,_]:=x;show qe e
 |dT v=>let#[_,_,_,_,o,_,_,e,_]:=x;show qe e
 |set z=>
  rcases x with⟨_,⟨_,e⟩|⟨_,_,_,_,_,_,_,e,_⟩|⟨_,_,_,_,_,_,_,_,e,_⟩⟩
  .show qe e
  .show qe e
  .show qe e
 |ins C F fs=>let#[_,_,_,e,_]:=x;show qe e
 |own y=>let#[_,e]:=x;show qe e
 |xd fs=>let#[_,#[_,_,_,e,_],_]:=x;show qe e
 |rng lo hi=>let#[_,_,_,e]:=x;show qe e
 |frz B u=>let#[e,_]:=x;show qe e
 |tbl ps=>show qe (show h.get? a=some _ from x)
 |met f y=>show qe (show h.get? a=some _ from x)
 |ext φ=>let#[_,#[_,e],_]:=x;show qe e
def Paired.mapP:∀{l₁:List α}{l₂:List β},Paired F l₁ l₂->(∀a b,F a b->G a b)->Paired G l₁ l₂
 |_,_,.nil,_=>.nil
 |_,_,.cons r t,f=>.cons (f _ _ r) (Paired.mapP t f)
def zB.stay(x:zB P w H h a o)(k:∀b u,(b=a\/H b=some (.own a))->h.get? b=some u->h'.get? b=some u)
  (ho:∀b,H b=some (.own a)->H' b=some (.own a))(O:∀b xs,H b=some (.tup xs)->H' b=some (.tup xs)):zB P w H' h' a o:=by
 induction o with
 |lst xs=>let#[z,F,n,r,e]:=x;show#[z,F,n,r,k _ _ (.inl rfl) e]
 |tup xs=>let#[#[z,nd],F,r,B,e,c]:=x;show#[#[z,λo q=>by rw[k _ _ (.inl rfl) e]at q;cases q;show nd _ e],F,r,B,k _ _ (.inl rfl) e,c]
 |dK L=>let#[z,y,M,r,B,es,ep,e,c]:=x;show#[z,y,M,r,B,es,ep,k _ _ (.inl rfl) e,c]
 |dT L=>let#[z,y,xs,r,B,es,ep,e,c]:=x;show#[z,y,xs,Paired.mapP r λp q z=>#[z.1,O _ _ z.2.1,z.2.2],B,es,ep,k _ _ (.inl rfl) e,c]
 |set M=>
  rcases x with⟨z,⟨n,e⟩|⟨n,xs,p,B,es,ep,t,e,c⟩|⟨n,xs,p,hx,B,es,ep,t,e,c⟩⟩
  .show#[z,.inl #[n,k _ _ (.inl rfl) e]]
  .show#[z,.inr (.inl #[n,xs,p,B,es,ep,t,k _ _ (.inl rfl) e,c])]
  .show#[z,.inr (.inr #[n,xs,p,λq hq=>O _ _ (hx q hq),B,es,ep,t,k _ _ (.inl rfl) e,c])]
 |ins C dx fs=>let#[d,z,Y,e,J,#[G,es,ep,e2,c],r]:=x;show#[ho _ d,z,Y,k _ _ (.inl rfl) e,J,#[G,es,ep,k _ _ (.inr d) e2,c],r]
 |own y=>let#[B,e]:=x;show#[B,k _ _ (.inl rfl) e]
 |xd fs=>let#[J,#[G,es,ep,e,c],r]:=x;show#[J,#[G,es,ep,k _ _ (.inl rfl) e,c],r]
 |rng lo hi=>let#[t,u,v,e]:=x;show#[t,u,v,k _ _ (.inl rfl) e]
 |frz B u ih=>let#[e,q]:=x;show#[k _ _ (.inl rfl) e,ih q]
 |tbl ps=>have e:h.get? a=some {cls:=.none,data:=.fields ps}:=x;show h'.get? a=some {cls:=.none,data:=.fields ps};show k a _ (.inl rfl) e
 |met f y=>have e:h.get? a=some (W.methodObj (.ref f) (.ref y)):=x;show h'.get? a=some (W.methodObj (.ref f) (.ref y));show k a _ (.inl rfl) e
 |ext φ=>let#[p,#[o,e],st]:=x;show#[st _ _ p λo q=>k _ _ (.inl rfl) q,#[o,k _ _ (.inl rfl) e],st]
def dP.lt(x:dP P w H h)(e:H a=some o):a<h.objs.size:=(x a o e).lt
def dP.fresh(x:dP P w H h)(e:h.objs.size<=a):H a=none:=by
 cases q:H a with
 |none=>rfl
 |some u=>show absurd (lt_of_lt_of_le (x.lt q) e) (lt_irrefl _)
def dP.kept(x:dP P w H h)(k:∀b u,h.get? b=some u->h'.get? b=some u):dP P w H h':=λa o e=>(x a o e).stay (λb u _ q=>k b u q) (λ_ q=>q) λ_ _ q=>q
def dP.laid(x:dP P w H h)(k:∀b u,h.get? b=some u->h'.get? b=some u)(F:h.objs.size<=a)(new:zB P w (upd H a o) h' a o):dP P w (upd H a o) h':=λb u e=>by
 let z:=x.fresh F;by_cases B:b=a
 .subst B;rw[Bx]at e;cases e;show new
 .rw[Ak B]at e;show(x b u e).stay (λc v _ q=>k c v q) (λc q=>by rw[Ak (DE q z)];show q) λc xs q=>by rw[Ak (DE q z)];show q
end
@[inline]def Rd(H:Hp)(a:Addr)(u:HO):Prop:=H a=some u\/∃o,H a=some (.frz o u)
def Rd.of(h:H a=some u):Rd H a u:=.inl h
def Rd.ok(r:Rd H a u)(x:dP P w H h):zB P w H h a u:=by
 rcases r with r|⟨o,r⟩
 .show x a u r
 .obtain⟨_,q⟩:=x a _ r;show q
def vD:Option HO->Prop
 |some (.lst _)=>True
 |some (.dK _)=>True
 |some (.dT _)=>True
 |some (.set _)=>True
 |some (.ins _ _ _)=>True
 |some (.ext _)=>True
 |_=>False
section
variable{P:Program}{w:World}{H:Hp}{h h':Heap}{x e:Addr}{o':HO}
def dP.write(ok:dP P w H h)(G:vD (H x))(he:e=x\/H e=some (.own x))(k:∀b u,b≠e->h.get? b=some u->h'.get? b=some u)(J:∃u,h'.get? e=some u)
  (new:zB P w (upd H x o') h' x o'):dP P w (upd H x o') h':=λb u q=>by
 let F:∀c y,H c=some (.own y)->c≠x:=λc y r z=>by subst z;rw[r]at G;show G
 let B:∀c xs,H c=some (.tup xs)->c≠x:=λc xs r z=>by subst z;rw[r]at G;show G
 by_cases O:b=x
 .subst O;rw[Bx]at q;cases q;show new
 .rw[Ak O]at q;by_cases L:b=e
  .let M:H b=some (.own x):=by grind
   rw[q]at M;cases M;let#[v,Y]:=J;show#[v,by rw[L];show Y]
  .show(ok b u q).stay (λc v hc r=>k c v ?_ r) (λc r=>by rw[Ak (F c b r)];show r) λc xs r=>by rw[Ak (B c xs r)];exact r
   grind
end
structure Un(fs ex:List Addr)(H H':Hp)(h h':Heap):Prop where
 keep:∀b o,h.get? b=some o->H b=none->b∉fs->b∉ex->h'.get? b=some o
 slot:∀b o,h.get? b=some o->H b=none->b∈fs->b∉ex->∃sl,h'.get? b=some {o with slots:=sl}
 free:∀b o,h.get? b=some o->H b=none->b∉ex->H' b=none
 there:∀b o,h.get? b=some o->b∉ex->∃o',h'.get? b=some o'
 tups:∀b xs,H b=some (.tup xs)->H' b=some (.tup xs)
 frzs:∀b o u,H b=some (.frz o u)->H' b=some (.frz o u)
 tbls:∀b ps,H b=some (.tbl ps)->∃more,H' b=some (.tbl (ps++more))
section
variable{fs fs' ex ex':List Addr}{H H1 H2:Hp}{h h1 h2 h':Heap}{a x e:Addr}{o:HO}
def Un.any(u:Un fs ex H H1 h h1)(q:h.get? b=some v)(n:H b=none)(z:b∉ex):∃F,h1.get? b=some {v with slots:=F}:=by
 by_cases B:b∈fs
 .show u.slot b v q n B z
 .show#[v.slots,u.keep b v q n B z]
def Un.kept(k:∀b u,h.get? b=some u->h'.get? b=some u):Un fs ex H H h h':=
 #[λb v q _ _ _=>k b v q,λb v q _ _ _=>#[v.slots,k b v q],λ_ _ _ n _=>n,λb v q _=>#[v,k b v q],λ_ _ q=>q,λ_ _ _ q=>q,λ_ ps q=>#[#[],by rw[q];simp]]
def Un.refl:Un fs ex H H h h:=Un.kept λ_ _ q=>q
def Un.laid(k:∀b u,h.get? b=some u->h'.get? b=some u)(hp:h.objs.size<=a)(hn:H a=none):Un fs ex H (upd H a o) h h' where
 keep:=λb u q _ _ _=>k b u q
 slot:=λb u q _ _ _=>#[u.slots,k b u q]
 free:=λb u q n _=>by rw[Ak (ne_of_lt (lt_of_lt_of_le (qe q) hp))];show n
 there:=λb u q _=>#[u,k b u q]
 tups:=λb xs q=>by rw[Ak (DE q hn)];show q
 frzs:=λb u xs q=>by rw[Ak (DE q hn)];show q
 tbls:=λb ps q=>#[#[],by rw[Ak (DE q hn),q];simp]
def Un.write(v:vD (H x))(L:e=x\/H e=some (.own x))(k:∀b u,b≠e->h.get? b=some u->h'.get? b=some u)(J:∃u,h'.get? e=some u):Un fs ex H (upd H x o) h h':=by
 let G:∀b,H b=none->b≠x:=λb n z=>by subst z;rw[n]at v;show v
 let F:∀b,H b=none->b≠e:=λb n z=>by grind
 let B:∀b u,H b=some u->¬vD (some u)->b≠x:=λb u q nm z=>by subst z;rw[q]at v;show nm v
 refine⟨λb u q n _ _=>k b u (F b n) q,λb u q n _ _=>#[u.slots,k b u (F b n) q],λb u q n _=>by rw[Ak (G b n)];exact n,λb u q _=>?_,
  λb xs q=>by rw[Ak (B b _ q λz=>z)];show q,λb u xs q=>by rw[Ak (B b _ q λz=>z)];show q,λb ps q=>#[#[],by rw[Ak (B b _ q λz=>z),q];simp]⟩
 grind
end
def wW(h:Heap)(H:Hp):List Addr:=(List.range h.objs.size).filter λa=>(H a).isSome
def fZ(h:Heap)(H:Hp):Heap:=W.hideAll h (wW h H)
def Sh(h:Heap)(H:Hp):(fZ h H).objs.size=h.objs.size:=W.hideAll_size _ _
def QW(e:h.get? b=some o)(n:H b=none):(fZ h H).get? b=some o:=
 W.hideAll_get _ e λv=>by let q:(H b).isSome=true:=(mem_filter.mp v).2;rw[n]at q;simp at q
def PH(e:(fZ h H).get? b=some o):h.get? b=some o/\H b=none:=by
 let v:h.get? b=some o:=W.of_hideAll (wW h H) e;show#[v,?_];cases q:H b with
 |none=>rfl
 |some x=>grind[wW,mem_filter,mem_range,Heap.lt_size,fZ,W.hideAll_none]
def nN(g h:Heap)(L:Addr):List (Addr×Obj):=(List.range h.objs.size).filterMap λa=>if a=L\/(g.get? a).isSome=true then none else(h.get? a).map λo=>(a,o)
def rest(g h:Heap)(L d:Addr):List (Addr×Obj):=(nN g h L).filter λp=>decide (p.1≠d)
structure Mod(K:W.Frag)(mg:Str->Option Value)(base:Heap):Prop where
 kin:K.In base
 glob:base.Ns mainGlobals mg
 blt:∃mb,base.Ns builtinsNs mb/\∀x:Str,x≠"__name__"->mb x=bootBuiltins x
 nolimit:base.NoLimit
structure Cx where
 prog:Program
 w:World
 K:W.Frag
 mg:Str->Option Value
 base:Heap
 A:Around
 N:List Str
 s₀:Shared
 H₀:Hp
 env:Env
 outer:List Env
 stack:List Env
 ex:List Addr
 fn:Str->Bool
 calm:Bool
 pn:List (Addr×Obj)
 xe:zh
def lJ(l:List Env):List Addr:=l.filterMap (·.frame)
abbrev Cx.fs(X:Cx):List Addr:=lJ X.outer
def uT(v:Scope)(x:Str):Prop:=v.names.lookup x=some .local\/v.names.lookup x=some .cell\/v.names.lookup x=some .free
@[inline]def Loc(v:Scope)(x:Str):Prop:=v.names.lookup x=some .local\/v.names.lookup x=some .cell
@[inline]def Look(env:Env)(h:Heap)(m:Str->Option Value)(x:Str)(u:Value):Prop:=
 (env.kindOf x=some .local/\m x=some u)\/((env.kindOf x=some .cell\/env.kindOf x=some .free)/\∃c,env.cells.lookup x=some c/\h.IsCell c (some u))
structure Cx.Ok(X:Cx):Prop where
 mod:Mod X.K X.mg X.base
 kind:X.env.scope.kind=.function
 glob:X.env.globals=mainGlobals
 blt:X.env.builtins=builtinsNs
 above:X.s₀.heap.objs.size<=X.env.locals
 inj:∀x y c,X.env.cells.lookup x=some c->X.env.cells.lookup y=some c->x=y
 has:∀x,(X.env.kindOf x=some .cell\/X.env.kindOf x=some .free)->∃c,X.env.cells.lookup x=some c
 cab:∀x c,X.fn x=true->X.env.cells.lookup x=some c->X.s₀.heap.objs.size<=c
 hd:X.calm=true->X.A.handled=none
 frames:X.A.frames=some X.stack
 stk:X.stack=X.outer\/(X.stack=X.env::X.outer/\X.env.frame=some X.env.locals)
 exf:∀b∈X.ex,b≠X.env.locals/\∀x c,X.env.cells.lookup x=some c->c≠b
 bs:∀b o,X.base.get? b=some o->X.s₀.heap.get? b=some o/\X.H₀ b=none
 bsz:X.base.objs.size<=X.s₀.heap.objs.size
 noex:∀b o,X.base.get? b=some o->b∉X.ex
 exfs:∀b∈X.ex,b∉X.fs
 funs:X.s₀.heap.FunFrames X.base X.outer
 frf:∀b∈X.fs,X.H₀ b=none
structure Inv(X:Cx)(zC:List (Addr×Obj))(Z:List (Option V))(H:Hp)(s:Shared):Prop where
 ok:X.Ok
 os:s.os=X.s₀.os
 bare:AllBare s.gens
 base:Un X.fs X.ex X.H₀ H X.s₀.heap s.heap
 loc:∃m,s.heap.Ns X.env.locals m/\∀(i:Nat)(x:Str)(v:V),X.N[i]?=some x->Z[i]?=some (some v)->uT X.env.scope x->∃u,zt v u/\Look X.env s.heap m x u
 cell:∀x c,X.env.cells.lookup x=some c->∃v,s.heap.IsCell c v
 free:H X.env.locals=none
 freeC:∀x c,X.env.cells.lookup x=some c->H c=none
 pin:∀p∈X.pn++zC,s.heap.get? p.1=some p.2/\H p.1=none/\p.1≠X.env.locals/\p.1∉X.fs/\∀v,p.2.data≠.cell v
 hok:dP X.prog X.w H s.heap
 len:Z.length=X.N.length
section
variable{X:Cx}{zC:List (Addr×Obj)}{Z:List (Option V)}{H H':Hp}{s:Shared}{h':Heap}
def Cx.Ok.nofr(ok:X.Ok)(e:X.base.get? b=some o):b∉X.fs:=λv=>by let:=(ok.funs.mem v).1;rw[e]at this;cases this
def Inv.bs(I:Inv X zC Z H s):∀b o,X.base.get? b=some o->s.heap.get? b=some o/\H b=none:=λb o e=>#[I.base.keep b o (I.ok.bs b o e).1 (I.ok.bs b o e).2 (I.ok.nofr e) (I.ok.noex b o e),I.base.free b o (I.ok.bs b o e).1 (I.ok.bs b o e).2 (I.ok.noex b o e)]
def Inv.bk(I:Inv X zC Z H s):∀b o,X.base.get? b=some o->s.heap.get? b=some o:=λb o e=>(I.bs b o e).1
def Inv.mod(I:Inv X zC Z H s):Mod X.K X.mg X.base:=I.ok.mod
def Inv.kIn(I:Inv X zC Z H s):X.K.In s.heap:=I.ok.mod.kin.keeps I.bk
def Inv.lt(I:Inv X zC Z H s):X.env.locals<s.heap.objs.size:=let⟨_,hn,_⟩:=I.loc;hn.lt
def Inv.sz(I:Inv X zC Z H s):X.s₀.heap.objs.size<=s.heap.objs.size:=le_trans I.ok.above (le_of_lt I.lt)
def Inv.nofs(I:Inv X zC Z H s)(h:s.heap.objs.size<=a):a∉X.fs:=λz=>by let#[_,o,v,_]:=I.ok.funs.mem z;show absurd (lt_of_lt_of_le (qe v) (le_trans I.sz h)) (lt_irrefl _)
def Inv.cne(I:Inv X zC Z H s):∀x c,X.env.cells.lookup x=some c->c≠X.env.locals:=λx c e z=>by let#[v,o,G,J]:=I.cell x c e;let#[m,#[o',es,ep,B,F,_],_]:=I.loc;rw[z,B]at G;cases G;rw[F]at J;cases J
def Inv.funs(I:Inv X zC Z H s):s.heap.FunFrames X.base X.outer:=by
 have all:∀(l:List Env),(∀b∈lJ l,b∈X.fs)->X.s₀.heap.FunFrames X.base l->s.heap.FunFrames X.base l:=by
  intro l;induction l with
  |nil=>intro _ _;trivial
  |cons h1 r J=>intro G hl;let#[hk,#[L,o,v,Y,O,hd],M]:=hl;let F:L∈X.fs:=G L (by unfold lJ;rw[filterMap_cons,v];show qm);let#[sl,e]:=I.base.slot L o O (I.ok.frf L F) F λz=>I.ok.exfs L z F;show#[hk,#[L,_,v,Y,e,hd],J (λb B=>G b (by unfold lJ;rw[filterMap_cons,v];show qk _ B)) M]
 show all X.outer (λ_ B=>B) I.ok.funs
def Inv.stack(I:Inv X zC Z H s):s.heap.FunFrames X.base X.stack:=by
 rcases I.ok.stk with e|⟨e,z⟩
 .rw[e];show I.funs
 .rw[e];let#[m,v,_]:=I.loc;show .cons (by rw[I.ok.kind];decide) z v ?_ I.funs;show Heap.get?_none_of_le (le_trans I.ok.bsz I.ok.above)
def Inv.stkSub(I:Inv X zC Z H s):∀b∈lJ X.stack,b∈X.env.locals::X.fs:=λb v=>by
 rcases I.ok.stk with e|⟨e,z⟩
 .rw[e]at v;show qk _ v
 .rw[e]at v;unfold lJ at v;rw[filterMap_cons,z]at v;show v
def Inv.stkFree(I:Inv X zC Z H s):∀b∈lJ X.stack,H b=none:=λb v=>by
 rcases qA.mp (I.stkSub b v)with e|v
 .rw[e];show I.free
 .obtain⟨_,o,B,_⟩:=I.ok.funs.mem v;show I.base.free b o B (I.ok.frf b v) λz=>I.ok.exfs b z v
def Inv.step{ch:List Addr}(I:Inv X zC Z H s)
  (J:∀b∈ch,(b∈X.ex\/X.s₀.heap.get? b=none)/\b≠X.env.locals/\(∀x c,X.env.cells.lookup x=some c->c≠b)/\∀p∈X.pn++zC,p.1≠b)
  (G:∀b o,b≠X.env.locals->b∉X.fs->b∉ch->s.heap.get? b=some o->H b=none->h'.get? b=some o)
  (slot:∀b o,b≠X.env.locals->b∈X.fs->b∉ch->s.heap.get? b=some o->H b=none->∃sl,h'.get? b=some {o with slots:=sl})(free:∀b o,b∉ch->s.heap.get? b=some o->H b=none->H' b=none)
  (there:∀b o,b∉ch->s.heap.get? b=some o->∃o',h'.get? b=some o')
  (h1:∀b xs,H b=some (.tup xs)->H' b=some (.tup xs))(h4:∀b o u,H b=some (.frz o u)->H' b=some (.frz o u))(h2:∀b ps,H b=some (.tbl ps)->∃more,H' b=some (.tbl (ps++more)))
  (ns:∀m,s.heap.Ns X.env.locals m->h'.Ns X.env.locals m)(h6:dP X.prog X.w H' h')(hg:AllBare g'):
  Inv X zC Z H' {s with heap:=h',gens:=g',drawn:=d',toks:=t'}:=by
 have h3:∀b o,X.s₀.heap.get? b=some o->b≠X.env.locals:=λb o e=>ne_of_lt (lt_of_lt_of_le (qe e) I.ok.above);let M:∀b o,X.s₀.heap.get? b=some o->b∉X.ex->b∉ch:=λb o e B Y=>by
  rcases(J b Y).1 with z|z
  .show B z
  .rw[z]at e;cases e
 have L:∀x c,X.env.cells.lookup x=some c->∀v,s.heap.IsCell c v->h'.IsCell c v:=λx c e v⟨o,ho,hd⟩=>by
  let F:c∉ch:=λz=>(J c z).2.2.1 x c e rfl;by_cases hc:c∈X.fs
  .obtain⟨sl,q⟩:=slot c o (I.cne x c e) hc F ho (I.freeC x c e);show#[_,q,hd]
  .show#[o,G c o (I.cne x c e) hc F ho (I.freeC x c e),hd]
 show#[I.ok,I.os,hg,#[λb o e n Y B=>?_,λb o e n Y B=>?_,λb o e n B=>?_,λb o e B=>?_,λb xs e=>h1 b xs (I.base.tups b xs e),λb o xs e=>h4 b o xs (I.base.frzs b o xs e),λb ps e=>?_],?_,λx c e=>?_,?_,λx c e=>?_,λp hp=>?_,h6,I.len]
 .show G b o (h3 b o e) Y (M b o e B) (I.base.keep b o e n Y B) (I.base.free b o e n B)
 .obtain⟨sl,O⟩:=I.base.slot b o e n Y B;let#[h5,e2]:=slot b _ (h3 b o e) Y (M b o e B) O (I.base.free b o e n B);show#[h5,e2]
 .obtain⟨o',O⟩:=I.base.there b o e B;show free b o' (M b o e B) O (I.base.free b o e n B)
 .obtain⟨o',O⟩:=I.base.there b o e B;show there b o' (M b o e B) O
 .obtain⟨m1,O⟩:=I.base.tbls b ps e;let#[m2,e2]:=h2 b _ O;show#[m1++m2,by rw[e2,Array.append_assoc]]
 .obtain⟨m,hn,hl⟩:=I.loc;show#[m,ns m hn,λi x v O e2 e3=>?_];let#[u,r,l]:=hl i x v O e2 e3;show#[u,r,?_];rcases l with l|⟨k,c,e,z⟩
  .show .inl l
  .show .inr #[k,c,e,L x c e _ z]
 .obtain⟨v,z⟩:=I.cell x c e;show#[v,L x c e v z]
 .obtain⟨m,⟨o,_,_,ho,_⟩,_⟩:=I.loc;show free _ o (λz=>(J _ z).2.1 rfl) ho I.free
 .obtain⟨v,o,ho,hd⟩:=I.cell x c e;show free c o (λz=>(J c z).2.2.1 x c e rfl) ho (I.freeC x c e)
 .obtain⟨e,n,ne,nf,d⟩:=I.pin p hp;let F:p.1∉ch:=λz=>(J p.1 z).2.2.2 p hp rfl;show#[G p.1 p.2 ne nf F e n,free p.1 p.2 F e n,ne,nf,d]
def Inv.un(I:Inv X zC Z H s)(u:Un X.fs [] H H' s.heap h')(B:dP X.prog X.w H' h'):Inv X zC Z H' {s with heap:=h',toks:=t'}:=by let#[m,#[o,es,ep,L,r],_]:=id I.loc;let#[sl,Y]:=u.any L I.free (by simp);show I.step (g':=s.gens) (d':=s.drawn) (ch:=[]) (λ_ z=>nomatch z) (λb o _ F _ e n=>u.keep b o e n F (by simp)) (λb o _ F _ e n=>u.slot b o e n F (by simp)) (λb o _ e n=>u.free b o e n (by simp)) (λb o _ e=>u.there b o e (by simp)) u.tups u.frzs u.tbls (λm' O=>by let#[o',G,J,v,M]:=O;rw[L]at v;cases v;show#[_,G,J,Y,M]) B I.bare
def Inv.call(I:Inv X zC Z H s)(u:Un (lJ X.stack) ch H H' s.heap h')(G:dP X.prog X.w H' h')(hg:AllBare g')
  (F:∀b∈ch,(b∈X.ex\/X.s₀.heap.get? b=none)/\b≠X.env.locals/\(∀x c,X.env.cells.lookup x=some c->c≠b)/\∀p∈X.pn++zC,p.1≠b):
  Inv X zC Z H' {s with heap:=h',gens:=g',drawn:=d',toks:=t'}:=by
 let#[m,#[o,es,ep,O,r],_]:=id I.loc;let#[sl,J]:=u.any O I.free λz=>(F _ z).2.1 rfl;show I.step (ch:=ch) F (λb o J hb v e n=>u.keep b o e n (λz=>(qA.mp (I.stkSub b z)).elim J hb) v) (λb o _ _ v e n=>u.any e n v) (λb o v e n=>u.free b o e n v) (λb o v e=>u.there b o e v) u.tups u.frzs u.tbls (λm' hm=>by let#[o',L,M,B,Y]:=hm;rw[O]at B;cases B;show#[_,L,M,J,Y]) G hg
def Inv.turned(I:Inv X zC Z H s)(k:∀b o,b≠it->s.heap.get? b=some o->h'.get? b=some o)(hn:H it=none)(G:it≠X.env.locals)
  (h1:it∈X.ex\/X.s₀.heap.get? it=none)(h2:∀x c,X.env.cells.lookup x=some c->c≠it)(O:∀p∈X.pn++zC,p.1≠it):Inv X zC Z H {s with heap:=h',toks:=t'}:=by
 let F:∀b u,H b=some u->b≠it:=λb u e z=>by rw[z,hn]at e;cases e
 refine I.step (g':=s.gens) (d':=s.drawn) (ch:=[it]) (λb M=>?_) (λb o _ _ B e _=>k b o (λz=>B (by simp[z])) e) (λb o _ _ B e _=>#[o.slots,k b o (λz=>B (by simp[z])) e]) (λ_ _ _ _ n=>n)
  (λb o B e=>#[o,k b o (λz=>B (by simp[z])) e]) (λ_ _ e=>e) (λ_ _ _ e=>e) (λb ps e=>#[#[],by rw[e];simp]) (λm L=>?_) (λb u e=>?_) I.bare
 .let e:b=it:=by simpa using M
  subst e;show#[h1,G,h2,O]
 .obtain⟨o,es,ep,J,r⟩:=L;show#[o,es,ep,k _ o (Ne.symm G) J,r]
 .show(I.hok b u e).stay (λc v B q=>k c v ?_ q) (λ_ q=>q) λ_ _ q=>q;rcases B with z|z
  .rw[z];show F b u e
  .show F c _ z
def Inv.tok(I:Inv X zC Z H s)(t:Nat):Inv X zC Z H {s with toks:=t}:=I.un (h':=s.heap) (t':=t) Un.refl I.hok
def Inv.kept(I:Inv X zC Z H s)(k:∀b u,s.heap.get? b=some u->h'.get? b=some u):Inv X zC Z H {s with heap:=h',toks:=t'}:=I.un (Un.kept k) (I.hok.kept k)
def Inv.laid(I:Inv X zC Z H s)(k:∀b u,s.heap.get? b=some u->h'.get? b=some u)(v:s.heap.objs.size<=a)(new:zB X.prog X.w (upd H a o) h' a o):
  Inv X zC Z (upd H a o) {s with heap:=h',toks:=t'}:=I.un (Un.laid k v (I.hok.fresh v)) (I.hok.laid k v new)
def Inv.write(I:Inv X zC Z H s)(z:vD (H x))(B:e=x\/H e=some (.own x))(k:∀b u,b≠e->s.heap.get? b=some u->h'.get? b=some u)(v:∃u,h'.get? e=some u)
  (new:zB X.prog X.w (upd H x o) h' x o):Inv X zC Z (upd H x o) {s with heap:=h',toks:=t'}:=I.un (Un.write z B k v) (I.hok.write z B k v new)
def Inv.pins_of(I:Inv X zC Z H s)(h:∀p∈pins',s.heap.get? p.1=some p.2/\H p.1=none/\p.1≠X.env.locals/\p.1∉X.fs/\∀v,p.2.data≠.cell v):Inv X pins' Z H s:=
 #[I.ok,I.os,I.bare,I.base,I.loc,I.cell,I.free,I.freeC,λp B=>(qx.mp B).elim (λz=>I.pin p (qj _ z)) (h p),I.hok,I.len]
def GA{N:List Str}(v:N.Nodup){i j:Nat}(a:N[i]?=some x)(b:N[j]?=some x):i=j:=by let#[h1,B]:=qg.mp a;let#[h2,z]:=qg.mp b;show(List.getElem_inj v).mp (B.trans z.symm)
def Sq(I:Inv X zC Z H s)(hN:X.N.Nodup)(hi:X.N[i]?=some x)(L:Loc X.env.scope x)(r:zt v u)
  (h:∀s',Inv X zC (Z.set i (some v)) H s'->(∃a,Heap.SameBut a s.heap s'.heap/\(a=X.env.locals\/X.env.cells.lookup x=some a))->Q () s')(hf:X.fn x=true\/X.env.scope.names.lookup x=some .local:=by first|show .inl rfl|show .inr rfl|assumption):wpAny M A (storeName X.env x u) Q E s:=by
 let#[m,hn,hl]:=id I.loc;let h5:(X.env.scope.kind==.class||(X.env.scope.kind==.module&&X.env.locals !=X.env.globals))=false:=by rw[I.ok.kind];rfl
 let h1:i<Z.length:=by rw[I.len];show(qg.mp hi).1
 have cne:=I.cne;let F:∀{a:Addr}{h':Heap},(∃o,s.heap.get? a=some o/\H a=none)->Heap.SameBut a s.heap h'->dP X.prog X.w H h':=λ{a h'} ha B b ob e=>by
  let#[_,_,O]:=ha;show(I.hok b ob e).stay (λc w' J q=>(B.2 c ?_).trans q) (λ_ q=>q) λ_ _ q=>q;rintro rfl;rcases J with rfl|J
  .rw[O]at e;cases e
  .rw[O]at J;cases J
 rcases L with hk|hk
 .refine wpAny_storeName_local hk hn (λh' h9 B=>?_) h5;let#[oL,_,_,h8,_]:=id hn;refine h _ #[I.ok,I.os,I.bare,#[λb o e n hb L=>?_,λb o e n hb L=>?_,I.base.free,λb o e L=>?_,I.base.tups,I.base.frzs,I.base.tbls],#[_,h9,λj y v' G Y e3=>?_],λy c e=>?_,I.free,I.freeC,λp hp=>?_,F #[oL,h8,I.free] B,↑I.len] #[_,B,.inl rfl]
  .show(B.2 b (ne_of_lt (lt_of_lt_of_le (qe e) I.ok.above))).trans (I.base.keep b o e n hb L)
  .obtain⟨sl,G⟩:=I.base.slot b o e n hb L;show#[sl,(B.2 b (ne_of_lt (lt_of_lt_of_le (qe e) I.ok.above))).trans G]
  .obtain⟨o',G⟩:=I.base.there b o e L;show#[o',(B.2 b (ne_of_lt (lt_of_lt_of_le (qe e) I.ok.above))).trans G]
  .by_cases hj:j=i
   .subst hj;rw[hi]at G;cases G;rw[getElem?_set_self h1]at Y;cases Y;show#[u,r,.inl #[hk,by simp]]
   .rw[getElem?_set_ne (Ne.symm hj)]at Y;let#[u',r',q]:=hl j y v' G Y e3;show#[u',r',?_];rcases q with⟨k,e⟩|⟨k,c,e,z⟩
    .show .inl #[k,?_];let:y≠x:=λe=>hj (GA hN G (e▸hi));simp[this,e]
    .show .inr #[k,c,e,z.sameBut B (cne y c e)]
  .obtain⟨w',z⟩:=I.cell y c e;show#[w',z.sameBut B (cne y c e)]
  .obtain⟨e,n,ne,nf,d⟩:=I.pin p hp;show#[(B.2 p.1 ne).trans e,n,ne,nf,d]
 .have h2:X.fn x=true:=by
   rcases hf with z|z
   .show z
   .rw[z]at hk;cases hk
  let#[c,J]:=I.ok.has x (.inl hk);let#[w',z]:=I.cell x c J;show wpAny_storeName_cell I.ok.kind hk J z (λh' h7 B=>?_);let#[oc,h4,h3]:=id z;show h {s with heap:=h'} ⟨I.ok,I.os,I.bare,⟨λb o e n hb L=>?_,λb o e n hb L=>?_,I.base.free,λb o e L=>?_,I.base.tups,I.base.frzs,I.base.tbls⟩,⟨m,hn.sameBut B (Ne.symm (cne x c J)),λj y v' G Y e3=>?_⟩,λy c' e=>?_,I.free,I.freeC,λp hp=>?_,F ⟨oc,h4,I.freeC x c J⟩ B,↑I.len⟩ #[c,B,.inr J]
  .show(B.2 b (ne_of_lt (lt_of_lt_of_le (qe e) (I.ok.cab x c h2 J)))).trans (I.base.keep b o e n hb L)
  .obtain⟨sl,G⟩:=I.base.slot b o e n hb L;show#[sl,(B.2 b (ne_of_lt (lt_of_lt_of_le (qe e) (I.ok.cab x c h2 J)))).trans G]
  .obtain⟨o',G⟩:=I.base.there b o e L;show#[o',(B.2 b (ne_of_lt (lt_of_lt_of_le (qe e) (I.ok.cab x c h2 J)))).trans G]
  .by_cases hj:j=i
   .subst hj;rw[hi]at G;cases G;rw[getElem?_set_self h1]at Y;cases Y;show#[u,r,.inr #[.inl hk,c,J,h7]]
   .rw[getElem?_set_ne (Ne.symm hj)]at Y;let#[u',r',q]:=hl j y v' G Y e3;show#[u',r',?_];rcases q with q|⟨k,c',e,z'⟩
    .show .inl q
    .show .inr #[k,c',e,z'.sameBut B ?_];rintro rfl;show hj (GA hN G (I.ok.inj _ _ _ e J▸hi))
  .by_cases h6:c'=c
   .subst h6;show#[_,h7]
   .obtain⟨w2,z2⟩:=I.cell y c' e;show#[w2,z2.sameBut B h6]
  .obtain⟨e,n,ne,nf,d⟩:=I.pin p hp;show#[(B.2 p.1 ?_).trans e,n,ne,nf,d];intro q;rw[q,h4]at e;let q':oc=p.2:=qf e;show d w' (by rw[<-q'];show h3)
def LD(I:Inv X zC Z H s)(F:X.N.Nodup)(hi:X.N[i]?=some x)(z:Loc X.env.scope x)(r:zt v u)
  (h:∀s',Inv X zC (Z.set i (some v)) H s'->Q () s')(B:X.fn x=true\/X.env.scope.names.lookup x=some .local:=by first|show .inl rfl|show .inr rfl|assumption):wpAny M A (storeName X.env x u) Q E s:=
 Sq I F hi z r (λs' G _=>h s' G) B
def Inv.call'(I:Inv X zC Z H s)(B:s'.os=s.os)(u:Un (lJ X.stack) ch H H' s.heap s'.heap)(v:dP X.prog X.w H' s'.heap)(F:AllBare s'.gens)
  (z:∀b∈ch,(b∈X.ex\/X.s₀.heap.get? b=none)/\b≠X.env.locals/\(∀x c,X.env.cells.lookup x=some c->c≠b)/\∀p∈X.pn++zC,p.1≠b):Inv X zC Z H' s':=by
 let#[h',g',d',t',o']:=s';let e:o'=s.os:=B;subst e;show I.call (g':=g') (t':=t') (d':=d') u v F z
end
abbrev XK:=Value->Option Addr->Hp->Prop
abbrev St:=List (Option V)
abbrev VK:=V->Hp->Prop
abbrev TE:=St->Hp->VK->Prop
abbrev TT:=St->Hp->(Bool->Hp->Prop)->Prop
abbrev TA:=St->Hp->(List V->Hp->Prop)->Prop
structure Ends where
 nx:St->Hp->Prop
 rt:VK
 bk:St->Hp->Prop:=λ_ _=>False
 ct:St->Hp->Prop:=λ_ _=>False
abbrev TS:=Ends->St->Hp->Prop
inductive EP(X:Cx)(zC:List (Addr×Obj))(Z:St)(Q:VK)(u:Value)(s':Shared):Prop
 |mk (v:V) (H':Hp):Inv X zC Z H' s'->zt v u->Q v H'->EP X zC Z Q u s'
inductive TP(X:Cx)(zC:List (Addr×Obj))(Z:St)(Q:Bool->Hp->Prop)(b:Bool)(s':Shared):Prop
 |mk (H':Hp):Inv X zC Z H' s'->Q b H'->TP X zC Z Q b s'
inductive AP(X:Cx)(zC:List (Addr×Obj))(Z:St)(Q:List V->Hp->Prop)(us:List Value)(s':Shared):Prop
 |mk (vs:List V) (H':Hp):Inv X zC Z H' s'->zz vs us->Q vs H'->AP X zC Z Q us s'
@[inline]def SP(X:Cx)(zC:List (Addr×Obj))(D:Ends)(f:Flow)(s':Shared):Prop:=
 match f with
 |.next=>∃Z' H',Inv X zC Z' H' s'/\D.nx Z' H'
 |.brk=>∃Z' H',Inv X zC Z' H' s'/\D.bk Z' H'
 |.cont=>∃Z' H',Inv X zC Z' H' s'/\D.ct Z' H'
 |.ret u=>∃v Z' H',Inv X zC Z' H' s'/\zt v u/\D.rt v H'
@[inline]def PE(X:Cx)(e:Expr)(t:TE):Prop:=
 ∀(zC:List (Addr×Obj))(s:Shared)(Z:St)(H:Hp)(Q:VK),Inv X zC Z H s->t Z H Q->wpAny (model X.prog X.w) X.A (eval e X.env) (EP X zC Z Q) X.xe s
@[inline]def PT(X:Cx)(e:Expr)(t:TT):Prop:=
 ∀(zC:List (Addr×Obj))(s:Shared)(Z:St)(H:Hp)(Q:Bool->Hp->Prop),Inv X zC Z H s->t Z H Q->wpAny (model X.prog X.w) X.A (isTrue e X.env (eval e X.env)) (TP X zC Z Q) X.xe s
@[inline]def PW(X:Cx)(e:Expr)(t:TT):Prop:=
 ∀(v:Sem Value)(zC:List (Addr×Obj))(s:Shared)(Z:St)(H:Hp)(Q:Bool->Hp->Prop),Inv X zC Z H s->t Z H Q->wpAny (model X.prog X.w) X.A (isTrue e X.env v) (TP X zC Z Q) X.xe s
def PW.pt(h:PW X e t):PT X e t:=h _
@[inline]def PA(X:Cx)(es:List Expr)(t:TA):Prop:=
 ∀(pos:Pos)(zC:List (Addr×Obj))(s:Shared)(Z:St)(H:Hp)(Q:List V->Hp->Prop),Inv X zC Z H s->t Z H Q->wpAny (model X.prog X.w) X.A (spliced (backTo pos (starEach es X.env))) (AP X zC Z Q) X.xe s
@[inline]def PS(X:Cx)(st:Stmt)(t:TS):Prop:=
 ∀(zC:List (Addr×Obj))(s:Shared)(Z:St)(H:Hp)(D:Ends),Inv X zC Z H s->t D Z H->wpAny (model X.prog X.w) X.A (exec st X.env) (SP X zC D) X.xe s
def gV(X:Cx)(st:List Stmt)(t:TS):Prop:=
 ∀(zC:List (Addr×Obj))(s:Shared)(Z:St)(H:Hp)(D:Ends),Inv X zC Z H s->t D Z H->wpAny (model X.prog X.w) X.A (execs st X.env) (SP X zC D) X.xe s
def Aq(h:wpAny M A t Q E s)(v:∀a s,Q a s->Q' a s):wpAny M A t Q' E s:=zg h v λ_ _ x=>x
section
variable{X:Cx}
def wX(i:Nat):TE:=λZ H Q=>∃v,Z[i]?=some (some v)/\Q v H
def tC(v:V):TE:=λ_ H Q=>Q v H
def Oa(hN:X.N[i]?=some x)(M:uT X.env.scope x)(G:autoParam ((x==("__debug__":Str))=false) dZ9)(J:autoParam ((x==("__classdict__":Str))=false) dZ9):PE X (.Name x pos) (wX i):=by
 intro zC s Z H Q I h;let#[v,e,h]:=h;let#[m,O,hl]:=I.loc;let#[u,r,l]:=hl i x v hN e M;let F:EP X zC Z Q u s:=#[v,H,I,r,h]
 rcases l with⟨B,Y⟩|⟨B,c,L,z⟩
 .show wpAny_Name (wpAny_loadName_local I.ok.kind B O Y F) G
 .rcases B with B|B
  .show wpAny_Name (wpAny_loadName_cell I.ok.kind B L z F) G
  .show wpAny_Name (wpAny_loadName_free I.ok.kind B L z F J) G
def Nk:PE X (.Constant (.int i) j pos) (tC (.int i)):=λ_ _ _ H _ I h=>wpAny_Constant_int #[.int i,H,I.tok _,#[_,rfl],h]
def Na:PE X (.Constant (.bool b) j pos) (tC (.bl b)):=λ_ _ _ H _ I h=>Constant_bool #[.bl b,H,I,rfl,h]
def OU:PE X (.Constant (.str x) j pos) (tC (.str x)):=λ_ _ _ H _ I h=>Calls.Constant_str #[.str x,H,I.tok _,#[_,rfl],h]
@[inline]def Gl(X:Cx)(x:Str):Prop:=X.env.kindOf x=some .globalImplicit
def OG(I:Inv X zC Z H s)(z:Gl X x)(v:X.mg x=some u)(h:Q u s)
  (B:autoParam ((x==("__debug__":Str))=false) dZ9):wpAny (model X.prog X.w) X.A (eval (.Name x pos) X.env) Q E s:=
 Calls.Name_function_global I.ok.kind z (Calls.loadGlobal_global (by rw[I.ok.glob];show I.mod.glob.keeps I.bk) v h) B
def HX(I:Inv X zC Z H s)(B:Gl X x)(z:X.mg x=none)(v:bootBuiltins x=some u)(h:Q u s)
  (hn:autoParam (x≠"__name__") dZ9)(F:autoParam ((x==("__debug__":Str))=false) dZ9):wpAny (model X.prog X.w) X.A (eval (.Name x pos) X.env) Q E s:=by
 let#[G,h1,h2]:=I.mod.blt;show Calls.Name_function_global I.ok.kind B (Calls.loadGlobal_builtin (by rw[I.ok.glob];show I.mod.glob.keeps I.bk) z (by rw[I.ok.blt];show h1.keeps I.bk) ((h2 x hn).trans v) h) F
variable{a b:Expr}{ta tb:TE}{pos:Pos}
def DU(b:Expr)(h:v≠.In)(h2:v≠.NotIn):behindInMarks v b=false:=by
 let B:(v==CmpOp.In)=false:=by cases v<;>first|rfl|show absurd rfl h
 let z:(v==CmpOp.NotIn)=false:=by cases v<;>first|rfl|show absurd rfl h2
 cases b<;>first|rfl|(show(_&&(v==.In||v==.NotIn)&&_)=false;rw[B,z,Bool.or_false,Bool.and_false];rfl)
variable{tA tB':TT}{rest:List Expr}
def xI(t u:TT):TT:=λZ H Q=>t Z H λc H1=>if c=true then u Z H1 Q else Q false H1
def OA(v:PT X a tA):PW X (.BoolOp .And [a] pos) tA:=by
 intro z zC s Z H Q I h;show isTrue_and (Aq (v zC s Z H Q I h) λc B e=>?_);cases c with
 |true=>show isTrue_and_nil e
 |false=>show e
def Nw(L:PT X a tA)(J:PW X (.BoolOp .And (b::rest) pos) tB'):PW X (.BoolOp .And (a::b::rest) pos) (xI tA tB'):=by
 intro F zC s Z H Q I h;show isTrue_and (Aq (L zC s Z H _ I h) λc G B=>?_);let#[H1,z,v]:=B;cases c with
 |true=>show J F zC G Z H1 Q z v
 |false=>show#[H1,z,v]
end
def bK(K:W.Frag)(H:Hp)(a:Addr)(xs:List V):Prop:=
 Rd H a (.lst xs)\/
  ∃(o:Obj)(v:Array Value)(n:Nat),K.lookup a=some o/\o.cls=.type "list"/\o.dict=none/\o.data=.seq v n/\v.size<=sizeLine/\zz xs v.toList
def bJ(K:W.Frag)(H:Hp)(a:Addr)(xs:List V):Prop:=
 Rd H a (.tup xs)\/
  ∃(o:Obj)(v:Array Value)(n:Nat),K.lookup a=some o/\o.cls=.type "tuple"/\o.data=.seq v n/\v.size<=sizeLine/\zz xs v.toList
def zO:Value->Option V
 |.none=>some .non
 |.bool b=>some (.bl b)
 |.int i _=>some (.int i)
 |.str x _=>some (.str x)
 |.bytes b _=>some (.byt b)
 |.float b _=>some (.flt b)
 |.ref a=>some (.ref a)
 |.type n=>some (.ty n)
 |_=>none
def zt.abs(r:zt x u):zO u=some x:=by
 cases x with
 |non=>cases r;rfl
 |bl _=>cases r;rfl
 |int _=>let#[t,rfl]:=r;rfl
 |str _=>let#[t,rfl]:=r;rfl
 |byt _=>let#[t,rfl]:=r;rfl
 |flt _=>let#[t,rfl]:=r;rfl
 |ref _=>cases r;rfl
 |ty _=>cases r;rfl
def zt.inj(r:zt x u)(q:zt y u):x=y:=qf (r.abs.symm.trans q.abs)
def zz.inj:∀{xs ys:List V}{v:List Value},zz xs v->zz ys v->xs=ys:=by
 intro xs ys v r q;induction r generalizing ys with
 |nil=>cases q;rfl
 |cons r _ F=>cases q with
  |cons B z=>rw[r.inj B,F z]
inductive vH(xs:List V)(h:Heap)(a:Addr):Prop
 |mk (zG:List Value):zz xs zG->PlainL h a zG.toArray->xs.length<=sizeLine->vH xs h a
inductive vG(xs:List V)(h:Heap)(a:Addr):Prop
 |mk (zG:List Value):zz xs zG->IsTup h a zG.toArray->xs.length<=sizeLine->vG xs h a
section
variable{X:Cx}{zC:List (Addr×Obj)}{Z:St}{H:Hp}{s:Shared}{a:Addr}{xs ys:List V}
def bK.of{K:W.Frag}(h:H a=some (.lst xs)):bK K H a xs:=.inl (.inl h)
def bJ.of{K:W.Frag}(h:H a=some (.tup xs)):bJ K H a xs:=.inl (.inl h)
def Inv.list(I:Inv X zC Z H s)(h:bK X.K H a xs):vH xs s.heap a:=by
 rcases h with h|⟨o,v,n,F,J,G,B,L,r⟩
 .obtain⟨z,v,n,r,e⟩:=h.ok I.hok;show#[v,r,#[_,n,e,rfl,rfl,rfl],z]
 .show#[v.toList,r,#[o,n,I.kIn a o F,J,G,↑B],?_];let e:=r.length;simp only[qT]at e;lia
def Inv.tuple(I:Inv X zC Z H s)(h:bJ X.K H a xs):vG xs s.heap a:=by
 rcases h with h|⟨o,v,n,F,G,B,J,r⟩
 .obtain⟨z,v,r,p⟩:=h.ok I.hok;show#[v,r,p,z.1]
 .show#[v.toList,r,#[o,I.kIn a o F,G,n,↑B],?_];let e:=r.length;simp only[qT]at e;lia
def Inv.list_inj(I:Inv X zC Z H s)(h:bK X.K H a xs)(h':bK X.K H a ys):xs=ys:=by
 let#[z,r,#[o,n,e,_,_,d],_]:=I.list h;let#[v,G,#[o',J,B,_,_,F],_]:=I.list h';rw[e]at B;cases B;rw[d]at F;injection F with d1 _
 let:z=v:=by simpa using congrArg Array.toList d1
 subst this;show r.inj G
def Inv.tuple_inj(I:Inv X zC Z H s)(h:bJ X.K H a xs)(h':bJ X.K H a ys):xs=ys:=by
 let#[z,r,#[o,e,_,n,d],_]:=I.tuple h;let#[v,G,#[o',B,_,J,F],_]:=I.tuple h';rw[e]at B;cases B;rw[d]at F;injection F with d1 _
 let:z=v:=by simpa using congrArg Array.toList d1
 subst this;show r.inj G
end
section
variable{X:Cx}{st:Stmt}{rest:List Stmt}{t u:TS}{e:Expr}{te:TE}{pos:Pos}
def sZ:TS:=λD Z H=>D.nx Z H
def wZ(t u:TS):TS:=λD Z H=>t {D with nx:=u D} Z H
def PK:gV X [] sZ:=λ_ _ Z H _ I h=>wpAny_execs_nil #[Z,H,I,h]
def QP(h1:PS X st t)(h2:gV X rest u):gV X (st::rest) (wZ t u):=by
 intro zC s Z H D I h;show wpAny_execs_cons (Aq (h1 zC s Z H {D with nx:=u D} I h) λf B q=>?_);cases f with
 |next=>let#[z,H',F,q]:=q;show h2 zC B z H' D F q
 |ret v=>show q
 |brk=>show q
 |cont=>show q
def Ph(h1:PS X st t):gV X [st] t:=by
 intro zC s Z H D I h;show wpAny_execs_cons (Aq (h1 zC s Z H D I h) λf z q=>?_);cases f with
 |next=>show wpAny_execs_nil q
 |ret v=>show q
 |brk=>show q
 |cont=>show q
def Inv.quiet(I:Inv X zC Z H s):interactive X.env=false:=by simp[interactive,I.ok.kind]
def tB(te:TE):TS:=λD Z H=>te Z H λ_ H1=>D.nx Z H1
def Pe(B:PE X e te)(hs:autoParam (swapsWith e none pos.line X.env=pure false) rZ9):PS X (.Expr e pos) (tB te):=by intro zC s Z H D I h;show wpAny_Expr_any (Aq (B zC s Z H _ I h) λv G⟨x,H1,F,J,z⟩=>#[Z,H1,F,z]) I.quiet hs
def xA(te:TE):TS:=λD Z H=>te Z H D.rt
def Ob(F:PE X e te):PS X (.Return (some e) pos) (xA te):=by intro zC s Z H D I h;show wpAny_Return_some (Aq (F zC s Z H _ I h) λv J⟨x,H1,G,z,B⟩=>#[x,Z,H1,G,z,B])
def xE(c:TT)(t u:TS):TS:=λD Z H=>c Z H λb H1=>if b=true then t D Z H1 else u D Z H1
def MQ(G:PT X c tc)(L:gV X a t)(J:gV X b u):PS X (.If c a b pos) (xE tc t u):=by
 intro zC s Z H D I h;show wpAny_If (Aq (G zC s Z H _ I h) λd v F=>?_);let#[H1,B,z]:=F;cases d with
 |true=>show L zC v Z H1 D B z
 |false=>show J zC v Z H1 D B z
end
abbrev TG:=V->St->Hp->(St->Hp->Prop)->Prop
abbrev uV:=List V->St->Hp->(St->Hp->Prop)->Prop
@[inline]def PG(X:Cx)(z:Expr)(t:TG):Prop:=
 ∀(zC:List (Addr×Obj))(s:Shared)(Z:St)(H:Hp)(v:V)(u:Value)(Q:St->Hp->Prop),Inv X zC Z H s->zt v u->t v Z H Q->
  wpAny (model X.prog X.w) X.A (assign z X.env u) (λ_ s'=>∃Z' H',Inv X zC Z' H' s'/\Q Z' H') X.xe s
def vB(X:Cx)(z:List Expr)(t:uV):Prop:=
 ∀(zC:List (Addr×Obj))(s:Shared)(Z:St)(H:Hp)(vs:List V)(v:List Value)(Q:St->Hp->Prop),Inv X zC Z H s->zz vs v->t vs Z H Q->
  wpAny (model X.prog X.w) X.A (assignInOrder ((assignEach z X.env).map (·.2)) v) (λ_ s'=>∃Z' H',Inv X zC Z' H' s'/\Q Z' H') X.xe s
abbrev TSet:=V->V->V->Hp->(Hp->Prop)->Prop
def uZ(X:Cx)(t:TSet):Prop:=
 ∀(zC:List (Addr×Obj))(s:Shared)(Z:St)(H:Hp)(o i v:V)(z B u:Value)(Q:Hp->Prop),Inv X zC Z H s->zt o z->zt i B->zt v u->t o i v H Q->
  wpAny (model X.prog X.w) X.A (setItem z B u) (λ_ s'=>∃H',Inv X zC Z H' s'/\Q H') X.xe s
section
variable{X:Cx}{pos:Pos}
def zJ:uV:=λv Z H Q=>v=[]/\Q Z H
def uK(t:TG)(u:uV):uV:=λB Z H Q=>∃v r,B=v::r/\t v Z H λz H'=>u r z H' Q
def Pc:vB X [] zJ:=by intro zC s Z H v z Q I r h;let#[e,h]:=h;subst e;cases r;show assignInOrder_nil #[Z,H,I,h]
def Qg(h1:PG X e t)(h2:vB X es u)
  (hs:autoParam ((assignEach (e::es) X.env).map (·.2)=assign e X.env::(assignEach es X.env).map (·.2)) rZ9):vB X (e::es) (uK t u):=by
 intro zC s Z H O us Q I r h;let#[v,Y,L,h]:=h;subst L;cases r with
 |cons r G=>rw[hs];show assignInOrder_cons (Aq (h1 zC s Z H _ _ _ I r h) λ_ F B=>?_);let#[z,H1,M,J]:=B;show h2 zC F z H1 _ _ Q M G J
def cH(K:W.Frag)(n:Nat)(t:uV):TG:=λv Z H Q=>∃a xs,v=.ref a/\bJ K H a xs/\xs.length=n/\t xs Z H Q
def NV(Y:X.calm=true)(h:vB X es t)
  (hn:autoParam ((assignEach es X.env).length=n) rZ9)(B:autoParam ((assignEach es X.env).findIdx? (·.1)=none) rZ9):PG X (.Tuple es k pos) (cH X.K n t):=by
 intro zC s Z H v u Q I r z;let#[a,xs,e1,M,O,z]:=z;subst e1;cases r;let#[G,F,L,hz]:=I.tuple M;show assign_Tuple_tuple (I.ok.hd Y) L (by simp[hn,<-O,F.length]) B λh' J=>?_;let I1:Inv X zC Z H {s with heap:=h'}:=I.kept (t':=s.toks) λb o e=>J b o (ne_of_lt (qe e)) e;show h zC _ Z H xs _ Q I1 ↑F z
def zI(z B:TE)(t:TSet):TG:=λv Z H Q=>z Z H λo H1=>B Z H1 λi H2=>t o i v H2 λF=>Q Z F
def NC(ho:PE X o to)(hi:PE X i ti)(hs:uZ X t)
  (ha:∀v,assign (.Subscript o i pos) X.env v=(do
   let ov<-holding [v] (eval o X.env)
   let iv<-holding [v,ov] (eval i X.env)
   standAt pos
   holding [v,ov,iv] (setItem ov iv v)
   release [v,ov,iv] []):=by intro _;rfl):PG X (.Subscript o i pos) (zI to ti t):=by
 intro zC s Z H v u Q I r h;rw[ha];show qa (ze (Aq (ho zC s Z H _ I h) λov s1 zq=>?_));let#[x,H1,I1,r1,q1]:=zq;show qa (ze (Aq (hi zC s1 Z H1 _ I1 q1) λiv s2 zq=>?_));let#[y,H2,I2,r2,q2]:=zq;show qa (wpAny_standAt (qa (ze (Aq (hs zC s2 Z H2 x y v ov iv u _ I2 r1 r2 r q2) λ_ s3 zq=>?_))));let#[H3,I3,q3]:=zq;show wpAny_release #[Z,H3,I3,q3]
def xH(te:TE)(g:TG):TS:=λD Z H=>te Z H λx H1=>g x Z H1 D.nx
def JR(M:PE X e te)(L:PG X tg g)(hs:autoParam (swapsWithSole [tg] e pos.line X.env=pure false) rZ9)(J:autoParam (swappedStores [tg] e X.env=pure none) rZ9)
  (h1:autoParam ((assignEach [tg] X.env).map (·.2)=[assign tg X.env]) rZ9):PS X (.Assign [tg] e pos) (xH te g):=by
 intro zC s Z H D I h;show wpAny_Assign_stores (Aq (M zC s Z H _ I h) λv B z=>?_) hs J;let#[x,H1,O,F,G]:=z;rw[h1];show Aq (L zC B Z H1 x v _ O F G) λ_ Y q=>q
def xB(i j:Nat)(ta:TA):TS:=λD Z H=>ta Z H λz H1=>∃v w,z=[v,w]/\D.nx ((Z.set i (some v)).set j (some w)) H1
def Nu(hc:X.calm=true)(hN:X.N.Nodup)(hi:X.N[i]?=some x)(hj:X.N[j]?=some y)(hij:i≠j)
  (hx:X.env.scope.names.lookup x=some .local)(hy:X.env.scope.names.lookup y=some .local)(ha:PA X [a,b] ta)
  (hw:swappedStores [.Tuple [.Name x px,.Name y py] kt pt] (.Tuple [a,b] k2 pt2) X.env=pure (some [x,y]))
  (hs:autoParam (swapsWithSole [.Tuple [.Name x px,.Name y py] kt pt] (.Tuple [a,b] k2 pt2) pos.line X.env=pure false) rZ9):
  PS X (.Assign [.Tuple [.Name x px,.Name y py] kt pt] (.Tuple [a,b] k2 pt2) pos) (xB i j ta):=by
 intro zC s Z H D I h;rw[exec_Assign_arm];show qa (wpAny_standAt ?_);rw[hs];show qa (qb ?_);rw[qZ ⋯];show qa (Tuple_ (Aq (ha _ zC s Z H _ I h) λus s1 zq=>?_));let#[vs,H1,I1,r1,q1]:=zq;let#[v,w,e1,q1]:=q1;subst e1;obtain⟨u1,u2,rfl,rv,rw'⟩:∃u1 u2,us=[u1,u2]/\zt v u1/\zt w u2:=by
  cases r1 with
  |cons p q=>
   cases q with
   |cons p' q'=>cases q';show#[_,_,rfl,p,p']
 show zb ?_ (by show 2<=sizeLine;decide);let I2:Inv X zC Z H1 {s1 with heap:=s1.heap.push {cls:=.type "tuple",data:=.seq [u1,u2].toArray}}:=I1.kept (t':=s1.toks) λb o e=>qc _ e;rw[hw];show qa (qb ?_);show wpAny (model X.prog X.w) X.A (do rule "assign.swapped-stores";let items<-unpackItems (.ref s1.heap.objs.size) 2 none;assignInOrder [λv=>bindName X.env y v,λv=>bindName X.env x v] items.reverse;pure Flow.next) _ _ _;show qa (wpAny_rule (qa (unpackItems_tuple (items:=[u1,u2].toArray) (I.ok.hd hc) (IsTup.new s1.heap _) λh' hx'=>?_)));let I3:=I2.kept (h':=h') (t':=s1.toks) λb o e=>hx' b o (ne_of_lt (qe e)) e;show wpAny _ _ (assignInOrder [λv=>bindName X.env y v,λv=>bindName X.env x v] [u2,u1]>>=λ_=>pure Flow.next) _ _ _;show qa (assignInOrder_cons (wpAny_bindName (LD I3 hN hj (.inl hy) rw' (λs2 I4=>?_) (.inr hy))));show assignInOrder_cons (wpAny_bindName (LD I4 hN hi (.inl hx) rv (λs3 I5=>assignInOrder_nil (qb ?_)) (.inr hx)));rw[set_comm _ _ (Ne.symm hij)]at I5;show#[_,H1,I5,q1]
def pI(c:TT)(tb:TS):TS:=λD Z H=>∃W:Nat->St->Hp->Prop,(∃m,W m Z H)/\∀m Z H,W m Z H->
 c Z H λb H1=>if b=true then∃N:St->Hp->Prop,(∀Z' H',N Z' H'->∃v,v<m/\W v Z' H')/\tb {D with nx:=N,ct:=N,bk:=D.nx} Z H1 else D.nx Z H1
def Rm(hp:PassesOwn (model X.prog X.w) X.A X.env X.xe)(hc:PT X c tc)(hb:gV X body tb):PS X (.While c body [] pos) (pI tc tb):=by
 intro zC s Z H D I h;let#[W,#[m0,w0],F]:=h;show wpAny_While (codeAny_whileLoop (λn s'=>∃Z' H',Inv X zC Z' H' s'/\W n Z' H') ?_ m0 #[Z,H,I,w0]);rintro n s1 ⟨B,H1,I1,w1⟩;show wpAny_passesOwn hp (Aq (hc zC s1 B H1 _ I1 (F n B H1 w1)) λb s2 zq=>?_);let#[H2,I2,L]:=zq;cases b with
 |true=>
  let#[N,hN,L]:=L;rw[qY rfl];show wpAny_passesOwn hp (Aq (hb zC s2 B H2 _ I2 L) λf s3 J=>?_);cases f with
  |next=>let#[z,G,I3,O]:=J;let#[Y,hm,M]:=hN z G O;show#[Y,hm,z,G,I3,M]
  |cont=>let#[z,G,I3,O]:=J;let#[Y,hm,M]:=hN z G O;show#[Y,hm,z,G,I3,M]
  |brk=>show J
  |ret v=>show J
 |false=>rw[qZ qV];show wpAny_execs_nil #[B,H2,I2,L]
end
structure It where
 go:Nat->Hp->Prop
 yld:Nat->Hp->V->Hp->Prop
 stop:Nat->Hp->Prop
def dM(X:Cx)(zC:List (Addr×Obj))(H:Hp)(b:Addr):Prop:=
 H b=none/\b≠X.env.locals/\b∉X.fs/\(b∈X.ex\/X.s₀.heap.get? b=none)/\(∀x c,X.env.cells.lookup x=some c->c≠b)/\∀p∈X.pn++zC,p.1≠b
def Inv.fpOk(I:Inv X zC Z H s)(B:s.heap.objs.size<=b)(hn:H' b=none):dM X zC H' b:=by
 show#[hn,ne_of_gt (lt_of_lt_of_le I.lt B),I.nofs B,.inr (Heap.get?_none_of_le (le_trans I.sz B)),λx c e z=>?_,λp F z=>?_]
 .obtain⟨v,q⟩:=I.cell x c e;show absurd (lt_of_lt_of_le q.lt (by rw[z];show B)) (lt_irrefl _)
 .show absurd (lt_of_lt_of_le (qe (I.pin p F).1) (by rw[z];show B)) (lt_irrefl _)
structure iE(P:Program)(w:World)(K:W.Frag)(tg:Expr)(J:It)(fp:List Addr)(it:Addr)(tn:Nat->Heap->Prop):Prop where
 mem:it∈fp
 obj:∀i h,tn i h->∀b∈fp,∃o,h.get? b=some o/\∀v,o.data≠.cell v
 keep:∀i h h',tn i h->(∀b∈fp,∀o,h.get? b=some o->h'.get? b=some o)->tn i h'
 item:∀(X:Cx),X.prog=P->X.w=w->X.K=K->X.calm=true->∀(i:Nat)(zC:List (Addr×Obj))(s:Shared)(Z:St)(H:Hp)(E:zh),Inv X zC Z H s->(∀b∈fp,dM X zC H b)->tn i s.heap->J.go i H->
  wpAny (model P w) X.A (pyNext (.ref it)) (λr s1=>∃u,r=some u/\
   wpAny (model P w) X.A (letOwnedTupleGo tg (.ref it) u) (λ_ s2=>∃x H',Inv X zC Z H' s2/\zt x u/\J.yld i H x H'/\tn (i+1) s2.heap/\∀b∈fp,H' b=none) E s1) E s
 done:∀(X:Cx),X.prog=P->X.w=w->X.K=K->X.calm=true->∀(i:Nat)(zC:List (Addr×Obj))(s:Shared)(Z:St)(H:Hp)(E:zh),Inv X zC Z H s->(∀b∈fp,dM X zC H b)->tn i s.heap->J.stop i H->
  wpAny (model P w) X.A (pyNext (.ref it)) (λr s1=>r=none/\Inv X zC Z H s1) E s
 self:∀(A:Around)(i:Nat)(s:Shared)(Q:zh)(E:zh),tn i s.heap->Q (.ref it) s->wpAny (model P w) A (pyIter (.ref it)) Q E s
abbrev TI:=St->Hp->(It->Hp->Prop)->Prop
inductive wF(X:Cx)(zC:List (Addr×Obj))(Z:St)(tg:Expr)(R:It->Hp->Prop)(itv:Value)(s2:Shared):Prop
 |mk (it:Addr) (fp:List Addr) (tn:Nat->Heap->Prop) (J:It) (H':Hp):itv=.ref it->Inv X zC Z H' s2->iE X.prog X.w X.K tg J fp it tn->tn 0 s2.heap->(∀b∈fp,dM X zC H' b)->R J H'->wF X zC Z tg R itv s2
@[inline]def PI(X:Cx)(tg iter:Expr)(z:TI):Prop:=
 ∀(zC:List (Addr×Obj))(s:Shared)(Z:St)(H:Hp)(R:It->Hp->Prop),Inv X zC Z H s->z Z H R->
  wpAny (model X.prog X.w) X.A (eval iter X.env) (λv B=>wpAny (model X.prog X.w) X.A (pyIter v) (wF X zC Z tg R) X.xe B) X.xe s
def Hc(z:s.heap.get? it=some o)(F:o.cls=.type n)(B:o.data=.fields vs)
  (hn:["enumerate","zip","dict_itemiterator","dict_reverseitemiterator","odict_iterator","itertools.zip_longest","itertools.pairwise"].contains n=false)(v:Q () s):wpAny M A (letOwnedTupleGo tg (.ref it) u) Q E s:=by
 unfold letOwnedTupleGo;cases tg<;>first
  |show qb v
  |(cases u<;>first
   |show qb v
   |(show qa (wpAny_load z ?_);rw[F,B];show wpAny M A (if(["enumerate","zip","dict_itemiterator","dict_reverseitemiterator","odict_iterator","itertools.zip_longest","itertools.pairwise"].contains n&&vs[0]?==some (rawInt _))=true then _ else _) Q E s;rw[qZ (by intro h;rw[hn,Bool.false_and]at h;cases h)];show qb v))
def zU(K:W.Frag)(a:Addr):It:=
 #[λi H=>∃xs x,bK K H a xs/\xs[i]?=some x,λi H x H'=>H'=H/\∀xs,bK K H a xs->xs[i]?=some x,λi H=>∃xs,bK K H a xs/\xs.length<=i]
def zS(K:W.Frag)(a:Addr):It:=
 #[λi H=>∃xs x,bJ K H a xs/\xs[i]?=some x,λi H x H'=>H'=H/\∀xs,bJ K H a xs->xs[i]?=some x,λi H=>∃xs,bJ K H a xs/\xs.length<=i]
def wG(lo:Int)(n:Nat):It:=#[λi _=>i<n,λi H x H'=>H'=H/\x=.int (lo+i),λi _=>n<=i]
def RL{P:Program}{w:World}{K:W.Frag}{tg:Expr}(a it:Addr):iE P w K tg (zU K a) [it] it (λi h=>h.IsListIter it a i) where
 mem:=by simp
 obj:=λi h st b hb=>by
  let e:b=it:=↑hb
  subst e;let#[o,e,c,d]:=st;show#[o,e,λv z=>by rw[d]at z;cases z]
 keep:=λi h h' st k=>st.at λo e=>k it (by simp) o e
 item:=by intro X hP hw hK hc i zC s Z H E I hf st hg;subst hP hw hK;let#[xs,x,hq,hx]:=hg;let#[zG,rv,p,hz]:=I.list hq;let#[u,hu,ru]:=rv.get hx;let#[f0,f1,f2,f3,f4,f5]:=hf it (by simp);show wpAny_pyNext_list_item st p.isList (x:=u) ↑hu λh' st' sb=>?_;let I1:Inv X zC Z H {s with heap:=h'}:=I.turned (t':=s.toks) (λb o hb e=>(sb.2 b hb).trans e) f0 f1 f3 f4 f5;let#[o,e,c,d]:=id st';show#[u,rfl,Hc (s:={s with heap:=h'}) e c d ⋯ #[x,H,I1,ru,#[rfl,λys hy=>by rw[I.list_inj hy hq];show hx],st',λb hb=>(hf b hb).1]]
 done:=by intro X hP hw hK hc i zC s Z H E I hf st hg;subst hP hw hK;let#[xs,hq,hx]:=hg;let#[zG,rv,p,hz]:=I.list hq;let#[f0,f1,f2,f3,f4,f5]:=hf it (by simp);let hl:=rv.length;show wpAny_pyNext_list_end (I.ok.hd hc) st p.isList (by simp;lia -verbose) λh' eb=>#[rfl,I.turned (t':=s.toks) (λb o hb e=>eb b o hb e) f0 f1 f3 f4 f5]
 self:=λ_ _ _ _ _ st h=>wpAny_pyIter_listiter st h
def SA{P:Program}{w:World}{K:W.Frag}{tg:Expr}(a it:Addr):iE P w K tg (zS K a) [it] it (λi h=>h.IsTupleIter it a i) where
 mem:=by simp
 obj:=λi h st b hb=>by
  let e:b=it:=↑hb
  subst e;let#[o,e,c,d]:=st;show#[o,e,λv z=>by rw[d]at z;cases z]
 keep:=λi h h' st k=>st.at λo e=>k it (by simp) o e
 item:=by intro X hP hw hK hc i zC s Z H E I hf st hg;subst hP hw hK;let#[xs,x,hq,hx]:=hg;let#[zG,rv,p,hz]:=I.tuple hq;let#[u,hu,ru]:=rv.get hx;let#[f0,f1,f2,f3,f4,f5]:=hf it (by simp);show wpAny_pyNext_tuple_item st (show s.heap.IsTuple a zG.toArray from p) (x:=u) ↑hu λh' st' sb=>?_;let I1:Inv X zC Z H {s with heap:=h'}:=I.turned (t':=s.toks) (λb o hb e=>(sb.2 b hb).trans e) f0 f1 f3 f4 f5;let#[o,e,c,d]:=id st';show#[u,rfl,Hc (s:={s with heap:=h'}) e c d ⋯ #[x,H,I1,ru,#[rfl,λys hy=>by rw[I.tuple_inj hy hq];show hx],st',λb hb=>(hf b hb).1]]
 done:=by intro X hP hw hK hc i zC s Z H E I hf st hg;subst hP hw hK;let#[xs,hq,hx]:=hg;let#[zG,rv,p,hz]:=I.tuple hq;let#[f0,f1,f2,f3,f4,f5]:=hf it (by simp);let hl:=rv.length;show wpAny_pyNext_tuple_end (I.ok.hd hc) st (show s.heap.IsTuple a zG.toArray from p) (by simp;lia -verbose) λh' eb=>#[rfl,I.turned (t':=s.toks) (λb o hb e=>eb b o hb e) f0 f1 f3 f4 f5]
 self:=λ_ _ _ _ _ st h=>wpAny_pyIter_tupleiter st h
def SU{P:Program}{w:World}{K:W.Frag}{tg:Expr}(it:Addr)(lo:Int)(n:Nat):iE P w K tg (wG lo n) [it] it (λi h=>IsRangeIter h it (lo+(i:Nat)*1) ((n:Int)-(i:Nat)) 1) where
 mem:=by simp
 obj:=λi h st b hb=>by
  let e:b=it:=↑hb
  subst e;show#[_,st,λv z=>by let z':Data.fields _=Data.cell v:=z;cases z']
 keep:=λi h h' st k=>k it (by simp) _ st
 item:=by intro X hP hw hK hc i zC s Z H E I hf st hg;subst hP hw hK;let#[f0,f1,f2,f3,f4,f5]:=hf it (by simp);let W:=Walks.range (prog:=X.prog) (w:=X.w) (I.ok.hd hc) it lo 1 n;show W.item i s _ _ hg st λv h' tk hv st' kk=>?_;let#[t,rfl]:=hv;let I1:Inv X zC Z H {s with heap:=h',toks:=tk}:=I.turned (λb o hb e=>kk b o ↑hb e) f0 f1 f3 f4 f5;show#[_,rfl,Hc (s:={s with heap:=h',toks:=tk}) (n:="range_iterator") st' rfl rfl ⋯ #[.int (lo+i),H,I1,#[t,?_],#[rfl,rfl],st',λb hb=>(hf b hb).1]];rw[mul_one]
 done:=by intro X hP hw hK hc i zC s Z H E I hf st hg;subst hP hw hK;let#[f0,f1,f2,f3,f4,f5]:=hf it (by simp);show wpAny_pyNext_range_end (I.ok.hd hc) st (by let:n<=i:=hg;lia) λh' eb=>#[rfl,I.turned (t':=s.toks) (λb o hb e=>eb b o hb e) f0 f1 f3 f4 f5]
 self:=λ_ _ _ _ _ st h=>wpAny_pyIter_rangeiter st h
section
variable{X:Cx}{tg:Expr}
def QL{lo hi:Int}(I:Inv X zC Z H s)(h1:-(2^62)<=lo)(h2:lo<2^62)(G:-(2^62)<=hi)(F:hi<2^62)
  (q:R (wG lo (hi-lo).toNat) H):wpAny (model X.prog X.w) X.A (pyIter (.ref s.heap.objs.size)) (wF X zC Z tg R) E {s with heap:=s.heap.push {cls:=.type "range",data:=.fields [.int lo t,.int hi u,.int 1 v].toArray},toks:=tk}:=by
 refine wpAny_pyIter_range (IsRange.new ..) (small_one h1 h2 G F) ?_;let z:Inv X zC Z H {s with heap:=s.heap.push {cls:=.type "range",data:=.fields [.int lo t,.int hi u,.int 1 v].toArray},toks:=tk}:=I.kept λb o e=>qc _ e;refine⟨(s.heap.push {cls:=.type "range",data:=.fields [.int lo t,.int hi u,.int 1 v].toArray}).objs.size,[(s.heap.push {cls:=.type "range",data:=.fields [.int lo t,.int hi u,.int 1 v].toArray}).objs.size],_,_,H,rfl,
  z.kept (t':=tk) λb o e=>qc _ e,SU _ lo (hi-lo).toNat,?_,λb B=>?_,q⟩
 .let L:lo+((0:Nat):Int)*1=lo:=by simp
  let J:(((hi-lo).toNat:Nat):Int)-((0:Nat):Int)=Builtin.Range.rangeSize lo hi 1:=by rw[rangeSize_one];split<;>lia
  show IsRangeIter _ _ (lo+((0:Nat):Int)*1) ((((hi-lo).toNat:Nat):Int)-((0:Nat):Int)) 1;rw[L,J];show qd _ rfl
 .let e:b=(s.heap.push {cls:=.type "range",data:=.fields [.int lo t,.int hi u,.int 1 v].toArray}).objs.size:=by simpa using B
  subst e;show z.fpOk (q5 _) (z.hok.fresh (q5 _))
def uI(ta:TA):TI:=λZ H R=>ta Z H λv H1=>∃j:Int,v=[.int j]/\-(2^62)<=j/\j<2^62/\R (wG 0 j.toNat) H1
def Sn(L:Gl X "range")(J:X.mg "range"=none)(M:PA X [a] ta)(hs:autoParam (starEach [a] X.env=[(false,eval a X.env)]) rZ9):PI X tg (.Call (.Name "range" p) [a] [] pos) (uI ta):=by
 intro zC s Z H R I h;show Call_ (HX I L J boot_range (PyProof.Rows.callWith_type1 (Aq (M pos zC s Z H _ I h) λus s1 z=>?_) hs rfl));let#[Y,H1,O,F,v]:=z;let#[j,e,v,G,q]:=v;subst e;cases F with
 |cons r B=>cases B;let#[t,rfl]:=r;show call_range_1 (QL O ∅ ∅ v G ↑q)
def xF(B:TI)(g:TG)(tb:TS):TS:=λD Z H=>B Z H λJ H1=>∃W:Nat->Nat->St->Hp->Prop,(∃m,W 0 m Z H1)/\∀i m Z H,W i m Z H->
 (J.stop i H/\D.nx Z H)\/(J.go i H/\∃N:St->Hp->Prop,(∀Z' H',N Z' H'->∃z,z<m/\W (i+1) z Z' H')/\∀x H',J.yld i H x H'->g x Z H' λv H2=>tb {D with nx:=N,ct:=N,bk:=D.nx} v H2)
def eV(fp:List Addr)(h:Heap):List (Addr×Obj):=fp.filterMap λb=>(h.get? b).map λo=>(b,o)
def Hv(v:b∈fp)(e:h.get? b=some o):(b,o)∈eV fp h:=List.mem_filterMap.mpr #[b,v,by rw[e];rfl]
def QY(v:p∈eV fp h):p.1∈fp/\h.get? p.1=some p.2:=by
 let#[b,z,e]:=List.mem_filterMap.mp v;cases q:h.get? b with
 |none=>rw[q]at e;cases e
 |some o=>grind
def Inv.pinned(I:Inv X zC Z H s)(L:∀b∈fp,dM X zC H b)(J:∀b∈fp,∃o,s.heap.get? b=some o/\∀v,o.data≠.cell v):Inv X (zC++eV fp s.heap) Z H s:=
 I.pins_of λp G=>(qx.mp G).elim (λz=>I.pin p (qi _ z)) λz=>by let#[B,e]:=QY z;let#[Y,O,M,_]:=L p.1 B;let#[o,F,d]:=J p.1 B;rw[e]at F;cases F;show#[e,Y,O,M,d]
def Inv.unpinned(I:Inv X (zC++z) Z H s):Inv X zC Z H s:=I.pins_of λp v=>I.pin p (qi _ (qj _ v))
def OI(hp:PassesOwn (model X.prog X.w) X.A X.env X.xe)(hc:X.calm=true)(hi:PI X tg iter wi)(hg:PG X tg g)(G:gV X body tb)
  (hs:∀x,foldedSetIterable iter X.env x=pure x:=by intro _;rfl):PS X (.For tg iter body [] pos) (xF wi g tb):=by
 intro zC s Z H D I h;show wpAny_For (Aq (hi zC s Z H _ I h) λv s1 h1=>Aq h1 λe3 s2 h2=>?_) hs;let#[it,fp,tn,J,H2,e,I2,T,h9,f2,W,#[m0,w0],h3]:=h2;subst e
 --what stays true of the iterator's objects through the loop
 let F:∀{H':Hp},(∀b∈fp,H' b=none)->∀b∈fp,dM X zC H' b:=λhn b G=>#[hn b G,(f2 b G).2]
 show codeAny_forLoop_any (λn s'=>∃i Z' H',Inv X zC Z' H' s'/\tn i s'.heap/\(∀b∈fp,H' b=none)/\W i n Z' H') ?_ m0 #[0,Z,H2,I2,h9,λb G=>(f2 b G).1,w0];rintro n s3 ⟨i,B,H3,I3,h6,h7,w3⟩;rcases h3 i n B H3 w3 with⟨h5,qn⟩|⟨go,N,hN,step⟩
 .show wpAny_passesOwn hp (Aq (T.done X rfl rfl rfl hc i zC s3 B H3 X.xe I3 (F h7) h6 h5) λr s4⟨hr,I4⟩=>?_);subst hr;show wpAny_execs_nil #[B,H3,I4,qn]
 .show wpAny_passesOwn hp (Aq (T.item X rfl rfl rfl hc i zC s3 B H3 X.xe I3 (F h7) h6 go) λr s4 zq=>?_);let#[u,hr,h4]:=zq;subst hr;show wpAny_passesOwn hp (Aq h4 λ_ s5 zq=>?_);let#[x,H5,I5,r5,y5,Y,e1]:=zq;let e2:=I5.pinned (F e1) (T.obj _ _ Y);show wpAny_passesOwn hp (Aq (hg _ s5 B H5 x u _ e2 r5 (step x H5 y5)) λ_ s6 zq=>?_);let#[h8,H6,I6,q6]:=zq;show wpAny_passesOwn hp (Aq (G _ s6 h8 H6 _ I6 q6) λf s7 O=>?_);let again:∀{z:St}{M:Hp},Inv X (zC++eV fp s5.heap) z M s7->N z M->∃m,m<n/\∃i Z' H',Inv X zC Z' H' s7/\tn i s7.heap/\(∀b∈fp,H' b=none)/\W i m Z' H':=λ{z M} L n7=>by let#[m',hm,w7]:=hN z M n7;show#[m',hm,i+1,z,M,L.unpinned,T.keep _ _ _ Y λb G o e=>(L.pin (b,o) (qi _ (qi _ (Hv G e)))).1,λb G=>?_,w7];let#[o,e,d]:=T.obj _ _ Y b G;exact(L.pin (b,o) (qi _ (qi _ (Hv G e)))).2.1
  cases f with
  |next=>let#[z,M,L,n7]:=O;show again L n7
  |cont=>let#[z,M,L,n7]:=O;show again L n7
  |brk=>let#[z,M,L,O]:=O;show#[z,M,L.unpinned,O]
  |ret v=>let#[x7,z,M,L,r7,O]:=O;show#[x7,z,M,L.unpinned,r7,O]
end
abbrev R2:=V->V->Hp->VK->Prop
@[inline]def OpR(X:Cx)(f:Value->Value->Sem Value)(r:R2):Prop:=
 ∀(zC:List (Addr×Obj))(s:Shared)(Z:St)(H:Hp)(x y:V)(v u:Value)(Q:VK),Inv X zC Z H s->zt x v->zt y u->r x y H Q->
  wpAny (model X.prog X.w) X.A (f v u) (EP X zC Z Q) X.xe s
def aS(X:Cx)(f:Value)(r:List V->Hp->VK->Prop):Prop:=
 ∀(zC:List (Addr×Obj))(s:Shared)(Z:St)(H:Hp)(xs:List V)(v:List Value)(Q:VK),Inv X zC Z H s->zz xs v->r xs H Q->
  wpAny (model X.prog X.w) X.A (call f v) (EP X zC Z Q) X.xe s
def vT(r:R2)(ta tb:TE):TE:=λZ H Q=>ta Z H λx H1=>tb Z H1 λy H2=>r x y H2 Q
def rI(C:Int->Int->Prop)(g:Int->Int->V):R2:=λx y H Q=>∃i j,x=.int i/\y=.int j/\C i j/\Q (g i j) H
def rA(g:Int->Int->V):R2:=λx y H Q=>∃i j,x=.int i/\y=.int j/\Q (g i j) H
section
variable{X:Cx}{a b c:Expr}{ta tb tc:TE}{pos:Pos}
def FO(ha:PE X a ta)(hb:PE X b tb){R:V->V->Hp->Prop}(I:Inv X zC Z H s)
  (h:ta Z H λx H1=>tb Z H1 λy H2=>R x y H2){f:Value->Value->Sem Value}
  (hf:∀v u F x y H2,Inv X zC Z H2 F->zt x v->zt y u->R x y H2->wpAny (model X.prog X.w) X.A (f v u) Q X.xe F):
  wpAny (model X.prog X.w) X.A (eval a X.env) (λv B=>wpAny (model X.prog X.w) X.A (eval b X.env) (λu z=>wpAny (model X.prog X.w) X.A (f v u) Q X.xe z) X.xe B) X.xe s:=by
 show Aq (ha zC s Z H _ I h) λv J G=>?_;let#[x,H1,I1,M,Y]:=G;show Aq (hb zC J Z H1 _ I1 Y) λu F G=>?_;let#[y,H2,I2,L,O]:=G;show hf v u F x y H2 I2 M L O
def NI(J:OpR X (binaryOp G) r)(M:PE X a ta)(L:PE X b tb):PE X (.BinOp a G b pos) (vT r ta tb):=by intro zC s Z H Q I h;show wpAny_BinOp (FO M L I h λv u z x y H2 O F B q=>J zC z Z H2 x y v u Q O F B q)
def GM{g:Int->Int->Int}
  (rule:∀(i j:Int)(t u:Tok)(s:Shared)(Q:zh)(E:zh),C i j->Q (.int (g i j) s.toks) {s with toks:=s.toks+1}->wpAny (model X.prog X.w) X.A (f (.int i t) (.int j u)) Q E s):
  OpR X f (rI C λi j=>.int (g i j)):=by
 intro zC s Z H x y v u Q I F B h;let#[i,j,rfl,rfl,G,q]:=h;let#[t,rfl]:=F;let#[z,rfl]:=B;show rule i j t z s _ _ G #[.int (g i j),H,I.tok _,#[_,rfl],q]
def Js{g:Int->Int->Int}
  (rule:∀(i j:Int)(t u:Tok)(s:Shared)(Q:zh)(E:zh),Q (.int (g i j) s.toks) {s with toks:=s.toks+1}->wpAny (model X.prog X.w) X.A (f (.int i t) (.int j u)) Q E s):
  OpR X f (rA λi j=>.int (g i j)):=by
 intro zC s Z H x y v u Q I F B h;let#[i,j,rfl,rfl,q]:=h;let#[t,rfl]:=F;let#[z,rfl]:=B;show rule i j t z s _ _ #[.int (g i j),H,I.tok _,#[_,rfl],q]
def Fx{g:Int->Int->Bool}
  (rule:∀(i j:Int)(t u:Tok)(s:Shared)(Q:zh)(E:zh),Q (.bool (g i j)) s->wpAny (model X.prog X.w) X.A (f (.int i t) (.int j u)) Q E s):
  OpR X f (rA λi j=>.bl (g i j)):=by
 intro zC s Z H x y v u Q I F B h;let#[i,j,rfl,rfl,q]:=h;let#[t,rfl]:=F;let#[z,rfl]:=B;show rule i j t z s _ _ #[.bl (g i j),H,I,rfl,q]
def vN(i j:Int):Prop:=0<=j/\j<=1000000/\i.natAbs<2^64
def lS(i j:Int):Prop:=(-(2^64)<i/\i<2^64)\/(-(2^64)<j/\j<2^64)
def lS.ok(h:lS i j):IntMulOk i j:=by
 rcases h with⟨h1,h2⟩|⟨h1,h2⟩
 .show .of_left (intBits_le_64 h1 h2)
 .show .of_right (intBits_le_64 h1 h2)
def Nq:OpR X (binaryOp .Add) (rA λi j=>.int (i+j)):=Js λ_ _ _ _ _ _ _ q=>add_int q
def NB:OpR X (binaryOp .Mult) (rI lS λi j=>.int (i*j)):=GM λ_ _ _ _ _ _ _ v q=>mul_int q v.ok
def Nj:OpR X (binaryOp .Mod) (rI (λ_ j=>0<j) λi j=>.int (i %j)):=GM λi j _ _ _ _ _ v q=>by let h1:(0:Int)<j:=v;show mod_int' ∅ (by rw[Int.fmod_eq_emod_of_nonneg i ∅];show q)
def NN:OpR X (binaryOp .Pow) (rI vN λi j=>.int (i^j.toNat)):=GM λ_ _ _ _ _ _ _ v q=>pow_int_small v.1 v.2.1 v.2.2 q
end
def tG:V->V->Bool
 |.non,.non=>true|.non,.int _=>true|.int _,.non=>true|.non,.bl _=>true|.bl _,.non=>true|.non,.str _=>true|.str _,.non=>true
 |.int _,.int _=>true|.bl _,.bl _=>true|.str _,.str _=>true|.byt _,.byt _=>true
 |.int _,.str _=>true|.str _,.int _=>true|.bl _,.str _=>true|.str _,.bl _=>true
 |_,_=>false
def bp:R2:=λx y H Q=>tG x y=true/\Q (.bl (!decide (x=y))) H
def OC:decide (V.int i=V.int j)=(i==j):=by rw[Bool.eq_iff_iff];simp
def Oc:decide (V.bl i=V.bl j)=(i==j):=by rw[Bool.eq_iff_iff];simp
def OF:decide (V.str i=V.str j)=(i==j):=by rw[Bool.eq_iff_iff];simp
def Os:decide (V.byt i=V.byt j)=(i.toList==j.toList):=by rw[Bool.eq_iff_iff];cases i;cases j;simp
section
variable{X:Cx}{a b c:Expr}{ta tb tc:TE}{pos:Pos}
def Cw(I:Inv X zC Z H s)(q:Q (.bl k) H)(e:k=v):EP X zC Z Q (.bool v) s:=by subst e;show#[.bl k,H,I,rfl,q]
def Nb:OpR X (compareOp .NotEq) bp:=by
 intro zC s Z H x y v u Q I G z h;let#[F,q]:=h;cases x with
 |non=>
  cases G;cases y with
  |non=>cases z;show PySem.EqNone.ne_none_none (Cw I q (by simp))
  |bl j=>cases z;show PySem.EqNone.ne_none_bool (Cw I q (by simp))
  |int j=>let#[B,rfl]:=z;show PySem.EqNone.ne_none_int (Cw I q (by simp))
  |str j=>let#[B,rfl]:=z;show PySem.EqNone.ne_none_str (Cw I q (by simp))
  |_=>show absurd (show false=true from F) qV
 |bl i=>
  cases G;cases y with
  |non=>cases z;show PySem.EqNone.ne_bool_none (Cw I q (by simp))
  |bl j=>cases z;show ne_bool (Cw I q (congrArg not Oc))
  |str j=>let#[B,rfl]:=z;show PySem.EqMixed.ne_bool_str (Cw I q (by simp))
  |_=>show absurd (show false=true from F) qV
 |int i=>
  let#[t,rfl]:=G;cases y with
  |non=>cases z;show PySem.EqNone.ne_int_none (Cw I q (by simp))
  |int j=>let#[B,rfl]:=z;show ne_int (Cw I q (congrArg not OC))
  |str j=>let#[B,rfl]:=z;show PySem.EqMixed.ne_int_str (Cw I q (by simp))
  |_=>show absurd (show false=true from F) qV
 |str i=>
  let#[t,rfl]:=G;cases y with
  |non=>cases z;show PySem.EqNone.ne_str_none (Cw I q (by simp))
  |bl j=>cases z;show PySem.EqMixed.ne_str_bool (Cw I q (by simp))
  |int j=>let#[B,rfl]:=z;show PySem.EqMixed.ne_str_int (Cw I q (by simp))
  |str j=>let#[B,rfl]:=z;show ne_str (Cw I q (congrArg not OF))
  |_=>show absurd (show false=true from F) qV
 |byt i=>
  let#[t,rfl]:=G;cases y with
  |byt j=>let#[B,rfl]:=z;show W.ne_bytes (Cw I q (congrArg not Os))
  |_=>show absurd (show false=true from F) qV
 |_=>cases y<;>show absurd (show false=true from F) qV
def NF:OpR X (compareOp .Lt) (rA λi j=>.bl (decide (i<j))):=Fx λ_ _ _ _ _ _ _ q=>lt_int q
def MU:OpR X (compareOp .Gt) (rA λi j=>.bl (decide (j<i))):=Fx λ_ _ _ _ _ _ _ q=>gt_int q
def MW:OpR X (compareOp .GtE) (rA λi j=>.bl (decide (j<=i))):=Fx λ_ _ _ _ _ _ _ q=>ge_int q
def As(b:Expr)(h:autoParam (v≠.In) dZ9)(h2:autoParam (v≠.NotIn) dZ9):behindInMarks v b=false:=DU b h h2
def Oh(J:OpR X (compareOp z) r)(O:PE X a ta)(M:PE X b tb)(L:behindInMarks z b=false):PE X (.Compare a [z] [b] pos) (vT r ta tb):=by intro zC s Z H Q I h;show wpAny_Compare1 (FO O M I h λv u B x y H2 Y G F q=>J zC B Z H2 x y v u Q Y G F q) L
def sX(t:TE):TT:=λZ H Q=>t Z H λx H'=>∃k,x=.bl k/\Q k H'
def Pq(ho:OpR X (compareOp B) r)(ha:PE X a ta)(hb:PE X b tb)(hm:behindInMarks B b=false):PT X (.Compare a [B] [b] pos) (sX (vT r ta tb)):=by
 intro zC s Z H Q I h;show wpAny_isTrue_Compare1 (Aq (ha zC s Z H _ I h) λv G⟨x,H1,I1,M,q1⟩=>Aq (hb zC G Z H1 _ I1 q1) λu F⟨y,H2,I2,L,Y⟩=>Aq (ho zC F Z H2 x y v u _ I2 M L Y) λc s3⟨z,H3,I3,J,k,e,O⟩=>?_) hm
 subst e;cases J;show wpAny_truthy_bool #[H3,I3,O]
def AX:(sizeLine:Nat)<2^63:=by rw[zd];decide
def SI:OpR X (binaryOp .Add) (λx y H Q=>∃i j,x=.str i/\y=.str j/\i.length+j.length<=sizeLine/\Q (.str (i++j)) H):=by intro zC s Z H x y v u Q I F B h;let#[i,j,rfl,rfl,G,q]:=h;let#[t,rfl]:=F;let#[z,rfl]:=B;show add_str (λz tk=>#[.str (i++j),H,I.tok _,#[_,rfl],q]) G
theorem vals1(r:zz [x] v):∃u,v=[u]/\zt x u:=by
 cases r with
 |cons B z=>cases z;show#[_,rfl,B]
def RZ:aS X (.type "int") (λxs H Q=>(∃i,xs=[.int i]/\Q (.int i) H)\/∃k,xs=[.bl k]/\Q (.int (if k then 1 else 0)) H):=by
 intro zC s Z H xs z Q I r h;rcases h with⟨i,rfl,q⟩|⟨k,rfl,q⟩
 .obtain⟨u,rfl,t,rfl⟩:=vals1 r;show call_int_int #[.int i,H,I,#[_,rfl],q]
 .obtain⟨u,rfl,v⟩:=vals1 r;cases v;show call_int_bool #[.int (if k then 1 else 0),H,I.tok _,#[_,rfl],q]
end
def eB.some_of(r:eB (some v) o):∃u,o=some u/\zt v u:=by
 cases o with
 |none=>show(show False from r).elim
 |some u=>show#[u,rfl,r]
def eB.none_of(r:eB none o):o=none:=by
 cases o with
 |none=>rfl
 |some u=>show(show False from r).elim
structure bE(k:Nat)(A:Around):Prop where
 hd:A.handled=none
 dp:A.depth+3*k+5<recursionLimit
 un:A.units+16*k+200<cLine
 gd:A.guards=some []
def bE.mono(r:bE k A)(h:j<=k):bE j A:=#[r.hd,by let:=r.dp;lia,by let:=r.un;lia,r.gd]
def bE.deeper(r:bE (k+1) A)(env:Env):bE k (A.deeper env):=
 #[r.hd,by let:=r.dp;show A.depth+1+3*k+5<_;lia,by let:=r.un;show A.units+3+16*k+200<_;lia,r.gd]
def bE.depth(r:bE k A):A.depth<recursionLimit:=by let:=r.dp;lia
def bE.units(r:bE k A):A.units+64<cLine:=by let:=r.un;lia
def xC:TA:=λ_ H Q=>Q [] H
def tF(ta:TE)(v:TA):TA:=λZ H Q=>ta Z H λx H1=>v Z H1 λxs H2=>Q (x::xs) H2
section
variable{X:Cx}{e:Expr}{es:List Expr}{te:TE}{t:TA}{pos:Pos}
def Nm:PA X [] xC:=λ_ _ _ _ H Q I h=>Calls.spliced_nil #[[],H,I,.nil,h]
def Oi(M:PE X e te)(L:PA X es t)(hs:autoParam (starEach (e::es) X.env=(false,eval e X.env)::starEach es X.env) rZ9):PA X (e::es) (tF te t):=by intro pos zC s Z H Q I h;rw[hs];show wpAny _ _ (spliced ((false,eval e X.env)::backTo pos (starEach es X.env))) _ _ s;show Calls.spliced_cons (Aq (M zC s Z H _ I h) λu z v=>?_);let#[x,H1,Y,F,J]:=v;show Aq (L pos zC z Z H1 _ Y J) λus s2⟨xs,H2,O,B,G⟩=>#[x::xs,H2,O,.cons F B,G]
def wY(t:TA):TE:=λZ H Q=>t Z H λxs H1=>xs.length<=sizeLine/\∀p,H1 p=none->Q (.ref p) (upd H1 p (.tup xs))
def xD(t:TA):TE:=λZ H Q=>t Z H λxs H1=>xs.length<=sizeLine/\∀p,H1 p=none->Q (.ref p) (upd H1 p (.lst xs))
def ON(h:PA X es t):PE X (.Tuple es L pos) (wY t):=by intro zC s Z H Q I G;show wpAny_Tuple_spliced (Aq (h pos zC s Z H _ I G) λF v⟨xs,H1,B,r,z,q⟩=>#[by rw[<-r.length];show z,?_]);let J:H1 v.heap.objs.size=none:=B.hok.fresh (q5 _);show#[.ref v.heap.objs.size,upd H1 v.heap.objs.size (.tup xs),B.laid (t':=v.toks) (λb u e=>qc _ e) (q5 _) ?_,rfl,q _ J];show#[#[z,iG.new rfl (qd _ rfl)],F,r,#[_,qd _ rfl,rfl,_,rfl]]
def NZ(h:PA X es t):PE X (.List es pos) (xD t):=by intro zC s Z H Q I G;show wpAny_List_spliced (Aq (h pos zC s Z H _ I G) λF v⟨xs,H1,B,r,z,q⟩=>#[by rw[<-r.length];show z,?_]);let J:H1 v.heap.objs.size=none:=B.hok.fresh (q5 _);show#[.ref v.heap.objs.size,upd H1 v.heap.objs.size (.lst xs),B.laid (t':=v.toks) (λb u e=>qc _ e) (q5 _) ?_,rfl,q _ J];show#[z,F,0,r,qd _ rfl]
end
abbrev Sp:=List V->Hp->VK->XK->Prop
abbrev vM:=List Env->Hp->Shared->XK->Value->Shared->Prop
structure nQ(P:Program)(w:World)(K:W.Frag)(mg:Str->Option Value)(base:Heap)(A:Around)(outer:List Env)(s:Shared)(H:Hp):Prop where
 frames:A.frames=some outer
 mod:Mod K mg base
 bs:∀b o,base.get? b=some o->s.heap.get? b=some o/\H b=none
 bsz:base.objs.size<=s.heap.objs.size
 funs:s.heap.FunFrames base outer
 frf:∀b∈lJ outer,H b=none
 hok:dP P w H s.heap
 bare:AllBare s.gens
@[inline]def CE(z:List Env)(P:Program)(w:World)(H:Hp)(s:Shared)(Q:VK)(u:Value)(s':Shared):Prop:=
 ∃v H',s'.os=s.os/\AllBare s'.gens/\Un (lJ z) [] H H' s.heap s'.heap/\dP P w H' s'.heap/\zt v u/\Q v H'
@[inline]def CR(CX:vM)(v:List Env)(P:Program)(w:World)(H:Hp)(s:Shared)(Q:VK)(E:XK)(r:Result)(s':Shared):Prop:=
 match r with
 |.ok (.ret u)=>CE v P w H s Q u s'
 |.ok _=>False
 |.error e=>CX v H s E e s'
structure eO(P:Program)(w:World)(K:W.Frag)(mg:Str->Option Value)(base:Heap)(CX:vM)(k:Nat)(f:Addr)(fd:FuncData)(ps:List Str)(sp:Sp):Prop where
 len:∀vs H Q E,sp vs H Q E->vs.length=ps.length
 run:∀(A:Around)(outer:List Env)(s:Shared)(H:Hp)(args:Args)(us:List Value)(vs:List V)(Q:VK)(E:XK),bE k A->nQ P w K mg base A outer s H->BindsTo s fd args (ps.zip us)->zz vs us->sp vs H Q E->
  codeAny (model P w) A (.call (.ref f) args) (CR CX outer P w H s Q E) s
section
variable{X:Cx}{zC:List (Addr×Obj)}{Z:St}{H:Hp}{s s':Shared}
def Inv.env0(I:Inv X zC Z H s):nQ X.prog X.w X.K X.mg X.base X.A X.stack s H:=
 #[I.ok.frames,I.ok.mod,I.bs,le_trans I.ok.bsz I.sz,I.stack,I.stkFree,I.hok,I.bare]
def Inv.after(I:Inv X zC Z H s)(h:CE X.stack X.prog X.w H s Q u s'):EP X zC Z Q u s':=by let#[v,H',os,bare,un,F,r,q]:=h;let#[G,g,d,t,B]:=s';obtain rfl:B=s.os:=os;show#[v,H',I.call (h':=G) (g':=g) (d':=d) (t':=t) (ch:=[]) un F bare (λb z=>absurd z (by simp)),r,q]
end
@[inline]def Binds(K:W.Frag)(fd:FuncData)(ps:List Str)(z:List Value):Prop:=
 ∀(s:Shared)(v:List Value),K.In s.heap->(v++z).length=ps.length->BindsTo s fd #[v,[]] (ps.zip (v++z))
def Binds.all{K:W.Frag}(h:∀v:List Value,v.length=ps.length->bindArgs fd #[v,[]]=pure (ps.zip v)):Binds K fd ps []:=λs v _ z=>by rw[qz]at z⊢;show .of_eq (h v z)
structure aM(N P:List Str)(sc:Scope):Prop where
 kind:sc.kind=.function
 co:sc.isCoroutine=false
 gen:sc.isGenerator=false
 nd:N.Nodup
 pre:N.take P.length=P
 par:∀x∈P,sc.names.lookup x=some .local\/sc.names.lookup x=some .cell
 nofree:∀y∈sc.names,y.2≠.free
def MC{kindOf:Str->Option NameKind}:∀{binds:List (Str×Value)}{m:Str->Option Value},(∀v,(x,v)∉binds)->bindL kindOf binds m x=m x
 |[],_,_=>rfl
 |(n,v)::r,m,h=>by
  unfold bindL;rw[MC λw z=>h w (qk _ z)];split
  .let:x≠n:=by rintro rfl;exact h v qm
   simp[this]
  .rfl
def ME{kindOf:Str->Option NameKind}:∀{binds:List (Str×Value)}{m:Str->Option Value},(∀v,(x,v)∉binds)->bindC kindOf binds m x=m x
 |[],_,_=>rfl
 |(n,v)::r,m,h=>by
  unfold bindC;rw[ME λw z=>h w (qk _ z)];split
  .rfl
  .let:x≠n:=by rintro rfl;exact h v qm
   simp[this]
def MA{kindOf:Str->Option NameKind}:∀{P:List Str}{vs:List Value}{i:Nat}{m:Str->Option Value},P.Nodup->P[i]?=some x->vs[i]?=some v->kindOf x=some .local->
  bindL kindOf (P.zip vs) m x=some v
 |[],_,_,_,_,h,_,_=>by simp at h
 |_::_,[],_,_,_,_,h,_=>by simp at h
 |p::P,w::vs,0,m,nd,h1,h2,hk=>by simp at h1 h2;subst h1;subst h2;show bindL kindOf ((p,w)::P.zip vs) m p=_;unfold bindL;rw[MC λv z=>(qK.mp nd).1 (of_mem_zip z).1,qY hk];simp
 |p::P,w::vs,i+1,m,nd,h1,h2,hk=>by show bindL kindOf ((p,w)::P.zip vs) m x=_;unfold bindL;show MA (i:=i) (qK.mp nd).2 ↑h1 ↑h2 hk
def LR{kindOf:Str->Option NameKind}:∀{P:List Str}{vs:List Value}{i:Nat}{m:Str->Option Value},P.Nodup->P[i]?=some x->vs[i]?=some v->kindOf x≠some .local->
  bindC kindOf (P.zip vs) m x=some v
 |[],_,_,_,_,h,_,_=>by simp at h
 |_::_,[],_,_,_,_,h,_=>by simp at h
 |p::P,w::vs,0,m,nd,h1,h2,hk=>by simp at h1 h2;subst h1;subst h2;show bindC kindOf ((p,w)::P.zip vs) m p=_;unfold bindC;rw[ME λv z=>(qK.mp nd).1 (of_mem_zip z).1,qZ hk];simp
 |p::P,w::vs,i+1,m,nd,h1,h2,hk=>by show bindC kindOf ((p,w)::P.zip vs) m x=_;unfold bindC;show LR (i:=i) (qK.mp nd).2 ↑h1 ↑h2 hk
def start(N:List Str)(vs:List V):St:=vs.map some++List.replicate (N.length-vs.length) none
def eN(CX:vM)(P:Program)(w:World)(K:W.Frag)(mg:Str->Option Value)(base:Heap)(N:List Str)(qual:Str)(scope:Scope)(f:Addr)(cd:Value)(A:Around)(outer:List Env)(s:Shared)(H:Hp)(E:XK):Cx where
 prog:=P
 w:=w
 K:=K
 mg:=mg
 base:=base
 A:=A.deeper (envOfC qual scope s.heap.objs.size f cd)
 N:=N
 s₀:=s
 H₀:=H
 env:=envOfC qual scope s.heap.objs.size f cd
 outer:=outer
 stack:=envOfC qual scope s.heap.objs.size f cd::outer
 ex:=[]
 calm:=true
 fn:=λ_=>true
 pn:=[]
 xe:=λe s'=>wpAny (model P w) (A.deeper (envOfC qual scope s.heap.objs.size f cd)) (leaving (envOfC qual scope s.heap.objs.size f cd) e) (λ_ s''=>CX outer H s E e s'') (λe' s''=>CX outer H s E e' s'') s'
def Lo{v:Scope}(h:v.names.lookup x=some .cell):∃c,(cellsFrom n v.names []).lookup x=some c:=by let q:=W.cellsFrom_some v.names n [] (.inl h);show isSome_iff_exists.mp q
def Rv{K:W.Frag}
  (S:aM N ps scope)(hd:A.handled=none)(B:nQ P w K mg base A outer s H)(hl:vs.length=ps.length)(r:zz vs O)
  (x:InCallC s s.heap.objs.size (bindL (envOfC qual scope s.heap.objs.size f M).kindOf (ps.zip O) λ_=>none) (cellsFrom (s.heap.objs.size+1) scope.names []) (bindC (envOfC qual scope s.heap.objs.size f M).kindOf (ps.zip O) λ_=>none) s1):
  Inv (eN CX P w K mg base N qual scope f M A outer s H E) [] (start N vs) H s1:=by
 let h4:ps.length<=N.length:=by let:=congrArg List.length S.pre;rw[qG]at this;lia
 obtain⟨h1,tk,rfl,hk⟩:=x.done;let F:∀b:Addr,b∉(eN CX P w K mg base N qual scope f M A outer s H E).ex:=λb z=>absurd (show b∈([]:List Addr) from z) (by simp);refine⟨#[B.mod,S.kind,rfl,rfl,q5 _,λy z c h1 h2=>?_,λy G=>?_,λy c _ h=>?_,λ_=>hd,Around.frames_deeper B.frames,.inr #[rfl,rfl],λb z=>absurd z (F b),B.bs,B.bsz,λb _ _=>F b,λb z=>absurd z (F b),B.funs,B.frf],
  rfl,B.bare,Un.kept hk,#[_,x.toInCall.ns,λi y v h1 h2 h3=>?_],λy c h=>#[_,x.cell y c h],B.hok.fresh (q5 _),λy c h=>?_,λp L=>absurd (show p∈([]:List (Addr×Obj)) from L) (by simp),B.hok.kept hk,?_⟩
 .show name_of_addr x.apart (PySem.mem_of_lookup h1) (PySem.mem_of_lookup h2)
 .let G:scope.names.lookup y=some .cell\/scope.names.lookup y=some .free:=G;rcases G with G|G
  .show Lo G
  .show absurd rfl (S.nofree _ (PySem.mem_of_lookup G))
 .show le_of_lt (x.above y c (PySem.mem_of_lookup h))
 .have hi:i<vs.length:=by
   unfold start at h2;by_cases hi:i<vs.length
   .show hi
   .rw[getElem?_append_right ↑hi]at h2;rw[List.getElem?_replicate]at h2;split at h2<;>cases h2
  have ha:vs[i]?=some v:=by
   unfold start at h2;rw[getElem?_append_left ↑hi,qE]at h2;cases e:vs[i]? with
   |none=>rw[e]at h2;cases h2
   |some a=>rw[e]at h2;cases h2;rfl
  let#[u,Y,rv]:=r.get ha;let L:ps[i]?=some y:=by rw[<-S.pre,List.getElem?_take_of_lt ∅];show h1
  let J:ps.Nodup:=by rw[<-S.pre];show S.nd.sublist (List.take_sublist _ _)
  show#[u,rv,?_];rcases S.par y (qL L)with k|k
  .show .inl #[k,MA J L Y k]
  .obtain⟨c,e⟩:=Lo (n:=s.heap.objs.size+1) k;show .inr #[.inl k,c,e,?_];let q:=x.cell y c e;rw[LR J L Y (by show scope.names.lookup y≠_;rw[k];decide)]at q;show q
 .show B.hok.fresh (le_of_lt (x.above y c (PySem.mem_of_lookup h)))
 .unfold start;show _=N.length;rw[qq,qo,List.length_replicate];lia
def MX{K:W.Frag}{dV kV h1 pm B ct oc:Value}(lk:K.lookup f=some #[oc,od,.func (W.fnOf name qual params body scope dV kV h1 pm an B ct),h4])(h3:W.codeIn K B qual=true)(S:aM N ps scope)
  (len:∀vs H Q E,sp vs H Q E->vs.length=ps.length)
  (G:∀(A:Around)(z:List Env)(s:Shared)(H:Hp)(vs:List V)(Q:VK)(E:XK),bE k (A.deeper (envOfC qual scope s.heap.objs.size f B))->sp vs H Q E->
   ∃t,gV (eN CX P w K mg base N qual scope f B A z s H E) body t/\t {nx:=λ_ H'=>Q .non H',rt:=Q} (start N vs) H):
  eO P w K mg base CX (k+1) f (W.fnOf name qual params body scope dV kV h1 pm an B ct) ps sp:=by
 refine#[len,λA z s H args us vs Q E hr Y hb r M=>?_];let hl:=len _ _ _ _ M;let KX:K.In s.heap:=Y.mod.kin.keeps λb o e=>(Y.bs b o e).1;let h2:s.heap.NoLimit:=Y.mod.nolimit.keeps λb o e=>(Y.bs b o e).1;let F:∀y∈ps.zip us,scope.names.lookup y.1=some .local\/(scope.names.lookup y.1=some .cell/\((cellsFrom (s.heap.objs.size+1) scope.names []).lookup y.1).isSome=true):=λ⟨n,v⟩ hy=>by
  rcases S.par n (of_mem_zip hy).1 with q|q
  .show .inl q
  .show .inr #[q,W.cellsFrom_some _ _ _ (.inl q)]
 refine codeAny_call_function hr.depth (KX _ _ lk) rfl S.co S.gen rfl (W.codeRec_of KX h3) (hb _ _ _ _ ?_);show wpAny_newFunctionEnv_cells S.kind F λh5 he s1 x=>?_;subst he;show#[h2.keeps x.toInCall.keep,codeAny_func ?_];let#[t,ht,hq]:=G A z s H vs Q E (hr.deeper _) M;let I:Inv (eN CX P w K mg base N qual scope f B A z s H E) [] (start N vs) H s1:=Rv S hr.hd Y hl r x;show zg (ht [] s1 (start N vs) H _ I hq) (λfl s' L=>?_) λe s' L=>L;let O:∀{Z':St}{H':Hp}{v:V}{u:Value},Inv (eN CX P w K mg base N qual scope f B A z s H E) [] Z' H' s'->zt v u->Q v H'->CE z P w H s Q u s':=
  λ{Z' H' v u} J rv q=>#[v,H',J.os,J.bare,J.base,J.hok,rv,q]
 cases fl with
 |ret u=>let#[v,Z',H',J,rv,q]:=L;show O J rv q
 |next=>let#[Z',H',J,q]:=L;show O (v:=V.non) (u:=Value.none) J rfl q
 |brk=>let#[_,_,_,q]:=L;show False.elim q
 |cont=>let#[_,_,_,q]:=L;show False.elim q
section
variable{X:Cx}{x:Str}{p pos:Pos}{e:Expr}{es:List Expr}{t:TA}{id T:String}{r:List V->Hp->VK->Prop}
def xG(r:List V->Hp->VK->Prop)(t:TA):TE:=λZ H Q=>t Z H λv H1=>r v H1 Q
def QB(hc:aS X (.builtin id) r)(Y:Gl X x)(O:X.mg x=none)(M:bootBuiltins x=some (.builtin id))(ha:PA X (e::es) t)(hn:autoParam (x≠"__name__") dZ9)(z:autoParam ((x==("__debug__":Str))=false) dZ9)
  (he:autoParam (starEach (e::es) X.env=(false,eval e X.env)::starEach es X.env) rZ9)(v:autoParam ((backTo pos (starEach es X.env)).any (·.1)=false) rZ9):PE X (.Call (.Name x p) (e::es) [] pos) (xG r t):=by
 intro zC s Z H Q I h;show wpAny_Call_Name_kw (HX I Y O M ?_ hn z);show PyProof.Rows.callWith_builtin1 (Aq (ha pos zC s Z H _ I h) λF G⟨B,H1,I1,J,L⟩=>hc zC G Z H1 B F Q I1 J L) he v
def Rf(hc:aS X (.type T) r)(Y:Gl X x)(O:X.mg x=none)(M:bootBuiltins x=some (.type T))(ha:PA X (e::es) t)(hn:autoParam (x≠"__name__") dZ9)(z:autoParam ((x==("__debug__":Str))=false) dZ9)
  (he:autoParam (starEach (e::es) X.env=(false,eval e X.env)::starEach es X.env) rZ9)(v:autoParam ((backTo pos (starEach es X.env)).any (·.1)=false) rZ9):PE X (.Call (.Name x p) (e::es) [] pos) (xG r t):=by
 intro zC s Z H Q I h;show wpAny_Call_Name_kw (HX I Y O M ?_ hn z);show PyProof.Rows.callWith_type1 (Aq (ha pos zC s Z H _ I h) λF G⟨B,H1,I1,J,L⟩=>hc zC G Z H1 B F Q I1 J L) he v
end
section
variable{κ:Type}[DecidableEq κ]
def cE(zD:List (κ×V))(k:κ):Option V:=(zD.find? λv=>decide (v.1=k)).map (·.2)
def cG(zD:List (κ×V))(k:κ)(v:V):List (κ×V):=
 if(zD.any λz=>decide (z.1=k))=true then zD.map (λz=>if z.1=k then(z.1,v)else z)else zD++[(k,v)]
def Gm{p:κ×V}{r:List (κ×V)}{k:κ}(e:p.1=k):cE (p::r) k=some p.2:=by simp[cE,find?_cons,e]
def FV{p:κ×V}{r:List (κ×V)}{k:κ}(e:¬p.1=k):cE (p::r) k=cE r k:=by simp[cE,find?_cons,e]
def IR(k:κ):∀zD:List (κ×V),(zD.any λv=>decide (v.1=k))=(cE zD k).isSome
 |[]=>rfl
 |p::r=>by
  rw[any_cons];by_cases e:p.1=k
  .simp[Gm e,qP e,Bool.true_or,isSome_some]
  .rw[FV e,qQ e];show IR k r
def Ms(zD:List (κ×V))(k:κ)(v:V):(cG zD k v).length<=zD.length+1:=by unfold cG;grind
def Lw{zD:List (κ×V)}{k:κ}(v:V)(h:cE zD k=none):cG zD k v=zD++[(k,v)]:=by unfold cG;rw[IR,h];show qZ ⋯
def eB.isSome_eq(r:eB o u):o.isSome=u.isSome:=by
 cases o with
 |none=>cases u with
  |none=>rfl
  |some _=>show(show False from r).elim
 |some _=>cases u with
  |none=>show(show False from r).elim
  |some _=>rfl
def eB.getD(r:eB o u)(v:zt d d'):zt (o.getD d) (u.getD d'):=by
 cases o with
 |none=>cases u with
  |none=>show v
  |some _=>show(show False from r).elim
 |some _=>cases u with
  |none=>show(show False from r).elim
  |some _=>show r
def KV.val{zD:List (κ×V)}{vs:List (κ×Value)}(r:KV zD vs)(k:κ):eB (cE zD k) (valueAt vs k):=by
 induction r with
 |nil=>show True.intro
 |@cons p q ps v h t F=>
  let#[h1,h2]:=h;by_cases e:p.1=k
  .let B:q.1=k:=h1.symm.trans e;let b:valueAt (q::v) k=some q.2:=by simp[valueAt,B]
   rw[Gm e,b];show h2
  .let B:¬q.1=k:=λz=>e (h1.trans z);let b:valueAt (q::v) k=valueAt v k:=by simp[valueAt,B]
   rw[FV e,b];show F
def KV.any(r:KV zD vs)(k:κ):(zD.any λv=>decide (v.1=k))=vs.any λv=>decide (v.1=k):=by
 induction r with
 |nil=>rfl
 |cons h t z=>rw[any_cons,any_cons,z,h.1]
def KV.repl(r:KV zD vs)(k:κ)(B:zt y u):
  KV (zD.map λv=>if v.1=k then(v.1,y)else v) (vs.map λv=>if v.1=k then(v.1,u)else v):=by
 induction r with
 |nil=>show .nil
 |@cons p q ps F h t z=>show .cons ?_ z;grind
def KV.put(r:KV zD vs)(k:κ)(v:zt y u):KV (cG zD k y) (stored vs k u):=by
 unfold cG stored;rw[r.any k];by_cases e:(vs.any λz=>decide (z.1=k))=true
 .rw[qY e,qY e];show r.repl k v
 .rw[qZ e,qZ e];show Paired.snoc r #[rfl,v]
def KV.length(r:KV zD vs):zD.length=vs.length:=Paired.length r
end
def Ek(r:zt (kV k) u):(aE P w).is k u=true:=by
 cases k with
 |inl i=>let#[t,e]:=(show∃t,u=Value.int i t from r);subst e;show Su P w i t
 |inr x=>let#[t,e]:=(show∃t,u=Value.str x t from r);subst e;show Sx P w x t
def Gs(e:kV a=kV b):a=b:=by
 cases a with
 |inl i=>cases b with
  |inl j=>have v:V.int i=V.int j:=e;injection v with v;rw[v]
  |inr y=>show nomatch (show V.int i=V.str y from e)
 |inr x=>cases b with
  |inl j=>show nomatch (show V.str x=V.int j from e)
  |inr y=>have v:V.str x=V.str y:=e;injection v with v;rw[v]
def Gu:∀{a b:List aK},a.map kV=b.map kV->a=b
 |[],[],_=>rfl
 |[],_::_,e=>by simp at e
 |_::_,[],e=>by simp at e
 |x::xs,y::ys,e=>by
  injection e with e1 e2
  rw[Gs e1,Gu e2]
def Me:∀{ks:List aK}{v:List Value},zz (ks.map kV) v->ItemsAre (aE P w) ks v
 |[],_,r=>by rw[map_nil]at r;cases r;show .nil
 |k::ks,_,r=>by
  cases r with
  |cons h t=>show .cons (Ek h) (Me t)
abbrev KT(H:Hp):List (List aK×V)->List (List aK×Addr×Value)->Prop:=Paired λp q=>p.1=q.1/\H q.2.1=some (.tup (p.1.map kV))/\zt p.2 q.2.2
def KT.val{H:Hp}{zD:List (List aK×V)}{xs:List (List aK×Addr×Value)}(r:KT H zD xs)(k:List aK):eB (cE zD k) ((atKey xs k).map (·.2)):=by
 induction r with
 |nil=>show True.intro
 |@cons p q ps v h t F=>
  let#[h1,_,h2]:=h;by_cases e:p.1=k
  .let B:q.1=k:=h1.symm.trans e;let b:atKey (q::v) k=some q.2:=by simp[atKey,B]
   rw[Gm e,b];show h2
  .let B:¬q.1=k:=λz=>e (h1.trans z);let b:atKey (q::v) k=atKey v k:=by simp[atKey,B]
   rw[FV e,b];show F
def KT.repl(r:KT H zD xs)(k:List aK)(B:zt y u):
  KT H (zD.map λv=>if v.1=k then(v.1,y)else v) (xs.map (putAt k u)):=by
 induction r with
 |nil=>show .nil
 |@cons p q ps J h t F=>
  rw[qy];show .cons ?_ F;let#[h1,h2,G]:=h;unfold putAt;by_cases e:p.1=k
  .rw[qY e,qY (h1.symm.trans e)];show#[h1,h2,B]
  .rw[qZ e,qZ (λz=>e (h1.trans z))];show#[h1,h2,G]
def KT.put(r:KT H zD xs)(k:List aK)(B:H b=some (.tup (k.map kV)))(v:zt y u):
  KT H (cG zD k y) (storedH xs k b u):=by
 let e:(zD.any λz=>decide (z.1=k))=(atKey xs k).isSome:=by rw[IR,(r.val k).isSome_eq,isSome_map]
 unfold cG storedH;rw[e];by_cases q:(atKey xs k).isSome=true
 .rw[qY q,qY q];show r.repl k v
 .rw[qZ q,qZ q];show Paired.snoc r #[rfl,B,v]
def KT.keeps(r:KT H zD xs)(v:∀b ys,H b=some (.tup ys)->H' b=some (.tup ys)):KT H' zD xs:=
 Paired.mapP r λ_ _ z=>#[z.1,v _ _ z.2.1,z.2.2]
def JM(ok:dP P w H h)(e:Rd H a u):zB P w H h a u:=e.ok ok
def FQ(ok:dP P w H h)(e:Rd H a (.dK zD)):zD.length<=sizeLine/\(a==sysModules)=false/\∃vs,KV zD vs/\h.DictOf (aE P w) a vs:=
 show zB P w H h a (.dK zD) from JM ok e
def MY(ok:dP P w H h)(e:H a=some (.dK zD)):zD.length<=sizeLine/\(a==sysModules)=false/\∃vs,KV zD vs/\h.DictOf (aE P w) a vs:=FQ ok (.inl e)
def Em(ok:dP P w H h)(e:H a=some (.tup (ks.map kV))):(tupleKind (aE P w)).is h ks a:=by
 let#[_,v,r,o,h1,h2,n,z]:=(show zB P w H h a (.tup (ks.map kV)) from ok a _ e)
 show#[o,v.toArray,n,h1,h2,z,Me r]
def FR(ok:dP P w H h)(e:Rd H a (.dT zD)):zD.length<=sizeLine/\(a==sysModules)=false/\
  ∃xs,KT H zD xs/\h.DictOfH (tupleKind (aE P w)) a xs:=by
 let#[z,y,xs,r,o,es,ep,h1,h2,L,J,G]:=(show zB P w H h a (.dT zD) from JM ok e)
 refine#[z,y,xs,r,o,es,ep,h1,h2,L,J,λx v=>?_,G];let all:∀{l:List (List aK×V)}{m:List (List aK×Addr×Value)},KT H l m->∀x∈m,(tupleKind (aE P w)).is h x.1 x.2.1:=by
  intro l m q;induction q with
  |nil=>intro x v;show nomatch v
  |@cons p q ps M B t F=>
   intro x v;rcases qA.mp v with e|v
   .subst e;show Em ok (by rw[<-B.1];show B.2.1)
   .show F x v
 show all r x v
def NH(ok:dP P w H h)(e:H a=some (.dT zD)):zD.length<=sizeLine/\(a==sysModules)=false/\
  ∃xs,KT H zD xs/\h.DictOfH (tupleKind (aE P w)) a xs:=FR ok (.inl e)
def fH(H:Hp)(a:Addr)(y:V)(r:Option V):Prop:=
 (∃zD k,Rd H a (.dK zD)/\y=kV k/\r=cE zD k)\/∃zD k b,Rd H a (.dT zD)/\y=.ref b/\H b=some (.tup (k.map kV))/\r=cE zD k
def vL(H:Hp)(a:Addr)(y v:V)(H':Hp):Prop:=
 (∃zD k,H a=some (.dK zD)/\y=kV k/\zD.length<sizeLine/\H'=upd H a (.dK (cG zD k v)))\/
 ∃zD k b,H a=some (.dT zD)/\y=.ref b/\H b=some (.tup (k.map kV))/\zD.length<sizeLine/\H'=upd H a (.dT (cG zD k v))
def Inv.big(I:Inv X zC Z H s):sysModules<s.heap.objs.size:=by let h:mainGlobals<s.heap.objs.size:=(I.mod.glob.keeps I.bk).lt;show lt_trans ⋯ h
def JC(M:A.units+1<cLine)(I:Inv X zC Z H s)(g:fH H a y o)(L:zt y u)(h:∀s',Inv X zC Z H s'->Q (.bool o.isSome) s'):
  wpAny (model X.prog X.w) A (compareOp .In u (.ref a)) Q E s:=by
 rcases g with⟨B,k,e,G,l⟩|⟨B,k,b,e,G,O,l⟩
 .subst G;let#[z,F,Y,v,J]:=FQ I.hok e;show wpAny_in_of (Ek L) F J.mapOf ?_;rw[<-(v.val k).isSome_eq,<-l];show h _ (I.tok _)
 .subst G;cases(show u=Value.ref b from L);let#[z,F,xs,v,J]:=FR I.hok e;show wpAny_in_heap (tupleKind_room_in1 M) (Em I.hok O) F J ?_;let q:=(v.val k).isSome_eq;rw[isSome_map]at q;rw[<-q,<-l];show h _ (I.tok _)
def Oy(M:A.units+1<cLine)(I:Inv X zC Z H s)(g:fH H a y o)(L:zt y u)(h:∀s',Inv X zC Z H s'->Q (.bool (!o.isSome)) s'):
  wpAny (model X.prog X.w) A (compareOp .NotIn u (.ref a)) Q E s:=by
 rcases g with⟨B,k,e,G,l⟩|⟨B,k,b,e,G,O,l⟩
 .subst G;let#[z,F,Y,v,J]:=FQ I.hok e;show wpAny_notIn_of (Ek L) F J.mapOf ?_;rw[<-(v.val k).isSome_eq,<-l];show h _ (I.tok _)
 .subst G;cases(show u=Value.ref b from L);let#[z,F,xs,v,J]:=FR I.hok e;show wpAny_notIn_heap (tupleKind_room_in1 M) (Em I.hok O) F J ?_;let q:=(v.val k).isSome_eq;rw[isSome_map]at q;rw[<-q,<-l];show h _ (I.tok _)
def Hh(I:Inv X zC Z H s)(B:vD (H a))(hs:Heap.SameBut a s.heap h')(F:∃q,h'.get? a=some q)(new:zB X.prog X.w (upd H a v) h' a v):
  Inv X zC Z (upd H a v) {s with heap:=h',toks:=t'}:=
 I.write (x:=a) (e:=a) B (.inl rfl) (λb q G z=>(hs.2 b G).trans z) F new
def NU(z:zD.length<=sizeLine)(B:(a==sysModules)=false)(v:KV zD vs)(F:h'.DictOf (aE P w) a vs):
  zB P w H' h' a (.dK zD):=#[z,B,vs,v,F]
def RE(h:Heap)(v:sysModules<h.objs.size):zB P w H (h.push {cls:=.type "dict",data:=.dict #[]}) h.objs.size (.dT []):=
 #[zero_le _,beq_eq_false_iff_ne.mpr (Ne.symm (ne_of_lt v)),[],.nil,_,#[],0,qd _ rfl,#[rfl,rfl,rfl],rfl,rfl,List.nodup_nil]
def pK:TE:=λ_ H Q=>∀p,H p=none->Q (.ref p) (upd H p (.dT []))
def QF:PE X (.Dict [] [] pos) pK:=λzC s Z H Q I h=>wpAny_Dict_empty #[.ref s.heap.objs.size,_,I.laid (a:=s.heap.objs.size) (o:=.dT []) (t':=s.toks) (λ_ _ q=>qc _ q) (q5 _) (RE s.heap I.big),rfl,h _ (I.hok.fresh (q5 _))]
structure M2(X:Cx)(o:Expr)(m:Str)(apos:Pos)(e f:Expr)(cpos:Pos):Prop where
 base:attributeBase o m X.env (eval o X.env)=eval o X.env
 few:((backTo cpos (starEach [e,f] X.env)).all (λx=>!x.1)&&(backToKw cpos (keywordEach [] X.env)).all (λx=>x.1.isSome)
  &&decide (([e,f]:List Expr).length+([]:List Keyword).length+(if([]:List Keyword).isEmpty then 0 else 1)<30))=true
 line:(apos.endLine==cpos.line)=true
 trees:backTo cpos (starEach [e,f] X.env)=[(false,eval e X.env),(false,eval f X.env)]
def vI(H:Hp)(a:Addr):Prop:=(∃zD,Rd H a (.dK zD))\/∃zD,Rd H a (.dT zD)
def Ke(I:Inv X zC Z H s)(d:vI H a):
  s.TypeIs (.ref a) "dict"/\(∀b,Value.ref a=.ref b->∃v,s.heap.get? b=some v/\v.dict=none)/\(a==sysModules)=false:=by
 rcases d with⟨B,e⟩|⟨B,e⟩
 .obtain⟨_,F,G,_,z⟩:=FQ I.hok e;show#[z.typeIs,λb q=>?_,F];cases q;let#[v,_,_,h1,h2,_]:=z;show#[v,h1,h2.2.1]
 .obtain⟨_,F,xs,_,z⟩:=FR I.hok e;show#[z.typeIs,λb q=>?_,F];cases q;let#[v,_,_,h1,h2,_]:=z;show#[v,h1,h2.2.1]
def NM(Y:A.units+1<cLine)(I:Inv X zC Z H s)(g:fH H a y o)(M:zt y u)(O:zt d r)(h:∀L s',Inv X zC Z H s'->zt (o.getD d) L->Q L s'):
  wpAny (model X.prog X.w) A (call (.builtin "dict.get") [.ref a,u,r]) Q E s:=by
 rcases g with⟨F,k,e,J,l⟩|⟨F,k,b,e,J,eb,l⟩
 .subst J;let#[z,G,vs,v,B]:=FQ I.hok e;show call_meetsIn PySem.F.slot_dict_get B.typeIs PySem.F.entry_dict_get (PySem.F.args_dict_get_3 _ _ _) (meets_dict_get_default (aE X.prog X.w) a (Ek M) G r) #[_,B.mapOf,h _ _ (I.tok _) ?_];rw[l];show(v.val k).getD O
 .subst J;cases(show u=Value.ref b from M);let#[z,G,xs,v,B]:=FR I.hok e;show call_meetsIn PySem.F.slot_dict_get B.typeIs PySem.F.entry_dict_get (PySem.F.args_dict_get_3 _ _ _) (meetsH_dict_get_default (tupleKind (aE X.prog X.w)) a b G r) #[tupleKind_room_in1 Y,k,xs,Em I.hok eb,B,h _ _ (I.tok _) ?_];rw[l];show(v.val k).getD O
def pM(B ty tx:TE):TE:=λZ H Q=>B Z H λx H1=>∃a,x=.ref a/\vI H1 a/\ty Z H1 λy H2=>tx Z H2 λz v=>∃o,fH v a y o/\Q (o.getD z) v
def Qr(hu:X.A.units+1<cLine)(ho:PE X o G)(he:PE X e ty)(hf:PE X f tx)(m:M2 X o "get" apos e f cpos):PE X (.Call (.Attribute o "get" apos) [e,f] [] cpos) (pM G ty tx):=by
 intro zC s Z H Q I h;show wpAny_Call_method m.base m.few m.line PySem.F.plainAttrs_dict PySem.F.slot_dict_get PySem.F.type_dict_get (Aq (ho zC s Z H _ I h) λu O F=>?_);let#[x,H1,B,rx,a,ex,d,q1]:=F;subst ex;obtain rfl:u=Value.ref a:=rx;let#[L,J,_]:=Ke B d;show#[L,J,?_];rw[m.trees];show Calls.callWith_builtin rfl (Calls.evalArgs_plain (Calls.spliced_cons (Aq (he zC O Z H1 _ B q1) λiv M⟨y,H2,I2,ry,q2⟩=>Calls.spliced_cons (Aq (hf zC M Z H2 _ I2 q2) λfv s3⟨z,H3,I3,Y,ov,g,q3⟩=>Calls.spliced_nil ?_))))
 show NM hu I3 g ry Y λw' s4 I4 v=>#[_,H3,I4,v,q3]
end L2
namespace HT
open PySem PyProof.Rows
theorem cat_tup(ht:IsTup s.heap t vs.toArray)(hb:IsTup s.heap b v.toArray)(hv:vs≠[])
  (h1:v=[]->Q (.ref t) s)(h2:v≠[]->Q (.ref s.heap.objs.size) {s with heap:=s.heap.push {cls:=.type "tuple",data:=.seq (vs++v).toArray}})
  (hsz:vs.length+v.length<=sizeLine):wpAny (model prog w) A (binaryOp .Add (.ref t) (.ref b)) Q E s:=by
 let#[#[cls,dd,data,O],J,hc,n,hd]:=id ht;let#[#[h3,F,data2,B],z,M,Y,L]:=id hb;subst hc hd M L;let e:vs.toArray++v.toArray=(vs++v).toArray:=by simp
 by_cases G:v=[]
 .exact concat_meets #[_,J,rfl] #[_,z,rfl] noFill_tuple_add seq_tuple_add PySem.F.slot_tuple_add PySem.F.entry_tuple_add (PySem.F.args_tuple_add_2 _ _)
   (tuple_addW1 t b vs.toArray v.toArray n Y dd F O B ↑hv (by simp[G])) #[J,z,h1 G]
 .refine concat_meets #[_,J,rfl] #[_,z,rfl] noFill_tuple_add seq_tuple_add PySem.F.slot_tuple_add PySem.F.entry_tuple_add (PySem.F.args_tuple_add_2 _ _)
   (tuple_addW2 t b vs.toArray v.toArray n Y dd F O B ↑hv ↑G (by rw[qr];show hsz)) #[J,z,?_]
  rw[e];show h2 G
def sIx(n d:Nat):Option Int->Nat
 |none=>d
 |some v=>if v<0 then(v+(n:Int)).toNat else min v.toNat n
theorem sIx_le(n d:Nat)(B:d<=n)(o:Option Int):sIx n d o<=n:=by
 cases o with
 |none=>show B
 |some v=>
  show(if v<0 then(v+(n:Int)).toNat else min v.toNat n)<=n;by_cases z:v<0
  .rw[qY z];lia
  .rw[qZ z];show min_le_right _ _
def Kr(v:Int)(n d:Nat):(if v<0 then max (v+(n:Int)) 0 else min v (n:Int))=((sIx n d (some v):Nat):Int):=by show(if v<0 then max (v+(n:Int)) 0 else min v (n:Int))=(((if v<0 then(v+(n:Int)).toNat else min v.toNat n):Nat):Int);grind
def RO(lo hi:Option Int)(n:Nat):Builtin.Slice.sliceAdjust lo hi 1 (n:Int)=(((sIx n 0 lo:Nat):Int),((sIx n n hi:Nat):Int)):=by
 let h1:¬((1:Int)<0):=∅
 unfold Builtin.Slice.sliceAdjust;show Prod.ext ?_ ?_
 .cases lo with
  |none=>rfl
  |some v=>show Kr v n 0
 .cases hi with
  |none=>rfl
  |some v=>show Kr v n n
def SL(i j:Nat):Builtin.Slice.slicePlaces (i:Int) (j:Int) 1=j-i:=by
 unfold Builtin.Slice.slicePlaces;let h1:(1:Int)>0:=∅
 split<;>lia
def Mj(p:IsPart v o)(h:Q o s):wpAny (model prog w) A (Builtin.Slice.slicePartIndex v) Q E s:=by
 cases p with
 |none=>show slicePart_none h
 |int i t=>show slicePart_int h
theorem sliceApplied_gen{lo hi:Option Int}{n:Nat}(hs:s.heap.IsSliceOf G F B .none)(L:IsPart F lo)(J:IsPart B hi)
  (h:Q (((sIx n 0 lo:Nat):Int),1,sIx n n hi-sIx n 0 lo) s):wpAny (model prog w) A (Builtin.Slice.sliceApplied (.ref G) (pure (n:Int))) Q E s:=by
 let#[os,v,M,z]:=id hs;show qa (qa (wpAny_field v z (x:=F) rfl (qa (wpAny_field v z (x:=B) rfl (qa (wpAny_field v z (x:=.none) rfl (qb ?_)))))));show qa (slicePart_none ?_);show qa (Mj L (qa (Mj J (qa (qb ?_)))));show wpAny _ _ (match Builtin.Slice.sliceAdjust lo hi 1 (n:Int)with|(lo,hi)=>pure (lo,(1:Int),Builtin.Slice.slicePlaces lo hi 1)) _ _ s;rw[RO lo hi n];show wpAny _ _ (pure (((sIx n 0 lo:Nat):Int),(1:Int),Builtin.Slice.slicePlaces ((sIx n 0 lo:Nat):Int) ((sIx n n hi:Nat):Int) 1)) _ _ s;rw[SL];show qb h
def Qw(xs:Array Value)(i k:Nat):((List.range k).filterMap λ(m:Nat)=>xs[((i:Int)+(m:Int)*1).toNat]?).toArray=((xs.toList.drop i).take k).toArray:=by
 have e:(λ(m:Nat)=>xs[((i:Int)+(m:Int)*1).toNat]?)=λm=>xs[i+m]?:=by
  funext m
  let:((i:Int)+(m:Int)*1).toNat=i+m:=∅
  rw[this]
 rw[e];let:=pick_run xs i k;rw[List.filterMap_map]at this;let v:((λx=>xs[x]?)∘λx=>i+x)=λm=>xs[i+m]?:=rfl;rw[v]at this;rw[this]
theorem getItem_tuple_cut{lo hi:Option Int}(z:IsTup s.heap t items)(hs:s.heap.IsSliceOf L O M .none)(pl:IsPart O lo)(Y:IsPart M hi)
  (hw:¬(sIx items.size 0 lo=0/\sIx items.size items.size hi=items.size))
  (h:Q (.ref s.heap.objs.size) {s with heap:=s.heap.push {cls:=.type "tuple",data:=.seq ((items.toList.drop (sIx items.size 0 lo)).take (sIx items.size items.size hi-sIx items.size 0 lo)).toArray}})
  (hsz:items.size<=sizeLine):wpAny (model prog w) A (getItem (.ref t) (.ref L)) Q E s:=by
 let v:sizeOk (.seq ((items.toList.drop (sIx items.size 0 lo)).take (sIx items.size items.size hi-sIx items.size 0 lo)).toArray):=by show((items.toList.drop (sIx items.size 0 lo)).take (sIx items.size items.size hi-sIx items.size 0 lo)).toArray.size<=sizeLine;rw[qr,qG,qF];show le_trans (min_le_right ..) (le_trans (sub_le ..) hsz)
 let#[os,B,G,h1]:=id hs;let J:s.TypeIs (.ref L) "slice":=#[os,B,G]
 unfold getItem;try with_reducible show ze ?_
 first|show qa (qb ?_)|skip
 refine qa (wpAny_sequenceKey z.typeIs ⋯ ?_);refine qa (wpAny_callSpecial?_slot (name:=Str.ofString "__getitem__") z.typeIs PyProof.Rows.slot_tuple_getitem
  (zc PyProof.Rows.slot_tuple_getitem z.typeIs entry_tuple_getitem ?_ (args_tuple_getitem _ _)))
 show wpAny _ _ (Builtin.Tuple.tupleItemsOf (.ref t)>>=_) _ _ s;show qa (tupleItemsOf_ z ?_);show qa (wpAny_typeOf J ?_);show qa (sliceApplied_gen hs pl Y ?_);let F:¬((((sIx items.size 0 lo:Nat):Int)==0&&(1:Int)==1&&(sIx items.size items.size hi-sIx items.size 0 lo)==items.size)=true):=by grind
 show wpAny _ _ (if(((sIx items.size 0 lo:Nat):Int)==0&&(1:Int)==1&&(sIx items.size items.size hi-sIx items.size 0 lo)==items.size)=true then _ else _) _ _ s;rw[qZ F,Qw];first
  |show qa (m:=Builtin.Tuple.tupleExact _) (zb (qb ⟨_,rfl,qb h⟩) v)
  |show qa (m:=Builtin.Tuple.tupleExact _) (zb (qa (qb (qb ⟨_,rfl,qb h⟩))) v)
  |show qa (qa (m:=Builtin.Tuple.tupleExact _) (zb (qb (qb ⟨_,rfl,qb h⟩)) v))
  |show qa (qa (m:=Builtin.Tuple.tupleExact _) (zb (qb ⟨_,rfl,qb h⟩) v))
end HT
namespace L2
open PySem PySem.Spec PyProof.Rows
abbrev TO:=St->Hp->(Option Int->Hp->Prop)->Prop
@[inline]def PO(X:Cx)(e:Option Expr)(t:TO):Prop:=
 ∀(zC:List (Addr×Obj))(s:Shared)(Z:St)(H:Hp)(Q:Option Int->Hp->Prop),Inv X zC Z H s->t Z H Q->
  wpAny (model X.prog X.w) X.A (evalPart e X.env) (λu s'=>∃o H',Inv X zC Z H' s'/\IsPart u o/\Q o H') X.xe s
def mG:TO:=λ_ H Q=>Q none H
def sY(t:TE):TO:=λZ H Q=>t Z H λx H1=>∃i,x=.int i/\Q (some i) H1
def Jf:∀{v:List Value},zz (ns.map V.int) v->IntsAre v ns:=by
 induction ns with
 |nil=>intro v r;rw[map_nil]at r;cases r;show .nil
 |cons n ns F=>
  intro v r;cases r with
  |cons B z=>let#[t,e]:=B;subst e;show .cons n t (F z)
section
variable{lo hi:Option Expr}
def Pb:PO X none mG:=by intro zC s Z H Q I h;show qb #[none,H,I,.none,h]
def IE(h:PE X e te):PO X (some e) (sY te):=by intro zC s Z H Q I F;show Aq (h zC s Z H _ I F) λu J v=>?_;let#[x,H1,G,z,B]:=v;let#[i,rfl,q]:=B;let#[t,rfl]:=z;show#[some i,H1,G,.int i t,q]
def jJ(X:Cx)(r:V->Option Int->Option Int->Hp->VK->Prop):Prop:=
 ∀(zC:List (Addr×Obj))(s:Shared)(Z:St)(H:Hp)(x:V)(v B z:Value)(lo hi:Option Int)(F:Addr)(Q:VK),Inv X zC Z H s->zt x v->s.heap.IsSliceOf F B z .none->IsPart B lo->IsPart z hi->r x lo hi H Q->
  ∃T id,typeLookup (.type T) "__getitem__"=pure (some (.builtin id))/\s.TypeIs v T/\wpAny (model X.prog X.w) X.A (getItem v (.ref F)) (EP X zC Z Q) X.xe s
def jJ.or(h:jJ X r)(h':jJ X O):jJ X (λx lo hi H Q=>r x lo hi H Q\/O x lo hi H Q):=by
 intro zC s Z H x v B z lo hi F Q I G M L J q;rcases q with q|q
 .show h zC s Z H x v B z lo hi F Q I G M L J q
 .show h' zC s Z H x v B z lo hi F Q I G M L J q
def bj(r:V->Option Int->Option Int->Hp->VK->Prop)(te:TE)(v z:TO):TE:=λZ H Q=>te Z H λx H1=>v Z H1 λl H2=>z Z H2 λu B=>r x l u B Q
def Ls(hr:jJ X r)(he:PE X e te)(hl:PO X lo L)(hu:PO X hi M):PE X (.Subscript e (.Slice lo hi none p2) pos) (bj r te L M):=by intro zC s Z H Q I h;show Subscript_ (Aq (he zC s Z H _ I h) λv Y B=>?_);let#[x,H1,I1,r1,q1]:=B;show wpAny_Slice (Aq (hl zC Y Z H1 _ I1 q1) λG O⟨l,H2,I2,pl,q2⟩=>Aq (hu zC O Z H2 _ I2 q2) λF z B=>?_);let#[u,J,I3,pu,q3]:=B;show qb ?_;let I4:Inv X zC Z J {z with heap:=z.heap.push {cls:=.type "slice",data:=.fields [G,F,.none].toArray}}:=I3.kept (t':=z.toks) λb ob q=>qc _ q;let#[T,id,hT,ht,hg]:=hr zC {z with heap:=z.heap.push {cls:=.type "slice",data:=.fields [G,F,.none].toArray}} Z J x v G F l u z.heap.objs.size Q I4 r1 (Heap.IsSliceOf.new ..) pl pu q3;show tail_any (ops:=[.ref z.heap.objs.size,v]) ht hT hg (by with_unfolding_all rfl)
def gK(xs:List V)(lo hi:Option Int):List V:=(xs.drop (HT.sIx xs.length 0 lo)).take (HT.sIx xs.length xs.length hi-HT.sIx xs.length 0 lo)
def Mn(xs:List V)(lo hi:Option Int):(gK xs lo hi).length<=xs.length:=by unfold gK;rw[qG,qF];show le_trans (min_le_right ..) (sub_le ..)
def tJ(K:W.Frag):V->Option Int->Option Int->Hp->VK->Prop:=λx lo hi H Q=>∃a xs,x=.ref a/\bJ K H a xs/\
 ¬(HT.sIx xs.length 0 lo=0/\HT.sIx xs.length xs.length hi=xs.length)/\∀p,H p=none->Q (.ref p) (upd H p (.tup (gK xs lo hi)))
def Ny:jJ X (tJ X.K):=by
 intro zC s Z H x v vl vu lo hi sl Q I J hs M L h;let#[a,xs,rfl,O,Y,q]:=h;cases J;let#[B,r,G,F]:=I.tuple O;let z:B.toArray.size=xs.length:=by rw[qr];show r.length.symm
 show#["tuple",_,PyProof.Rows.slot_tuple_getitem.lookup,G.typeIs,?_];show HT.getItem_tuple_cut G hs M L (by rw[z];show Y) ?_ (by rw[z];show F);rw[z];show#[.ref s.heap.objs.size,_,I.laid (t':=s.toks) (o:=.tup (gK xs lo hi)) (λb ob q=>qc _ q) (q5 _) ?_,rfl,q _ (I.hok.fresh (q5 _))];show#[#[le_trans (Mn xs lo hi) F,iG.new rfl (qd _ rfl)],_,(r.drop (HT.sIx xs.length 0 lo)).take (HT.sIx xs.length xs.length hi-HT.sIx xs.length 0 lo),IsTup.new _ _]
def tU(K:W.Frag):R2:=λx y H Q=>∃a b xs ys,x=.ref a/\y=.ref b/\bJ K H a xs/\bJ K H b ys/\xs≠[]/\xs.length+ys.length<=sizeLine/\
 (ys=[]->Q (.ref a) H)/\(ys≠[]->∀p,H p=none->Q (.ref p) (upd H p (.tup (xs++ys))))
def zz.nil_iff(r:zz xs v):v=[]↔xs=[]:=by
 cases r with
 |nil=>simp
 |cons _ _=>simp
def Ow:OpR X (binaryOp .Add) (tU X.K):=by intro zC s Z H x y v u Q I M L h;let#[a,b,xs,ys,rfl,rfl,ha,hb,hx,J,Y,O]:=h;cases M;cases L;let#[h1,F,p1,_]:=I.tuple ha;let#[G,B,p2,_]:=I.tuple hb;show HT.cat_tup p1 p2 (λz=>hx (F.nil_iff.mp z)) (λz=>#[.ref a,H,I,rfl,Y (B.nil_iff.mp z)]) (λz=>?_) (by rw[<-F.length,<-B.length];show J);show#[.ref s.heap.objs.size,_,I.laid (t':=s.toks) (o:=.tup (xs++ys)) (λb ob q=>qc _ q) (q5 _) ?_,rfl,O (λw=>z (B.nil_iff.mpr w)) _ (I.hok.fresh (q5 _))];show#[#[by rw[qq];show J,iG.new rfl (qd _ rfl)],_,F.append B,IsTup.new _ _]
end
def ixN(n:Nat)(i:Int):Option Nat:=if 0<=i then(if i<n then some i.toNat else none)else if -(n:Int)<=i then some (i+n).toNat else none
def atI{α:Type}(xs:List α)(i:Int):Option α:=(ixN xs.length i).bind λj=>xs[j]?
def Iy(h:ixN n i=some j):seqIndex? i n=some j/\j<n/\-(n:Int)<=i/\i<n:=by
 unfold ixN at h;by_cases v:0<=i
 .rw[qY v]at h;by_cases h1:i<n
  .rw[qY h1]at h;let e:i.toNat=j:=qf h;show#[by rw[seqIndex_of v h1,e],∅,∅,h1]
  .rw[qZ h1]at h;cases h
 .rw[qZ v]at h;by_cases h1:-(n:Int)<=i
  .rw[qY h1]at h;let e:(i+n).toNat=j:=qf h;show#[by rw[seqIndex_neg ∅ h1,e],∅,h1,∅]
  .rw[qZ h1]at h;cases h
def Iu(h:atI xs i=some v):∃j,seqIndex? i xs.length=some j/\xs[j]?=some v/\j<xs.length/\-(xs.length:Int)<=i/\i<xs.length:=by
 unfold atI at h;cases e:ixN xs.length i with
 |none=>rw[e]at h;cases h
 |some j=>rw[e]at h;let#[h1,h2,B,z]:=Iy e;show#[j,h1,h,h2,B,z]
def jC(b:Expr):Prop:=∀o i,subscripted b false o i=operate [o,i] (getItem o i)
def nO(X:Cx)(r:R2):Prop:=
 ∀(B z:Expr)(zC:List (Addr×Obj))(s:Shared)(Z:St)(H:Hp)(x y:V)(v u:Value)(Q:VK),Inv X zC Z H s->zt x v->zt y u->r x y H Q->
  subscripted z false v u=operate [v,u] (getItem v u)->wpAny (model X.prog X.w) X.A (subscriptTail B z v u) (EP X zC Z Q) X.xe s
def cj(X:Cx)(id:String)(r:V->List V->Hp->VK->Prop):Prop:=
 ∀(zC:List (Addr×Obj))(s:Shared)(Z:St)(H:Hp)(x:V)(xs:List V)(v:Value)(z:List Value)(Q:VK),Inv X zC Z H s->zt x v->zz xs z->r x xs H Q->
  wpAny (model X.prog X.w) X.A (call (.builtin id) (v::z)) (EP X zC Z Q) X.xe s
section
def nO.or(h:nO X r)(h':nO X L):nO X (λx y H Q=>r x y H Q\/L x y H Q):=by
 intro z B zC s Z H x y v u Q I G F q J;rcases q with q|q
 .show h z B zC s Z H x y v u Q I G F q J
 .show h' z B zC s Z H x y v u Q I G F q J
def Nv(G:nO X r)(L:PE X a ta)(J:PE X b tb)(hs:jC b):PE X (.Subscript a b pos) (vT r ta tb):=by intro zC s Z H Q I h;show Subscript_ (FO L J I h λv u z x y H2 M F B q=>G a b zC z Z H2 x y v u Q M F B q (hs _ _))
def tS(K:W.Frag):R2:=λx y H Q=>∃p xs i v,x=.ref p/\y=.int i/\bK K H p xs/\atI xs i=some v/\Q v H
def tQ(K:W.Frag):R2:=λx y H Q=>∃p xs i v,x=.ref p/\y=.int i/\bJ K H p xs/\atI xs i=some v/\Q v H
def tR:R2:=λx y H Q=>∃z i c,x=.str z/\y=.int i/\z.length<=sizeLine/\atI z.cps.toList i=some c/\Q (.str #[[c].toArray]) H
theorem zjk:nO X (tS X.K):=by
 intro F G zC s Z H x y v u Q I rx ry h Y;let#[p,xs,i,z,rfl,rfl,hq,he,q]:=h;cases rx;let#[t,rfl]:=ry;let#[M,r,L,hz]:=I.list hq;let#[j,h1,h2,h3,h4,h5]:=Iu he;let#[w,ew,J]:=r.get h2;let hl:=r.length;let hn:=AX;let B:EP X zC Z Q w s:=#[z,H,I,J,q]
 by_cases h0:0<=i
 .let O:i.toNat=j:=by rw[seqIndex_of h0 h5]at h1;exact qf h1
  show item_listR L.isList h0 ∅ (by rw[O];simpa using ew) B Y
 .have O:(i+(M.toArray.size:Int)).toNat=j:=by rw[seqIndex_neg ∅ h4]at h1;rw[qr,<-hl];exact qf h1
  exact subscriptTail_builtinR (x:=w) L.isList.typeIs slot_list_getitem.lookup
   (wpAny_getItem_list_neg (Q:=λr s'=>r=w/\EP X zC Z Q r s') L.isList ∅ (by rw[qr]<;>lia) ∅ (by rw[O];simpa using ew) #[rfl,B]) Y
theorem zkH:nO X (tQ X.K):=by
 intro B F zC s Z H x y v u Q I O M h hs;let#[p,xs,i,z,rfl,rfl,hq,he,q]:=h;cases O;let#[t,rfl]:=M;let#[Y,r,L,hz]:=I.tuple hq;let#[j,h1,h2,h3,h4,h5]:=Iu he;let#[w,ew,G]:=r.get h2;let hl:=r.length;let hn:=AX;let J:EP X zC Z Q w s:=#[z,H,I,G,q]
 exact subscriptTail_builtinR (x:=w) L.typeIs slot_tuple_getitem.lookup
  (getItem_tuple (j:=j) (Q:=λr s'=>r=w/\EP X zC Z Q r s') L ∅ ∅ (by rw[qr,<-hl];show h1) ↑ew #[rfl,J]) hs
def NL:nO X tR:=by
 intro B F zC s Z H x y v u Q I J G h L;let#[z,i,c,rfl,rfl,hz,O,q]:=h;let#[t,rfl]:=J;let#[t',rfl]:=G;let#[j,h1,h2,h3,h4,Y]:=Iu O;let M:z.cps.toList.length=z.length:=by simp[Str.length]
 rw[M]at h1 h4 Y;let hn:=AX;show tail_any (typeIs_str s z t) slot_str_getitem.lookup (getItem_str (c:=c) (by let e1:decide (i< -(2^63:Int))=false:=qQ ∅;let e2:decide (i≥2^63)=false:=qQ ∅;rw[e1,e2,Bool.or_false]) (by rw[h1];simpa using h2) #[.str #[[c].toArray],H,I.tok _,#[_,rfl],q]) L
def vU(K:W.Frag):R2:=λx y H Q=>tS K x y H Q\/tQ K x y H Q\/tR x y H Q
def NK:nO X (vU X.K):=zjk.or (zkH.or NL)
def RP(v:List Value)(n j:Nat)(u:Value):Obj.mapSeq (·.setIfInBounds j u) {cls:=.type "list",data:=.seq v.toArray n}={cls:=.type "list",data:=.seq (v.set j u).toArray n}:=by simp[Obj.mapSeq]
def Inv.lst(I:Inv X zC Z H s)(h:H p=some (.lst xs)):
  ∃(v:List Value)(n:Nat),zz xs v/\s.heap.get? p=some {cls:=.type "list",data:=.seq v.toArray n}/\xs.length<=sizeLine:=by
 let#[z,v,n,r,e]:=I.hok p _ h;show#[v,n,r,e,z]
def Inv.lstUpd{v its':List Value}(I:Inv X zC Z H s)(h:H p=some (.lst xs))
  (F:s.heap.get? p=some {cls:=.type "list",data:=.seq v.toArray n})(B:f {cls:=.type "list",data:=.seq v.toArray n}={cls:=.type "list",data:=.seq its'.toArray z})(r:zz ys its')(hz:ys.length<=sizeLine)(t:Nat):
  Inv X zC Z (upd H p (.lst ys)) {s with heap:=s.heap.update p f,toks:=t}:=by
 let e:(s.heap.update p f).get? p=some {cls:=.type "list",data:=.seq its'.toArray z}:=by rw[q9 f F (by rw[B]<;>rfl),B]
 show I.write (x:=p) (e:=p) (by rw[h];trivial) (.inl rfl) (λb u G q=>(q8 _ _ (Ne.symm G)).trans q) #[_,e] ?_;show#[hz,its',z,r,e]
def tO:V->V->V->Hp->(Hp->Prop)->Prop:=λo i v H Q=>∃p xs k j,o=.ref p/\i=.int k/\H p=some (.lst xs)/\ixN xs.length k=some j/\Q (upd H p (.lst (xs.set j v)))
def Rp:uZ X tO:=by
 intro zC s Z H o i v ov iv u Q I ro ri rv h;let#[p,xs,k,j,rfl,rfl,J,hj,q]:=h;cases ro;let#[t,rfl]:=ri;let#[z,n,r,B,hz]:=I.lst J;let#[h1,h2,M,L]:=Iy hj;let F:=r.length;let hn:=AX;let Y:Inv X zC Z (upd H p (.lst (xs.set j v))) {s with heap:=s.heap.update p (Obj.mapSeq (·.setIfInBounds j u))}:=
  I.lstUpd J B (RP z n j u) (r.set rv j) (by rw[length_set];show hz) s.toks
 by_cases O:0<=k
 .let G:k.toNat=j:=by rw[seqIndex_of O L]at h1;exact qf h1
  show W.ki_setAt B O ∅ (by rw[qr,<-F];show L) (by rw[G];show#[_,Y,q])
 .let G:(k+(z.toArray.size:Int)).toNat=j:=by rw[seqIndex_neg ∅ M]at h1;rw[qr,<-F];exact qf h1
  show W.ki_setBack B ∅ (by rw[qr,<-F];show M) ∅ (by rw[G];show#[_,Y,q])
def Tv(lo hi:Option Int)(n:Nat):(sliceBounds lo hi none n).1=((HT.sIx n 0 lo:Nat):Int)/\(sliceBounds lo hi none n).2.1=((HT.sIx n n hi:Nat):Int)/\(sliceBounds lo hi none n).2.2=1:=by
 let v:∀(i:Int)(n d:Nat),max 0 (min (if i<0 then i+(n:Int)else i) (n:Int))=((HT.sIx n d (some i):Nat):Int):=λi n _=>Ff i n;show#[?_,?_,rfl]
 .cases lo with
  |none=>rfl
  |some i=>show v i n 0
 .cases hi with
  |none=>rfl
  |some i=>show v i n n
def Tr(v:List Value)(lo hi:Option Int):slicePick v.toArray lo hi none=((v.drop (HT.sIx v.length 0 lo)).take (HT.sIx v.length v.length hi-HT.sIx v.length 0 lo)).toArray:=by let#[h1,h2,z]:=Tv lo hi v.toArray.size;unfold slicePick;rw[h1,h2,z];simp only[sliceRange_one,pick_run]<;>rfl
def tN(K:W.Frag):V->Option Int->Option Int->Hp->VK->Prop:=λx lo hi H Q=>∃a xs,x=.ref a/\bK K H a xs/\∀p,H p=none->Q (.ref p) (upd H p (.lst (gK xs lo hi)))
def PL:jJ X (tN X.K):=by intro zC s Z H x v vl vu lo hi sl Q I F Y J G h;let#[a,xs,rfl,O,q]:=h;cases F;let#[L,r,B,M]:=I.list O;let z:=r.length;show#["list",_,slot_list_getitem.lookup,B.isList.typeIs,?_];show wpAny_getItem_list_slice B.isList Y J G .none (by simp) ?_ (by rw[qr]<;>lia);rw[Tr,<-z];show#[.ref s.heap.objs.size,_,I.laid (t':=s.toks) (o:=.lst (gK xs lo hi)) (λb ob q=>qc _ q) (q5 _) ?_,rfl,q _ (I.hok.fresh (q5 _))];show#[le_trans (Mn xs lo hi) M,_,0,(r.drop (HT.sIx xs.length 0 lo)).take (HT.sIx xs.length xs.length hi-HT.sIx xs.length 0 lo),qd _ rfl]
def SY:aS X (.builtin "len") (λxs H Q=>∃p ys,xs=[.ref p]/\(bK X.K H p ys\/bJ X.K H p ys)/\Q (.int ys.length) H):=by
 intro zC s Z H xs M Q I r h;let#[p,ys,rfl,z,q]:=h;let#[u,rfl,J]:=vals1 r;cases J;let O:=AX;rcases z with z|z
 .obtain⟨G,B,F,L⟩:=I.list z;let v:=B.length;show Calls.call_len_list F.isList (by simp<;>lia) #[.int ys.length,H,I.tok _,#[s.toks+1,by rw[qr,v]],q]
 .obtain⟨G,B,F,L⟩:=I.tuple z;let v:=B.length;show len_tuple F (by simp<;>lia) #[.int ys.length,H,I.tok _,#[s.toks+1,by rw[qr,v]],q]
def Tw:aS X (.builtin "len") (λxs H Q=>∃z,xs=[.str z]/\z.length<=sizeLine/\Q (.int z.length) H):=by intro zC s Z H xs v Q I r h;let#[z,rfl,B,q]:=h;let#[u,rfl,t,rfl]:=vals1 r;let F:=AX;show len_str ∅ #[.int z.length,H,I.tok _,#[_,rfl],q]
def Tz:aS X (.type "list") (λxs H Q=>∃p ys,xs=[.ref p]/\(bK X.K H p ys\/bJ X.K H p ys)/\∀l,H l=none->Q (.ref l) (upd H l (.lst ys))):=by
 intro zC s Z H xs us Q I r h;let#[p,ys,rfl,J,q]:=h;let#[u,rfl,rx]:=vals1 r;cases rx;let M:∀(v:List Value),zz ys v->ys.length<=sizeLine->∀(h':Heap)(B:Nat),(∀b o',s.heap.get? b=some o'->h'.get? b=some o')->
   h'.get? s.heap.objs.size=some {cls:=.type "list",dict:=none,data:=.seq v.toArray B,slots:=#[]}->EP X zC Z Q (.ref s.heap.objs.size) {s with heap:=h'}:=λv z G h' B F e=>
  #[.ref s.heap.objs.size,_,I.laid (t':=s.toks) F (q5 _) (show zB X.prog X.w _ h' _ (.lst ys) from#[G,v,B,z,e]),rfl,q _ (I.hok.fresh (q5 _))]
 rcases J with J|J
 .obtain⟨v,z,O,G⟩:=I.list J;let L:=z.length;let#[o,Y,hc,n,hd]:=O.isList;show call_list_seq p (.inl rfl) Y hc hd (λh' B F e=>M v z G h' B F e) (by simp<;>lia)
 .obtain⟨v,z,O,G⟩:=I.tuple J;let L:=z.length;let#[o,Y,hc,n,hd]:=O;show call_list_seq p (.inr rfl) Y hc hd (λh' B F e=>M v z G h' B F e) (by simp<;>lia)
def Tt:aS X (.type "tuple") (λxs H Q=>∃p ys,xs=[.ref p]/\((bK X.K H p ys/\∀l,H l=none->Q (.ref l) (upd H l (.tup ys)))\/(bJ X.K H p ys/\Q (.ref p) H))):=by
 intro zC s Z H xs us Q I r h;let#[p,ys,rfl,h]:=h;let#[u,rfl,M]:=vals1 r;cases M;rcases h with⟨F,q⟩|⟨F,q⟩
 .obtain⟨v,z,B,G⟩:=I.list F;let J:=z.length;show call_tuple_list B.isList (λh' O=>?_) (by simp<;>lia);let L:Inv X zC Z H {s with heap:=h'}:=I.kept (t':=s.toks) O;let Y:Inv X zC Z (upd H h'.objs.size (.tup ys)) {s with heap:=h'.push {cls:=.type "tuple",data:=.seq v.toArray}}:=
   L.laid (t':=s.toks) (λb o e=>qc _ e) (q5 _) (show zB X.prog X.w _ _ _ (.tup ys) from#[#[G,iG.new rfl (qd _ rfl)],v,z,IsTup.new _ _])
  show#[.ref h'.objs.size,_,Y,rfl,q _ (L.hok.fresh (q5 _))]
 .obtain⟨v,z,B,G⟩:=I.tuple F;show call_tuple_same B #[.ref p,H,I,rfl,q]
def zZ(K:W.Frag)(T:String)(x:V)(H:Hp):Prop:=match x with
 |.str _=>T="str"
 |.int _=>T="int"
 |.ref p=>(T="list"/\∃xs,bK K H p xs)\/(T="tuple"/\∃o,K.lookup p=some o/\o.cls=.type "tuple"/\o.dict=none)\/
  (T="dict"/\((∃zD,H p=some (.dK zD))\/∃zD,H p=some (.dT zD)))
 |_=>False
def OT(I:Inv X zC Z H s)(r:zt x v)(ty:zZ X.K T x H):
  s.TypeIs v T/\∀a,v=.ref a->∃L,s.heap.get? a=some L/\L.dict=none:=by
 cases x with
 |str z=>let#[t,rfl]:=r;cases(show T="str" from ty);show#[typeIs_str s z t,λ_ e=>nomatch e]
 |int i=>let#[t,rfl]:=r;cases(show T="int" from ty);show#[typeIs_int s i t,λ_ e=>nomatch e]
 |ref p=>
  cases r;rcases ty with⟨rfl,xs,O⟩|⟨rfl,o,B,Y,G⟩|⟨rfl,B⟩
  .obtain⟨M,_,J,_⟩:=I.list O;show#[J.isList.typeIs,λa e=>?_];cases e;let#[o,n,e,c,G,_]:=J;show#[o,e,G]
  .show#[#[o,I.kIn p o B,Y],λa e=>?_];cases e;show#[o,I.kIn _ o B,G]
  .have z:∃o,s.heap.get? p=some o/\o.ExactDict:=by
    rcases B with⟨F,B⟩|⟨F,B⟩
    .obtain⟨_,_,_,_,o,_,_,e,ex,_⟩:=I.hok p _ B;show#[o,e,ex]
    .obtain⟨_,_,_,_,o,_,_,e,ex,_⟩:=I.hok p _ B;show#[o,e,ex]
   let#[o,e,ex]:=z;show#[#[o,e,ex.1],λa e2=>?_];cases e2;show#[o,e,ex.2.1]
 |_=>show False.elim ty
def bo(K:W.Frag)(T:String)(r:V->List V->Hp->VK->Prop)(v:TE)(t:TA):TE:=λZ H Q=>v Z H λx H1=>zZ K T x H1/\t Z H1 λxs H2=>r x xs H2 Q
variable{T id:String}
def Gn(pa:PlainAttrs T)(slot:Slot T name id)(J:typeOf (.builtin id)=pure (.type "method_descriptor"))(hm:cj X id r)(ho:PE X o to)(ha:PA X (e::es) t)
  (F:autoParam (attributeBase o name X.env (eval o X.env)=eval o X.env) rZ9)
  (G:autoParam (((backTo cpos (starEach (e::es) X.env)).all (λx=>!x.1)&&(backToKw cpos (keywordEach [] X.env)).all (λx=>x.1.isSome)
   &&decide ((e::es).length+([]:List Keyword).length+(if([]:List Keyword).isEmpty then 0 else 1)<30))=true) rZ9)
  (B:autoParam ((apos.endLine==cpos.line)=true) rZ9)(hs:autoParam (starEach (e::es) X.env=(false,eval e X.env)::starEach es X.env) rZ9)(z:autoParam ((backTo cpos (starEach es X.env)).any (·.1)=false) rZ9):
  PE X (.Call (.Attribute o name apos) (e::es) [] cpos) (bo X.K T r to t):=by
 intro zC s Z H Q I h;show wpAny_Call_method_late F G B rfl (Aq (ho zC s Z H _ I h) λv s1 Y=>?_);let#[x,H1,O,L,ty,q1]:=Y;let#[h1,h2]:=OT O L ty;show#[T,id,pa,slot,J,h1,h2,?_];let M:=ha cpos zC s1 Z H1 _ O q1;rw[hs]at M⊢;show Calls.callWith_builtin (by show(false||(backTo cpos (starEach es X.env)).any (·.1))=false;rw[z]<;>rfl) (Calls.evalArgs_plain ?_);show Aq M λus s2⟨vs,H2,I2,r2,q2⟩=>hm zC s2 Z H2 x vs v us Q I2 L r2 q2
end
def vE(X:Cx)(id:String)(r:V->List V->Hp->VK->Prop):Prop:=
 ∀(zC:List (Addr×Obj))(s:Shared)(Z:St)(H:Hp)(x:V)(xs:List V)(v:Value)(z:List Value)(Q:VK),Inv X zC Z H s->zt x v->zz xs z->r x xs H Q->
  wpAny (model X.prog X.w) X.A (call (.builtin id) (v::z)) (EP X zC Z Q) X.xe s
def zz.one:∀{x:V}{v:List Value},zz [x] v->∃u,v=[u]/\zt x u:=by
 intro x v h;cases h with
 |cons r t=>cases t;show#[_,rfl,r]
def zz.eraseIdx:∀{xs:List V}{v:List Value}(i:Nat),zz xs v->zz (xs.eraseIdx i) (v.eraseIdx i)
 |_,_,_,.nil=>.nil
 |_,_,0,.cons _ t=>t
 |_,_,i+1,.cons r t=>.cons r (zz.eraseIdx i t)
def Md{α:Type}:∀(l:List α)(i:Nat),(l.eraseIdx i).length<=l.length
 |[],_=>q5 _
 |_::_,0=>le_succ _
 |_::r,i+1=>Nat.succ_le_succ (Md r i)
def Inv.lset{v its':List Value}(I:Inv X zC Z H s)(J:H l=some (.lst xs))
  (e:s.heap.get? l=some {cls:=.type "list",data:=.seq v.toArray n})(F:f v.toArray=its'.toArray)(z:zz ys its')(hz:ys.length<=sizeLine):
  Inv X zC Z (upd H l (.lst ys)) {s with heap:=s.heap.update l (Obj.mapSeq f),toks:=t'}:=by
 let q:=PySem.IsL.update e f;rw[F]at q;show I.write (x:=l) (e:=l) (by rw[J];show trivial) (.inl rfl) (λL u G B=>(q8 s.heap (Obj.mapSeq f) (Ne.symm G)).trans B) #[_,q] ?_;show#[hz,its',_,z,q]
def Inv.lnew(I:Inv X zC Z H s)(z:zz ys v)(hz:ys.length<=sizeLine):
  Inv X zC Z (upd H s.heap.objs.size (.lst ys)) {s with heap:=s.heap.push {cls:=.type "list",data:=.seq v.toArray},toks:=t'}:=
 I.laid (λ_ _ q=>qc _ q) (q5 _) #[hz,v,0,z,qd _ rfl]
def Inv.fresh(I:Inv X zC Z H s):H s.heap.objs.size=none:=I.hok.fresh (q5 _)
def Inv.lstM(I:Inv X zC Z H s)(B:H l=some (.lst xs)):xs.length<=sizeLine/\∃(v:List Value)(n:Nat),zz xs v/\xs.length=v.length/\s.heap.get? l=some {cls:=.type "list",data:=.seq v.toArray n}:=by let#[z,v,n,r,e]:=I.hok l _ B;show#[z,v,n,r,r.length,e]
def DT(h:n<=sizeLine):Builtin.List.listTooLong n=false:=by grind[Builtin.List.listTooLong]
def mK:V->List V->Hp->VK->Prop:=λx v H Q=>∃l xs y,x=.ref l/\v=[y]/\H l=some (.lst xs)/\xs.length<sizeLine/\Q .non (upd H l (.lst (xs++[y])))
def IL:vE X "list.append" mK:=by intro zC s Z H x O v Y Q I J L h;let#[l,xs,y,rfl,rfl,G,hz,q]:=h;cases J;let#[u,rfl,M]:=L.one;let#[z,B,n,r,hl,e]:=I.lstM G;show call_meets F.slot_list_append #[_,e,rfl] F.entry_list_append (F.args_list_append_2 _ _) (PySem.list_append l B.toArray n u (by rw[qr];lia)) #[e,?_];show#[.non,_,I.lset (its':=B++[u]) G e (by simp) (r.append (.cons M .nil)) ?_,rfl,q];rw[qq,qB];lia
def mJ:V->List V->Hp->VK->Prop:=λx z H Q=>∃l b xs v,x=.ref l/\z=[.ref b]/\H l=some (.lst xs)/\H b=some (.lst v)/\xs.length+v.length<=sizeLine/\Q .non (upd H l (.lst (xs++v)))
def Sa:vE X "list.extend" mJ:=by
 intro zC s Z H x vs v us Q I M O h;let#[l,b,xs,zs,rfl,rfl,L,hB,hz,q]:=h;cases M;let#[u,rfl,Y]:=O.one;cases Y;let#[z,G,n,r,hl,e]:=I.lstM L;let#[z2,B,n2,r2,h2,e2]:=I.lstM hB;let h1:G.toArray.size+B.toArray.size<=sizeLine:=by rw[qr,qr];lia
 let J:¬(!G.toArray.isEmpty&&Builtin.List.listTooLong (G.toArray.size+B.toArray.size))=true:=by grind[DT]
 refine call_meets F.slot_list_extend #[_,e,rfl] F.entry_list_extend (F.args_list_extend_2 _ _)
  (AutoSeq1.list_extend_list_list_0 l G.toArray n b B.toArray n2 J (by rw[qr];lia) ∅) #[e,e2,?_]
 show#[.non,_,I.lset (its':=G++B) L e (by simp) (r.append r2) ?_,rfl,q];rw[qq];lia
def pV:V->List V->Hp->VK->Prop:=λx v H Q=>∃l xs i k y,x=.ref l/\v=[.int i]/\H l=some (.lst xs)/\-(2^63)<=i/\i<2^63/\seqIndex? i xs.length=some k/\xs[k]?=some y/\Q y (upd H l (.lst (xs.eraseIdx k)))
def QD:vE X "list.pop" pV:=by
 intro zC s Z H x vs v us Q I L M h;let#[l,xs,i,k,y,rfl,rfl,J,h1,h2,hk,Y,q]:=h;cases L;let#[u,rfl,O]:=M.one;let#[t,rfl]:=O;let#[z,B,n,r,hl,e]:=I.lstM J;let#[w,hw,G]:=r.get Y;refine call_meets F.slot_list_pop #[_,e,rfl] F.entry_list_pop (F.args_list_pop_2 _ _)
  (MeetsSeq.list_pop_at l B.toArray n i t k w (fitsIndex_both h1 h2) (by rw[qr,<-hl];show hk) (by rw[<-qX];show hw) (by rw[qr];lia)) #[e,?_]
 show#[y,_,I.lset (its':=B.eraseIdx k) J e ?_ (r.eraseIdx k) ?_,G,q]
 .show B.toArray.eraseIdxIfInBounds k=(B.eraseIdx k).toArray;rw[List.eraseIdxIfInBounds_toArray]
 .let:=Md xs k;lia
end L2
namespace Att
open PySem PySem.W PySem.Calls PyProof.Rows
def Tq:∀(ns:List Int)(vs:List Value),WellAll P h vs (ns.map WData.int)->IntsAre vs ns:=by
 intro ns;induction ns with
 |nil=>intro vs w;cases w;show .nil
 |cons n ns v=>
  intro vs w;cases w with
  |cons a b=>cases a;show .cons _ _ (v _ b)
def Rx{l:OpenLaw}(hn:l.most=some n)
  (v:l.row.toRowW.claim.pre args=true)(G:WellAll P h vals args):
  ∃a vs ns,vals=[Value.ref a]/\args=[WData.list (ns.map WData.int)]/\h.get? a=some {cls:=.type "list",data:=.seq vs.toArray}/\IntsAre vs ns/\ns.length<=n:=by
 have J:WShape.hasAll [] args [.list .int]=true:=(pre_splitW v).1;let Y:l.pre.holds [] {args:=args}=true:=(pre_splitW v).2;let#[d,r,rfl,h1,h2]:=hasAllW_cons J;obtain rfl:=hasAllW_nil h2;let#[xs,rfl,h3]:=hasW_list h1;let#[ns,rfl]:=items_int h3;let z:ns.length<=n:=by
  let F:(WTm.not (.lt (.lit (.int (n:Int))) (.len (.arg 0)))).holds [] {args:=[.list (ns.map .int)]}=true:=by let F:=(holds_andW Y).1;rw[hn]at F;show F
  let h5:=condW_of F (w_not (w_lt w_lit (w_len_list (w_arg rfl))));grind
 cases G with
 |cons M L=>
  cases L;cases M with
  |list O B=>show#[_,_,ns,rfl,rfl,O,Tq ns _ B,z]
def RY(l:OpenLaw)(args:List WData):l.row.toRowW.claim.post args (.bool true) args=true:=
 postW_of (r:=l.row.toRowW) (X:=(true==true))
  (show WShape.has [] (.bool true) .bool=true by first|rfl|decide|simp)
  (show(WTm.eq .res (.lit (.bool true))).value [] {args:=args,res:=some (.bool true),after:=args}=some (.bool (true==true)) from w_eq_bool (w_res rfl) w_lit) rfl
theorem attach_call{l:OpenLaw}
  (hn:l.most=some n)(h6:d.params.defaults=[])
  (call:∀(w:World)(z v:Shared)(mg mb:Str->Option Value)(O:Addr)(o:Obj)(pm cd F:Value)(a:Addr)(vs:List Value)(ns:List Int),
   Ground q loose [] XP w z mg mb v.heap->YP w v.heap->
   v.heap.get? O=some o->o.data=.func (docDef d.name d.params d.body d.scope pm cd F)->v.heap.CodeRec cd d.name->mg d.name=some (.ref O)->
   v.heap.get? a=some {cls:=.type "list",data:=.seq vs.toArray}->IntsAre vs ns->ns.length<=n->v.gens=#[]->
   codeAny (model l.prog w) callerA (.call (.ref O) #[[.ref a],[]]) (λr s'=>r=.ok (.ret (.bool true))/\OldK v.heap s'.heap/\s'.os=v.os/\AllBare s'.gens) v):
  WalkO q loose XP YP l.row.toRowW d [] (λf vs=>PySem.call f vs):=by
 intro w z v mg mb G Y O o pm cd F dV kV ho hd h7 hD h5 hg args h8 as J h9 e1 h1 e2;obtain rfl:dV=.none:=Dflts.none hD h6;obtain rfl:kV=.none:=Dflts.noKw hD;let#[a,vs,ns,rfl,rfl,L,B,M]:=Rx hn J h1;show enter_call (codeAny_mono (call w z v mg mb O o pm cd F a vs ns G Y ho (fd_plain hd) h7 h5 L B M hg) λr s' hq=>?_);let#[rfl,h2,h3,h4]:=hq;show#[.inl #[.bool true,.bool true,[],rfl,λ_=>rfl,.bool true,RY l _,λ_=>#[List.Pairwise.nil,λ_ hm=>(nomatch hm)]],h2,h3,h4]
end Att
namespace L2
open PySem PySem.Spec PyProof.Rows
def Gj:∀{vs:List Value}{ns:List Int},IntsAre vs ns->zz (ns.map V.int) vs
 |_,_,.nil=>.nil
 |_,_,.cons n t h=>.cons #[t,rfl] (Gj h)
def sH(H:Hp):Prop:=∀b,H b=none\/∃o xs,H b=some (.frz o (.lst xs))
def Ql{K:W.Frag}
  (KX:K.In B.heap)(h5:B.heap.Ns mainGlobals mg)(O:B.heap.Ns builtinsNs mb)(e3:∀x:Str,x≠"__name__"->mb x=bootBuiltins x)(h6:B.heap.NoLimit)(hg:B.gens=#[])
  (ha:B.heap.get? a=some {cls:=.type "list",data:=.seq vs.toArray})(hi:IntsAre vs ns)(hl:ns.length<=sizeLine)(hr:bE k callerA)
  (F:∀base:Heap,K.In base->base.Ns mainGlobals mg->eO P w K mg base CX k fa fd [x] sp)(M:∀(s:Shared)(u:Value),BindsTo s fd #[[u],[]] [(x,u)])
  (h9:∀H:Hp,sH H->bK K H a (ns.map V.int)->sp [.ref a] H (λv _=>v=.bl true) λ_ _ _=>False)
  (e4:∀H e s',CX [] H B (λ_ _ _=>False) e s'->False):
  codeAny (model P w) callerA (.call (.ref fa) #[[.ref a],[]]) (λr s'=>r=.ok (.ret (.bool true))/\OldK B.heap s'.heap/\s'.os=B.os/\AllBare s'.gens) B:=by
 let rv:=Gj hi;let Y:=hi.length
 --from an abstract heap in which nothing but the script may be tracked
 have L:∀H:Hp,sH H->bK K H a (ns.map V.int)->dP P w H B.heap->(∀b,H b≠none->b=a)->(H a≠none->K.lookup a=none)->
   codeAny (model P w) callerA (.call (.ref fa) #[[.ref a],[]]) (λr s'=>r=.ok (.ret (.bool true))/\OldK B.heap s'.heap/\s'.os=B.os/\AllBare s'.gens) B:=by
  intro H hO hS h4 hA hK;let G:∀{b:Addr}{o:Obj},B.heap.get? b=some o->H b=none->(fZ B.heap H).get? b=some o:=λe n=>QW e n;let h8:∀{b:Addr}{o:Obj}{es:Array DictEntry}{ep:Nat},B.heap.get? b=some o->o.data=.dict es ep->H b=none:=λ{b o es ep} e d=>by
   cases q:H b with
   |none=>rfl
   |some u=>grind
  let J:∀{b:Addr}{m:Str->Option Value},B.heap.Ns b m->(fZ B.heap H).Ns b m:=λ{b m}⟨o,es,ep,e,d,r⟩=>#[o,es,ep,G e (h8 e d),d,r]
  have h7:K.In (fZ B.heap H):=λb o e=>G (KX b o e) (by
   cases q:H b with
   |none=>rfl
   |some u=>have e':b=a:=hA b (by rw[q];simp);subst e';rw[hK (by rw[q];simp)]at e;cases e)
  let hM:Mod K mg (fZ B.heap H):=#[h7,J h5,#[mb,J O,e3],let#[mc,h1,h2]:=h6;#[mc,J h1,h2]]
  let e0:nQ P w K mg (fZ B.heap H) callerA [] B H:=#[rfl,hM,λb o e=>PH e,le_of_eq (Sh _ _),trivial,λb O=>absurd (show b∈([]:List Addr) from O) (by simp),h4,.of_eq hg]
  show codeAny_mono ((F _ h7 (J h5)).run callerA [] B H #[[.ref a],[]] [.ref a] [.ref a] _ _ hr e0 (M B (.ref a)) (.cons rfl .nil) (h9 H hO hS)) λr s' h=>?_;cases r with
  |error e=>show(e4 H e s' h).elim
  |ok fl=>
   cases fl with
   |next=>show False.elim h
   |brk=>show False.elim h
   |cont=>show False.elim h
   |ret u=>
    let#[v,H',os,bare,un,h3,r',q]:=h;let q':v=.bl true:=q;subst q';obtain rfl:u=Value.bool true:=r';show#[rfl,OldK.of_keep λb o e=>?_,os,bare];cases q:H b with
    |none=>show un.keep b o e q (by intro z;show absurd (show b∈([]:List Addr) from z) (by simp)) (by simp)
    |some u=>
     rcases hO b with z|⟨ob,xs,z⟩
     .rw[q]at z;cases z
     .let z2:=un.frzs b ob _ z;let#[e1,_]:=h4 b _ z;let#[e2,_]:=h3 b _ z2;rw[e]at e1;cases e1;show e2
 cases hk:K.lookup a with
 |some o=>
  --the script is one of the module's own objects
  let e:=KX a o hk;rw[ha]at e;cases e;show L (λ_=>none) (λ_=>.inl rfl) (.inr #[_,vs.toArray,_,hk,rfl,rfl,rfl,by rw[qr,Y];show hl,rv]) (λb u z=>by let z':(none:Option HO)=some u:=z;cases z') (λb z=>absurd rfl z) λz=>absurd rfl z
 |none=>
  show L (λb=>if b=a then some (.frz {cls:=.type "list",data:=.seq vs.toArray} (.lst (ns.map V.int)))else none) (λb=>?_) (.inl (.inr #[{cls:=.type "list",data:=.seq vs.toArray},qY rfl])) (λb u z=>?_) (λb z=>?_) λ_=>hk
  .grind
  .by_cases O:b=a
   .let z':=(qY O).symm.trans z;cases z';subst O;show#[ha,by rw[qo];show hl,vs,_,rv,ha]
   grind
  grind
theorem walk_of{l:W.OpenLaw}{K:Params->W.Frag}{CX:World->vM}{sp:World->Sp}
  (hn:l.most=some n)(h1:n<=sizeLine)(h3:d.params.defaults=[])(hr:bE k callerA)
  (hY:∀(w:World)(h:Heap),YP w h->(K w.params).In h)
  (F:∀(w:World)(mg:Str->Option Value)(M:Addr)(h:Heap),(K w.params).In h->h.Ns mainGlobals mg->mg d.name=some (.ref M)->
   ∃fd:FuncData,(∀(s:Shared)(u:Value),BindsTo s fd #[[u],[]] [(x,u)])/\
    ∀base:Heap,(K w.params).In base->base.Ns mainGlobals mg->eO l.prog w (K w.params) mg base (CX w) k M fd [x] (sp w))
  (O:∀(w:World)(H:Hp)(a:Addr)(ns:List Int),ns.length<=n->sH H->bK (K w.params) H a (ns.map V.int)->sp w [.ref a] H (λv _=>v=.bl true) λ_ _ _=>False)
  (h4:∀(w:World)(H:Hp)(s:Shared)(e:Value)(s':Shared),CX w [] H s (λ_ _ _=>False) e s'->False):
  W.WalkO q loose XP YP l.row.toRowW d [] (λf vs=>PySem.call f vs):=by
 show Att.attach_call hn h3 λw h5 J mg mb M o pm cd h7 a vs ns G Y ho hd h6 h2 L B z hg=>?_;let KX:=hY w _ Y;let#[fd,hb,hF]:=F w mg M _ KX G.T.g h2;show Ql KX G.T.g G.T.b G.T.builtins G.T.nolimit hg L B (le_trans z h1) hr hF hb (λH hO hS=>O w H a ns z hO hS) λH e s'=>h4 w H J e s'
def cU(s:Stmt):Arguments:=match s with
 |.FunctionDef _ a _ _ _ _ _ _ _ _=>a
 |_=>{posonlyargs:=[],args:=[],vararg:=none,kwonlyargs:=[],kw_defaults:=[],kwarg:=none,defaults:=[]}
def bP(s:Stmt):List Stmt:=match s with
 |.FunctionDef _ _ b _ _ _ _ _ _ _=>b
 |_=>[]
def aA(s:Stmt):Scope:=match s with
 |.FunctionDef _ _ _ _ _ _ sc _ _ _=>sc
 |_=>{kind:=.function,names:=[],isGenerator:=false,isCoroutine:=false}
structure sI(K:W.Frag)(x qual:Str)(st:Stmt)(f:Addr)(fd:FuncData):Prop where
 ex:∃(oc:Value)(od:Option Addr)(kV doc pm:Value)(an:Option Addr)(cdv ct:Value)(osl:Array (Option Value)),
  fd=W.fnOf x qual (cU st) (bP st) (aA st) .none kV doc pm an cdv ct/\K.lookup f=some #[oc,od,.func fd,osl]/\W.codeIn K cdv qual=true
 kp:W.keepIn K (.ref f)=true
section
variable{K:W.Frag}
def sI.binds{st:Stmt}(F:sI K x qual st f fd)
  (h:∀(kV v G:Value)(J:Option Addr)(z ct:Value)(B:List Value),B.length=ps.length->bindArgs (W.fnOf x qual (cU st) (bP st) (aA st) .none kV v G J z ct) #[B,[]]=pure (ps.zip B)):Binds K fd ps []:=by
 let#[Y,O,kV,v,G,J,z,ct,L,rfl,lk,M]:=F.ex;show .all (h kV v G J z ct)
def Ni{st:Stmt}{kV z B v ct:Value}(l:K.lookup f=some #[L,J,.func (W.fnOf x qual (cU st) (bP st) (aA st) .none kV z B G v ct),F])
  (c:W.codeIn K v qual=true)(k:W.keepIn K (.ref f)=true):sI K x qual st f (W.fnOf x qual (cU st) (bP st) (aA st) .none kV z B G v ct):=#[#[L,J,kV,z,B,G,v,ct,F,rfl,l,c],k]
end
def GZ(v:bE k A):A.units+1<cLine:=lt_of_le_of_lt (Nat.add_le_add_left (by decide:1<=64) _) v.units
def zn(H H':Hp):Prop:=∀b o,H b=some o->H' b=some o
def zn.refl(H:Hp):zn H H:=λ_ _ h=>h
def zn.trans(a:zn H H1)(b:zn H1 H2):zn H H2:=λc o h=>b c o (a c o h)
def zB.there(x:zB P w H h a o):∃u,h.get? a=some u:=by
 cases o with
 |lst xs=>let#[_,_,_,_,e]:=x;show#[_,e]
 |tup xs=>let#[_,_,_,u,e,_]:=x;show#[_,e]
 |dK v=>let#[_,_,_,_,o,_,_,e,_]:=x;show#[_,e]
 |dT v=>let#[_,_,_,_,o,_,_,e,_]:=x;show#[_,e]
 |set z=>
  rcases x with⟨_,⟨_,e⟩|⟨_,_,_,_,_,_,_,e,_⟩|⟨_,_,_,_,_,_,_,_,e,_⟩⟩
  .show#[_,e]
  .show#[_,e]
  .show#[_,e]
 |ins C F fs=>let#[_,_,_,e,_]:=x;show#[_,e]
 |own y=>show x
 |xd fs=>let#[_,#[_,_,_,e,_],_]:=x;show#[_,e]
 |rng lo hi=>let#[_,_,_,e]:=x;show#[_,e]
 |frz B u=>show#[_,x.1]
 |tbl ps=>show#[_,(show h.get? a=some _ from x)]
 |met f y=>show#[_,(show h.get? a=some _ from x)]
 |ext φ=>show x.2.1
def sT(X:Cx)(zC:List (Addr×Obj))(H:Hp)(h:Heap)(e:Addr)(cls:Value)(v:Option Addr):Prop:=False
def dM.few(f:dM X zC H b):dM X [] H b:=#[f.1,f.2.1,f.2.2.1,f.2.2.2.1,f.2.2.2.2.1,λp v=>f.2.2.2.2.2 p (qj _ ↑v)]
def sT.few(F:sT X zC H h e cls v):sT X [] H h e cls v:=(show False from F).elim
def Inv.few(I:Inv X zC Z H s):Inv X [] Z H s:=I.pins_of λp v=>I.pin p (qj _ ↑v)
def gR(P:Program)(w:World):vM:=λ_ _ _ _ _ _=>False
section
variable{K:W.Frag}
def QS(I:Inv (eN (gR P w) P w K mg base N qual scope f v A outer s H E) [] Z H' s')(F:sT (eN (gR P w) P w K mg base N qual scope f v A outer s H E) [] H' s'.heap e cls z)(q:E cls z H'):
  (eN (gR P w) P w K mg base N qual scope f v A outer s H E).xe (.ref e) s':=(show False from F).elim
end
@[inline]def XW(X:Cx)(Z:St):XK:=λcls v H'=>∀(a:Addr)(s':Shared),Inv X [] Z H' s'->sT X [] H' s'.heap a cls v->X.xe (.ref a) s'
def pN(X:Cx)(sp:Sp)(t:TA):TE:=λZ H Q=>t Z H λv H1=>sp v H1 Q (XW X Z)
def PQ(F:eO X.prog X.w X.K X.mg X.base (gR X.prog X.w) k f fd ps sp)(Y:bE k X.A)(hg:Gl X x)(hm:X.mg x=some (.ref f))(hk:W.keepIn X.K (.ref f)=true)(hb:Binds X.K fd ps [])
  (ha:PA X (e::es) t)(J:autoParam ((x==("__debug__":Str))=false) dZ9)(he:autoParam (starEach (e::es) X.env=(false,eval e X.env)::starEach es X.env) rZ9)(G:autoParam ((backTo pos (starEach es X.env)).any (·.1)=false) rZ9):
  PE X (.Call (.Name x p) (e::es) [] pos) (pN X sp t):=by
 intro zC s Z H Q I h;show wpAny_Call_Name_kw (OG I hg hm ?_ J);show W.callWith_K (h₀:=X.base) I.ok.mod.kin hk (Aq (ha pos zC s Z H _ I h) λz L M=>?_) he G;let#[O,H1,B,r,q]:=M;show#[B.kIn,?_];let hl:(z++[]).length=ps.length:=by rw[qz,<-r.length];show F.len _ _ _ _ q
 show wpAny_call (codeAny_mono (F.run X.A X.stack L H1 #[z,[]] z O Q (XW X Z) Y B.env0 (by let:=hb L z B.kIn hl;rwa[qz]at this) r q) λr s' v=>?_);cases r with
 |error e=>show(show False from v).elim
 |ok fl=>
  cases fl with
  |ret u=>show B.after v
  |next=>show False.elim v
  |brk=>show False.elim v
  |cont=>show False.elim v
section
variable{K:W.Frag}
def sI.okX{st:Stmt}(F:sI K x qual st f fd)(S:aM N ps (aA st))(len:∀vs H Q E,sp vs H Q E->vs.length=ps.length)
  (B:∀(z:Value)(A:Around)(v:List Env)(s:Shared)(H:Hp)(vs:List V)(Q:VK)(E:XK),bE k (A.deeper (envOfC qual (aA st) s.heap.objs.size f z))->sp vs H Q E->
   ∃t,gV (eN (gR P w) P w K mg base N qual (aA st) f z A v s H E) (bP st) t/\t {nx:=λ_ H'=>Q .non H',rt:=Q} (start N vs) H):eO P w K mg base (gR P w) (k+1) f fd ps sp:=by
 let#[oc,od,kV,O,Y,an,z,ct,L,rfl,lk,J]:=F.ex;show MX lk J S len λA v s H vs Q E M G=>B z A v s H vs Q E M G
end
end L2
namespace FL
open PySem
inductive D where
 |non
 |bl(b:Bool)
 |int(i:Int)
 |str(l:List Nat)
 |tup(l:List D)
 |lst(l:List D)
 |dct(t:Bool)(ks vs:List D)
 |set(l:List D)
 |exc(c:List Nat)(fs:List (List Nat))(vs:List D)
 deriving Inhabited
inductive S where
 |sh(d:D)
 |lst(l:List S)
 |dct(t:Bool)(ks:List D)(vs:List S)
 |set(l:List D)
 deriving Inhabited
mutual
@[inline]def S.toD:S->D
 |.sh d=>d
 |.lst l=>.lst (S.toDs l)
 |.dct t ks vs=>.dct t ks (S.toDs vs)
 |.set l=>.set l
@[inline]def S.toDs:List S->List D
 |[]=>[]
 |s::r=>S.toD s::S.toDs r
end
@[simp] theorem S.toDs_map:∀l:List S,S.toDs l=l.map S.toD
  |[]=>rfl
  |s::r=>by rw[S.toDs,S.toDs_map r,qy]
@[simp] theorem S.toD_sh(d:D):(S.sh d).toD=d:=rfl
@[simp] theorem S.toD_lst(l:List S):(S.lst l).toD=.lst (l.map S.toD):=by rw[<-S.toDs_map];rfl
@[simp] theorem S.toD_dct(t:Bool)(ks:List D)(l:List S):(S.dct t ks l).toD=.dct t ks (l.map S.toD):=by rw[<-S.toDs_map];rfl
@[simp] theorem S.toD_set(l:List D):(S.set l).toD=.set l:=rfl
@[inline]def S.isSh:S->Bool
 |.sh _=>true
 |_=>false
@[inline]def S.flat:S->Bool
 |.sh _=>true
 |.lst l=>l.all S.isSh
 |.dct _ _ vs=>vs.all S.isSh
 |.set _=>false
inductive R where
 |v(s:S)
 |loc(i:Nat)
abbrev Env:=List (Option S)
abbrev WQ:=R->Env->Prop
abbrev WX:=D->Env->Prop
@[inline]def NX:WX:=λ_ _=>False
abbrev WE:=Env->WQ->WX->Prop
abbrev WT:=Env->(Bool->Env->Prop)->WX->Prop
abbrev WA:=Env->(List R->Env->Prop)->WX->Prop
structure Ends where
 nx:Env->Prop
 rt:WQ
 bk:Env->Prop
 ct:Env->Prop
 ex:WX
abbrev WS:=Ends->Env->Prop
def slot(U:Env)(i:Nat):Option S:=match U,i with
 |[],_=>none
 |s::_,0=>s
 |_::r,i+1=>slot r i
@[simp] theorem TN(s:Option S)(r:Env):slot (s::r) 0=s:=rfl
@[simp] theorem TJ(s:Option S)(r:Env)(i:Nat):slot (s::r) (i+1)=slot r i:=rfl
def view(r:R)(U:Env):Option D:=match r with
 |.v s=>some s.toD
 |.loc i=>(slot U i).map S.toD
def zy(r:R)(U:Env):Option D:=match r with
 |.v s=>some s.toD
 |.loc i=>match slot U i with
  |some s=>if s.flat then some s.toD else none
  |none=>none
def give(r:R)(U:Env):Option (S×Env):=match r with
 |.v s=>some (s,U)
 |.loc i=>match slot U i with
  |some s=>some (.sh s.toD,U.set i (some (.sh s.toD)))
  |none=>none
def aJ:List R->Env->Option (List S×Env)
 |[],U=>some ([],U)
 |r::rs,U=>match give r U with
  |some (s,U1)=>match aJ rs U1 with
   |some (ss,U2)=>some (s::ss,U2)
   |none=>none
  |none=>none
def ixN(n:Nat)(i:Int):Option Nat:=if 0<=i then(if i<n then some i.toNat else none)else if -(n:Int)<=i then some (i+n).toNat else none
def atI{α:Type}(xs:List α)(i:Int):Option α:=(ixN xs.length i).bind λj=>xs[j]?
def sIx(n d:Nat):Option Int->Nat
 |none=>d
 |some i=>if i<0 then(i+n).toNat else min i.toNat n
def dH{α:Type}(xs:List α)(lo hi:Option Int):List α:=(xs.drop (sIx xs.length 0 lo)).take (sIx xs.length xs.length hi-sIx xs.length 0 lo)
def big:Nat:=1000000
def zm{α:Type}(o:Option α)(k:α->Prop):Prop:=match o with
 |some a=>k a
 |none=>False
@[simp] theorem My{α:Type}(a:α)(k:α->Prop):zm (some a) k=k a:=rfl
@[simp] theorem TM{α:Type}(k:α->Prop):zm (none:Option α) k=False:=rfl
@[simp] theorem TK{α:Type}{c:Prop}[Decidable c](a:α)(k:α->Prop):zm (if c then some a else none) k=(c/\k a):=by by_cases h:c<;>simp[h]
def zi(i:Nat):WE:=λU Q _=>match slot U i with
 |some (.sh d)=>Q (.v (.sh d)) U
 |some _=>Q (.loc i) U
 |none=>False
def wC(d:D):WE:=λU Q _=>Q (.v (.sh d)) U
def zu(B:D->D->Option S)(a b:WE):WE:=λU Q E=>a U (λx z=>b z (λy v=>zm (zy x v) λp=>zm (zy y v) λq=>zm (B p q) λs=>Q (.v s) v) E) E
def bY:D->D->Option S
 |.int i,.int j=>some (.sh (.int (i+j)))
 |.str x,.str y=>if x.length+y.length<=big then some (.sh (.str (x++y)))else none
 |.lst x,.lst y=>if x.length+y.length<=big then some (.lst ((x++y).map .sh))else none
 |.tup x,.tup y=>if x.length+y.length<=big then some (.sh (.tup (x++y)))else none
 |_,_=>none
def kS:D->D->Option S
 |.int i,.int j=>some (.sh (.int (i-j)))
 |_,_=>none
def iU(i j:Int):Bool:=(decide (-(2^64)<i)&&decide (i<2^64))||(decide (-(2^64)<j)&&decide (j<2^64))
def kU:D->D->Option S
 |.int i,.int j=>if iU i j then some (.sh (.int (i*j)))else none
 |_,_=>none
def fO:D->D->Option S
 |.int i,.int j=>if 0<j/\j<18446744073709551616 then some (.sh (.int (i/j)))else none
 |_,_=>none
def dX:D->D->Option S
 |.int i,.int j=>if 0<j then some (.sh (.int (i %j)))else none
 |_,_=>none
def kT:D->D->Option S
 |.int i,.int j=>if 0<=j/\j<=1000/\i.natAbs<2^64 then some (.sh (.int (i^j.toNat)))else none
 |_,_=>none
mutual
def aI:D->D->Bool
 |.tup l,.tup m=>bC l m
 |.lst l,.lst m=>bC l m
 |.int _,.int _=>false
 |.int _,.str _=>false
 |.int _,.non=>false
 |.str _,.int _=>false
 |.str _,.str _=>false
 |.str _,.non=>false
 |.str _,.bl _=>false
 |.bl _,.bl _=>false
 |.bl _,.str _=>false
 |.bl _,.non=>false
 |.non,.int _=>false
 |.non,.str _=>false
 |.non,.bl _=>false
 |.non,.non=>false
 |_,_=>true
def bC:List D->List D->Bool
 |a::l,b::m=>aI a b||bC l m
 |_,_=>false
end
mutual
def eF:D->Nat
 |.tup l=>bM l+1
 |.lst l=>bM l+1
 |_=>0
def bM:List D->Nat
 |[]=>0
 |a::l=>max (eF a) (bM l)
end
open Classical in
def jM(a b:D):Option Bool:=if aI a b||decide (30<eF a)then none else some (decide (a=b))
def lL(a b:D):Option Bool:=(jM a b).map (!·)
def vV:D->D->Option Bool
 |.int i,.int j=>some (decide (i<j))
 |.str x,.str y=>some (decide (x<y))
 |_,_=>none
def wA(a b:D):Option Bool:=vV a b
def oE(a b:D):Option Bool:=vV b a
def wD:D->D->Option Bool
 |.int i,.int j=>some (decide (j<=i))
 |.str x,.str y=>some (!decide (x<y))
 |_,_=>none
def bI:D->Bool
 |.int _=>true
 |.str _=>true
 |_=>false
def bF:Bool->D->Bool
 |true,.tup l=>l.all bI
 |false,d=>bI d
 |_,_=>false
open Classical in
def lU(a:D):D->Option Bool
 |.lst l=>if l.any (λx=>aI x a||decide (30<eF x))then none else some (decide (a∈l))
 |.tup l=>if l.any (λx=>aI x a||decide (30<eF x))then none else some (decide (a∈l))
 |.dct t ks _=>if bF t a then some (decide (a∈ks))else none
 |_=>none
def cD(B:D->D->Option Bool)(a b:WE):WT:=λU Q E=>a U (λx z=>b z (λy v=>zm (view x v) λp=>zm (view y v) λq=>zm (B p q) λc=>Q c v) E) E
def jQ(a b:WT):WT:=λU Q E=>a U (λc v=>if c then b v Q E else Q false v) E
def kI(t:WT):WE:=λU Q E=>t U (λc v=>Q (.v (.sh (.bl c))) v) E
def zk:WA:=λU Q _=>Q [] U
def zj(a:WE)(b:WA):WA:=λU Q E=>a U (λr z=>b z (λB v=>Q (r::B) v) E) E
def cW(a:WA):WE:=λU Q E=>a U (λz v=>zm (if z.length<=big then aJ z v else none) λp=>Q (.v (.sh (.tup (p.1.map S.toD)))) p.2) E
def eK(a:WA):WE:=λU Q E=>a U (λz v=>zm (if z.length<=big then aJ z v else none) λp=>Q (.v (.lst p.1)) p.2) E
def kJ(t:Bool):WE:=λU Q _=>Q (.v (.dct t [] [])) U
open Classical in
def lk{α:Type}:List D->List α->D->Option α
 |k'::ks,v::vs,k=>if k'=k then some v else lk ks vs k
 |_,_,_=>none
def iA:S->D->Option S
 |.sh (.tup l),.int i=>(atI l i).map .sh
 |.sh (.lst l),.int i=>(atI l i).map .sh
 |.sh (.str l),.int i=>(atI l i).map λc=>.sh (.str [c])
 |.lst l,.int i=>atI l i
 |_,_=>none
def fI(a b:WE):WE:=λU Q E=>a U (λx z=>b z (λy v=>zm (view y v) λq=>match x with
 |.v s=>zm (iA s q) λt=>Q (.v t) v
 |.loc i=>match slot v i with
  |some s=>match iA s q with
   |some (.sh d)=>Q (.v (.sh d)) v
   |_=>False
  |none=>False) E) E
def eG(a:Option WE):Env->(Option Int->Env->Prop)->WX->Prop:=match a with
 |none=>λU Q _=>Q none U
 |some a=>λU Q E=>a U (λx v=>match view x v with
  |some (.int i)=>Q (some i) v
  |_=>False) E
def jF(d:D)(lo hi:Option Int):Option S:=match d with
 |.str l=>some (.sh (.str (dH l lo hi)))
 |.tup l=>some (.sh (.tup (dH l lo hi)))
 |.lst l=>some (.lst ((dH l lo hi).map .sh))
 |_=>none
def sV(a:WE)(lo hi:Option WE):WE:=λU Q E=>a U (λx B=>eG lo B (λl z=>eG hi z (λh v=>zm (zy x v) λd=>zm (jF d l h) λs=>Q (.v s) v) E) E) E
abbrev WF:=List S->(S->List S->Prop)->(D->List S->Prop)->Prop
def bU:List Bool->List R->Env->Option (List S×Env)
 |_,[],U=>some ([],U)
 |ms,.v s::rs,U=>match bU ms.tail rs U with
  |some (ss,U1)=>some (s::ss,U1)
  |none=>none
 |ms,.loc i::rs,U=>match slot U i with
  |some s=>if ms.headD false then(match bU ms.tail rs (U.set i none)with
   |some (ss,U1)=>some (s::ss,U1)
   |none=>none)
   else(match bU ms.tail rs (U.set i (some (.sh s.toD)))with
    |some (ss,U1)=>some (.sh s.toD::ss,U1)
    |none=>none)
  |none=>none
def back:List Bool->List R->List S->Env->Env
 |ms,.v _::rs,_::ss,U=>back ms.tail rs ss U
 |ms,.loc i::rs,s::ss,U=>if ms.headD false then back ms.tail rs ss (U.set i (some s))else back ms.tail rs ss U
 |_,_,_,U=>U
def zw(f:WF)(ms:List Bool)(a:WA):WE:=λU Q E=>a U (λB v=>zm (bU ms B v) λp=>f p.1 (λs z=>Q (.v s) (back ms B z p.2)) (λx z=>E x (back ms B z p.2))) E
def wB(f:List D->Option S)(a:WA):WE:=λU Q E=>a U (λz v=>zm (z.mapM λr=>zy r v) λB=>zm (f B) λs=>Q (.v s) v) E
def cT(j:Nat)(e:WE):WE:=λU Q E=>match slot U j with
 |some (.lst _)=>e U (λr v=>zm (give r v) λp=>match slot p.2 j with
  |some (.lst l)=>l.length<big/\Q (.v (.sh .non)) (p.2.set j (some (.lst (l++[p.1]))))
  |_=>False) E
 |_=>False
def cP:List D->Option S
 |[.str l]=>some (.sh (.int l.length))
 |[.tup l]=>some (.sh (.int l.length))
 |[.lst l]=>some (.sh (.int l.length))
 |_=>none
def jH:List D->Option S
 |[.int i]=>some (.sh (.int i))
 |[.bl b]=>some (.sh (.int (if b then 1 else 0)))
 |_=>none
def cM:List D->Option S
 |[.tup l]=>some (.sh (.tup l))
 |[.lst l]=>some (.sh (.tup l))
 |_=>none
def uQ:List D->Option S
 |[.tup l]=>some (.lst (l.map .sh))
 |[.lst l]=>some (.lst (l.map .sh))
 |_=>none
def dR:WS:=λD U=>D.nx U
def zv(a b:WS):WS:=λD U=>a {D with nx:=b D} U
def lT(c:WT)(a b:WS):WS:=λD U=>c U (λk v=>if k then a D v else b D v) D.ex
def cC(a:WE):WS:=λD U=>a U D.rt D.ex
def wExpr(a:WE):WS:=λD U=>a U (λ_ v=>D.nx v) D.ex
abbrev WG:=S->Env->(Env->Prop)->Prop
def zl(i:Nat):WG:=λs U Q=>Q (U.set i (some s))
def dB:List WG->List D->Env->(Env->Prop)->Prop
 |[],[],U,Q=>Q U
 |g::gs,d::ds,U,Q=>g (.sh d) U λv=>dB gs ds v Q
 |_,_,_,_=>False
def cH(v:List WG):WG:=λs U Q=>match s.toD with
 |.tup ds=>ds.length=v.length/\dB v ds U Q
 |_=>False
def eP(j:Nat)(i e:WE):WS:=λD U=>e U (λr B=>zi j B (λx z=>i z (λy v=>zm (view y v) λq=>zm (give r v) λp=>match x,q,slot p.2 j with
 |.loc k,.int n,some (.lst l)=>k=j/\zm (ixN l.length n) λm=>D.nx (p.2.set j (some (.lst (l.set m p.1))))
 |_,_,_=>False) D.ex) D.ex) D.ex
def zx(g:WG)(a:WE):WS:=λD U=>a U (λr v=>zm (give r v) λp=>g p.1 p.2 D.nx) D.ex
abbrev WI:=Env->(List D->Env->Prop)->WX->Prop
def items:D->Option (List D)
 |.lst l=>some l
 |.tup l=>some l
 |.str l=>some (l.map λc=>.str [c])
 |_=>none
def bD(a:WE):WI:=λU Q E=>a U (λr v=>zm (give r v) λp=>zm (items p.1.toD) λl=>Q l p.2) E
def fromTo(lo:Int)(n:Nat):List D:=(List.range n).map λ(k:Nat)=>.int (lo+(k:Int))
def bL(a:WE):WI:=λU Q E=>a U (λr v=>match view r v with
 |some (.int j)=>(-big<=j/\j<=big)/\Q (fromTo 0 j.toNat) v
 |_=>False) E
def bS(g:WG)(v:WS):List D->WS
 |[],D,U=>D.nx U
 |x::xs,D,U=>g (.sh x) U λz=>v {D with nx:=bS g v xs D,ct:=bS g v xs D,bk:=D.nx} z
def cX(it:WI)(g:WG)(v:WS):WS:=λD U=>it U (λl z=>bS g v l D z) D.ex
def fV(c:WT)(F:WS):WS:=λD U=>∃J:Nat->Env->Prop,(∃m,J m U)/\∀m U,J m U->c U (λk z=>if k then
 F {D with nx:=λv=>∃B,B<m/\J B v,ct:=λv=>∃B,B<m/\J B v,bk:=D.nx} z else D.nx z) D.ex
abbrev WB:=Env->(Env->Prop)->WX->Prop
def cV:WT:=λU Q _=>Q true U
def aL(g:WG)(c:WT)(b:WB):List D->WB
 |[],U,Q,_=>Q U
 |x::xs,U,Q,E=>g (.sh x) U λB=>c B (λk v=>if k then b v (λz=>aL g c b xs z Q E) E else aL g c b xs v Q E) E
def nM(it:WI)(g:WG)(c:WT)(b:WB):WB:=λU Q E=>it U (λl v=>aL g c b l v Q E) E
def bN(n:Nat)(a:WE):WB:=λU Q E=>a U (λr v=>zm (give r v) λp=>match slot p.2 n with
 |some (.lst l)=>l.length<big/\Q (p.2.set n (some (.lst (l++[p.1]))))
 |_=>False) E
def iQ(n k:Nat)(it:WI)(g:WG)(c:WT)(b:WB):WE:=λU Q E=>it U (λl z=>aL g c b l (z++some (.lst [])::List.replicate k none) (λv=>zm (slot v n) λs=>Q (.v s) (v.take n)) NX) E
def aB:List S->Env->Option (List S)
 |[],_=>some []
 |.sh d::ss,_::U=>(aB ss U).map (.sh d::·)
 |_::ss,some s::U=>(aB ss U).map (s::·)
 |_,_=>none
def gH(n m:Nat)(ks:List Nat)(z:WS):WF:=λv P PX=>v.length=n/\(∀i s,v[i]?=some s->i∈ks\/s.isSh=true)/\
 z {nx:=λU=>zm (aB v U) λfs=>P (.sh .non) fs
    rt:=λr U=>match r with
     |.v s=>zm (aB v U) λfs=>P s fs
     |.loc i=>zm (slot U i) λs=>if i<n then zm (aB v (U.set i (some (.sh s.toD)))) λfs=>P (.sh s.toD) fs else zm (aB v U) λfs=>P s fs
    bk:=λ_=>False
    ct:=λ_=>False
    ex:=λx U=>zm (aB v U) λfs=>PX x fs} (v.map some++List.replicate (m-n) none)
end FL
namespace FL
open PySem L2
def aG:aK->D
 |.inl i=>.int i
 |.inr x=>.str x.cps.toList
def zM(a C:Addr)(v:Option Addr)(h:Heap):Prop:=∃o vs,h.get? a=some o/\o.cls=.ref C/\o.dict=v/\o.data=.fields vs
def dY:HO->Bool
 |.tup _=>false
 |_=>true
def lO(F:Hp)(v:Option Addr)(fs:List (List Nat))(vs:List D):Prop:=(v=none/\fs=[]/\vs=[])\/∃p f i,v=some p/\fs=[f]/\vs=[.int i]/\F p=some (.xd [((#[f.toArray]:Str),.int i)])
mutual
inductive aN(K:W.Frag)(F:Hp):V->D->Prop
 |non:aN K F .non .non
 |bl (b:Bool):aN K F (.bl b) (.bl b)
 |int (i:Int):aN K F (.int i) (.int i)
 |str {x:Str} {l:List Nat}:x.cps.toList=l->l.length<=16777216->aN K F (.str x) (.str l)
 |tup {a:Addr} {xs:List V} {ds:List D}:F a=some (.tup xs)->zA K F xs ds->aN K F (.ref a) (.tup ds)
 |lst {a:Addr} {xs:List V} {ds:List D}:bK K F a xs->zA K F xs ds->aN K F (.ref a) (.lst ds)
 |dK {a:Addr} {zD:List (aK×V)} {ks vs:List D}:Rd F a (.dK zD)->ks=zD.map (λp=>aG p.1)->zA K F (zD.map (·.2)) vs->aN K F (.ref a) (.dct false ks vs)
 |dT {a:Addr} {zD:List (List aK×V)} {ks vs:List D}:Rd F a (.dT zD)->ks=zD.map (λp=>D.tup (p.1.map aG))->zA K F (zD.map (·.2)) vs->aN K F (.ref a) (.dct true ks vs)
 |st {a:Addr} {xs:List V} {ds:List D}:F a=some (.set xs)->zA K F xs ds->aN K F (.ref a) (.set ds)
 |exc {a C:Addr} {dx:Option Addr} {c:List Nat} {fs:List (List Nat)} {vs:List D}:F a=some (.ext (zM a C dx))->W.nsIn K mainGlobals (⟨c.toArray⟩:Str)=some (some (.ref C))->lO F dx fs vs->aN K F (.ref a) (.exc c fs vs)
inductive zA(K:W.Frag)(F:Hp):List V->List D->Prop
 |nil:zA K F [] []
 |cons {x:V} {d:D} {xs:List V} {ds:List D}:aN K F x d->zA K F xs ds->zA K F (x::xs) (d::ds)
end
mutual
inductive aH(K:W.Frag)(F H:Hp):V->S->List Addr->Prop
 |sh {v:V} {d:D}:aN K F v d->aH K F H v (.sh d) []
 |lst {a:Addr} {xs:List V} {l:List S} {fp:List Addr}:H a=some (.lst xs)->zr K F H xs l fp->aH K F H (.ref a) (.lst l) (a::fp)
 |dK {a:Addr} {zD:List (aK×V)} {ks:List D} {l:List S} {fp:List Addr}:H a=some (.dK zD)->ks=zD.map (λp=>aG p.1)->zr K F H (zD.map (·.2)) l fp->aH K F H (.ref a) (.dct false ks l) (a::fp)
 |dT {a:Addr} {zD:List (List aK×V)} {ks:List D} {l:List S} {fp:List Addr}:H a=some (.dT zD)->ks=zD.map (λp=>D.tup (p.1.map aG))->zr K F H (zD.map (·.2)) l fp->aH K F H (.ref a) (.dct true ks l) (a::fp)
 |st {a:Addr} {xs:List V} {ds:List D}:H a=some (.set xs)->zA K F xs ds->aH K F H (.ref a) (.set ds) [a]
inductive zr(K:W.Frag)(F H:Hp):List V->List S->List Addr->Prop
 |nil:zr K F H [] [] []
 |cons {x:V} {s:S} {xs:List V} {l:List S} {fp fq:List Addr}:aH K F H x s fp->zr K F H xs l fq->zr K F H (x::xs) (s::l) (fp++fq)
end
def Rd.mono(h:zn F F')(r:Rd F a u):Rd F' a u:=by
 rcases r with r|⟨o,r⟩
 .show .inl (h _ _ r)
 .show .inr #[o,h _ _ r]
def bK.mono(h:zn F F')(r:bK K F a xs):bK K F' a xs:=r.elim (λr=>.inl (Rd.mono h r)) .inr
def bJ.mono(h:zn F F')(r:bJ K F a xs):bJ K F' a xs:=r.elim (λr=>.inl (Rd.mono h r)) .inr
def zA.ind{P:List V->List D->Prop}(hn:P [] [])(B:∀{x:V}{d:D}{xs:List V}{v:List D},aN K F x d->zA K F xs v->P xs v->P (x::xs) (d::v))(r:zA K F xs v):P xs v:=
 zA.rec (motive_1:=λ_ _ _=>True) (motive_2:=λxs v _=>P xs v) trivial (λ_=>trivial) (λ_=>trivial) (λ_ _=>trivial) (λ_ _ _=>trivial) (λ_ _ _=>trivial) (λ_ _ _ _=>trivial) (λ_ _ _ _=>trivial) (λ_ _ _=>trivial) (λ_ _ _=>trivial) hn (λa b _ z=>B a b z) r
def zr.ind{P:List V->List S->List Addr->Prop}(hn:P [] [] [])(z:∀{x:V}{s:S}{xs:List V}{l:List S}{fp fq:List Addr},aH K F H x s fp->zr K F H xs l fq->P xs l fq->P (x::xs) (s::l) (fp++fq))(r:zr K F H xs l fp):P xs l fp:=
 zr.rec (motive_1:=λ_ _ _ _=>True) (motive_2:=λxs l fp _=>P xs l fp) (λ_=>trivial) (λ_ _ _=>trivial) (λ_ _ _ _=>trivial) (λ_ _ _ _=>trivial) (λ_ _=>trivial) hn (λa b _ v=>z a b v) r
def lO.mono(h:zn F F')(x:lO F J fs vs):lO F' J fs vs:=x.imp id λ⟨p,f,i,G,B,z,v⟩=>#[p,f,i,G,B,z,h _ _ v]
def aN.mono(h:zn F F')(r:aN K F v d):aN K F' v d:=
 aN.rec (motive_1:=λv d _=>aN K F' v d) (motive_2:=λv d _=>zA K F' v d) .non .bl .int (λe z=>.str e z) (λe _ B=>.tup (h _ _ e) B) (λe _ B=>.lst (bK.mono h e) B) (λe k _ B=>.dK (Rd.mono h e) k B) (λe k _ B=>.dT (Rd.mono h e) k B) (λe _ B=>.st (h _ _ e) B) (λe k x=>.exc (h _ _ e) k (x.mono h)) .nil (λ_ _ a b=>.cons a b) r
def zA.mono(h:zn F F')(r:zA K F v d):zA K F' v d:=zA.ind .nil (λa _ z=>.cons (aN.mono h a) z) r
def aH.mono(h:zn F F')(r:aH K F H v s fp):(∀a∈fp,H' a=H a)->aH K F' H' v s fp:=
 aH.rec (motive_1:=λv s fp _=>(∀a∈fp,H' a=H a)->aH K F' H' v s fp) (motive_2:=λv s fp _=>(∀a∈fp,H' a=H a)->zr K F' H' v s fp)
  (λr _=>.sh (aN.mono h r)) (λe _ z k=>.lst ((k _ qm).trans e) (z λa B=>k a (qk _ B)))
  (λe q _ z k=>.dK ((k _ qm).trans e) q (z λa B=>k a (qk _ B))) (λe q _ z k=>.dT ((k _ qm).trans e) q (z λa B=>k a (qk _ B)))
  (λe r k=>.st ((k _ qm).trans e) (zA.mono h r)) (λ_=>.nil) (λ_ _ a b k=>.cons (a λc G=>k c (qj _ G)) (b λc G=>k c (qi _ G))) r
def zr.mono(h:zn F F')(r:zr K F H v s fp):(∀a∈fp,H' a=H a)->zr K F' H' v s fp:=
 zr.ind (P:=λv s fp=>(∀a∈fp,H' a=H a)->zr K F' H' v s fp) (λ_=>.nil) (λa _ b k=>.cons (aH.mono h a λc z=>k c (qj _ z)) (b λc z=>k c (qi _ z))) r
def aH.frz(h:zn F F')(r:aH K F H v s fp):(∀a∈fp,F' a=H a)->aN K F' v s.toD:=
 aH.rec (motive_1:=λv s fp _=>(∀a∈fp,F' a=H a)->aN K F' v s.toD) (motive_2:=λv s fp _=>(∀a∈fp,F' a=H a)->zA K F' v (S.toDs s))
  (λr _=>aN.mono h r) (λe _ z k=>.lst (bK.of ((k _ qm).trans e)) (z λa B=>k a (qk _ B)))
  (λe q _ z k=>.dK (.of ((k _ qm).trans e)) q (z λa B=>k a (qk _ B))) (λe q _ z k=>.dT (.of ((k _ qm).trans e)) q (z λa B=>k a (qk _ B)))
  (λe r k=>.st ((k _ qm).trans e) (zA.mono h r)) (λ_=>.nil) (λ_ _ a b k=>.cons (a λc G=>k c (qj _ G)) (b λc G=>k c (qi _ G))) r
def zr.frz(h:zn F F')(r:zr K F H v s fp):(∀a∈fp,F' a=H a)->zA K F' v (S.toDs s):=
 zr.ind (P:=λv s fp=>(∀a∈fp,F' a=H a)->zA K F' v (S.toDs s)) (λ_=>.nil) (λa _ b k=>.cons (aH.frz h a λc z=>k c (qj _ z)) (b λc z=>k c (qi _ z))) r
def aH.view(h:zn F H)(r:aH K F H v s fp):aN K H v s.toD:=aH.frz h r λ_ _=>rfl
def aH.in_:∀{v:V}{s:S}{fp:List Addr},aH K F H v s fp->∀a∈fp,∃o,H a=some o/\dY o=true:=by
 intro v s fp r;show aH.rec (motive_1:=λv s fp _=>∀a∈fp,∃o,H a=some o/\dY o=true) (motive_2:=λv s fp _=>∀a∈fp,∃o,H a=some o/\dY o=true) ?_ ?_ ?_ ?_ ?_ ?_ ?_ r
 .intro v d r a z;cases z
 .grind[dY]
 .grind[dY]
 .grind[dY]
 .grind[dY]
 .intro a z;cases z
 grind
inductive zp(K:W.Frag)(F H:Hp):Env->St->List Addr->Prop
 |nil:zp K F H [] [] []
 |no {U:Env} {Z:St} {o:Option V} {fp:List Addr}:zp K F H U Z fp->zp K F H (none::U) (o::Z) fp
 |so {U:Env} {Z:St} {v:V} {s:S} {fp fq:List Addr}:aH K F H v s fp->zp K F H U Z fq->zp K F H (some s::U) (some v::Z) (fp++fq)
def zp.len(r:zp K F H U Z fp):U.length=Z.length:=by
 induction r with
 |nil=>rfl
 |no _ v=>show congrArg (·+1) v
 |so _ _ v=>show congrArg (·+1) v
def zp.mono(h:zn F F')(r:zp K F H U Z fp)(k:∀a∈fp,H' a=H a):zp K F' H' U Z fp:=by
 induction r with
 |nil=>show .nil
 |no _ v=>show .no (v k)
 |so a _ v=>show .so (aH.mono h a λc z=>k c (qj _ z)) (v λc z=>k c (qi _ z))
def zp.in_(r:zp K F H U Z fp):∀a∈fp,∃o,H a=some o/\dY o=true:=by
 induction r with
 |nil=>show λa B=>nomatch B
 |no _ v=>show v
 |so q _ v=>show λa B=>(qx.mp B).elim (λz=>aH.in_ q a z) λz=>v a z
def zp.app(r:zp K F H U Z fp)(z:zp K F H U' Z' fq):zp K F H (U++U') (Z++Z') (fp++fq):=by
 induction r with
 |nil=>show z
 |no _ v=>show .no v
 |so a _ v=>rw[qp];show .so a v
inductive vK(K:W.Frag)(F H:Hp)(U:Env)(Z:St)(U':Env)(Z':St)(fp:List Addr):Prop
 |mk (f1 f2:List Addr):fp=f1++f2->zp K F H U Z f1->zp K F H U' Z' f2->vK K F H U Z U' Z' fp
def zp.cut(e:U.length=Z.length)(r:zp K F H (U++U') (Z++Z') fp):vK K F H U Z U' Z' fp:=by
 induction U generalizing Z fp with
 |nil=>cases Z with
  |nil=>show#[[],fp,rfl,.nil,r]
  |cons _ _=>show absurd e.symm (Nat.succ_ne_zero _)
 |cons x U z=>cases Z with
  |nil=>show absurd e (Nat.succ_ne_zero _)
  |cons y Z=>cases r with
   |no r=>let#[B,v,rfl,a,b]:=z (Nat.succ.inj e) r;show#[B,v,rfl,.no a,b]
   |so q r=>let#[B,v,rfl,a,b]:=z (Nat.succ.inj e) r;show#[_,v,(qp ..).symm,.so q a,b]
def bf(K:W.Frag)(F H:Hp)(U:Env)(Z:St)(i:Nat)(z v:List Addr):Prop:=∀{F' H':Hp}{o:Option S}{u:Option V}{fi':List Addr},zn F F'->(∀a∈z++v,H' a=H a)->(zp K F' H' [o] [u] fi')->zp K F' H' (U.set i o) (Z.set i u) (z++(fi'++v))
inductive bg(K:W.Frag)(F H:Hp)(U:Env)(Z:St)(fp:List Addr)(i:Nat)(s:S):Prop
 |mk (v:V) (fa fi fb:List Addr):Z[i]?=some (some v)->fp=fa++(fi++fb)->aH K F H v s fi->bf K F H U Z i fa fb->bg K F H U Z fp i s
inductive vJ(K:W.Frag)(F H:Hp)(U:Env)(Z:St)(fp:List Addr)(i:Nat):Prop
 |mk (fa fi fb:List Addr):fp=fa++(fi++fb)->bf K F H U Z i fa fb->vJ K F H U Z fp i
def zp.at:∀{U:Env}{Z:St}{fp:List Addr}{i:Nat}{s:S},zp K F H U Z fp->slot U i=some s->bg K F H U Z fp i s
 |_,_,_,_,_,.nil,e=>by simp[slot]at e
 |_,_,_,0,_,.no r,e=>by simp at e
 |_,_,_,0,s,.so (fp:=fp) (fq:=fq) q r,e=>by simp at e;subst e;show#[_,[],fp,fq,rfl,rfl,q,λ{F' H' o u J} h k x=>?_];let r':=zp.mono (H':=H') h r λa B=>k a B;show x.app r'
 |_,_,_,i+1,s,.no r,e=>by let#[v,O,L,M,Y,rfl,q,G]:=zp.at r e;show#[v,O,L,M,Y,rfl,q,λh k x=>.no (G h k x)]
 |_,_,_,i+1,s,.so (fp:=fp) (fq:=fq) p r,e=>by let#[v,O,L,M,Y,rfl,q,G]:=zp.at r e;show#[v,fp++O,L,M,Y,(qp ..).symm,q,λ{F' H' o u J} h k x=>?_];rw[qp];show .so (aH.mono h p λa B=>k a (qj _ (qj _ B))) (G h (λa B=>k a ((qx.mp B).elim (λz=>qj _ (qi _ z)) λz=>qi _ z)) x)
def zp.put:∀{U:Env}{Z:St}{fp:List Addr}{i:Nat},zp K F H U Z fp->i<U.length->vJ K F H U Z fp i
 |_,_,_,_,.nil,e=>by simp at e
 |_,_,fp,0,.no r,e=>#[[],[],fp,rfl,λ{O H' o u B} h k x=>x.app (zp.mono (H':=H') h r λa v=>k a v)]
 |_,_,_,0,.so (fp:=fp) (fq:=fq) q r,e=>#[[],fp,fq,rfl,λ{O H' o u B} h k x=>x.app (zp.mono (H':=H') h r λa v=>k a v)]
 |_,_,_,i+1,.no r,e=>by let#[M,J,L,rfl,G]:=zp.put (i:=i) r ↑e;show#[M,J,L,rfl,λh k x=>.no (G h k x)]
 |_,_,_,i+1,.so (fp:=fp) (fq:=fq) p r,e=>by let#[M,J,L,rfl,G]:=zp.put (i:=i) r ↑e;show#[fp++M,J,L,(qp ..).symm,λ{O H' o u B} h k x=>?_];rw[qp];show .so (aH.mono h p λa v=>k a (qj _ (qj _ v))) (G h (λa v=>k a ((qx.mp v).elim (λz=>qj _ (qi _ z)) λz=>qi _ z)) x)
inductive lP(K:W.Frag)(U:Env)(Z:St)(F G H:Hp):Prop
 |mk (fp:List Addr):zp K F H U Z fp->fp.Nodup->(∀a∈fp,F a=none/\G a=none)->lP K U Z F G H
structure Rel(K:W.Frag)(U:Env)(Z:St)(F G H:Hp):Prop where
 fr:zn F H
 gr:∀a o,G a=some o->(H a=some o/\dY o=true)/\F a=none
 en:lP K U Z F G H
def Rel.len(r:Rel K U Z F G H):U.length=Z.length:=let⟨_,e,_,_⟩:=r.en;e.len
def Rel.free(r:Rel K U Z F G H)(h:H p=none):F p=none/\G p=none/\∀fp,zp K F H U Z fp->p∉fp:=by
 show#[?_,?_,λfp e v=>?_]
 .cases q:F p with
  |none=>rfl
  |some o=>rw[r.fr p o q]at h;cases h
 .cases q:G p with
  |none=>rfl
  |some o=>rw[(r.gr p o q).1.1]at h;cases h
 .obtain⟨o,q,_⟩:=e.in_ p v;rw[h]at q;cases q
def zn.upd(h:F p=none):zn F (upd F p o):=λb u e=>by rw[Ak (λz=>by rw[z,h]at e;cases e)];show e
def zn.upd2(h:zn F H):zn (L2.upd F p o) (L2.upd H p o):=λb u e=>by
 by_cases q:b=p
 .subst q;rw[Bx]at e⊢;show e
 .rw[Ak q]at e⊢;show h b u e
def zn.updR(h:zn F H)(n:F p=none):zn F (L2.upd H p o):=λb u e=>by rw[Ak (λz=>by rw[z,n]at e;cases e)];show h b u e
def Rel.newF(r:Rel K U Z F G H)(h:H p=none):Rel K U Z (upd F p o) G (upd H p o):=by
 let#[Y,O,M]:=r.free h;let#[fp,e,L,ap]:=r.en;let B:∀a∈fp,a≠p:=λa v z=>M fp e (z▸v);show#[zn.upd2 r.fr,λa u q=>?_,fp,e.mono (zn.upd Y) λa v=>Ak (B a v),L,λa v=>?_]
 .let J:a≠p:=λz=>by rw[z,O]at q;cases q
  rw[Ak J,Ak J];show r.gr a u q
 .rw[Ak (B a v)];show ap a v
def Rel.newO(r:Rel K U Z F G H)(h:H p=none)(q:aH K F (upd H p o) (.ref p) s [p]):Rel K (U++[some s]) (Z++[some (.ref p)]) F G (upd H p o):=by
 let#[O,M,J]:=r.free h;let#[fp,e,Y,ap]:=r.en;let B:∀a∈fp,a≠p:=λa v z=>J fp e (z▸v);show#[zn.updR r.fr O,λa u q=>?_,fp++([p]++[]),(e.mono (zn.refl F) λa v=>Ak (B a v)).app (.so q .nil),?_,λa v=>?_]
 .let L:a≠p:=λz=>by rw[z,M]at q;cases q
  rw[Ak L];show r.gr a u q
 .grind
 grind
def Rel.drop(r:Rel K (U++U') (Z++Z') F G H)(h:U.length=Z.length):Rel K U Z F G H:=by let#[L,e,v,J]:=r.en;let#[B,M,rfl,a,b]:=e.cut h;show#[r.fr,r.gr,B,a,(qw.mp v).1,λc z=>J c (qj _ z)]
def Rel.hide(r:Rel K (U++U') (Z++Z') F G H)(h:U.length=Z.length):∃O,Rel K U Z F O H/\zn G O/\
  ∀{U2:Env}{Z2:St}{L H2:Hp},zn F L->Rel K U2 Z2 L O H2->Rel K (U2++U') (Z2++Z') L G H2:=by
 classical
 let#[fp,e,nd,ap]:=r.en;let#[f1,J,rfl,a,b]:=e.cut h;let#[n1,n2,h2]:=qw.mp nd;show#[λx=>if x∈J then H x else G x,#[r.fr,λx o q=>?_,f1,a,n1,λx v=>?_],λx o q=>?_,λ{U2 Z2 L H2} Y M=>?_]
 .by_cases z:x∈J
  .let:=b.in_ x z;grind
  .simp only[z]at q;show r.gr x o q
 .grind
 .grind
 .obtain⟨B,e2,h1,h3⟩:=M.en;let hk:∀x∈J,H2 x=H x/\L x=none/\x∉B:=λx v=>by let#[o,q,_]:=b.in_ x v;let w:=M.gr x o (by simp only[v];show q);grind
  show#[M.fr,λx o q=>?_,B++J,e2.app (b.mono Y λx v=>(hk x v).1),?_,λx v=>?_]
  .let z:x∉J:=λz=>by grind
   show M.gr x o (by simp only[z];show q)
  .grind
  grind
def Rel.weakG(r:Rel K U Z F G' H)(h:zn G G'):Rel K U Z F G H:=by
 let#[J,e,B,z]:=r.en;show#[r.fr,λa o q=>r.gr a o (h a o q),J,e,B,λa v=>#[(z a v).1,?_]];cases q:G a with
 |none=>rfl
 |some o=>have:=(z a v).2;rw[h a o q]at this;cases this
def Rel.swap(h:U.length=Z.length)(h1:U1.length=Z1.length)(r:Rel K (U++(U1++U2)) (Z++(Z1++Z2)) F G H):Rel K (U++(U2++U1)) (Z++(Z2++Z1)) F G H:=by let#[fp,e,J,Y]:=r.en;let#[B,M,rfl,a,b]:=e.cut h;let#[z,v,rfl,O,c]:=b.cut h1;let p:(B++(v++z)).Perm (B++(z++v)):=List.Perm.append_left _ qM;show#[r.fr,r.gr,_,a.app (c.app O),p.nodup_iff.mpr J,λx L=>Y x (p.mem_iff.mp L)]
def Rel.push(r:Rel K U Z F G H)(h:aN K F v d):Rel K (U++[some (.sh d)]) (Z++[some v]) F G H:=by
 let#[J,e,z,L]:=r.en;show#[r.fr,r.gr,J++([]++[]),e.app (.so (.sh h) .nil),?_,λx B=>L x ?_]
 .simpa using z
 .simpa using B
def Rel.pushN(r:Rel K U Z F G H):Rel K (U++[none]) (Z++[u]) F G H:=by
 let#[B,e,v,J]:=r.en;show#[r.fr,r.gr,B++[],e.app (.no .nil),?_,λx z=>J x ?_]
 .simpa using v
 .simpa using z
def Jl(h:slot U i=some s):U[i]?=some (some s):=by
 induction U generalizing i with
 |nil=>simp[slot]at h
 |cons a r v=>cases i with
  |zero=>simp at h;simp[h]
  |succ i=>simp at h;simpa using v h
def Gy(h:slot U i=some s):i<U.length:=(qg.mp (Jl h)).1
def HG(h:i<U.length):slot (U++U') i=slot U i:=by
 induction U generalizing i with
 |nil=>simp at h
 |cons a r v=>cases i with
  |zero=>rfl
  |succ i=>simpa using v ↑h
def Fo:slot (U++o::U') U.length=o:=by
 induction U with
 |nil=>rfl
 |cons a r v=>simpa using v
inductive bb(K:W.Frag)(F H:Hp)(Z:St)(i:Nat)(s:S):Prop
 |mk (v:V) (fp:List Addr):Z[i]?=some (some v)->aH K F H v s fp->bb K F H Z i s
def Rel.at(r:Rel K U Z F G H)(h:slot U i=some s):bb K F H Z i s:=by let#[L,e,J,Y]:=r.en;let#[v,O,z,M,B,_,q,_]:=e.at h;show#[v,z,B,q]
def Rel.give(r:Rel K U Z F G H)(h:slot U i=some s):∃v F',Z[i]?=some (some v)/\zn F F'/\aN K F' v s.toD/\Rel K (U.set i (some (.sh s.toD))) Z F' G H:=by
 classical
 let#[fp,e,nd,ap]:=r.en;let#[v,fa,B,fb,e1,rfl,q,O]:=e.at h;let#[na,Y,h1]:=qw.mp nd;let J:zn F (λx=>if x∈B then H x else F x):=λx o w=>by grind
 let L:aN K (λx=>if x∈B then H x else F x) v s.toD:=q.frz J λx M=>by simp[M,if_true]
 let e2:Z.set i (some v)=Z:=by apply ext_getElem?;grind
 show#[v,_,e1,J,L,λx o w=>?_,λx o w=>?_,fa++([]++fb),?_,?_,λx M=>?_]
 .by_cases z:x∈B
  .simp only[z]at w;show w
  .simp only[z]at w;show r.fr x o w
 .let w2:=r.gr x o w;grind
 .let:=O (F':=λx=>if x∈B then H x else F x) (H':=H) (o:=some (.sh s.toD)) (u:=some v) (fi':=[]) J (λ_ _=>rfl) (.so (.sh L) .nil);rw[e2]at this;show this
 .grind
 grind
def Rel.store(r:Rel K (U++[o]) (Z++[u]) F G H)(h:U.length=Z.length)(hi:i<U.length):Rel K (U.set i o) (Z.set i u) F G H:=by
 let#[fp,e,B,ap]:=r.en;let#[f1,f2,rfl,a,b]:=e.cut h;let#[Y,fi,O,rfl,v]:=a.put hi;let#[M,n2,L]:=qw.mp B;let#[na,z,J]:=qw.mp M;show#[r.fr,r.gr,Y++(f2++O),v (zn.refl F) (λ_ _=>rfl) b,?_,λx hx=>?_]
 .grind
 grind
end FL
namespace FL
open PySem PySem.Spec PyProof.Rows L2
abbrev St:=L2.St
abbrev wp(X:Cx)(pn:List (Addr×Obj))(xe:zh):Cx:={X with pn:=pn,xe:=xe}
def zo:R->Option S
 |.v s=>some s
 |.loc _=>none
@[inline]def RV(Z:St)(v:V):R->Prop
 |.v _=>True
 |.loc i=>Z[i]?=some (some v)
def lV(Z:St):List V->List R->Prop
 |[],[]=>True
 |v::vs,r::rs=>RV Z v r/\lV Z vs rs
 |_,_=>False
def uP(K:W.Frag)(F:Hp)(d:D)(C:Addr)(v:Option Addr):Prop:=∃c fs vs,d=.exc c fs vs/\W.nsIn K mainGlobals (#[c.toArray]:Str)=some (some (.ref C))/\lO F v fs vs
def zP(X:Cx)(F H:Hp)(h:Heap)(u:Value)(d:D):Prop:=∃e C v,u=.ref e/\uP X.K F d C v/\sT X [] H h e (.ref C) v
@[inline]def KP(ks:List Nat)(Z Z':St):Prop:=∀i∈ks,Z'[i]?=Z[i]?
@[inline]def XC(X:Cx)(T:St->Prop)(F G:Hp)(PX:WX):Prop:=∀(d:D)(U':Env)(Z':St)(F' H':Hp)(u:Value)(s':Shared),PX d U'->T Z'->zn F F'->Rel X.K U' Z' F' G H'->Inv X [] Z' H' s'->zP X F' H' s'.heap u d->X.xe u s'
def XC.mono(h:XC X T F G PX)(t:∀Z,T' Z->T Z)(f:zn F F')(g:zn G G'):XC X T' F' G' PX:=
 λd z v J H2 u s' p q B r I x=>h d z v J H2 u s' p (t _ q) (f.trans B) (r.weakG g) I x
def XC.grow(h:XC X T F G PX)(f:zn F F'):XC X T F' G PX:=h.mono (λ_ z=>z) f (zn.refl G)
inductive tW(X:Cx)(w:WE)(Z:St)(H:Hp)(Q:VK):Prop
 |mk (F G:Hp) (U:Env) (P:WQ) (PX:WX) (zE:Rel X.K U Z F G H) (hw:w U P PX) (hok:∀r U' v F' H',P r U'->zn F F'->Rel X.K (U'++[zo r]) (Z++[some v]) F' G H'->RV Z v r->Q v H') (hx:XC X (·=Z) F G PX):tW X w Z H Q
@[inline]def FE(X:Cx)(e:Expr)(w:WE):Prop:=∀(pn:List (Addr×Obj))(xe:zh),PassesOwn (model X.prog X.w) X.A X.env xe->PE (wp X pn xe) e (tW (wp X pn xe) w)
inductive gT(X:Cx)(w:WT)(Z:St)(H:Hp)(Q:Bool->Hp->Prop):Prop
 |mk (F G:Hp) (U:Env) (P:Bool->Env->Prop) (PX:WX) (zE:Rel X.K U Z F G H) (hw:w U P PX) (hok:∀b U' F' H',P b U'->zn F F'->Rel X.K U' Z F' G H'->Q b H') (hx:XC X (·=Z) F G PX):gT X w Z H Q
@[inline]def FT(X:Cx)(e:Expr)(w:WT):Prop:=∀(pn:List (Addr×Obj))(xe:zh),PassesOwn (model X.prog X.w) X.A X.env xe->PT (wp X pn xe) e (gT (wp X pn xe) w)
@[inline]def FW(X:Cx)(e:Expr)(w:WT):Prop:=∀(pn:List (Addr×Obj))(xe:zh),PassesOwn (model X.prog X.w) X.A X.env xe->PW (wp X pn xe) e (gT (wp X pn xe) w)
inductive pJ(X:Cx)(w:WA)(Z:St)(H:Hp)(Q:List V->Hp->Prop):Prop
 |mk (F G:Hp) (U:Env) (P:List R->Env->Prop) (PX:WX) (zE:Rel X.K U Z F G H) (hw:w U P PX) (hok:∀rs U' vs F' H',P rs U'->zn F F'->Rel X.K (U'++rs.map zo) (Z++vs.map some) F' G H'->U'.length=Z.length->lV Z vs rs->Q vs H') (hx:XC X (·=Z) F G PX):pJ X w Z H Q
@[inline]def FA(X:Cx)(es:List Expr)(w:WA):Prop:=∀(pn:List (Addr×Obj))(xe:zh),PassesOwn (model X.prog X.w) X.A X.env xe->PA (wp X pn xe) es (pJ (wp X pn xe) w)
def PE.imp(h:PE X e t)(k:∀Z H Q,t' Z H Q->t Z H Q):PE X e t':=λzC s Z H Q I q=>h zC s Z H Q I (k Z H Q q)
def PT.imp(h:PT X e t)(k:∀Z H Q,t' Z H Q->t Z H Q):PT X e t':=λzC s Z H Q I q=>h zC s Z H Q I (k Z H Q q)
def PW.imp(h:PW X e t)(k:∀Z H Q,t' Z H Q->t Z H Q):PW X e t':=λv zC s Z H Q I q=>h v zC s Z H Q I (k Z H Q q)
def PA.imp(h:PA X e t)(k:∀Z H Q,t' Z H Q->t Z H Q):PA X e t':=λp zC s Z H Q I q=>h p zC s Z H Q I (k Z H Q q)
section
variable{K:W.Frag}
def Rel.mid(r:Rel K (U++o::U') (Z++w::Z') F G H)(h:U.length=Z.length):Rel K (U++U') (Z++Z') F G H:=by let#[fp,e,z,ap]:=r.en;let#[f1,f2,rfl,a,b]:=e.cut h;let#[f2,Y,rfl,b,c]:=zp.cut (U:=[o]) (Z:=[w]) rfl b;let#[M,L,J]:=qw.mp z;let#[n4,B,n6]:=qw.mp L;show#[r.fr,r.gr,f1++Y,a.app c,qw.mpr #[M,B,λx v y O=>J x v y (qi _ O)],λx v=>ap x ?_];grind
def Ae(r:Rel K (U++[o]) (Z++[w]) F G H):U.length=Z.length:=by let:=r.len;simpa using this
def Mv:(U++o::U').set U.length o'=U++o'::U':=by
 induction U with
 |nil=>rfl
 |cons a r v=>simpa using v
inductive Nd{α:Type}(o:Option α)(k:α->Prop):Prop
 |mk (a:α):o=some a->k a->Nd o k
def Av(h:zm o k):Nd o k:=by
 cases o with
 |none=>show h.elim
 |some a=>show#[a,rfl,h]
def aX(K:W.Frag)(F H:Hp)(v:V)(d:D):Prop:=aN K F v d\/
 (∃a xs z,v=.ref a/\d=.lst z/\H a=some (.lst xs)/\zA K F xs z)\/
 (∃a zD ks vs,v=.ref a/\d=.dct false ks vs/\H a=some (.dK zD)/\ks=zD.map (λp=>aG p.1)/\zA K F (zD.map (·.2)) vs)\/
 (∃a zD ks vs,v=.ref a/\d=.dct true ks vs/\H a=some (.dT zD)/\ks=zD.map (λp=>D.tup (p.1.map aG))/\zA K F (zD.map (·.2)) vs)
def aX.mono(h:zn F F')(r:aX K F H v d):aX K F' H v d:=by
 rcases r with r|⟨a,xs,O,J,G,B,r⟩|⟨a,z,ks,L,J,G,B,M,r⟩|⟨a,z,ks,L,J,G,B,M,r⟩
 .show .inl (r.mono h)
 .show .inr (.inl #[a,xs,O,J,G,B,r.mono h])
 .show .inr (.inr (.inl #[a,z,ks,L,J,G,B,M,r.mono h]))
 .show .inr (.inr (.inr #[a,z,ks,L,J,G,B,M,r.mono h]))
def zr.sh(r:zr K F H xs l fp):l.all S.isSh=true->zA K F xs (l.map S.toD)/\fp=[]:=
 zr.ind (P:=λxs l fp=>l.all S.isSh=true->zA K F xs (l.map S.toD)/\fp=[]) (λ_=>#[.nil,rfl]) (λa _ v h=>by
  rw[all_cons,and_eq_true]at h;let#[q,e]:=v h.2;cases a with
  |sh r=>show#[.cons r q,e]
  |_=>show absurd h.1 (by simp[S.isSh])) r
def AE(r:Rel K (U++(zo x::U')) (Z++(some v::Z')) F G H)(h:U.length=Z.length)(O:RV Z v x)(e:view x U=some d):aN K H v d:=by
 cases x with
 |v s=>
  let#[u,Y,z,q]:=r.at (i:=U.length) (s:=s) Fo;rw[h,getElem?_append_right (q5 _)]at z;let M:v=u:=↑z
  subst M;let L:s.toD=d:=qf e;rw[<-L];show q.view r.fr
 |loc i=>
  let B:(slot U i).map S.toD=some d:=e;cases q:slot U i with
  |none=>rw[q]at B;cases B
  |some s=>
   rw[q]at B;let L:s.toD=d:=qf B;let hi:=Gy q;let#[u,Y,z,w]:=r.at (i:=i) (s:=s) (by rw[HG hi];show q);rw[getElem?_append_left (h▸hi)]at z;let J:Z[i]?=some (some v):=O;rw[J]at z;let M:v=u:=↑z
   subst M;rw[<-L];show w.view r.fr
inductive az(K:W.Frag)(U:Env)(Z:St)(F G H:Hp)(v:V)(d:D):Prop
 |mk (F':Hp):zn F F'->aX K F' H v d->Rel K U Z F' G H->az K U Z F G H v d
def Bz(r:Rel K (U++(zo x::U')) (Z++(some v::Z')) F G H)(h:U.length=Z.length)(rv:RV Z v x)(e:zy x U=some d):
  az K (U++U') (Z++Z') F G H v d:=by
 cases x with
 |v s=>
  let#[u,F',z,sm,rp,r']:=r.give (i:=U.length) (s:=s) Fo;rw[h,getElem?_append_right (q5 _)]at z;let e2:v=u:=↑z
  subst e2;let e3:s.toD=d:=qf e;rw[show(U++zo (.v s)::U').set U.length (some (S.sh s.toD))=U++some (S.sh s.toD)::U' from Mv]at r';show#[F',sm,.inl (e3▸rp),r'.mid h]
 |loc i=>
  let e':(match slot U i with|some s=>if s.flat then some s.toD else none|none=>none)=some d:=e;cases q:slot U i with
  |none=>rw[q]at e';cases e'
  |some s=>
   let hi:=Gy q;let#[u,fp,z,w]:=r.at (i:=i) (s:=s) (by rw[HG hi];show q);rw[getElem?_append_left (h▸hi)]at z;let O:Z[i]?=some (some v):=rv;rw[O]at z;let e2:v=u:=↑z
   subst e2;show#[F,zn.refl F,?_,r.mid h];by_cases M:s.flat=true
   .let e3:s.toD=d:=by grind
    subst e3;cases w with
    |sh r=>show .inl r
    |lst L J=>let#[B,_]:=J.sh M;show .inr (.inl #[_,_,_,rfl,by simp,L,B])
    |dK L Y J=>let#[B,_]:=J.sh M;show .inr (.inr (.inl #[_,_,_,_,rfl,by simp,L,Y,B]))
    |dT L Y J=>let#[B,_]:=J.sh M;show .inr (.inr (.inr #[_,_,_,_,rfl,by simp,L,Y,B]))
    |st _ _=>show absurd M (by simp[S.flat])
   grind
inductive bc(K:W.Frag)(L:Prop)(U:Env)(Z:St)(F G H:Hp):Prop
 |mk (F':Hp):zn F F'->L->Rel K U Z F' G H->bc K L U Z F G H
def AF(r:Rel K (U++(zo x::U')) (Z++(some v::Z')) F G H)(h:U.length=Z.length)(rv:RV Z v x)(e:give x U=some (s,U1)):
  bc K (U1.length=U.length) (U1++(some s::U')) (Z++(some v::Z')) F G H:=by
 cases x with
 |v t=>have z:some (t,U)=some (s,U1):=e;cases z;show#[F,zn.refl F,rfl,r]
 |loc i=>
  let z:(match slot U i with|some s=>some (S.sh s.toD,U.set i (some (.sh s.toD)))|none=>none)=some (s,U1):=e;cases q:slot U i with
  |none=>rw[q]at z;cases z
  |some t=>
   rw[q]at z;cases z;let hi:=Gy q;let#[u,O,L,Y,rp,B]:=r.give (i:=i) (s:=t) (by rw[HG hi];show q);rw[getElem?_append_left (h▸hi)]at L;let J:Z[i]?=some (some v):=rv;rw[J]at L;let e2:v=u:=↑L
   subst e2;rw[List.set_append_left _ _ hi]at B;show#[O,Y,by simp,?_];let#[fp,en,nd,ap]:=B.en;let hl:(U.set i (some (S.sh t.toD))).length=Z.length:=↑h
   let#[f1,M,rfl,a,b]:=en.cut hl;let b':zp K O H (none::U') (some v::Z') M:=b;cases b' with
   |no b=>show#[B.fr,B.gr,f1++([]++M),a.app (.so (.sh rp) b),↑nd,λx hx=>ap x hx]
end
def tW.mono(h:tW X w Z H Q)(k:∀v H',Q v H'->Q' v H'):tW X w Z H Q':=by let#[F,G,U,P,PX,B,M,J,L]:=h;show#[F,G,U,P,PX,B,M,λr z v O H' a b c d=>k _ _ (J r z v O H' a b c d),L]
inductive zQ(X:Cx)(Z:St)(k:R->R->Env->WQ->WX->Prop)(Q:VK)(v u:V)(H:Hp):Prop
 |mk (F G:Hp) (U:Env) (x y:R) (P:WQ) (PX:WX) (zE:Rel X.K (U++[zo x,zo y]) (Z++[some v,some u]) F G H) (hl:U.length=Z.length) (rx:RV Z v x) (ry:RV Z u y) (hk:k x y U P PX) (hok:∀r U' v F' H',P r U'->zn F F'->Rel X.K (U'++[zo r]) (Z++[some v]) F' G H'->RV Z v r->Q v H') (hx:XC X (·=Z) F G PX):zQ X Z k Q v u H
def Cv(h:tW X (λU Q E=>wa U (λx U1=>wb U1 (λy U2=>k x y U2 Q E) E) E) Z H Q):
  tW X wa Z H λv H1=>tW X wb Z H1 λu H2=>zQ X Z k Q v u H2:=by
 let#[F,G,U,P,PX,h3,hw,h6,hx]:=h;show#[F,G,U,_,PX,h3,hw,λx U1 v F1 H1 h5 M r1 Y=>?_,hx];let h1:=Ae r1;let#[G1,B,gg,back]:=r1.hide h1;show#[F1,G1,U1,_,PX,B,h5,λy U2 u F2 H2 h4 L r2 O=>?_,hx.mono (λ_ z=>z) M gg];let h2:=Ae r2;let r3:=back L r2;rw[qp,qp]at r3;show#[F2,G,U2,x,y,P,PX,Rel.swap (U1:=[zo y]) (Z1:=[some u]) (U2:=[zo x]) (Z2:=[some v]) h2 rfl r3,h2,Y,O,h4,λr J v F' H' a b c d=>h6 r J v F' H' a (M.trans (L.trans b)) c d,hx.grow (M.trans L)]
inductive One(X:Cx)(Z:St)(k:R->Env->WQ->WX->Prop)(Q:VK)(v:V)(H:Hp):Prop
 |mk (F G:Hp) (U:Env) (x:R) (P:WQ) (PX:WX) (zE:Rel X.K (U++[zo x]) (Z++[some v]) F G H) (hl:U.length=Z.length) (rx:RV Z v x) (hk:k x U P PX) (hok:∀r U' v F' H',P r U'->zn F F'->Rel X.K (U'++[zo r]) (Z++[some v]) F' G H'->RV Z v r->Q v H') (hx:XC X (·=Z) F G PX):One X Z k Q v H
theorem one(h:tW X (λU Q E=>wa U (λx U1=>k x U1 Q E) E) Z H Q):tW X wa Z H λv H1=>One X Z k Q v H1:=by let#[F,G,U,P,PX,J,hw,M,hx]:=h;show#[F,G,U,_,PX,J,hw,λx U1 v F1 H1 L O Y B=>#[F1,G,U1,x,P,PX,Y,Ae Y,B,L,λr z v F' H' a b c d=>M r z v F' H' a (O.trans b) c d,hx.grow O],hx]
def OR(hN:X.N[i]?=some x)(Y:uT X.env.scope x)(hd:autoParam ((x==("__debug__":Str))=false) dZ9)(M:autoParam ((x==("__classdict__":Str))=false) dZ9):FE X (.Name x pos) (zi i):=by
 intro pn xe hp;show PE.imp (Oa (X:=wp X pn xe) hN Y hd M) λZ H Q h=>?_;let#[F,G,U,P,PX,z,J,B,hx]:=h;unfold zi at J;cases q:slot U i with
 |none=>rw[q]at J;show J.elim
 |some s=>
  let#[v,fp,L,O]:=z.at q;rw[q]at J;cases s with
  |sh d=>
   cases O with
   |sh r=>show#[v,L,B _ _ v F H J (zn.refl F) (z.push r) trivial]
  |lst l=>show#[v,L,B _ _ v F H J (zn.refl F) z.pushN L]
  |dct t a b=>show#[v,L,B _ _ v F H J (zn.refl F) z.pushN L]
  |set l=>show#[v,L,B _ _ v F H J (zn.refl F) z.pushN L]
def FK(h:∀X:Cx,PE X e (tC v))(r:∀K F,aN K F v d):FE X e (wC d):=by intro pn xe M;show PE.imp (h _) λZ H Q h=>?_;let#[F,G,U,P,PX,z,J,B,L]:=h;show B _ _ v F H J (zn.refl F) (z.push (r _ _)) trivial
def Ar:FE X (.Constant (.int i) j pos) (wC (.int i)):=FK (λ_=>Nk) λ_ _=>.int i
def Ha:FE X (.Constant (.bool b) j pos) (wC (.bl b)):=FK (λ_=>Na) λ_ _=>.bl b
def Fj(e:x.cps.toList=l)(z:l.length<=16777216):FE X (.Constant (.str x) j pos) (wC (.str l)):=FK (λ_=>OU) λ_ _=>.str e z
def OpR.or(h:OpR X f r)(h':OpR X f G):OpR X f (λx y H Q=>r x y H Q\/G x y H Q):=λzC s Z H x y v u Q I F B q=>q.elim (λz=>h zC s Z H x y v u Q I F B z) λz=>h' zC s Z H x y v u Q I F B z
def gF(K:W.Frag)(r:R2)(z:D->D->Option S):Prop:=∀(Z:St)(U:Env)(F G H:Hp)(x y:V)(p q:D)(s:S)(Q:VK),Rel K U Z F G H->aX K F H x p->aX K F H y q->z p q=some s->
 (∀v F' H',zn F F'->Rel K (U++[some s]) (Z++[some v]) F' G H'->Q v H')->r x y H Q
def FU(ho:∀pn xe,OpR (wp X pn xe) (binaryOp op) r)(hd:gF X.K r o)(ha:FE X a wa)(hb:FE X b wb):FE X (.BinOp a op b pos) (zu o wa wb):=by intro pn xe hp;show PE.imp (NI (ho pn xe) (ha pn xe hp) (hb pn xe hp)) λZ H Q h=>?_;show(Cv (k:=λx y B Q E=>zm (zy x B) λp=>zm (zy y B) λq=>zm (o p q) λs=>Q (.v s) B) h).mono λv H1 h1=>h1.mono λu H2 h2=>?_;let#[F,G,U,x,y,P,PX,M,hl,rx,ry,J,h3,hx]:=h2;let#[p,ep,J]:=Av J;let#[q,eq,J]:=Av J;let#[t,et,J]:=Av J;let#[F1,s1,Y,L]:=Bz M hl rx ep;let#[F2,s2,O,z]:=Bz (U':=[]) (Z':=[]) L hl ry eq;rw[qz,qz]at z;show hd Z U F2 G H2 v u p q t Q z (Y.mono s2) O et λv' F' H' sm r'=>h3 (.v t) U v' F' H' J (s1.trans (s2.trans sm)) r' trivial
def pJ.mono(h:pJ X w Z H Q)(k:∀v H',Q v H'->Q' v H'):pJ X w Z H Q':=by let#[F,G,U,P,PX,B,M,J,L]:=h;show#[F,G,U,P,PX,B,M,λr z v O H' a b c d e=>k _ _ (J r z v O H' a b c d e),L]
inductive uU(X:Cx)(Z:St)(k:R->R->Env->(Bool->Env->Prop)->WX->Prop)(Q:Bool->Hp->Prop)(v u:V)(H:Hp):Prop
 |mk (F G:Hp) (U:Env) (x y:R) (P:Bool->Env->Prop) (PX:WX) (zE:Rel X.K (U++[zo x,zo y]) (Z++[some v,some u]) F G H) (hl:U.length=Z.length) (rx:RV Z v x) (ry:RV Z u y) (hk:k x y U P PX) (hok:∀r U' F' H',P r U'->zn F F'->Rel X.K U' Z F' G H'->Q r H') (hx:XC X (·=Z) F G PX):uU X Z k Q v u H
def Jr(h:gT X (λU Q E=>wa U (λx U1=>wb U1 (λy U2=>k x y U2 Q E) E) E) Z H Q):
  tW X wa Z H λv H1=>tW X wb Z H1 λu H2=>uU X Z k Q v u H2:=by
 let#[F,G,U,P,PX,h3,hw,h6,hx]:=h;show#[F,G,U,_,PX,h3,hw,λx U1 v F1 H1 h5 M r1 Y=>?_,hx];let h1:=Ae r1;let#[G1,B,gg,back]:=r1.hide h1;show#[F1,G1,U1,_,PX,B,h5,λy U2 u F2 H2 h4 L r2 O=>?_,hx.mono (λ_ z=>z) M gg];let h2:=Ae r2;let r3:=back L r2;rw[qp,qp]at r3;show#[F2,G,U2,x,y,P,PX,Rel.swap (U1:=[zo y]) (Z1:=[some u]) (U2:=[zo x]) (Z2:=[some v]) h2 rfl r3,h2,Y,O,h4,λr J F' H' a b c=>h6 r J F' H' a (M.trans (L.trans b)) c,hx.grow (M.trans L)]
def dC(K:W.Frag)(r:R2)(v:D->D->Option Bool):Prop:=∀(H:Hp)(x y:V)(p q:D)(k:Bool)(Q:VK),aN K H x p->aN K H y q->v p q=some k->Q (.bl k) H->r x y H Q
def EZ{K:W.Frag}(B:Rel K (U++[zo x,zo y]) (Z++[some v,some u]) F G H)(J:U.length=Z.length)(M:RV Z v x)(L:RV Z u y)(ep:view x U=some p)(O:view y U=some q):
  aN K H v p/\aN K H u q/\Rel K U Z F G H:=by
 let z:Rel K (U++[zo y]) (Z++[some u]) F G H:=B.mid J;show#[AE B J M ep,AE (U':=[]) (Z':=[]) z J L O,z.drop J]
def DC(ho:∀pn xe,OpR (wp X pn xe) (compareOp O) r)(hd:dC X.K r o)(ha:FE X a wa)(hb:FE X b wb)(hm:behindInMarks O b=false):FT X (.Compare a [O] [b] pos) (cD o wa wb):=by intro pn xe Y;show PT.imp (Pq (ho pn xe) (ha pn xe Y) (hb pn xe Y) hm) λZ H Q h=>?_;show(Jr (k:=λx y z Q E=>zm (view x z) λp=>zm (view y z) λq=>zm (o p q) λc=>Q c z) h).mono λv H1 h1=>h1.mono λu H2 h2=>?_;let#[F,G,U,x,y,P,PX,L,hl,rx,ry,B,M,hx]:=h2;let#[p,ep,B]:=Av B;let#[q,eq,B]:=Av B;let#[t,et,B]:=Av B;let#[r1,r2,J]:=EZ L hl rx ry ep eq;show hd H2 v u p q t _ r1 r2 et #[t,rfl,M t U F H2 B (zn.refl F) J]
def Ia(ho:∀pn xe,OpR (wp X pn xe) (compareOp O) r)(hd:dC X.K r o)(ha:FE X a wa)(hb:FE X b wb)(hm:behindInMarks O b=false):FE X (.Compare a [O] [b] pos) (kI (cD o wa wb)):=by intro pn xe Y;show PE.imp (Oh (ho pn xe) (ha pn xe Y) (hb pn xe Y) hm) λZ H Q h=>?_;show(Cv (k:=λx y z Q E=>zm (view x z) λp=>zm (view y z) λq=>zm (o p q) λc=>Q (.v (.sh (.bl c))) z) h).mono λv H1 h1=>h1.mono λu H2 h2=>?_;let#[F,G,U,x,y,P,PX,L,hl,rx,ry,B,M,hx]:=h2;let#[p,ep,B]:=Av B;let#[q,eq,B]:=Av B;let#[t,et,B]:=Av B;let#[r1,r2,J]:=EZ L hl rx ry ep eq;show hd H2 v u p q t _ r1 r2 et (M _ U (.bl t) F H2 B (zn.refl F) (J.push (.bl t)) trivial)
def GI{k:Bool->Env->(Bool->Env->Prop)->WX->Prop}(h:gT X (λU Q E=>ta U (λc U1=>k c U1 Q E) E) Z H Q)
  (Y:∀(c:Bool)(F G:Hp)(U:Env)(P:Bool->Env->Prop)(PX:WX)(H1:Hp),Rel X.K U Z F G H1->k c U P PX->(∀r U' F' H',P r U'->zn F F'->Rel X.K U' Z F' G H'->Q r H')->XC X (·=Z) F G PX->Q' c H1):gT X ta Z H Q':=by
 let#[F,G,U,P,PX,v,M,z,J]:=h;show#[F,G,U,_,PX,v,M,λc U1 F1 H1 O B L=>Y c F1 G U1 P PX H1 L O (λr U' F' H' a b c=>z r U' F' H' a (B.trans b) c) (J.grow B),J]
def MT(h:FW X a ta):FT X a ta:=λpn xe v=>(h pn xe v).pt
def Pw(h:FT X a ta):FW X (.BoolOp .And [a] pos) ta:=λpn xe v=>OA (h pn xe v)
def OO{rest:List Expr}(h:FT X a ta)(h':FW X (.BoolOp .And (b::rest) pos) tb):FW X (.BoolOp .And (a::b::rest) pos) (jQ ta tb):=λpn xe J=>by
 show PW.imp (Nw (h pn xe J) (h' pn xe J)) λZ H Q q=>?_;show GI (k:=λc v Q E=>if c then tb v Q E else Q false v) q λc F G U P PX H1 z L B M=>?_;cases c with
 |true=>show#[F,G,U,P,PX,z,L,B,M]
 |false=>show B false U F H1 L (zn.refl F) z
def Ac:FA X [] zk:=λpn xe L=>PA.imp Nm λZ H Q q=>by let#[F,G,U,P,PX,v,B,z,J]:=q;show z [] U [] F H B (zn.refl F) ↑v v.len trivial
def Aa(ha:FE X e wa)(hb:FA X es wb)(hs:autoParam (starEach (e::es) X.env=(false,eval e X.env)::starEach es X.env) rZ9):FA X (e::es) (zj wa wb):=λpn xe hp=>by
 show PA.imp (Oi (ha pn xe hp) (hb pn xe hp) hs) λZ H Q q=>?_;let#[F,G,U,P,PX,Y,hw,h5,hx]:=q;show#[F,G,U,_,PX,Y,hw,λx U1 v F1 H1 h4 s1 r1 M=>?_,hx];let h1:=Ae r1;let#[G1,B,gg,back]:=r1.hide h1;show#[F1,G1,U1,_,PX,B,h4,λO U2 J F2 H2 h3 s2 r2 h2 L=>?_,hx.mono (λ_ z=>z) s1 gg];let r3:=back s2 r2;rw[qp,qp]at r3;let hl:(O.map zo).length=(J.map some).length:=by let:=r2.len;grind
 show h5 (x::O) U2 (v::J) F2 H2 h3 (s1.trans s2) (Rel.swap (U1:=O.map zo) (Z1:=J.map some) (U2:=[zo x]) (Z2:=[some v]) h2 hl r3) h2 #[M,L]
section
variable{K:W.Frag}
def lV.len:∀{vs:List V}{rs:List R},lV Z vs rs->vs.length=rs.length
 |[],[],_=>rfl
 |[],_::_,h=>h.elim
 |_::_,[],h=>h.elim
 |_::vs,_::rs,h=>by simp[lV.len h.2]
def Hu:∀{rs:List R}{vs:List V}{U U' U1:Env}{ss:List S}{F:Hp}{Z':St},Rel K (U++(rs.map zo++U')) (Z++(vs.map some++Z')) F G H->U.length=Z.length->lV Z vs rs->aJ rs U=some (ss,U1)->
  ∃F',zn F F'/\U1.length=U.length/\ss.length=rs.length/\Rel K (U1++(ss.map some++U')) (Z++(vs.map some++Z')) F' G H
 |[],[],U,U',U1,ss,F,Z',r,h,_,e=>by let z:some (([]:List S),U)=some (ss,U1):=e;cases z;show#[F,zn.refl F,rfl,rfl,r]
 |[],_::_,_,_,_,_,_,_,_,_,h,_=>h.elim
 |_::_,[],_,_,_,_,_,_,_,_,h,_=>h.elim
 |x::rs,v::vs,U,U',U1,ss,F,Z',r,h,rv,e=>by
  let z:(match give x U with|some (s,U1)=>(match aJ rs U1 with|some (ss,U2)=>some (s::ss,U2)|none=>none)|none=>none)=some (ss,U1):=e;cases q:give x U with
  |none=>rw[q]at z;cases z
  |some p=>
   let#[s,U2]:=p;rw[q]at z;cases B:aJ rs U2 with
   |none=>simp only[B]at z;cases z
   |some p2=>
    let#[L,h1]:=p2;simp only[B]at z;cases z;let#[F1,s1,l1,Y]:=AF (U':=rs.map zo++U') (Z':=vs.map some++Z') r h rv.1 q;let h2:U2.length=Z.length:=l1.trans h;let hl:(rs.map zo++U').length=(vs.map some++Z').length:=by let:=Y.len;rw[qq,qq,qt,qt]at this;lia
    let J:U'.length=Z'.length:=by let:=rv.2.len;simp at hl;lia
    let O:=Rel.swap (U1:=[some s]) (Z1:=[some v]) (U2:=rs.map zo++U') (Z2:=vs.map some++Z') h2 rfl Y;rw[qp,qp]at O;let#[F2,s2,l2,l3,M]:=Hu (rs:=rs) (vs:=vs) O h2 rv.2 B;let h3:U1.length=Z.length:=l2.trans h2;rw[<-qp (L.map some),<-qp (vs.map some)]at M;let r4:=Rel.swap (U1:=L.map some++U') (Z1:=vs.map some++Z') (U2:=[some s]) (Z2:=[some v]) h3 (by simp[l3,rv.2.len,J]) M;show#[F2,s1.trans s2,l2.trans l1,by simp[l3],r4]
def BR:∀{vs:List V}{ss:List S}{fp:List Addr},zp K F H (ss.map some) (vs.map some) fp->zr K F H vs ss fp
 |[],[],_,.nil=>.nil
 |[],_::_,_,h=>nomatch h
 |_::_,[],_,h=>nomatch h
 |v::vs,s::ss,_,.so a b=>.cons a (BR b)
def Rel.newL(r:Rel K (U++ss.map some) (Z++vs.map some) F G H)(h:U.length=Z.length)(B:H p=none):
  Rel K (U++[some (.lst ss)]) (Z++[some (.ref p)]) F G (upd H p (.lst vs)):=by
 let#[f0,Y,O]:=r.free B;let#[fp,e,nd,ap]:=r.en;let J:∀a∈fp,a≠p:=λa v z=>O fp e (z▸v);let#[f1,f2,rfl,M,L]:=(e.mono (H':=upd H p (.lst vs)) (zn.refl F) λa v=>Ak (J a v)).cut h;show#[zn.updR r.fr f0,λa u q=>?_,f1++((p::f2)++[]),M.app (.so (.lst Bx (BR L)) .nil),?_,λa v=>?_]
 .let B:a≠p:=λz=>by rw[z,Y]at q;cases q
  rw[Ak B];show r.gr a u q
 .grind
 grind
def Rel.giveD{ss:List S}(r:Rel K (U++ss.map some) (Z++vs.map some) F G H)(h:U.length=Z.length):∃F',zn F F'/\zA K F' vs (ss.map S.toD)/\Rel K U Z F' G H:=by
 classical
 let#[fp,e,M,ap]:=r.en;let#[Y,L,rfl,a,b]:=e.cut h;let#[O,n2,n3]:=qw.mp M;let v:zn F (λx=>if x∈L then H x else F x):=λx o w=>by grind
 let B:=(BR b).frz v λx J=>by simp[J,if_true]
 rw[S.toDs_map]at B;show#[_,v,B,λx o w=>?_,λx o w=>?_,Y,a.mono v λ_ _=>rfl,O,λx J=>?_]
 .by_cases z:x∈L
  .simp only[z]at w;show w
  .simp only[z]at w;show r.fr x o w
 .let w2:=r.gr x o w;grind
 grind
end
inductive vF(X:Cx)(Z:St)(k:List R->Env->WQ->WX->Prop)(Q:VK)(vs:List V)(H:Hp):Prop
 |mk (F G:Hp) (U:Env) (rs:List R) (P:WQ) (PX:WX) (zE:Rel X.K (U++rs.map zo) (Z++vs.map some) F G H) (hl:U.length=Z.length) (rv:lV Z vs rs) (hk:k rs U P PX) (hok:∀r U' v F' H',P r U'->zn F F'->Rel X.K (U'++[zo r]) (Z++[some v]) F' G H'->RV Z v r->Q v H') (hx:XC X (·=Z) F G PX):vF X Z k Q vs H
theorem many(h:tW X (λU Q E=>wa U (λrs U1=>k rs U1 Q E) E) Z H Q):pJ X wa Z H λvs H1=>vF X Z k Q vs H1:=by let#[F,G,U,P,PX,J,hw,M,Y]:=h;show#[F,G,U,_,PX,J,hw,λrs U1 vs F1 H1 L O r1 h1 B=>#[F1,G,U1,rs,P,PX,r1,h1,B,L,λr z v F' H' a b c d=>M r z v F' H' a (O.trans b) c d,Y.grow O],Y]
def Eo(h:FA X es wa):FE X (.List es pos) (eK wa):=λpn xe L=>by
 show PE.imp (NZ (h pn xe L)) λZ H Q q=>?_;show(many (k:=λz v Q E=>zm (if z.length<=big then aJ z v else none) λp=>Q (.v (.lst p.1)) p.2) q).mono λvs H1 h1=>?_;let#[F,G,U,z,P,PX,B,hl,Y,O,M,hx]:=h1;let#[#[ss,v],ep,O]:=Av O;by_cases J:z.length<=big
 .rw[qY J]at ep;let#[F1,s1,l1,l2,r1]:=Hu (U':=[]) (Z':=[]) ↑B hl Y ep;show#[by rw[Y.len];show le_trans J ⋯,λp L=>M _ v (.ref p) F1 _ O s1 (Rel.newL ↑r1 (l1.trans hl) L) trivial]
 .rw[qZ J]at ep;cases ep
def Dk(h:FA X es wa):FE X (.Tuple es k pos) (cW wa):=λpn xe B=>by
 show PE.imp (ON (h pn xe B)) λZ H Q q=>?_;show(many (k:=λz v Q E=>zm (if z.length<=big then aJ z v else none) λp=>Q (.v (.sh (.tup (p.1.map S.toD)))) p.2) q).mono λvs H1 h1=>?_;let#[F,G,U,z,P,PX,J,hl,Y,O,M,hx]:=h1;let#[#[ss,v],ep,O]:=Av O;by_cases L:z.length<=big
 .rw[qY L]at ep;let#[F1,s1,l1,l2,r1]:=Hu (U':=[]) (Z':=[]) ↑J hl Y ep;let#[F2,s2,rp,r2]:=Rel.giveD (U:=v) ↑r1 (l1.trans hl);show#[by rw[Y.len];show le_trans L ⋯,λp B=>?_];let n2:=(r2.free B).1;show M _ v (.ref p) _ _ O (s1.trans (s2.trans (zn.upd n2))) ((r2.newF B).push (.tup Bx (rp.mono (zn.upd n2)))) trivial
 .rw[qZ L]at ep;cases ep
def KP.refl:KP ks Z Z:=λ_ _=>rfl
def KP.trans(a:KP ks Z Z1)(b:KP ks Z1 Z2):KP ks Z Z2:=λi h=>(b i h).trans (a i h)
inductive vS(X:Cx)(ks:List Nat)(w:WS)(D:L2.Ends)(Z:St)(H:Hp):Prop
 |mk (F G:Hp) (U:Env) (E:Ends) (zE:Rel X.K U Z F G H) (hw:w E U) (n:∀U' Z' F' H',E.nx U'->KP ks Z Z'->zn F F'->Rel X.K U' Z' F' G H'->D.nx Z' H') (b:∀U' Z' F' H',E.bk U'->KP ks Z Z'->zn F F'->Rel X.K U' Z' F' G H'->D.bk Z' H') (c:∀U' Z' F' H',E.ct U'->KP ks Z Z'->zn F F'->Rel X.K U' Z' F' G H'->D.ct Z' H') (r:∀r U' Z' v F' H',E.rt r U'->KP ks Z Z'->zn F F'->Rel X.K (U'++[zo r]) (Z'++[some v]) F' G H'->RV Z' v r->D.rt v H') (hx:XC X (KP ks Z) F G E.ex):vS X ks w D Z H
@[inline]def FS(X:Cx)(ks:List Nat)(st:Stmt)(w:WS):Prop:=∀(pn:List (Addr×Obj))(xe:zh),PassesOwn (model X.prog X.w) X.A X.env xe->PS (wp X pn xe) st (vS (wp X pn xe) ks w)
def lW(X:Cx)(ks:List Nat)(st:List Stmt)(w:WS):Prop:=∀(pn:List (Addr×Obj))(xe:zh),PassesOwn (model X.prog X.w) X.A X.env xe->gV (wp X pn xe) st (vS (wp X pn xe) ks w)
def PS.imp(h:PS X e t)(k:∀D Z H,t' D Z H->t D Z H):PS X e t':=λzC s Z H D I q=>h zC s Z H D I (k D Z H q)
def gV.imp(h:gV X e t)(k:∀D Z H,t' D Z H->t D Z H):gV X e t':=λzC s Z H D I q=>h zC s Z H D I (k D Z H q)
inductive sO(X:Cx)(ks:List Nat)(g:WG)(v:V)(Z:St)(H:Hp)(Q:St->Hp->Prop):Prop
 |mk (F G:Hp) (U:Env) (s:S) (P:Env->Prop) (zE:Rel X.K (U++[some s]) (Z++[some v]) F G H) (hw:g s U P) (n:∀U' Z' F' H',P U'->KP ks Z Z'->zn F F'->Rel X.K U' Z' F' G H'->Q Z' H'):sO X ks g v Z H Q
@[inline]def FG(X:Cx)(ks:List Nat)(tg:Expr)(g:WG):Prop:=∀(pn:List (Addr×Obj))(xe:zh),PassesOwn (model X.prog X.w) X.A X.env xe->PG (wp X pn xe) tg (sO (wp X pn xe) ks g)
def PG.imp(h:PG X e t)(k:∀v Z H Q,t' v Z H Q->t v Z H Q):PG X e t':=λzC s Z H v u Q I r q=>h zC s Z H v u Q I r (k v Z H Q q)
section
variable{st:Stmt}{rest:List Stmt}
def Ga:lW X ks [] dR:=λpn xe B=>gV.imp PK λD Z H q=>by let#[F,G,U,E,v,z,n,b,c,r,x]:=q;show n U Z F H z KP.refl (zn.refl F) v
def Al(h1:FS X ks st w1)(h2:lW X ks rest w2):lW X ks (st::rest) (zv w1 w2):=λpn xe O=>gV.imp (QP (h1 pn xe O) (h2 pn xe O)) λD Z H q=>by
 obtain⟨F,G,U,E,h3,hw,n,b,c,r,x⟩:=q;show#[F,G,U,{E with nx:=w2 E},h3,hw,λY h5 F1 H1 O k M r1=>?_,b,c,r,x];exact⟨F1,G,Y,E,r1,O,λB z L H' h J s r=>n B z L H' h (k.trans J) (M.trans s) r,λB z L H' h J s r=>b B z L H' h (k.trans J) (M.trans s) r,
  λB z L H' h J s r=>c B z L H' h (k.trans J) (M.trans s) r,λa B z v L H' h J s q rv=>r a B z v L H' h (k.trans J) (M.trans s) q rv,x.mono (λh4 J=>k.trans J) M (zn.refl G)⟩
def AD(h1:FS X ks st v):lW X ks [st] v:=λpn xe z=>Ph (h1 pn xe z)
def Ew(h:FE X e Y)(hs:autoParam (swapsWith e none pos.line X.env=pure false) rZ9):FS X ks (.Expr e pos) (wExpr Y):=λpn xe L=>PS.imp (Pe (h pn xe L) hs) λD Z H q=>by let#[F,G,U,E,J,hw,n,b,c,r,x]:=q;show#[F,G,U,_,_,J,hw,λa B v F1 H1 L s1 M rv=>n B Z F1 H1 L KP.refl s1 (M.drop (Ae M)),x.mono (λO z=>by rw[z];show KP.refl) (zn.refl F) (zn.refl G)]
def BU(h:FE X e O):FS X ks (.Return (some e) pos) (cC O):=λpn xe L=>PS.imp (Ob (h pn xe L)) λD Z H q=>by let#[F,G,U,E,J,hw,n,b,c,r,x]:=q;show#[F,G,U,_,_,J,hw,λa B v F1 H1 L Y r1 rv=>r a B Z v F1 H1 L KP.refl Y r1 rv,x.mono (λM z=>by rw[z];show KP.refl) (zn.refl F) (zn.refl G)]
def Fg(hc:FT X c tc)(ha:lW X ks a w1)(hb:lW X ks b w2):FS X ks (.If c a b pos) (lT tc w1 w2):=λpn xe O=>PS.imp (MQ (hc pn xe O) (ha pn xe O) (hb pn xe O)) λD Z H q=>by
 obtain⟨F,G,U,E,h1,hw,n,b,c,r,x⟩:=q;show#[F,G,U,_,_,h1,hw,λk Y F1 H1 O s1 r1=>?_,x.mono (λh2 z=>by rw[z];show KP.refl) (zn.refl F) (zn.refl G)];let go:∀w:WS,w E Y->vS (wp X pn xe) ks w D Z H1:=λw hw=>⟨F1,G,Y,E,r1,hw,λJ B M H' h L s r=>n J B M H' h L (s1.trans s) r,λJ B M H' h L s r=>b J B M H' h L (s1.trans s) r,
  λJ B M H' h L s r=>c J B M H' h L (s1.trans s) r,λa J B v M H' h L s q rv=>r a J B v M H' h L (s1.trans s) q rv,x.grow s1⟩
 cases k with
 |true=>show go _ O
 |false=>show go _ O
def Az(he:FE X e we)(hg:FG X ks tg g)(hs:autoParam (swapsWithSole [tg] e pos.line X.env=pure false) rZ9)(M:autoParam (swappedStores [tg] e X.env=pure none) rZ9)
  (h1:autoParam ((assignEach [tg] X.env).map (·.2)=[assign tg X.env]) rZ9):FS X ks (.Assign [tg] e pos) (zx g we):=λpn xe B=>PS.imp (JR (he pn xe B) (hg pn xe B) hs M h1) λD Z H q=>by
 let#[F,G,U,E,L,M,n,b,c,r,x]:=q;show#[F,G,U,_,_,L,M,λa h2 v F1 H1 B s1 O rv=>?_,x.mono (λY z=>by rw[z];show KP.refl) (zn.refl F) (zn.refl G)];let#[#[s,J],eg,hk]:=Av B;let#[F2,s2,l2,r2]:=AF (U':=[]) (Z':=[]) O (Ae O) rv eg;show#[F2,G,J,s,_,r2,hk,λU' Z' F' H' h k' s r=>n U' Z' F' H' h k' (s1.trans (s2.trans s)) r]
end
def Mb(I:Inv X zC Z H s)(hN:∀j,X.N[j]?=some x->j=i)(hi:X.N[i]?=some x)(L:Loc X.env.scope x)(r:zt v u)
  (h:∀s',Inv X zC (Z.set i (some v)) H s'->(∃a,Heap.SameBut a s.heap s'.heap/\(a=X.env.locals\/X.env.cells.lookup x=some a))->Q () s')(hf:X.fn x=true\/X.env.scope.names.lookup x=some .local):wpAny M A (storeName X.env x u) Q E s:=by
 let#[m,hn,hl]:=id I.loc;let h5:(X.env.scope.kind==.class||(X.env.scope.kind==.module&&X.env.locals !=X.env.globals))=false:=by rw[I.ok.kind];rfl
 let h1:i<Z.length:=by rw[I.len];show(qg.mp hi).1
 have cne:=I.cne;let F:∀{a:Addr}{h':Heap},(∃o,s.heap.get? a=some o/\H a=none)->Heap.SameBut a s.heap h'->dP X.prog X.w H h':=λ{a h'} ha B b ob e=>by
  let#[_,_,O]:=ha;show(I.hok b ob e).stay (λc w' J q=>(B.2 c ?_).trans q) (λ_ q=>q) λ_ _ q=>q;rintro rfl;rcases J with rfl|J
  .rw[O]at e;cases e
  .rw[O]at J;cases J
 rcases L with hk|hk
 .refine wpAny_storeName_local hk hn (λh' h9 B=>?_) h5;let#[oL,_,_,h8,_]:=id hn;refine h _ #[I.ok,I.os,I.bare,#[λb o e n hb L=>?_,λb o e n hb L=>?_,I.base.free,λb o e L=>?_,I.base.tups,I.base.frzs,I.base.tbls],#[_,h9,λj y v' G Y e3=>?_],λy c e=>?_,I.free,I.freeC,λp hp=>?_,F #[oL,h8,I.free] B,↑I.len] #[_,B,.inl rfl]
  .show(B.2 b (ne_of_lt (lt_of_lt_of_le (qe e) I.ok.above))).trans (I.base.keep b o e n hb L)
  .obtain⟨sl,G⟩:=I.base.slot b o e n hb L;show#[sl,(B.2 b (ne_of_lt (lt_of_lt_of_le (qe e) I.ok.above))).trans G]
  .obtain⟨o',G⟩:=I.base.there b o e L;show#[o',(B.2 b (ne_of_lt (lt_of_lt_of_le (qe e) I.ok.above))).trans G]
  .by_cases hj:j=i
   .subst hj;rw[hi]at G;cases G;rw[getElem?_set_self h1]at Y;cases Y;show#[u,r,.inl #[hk,by simp]]
   .rw[getElem?_set_ne (Ne.symm hj)]at Y;let#[u',r',q]:=hl j y v' G Y e3;show#[u',r',?_];rcases q with⟨k,e⟩|⟨k,c,e,z⟩
    .show .inl #[k,?_];let:y≠x:=λe=>hj (hN j (e▸G));simp[this,e]
    .show .inr #[k,c,e,z.sameBut B (cne y c e)]
  .obtain⟨w',z⟩:=I.cell y c e;show#[w',z.sameBut B (cne y c e)]
  .obtain⟨e,n,ne,nf,d⟩:=I.pin p hp;show#[(B.2 p.1 ne).trans e,n,ne,nf,d]
 .have h2:X.fn x=true:=by
   rcases hf with z|z
   .show z
   .rw[z]at hk;cases hk
  let#[c,J]:=I.ok.has x (.inl hk);let#[w',z]:=I.cell x c J;show wpAny_storeName_cell I.ok.kind hk J z (λh' h7 B=>?_);let#[oc,h4,h3]:=id z;show h {s with heap:=h'} ⟨I.ok,I.os,I.bare,⟨λb o e n hb L=>?_,λb o e n hb L=>?_,I.base.free,λb o e L=>?_,I.base.tups,I.base.frzs,I.base.tbls⟩,⟨m,hn.sameBut B (Ne.symm (cne x c J)),λj y v' G Y e3=>?_⟩,λy c' e=>?_,I.free,I.freeC,λp hp=>?_,F ⟨oc,h4,I.freeC x c J⟩ B,↑I.len⟩ #[c,B,.inr J]
  .show(B.2 b (ne_of_lt (lt_of_lt_of_le (qe e) (I.ok.cab x c h2 J)))).trans (I.base.keep b o e n hb L)
  .obtain⟨sl,G⟩:=I.base.slot b o e n hb L;show#[sl,(B.2 b (ne_of_lt (lt_of_lt_of_le (qe e) (I.ok.cab x c h2 J)))).trans G]
  .obtain⟨o',G⟩:=I.base.there b o e L;show#[o',(B.2 b (ne_of_lt (lt_of_lt_of_le (qe e) (I.ok.cab x c h2 J)))).trans G]
  .by_cases hj:j=i
   .subst hj;rw[hi]at G;cases G;rw[getElem?_set_self h1]at Y;cases Y;show#[u,r,.inr #[.inl hk,c,J,h7]]
   .rw[getElem?_set_ne (Ne.symm hj)]at Y;let#[u',r',q]:=hl j y v' G Y e3;show#[u',r',?_];rcases q with q|⟨k,c',e,z'⟩
    .show .inl q
    .show .inr #[k,c',e,z'.sameBut B ?_];rintro rfl;show hj (hN j (I.ok.inj _ _ _ e J▸G))
  .by_cases h6:c'=c
   .subst h6;show#[_,h7]
   .obtain⟨w2,z2⟩:=I.cell y c' e;show#[w2,z2.sameBut B h6]
  .obtain⟨e,n,ne,nf,d⟩:=I.pin p hp;show#[(B.2 p.1 ?_).trans e,n,ne,nf,d];intro q;rw[q,h4]at e;let q':oc=p.2:=qf e;show d w' (by rw[<-q'];show h3)
def KP.set(h:i∉ks):KP ks Z (Z.set i u):=λj v=>getElem?_set_ne (λ(z:i=j)=>h (z▸v))
def La(Y:i∉ks)(hN:∀j,X.N[j]?=some x->j=i)(hi:X.N[i]?=some x)(M:Loc X.env.scope x)(hf:X.fn x=true\/X.env.scope.names.lookup x=some .local):FG X ks (.Name x pos) (zl i):=by
 intro pn xe hp zC s Z H v u Q I L q;let#[F,G,U,t,P,z,O,n]:=q;let J:=Ae z;let B:i<U.length:=by rw[J,I.len];show(qg.mp hi).1
 show wpAny_assign_Name (Mb (X:=wp X pn xe) I hN hi M L (λs' I' _=>#[_,H,I',n _ _ F H O (KP.set Y) (zn.refl F) (z.store J B)]) hf)
inductive sW(X:Cx)(ks:List Nat)(gs:List WG)(vs:List V)(Z:St)(H:Hp)(Q:St->Hp->Prop):Prop
 |mk (F G:Hp) (U:Env) (ds:List D) (P:Env->Prop) (zE:Rel X.K U Z F G H) (rp:zA X.K F vs ds) (hw:dB gs ds U P) (n:∀U' Z' F' H',P U'->KP ks Z Z'->zn F F'->Rel X.K U' Z' F' G H'->Q Z' H'):sW X ks gs vs Z H Q
def wH(X:Cx)(ks:List Nat)(tg:List Expr)(g:List WG):Prop:=∀(pn:List (Addr×Obj))(xe:zh),PassesOwn (model X.prog X.w) X.A X.env xe->vB (wp X pn xe) tg (sW (wp X pn xe) ks g)
def Et:wH X ks [] []:=λpn xe M zC s Z H B J Q I r q=>by
 let#[F,G,U,O,P,v,L,z,n]:=q;show Pc zC s Z H B J Q I r ?_;cases L with
 |nil=>show#[rfl,n U Z F H z KP.refl (zn.refl F) v]
 |cons a b=>show z.elim
def Bw(h1:FG X ks e g)(h2:wH X ks es gs)
  (hs:autoParam ((assignEach (e::es) X.env).map (·.2)=assign e X.env::(assignEach es X.env).map (·.2)) rZ9):wH X ks (e::es) (g::gs):=λpn xe v zC s Z H vs us Q I r q=>by
 let#[F,G,U,ds,P,L,rp,O,n]:=q;show Qg (X:=wp X pn xe) (h1 pn xe v) (h2 pn xe v) hs zC s Z H vs us Q I r ?_;cases rp with
 |nil=>show O.elim
 |cons a b=>show#[_,_,rfl,F,G,U,_,_,L.push a,O,λB Y F1 H1 v k M r1=>#[F1,G,B,_,P,r1,b.mono M,v,λJ z F' H' h k' s r=>n J z F' H' h (k.trans k') (M.trans s) r]]
def zA.len{K:W.Frag}(r:zA K F xs v):xs.length=v.length:=zA.ind (P:=λxs v=>xs.length=v.length) rfl (λ_ _ z=>congrArg (·+1) z) r
def El(hc:X.calm=true)(h:wH X ks es J)(hn:autoParam ((assignEach es X.env).length=J.length) rZ9)(O:autoParam ((assignEach es X.env).findIdx? (·.1)=none) rZ9):FG X ks (.Tuple es k pos) (cH J):=λpn xe hp=>by
 show PG.imp (NV (X:=wp X pn xe) hc (h pn xe hp) hn O) λv Z H Q q=>?_;let#[F,G,U,s,P,B,hw,n]:=q;let#[F1,s1,rp,Y]:=Rel.giveD (U:=U) (vs:=[v]) (ss:=[s]) B (Ae B);cases rp with
 |cons a b=>
  let z:(match s.toD with|.tup ds=>ds.length=J.length/\dB J ds U P|_=>False):=hw;generalize s.toD=d at a z;cases a with
  |tup e r=>show#[_,_,rfl,bJ.of (Y.fr _ _ e),by rw[r.len];show z.1,F1,G,U,_,P,Y,r,z.2,λM L F' H' h k' s r=>n M L F' H' h k' (s1.trans s) r]
  |_=>show z.elim
def iH(K:W.Frag)(J:It)(l:List D)(v:Hp):Prop:=∀(i:Nat)(U:Env)(Z:St)(F G H:Hp),zn v F->Rel K U Z F G H->
 (∀d,l[i]?=some d->J.go i H/\∀x H',J.yld i H x H'->∃F',zn F F'/\Rel K U Z F' G H'/\aN K F' x d)/\(l.length<=i->J.stop i H)
inductive aa(X:Cx)(wi:WI)(Z:St)(H:Hp)(R:It->Hp->Prop):Prop
 |mk (F G:Hp) (U:Env) (P:List D->Env->Prop) (PX:WX) (zE:Rel X.K U Z F G H) (hw:wi U P PX) (hok:∀l U' F' H' J,P l U'->zn F F'->Rel X.K U' Z F' G H'->iH X.K J l F'->R J H') (hx:XC X (·=Z) F G PX):aa X wi Z H R
@[inline]def FI(X:Cx)(tg iter:Expr)(v:WI):Prop:=∀(pn:List (Addr×Obj))(xe:zh),PassesOwn (model X.prog X.w) X.A X.env xe->PI (wp X pn xe) tg iter (aa (wp X pn xe) v)
def PI.imp(h:PI X tg e t)(k:∀Z H R,t' Z H R->t Z H R):PI X tg e t':=λzC s Z H R I q=>h zC s Z H R I (k Z H R q)
def zA.get{K:W.Frag}{i:Nat}(r:zA K F xs v)(h:v[i]?=some d):∃x,xs[i]?=some x/\aN K F x d:=
 zA.ind (P:=λxs v=>∀i d,v[i]?=some d->∃x,xs[i]?=some x/\aN K F x d) (λ_ _ e=>by cases e) (λa _ z i d e=>by
  cases i with
  |zero=>cases e;show#[_,rfl,a]
  |succ i=>show z i d e) r i d h
section
variable{K:W.Frag}
def Rg(e:bK K F0 a xs)(r:zA K F0 xs l):iH K (zU K a) l F0:=λi U Z F G H J v=>by let B:bK K H a xs:=bK.mono (J.trans v.fr) e;show#[λd O=>?_,λh=>#[xs,B,by rw[r.len];show h]];let#[x,L,M]:=r.get O;show#[#[xs,x,B,L],λy H' z=>?_];let#[rfl,z]:=z;let:x=y:=qf (L.symm.trans (z xs B));subst this;show#[F,zn.refl F,v,M.mono J]
def Qq(e:bJ K F0 a xs)(r:zA K F0 xs l):iH K (zS K a) l F0:=λi U Z F G H J v=>by let B:bJ K H a xs:=bJ.mono (J.trans v.fr) e;show#[λd O=>?_,λh=>#[xs,B,by rw[r.len];show h]];let#[x,L,M]:=r.get O;show#[#[xs,x,B,L],λy H' z=>?_];let#[rfl,z]:=z;let:x=y:=qf (L.symm.trans (z xs B));subst this;show#[F,zn.refl F,v,M.mono J]
def RT{lo:Int}(h:(fromTo lo n)[i]?=some d):i<n/\d=.int (lo+i):=by
 unfold fromTo at h;rw[qE]at h;by_cases hi:i<n
 .rw[List.getElem?_range hi]at h;show#[hi,(qf h).symm]
 .rw[qO ↑hi]at h;cases h
def SN{lo:Int}:iH K (wG lo n) (fromTo lo n) F0:=λi U Z F G H J v=>by
 show#[λd B=>?_,λh=>?_]
 .obtain⟨hi,rfl⟩:=RT B;show#[hi,λx H' z=>?_];let#[rfl,rfl]:=z;show#[F,zn.refl F,v,.int _]
 .let:n<=i:=by simpa[fromTo] using h
  show this
end
def zT(x:Str):It:=#[λi _=>i<x.cps.size,λi H v H'=>H'=H/\∃c,x.cps[i]?=some c/\v=.str #[[c].toArray],λi _=>x.cps.size<=i]
def RH{P:Program}{w:World}{K:W.Frag}{tg:Expr}(it:Addr)(x:Str)(t:Tok)(ty:String)(hty:ty="str_ascii_iterator"\/ty="str_iterator"):iE P w K tg (zT x) [it] it (λi h=>h.IsStrIter it ty x t i) where
 mem:=m1
 obj:=λi h st b hb=>by
  let e:b=it:=↑hb
  subst e;let#[o,e,c,d]:=st;show#[o,e,λv z=>by rw[d]at z;cases z]
 keep:=λi h h' st k=>by let#[o,e,r]:=st;show#[o,k it (m1) o e,r]
 item:=by
  intro X hP hw hK hc i zC s Z H E I hf st hg;subst hP hw hK;let#[f0,f1,f2,f3,f4,f5]:=hf it (m1);let W:Walks X.prog X.w X.A it [it] [it] x.cps.size (SignAt x) (λi h=>h.IsStrIter it ty x t i):=by
   rcases hty with rfl|rfl
   .show Walks.strAscii (I.ok.hd hc) it x t
   .show Walks.strWide (I.ok.hd hc) it x t
  show W.item i s _ _ hg st λv h' tk hv st' kk=>?_;let#[c,u,e1,rfl]:=hv;let I1:Inv X zC Z H {s with heap:=h',toks:=tk}:=I.turned (λb o hb e=>kk b o ↑hb e) f0 f1 f3 f4 f5;let#[o,e,cl,d]:=id st';show#[_,rfl,Hc (s:={s with heap:=h',toks:=tk}) e cl d (by rcases hty with rfl|rfl<;>decide) ⟨.str ⟨[c].toArray⟩,H,I1,⟨u,rfl⟩,⟨rfl,c,e1,rfl⟩,st',λb hb=>(hf b hb).1⟩]
 done:=by
  intro X hP hw hK hc i zC s Z H E I hf st hg;let#[f0,f1,f2,f3,f4,f5]:=hf it (m1);let hn:x.cps[i]?=none:=by let:x.cps.size<=i:=hg;simp[this]
  rcases hty with rfl|rfl
  .show wpAny_pyNext_ascii_end (I.ok.hd hc) st hn λh' eb=>#[rfl,I.turned (t':=s.toks) (λb o hb e=>eb b o hb e) f0 f1 f3 f4 f5]
  .show wpAny_pyNext_wide_end (I.ok.hd hc) st hn λh' eb=>#[rfl,I.turned (t':=s.toks) (λb o hb e=>eb b o hb e) f0 f1 f3 f4 f5]
 self:=λA i s Q E st h=>by
  rcases hty with rfl|rfl
  .show wpAny_pyIter_striter_ascii st h
  .show wpAny_pyIter_striter_wide st h
def yX(K:W.Frag)(z:TE):TI:=λZ H R=>z Z H λv H1=>(∃a,v=.ref a/\(∃xs,bK K H1 a xs)/\R (zU K a) H1)\/(∃a,v=.ref a/\(∃xs,bJ K H1 a xs)/\R (zS K a) H1)\/∃x,v=.str x/\R (zT x) H1
def OP(hl:PE X l tl):PI X tg l (yX X.K tl):=by
 intro zC s Z H R I h;show Aq (hl zC s Z H _ I h) λv z zq=>?_;let#[y,H1,B,L,q1]:=zq;rcases q1 with⟨a,e,⟨xs,O⟩,q⟩|⟨a,e,⟨xs,O⟩,q⟩|⟨x,e,q⟩
 .subst e;cases L;let#[F,rv,p,hz]:=B.list O;show wpAny_pyIter_list p.isList ?_;show#[z.heap.objs.size,[z.heap.objs.size],_,_,H1,rfl,B.kept (t':=z.toks) λb o e=>qc _ e,RL a _,#[_,qd _ rfl,rfl,rfl],λb G=>?_,q];let e:b=z.heap.objs.size:=by simpa using G
  subst e;show B.fpOk (q5 _) (B.hok.fresh (q5 _))
 .subst e;cases L;let#[F,rv,p,hz]:=B.tuple O;show wpAny_pyIter_tuple (show z.heap.IsTuple a F.toArray from p) ?_;show#[z.heap.objs.size,[z.heap.objs.size],_,_,H1,rfl,B.kept (t':=z.toks) λb o e=>qc _ e,SA a _,#[_,qd _ rfl,rfl,rfl],λb G=>?_,q];let e:b=z.heap.objs.size:=by simpa using G
  subst e;show B.fpOk (q5 _) (B.hok.fresh (q5 _))
 .subst e;let#[t,rfl]:=L;let J:∀(ty:String)(o:Obj),(ty="str_ascii_iterator"\/ty="str_iterator")->o.cls=.type ty->o.data=.fields [.str x t,.int 0 0].toArray->o.isFreed=false->wF X zC Z tg R (.ref z.heap.objs.size) {z with heap:=z.heap.push o}:=λty o M hc hd hf=>by
   show#[z.heap.objs.size,[z.heap.objs.size],_,_,H1,rfl,B.kept (t':=z.toks) λb o e=>qc _ e,RH _ x t ty M,#[_,qd _ hf,hc,hd],λb G=>?_,q];let e:b=z.heap.objs.size:=↑G
   subst e;show B.fpOk (q5 _) (B.hok.fresh (q5 _))
  cases Y:x.cps.all (·<128)
  .show wpAny_pyIter_wide Y (J "str_iterator" _ (.inr rfl) rfl rfl rfl)
  .show wpAny_pyIter_ascii Y (J "str_ascii_iterator" _ (.inl rfl) rfl rfl rfl)
section
variable{K:W.Frag}
def QX(e:x.cps.toList=l):iH K (zT x) (l.map λc=>.str [c]) F0:=λi U Z F G H sm z=>by
 let J:x.cps.size=l.length:=by rw[<-e];simp
 show#[λd v=>?_,λh=>by show x.cps.size<=i;rw[J];simpa using h];rw[qE]at v;cases q:l[i]? with
 |none=>rw[q]at v;cases v
 |some c=>
  rw[q]at v;let B:D.str [c]=d:=qf v;let hi:i<l.length:=(qg.mp q).1;let O:x.cps[i]?=some c:=by rw[<-qX,e];show q
  show#[by show i<x.cps.size;rw[J];show hi,λy H' M=>?_];let#[rfl,Y,L,rfl]:=M;rw[O]at L;let:c=Y:=qf L;subst this;rw[<-B];show#[F,zn.refl F,z,.str rfl (by show 1<=_;decide)]
def BM(h:FE X e we):FI X tg e (bD we):=λpn xe hp=>by
 show PI.imp (OP (h pn xe hp)) λZ H R q=>?_;let#[F,G,U,P,PX,h1,hw,L,hx]:=q;show#[F,G,U,_,PX,h1,hw,λr h2 v F1 H1 M s1 r1 rv=>?_,hx];let#[#[s,J],eg,M]:=Av M;let#[l,el,M]:=Av M;let#[F2,s2,l2,r2]:=AF (U':=[]) (Z':=[]) r1 (Ae r1) rv eg;let#[F3,s3,rp,O]:=Rel.giveD (U:=J) (vs:=[v]) (ss:=[s]) r2 (Ae r2);let Y:=s1.trans (s2.trans s3);cases rp with
 |cons a b=>
  let B:items s.toD=some l:=el;generalize s.toD=d at a B;cases a with
  |lst e r=>have:l=_:=(qf B).symm;subst this;show .inl #[_,rfl,#[_,bK.mono O.fr e],L _ J F3 H1 _ M Y O (Rg e r)]
  |tup e r=>have:l=_:=(qf B).symm;subst this;show .inr (.inl #[_,rfl,#[_,bJ.of (O.fr _ _ e)],L _ J F3 H1 _ M Y O (Qq (bJ.of e) r)])
  |str e z=>have:l=_:=(qf B).symm;subst this;show .inr (.inr #[_,rfl,L _ J F3 H1 _ M Y O (QX e)])
  |_=>cases B
def ER(hg:Gl X "range")(hm:X.mg "range"=none)(ha:FE X a we)(hs:autoParam (starEach [a] X.env=[(false,eval a X.env)]) rZ9):FI X tg (.Call (.Name "range" p) [a] [] pos) (bL we):=λpn xe hp=>by
 show PI.imp (Sn (X:=wp X pn xe) hg hm (Aa ha Ac hs pn xe hp) hs) λZ H R q=>?_;let#[F,G,U,P,PX,O,hw,Y,hx]:=q;show#[F,G,U,λM B=>match M with|[r]=>(match view r B with|some (.int j)=>(-big<=j/\j<=big)/\P (fromTo 0 j.toNat) B|_=>False)|_=>False,PX,O,hw,λM B vs F1 H1 z s1 L hl J=>?_,hx];match M,vs,J,L,z with
 |[r],[v],J,L,z=>
  dsimp only at z;split at z
  .rename_i j ej;let rp:=AE (U':=[]) (Z':=[]) L hl J.1 ej;cases rp;let#[#[h1,h2],z]:=z;let eb:(big:Int)=1000000:=rfl;show#[j,rfl,∅,∅,Y _ B F1 H1 _ z s1 ((show Rel X.K (B++[zo r]) (Z++[some (.int j)]) F1 G H1 from L).drop hl) SN]
  .show z.elim
 |[],_,_,_,z=>show z.elim
 |[_],[],J,_,_=>show J.elim
 |[_],_::_::_,J,_,_=>show J.2.elim
 |_::_::_,_,_,_,z=>show z.elim
end
def CT(hc:X.calm=true)(hi:FI X tg iter wi)(hg:FG X ks tg g)(hb:lW X ks body wb)(hs:∀x,foldedSetIterable iter X.env x=pure x:=by intro _;rfl):FS X ks (.For tg iter body [] pos) (cX wi g wb):=λpn xe hp=>by
 show PS.imp (OI (X:=wp X pn xe) hp hc (hi pn xe hp) (hg pn xe hp) (hb pn xe hp) hs) λD Z H q=>?_;let#[F,G,U,E,h9,hw,n,b,c,r,x]:=q;show#[F,G,U,_,_,h9,hw,λl h7 F1 H1 J hk s1 r1 it=>?_,x.mono (λL z=>by rw[z];show KP.refl) (zn.refl F) (zn.refl G)];show#[λi m L H2=>m=l.length-i/\i<=l.length/\∃F2 U2,KP ks Z L/\zn F1 F2/\Rel X.K U2 L F2 G H2/\bS g wb (l.drop i) E U2,#[l.length,rfl,zero_le _,F1,h7,KP.refl,zn.refl F1,r1,hk],?_];rintro i m L H2 ⟨rfl,hi,F2,U2,kp,s2,r2,h1⟩;let#[e2,e1]:=it i U2 L F2 G H2 s2 r2;by_cases h2:i<l.length
 .obtain⟨go,h8⟩:=e2 l[i] (by simp);show .inr #[go,λh3 H3=>i+1<=l.length/\∃F3 h5,KP ks Z h3/\zn F1 F3/\Rel X.K h5 h3 F3 G H3/\bS g wb (l.drop (i+1)) E h5,λh3 H3 h=>#[l.length-(i+1),∅,rfl,h],λy H3 hy=>?_];let#[F3,s3,r3,rp]:=h8 y H3 hy;rw[drop_eq_getElem_cons h2]at h1;show#[F3,G,U2,_,_,r3.push rp,h1,λh6 hx F4 H4 e3 k4 s4 r4=>?_];let O:=kp.trans k4;let h4:=s1.trans (s2.trans (s3.trans s4));exact⟨F4,G,h6,_,r4,e3,λB M F' H' h Y s r=>#[h2,F',B,O.trans Y,s2.trans (s3.trans (s4.trans s)),r,h],λB M F' H' h Y s r=>n B M F' H' h (O.trans Y) (h4.trans s) r,
   λB M F' H' h Y s r=>#[h2,F',B,O.trans Y,s2.trans (s3.trans (s4.trans s)),r,h],λa B M v F' H' h Y s q rv=>r a B M v F' H' h (O.trans Y) (h4.trans s) q rv,x.mono (λe4 Y=>O.trans Y) h4 (zn.refl G)⟩
 .let e:i=l.length:=Nat.le_antisymm hi (not_lt.mp h2);subst e;rw[List.drop_length]at h1;show .inl #[e1 (q5 _),n U2 L F2 H2 h1 kp (s1.trans s2) r2]
def RD(hc:FT X c wc)(hb:lW X ks body wb):FS X ks (.While c body [] pos) (fV wc wb):=λpn xe hp=>by
 show PS.imp (Rm (X:=wp X pn xe) hp (hc pn xe hp) (hb pn xe hp)) λD Z H q=>?_;let#[F,G,U,E,h4,#[J,#[m0,j0],step],n,b,c,r,x]:=q;show#[λm O H2=>∃F2 U2,KP ks Z O/\zn F F2/\Rel X.K U2 O F2 G H2/\J m U2,#[m0,F,U,KP.refl,zn.refl F,h4,j0],?_];rintro m O H2 ⟨F2,U2,kp,s2,r2,j2⟩;show#[F2,G,U2,_,_,r2,step m U2 j2,λk h2 F3 H3 hk s3 r3=>?_,x.mono (λh3 z=>by rw[z];show kp) s2 (zn.refl G)];let L:=s2.trans s3;cases k with
 |true=>
  refine#[λh1 H4=>∃m',m'<m/\∃F2 U2,KP ks Z h1/\zn F F2/\Rel X.K U2 h1 F2 G H4/\J m' U2,λh1 H4 h=>h,?_];exact⟨F3,G,h2,_,r3,hk,λB M F' H'⟨m',hm,h⟩ Y s r=>#[m',hm,F',B,kp.trans Y,L.trans s,r,h],λB M F' H' h Y s r=>n B M F' H' h (kp.trans Y) (L.trans s) r,
   λB M F' H'⟨m',hm,h⟩ Y s r=>#[m',hm,F',B,kp.trans Y,L.trans s,r,h],λa B M v F' H' h Y s q rv=>r a B M v F' H' h (kp.trans Y) (L.trans s) q rv,x.mono (λh3 Y=>kp.trans Y) L (zn.refl G)⟩
 |false=>show n h2 O F3 H3 hk kp L r3
inductive eS(K:W.Frag)(f:WF)(n:Nat)(vs:List V)(H:Hp)(Q:VK)(Zq:XK):Prop
 |mk (F G:Hp) (ss:List S) (P:S->List S->Prop) (PX:D->List S->Prop) (hn:vs.length=n) (zE:Rel K (ss.map some) (vs.map some) F G H) (hw:f ss P PX) (hok:∀s ss' v F' H',P s ss'->zn F F'->ss'.length=ss.length->Rel K (ss'.map some++[some s]) (vs.map some++[some v]) F' G H'->Q v H') (hex:∀d ss' F' H' C dx,PX d ss'->zn F F'->ss'.length=ss.length->Rel K (ss'.map some) (vs.map some) F' G H'->uP K F' d C dx->Zq (.ref C) dx H'):eS K f n vs H Q Zq
section
variable{K:W.Frag}
def Rel.comm(h:U.length=Z.length)(r:Rel K (U++U') (Z++Z') F G H):Rel K (U'++U) (Z'++Z) F G H:=by let:=Rel.swap (U:=[]) (Z:=[]) (U1:=U) (Z1:=Z) (U2:=U') (Z2:=Z') rfl h r;simpa using this
def Rel.lend(r:Rel K (U++(none::U')) (Z++(some v::Z')) F G H)(h:U.length=Z.length)(hs:slot U i=some s)(z:Z[i]?=some (some v)):
  Rel K (U.set i none++(some s::U')) (Z++(some v::Z')) F G H:=by
 let#[fp,e,nd,ap]:=r.en;let#[f1,O,rfl,a,b]:=e.cut h;let#[v',M,B,L,Y,rfl,q,up]:=a.at hs;rw[z]at Y;let e2:v=v':=↑Y
 subst e2;let a2:=up (F':=F) (H':=H) (o:=none) (u:=some v) (fi':=[]) (zn.refl F) (λ_ _=>rfl) (.no .nil);let es:Z.set i (some v)=Z:=by
  apply ext_getElem?;intro j;by_cases J:i=j
  .subst J;rw[getElem?_set_self (qg.mp z).1,z]
  .rw[getElem?_set_ne J]
 rw[es]at a2;cases b with
 |no b=>
  let p:((M++([]++L))++(B++O)).Perm ((M++(B++L))++O):=by simp;show List.Perm.append_left _ ?_;rw[<-qp,<-qp B];show List.Perm.append_right _ qM
  show#[r.fr,r.gr,_,a2.app (.so q b),p.nodup_iff.mpr nd,λx hx=>ap x (p.mem_iff.mp hx)]
def Rel.back1(r:Rel K (U++(some s::U')) (Z++(some v::Z')) F G H)(h:U.length=Z.length)(B:Z[i]?=some (some v)):Rel K (U.set i (some s)++U') (Z++Z') F G H:=by
 let hi:i<Z.length:=(qg.mp B).1;let es:Z.set i (some v)=Z:=by apply ext_getElem?;grind
 let J:U'.length=Z'.length:=by let:=r.len;grind
 let z:=Rel.swap (U1:=[some s]) (Z1:=[some v]) (U2:=U') (Z2:=Z') h rfl r;rw[<-qp,<-qp]at z;let L:=Rel.store (i:=i) z (by simp[h,J]) (by simp;lia -verbose);grind
theorem KI:∀{rs:List R}{vs:List V}{ms:List Bool}{U U' U1:Env}{ss:List S}{F:Hp}{Z':St},Rel K (U++(rs.map zo++U')) (Z++(vs.map some++Z')) F G H->U.length=Z.length->lV Z vs rs->bU ms rs U=some (ss,U1)->
  ∃F',zn F F'/\U1.length=U.length/\ss.length=rs.length/\Rel K (U1++(ss.map some++U')) (Z++(vs.map some++Z')) F' G H
 |[],[],ms,U,U',U1,ss,F,Z',r,h,_,e=>by
  let z:some (([]:List S),U)=some (ss,U1):=by cases ms<;>show e
  cases z;show#[F,zn.refl F,rfl,rfl,r]
 |[],_::_,_,_,_,_,_,_,_,_,_,h,_=>h.elim
 |_::_,[],_,_,_,_,_,_,_,_,_,h,_=>h.elim
 |x::rs,v::vs,ms,U,U',U1,ss,F,Z',r,h,rv,e=>by
  --the first one,as it is handed on
  have first:∃s U2 B M,bU ms.tail rs U2=some (B,U1)/\ss=s::B/\zn F M/\U2.length=U.length/\Rel K (U2++(some s::(rs.map zo++U'))) (Z++(some v::(vs.map some++Z'))) M G H:=by
   cases x with
   |v s=>
    let z:(match bU ms.tail rs U with|some (ss,U1)=>some (s::ss,U1)|none=>none)=some (ss,U1):=by cases ms<;>show e
    cases q:bU ms.tail rs U with
    |none=>rw[q]at z;cases z
    |some p=>let#[B,L]:=p;rw[q]at z;cases z;show#[s,U,B,F,q,rfl,zn.refl F,rfl,r]
   |loc i=>
    have z:(match slot U i with
     |some s=>if ms.headD false then(match bU ms.tail rs (U.set i none)with
      |some (ss,U1)=>some (s::ss,U1)
      |none=>none)
      else(match bU ms.tail rs (U.set i (some (.sh s.toD)))with
       |some (ss,U1)=>some (.sh s.toD::ss,U1)
       |none=>none)
     |none=>none)=some (ss,U1):=by cases ms<;>show e
    cases q:slot U i with
    |none=>rw[q]at z;cases z
    |some s=>
     rw[q]at z;dsimp only at z;by_cases hm:ms.headD false=true
     .rw[qY hm]at z;cases J:bU ms.tail rs (U.set i none)with
      |none=>rw[J]at z;cases z
      |some p=>let#[B,L]:=p;rw[J]at z;cases z;show#[s,U.set i none,B,F,J,rfl,zn.refl F,by simp,Rel.lend r h q rv.1]
     .rw[qZ hm]at z;cases J:bU ms.tail rs (U.set i (some (.sh s.toD)))with
      |none=>rw[J]at z;cases z
      |some p=>let#[B,L]:=p;rw[J]at z;cases z;let#[M,Y,l1,O]:=AF (x:=.loc i) (s:=.sh s.toD) (U1:=U.set i (some (.sh s.toD))) r h rv.1 (by show(match slot U i with|some s=>some (S.sh s.toD,U.set i (some (.sh s.toD)))|none=>none)=_;rw[q]);show#[_,_,B,M,J,rfl,Y,by simp,O]
  let#[s,U2,B,M,J,rfl,Y,l1,O]:=first
  let h2:U2.length=Z.length:=l1.trans h;let hl:(rs.map zo++U').length=(vs.map some++Z').length:=by let:=O.len;rw[qq,qq,qt,qt]at this;lia
  let h1:U'.length=Z'.length:=by let:=rv.2.len;simp at hl;lia
  let r2:=Rel.swap (U1:=[some s]) (Z1:=[some v]) (U2:=rs.map zo++U') (Z2:=vs.map some++Z') h2 rfl O;rw[qp,qp]at r2;let#[F2,s2,l2,l3,r3]:=KI (rs:=rs) (vs:=vs) r2 h2 rv.2 J;let h3:U1.length=Z.length:=l2.trans h2;rw[<-qp (B.map some),<-qp (vs.map some)]at r3;let r4:=Rel.swap (U1:=B.map some++U') (Z1:=vs.map some++Z') (U2:=[some s]) (Z2:=[some v]) h3 (by simp[l3,rv.2.len,h1]) r3;show#[F2,Y.trans s2,l2.trans l1,by simp[l3],r4]
def Gx:∀{rs:List R}{vs:List V}{ms:List Bool}{U U':Env}{ss:List S}{Z':St},Rel K (U++(ss.map some++U')) (Z++(vs.map some++Z')) F G H->U.length=Z.length->ss.length=rs.length->lV Z vs rs->
  (back ms rs ss U).length=U.length/\Rel K (back ms rs ss U++U') (Z++Z') F G H
 |[],[],ms,U,U',[],Z',r,h,_,_=>by
  let e:back ms [] [] U=U:=by cases ms<;>rfl
  show#[rfl,r]
 |[],_,_,_,_,_::_,_,_,_,hl,_=>by simp at hl
 |_::_,_,_,_,_,[],_,_,_,hl,_=>by simp at hl
 |[],_::_,_,_,_,_,_,_,_,_,h=>h.elim
 |_::_,[],_,_,_,_,_,_,_,_,h=>h.elim
 |x::rs,v::vs,ms,U,U',s::ss,Z',r,h,hl,rv=>by
  cases x with
  |v t=>
   let e:back ms (.v t::rs) (s::ss) U=back ms.tail rs ss U:=by cases ms<;>rfl
   show Gx (rs:=rs) (vs:=vs) (r.mid h) h ↑hl rv.2
  |loc i=>
   let e:back ms (.loc i::rs) (s::ss) U=if ms.headD false then back ms.tail rs ss (U.set i (some s))else back ms.tail rs ss U:=by cases ms<;>rfl
   rw[e];by_cases z:ms.headD false=true
   .rw[qY z];let q:=Gx (rs:=rs) (vs:=vs) (ms:=ms.tail) (U:=U.set i (some s)) (Rel.back1 r h rv.1) ↑h ↑hl rv.2;show#[q.1.trans (by simp),q.2]
   .rw[qZ z];show Gx (rs:=rs) (vs:=vs) (r.mid h) h ↑hl rv.2
end
def PM(Fk:eO X.prog X.w X.K X.mg X.base (gR X.prog X.w) k f fd ps (eS X.K wf n))(hr:bE k X.A)(hg:Gl X x)(hm:X.mg x=some (.ref f))(O:W.keepIn X.K (.ref f)=true)(hb:Binds X.K fd ps [])
  (ha:FA X (e::es) wa)(h2:∀ss P PX,wf ss P PX->ss.length=n)(h7:autoParam ((x==("__debug__":Str))=false) dZ9)(he:autoParam (starEach (e::es) X.env=(false,eval e X.env)::starEach es X.env) rZ9)(h5:autoParam ((backTo pos (starEach es X.env)).any (·.1)=false) rZ9):
  FE X (.Call (.Name x p) (e::es) [] pos) (zw wf ms wa):=λpn xe hp=>by
 show PE.imp (PQ (X:=wp X pn xe) Fk hr hg hm O hb (ha pn xe hp) h7 he h5) λZ H Q q=>?_;show(many (k:=λrs B Q E=>zm (bU ms rs B) λp=>wf p.1 (λs ss=>Q (.v s) (back ms rs ss p.2)) (λx ss=>E x (back ms rs ss p.2))) q).mono λvs H1 h1=>?_;let#[F,G,U,rs,P,PX,h3,hl,L,O,h6,hx]:=h1;let#[#[ss,B],ep,O]:=Av O;let#[F1,s1,l1,M,r1]:=KI (U':=[]) (Z':=[]) ↑h3 hl L ep;let h1:B.length=Z.length:=l1.trans hl;let r2:=Rel.comm (U':=ss.map some) (Z':=vs.map some) h1 ↑r1;let h4:(ss.map some).length=(vs.map some).length:=by simp[M,L.len]
 let#[G',r3,gg,bk]:=r2.hide h4;let hn:=h2 _ _ _ O;show#[F1,G',ss,_,_,by rw[L.len,<-M];show hn,r3,O,λs J v F2 H2 hp Y l3 r4=>?_,λd J F2 H2 C dx hp Y l3 r4 cd a s' I Fl=>?_]
 .let r5:=bk Y r4;let z:(J.map some++[some s]).length=(vs.map some++[some v]).length:=by simp[l3,M,L.len]
  let r6:=Rel.comm z r5;let#[l7,r7]:=Gx (ms:=ms) (rs:=rs) (vs:=vs) (U':=[some s]) (Z':=[some v]) r6 h1 (l3.trans M) L;show h6 _ _ v F2 H2 hp (s1.trans Y) r7 trivial
 .let r5:=bk Y r4;let z:(J.map some).length=(vs.map some).length:=by simp[l3,M,L.len]
  let r6:=Rel.comm z r5;let#[l7,r7]:=Gx (ms:=ms) (rs:=rs) (vs:=vs) (U':=[]) (Z':=[]) ↑r6 h1 (l3.trans M) L;show hx d _ Z F2 H2 (.ref a) s' hp rfl (s1.trans Y) ↑r7 I #[a,C,dx,rfl,cd,Fl]
section
variable{K:W.Frag}
def Rel.pushNs(r:Rel K U Z F G H):∀m:Nat,Rel K (U++List.replicate m none) (Z++List.replicate m none) F G H
 |0=>↑r
 |m+1=>by let:=(Rel.pushNs r m).pushN (u:=none);rw[qp,qp,<-List.replicate_succ',<-List.replicate_succ']at this;show this
@[inline]def Args(K:W.Frag)(F:Hp):List S->List V->St->Prop
 |[],[],_=>True
 |s::ss,v::vs,u::Z=>((∃d,s=.sh d/\aN K F v d)\/(s.isSh=false/\u=some v))/\Args K F ss vs Z
 |_,_,_=>False
def Ht:∀{ss:List S}{vs:List V}{fs:List S}{U U' Ua:Env}{Z Z' Za:St},aB ss U=some fs->Rel K (Ua++(U++U')) (Za++(Z++Z')) F G H->Ua.length=Za.length->U.length=Z.length->Args K F ss vs Z->
  fs.length=ss.length/\vs.length=ss.length/\Rel K (Ua++(fs.map some++U')) (Za++(vs.map some++Z')) F G H
 |[],[],fs,U,U',Ua,Z,Z',Za,e,r,h,h2,_=>by
  let z:some ([]:List S)=some fs:=by cases U<;>show e
  cases z;show#[rfl,rfl,?_];let J:=Rel.swap (U1:=U) (Z1:=Z) (U2:=U') (Z2:=Z') h h2 r;rw[<-qp,<-qp]at J;let hl:(Ua++U').length=(Za++Z').length:=by let:=r.len;simp at this;simp;lia
  simpa using J.drop hl
 |[],_::_,_,_,_,_,_,_,_,_,_,_,_,h=>by cases h
 |_::_,[],_,_,_,_,_,_,_,_,_,_,_,h=>by cases h
 |_::_,_::_,_,_,_,_,[],_,_,_,_,_,_,h=>by cases h
 |_::_,_::_,_,[],_,_,_::_,_,_,_,_,_,h2,_=>by simp at h2
 |s::ss,v::vs,fs,o::U,U',Ua,u::Z,Z',Za,e,r,h,h2,ha=>by
  let M:U.length=Z.length:=↑h2
  let#[h1,L]:=ha;rcases h1 with⟨d,rfl,rp⟩|⟨hs,hu⟩
  .have z:(aB ss U).map (S.sh d::·)=some fs:=e;cases q:aB ss U with
   |none=>rw[q]at z;cases z
   |some B=>
    rw[q]at z;let h3:S.sh d::B=fs:=qf z;subst h3;let J:Rel K (Ua++(U++U')) (Za++(Z++Z')) F G H:=Rel.mid (U:=Ua) (Z:=Za) r h;let#[l1,Y,O]:=Ht q J h M L;let hl:(B.map some++U').length=(vs.map some++Z').length:=by let:=O.len;simp at this;simp;lia
    let r3:=O.push rp;rw[qp Ua,qp Za]at r3;let r4:=Rel.swap (U1:=B.map some++U') (Z1:=vs.map some++Z') (U2:=[some (.sh d)]) (Z2:=[some v]) h hl r3;show#[by simp[l1],by simp[Y],r4]
  .subst hu;let z:∃t B,o=some t/\aB ss U=some B/\fs=t::B:=by
    cases s with
    |sh d=>cases hs
    |_=>
     cases o with
     |none=>cases e
     |some t=>
      let z:(aB ss U).map (t::·)=some fs:=e;cases q:aB ss U with
      |none=>rw[q]at z;cases z
      |some B=>rw[q]at z;show#[t,B,rfl,rfl,(qf z).symm]
   let#[t,B,rfl,q,rfl]:=z;let J:Rel K ((Ua++[some t])++(U++U')) ((Za++[some v])++(Z++Z')) F G H:=↑r
   let#[l1,Y,O]:=Ht q J (by simp[h]) M L;show#[by simp[l1],by simp[Y],↑O]
def KH{ks:List Nat}:∀{ss:List S}{vs:List V}{Z:St}{j:Nat}{fp:List Addr},zp K F0 H (ss.map some) (vs.map some) fp->zn F0 F->(∀i s,ss[i]?=some s->(j+i)∈ks\/s.isSh=true)->
  (∀i v,vs[i]?=some v->(j+i)∈ks->Z[i]?=some (some v))->vs.length<=Z.length->Args K F ss vs Z
 |[],[],_,_,_,_,_,_,_,_=>trivial
 |[],_::_,_,_,_,r,_,_,_,_=>by cases r
 |_::_,[],_,_,_,r,_,_,_,_=>by cases r
 |_::_,_::_,[],_,_,_,_,_,_,h=>by simp at h
 |s::ss,v::vs,u::Z,j,_,.so a b,sm,hk,hv,hl=>by
  show#[?_,KH (j:=j+1) b sm (λi t e=>by let:=hk (i+1) t e;rwa[show j+(i+1)=j+1+i by lia]at this) (λi t e z=>by simpa using hv (i+1) t ↑e (by rwa[show j+(i+1)=j+1+i by lia])) ↑hl];cases B:s.isSh with
  |true=>
   cases s with
   |sh d=>cases a with
    |sh r=>show .inl #[d,rfl,r.mono sm]
   |_=>cases B
  |false=>show .inr #[rfl,?_];let:=hk 0 s rfl;rw[B]at this;let z:(j+0)∈ks:=this.resolve_right (by simp);simpa using hv 0 v rfl z
theorem JA{st:Stmt}(Fn:sI K x qual st f fd)(Sc:aM N ps (aA st))(hn:ps.length=n)(hm:N.length=m)
  (hb:∀(O:Value)(A:Around)(B:List PySem.Env)(s:Shared)(H:Hp)(E:XK),bE k (A.deeper (envOfC qual (aA st) s.heap.objs.size f O))->lW (eN (gR P w) P w K mg base N qual (aA st) f O A B s H E) ks (bP st) wb):
  eO P w K mg base (gR P w) (k+1) f fd ps (eS K (gH n m ks wb) n):=by
 show Fn.okX Sc (λY H Q E h=>?_) (λO A B s H Y Q E hr h=>?_)
 .obtain⟨F,G,ss,P',PX,hl,_⟩:=h;rw[hl,hn]
 .obtain⟨F,G,ss,P',PX,h6,h3,⟨e3,e2,h2⟩,h9,hex⟩:=h;show#[_,hb O A B s H E hr [] (eN (gR P w) P w K mg base N qual (aA st) f O A B s H E).xe PassesOwn.leaving,?_];let e1:N.length-Y.length=m-n:=by rw[h6,hm]
  let h8:Rel K (ss.map some++List.replicate (m-n) none) (L2.start N Y) F G H:=by unfold L2.start;rw[e1];show h3.pushNs (m-n)
  let h7:∀i v,Y[i]?=some v->(L2.start N Y)[i]?=some (some v):=λi v e=>by unfold L2.start;let hi:i<Y.length:=(qg.mp e).1;rw[getElem?_append_left ↑hi,qE,e];rfl
  --how the arguments are at an end
  have h4:∀{U':Env}{Z':St}{F':Hp}{fs:List S},KP ks (L2.start N Y) Z'->zn F F'->U'.length=Z'.length->aB ss U'=some fs->Args K F' ss Y Z':=by
   intro U' Z' F' fs L J M e;let#[fp,en,_]:=h3.en;let h5:Y.length<=Z'.length:=by
    --aB reads as many slots as there are arguments
    have:∀(ss:List S)(U:Env)(fs:List S),aB ss U=some fs->ss.length<=U.length:=by
     intro ss;induction ss with
     |nil=>intro U fs _;simp
     |cons s ss ih=>
      intro U fs e;cases U with
      |nil=>cases s<;>cases e
      |cons o U=>
       have:∃gs,aB ss U=some gs:=by
        cases q:aB ss U with
        |some gs=>show#[gs,rfl]
        |none=>
         cases s with
         |sh d=>have e':(aB ss U).map (S.sh d::·)=some fs:=e;rw[q]at e';cases e'
         |_=>
          cases o with
          |none=>cases e
          |some t=>have e':(aB ss U).map (t::·)=some fs:=e;rw[q]at e';cases e'
       let#[gs,q]:=this;let:=ih U gs q;simp;show this
    let:=this ss U' fs e;lia
   show KH (ks:=ks) (F:=F') (Z:=Z') (j:=0) en J (λi s e=>by simpa using e2 i s e) (λi v e z=>by rw[L i ↑z];show h7 i v e) h5
  let h1:∀{U':Env}{Z':St}{F' H':Hp}{t:S}{v:V}{fs:List S},KP ks (L2.start N Y) Z'->zn F F'->Rel K (U'++[some t]) (Z'++[some v]) F' G H'->aB ss U'=some fs->P' t fs->Q v H':=by intro U' Z' F' H' t v fs L J r e hp;let M:U'.length=Z'.length:=Ae r;let#[l1,l2,r1]:=Ht (Ua:=[]) (Za:=[]) (U':=[some t]) (Z':=[some v]) e r rfl M (h4 L J M e);show h9 t fs v F' H' hp J l1 r1
  show#[F,G,_,_,h8,h2,λU' Z' F' H' h L J r=>?_,λU' Z' F' H' h=>h.elim,λU' Z' F' H' h=>h.elim,λa U' Z' v F' H' h L J r rv=>?_,λd U' Z' F' H' u s' h L J r I xr=>?_]
  .obtain⟨fs,e,h⟩:=Av h;show h1 L J (r.push .non) e h
  .cases a with
   |v t=>let#[fs,e,h]:=Av h;show h1 L J r e h
   |loc i=>
    let#[t,et,h]:=Av h;let hl:=Ae r;by_cases hi:i<n
    .rw[qY hi]at h;let#[fs,e,h]:=Av h;let#[F2,s2,_,r2]:=AF (x:=.loc i) (s:=.sh t.toD) (U1:=U'.set i (some (.sh t.toD))) (U':=[]) (Z':=[]) r hl rv (by show(match slot U' i with|some s=>some (S.sh s.toD,U'.set i (some (.sh s.toD)))|none=>none)=_;rw[et]);show h1 L (J.trans s2) r2 e h
    .rw[qZ hi]at h;let#[fs,e,h]:=Av h;let r2:=Rel.lend (U':=[]) (Z':=[]) r hl et rv;refine h1 L J r2 ?_ h
     --the slot lies behind the parameters
     have:∀(ss:List S)(U:Env)(i:Nat),ss.length<=i->aB ss (U.set i none)=aB ss U:=by
      intro ss;induction ss with
      |nil=>intro U i _;cases U<;>cases i<;>rfl
      |cons s ss ih=>
       intro U i hi;cases U with
       |nil=>rfl
       |cons o U=>
        cases i with
        |zero=>simp at hi
        |succ i=>
         let e:=ih U i ↑hi;cases s with
         |sh d=>show(aB ss (U.set i none)).map _=(aB ss U).map _;rw[e]
         |_=>
          cases o with
          |none=>rfl
          |some t=>show(aB ss (U.set i none)).map _=(aB ss U).map _;rw[e]
     rw[this ss U' i ∅];show e
  .obtain⟨fs,e,h⟩:=Av h;let#[a,C,dx,rfl,cd,Fl]:=xr;let#[l1,l2,r1]:=Ht (K:=K) (Ua:=[]) (Za:=[]) (U':=[]) (Z':=[]) e (by simpa using(show Rel K U' Z' F' G H' from r)) rfl r.len (h4 L J r.len e);show QS I Fl (hex d fs F' H' C dx h J l1 ↑r1 cd)
end
end FL
namespace L2
open PySem PySem.Spec PyProof.Rows
def bV(cells:List (Str×Addr)):List (Str×NameKind)->List (Str×Addr)->List (Str×Addr)
 |[],zH=>zH
 |(n,k)::r,zH=>if k==.free then(match cells.lookup n with|some c=>bV cells r ((n,c)::zH)|none=>bV cells r zH)else bV cells r zH
def Je(f:Str×NameKind->List (Str×Addr)->Sem (ForInStep (List (Str×Addr))))
  (hf:∀n k cs,f (n,k) cs=if k==.free then(do let a<-cellOf env n;pure (.yield ((n,a)::cs)))else pure (.yield cs)):
  ∀(names:List (Str×NameKind))(zH:List (Str×Addr)),(∀x∈names,x.2=.free->∃c,env.cells.lookup x.1=some c)->(forIn names zH f:Sem _)=pure (bV env.cells names zH)
 |[],zH,_=>by rw[List.forIn_nil];rfl
 |(n,k)::r,zH,h=>by
  rw[List.forIn_cons,hf];let hr:∀x∈r,x.2=.free->∃c,env.cells.lookup x.1=some c:=λx hx=>h x (qk _ hx);by_cases hk:(k==.free)=true
  .obtain⟨c,hc⟩:=h (n,k) qm ↑hk;let hc':env.cells.lookup n=some c:=hc;let e:cellOf env n=pure c:=by unfold cellOf;rw[hc']
   rw[qY hk,e];let ih:=Je f hf r ((n,c)::zH) hr;unfold bV;rw[qY hk,hc'];rw[<-ih];simp
  .rw[qZ hk];let ih:=Je f hf r zH hr;unfold bV;rw[qZ hk,<-ih];simp
def Ts(h:∀x∈scope.names,x.2=.free->∃c,env.cells.lookup x.1=some c):closureFor scope env=pure (bV env.cells scope.names []):=by show(forIn scope.names ([]:List (Str×Addr)) _>>=λv=>pure v)=_;rw[Je (env:=env) _ (λn k v=>rfl) scope.names [] h];rfl
def Hr:∀{names:List (Str×NameKind)}{v:List (Str×Addr)},(n,c)∈bV cells names v->(n,c)∈v\/((n,NameKind.free)∈names/\cells.lookup n=some c)
 |[],_,h=>.inl h
 |(m,k)::r,v,h=>by
  unfold bV at h;by_cases F:(k==.free)=true
  .rw[qY F]at h;let B:k=.free:=by simpa using F
   cases q:cells.lookup m with
   |none=>
    rw[q]at h;rcases Hr h with z|⟨z,w⟩
    .show .inl z
    .show .inr #[qk _ z,w]
   |some d=>
    rw[q]at h;rcases Hr h with z|⟨z,w⟩
    .rcases qA.mp z with e|z
     .cases e;show .inr #[by rw[<-B];show qm,q]
     .show .inl z
    .show .inr #[qk _ z,w]
  .rw[qZ F]at h;rcases Hr h with z|⟨z,w⟩
   .show .inl z
   .show .inr #[qk _ z,w]
def GF(B:cells.lookup n=some c):∀{names:List (Str×NameKind)}{v:List (Str×Addr)},((n,c)∈v\/(n,NameKind.free)∈names)->(n,c)∈bV cells names v
 |[],_,h=>h.elim id λz=>by simp at z
 |(m,k)::r,v,h=>by
  unfold bV;by_cases F:(k==.free)=true
  .rw[qY F];cases q:cells.lookup m with
   |none=>
    show GF B ?_;rcases h with z|z
    .show .inl z
    .rcases qA.mp z with e|z
     .cases e;rw[B]at q;cases q
     .show .inr z
   |some d=>
    show GF B ?_;rcases h with z|z
    .show .inl (qk _ z)
    .rcases qA.mp z with e|z
     .cases e;rw[B]at q;cases q;show .inl qm
     .show .inr z
  .rw[qZ F];show GF B ?_;rcases h with z|z
   .show .inl z
   .rcases qA.mp z with e|z
    .cases e;show(F ⋯).elim
    .show .inr z
def MO{α:Type}:∀{l:List (Str×α)}{n:Str}{c:α},(n,c)∈l->(∀v,(n,v)∈l->v=c)->l.lookup n=some c
 |[],_,_,h,_=>by simp at h
 |(m,d)::r,n,c,h,u=>by
  rw[lookup_cons];cases z:n==m with
  |true=>
   let e:n=m:=↑z
   subst e;show congrArg some (u d qm)
  |false=>
   show MO (l:=r) ?_ λv B=>u v (qk _ B);rcases qA.mp h with e|h
   .cases e;simp at z
   .show h
def Jk:∀{names:List (Str×NameKind)}{n:Nat}{v:List (Str×Addr)}{x:Str}{c:Addr},(x,c)∈cellsFrom n names v->(x,c)∈v\/((x,NameKind.cell)∈names/\n<=c)
 |[],_,_,_,_,h=>.inl h
 |(m,k)::r,n,v,x,c,h=>by
  unfold cellsFrom at h;by_cases F:(k==.cell)=true
  .rw[qY F]at h;let B:k=.cell:=by simpa using F
   rcases Jk h with z|⟨z,w⟩
   .rcases qA.mp z with e|z
    .cases e;show .inr #[by rw[<-B];show qm,q5 _]
    .show .inl z
   .show .inr #[qk _ z,∅]
  .rw[qZ F]at h;rcases Jk h with z|⟨z,w⟩
   .show .inl z
   .show .inr #[qk _ z,w]
def GE:∀{names:List (Str×NameKind)}{n:Nat}{v:List (Str×Addr)}{x:Str},((x,NameKind.cell)∈names\/∃c,(x,c)∈v)->∃c,(x,c)∈cellsFrom n names v
 |[],_,_,_,h=>h.elim (λz=>by simp at z) id
 |(m,k)::r,n,v,x,h=>by
  unfold cellsFrom;by_cases B:(k==.cell)=true
  .rw[qY B];show GE ?_;rcases h with z|⟨c,z⟩
   .rcases qA.mp z with e|z
    .cases e;show .inr #[n,qm]
    .show .inl z
   .show .inr #[c,qk _ z]
  .rw[qZ B];show GE ?_;rcases h with z|z
   .rcases qA.mp z with e|z
    .cases e;show(B ⋯).elim
    .show .inl z
   .show .inr z
def HI{α:Type}:∀{l:List (Str×α)}{x:Str},(∃c,(x,c)∈l)->∃c,l.lookup x=some c
 |[],_,⟨_,h⟩=>by simp at h
 |(m,d)::r,x,⟨c,h⟩=>by
  rw[lookup_cons];cases v:x==m with
  |true=>show#[d,rfl]
  |false=>
   show HI (l:=r) #[c,?_];rcases qA.mp h with e|h
   .cases e;simp at v
   .show h
def Jm:∀{names:List (Str×NameKind)}{n:Nat}{v:List (Str×Addr)},(∀p∈v,p.2<n)->(∀p∈v,∀q∈v,p.2=q.2->p.1=q.1)->
  ∀p∈cellsFrom n names v,∀q∈cellsFrom n names v,p.2=q.2->p.1=q.1
 |[],_,_,_,h=>h
 |(m,k)::r,n,v,hb,h=>by
  unfold cellsFrom;by_cases G:(k==.cell)=true
  .rw[qY G];refine Jm (λp z=>?_) λp z q B e=>?_
   .rcases qA.mp z with rfl|z
    .show lt_succ_self _
    .show lt_succ_of_lt (hb p z)
   .rcases qA.mp z with rfl|z<;>rcases qA.mp B with rfl|B
    .rfl
    .let h1:=hb q B;let F:n=q.2:=e;show absurd h1 (by rw[<-F];show lt_irrefl _)
    .let h1:=hb p z;let F:p.2=n:=e;show absurd h1 (by rw[F];show lt_irrefl _)
    .show h p z q B e
  .rw[qZ G];show Jm hb h
def Tc
  (hQ:∀h':Heap,(∀b o,s.heap.get? b=some o->h'.get? b=some o)->h'.Ns s.heap.objs.size (λ_=>none)->(∀x c,(x,c)∈cellsFrom (s.heap.objs.size+1) scope.names F->(x,c)∈F\/h'.IsCell c none)->
   Q {scope:=scope,locals:=s.heap.objs.size,globals:=globals,cells:=cellsFrom (s.heap.objs.size+1) scope.names F,qual:=qual,func:=none,code:=env.code,frame:=env.frame,builtins:=env.builtins} {s with heap:=h'}):
  wpAny M A (newFunctionEnv scope globals F [] qual none .none (some env)) Q E s:=by
 simp only[newFunctionEnv,isSome_some,if_true];show qa (wpAny_alloc ?_);show qa (wpAny_layCells _ (λJ kind cells=>by cases Y:kind==NameKind.cell<;>simp) _ _ _ _ ?_);rw[show({s with heap:=s.heap.push {cls:=.type "dict",data:=.dict #[]}}:Shared).heap.objs.size=s.heap.objs.size+1 from Heap.size_push ..];show qb (hQ _ (λb o e=>pushCells_keeps _ _ b o (qc _ e)) ((Heap.Ns.new s.heap (.type "dict")).keeps (pushCells_keeps _ _)) λx c h=>?_)
 --the new cells are empty
 have all:∀(names:List (Str×NameKind))(h:Heap)(B:List (Str×Addr)),(∀p∈B,p∈F\/h.IsCell p.2 none)->∀p∈cellsFrom h.objs.size names B,p∈F\/(pushCells h names).IsCell p.2 none:=by
  intro names;induction names with
  |nil=>intro h B G p v;show G p v
  |cons q r L=>
   intro h B G p v;let#[m,k]:=q;unfold cellsFrom at v;unfold pushCells;by_cases O:(k==.cell)=true
   .rw[qY O]at v⊢;let e:(h.push {cls:=.type "cell",data:=.cell none}).objs.size=h.objs.size+1:=Heap.size_push ..;rw[<-e]at v;show L _ _ (λp v=>?_) p v;rcases qA.mp v with rfl|v
    .show .inr #[_,qd _ rfl,rfl]
    .rcases G p v with z|z
     .show .inl z
     .show .inr (z.keeps λb o e=>qc _ e)
   .rw[qZ O]at v⊢;show L h B G p v
 let:=all scope.names (s.heap.push {cls:=.type "dict",data:=.dict #[]}) F (λp v=>.inl v) (x,c) (by rw[Heap.size_push];show h);show this
def fE(N vars:List Str):List Str:=N.map (λx=>if x∈vars then Str.empty else x)++Str.empty::vars
def aF(X:Cx)(scope:Scope)(vars:List Str)(s:Shared)(H:Hp)(ex:List Addr):Cx where
 prog:=X.prog
 w:=X.w
 K:=X.K
 mg:=X.mg
 base:=X.base
 A:=X.A
 N:=fE X.N vars
 s₀:=s
 H₀:=H
 env:=compEnvC scope (cellsFrom (s.heap.objs.size+1) scope.names (bV X.env.cells scope.names [])) s.heap.objs.size X.env
 outer:=X.stack
 stack:=X.stack
 ex:=ex
 fn:=λx=>decide ((x,NameKind.cell)∈scope.names)
 calm:=X.calm
 pn:=[]
 xe:=λ_ _=>False
structure bR(outer scope:Scope)(N vars:List Str):Prop where
 kind:scope.kind=.function
 fr:∀x∈scope.names,x.2=.free->outer.names.lookup x.1=some .cell\/outer.names.lookup x.1=some .free
 nd:(scope.names.map (·.1)).Nodup
 own:∀x∈N,x∉vars->(x,NameKind.local)∉scope.names/\(x,NameKind.cell)∉scope.names
 emp:scope.names.lookup Str.empty=none
def HL{α:Type}{l:List (Str×α)}{c:α}(v:(l.map (·.1)).Nodup):l.lookup n=some c↔(n,c)∈l:=by
 show#[mem_of_lookup,λh=>MO h λB h'=>?_];induction l with
 |nil=>simp at h
 |cons p r z=>grind
theorem MI{α β:Type}(g:Str->α->β):∀(l:List (Str×α))(n:Str),(l.map λp=>(p.1,g p.1 p.2)).lookup n=(l.lookup n).map (g n)
 |[],_=>rfl
 |(m,d)::r,n=>by
  rw[qy,lookup_cons,lookup_cons];cases v:n==m with
  |true=>have e:n=m:=by simpa using v
         subst e;rfl
  |false=>show MI g r n
def rl(env:PySem.Env)(n:Str)(k:NameKind):NameKind:=if(k==NameKind.free&&env.scope.kind==.function&&env.kindOf n==some .cell)then NameKind.cell else k
def Tu(scope:Scope)(env:PySem.Env):(relabel scope env).names=scope.names.map λp=>(p.1,rl env p.1 p.2):=by
 show map_congr_left λp _=>?_;let#[n,k]:=p;show(if(k==NameKind.free&&env.scope.kind==.function&&env.kindOf n==some .cell)=true then(n,NameKind.cell)else(n,k))=(n,rl env n k);unfold rl;by_cases h:(k==NameKind.free&&env.scope.kind==.function&&env.kindOf n==some .cell)=true
 .rw[qY h,qY h]
 .rw[qZ h,qZ h]
def HK(scope:Scope)(env:PySem.Env)(x:Str):(relabel scope env).names.lookup x=(scope.names.lookup x).map (rl env x):=by rw[Tu,MI]
def Gp(h:k≠.free):rl env x k=k:=by unfold rl;rw[qZ];intro z;simp at z;show h z.1.1
def PN:rl env x .free=.cell\/rl env x .free=.free:=by
 unfold rl;split
 .show .inl rfl
 .show .inr rfl
def Rt(h:(fE N vars)[i]?=some x)(hi:i<N.length):(N[i]?=some x/\x∉vars)\/x=Str.empty:=by
 unfold fE at h;rw[getElem?_append_left ↑hi,qE]at h;cases q:N[i]? with
 |none=>rw[q]at h;cases h
 |some y=>grind
def Inv.comp(I:Inv X zC Z H s)(S:bR X.env.scope scope X.N vars)(hex:∀b∈ex,dM X zC H b/\b<s.heap.objs.size)(kept:∀b o,s.heap.get? b=some o->h'.get? b=some o)(h7:h'.Ns s.heap.objs.size (λ_=>none))
  (h9:∀x c,(x,c)∈cellsFrom (s.heap.objs.size+1) scope.names (bV X.env.cells scope.names [])->(x,c)∈bV X.env.cells scope.names []\/h'.IsCell c none)(hk:vars.length=k)(w0:Option V):
  Inv (aF X scope vars s H ex) [] (Z++w0::List.replicate k none) H {s with heap:=h'}:=by
 have cm:∀{x:Str}{c:Addr},(x,c)∈bV X.env.cells scope.names []->(x,NameKind.free)∈scope.names/\X.env.cells.lookup x=some c:=λ{x c} h=>by
  rcases Hr h with z|z
  .simp at z
  .show z
 let lt:∀{x:Str}{c:Addr},X.env.cells.lookup x=some c->c<s.heap.objs.size:=λ{x c} h=>by let#[v,z]:=I.cell x c h;show z.lt
 have AE:∀{x:Str}{c:Addr},(aF X scope vars s H ex).env.cells.lookup x=some c->(X.env.cells.lookup x=some c/\(x,NameKind.free)∈scope.names)\/((x,NameKind.cell)∈scope.names/\s.heap.objs.size+1<=c):=λ{x c} h=>by
  rcases Jk (mem_of_lookup h)with z|z
  .show .inl #[(cm z).2,(cm z).1]
  .show .inr z
 let uniq:∀{x:Str}{a b:NameKind},(x,a)∈scope.names->(x,b)∈scope.names->a=b:=λ{x a b} h1 h2=>by let e1:=(HL S.nd).mpr h1;let e2:=(HL S.nd).mpr h2;rw[e1]at e2;show qf e2
 --what a visible name is,seen from around
 have h4:∀{x:Str},((relabel scope X.env).names.lookup x=some .cell\/(relabel scope X.env).names.lookup x=some .free)->(x,NameKind.cell)∈scope.names\/(x,NameKind.free)∈scope.names:=λ{x} h=>by
  rw[HK]at h;cases q:scope.names.lookup x with
  |none=>rw[q]at h;rcases h with h|h<;>cases h
  |some k=>
   let L:=mem_of_lookup q;rw[q]at h;let h0:some (rl X.env x k)=some .cell\/some (rl X.env x k)=some .free:=h;cases k with
   |cell=>show .inl L
   |free=>show .inr L
   |«local»=>rw[Gp ⋯]at h0;rcases h0 with h|h<;>cases h
   |globalImplicit=>rw[Gp ⋯]at h0;rcases h0 with h|h<;>cases h
   |globalExplicit=>rw[Gp ⋯]at h0;rcases h0 with h|h<;>cases h
 have ok:(aF X scope vars s H ex).Ok:=by
  show#[I.ok.mod,S.kind,I.ok.glob,I.ok.blt,q5 _,λx y c h1 h2=>?_,λx h=>?_,λx c hf h=>?_,I.ok.hd,I.ok.frames,.inl rfl,λb M=>#[?_,λx c h z=>?_],I.bs,le_trans I.ok.bsz I.sz,λb o e M=>?_,λb M z=>?_,I.stack,I.stkFree]
  .refine Jm (λp hp=>?_) (λp hp q hq e=>?_) (x,c) (mem_of_lookup h1) (y,c) (mem_of_lookup h2) rfl
   .show lt_succ_of_lt (lt (cm (x:=p.1) (c:=p.2) hp).2)
   .show I.ok.inj _ _ _ (cm (x:=p.1) (c:=p.2) hp).2 (e▸(cm (x:=q.1) (c:=q.2) hq).2)
  .rcases h4 h with z|z
   .show HI (GE (.inl z))
   .obtain⟨c,hc⟩:=I.ok.has x (S.fr (x,.free) z rfl);show HI (GE (.inr #[c,GF hc (.inr z)]))
  .let h8:(x,NameKind.cell)∈scope.names:=qS hf;rcases AE h with⟨_,z⟩|⟨_,z⟩
   .cases uniq h8 z
   .show Nat.le_of_succ_le z
  .show ne_of_lt (hex b M).2
  .rcases AE h with⟨w,_⟩|⟨_,w⟩
   .show(hex b M).1.2.2.2.2.1 x c w z
   .let h1:=(hex b M).2;rw[<-z]at h1;show absurd (lt_of_lt_of_le h1 (Nat.le_of_succ_le w)) (lt_irrefl _)
  .obtain⟨_,_,_,h1,_⟩:=(hex b M).1;rcases h1 with z|z
   .show I.ok.noex b o e z
   .rw[(I.ok.bs b o e).1]at z;cases z
  .obtain⟨_,h2,O,_⟩:=(hex b M).1;rcases qA.mp (I.stkSub b z)with w|w
   .show h2 w
   .show O w
 let F:∀{c:Addr}{v:Option Value},s.heap.IsCell c v->h'.IsCell c v:=λz=>z.keeps kept;show#[ok,rfl,I.bare,Un.kept kept,#[_,h7,λi x v h1 h2 O=>?_],λx c h=>?_,I.hok.fresh (q5 _),λx c h=>?_,λp hp=>absurd (show p∈([]:List (Addr×Obj)) from hp) (by simp),I.hok.kept kept,?_]
 ·--a slot of the context
  let h5:¬uT (aF X scope vars s H ex).env.scope Str.empty:=λO=>by let G:(relabel scope X.env).names.lookup Str.empty=some .local\/(relabel scope X.env).names.lookup Str.empty=some .cell\/(relabel scope X.env).names.lookup Str.empty=some .free:=O;rw[HK,S.emp]at G;rcases G with z|z|z<;>cases z
  have hi:i<Z.length:=by
   by_cases hi:i<Z.length
   .show hi
   .exfalso;rw[getElem?_append_right (not_lt.mp hi)]at h2;cases q:i-Z.length with
    |zero=>
     let e:i=X.N.length:=by let:=I.len;lia
     rw[e]at h1;let Y:(fE X.N vars)[X.N.length]?=some x:=h1;unfold fE at Y;simp at Y;subst Y;show h5 O
    |succ j=>rw[q,List.getElem?_cons_succ,List.getElem?_replicate]at h2;split at h2<;>cases h2
  rw[getElem?_append_left hi]at h2;rcases Rt h1 (by rw[<-I.len];show hi)with⟨h1,hx⟩|rfl
  .have own:=S.own x (qL h1) hx;let B:(x,NameKind.free)∈scope.names:=by
    let G:(relabel scope X.env).names.lookup x=some .local\/(relabel scope X.env).names.lookup x=some .cell\/(relabel scope X.env).names.lookup x=some .free:=O;rcases G with z|z
    .rw[HK]at z;cases q:scope.names.lookup x with
     |none=>rw[q]at z;cases z
     |some kk=>
      rw[q]at z;let z0:some (rl X.env x kk)=some .local:=z;let L:=mem_of_lookup q;cases kk with
      |«local»=>show absurd L own.1
      |cell=>show absurd L own.2
      |free=>show L
      |globalImplicit=>rw[Gp ⋯]at z0;cases z0
      |globalExplicit=>rw[Gp ⋯]at z0;cases z0
    .rcases h4 z with w|w
     .show absurd w own.2
     .show w
   let J:=S.fr (x,.free) B rfl;let#[m,L,hl]:=I.loc;let#[u,r,l]:=hl i x v h1 h2 (J.elim (λz=>.inr (.inl z)) λz=>.inr (.inr z));show#[u,r,.inr #[?_,?_]]
   .show(relabel scope X.env).names.lookup x=some .cell\/(relabel scope X.env).names.lookup x=some .free;rw[HK,(HL S.nd).mpr B];show some (rl X.env x .free)=_\/some (rl X.env x .free)=_;rcases PN (env:=X.env) (x:=x)with e|e<;>rw[e]
    .show .inl rfl
    .show .inr rfl
   .rcases l with⟨z,_⟩|⟨_,c,hc,z⟩
    .let z':X.env.scope.names.lookup x=some .local:=z;rcases J with w|w<;>(have w':X.env.scope.names.lookup x=_:=w;rw[w']at z';cases z')
    .show#[c,?_,F z];let#[c',h6]:=HI (GE (n:=s.heap.objs.size+1) (names:=scope.names) (.inr #[c,GF hc (.inr B)]));rcases AE h6 with⟨w,_⟩|⟨w,_⟩
     .rw[hc]at w;cases w;show h6
     .cases uniq B w
  .show absurd O h5
 .rcases h9 x c (mem_of_lookup h)with z|z
  .obtain⟨v,w⟩:=I.cell x c (cm z).2;show#[v,F w]
  .show#[none,z]
 .rcases AE h with⟨w,_⟩|⟨_,w⟩
  .show I.freeC x c w
  .show I.hok.fresh (Nat.le_of_succ_le w)
 .show _=(fE X.N vars).length;unfold fE;simp[I.len,hk]
abbrev TB:=St->Hp->(St->Hp->Prop)->Prop
def jD(X:Cx)(m:Sem Unit)(t:TB):Prop:=∀(zC:List (Addr×Obj))(s:Shared)(Z:St)(H:Hp)(Q:St->Hp->Prop),Inv X zC Z H s->t Z H Q->
 wpAny (model X.prog X.w) X.A m (λ_ s'=>∃Z' H',Inv X zC Z' H' s'/\Q Z' H') (λ_ _=>False) s
def gE(X:Cx)(ifs:List Expr)(t:TT):Prop:=∀(zC:List (Addr×Obj))(s:Shared)(Z:St)(H:Hp)(Q:Bool->Hp->Prop),Inv X zC Z H s->t Z H Q->
 wpAny (model X.prog X.w) X.A (forIn ifs true λc r=>if r=true then do let ok<-isTrue c X.env (eval c X.env);pure (ForInStep.yield ok)else pure (ForInStep.yield r)) (TP X zC Z Q) X.xe s
def Rz:gE X [] (λ_ H Q=>Q true H):=λzC s Z H Q I q=>wpAny_tests_nil #[H,I,q]
def QM(h:PT X c t):gE X [c] t:=λzC s Z H Q I q=>wpAny_tests_one (h zC s Z H Q I q)
def eR(g:TG)(tc:TT)(tb:TB)(J:It):TB:=λZ H Q=>∃W:Nat->Nat->St->Hp->Prop,(∃m,W 0 m Z H)/\∀i m Z H,W i m Z H->
 (J.stop i H/\Q Z H)\/(J.go i H/\∃N:St->Hp->Prop,(∀Z' H',N Z' H'->∃z,z<m/\W (i+1) z Z' H')/\∀x H',J.yld i H x H'->g x Z H' λv H2=>tc v H2 λb B=>if b=true then tb v B N else N v B)
def gO(X:Cx)(e:Expr)(d:Nat)(v:Value)(tg:Expr)(B:It->TB):Prop:=∀(zC:List (Addr×Obj))(s:Shared)(Z:St)(H:Hp)(J:It)(fp:List Addr)(it:Addr)(z:Nat->Heap->Prop)(Q:St->Hp->Prop),Inv X zC Z H s->
 iE X.prog X.w X.K tg J fp it z->z 0 s.heap->(∀b∈fp,dM X zC H b)->B J Z H Q->
 codeAny (model X.prog X.w) X.A (.compLoop e d (.ref it) v X.env) (λr s'=>∃Z' H',r=.ok .next/\Inv X zC Z' H' s'/\Q Z' H') s
def iF(X:Cx)(m:Sem Fin)(c:Code)(t:TB):Prop:=∀(zC:List (Addr×Obj))(s:Shared)(Z:St)(H:Hp)(Q:St->Hp->Prop),Inv X zC Z H s->t Z H Q->
 wpAny (model X.prog X.w) X.A m (λf s'=>f=.again c/\∃Z' H',Inv X zC Z' H' s'/\Q Z' H') (λ_ _=>False) s
def jD.f(h:jD X m t):iF X (m>>=λ_=>again c) c t:=λzC s Z H Q I q=>qa (zg (h zC s Z H Q I q) (λ_ s' z=>qb #[rfl,z]) λ_ _ z=>z)
def Hq{inner:Addr->Sem Fin}(hc:X.calm=true)(hxe:X.xe=λ_ _=>False)(hg:PG X tg g)(ht:gE X ifs tc)(hr:∀it,iF X (inner it) (.compLoop e d (.ref it) zH X.env) tb)
  (hq:∀it,(Code.compLoop e d (.ref it) zH X.env).quiet=true)(hun:∀it,X.A.under (.compLoop e d (.ref it) zH X.env)=X.A)
  (hden:∀it,(model X.prog X.w).den (.compLoop e d (.ref it) zH X.env)=(compTurn e d (.ref it) zH X.env).onRaise (λx=>do noteFrame x X.env;theTreesLotGoes x))
  (heq:∀it,compTurn e d (.ref it) zH X.env=(standAt ipos>>=λ_=>pyNext (.ref it)>>=λr=>match r with
   |none=>pure (.done .next)
   |some v=>letOwnedTupleGo tg (.ref it) v>>=λ_=>assign tg X.env v>>=λ_=>(forIn ifs true λc r=>if r=true then do let ok<-isTrue c X.env (eval c X.env);pure (ForInStep.yield ok)else pure (ForInStep.yield r))>>=λok=>if ok=true then inner it else again (.compLoop e d (.ref it) zH X.env))):
  gO X e d zH tg (eR g tc tb):=by
 intro zC s Z H J fp it tn Q I T st f ⟨W,⟨m0,w0⟩,turn⟩;let stat:∀{H':Hp},(∀b∈fp,H' b=none)->∀b∈fp,dM X zC H' b:=λhn b hb=>#[hn b hb,(f b hb).2]
 let nox:∀{α:Type}{m:Sem α}{Q:α->Shared->Prop}{E:zh}{s:Shared},wpAny (model X.prog X.w) X.A m Q X.xe s->wpAny (model X.prog X.w) X.A m Q E s:=λh=>zg h (λ_ _ q=>q) λ_ _ x=>by rw[hxe]at x;show x.elim
 show codeAny_loop (hq it) (λn s'=>∃i Z' H',Inv X zC Z' H' s'/\tn i s'.heap/\(∀b∈fp,H' b=none)/\W i n Z' H') ?_ m0 #[0,Z,H,I,st,λb hb=>(f b hb).1,w0];rintro n s3 ⟨i,Z3,H3,I3,st3,fr3,w3⟩;rw[hun,hden];show wpAny_noted ?_;rw[heq];show qa (wpAny_standAt (qa ?_));rcases turn i n Z3 H3 w3 with⟨stop,qn⟩|⟨go,N,hN,step⟩
 .show Aq (T.done X rfl rfl rfl hc i zC s3 Z3 H3 _ I3 (stat fr3) st3 stop) λr s4⟨hr,I4⟩=>?_;subst hr;show qb #[Z3,H3,rfl,I4,qn]
 .show Aq (T.item X rfl rfl rfl hc i zC s3 Z3 H3 _ I3 (stat fr3) st3 go) λr s4 zq=>?_;let#[u,hr',h4]:=zq;subst hr';show qa (Aq h4 λ_ s5 zq=>?_);show cps λ_ kk=>?_;let#[x,H5,I5,r5,y5,st5,fr5]:=zq;show kk ?_;let I5':=I5.pinned (stat fr5) (T.obj _ _ st5);show qa (nox (Aq (hg _ s5 Z3 H5 x u _ I5' r5 (step x H5 y5)) λ_ s6 zq=>?_));let#[Z6,H6,I6,q6]:=zq;let again:∀{Z7:St}{H7:Hp}{s7:Shared},Inv X (zC++eV fp s5.heap) Z7 H7 s7->N Z7 H7->∃m,m<n/\∃i Z' H',Inv X zC Z' H' s7/\tn i s7.heap/\(∀b∈fp,H' b=none)/\W i m Z' H':=λ{Z7 H7 s7} I7 n7=>by let#[m',hm,w7]:=hN Z7 H7 n7;show#[m',hm,i+1,Z7,H7,I7.unpinned,T.keep _ _ _ st5 λb hb o e=>(I7.pin (b,o) (qi _ (qi _ (Hv hb e)))).1,λb hb=>?_,w7];let#[o,e,d]:=T.obj _ _ st5 b hb;exact(I7.pin (b,o) (qi _ (qi _ (Hv hb e)))).2.1
  show qa (nox (Aq (ht _ s6 Z6 H6 _ I6 q6) λb s7 zq=>?_));let#[H7,I7,q7]:=zq;cases b with
  |true=>show zg (hr it _ s7 Z6 H7 _ I7 q7) (λf s8 zq=>?_) λ_ _ z=>z.elim;let#[ef,Z8,H8,I8,n8]:=zq;subst ef;show#[rfl,again I8 n8]
  |false=>show qb #[rfl,again I7 q7]
def Mw(hl:gO X e d zH tg tl)
  (hq:∀it,(Code.compLoop e d (.ref it) zH X.env).quiet=true)(hun:∀it,X.A.under (.compStart e d (.ref it) zH X.env)=X.A)
  (hden:∀it,(model X.prog X.w).den (.compStart e d (.ref it) zH X.env)=(compStart e d (.ref it) zH X.env).onRaise (λx=>do noteFrame x X.env;standAt theWindowsPlace))
  (heq:∀it,∃p,compStart e d (.ref it) zH X.env=(ask>>=λc=>if c.params.followText "comprehension-iter-twice"=true then again (.compLoop e d (.ref it) zH X.env)else
   rule "comprehension.iter-twice">>=λ_=>standAt p>>=λ_=>pyIter (.ref it)>>=λit'=>again (.compLoop e d it' zH X.env)))(I:Inv X zC Z H s)
  (T:iE X.prog X.w X.K tg J fp it tn)(st:tn 0 s.heap)(f:∀b∈fp,dM X zC H b)(q:tl J Z H Q):
  codeAny (model X.prog X.w) X.A (.compStart e d (.ref it) zH X.env) (λr s'=>∃Z' H',r=.ok .next/\Inv X zC Z' H' s'/\Q Z' H') s:=by
 let h0:=hl zC s Z H J fp it tn Q I T st f q;show codeAny_of_tree ?_;rw[hun,hden];show wpAny_notedAt ?_;let#[p,e]:=heq it;rw[e];show qa (wpAny_askSetting (wpAny_ite ?_));split
 .show qb #[hq it,h0]
 .show qa (wpAny_rule (qa (wpAny_standAt (qa (T.self X.A 0 s _ _ st (qb #[hq it,h0]))))))
end L2
namespace FL
open PySem PySem.Spec PyProof.Rows L2
inductive nT(X:Cx)(n:Nat)(D:Addr)(b:WB)(Z:St)(H:Hp)(Q:St->Hp->Prop):Prop
 |mk (F G:Hp) (U:Env) (P:Env->Prop) (zE:Rel X.K U Z F G H) (hs:Z[n]?=some (some (.ref D))) (hw:b U P NX) (hn:∀U' Z' F' H',P U'->KP (List.range (n+1)) Z Z'->zn F F'->Rel X.K U' Z' F' G H'->Q Z' H'):nT X n D b Z H Q
def HM:XC X T F G NX:=λ_ _ _ _ _ _ _ z=>z.elim
section
variable{K:W.Frag}
def zr.snoc(b:zr K F H xs l fp)(r:aH K F H v s fq):zr K F H (xs++[v]) (l++[s]) (fp++fq):=
 zr.ind (P:=λxs l fp=>zr K F H (xs++[v]) (l++[s]) (fp++fq)) (by let:=zr.cons r .nil;rwa[qz]at this) (λa _ z=>by rw[qp];show .cons a z) b
def zr.len(r:zr K F H xs l fp):xs.length=l.length:=zr.ind (P:=λxs l _=>xs.length=l.length) rfl (λ_ _ v=>congrArg (·+1) v) r
def Rel.append{D:Addr}(r:Rel K (U++[some s]) (Z++[some v]) F G H)(hs:slot U n=some (.lst l))(J:Z[n]?=some (some (.ref D))):
  ∃xs,H D=some (.lst xs)/\xs.length=l.length/\Rel K (U.set n (some (.lst (l++[s])))) Z F G (upd H D (.lst (xs++[v]))):=by
 let hl:=Ae r;let#[fp,e,nd,ap]:=r.en;let#[f1,f2,rfl,a,b]:=e.cut hl;let#[v',fa,fi,fb,e1,rfl,q,up]:=a.at hs;rw[J]at e1;let e2:V.ref D=v':=↑e1
 subst e2;cases q with
 |lst hD rl=>
  rename_i xs fl;cases b with
  |so sr nl=>
   cases nl;rename_i fs;show#[xs,hD,rl.len,?_];let es:Z.set n (some (.ref D))=Z:=by
    apply ext_getElem?;intro j;by_cases hj:n=j
    .subst hj;rw[getElem?_set_self (qg.mp J).1,J]
    .rw[getElem?_set_ne hj]
   --D is nobody else's
   let#[n1,n2,Y]:=qw.mp nd;let#[na,B,O]:=qw.mp n1;let#[ni,nb,B]:=qw.mp B;let#[nD,h4]:=qK.mp ni;let h3:D∉fa:=λz=>O D z D (qj _ qm) rfl;let h2:D∉fb:=λz=>B D qm D z rfl;let h1:D∉fs:=λz=>Y D (qi _ (qj _ qm)) D ↑z rfl;let M:=ap D (qj _ (qi _ (qj _ qm)));let ne:∀{l:List Addr},D∉l->∀x∈l,upd H D (.lst (xs++[v])) x=H x:=λh x L=>Ak λz=>h (z▸L);let new:aH K F (upd H D (.lst (xs++[v]))) (.ref D) (.lst (l++[s])) (D::(fl++fs)):=.lst Bx (zr.snoc (rl.mono (zn.refl F) (ne nD)) (sr.mono (zn.refl F) (ne h1)));let a2:=up (F':=F) (H':=upd H D (.lst (xs++[v]))) (o:=some (.lst (l++[s]))) (u:=some (.ref D)) (zn.refl F) (λx L=>Ak λz=>(qx.mp L).elim (λw=>h3 (z▸w)) λw=>h2 (z▸w)) (.so new .nil);rw[es]at a2;let p:(fa++((D::(fl++fs))++[]++fb)).Perm (fa++((D::fl)++fb)++(fs++[])):=by simp;show List.Perm.append_left _ (List.Perm.cons _ (List.Perm.append_left _ qM))
   show#[zn.updR r.fr M.1,λx o w=>?_,_,a2,p.nodup_iff.mpr nd,λx L=>ap x (by simpa using p.mem_iff.mp L)];let L:x≠D:=λz=>by rw[z,M.2]at w;cases w
   rw[Ak L];show r.gr x o w
end
section
variable{D:Addr}
def LO(L:X.xe=λ_ _=>False)(h:FE X h5 we):jD X (eval h5 X.env>>=λx=>call (.builtin "list.append") [.ref D,x]>>=λ_=>pure ()) (nT X n D (bN n we)):=by
 intro zC s Z H Q I q;let#[F,G,U,P,h2,h3,hw,h4]:=q;let hp:PassesOwn (model X.prog X.w) X.A X.env X.xe:=by rw[L];show PassesOwn.never
 have he:=h X.pn X.xe hp zC s Z H (λv H1=>∃O U1 t l,zn F O/\Rel X.K (U1++[some t]) (Z++[some v]) O G H1/\slot U1 n=some (.lst l)/\l.length<big/\P (U1.set n (some (.lst (l++[t]))))) I
  #[F,G,U,_,NX,h2,hw,λr U1 v O H1 B s1 Y rv=>?_,HM]
 .let J:∀e s',X.xe e s'->False:=λe s' z=>by rw[L]at z;exact z
  show qa (zg he (λu s1 zq=>?_) λe s' z=>J e s' z);show cps λ_ kk=>?_;let#[v,H1,I1,rv,O,U1,t,l,sm,Y,hs,hz,hP]:=zq;let#[xs,hD,M,r2]:=Rel.append Y hs h3;show kk ?_;show qa (zg (IL zC s1 Z H1 (.ref D) [v] (.ref D) [u] (λw H'=>w=.non/\H'=upd H1 D (.lst (xs++[v]))) I1 rfl (.cons rv .nil) #[D,xs,v,rfl,rfl,hD,by rw[M];show lt_trans hz ⋯,rfl,rfl]) (λw s2 zq=>?_) λe s' z=>J e s' z);let#[w',H2,I2,_,_,e2]:=zq;subst e2;show qb #[Z,_,I2,h4 _ Z O _ hP KP.refl sm r2]
 .obtain⟨⟨t,h1⟩,eg,B⟩:=Av B;let#[F2,s2,l2,r2]:=AF (U':=[]) (Z':=[]) Y (Ae Y) rv eg;split at B
  .rename_i l e;show#[F2,h1,t,l,s1.trans s2,r2,e,B.1,B.2]
  .show B.elim
def Es:gE X [] (gT X cV):=λzC s Z H Q I q=>Rz zC s Z H Q I (by let#[F,G,U,P,PX,v,B,z,J]:=q;show z true U F H B (zn.refl F) v)
def ID(v:X.xe=λ_ _=>False)(h:FT X c wc):gE X [c] (gT X wc):=QM (h X.pn X.xe (by rw[v];show PassesOwn.never))
def LI(it:iH X.K J l F)(h6:Rel X.K U Z F G H)(h9:Z[n]?=some (some (.ref D)))
  (hw:aL g wc b l U P NX)(e2:∀U' Z' F' H',P U'->KP (List.range (n+1)) Z Z'->zn F F'->Rel X.K U' Z' F' G H'->Q Z' H'):
  eR (sO X (List.range (n+1)) g) (gT X wc) (nT X n D b) J Z H Q:=by
 let h2:∀{Z':St},KP (List.range (n+1)) Z Z'->Z'[n]?=some (some (.ref D)):=λk=>by rw[k n (by simp)];show h9
 show#[λi m v H2=>m=l.length-i/\i<=l.length/\∃F2 U2,KP (List.range (n+1)) Z v/\zn F F2/\Rel X.K U2 v F2 G H2/\aL g wc b (l.drop i) U2 P NX,#[l.length,by simp,zero_le _,F,U,KP.refl,zn.refl F,h6,hw],?_];rintro i m v H2 ⟨rfl,hi,F2,U2,kp,s2,r2,z⟩;let#[h8,h7]:=it i U2 v F2 G H2 s2 r2;by_cases B:i<l.length
 .obtain⟨go,h5⟩:=h8 l[i] (by simp);show .inr #[go,λL H3=>i+1<=l.length/\∃F3 Y,KP (List.range (n+1)) Z L/\zn F F3/\Rel X.K Y L F3 G H3/\aL g wc b (l.drop (i+1)) Y P NX,λL H3 h=>#[l.length-(i+1),∅,rfl,h],λy H3 hy=>?_];let#[F3,s3,r3,rp]:=h5 y H3 hy;rw[drop_eq_getElem_cons B]at z;show#[F3,G,U2,_,_,r3.push rp,z,λh4 e3 F4 H4 e1 k4 s4 r4=>?_];let M:=kp.trans k4;let h1:=s2.trans (s3.trans s4);show#[F4,G,h4,_,_,r4,e1,λk O F5 H5 h3 s5 r5=>?_,HM];cases k with
  |true=>show#[F5,G,O,_,r5,h2 M,h3,λU' Z' F' H' h k' s r=>#[B,F',U',M.trans k',h1.trans (s5.trans s),r,h]]
  |false=>show#[B,F5,O,M,h1.trans s5,r5,h3]
 .let e:i=l.length:=Nat.le_antisymm hi (not_lt.mp B);subst e;rw[List.drop_length]at z;show .inl #[h7 (q5 _),e2 U2 v F2 H2 z kp s2 r2]
def RG(hxe:X.xe=λ_ _=>False)(hi:FI X tg iter wi)(hl:gO X e d (.ref D) tg (eR (sO X (List.range (n+1)) g) (gT X wc) (nT X n D b)))
  (hs:∀x,foldedSetIterable iter X.env x=pure x)(hm:X.A.mark none=X.A)
  (hq:∀it,(Code.compLoop e d (.ref it) (.ref D) X.env).quiet=true)(hun:∀it,X.A.under (.compStart e d (.ref it) (.ref D) X.env)=X.A)
  (hden:∀it,(model X.prog X.w).den (.compStart e d (.ref it) (.ref D) X.env)=(compStart e d (.ref it) (.ref D) X.env).onRaise (λx=>do noteFrame x X.env;standAt theWindowsPlace))
  (heq:∀it,∃p,compStart e d (.ref it) (.ref D) X.env=(ask>>=λc=>if c.params.followText "comprehension-iter-twice"=true then again (.compLoop e d (.ref it) (.ref D) X.env)else
   rule "comprehension.iter-twice">>=λ_=>standAt p>>=λ_=>pyIter (.ref it)>>=λit'=>again (.compLoop e d it' (.ref D) X.env))):
  iF X (eval iter X.env>>=λx=>standAt ip>>=λ_=>foldedSetIterable iter X.env x>>=λx=>holding [x] (pyIter x)>>=λit=>runOwn (.compStart e d it (.ref D) X.env) X.env>>=λ_=>again c0) c0 (nT X n D (nM wi g wc b)):=by
 intro zC s Z H Q I q;let#[F,G,U,P,zE,hZ,hw,hok]:=q;let hp:PassesOwn (model X.prog X.w) X.A X.env X.xe:=by rw[hxe];show PassesOwn.never
 let xe0:∀e s',X.xe e s'->False:=λe s' z=>by rw[hxe]at z;show z
 have hi':=hi X.pn X.xe hp zC s Z H (λJ H1=>eR (sO X (List.range (n+1)) g) (gT X wc) (nT X n D b) J Z H1 Q) I
  #[F,G,U,_,NX,zE,hw,λl U1 F1 H1 J hk s1 r1 it=>LI it r1 hZ hk λU' Z' F' H' a k s r=>hok U' Z' F' H' a k (s1.trans s) r,HM]
 show qa (zg hi' (λx s1 h1=>?_) λe s' z=>xe0 e s' z);show qa (wpAny_standAt (qa (zf (hs x) (qa (ze (zg h1 (λitv s2 h2=>?_) λe s' z=>xe0 e s' z))))));let#[it,fp,tn,J,H2,e1,I2,T,st,f,q2]:=h2;subst e1;show qa (wpAny_runOwn ?_);show codeAny_mono (Mw hl hq hun hden heq I2 T st f q2) λr s3 zq=>?_;let#[Z3,H3,er,I3,q3]:=zq;subst er;show qb #[rfl,Z3,H3,I3,q3]
end
def Mq{α:Type}{l:List α}{a:α}(h:l[n]?=some a):l=l.take n++a::l.drop (n+1):=by let#[v,e]:=qg.mp h;rw[<-e,<-drop_eq_getElem_cons v,take_append_drop]
section
variable{X:Cx}
def Ih(hmk:∀(A:Around)(E:zh)(s:Shared)(Q:zh),Q (.ref s.heap.objs.size) {s with heap:=s.heap.push {cls:=.type ty,dict:=none,data:=dat}}->wpAny (model X.prog X.w) A mk Q E s)(ho:∀(H:Hp)(h:Heap),sysModules<h.objs.size->zB X.prog X.w H (h.push {cls:=.type ty,dict:=none,data:=dat}) h.objs.size o0)(hs0:∀(F H:Hp)(p:Addr),H p=some o0->aH X.K F H (.ref p) s0 [p])(hcl:clausesOf e=⟨tg,iter,ifs,0⟩::gs)(hs:∀x,foldedSetIterable iter X.env x=pure x)
  (Sc:bR X.env.scope scope X.N vars)(hk:vars.length=k)(hi:FI X tg iter wi)
  (hb:∀(s:Shared)(H:Hp)(ex:List Addr)(D:Addr),gO (aF X scope vars s H ex) e 0 (.ref D) tg (eR (sO (aF X scope vars s H ex) (List.range (X.N.length+1)) g) (gT (aF X scope vars s H ex) wc) (nT (aF X scope vars s H ex) X.N.length D b)))
  (hq:∀it zH env,(Code.compLoop e 0 (.ref it) zH env).quiet=true)(hun:∀it zH env,X.A.under (.compStart e 0 (.ref it) zH env)=X.A)
  (hden:∀it zH env,(model X.prog X.w).den (.compStart e 0 (.ref it) zH env)=(compStart e 0 (.ref it) zH env).onRaise (λx=>do noteFrame x env;standAt theWindowsPlace))
  (heq:∀it zH env,∃p,compStart e 0 (.ref it) zH env=(ask>>=λc=>if c.params.followText "comprehension-iter-twice"=true then again (.compLoop e 0 (.ref it) zH env)else
   rule "comprehension.iter-twice">>=λ_=>standAt p>>=λ_=>pyIter (.ref it)>>=λit'=>again (.compLoop e 0 it' zH env)))(hp:PassesOwn (model X.prog X.w) X.A X.env xe){P:WQ}(I:Inv (wp X pn xe) zC Z H s)
  (zE:Rel X.K U Z F G H)(hw:wi U (λl U1=>aL g wc b l (U1++some s0::List.replicate k none) (λU2=>zm (slot U2 X.N.length) λs=>P (.v s) (U2.take X.N.length)) NX) PX)(hx:XC (wp X pn xe) (·=Z) F G PX)
  (fin:∀(D C:Addr)(s4:Shared)(H4 F4:Hp)(m:Str->Option Value)(t:S)(U4:Env),s4.heap.Ns C m->Inv (wp X pn xe) zC Z H4 s4->H4 C=none->C≠X.env.locals->X.s₀.heap.objs.size<=C->(∀x c,X.env.cells.lookup x=some c->c≠C)->(∀p∈pn++zC,p.1≠C)->
   P (.v t) U4->zn F F4->Rel X.K (U4++[some t]) (Z++[some (.ref D)]) F4 G H4->compPost (model X.prog X.w) X.A xe use Q' (.ref D) C (.ok .next) s4):
  wpAny (model X.prog X.w) X.A (comprehension e scope X.env cpos mk false (eval iter X.env) use) Q' xe s:=by
 have hi':=hi pn xe hp zC s Z H (λJ H1=>∃F1 U1 l,zn F F1/\Rel X.K U1 Z F1 G H1/\iH X.K J l F1/\
   aL g wc b l (U1++some s0::List.replicate k none) (λU2=>zm (slot U2 X.N.length) λs=>P (.v s) (U2.take X.N.length)) NX) I
  #[F,G,U,_,PX,zE,hw,λl U1 F1 H1 J hk s1 r1 it=>#[F1,U1,l,s1,r1,it,hk],hx]
 let hfree:∀x∈scope.names,x.2=.free->∃c,X.env.cells.lookup x.1=some c:=λx hx hf=>I.ok.has x.1 (Sc.fr x hx hf);show wpAny_comprehension_free (use:=use) hcl hs (Ts hfree) Sc.kind (λx hx hl=>(HL Sc.nd).mpr (by let#[a,b]:=x;let hl':b=.local:=hl;subst hl';show hx)) (zg hi' (λv s1 h1=>zg h1 (λitv s2 h2=>?_) λ_ _ z=>z) λ_ _ z=>z);show cps λ_ kk=>?_;let#[it,fp,tn,J,H2,e1,I2,T,st,f,F1,U1,l,s1',r1,ito,hk2]:=h2;show kk ?_;subst e1
 --the zH
 show hmk _ _ _ _ ?_;generalize hs3:({s2 with heap:=s2.heap.push {cls:=.type ty,dict:=none,data:=dat}}:Shared)=s3;let k23:∀b o,s2.heap.get? b=some o->s3.heap.get? b=some o:=λb o e=>by rw[<-hs3];show qc _ e
 let sz3:s3.heap.objs.size=s2.heap.objs.size+1:=by rw[<-hs3];show Heap.size_push ..
 let hD:H2 s2.heap.objs.size=none:=I2.hok.fresh (q5 _);let I3:Inv (wp X pn xe) zC Z (upd H2 s2.heap.objs.size o0) s3:=by rw[<-hs3];show I2.laid (t':=s2.toks) (λb o e=>qc _ e) (q5 _) (ho _ _ I2.big)
 let r3:Rel X.K (U1++[some s0]) (Z++[some (.ref s2.heap.objs.size)]) F1 G (upd H2 s2.heap.objs.size o0):=r1.newO hD (hs0 _ _ _ Bx);let fplt:∀b∈fp,b<s2.heap.objs.size:=λb hb=>by let#[o,e,_]:=T.obj _ _ st b hb;show qe e
 let fne:∀b∈fp,b≠s2.heap.objs.size:=λb hb=>ne_of_lt (fplt b hb);let f3:∀b∈fp,dM (wp X pn xe) zC (upd H2 s2.heap.objs.size o0) b:=λb hb=>by let#[h1,h2]:=f b hb;show#[by rw[Ak (fne b hb)];show h1,h2]
 show Tc λh' kept hns hcl'=>?_;let I4:=Inv.comp (X:=wp X pn xe) (ex:=fp) I3 Sc (λb hb=>#[f3 b hb,by rw[sz3];show lt_succ_of_lt (fplt b hb)]) kept hns hcl' hk (some (.ref s2.heap.objs.size));let hZn:(Z++some (.ref s2.heap.objs.size)::List.replicate k none)[X.N.length]?=some (some (.ref s2.heap.objs.size)):=by let hl:X.N.length=Z.length:=I2.len.symm;rw[hl,getElem?_append_right (q5 _),sub_self];rfl
 let r4:Rel X.K (U1++some s0::List.replicate k none) (Z++some (.ref s2.heap.objs.size)::List.replicate k none) F1 G (upd H2 s2.heap.objs.size o0):=by let:=r3.pushNs k;simpa using this
 let st4:tn 0 h':=T.keep _ _ _ st λb hb o e=>kept b o (k23 b o e);let f4:∀b∈fp,dM (aF X scope vars s3 (upd H2 s2.heap.objs.size o0) fp) [] (upd H2 s2.heap.objs.size o0) b:=λb hb=>by let#[h1,h2,h3,h4,h5,h6]:=f3 b hb;let e:=I4.ok.exf b hb;show#[h1,e.1,I4.ok.exfs b hb,.inl hb,e.2,λp hp=>absurd (show p∈([]:List (Addr×Obj)) from hp) (by simp)]
 have go:=Mw (hb s3 (upd H2 s2.heap.objs.size o0) fp s2.heap.objs.size) (λit=>hq it _ _) (λit=>hun it _ _) (λit=>hden it _ _) (λit=>heq it _ _) I4 T st4 f4
  (Q:=λZ' H'=>∃F' U',zm (slot U' X.N.length) (λs=>P (.v s) (U'.take X.N.length))/\KP (List.range (X.N.length+1)) (Z++some (.ref s2.heap.objs.size)::List.replicate k none) Z'/\zn F1 F'/\Rel X.K U' Z' F' G H')
  (LI ito r4 hZn hk2 λU' Z' F' H' a kp sm r=>#[F',U',a,kp,sm,r])
 show codeAny_mono go λr s4 zq=>?_;show cps λ_ kk=>?_;let#[Z4,H4,er,I5,F4,U4,hn4,kp4,sm4,r5]:=zq;subst er;let#[m,hm,_]:=id I5.loc;show kk ?_;let I6:Inv (wp X pn xe) zC Z H4 s4:=Inv.call' (ch:=fp) I3 I5.os I5.base I5.hok I5.bare λb hb=>by let#[h1,h2,h3,h4,h5,h6]:=f3 b hb;show#[h4,h2,h5,h6]
 --the block's names go
 let#[t,et,hP]:=Av hn4;let hl:X.N.length=Z.length:=I2.len.symm;let hZ4:Z4[X.N.length]?=some (some (.ref s2.heap.objs.size)):=by rw[kp4 X.N.length (by simp)];show hZn
 have eZ:Z4.take X.N.length=Z:=by
  apply ext_getElem?;intro j;by_cases hj:j<X.N.length
  .rw[List.getElem?_take_of_lt hj,kp4 j (by simp;lia -verbose),getElem?_append_left ∅]
  .rw[List.getElem?_take_eq_none (not_lt.mp hj),qO ∅]
 let e1:=Mq (Jl et);let e2:=Mq hZ4;rw[e1,e2,eZ]at r5;let r6:Rel X.K ((U4.take X.N.length++[some t])++U4.drop (X.N.length+1)) ((Z++[some (.ref s2.heap.objs.size)])++Z4.drop (X.N.length+1)) F4 G H4:=↑r5
 let hlt:X.N.length<U4.length:=Gy et;let ltC:∀{b:Addr}{o:Obj},s3.heap.get? b=some o->b≠s3.heap.objs.size:=λe=>ne_of_lt (qe e);show fin s2.heap.objs.size s3.heap.objs.size s4 H4 F4 m t (U4.take X.N.length) hm I6 I5.free (Ne.symm (ne_of_lt I3.lt)) I3.sz (λx c e z=>?_) (λp hp z=>?_) hP (s1'.trans sm4) (r6.drop (by simp;lia -verbose))
 .obtain⟨v,o,ho,_⟩:=I3.cell x c e;show ltC ho z
 .show ltC (I3.pin p hp).1 z
def KD{P:WQ}(M:∀r U' v F' H',P r U'->zn F F'->Rel X.K (U'++[zo r]) (Z++[some v]) F' G H'->RV Z v r->Q v H'):
  ∀(D C:Addr)(J:Shared)(B L:Hp)(m:Str->Option Value)(t:S)(z:Env),J.heap.Ns C m->Inv (wp X pn xe) zC Z B J->B C=none->C≠X.env.locals->X.s₀.heap.objs.size<=C->(∀x c,X.env.cells.lookup x=some c->c≠C)->(∀p∈pn++zC,p.1≠C)->
   P (.v t) z->zn F L->Rel X.K (z++[some t]) (Z++[some (.ref D)]) L G B->compPost (model X.prog X.w) X.A xe none (EP (wp X pn xe) zC Z Q) (.ref D) C (.ok .next) J:=
 λD C J B L m t z hm I n1 n2 n3 n4 n5 hP O r=>#[m,hm,λh1 Y=>#[.ref D,B,I.turned (t':=J.toks) (λb o hb e=>(Y.2 b hb).trans e) n1 n2 (.inr (Heap.get?_none_of_le n3)) n4 n5,rfl,M (.v t) z _ L B hP O r trivial]]
def Ov{P:WQ}{Nx:Env->Prop}(hk:i∉ks)(hN:∀j,X.N[j]?=some y->j=i)(hi:X.N[i]?=some y)(hy:X.env.scope.names.lookup y=some .local)
  (hP:∀s U,P (.v s) U->Nx (U.set i (some s)))(Y:∀U' Z' F' H',Nx U'->KP ks Z Z'->zn F F'->Rel X.K U' Z' F' G H'->DD.nx Z' H'):
  ∀(D C:Addr)(L:Shared)(B M:Hp)(m:Str->Option Value)(t:S)(z:Env),L.heap.Ns C m->Inv (wp X pn xe) zC Z B L->B C=none->C≠X.env.locals->X.s₀.heap.objs.size<=C->(∀x c,X.env.cells.lookup x=some c->c≠C)->(∀p∈pn++zC,p.1≠C)->
   P (.v t) z->zn F M->Rel X.K (z++[some t]) (Z++[some (.ref D)]) M G B->compPost (model X.prog X.w) X.A xe (some (assign (.Name y py) X.env)) (λ_ s'=>SP (wp X pn xe) zC DD .next s') (.ref D) C (.ok .next) L:=
 λD C L B M m t z hm I n1 n2 n3 n4 n5 hp sm r=>by
  let hl:=Ae r;let J:i<z.length:=by rw[hl,I.len];show(qg.mp hi).1
  refine wpAny_assign_Name (Mb (X:=wp X pn xe) (v:=.ref D) I hN hi (.inl hy) rfl (λs5 I5 zq=>?_) (.inr hy));let#[a,sb,ha]:=zq;let h1:C≠a:=by
   rcases ha with e|e
   .rw[e];show n2
   .show Ne.symm (n4 y a e)
  show#[m,hm.sameBut sb h1,λh2 O=>#[_,B,I5.turned (t':=s5.toks) (λb o hb e=>(O.2 b hb).trans e) n1 n2 (.inr (Heap.get?_none_of_le n3)) n4 n5,?_]];show Y _ _ M B (hP t z hp) (KP.set hk) sm (r.store hl J)
def KF(A:Around)(E:zh)(s:Shared)(Q:zh)(h:Q (.ref s.heap.objs.size) {s with heap:=s.heap.push {cls:=.type ty,dict:=none,data:=dat}})(hz:sizeOk dat:=by size_fits):wpAny (model X.prog X.w) A (newObj (.type ty) dat) Q E s:=zb h hz
def Ks(H:Hp)(h:Heap)(_:sysModules<h.objs.size):zB X.prog X.w H (h.push {cls:=.type "list",dict:=none,data:=.seq ([]:List Value).toArray}) h.objs.size (.lst []):=#[zero_le _,[],0,.nil,qd _ rfl]
def Kh(F H:Hp)(p:Addr)(e:H p=some (.lst [])):aH X.K F H (.ref p) (.lst []) [p]:=.lst e .nil
def Eu(hn:X.N.length=n)(hc:X.calm=true)(Sc:bR X.env.scope scope X.N vars)(hk:vars.length=k)(hi:FI X tg iter L)
  (hg:∀s H ex,FG (aF X scope vars s H ex) (List.range (n+1)) tg g)(ht:∀s H ex,gE (aF X scope vars s H ex) z (gT (aF X scope vars s H ex) wc))(he:∀s H ex,FE (aF X scope vars s H ex) J M)
  (hs:∀x,foldedSetIterable iter X.env x=pure x:=by intro _;rfl):FE X (.ListComp J [#[tg,iter,z,0]] scope pos) (iQ n k L g wc (bN n M)):=by
 subst hn;intro pn xe hp zC s Z H Q I q;let#[F,G,U,P,PX,v,Y,B,O]:=q;show Ih (λA E s Q h=>KF A E s Q h) (s0:=.lst []) Ks Kh rfl hs Sc hk hi (λs H ex D=>?_) (λ_ _ _=>rfl) (λ_ _ _=>rfl) (λ_ _ _=>rfl) (λ_ _ _=>#[_,rfl]) hp I v Y O (KD B);show Hq (X:=aF X scope vars s H ex) hc rfl (hg s H ex [] (λ_ _=>False) PassesOwn.never) (ht s H ex) (λ_=>(LO (X:=aF X scope vars s H ex) rfl (he s H ex)).f) (λ_=>rfl) (λ_=>rfl) (λ_=>rfl) (λ_=>rfl)
def LU(O:i∉ks)(hN:∀j,X.N[j]?=some y->j=i)(Y:X.N[i]?=some y)(hy:X.env.scope.names.lookup y=some .local)
  (M:swapsWith (.ListComp J [#[tg,iter,B,0]] scope pos) (some (.Name y py)) spos.line X.env=pure true)
  (hn:X.N.length=n)(hc:X.calm=true)(Sc:bR X.env.scope scope X.N vars)(hk:vars.length=k)(hi:FI X tg iter wi)
  (hg:∀s H ex,FG (aF X scope vars s H ex) (List.range (n+1)) tg g)(ht:∀s H ex,gE (aF X scope vars s H ex) B (gT (aF X scope vars s H ex) wc))(he:∀s H ex,FE (aF X scope vars s H ex) J we)
  (hs:∀x,foldedSetIterable iter X.env x=pure x:=by intro _;rfl):FS X ks (.Assign [.Name y py] (.ListComp J [#[tg,iter,B,0]] scope pos) spos) (zx (zl i) (iQ n k wi g wc (bN n we))):=by
 subst hn;intro pn xe hp zC s Z H D I q;rw[exec_Assign_Name_used _ _ _ _ M];show qa (wpAny_standAt (qa ?_));let#[F,G,U,E,L,hw,n,b,c,r,x]:=q;refine qa (zg (Ih (λA E s Q h=>KF A E s Q h) (s0:=.lst []) (P:=λr v=>zm (give r v) λp=>zl i p.1 p.2 E.nx) (PX:=E.ex) (g:=g) (wc:=wc) (b:=bN X.N.length we) (Q':=λ_ s'=>SP (wp X pn xe) zC D .next s') Ks Kh rfl hs Sc hk hi (λs H ex D=>?_) (λ_ _ _=>rfl) (λ_ _ _=>rfl) (λ_ _ _=>rfl) (λ_ _ _=>#[_,rfl]) hp I L hw (x.mono (λh1 z=>by rw[z];show KP.refl) (zn.refl F) (zn.refl G))
  (Ov (P:=λr v=>zm (give r v) λp=>zl i p.1 p.2 E.nx) (Nx:=E.nx) O hN Y hy (λs U h=>h) n)) (λ_ s' hq=>qb (qb hq)) λ_ _ e=>e)
 show Hq (X:=aF X scope vars s H ex) hc rfl (hg s H ex [] (λ_ _=>False) PassesOwn.never) (ht s H ex) (λ_=>(LO (X:=aF X scope vars s H ex) rfl (he s H ex)).f) (λ_=>rfl) (λ_=>rfl) (λ_=>rfl) (λ_=>rfl)
end
section
variable{K:W.Frag}
def Gb{x:Str}(e:x.cps.toList=l):x.length=l.length:=by rw[<-e];rfl
def PD{x y:Str}(e:x.cps.toList=l)(v:y.cps.toList=m):(x++y).cps.toList=l++m:=by show(x.cps++y.cps).toList=_;rw[toList_append,e,v]
def aX.int(h:aX K F H v (.int i)):v=.int i:=by
 rcases h with h|⟨_,_,_,_,h,_⟩|⟨_,_,_,_,_,h,_⟩|⟨_,_,_,_,_,h,_⟩
 .cases h;rfl
 .cases h
 .cases h
 .cases h
def aX.str(h:aX K F H v (.str l)):∃x,v=.str x/\x.cps.toList=l/\l.length<=16777216:=by
 rcases h with h|⟨_,_,_,_,h,_⟩|⟨_,_,_,_,_,h,_⟩|⟨_,_,_,_,_,h,_⟩
 .cases h with
  |str e z=>show#[_,rfl,e,z]
 .cases h
 .cases h
 .cases h
def aX.tup(h:aX K F H v (.tup l)):∃a xs,v=.ref a/\F a=some (.tup xs)/\zA K F xs l:=by
 rcases h with h|⟨_,_,_,_,h,_⟩|⟨_,_,_,_,_,h,_⟩|⟨_,_,_,_,_,h,_⟩
 .cases h with
  |tup e r=>show#[_,_,rfl,e,r]
 .cases h
 .cases h
 .cases h
def aX.lst(z:zn F H)(h:aX K F H v (.lst l)):∃a xs,v=.ref a/\bK K H a xs/\zA K F xs l:=by
 rcases h with h|⟨a,xs,J,G,h,B,r⟩|⟨_,_,_,_,_,h,_⟩|⟨_,_,_,_,_,h,_⟩
 .cases h with
  |lst e r=>show#[_,_,rfl,bK.mono z e,r]
 .cases h;show#[a,xs,G,bK.of B,r]
 .cases h
 .cases h
def zA.append(a:zA K F xs l)(r:zA K F ys m):zA K F (xs++ys) (l++m):=zA.ind (P:=λxs l=>zA K F (xs++ys) (l++m)) r (λa _ v=>.cons a v) a
def Rel.newLD(r:Rel K U Z F G H)(J:H p=none)(z:zA K F xs l):Rel K (U++[some (.lst (l.map .sh))]) (Z++[some (.ref p)]) F G (upd H p (.lst xs)):=by
 have v:∀{xs:List V}{l:List D},zA K F xs l->zr K F (upd H p (.lst xs)) xs (l.map .sh) []:=by
  intro xs l h;generalize upd H p (.lst xs)=H';induction xs generalizing l with
  |nil=>cases h;show .nil
  |cons x xs B=>cases h with
   |cons a b=>have:=zr.cons (aH.sh (H:=H') a) (B b);show this
 show r.newO J (.lst Bx ?_);let:=v z;show this
def nZ(K:W.Frag):R2:=λx y H Q=>∃l b xs v,x=.ref l/\y=.ref b/\bK K H l xs/\bK K H b v/\xs.length+v.length<=sizeLine/\∀p,H p=none->Q (.ref p) (upd H p (.lst (xs++v)))
def Pt:OpR X (binaryOp .Add) (nZ X.K):=by
 intro zC s Z H x y v u Q I rx ry h;let#[l,b,xs,zs,rfl,rfl,hl,hb,hz,q]:=h;cases rx;cases ry;let#[B,r1,#[#[cls,dd,data,sl],n,ho,hc,M,hd],_]:=I.list hl;let#[z,Y,#[#[h1,h2,data2,J],n2,F,O,G,L],_]:=I.list hb;subst hc M hd O G L;show concat_meets #[_,ho,rfl] #[_,F,rfl] noFill_list_add seq_list_add PySem.F.slot_list_add PySem.F.entry_list_add (PySem.F.args_list_add_2 _ _) (list_addW l b B.toArray z.toArray n n2 none none sl J (by rw[qr,qr,<-r1.length,<-Y.length];show hz)) #[ho,F,?_];let ea:B.toArray++z.toArray=(B++z).toArray:=by simp
 rw[ea];show#[.ref _,_,I.lnew (t':=s.toks) (r1.append Y) (by rw[qq];show hz),rfl,q _ I.fresh]
def kR(K:W.Frag):R2:=λx y H Q=>∃a b xs ys,x=.ref a/\y=.ref b/\bJ K H a xs/\bJ K H b ys/\xs.length+ys.length<=sizeLine/\
 (xs=[]->Q (.ref b) H)/\(xs≠[]->ys=[]->Q (.ref a) H)/\(xs≠[]->ys≠[]->∀p,H p=none->Q (.ref p) (upd H p (.tup (xs++ys))))
def QC:OpR X (binaryOp .Add) (kR X.K):=by
 intro zC s Z H x y v u Q I rx Y h;let#[a,b,xs,ys,rfl,rfl,ha,hb,hz,q0,q1,q2]:=h;by_cases F:xs=[]
 .cases rx;cases Y;let#[B,r1,p1,_]:=I.tuple ha;let#[z,r2,p2,_]:=I.tuple hb;let#[#[cls,dd,data,sl],ho,hc,n,hd]:=id p1;let#[#[h1,O,data2,J],G,M,n2,L]:=id p2;subst hc hd M L;let hi:B=[]:=r1.nil_iff.mpr F;exact concat_meets #[_,ho,rfl] #[_,G,rfl] noFill_tuple_add seq_tuple_add PySem.F.slot_tuple_add PySem.F.entry_tuple_add (PySem.F.args_tuple_add_2 _ _)
   (tuple_addW0 a b B.toArray z.toArray n n2 dd O sl J (by simp[hi])) #[ho,G,.ref b,H,I,rfl,q0 F]
 .show Ow zC s Z H _ _ v u Q I rx Y #[a,b,xs,ys,rfl,rfl,ha,hb,F,hz,q1 F,q2 F]
def mH:R2:=λx y H Q=>∃i j,x=.str i/\y=.str j/\i.length+j.length<=sizeLine/\Q (.str (i++j)) H
def iT(K:W.Frag):R2:=λx y H Q=>rA (λi j=>.int (i+j)) x y H Q\/(mH x y H Q\/(nZ K x y H Q\/kR K x y H Q))
def Sg:OpR X (binaryOp .Add) (iT X.K):=OpR.or Nq (OpR.or SI (OpR.or Pt QC))
def HA(h:n<=big):n<=sizeLine:=by rw[zd];show le_trans h ⋯
def RC:gF K (iT K) bY:=by
 intro Z U F G H x y p q s Q v ex O e J;unfold bY at e;split at e
 .cases e;let h1:=ex.int;let h2:=O.int;subst h1 h2;show .inl #[_,_,rfl,rfl,J _ F H (zn.refl F) (v.push (.int _))]
 .rename_i a b;split at e
  .rename_i L;cases e;let#[x,rfl,e1,z1]:=ex.str;let#[y,rfl,e2,z2]:=O.str;show .inr (.inl #[_,_,rfl,rfl,by rw[Gb e1,Gb e2];show HA L,J _ F H (zn.refl F) (v.push (.str (PD e1 e2) (by rw[qq];show le_trans L ⋯)))])
  .cases e
 .rename_i a b;split at e
  .rename_i L;cases e;let#[l,xs,rfl,h1,B]:=ex.lst v.fr;let#[m,ys,rfl,h2,z]:=O.lst v.fr;show .inr (.inr (.inl #[l,m,xs,ys,rfl,rfl,h1,h2,by rw[B.len,z.len];show HA L,λp M=>?_]));show J _ F _ (zn.refl F) (v.newLD M (B.append z))
  .cases e
 .rename_i a b;split at e
  .rename_i L;cases e;let#[l,xs,rfl,h1,B]:=ex.tup;let#[m,ys,rfl,h2,z]:=O.tup;refine .inr (.inr (.inr #[l,m,xs,ys,rfl,rfl,bJ.of (v.fr _ _ h1),bJ.of (v.fr _ _ h2),by rw[B.len,z.len];show HA L,λhx=>?_,λ_ hy=>?_,λ_ _ p M=>?_]))
   .subst hx;cases B;show J _ F H (zn.refl F) (v.push (.tup h2 z))
   .subst hy;cases z;rw[qz]at J;show J _ F H (zn.refl F) (v.push (.tup h1 B))
   .let Y:=(v.free M).1;show J _ _ _ (zn.upd Y) ((v.newF M).push (.tup Bx ((B.append z).mono (zn.upd Y))))
  .cases e
 .cases e
def GD{g:Int->Int->Int}(B:∀p q s,o p q=some s->∃i j,p=.int i/\q=.int j/\C i j/\s=.sh (.int (g i j))):gF K (rI C λi j=>.int (g i j)) o:=by intro Z U F G H x y p q s Q v ex L e z;let#[i,j,rfl,rfl,J,rfl]:=B p q s e;let h1:=ex.int;let h2:=L.int;subst h1 h2;show#[i,j,rfl,rfl,J,z _ F H (zn.refl F) (v.push (.int _))]
def Qm:gF K (rI (λ_ _=>True) λi j=>.int (i-j)) kS:=GD λp q s e=>by
 unfold kS at e;split at e
 .cases e;show#[_,_,rfl,rfl,trivial,rfl]
 .cases e
def Om:OpR X (binaryOp .Sub) (rI (λ_ _=>True) λi j=>.int (i-j)):=GM λ_ _ _ _ _ _ _ _ q=>sub_int q
def PR:gF K (rI lS λi j=>.int (i*j)) kU:=GD λp q s e=>by
 unfold kU at e;split at e
 .rename_i i j;split at e
  .rename_i h;cases e;show#[_,_,rfl,rfl,?_,rfl];simp[iU,or_eq_true,and_eq_true,qR]at h;show h
  .cases e
 .cases e
def QG:gF K (rI (λ_ j=>0<j) λi j=>.int (i %j)) dX:=GD λp q s e=>by
 unfold dX at e;split at e
 .split at e
  .rename_i h;cases e;show#[_,_,rfl,rfl,h,rfl]
  .cases e
 .cases e
def PY:gF K (rI vN λi j=>.int (i^j.toNat)) kT:=GD λp q s e=>by
 unfold kT at e;split at e
 .split at e
  .rename_i h;cases e;show#[_,_,rfl,rfl,#[h.1,∅,h.2.2],rfl]
  .cases e
 .cases e
def oF(i j:Int):Prop:=0<j/\j<18446744073709551616
def Qj:OpR X (binaryOp .FloorDiv) (rI oF λi j=>.int (i/j)):=GM λi j _ _ _ _ _ v q=>by
 let h1:(0:Int)<j:=v.1;let h2:j<18446744073709551616:=v.2;show floordiv_int ∅ ?_ (.inl (PyProof.noPylong_of_log2 ?_))
 .rw[Int.fdiv_eq_ediv_of_nonneg _ ∅];show q
 .let z:j.natAbs≠0:=by lia
  let:j.natAbs.log2<64:=(Nat.log2_lt z).mpr ∅;lia
def So:gF K (rI oF λi j=>.int (i/j)) fO:=GD λp q s e=>by
 unfold fO at e;split at e
 .split at e
  .rename_i h;cases e;show#[_,_,rfl,rfl,h,rfl]
  .cases e
 .cases e
end
def Cu(F:FE X a z)(B:FE X b v):FE X (.BinOp a .Add b pos) (zu bY z v):=FU (λ_ _=>Sg) RC F B
def Of(F:FE X a z)(B:FE X b v):FE X (.BinOp a .Sub b pos) (zu kS z v):=FU (λ_ _=>Om) Qm F B
def EM(F:FE X a z)(B:FE X b v):FE X (.BinOp a .Mod b pos) (zu dX z v):=FU (λ_ _=>Nj) QG F B
def KC(F:FE X a z)(B:FE X b v):FE X (.BinOp a .FloorDiv b pos) (zu fO z v):=FU (λ_ _=>Qj) So F B
def Og(F:FE X a z)(B:FE X b v):FE X (.BinOp a .Pow b pos) (zu kT z v):=FU (λ_ _=>NN) PY F B
section
open PySem.SeqAt
def Sd(h:aI (.tup l) (.tup m)=false):bC l m=false:=h
def Hn:∀{l m:List D}{j:Nat}{a b:D},bC l m=false->l[j]?=some a->m[j]?=some b->aI a b=false
 |[],_,_,_,_,_,h,_=>by simp at h
 |_::_,[],_,_,_,_,_,h=>by simp at h
 |x::l,y::m,0,a,b,h,h1,h2=>by simp at h1 h2;subst h1 h2;let h':(aI x y||bC l m)=false:=h;rw[Bool.or_eq_false_iff]at h';show h'.1
 |x::l,y::m,j+1,a,b,h,h1,h2=>by let h':(aI x y||bC l m)=false:=h;rw[Bool.or_eq_false_iff]at h';show Hn h'.2 h1 ↑h2
def Hj:∀{l:List D}{j:Nat}{a:D},l[j]?=some a->eF a<=bM l
 |[],_,_,h=>by simp at h
 |x::l,0,a,h=>by simp at h;subst h;show eF x<=max (eF x) (bM l);lia
 |x::l,j+1,a,h=>by let:=Hj (l:=l) (j:=j) (a:=a) h;show eF a<=max (eF x) (bM l);lia
open Classical in
def He{l m:List D}(n:Nat)(hn:n=min l.length m.length):((List.range n).all (λj=>decide (l[j]?=m[j]?))&&(l.length==m.length))=decide (l=m):=by
 by_cases h:l=m
 .subst h;simp
 .rw[qQ h];by_cases v:l.length=m.length
  .have:(List.range n).all (λj=>decide (l[j]?=m[j]?))=false:=by
    cases q:(List.range n).all (λj=>decide (l[j]?=m[j]?))with
    |false=>rfl
    |true=>
     exfalso;apply h;apply ext_getElem?;intro j;by_cases z:j<n
     .show qS (qH.mp q j ↑z)
     .rw[qO ∅,qO ∅]
   rw[this];rfl
  .let:(l.length==m.length)=false:=by simpa using v
   rw[this,Bool.and_false]
inductive Sc:V->D->Prop
 |non:Sc .non .non
 |bl (b:Bool):Sc (.bl b) (.bl b)
 |int (i:Int):Sc (.int i) (.int i)
 |str {x:Str} {l:List Nat}:x.cps.toList=l->Sc (.str x) (.str l)
def JH{K:W.Frag}(r:aN K H v d)(z:aI d e=false)(h1:∀l,d≠.tup l)(h2:∀l,d≠.lst l):Sc v d:=by
 cases r with
 |tup=>show absurd rfl (h1 _)
 |lst=>show absurd rfl (h2 _)
 |dK=>cases e<;>cases z
 |dT=>cases e<;>cases z
 |st=>cases e<;>cases z
 |exc=>cases e<;>cases z
 |non=>show .non
 |bl=>show .bl _
 |int=>show .int _
 |str e _=>show .str e
def Ki{K:W.Frag}(r:aN K H u e)(s:Sc v d)(z:aI d e=false):Sc u e:=by
 cases r with
 |non=>show .non
 |bl=>show .bl _
 |int=>show .int _
 |str e _=>show .str e
 |_=>cases s<;>cases z
open Classical in
def KM{K:W.Frag}(r1:aN K H v d)(Y:aN K H u e)(F:zt v L)(z:zt u M)(G:aI d e=false)(h1:∀l,d≠.tup l)(h2:∀l,d≠.lst l):
  EqAt A s L M (decide (d=e))/\RcAt A s L M (decide (d=e)):=by
 let O:=JH r1 G h1 h2;let B:=Ki Y O G
 clear r1 Y h1 h2
 cases O with
 |non=>
  cases F;cases B with
  |non=>cases z;simp;show#[EqAt.same _,RcAt.none_none]
  |bl b=>cases z;simp;show#[EqAt.none_bool _,RcAt.none_bool _]
  |int i=>let#[t,rfl]:=z;simp;show#[EqAt.none_int _ _,RcAt.none_int _ _]
  |str e=>let#[t,rfl]:=z;simp;show#[EqAt.none_str _ _,RcAt.none_str _ _]
 |bl a=>
  cases F;cases B with
  |non=>cases z;simp;show#[EqAt.bool_none _,RcAt.bool_none _]
  |bl b=>
   cases z;let e:(decide (D.bl a=D.bl b))=(a==b):=by cases a<;>cases b<;>simp
   rw[e];show#[EqAt.bool_bool _ _,RcAt.bool_bool _ _]
  |str e=>let#[t,rfl]:=z;simp;show#[EqAt.bool_str _ _ _,RcAt.bool_str _ _ _]
  |int=>cases G
 |int i=>
  let#[t,rfl]:=F;cases B with
  |non=>cases z;simp;show#[EqAt.int_none _ _,RcAt.int_none _ _]
  |int j=>
   let#[J,rfl]:=z;let e:(decide (D.int i=D.int j))=(i==j):=by by_cases h:i=j<;>simp[h]
   rw[e];show#[EqAt.int_int _ _ _ _,RcAt.int_int _ _ _ _]
  |str e=>let#[J,rfl]:=z;simp;show#[EqAt.int_str _ _ _ _,RcAt.int_str _ _ _ _]
  |bl=>cases G
 |str e1=>
  let#[t,rfl]:=F;cases B with
  |non=>cases z;simp;show#[EqAt.str_none _ _,RcAt.str_none _ _]
  |bl b=>cases z;simp;show#[EqAt.str_bool _ _ _,RcAt.str_bool _ _ _]
  |int j=>let#[J,rfl]:=z;simp;show#[EqAt.str_int _ _ _ _,RcAt.str_int _ _ _ _]
  |str e2=>
   obtain⟨J,rfl⟩:=z;rename_i x l y m;let e:(decide (D.str l=D.str m))=(x==y):=by
    by_cases h:x=y
    .subst h;rw[<-e1,<-e2];simp
    .let hb:(x==y)=false:=by simpa using h
     rw[hb];show qQ λq=>h ?_;let#[#[a]]:=x;let#[#[b]]:=y;let a1:a=l:=e1;let b1:b=m:=e2;rw[a1,b1,D.str.inj q]
   rw[e];show#[EqAt.str_str _ _ _ _,RcAt.str_str _ _ _ _]
def Fq(r:zz xs v)(h:j<v.toArray.size):∃x,xs[j]?=some x/\zt x v.toArray[j]:=by
 let G:=r.length;let J:j<v.length:=h;let F:j<xs.length:=∅
 let#[u,B,z]:=r.get (i:=j) (x:=xs[j]) (by simp);show#[xs[j],by simp,?_];let:v.toArray[j]=u:=by let:=qg.mp B;simpa using this.2
 rw[this];show z
mutual
theorem aN.uniq(I:Inv X zC Z H s)(r:aN X.K H v d)(q:aN X.K H v e)(z:aI d e=false):d=e:=by
 cases r with
 |non=>cases q;rfl
 |bl _=>cases q;rfl
 |int _=>cases q;rfl
 |str F _=>cases q with|str B _=>rw[<-F,<-B]
 |tup F J=>cases q with
  |tup B G=>cases I.tuple_inj (bJ.of F) (bJ.of B);rw[zA.uniq I J G z]
  |_=>cases z
 |lst F J=>cases q with
  |lst B G=>cases I.list_inj F B;rw[zA.uniq I J G z]
  |_=>cases z
 |dK=>cases e<;>cases z
 |dT=>cases e<;>cases z
 |st=>cases e<;>cases z
 |exc=>cases e<;>cases z
theorem zA.uniq(I:Inv X zC Z H s)(r:zA X.K H v d)(q:zA X.K H v e)(z:bC d e=false):d=e:=by
 cases r with
 |nil=>cases q;rfl
 |@cons _ a _ l J F=>cases q with
  |@cons _ b _ m G B=>have h':(aI a b||bC l m)=false:=z;rw[Bool.or_eq_false_iff]at h';rw[aN.uniq I J G h'.1,zA.uniq I F B h'.2]
end
open Classical in
def HP:∀(n:Nat){A:Around}{v u:V}{vv uu:Value}{d e:D},eF d<=n->Inv X zC Z H s->aN X.K H v d->aN X.K H u e->zt v vv->zt u uu->aI d e=false->A.units+n<cLine->
  EqAt A s vv uu (decide (d=e))/\RcAt A s vv uu (decide (d=e)):=by
 intro n;induction n with
 |zero=>intro A v u vv uu d e hd I r1 r2 rv ru hc hu;show KM r1 r2 rv ru hc (λl z=>by subst z;show absurd hd (by show¬bM l+1<=0;lia)) (λl z=>by subst z;show absurd hd (by show¬bM l+1<=0;lia))
 |succ n ih=>
  intro A v u vv uu d e hd I r1 r2 rv ru hc hu;let e4:A.in1.units+n<cLine:=by show A.units+1+n<cLine;lia
  cases r1 with
  |tup e1 q1=>
   cases r2 with
   |tup e2 q2=>
    rename_i a xs l b ys m;cases rv;cases ru;let#[G,w1,p1,_]:=I.tuple (bJ.of e1);let#[B,w2,p2,_]:=I.tuple (bJ.of e2);let h8:bM l<=n:=by let:bM l+1<=n+1:=hd;lia
    let h4:G.toArray.size=l.length:=by rw[qr,<-w1.length,q1.len]
    let h9:B.toArray.size=m.length:=by rw[qr,<-w2.length,q2.len]
    have items:∀j(h1:j<G.toArray.size)(h2:j<B.toArray.size),EqAt A.in1 s G.toArray[j] B.toArray[j] (decide (l[j]?=m[j]?)):=λj h1 h2=>by
     let#[x,hx,rx]:=Fq w1 h1;let#[y,hy,ry]:=Fq w2 h2;let F:j<l.length:=∅
     let J:j<m.length:=∅
     let#[x',M,h6]:=q1.get (i:=j) (d:=l[j]) (by simp[F]);let#[y',L,h5]:=q2.get (i:=j) (d:=m[j]) (by simp[J]);rw[hx]at M;cases M;rw[hy]at L;cases L;let:=(ih (A:=A.in1) (le_trans (Hj (l:=l) (j:=j) (by simp[F])) h8) I h6 h5 rx ry (Hn (j:=j) (a:=l[j]) (b:=m[j]) (Sd hc) (by simp[F]) (by simp[J])) e4).1;let e:decide (l[j]?=m[j]?)=decide (l[j]=m[j]):=by simp[F,J]
     rw[e];show this
    have O:RcAt A s (.ref a) (.ref b) (decide (D.tup l=D.tup m)):=by
     let:=RcAt.tuples (s:=s) (show s.heap.IsTuple a G.toArray from p1) (show s.heap.IsTuple b B.toArray from p2) ∅ items;rw[h4,h9,He (l:=l) (m:=m) _ rfl]at this;let e:decide (D.tup l=D.tup m)=decide (l=m):=by by_cases h:l=m<;>simp[h]
     rw[e];show this
    show#[?_,O];by_cases h3:a=b
    .subst h3;let h7:l=m:=by let z:=aN.uniq I (.tup e1 q1) (.tup e2 q2) hc;cases z;rfl
     subst h7;simp;show EqAt.same _
    .show EqAt.of_refs h3 O
   |_=>cases hc
  |lst e1 q1=>
   cases r2 with
   |lst e2 q2=>
    rename_i a xs l b ys m;cases rv;cases ru;let#[G,w1,p1,_]:=I.list e1;let#[B,w2,p2,_]:=I.list e2;let h8:bM l<=n:=by let:bM l+1<=n+1:=hd;lia
    let h4:G.toArray.size=l.length:=by rw[qr,<-w1.length,q1.len]
    let h9:B.toArray.size=m.length:=by rw[qr,<-w2.length,q2.len]
    have items:∀j(h1:j<G.toArray.size)(h2:j<B.toArray.size),EqAt A.in1 s G.toArray[j] B.toArray[j] (decide (l[j]?=m[j]?)):=λj h1 h2=>by
     let#[x,hx,rx]:=Fq w1 h1;let#[y,hy,ry]:=Fq w2 h2;let F:j<l.length:=∅
     let J:j<m.length:=∅
     let#[x',M,h6]:=q1.get (i:=j) (d:=l[j]) (by simp[F]);let#[y',L,h5]:=q2.get (i:=j) (d:=m[j]) (by simp[J]);rw[hx]at M;cases M;rw[hy]at L;cases L;let hk:bC l m=false:=hc;let:=(ih (A:=A.in1) (le_trans (Hj (l:=l) (j:=j) (by simp[F])) h8) I h6 h5 rx ry (Hn (j:=j) (a:=l[j]) (b:=m[j]) hk (by simp[F]) (by simp[J])) e4).1;let e:decide (l[j]?=m[j]?)=decide (l[j]=m[j]):=by simp[F,J]
     rw[e];show this
    have O:RcAt A s (.ref a) (.ref b) (decide (D.lst l=D.lst m)):=by
     let e:decide (D.lst l=D.lst m)=decide (l=m):=by by_cases h:l=m<;>simp[h]
     rw[e];by_cases Y:l.length=m.length
     .let:=RcAt.lists (s:=s) p1.isList p2.isList ∅ ∅ items;rw[h4]at this;let e2:=He (l:=l) (m:=m) l.length ∅;let e3:(l.length==m.length)=true:=by simpa using Y
      rw[e3,Bool.and_true]at e2;rw[<-e2];show this
     .let:=RcAt.lists_lengths (A:=A) (s:=s) p1.isList p2.isList (by simp only[h4,h9];simpa using Y) ∅;let e2:decide (l=m)=false:=qQ λz=>Y (by rw[z]);rw[e2];show this
    show#[?_,O];by_cases h3:a=b
    .subst h3;let h7:l=m:=by let z:=aN.uniq I (.lst e1 q1) (.lst e2 q2) hc;cases z;rfl
     subst h7;simp;show EqAt.same _
    .show EqAt.of_refs h3 O
   |_=>cases hc
  |_=>show KM (by first|show .non|show .bl _|show .int _|(rename_i e z;show .str e z)|(rename_i e k r;show .dK e k r)|(rename_i e k r;show .dT e k r)|(rename_i e r;show .st e r)|(rename_i e k z;show .exc e k z)) r2 rv ru hc (λl z=>by cases z) (λl z=>by cases z)
end
section
variable{K:W.Frag}
open PySem.SeqAt
open Classical in
def tT(K:W.Frag):R2:=λx y H Q=>∃p q,aN K H x p/\aN K H y q/\aI p q=false/\eF p<=30/\Q (.bl (decide (p=q))) H
def JY(O:X.A.units+31<cLine):OpR X (compareOp .Eq) (tT X.K):=by intro zC s Z H x y v u Q I B z h;let#[p,q,G,F,M,L,J]:=h;show(HP 30 L I G F B z M ∅).2 X.prog X.w X.xe _ #[.bl _,H,I,rfl,J]
def Kg(h:jM p q=some k):aI p q=false/\eF p<=30:=by grind[jM]
open Classical in
def KN(h:jM p q=some k):k=decide (p=q):=by
 unfold jM at h;split at h
 .cases h
 .show(qf h).symm
def Ku:dC K (tT K) jM:=by intro H x y p q k Q z v e B;let#[h1,h2]:=Kg e;let:=KN e;subst this;show#[p,q,z,v,h1,h2,B]
open Classical in
def tP(K:W.Frag):R2:=λx y H Q=>∃p q,aN K H x p/\aN K H y q/\aI p q=false/\eF p<=30/\Q (.bl (!decide (p=q))) H
def Lp(I:Inv X zC Z H s)(q1:zA X.K H xs l)(q2:zA X.K H ys m)(Y:zz xs J)(O:zz ys G)(hc:bC l m=false)(hd:bM l<=30)(hu:A.units+30<cLine):
  ∀j(h1:j<J.toArray.size)(h2:j<G.toArray.size),EqAt A s J.toArray[j] G.toArray[j] (open Classical in decide (l[j]?=m[j]?)):=λj h1 h2=>by
 let#[x,hx,rx]:=Fq Y h1;let#[y,hy,ry]:=Fq O h2;let h4:J.toArray.size=l.length:=by rw[qr,<-Y.length,q1.len]
 let h3:G.toArray.size=m.length:=by rw[qr,<-O.length,q2.len]
 let F:j<l.length:=∅
 let B:j<m.length:=∅
 let#[x',z,M]:=q1.get (i:=j) (d:=l[j]) (by simp);let#[y',v,L]:=q2.get (i:=j) (d:=m[j]) (by simp);rw[hx]at z;cases z;rw[hy]at v;cases v;let:=(HP 30 (A:=A) (le_trans (Hj (l:=l) (j:=j) (by simp)) hd) I M L rx ry (Hn (j:=j) (a:=l[j]) (b:=m[j]) hc (by simp[F]) (by simp[B])) hu).1;let e:(open Classical in decide (l[j]?=m[j]?))=(open Classical in decide (l[j]=m[j])):=by simp[F,B]
 rw[e];show this
def GW(p:D):(∃l,p=.tup l)\/(∃l,p=.lst l)\/((∀l,p≠.tup l)/\∀l,p≠.lst l):=by
 cases p with
 |tup l=>show .inl #[l,rfl]
 |lst l=>show .inr (.inl #[l,rfl])
 |_=>show .inr (.inr #[λl z=>D.noConfusion z,λl z=>D.noConfusion z])
def Oo(h:aI (.tup l) q=false):∃m,q=.tup m:=by
 cases q with
 |tup m=>show#[m,rfl]
 |_=>cases h
def Pf(h:aI (.lst l) q=false):∃m,q=.lst m:=by
 cases q with
 |lst m=>show#[m,rfl]
 |_=>cases h
def Oj(J:aN K H x p)(G:aN K H y q)(v:aI p q=false)(h1:∀l,p≠.tup l)(h2:∀l,p≠.lst l):tG x y=true/\(p=q↔x=y):=by
 let F:=JH J v h1 h2;let B:=Ki G F v;cases F with
 |str M=>
  cases B with
  |str L=>
   rename_i x l y m;show#[rfl,λz=>?_,λz=>?_]
   .obtain⟨⟨a⟩⟩:=x;let#[#[b]]:=y;grind
   .cases z;rw[<-M,<-L]
  |_=>show#[rfl,λz=>D.noConfusion z,λz=>V.noConfusion z]
 |_=>cases B<;>first|show⟨rfl,λz=>D.noConfusion z,λz=>V.noConfusion z⟩|show⟨rfl,λz=>by cases z;rfl,λz=>by cases z;rfl⟩|cases v
def Gq(hu:X.A.units+32<cLine):OpR X (compareOp .NotEq) (tP X.K):=by
 classical
 intro zC s Z H x y v u Q I rx ry h;let#[p,q,r1,r2,hc,hd,hq]:=h;let B:EP X zC Z Q (.bool (!decide (p=q))) s:=#[.bl _,H,I,rfl,hq]
 let h3:X.A.in1.units+30<cLine:=by show X.A.units+1+30<cLine;lia
 rcases GW p with⟨l,rfl⟩|⟨l,rfl⟩|⟨n1,n2⟩
 .obtain⟨m,rfl⟩:=Oo hc;cases r1 with
  |tup e1 q1=>
  cases r2 with
  |tup M q2=>
   rename_i a xs b ys;cases rx;cases ry;let#[J,w1,p1,_]:=I.tuple (bJ.of e1);let#[F,w2,p2,_]:=I.tuple (bJ.of M);let O:bM l<=30:=by let:bM l+1<=30:=hd;lia
   let L:J.toArray.size=l.length:=by rw[qr,<-w1.length,q1.len]
   let Y:F.toArray.size=m.length:=by rw[qr,<-w2.length,q2.len]
   let:=RcNeAt.tuples (A:=X.A) (s:=s) (show s.heap.IsTuple a J.toArray from p1) (show s.heap.IsTuple b F.toArray from p2) ∅ (Lp I q1 q2 w1 w2 hc O h3);rw[L,Y,He (l:=l) (m:=m) _ rfl]at this;let e:decide (D.tup l=D.tup m)=decide (l=m):=by by_cases h:l=m<;>simp
   rw[e]at B;show this X.prog X.w X.xe _ B
 .obtain⟨m,rfl⟩:=Pf hc;cases r1 with
  |lst e1 q1=>
  cases r2 with
  |lst M q2=>
   cases rx;cases ry;let#[J,w1,p1,_]:=I.list e1;let#[F,w2,p2,_]:=I.list M;let O:bM l<=30:=by let:bM l+1<=30:=hd;lia
   let L:J.toArray.size=l.length:=by rw[qr,<-w1.length,q1.len]
   let Y:F.toArray.size=m.length:=by rw[qr,<-w2.length,q2.len]
   let e:decide (D.lst l=D.lst m)=decide (l=m):=by by_cases h:l=m<;>simp
   rw[e]at B;by_cases G:l.length=m.length
   .let:=RcNeAt.lists (A:=X.A) (s:=s) p1.isList p2.isList ∅ ∅ (Lp I q1 q2 w1 w2 hc O h3);rw[L]at this;let M:=He (l:=l) (m:=m) l.length ∅;let e3:(l.length==m.length)=true:=by simpa using G
    rw[e3,Bool.and_true]at M;rw[<-M]at B;show this X.prog X.w X.xe _ B
   .let:=RcNeAt.lists_lengths (A:=X.A) (s:=s) p1.isList p2.isList (by simp[L,Y];simpa using G) ∅;let M:decide (l=m)=false:=qQ λz=>G (by rw[z]);rw[M]at B;show this X.prog X.w X.xe _ B
 .obtain⟨h1,h2⟩:=Oj r1 r2 hc n1 n2;rw[decide_eq_decide.mpr h2]at hq;show Nb zC s Z H x y v u Q I rx ry #[h1,hq]
def Gw:dC K (tP K) lL:=by
 intro H x y p q k Q B z e F;unfold lL at e;cases v:jM p q with
 |none=>rw[v]at e;cases e
 |some b=>rw[v]at e;let G:(!b)=k:=qf e;let#[h1,h2]:=Kg v;let:=KN v;subst this;subst G;show#[p,q,B,z,h1,h2,F]
def hV(f:Int->Int->Bool)(g:List Nat->List Nat->Bool):R2:=λx y H Q=>(∃i j,x=.int i/\y=.int j/\Q (.bl (f i j)) H)\/∃i j,x=.str i/\y=.str j/\Q (.bl (g i.cps.toList j.cps.toList)) H
def II{g:List Nat->List Nat->Bool}(rule:∀(i j:Str)(t u:Tok)(s:Shared)(Q:zh)(E:zh),Q (.bool (g i.cps.toList j.cps.toList)) s->wpAny (model X.prog X.w) X.A (compareOp G (.str i t) (.str j u)) Q E s):
  OpR X (compareOp G) (λx y H Q=>∃i j,x=.str i/\y=.str j/\Q (.bl (g i.cps.toList j.cps.toList)) H):=by
 intro zC s Z H x y v u Q I F B h;let#[i,j,rfl,rfl,q]:=h;let#[t,rfl]:=F;let#[z,rfl]:=B;show rule i j t z s _ _ #[.bl _,H,I,rfl,q]
def NO:OpR X (compareOp .Lt) (hV (λi j=>decide (i<j)) λl m=>decide (l<m)):=FL.OpR.or NF (II (g:=λl m=>decide (l<m)) λ_ _ _ _ _ _ _ q=>PyProof.Rows.lt_str q)
def Ib:OpR X (compareOp .Gt) (hV (λi j=>decide (j<i)) λl m=>decide (m<l)):=FL.OpR.or MU (II (g:=λl m=>decide (m<l)) λ_ _ _ _ _ _ _ q=>PySem.P.gt_str q)
def NP:OpR X (compareOp .GtE) (hV (λi j=>decide (j<=i)) λl m=>!decide (l<m)):=FL.OpR.or MW (II (g:=λl m=>!decide (l<m)) λ_ _ _ _ _ _ _ q=>PySem.P.ge_str q)
def IZ(h:∀p q k,o p q=some k->(∃i j,p=.int i/\q=.int j/\k=f i j)\/∃l m,p=.str l/\q=.str m/\k=g l m):dC K (hV f g) o:=by
 intro H x y p q k Q z v e B;rcases h p q k e with⟨i,j,rfl,rfl,rfl⟩|⟨l,m,rfl,rfl,rfl⟩
 .cases z;cases v;show .inl #[i,j,rfl,rfl,B]
 .cases z with
  |str G L=>cases v with
   |str F J=>subst G F;show .inr #[_,_,rfl,rfl,B]
def Pi:dC K (hV (λi j=>decide (i<j)) λl m=>decide (l<m)) wA:=IZ λp q k e=>by
 unfold wA vV at e;split at e
 .show .inl #[_,_,rfl,rfl,(qf e).symm]
 .show .inr #[_,_,rfl,rfl,(qf e).symm]
 .cases e
def Ik:dC K (hV (λi j=>decide (j<i)) λl m=>decide (m<l)) oE:=IZ λp q k e=>by
 unfold oE vV at e;split at e
 .show .inl #[_,_,rfl,rfl,(qf e).symm]
 .show .inr #[_,_,rfl,rfl,(qf e).symm]
 .cases e
def PJ:dC K (hV (λi j=>decide (j<=i)) λl m=>!decide (l<m)) wD:=IZ λp q k e=>by
 unfold wD at e;split at e
 .show .inl #[_,_,rfl,rfl,(qf e).symm]
 .show .inr #[_,_,rfl,rfl,(qf e).symm]
 .cases e
end
section
open PySem.SeqAt
open Classical in
def pZ(K:W.Frag)(neg:Bool):R2:=λx y H Q=>∃p l,aN K H x p/\(aN K H y (.lst l)\/aN K H y (.tup l))/\(∀d∈l,aI d p=false/\eF d<=30)/\Q (.bl (if neg then !decide (p∈l)else decide (p∈l))) H
def HF(I:Inv X zC Z H s)(rx:zt x v)(r1:aN X.K H x p)(q1:zA X.K H xs l)(w1:zz xs M)(hc:∀d∈l,aI d p=false/\eF d<=30)(hu:A.units+30<cLine):
  ∃e:Value->Bool,(∀y,y∈M.toArray->EqAt A s y v (e y))/\M.toArray.any e=(open Classical in decide (p∈l)):=by
 classical
 have item:∀{y:Value},y∈M->∃z d,zt z y/\aN X.K H z d/\d∈l:=λ{y} Y=>by
  let#[j,hj,e]:=getElem_of_mem Y;let#[z,hz,G]:=Fq (j:=j) w1 hj;let hl:j<l.length:=by rw[<-q1.len,w1.length];show hj
  let#[z',O,B]:=q1.get (i:=j) (d:=l[j]) (by simp);rw[hz]at O;cases O;show#[z,l[j],?_,B,by simp];let:M.toArray[j]=y:=e;rw[<-this];show G
 show#[λy=>decide (∃z,zt z y/\aN X.K H z p),λy Y=>?_,?_]
 .have h1:y∈M:=by simpa using Y
  obtain⟨z,d,G,B,hd⟩:=item h1;let L:=hc d hd;let:=(HP 30 (A:=A) L.2 I B r1 G rx L.1 hu).1;let e:decide (d=p)=decide (∃z,zt z y/\aN X.K H z p):=by
   by_cases h:d=p
   .subst h;rw[qP rfl,qP #[z,G,B]]
   .rw[qQ h];show(qQ ?_).symm;rintro⟨z',F,J⟩;let:z=z':=G.inj F;subst this;show h (aN.uniq I B J L.1)
  show EqAt A s y v (decide (∃z,zt z y/\aN X.K H z p));rw[<-e];show this
 .by_cases h:p∈l
  .rw[qP h];let#[j,hj,e]:=getElem_of_mem h;let#[z,hz,B]:=q1.get (i:=j) (d:=l[j]) (by simp);let#[u,h2,ru]:=w1.get hz;rw[Array.any_eq_true'];show#[u,by simpa using qL h2,qP #[z,ru,e▸B]]
  .rw[qQ h];rw[Array.any_eq_false'];intro y Y z;let#[z',F,J]:=qS z;let#[z2,d,G,B,hd]:=item (y:=y) ↑Y;let:z2=z':=G.inj F;subst this;show h (aN.uniq I B J (hc d hd).1▸hd)
def Nl(hu:X.A.units+32<cLine):OpR X (compareOp .In) (pZ X.K false):=by
 intro zC s Z H x y v u Q I Y O h;let#[p,l,r1,z,hc,hq]:=h;let F:X.A.in1.units+30<cLine:=by show X.A.units+1+30<cLine;lia
 rcases z with z|z
 .cases z with
  |lst e q=>cases O;let#[B,G,J,_]:=I.list e;let#[f,L,M]:=HF (A:=X.A.in1) I Y r1 q G hc F;show in_listAt f J.isList L #[.bl _,H,I,rfl,by rw[M];show hq]
 .cases z with
  |tup e q=>cases O;let#[B,G,J,_]:=I.tuple (bJ.of e);let#[f,L,M]:=HF (A:=X.A.in1) I Y r1 q G hc F;show in_tupleAt f (show s.heap.IsTuple _ B.toArray from J) L #[.bl _,H,I,rfl,by rw[M];show hq]
def Rh(hu:X.A.units+32<cLine):OpR X (compareOp .NotIn) (pZ X.K true):=by
 intro zC s Z H x y v u Q I Y O h;let#[p,l,r1,z,hc,hq]:=h;let F:X.A.in1.units+30<cLine:=by show X.A.units+1+30<cLine;lia
 rcases z with z|z
 .cases z with
  |lst e q=>cases O;let#[B,G,J,_]:=I.list e;let#[f,L,M]:=HF (A:=X.A.in1) I Y r1 q G hc F;show notIn_listAt f J.isList L #[.bl _,H,I,rfl,by rw[M];show hq]
 .cases z with
  |tup e q=>cases O;let#[B,G,J,_]:=I.tuple (bJ.of e);let#[f,L,M]:=HF (A:=X.A.in1) I Y r1 q G hc F;show notIn_tupleAt f (show s.heap.IsTuple _ B.toArray from J) L #[.bl _,H,I,rfl,by rw[M];show hq]
end
section
variable{K:W.Frag}
def HQ(z:xs.length=l.length)(h:atI l i=some d):∃j,ixN l.length i=some j/\l[j]?=some d/\∀x,xs[j]?=some x->L2.atI xs i=some x:=by
 unfold atI at h;cases q:ixN l.length i with
 |none=>rw[q]at h;cases h
 |some j=>
  rw[q]at h;show#[j,rfl,h,λx v=>?_];let e:L2.ixN xs.length i=some j:=by rw[z];show q
  unfold L2.atI;rw[e];show v
def zA.atI(r:zA K F xs l)(h:FL.atI l i=some d):∃x,L2.atI xs i=some x/\aN K F x d:=by let#[j,_,h1,h2]:=HQ (xs:=xs) r.len h;let#[x,z,v]:=r.get h1;show#[x,h2 x z,v]
def zr.get{j:Nat}(r:zr K F H xs l fp)(h:l[j]?=some t):∃x B v z,xs[j]?=some x/\aH K F H x t v/\fp=B++(v++z):=
 zr.ind (P:=λxs l fp=>∀j t,l[j]?=some t->∃x B v z,xs[j]?=some x/\aH K F H x t v/\fp=B++(v++z)) (λ_ _ e=>by cases e) (λa _ G j t e=>by
  cases j with
  |zero=>cases e;show#[_,[],_,_,rfl,a,rfl]
  |succ j=>let#[x,B,v,z,h1,h2,rfl]:=G j t e;show#[x,_++B,v,z,h1,h2,(qp ..).symm]) r j t h
def Rel.item{j:Nat}(r:Rel K (U++[some (.lst l)]) (Z++[some (.ref a)]) F G H)(h:l[j]?=some t):∃xs x,H a=some (.lst xs)/\xs.length=l.length/\xs[j]?=some x/\Rel K (U++[some t]) (Z++[some x]) F G H:=by
 let#[fp,e,Y,ap]:=r.en;let#[B,f2,rfl,en,b]:=e.cut (Ae r);cases b with
 |so M O=>
  cases O;cases M with
  |lst hD rl=>
   rename_i xs fl;let#[x,L,v,J,h1,h2,rfl]:=rl.get h;show#[xs,x,hD,rl.len,h1,r.fr,r.gr,B++(v++[]),en.app (.so h2 .nil),?_,λy hy=>ap y ?_]
   .let sub:List.Sublist (B++(v++[])) (B++(a::(L++(v++J))++[])):=by show List.Sublist.append (List.Sublist.refl _) ?_;simp;exact(List.Sublist.cons _ ((List.sublist_append_left v J).trans (List.sublist_append_right L _)))
    show sub.nodup Y
   .rcases qx.mp hy with z|z
    .show qj _ z
    .show qi _ ?_;simp only[qz]at z⊢;show qk _ (qi _ (qj _ z))
end
def Pz{K:W.Frag}(e:bJ K H c xs)(r:zA K F xs l)(h:atI l i=some d)(B:∀x,aN K F x d->Q x H):vU K (.ref c) (.int i) H Q:=by let#[x,z,v]:=r.atI h;show .inr (.inl #[c,xs,i,x,rfl,rfl,e,z,B x v])
def Pu{K:W.Frag}(e:bK K H c xs)(r:zA K F xs l)(h:atI l i=some d)(B:∀x,aN K F x d->Q x H):vU K (.ref c) (.int i) H Q:=by let#[x,z,v]:=r.atI h;show .inl #[c,xs,i,x,rfl,rfl,e,z,B x v]
def Pn(h:iA s q=some t):(∃l i d,s=.sh (.tup l)/\q=.int i/\atI l i=some d/\t=.sh d)\/(∃l i d,s=.sh (.lst l)/\q=.int i/\atI l i=some d/\t=.sh d)\/
  (∃l i c,s=.sh (.str l)/\q=.int i/\atI l i=some c/\t=.sh (.str [c]))\/∃l i,s=.lst l/\q=.int i/\atI l i=some t:=by
 show cps λ_ kk=>?_;rcases s with d|l|_|_
 .rcases d with _|_|_|l|l|l|_|_|_;case str|tup|lst=>
   rcases q with _|_|i|_|_|_|_|_|_;case int=>let#[d,e,e']:=qW.mp h;first|show kk (.inl ⟨_,_,d,rfl,rfl,e,e'.symm⟩)|show kk (.inr (.inl ⟨_,_,d,rfl,rfl,e,e'.symm⟩))|show kk (.inr (.inr (.inl ⟨_,_,d,rfl,rfl,e,e'.symm⟩)))
   all_goals cases h
  all_goals cases h
 .rcases q with _|_|i|_|_|_|_|_|_;case int=>exact kk (.inr (.inr (.inr #[_,_,rfl,rfl,h])))
  all_goals cases h
 all_goals cases h
def Iz{K:W.Frag}(h:aH K F H v (.sh d) fp):aN K F v d:=by cases h;assumption
def LK{K:W.Frag}(h:aH K F H v (.lst l) fp):∃a xs fq,v=.ref a/\H a=some (.lst xs)/\zr K F H xs l fq:=by
 cases h with
 |lst h1 h2=>show#[_,_,_,rfl,h1,h2]
def Ka{K:W.Frag}(fr:zn F H)(r:aN K F v d)(L:aN K F2 u q)(Y:iA (.sh d) q=some t)(G:∀e x,t=.sh e->aN K F x e->Q x H):vU K v u H Q:=by
 rcases Pn Y with⟨l,i,e,B,rfl,O,rfl⟩|⟨l,i,e,B,rfl,O,rfl⟩|⟨l,i,c,B,rfl,ec,rfl⟩|⟨l,i,B,_⟩
 .injection B with B
  subst B;obtain rfl:=aX.int (H:=H) (.inl L);let#[a,xs,rfl,h1,M]:=aX.tup (H:=H) (.inl r);show Pz (bJ.of (fr _ _ h1)) M O λx J=>G _ x rfl J
 .injection B with B
  subst B;obtain rfl:=aX.int (H:=H) (.inl L);let#[a,xs,rfl,h1,M]:=aX.lst (H:=H) fr (.inl r);show Pu h1 M O λx J=>G _ x rfl J
 .injection B with B
  subst B;obtain rfl:=aX.int (H:=H) (.inl L);let#[x,rfl,h1,z]:=aX.str (H:=H) (.inl r);show .inr (.inr #[_,i,c,rfl,rfl,by rw[Gb h1];show z,by rw[h1];show ec,G _ _ rfl (.str rfl (by show 1<=_;decide))])
 .cases B
def Li(h:iA (.lst l) q=some t):∃i,q=.int i/\atI l i=some t:=by
 cases q with
 |int i=>show#[i,rfl,h]
 |_=>cases h
def BX(ha:FE X a wa)(hb:FE X b wb)(hs:jC b:=by intro _ _;rfl):FE X (.Subscript a b pos) (fI wa wb):=λpn xe hp=>by
 refine PE.imp (Nv (NK (X:=wp X pn xe)) (ha pn xe hp) (hb pn xe hp) hs) λZ H Q q=>?_;refine(Cv (k:=λx y U2 Q E=>zm (view y U2) λq=>match x with
  |.v s=>zm (iA s q) λt=>Q (.v t) U2
  |.loc i=>match slot U2 i with
   |some s=>match iA s q with
    |some (.sh d)=>Q (.v (.sh d)) U2
    |_=>False
   |none=>False) q).mono λv H1 h1=>h1.mono λu H2 h2=>?_
 let#[F,G,U,x,y,P,PX,h5,Y,rx,ry,J,h6,hx]:=h2;let#[q,eq,J]:=Av J;let B:Rel X.K (U++[zo x]) (Z++[some v]) F G H2:=by let:=Rel.swap (U1:=[zo x]) (Z1:=[some v]) (U2:=[zo y]) (Z2:=[some u]) Y rfl h5;show Rel.mid (U:=U) (Z:=Z) this Y
 let h4:Rel X.K (U++[zo y]) (Z++[some u]) F G H2:=h5.mid Y;let ru:=AE (U':=[]) (Z':=[]) h4 Y ry eq;let M:∀{d:D}{x:V},P (.v (.sh d)) U->aN X.K F x d->Q x H2:=λhP r=>h6 _ U _ F H2 hP (zn.refl F) ((B.drop Y).push r) trivial;cases x with
 |v s=>
  let#[t,L,hP]:=Av J;let#[w,fp,e1,sr]:=B.at (i:=U.length) (s:=s) Fo;rw[Y,getElem?_append_right (q5 _)]at e1;let e2:v=w:=↑e1
  subst e2;cases s with
  |sh d=>show Ka B.fr (Iz sr) ru L λe x z rx=>M (by rw[<-z];show hP) rx
  |lst l=>let#[i,rfl,L]:=Li L;obtain rfl:=aX.int (H:=H2) (.inl ru);let#[a,ys,fq,rfl,hD,rl]:=LK sr;let#[j,_,hj,h3]:=HQ rl.len L;let#[xs,x,h7,h9,O,r2]:=Rel.item B hj;rw[hD]at h7;cases h7;show .inl #[_,_,i,x,rfl,rfl,bK.of hD,h3 x O,h6 _ U _ F H2 hP (zn.refl F) r2 trivial]
  |_=>cases q<;>cases L
 |loc k=>
  dsimp only at J;cases qs:slot U k with
  |none=>rw[qs]at J;show J.elim
  |some s=>
   rw[qs]at J;dsimp only at J;split at J
   .rename_i d L;let#[w,fp,e1,sr]:=(B.drop Y).at qs;let h8:Z[k]?=some (some v):=rx;rw[h8]at e1;let e2:v=w:=by simpa using e1
    subst e2;cases s with
    |sh d'=>show Ka B.fr (Iz sr) ru L λe x z rx=>M (by injection z with z;rw[<-z];show J) rx
    |lst l=>let#[i,rfl,L]:=Li L;obtain rfl:=aX.int (H:=H2) (.inl ru);let#[a,ys,fq,rfl,hD,rl]:=LK sr;let#[j,_,hj,h3]:=HQ rl.len L;let#[x,fa,fi,fb,O,sx,_]:=rl.get hj;show .inl #[_,_,i,x,rfl,rfl,bK.of hD,h3 x O,M J (Iz sx)]
    |_=>cases q<;>cases L
   .show J.elim
section
variable{K:W.Frag}{Z:St}
def zr.set:∀{xs:List V}{l:List S}{fp:List Addr}{m:Nat},zr K F H xs l fp->m<l.length->∃J M G,fp=J++(M++G)/\
  ∀{H':Hp}{v:V}{s:S}{fq:List Addr},(∀a∈J++G,H' a=H a)->aH K F H' v s fq->zr K F H' (xs.set m v) (l.set m s) (J++(fq++G))
 |_,_,_,_,.nil,h=>by simp at h
 |_,_,_,0,.cons (fp:=fp) (fq:=fq) a b,h=>#[[],fp,fq,rfl,λL r=>by rw[nil_append];show .cons r (b.mono (zn.refl F) λc B=>L c B)]
 |_,_,_,m+1,.cons (fp:=fp) (fq:=fq) a b,h=>by let#[J,M,G,rfl,O]:=zr.set (m:=m) b ↑h;show#[fp++J,M,G,(qp ..).symm,λL r=>?_];rw[qp];show .cons (a.mono (zn.refl F) λc B=>L c (qj _ (qj _ B))) (O (λc B=>L c ((qx.mp B).elim (λz=>qj _ (qi _ z)) λz=>qi _ z)) r)
def GB(h:Z[n]?=some (some v)):Z.set n (some v)=Z:=by
 apply ext_getElem?;intro j;by_cases z:n=j
 .subst z;rw[getElem?_set_self (qg.mp h).1,h]
 .rw[getElem?_set_ne z]
def Rel.setItem{D:Addr}(r:Rel K (U++[some s]) (Z++[some v]) F G H)(hs:slot U n=some (.lst l))(L:Z[n]?=some (some (.ref D)))(hm:m<l.length):
  ∃xs,H D=some (.lst xs)/\xs.length=l.length/\Rel K (U.set n (some (.lst (l.set m s)))) Z F G (upd H D (.lst (xs.set m v))):=by
 let hl:=Ae r;let#[fp,e,nd,ap]:=r.en;let#[f1,f2,rfl,a,b]:=e.cut hl;let#[v',fa,fi,fb,e1,rfl,q,up]:=a.at hs;rw[L]at e1;let e2:V.ref D=v':=↑e1
 subst e2;cases q with
 |lst hD rl=>
  rename_i xs fl;cases b with
  |so sr nl=>
   cases nl;rename_i fs;let#[O,gi,M,rfl,h1]:=rl.set hm;show#[xs,hD,rl.len,?_];let#[n1,n2,h3]:=qw.mp nd;let#[na,B,h2]:=qw.mp n1;let#[ni,nb,B]:=qw.mp B;let#[nD,h8]:=qK.mp ni;let h7:D∉fa:=λz=>h2 D z D (qj _ qm) rfl;let h6:D∉fb:=λz=>B D qm D z rfl;let h4:D∉fs:=λz=>h3 D (qi _ (qj _ qm)) D ↑z rfl;let Y:=ap D (qj _ (qi _ (qj _ qm)));let ne:∀{l:List Addr},D∉l->∀x∈l,upd H D (.lst (xs.set m v)) x=H x:=λh x J=>Ak λz=>h (z▸J);let h5:D∉O++M:=λz=>nD ((qx.mp z).elim (λw=>qj _ w) λw=>qi _ (qi _ w));let new:aH K F (upd H D (.lst (xs.set m v))) (.ref D) (.lst (l.set m s)) (D::(O++(fs++M))):=.lst Bx (h1 (ne h5) (sr.mono (zn.refl F) (ne h4)));let a2:=up (F':=F) (H':=upd H D (.lst (xs.set m v))) (o:=some (.lst (l.set m s))) (u:=some (.ref D)) (zn.refl F) (λx J=>Ak λz=>(qx.mp J).elim (λw=>h7 (z▸w)) λw=>h6 (z▸w)) (.so new .nil);rw[GB L]at a2;let sub:∃l2,l2.Perm (fa++((D::(O++(gi++M)))++fb)++(fs++[]))/\List.Sublist (fa++((D::(O++(fs++M)))++[]++fb)) l2:=by
    show#[fa++((D::(O++(fs++(gi++M))))++[]++fb),?_,?_]
    .simp;show List.Perm.append_left _ (List.Perm.cons _ (List.Perm.append_left _ ?_));show qM.trans (by simp)
    simp_all
   let#[l2,p,sb]:=sub;show#[zn.updR r.fr Y.1,λx o w=>?_,_,a2,sb.nodup (p.nodup_iff.mpr nd),λx J=>ap x (p.mem_iff.mp (sb.subset J))];let J:x≠D:=λz=>by rw[z,Y.2]at w;cases w
   rw[Ak J];show r.gr x o w
end
theorem Lv(ho:FE X o (zi j))(hi:FE X i wi)(he:FE X e we)(hs:autoParam (swapsWithSole [.Subscript o i tpos] e pos.line X.env=pure false) rZ9)(hw:autoParam (swappedStores [.Subscript o i tpos] e X.env=pure none) rZ9)
  (h1:autoParam ((assignEach [.Subscript o i tpos] X.env).map (·.2)=[assign (.Subscript o i tpos) X.env]) rZ9)
  (ha:∀v,assign (.Subscript o i tpos) X.env v=(do
   let ov<-holding [v] (eval o X.env)
   let iv<-holding [v,ov] (eval i X.env)
   standAt tpos
   holding [v,ov,iv] (setItem ov iv v)
   release [v,ov,iv] []):=by intro _;rfl):FS X ks (.Assign [.Subscript o i tpos] e pos) (eP j wi we):=λpn xe hp=>by
 show PS.imp (JR (X:=wp X pn xe) (he pn xe hp) (NC (X:=wp X pn xe) (ho pn xe hp) (hi pn xe hp) Rp ha) hs hw h1) λD Z H q=>?_;let#[F,G,U,E,zE,hw,n,b,c,r,x]:=q;let x0:XC (wp X pn xe) (·=Z) F G E.ex:=x.mono (λZ2 z=>by rw[z];show KP.refl) (zn.refl F) (zn.refl G);show#[F,G,U,_,_,zE,hw,λr U1 v F1 H1 hk s1 r1 rv=>?_,x0];let l1:=Ae r1;let#[G1,rel1,gg,back]:=r1.hide l1;show#[F1,G1,U1,_,_,rel1,hk,λy U2 o' F2 H2 hk2 s2 r2 rv2=>?_,x0.mono (λ_ z=>z) s1 gg];let l2:=Ae r2;let#[G2,rel2,gg2,back2]:=r2.hide l2;show#[F2,G2,U2,_,_,rel2,hk2,λz U3 i' F3 H3 hk3 s3 r3 rv3=>?_,x0.mono (λ_ z=>z) (s1.trans s2) (gg.trans gg2)];let l3:=Ae r3;let#[q,eq,hk3]:=Av hk3;let#[#[t,U4],eg,hk4]:=Av hk3
 --all three stand at the end
 let r4:=back (s2.trans s3) (back2 s3 r3);simp only[qp,qN,nil_append]at r4;let ri:=AE (U':=[zo y,zo r]) (Z':=[some o',some v]) r4 l3 rv3 eq;let r5:Rel X.K (U3++[zo r]) (Z++[some v]) F3 G H3:=Rel.mid (U:=U3) (Z:=Z) (Rel.mid (U:=U3) (Z:=Z) r4 l3) l3;let#[F4,s4,l4,r6]:=AF (U':=[]) (Z':=[]) r5 l3 rv eg;cases y with
 |v y0=>show hk4.elim
 |loc k=>
  cases q with
  |int m=>
   cases qs:slot U4 j with
   |none=>simp only[qs]at hk4
   |some sj=>
    cases sj with
    |lst l=>
     simp only[qs]at hk4;let#[rfl,hk4]:=hk4;let#[w,ew,hnx]:=Av hk4;let hZ:Z[k]?=some (some o'):=rv2;let#[v',fp,e1,sr]:=r6.at (i:=k) (s:=.lst l) (by rw[HG (Gy qs)];show qs);let hkl:k<Z.length:=(qg.mp hZ).1;rw[getElem?_append_left hkl,hZ]at e1;let e2:o'=v':=↑e1
     subst e2;let hw:w<l.length:=by
      unfold ixN at ew;split at ew
      .split at ew
       .let e:=qf ew;lia
       .cases ew
      .split at ew
       .let e:=qf ew;lia
       .cases ew
     cases sr with
     |lst hD rl=>rename_i a xs fl;let#[xs',hD',zF,r7]:=Rel.setItem r6 qs hZ hw;rw[hD]at hD';cases hD';cases ri;show#[a,xs,m,w,rfl,rfl,hD,by rw[zF];show ew,n _ Z F4 _ hnx KP.refl (s1.trans (s2.trans (s3.trans s4))) r7]
    |_=>simp[qs]at hk4
  |_=>show hk4.elim
def IM(ho:FE X o (zi j))(he:FE X e we)
  (Y:autoParam (attributeBase o "append" X.env (eval o X.env)=eval o X.env) rZ9)
  (h3:autoParam (((backTo cpos (starEach [e] X.env)).all (λx=>!x.1)&&(backToKw cpos (keywordEach [] X.env)).all (λx=>x.1.isSome)
   &&decide ([e].length+([]:List Keyword).length+(if([]:List Keyword).isEmpty then 0 else 1)<30))=true) rZ9)
  (O:autoParam ((apos.endLine==cpos.line)=true) rZ9)(hs:autoParam (starEach [e] X.env=[(false,eval e X.env)]) rZ9):FE X (.Call (.Attribute o "append" apos) [e] [] cpos) (cT j we):=λpn xe hp=>by
 refine PE.imp (Gn (X:=wp X pn xe) PySem.F.plainAttrs_list PySem.F.slot_list_append PySem.F.type_list_append IL (ho pn xe hp) (Aa he Ac hs pn xe hp) Y h3 O hs rfl) λZ H Q q=>?_;let#[F,G,U,P,PX,h4,hw,h5,hx]:=q;let J:(match slot U j with
  |some (.lst _)=>we U (λr L=>zm (give r L) λp=>(match slot p.2 j with
   |some (.lst l)=>l.length<big/\P (.v (.sh .non)) (p.2.set j (some (.lst (l++[p.1]))))
   |_=>False)) PX
  |_=>False):=hw
 cases qs:slot U j with
 |none=>rw[qs]at J;show J.elim
 |some s0=>
  cases s0 with
  |lst l0=>
   rw[qs]at J;show#[F,G,U,λy M=>y=.loc j/\M=U,PX,h4,by unfold zi;rw[qs];show#[rfl,rfl],λy M o' F1 H1 B s1 r1 rv=>?_,hx];let#[rfl,rfl]:=B;let l1:=Ae r1;let h1:Z[j]?=some (some o'):=rv;let r2:=r1.drop l1;let#[v',fp,e1,sr]:=r2.at qs;rw[h1]at e1;let e2:o'=v':=↑e1
   subst e2;cases sr with
   |lst hD rl=>
    rename_i a xs fl;show#[.inl #[rfl,_,bK.of hD],F1,G,M,λrs L=>match rs with|[r]=>(zm (give r L) λp=>match slot p.2 j with|some (.lst l)=>l.length<big/\P (.v (.sh .non)) (p.2.set j (some (.lst (l++[p.1]))))|_=>False)|_=>False,PX,r2,J,λrs L vs F2 H2 B s2 r3 hl z=>?_,hx.grow s1];match rs,vs,z,r3,B with
    |[r],[v],z,r3,B=>
     let#[#[t,h7],eg,B]:=Av B;let#[F3,s3,l3,r4]:=AF (U':=[]) (Z':=[]) r3 hl z.1 eg;split at B
     .rename_i l ql;let#[ys,h6,h2,r5]:=Rel.append r4 ql h1;show#[a,ys,v,rfl,rfl,h6,by rw[h2];show lt_trans B.1 ⋯,h5 _ _ .non F3 _ B.2 (s1.trans (s2.trans s3)) (r5.push .non) trivial]
     .show B.elim
    |[],_,_,_,B=>show B.elim
    |[_],[],z,_,_=>show z.elim
    |[_],_::_::_,z,_,_=>show z.2.elim
    |_::_::_,_,_,_,B=>show B.elim
  |_=>rw[qs]at J;show J.elim
section
variable{K:W.Frag}
def gN(K:W.Frag)(F H:Hp):List V->List D->Prop
 |[],[]=>True
 |v::vs,d::ds=>aX K F H v d/\gN K F H vs ds
 |_,_=>False
def Bv{b:List D->Option S}(h2:∀x y r,b (x::y::r)=none)(G:b []=none)(B:gN K F H vs z)(e:b z=some s):∃d v,z=[d]/\vs=[v]:=by
 cases z with
 |nil=>rw[G]at e;cases e
 |cons x z=>
  cases z with
  |cons y r=>rw[h2]at e;cases e
  |nil=>
   cases vs with
   |nil=>show B.elim
   |cons v vs=>
    cases vs with
    |nil=>show#[x,v,rfl,rfl]
    |cons u vs=>show B.2.elim
def BO:∀{rs:List R}{vs:List V}{z:List D}{U U':Env}{F:Hp}{Z':St},Rel K (U++(rs.map zo++U')) (Z++(vs.map some++Z')) F G H->U.length=Z.length->lV Z vs rs->(rs.mapM λr=>zy r U)=some z->
  ∃F',zn F F'/\gN K F' H vs z/\Rel K (U++U') (Z++Z') F' G H
 |[],[],z,U,U',F,Z',r,h,_,e=>by
  let J:z=[]:=↑e.symm
  subst J;show#[F,zn.refl F,trivial,r]
 |[],_::_,_,_,_,_,_,_,_,h,_=>h.elim
 |_::_,[],_,_,_,_,_,_,_,h,_=>h.elim
 |x::rs,v::vs,z,U,U',F,Z',r,h,rv,e=>by
  rw[List.mapM_cons]at e;cases q:zy x U with
  |none=>rw[q]at e;cases e
  |some d=>
   rw[q]at e;cases B:(rs.mapM λr=>zy r U)with
   |none=>rw[B]at e;cases e
   |some es=>rw[B]at e;let J:d::es=z:=qf e;subst J;let#[F1,M,O,r1]:=Bz (U':=rs.map zo++U') (Z':=vs.map some++Z') r h rv.1 q;let#[F2,L,res,Y]:=BO (rs:=rs) (vs:=vs) r1 h rv.2 B;show#[F2,M.trans L,#[O.mono L,res],Y]
def cB(K:W.Frag)(r:List V->Hp->VK->Prop)(f:List D->Option S):Prop:=∀(Z:St)(U:Env)(F G H:Hp)(vs:List V)(z:List D)(s:S)(Q:VK),Rel K U Z F G H->gN K F H vs z->f z=some s->
 (∀v F' H',zn F F'->Rel K (U++[some s]) (Z++[some v]) F' G H'->Q v H')->r vs H Q
end
section
variable{id T:String}
def LC(hd:cB X.K r f)(Z:St)(H:Hp)(Q:VK)(q:tW (wp X pn xe) (wB f Y) Z H Q):xG r (pJ (wp X pn xe) Y) Z H Q:=by show(many (k:=λO z Q E=>zm (O.mapM λr=>zy r z) λM=>zm (f M) λs=>Q (.v s) z) q).mono λvs H1 h1=>?_;let#[F,G,U,O,P,PX,J,hl,rv,B,L,hx]:=h1;let#[M,ed,B]:=Av B;let#[s,es,B]:=Av B;let#[F1,s1,re,r1]:=BO (U':=[]) (Z':=[]) ↑J hl rv ed;show hd Z U F1 G H1 vs M s Q ↑r1 re es λv F' H' sm r'=>L _ U v F' H' B (s1.trans sm) r' trivial
def IV(Y:∀pn xe,aS (wp X pn xe) (.builtin id) r)(O:cB X.K r f)(L:Gl X x)(J:X.mg x=none)(F:bootBuiltins x=some (.builtin id))(ha:FA X (e::es) B)(hn:autoParam (x≠"__name__") dZ9)(z:autoParam ((x==("__debug__":Str))=false) dZ9)
  (M:autoParam (starEach (e::es) X.env=(false,eval e X.env)::starEach es X.env) rZ9)(v:autoParam ((backTo pos (starEach es X.env)).any (·.1)=false) rZ9):FE X (.Call (.Name x p) (e::es) [] pos) (wB f B):=λpn xe G=>
 PE.imp (QB (X:=wp X pn xe) (Y pn xe) L J F (ha pn xe G) hn z M v) (LC O)
def Gi(Y:∀pn xe,aS (wp X pn xe) (.type T) r)(O:cB X.K r f)(L:Gl X x)(J:X.mg x=none)(F:bootBuiltins x=some (.type T))(ha:FA X (e::es) B)(hn:autoParam (x≠"__name__") dZ9)(z:autoParam ((x==("__debug__":Str))=false) dZ9)
  (M:autoParam (starEach (e::es) X.env=(false,eval e X.env)::starEach es X.env) rZ9)(v:autoParam ((backTo pos (starEach es X.env)).any (·.1)=false) rZ9):FE X (.Call (.Name x p) (e::es) [] pos) (wB f B):=λpn xe G=>
 PE.imp (Rf (X:=wp X pn xe) (Y pn xe) L J F (ha pn xe G) hn z M v) (LC O)
def pX(K:W.Frag):List V->Hp->VK->Prop:=λxs H Q=>(∃p ys,xs=[.ref p]/\(bK K H p ys\/bJ K H p ys)/\Q (.int ys.length) H)\/∃z,xs=[.str z]/\z.length<=sizeLine/\Q (.int z.length) H
def aS.or'{f:Value}(h:aS X f r)(h':aS X f B):aS X f (λx H Q=>r x H Q\/B x H Q):=λzC s Z H xs v Q I z q=>q.elim (h zC s Z H xs v Q I z) (h' zC s Z H xs v Q I z)
def LP:aS X (.builtin "len") (pX X.K):=aS.or' SY Tw
def Lu{K:W.Frag}:cB K (pX K) cP:=by
 intro Z U F G H Y ds s Q B J e M;let#[d,v,rfl,rfl]:=Bv (λx y r=>by cases x<;>rfl) rfl J e;cases d with
 |str l=>cases e;let#[x,rfl,O,z]:=J.1.str;show .inr #[x,rfl,by rw[Gb O];show z,by rw[Gb O];show M _ F H (zn.refl F) (B.push (.int _))]
 |tup l=>cases e;let#[a,xs,rfl,h1,L]:=J.1.tup;show .inl #[a,xs,rfl,.inr (bJ.of (B.fr _ _ h1)),by rw[L.len];show M _ F H (zn.refl F) (B.push (.int _))]
 |lst l=>cases e;let#[a,xs,rfl,h1,L]:=J.1.lst B.fr;show .inl #[a,xs,rfl,.inl h1,by rw[L.len];show M _ F H (zn.refl F) (B.push (.int _))]
 |_=>cases e
def DF(F:Gl X "len")(B:X.mg "len"=none)(J:FA X (e::es) z)(G:autoParam (starEach (e::es) X.env=(false,eval e X.env)::starEach es X.env) rZ9)(v:autoParam ((backTo pos (starEach es X.env)).any (·.1)=false) rZ9):FE X (.Call (.Name "len" p) (e::es) [] pos) (wB cP z):=
 IV (λ_ _=>LP) Lu F B PySem.boot_len J ⋯ ⋯ G v
end
section
variable{K:W.Frag}
def xV:List V->Hp->VK->Prop:=λxs H Q=>(∃i,xs=[.int i]/\Q (.int i) H)\/∃k,xs=[.bl k]/\Q (.int (if k then 1 else 0)) H
def aX.bl(h:aX K F H v (.bl b)):v=.bl b:=by
 rcases h with h|⟨_,_,_,_,h,_⟩|⟨_,_,_,_,_,h,_⟩|⟨_,_,_,_,_,h,_⟩
 .cases h;rfl
 .cases h
 .cases h
 .cases h
def RJ:cB K xV jH:=by
 intro Z U F G H L M s Q z B e J;let#[d,v,rfl,rfl]:=Bv (λx y r=>by cases x<;>rfl) rfl B e;cases d with
 |int i=>cases e;let:=B.1.int;subst this;show .inl #[i,rfl,J _ F H (zn.refl F) (z.push (.int _))]
 |bl b=>cases e;let:=B.1.bl;subst this;show .inr #[b,rfl,J _ F H (zn.refl F) (z.push (.int _))]
 |_=>cases e
def Ir(G:Gl X "int")(F:X.mg "int"=none)(B:bootBuiltins "int"=some (.type "int"))(L:FA X (e::es) z)(J:autoParam (starEach (e::es) X.env=(false,eval e X.env)::starEach es X.env) rZ9)(v:autoParam ((backTo pos (starEach es X.env)).any (·.1)=false) rZ9):FE X (.Call (.Name "int" p) (e::es) [] pos) (wB jH z):=
 Gi (λ_ _=>RZ) RJ G F B L ⋯ ⋯ J v
def pS(K:W.Frag):List V->Hp->VK->Prop:=λxs H Q=>∃p ys,xs=[.ref p]/\((bK K H p ys/\∀l,H l=none->Q (.ref l) (upd H l (.tup ys)))\/(bJ K H p ys/\Q (.ref p) H))
def SH:cB K (pS K) cM:=by
 intro Z U F G H Y ds s Q z B e M;let#[d,v,rfl,rfl]:=Bv (λx y r=>by cases x<;>rfl) rfl B e;cases d with
 |tup l=>cases e;let#[a,xs,rfl,h1,J]:=B.1.tup;show#[a,xs,rfl,.inr #[bJ.of (z.fr _ _ h1),M _ F H (zn.refl F) (z.push (.tup h1 J))]]
 |lst l=>cases e;let#[a,xs,rfl,h1,J]:=B.1.lst z.fr;show#[a,xs,rfl,.inl #[h1,λp O=>?_]];let L:=(z.free O).1;show M _ _ _ (zn.upd L) ((z.newF O).push (.tup Bx (J.mono (zn.upd L))))
 |_=>cases e
def Gf(G:Gl X "tuple")(F:X.mg "tuple"=none)(B:bootBuiltins "tuple"=some (.type "tuple"))(L:FA X (e::es) z)(J:autoParam (starEach (e::es) X.env=(false,eval e X.env)::starEach es X.env) rZ9)(v:autoParam ((backTo pos (starEach es X.env)).any (·.1)=false) rZ9):FE X (.Call (.Name "tuple" p) (e::es) [] pos) (wB cM z):=
 Gi (λ_ _=>Tt) SH G F B L ⋯ ⋯ J v
def nX(K:W.Frag):List V->Hp->VK->Prop:=λxs H Q=>∃p ys,xs=[.ref p]/\(bK K H p ys\/bJ K H p ys)/\∀l,H l=none->Q (.ref l) (upd H l (.lst ys))
def LM:cB K (nX K) uQ:=by
 intro Z U F G H O Y s Q z B e M;let#[d,v,rfl,rfl]:=Bv (λx y r=>by cases x<;>rfl) rfl B e;cases d with
 |tup l=>cases e;let#[a,xs,rfl,h1,J]:=B.1.tup;show#[a,xs,rfl,.inr (bJ.of (z.fr _ _ h1)),λp L=>M _ F _ (zn.refl F) (z.newLD L J)]
 |lst l=>cases e;let#[a,xs,rfl,h1,J]:=B.1.lst z.fr;show#[a,xs,rfl,.inl h1,λp L=>M _ F _ (zn.refl F) (z.newLD L J)]
 |_=>cases e
end
def Ep(h:aG a=aG b):a=b:=by
 cases a with
 |inl i=>cases b with
  |inl j=>have h':D.int i=D.int j:=h;cases h';rfl
  |inr y=>have h':D.int i=D.str y.cps.toList:=h;cases h'
 |inr x=>cases b with
  |inl j=>have h':D.str x.cps.toList=D.int j:=h;cases h'
  |inr y=>have h':D.str x.cps.toList=D.str y.cps.toList:=h;let#[#[a]]:=x;first|rfl|assumption|(simp_all;done)
def Gg:∀{a b:List aK},a.map aG=b.map aG->a=b
 |[],[],_=>rfl
 |[],_::_,h=>by simp at h
 |_::_,[],h=>by simp at h
 |x::a,y::b,h=>by
  injection h with h1 h2
  rw[Ep h1,Gg h2]
section
variable{K:W.Frag}
def FZ(r:aN K H x d)(h:bI d=true):∃k:aK,x=kV k/\d=aG k:=by
 cases r with
 |int i=>show#[.inl i,rfl,rfl]
 |str e z=>show#[.inr _,rfl,by rw[<-e];rfl]
 |_=>cases h
def ES(r:zA K H xs l):l.all bI=true->∃ks:List aK,xs=ks.map kV/\l=ks.map aG:=
 zA.ind (P:=λxs l=>l.all bI=true->∃ks:List aK,xs=ks.map kV/\l=ks.map aG) (λ_=>#[[],rfl,rfl]) (λa _ v h=>by rw[all_cons,and_eq_true]at h;let#[k,rfl,rfl]:=FZ a h.1;let#[ks,rfl,rfl]:=v h.2;show#[k::ks,rfl,rfl]) r
open Classical in
def Jj{κ:Type}[DecidableEq κ](g:κ->D)(v:∀a b,g a=g b->a=b):∀(zD:List (κ×V))(k:κ),(cE zD k).isSome=decide (g k∈zD.map λp=>g p.1)
 |[],k=>by simp[cE]
 |p::r,k=>by
  by_cases e:p.1=k
  .rw[Gm e];let:g k∈(p::r).map λp=>g p.1:=by rw[qy,e];exact qm
   show(qP this).symm
  .rw[FV e,Jj g v r k];let:(g k∈(p::r).map λp=>g p.1)↔(g k∈r.map λp=>g p.1):=by rw[qy,qA];exact#[λz=>z.elim (λw=>absurd (v _ _ w).symm e) id,.inr]
   show(decide_eq_decide.2 this).symm
open Classical in
def Gv{κ:Type}[DecidableEq κ](g:κ->D)(F:∀a b,g a=g b->a=b){α:Type}:∀(zD:List (κ×V))(vs:List α)(k:κ)(P:V->α->Prop),zD.length=vs.length->(∀(i:Nat) x y,(zD.map (·.2))[i]?=some x->vs[i]?=some y->P x y)->
  (lk (zD.map λp=>g p.1) vs (g k)=none/\cE zD k=none)\/∃x y,cE zD k=some x/\lk (zD.map λp=>g p.1) vs (g k)=some y/\P x y
 |[],[],k,P,_,_=>.inl #[rfl,rfl]
 |[],_::_,_,_,h,_=>by simp at h
 |_::_,[],_,_,h,_=>by simp at h
 |p::r,v::vs,k,P,hl,h=>by
  by_cases e:p.1=k
  .show .inr #[p.2,v,Gm e,?_,h 0 p.2 v rfl rfl];show(if g p.1=g k then some v else lk (r.map λp=>g p.1) vs (g k))=some v;rw[qY (by rw[e])]
  .let B:¬g p.1=g k:=λz=>e (F _ _ z);rw[FV e];let G:lk ((p::r).map λp=>g p.1) (v::vs) (g k)=lk (r.map λp=>g p.1) vs (g k):=by show(if g p.1=g k then some v else lk (r.map λp=>g p.1) vs (g k))=_;rw[qZ B]
   rw[G];show Gv g F r vs k P ↑hl λi x y h1 h2=>h (i+1) x y ↑h1 ↑h2
def Oz(O:aN K H x d)(r2:aN K H (.ref a) (.dct t ks vs))(M:bF t d=true):∃o,fH H a x o/\o.isSome=(open Classical in decide (d∈ks))/\
  ((lk ks vs d=none/\o=none)\/∃v e,o=some v/\lk ks vs d=some e/\aN K H v e):=by
 cases r2 with
 |dK e k r=>
  rename_i B;let#[J,rfl,rfl]:=FZ O M;show#[_,.inl #[B,J,e,rfl,rfl],?_,?_]
  .rw[k];show Jj aG (λ_ _=>Ep) B J
  .rw[k];rcases Gv aG (λ_ _=>Ep) B vs J (λv e=>aN K H v e) (by let:=r.len;simpa using this) (λi x y h1 h2=>by let#[Y,G,L]:=r.get h2;rw[h1]at G;cases G;show L)with⟨h1,h2⟩|⟨v,e,h1,h2,h3⟩
   .show .inl #[h1,h2]
   .show .inr #[v,e,h1,h2,h3]
 |dT e k r=>
  rename_i B;cases O with
  |tup e1 q=>
   let#[F,rfl,rfl]:=ES q M;let inj:∀a b:List aK,D.tup (a.map aG)=D.tup (b.map aG)->a=b:=λa b z=>Gg (D.tup.inj z);show#[_,.inr #[B,F,_,e,rfl,e1,rfl],?_,?_]
   .rw[k];show Jj (λl=>D.tup (l.map aG)) inj B F
   .rw[k];rcases Gv (λl=>D.tup (l.map aG)) inj B vs F (λv e=>aN K H v e) (by let:=r.len;simpa using this) (λi x y h1 h2=>by let#[Y,G,L]:=r.get h2;rw[h1]at G;cases G;show L)with⟨h1,h2⟩|⟨v,e,h1,h2,h3⟩
    .show .inl #[h1,h2]
    .show .inr #[v,e,h1,h2,h3]
  |_=>cases M
def fX(neg:Bool):R2:=λx y H Q=>∃a o,y=.ref a/\fH H a x o/\Q (.bl (if neg then !o.isSome else o.isSome)) H
def RU(F:X.A.units+1<cLine):OpR X (compareOp .In) (fX false):=by intro zC s Z H x y v u Q I B z h;let#[a,o,rfl,g,q]:=h;cases z;show JC F I g B λs' G=>#[.bl _,H,G,rfl,q]
def SX(F:X.A.units+1<cLine):OpR X (compareOp .NotIn) (fX true):=by intro zC s Z H x y v u Q I B z h;let#[a,o,rfl,g,q]:=h;cases z;show Oy F I g B λs' G=>#[.bl _,H,G,rfl,q]
def fY(K:W.Frag)(neg:Bool):R2:=λx y H Q=>pZ K neg x y H Q\/fX neg x y H Q
def Qa(v:X.A.units+32<cLine):OpR X (compareOp .In) (fY X.K false):=FL.OpR.or (Nl v) (RU ∅)
def Te(v:X.A.units+32<cLine):OpR X (compareOp .NotIn) (fY X.K true):=FL.OpR.or (Rh v) (SX ∅)
open Classical in
def OE(B:aN K H x p)(z:aN K H y q)(e:lU p q=some k)(F:Q (.bl (if neg then !k else k)) H):fY K neg x y H Q:=by
 unfold lU at e;split at e
 .rename_i l;split at e
  .cases e
  .rename_i h;let v:=qf e;subst v;show .inl #[p,l,B,.inl z,λd J=>?_,F];grind
 .rename_i l;split at e
  .cases e
  .rename_i h;let v:=qf e;subst v;show .inl #[p,l,B,.inr z,λd J=>?_,F];grind
 .rename_i t ks L;split at e
  .rename_i h;let v:=qf e;cases y with
   |ref a=>let#[o,g,G,_]:=Oz B z h;show .inr #[a,o,rfl,g,?_];rw[G,v];show F
   |_=>cases z
  .cases e
 .cases e
end
open PySem.Builtin.Str (strSliceIndices)
def HE(n d:Nat)(o:Option Int):HT.sIx n d o=FL.sIx n d o:=by cases o<;>rfl
def Kw(n d:Nat)(v:d<=n)(o:Option Int):FL.sIx n d o<=n:=by rw[<-HE];show HT.sIx_le n d v o
def sD(z:Str)(lo hi:Option Int):Str:=#[(dH z.cps.toList lo hi).toArray]
def RS(lo hi:Option Int)(n:Nat):strSliceIndices lo hi 1 n=(List.range (FL.sIx n n hi-FL.sIx n 0 lo)).map (FL.sIx n 0 lo+·):=by rw[<-sliceRange_one];unfold strSliceIndices;cases lo<;>cases hi<;>simp only[if_true,FL.sIx,Ff]<;>rfl
def Ri(x:Str)(lo hi:Option Int):Txt.slice x lo hi=sD x lo hi:=by
 let v:x.length=x.cps.toList.length:=by show x.cps.size=_;rw[qT]
 unfold Txt.slice sD dH;rw[RS,pick_run,<-v];split
 .rename_i h;simp at h;let h1:=Kw x.length x.length (q5 _) hi;let h2:FL.sIx x.length 0 lo=0\/x.length=0:=by lia
  let B:FL.sIx x.length 0 lo=0:=h2.elim id λz=>by let:=Kw x.length 0 (zero_le _) lo;lia
  rw[h,B,drop_zero,take_of_length_le (by rw[v];show q5 _)]
 .rfl
def tM:V->Option Int->Option Int->Hp->VK->Prop:=λx lo hi H Q=>∃z,x=.str z/\z.length<=sizeLine/\Q (.str (sD z lo hi)) H
def KY(p:IsPart v o):∃l:Option (Int×Tok),v=partValue l/\o=l.map (·.1):=by
 cases p with
 |none=>show#[none,rfl,rfl]
 |int i t=>show#[some (i,t),rfl,rfl]
def NQ:jJ X tM:=by
 intro zC s Z H x v Y O lo hi sl Q I B M J G h;let#[z,rfl,L,q]:=h;let#[t,rfl]:=B;let#[l,rfl,rfl]:=KY J;let#[u,rfl,rfl]:=KY G;rw[<-Ri]at q;exact⟨"str",_,F.slot_str_getitem.lookup,typeIs_str _ _ _,wpAny_getItem_str_slice (l:=l) (u:=u) (st:=none) M rfl
  (post_val_or_str #[le_trans (Txt.slice_le z _ _) L,λt' k=>#[.str (Txt.slice z (l.map (·.1)) (u.map (·.1))),H,I.tok _,#[_,rfl],q]])⟩
def tI(K:W.Frag):V->Option Int->Option Int->Hp->VK->Prop:=λx lo hi H Q=>∃a xs,x=.ref a/\bJ K H a xs/\
 (HT.sIx xs.length 0 lo=0/\HT.sIx xs.length xs.length hi=xs.length)/\Q (.ref a) H
def TC{items:Array Value}{lo hi:Option Int}(z:IsTup s.heap t items)(hs:s.heap.IsSliceOf J O M .none)(pl:IsPart O lo)(Y:IsPart M hi)
  (L:HT.sIx items.size 0 lo=0/\HT.sIx items.size items.size hi=items.size)(h:Q (.ref t) s):wpAny (model prog w) A (getItem (.ref t) (.ref J)) Q E s:=by
 let#[os,B,F,h1]:=id hs;let G:s.TypeIs (.ref J) "slice":=#[os,B,F]
 unfold getItem;try with_reducible show ze ?_
 first|show qa (qb ?_)|skip
 refine qa (wpAny_sequenceKey z.typeIs ⋯ ?_);refine qa (wpAny_callSpecial?_slot (name:=Str.ofString "__getitem__") z.typeIs PyProof.Rows.slot_tuple_getitem
  (zc PyProof.Rows.slot_tuple_getitem z.typeIs entry_tuple_getitem ?_ (args_tuple_getitem _ _)))
 show wpAny _ _ (Builtin.Tuple.tupleItemsOf (.ref t)>>=_) _ _ s;show qa (tupleItemsOf_ z ?_);show qa (wpAny_typeOf G ?_);show qa (HT.sliceApplied_gen hs pl Y ?_);let v:(((HT.sIx items.size 0 lo:Nat):Int)==0&&(1:Int)==1&&(HT.sIx items.size items.size hi-HT.sIx items.size 0 lo)==items.size)=true:=by rw[L.1,L.2];simp
 show wpAny _ _ (if(((HT.sIx items.size 0 lo:Nat):Int)==0&&(1:Int)==1&&(HT.sIx items.size items.size hi-HT.sIx items.size 0 lo)==items.size)=true then _ else _) _ _ s;rw[qY v];show qa (qa (wpAny_typeOf z.typeIs (qb ?_)));first
  |show qa (wpAny_rule (qb ⟨_,rfl,qb h⟩))
  |show qa (qb (qb ⟨_,rfl,qb h⟩))
  |show qb ⟨_,rfl,qb h⟩
def Rq:jJ X (tI X.K):=by
 intro zC s Z H x v vl vu lo hi sl Q I G Y L J h;let#[a,xs,rfl,M,O,q]:=h;cases G;let#[B,r,F,hz]:=I.tuple M;let z:B.toArray.size=xs.length:=by rw[qr];show r.length.symm
 show#["tuple",_,PyProof.Rows.slot_tuple_getitem.lookup,F.typeIs,?_];show TC F Y L J (by rw[z];show O) #[.ref a,H,I,rfl,q]
section
variable{K:W.Frag}
def zA.drop:∀{xs:List V}{l:List D}(n:Nat),zA K F xs l->zA K F (xs.drop n) (l.drop n)
 |_,_,0,r=>by rw[drop_zero];show r
 |_,_,n+1,.nil=>by rw[List.drop_nil];show .nil
 |_,_,n+1,.cons a b=>by rw[List.drop_succ_cons];show zA.drop n b
def zA.take:∀{xs:List V}{l:List D}(n:Nat),zA K F xs l->zA K F (xs.take n) (l.take n)
 |_,_,0,r=>by rw[List.take_zero];show .nil
 |_,_,n+1,.nil=>by rw[List.take_nil];show .nil
 |_,_,n+1,.cons a b=>by rw[List.take_succ_cons];show .cons a (zA.take n b)
def zA.cut{lo hi:Option Int}(r:zA K F xs l):zA K F (gK xs lo hi) (dH l lo hi):=by unfold gK dH;rw[HE,r.len];show(r.drop _).take _
def xU(K:W.Frag):V->Option Int->Option Int->Hp->VK->Prop:=λx lo hi H Q=>tN K x lo hi H Q\/tJ K x lo hi H Q\/tI K x lo hi H Q\/tM x lo hi H Q
def JZ:jJ X (xU X.K):=jJ.or PL (jJ.or Ny (jJ.or Rq NQ))
def Po{lo hi:Option Int}(z:Rel K U Z F G H)(O:aX K F H v d)(e:jF d lo hi=some s)
  (L:∀v F' H',zn F F'->Rel K (U++[some s]) (Z++[some v]) F' G H'->Q v H'):xU K v lo hi H Q:=by
 cases d with
 |str l=>
  cases e;let#[x,rfl,h1,h2]:=O.str;subst h1;show .inr (.inr (.inr #[x,rfl,?_,L _ F H (zn.refl F) (z.push (.str rfl ?_))]))
  .let:x.length=x.cps.toList.length:=by show x.cps.size=_;rw[qT]
   rw[this];show h2
  .show le_trans ?_ h2;unfold dH;rw[qG,qF];lia
 |tup l=>
  cases e;let#[a,xs,rfl,h1,B]:=O.tup;by_cases J:HT.sIx xs.length 0 lo=0/\HT.sIx xs.length xs.length hi=xs.length
  .show .inr (.inr (.inl #[a,xs,rfl,bJ.of (z.fr _ _ h1),J,L _ F H (zn.refl F) (z.push ?_)]));let:dH l lo hi=l:=by unfold dH;rw[<-B.len,<-HE,<-HE,J.1,J.2,drop_zero,take_of_length_le (by rw[<-B.len];lia)]
   rw[this];show .tup h1 B
  .show .inr (.inl #[a,xs,rfl,bJ.of (z.fr _ _ h1),J,λp M=>?_]);let Y:=(z.free M).1;show L _ _ _ (zn.upd Y) ((z.newF M).push (.tup Bx (B.cut.mono (zn.upd Y))))
 |lst l=>cases e;let#[a,xs,rfl,h1,B]:=O.lst z.fr;show .inl #[a,xs,rfl,h1,λp M=>L _ F _ (zn.refl F) (z.newLD M B.cut)]
 |_=>cases e
end
def Fz(r1:Rel X.K (U1++[zo x]) (Z++[some v]) F G H1)(M:RV Z v x)(Y:wb U1 (λy U2=>k x y U2 P PX) PX)
  (h3:∀r U' v F' H',P r U'->zn F F'->Rel X.K (U'++[zo r]) (Z++[some v]) F' G H'->RV Z v r->Q v H')(hx:XC X (·=Z) F G PX):tW X wb Z H1 λu H2=>zQ X Z k Q v u H2:=by
 let h1:=Ae r1;let#[G1,B,gg,back]:=r1.hide h1;show#[F,G1,U1,_,PX,B,Y,λy U2 u F2 H2 O J r2 L=>?_,hx.mono (λ_ z=>z) (zn.refl F) gg];let h2:=Ae r2;let r3:=back J r2;rw[qp,qp]at r3;show#[F2,G,U2,x,y,P,PX,Rel.swap (U1:=[zo y]) (Z1:=[some u]) (U2:=[zo x]) (Z2:=[some v]) h2 rfl r3,h2,M,L,O,λr U' v F' H' a b c d=>h3 r U' v F' H' a (J.trans b) c d,hx.grow J]
def AW{U:Env}{o:Option D}{k:Int->Prop}(h:(match o with|some (.int i)=>k i|_=>False)):∃i,o=some (.int i)/\k i:=by
 split at h
 .show#[_,rfl,h]
 .show h.elim
def Kj{K:W.Frag}{U:Env}{Z:St}{F G H:Hp}{x y:R}{v u:V}{lo hi:Option Int}{P:WQ}{Q:VK}{q:D}(J:Rel K (U++[zo x,zo y]) (Z++[some v,some u]) F G H)(M:U.length=Z.length)(rx:RV Z v x)
  (B:zm (zy x U) λd=>zm (jF d lo hi) λs=>P (.v s) U)
  (L:∀r U' v F' H',P r U'->zn F F'->Rel K (U'++[zo r]) (Z++[some v]) F' G H'->RV Z v r->Q v H'):xU K v lo hi H Q:=by
 let#[d,ed,B]:=Av B;let#[s,es,B]:=Av B;let z:Rel K (U++[zo x]) (Z++[some v]) F G H:=by let:=Rel.swap (U1:=[zo x]) (Z1:=[some v]) (U2:=[zo y]) (Z2:=[some u]) M rfl J;show Rel.mid (U:=U) (Z:=Z) this M
 let#[F1,Y,re,r1]:=Bz (U':=[]) (Z':=[]) z M rx ed;show Po (U:=U) (Z:=Z) ↑r1 re es λv F' H' O r'=>L _ U v F' H' B (Y.trans O) r' trivial
def NS(ha:FE X a wa)(hb:FE X b Y):FE X (.Subscript a (.Slice none (some b) none p2) pos) (sV wa none (some Y)):=λpn xe O=>by
 refine PE.imp (Ls (JZ (X:=wp X pn xe)) (ha pn xe O) Pb (IE (hb pn xe O))) λZ H Q q=>?_;refine(Cv (k:=λx y z Q E=>match view y z with
  |some (.int i)=>zm (zy x z) λd=>zm (jF d none (some i)) λs=>Q (.v s) z
  |_=>False) q).mono λv H1 h1=>h1.mono λu H2 h2=>?_
 let#[F,G,U,x,y,P,PX,B,L,rx,ry,M,J,hx]:=h2;let#[i,ei,M]:=AW (U:=U) (k:=λi=>zm (zy x U) λd=>zm (jF d none (some i)) λs=>P (.v s) U) M;let ru:=AE (U':=[]) (Z':=[]) (B.mid L) L ry ei;cases ru;show#[i,rfl,Kj (q:=.non) B L rx M J]
def OQ(ha:FE X a wa)(hb:FE X b wb)(hc:FE X c wc):FE X (.Subscript a (.Slice (some b) (some c) none p2) pos) (sV wa (some wb) (some wc)):=λpn xe hp=>by
 refine PE.imp (Ls (JZ (X:=wp X pn xe)) (ha pn xe hp) (IE (hb pn xe hp)) (IE (hc pn xe hp))) λZ H Q q=>?_;refine(Cv (k:=λx y U2 Q E=>match view y U2 with
  |some (.int i)=>wc U2 (λz B=>match view z B with
   |some (.int j)=>zm (zy x B) λd=>zm (jF d (some i) (some j)) λs=>Q (.v s) B
   |_=>False) E
  |_=>False) q).mono λv H1 h1=>h1.mono λu H2 h2=>?_
 obtain⟨F,G,U,x,y,P,PX,J,L,rx,ry,O,M,hx⟩:=h2;let#[i,ei,O]:=AW (U:=U) (k:=λi=>wc U (λz B=>match view z B with
   |some (.int j)=>zm (zy x B) λd=>zm (jF d (some i) (some j)) λs=>P (.v s) B
   |_=>False) PX) O
 let ru:=AE (U':=[]) (Z':=[]) (J.mid L) L ry ei;cases ru;let Y:Rel X.K (U++[zo x]) (Z++[some v]) F G H2:=by let:=Rel.swap (U1:=[zo x]) (Z1:=[some v]) (U2:=[zo y]) (Z2:=[some (.int i)]) L rfl J;show Rel.mid (U:=U) (Z:=Z) this L
 refine⟨i,rfl,(Fz (X:=wp X pn xe) (k:=λx z B P PX=>match view z B with
   |some (.int j)=>zm (zy x B) λd=>zm (jF d (some i) (some j)) λs=>P (.v s) B
   |_=>False) Y rx O M hx).mono λt H3 h3=>?_⟩
 let#[F,G,U,x,y,P,PX,J,L,rx,ry,O,M,hx]:=h3;let#[j,ej,O]:=AW (U:=U) (k:=λj=>zm (zy x U) λd=>zm (jF d (some i) (some j)) λs=>P (.v s) U) O;let ru:=AE (U':=[]) (Z':=[]) (J.mid L) L ry ej;cases ru;show#[j,rfl,Kj (q:=.non) J L rx O M]
end FL
namespace FL
open PySem
def oJ(f:List Nat->List D->Option S)(o:WE)(a:WA):WE:=λU Q E=>o U (λx z=>match x with
 |.v (.sh (.str l))=>a z (λB v=>zm (B.mapM λr=>zy r v) λF=>zm (f l F) λs=>Q (.v s) v) E
 |_=>False) E
def bT:List D->Option (List (List Nat))
 |[]=>some []
 |.str x::r=>(bT r).map (x::·)
 |_::_=>none
@[simp] theorem Si(l:List (List Nat)):bT (l.map .str)=some l:=by
  induction l with
  |nil=>rfl
  |cons a r v=>rw[qy,bT,v];rfl
def cN(v:List Nat):List (List Nat)->List Nat
 |[]=>[]
 |[x]=>x
 |x::r=>x++v++cN v r
def ML(v:List Nat):∀ys:List (List Nat),(cN v ys).length<=(ys.map List.length).sum+ys.length*v.length
 |[]=>zero_le _
 |[x]=>by simp[cN]
 |x::y::r=>by
  let:=ML v (y::r);rw[cN,qq,qq,qy,List.sum_cons,qt (a:=x),succ_mul]
  .lia
  .intro h;cases h
def LY(ys:List (List Nat)):cN [] ys=ys.flatten:=by
 induction ys with
 |nil=>rfl
 |cons x r v=>
  cases r with
  |nil=>simp[cN]
  |cons y r=>rw[cN,v];simp;intro h;cases h
def lI(v:List Nat)(l:List D):Option S:=(bT l).bind λys=>if(ys.map List.length).sum+ys.length*v.length<=big then some (.sh (.str (cN v ys)))else none
def eY(v:List Nat):List D->Option S
 |[.lst l]=>lI v l
 |[.tup l]=>lI v l
 |_=>none
def eD(j:Nat)(e:WE):WE:=λU Q E=>match slot U j with
 |some (.lst _)=>e U (λr v=>match view r v,slot v j with
  |some (.int i),some (.lst l)=>zm (if l.length<=big then ixN l.length i else none) λk=>zm l[k]? λs=>Q (.v s) (v.set j (some (.lst (l.eraseIdx k))))
  |_,_=>False) E
 |_=>False
def lM:List D->Option (List Bool)
 |[]=>some []
 |.bl x::r=>(lM r).map (x::·)
 |_::_=>none
@[simp] theorem TL(l:List Bool):lM (l.map .bl)=some l:=by
  induction l with
  |nil=>rfl
  |cons a r v=>rw[qy,lM,v];rfl
end FL
namespace FL
open PySem PySem.Spec PyProof.Rows L2
section
variable{id:String}
def lR(K:W.Frag)(r:V->List V->Hp->VK->Prop)(f:List Nat->List D->Option S):Prop:=∀(Z:St)(U:Env)(F G H:Hp)(x:Str)(vs:List V)(z:List D)(s:S)(Q:VK),Rel K U Z F G H->x.cps.toList.length<=16777216->gN K F H vs z->f x.cps.toList z=some s->
 (∀v F' H',zn F F'->Rel K (U++[some s]) (Z++[some v]) F' G H'->Q v H')->r (.str x) vs H Q
def MS(hm:∀pn xe,vE (wp X pn xe) id r)(hd:lR X.K r f)(slot:Slot "str" name id)(h5:typeOf (.builtin id)=pure (.type "method_descriptor"))(ho:FE X o wo)(ha:FA X (e::es) wa)
  (O:autoParam (attributeBase o name X.env (eval o X.env)=eval o X.env) rZ9)
  (h2:autoParam (((backTo cpos (starEach (e::es) X.env)).all (λx=>!x.1)&&(backToKw cpos (keywordEach [] X.env)).all (λx=>x.1.isSome)
   &&decide ((e::es).length+([]:List Keyword).length+(if([]:List Keyword).isEmpty then 0 else 1)<30))=true) rZ9)
  (M:autoParam ((apos.endLine==cpos.line)=true) rZ9)(hs:autoParam (starEach (e::es) X.env=(false,eval e X.env)::starEach es X.env) rZ9)(L:autoParam ((backTo cpos (starEach es X.env)).any (·.1)=false) rZ9):
  FE X (.Call (.Attribute o name apos) (e::es) [] cpos) (oJ f wo wa):=λpn xe hp=>by
 refine PE.imp (Gn (X:=wp X pn xe) PySem.F.plainAttrs_str slot h5 (hm pn xe) (ho pn xe hp) (ha pn xe hp) O h2 M hs L) λZ H Q q=>?_;refine(one (k:=λx h3 Q E=>match x with
  |.v (.sh (.str l))=>wa h3 (λrs B=>zm (rs.mapM λr=>zy r B) λds=>zm (f l ds) λs=>Q (.v s) B) E
  |_=>False) q).mono λv H1 h1=>?_
 let#[F,G,U,x,P,PX,Y,hl,rx,hk,h6,hx]:=h1;split at hk
 .rename_i l;let rp:=AE (U':=[]) (Z':=[]) (x:=.v (.sh (.str l))) Y hl rx rfl;cases rp with
  |str e1 z=>rename_i y;subst e1;show#[rfl,F,G,U,_,PX,Y.drop hl,hk,λrs B vs F2 H2 J s2 r2 h7 h4=>?_,hx];let#[ds,ed,J]:=Av J;let#[s,es,J]:=Av J;let#[F3,s3,re,r3]:=BO (U':=[]) (Z':=[]) ↑r2 h7 h4 ed;show hd Z B F3 G H2 y vs ds s Q ↑r3 z re es λv F' H' sm r'=>h6 _ B v F' H' J (s2.trans (s3.trans sm)) r' trivial
 .show hk.elim
end
section
variable{K:W.Frag}
def KZ(r:zA K F xs l)(h:bT l=some ys):∃v:List Str,xs=v.map V.str/\ys=v.map λz=>z.cps.toList:=
 zA.ind (P:=λxs l=>∀ys,bT l=some ys->∃v:List Str,xs=v.map V.str/\ys=v.map λz=>z.cps.toList) (λys h=>by cases h;show#[[],rfl,rfl]) (λa _ G ys h=>by
  cases a with
  |@str x _ e z=>let#[B,h1,rfl]:=qW.mp h;let#[v,rfl,rfl]:=G _ h1;show#[x::v,rfl,by rw[qy,e]]
  |_=>cases h) r ys h
def LF(v:Str):∀B:List Str,(Str.join v B).cps.toList=cN v.cps.toList (B.map λz=>z.cps.toList)
 |[]=>rfl
 |[x]=>rfl
 |x::y::r=>by show((x++v++Str.join v (y::r):Str)).cps.toList=x.cps.toList++v.cps.toList++cN v.cps.toList ((y::r).map λz=>z.cps.toList);rw[<-LF v (y::r)];show(x.cps++v.cps++(Str.join v (y::r)).cps).toList=_;rw[toList_append,toList_append]
def Hw:∀{v:List Value},zz (ys.map V.str) v->StrsAre v ys:=by
 induction ys with
 |nil=>intro v r;rw[map_nil]at r;cases r;show .nil
 |cons n G F=>
  intro v r;cases r with
  |cons B z=>let#[t,e]:=B;subst e;show .cons n t (F z)
def kO(K:W.Frag):V->List V->Hp->VK->Prop:=λx v H Q=>∃z a ys,x=.str z/\v=[.ref a]/\(bK K H a (ys.map V.str)\/bJ K H a (ys.map V.str))/\(ys.map (·.length)).sum+ys.length*z.length<=16777216/\Q (.str (Str.join z ys)) H
def Pk:vE X "str.join" (kO X.K):=by
 intro zC s Z H x vs v us Q I M O h;let#[z,a,ys,rfl,rfl,B,J,q]:=h;let#[t,rfl]:=M;cases O with
 |cons r1 Y=>
  cases Y;cases r1;let e:Txt.join z ys=Str.join z ys:=StrLaws.glued_eq_join z ys;rcases B with B|B
  .obtain⟨G,r,F,_⟩:=I.list B;show join_list F.isList (Hw r) J λL k=>#[.str (Str.join z ys),H,I.tok _,#[_,by rw[e]],q]
  .obtain⟨G,r,F,_⟩:=I.tuple B;show join_tuple F (Hw r) J λL k=>#[.str (Str.join z ys),H,I.tok _,#[_,by rw[e]],q]
def LN(J:Rel K U Z F G H)(Y:bK K H a xs\/bJ K H a xs)(r:zA K F xs l)(e:lI x.cps.toList l=some s)
  (k:∀v F' H',zn F F'->Rel K (U++[some s]) (Z++[some v]) F' G H'->Q v H'):kO K (.str x) [.ref a] H Q:=by
 let#[ys,e1,O]:=Option.bind_eq_some_iff.mp e;let#[B,rfl,rfl]:=KZ r e1;split at O
 .rename_i M;cases O;let hl:∀z:Str,z.cps.toList.length=z.length:=λz=>by rw[qT];rfl
  let e3:((B.map λz=>z.cps.toList).map List.length)=B.map (·.length):=by rw[qD];show map_congr_left λz _=>hl z
  let L:=M;rw[e3,qo]at M;show#[x,a,B,rfl,rfl,Y,le_trans M ⋯,k _ F H (zn.refl F) (J.push (.str (LF x B) ?_))];show le_trans (ML _ _) (le_trans L ⋯)
 .cases O
def Rl:lR K (kO K) eY:=by
 intro Z U F G H x M Y s Q z O B e L;let#[d,v,rfl,rfl]:=Bv (λx y r=>by cases x<;>rfl) rfl B e;cases d with
 |tup l=>let#[a,xs,rfl,h1,J]:=B.1.tup;show LN z (.inr (bJ.of (z.fr _ _ h1))) J e L
 |lst l=>let#[a,xs,rfl,h1,J]:=B.1.lst z.fr;show LN z (.inl h1) J e L
 |_=>cases e
end
def Il(L:FE X o G)(M:FA X [e] J)
  (B:autoParam (attributeBase o "join" X.env (eval o X.env)=eval o X.env) rZ9)
  (F:autoParam (((backTo cpos (starEach [e] X.env)).all (λx=>!x.1)&&(backToKw cpos (keywordEach [] X.env)).all (λx=>x.1.isSome)
   &&decide ([e].length+([]:List Keyword).length+(if([]:List Keyword).isEmpty then 0 else 1)<30))=true) rZ9)
  (z:autoParam ((apos.endLine==cpos.line)=true) rZ9)(hs:autoParam (starEach [e] X.env=(false,eval e X.env)::starEach [] X.env) rZ9)(v:autoParam ((backTo cpos (starEach [] X.env)).any (·.1)=false) rZ9):
  FE X (.Call (.Attribute o "join" apos) [e] [] cpos) (oJ eY G J):=MS (λ_ _=>Pk) Rl PySem.F.slot_str_join PySem.F.type_str_join L M B F z hs v
section
variable{K:W.Frag}
def zr.erase:∀{xs:List V}{l:List S}{fp:List Addr}{m:Nat}{s:S},zr K F H xs l fp->l[m]?=some s->∃y B v z,fp=B++(v++z)/\xs[m]?=some y/\aH K F H y s v/\zr K F H (xs.eraseIdx m) (l.eraseIdx m) (B++z)
 |_,_,_,_,_,.nil,h=>by simp at h
 |_,_,_,0,s,.cons (x:=x) (fp:=fp) (fq:=fq) a b,h=>by let e:=qf h;subst e;show#[x,[],fp,fq,rfl,rfl,a,b]
 |_,_,_,m+1,s,.cons (fp:=fp) (fq:=fq) a b,h=>by let#[y,B,v,z,rfl,h1,h2,G]:=zr.erase (m:=m) b h;show#[y,fp++B,v,z,(qp ..).symm,h1,h2,?_];rw[qp];show .cons a G
def Rel.popItem{D:Addr}(r:Rel K U Z F G H)(hs:slot U n=some (.lst l))(O:Z[n]?=some (some (.ref D)))(hm:l[m]?=some s):
  ∃xs y,H D=some (.lst xs)/\xs.length=l.length/\xs[m]?=some y/\Rel K (U.set n (some (.lst (l.eraseIdx m)))++[some s]) (Z++[some y]) F G (upd H D (.lst (xs.eraseIdx m))):=by
 let#[fp,e,nd,ap]:=r.en;let#[v',fa,fi,M,e1,rfl,q,up]:=e.at hs;rw[O]at e1;let e2:V.ref D=v':=↑e1
 subst e2;cases q with
 |lst hD rl=>
  rename_i xs fl;let#[y,ga,L,J,rfl,hy,sr,h1]:=rl.erase hm;show#[xs,y,hD,rl.len,hy,?_];let#[na,v,h2]:=qw.mp nd;let#[ni,nb,v]:=qw.mp v;let#[nD,h7]:=qK.mp ni;let h6:D∉fa:=λz=>h2 D z D (qj _ qm) rfl;let h5:D∉M:=λz=>v D qm D z rfl;let Y:=ap D (qi _ (qj _ qm));let ne:∀{l:List Addr},D∉l->∀x∈l,upd H D (.lst (xs.eraseIdx m)) x=H x:=λh x B=>Ak λz=>h (z▸B);let h4:D∉ga++J:=λz=>nD ((qx.mp z).elim (λw=>qj _ w) λw=>qi _ (qi _ w));let h3:D∉L:=λz=>nD (qi _ (qj _ z));let new:aH K F (upd H D (.lst (xs.eraseIdx m))) (.ref D) (.lst (l.eraseIdx m)) (D::(ga++J)):=.lst Bx (h1.mono (zn.refl F) (ne h4));let a2:=up (F':=F) (H':=upd H D (.lst (xs.eraseIdx m))) (o:=some (.lst (l.eraseIdx m))) (u:=some (.ref D)) (zn.refl F) (λx B=>Ak λz=>(qx.mp B).elim (λw=>h6 (z▸w)) λw=>h5 (z▸w)) (.so new .nil);rw[GB O]at a2;let a3:=a2.app (.so (sr.mono (zn.refl F) (ne h3)) .nil);let pm:(fa++((D::(ga++J))++[]++M)++(L++[])).Perm (fa++((D::(ga++(L++J)))++M)):=by simp;show List.Perm.append_left _ (List.Perm.cons _ (List.Perm.append_left _ ?_));rw[<-qp L J M,<-qp J M L];show(qM (l₁:=J++M) (l₂:=L)).trans ?_;rw[qp]
  show#[zn.updR r.fr Y.1,λx o w=>?_,_,a3,pm.nodup_iff.mpr nd,λx B=>ap x (pm.mem_iff.mp B)];let B:x≠D:=λz=>by rw[z,Y.2]at w;cases w
  rw[Ak B];show r.gr x o w
end
def IU(ho:FE X o (zi j))(he:FE X e we)
  (Y:autoParam (attributeBase o "pop" X.env (eval o X.env)=eval o X.env) rZ9)
  (h3:autoParam (((backTo cpos (starEach [e] X.env)).all (λx=>!x.1)&&(backToKw cpos (keywordEach [] X.env)).all (λx=>x.1.isSome)
   &&decide ([e].length+([]:List Keyword).length+(if([]:List Keyword).isEmpty then 0 else 1)<30))=true) rZ9)
  (O:autoParam ((apos.endLine==cpos.line)=true) rZ9)(hs:autoParam (starEach [e] X.env=[(false,eval e X.env)]) rZ9):FE X (.Call (.Attribute o "pop" apos) [e] [] cpos) (eD j we):=λpn xe hp=>by
 refine PE.imp (Gn (X:=wp X pn xe) PySem.F.plainAttrs_list PySem.F.slot_list_pop PySem.F.type_list_pop QD (ho pn xe hp) (Aa he Ac hs pn xe hp) Y h3 O hs rfl) λZ H Q q=>?_;let#[F,G,U,P,PX,h4,hw,h5,hx]:=q;let L:(match slot U j with
  |some (.lst _)=>we U (λr z=>match view r z,slot z j with
   |some (.int i),some (.lst l)=>zm (if l.length<=big then ixN l.length i else none) λk=>zm l[k]? λs=>P (.v s) (z.set j (some (.lst (l.eraseIdx k))))
   |_,_=>False) PX
  |_=>False):=hw
 cases qs:slot U j with
 |none=>rw[qs]at L;show L.elim
 |some s0=>
  cases s0 with
  |lst l0=>
   rw[qs]at L;show#[F,G,U,λy M=>y=.loc j/\M=U,PX,h4,by unfold zi;rw[qs];show#[rfl,rfl],λy M o' F1 H1 B s1 r1 rv=>?_,hx];let#[rfl,rfl]:=B;let l1:=Ae r1;let h1:Z[j]?=some (some o'):=rv;let r2:=r1.drop l1;let#[v',fp,e1,sr]:=r2.at qs;rw[h1]at e1;let e2:o'=v':=↑e1
   subst e2;cases sr with
   |lst hD rl=>
    rename_i a xs fl;show#[.inl #[rfl,_,bK.of hD],F1,G,M,λrs z=>match rs with|[r]=>(match view r z,slot z j with|some (.int i),some (.lst l)=>zm (if l.length<=big then ixN l.length i else none) λk=>zm l[k]? λs=>P (.v s) (z.set j (some (.lst (l.eraseIdx k))))|_,_=>False)|_=>False,PX,r2,L,λrs z vs F2 H2 B s2 r3 hl J=>?_,hx.grow s1];match rs,vs,J,r3,B with
    |[r],[v],J,r3,B=>
     dsimp only at B;split at B
     .rename_i i l ei ql;let#[m,em,B]:=Av B;let#[s,es,B]:=Av B;let rp:=AE (U':=[]) (Z':=[]) r3 hl J.1 ei;cases rp;split at em
      .rename_i hz;let r4:=r3.drop hl;let#[ys,y,h6,h2,hy,r5]:=Rel.popItem r4 ql h1 es;rw[<-h2]at em hz;let#[b1,b2,b3,b4]:=Iy em;let hb:ys.length<=1000000:=hz;show#[a,ys,i,m,y,rfl,rfl,h6,∅,∅,b1,hy,h5 _ _ y F2 _ B (s1.trans s2) r5 trivial]
      .cases em
     .show B.elim
    |[],_,_,_,B=>show B.elim
    |[_],[],J,_,_=>show J.elim
    |[_],_::_::_,J,_,_=>show J.2.elim
    |_::_::_,_,_,_,B=>show B.elim
  |_=>rw[qs]at L;show L.elim
end FL
namespace FL
open PySem
mutual
def bQ:D->D->Ordering
 |.int i,.int j=>if i<j then .lt else if j<i then .gt else .eq
 |.str x,.str y=>if x<y then .lt else if y<x then .gt else .eq
 |.tup l,.tup m=>aQ l m
 |_,_=>.eq
def aQ:List D->List D->Ordering
 |[],[]=>.eq
 |[],_::_=>.lt
 |_::_,[]=>.gt
 |a::l,b::m=>match bQ a b with
  |.eq=>aQ l m
  |o=>o
end
def dG(a b:D):Bool:=match bQ a b with
 |.gt=>false
 |_=>true
@[simp] theorem Ky(i j:Int):dG (.int i) (.int j)=decide (i<=j):=by
  show(match(if i<j then Ordering.lt else if j<i then .gt else .eq)with|.gt=>false|_=>true)=_;by_cases h:i<j
  .rw[qY h,qP ∅]
  .rw[qZ h];by_cases h2:j<i
   .rw[qY h2,qQ ∅]
   .rw[qZ h2,qP ∅]
@[simp] theorem KR(x y:List Nat):dG (.str x) (.str y)=!decide (y<x):=by
  show(match(if x<y then Ordering.lt else if y<x then .gt else .eq)with|.gt=>false|_=>true)=_;by_cases h:x<y
  .rw[qY h,qQ (λh'=>lt_asymm h h')];rfl
  .rw[qZ h];by_cases h2:y<x
   .rw[qY h2,qP h2];rfl
   .rw[qZ h2,qQ h2];rfl
def jG(x:D):List D->List D
 |[]=>[x]
 |y::r=>if dG x y then x::y::r else y::jG x r
def aY:List D->List D
 |[]=>[]
 |x::r=>jG x (aY r)
def IP(x:D):∀l:List D,(jG x l).Perm (x::l)
 |[]=>.refl _
 |y::r=>by
  unfold jG;split
  .show .refl _
  .show(List.Perm.cons y (IP x r)).trans (.swap x y r)
def CS:∀l:List D,(aY l).Perm l
 |[]=>.refl _
 |x::r=>(IP x _).trans (.cons x (CS r))
structure eJ(P:D->Prop):Prop where
 tot:∀a b,P a->P b->dG a b=true\/dG b a=true
 tr:∀a b c,P a->P b->P c->dG a b=true->dG b c=true->dG a c=true
 anti:∀a b,P a->P b->dG a b=true->dG b a=true->a=b
def MN(o:eJ P)(x:D)(z:P x):∀l:List D,(∀d∈l,P d)->l.Pairwise (dG · ·=true)->(jG x l).Pairwise (dG · ·=true)
 |[],_,_=>List.pairwise_singleton _ _
 |y::r,hp,h=>by
  let#[h1,h2]:=pairwise_cons.mp h;let B:=hp y qm;let F:∀d∈r,P d:=λd v=>hp d (qk _ v);unfold jG;split
  .rename_i c;show pairwise_cons.mpr #[λd v=>?_,h];rcases qA.mp v with rfl|v
   .show c
   .show o.tr x y d z B (F d v) c (h1 d v)
  .rename_i c;show pairwise_cons.mpr #[λd v=>?_,MN o x z r F h2];rcases qA.mp ((IP x r).mem_iff.mp v)with rfl|v
   .show(o.tot d y z B).resolve_left c
   .show h1 d v
def Ge(o:eJ P):∀l:List D,(∀d∈l,P d)->(aY l).Pairwise (dG · ·=true)
 |[],_=>.nil
 |x::r,hp=>MN o x (hp x qm) _ (λd v=>hp d (qk _ ((CS r).mem_iff.mp v))) (Ge o r λd v=>hp d (qk _ v))
def MF(o:eJ P):∀l m:List D,(∀d∈l,P d)->l.Perm m->l.Pairwise (dG · ·=true)->m.Pairwise (dG · ·=true)->l=m
 |[],m,_,p,_,_=>(List.nil_perm.mp p).symm
 |x::r,[],_,p,_,_=>absurd p.length_eq (by simp)
 |x::r,y::t,hp,p,h1,h2=>by
  obtain⟨M,L⟩:=pairwise_cons.mp h1;let#[J,G]:=pairwise_cons.mp h2;let B:=hp x qm;let z:P y:=hp y (p.mem_iff.mpr qm);let e:x=y:=by
   let m1:x∈y::t:=p.mem_iff.mp qm;let v:y∈x::r:=p.mem_iff.mpr qm;rcases qA.mp m1 with e|m1
   .show e
   .rcases qA.mp v with e|v
    .show e.symm
    .show o.anti x y B z (M y v) (J x m1)
  subst e;rw[MF o r t (λd F=>hp d (qk _ F)) (List.Perm.cons_inv p) L G]
def GC(o:eJ P)(v:∀d∈l,P d)(p:m.Perm l)(h:m.Pairwise (dG · ·=true)):aY l=m:=
 MF o _ _ (λd z=>v d ((CS l).mem_iff.mp z)) ((CS l).trans p.symm) (Ge o l v) h
def gP:D->Prop
 |.int _=>True
 |_=>False
def lQ:D->Prop
 |.str _=>True
 |_=>False
def Hl:eJ gP where
 tot
  |.int a,.int b,_,_=>by simp;lia
 tr
  |.int a,.int b,.int c,_,_,_=>by simp;lia
 anti
  |.int a,.int b,_,_=>by simp;intro h1 h2;rw[Int.le_antisymm h1 h2]
def Ij:eJ lQ where
 tot
  |.str a,.str b,_,_=>by
   simp;by_cases h:b<a
   .show .inr λh'=>lt_asymm h h'
   .show .inl h
 tr
  |.str a,.str b,.str c,_,_,_=>by simp;intro h1 h2;show λh=>(List.le_trans (l₁:=a) (l₂:=b) (l₃:=c) h1 h2) h
 anti
  |.str a,.str b,_,_=>by simp;intro h1 h2;let:a=b:=List.le_antisymm (as:=a) (bs:=b) h1 h2;rw[this]
def fQ:List D->Option (List Int)
 |[]=>some []
 |.int x::r=>(fQ r).map (x::·)
 |_::_=>none
@[simp] theorem RW(l:List Int):fQ (l.map .int)=some l:=by
  induction l with
  |nil=>rfl
  |cons a r v=>rw[qy,fQ,v];rfl
end FL
namespace FL
open PySem PySem.Spec PyProof.Rows L2
section
variable{K:W.Frag}
def OZ(r:zA K F xs l)(h:fQ l=some ys):xs=ys.map V.int/\l=ys.map D.int:=
 zA.ind (P:=λxs l=>∀ys,fQ l=some ys->xs=ys.map V.int/\l=ys.map D.int) (λys h=>by cases h;show#[rfl,rfl]) (λa _ z ys h=>by
  cases a with
  |int c=>let#[v,h1,rfl]:=qW.mp h;let#[G,B]:=z _ h1;rw[G,B];show#[rfl,rfl]
  |_=>cases h) r ys h
def Gj:∀{v:List Value}{ns:List Int},IntsAre v ns->zz (ns.map V.int) v
 |_,_,.nil=>.nil
 |_,_,.cons i t r=>.cons #[t,rfl] (Gj r)
def IJ:∀{v:List Value}{ns:List Str},StrsAre v ns->zz (ns.map V.str) v
 |_,_,.nil=>.nil
 |_,_,.cons i t r=>.cons #[t,rfl] (IJ r)
def mI(K:W.Frag):List V->Hp->VK->Prop:=λxs H Q=>∃a,xs=[.ref a]/\
 ((∃ns:List Int,ns.length<64/\bK K H a (ns.map V.int)/\∀z:List Int,z.Perm ns->z.Pairwise (·<=·)->∀q,H q=none->Q (.ref q) (upd H q (.lst (z.map V.int))))\/
  (∃B:List Str,B.length<64/\bK K H a (B.map V.str)/\∀v:List Str,v.Perm B->sortedS v=true->∀q,H q=none->Q (.ref q) (upd H q (.lst (v.map V.str)))))
def MJ:aS X (.builtin "sorted") (mI X.K):=by
 intro zC s Z H xs us Q I r h;let#[a,rfl,h]:=h;cases r with
 |cons r1 r2=>
  cases r2;cases r1;rcases h with⟨ns,G,O,q⟩|⟨zs,G,O,q⟩
  .obtain⟨B,r,L,_⟩:=I.list O;let F:B.length=ns.length:=by let:=r.length;rw[qo]at this;exact this.symm
   show sorted_ints L.isList (Jf r) (by rw[F];show G) λz v a1 J a3=>?_;let#[e,Y]:=sortedAll_at s.heap B z;let M:v.length<=sizeLine:=by rw[J.length_eq,zd];lia
   show#[.ref (s.heap.objs.size+1),_,I.laid (t':=s.toks) (o:=.lst (v.map V.int)) (λb ob w=>sortedAll_old w) (le_succ _) ?_,rfl,q v J a3 _ (I.hok.fresh (le_succ _))];show#[by rw[qo];show M,z.toList,e,Gj a1,by rw[toArray_toList];show Y]
  .obtain⟨B,r,L,_⟩:=I.list O;let F:B.length=zs.length:=by let:=r.length;rw[qo]at this;exact this.symm
   show sorted_strs L.isList (Hw r) (by rw[F];show G) λz v a1 J a3=>?_;let#[e,Y]:=sortedAll_at s.heap B z;let M:v.length<=sizeLine:=by rw[J.length_eq,zd];lia
   show#[.ref (s.heap.objs.size+1),_,I.laid (t':=s.toks) (o:=.lst (v.map V.str)) (λb ob w=>sortedAll_old w) (le_succ _) ?_,rfl,q v J a3 _ (I.hok.fresh (le_succ _))];show#[by rw[qo];show M,z.toList,e,IJ a1,by rw[toArray_toList];show Y]
def Ji:∀ns:List Int,zA K F (ns.map V.int) (ns.map D.int)
 |[]=>.nil
 |n::ns=>.cons (.int n) (Ji ns)
def LX:∀v:List Str,(∀z∈v,z.cps.toList.length<=16777216)->zA K F (v.map V.str) (v.map λz=>D.str z.cps.toList)
 |[],_=>.nil
 |z::v,h=>.cons (.str rfl (h z qm)) (LX v λy B=>h y (qk _ B))
def Mx:∀{xs:List V}{l:List D}{v:List Str},zA K F xs l->xs=v.map V.str->l=(v.map λz=>D.str z.cps.toList)/\∀z∈v,z.cps.toList.length<=16777216
 |_,_,[],.nil,_=>#[rfl,λ_ h=>by cases h]
 |_,_,_::_,.nil,h=>by simp at h
 |_,_,[],.cons _ _,h=>by simp at h
 |_,_,z::v,.cons a b,h=>by
  injection h with h1 h2
  subst h1;let#[e,k]:=Mx b h2;cases a with
  |str J G=>
   subst J;show#[by rw[e];rfl,λy B=>?_];rcases qA.mp B with rfl|B
   .show G
   .show k y B
def Mf:∀(r:List Str)(p:Str),risingS p r=true->((p::r).map λz=>D.str z.cps.toList).Pairwise (dG · ·=true)
 |[],p,_=>List.pairwise_singleton _ _
 |x::r,p,h=>by
  let h':(!ltCps x.cps.toList p.cps.toList&&risingS x r)=true:=h;rw[and_eq_true,ltCps_eq]at h';let F:=Mf r x h'.2;let B:dG (.str p.cps.toList) (.str x.cps.toList)=true:=by rw[KR];show h'.1
  show pairwise_cons.mpr #[λd v=>?_,F];rcases qA.mp v with rfl|v
  .show B
  .obtain⟨z,_,rfl⟩:=qJ.mp v;show Ij.tr _ (.str x.cps.toList) _ trivial trivial trivial B ((pairwise_cons.mp F).1 _ v)
def SJ:∀r:List Str,sortedS r=true->(r.map λz=>D.str z.cps.toList).Pairwise (dG · ·=true)
 |[],_=>.nil
 |x::r,h=>Mf r x h
end
mutual
def dS:D->PyData
 |.non=>.none
 |.bl b=>.bool b
 |.int i=>.int i
 |.str l=>.str #[l.toArray]
 |.tup l=>.tuple (cF l)
 |.lst l=>.list (cF l)
 |_=>.none
def cF:List D->List PyData
 |[]=>[]
 |d::r=>dS d::cF r
end
mutual
def kM:D->Bool
 |.non=>true
 |.bl _=>true
 |.int i=>decide (i.natAbs.log2<1920)
 |.str _=>true
 |.tup l=>dF l
 |.lst l=>dF l
 |_=>false
def dF:List D->Bool
 |[]=>true
 |d::r=>kM d&&dF r
end
mutual
theorem Th:∀d:D,kM d=true->(dS d).showable=true
 |.non,_=>rfl
 |.bl _,_=>rfl
 |.int i,h=>h
 |.str _,_=>rfl
 |.tup l,h=>Jo l h
 |.lst l,h=>Jo l h
 |.dct _ _ _,h=>by cases h
 |.set _,h=>by cases h
 |.exc _ _ _,h=>by cases h
theorem Jo:∀l:List D,dF l=true->PyData.showableAll (cF l)=true
 |[],_=>rfl
 |d::r,h=>by rw[dF,and_eq_true]at h;rw[cF,PyData.showableAll,Th d h.1,Jo r h.2];rfl
end
mutual
theorem Rk:∀d:D,(dS d).hasDict=false
 |.non=>rfl
 |.bl _=>rfl
 |.int i=>rfl
 |.str _=>rfl
 |.tup l=>Jb l
 |.lst l=>Jb l
 |.dct _ _ _=>rfl
 |.set _=>rfl
 |.exc _ _ _=>rfl
theorem Jb:∀l:List D,PyData.hasDictAll (cF l)=false
 |[]=>rfl
 |d::r=>by rw[cF,PyData.hasDictAll,Rk d,Jb r];rfl
end
mutual
theorem PU:∀d:D,(dS d).depth<=eF d
 |.non=>q5 _
 |.bl _=>q5 _
 |.int i=>q5 _
 |.str _=>q5 _
 |.tup l=>Nat.succ_le_succ (IQ l)
 |.lst l=>Nat.succ_le_succ (IQ l)
 |.dct _ _ _=>q5 _
 |.set _=>q5 _
 |.exc _ _ _=>q5 _
theorem IQ:∀l:List D,PyData.depthAll (cF l)<=bM l
 |[]=>q5 _
 |d::r=>by let h1:=PU d;let h2:=IQ r;simp only[cF,PyData.depthAll,bM];lia
end
end FL
namespace FL
open PySem
def uR(l m:List Nat)(i:Nat):Bool:=decide (i+m.length<=l.length)&&decide ((l.drop i).take m.length=m)
def fC(l m:List Nat):Option Nat:=(List.range (l.length+1)).find? (uR l m)
def gD:List D->Option S
 |[.tup l]=>some (.lst (l.map .sh))
 |[.lst l]=>some (.lst (l.map .sh))
 |[.str l]=>if l.length<=big then some (.lst (l.map λc=>.sh (.str [c])))else none
 |_=>none
theorem find?_first(h:i<n)(v:p i=true)(hn:∀k,k<i->p k=false):(List.range n).find? p=some i:=by first|rfl|assumption|(simp_all;done)
theorem find?_not(hn:∀k,p k=false):(List.range n).find? p=none:=by grind
end FL
namespace FL
open PySem PySem.Spec PyProof.Rows L2
section
variable{K:W.Frag}
theorem zij:StrLaws.At x y x.length i↔uR x.cps.toList y.cps.toList i=true:=by
 let h1:x.length=x.cps.toList.length:=by show x.cps.size=_;rw[qT]
 let h2:y.length=y.cps.toList.length:=by show y.cps.size=_;rw[qT]
 unfold StrLaws.At uR Builtin.Str.subAt;rw[and_eq_true,qR,qR,h2,beq_iff_eq];show and_congr_right λ_=>?_;rw[<-Array.toList_inj,toList_extract,extract_eq_take_drop];let:i+y.cps.toList.length-i=y.cps.toList.length:=∅
 rw[this]
def Pg(x y:Str):Txt.find x y=(match fC x.cps.toList y.cps.toList with|some i=>(i:Int)|none=>-1):=by
 have v:∀{i},¬StrLaws.At x y x.length i->uR x.cps.toList y.cps.toList i=false:=λ{i} h=>by
  cases q:uR x.cps.toList y.cps.toList i with
  |false=>rfl
  |true=>show absurd (zij.mpr q) h
 rcases find_whole x y with⟨e,h⟩|⟨i,e,hi,h⟩
 .rw[e];unfold fC;rw[find?_not λk=>v (h k)]
 .rw[e];unfold fC;let B:=hi.1;let h1:x.length=x.cps.toList.length:=by show x.cps.size=_;rw[qT]
  rw[find?_first (i:=i) (by rw[<-h1];lia) (zij.mp hi) λk z=>v (h k z)]
def kN:List V->Hp->VK->Prop:=λxs H Q=>∃x:Str,xs=[.str x]/\x.length<=sizeLine/\∀l,H l=none->Q (.ref l) (upd H l (.lst (x.cps.toList.map λc=>.str #[[c].toArray])))
def Mm:∀{xs:List V}{v:List Value},xs.length=v.length->(∀(j:Nat) x u,xs[j]?=some x->v[j]?=some u->zt x u)->zz xs v
 |[],[],_,_=>.nil
 |[],_::_,h,_=>by simp at h
 |_::_,[],h,_=>by simp at h
 |x::xs,u::v,h,k=>.cons (k 0 x u rfl rfl) (Mm ↑h λj z B h1 h2=>k (j+1) z B h1 ↑h2)
def Tp(F:X.calm=true):aS X (.type "list") kN:=by
 intro zC s Z H xs us Q I r h;let#[x,rfl,J,q]:=h;let#[u,rfl,L]:=vals1 r;let#[t,rfl]:=L;show call_list_str (I.ok.hd F) x t (hn:=J) λh' tk B Y O G z=>?_;let M:zz (x.cps.toList.map λc=>V.str #[[c].toArray]) B.toList:=Mm (by rw[qo,qT,qT,z.1]) λj y v h1 h2=>by let#[c,u,F,rfl]:=z.2 j v (by rw[<-qX];show h2);rw[qE,qX,F]at h1;cases h1;show#[u,rfl]
 show#[.ref s.heap.objs.size,_,I.laid (t':=tk) O (q5 _) (show zB X.prog X.w _ h' _ (.lst (x.cps.toList.map λc=>V.str #[[c].toArray])) from#[?_,B.toList,Y,M,G]),rfl,q _ (I.hok.fresh (q5 _))];rw[qo];show J
def pW(K:W.Frag):List V->Hp->VK->Prop:=λxs H Q=>nX K xs H Q\/kN xs H Q
def Mk:∀l:List Nat,zA K F (l.map λc=>V.str #[[c].toArray]) (l.map λc=>D.str [c])
 |[]=>.nil
 |c::l=>.cons (.str rfl (by show 1<=16777216;decide)) (Mk l)
def SO:cB K (pW K) gD:=by
 intro Z U F G H vs ds s Q B J e L;let#[d,v,rfl,rfl]:=Bv (λx y r=>by cases x<;>rfl) rfl J e;cases d with
 |tup l=>show .inl (LM Z U F G H [v] [.tup l] s Q B J e L)
 |lst l=>show .inl (LM Z U F G H [v] [.lst l] s Q B J e L)
 |str l=>
  let#[x,rfl,M,z]:=J.1.str;let e:(if l.length<=big then some (S.lst (l.map λc=>S.sh (.str [c])))else none)=some s:=e;split at e
  .rename_i Y;cases e;show .inr #[x,rfl,by rw[Gb M];show HA Y,λp O=>?_];rw[M];let h:=B.newLD O (Mk l);rw[qD]at h;show L (.ref p) F (upd H p (.lst (l.map λc=>V.str #[[c].toArray]))) (zn.refl F) h
  .cases e
 |_=>cases e
def Qu(L:X.calm=true)(G:Gl X "list")(F:X.mg "list"=none)(B:bootBuiltins "list"=some (.type "list"))(M:FA X (e::es) z)(J:autoParam (starEach (e::es) X.env=(false,eval e X.env)::starEach es X.env) rZ9)(v:autoParam ((backTo pos (starEach es X.env)).any (·.1)=false) rZ9):FE X (.Call (.Name "list" p) (e::es) [] pos) (wB gD z):=
 Gi (λpn xe=>aS.or' Tz (Tp (X:=wp X pn xe) L)) SO G F B M ⋯ ⋯ J v
end
def HS:bootBuiltins "int"=some (.type "int"):=by decide+kernel
def FY:bootBuiltins "tuple"=some (.type "tuple"):=by decide+kernel
def Pj:bootBuiltins "list"=some (.type "list"):=by decide+kernel
def Ft:bootBuiltins "sorted"=some (.builtin "sorted"):=by decide+kernel
def EW(v:bE k A):A.units+32<cLine:=by let:=v.units;lia
def MP(v:bE k A):A.units+31<cLine:=by let:=v.units;lia
theorem uq{N:List Str}(h:(N.zipIdx.all λp=>!(p.1==x)||p.2==i)=true):∀j,N[j]?=some x->j=i:=by intro j v;let:=qH.mp h (x,j) (by rw[List.mem_zipIdx_iff_getElem?];simpa using v);simpa using this
instance(outer scope:Scope)(N vars:List Str):Decidable (scope.kind=.function/\(∀x∈scope.names,x.2=.free->outer.names.lookup x.1=some .cell\/outer.names.lookup x.1=some .free)/\(scope.names.map (·.1)).Nodup/\
  (∀x∈N,x∉vars->(x,NameKind.local)∉scope.names/\(x,NameKind.cell)∉scope.names)/\scope.names.lookup Str.empty=none):=inferInstance
def sE(v scope:Scope)(N vars:List Str):Bool:=decide (scope.kind=.function/\(∀x∈scope.names,x.2=.free->v.names.lookup x.1=some .cell\/v.names.lookup x.1=some .free)/\(scope.names.map (·.1)).Nodup/\
    (∀x∈N,x∉vars->(x,NameKind.local)∉scope.names/\(x,NameKind.cell)∉scope.names)/\scope.names.lookup Str.empty=none)
def Au(h:sE outer scope N vars=true):bR outer scope N vars:=
 let⟨a,b,c,d,e⟩:=qS h
 #[a,b,c,d,e]
def Qx{K:W.Frag}(r:aH K F H v (.sh (.bl true)) fp):v=.bl true:=by
 cases r with
 |sh r=>cases r;rfl
def Nr{K:W.Frag}(h:∀ns:List Int,ns.length<=63->L [.sh (.lst (ns.map .int))] (λs _=>s=.sh (.bl true)) λ_ _=>False)(H:Hp)(a:Addr)(ns:List Int)(O:ns.length<=63)(Y:bK K H a (ns.map V.int)):
  eS K L 1 [.ref a] H (λv _=>v=.bl true) λ_ _ _=>False:=by
 show#[H,λ_=>none,[.sh (.lst (ns.map .int))],_,_,rfl,#[zn.refl H,λ_ _ z=>(nomatch z),[]++[],.so (.sh (.lst Y (Ji ns))) .nil,List.nodup_nil,λ_ z=>(nomatch z)],h ns O,λs B v F' H' M sm F r=>?_,λ_ _ _ _ _ _ z=>z.elim];subst M;let#[u,fp,J,q]:=r.at (i:=B.length) (s:=.sh (.bl true)) (by let:=Fo (U:=B.map some) (o:=some (.sh (.bl true))) (U':=[]);simpa using this)
 let G:B.length=1:=F;rw[G]at J;let:u=v:=↑J.symm
 rw[<-this];show Qx q
end FL
namespace FL
def cI(j:Nat)(e:WE):WE:=λU Q E=>match slot U j with
 |some (.lst _)=>e U (λr v=>match r,slot v j with
  |.v (.lst m),some (.lst l)=>l.length+m.length<=big/\Q (.v (.sh .non)) (v.set j (some (.lst (l++m))))
  |_,_=>False) E
 |_=>False
end FL
namespace FL
open PySem PySem.Spec PyProof.Rows L2
section
variable{K:W.Frag}
def zr.app:∀{xs ys:List V}{l m:List S}{fp fq:List Addr},zr K F H xs l fp->zr K F H ys m fq->zr K F H (xs++ys) (l++m) (fp++fq)
 |_,_,_,_,_,_,.nil,r=>r
 |_,_,_,_,_,_,.cons a b,r=>by rw[qp];show .cons a (zr.app b r)
def Rel.extend{D B:Addr}(r:Rel K (U++[some (.lst m)]) (Z++[some (.ref B)]) F G H)(hs:slot U n=some (.lst l))(Y:Z[n]?=some (some (.ref D))):
  ∃xs ys,H D=some (.lst xs)/\H B=some (.lst ys)/\xs.length=l.length/\ys.length=m.length/\Rel K (U.set n (some (.lst (l++m)))) Z F G (upd H D (.lst (xs++ys))):=by
 let hl:=Ae r;let#[fp,e,nd,ap]:=r.en;let#[f1,f2,rfl,a,b]:=e.cut hl;let#[v',O,fi,M,e1,rfl,q,up]:=a.at hs;rw[Y]at e1;let e2:V.ref D=v':=↑e1
 subst e2;cases q with
 |lst hD rl=>
  rename_i xs L;cases b with
  |so sr nl=>
   cases nl;cases sr with
   |lst hB rm=>
    rename_i ys fs;show#[xs,ys,hD,hB,rl.len,rm.len,?_];let es:Z.set n (some (.ref D))=Z:=GB Y;let#[n1,n2,h5]:=qw.mp nd;let#[na,v,h4]:=qw.mp n1;let#[ni,nb,v]:=qw.mp v;let#[nD,h9]:=qK.mp ni;let h8:D∉O:=λz=>h4 D z D (qj _ qm) rfl;let h7:D∉M:=λz=>v D qm D z rfl;let h6:D∉fs:=λz=>h5 D (qi _ (qj _ qm)) D (by simpa using .inr z) rfl;let h2:=ap D (qj _ (qi _ (qj _ qm)));let ne:∀{l:List Addr},D∉l->∀x∈l,upd H D (.lst (xs++ys)) x=H x:=λh x J=>Ak λz=>h (z▸J);let new:aH K F (upd H D (.lst (xs++ys))) (.ref D) (.lst (l++m)) (D::(L++fs)):=.lst Bx (zr.app (rl.mono (zn.refl F) (ne nD)) (rm.mono (zn.refl F) (ne h6)));let a2:=up (F':=F) (H':=upd H D (.lst (xs++ys))) (o:=some (.lst (l++m))) (u:=some (.ref D)) (zn.refl F) (λx J=>Ak λz=>(qx.mp J).elim (λw=>h8 (z▸w)) λw=>h7 (z▸w)) (.so new .nil);rw[es]at a2;let p:(B::(O++((D::(L++fs))++[]++M))).Perm (O++((D::L)++M)++(B::fs++[])):=by
     simp;show(List.Perm.cons _ (List.Perm.append_left _ (List.Perm.cons _ (List.Perm.append_left _ qM)))).trans ?_;let h1:(O++D::(L++(M++B::fs))).Perm (B::(O++D::(L++(M++fs)))):=by let:=perm_middle (a:=B) (l₁:=O++D::(L++M)) (l₂:=fs);simpa using this
     show h1.symm
    let h3:=p.nodup_iff.mpr nd;show#[zn.updR r.fr h2.1,λx o w=>?_,_,a2,(qK.mp h3).2,λx J=>ap x (p.mem_iff.mp (qk _ J))];let J:x≠D:=λz=>by rw[z,h2.2]at w;cases w
    rw[Ak J];show r.gr x o w
end
def Ho(ho:FE X o (zi j))(he:FE X e we)
  (h2:autoParam (attributeBase o "extend" X.env (eval o X.env)=eval o X.env) rZ9)
  (h5:autoParam (((backTo cpos (starEach [e] X.env)).all (λx=>!x.1)&&(backToKw cpos (keywordEach [] X.env)).all (λx=>x.1.isSome)
   &&decide ([e].length+([]:List Keyword).length+(if([]:List Keyword).isEmpty then 0 else 1)<30))=true) rZ9)
  (Y:autoParam ((apos.endLine==cpos.line)=true) rZ9)(hs:autoParam (starEach [e] X.env=[(false,eval e X.env)]) rZ9):FE X (.Call (.Attribute o "extend" apos) [e] [] cpos) (cI j we):=λpn xe hp=>by
 refine PE.imp (Gn (X:=wp X pn xe) PySem.F.plainAttrs_list PySem.F.slot_list_extend PySem.F.type_list_extend Sa (ho pn xe hp) (Aa he Ac hs pn xe hp) h2 h5 Y hs rfl) λZ H Q q=>?_;let#[F,G,U,P,PX,h7,hw,h8,hx]:=q;let L:(match slot U j with
  |some (.lst _)=>we U (λr z=>match r,slot z j with
   |.v (.lst m),some (.lst l)=>l.length+m.length<=big/\P (.v (.sh .non)) (z.set j (some (.lst (l++m))))
   |_,_=>False) PX
  |_=>False):=hw
 cases qs:slot U j with
 |none=>rw[qs]at L;show L.elim
 |some s0=>
  cases s0 with
  |lst l0=>
   rw[qs]at L;show#[F,G,U,λy O=>y=.loc j/\O=U,PX,h7,by unfold zi;rw[qs];show#[rfl,rfl],λy O o' F1 H1 M s1 r1 rv=>?_,hx];let#[rfl,rfl]:=M;let l1:=Ae r1;let h3:Z[j]?=some (some o'):=rv;let r2:=r1.drop l1;let#[v',fp,e1,sr]:=r2.at qs;rw[h3]at e1;let e2:o'=v':=↑e1
   subst e2;cases sr with
   |lst hD rl=>
    rename_i a xs fl;show#[.inl #[rfl,_,bK.of hD],F1,G,O,λrs z=>match rs with|[r]=>(match r,slot z j with|.v (.lst m),some (.lst l)=>l.length+m.length<=big/\P (.v (.sh .non)) (z.set j (some (.lst (l++m))))|_,_=>False)|_=>False,PX,r2,L,λrs z vs F2 H2 M s2 r3 hl J=>?_,hx.grow s1];match rs,vs,J,r3,M with
    |[r],[v],J,r3,M=>
     dsimp only at M;split at M
     .rename_i m l ql;let#[u,fq,eu,su]:=r3.at (i:=z.length) (s:=.lst m) Fo;rw[hl,getElem?_append_right (q5 _)]at eu;let e3:v=u:=by simpa using eu
      subst e3;cases su with
      |@lst b zs _ _ hB rb=>let#[ys,h6,h9,e4,h4,h1,r5]:=Rel.extend (B:=b) r3 ql h3;show#[a,b,ys,h6,rfl,rfl,h9,e4,by rw[h4,h1];show le_trans M.1 ⋯,h8 _ _ .non F2 _ M.2 (s1.trans s2) (r5.push .non) trivial]
     .show M.elim
    |[],_,_,_,M=>show M.elim
    |[_],[],J,_,_=>show J.elim
    |[_],_::_::_,J,_,_=>show J.2.elim
    |_::_::_,_,_,_,M=>show M.elim
  |_=>rw[qs]at L;show L.elim
open AutoSeq1 (wpAny_loadPart')
end FL
namespace FL
open PySem PySem.Spec PyProof.Rows L2
def Rw(v:bE k A):A.mark none=A:=by first|rfl|assumption|(simp_all;done)
end FL
namespace FL
open Classical in
def gB(ks:List D)(k:D):Option Nat:=ks.findIdx? λx=>decide (x=k)
end FL
namespace FL
open PySem PySem.Spec PyProof.Rows L2
def LA(h:gB ks k=some i):ks[i]?=some k:=by unfold gB at h;rw[List.findIdx?_eq_some_iff_getElem]at h;let#[hi,h1,_]:=h;rw[qh hi];congr 1;simpa using h1
def Qo(h:gB ks k=none):k∉ks:=by unfold gB at h;grind
section
variable{κ:Type}[DecidableEq κ]{kd:κ->D}(inj:∀a b,kd a=kd b->a=b)
include inj
def Qn{zD:List (κ×V)}{k:κ}{v:V}{i:Nat}(hn:(zD.map λp=>kd p.1).Nodup)(h:(zD.map λp=>kd p.1)[i]?=some (kd k)):cG zD k v=zD.set i (k,v):=by
 let hi:i<zD.length:=by let:=(qg.mp h).1;simpa using this
 let J:zD[i].1=k:=by rw[qE,qh hi]at h;show inj _ _ (qf h)
 let B:(zD.any λL=>decide (L.1=k))=true:=any_eq_true.mpr #[zD[i],getElem_mem hi,by simp[J]];unfold cG;rw[qY B];apply ext_getElem?;intro j;rw[qE,getElem?_set];by_cases G:i=j
 .subst G;rw[qh hi];simp[J];show hi
 .rw[qZ G];cases q:zD[j]? with
  |none=>rfl
  |some p=>
   have F:¬p.1=k:=λz=>by
    apply G;let h2:(zD.map λp=>kd p.1)[j]?=some (kd k):=by rw[qE,q,<-z];rfl
    show(List.getElem?_inj ↑hi hn).mp (h.trans h2.symm)
   simp[F]
omit inj in
def PV{zD:List (κ×V)}{k:κ}{v:V}(h:kd k∉zD.map λp=>kd p.1):cG zD k v=zD++[(k,v)]:=by unfold cG;grind
def KL{zD:List (κ×V)}{k:κ}{v:V}{ks:List D}(B:ks=zD.map λp=>kd p.1)(hn:ks.Nodup):
  (∀m,gB ks (kd k)=some m->ks=(cG zD k v).map (λp=>kd p.1)/\(zD.map (·.2)).set m v=(cG zD k v).map (·.2))/\(gB ks (kd k)=none->ks++[kd k]=(cG zD k v).map (λp=>kd p.1)/\zD.map (·.2)++[v]=(cG zD k v).map (·.2)):=by
 subst B;show#[λm z=>?_,λz=>?_]
 .let h:=LA z;rw[Qn inj hn h,map_set,map_set];show#[?_,rfl];apply ext_getElem?;intro j;rw[getElem?_set];by_cases F:m=j
  .subst F;rw[qY rfl,qY (qg.mp h).1,h]
  .rw[qZ F]
 .rw[PV (Qo z),map_append,map_append];show#[rfl,rfl]
end
inductive gQ(ks:List D)(xs:List V):Bool->HO->Prop
 |k {zD:List (aK×V)}:ks=zD.map (λp=>aG p.1)->xs=zD.map (·.2)->gQ ks xs false (.dK zD)
 |t {zD:List (List aK×V)}:ks=zD.map (λp=>D.tup (p.1.map aG))->xs=zD.map (·.2)->gQ ks xs true (.dT zD)
section
variable{K:W.Frag}
def Gz(r:aH K F H v (.dct t ks l) fp):∃a o xs z,v=.ref a/\fp=a::z/\H a=some o/\gQ ks xs t o/\zr K F H xs l z:=by
 cases r with
 |dK e q r=>show#[_,_,_,_,rfl,rfl,e,.k q rfl,r]
 |dT e q r=>show#[_,_,_,_,rfl,rfl,e,.t q rfl,r]
def gQ.mk{a:Addr}{o:HO}{t:Bool}{ks:List D}{xs:List V}{l:List S}{v:List Addr}(d:gQ ks xs t o)(e:H a=some o)(r:zr K F H xs l v):aH K F H (.ref a) (.dct t ks l) (a::v):=by
 cases d with
 |k q z=>subst z;show .dK e q r
 |t q z=>subst z;show .dT e q r
def gQ.len{o:HO}{t:Bool}{ks:List D}{xs:List V}(d:gQ ks xs t o):ks.length=xs.length:=by
 cases d with
 |k q z=>subst z;subst q;simp
 |t q z=>subst z;subst q;simp
def gQ.put{a:Addr}{o:HO}{t:Bool}{ks:List D}{xs:List V}{y v:V}{q:D}(d:gQ ks xs t o)(e:H a=some o)(r:aN K H y q)(Y:bF t q=true)(hn:ks.Nodup)(O:ks.length<sizeLine):
  ∃o',vL H a y v (upd H a o')/\(∀m,gB ks q=some m->gQ ks (xs.set m v) t o')/\(gB ks q=none->gQ (ks++[q]) (xs++[v]) t o'):=by
 cases d with
 |@k G h1 h2=>subst h2;let#[M,rfl,rfl]:=FZ r Y;let#[L,J]:=KL (λ_ _=>Ep) (k:=M) (v:=v) h1 hn;show#[_,.inl #[G,M,e,rfl,by rw[h1,qo]at O;show O,rfl],λm B=>.k (L m B).1 (L m B).2,λB=>.k (J B).1 (J B).2]
 |@t G h1 h2=>
  subst h2;cases r with
  |tup e1 q=>let#[F,rfl,rfl]:=ES q Y;let#[L,J]:=KL (kd:=λl:List aK=>D.tup (l.map aG)) (λa b z=>Gg (D.tup.inj z)) (k:=F) (v:=v) h1 hn;show#[_,.inr #[G,F,_,e,rfl,e1,by rw[h1,qo]at O;show O,rfl],λm B=>.t (L m B).1 (L m B).2,λB=>.t (J B).1 (J B).2]
  |_=>cases Y
def Rel.dct{D:Addr}(r:Rel K (U++[some s]) (Z++[some v]) F G H)(hs:slot U n=some (.dct t ks l))(O:Z[n]?=some (some (.ref D)))(hD:H D=some o)(ho:gQ ks xs t o)(h8:gQ M h4 t o')
  (h9:∀(H':Hp)(fl fs:List Addr),zr K F H' xs l fl->aH K F H' v s fs->∃B rest,zr K F H' h4 l' B/\(B++rest).Perm (fl++fs)):
  Rel K (U.set n (some (.dct t M l'))) Z F G (upd H D o'):=by
 let hl:=Ae r;let#[fp,e,nd,ap]:=r.en;let#[f1,f2,rfl,a,b]:=e.cut hl;let#[v',fa,fi,fb,e1,rfl,q,up]:=a.at hs;rw[O]at e1;let e2:V.ref D=v':=↑e1
 subst e2;let#[a',o2,h3,fl,z1,rfl,h1,Y,rl]:=Gz q;cases z1;rw[hD]at h1;cases h1;let ex:h3=xs:=by
  cases ho with
  |k _ z=>cases Y with|k _ z'=>rw[z,z']
  |t _ z=>cases Y with|t _ z'=>rw[z,z']
 subst ex;cases b with
 |so sr nl=>
  cases nl;rename_i fs;let#[n1,n2,h7]:=qw.mp nd;let#[na,J,h6]:=qw.mp n1;let#[ni,nb,J]:=qw.mp J;let#[nD,hp]:=qK.mp ni;let hk:D∉fa:=λz=>h6 D z D (qj _ qm) rfl;let e4:D∉fb:=λz=>J D qm D z rfl;let e3:D∉fs:=λz=>h7 D (qi _ (qj _ qm)) D ↑z rfl;let h2:=ap D (qj _ (qi _ (qj _ qm)));let ne:∀{l:List Addr},D∉l->∀x∈l,upd H D o' x=H x:=λh x L=>Ak λz=>h (z▸L);let#[B,rest,h5,pm]:=h9 (upd H D o') fl fs (rl.mono (zn.refl F) (ne nD)) (sr.mono (zn.refl F) (ne e3));let a2:=up (F':=F) (H':=upd H D o') (o:=some (.dct t M l')) (u:=some (.ref D)) (zn.refl F) (λx L=>Ak λz=>(qx.mp L).elim (λw=>hk (z▸w)) λw=>e4 (z▸w)) (.so (h8.mk Bx h5) .nil);rw[GB O]at a2;let p:(fa++((D::(B++rest))++[]++fb)).Perm (fa++((D::fl)++fb)++(fs++[])):=by show(List.Perm.append_left _ (List.Perm.append_right _ (List.Perm.append_right _ (List.Perm.cons _ pm)))).trans ?_;simp;show List.Perm.append_left _ (List.Perm.cons _ (List.Perm.append_left _ qM))
  let sb:List.Sublist (fa++((D::B)++[]++fb)) (fa++((D::(B++rest))++[]++fb)):=by simp only[qp,qN];show List.Sublist.append (List.Sublist.refl _) (List.Sublist.cons_cons _ (List.Sublist.append (List.Sublist.refl _) (List.sublist_append_right _ _)))
  show#[zn.updR r.fr h2.1,λx o w=>?_,_,a2,sb.nodup (p.nodup_iff.mpr nd),λx L=>ap x (p.mem_iff.mp (sb.subset L))];let L:x≠D:=λz=>by rw[z,h2.2]at w;cases w
  rw[Ak L];show r.gr x o w
def Jf:∀{v:List Value},zz (ns.map V.int) v->IntsAre v ns:=by
 induction ns with
 |nil=>intro v r;cases r;show .nil
 |cons n ns F=>
  intro v r;cases r with
  |cons B z=>let#[t,rfl]:=B;show .cons _ t (F z)
end
end FL
namespace FL
def lX(i j:Nat)(a:WA):WS:=λD U=>a U (λz v=>match z with
 |[r,t]=>zm (give r v) λp=>zm (give t p.2) λq=>D.nx ((q.2.set i (some p.1)).set j (some q.1))
 |_=>False) D.ex
end FL
namespace FL
open PySem PySem.Spec PyProof.Rows L2
def Ln{α:Type}{l:List α}{r:List α}{v:α}(h:n<l.length):(l++r).set n v=l.set n v++r:=by rw[List.set_append_left _ _ h]
def OV(hc:X.calm=true)(hN:X.N.Nodup)(hi:X.N[i]?=some x)(hj:X.N[j]?=some y)(h1:i≠j)(h6:i∉ks)(h5:j∉ks)
  (hx:X.env.scope.names.lookup x=some .local)(hy:X.env.scope.names.lookup y=some .local)(ha:FA X [a,b] wa)
  (hw:autoParam (swappedStores [.Tuple [.Name x px,.Name y py] kt pt] (.Tuple [a,b] k2 h2) X.env=pure (some [x,y])) rZ9)
  (hs:autoParam (swapsWithSole [.Tuple [.Name x px,.Name y py] kt pt] (.Tuple [a,b] k2 h2) pos.line X.env=pure false) rZ9):
  FS X ks (.Assign [.Tuple [.Name x px,.Name y py] kt pt] (.Tuple [a,b] k2 h2) pos) (lX i j wa):=λpn xe hp zC s Z H D I q=>by
 let M:Z.length=X.N.length:=I.len;let h9:i<Z.length:=by rw[M];show(qg.mp hi).1
 let h8:j<Z.length:=by rw[M];show(qg.mp hj).1
 show Nu (X:=wp X pn xe) hc hN hi hj h1 hx hy (ha pn xe hp) hw hs zC s Z H D I ?_;let#[F,G,U,E,h3,h4,n,b2,c,r,x2]:=q;let x0:XC (wp X pn xe) (·=Z) F G E.ex:=x2.mono (λe1 z=>by rw[z];show KP.refl) (zn.refl F) (zn.refl G);show#[F,G,U,_,_,h3,h4,λrs J vs F1 H1 B s1 r1 hl O=>?_,x0];match rs,vs,O,r1,B with
 |[r,t],[v,u],O,r1,B=>
  dsimp only at B;let#[#[s',L],eg,B]:=Av B;let#[#[t',Y],h7,B]:=Av B;let e:aJ [r,t] J=some ([s',t'],Y):=by show(match give r J with|some (s,J)=>(match aJ [t] J with|some (ss,L)=>some (s::ss,L)|none=>none)|none=>none)=_;rw[eg];show(match(match give t L with|some (s,J)=>some ([s],J)|none=>none)with|some (ss,L)=>some (s'::ss,L)|none=>none)=_;rw[h7]
  let#[F2,s2,l2,z2,r2]:=Hu (rs:=[r,t]) (vs:=[v,u]) (U':=[]) (Z':=[]) r1 hl O e;let l3:Y.length=Z.length:=l2.trans hl;let r3:Rel X.K ((Y++[some s'])++[some t']) ((Z++[some v])++[some u]) F2 G H1:=↑r2
  let r4:=r3.store (i:=j) (by simp[l3]) (by simp;lia -verbose);rw[Ln ∅,Ln ∅]at r4;let r5:=r4.store (i:=i) (by simp[l3]) (by simp;lia -verbose);rw[set_comm _ _ (Ne.symm h1),set_comm (α:=Option V) _ _ (Ne.symm h1)]at r5;show#[v,u,rfl,n _ _ F2 H1 B (KP.trans (KP.set h6) (KP.set h5)) (s1.trans s2) r5]
 |[],_,_,_,B=>show B.elim
 |[_],_,_,_,B=>show B.elim
 |[_,_],[],O,_,_=>show O.elim
 |[_,_],[_],O,_,_=>show O.2.elim
 |[_,_],_::_::_::_,O,_,_=>show O.2.2.elim
 |_::_::_::_,_,_,_,B=>show B.elim
section
open PySem.W HT
def rest(h₀:Heap)(L:Addr)(h:Heap):List (Addr×Obj):=(List.range h.objs.size).filterMap λb=>if b=L then none else if(h₀.get? b).isSome then none else(h.get? b).map λo=>(b,o)
end
def PC{vs:List Value}(few:vs.length<2):(vs.toArray.zip vs.toArray).map (·.2)=vs.toArray:=by rw[List.zip_toArray,List.map_toArray,List.map_snd_zip (q5 _)]
def Lx(B:s.heap.get? a=some (seqObj "list" vs.toArray n))(few:vs.length<2)
  (k:P (.done (.ret .none)) {s with heap:=sortedHeap s.heap a vs vs.toArray}):wpAny (model prog w) A (Builtin.«list.sort» ⟨[.ref a],[]⟩) P E s:=by
 rw[list_sort_plain];let v:vs.toArray.size<2:=few;let F:∃e,(s.heap.update a (Obj.mapSeq λ_=>#[])).get? a=some (seqObj "list" #[] e):=#[_,get?_update_seq B _]
 obtain⟨e,mid⟩:=F;let z:(((s.heap.update a (Obj.mapSeq λ_=>#[])).push (seqObj "tuple" vs.toArray 0)).push (seqObj "list" #[] 0)).get? a=some (seqObj "list" #[] e):=
  qc _ (qc _ mid)
 show qa (listItems_at B rfl (qa (listUpdate_at B rfl (qa (seqEpoch_at mid rfl (qa (wpAny_newTuple (qa (wpAny_newList (ze ?_))))))))));dsimp only;rw[qY v,qY v];show qa (qb (?_:wpAny _ _ _ _ _ _));let G:(arrOf (SortSt.mk' general' (vs.toArray.zip vs.toArray) #[] 7 none)).map (·.2)=vs.toArray:=by show PC few
 show qa (qb (?_:wpAny _ _ _ _ _ _));rw[G];show qa (seqEpoch_at z rfl (qa (listUpdate_at z rfl ?_ (hsz2:=by rw[zd];lia))));simp;show qb k
def Sz(B:s.heap.IsList l vs.toArray)(few:vs.length<2)
  (k:Q (.ref (s.heap.objs.size+1)) {s with heap:=sortedAll s.heap vs vs.toArray}):wpAny (model prog w) A (call (.builtin "sorted") [.ref l]) Q E s:=by
 show Calls.call_function_entry kind_sorted plain_sorted entry_sorted (args_sorted1 _) (?_:wpAny _ _ _ _ _ _);show qa (m:=checkCount "sorted" 1 1 _) (qb (qa (collect_list B (qa (wpAny_newList ?_)))));generalize v:((s.heap.push (seqObj "list" #[] 0)).update s.heap.objs.size (Obj.mapSeq (·++vs.toArray)))=h1;let z:h1.objs.size=s.heap.objs.size+1:=by rw[<-v,Heap.size_update,size_push']
 let new:(h1.push (seqObj "list" vs.toArray 0)).get? (s.heap.objs.size+1)=some (seqObj "list" vs.toArray 0):=z▸qd _ rfl;rw[z];show qa (ze (zc slot_list_sort #[_,new,rfl] entry_list_sort (Lx new few #[_,rfl,?_]) (args_list_sort _)));subst v;show qb #[_,rfl,k]
section
variable{K:W.Frag}
def pT(K:W.Frag):List V->Hp->VK->Prop:=λxs H Q=>∃a ys,xs=[.ref a]/\bK K H a ys/\ys.length<2/\∀q,H q=none->Q (.ref q) (upd H q (.lst ys))
def SV:aS X (.builtin "sorted") (pT X.K):=by
 intro zC s Z H xs L Q I r h;let#[a,ys,rfl,G,h2,q]:=h;cases r with
 |cons B z=>cases z;cases B;let#[v,r,F,_]:=I.list G;show Sz F.isList (by rw[<-r.length];show h2) ?_;let#[e,J]:=sortedAll_at s.heap v v.toArray;show#[.ref (s.heap.objs.size+1),_,I.laid (t':=s.toks) (o:=.lst ys) (λb M w=>sortedAll_old w) (le_succ _) ?_,rfl,q _ (I.hok.fresh (le_succ _))];show#[by rw[zd];lia,v,e,r,J]
end
end FL
namespace FL
def gC(a b:D):Option Bool:=match b with
 |.str l=>match a with
  |.str x=>some (fC l x).isSome
  |_=>none
 |d=>lU a d
def eA(a b:D):Option Bool:=(gC a b).map (!·)
def dE(a:WE):WE:=λU Q E=>a U (λr v=>zm (give r v) λp=>Q (.v (.sh p.1.toD)) p.2) E
def wR(i:Nat)(w:WS):WS:=λD U=>w {D with nx:=λv=>zm (slot v i) λs=>D.nx (v.set i (some (.sh s.toD)))} U
def rF(d q:D):Option (Option D):=match d with
 |.dct t ks vs=>if bF t q then some (lk ks vs q)else none
 |_=>none
def rZ:D->Bool
 |.dct _ _ _=>true
 |_=>false
def iR(o k d:WE):WE:=λU Q E=>o U (λx B=>(zm (zy x B) λG=>rZ G=true)/\k B (λy F=>d F (λz v=>
 zm (zy x v) λG=>zm (view y v) λq=>zm (rF G q) λo=>match o with
  |some e=>Q (.v (.sh e)) v
  |none=>Q z v) E) E) E
mutual
def mL:D->Bool
 |.non=>true
 |.bl _=>true
 |.int i=>decide (-1000000000000<i)&&decide (i<1000000000000)
 |.str l=>l.all λc=>decide (c<1114112)
 |.tup l=>dW l
 |.lst l=>dW l
 |_=>false
def dW:List D->Bool
 |[]=>true
 |d::r=>mL d&&dW r
end
mutual
def sM:D->Nat
 |.int _=>41
 |.str l=>l.length
 |.tup l=>jP l
 |.lst l=>jP l
 |_=>0
def jP:List D->Nat
 |[]=>0
 |d::r=>sM d+1+jP r
end
def bZ(p q:D):Option S:=match p,q with
 |.str x,.int n=>if 0<=n/\n<=1000/\x.length<=500 then some (.sh (.str (List.replicate n.toNat x).flatten))else none
 |p,q=>kU p q
end FL
namespace FL
open PySem PySem.Spec PyProof.Rows L2
section
variable{K:W.Frag}
def Tb(x y:Str):Txt.contains x y=(fC x.cps.toList y.cps.toList).isSome:=by
 let h:=Pg x y;unfold Txt.find at h;unfold Txt.contains;cases q:Builtin.Str.occurrences x y 0 x.length 1 with
 |nil=>
  rw[q]at h;cases e:fC x.cps.toList y.cps.toList with
  |none=>rfl
  |some i=>rw[e]at h;let h':(-1:Int)=(i:Int):=h;lia
 |cons i r=>
  rw[q]at h;cases e:fC x.cps.toList y.cps.toList with
  |none=>rw[e]at h;let h':((i:Nat):Int)=-1:=h;lia
  |some i=>rfl
def pY(neg:Bool):R2:=λx y H Q=>∃z u,x=.str z/\y=.str u/\Q (.bl (if neg then !(Txt.contains u z)else Txt.contains u z)) H
def Nn:OpR X (compareOp .In) (pY false):=by intro zC s Z H x y v u Q I F B h;let#[z,t,rfl,rfl,q]:=h;let#[J,rfl]:=F;let#[G,rfl]:=B;show SB.contains #[.bl _,H,I,rfl,q]
def Ru:OpR X (compareOp .NotIn) (pY true):=by intro zC s Z H x y v u Q I F B h;let#[z,t,rfl,rfl,q]:=h;let#[J,rfl]:=F;let#[G,rfl]:=B;show SB.notContains #[.bl _,H,I,rfl,q]
def kP(K:W.Frag)(neg:Bool):R2:=λx y H Q=>fY K neg x y H Q\/pY neg x y H Q
def Od(v:X.A.units+32<cLine):OpR X (compareOp .In) (kP X.K false):=FL.OpR.or (Qa v) Nn
def Mz(v:X.A.units+32<cLine):OpR X (compareOp .NotIn) (kP X.K true):=FL.OpR.or (Te v) Ru
def LB(z:aN K H x p)(v:aN K H y q)(e:gC p q=some k)(B:Q (.bl (if neg then !k else k)) H):kP K neg x y H Q:=by
 unfold gC at e;split at e
 .split at e
  .cases z with
   |str G L=>cases v with
    |str F J=>show .inr #[_,_,rfl,rfl,?_];rw[Tb,G,F,qf e];show B
  .cases e
 .show .inl (OE z v e B)
def QR:dC K (kP K false) gC:=λH x y p q k Q z v e B=>LB z v e B
def Ml:dC K (kP K true) eA:=λH x y p q k Q B z e F=>by
 unfold eA at e;cases v:gC p q with
 |none=>rw[v]at e;cases e
 |some b=>rw[v]at e;let G:(!b)=k:=qf e;subst G;show LB B z v F
inductive ba(K:W.Frag)(F H:Hp)(xs:List V)(l:List S)(fp:List Addr)(m:Nat)(s:S):Prop
 |mk (x:V) (fa fi fb:List Addr):xs[m]?=some x->aH K F H x s fi->fp=fa++(fi++fb)->(∀{H':Hp}{v':V}{s':S}{fq:List Addr},(∀a∈fa++fb,H' a=H a)->aH K F H' v' s' fq->zr K F H' (xs.set m v') (l.set m s') (fa++(fq++fb)))->ba K F H xs l fp m s
def zr.at:∀{xs:List V}{l:List S}{fp:List Addr}{m:Nat}{s:S},zr K F H xs l fp->l[m]?=some s->ba K F H xs l fp m s
 |_,_,_,_,_,.nil,h=>by simp at h
 |_,_,_,0,_,.cons (fp:=fp) (fq:=fq) a b,h=>by simp at h;subst h;show#[_,[],fp,fq,rfl,a,rfl,λB r=>by rw[nil_append];show .cons r (b.mono (zn.refl F) λc v=>B c v)]
 |_,_,_,m+1,_,.cons (fp:=fp) (fq:=fq) a b,h=>by let#[x,M,J,L,h1,h2,rfl,G]:=zr.at (m:=m) b h;show#[x,fp++M,J,L,h1,h2,(qp ..).symm,λB r=>?_];rw[qp];show .cons (a.mono (zn.refl F) λc v=>B c (qj _ (qj _ v))) (G (λc v=>B c ((qx.mp v).elim (λz=>qj _ (qi _ z)) λz=>qi _ z)) r)
def Rel.hide2(r:Rel K (U++[some s]) (Z++[some v]) F G H)(h:U.length=Z.length):∃O fp,Rel K U Z F O H/\zn G O/\aH K F H v s fp/\(∀a∈fp,∃o,O a=some o/\H a=some o)/\
  ∀{U2:Env}{Z2:St}{L H2:Hp},zn F L->Rel K U2 Z2 L O H2->Rel K (U2++[some s]) (Z2++[some v]) L G H2:=by
 classical
 show cps λ_ kk=>?_;let#[fp,e,nd,ap]:=r.en;let#[f1,f2,rfl,a,b]:=e.cut h;let#[n1,n2,h2]:=qw.mp nd;show kk ?_;let b':=b;cases b' with
 |@so _ _ _ _ fs fn Y nl=>
 cases nl;show#[λx=>if x∈fs++[]then H x else G x,fs,#[r.fr,λx o q=>?_,f1,a,n1,λx B=>?_],λx o q=>?_,Y,λx B=>?_,λ{U2 Z2 L H2} sm M=>?_]
 .by_cases z:x∈fs++[]
  .let:=b.in_ x z;grind
  .simp only[z]at q;show r.gr x o q
 .grind
 .grind
 .obtain⟨o,q,_⟩:=b.in_ x (qj _ B);grind
 .obtain⟨J,e2,h1,h3⟩:=M.en;let hk:∀x∈fs++[],H2 x=H x/\L x=none/\x∉J:=λx B=>by let#[o,q,_]:=b.in_ x B;let w:=M.gr x o (by simp only[B];show q);grind
  show#[M.fr,λx o q=>?_,J++(fs++[]),e2.app (b.mono sm λx B=>(hk x B).1),?_,λx B=>?_]
  .let z:x∉fs++[]:=λz=>by grind
   show M.gr x o (by simp only[z];show q)
  .grind
  grind
def Rel.frzEnd(r:Rel K (U++[some s]) (Z++[some v]) F G H)(h:U.length=Z.length):∃F',zn F F'/\Rel K (U++[some (.sh s.toD)]) (Z++[some v]) F' G H:=by let#[u,F',L,B,J,z]:=r.give (i:=U.length) (s:=s) Fo;rw[show(U++[some s]).set U.length (some (S.sh s.toD))=U++[some (S.sh s.toD)] from Mv]at z;show#[F',B,z]
end
section
variable{st:Stmt}
def Dl(he:FE X e we):FE X e (dE we):=λpn xe hp=>by show PE.imp (he pn xe hp) λZ H Q q=>?_;let#[F,G,U,P,PX,B,hw,J,hx]:=q;show#[F,G,U,_,PX,B,hw,λr Y v F1 H1 L s1 O rv=>?_,hx];let#[#[s,z],eg,L]:=Av L;let#[F2,s2,l2,M]:=AF (U':=[]) (Z':=[]) O (Ae O) rv eg;let#[F3,s3,r3]:=Rel.frzEnd M (Ae M);show J _ z v F3 H1 L (s1.trans (s2.trans s3)) r3 trivial
def NG(h:FS X ks st w):FS X ks st (wR i w):=λpn xe hp=>by show PS.imp (h pn xe hp) λD Z H q=>?_;let#[F,G,U,E,J,hw,n,b,c,r,x]:=q;show#[F,G,U,_,J,hw,λM B F' H' L kp O z=>?_,b,c,r,x];let#[s,es,L]:=Av L;let#[v,F2,_,Y,_,r2]:=z.give es;show n _ B F2 H' L kp (O.trans Y) r2
end
section
variable{K:W.Frag}
def Ou(h:rF d q=some o):∃t ks vs,d=.dct t ks vs/\bF t q=true/\lk ks vs q=o:=by unfold rF at h;grind
def Jz{vs:List α}{P:V->α->Prop}(v:zD.length=vs.length)(h:∀(i:Nat) x y,(zD.map (·.2))[i]?=some x->vs[i]?=some y->P x y):
  (lk (zD.map λp=>aG p.1) vs (aG key)=none/\cE zD key=none)\/∃x y,cE zD key=some x/\lk (zD.map λp=>aG p.1) vs (aG key)=some y/\P x y:=
 Gv aG (λ_ _=>Ep) zD vs key P v h
def Jy{vs:List α}{key:List aK}{P:V->α->Prop}(v:zD.length=vs.length)(h:∀(i:Nat) x y,(zD.map (·.2))[i]?=some x->vs[i]?=some y->P x y):
  (lk (zD.map λp=>D.tup (p.1.map aG)) vs (D.tup (key.map aG))=none/\cE zD key=none)\/∃x y,cE zD key=some x/\lk (zD.map λp=>D.tup (p.1.map aG)) vs (D.tup (key.map aG))=some y/\P x y:=
 Gv (λl=>D.tup (l.map aG)) (λa b z=>Gg (D.tup.inj z)) zD vs key P v h
def OX(L:aN K H x d)(J:bF t d=true)
  (O:(∃zD,t=false/\Rd H a (.dK zD)/\ks=zD.map (λp=>aG p.1)/\zA K F (zD.map (·.2)) vs)\/∃zD,t=true/\Rd H a (.dT zD)/\ks=zD.map (λp=>D.tup (p.1.map aG))/\zA K F (zD.map (·.2)) vs):
  ∃o,fH H a x o/\((lk ks vs d=none/\o=none)\/∃v e,o=some v/\lk ks vs d=some e/\aN K F v e):=by
 rcases O with⟨zD,rfl,e,k,r⟩|⟨zD,rfl,e,k,r⟩
 .obtain⟨key,rfl,rfl⟩:=FZ L J;show#[_,.inl #[zD,key,e,rfl,rfl],?_];rw[k];rcases Jz (zD:=zD) (vs:=vs) (key:=key) (P:=λv e=>aN K F v e) (by let:=r.len;simpa using this) (λi x y h1 h2=>by let#[M,z,G]:=r.get h2;rw[h1]at z;cases z;show G)with⟨h1,h2⟩|⟨v,e,h1,h2,h3⟩
  .show .inl #[h1,h2]
  .show .inr #[v,e,h1,h2,h3]
 .cases L with
  |tup Y q=>
   let#[B,rfl,rfl]:=ES q J;show#[_,.inr #[zD,B,_,e,rfl,Y,rfl],?_];rw[k];rcases Jy (zD:=zD) (vs:=vs) (key:=B) (P:=λv e=>aN K F v e) (by let:=r.len;simpa using this) (λi x y h1 h2=>by let#[M,z,G]:=r.get h2;rw[h1]at z;cases z;show G)with⟨h1,h2⟩|⟨v,e,h1,h2,h3⟩
   .show .inl #[h1,h2]
   .show .inr #[v,e,h1,h2,h3]
  |_=>cases J
def aX.dct(r:aX K F H v (.dct t ks vs))(O:zn F H):∃a,v=.ref a/\((∃zD,t=false/\Rd H a (.dK zD)/\ks=zD.map (λp=>aG p.1)/\zA K F (zD.map (·.2)) vs)\/
  ∃zD,t=true/\Rd H a (.dT zD)/\ks=zD.map (λp=>D.tup (p.1.map aG))/\zA K F (zD.map (·.2)) vs):=by
 rcases r with r|⟨a,xs,Y,G,z,B,r⟩|⟨a,zD,L,J,G,z,B,M,r⟩|⟨a,zD,L,J,G,z,B,M,r⟩
 .cases r with
  |dK e k r=>show#[_,rfl,.inl #[_,rfl,Rd.mono O e,k,r]]
  |dT e k r=>show#[_,rfl,.inr #[_,rfl,Rd.mono O e,k,r]]
 .cases z
 .cases z;show#[a,G,.inl #[zD,rfl,.inl B,M,r]]
 .cases z;show#[a,G,.inr #[zD,rfl,.inl B,M,r]]
end
def Kp(hu:X.A.units+1<cLine)(ho:FE X o wo)(hi:FE X i wi)(hd:FE X d wd)(m:M2 X o "get" apos i d cpos):FE X (.Call (.Attribute o "get" apos) [i,d] [] cpos) (iR wo wi wd):=λpn xe hp=>by
 refine PE.imp (Qr (X:=wp X pn xe) hu (ho pn xe hp) (hi pn xe hp) (hd pn xe hp) #[m.base,m.few,m.line,m.trees]) λZ H Q q=>?_;let#[F,G,U,P,PX,e1,hw,h6,hx]:=q;show#[F,G,U,_,PX,e1,hw,λx U1 o' F1 H1 hk s1 r1 rv=>?_,hx];let#[hD,hk]:=hk;let l1:=Ae r1;let#[d0,e0,hD]:=Av hD;let M:∃a,o'=.ref a/\vI H1 a:=by
  cases d0 with
  |dct t ks vs=>
   let#[hc,hb,e2,h5]:=Bz (U':=[]) (Z':=[]) r1 l1 rv e0;let#[a,ea,h]:=e2.dct h5.fr;rcases h with⟨L,_,h,_⟩|⟨L,_,h,_⟩
   .show#[a,ea,.inl #[L,h]]
   .show#[a,ea,.inr #[L,h]]
  |_=>cases hD
 let#[a,rfl,M]:=M;show#[a,rfl,M,?_];let#[G1,h4,gg,back]:=r1.hide l1;show#[F1,G1,U1,_,PX,h4,hk,λy U2 i' F2 H2 e3 s2 r2 h9=>?_,hx.mono (λ_ z=>z) s1 gg];let l2:=Ae r2;let#[G2,h3,e4,O]:=r2.hide l2;show#[F2,G2,U2,_,PX,h3,e3,λz J d' F3 H3 B s3 r3 h8=>?_,hx.mono (λ_ z=>z) (s1.trans s2) (gg.trans e4)];let Y:=Ae r3;let#[dd,ed,B]:=Av B;let#[q,eq,B]:=Av B;let#[oo,eo,B]:=Av B;let r4:=back (s2.trans s3) (O s3 r3);simp at r4;let r5:Rel X.K (J++[zo y,zo x]) (Z++[some i',some (.ref a)]) F3 G H3:=Rel.mid (U:=J) (Z:=Z) r4 Y;let ri:=AE (U':=[zo x]) (Z':=[some (.ref a)]) r5 Y h9 eq;let r6:Rel X.K ((J++[zo z])++[zo x]) ((Z++[some d'])++[some (.ref a)]) F3 G H3:=by let:=Rel.mid (U:=J++[zo z]) (Z:=Z++[some d']) (o:=zo y) (w:=some i') (U':=[zo x]) (Z':=[some (.ref a)]) ↑r4 (by simp[Y]);show this
 let r7:=Rel.swap (U1:=[zo z]) (Z1:=[some d']) (U2:=[zo x]) (Z2:=[some (.ref a)]) Y rfl ↑r6;let#[F4,s4,re,r8]:=Bz (U':=[zo z]) (Z':=[some d']) r7 Y rv ed;let#[t,ks,vs,rfl,h7,rfl]:=Ou eo;let#[a',ea,hh]:=re.dct r8.fr;cases ea;let#[o2,g,h]:=OX ri h7 hh;show#[o2,g,?_];rcases h with⟨h1,rfl⟩|⟨v,e,rfl,h1,h2⟩
 .rw[h1]at B;show h6 _ J d' F4 H3 B (s1.trans (s2.trans (s3.trans s4))) r8 h8
 .rw[h1]at B;show h6 _ J v F4 H3 B (s1.trans (s2.trans (s3.trans s4))) ((r8.drop Y).push h2) trivial
def Kx(h1:-1000000000000<i)(h2:i<1000000000000):i.natAbs.log2<40:=by
 let:i.natAbs<2^40:=∅
 by_cases v:i.natAbs=0
 .rw[v];decide
 .show(Nat.log2_lt v).mpr this
mutual
theorem Ry:∀d:D,mL d=true->kM d=true
 |.non,_=>rfl
 |.bl _,_=>rfl
 |.int i,h=>by let h':(decide (-1000000000000<i)&&decide (i<1000000000000))=true:=h;rw[and_eq_true,qR,qR]at h';let:=Kx h'.1 h'.2;show decide (i.natAbs.log2<1920)=true;rw[qR];lia
 |.str _,_=>rfl
 |.tup l,h=>Jd l h
 |.lst l,h=>Jd l h
 |.dct _ _ _,h=>by cases h
 |.set _,h=>by cases h
 |.exc _ _ _,h=>by cases h
theorem Jd:∀l:List D,dW l=true->dF l=true
 |[],_=>rfl
 |d::r,h=>by rw[dW,and_eq_true]at h;rw[dF,Ry d h.1,Jd r h.2];rfl
end
mutual
theorem Ti:∀d:D,mL d=true->(dS d).leavesShort 13=true
 |.non,_=>rfl
 |.bl _,_=>rfl
 |.int i,h=>by let h':(decide (-1000000000000<i)&&decide (i<1000000000000))=true:=h;rw[and_eq_true,qR,qR]at h';let:=int_text_length_le10 (a:=i) (k:=12) ⋯ ∅;simp only[dS,PyData.leavesShort,qR];show(Str.ofString (toString i)).length<=13;rw[PySem.ofString_length];show this
 |.str l,h=>by let h':(l.all λc=>decide (c<1114112))=true:=h;simp only[dS,PyData.leavesShort,qH,qR]at h'⊢;intro c v;let:=h' c ↑v;lia
 |.tup l,h=>by simp only[dS,PyData.leavesShort];show Jn l h
 |.lst l,h=>by simp only[dS,PyData.leavesShort];show Jn l h
 |.dct _ _ _,h=>by cases h
 |.set _,h=>by cases h
 |.exc _ _ _,h=>by cases h
theorem Jn:∀l:List D,dW l=true->PyData.leavesShortAll 13 (cF l)=true
 |[],_=>rfl
 |d::r,h=>by rw[dW,and_eq_true]at h;simp only[cF,PyData.leavesShortAll,and_eq_true];show#[Ti d h.1,Jn r h.2]
end
mutual
theorem Tg:∀d:D,mL d=true->(dS d).weight<=sM d
 |.non,_=>q5 _
 |.bl _,_=>q5 _
 |.int i,h=>by let h':(decide (-1000000000000<i)&&decide (i<1000000000000))=true:=h;rw[and_eq_true,qR,qR]at h';let:=Kx h'.1 h'.2;simp only[dS,PyData.weight,sM];split<;>lia
 |.str l,h=>by simp[dS,PyData.weight,sM]
 |.tup l,h=>by simp only[dS,PyData.weight,sM];show Jp l h
 |.lst l,h=>by simp only[dS,PyData.weight,sM];show Jp l h
 |.dct _ _ _,h=>by cases h
 |.set _,h=>by cases h
 |.exc _ _ _,h=>by cases h
theorem Jp:∀l:List D,dW l=true->PyData.weightAll (cF l)<=jP l
 |[],_=>q5 _
 |d::r,h=>by rw[dW,and_eq_true]at h;let h1:=Tg d h.1;let h2:=Jp r h.2;simp only[cF,PyData.weightAll,jP];lia
end
section
variable{K:W.Frag}
def LZ(a:Array Nat):∀(n:Nat)(b:Array Nat),((List.replicate n a).foldl (·++·) b).toList=b.toList++(List.replicate n a.toList).flatten
 |0,b=>by simp
 |n+1,b=>by rw[List.replicate_succ,foldl_cons,LZ a n,List.replicate_succ,List.flatten_cons,toList_append,qp]
def Nt(v:0<=n):(Txt.mul x n).cps.toList=(List.replicate n.toNat x.cps.toList).flatten:=by
 unfold Txt.mul;by_cases h1:n<1
 .rw[show n=0 by lia];rfl
 .rw[qZ h1];by_cases h2:(n==1||x.length==0)=true
  .rw[qY h2];rw[or_eq_true,beq_iff_eq,beq_iff_eq]at h2;rcases h2 with h2|h2
   .subst h2;simp
   .let:x.cps.toList=[]:=by let e:x.cps.size=0:=h2;rw[<-List.length_eq_zero_iff];exact e
    rw[this];simp
  .rw[qZ h2];rw[LZ];simp
def nW:R2:=λx y H Q=>∃z n,x=.str z/\y=.int n/\0<=n/\n<=1000/\z.length<=500/\Q (.str (Txt.mul z n)) H
def OD:OpR X (binaryOp .Mult) nW:=by
 intro zC s Z H x y v u Q I F B h;let#[z,n,rfl,rfl,Y,h1,G,q]:=h;let#[t,rfl]:=F;let#[L,rfl]:=B;show SB.mul #[?_,λh _=>?_,λh _=>?_] λJ k=>#[.str _,H,I.kept λ_ _ z=>z,#[_,rfl],q]
 .grind
 .let O:(9223372036854775807:Int)/1000<=(2^63-1)/n:=by rw[Int.le_ediv_iff_mul_le ∅];grind
  grind
 .let M:z.length*n.toNat<=500*1000:=mul_le_mul G ∅;simp only[Builtin.Str.tooLong,zd];lia
def Ss:gF K (λx y H Q=>(rI lS λi j=>.int (i*j)) x y H Q\/nW x y H Q) bZ:=by
 intro Z U F G H x y p q s Q v J B e L;unfold bZ at e;split at e
 .rename_i l n;split at e
  .rename_i hc;cases e;let#[M,h1,hz]:=hc;let#[z,rfl,O,_]:=J.str;let ey:y=.int n:=by
    rcases B with B|⟨_,_,_,_,e,_⟩|⟨_,_,_,_,_,e,_⟩|⟨_,_,_,_,_,e,_⟩
    .cases B;rfl
    .cases e
    .cases e
    .cases e
   subst ey;let Y:z.length=l.length:=by rw[<-O];rfl
   show .inr #[z,n,rfl,rfl,M,h1,∅,?_];show L _ F H (zn.refl F) (v.push (.str ?_ ?_))
   .rw[Nt M,O]
   .let h4:n.toNat*l.length<=1000*500:=mul_le_mul ∅ hz;let e5:∀m,((List.replicate m l).flatten).length=m*l.length:=λm=>by simp
    rw[e5];lia
  .cases e
 .show .inl (PR Z U F G H x y _ _ s Q v J B e L)
def Ex(F:FE X a z)(B:FE X b v):FE X (.BinOp a .Mult b pos) (zu bZ z v):=FU (λ_ _=>OpR.or NB OD) Ss F B
end
end FL
namespace FL
def wU(s0:S)(n k:Nat)(it:WI)(g:WG)(c:WT)(b:WB):WE:=λU Q E=>it U (λl z=>aL g c b l (z++some s0::List.replicate k none) (λv=>zm (slot v n) λs=>Q (.v s) (v.take n)) NX) E
end FL
namespace FL
open PySem PySem.Spec PyProof.Rows L2
def Qt:FE X (.Dict [] [] pos) (kJ true):=λpn xe B=>by show PE.imp QF λZ H Q q=>?_;let#[F,G,U,P,PX,v,J,z,L]:=q;intro p B;show z _ U _ F _ J (zn.refl F) (Rel.newO (s:=.dct true [] []) v B (.dT (zD:=[]) Bx rfl .nil)) trivial
def dO(K:W.Frag)(f:Addr):FuncData:=match K.lookup f with
 |some ⟨_,_,.func d,_⟩=>d
 |_=>default
def JN{K:W.Frag}(l:K.lookup f=some #[B,z,.func d,v]):dO K f=d:=by unfold dO;rw[l]
inductive Lk(K:W.Frag)(n:Str)(st:Stmt)(f:Addr):Prop
 |mk {oc kV dc pm cd ct:Value} {od an:Option Addr} {sl:Array (Option Value)} (a:W.nsIn K mainGlobals n=some (some (.ref f))) (l:K.lookup f=some ⟨oc,od,.func (W.fnOf n n (cU st) (bP st) (aA st) .none kV dc pm an cd ct),sl⟩)
  (c:W.codeIn K cd n=true) (k:W.keepIn K (.ref f)=true):Lk K n st f
structure Tx(K:W.Frag)(mg:Str->Option Value)(f:Addr)(n:Str)(st:Stmt)(ps:List Str):Prop where
 F:sI K n n st f (dO K f)
 m:mg n=some (.ref f)
 k:W.keepIn K (.ref f)=true
 b:Binds K (dO K f) ps []
def bh(n:Str)(st:Stmt)(ps:List Str):Prop:=∀(kV z F:Value)(G:Option Addr)(B ct:Value)(v:List Value),v.length=ps.length->bindArgs (W.fnOf n n (cU st) (bP st) (aA st) .none kV z F G B ct) #[v,[]]=pure (ps.zip v)
section
variable{K:W.Frag}{st:Stmt}
def Lk.mm(t:Lk K n st f)(X:K.In h)(G:h.Ns mainGlobals mg):mg n=some (.ref f):=by let#[a,l,c,k]:=t;show W.mg_of X G a
def Lk.tx(t:Lk K n st f)(X:K.In h)(G:h.Ns mainGlobals mg)(b:bh n st ps:=by intro _ _ _ _ _ _ v z;first|(let#[_,rfl]:=DH (l:=v) z;rfl)|(let#[_,_,rfl]:=EV (l:=v) z;rfl)|(let#[_,_,_,rfl]:=EU (l:=v) z;rfl)|(let#[_,_,_,_,rfl]:=ET (l:=v) z;rfl)|(let#[_,_,_,_,_,rfl]:=GH (l:=v) z;rfl)):Tx K mg f n st ps:=by
 let#[a,l,c,k]:=t;let e:=JN l;let F:=Ni l c k;show#[?_,W.mg_of X G a,k,?_]
 .rw[e];show F
 .rw[e];show F.binds b
def Lk.bt(t:Lk K n st f)(s:Shared)(v:Value)(b:bh n st [x]:=by intro _ _ _ _ _ _ z B;let#[_,rfl]:=DH (l:=z) B;rfl):BindsTo s (dO K f) #[[v],[]] [(x,v)]:=by let#[a,l,c,k]:=t;let e:=JN l;rw[e];show .of_eq (b _ _ _ _ _ _ [v] rfl)
end
def De{N P:List Str}{v:Scope}(a:autoParam (v.kind=.function) rZ9)(b:autoParam (v.isCoroutine=false) rZ9)(c:autoParam (v.isGenerator=false) rZ9)(d:N.Nodup:=by decide+kernel)(e:autoParam (N.take P.length=P) rZ9)(f:∀x∈P,v.names.lookup x=some .local\/v.names.lookup x=some .cell:=by decide+kernel)(g:∀y∈v.names,y.2≠.free:=by decide+kernel):aM N P v:=#[a,b,c,d,e,f,g]
abbrev jE(P:Program)(w:World)(K:W.Frag)(mg:Str->Option Value)(base:Heap)(af:Nat->Addr)(k i:Nat)(ps:List Str)(sp:Sp):Prop:=eO P w K mg base (gR P w) k (af i) (dO K (af i)) ps sp
def Dh{K:W.Frag}{st:Stmt}(t:Tx K mg f x st ps)(Sc:aM N ps (aA st))
  (G:∀(z:Value)(A:Around)(v:List PySem.Env)(s:Shared)(H:Hp)(E:XK),bE k (A.deeper (envOfC x (aA st) s.heap.objs.size f z))->lW (eN (gR P w) P w K mg base N x (aA st) f z A v s H E) ks (bP st) B)(hn:autoParam (ps.length=n) rZ9)(F:autoParam (N.length=m) rZ9):
  eO P w K mg base (gR P w) (k+1) f (dO K f) ps (eS K (gH n m ks B) n):=JA t.F Sc hn F G
section
theorem fw(i:Nat)(F:autoParam (X.N[i]?=some x) rZ9)(z:uT X.env.scope x:=by first|show Or.inl rfl|show Or.inr (Or.inl rfl)|show Or.inr (Or.inr rfl))(B:autoParam ((x==("__debug__":Str))=false) dZ9)
  (v:autoParam ((x==("__classdict__":Str))=false) dZ9):FE X (.Name x pos) (zi i):=OR F z B v
def Ai(i:Nat)(v:X.N.Nodup)(B:autoParam (i∉ks) dZ9)(hi:autoParam (X.N[i]?=some x) rZ9)(z:Loc X.env.scope x:=by first|show Or.inl rfl|show Or.inr rfl)(G:X.fn x=true\/X.env.scope.names.lookup x=some .local:=by show Or.inl rfl):FG X ks (.Name x pos) (FL.zl i):=La B (λj F=>GA v F hi) hi z G
def BV(i:Nat)(B:autoParam (i∉ks) dZ9)(z:(X.N.zipIdx.all λp=>!(p.1==x)||p.2==i)=true:=by kernel_rfl)(hi:autoParam (X.N[i]?=some x) rZ9)(v:Loc X.env.scope x:=by first|show Or.inl rfl|show Or.inr rfl)(F:X.fn x=true\/X.env.scope.names.lookup x=some .local:=by first|show Or.inr rfl|show Or.inl rfl):FG X ks (.Name x pos) (FL.zl i):=La B (uq z) hi v F
variable{st:Stmt}
def AM(ms:List Bool)(t:Tx X.K X.mg f x st ps)(Fk:eO X.prog X.w X.K X.mg X.base (gR X.prog X.w) k f (dO X.K f) ps (eS X.K F n))(J:bE j X.A)(Y:FA X (e::es) G)(L:autoParam (k<=j) dZ9)(M:autoParam (Gl X x) rZ9)(v:∀ss P PX,F ss P PX->ss.length=n:=by show λ_ _ _ h=>h.1)
  (B:autoParam ((x==("__debug__":Str))=false) dZ9)(O:autoParam (starEach (e::es) X.env=(false,eval e X.env)::starEach es X.env) rZ9)(z:autoParam ((backTo pos (starEach es X.env)).any (·.1)=false) rZ9):
  FE X (.Call (.Name x p) (e::es) [] pos) (zw F ms G):=PM Fk (J.mono L) M t.m t.k t.b Y v B O z
end
end FL
namespace FL
def bG(l:List D):Bool:=l.all bI||l.all (bF true)
open Classical in
def bX(l:List D)(d:D):List D:=if d∈l then l else l++[d]
def aC(l:List D):List D:=l.foldl bX []
def lN(n:Nat)(e:WE):WB:=λU Q E=>e U (λr v=>zm (give r v) λp=>match slot p.2 n with
 |some (.set l)=>bG (p.1.toD::l)=true/\l.length<=150/\Q (p.2.set n (some (.set (bX l p.1.toD))))
 |_=>False) E
def newS(l:List D):Option S:=if bG l=true/\l.length<=150 then some (.set (aC l))else none
def iD:List D->Option S
 |[.lst l]=>newS l
 |[.tup l]=>newS l
 |_=>none
def gM:List D->Option S
 |[.set l]=>some (.sh (.int l.length))
 |ds=>cP ds
def dN:List Bool->List D->Prop
 |[],[]=>True
 |false::sh,.int _::r=>dN sh r
 |true::sh,.str _::r=>dN sh r
 |_,_=>False
def fR(sh:List Bool):D->Prop
 |.tup l=>dN sh l
 |_=>False
@[inline]def Kd:D->D->Prop:=λa b=>(∃i j,a=.int i/\b=.int j)\/∃x y,a=.str x/\b=.str y
def Im(i j:Int):bQ (.int i) (.int j)=if i<j then .lt else if j<i then .gt else .eq:=by rw[bQ]
def Hi(x y:List Nat):bQ (.str x) (.str y)=if x<y then .lt else if y<x then .gt else .eq:=by rw[bQ]
def Ra(x y:List Nat):x<y\/y<x\/x=y:=by grind
def HC(h:Kd a b):(bQ a b=.lt/\bQ b a=.gt)\/(bQ a b=.gt/\bQ b a=.lt)\/(a=b/\bQ a b=.eq):=by
 rcases h with⟨i,j,rfl,rfl⟩|⟨x,y,rfl,rfl⟩
 .grind[Im]
 .rw[Hi,Hi];grind
def Ng(h:Kd a b)(h':Kd b c)(e:bQ a b=.lt)(F:bQ b c=.lt):bQ a c=.lt:=by
 rcases h with⟨i,j,rfl,rfl⟩|⟨x,y,rfl,rfl⟩
 .rcases h' with⟨v,k,h1,rfl⟩|⟨x,y,h1,rfl⟩
  .grind[Im,Int.lt_trans]
  .cases h1
 .rcases h' with⟨v,k,h1,rfl⟩|⟨B,z,h1,rfl⟩
  .cases h1
  grind[Hi,List.lt_trans]
def HB(h:dN sh (a::l))(h':dN sh (b::m)):Kd a b/\∃v,dN v l/\dN v m:=by
 cases sh with
 |nil=>show h.elim
 |cons t sh=>
  cases t
  .cases a<;>first|exact h.elim|skip
   cases b<;>first|show h'.elim|skip
   show#[.inl #[_,_,rfl,rfl],sh,h,h']
  .cases a<;>first|exact h.elim|skip
   cases b<;>first|show h'.elim|skip
   show#[.inr #[_,_,rfl,rfl],sh,h,h']
def Fh(h:dN sh [])(h':dN sh m):m=[]:=by
 cases sh with
 |nil=>cases m with
  |nil=>rfl
  |cons _ _=>show h'.elim
 |cons t _=>cases t<;>show h.elim
def Qf{sh v:List Bool}{l m:List D}(h:dN sh l)(h':dN v l):sh=v:=by
 induction l generalizing sh v with
 |nil=>
  cases sh with
  |nil=>cases v with
   |nil=>rfl
   |cons t _=>cases t<;>show h'.elim
  |cons t _=>cases t<;>show h.elim
 |cons a l B=>
  cases sh with
  |nil=>show h.elim
  |cons t sh=>cases v with
   |nil=>show h'.elim
   |cons z v=>cases t<;>cases z<;>cases a<;>first|show h.elim|show h'.elim|rw[B h h']
def IK(a b:D)(l m:List D):aQ (a::l) (b::m)=match bQ a b with|.eq=>aQ l m|o=>o:=by rw[aQ];first|done|(cases bQ a b<;>rfl)
def Fm:∀{sh:List Bool}{l m:List D},dN sh l->dN sh m->(aQ l m=.lt/\aQ m l=.gt)\/(aQ l m=.gt/\aQ m l=.lt)\/(l=m/\aQ l m=.eq)
 |sh,[],m,h,h'=>by rw[Fh h h'];show .inr (.inr #[rfl,by rw[aQ]])
 |sh,a::l,[],h,h'=>by cases Fh h' h
 |sh,a::l,b::m,h,h'=>by
  let#[k,G,L,J]:=HB h h';rw[IK,IK];rcases HC k with⟨z,F⟩|⟨z,F⟩|⟨rfl,z⟩
  .rw[z,F];show .inl #[rfl,rfl]
  .rw[z,F];show .inr (.inl #[rfl,rfl])
  .rw[z];rcases Fm L J with⟨v,B⟩|⟨v,B⟩|⟨rfl,v⟩
   .show .inl #[v,B]
   .show .inr (.inl #[v,B])
   .show .inr (.inr #[rfl,v])
def Kq:∀{sh:List Bool}{l m n:List D},dN sh l->dN sh m->dN sh n->aQ l m=.lt->aQ m n=.lt->aQ l n=.lt
 |sh,[],m,n,h,h',h'',e,_=>by rw[Fh h h']at e;cases e
 |sh,a::l,[],n,h,h',h'',e,_=>by cases Fh h' h
 |sh,a::l,b::m,[],h,h',h'',e,_=>by cases Fh h'' h
 |sh,a::l,b::m,c::n,h,h',h'',e,e'=>by
  let#[k,F,O,M]:=HB h h';let#[G,B,J,L]:=HB h' h'';let es:F=B:=Qf (m:=[]) M J;subst es;rw[IK]at e e'⊢;rcases HC k with⟨z,_⟩|⟨z,_⟩|⟨rfl,z⟩
  .rw[z]at e;rcases HC G with⟨v,_⟩|⟨v,_⟩|⟨rfl,v⟩
   .rw[Ng k G z v]
   .rw[v]at e';cases e'
   .rw[z]
  .rw[z]at e;cases e
  .rw[z]at e;rcases HC G with⟨v,_⟩|⟨v,_⟩|⟨rfl,v⟩
   .rw[v]
   .rw[v]at e';cases e'
   .rw[z]at e';rw[z];show Kq O J L e e'
def EN(h:dN sh l)(h':dN sh m):dG (.tup l) (.tup m)=!(aQ m l==.lt):=by
 unfold dG;rw[show bQ (.tup l) (.tup m)=aQ l m by rw[bQ]];rcases Fm h h' with⟨v,z⟩|⟨v,z⟩|⟨rfl,v⟩
 .rw[v,z];rfl
 .rw[v,z];rfl
 .rw[v];rfl
def Hg(sh:List Bool):eJ (fR sh) where
 tot a b ha hb:=by
  cases a<;>first|show ha.elim|skip
  cases b<;>first|show hb.elim|skip
  rw[EN ha hb,EN hb ha];rcases Fm ha hb with⟨f1,f2⟩|⟨f1,f2⟩|⟨_,f1⟩
  .show .inl (by rw[f2];rfl)
  .show .inr (by rw[f1];rfl)
  .show .inr (by rw[f1];rfl)
 tr a b c ha hb hc:=by
  cases a<;>first|show ha.elim|skip
  cases b<;>first|show hb.elim|skip
  cases c<;>first|show hc.elim|skip
  rw[EN ha hb,EN hb hc,EN ha hc];intro h1 h2;rcases Fm ha hb with⟨f1,f2⟩|⟨f1,f2⟩|⟨rfl,f1⟩
  .rcases Fm hb hc with⟨g1,g2⟩|⟨g1,g2⟩|⟨rfl,g1⟩
   .rcases Fm ha hc with⟨k1,k2⟩|⟨k1,k2⟩|⟨rfl,k1⟩
    .rw[k2];rfl
    .rw[Kq ha hb hc f1 g1]at k1;cases k1
    .rw[k1];rfl
   .rw[g2]at h2;cases h2
   .show h1
  .rw[f2]at h1;cases h1
  .show h2
 anti a b ha hb:=by
  cases a<;>first|show ha.elim|skip
  cases b<;>first|show hb.elim|skip
  rw[EN ha hb,EN hb ha];intro h1 h2;rcases Fm ha hb with⟨f1,f2⟩|⟨f1,f2⟩|⟨rfl,f1⟩
  .rw[f1]at h2;cases h2
  .rw[f2]at h1;cases h1
  .rfl
section
variable{ι κ:Type}[DecidableEq κ](g:ι->κ)
def aW(l:List ι)(i:ι):List ι:=if g i∈l.map g then l else l++[i]
def fJ(l:List ι):List ι:=l.foldl (aW g) []
def Qp{f:ι->D}(h:∀i j,f i=f j↔g i=g j)(l:List ι)(i:ι):bX (l.map f) (f i)=(aW g l i).map f:=by unfold bX aW;grind
def Ii{f:ι->D}(h:∀i j,f i=f j↔g i=g j)(l:List ι):aC (l.map f)=(fJ g l).map f:=by
 suffices ∀v:List ι,(l.map f).foldl bX (v.map f)=(l.foldl (aW g) v).map f from this []
 induction l with
 |nil=>show λ_=>rfl
 |cons i l z=>intro v;rw[qy,foldl_cons,Qp g h];show z _
def IY{l:List ι}{k:Nat}(h:k<l.length):fJ g (l.take (k+1))=aW g (fJ g (l.take k)) l[k]:=by unfold fJ;rw[List.take_add_one,qh h,foldl_append];rfl
def Gc:∀{l v:List ι}{i:ι},i∈l.foldl (aW g) v->i∈v\/i∈l
 |[],_,_,h=>.inl h
 |j::l,v,i,h=>by
  rw[foldl_cons]at h;rcases Gc h with z|z
  .unfold aW at z;split at z
   .show .inl z
   .rcases qx.mp z with z|z
    .show .inl z
    .show .inr (qA.mpr (.inl (qu.mp z)))
  .show .inr (qk _ z)
def Fi:∀(l v:List ι),(l.foldl (aW g) v).length<=v.length+l.length
 |[],_=>q5 _
 |j::l,v=>by
  rw[foldl_cons];let h1:=Fi l (aW g v j);let h2:(aW g v j).length<=v.length+1:=by
   unfold aW;split
   .lia
   .rw[qq];show q5 _
  rw[qt];lia
end
def Qb:x∈bX l d↔x∈l\/x=d:=by
 unfold bX;split
 .rename_i h;show#[.inl,λz=>z.elim id λe=>e▸h]
 .rw[qx,qu]
theorem zaD:x∈aC l↔x∈l:=by
 suffices ∀v:List D,x∈l.foldl bX v↔x∈v\/x∈l from(this []).trans (by simp)
 induction l with
 |nil=>show λ_=>by simp
 |cons i l z=>intro v;rw[foldl_cons,z,Qb,qA,or_assoc]
def SC(h:l.Nodup):(bX l d).Nodup:=by
 unfold bX;split
 .show h
 .rename_i z;show qw.mpr #[h,by simp,λa B b v=>by rw[qu.mp v];show λe=>z (e▸B)]
def Gd(l:List D):(aC l).Nodup:=by
 suffices ∀v:List D,v.Nodup->(l.foldl bX v).Nodup from this [] .nil
 induction l with
 |nil=>show λ_ h=>h
 |cons i l z=>show λv h=>z _ (SC h)
def Qy(l:List D)(d:D):(bX l d).length<=l.length+1:=by
 unfold bX;split
 .lia
 .rw[qq];show q5 _
def HD(l:List D):(aC l).length<=l.length:=by
 unfold aC
 suffices ∀v:List D,(l.foldl bX v).length<=v.length+l.length by simpa using this []
 induction l with
 |nil=>show λ_=>q5 _
 |cons i l z=>grind[foldl_cons,length_cons,bX,Qy]
def aU(ks:List D)(l:List S)(q:D):List D×List S×Nat:=match gB ks q with
 |some m=>(ks,l,m)
 |none=>(ks++[q],l++[.lst []],ks.length)
def dQ(j:Nat)(k e:WE):WE:=λU Q E=>match slot U j with
 |some (.dct _ _ _)=>k U (λy v=>match view y v,slot v j with
  |some q,some (.dct t ks l)=>bF t q=true/\ks.Nodup/\ks.length<big/\(match(aU ks l q).2.1[(aU ks l q).2.2]? with
   |some (.lst l')=>e (v.set j none) (λr z=>zm (give r z) λp=>l'.length<big/\Q (.v (.sh .non)) (p.2.set j (some (.dct t (aU ks l q).1 ((aU ks l q).2.1.set (aU ks l q).2.2 (.lst (l'++[p.1]))))))) E
   |_=>False)
  |_,_=>False) E
 |_=>False
end FL
namespace FL
open PySem PySem.Spec PyProof.Rows L2
def Gs(h:kV a=kV b):a=b:=by cases a<;>cases b<;>cases h<;>rfl
def Gu:∀{a b:List aK},a.map kV=b.map kV->a=b
 |[],[],_=>rfl
 |[],_::_,h=>by cases h
 |_::_,[],h=>by cases h
 |x::a,y::b,h=>by
  injection h with h1 h2
  rw[Gs h1,Gu h2]
def IC(h:zt (kV k) u):u.scannable=true:=by
 cases k with
 |inl i=>let#[t,rfl]:=h;rfl
 |inr x=>let#[t,rfl]:=h;rfl
def Mr{α β:Type}{f:α->β}(z:∀a b,f a=f b->a=b){l m:List α}(h:(l.map f).Perm (m.map f)):l.Perm m:=by
 induction l generalizing m with
 |nil=>simp_all
 |cons a l v=>let#[b,B,e]:=qJ.mp (h.mem_iff.mp (by simp:f a∈(a::l).map f));let:=z _ _ e;subst this;let#[m1,F,rfl]:=append_of_mem B;show(List.Perm.cons b (v ?_)).trans perm_middle.symm;rw[map_append];rw[map_append,qy]at h;show(h.trans perm_middle).cons_inv
def sG(H:Hp)(vs:List V)(y:V)(b:Bool):Prop:=
 (∃(ks:List aK)(k:aK),vs=ks.map kV/\y=kV k/\(b=true↔k∈ks))\/
 ∃(ps:List (List aK×Addr))(k:List aK)(c:Addr),vs=ps.map (λp=>V.ref p.2)/\(∀p∈ps,H p.2=some (.tup (p.1.map kV)))/\y=.ref c/\H c=some (.tup (k.map kV))/\(b=true↔k∈ps.map (·.1))
def GG(I:Inv X zC Z H s)(e:H a=some (.set vs)):s.TypeIs (.ref a) "set":=by
 rcases I.hok a _ e with⟨_,⟨_,h1⟩|⟨_,_,_,o,_,_,_,h1,h2,_⟩|⟨_,_,_,_,o,_,_,_,h1,h2,_⟩⟩
 .show#[_,h1,rfl]
 .show#[o,h1,h2.1]
 .show#[o,h1,h2.1]
def OB(I:Inv X zC Z H s){ks:List aK}(e:H a=some (.set vs))(B:vs=ks.map kV):∃xs:List (aK×Value),ks.Perm (xs.map (·.1))/\ST.VSet (ST.ldOf X.w) (aE X.prog X.w) s.heap a xs:=by
 rcases I.hok a _ e with⟨_,⟨F,h1⟩|⟨_,xs,p,V⟩|⟨z,xs,p,_,_⟩⟩
 .let:ks=[]:=by rw[F]at B;simpa using B.symm
  subst this;show#[[],.refl _,ST.vset_new h1]
 .show#[xs,Mr (λ_ _=>Gs) ?_,V];rw[B]at p;rw[qD];show p
 .exfalso;cases vs with
  |nil=>show z rfl
  |cons v vs=>grind[mem_map,mem_cons_self,kV]
def Pm(I:Inv X zC Z H s){ps:List (List aK×Addr)}(e:H a=some (.set vs))(B:vs=ps.map (λp=>V.ref p.2))(G:∀p∈ps,H p.2=some (.tup (p.1.map kV))):∃xs,ps.Perm xs/\ST.TSet (ST.ldOf X.w) (tupleKind (aE X.prog X.w)) s.heap a xs:=by
 rcases I.hok a _ e with⟨_,⟨h0,h1⟩|⟨J,xs,p,_⟩|⟨_,xs,p,L,T⟩⟩
 .let:ps=[]:=by rw[h0]at B;simpa using B.symm
  subst this;show#[[],.refl _,ST.tset_new h1]
 .exfalso;cases vs with
  |nil=>show J rfl
  |cons v vs=>
   let#[q,_,O]:=qJ.mp (p.mem_iff.mp qm);let h1:v∈ps.map (λp=>V.ref p.2):=by rw[<-B];show qm
   let#[k,_,M]:=qJ.mp h1;rw[<-O]at M;cases q with
   |mk q _=>cases q<;>cases M
 .show#[xs,?_,T.full λx F=>Em I.hok (L x F)];rw[B]at p
  --an address tells zG tuple
  let q:(ps.map (·.2)).Perm (xs.map (·.2)):=Mr (f:=V.ref) (λ_ _ h=>by cases h;rfl) (by rw[qD,qD];show p)
  letI f:Addr->List aK×Addr:=λb=>(Classical.epsilon λks:List aK=>H b=some (HO.tup (ks.map kV)),b)
  let Y:∀p:List aK×Addr,H p.2=some (.tup (p.1.map kV))->f p.2=p:=λp h=>by let e:H p.2=some (.tup ((Classical.epsilon λks:List aK=>H p.2=some (HO.tup (ks.map kV))).map kV)):=Classical.epsilon_spec (p:=λks:List aK=>H p.2=some (HO.tup (ks.map kV))) #[p.1,h];grind[Prod.ext,Gu]
  let z:∀l:List (List aK×Addr),(∀p∈l,H p.2=some (.tup (p.1.map kV)))->(l.map (·.2)).map f=l:=λl h=>by rw[qD];show(map_congr_left λp G=>Y p (h p G)).trans (map_id _)
  let:=q.map f;rwa[z ps G,z xs L]at this
def MR(hu:A.units<cLine)(I:Inv X zC Z H s)(e:H a=some (.set vs))(hz:vs.length<=150)(g:sG H vs y b)(Y:zt y u)
  (h:∀s' r,Inv X zC Z (if b then H else upd H a (.set (vs++[y]))) s'->Q r s'):wpAny (model X.prog X.w) A (setAdd a u) Q E s:=by
 rcases g with⟨ks,k,F,rfl,J⟩|⟨ps,k,c,F,hp,rfl,hc,J⟩
 .obtain⟨xs,v,S⟩:=OB I e F;let hl:xs.length<=150:=by let:=v.length_eq;rw[qo]at this;rw[F,qo]at hz;lia
  show ST.setAddV (Ek Y) (IC Y) S hl (λB r=>h _ r ?_) λB h' ys O M L r=>h _ r ?_
  .rw[qY (J.mpr (v.mem_iff.mpr B))];show I.kept λ_ _ z=>z
  .rw[qZ λz=>B (v.mem_iff.mp (J.mp z))];show Hh I (by rw[e];show True.intro) O (let⟨o,_,_,_,ho,_⟩:=L;#[o,ho]) #[by rw[qq];show Nat.add_le_add_right hz 1,.inr (.inl #[by simp,ys,?_,L])];rw[F];let p1:=M.map (λp:aK×Value=>kV p.1);show(qM.trans ?_).trans p1.symm;show List.Perm.cons _ ?_;let:=v.map kV;rw[qD]at this;show this
 .cases(show u=Value.ref c from Y);let#[xs,v,S]:=Pm I e F hp;let hl:xs.length<=150:=by let:=v.length_eq;rw[F,qo]at hz;lia
  show ST.setAddT hu (Em I.hok hc) S hl (λB tk r _=>h _ r ?_) λB h' ys tk r O M L _=>h _ r ?_
  .rw[qY (J.mpr ((v.map _).mem_iff.mpr B))];show I.kept λ_ _ z=>z
  .rw[qZ λz=>B ((v.map _).mem_iff.mp (J.mp z))];let G:∀d xs,H d=some (.tup xs)->upd H a (.set (vs++[V.ref c])) d=some (.tup xs):=λd xs z=>by rw[Ak (JL z e (λw=>nomatch w))];exact z
   show Hh I (by rw[e];show True.intro) O (let⟨o,_,_,_,ho,_⟩:=L;#[o,ho]) #[by rw[qq];show Nat.add_le_add_right hz 1,.inr (.inr #[by simp,ys,?_,λp h1=>?_,L.raw])]
   .rw[F];let p1:=M.map (λp:List aK×Addr=>V.ref p.2);show(qM.trans ?_).trans p1.symm;show List.Perm.cons _ (v.map _)
   .rcases qA.mp (M.mem_iff.mp h1)with rfl|z
    .show G _ _ hc
    .show G _ _ (hp p (v.mem_iff.mpr z))
section
variable{K:W.Frag}
def tK(p:List aK×Addr):D:=.tup (p.1.map aG)
theorem zb8{a b:List aK}:D.tup (a.map aG)=D.tup (b.map aG)↔a=b:=#[λh=>by injection h with h;show Gg h,λh=>by rw[h]]
def Ld(r:aN K F x d)(h:bF true d=true):∃p:List aK×Addr,x=.ref p.2/\d=tK p/\F p.2=some (.tup (p.1.map kV)):=by
 cases r with
 |tup e r=>let#[ks,rfl,rfl]:=ES r h;show#[(ks,_),rfl,rfl,e]
 |_=>cases h
def IS(r:zA K F xs l):l.all (bF true)=true->∃ps:List (List aK×Addr),xs=ps.map (λp=>V.ref p.2)/\l=ps.map tK/\∀p∈ps,F p.2=some (.tup (p.1.map kV)):=
 zA.ind (P:=λxs l=>l.all (bF true)=true->∃ps:List (List aK×Addr),xs=ps.map (λp=>V.ref p.2)/\l=ps.map tK/\∀p∈ps,F p.2=some (.tup (p.1.map kV))) (λ_=>#[[],rfl,rfl,λ_ z=>nomatch z]) (λa _ v h=>by
  rw[all_cons,and_eq_true]at h;let#[p,rfl,rfl,e]:=Ld a h.1;let#[ps,rfl,rfl,es]:=v h.2;show#[p::ps,rfl,rfl,λq B=>?_];rcases qA.mp B with rfl|z
  .show e
  .show es q z) r
def Lr(h:slot U n=some s):U.set n (some s)=U:=by
 let h':=Jl h;apply ext_getElem?;intro j;by_cases v:n=j
 .subst v;rw[getElem?_set_self (qg.mp h').1,h']
 .rw[getElem?_set_ne v]
def Ot(O:zn F H)(r:zA K F vs l)(Y:aN K F v d)(J:bG (d::l)=true):∃b,sG H vs v b/\bX l d=if b then l else l++[d]:=by
 unfold bG at J;rw[or_eq_true,all_cons,all_cons,and_eq_true,and_eq_true]at J;let B:∀p:Prop,(d∈l↔p)->∃b,(b=true↔p)/\bX l d=if b then l else l++[d]:=λp h=>by
  unfold bX;by_cases q:p
  .simp_all
  simp_all
 rcases J with⟨h1,h2⟩|⟨h1,h2⟩
 .obtain⟨k,rfl,rfl⟩:=FZ Y h1;let#[ks,rfl,rfl]:=ES r h2;let#[b,L,e]:=B (k∈ks) (by rw[qJ];show#[λ⟨j,G,z⟩=>Ep z▸G,λz=>#[k,z,rfl]])
  show#[b,.inl #[ks,k,rfl,rfl,L],e]
 .obtain⟨p,rfl,rfl,ep⟩:=Ld Y h1;let#[ps,rfl,rfl,M]:=IS r h2;let#[b,L,e]:=B (p.1∈ps.map (·.1)) (by rw[qJ,qJ];show#[λ⟨j,G,z⟩=>#[j,G,zb8.mp z],λ⟨j,G,z⟩=>#[j,G,zb8.mpr z]])
  show#[b,.inr #[ps,p.1,p.2,rfl,λq hq=>O _ _ (M q hq),rfl,O _ _ ep,L],e]
def Rel.sadd{D:Addr}(r:Rel K (U++[some s]) (Z++[some v]) F G H)(hs:slot U n=some (.set l))(J:Z[n]?=some (some (.ref D)))(M:bG (s.toD::l)=true):
  ∃vs b,H D=some (.set vs)/\vs.length=l.length/\sG H vs v b/\Rel K (U.set n (some (.set (bX l s.toD)))) Z F G (if b then H else upd H D (.set (vs++[v]))):=by
 let hl:=Ae r;let rd:=r.drop hl;let#[fp,e,nd,ap]:=r.en;let#[f1,f2,rfl,a,b]:=e.cut hl;let#[v',fa,fi,fb,e1,rfl,q,up]:=a.at hs;rw[J]at e1;let e2:V.ref D=v':=↑e1
 subst e2;let sh:∃d,s=.sh d:=by
  cases s with
  |sh d=>show#[d,rfl]
  |lst l=>simp[bG,bI,bF]at M
  |dct t ks vs=>simp[bG,bI,bF]at M
  |set l=>simp[bG,bI,bF]at M
 let#[d,rfl]:=sh;rw[S.toD_sh]at M⊢;cases q with
 |st hD rl=>
  rename_i xs;cases b with
  |so sr nl=>
   cases nl;cases sr with
   |sh rv=>
    let#[b,sa,ea]:=Ot r.fr rl rv M;show#[xs,b,hD,rl.len,sa,?_];rw[ea];cases b with
    |true=>simp;rw[Lr hs];show rd
    |false=>
     simp;let B:(fa++([D]++fb)).Nodup:=↑nd
     let#[na,Y,h1]:=qw.mp B;let#[nD,nb]:=qK.mp Y;let h2:D∉fa:=λz=>h1 D z D qm rfl;let O:=ap D (by simp);let new:aH K F (upd H D (.set (xs++[v]))) (.ref D) (.set (l++[d])) [D]:=.st Bx (rl.append (.cons rv .nil));let a2:=up (F':=F) (H':=upd H D (.set (xs++[v]))) (o:=some (.set (l++[d]))) (u:=some (.ref D)) (zn.refl F) (λx L=>Ak λz=>(qx.mp L).elim (λw=>h2 (z▸w)) λw=>nD (z▸w)) (.so new .nil);rw[GB J]at a2;show#[zn.updR r.fr O.1,λx o w=>?_,_,a2,B,λx L=>ap x ↑L];let L:x≠D:=λz=>by rw[z,O.2]at w;cases w
     rw[Ak L];show r.gr x o w
end
section
variable{D:Addr}
def Ro(J:X.xe=λ_ _=>False)(hu:X.A.units+1<cLine)(h:FE X h4 we):jD X (eval h4 X.env>>=λv=>standAt p>>=λ_=>call (.builtin "set.add") [.ref D,v]>>=λ_=>pure ()) (nT X n D (lN n we)):=by
 intro zC s Z H Q I q;let#[F,G,U,P,h1,h2,hw,h3]:=q;let hp:PassesOwn (model X.prog X.w) X.A X.env X.xe:=by rw[J];show PassesOwn.never
 let Y:∀e s',X.xe e s'->False:=λe s' z=>by rw[J]at z;show z
 have he:=h X.pn X.xe hp zC s Z H (λv H1=>∃L U1 t l,zn F L/\Rel X.K (U1++[some t]) (Z++[some v]) L G H1/\slot U1 n=some (.set l)/\bG (t.toD::l)=true/\l.length<=150/\P (U1.set n (some (.set (bX l t.toD))))) I
  #[F,G,U,_,NX,h1,hw,λr U1 v L H1 B s1 M rv=>?_,HM]
 .show qa (zg he (λu s1 zq=>?_) λe s' z=>Y e s' z);let#[v,H1,I1,rv,L,U1,t,l,sm,M,hs,B,hz,hP]:=zq;let#[vs,b,hD,h5,sa,r2]:=Rel.sadd M hs h2 B;show qa (wpAny_standAt (qa (ST.call_add_of (GG I1 hD) (MR hu I1 hD ∅ sa rv λs' _ I'=>?_))));show qb #[Z,_,I',h3 _ Z L _ hP KP.refl sm r2]
 .obtain⟨⟨t,O⟩,eg,B⟩:=Av B;let#[F2,s2,l2,r2]:=AF (U':=[]) (Z':=[]) M (Ae M) rv eg;split at B
  .rename_i l e;show#[F2,O,t,l,s1.trans s2,r2,e,B.1,B.2.1,B.2.2]
  .show B.elim
end
section
variable{X:Cx}
def Pd(H:Hp)(h:Heap)(_:sysModules<h.objs.size):zB X.prog X.w H (h.push (ST.freshSet (ST.ldOf X.w))) h.objs.size (.set []):=#[zero_le _,.inl #[rfl,qd _ rfl]]
def Nz(F H:Hp)(p:Addr)(e:H p=some (.set [])):aH X.K F H (.ref p) (.set []) [p]:=.st e .nil
set_option maxHeartbeats 4000000 in
def NT(hn:X.N.length=n)(hu:X.A.units+1<cLine)(hm:X.A.mark none=X.A)(hc:X.calm=true)(Sc:bR X.env.scope scope X.N vars)(hk:vars.length=k)(hi:FI X tg iter wi)
  (hg:∀s H ex,FG (aF X scope vars s H ex) (List.range (n+1)) tg g)(ht:∀s H ex,gE (aF X scope vars s H ex) B (gT (aF X scope vars s H ex) wc))
  (uJ:∀s H ex,FI (aF X scope vars s H ex) v iter2 L)(h3:∀s H ex,FG (aF X scope vars s H ex) (List.range (n+1)) v g2)(Y:∀s H ex,gE (aF X scope vars s H ex) ifs2 (gT (aF X scope vars s H ex) M))
  (he:∀s H ex,FE (aF X scope vars s H ex) J we)
  (hs:∀x,foldedSetIterable iter X.env x=pure x:=by intro _;rfl)(h1:∀env x,foldedSetIterable iter2 env x=pure x:=by intro _ _;rfl):FE X (.SetComp J [#[tg,iter,B,0],#[v,iter2,ifs2,0]] scope pos) (wU (.set []) n k wi g wc (nM L g2 M (lN n we))):=by
 subst hn;intro pn xe hp zC s Z H Q I q;let#[F,G,U,P,PX,O,hw,h2,hx]:=q;show Ih (ty:="set") (dat:=.set #[] 0 (.fresh 0 0 (ST.ldOf X.w))) (λA E s Q h=>ST.newSet_ok h) (s0:=.set []) (o0:=.set []) Pd Nz rfl hs Sc hk hi (λs H ex D=>?_) (λ_ _ _=>rfl) (λ_ _ _=>rfl) (λ_ _ _=>rfl) (λ_ _ _=>#[_,rfl]) hp I O hw hx (KD h2);let z:gO (aF X scope vars s H ex) (.SetComp J [#[tg,iter,B,0],#[v,iter2,ifs2,0]] scope pos) 1 (.ref D) v _:=
  Hq (X:=aF X scope vars s H ex) hc rfl (h3 s H ex [] (λ_ _=>False) PassesOwn.never) (Y s H ex) (λ_=>(Ro (X:=aF X scope vars s H ex) (n:=X.N.length) rfl hu (he s H ex)).f) (λ_=>rfl) (λ_=>rfl) (λ_=>rfl) (λ_=>rfl)
 show Hq (X:=aF X scope vars s H ex) hc rfl (hg s H ex [] (λ_ _=>False) PassesOwn.never) (ht s H ex) (λ_=>RG (X:=aF X scope vars s H ex) rfl (uJ s H ex) z (h1 _) hm (λ_=>rfl) (λ_=>rfl) (λ_=>rfl) (λ_=>#[_,rfl])) (λ_=>rfl) (λ_=>rfl) (λ_=>rfl) (λ_=>rfl)
end
def kf(p:List aK×Addr):List aK:=p.1
section
variable(X:Cx)(s:Shared)
@[inline]def JK(ks:List aK)(i:Nat)(h:Heap):Prop:=(∀b o,s.heap.get? b=some o->h.get? b=some o)/\∃xs:List (aK×Value),(fJ id (ks.take i)).Perm (xs.map (·.1))/\ST.VSet (ST.ldOf X.w) (aE X.prog X.w) h s.heap.objs.size xs/\(i=0->h.get? s.heap.objs.size=some (ST.freshSet (ST.ldOf X.w)))
@[inline]def JT(ps:List (List aK×Addr))(i:Nat)(h:Heap):Prop:=(∀b o,s.heap.get? b=some o->h.get? b=some o)/\∃xs:List (List aK×Addr),(fJ kf (ps.take i)).Perm xs/\ST.TRaw (ST.ldOf X.w) (tupleKind (aE X.prog X.w)) h s.heap.objs.size xs/\(i=0->h.get? s.heap.objs.size=some (ST.freshSet (ST.ldOf X.w)))
def JK.stay{ks:List aK}{i:Nat}{h h':Heap}(x:JK X s ks i h)(v:∀b o,b≠s.heap.objs.size+1->h.get? b=some o->h'.get? b=some o):JK X s ks i h':=by let#[k,xs,p,#[o,es,ep,t,G,r],z]:=x;let B:s.heap.objs.size≠s.heap.objs.size+1:=ne_of_lt (lt_succ_self _);show#[λb o e=>v b o (ne_of_lt (lt_succ_of_lt (ST.lt_of_get e))) (k b o e),xs,p,#[o,es,ep,t,v _ _ B G,r],λF=>v _ _ B (z F)]
def JT.stay{ps:List (List aK×Addr)}{i:Nat}{h h':Heap}(x:JT X s ps i h)(v:∀b o,b≠s.heap.objs.size+1->h.get? b=some o->h'.get? b=some o):JT X s ps i h':=by let#[k,xs,p,#[o,es,ep,t,G,r],z]:=x;let B:s.heap.objs.size≠s.heap.objs.size+1:=ne_of_lt (lt_succ_self _);show#[λb o e=>v b o (ne_of_lt (lt_succ_of_lt (ST.lt_of_get e))) (k b o e),xs,p,#[o,es,ep,t,v _ _ B G,r],λF=>v _ _ B (z F)]
end
def Hf:bootBuiltins "set"=some (.type "set"):=by decide+kernel
def Sv:isSubtype (.type "tuple") (.type "set")=pure false:=by rw[isSubtype_type];kernel_rfl
def Td:isSubtype (.type "tuple") (.type "frozenset")=pure false:=by rw[isSubtype_type];kernel_rfl
theorem Rj(hh:A.handled=none)(hu:A.units+20<cLine)(I:Inv X zC Z H s)(hT:s.TypeIs x T)(h3:isSubtype (.type T) (.type "set")=pure false)(h2:isSubtype (.type T) (.type "frozenset")=pure false)(h4:(Value.type T==Value.type "dict")=false)
  (W:ST.WalkOk X.prog X.w s x F.toArray.size (λi v=>F.toArray[i]?=some v))(rv:zz (ks.map kV) F)(hz:ks.length<=150)
  (h:∀s',Inv X zC Z (upd H s.heap.objs.size (.set ((fJ id ks).map kV))) s'->Q (.ref s.heap.objs.size) s'):wpAny (model X.prog X.w) A (call (.type "set") [x]) Q E s:=by
 let hl:F.toArray.size=ks.length:=by rw[qr,<-rv.length,qo]
 refine ST.call_set (B:=A.units+20) (J:=JK X s ks) hh hT h3 h2 h4 W (λh e k=>#[k,[],.refl _,ST.vset_new e,λ_=>e]) (λi h h' hi x hk=>JK.stay X s x hk)
  (λA i v s' Q E hi hP⟨O,xs,p,S,z⟩ hQ hA=>?_) (q5 _) λh' tk⟨O,xs,p,S,z⟩ _ ht=>h _ ?_
 .rw[hl]at hi;let#[u,h6,ru]:=rv.get (i:=i) (x:=kV ks[i]) (by rw[qE,qh hi];rfl);let hv:v=u:=by grind
  subst hv;let h5:xs.length<=150:=by let h1:=p.length_eq;grind[Fi,length_map,fJ,aW,length_take,length_nil]
  let Y:∀{h':Heap},Heap.SameBut s.heap.objs.size s'.heap h'->∀b o,s.heap.get? b=some o->h'.get? b=some o:=λM b o e=>(M.2 b (ne_of_lt (ST.lt_of_get e))).trans (O b o e);let L:=IY (id:aK->aK) hi;show ST.setAddV (Ek ru) (IC ru) S h5 (λhm r=>hQ s'.heap _ r (le_succ _) (Heap.SameBut.refl _ _) #[O,xs,?_,S,λz=>nomatch z]) λhm h' ys M pm S' r=>hQ h' _ r (le_succ _) M #[Y M,ys,?_,S',λz=>nomatch z]
  .rw[L];unfold aW;grind
  .rw[L];unfold aW;rw[map_id,qZ (show¬id ks[i]∈fJ id (ks.take i) from λz=>hm (p.mem_iff.mp z))];show(qM.trans (List.Perm.cons _ p)).trans (pm.map (·.1)).symm
 .rw[hl,take_length]at p;refine I.laid (t':=tk) O (q5 _) #[?_,?_]
  .grind[length_map,Fi,fJ,aW,length_nil]
  .cases ks with
   |nil=>show .inl #[rfl,z hl]
   |cons y ks=>
    show .inr (.inl #[λe=>?_,xs,?_,S])
    .have h1:∀(l G:List aK),G≠[]->l.foldl (aW id) G≠[]:=λl=>by
      induction l with
      |nil=>show λ_ h=>h
      |cons i l ih=>
       show λG h=>ih _ ?_;unfold aW;split
       .show h
       .simp
     show h1 ks (aW id [] y) (by unfold aW;simp) (map_eq_nil_iff.mp e)
    .let:=p.map kV;rw[qD]at this;show this
theorem Rb(hh:A.handled=none)(hu:A.units+20<cLine)(I:Inv X zC Z H s)(hT:s.TypeIs x T)(h9:isSubtype (.type T) (.type "set")=pure false)(h8:isSubtype (.type T) (.type "frozenset")=pure false)(e1:(Value.type T==Value.type "dict")=false)
  (W:ST.WalkOk X.prog X.w s x F.toArray.size (λi v=>F.toArray[i]?=some v))(rv:zz (ps.map λp=>V.ref p.2) F)(hp:∀p∈ps,H p.2=some (.tup (p.1.map kV)))(hz:ps.length<=150)
  (h:∀s',Inv X zC Z (upd H s.heap.objs.size (.set ((fJ kf ps).map λp=>V.ref p.2))) s'->Q (.ref s.heap.objs.size) s'):wpAny (model X.prog X.w) A (call (.type "set") [x]) Q E s:=by
 let hl:F.toArray.size=ps.length:=by rw[qr,<-rv.length,qo]
 let M:∀{h:Heap},(∀b o,s.heap.get? b=some o->h.get? b=some o)->∀p∈ps,IsTupleKey (aE X.prog X.w) h p.1 p.2:=λk p O=>by let#[o,F,n,h1,r]:=Em I.hok (hp p O);show#[o,F,n,k _ _ h1,r]
 have h6:∀{h:Heap}{i:Nat}{xs:List (List aK×Addr)},(∀b o,s.heap.get? b=some o->h.get? b=some o)->(fJ kf (ps.take i)).Perm xs->∀p∈xs,IsTupleKey (aE X.prog X.w) h p.1 p.2:=λk pm p O=>by
  rcases Gc kf (pm.mem_iff.mpr O)with z|z
  .cases z
  .show M k p (List.mem_of_mem_take z)
 refine ST.call_set (B:=A.units+20) (J:=JT X s ps) hh hT h9 h8 e1 W (λh e k=>#[k,[],.refl _,(ST.tset_new e).raw,λ_=>e]) (λi h h' hi x hk=>JT.stay X s x hk)
  (λA i v s' Q E hi hP⟨L,xs,p,S,z⟩ hQ hA=>?_) (q5 _) λh' tk⟨L,xs,p,S,z⟩ _ ht=>h _ ?_
 .rw[hl]at hi;let#[u,h7,ru]:=rv.get (i:=i) (x:=V.ref ps[i].2) (by rw[qE,qh hi];rfl);let hv:v=u:=by rw[getElem?_toArray,h7]at hP;exact(qf hP).symm
  subst hv;cases(show v=Value.ref ps[i].2 from ru);let e2:xs.length<=150:=by let h1:=p.length_eq;let h2:=Fi kf (ps.take i) [];let h3:(fJ kf (ps.take i)).length=((ps.take i).foldl (aW kf) []).length:=rfl;rw[qG,qv]at h2;lia
  let h5:∀{h':Heap},Heap.SameBut s.heap.objs.size s'.heap h'->∀b o,s.heap.get? b=some o->h'.get? b=some o:=λsb b o e=>(sb.2 b (ne_of_lt (ST.lt_of_get e))).trans (L b o e);let h4:=IY kf hi;show ST.setAddT ∅ (M L ps[i] (getElem_mem hi)) (S.full (h6 L p)) e2 (λhm tk r ht=>hQ s'.heap _ r ht (Heap.SameBut.refl _ _) #[L,xs,?_,S,λz=>nomatch z]) λhm h' ys tk r sb pm S' ht=>hQ h' _ r ht sb #[h5 sb,ys,?_,S'.raw,λz=>nomatch z]
  .rw[h4];unfold aW;rw[qY (show kf ps[i]∈_ from(p.map kf).mem_iff.mpr hm)];show p
  .rw[h4];unfold aW;rw[qZ (show¬kf ps[i]∈_ from λz=>hm ((p.map kf).mem_iff.mp z))];show(qM.trans (List.Perm.cons _ p)).trans pm.symm
 .rw[hl,take_length]at p;let Y:∀d xs,H d=some (HO.tup xs)->upd H s.heap.objs.size (.set ((fJ kf ps).map λp=>V.ref p.2)) d=some (.tup xs):=λd xs z=>by rw[Ak (DE z I.fresh)];exact z
  show I.laid (t':=tk) L (q5 _) #[?_,?_]
  .rw[qo];let:=Fi kf ps [];let h3:(fJ kf ps).length=(ps.foldl (aW kf) []).length:=rfl;rw[qv]at this;lia
  .cases ps with
   |nil=>show .inl #[rfl,z hl]
   |cons y ps=>
    show .inr (.inr #[λe=>?_,xs,p.map _,λq O=>?_,S])
    .have h1:∀(l G:List (List aK×Addr)),G≠[]->l.foldl (aW kf) G≠[]:=λl=>by
      induction l with
      |nil=>show λ_ h=>h
      |cons i l ih=>
       show λG h=>ih _ ?_;unfold aW;split
       .show h
       .simp
     show h1 ps (aW kf [] y) (by unfold aW;simp) (map_eq_nil_iff.mp e)
    .rcases Gc kf (p.mem_iff.mpr O)with z|z
     .cases z
     .show Y _ _ (hp q z)
def pU(K:W.Frag):List V->Hp->VK->Prop:=λxs H Q=>∃a vs,xs=[.ref a]/\(bK K H a vs\/bJ K H a vs)/\vs.length<=150/\
 ((∃ks:List aK,vs=ks.map kV/\∀p,H p=none->Q (.ref p) (upd H p (.set ((fJ id ks).map kV))))\/
  ∃ps:List (List aK×Addr),vs=ps.map (λp=>V.ref p.2)/\(∀p∈ps,H p.2=some (.tup (p.1.map kV)))/\∀p,H p=none->Q (.ref p) (upd H p (.set ((fJ kf ps).map λp=>V.ref p.2))))
def Sj(J:bE k X.A):aS X (.type "set") (pU X.K):=by
 intro zC s Z H xs us Q I r h;let#[a,vs,rfl,G,O,h]:=h;let Y:X.A.units+20<cLine:=by let:=J.units;lia
 cases r with
 |cons r1 r2=>
  cases r2;cases r1;let go:∀{T:String}{z:List Value},s.TypeIs (.ref a) T->isSubtype (.type T) (.type "set")=pure false->isSubtype (.type T) (.type "frozenset")=pure false->(Value.type T==Value.type "dict")=false->ST.WalkOk X.prog X.w s (.ref a) z.toArray.size (λi v=>z.toArray[i]?=some v)->zz vs z->
    wpAny (model X.prog X.w) X.A (call (.type "set") [.ref a]) (EP X zC Z Q) X.xe s:=λ{T z} hT h1 h2 h3 W B=>by
   rcases h with⟨ks,rfl,q⟩|⟨ps,rfl,hp,q⟩
   .show Rj J.hd Y I hT h1 h2 h3 W B ↑O λs' L=>#[.ref _,_,L,rfl,q _ I.fresh]
   .show Rb J.hd Y I hT h1 h2 h3 W B hp ↑O λs' L=>#[.ref _,_,L,rfl,q _ I.fresh]
  rcases G with G|G
  .obtain⟨z,B,M,_⟩:=I.list G;show go M.isList.typeIs F.sub_list_set F.sub_list_frozenset ⋯ (ST.walk_list M.isList) B
  .obtain⟨z,B,⟨o,e,c,n,d⟩,_⟩:=I.tuple G;let ht:s.heap.IsTuple a z.toArray:=#[o,e,c,n,d]
   show go #[o,e,c] Sv Td ⋯ (ST.walk_tuple ht) B
section
variable{K:W.Frag}
def zA.of_all{ι:Type}{v:ι->V}{z:ι->D}:∀{l:List ι},(∀i∈l,aN K F (v i) (z i))->zA K F (l.map v) (l.map z)
 |[],_=>.nil
 |i::l,h=>.cons (h i qm) (zA.of_all λj B=>h j (qk _ B))
def zA.to_all{ι:Type}{v:ι->V}{B:ι->D}:∀{l:List ι},zA K F (l.map v) (l.map B)->∀i∈l,aN K F (v i) (B i)
 |[],_,_,h=>nomatch h
 |j::l,.cons a b,i,h=>by
  rcases qA.mp h with rfl|z
  .show a
  .show zA.to_all b i z
def Rel.newS{p:Addr}(v:Rel K U Z F G H)(z:H p=none)(r:zA K F vs l):Rel K (U++[some (.set l)]) (Z++[some (.ref p)]) F G (upd H p (.set vs)):=v.newO z (.st Bx r)
def Qz:cB K (pU K) iD:=by
 intro Z U F G H vs ds s Q B Y e O;let#[d,v,rfl,rfl]:=Bv (λx y r=>by cases x<;>rfl) rfl Y e;let J:∀{a:Addr}{xs:List V}{l:List D},(bK K H a xs\/bJ K H a xs)->zA K F xs l->newS l=some s->pU K [.ref a] H Q:=λ{a xs l} h2 r e=>by
  unfold newS at e;split at e
  .rename_i hc;cases e;show#[a,xs,rfl,h2,by rw[r.len];show hc.2,?_];let L:=hc.1;unfold bG at L;rw[or_eq_true]at L;rcases L with L|L
   .obtain⟨ks,rfl,rfl⟩:=ES r L;show .inl #[ks,rfl,λp M=>?_];rw[Ii id (f:=aG) λi j=>#[Ep,λz=>by rw[show i=j from z]]]at O;show O _ F _ (zn.refl F) (B.newS M (zA.of_all λi hi=>zA.to_all r i ?_));rcases Gc id hi with z|z
    .cases z
    .show z
   .obtain⟨ps,rfl,rfl,hf⟩:=IS r L;show .inr #[ps,rfl,λp M=>B.fr _ _ (hf p M),λp M=>?_];rw[Ii kf (f:=tK) λi j=>zb8]at O;show O _ F _ (zn.refl F) (B.newS M (zA.of_all λi hi=>zA.to_all r i ?_));rcases Gc kf hi with z|z
    .cases z
    .show z
  .cases e
 cases d with
 |lst l=>let#[a,xs,rfl,h1,r1]:=Y.1.lst B.fr;show J (.inl h1) r1 e
 |tup l=>let#[a,xs,rfl,h1,r1]:=Y.1.tup;show J (.inr (bJ.of (B.fr _ _ h1))) r1 e
 |_=>cases e
def Ip(F:bE k X.A)(J:Gl X "set")(G:X.mg "set"=none)(B:bootBuiltins "set"=some (.type "set"))(M:FA X (e::es) z)(L:autoParam (starEach (e::es) X.env=(false,eval e X.env)::starEach es X.env) rZ9)(v:autoParam ((backTo pos (starEach es X.env)).any (·.1)=false) rZ9):FE X (.Call (.Name "set" p) (e::es) [] pos) (wB iD z):=
 Gi (λpn xe=>Sj (X:=wp X pn xe) F) Qz J G B M ⋯ ⋯ L v
def nY(K:W.Frag):List V->Hp->VK->Prop:=λxs H Q=>(∃a vs,xs=[.ref a]/\H a=some (.set vs)/\Q (.int vs.length) H)\/pX K xs H Q
def Se:aS X (.builtin "len") (nY X.K):=λzC s Z H xs G Q I r h=>by
 rcases h with⟨a,F,rfl,e,q⟩|h
 .cases r with
  |cons L J=>
   cases J;cases L;let v:∀n:Nat,n=F.length->∀t,EP X zC Z Q (.int n t) {s with toks:=s.toks+1+1}:=λn M t=>#[.int n,H,I.kept λ_ _ z=>z,#[t,rfl],by rw[M];show q]
   rcases I.hok a _ e with⟨Y,⟨O,h1⟩|⟨_,xs,p,S⟩|⟨_,xs,p,_,S⟩⟩
   .show ST.VSet.len (K:=aK) (knd:=aE X.prog X.w) (ST.vset_new h1) (zero_le _) (v 0 (by rw[O];rfl) _)
   .let B:=p.length_eq;rw[qo]at B;show ST.VSet.len S ∅ (v _ B.symm _)
   .let B:=p.length_eq;rw[qo]at B;show ST.TRaw.len S ∅ (v _ B.symm _)
 .show LP zC s Z H xs G Q I r h
def aX.set(r:aX K F H v (.set l)):∃a xs,v=.ref a/\F a=some (.set xs)/\zA K F xs l:=by
 rcases r with r|⟨_,_,_,_,e,_⟩|⟨_,_,_,_,_,e,_⟩|⟨_,_,_,_,_,e,_⟩
 .cases r with
  |st e r=>show#[_,_,rfl,e,r]
 .cases e
 .cases e
 .cases e
def RN:cB K (nY K) gM:=by
 intro Z U F G H M O s Q z B e J;let#[d,v,rfl,rfl]:=Bv (λx y r=>by cases x<;>rfl) rfl B e;cases d with
 |set l=>cases e;let#[a,xs,rfl,h1,L]:=aX.set B.1;show .inl #[a,xs,rfl,z.fr _ _ h1,by rw[L.len];show J _ F H (zn.refl F) (z.push (.int _))]
 |_=>show .inr (Lu Z U F G H [v] _ s Q z B e J)
def Pv(F:Gl X "len")(B:X.mg "len"=none)(J:FA X (e::es) z)(G:autoParam (starEach (e::es) X.env=(false,eval e X.env)::starEach es X.env) rZ9)(v:autoParam ((backTo pos (starEach es X.env)).any (·.1)=false) rZ9):FE X (.Call (.Name "len" p) (e::es) [] pos) (wB gM z):=
 IV (λ_ _=>Se) RN F B PySem.boot_len J ⋯ ⋯ G v
end
def IF:∀l:List Nat,(∀x∈l,p x=true->q x=true)->l.countP p<=l.countP q
 |[],_=>q5 _
 |a::l,h=>by
  rw[countP_cons,countP_cons];let:=IF l λx v=>h x (qk _ v);cases e:p a with
  |true=>rw[h a qm e];lia
  |false=>simp;lia
def Lg:∀l:List Nat,(∀x∈l,p x=true->q x=true)->(∃x,x∈l/\q x=true/\p x=false)->l.countP p<l.countP q
 |[],_,z=>by let#[_,z,_]:=z;cases z
 |a::l,h,z=>by
  rw[countP_cons,countP_cons];let#[x,v,B,F]:=z;by_cases e:x=a
  .subst e;let:=IF l λx v=>h x (qk _ v);rw[B];lia
  .let:=Lg l (λx v=>h x (qk _ v)) #[x,(qA.mp v).resolve_left e,B,F];cases e:p a with
   |true=>rw[h a qm e];lia
   |false=>simp;lia
def tH(l:List D)(i:Nat):Int:=((List.range l.length).countP λj=>!dG (l.getD i .non) (l.getD j .non):Nat)
def Oe(o:eJ P)(O:∀d∈l,P d)(hi:i<l.length)(M:j<l.length):decide (tH l i<tH l j)=!dG (l.getD j .non) (l.getD i .non):=by
 let v:∀k,k<l.length->P (l.getD k .non):=λk G=>by grind
 let B:=v i hi;let L:=v j M;unfold tH;cases e:dG (l.getD j .non) (l.getD i .non)with
 |false=>
  show qP (Int.ofNat_lt.mpr (Lg _ (λk G h=>?_) #[i,qI.mpr hi,by rw[e];rfl,?_]))
  .have J:=v k (qI.mp G);cases q:dG (l.getD j .non) (l.getD k .non)with
   |false=>rfl
   |true=>
    let F:dG (l.getD i .non) (l.getD k .non)=false:=↑h
    rcases o.tot _ _ B L with z|z
    .rw[o.tr _ _ _ B L J z q]at F;cases F
    .rw[z]at e;cases e
  .rcases o.tot _ _ B B with z|z<;>rw[z]<;>rfl
 |true=>
  refine qQ λh=>?_;let:=IF (p:=λk=>!dG (l.getD j .non) (l.getD k .non)) (q:=λk=>!dG (l.getD i .non) (l.getD k .non)) (List.range l.length) λk G h=>by
   let J:=v k (qI.mp G);cases q:dG (l.getD i .non) (l.getD k .non)with
   |false=>rfl
   |true=>rw[o.tr _ _ _ L B J e q]at h;cases h
  lia
section
open PySem.W HT
theorem Tn{ks F:List aK}(i:Nat)(r:zz (ks.map kV) M)(L:zz (F.map kV) vs)(h:dN sh (ks.map aG))(h':dN sh (F.map aG))(B:Q (aQ (ks.map aG) (F.map aG)==.lt) s):KatLex prog w A b (decide (ks.length<F.length)) Q (M.zip vs) i s:=by
 induction ks generalizing M vs F i sh with
 |nil=>
  let e:F=[]:=by simpa using Fh h h'
  subst e;cases r;show kat_nil B
 |cons k ks Y=>cases F with
  |nil=>have e:=Fh (m:=(k::ks).map aG) h' h;cases e
  |cons j F=>
   rw[qy,qy]at B;let#[kd,h3,h1,h2]:=HB h h';let e:decide ((k::ks).length<(j::F).length)=decide (ks.length<F.length):=decide_eq_decide.2 Nat.succ_lt_succ_iff;rw[e];cases r with
   |@cons _ u _ M O r=>
    cases L with
    |@cons _ v _ vs J L=>
     cases k with
     |inl n=>
      let#[t,rfl]:=O;cases j with
      |inr y=>rcases kd with⟨_,_,_,z⟩|⟨_,_,z,_⟩<;>cases z
      |inl m=>
       let#[t',rfl]:=J;show kat_cons (wpAny_eqBool_int ?_);let B:Q ((match bQ (D.int n) (D.int m)with|.eq=>aQ (ks.map aG) (F.map aG)|o=>o)==.lt) s:=B;rw[Im]at B;by_cases nm:n=m
       .subst nm;rw[qZ (Int.lt_irrefl n),qZ (Int.lt_irrefl n)]at B;rw[show(n==n)=true by simp];show kat_yes (Y (i+1) r L h1 h2 B)
       .rw[show(n==m)=false by simp[nm]];let G:Q (decide (n<m)) s:=by
         by_cases z:n<m
         .rw[qY z]at B;rw[qP z];show B
         .rw[qZ z,qY ∅]at B;rw[qQ z];show B
        show kat_no ?_;cases(b&&i==0)with
        |true=>show oneLt_int G
        |false=>show kat_one _ _ (PyProof.Rows.lt_int G)
     |inr x=>
      let#[t,rfl]:=O;cases j with
      |inl y=>rcases kd with⟨_,_,z,_⟩|⟨_,_,_,z⟩<;>cases z
      |inr y=>
       let#[t',rfl]:=J;show kat_cons (wpAny_eqBool_str ?_);let B:Q ((match bQ (D.str x.cps.toList) (D.str y.cps.toList)with|.eq=>aQ (ks.map aG) (F.map aG)|o=>o)==.lt) s:=B;rw[Hi]at B;by_cases nm:x=y
       .subst nm;rw[qZ (List.lt_irrefl _),qZ (List.lt_irrefl _)]at B;rw[qP rfl];show kat_yes (Y (i+1) r L h1 h2 B)
       .rw[qQ nm];let G:Q (decide (x.cps.toList<y.cps.toList)) s:=by
         rcases Ra x.cps.toList y.cps.toList with z|z|z
         .rw[qY z]at B;rw[qP z];show B
         .rw[qZ (lt_asymm z),qY z]at B;rw[qQ (lt_asymm z)];show B
         .show absurd (Ep (a:=.inr x) (b:=.inr y) (by show D.str _=D.str _;rw[z])) (λe=>nm (by cases e;rfl))
        show kat_no ?_;cases(b&&i==0)with
        |true=>show oneLt_str G
        |false=>show kat_one _ _ (PyProof.Rows.lt_str G)
def jI(h:Heap)(b:Addr)(ks:List aK):Prop:=∃v,zz (ks.map kV) v/\IsTup h b v.toArray
def Cp:∀{ps:List (List aK×Addr)},(∀p∈ps,jI h p.2 p.1/\dN (t::sh) (p.1.map aG))->∃fs:List Value,KatTups h (ps.map λp=>Value.ref p.2) fs/\fs.length=ps.length/\∀v∈fs,if t then∃z u,v=Value.str z u else∃z u,v=Value.int z u
 |[],_=>#[[],.nil,rfl,λ_ z=>nomatch z]
 |(ks,b)::ps,hp=>by
  let#[fs,M,L,J]:=Cp (ps:=ps) λp Y=>hp p (qk _ Y);let#[#[G,r,o,e,c,n,d],B]:=hp (ks,b) qm;cases ks with
  |nil=>cases t<;>show B.elim
  |cons k ks=>
   cases r with
   |@cons _ u _ G F r=>
    show#[u::fs,.cons e c d rfl M,by simp[L],λv O=>?_];rcases qA.mp O with z|z
    .subst z;cases t
     .cases k with
      |inl i=>let#[tk,rfl]:=F;show#[_,_,rfl]
      |inr x=>show B.elim
     .cases k with
      |inl i=>show B.elim
      |inr x=>let#[tk,rfl]:=F;show#[_,_,rfl]
    .show J v z
end
def Inv.laidD(I:Inv X zC Z H s)(hn:∀m,s.heap.Ns X.env.locals m->h'.Ns X.env.locals m)(k:∀b u,b≠X.env.locals->s.heap.get? b=some u->h'.get? b=some u)
  (L:s.heap.get? a=none)(new:zB X.prog X.w (upd H a o) h' a o):Inv X zC Z (upd H a o) {s with heap:=h',toks:=t',drawn:=d'}:=by
 have F:H a=none:=by
  cases e:H a with
  |none=>rfl
  |some u=>let#[v,z]:=zB.there (I.hok a u e);rw[L]at z;cases z
 refine I.step (g':=s.gens) (d':=d') (ch:=[]) (λ_ z=>nomatch z) (λb B J _ _ e _=>k b B J e) (λb B J _ _ e _=>#[B.slots,k b B J e]) (λb B _ e n=>by rw[Ak (λz=>by rw[z,L]at e;cases e)];show n)
  (λb B _ e=>?_) (λb xs q=>by rw[Ak (DE q F)];show q) (λb u xs q=>by rw[Ak (DE q F)];show q) (λb ps q=>#[#[],by rw[Ak (DE q F),q];simp]) hn (λb B e=>?_) I.bare
 .by_cases G:b=X.env.locals
  .obtain⟨m,x,_⟩:=I.loc;let#[o',_,_,O,_]:=hn m x;show#[o',by rw[G];show O]
  .show#[B,k b B G e]
 .by_cases G:b=a
  .grind[Bx]
  .rw[Ak G]at e;show(I.hok b B e).stay (λc v M q=>k c v (λz=>?_) q) (λc q=>by rw[Ak (DE q F)];show q) λc xs q=>by rw[Ak (DE q F)];exact q
   rw[z]at M;rcases M with r|r
   .rw[<-r,I.free]at e;cases e
   .rw[I.free]at r;cases r
def Pl(h:fB k v=true):zt (kV k) v:=by
 rcases Er h with⟨i,t,rfl,rfl⟩|⟨x,t,rfl,rfl⟩
 .show#[t,rfl]
 .show#[t,rfl]
def MD(r:zz xs ys)(p:B.Perm ys):∃v,v.Perm xs/\zz v B:=by
 induction p generalizing xs with
 |nil=>cases r;show#[[],.refl _,.nil]
 |cons x _ L=>
  cases r with
  |cons z r=>let#[v,p,q]:=L r;show#[_::v,.cons _ p,.cons z q]
 |swap x y l=>
  cases r with
  |cons z r=>
   cases r with
   |cons F r=>show#[_,.swap _ _ _,.cons F (.cons z r)]
 |trans _ _ J G=>grind
def uY(X:Cx)(s:Shared)(a:Addr)(vs:List V):Prop:=∃es ep t v,ST.SetAt s.heap a es ep t/\ST.Rising t.place/\t.place.size=es.size/\(X.w.params.followText "set-order"=false->t.led=true)/\v.Perm vs/\zz v (es.toList.map (·.2))/\es.size=vs.length
def JU(I:Inv X zC Z H s)(e:H a=some (.set vs)):uY X s a vs:=by
 let led:∀{t:SetTable},t.led=ST.ldOf X.w->X.w.params.followText "set-order"=false->t.led=true:=λe h=>by rw[e];unfold ST.ldOf;rw[h];rfl
 have L:∀{xs:List (aK×Value)},ST.VSet (ST.ldOf X.w) (aE X.prog X.w) s.heap a xs->vs.Perm (xs.map λp=>kV p.1)->uY X s a vs:=λ{xs} S p=>by
  let#[es,ep,t,h1,h2,J,G,v]:=S.at;let z:∀p∈xs,(aE X.prog X.w).is p.1 p.2=true/\p.2.scannable=true:=let⟨_,_,_,_,_,_,_,_,_,z,_⟩:=S;z
  have O:zz (xs.map λp=>kV p.1) (es.toList.map (·.2)):=by
   rw[v]
   clear v p S
   induction xs with
   |nil=>show .nil
   |cons x xs B=>show .cons (Pl (z x qm).1) (B λq Y=>z q (qk _ Y))
  let hl:es.size=vs.length:=by let:=congrArg List.length v;rw[qo,qo,qT]at this;rw[p.length_eq,qo,this]
  show#[es,ep,t,_,h1,h2,J,led G,p.symm,O,hl]
 rcases I.hok a _ e with⟨hz,⟨h0,h1⟩|⟨_,xs,p,S⟩|⟨_,xs,p,M,S⟩⟩
 .show L (xs:=[]) (ST.vset_new h1) (by rw[h0];show .refl _)
 .show L S p
 .obtain⟨es,ep,t,h1,h2,J,G,v⟩:=(S.full λx F=>Em I.hok (M x F)).at;refine#[es,ep,t,xs.map λp=>V.ref p.2,h1,h2,J,led G,p.symm,?_,?_]
  .rw[v]
   clear v p S M
   induction xs with
   |nil=>show .nil
   |cons x xs B=>show .cons rfl B
  .let:=congrArg List.length v;rw[qo,qo,qT]at this;rw[p.length_eq,qo,this]
def QO{α:Type}{l m:List α}(p:l.Perm m)(h:m.length<2):l=m:=by
 match m,h with
 |[],_=>show p.eq_nil
 |[a],_=>show p.eq_singleton
def Hx{ι β:Type}{f:ι->β}{v:List β}{ns:List ι}(p:v.Perm (ns.map f)):∃ms:List ι,v=ms.map f/\ms.Perm ns:=by
 induction v generalizing ns with
 |nil=>simp_all
 |cons u v F=>let#[n,G,rfl]:=qJ.mp (p.mem_iff.mp qm);let#[B,z,rfl]:=append_of_mem G;rw[map_append]at p;let#[ms,rfl,q]:=F (ns:=B++z) (by rw[map_append];show(p.trans perm_middle).cons_inv);show#[n::ms,rfl,(List.Perm.cons n q).trans perm_middle.symm]
def IA:∀{ps:List (List aK×Addr)}{v:List Value},zz (ps.map λp=>V.ref p.2) v->v=ps.map λp=>Value.ref p.2
 |[],_,.nil=>rfl
 |p::ps,_,.cons r t=>by let e:_=Value.ref p.2:=r;rw[e,IA t];rfl
def IG:∀ps:List (List aK×Addr),zz (ps.map λp=>V.ref p.2) (ps.map λp=>Value.ref p.2)
 |[]=>.nil
 |_::ps=>.cons rfl (IG ps)
section
variable{K:W.Frag}
def KO(I:Inv X zC Z H s)(k:∀b u,b≠X.env.locals->s.heap.get? b=some u->h'.get? b=some u){p:List aK×Addr}(e:H p.2=some (.tup (p.1.map kV))):jI h' p.2 p.1:=by let#[v,r,#[o,e,c,n,d],_]:=I.tuple (bJ.of e);show#[v,r,o,k p.2 o (λz=>?_) e,c,n,d];let#[m,#[o',es,ep,B,F,_],_]:=I.loc;grind
def RI(h:l.length<2):aY l=l:=by
 match l,h with
 |[],_=>rfl
 |[_],_=>rfl
def Lc:∀{sh:List Bool}{l:List D},dN sh l->l.all bI=true
 |[],[],_=>rfl
 |[],_::_,h=>h.elim
 |t::_,[],h=>by cases t<;>show h.elim
 |t::sh,a::l,h=>by cases t<;>cases a<;>first|show h.elim|show Lc (sh:=sh) (l:=l) h
end
def QU{K:Type}[DecidableEq K]{knd:KeyKind prog w K}{d:Addr}{zD:List (K×Value)}{k:K}{key v:Value}{Q:zh}(B:knd.is k key=true)(hm:s.heap.DictOf knd d zD)(L:valueAt zD k=none)(hsz:zD.length<=sizeLine)
  (hQ:∀h',h'.DictOf knd d (stored zD k v)->Heap.SameBut d s.heap h'->Q v {s with heap:=h',toks:=s.toks+1}):wpAny (model prog w) A (dictSetDefault d key v) Q E s:=by
 let#[o,es,ep,ho,hc,O,hk,Y,hn]:=hm;let h5:es.size<=sizeLine:=by let e1:=Y.length;rw[qT]at e1;lia
 let G:∀F∈zD,¬F.1=k:=λF h4 e=>by unfold valueAt at L;rw[Option.map_eq_none_iff,List.find?_eq_none]at L;show L F h4 (qP e)
 let J:¬(zD.any λF=>decide (F.1=k))=true:=λz=>by let#[F,h1,h2]:=any_eq_true.mp z;show G F h1 (qS h2)
 have M:(es.findIdx? λe=>knd.is k e.key)=none:=by
  let h1:(es.findIdx? λe=>knd.is k e.key)=zD.findIdx? λF=>decide (F.1=k):=by rw[<-Y.findIdx k];let#[l]:=es;simp
  rw[h1,List.findIdx?_eq_none_iff];show λF h=>qQ (G F h)
 refine ze (qa (knd.pyHash B (qa (wpAny_dictFind_of (s:={s with toks:=s.toks+1}) B ho O hk ?_))));rw[M];refine qa (wpAny_rule (qa (wpAny_updateDictKeys (hz:=h5) (s:={s with toks:=s.toks+1}) ho O (qb (hQ _ ⟨_,_,ep+1,q9 _ ho (Obj.isFreed_of_dict (Obj.data_mapDictKeys O _)),
  hc.mapDictKeys _,Obj.data_mapDictKeys O _,hk.push B _,?_,?_⟩ (Heap.SameBut.update ..))))))
 .rw[stored,qZ J];let:=Y.append B (knd.hash k) v;simpa using this
 .rw[stored,qZ J,map_append];exact qw.mpr ⟨hn,by simp,λa ha b hb e=>by
   let#[F,h1,h2]:=qJ.mp ha;let h3:b=k:=↑hb
   show G F h1 (h2.trans (e.trans h3))⟩
def Kt{K:Type}[DecidableEq K]{knd:HeapKind prog w K}{d a:Addr}{xs:List (K×Addr×Value)}{k:K}{v:Value}{Q:zh}(hu:knd.room A)(F:knd.is s.heap k a)(hm:s.heap.DictOfH knd d xs)(hsz:xs.length<=sizeLine)
  (h1:∀p,atKey xs k=some p->Q p.2 {s with toks:=s.toks+knd.draws k})
  (h2:atKey xs k=none->∀h',h'.DictOfH knd d (storedH xs k a v)->Heap.SameBut d s.heap h'->Q v {s with heap:=h',toks:=s.toks+knd.draws k}):wpAny (model prog w) A (dictSetDefault d (.ref a) v) Q E s:=by
 let#[o,es,ep,J,hc,G,O,M,hn]:=hm;show ze (qa (knd.pyHash hu F (qa (wpAny_dictFind_heap (s:={s with toks:=s.toks+knd.draws k}) hu F J G O M hn (λB=>?_) λj p hj=>?_))))
 .have L:k∉xs.map (·.1):=not_mem_keys_of_get B;refine qa (wpAny_rule (qa (wpAny_updateDictKeys (hz:=by let e:=size_of_entries O;lia) (s:={s with toks:=s.toks+knd.draws k}) J G (qb (h2 (atKey_none_of_get B) _ ⟨_,_,ep+1,q9 _ J (Obj.isFreed_of_dict (Obj.data_mapDictKeys G _)),
   hc.mapDictKeys _,Obj.data_mapDictKeys G _,?_,?_,?_⟩ (Heap.SameBut.update ..))))))
  .rw[storedH_new (atKey_none_of_get B)];simp[O,entryOfKey]
  .rw[storedH_new (atKey_none_of_get B)];intro x Y;rcases qx.mp Y with z|z
   .show knd.keeps (M x z) J G (Heap.SameBut.update ..)
   .rw[qu.mp z];show knd.keeps F J G (Heap.SameBut.update ..)
  .rw[storedH_new (atKey_none_of_get B),map_append];exact qw.mpr ⟨hn,by simp,λx Y y hy e=>by
    let h3:y=k:=↑hy
    show L (h3▸e▸Y)⟩
 .show qa (wpAny_dictEntries (s:={s with toks:=s.toks+knd.draws k}) J G ?_);rw[entry_at O j,hj];show qa (wpAny_rule (qb (h1 p (atKey_of_get hn hj))))
def Hk(B:s.TypeIs (.ref d) "dict")(F:(d==sysModules)=false)(h:wpAny (model prog w) A.in1 (dictSetDefault d u r) Q E s):wpAny (model prog w) A (call (.builtin "dict.setdefault") [.ref d,u,r]) Q E s:=by show zc PySem.F.slot_dict_setdefault B PySem.F.entry_dict_setdefault ?_ (PySem.F.args_dict_setdefault_3 _ _ _);show qa (qa (wpAny_notOrdered_dict B ?_));show qb ?_;show wpAny _ _ (if(d==sysModules)=true then _ else(dictSetDefault d u r>>=_)) _ _ s;rw[qZ (by rw[F];show qV)];show qa (zg h (λv s' q=>qb #[v,rfl,q]) λ_ _ z=>z)
def sJ(H:Hp)(a:Addr)(y d:V)(v:V)(H':Hp):Prop:=(fH H a y (some v)/\H'=H)\/(fH H a y none/\v=d/\vL H a y d H')
def JB(hu:A.units+1<cLine)(I:Inv X zC Z H s)(g:sJ H a y d v H')(ry:zt y u)(rd:zt d r)(h:∀w' s',Inv X zC Z H' s'->zt v w'->Q w' s'):
  wpAny (model X.prog X.w) A (call (.builtin "dict.setdefault") [.ref a,u,r]) Q E s:=by
 rcases g with⟨⟨L,k,e,ey,l⟩|⟨L,k,b,e,ey,eb,l⟩,rfl⟩|⟨g,rfl,⟨L,k,e,ey,hl,eH⟩|⟨L,k,b,e,ey,eb,hl,eH⟩⟩
 .subst ey;let#[z,M,vs,B,J]:=FQ I.hok e;let#[w',hw,h6]:=eB.some_of (v:=v) (o:=valueAt vs k) (by rw[l];show B.val k);refine Hk J.typeIs M (wpAny_dictSetDefault_of (Ek ry) J.mapOf (λv' hv=>?_) (λhn=>absurd (hn.symm.trans hw) (λz=>nomatch z)) (λo es ep h1 h2=>?_))
  .rw[hw]at hv;cases hv;show h _ _ (I.tok _) h6
  .obtain⟨o',h9,e3,g1,_,g2,_,g3,_⟩:=J;rw[g1]at h1;cases h1;rw[g2]at h2;let e1:=g3.length;let e2:=B.length;rw[qT]at e1;lia
 .subst ey;cases(show u=Value.ref b from ry);let#[z,M,xs,B,J]:=FR I.hok e;let#[w',hw,h6]:=eB.some_of (v:=v) (o:=(atKey xs k).map (·.2)) (by rw[l];show B.val k);refine Hk J.typeIs M (Kt (tupleKind_room_in1 hu) (Em I.hok eb) J (by rw[<-Paired.length B];show z) (λp hp=>?_) λhn=>?_)
  .rw[hp]at hw;cases hw;show h _ _ (I.tok _) h6
  .rw[hn]at hw;cases hw
 .subst ey eH;let#[z,M,vs,B,J]:=MY I.hok e;let h7:valueAt vs k=none:=by
   rcases g with⟨h8,k',G,F,l'⟩|⟨_,_,_,_,F,_⟩
   .have ek:=Gs F;subst ek;rcases G with G|⟨o',G⟩
    .rw[e]at G;cases G;let:=B.val k;rw[<-l']at this;cases q:valueAt vs k with
     |none=>rfl
     |some x=>rw[q]at this;show this.elim
    .rw[e]at G;cases G
   .cases k<;>cases F
  show Hk J.typeIs M (QU (Ek ry) J h7 (by rw[<-B.length];show z) λh' Y hs=>h _ _ ?_ rd);show Hh I (by rw[e];show True.intro) hs (let⟨q,_,_,hq,_⟩:=Y;#[q,hq]) (NU (by let:=Ms L k v;lia) M (B.put k rd) Y)
 .subst ey eH;cases(show u=Value.ref b from ry);let#[z,M,xs,B,J]:=NH I.hok e;let h7:∀p,atKey xs k=some p->False:=λp hp=>by
   rcases g with⟨_,k',_,F,_⟩|⟨h8,k',b',G,F,O,l'⟩
   .cases k'<;>cases F
   .cases F;rw[eb]at O;let ek:k=k':=Gu (by injection O with O;injection O);subst ek;rcases G with G|⟨o',G⟩
    .rw[e]at G;cases G;let:=B.val k;rw[<-l',hp]at this;show this
    .rw[e]at G;cases G
  show Hk J.typeIs M (Kt (tupleKind_room_in1 hu) (Em I.hok eb) J (by rw[<-Paired.length B];show z) (λp hp=>(h7 p hp).elim) λ_ h' Y hs=>h _ _ ?_ rd);let#[q,es,ep,hq,h2,h3,h4,_,h5]:=Y;show Hh I (by rw[e];show True.intro) hs ⟨q,hq⟩ ⟨by let:=Ms L k v;lia,M,_,(B.put k eb rd).keeps λc ys ec=>?_,q,es,ep,hq,h2,h3,h4,h5⟩;rw[Ak (JL ec e (λz=>nomatch z))];show ec
def tE(F ty tx:TE):TE:=λZ H Q=>F Z H λx H1=>∃a,x=.ref a/\vI H1 a/\ty Z H1 λy H2=>tx Z H2 λz G=>∃v B,sJ G a y z v B/\Q v B
def Px(hu:X.A.units+1<cLine)(ho:PE X o J)(he:PE X e ty)(hf:PE X f tx)(m:M2 X o "setdefault" apos e f cpos):PE X (.Call (.Attribute o "setdefault" apos) [e,f] [] cpos) (tE J ty tx):=by
 intro zC s Z H Q I h;show wpAny_Call_method m.base m.few m.line PySem.F.plainAttrs_dict PySem.F.slot_dict_setdefault PySem.F.type_dict_setdefault (Aq (ho zC s Z H _ I h) λu Y G=>?_);let#[x,H1,F,rx,a,ex,d,q1]:=G;subst ex;obtain rfl:u=Value.ref a:=rx;let#[M,L,_]:=Ke F d;show#[M,L,?_];rw[m.trees];show Calls.callWith_builtin rfl (Calls.evalArgs_plain (Calls.spliced_cons (Aq (he zC Y Z H1 _ F q1) λiv O⟨y,H2,I2,ry,q2⟩=>Calls.spliced_cons (Aq (hf zC O Z H2 _ I2 q2) λfv s3⟨z,H3,I3,rz,v,H4,g,q3⟩=>Calls.spliced_nil ?_))))
 show JB hu I3 g ry rz λw' s4 I4 B=>#[_,H4,I4,B,q3]
section
variable{K:W.Frag}
def Qi:gB (x::l) k=(open Classical in if x=k then some 0 else(gB l k).map (·+1)):=by grind[gB,List.findIdx]
def Iv{κ:Type}[DecidableEq κ]{g:κ->D}(v:∀a b,g a=g b->a=b):∀(zD:List (κ×V))(k:κ),cE zD k=(gB (zD.map λp=>g p.1) (g k)).bind λm=>(zD.map (·.2))[m]?
 |[],k=>rfl
 |p::r,k=>by
  rw[qy,Qi];by_cases e:p.1=k
  .rw[Gm e,qY (by rw[e])];rfl
  .rw[FV e,qZ λz=>e (v _ _ z),Iv v r k];cases gB (r.map λp=>g p.1) (g k)with
   |none=>rfl
   |some m=>rfl
def gQ.get{a:Addr}{o:HO}{t:Bool}{ks:List D}{xs:List V}{y:V}{q:D}(d:gQ ks xs t o)(e:H a=some o)(r:aN K H y q)(G:bF t q=true):fH H a y ((gB ks q).bind λm=>xs[m]?):=by
 cases d with
 |@k v h1 h2=>subst h1 h2;let#[F,rfl,rfl]:=FZ r G;show .inl #[v,F,.inl e,rfl,(Iv (λ_ _=>Ep) v F).symm]
 |@t v h1 h2=>
  subst h1 h2;cases r with
  |tup J q=>let#[B,rfl,rfl]:=ES q G;show .inr #[v,B,_,.inl e,rfl,J,(Iv (g:=λl:List aK=>D.tup (l.map aG)) (λa b z=>Gg (D.tup.inj z)) v B).symm]
  |_=>cases G
def Rel.sdefR{p D:Addr}(r:Rel K (U++[some (.lst [])]) (Z++[some (.ref p)]) F G H)(hs:slot U n=some (.dct t ks l))(J:Z[n]?=some (some (.ref D)))(ry:aN K H y q)(hk:bF t q=true)(hn:ks.Nodup)(hb:ks.length<big):
  ∃v H',sJ H D y (.ref p) v H'/\Rel K (U.set n (some (.dct t (aU ks l q).1 (aU ks l q).2.1))) Z F G H'/\∃o xs,H' D=some o/\gQ (aU ks l q).1 xs t o/\xs[(aU ks l q).2.2]?=some v:=by
 let rd:=r.drop (Ae r);let#[v',fp,e1,sr]:=rd.at hs;rw[J]at e1;let e2:V.ref D=v':=↑e1
 subst e2;let#[a',o,xs,fl,z1,_,Y,L,rl]:=Gz sr;cases z1;let O:=L.len;let z:=L.get Y ry hk;cases B:gB ks q with
 |some m=>
  let es:aU ks l q=(ks,l,m):=by unfold aU;rw[B]
  let M:m<xs.length:=by let:=(qg.mp (LA B)).1;lia
  rw[B]at z;let z:fH H D y xs[m]?:=z;rw[qh M]at z;rw[es];show#[xs[m],H,.inl #[z,rfl],by rw[Lr hs];show rd,o,xs,Y,L,qh M]
 |none=>
  let es:aU ks l q=(ks++[q],l++[.lst []],ks.length):=by unfold aU;rw[B]
  rw[B]at z;let#[o',dp,h1,h2]:=L.put (v:=.ref p) Y ry hk hn (by rw[zd];show lt_trans hb ⋯);rw[es];show#[.ref p,_,.inr #[z,rfl,dp],r.dct hs J Y L (h2 B) λH' fl fs rl sr=>#[fl++fs,[],zr.snoc rl sr,by simp],o',_,Bx,h2 B,?_];rw[O,getElem?_append_right (q5 _),sub_self];rfl
def Rel.appendAtD{D b:Addr}(r:Rel K (U++[some t,some (.dct tb ks l)]) (Z++[some v,some (.ref D)]) F G H)(h:U.length=Z.length)(hm:l[m]?=some (.lst l'))
  (hD:H D=some o)(ho:gQ ks xs tb o)(hb:xs[m]?=some (.ref b))(hy:H b=some (.lst ys)):
  ys.length=l'.length/\Rel K (U++[some (.dct tb ks (l.set m (.lst (l'++[t]))))]) (Z++[some (.ref D)]) F G (upd H b (.lst (ys++[v]))):=by
 let#[fp,e,nd,ap]:=r.en;let#[f1,f2,rfl,a,c]:=e.cut h;cases c with
 |@so _ _ _ _ M f3 st c=>
 cases c with
 |@so _ _ _ _ fD fn sd nl=>
 cases nl;let#[a',o2,Y,fl,z1,rfl,h6,h4,rl]:=Gz sd;cases z1;rw[hD]at h6;cases h6;let ex:Y=xs:=by
  cases ho with
  |k _ z=>cases h4 with|k _ z'=>rw[z,z']
  |t _ z=>cases h4 with|t _ z'=>rw[z,z']
 subst ex;let#[x,O,fi,L,J,sx,rfl,up]:=rl.at hm;rw[hb]at J;cases J;cases sx with
 |@lst _ e1 _ B h5 ry=>
 rw[hy]at h5;cases h5;show#[ry.len,?_];let hp:(f1++(M++(D::(O++(b::B++L))++[]))).Perm (b::(f1++(M++(D::(O++(B++L)))))):=by let h1:(O++b::(B++L)).Perm (b::(O++(B++L))):=perm_middle;show((h1.cons D).append_left (f1++M)|>.trans ?_|>λz=>↑z);let h2:(D::b::(O++(B++L))).Perm (b::D::(O++(B++L))):=List.Perm.swap ..;show(h2.append_left (f1++M)).trans ?_;show perm_middle.trans (by rw[qp])
 let h8:=hp.nodup_iff.mp nd;let#[nb,_]:=qK.mp h8;let ne:∀{w:List Addr},(∀x∈w,x∈f1++(M++(D::(O++(B++L)))))->∀x∈w,upd H b (.lst (ys++[v])) x=H x:=λhw x J=>Ak λz=>nb (z▸hw x J);let h7:=ap b (hp.mem_iff.mpr qm);let new:aH K F (upd H b (.lst (ys++[v]))) (.ref b) (.lst (l'++[t])) (b::(B++M)):=.lst Bx (zr.snoc (ry.mono (zn.refl F) (ne λx J=>by simp[J])) (st.mono (zn.refl F) (ne λx J=>by simp[J])));let r2:=up (H':=upd H b (.lst (ys++[v]))) (ne λx J=>by rcases qx.mp J with z|z<;>simp[z]) new
 have e2:Y.set m (.ref b)=Y:=by
  apply ext_getElem?;intro j;by_cases hj:m=j
  .subst hj;rw[getElem?_set_self (qg.mp hb).1,hb]
  .rw[getElem?_set_ne hj]
 rw[e2]at r2;let h9:D≠b:=λz=>nb (by simp[z]);let top:aH K F (upd H b (.lst (ys++[v]))) (.ref D) (.dct tb ks (l.set m (.lst (l'++[t])))) (D::(O++((b::(B++M))++L))):=h4.mk ((Ak h9).trans hD) r2;let p:(f1++((D::(O++((b::(B++M))++L)))++[])).Perm (f1++(M++(D::(O++(b::B++L))++[]))):=by
  show List.Perm.append_left _ ?_;simp;let h1:(B++(M++L)).Perm (M++(B++L)):=by rw[<-qp,<-qp];show List.Perm.append_right _ qM
  let h2:(O++b::(B++(M++L))).Perm (M++(O++b::(B++L))):=by show((h1.cons b).append_left O).trans ?_;let h3:(b::(M++(B++L))).Perm (M++(b::(B++L))):=perm_middle.symm;show(h3.append_left O).trans ?_;rw[<-qp,<-qp];show List.Perm.append_right _ qM
  show(h2.cons D).trans ?_;show perm_middle.symm
 show#[zn.updR r.fr h7.1,λx o w=>?_,_,(a.mono (zn.refl F) (ne λx J=>by simp[J])).app (.so top .nil),p.nodup_iff.mpr nd,λx J=>ap x (p.mem_iff.mp J)];let J:x≠b:=λz=>by rw[z,h7.2]at w;cases w
 rw[Ak J];show r.gr x o w
end
theorem set_set{U:Env}:(U.set n a).set n b=U.set n b:=List.set_set ..
def QH(h:slot U n=some s):slot (U.set n (some s')) n=some s':=by
 induction U generalizing n with
 |nil=>cases h
 |cons a U v=>cases n with
  |zero=>rfl
  |succ n=>show v h
def RM(hu:X.A.units+1<cLine)(ho:FE X o (zi j))(hi:FE X i wi)(he:FE X e we)(m2:M2 X o "setdefault" h5 i (.List [] lp) h4)
  (e3:autoParam (attributeBase (.Call (.Attribute o "setdefault" h5) [i,.List [] lp] [] h4) "append" X.env (eval (.Call (.Attribute o "setdefault" h5) [i,.List [] lp] [] h4) X.env)=eval (.Call (.Attribute o "setdefault" h5) [i,.List [] lp] [] h4) X.env) rZ9)
  (k2:autoParam (((backTo cpos (starEach [e] X.env)).all (λx=>!x.1)&&(backToKw cpos (keywordEach [] X.env)).all (λx=>x.1.isSome)
   &&decide ([e].length+([]:List Keyword).length+(if([]:List Keyword).isEmpty then 0 else 1)<30))=true) rZ9)
  (h9:autoParam ((apos.endLine==cpos.line)=true) rZ9)(hs:autoParam (starEach [e] X.env=[(false,eval e X.env)]) rZ9):FE X (.Call (.Attribute (.Call (.Attribute o "setdefault" h5) [i,.List [] lp] [] h4) "append" apos) [e] [] cpos) (dQ j wi we):=λpn xe hp=>by
 show PE.imp (Gn (X:=wp X pn xe) PySem.F.plainAttrs_list PySem.F.slot_list_append PySem.F.type_list_append IL (Px (X:=wp X pn xe) hu (ho pn xe hp) (hi pn xe hp) (Eo Ac pn xe hp) #[m2.base,m2.few,m2.line,m2.trees]) (Aa he Ac hs pn xe hp) e3 k2 h9 hs rfl) λZ H Q q=>?_;let#[F,G,U,P,PX,zE,hw,hok,hx]:=q;unfold dQ at hw;cases qs:slot U j with
 |none=>rw[qs]at hw;show hw.elim
 |some s0=>
  cases s0 with
  |dct t0 ks0 l0=>
   rw[qs]at hw;dsimp only at hw;show#[F,G,U,λy U1=>y=.loc j/\U1=U,PX,zE,by unfold zi;rw[qs];show#[rfl,rfl],λy U1 o' F1 H1 M s1 r1 rv=>?_,hx];let#[rfl,rfl]:=M;let l1:=Ae r1;let Y:Z[j]?=some (some o'):=rv;let r2:=r1.drop l1;let h8:∃D,o'=.ref D/\vI H1 D:=by
    let#[v',fp,e1,sr]:=r2.at qs;rw[Y]at e1;let e2:o'=v':=↑e1
    subst e2;let#[a',o,xs,fl,z1,_,hD,h3,rl]:=Gz sr;subst z1;cases h3 with
    |k _ _=>show#[a',rfl,.inl #[_,.inl hD]]
    |t _ _=>show#[a',rfl,.inr #[_,.inl hD]]
   let#[D,rfl,h8]:=h8;show#[D,rfl,h8,?_];show#[F1,G,U1,_,PX,r2,hw,λz U2 i' F2 H2 L s2 r3 rv2=>?_,hx.grow s1];let l2:=Ae r3;split at L
   .rename_i q t ks l eq ql;let#[k1,hnd,k3,L]:=L;split at L
    .rename_i l' el;let#[G3,hd,gg,e4]:=r3.hide l2;show#[F2,G3,U2,λw B=>w=.v (.lst [])/\B=U2,PX,hd,#[rfl,rfl],λw B d' F3 H3 hk3 s3 r4 rv4=>?_,hx.mono (λ_ z=>z) (s1.trans s2) gg];let#[rfl,rfl]:=hk3;let r5:=e4 s3 r4;rw[qp,qp]at r5;let r6:Rel X.K (B++[zo z,some (.lst [])]) (Z++[some i',some d']) F3 G H3:=Rel.swap (U1:=[some (.lst [])]) (Z1:=[some d']) (U2:=[zo z]) (Z2:=[some i']) l2 rfl r5;let ri:=AE (U':=[some (.lst [])]) (Z':=[some d']) r6 l2 rv2 eq;let r7:Rel X.K (B++[some (.lst [])]) (Z++[some d']) F3 G H3:=Rel.mid r6 l2;let hd':∃p,d'=.ref p:=by
      let#[u,fp,e1,sr]:=r7.at (i:=B.length) (s:=.lst []) Fo;rw[l2,getElem?_append_right (q5 _),sub_self]at e1;let e2:d'=u:=↑e1
      subst e2;cases sr with
      |lst _ _=>show#[_,rfl]
     let#[p,rfl]:=hd';let#[v,H4,ds,r8,ob,xs,hD,h3,hv]:=Rel.sdefR r7 ql Y ri k1 hnd k3;let hql:=QH (s':=.dct t (aU ks l q).1 (aU ks l q).2.1) ql;let l8:(B.set j (some (.dct t (aU ks l q).1 (aU ks l q).2.1))).length=Z.length:=↑l2
     let r9:=Rel.lend (U':=[]) (Z':=[]) (r8.pushN (u:=some (.ref D))) l8 hql Y;rw[set_set]at r9;let l5:(B.set j none).length=Z.length:=↑l2
     obtain⟨G2,fq,r10,gg2,sq,hG,back⟩:=r9.hide2 l5;let#[a',o2,xs',fl,z1,efq,hD',h6,rl]:=Gz sq;cases z1;rw[hD]at hD';cases hD';let ex:xs'=xs:=by
      cases h3 with
      |k _ z=>cases h6 with|k _ z'=>rw[z,z']
      |t _ z=>cases h6 with|t _ z'=>rw[z,z']
     subst ex;let#[x,fa,fi,fb,hq,sx,efl,_]:=rl.at el;rw[hv]at hq;cases hq;cases sx with
     |@lst b ys _ fy hy ry=>
     show#[_,H4,ds,.inl #[rfl,_,bK.of hy],F3,G2,B.set j none,λrs h7=>match rs with|[r]=>(zm (give r h7) λp=>l'.length<big/\P (.v (.sh .non)) (p.2.set j (some (.dct t (aU ks l q).1 ((aU ks l q).2.1.set (aU ks l q).2.2 (.lst (l'++[p.1])))))))|_=>False,PX,r10,L,λrs h7 vs F4 H5 M s4 O hl J=>?_,hx.mono (λ_ z=>z) (s1.trans (s2.trans s3)) gg2];match rs,vs,J,O,M with
     |[r],[v],J,O,M=>
      dsimp only at M;let#[#[t',U5],eg,M]:=Av M;let hr:=back s4 O;simp only[qy,map_nil,qp,qN,nil_append]at hr;let l3:h7.length=Z.length:=hl;let#[F5,s5,l4,r13]:=AF (U':=[some (.dct t (aU ks l q).1 (aU ks l q).2.1)]) (Z':=[some (.ref D)]) hr l3 J.1 eg;let kept:∀c∈D::fl,H5 c=H4 c:=λc hc=>by let#[o,h1,h2]:=hG c (efq▸hc);rw[(O.gr c o h1).1.1,h2]
      let hb:b∈D::fl:=qk _ (by rw[efl];simp);let#[ha,r14]:=Rel.appendAtD r13 (l4.trans l3) el ((kept D qm).trans hD) h3 hv ((kept b hb).trans hy);let hm:=Rel.back1 (U':=[]) (Z':=[]) (i:=j) r14 (l4.trans l3) Y;rw[qz,qz]at hm;show#[b,ys,v,rfl,rfl,(kept b hb).trans hy,by rw[ha,zd];show lt_trans M.1 ⋯,hok _ _ .non F5 _ M.2 (s1.trans (s2.trans (s3.trans (s4.trans s5)))) (hm.push .non) trivial]
     |[],_,_,_,M=>show M.elim
     |[_],[],J,_,_=>show J.elim
     |[_],_::_::_,J,_,_=>show J.2.elim
     |_::_::_,_,_,_,M=>show M.elim
    .show L.elim
   .show L.elim
  |_=>rw[qs]at hw;show hw.elim
end FL
namespace FL
open Classical in
def fN(l:List D):Option S:=if l.length<301/\(l.length<2\/∃sh,sh≠[]/\∀d∈l,fR sh d)then some (.lst ((aY l).map .sh))else none
def sF:List D->Option S
 |[.lst l]=>fN l
 |[.set l]=>fN l
 |_=>none
open Classical in
def bO(l:List D):Option S:=if(l.length<64/\((fQ l).isSome=true\/(bT l).isSome=true))\/l.length<301/\(l.length<2\/∃sh,sh≠[]/\∀d∈l,fR sh d)then some (.lst ((aY l).map .sh))else none
def bW:List D->Option S
 |[.lst l]=>bO l
 |[.set l]=>bO l
 |_=>none
end FL
namespace TS
open PySem PyProof.Rows
def cK:Bool->Keyed->Array Keyed->Nat->Nat->Nat->StateT SortSt Sem (Option Nat):=sortPriv%PySem.Builtin.gallop
def ask(left:Bool)(key:Keyed)(arr:Array Keyed)(i:Nat):StateT SortSt Sem (Option Bool):=do
 let x<-elem' arr i
 if left then lt' x key else return(<-lt' key x).map (!·)
def sA(left:Bool)(key:Keyed)(arr:Array Keyed)(base n u0 v0:Nat):StateT SortSt Sem (Option Nat):=do
 let mut u:=u0
 let mut v:=v0
 for _ in[0:n] do
  if u≥v then break
  let m:=u+(v-u)/2
  let some y<-ask left key arr (base+m)|return none
  if y then u:=m+1 else v:=m
 return some v
structure Cmp(M:Model)(A:Around)(E:zh)(s:Shared)(κ:SortKind)(ok:Keyed->Prop)(rk:Keyed->Int):Prop where
 lt:∀(x y:Keyed)(Q:Option Bool->SortSt->Prop)(st:SortSt),kindOf st=κ->ok x->ok y->Q (some (decide (rk x<rk y))) st->wpS M A E s (lt' x y) Q st
def Ab{v:Array Keyed}{i:Nat}{Q:Keyed->SortSt->Prop}{st:SortSt}(h:i<v.size)(z:Q v[i] st):wpS M A E s (elem' v i) Q st:=by rw[elem'_eq,getElem?_eq_getElem h];show wpS_pure z
def aP(rk:Keyed->Int)(xs:Array Keyed)(i:Nat):Int:=(xs[i]?).elim 0 rk
def cZ(rk:Keyed->Int)(left:Bool)(key:Keyed)(v:Array Keyed)(i:Nat):Bool:=if left then decide (aP rk v i<rk key)else decide (aP rk v i<=rk key)
def Ad{v:Array Keyed}{i:Nat}(h:i<v.size):aP rk v i=rk v[i]:=by unfold aP;rw[getElem?_eq_getElem h];rfl
def Bc(C:Cmp M A E s κ ok rk){left:Bool}{key:Keyed}{v:Array Keyed}(F:ok key)(G:∀i(h:i<v.size),ok v[i]){i:Nat}(hi:i<v.size){Q:Option Bool->SortSt->Prop}{st:SortSt}(z:kindOf st=κ)
  (B:Q (some (cZ rk left key v i)) st):wpS M A E s (ask left key v i) Q st:=by
 show wpS_bind (Ab hi ?_);unfold cZ at B;rw[Ad hi]at B;cases left
 .show wpS_bind (C.lt _ _ _ _ z F (G _ hi) (wpS_pure ?_));rw[show decide (rk v[i]<=rk key)=!decide (rk key<rk v[i]) by simp[<-Int.not_lt]]at B;show B
 .show C.lt _ _ _ _ z (G _ hi) F B
@[inline]def Up(rk:Keyed->Int)(xs:Array Keyed)(lo hi:Nat):Prop:=∀i j,lo<=i->i<=j->j<hi->aP rk xs i<=aP rk xs j
def AG{left:Bool}{key:Keyed}{v:Array Keyed}{base n:Nat}(z:Up rk v base (base+n)){i j:Nat}(B:i<=j)(F:j<n)(h:cZ rk left key v (base+j)=true):cZ rk left key v (base+i)=true:=by let:=z (base+i) (base+j) ∅ ∅ ∅;unfold cZ at h⊢;cases left<;>simp_all<;>lia
def jK(rk:Keyed->Int)(left:Bool)(key:Keyed)(z:Array Keyed)(base n u v:Nat):Prop:=u<=v/\v<=n/\(∀i,i<u->cZ rk left key z (base+i)=true)/\∀i,v<=i->i<n->cZ rk left key z (base+i)=false
def Bh(C:Cmp M A E s κ ok rk){left:Bool}{key:Keyed}{arr:Array Keyed}{base n u v:Nat}{Q:Option Nat->SortSt->Prop}{st:SortSt}(hk:ok key)(ha:∀i(h:i<arr.size),ok arr[i])(hn:base+n<=arr.size)(hu:Up rk arr base (base+n))(hst:kindOf st=κ)(hc:jK rk left key arr base n u v)
  (h:∀k,jK rk left key arr base n k k->Q (some k) st):wpS M A E s (sA left key arr base n u v) Q st:=by
 have no_up:∀{i j:Nat},i<=j->j<n->cZ rk left key arr (base+i)=false->cZ rk left key arr (base+j)=false:=λ{i j} hij hj hb=>by
  cases q:cZ rk left key arr (base+j)with
  |false=>rfl
  |true=>rw[AG hu hij hj q]at hb;cases hb
 refine wpS_bind (wpS_mono (wpS_forRange (I:=λx c st'=>st'=st/\c.1=none/\jK rk left key arr base n c.2.1 c.2.2/\c.2.2-c.2.1<=n-x)
  (Q:=λc st'=>st'=st/\c.1=none/\jK rk left key arr base n c.2.2 c.2.2) ?step ?fin #[rfl,rfl,hc,by let:=hc.2.1;simp only;lia]) ?post)
 case fin=>
  rintro⟨r,l,u⟩ st' ⟨rfl,hr,⟨g1,g2,g3,g4⟩,g5⟩;obtain rfl:l=u:=∅
  show#[rfl,hr,g1,g2,g3,g4]
 case step=>
  rintro x ⟨r,l,u⟩ st' _ hx ⟨rfl,hr,⟨g1,g2,g3,g4⟩,g5⟩;by_cases hlu:l≥u
  .rw[qY hlu];obtain rfl:l=u:=by lia
   show wpS_pure #[rfl,rfl,g1,g2,g3,g4]
  .rw[qZ hlu];show wpS_bind (Bc C hk ha ∅ hst ?_);cases q:cZ rk left key arr (base+(l+(u-l)/2))with
   |true=>show wpS_pure #[rfl,rfl,#[by simp only;lia,g2,λi hi=>AG hu (show i<=l+(u-l)/2 by simp only at hi;lia) ∅ q,g4],by simp only;lia]
   |false=>show wpS_pure #[rfl,rfl,#[by simp only;lia,by simp only;lia,g3,λi hi hin=>no_up (show l+(u-l)/2<=i from hi) hin q],by simp only;lia]
 case post=>rintro⟨r,l,u⟩ st' ⟨rfl,hr,g⟩;subst hr;show wpS_pure (h u g)
def Am(C:Cmp M A E s κ ok rk){left:Bool}{key:Keyed}{arr:Array Keyed}{base n hint:Nat}{Q:Option Nat->SortSt->Prop}{st:SortSt}(hk:ok key)(ha:∀i(h:i<arr.size),ok arr[i])(hn:base+n<=arr.size)(hh:hint<n)(hu:Up rk arr base (base+n))(hst:kindOf st=κ)
  (h:∀k,jK rk left key arr base n k k->Q (some k) st):wpS M A E s (cK left key arr base n hint) Q st:=by
 have no_up:∀{i j:Nat},i<=j->j<n->cZ rk left key arr (base+i)=false->cZ rk left key arr (base+j)=false:=λ{i j} hij hj hb=>by
  cases q:cZ rk left key arr (base+j)with
  |false=>rfl
  |true=>rw[AG hu hij hj q]at hb;cases hb
 show wpS_bind (Bc C hk ha ∅ hst ?_);cases q:cZ rk left key arr (base+hint)with
 |true=>
  refine wpS_bind (wpS_mono (wpS_forRange (I:=λx c st'=>st'=st/\c.1=none/\c.2.1<c.2.2/\x<c.2.2/\hint+c.2.1<n/\cZ rk left key arr (base+(hint+c.2.1))=true)
   (Q:=λc st'=>st'=st/\c.1=none/\c.2.1<c.2.2/\hint+c.2.1<n/\cZ rk left key arr (base+(hint+c.2.1))=true/\(n<=hint+c.2.2\/cZ rk left key arr (base+(hint+c.2.2))=false)) ?step ?fin #[rfl,rfl,⋯,⋯,hh,↑q]) ?post)
  case fin=>rintro⟨r,l,u⟩ st' ⟨rfl,hr,g1,g2,g3,g4⟩;show#[rfl,hr,g1,g3,g4,.inl (by simp only at g2⊢;lia)]
  case step=>
   rintro x ⟨r,l,u⟩ st' _ hx ⟨rfl,hr,g1,g2,g3,g4⟩;by_cases hlu:u≥n-hint
   .rw[qY hlu];show wpS_pure #[rfl,rfl,g1,g3,g4,.inl (by simp only;lia)]
   .rw[qZ hlu];show wpS_bind (Bc C hk ha ∅ hst ?_);cases q2:cZ rk left key arr (base+(hint+u))with
    |true=>show wpS_pure #[rfl,rfl,by simp only;lia,by simp only;lia,by simp only;lia,q2]
    |false=>show wpS_pure #[rfl,rfl,g1,g3,g4,.inr q2]
  case post=>
   rintro⟨r,l,u⟩ st1 ⟨rfl,hr,g1,g3,g4,g5⟩;subst hr;show Bh C hk ha hn hu hst #[∅,∅,λi hi=>AG hu (show i<=hint+l by lia) g3 g4,λi hi hin=>?_] h;rcases g5 with g5|g5
   .lia
   .show no_up (show hint+u<=i by lia) hin g5
 |false=>
  refine wpS_bind (wpS_mono (wpS_forRange (I:=λx c st'=>st'=st/\c.1=none/\c.2.1<c.2.2/\x<c.2.2/\c.2.1<=hint/\cZ rk left key arr (base+(hint-c.2.1))=false)
   (Q:=λc st'=>st'=st/\c.1=none/\c.2.1<c.2.2/\c.2.1<=hint/\cZ rk left key arr (base+(hint-c.2.1))=false/\(hint<c.2.2\/cZ rk left key arr (base+(hint-c.2.2))=true)) ?step ?fin #[rfl,rfl,⋯,⋯,by simp,by show q]) ?post)
  case fin=>rintro⟨r,l,u⟩ st' ⟨rfl,hr,g1,g2,g3,g4⟩;show#[rfl,hr,g1,g3,g4,.inl (by simp only at g2⊢;lia)]
  case step=>
   rintro x ⟨r,l,u⟩ st' _ hx ⟨rfl,hr,g1,g2,g3,g4⟩;by_cases hlu:u≥hint+1
   .rw[qY hlu];show wpS_pure #[rfl,rfl,g1,g3,g4,.inl (by simp only;lia)]
   .rw[qZ hlu];show wpS_bind (Bc C hk ha ∅ hst ?_);cases q2:cZ rk left key arr (base+(hint-u))with
    |true=>show wpS_pure #[rfl,rfl,g1,g3,g4,.inr q2]
    |false=>show wpS_pure #[rfl,rfl,by simp only;lia,by simp only;lia,by simp only;lia,q2]
  case post=>
   rintro⟨r,l,u⟩ st1 ⟨rfl,hr,g1,g3,g4,g5⟩;subst hr;show Bh C hk ha hn hu hst #[∅,∅,λi hi=>?_,λi hi hin=>no_up (show hint-l<=i by lia) hin g4] h;rcases g5 with g5|g5
   .lia
   .show AG hu (show i<=hint-u by lia) ∅ g5
def eT(g:Nat):StateT SortSt Sem Unit:=modify λs=>SortSt.mk' (kindOf s) (arrOf s) (pendingOf s) g (failedOf s)
def eW:Array Keyed->Array Keyed->StateT SortSt Sem (Array Keyed):=sortPriv%PySem.Builtin.mergeLo
def fL(a b o:Array Keyed)(i j:Nat):Array Keyed:=o++a.extract i a.size++b.extract j b.size
def fin2(a b o:Array Keyed)(i j:Nat):Array Keyed:=o++b.extract j b.size++a.extract i a.size
abbrev Mo:=Array Keyed×Nat×Nat×Nat×Nat×Nat
abbrev LS(α:Type):=ForInStep (Option (Array Keyed)×α)
def yL(a b:Array Keyed)(g c d i:Nat)(o:Array Keyed)(j:Nat):StateT SortSt Sem (LS Mo):=do
 let x<-elem' a i
 if i+1+1==a.size then return .done (some (fin2 a b (o.push x) (i+1) j),o.push x,i+1,j,g,c,d)
 if c<7&&d<7 then return .done (none,o.push x,i+1,j,g,c,d)
 return .yield (none,o.push x,i+1,j,g,c,d)
def yM(a b:Array Keyed)(g c d j:Nat)(o:Array Keyed)(i:Nat):StateT SortSt Sem (LS Mo):=do
 let x<-elem' b j
 if j+1==b.size then return .done (some (fL a b (o.push x) i (j+1)),o.push x,i,j+1,g,c,d)
 match<-cK true (<-elem' a i) b (j+1) (b.size-(j+1)) 0 with
 |some k=>
  if k>0 then
   if j+1+k==b.size then return .done (some (fL a b (o.push x++b.extract (j+1) (j+1+k)) i (j+1+k)),o.push x++b.extract (j+1) (j+1+k),i,j+1+k,g,c,k)
   yL a b g c k i (o.push x++b.extract (j+1) (j+1+k)) (j+1+k)
  else yL a b g c k i (o.push x) (j+1)
 |_=>return .done (some (fL a b (o.push x) i (j+1)),o.push x,i,j+1,g,c,d)
def lo1(a b o:Array Keyed)(i j c d g:Nat):StateT SortSt Sem (LS Mo):=do
 eT g
 match<-cK false (<-elem' b j) a i (a.size-i) 0 with
 |some k=>
  if k>0 then
   if i+k+1==a.size then return .done (some (fin2 a b (o++a.extract i (i+k)) (i+k) j),o++a.extract i (i+k),i+k,j,g,k,d)
   if i+k==a.size then return .done (some (fL a b (o++a.extract i (i+k)) (i+k) j),o++a.extract i (i+k),i+k,j,g,k,d)
   yM a b g k d j (o++a.extract i (i+k)) (i+k)
  else yM a b g k d j o i
 |_=>return .done (some (fL a b o i j),o,i,j,g,c,d)
def ab(a b:Array Keyed)(g:Nat)(s:Option (Array Keyed)×Array Keyed×Nat×Nat×Nat×Nat):StateT SortSt Sem (LS (Array Keyed×Nat×Nat×Nat×Nat)):=do
 match<-lt' (<-elem' b s.2.2.2.1) (<-elem' a s.2.2.1)with
 |some y=>
  if y then
   let x<-elem' b s.2.2.2.1
   if s.2.2.2.1+1==b.size then return .done (some (fL a b (s.2.1.push x) s.2.2.1 (s.2.2.2.1+1)),s.2.1.push x,s.2.2.1,s.2.2.2.1+1,0,s.2.2.2.2.2+1)
   if s.2.2.2.2.2+1≥g then return .done (none,s.2.1.push x,s.2.2.1,s.2.2.2.1+1,0,s.2.2.2.2.2+1)
   return .yield (none,s.2.1.push x,s.2.2.1,s.2.2.2.1+1,0,s.2.2.2.2.2+1)
  else
   let x<-elem' a s.2.2.1
   if s.2.2.1+1+1==a.size then return .done (some (fin2 a b (s.2.1.push x) (s.2.2.1+1) s.2.2.2.1),s.2.1.push x,s.2.2.1+1,s.2.2.2.1,s.2.2.2.2.1+1,0)
   if s.2.2.2.2.1+1≥g then return .done (none,s.2.1.push x,s.2.2.1+1,s.2.2.2.1,s.2.2.2.2.1+1,0)
   return .yield (none,s.2.1.push x,s.2.2.1+1,s.2.2.2.1,s.2.2.2.2.1+1,0)
 |_=>return .done (some (fL a b s.2.1 s.2.2.1 s.2.2.2.1),s.2.1,s.2.2.1,s.2.2.2.1,s.2.2.2.2.1,s.2.2.2.2.2)
def vW(a b:Array Keyed)(s:Option (Array Keyed)×Mo):StateT SortSt Sem (LS Mo):=lo1 a b s.2.1 s.2.2.1 s.2.2.2.1 s.2.2.2.2.2.1 s.2.2.2.2.2.2 (if s.2.2.2.2.1>1 then s.2.2.2.2.1-1 else s.2.2.2.2.1)
def yK(a b:Array Keyed)(t:Nat)(s:Option (Array Keyed)×Array Keyed×Nat×Nat×Nat):StateT SortSt Sem (LS (Array Keyed×Nat×Nat×Nat)):=
 (forIn [:t] (none,s.2.1,s.2.2.1,s.2.2.2.1,0,0) λ_=>ab a b s.2.2.2.2)>>=λr=>Break.runK.match_1 (λ_=>StateT SortSt Sem (LS (Array Keyed×Nat×Nat×Nat))) r.1 (λx=>pure (.done (some x,r.2.1,r.2.2.1,r.2.2.2.1,s.2.2.2.2))) λ_=>do
  rule "list.sort.gallop"
  (forIn [:t] (none,r.2.1,r.2.2.1,r.2.2.2.1,s.2.2.2.2+1,r.2.2.2.2) λ_=>vW a b)>>=λq=>Break.runK.match_1 (λ_=>StateT SortSt Sem (LS (Array Keyed×Nat×Nat×Nat))) q.1 (λx=>pure (.done (some x,q.2.1,q.2.2.1,q.2.2.2.1,q.2.2.2.2.1))) λ_=>do
   eT (q.2.2.2.2.1+1)
   return .yield (none,q.2.1,q.2.2.1,q.2.2.2.1,q.2.2.2.2.1+1)
def Ck(a b:Array Keyed):eW a b=(do
 rule "list.sort.merge-lo"
 let x<-elem' b 0
 if 1==b.size then return fL a b [x].toArray 0 1
 if 0+1==a.size then return fin2 a b [x].toArray 0 1
 let s<-get
 (forIn [:a.size+b.size] (none,[x].toArray,0,1,gallopOf s) λ_=>yK a b (a.size+b.size))>>=λr=>Break.runK.match_1 (λ_=>StateT SortSt Sem (Array Keyed)) r.1 (λr=>pure r) λ_=>unsupported "internal:list.sort.merge-bound"):=by
 let e:∀(s:Option (Array Keyed)×Mo),vW a b s=(if s.2.2.2.2.1>1 then lo1 a b s.2.1 s.2.2.1 s.2.2.2.1 s.2.2.2.2.2.1 s.2.2.2.2.2.2 (s.2.2.2.2.1-1)else lo1 a b s.2.1 s.2.2.1 s.2.2.2.1 s.2.2.2.2.2.1 s.2.2.2.2.2.2 s.2.2.2.2.1):=λs=>by unfold vW;by_cases hg:s.2.2.2.2.1>1<;>simp[hg,if_true,if_false]
 unfold yK;rw[show vW a b=_ from funext e];rfl
def fF(rk:Keyed->Int)(l:List Keyed):Prop:=l.Pairwise λx y=>rk x<=rk y
@[inline]def Below(rk:Keyed->Int)(l m:List Keyed):Prop:=∀x∈l,∀y∈m,rk x<=rk y
structure MG(rk:Keyed->Int)(all l ra rb:List Keyed):Prop where
 perm:(l++(ra++rb)).Perm all
 sl:fF rk l
 sa:fF rk ra
 sb:fF rk rb
 la:Below rk l ra
 lb:Below rk l rb
def MG.swap(m:MG rk all l z v):MG rk all l v z:=#[((qM (l₁:=v)).append_left l).trans m.perm,m.sl,m.sb,m.sa,m.lb,m.la]
def MG.takeA(m:MG rk all l (p++G) F)(h:Below rk p F):MG rk all (l++p) G F:=by
 let#[h1,h2,J]:=pairwise_append.mp m.sa;show#[↑m.perm,pairwise_append.mpr #[m.sl,h1,λx B y v=>m.la x B y (qj _ v)],h2,m.sb,λx B y v=>?_,λx B y v=>?_]
 .show(qx.mp B).elim (λz=>m.la x z y (qi _ v)) λz=>J x z y v
 .show(qx.mp B).elim (λz=>m.lb x z y v) λz=>h x z y v
def MG.takeB(m:MG rk all l v (p++z))(h:Below rk p v):MG rk all (l++p) v z:=(m.swap.takeA h).swap
def MG.end(m:MG rk all l z v)(h:Below rk v z):(l++v++z).Perm all/\fF rk (l++v++z):=by rw[qp];show#[((qM (l₁:=v)).append_left l).trans m.perm,pairwise_append.mpr #[m.sl,pairwise_append.mpr #[m.sb,m.sa,h],λx B y F=>(qx.mp F).elim (m.lb x B y) (m.la x B y)]]
def Ay{x y:Keyed}(h:rk x<=rk y)(hs:fF rk (y::l)):∀z∈y::l,rk x<=rk z:=λz v=>by
 rcases qA.mp v with rfl|v
 .show h
 .show Int.le_trans h ((pairwise_cons.mp hs).1 z v)
def Ah{α:Type}{a:Array α}{i:Nat}(h:i<a.size):a.toList.drop i=a[i]::a.toList.drop (i+1):=by rw[drop_eq_getElem_cons h];simp
def DK{a:Array Keyed}{i n:Nat}(h:fF rk (a.toList.drop i))(hn:i+n<=a.size):Up rk a i (i+n):=λj k h1 h2 v=>by
 rw[Ad (show j<a.size by lia),Ad (show k<a.size by lia)];by_cases e:j=k
 .subst e;show Int.le_refl _
 .let:=pairwise_iff_getElem.mp h (j-i) (k-i) (by simp;lia -verbose) (by simp;lia -verbose) ∅;simpa[show i+(j-i)=j by lia,show i+(k-i)=k by lia] using this
def Bs{left:Bool}{a:Array Keyed}{i n k:Nat}{key:Keyed}(v:jK rk left key a i n k k)(hn:i+n<=a.size)(hs:fF rk (key::l)):Below rk ((a.toList.drop i).take k) (key::l):=λx z=>by let#[j,B,rfl]:=List.mem_iff_getElem.mp z;let F:=v.2.1;rw[qG,qF,qT]at B;let h1:=v.2.2.1 j ∅;unfold cZ at h1;rw[Ad (show i+j<a.size by lia)]at h1;show Ay ?_ hs;simp;cases left<;>simp at h1<;>lia
def Ax{Z:Type}{name:String}{Q:PUnit->Z->Prop}{st:Z}(h:Q ⟨⟩ st):wpS M A E s (liftM (rule name):StateT Z Sem PUnit) Q st:=wpS_lift (wpAny_rule #[rfl,h])
def bA(st v:SortSt):Prop:=kindOf v=kindOf st/\arrOf v=arrOf st/\pendingOf v=pendingOf st/\failedOf v=failedOf st
def bA.trans{st z v:SortSt}(h:bA st z)(k:bA z v):bA st v:=#[k.1.trans h.1,k.2.1.trans h.2.1,k.2.2.1.trans h.2.2.1,k.2.2.2.trans h.2.2.2]
def AA{g:Nat}{Q:PUnit->SortSt->Prop}{st:SortSt}(h:∀v,bA st v->Q ⟨⟩ v):wpS M A E s (eT g) Q st:=wpS_modify (h _ #[rfl,rfl,rfl,rfl])
def fM(rk:Keyed->Int)(a b r:Array Keyed):Prop:=r.toList.Perm (a.toList++b.toList)/\fF rk r.toList
structure Go(rk:Keyed->Int)(a b o:Array Keyed)(i j:Nat):Prop where
 m:MG rk (a.toList++b.toList) o.toList (a.toList.drop i) (b.toList.drop j)
 i:i+1<a.size
 j:j<b.size
section
variable{a b o:Array Keyed}
def EB(m:MG rk (a.toList++b.toList) o.toList (a.toList.drop i) (b.toList.drop j))(h:j=b.size):fM rk a b (fL a b o i j):=by
 let v:b.toList.drop j=[]:=by simp[h]
 rw[v]at m;let:=m.end λx z=>nomatch z
 unfold fM fL;simpa[v,take_of_length_le,h] using this
def EA(m:MG rk (a.toList++b.toList) o.toList (a.toList.drop i) (b.toList.drop j))(h:i+1=a.size)(B:∀y∈b.toList,rk y<aP rk a (a.size-1)):fM rk a b (fin2 a b o i j):=by
 let:=m.end λx z y v=>by rw[Ah (show i<a.size by lia),List.drop_of_length_le (by simp;lia -verbose),qu]at v;let h1:=B x (List.mem_of_mem_drop z);rw[show a.size-1=i by lia,Ad (show i<a.size by lia),<-v]at h1;show Int.le_of_lt h1
 unfold fM fin2;simpa[take_of_length_le] using this
def DP(m:MG rk (a.toList++b.toList) o.toList (a.toList.drop i) (b.toList.drop j))(hi:i<a.size)(B:j<b.size)(h:rk b[j]<=rk a[i]):MG rk (a.toList++b.toList) (o.push b[j]).toList (a.toList.drop i) (b.toList.drop (j+1)):=by rw[Ah B]at m;rw[toList_push];let v:=m.sa;rw[Ah hi]at v;show MG.takeB (p:=[b[j]]) m λx z=>?_;rw[qu.mp z,Ah hi];show Ay h v
def EX(m:MG rk (a.toList++b.toList) o.toList (a.toList.drop i) (b.toList.drop j))(hi:i<a.size)(z:j<b.size)(h:rk a[i]<=rk b[j]):MG rk (a.toList++b.toList) (o.push a[i]).toList (a.toList.drop (i+1)) (b.toList.drop j):=by rw[Ah hi]at m;rw[toList_push];let v:=m.sb;rw[Ah z]at v;show MG.takeA (p:=[a[i]]) m λx B=>?_;rw[qu.mp B,Ah z];show Ay h v
def FN(m:MG rk (a.toList++b.toList) o.toList (a.toList.drop i) (b.toList.drop j))(hi:i<=a.size)(z:j<b.size)(B:jK rk false b[j] a i (a.size-i) k k):MG rk (a.toList++b.toList) (o++a.extract i (i+k)).toList (a.toList.drop (i+k)) (b.toList.drop j):=by let v:=m.sb;rw[Ah z]at v;rw[<-take_append_drop k (a.toList.drop i),drop_drop]at m;rw[toList_append,toList_extract,extract_eq_take_drop,show i+k-i=k by lia];show MG.takeA m ?_;rw[Ah z];show Bs B ∅ v
def FM(m:MG rk (a.toList++b.toList) o.toList (a.toList.drop i) (b.toList.drop j))(hi:i<a.size)(B:j<=b.size)(z:jK rk true a[i] b j (b.size-j) k k):MG rk (a.toList++b.toList) (o++b.extract j (j+k)).toList (a.toList.drop i) (b.toList.drop (j+k)):=by let v:=m.sa;rw[Ah hi]at v;rw[<-take_append_drop k (b.toList.drop j),drop_drop]at m;rw[toList_append,toList_extract,extract_eq_take_drop,show j+k-j=k by lia];show MG.takeB m ?_;rw[Ah hi];show Bs z ∅ v
def fU{α:Type}(rk:Keyed->Int)(a b:Array Keyed)(n:Nat)(r:ForInStep (Option (Array Keyed)×Array Keyed×Nat×Nat×α)):Prop:=match r with
 |.done (some r,_)=>fM rk a b r
 |.done (none,o,i,j,_)=>Go rk a b o i j/\n<o.size
 |.yield (q,o,i,j,_)=>q=none/\Go rk a b o i j/\n<o.size
structure sR(C:Cmp M A E s κ ok rk)(a b:Array Keyed):Prop where
 oa:∀i(h:i<a.size),ok a[i]
 ob:∀i(h:i<b.size),ok b[i]
 hl:∀y∈b.toList,rk y<aP rk a (a.size-1)
def FD{C:Cmp M A E s κ ok rk}(H:sR C a b){st:SortSt}(F:kindOf st=κ)(G:Go rk a b o i j)(r:Option (Array Keyed)):wpS M A E s (ab a b g (r,o,i,j,c,d)) (λr B=>B=st/\fU rk a b o.size r) st:=by
 let hi:i<a.size:=by let:=G.i;lia
 let J:=G.j;show wpS_bind (Ab G.j ?_);show wpS_bind (Ab hi ?_);show wpS_bind (C.lt _ _ _ _ F (H.ob _ G.j) (H.oa _ hi) ?_);by_cases v:rk b[j]<rk a[i]
 .rw[qP v];show wpS_bind (Ab G.j ?_);let m:=DP G.m hi G.j (Int.le_of_lt v);let sz:o.size<(o.push b[j]).size:=by simp
  by_cases h1:j+1=b.size
  .simp only[h1,beq_self_eq_true];show wpS_pure #[rfl,h1▸EB m h1]
  .simp[beq_eq_false_iff_ne.mpr h1,false_eq_true,if_false];let z:Go rk a b (o.push b[j]) i (j+1):=#[m,G.i,by let:=G.j;lia]
   split
   .show wpS_pure #[rfl,z,sz]
   .show wpS_pure #[rfl,rfl,z,sz]
 .rw[qQ v];show wpS_bind (Ab hi ?_);let m:=EX G.m hi G.j ∅;let sz:o.size<(o.push a[i]).size:=by simp
  by_cases h1:i+1+1=a.size
  .simp only[h1,beq_self_eq_true];show wpS_pure #[rfl,EA m h1 H.hl]
  .simp[beq_eq_false_iff_ne.mpr h1,false_eq_true,if_false];let z:Go rk a b (o.push a[i]) (i+1) j:=#[m,by let:=G.i;lia,G.j]
   split
   .show wpS_pure #[rfl,z,sz]
   .show wpS_pure #[rfl,rfl,z,sz]
def CM{left:Bool}{key:Keyed}{v:Array Keyed}{base:Nat}(B:jK rk left key v base n k k)(z:k<n)(hn:base+n<=v.size):rk key<=rk (v[base+k]'∅):=by let:=B.2.2.2 k (q5 _) z;unfold cZ at this;rw[Ad (show base+k<v.size by lia)]at this;cases left<;>simp at this<;>lia
def DW{C:Cmp M A E s κ ok rk}(H:sR C a b){st:SortSt}(m:MG rk (a.toList++b.toList) o.toList (a.toList.drop i) (b.toList.drop j))(hi:i+1<a.size)(z:j<b.size)(h:rk a[i]<=rk b[j])(hn:n<=o.size):wpS M A E s (yL a b g c d i o j) (λr v=>v=st/\fU rk a b n r) st:=by
 show wpS_bind (Ab (show i<a.size by lia) ?_);let m:=EX m (show i<a.size by lia) z h;let sz:n<(o.push a[i]).size:=by simp;lia
 by_cases h1:i+1+1=a.size
 .simp only[h1,beq_self_eq_true];show wpS_pure #[rfl,EA m h1 H.hl]
 .simp[beq_eq_false_iff_ne.mpr h1,false_eq_true,if_false];let B:Go rk a b (o.push a[i]) (i+1) j:=#[m,∅,z]
  split
  .show wpS_pure #[rfl,B,sz]
  .show wpS_pure #[rfl,rfl,B,sz]
def DX{C:Cmp M A E s κ ok rk}(H:sR C a b){st:SortSt}(B:kindOf st=κ)(m:MG rk (a.toList++b.toList) o.toList (a.toList.drop i) (b.toList.drop j))(hi:i+1<a.size)(G:j<b.size)(h:rk b[j]<=rk a[i])(hn:n<=o.size):wpS M A E s (yM a b g c d j o i) (λr z=>z=st/\fU rk a b n r) st:=by
 show wpS_bind (Ab G ?_);let m:=DP m (show i<a.size by lia) G h;let sz:n<=(o.push b[j]).size:=by simp;lia
 by_cases h1:j+1=b.size
 .simp only[h1,beq_self_eq_true];show wpS_pure #[rfl,h1▸EB m h1]
 .simp only[beq_eq_false_iff_ne.mpr h1,if_false];show wpS_bind (Ab (show i<a.size by lia) ?_);show wpS_bind (Am C (H.oa _ _) H.ob ∅ ∅ (DK m.sb ∅) B λk v=>?_);let L:=v.2.1;by_cases J:k>0
  .simp only[J];let F:=FM m (show i<a.size by lia) ∅ v;by_cases h2:j+1+k=b.size
   .simp only[h2,beq_self_eq_true];show wpS_pure #[rfl,h2▸EB F h2]
   .simp only[beq_eq_false_iff_ne.mpr h2,if_false];show DW H F hi ∅ (CM v ∅ ∅) (by simp;lia -verbose)
  .simp;obtain rfl:k=0:=by lia
   show DW H m hi ∅ (CM v ∅ ∅) sz
def FC{C:Cmp M A E s κ ok rk}(H:sR C a b){st:SortSt}(B:kindOf st=κ)(G:Go rk a b o i j):wpS M A E s (lo1 a b o i j c d g) (λr v=>bA st v/\fU rk a b o.size r) st:=by
 have hi:=G.i;let J:=G.j;show wpS_bind (AA λh3 ks=>?_);show wpS_bind (Ab J ?_);show wpS_bind (Am C (H.ob _ _) H.oa ∅ ∅ (DK G.m.sa ∅) (ks.1.trans B) λk O=>?_);let L:i+k<a.size:=by
  rcases lt_or_ge (i+k) a.size with h|h
  .show h
  .let h1:=O.2.2.1 (a.size-1-i) ∅;let h2:=H.hl b[j] (by simp);unfold cZ at h1;rw[show i+(a.size-1-i)=a.size-1 by lia]at h1;lia
 let F:=CM O ∅ ∅;by_cases k0:k>0
 .simp only[k0];let Y:=FN G.m ∅ J O;by_cases h1:i+k+1=a.size
  .simp only[h1,beq_self_eq_true];show wpS_pure #[ks,EA Y h1 H.hl]
  .simp only[beq_eq_false_iff_ne.mpr h1,beq_eq_false_iff_ne.mpr (show i+k≠a.size by lia),if_false];show wpS_mono (DX (n:=o.size) H (ks.1.trans B) Y ∅ J F (by simp)) λr v z=>#[z.1▸ks,z.2]
 .simp;obtain rfl:k=0:=by lia
  show wpS_mono (DX (n:=o.size) H (ks.1.trans B) G.m ∅ J F (q5 _)) λr v z=>#[z.1▸ks,z.2]
def uX{α:Type}(rk:Keyed->Int)(a b:Array Keyed)(n:Nat)(r:ForInStep (Option (Array Keyed)×Array Keyed×Nat×Nat×α)):Prop:=match r with
 |.done c=>∃r,c.1=some r/\fM rk a b r
 |.yield c=>c.1=none/\Go rk a b c.2.1 c.2.2.1 c.2.2.2.1/\n<c.2.1.size
def FB{C:Cmp M A E s κ ok rk}(H:sR C a b){st st':SortSt}(hst:kindOf st=κ)(ks:bA st st')(G:Go rk a b o i j)(ht:0<t)(q:Option (Array Keyed)):wpS M A E s (yK a b t (q,o,i,j,g)) (λr st'=>bA st st'/\uX rk a b o.size r) st':=by
 refine wpS_bind (wpS_mono (wpS_forRange (I:=λ_ c st1=>c.1=none/\st1=st'/\Go rk a b c.2.1 c.2.2.1 c.2.2.2.1/\o.size<=c.2.1.size)
  (Q:=λc st1=>st1=st'/\((∃r,c.1=some r/\fM rk a b r)\/c.1=none/\Go rk a b c.2.1 c.2.2.1 c.2.2.2.1/\o.size<=c.2.1.size)) ?step1 (λc st1⟨h1,h2,h3,h4⟩=>#[h2,.inr #[h1,h3,h4]]) #[rfl,rfl,G,q5 _]) ?post1)
 case step1=>
  rintro y ⟨q,o1,i1,j1,c1,d1⟩ st1 _ _ ⟨_,rfl,G1,ho1⟩;show wpS_mono (FD (g:=g) (c:=c1) (d:=d1) H (ks.1.trans hst) G1 q) λr st2⟨e,z⟩=>?_;subst e;unfold fU at z;split at z
  .show#[rfl,.inl #[_,rfl,z]]
  .show#[rfl,.inr #[rfl,z.1,le_of_lt (lt_of_le_of_lt ho1 z.2)]]
  .show#[z.1,rfl,z.2.1,le_of_lt (lt_of_le_of_lt ho1 z.2.2)]
 rintro⟨q,o1,i1,j1,c1,d1⟩ st1 ⟨rfl,⟨r,hq,hr⟩|⟨hq,G1,ho1⟩⟩
 .cases hq;show wpS_pure #[ks,r,rfl,hr]
 cases hq;show wpS_bind (Ax ?_);refine wpS_bind (wpS_mono (wpS_forRange (I:=λy c st2=>c.1=none/\bA st st2/\Go rk a b c.2.1 c.2.2.1 c.2.2.2.1/\o.size<=c.2.1.size/\(0<y->o.size<c.2.1.size))
  (Q:=λc st2=>bA st st2/\((∃r,c.1=some r/\fM rk a b r)\/c.1=none/\Go rk a b c.2.1 c.2.2.1 c.2.2.2.1/\o.size<c.2.1.size)) ?step2 (λc st2⟨h1,h2,h3,_,h5⟩=>#[h2,.inr #[h1,h3,h5 ∅]]) #[rfl,ks,G1,ho1,λz=>absurd z (lt_irrefl 0)]) ?post2)
 case step2=>
  rintro y ⟨q,o2,i2,j2,g2,c2,d2⟩ st2 _ _ ⟨_,k2,G2,ho2,_⟩;show wpS_mono (FC (c:=c2) (d:=d2) H (k2.1.trans hst) G2) λr st3⟨k3,z⟩=>?_;let k3:=k2.trans k3;unfold fU at z;split at z
  .show#[k3,.inl #[_,rfl,z]]
  .show#[k3,.inr #[rfl,z.1,lt_of_le_of_lt ho2 z.2]]
  .show#[z.1,k3,z.2.1,le_of_lt (lt_of_le_of_lt ho2 z.2.2),λ_=>lt_of_le_of_lt ho2 z.2.2]
 rintro⟨q,o2,i2,j2,g2,c2,d2⟩ st2 ⟨k2,⟨r,hq,hr⟩|⟨hq,G2,ho2⟩⟩
 .cases hq;show wpS_pure #[k2,r,rfl,hr]
 cases hq;show wpS_bind (AA λst3 k3=>wpS_pure #[k2.trans k3,rfl,G2,ho2])
def BY{C:Cmp M A E s κ ok rk}(H:sR C a b)(sa:fF rk a.toList)(sb:fF rk b.toList)(ha:0<a.size)(hb:0<b.size)(h0:rk b[0]<=rk a[0])
  {Q:Array Keyed->SortSt->Prop}{st:SortSt}(hst:kindOf st=κ)(h:∀r st',fM rk a b r->bA st st'->Q r st'):wpS M A E s (eW a b) Q st:=by
 have m0:MG rk (a.toList++b.toList) [b[0]].toArray.toList (a.toList.drop 0) (b.toList.drop 1):=by
  let m:MG rk (a.toList++b.toList) (#[]:Array Keyed).toList (a.toList.drop 0) (b.toList.drop 0):=#[by simp,List.Pairwise.nil,sa,sb,(λ_ z=>nomatch z),λ_ z=>nomatch z]
  show DP m ha hb h0
 rw[Ck];show wpS_bind (Ax ?_);show wpS_bind (Ab hb ?_);by_cases h1:1=b.size
 .rw[qY (by rw[h1];show beq_self_eq_true _)];show wpS_pure (h _ _ (EB m0 h1) #[rfl,rfl,rfl,rfl])
 rw[qZ ↑h1];by_cases h2:0+1=a.size
 .rw[qY (by rw[h2];show beq_self_eq_true _)];show wpS_pure (h _ _ (EA m0 h2 H.hl) #[rfl,rfl,rfl,rfl])
 rw[qZ ↑h2];show wpS_bind (wpS_get ?_);refine wpS_bind (wpS_mono (wpS_forRange (I:=λx c st'=>c.1=none/\bA st st'/\Go rk a b c.2.1 c.2.2.1 c.2.2.2.1/\x<c.2.1.size)
  (Q:=λc st'=>bA st st'/\∃r,c.1=some r/\fM rk a b r) ?step ?fin #[rfl,#[rfl,rfl,rfl,rfl],#[m0,∅,∅],by simp]) ?post)
 case fin=>rintro⟨r,o,i,j,g⟩ st' ⟨_,_,G,hx⟩;let h1:=G.m.perm.length_eq;simp at h1 hx h2;lia
 case post=>rintro⟨q,o,i,j,g⟩ st' ⟨ks,r,e,hr⟩;cases e;show wpS_pure (h r st' hr ks)
 case step=>
  rintro x ⟨q,o,i,j,g⟩ st' _ hx ⟨_,ks,G,ho⟩;show wpS_mono (FB H hst ks G ∅ q) λr st2⟨k,z⟩=>?_;cases r with
  |done c=>show#[k,z]
  |yield c=>show#[z.1,k,z.2.1,lt_of_le_of_lt ho z.2.2]
end
def eX:Array Keyed->Array Keyed->StateT SortSt Sem (Array Keyed):=sortPriv%PySem.Builtin.mergeHi
def lK(a b o:Array Keyed)(i j:Nat):Array Keyed:=a.extract 0 i++b.extract 0 j++o.reverse
def sC(a b o:Array Keyed)(i j:Nat):Array Keyed:=b.extract 0 j++a.extract 0 i++o.reverse
abbrev Mh:=Nat×Nat×Array Keyed×Nat×Nat×Nat
def yZ(a b:Array Keyed)(g c d i j:Nat)(o:Array Keyed):StateT SortSt Sem (LS Mh):=do
 let x<-elem' a (i-1)
 if i-1==0 then return .done (some (lK a b (o.push x) (i-1) j),i-1,j,o.push x,g,c,d)
 if c<7&&d<7 then return .done (none,i-1,j,o.push x,g,c,d)
 return .yield (none,i-1,j,o.push x,g,c,d)
def uJ(a b:Array Keyed)(g c d j i:Nat)(o:Array Keyed):StateT SortSt Sem (LS Mh):=do
 let x<-elem' b (j-1)
 if j-1==1 then return .done (some (sC a b (o.push x) i (j-1)),i,j-1,o.push x,g,c,d)
 match<-cK true (<-elem' a (i-1)) b 0 (j-1) (j-1-1)with
 |some p=>
  if j-1-p>0 then
   if p==1 then return .done (some (sC a b (o.push x++(b.extract p (j-1)).reverse) i p),i,p,o.push x++(b.extract p (j-1)).reverse,g,c,j-1-p)
   if p==0 then return .done (some (lK a b (o.push x++(b.extract p (j-1)).reverse) i p),i,p,o.push x++(b.extract p (j-1)).reverse,g,c,j-1-p)
   yZ a b g c (j-1-p) i p (o.push x++(b.extract p (j-1)).reverse)
  else yZ a b g c (j-1-p) i (j-1) (o.push x)
 |_=>return .done (some (lK a b (o.push x) i (j-1)),i,j-1,o.push x,g,c,d)
def vZ(a b:Array Keyed)(i j:Nat)(o:Array Keyed)(c d g:Nat):StateT SortSt Sem (LS Mh):=do
 eT g
 match<-cK false (<-elem' b (j-1)) a 0 i (i-1)with
 |some p=>
  if i-p>0 then
   if p==0 then return .done (some (lK a b (o++(a.extract p i).reverse) p j),p,j,o++(a.extract p i).reverse,g,i-p,d)
   uJ a b g (i-p) d j p (o++(a.extract p i).reverse)
  else uJ a b g (i-p) d j i o
 |_=>return .done (some (lK a b o i j),i,j,o,g,c,d)
def ax(a b:Array Keyed)(g:Nat)(s:Option (Array Keyed)×Nat×Nat×Array Keyed×Nat×Nat):StateT SortSt Sem (LS (Nat×Nat×Array Keyed×Nat×Nat)):=do
 match<-lt' (<-elem' b (s.2.2.1-1)) (<-elem' a (s.2.1-1))with
 |some y=>
  if y then
   let x<-elem' a (s.2.1-1)
   if s.2.1-1==0 then return .done (some (lK a b (s.2.2.2.1.push x) (s.2.1-1) s.2.2.1),s.2.1-1,s.2.2.1,s.2.2.2.1.push x,s.2.2.2.2.1+1,0)
   if s.2.2.2.2.1+1≥g then return .done (none,s.2.1-1,s.2.2.1,s.2.2.2.1.push x,s.2.2.2.2.1+1,0)
   return .yield (none,s.2.1-1,s.2.2.1,s.2.2.2.1.push x,s.2.2.2.2.1+1,0)
  else
   let x<-elem' b (s.2.2.1-1)
   if s.2.2.1-1==1 then return .done (some (sC a b (s.2.2.2.1.push x) s.2.1 (s.2.2.1-1)),s.2.1,s.2.2.1-1,s.2.2.2.1.push x,0,s.2.2.2.2.2+1)
   if s.2.2.2.2.2+1≥g then return .done (none,s.2.1,s.2.2.1-1,s.2.2.2.1.push x,0,s.2.2.2.2.2+1)
   return .yield (none,s.2.1,s.2.2.1-1,s.2.2.2.1.push x,0,s.2.2.2.2.2+1)
 |_=>return .done (some (lK a b s.2.2.2.1 s.2.1 s.2.2.1),s.2.1,s.2.2.1,s.2.2.2.1,s.2.2.2.2.1,s.2.2.2.2.2)
def vY(a b:Array Keyed)(s:Option (Array Keyed)×Mh):StateT SortSt Sem (LS Mh):=vZ a b s.2.1 s.2.2.1 s.2.2.2.1 s.2.2.2.2.2.1 s.2.2.2.2.2.2 (if s.2.2.2.2.1>1 then s.2.2.2.2.1-1 else s.2.2.2.2.1)
def yY(a b:Array Keyed)(t:Nat)(s:Option (Array Keyed)×Nat×Nat×Array Keyed×Nat):StateT SortSt Sem (LS (Nat×Nat×Array Keyed×Nat)):=
 (forIn [:t] (none,s.2.1,s.2.2.1,s.2.2.2.1,0,0) λ_=>ax a b s.2.2.2.2)>>=λr=>Break.runK.match_1 (λ_=>StateT SortSt Sem (LS (Nat×Nat×Array Keyed×Nat))) r.1 (λx=>pure (.done (some x,r.2.1,r.2.2.1,r.2.2.2.1,s.2.2.2.2))) λ_=>do
  rule "list.sort.gallop"
  (forIn [:t] (none,r.2.1,r.2.2.1,r.2.2.2.1,s.2.2.2.2+1,r.2.2.2.2) λ_=>vY a b)>>=λq=>Break.runK.match_1 (λ_=>StateT SortSt Sem (LS (Nat×Nat×Array Keyed×Nat))) q.1 (λx=>pure (.done (some x,q.2.1,q.2.2.1,q.2.2.2.1,q.2.2.2.2.1))) λ_=>do
   eT (q.2.2.2.2.1+1)
   return .yield (none,q.2.1,q.2.2.1,q.2.2.2.1,q.2.2.2.2.1+1)
def Cm(a b:Array Keyed):eX a b=(do
 rule "list.sort.merge-hi"
 let x<-elem' a (a.size-1)
 if a.size-1==0 then return lK a b [x].toArray (a.size-1) b.size
 if b.size==1 then return sC a b [x].toArray (a.size-1) b.size
 let s<-get
 (forIn [:a.size+b.size] (none,a.size-1,b.size,[x].toArray,gallopOf s) λ_=>yY a b (a.size+b.size))>>=λr=>Break.runK.match_1 (λ_=>StateT SortSt Sem (Array Keyed)) r.1 (λr=>pure r) λ_=>unsupported "internal:list.sort.merge-bound"):=by
 let e:∀(s:Option (Array Keyed)×Mh),vY a b s=(if s.2.2.2.2.1>1 then vZ a b s.2.1 s.2.2.1 s.2.2.2.1 s.2.2.2.2.2.1 s.2.2.2.2.2.2 (s.2.2.2.2.1-1)else vZ a b s.2.1 s.2.2.1 s.2.2.2.1 s.2.2.2.2.2.1 s.2.2.2.2.2.2 s.2.2.2.2.1):=λs=>by unfold vY;by_cases hg:s.2.2.2.2.1>1<;>simp[hg,if_true,if_false]
 unfold yY;rw[show vY a b=_ from funext e];rfl
def ng(rk:Keyed->Int)(x:Keyed):Int:=-rk x
@[inline]def MH(rk:Keyed->Int)(a b o:Array Keyed)(i j:Nat):Prop:=MG (ng rk) (a.toList++b.toList) o.toList (a.toList.take i).reverse (b.toList.take j).reverse
def Ag{α:Type}{a:Array α}{i:Nat}(v:0<i)(h:i<=a.size):(a.toList.take i).reverse=a[i-1]::(a.toList.take (i-1)).reverse:=by
 obtain⟨m,rfl⟩:∃m,i=m+1:=#[i-1,∅]
 rw[List.take_succ_eq_append_getElem (by simp;lia -verbose)];simp
def BP{l:List Keyed}(h:fF (ng rk) l):fF rk l.reverse:=by unfold fF at*;rw[List.pairwise_reverse];show h.imp λ{x y} z=>by unfold ng at z;lia
def Dc(m:MH rk a b o i j)(h:i=0):fM rk a b (lK a b o i j):=by
 let#[p,q]:=MG.end m λx z y v=>by subst h;simp at v
 let e:(lK a b o i j).toList=(o.toList++(b.toList.take j).reverse++(a.toList.take i).reverse).reverse:=by unfold lK;simp
 unfold fM;rw[e];show#[(reverse_perm _).trans p,BP q]
def Da(m:MH rk a b o i j)(B:0<b.size)(h:j=1)(F:∀x∈a.toList,rk b[0]<rk x):fM rk a b (sC a b o i j):=by
 obtain⟨p,q⟩:=MG.end (MG.swap m) λx z y v=>by
  subst h;rw[Ag ⋯ B]at v;obtain rfl:y=b[0]:=↑v
  let:=F x (List.mem_of_mem_take (List.mem_reverse.mp z));unfold ng;lia
 let e:(sC a b o i j).toList=(o.toList++(a.toList.take i).reverse++(b.toList.take j).reverse).reverse:=by unfold sC;simp
 unfold fM;rw[e];show#[(reverse_perm _).trans p,BP q]
def CI(m:MH rk a b o i j)(F:0<i)(hi:i<=a.size)(z:0<j)(B:j<=b.size)(h:rk b[j-1]<=rk a[i-1]):MH rk a b (o.push a[i-1]) (i-1) j:=by unfold MH at*;let v:=m.sb;rw[Ag z B]at v;rw[Ag F hi]at m;rw[toList_push];show MG.takeA (p:=[a[i-1]]) m λx G=>?_;rw[qu.mp G,Ag z B];show Ay (by unfold ng;lia) v
def Ed(m:MH rk a b o i j)(z:0<i)(hi:i<=a.size)(B:0<j)(G:j<=b.size)(h:rk a[i-1]<=rk b[j-1]):MH rk a b (o.push b[j-1]) i (j-1):=by unfold MH at*;let v:=m.sa;rw[Ag z hi]at v;rw[Ag B G]at m;rw[toList_push];show MG.takeB (p:=[b[j-1]]) m λx F=>?_;rw[qu.mp F,Ag z hi];show Ay (by unfold ng;lia) v
def BG{α:Type}{a:Array α}{p i:Nat}(v:p<=i):(a.toList.take i).reverse=(a.extract p i).reverse.toList++(a.toList.take p).reverse:=by
 let:a.toList.take i=a.toList.take p++(a.toList.drop p).take (i-p):=by rw[<-List.take_add,show p+(i-p)=i by lia]
 simp_all
def CU{a:Array Keyed}{i:Nat}(h:fF (ng rk) (a.toList.take i).reverse)(hi:i<=a.size):Up rk a 0 (0+i):=λx y h1 h2 v=>by
 rw[Ad (show x<a.size by lia),Ad (show y<a.size by lia)];by_cases e:x=y
 .subst e;show Int.le_refl _
 .let:=pairwise_iff_getElem.mp (BP h) x y (by simp;lia -verbose) (by simp;lia -verbose) ∅;simpa using this
def Bi{left:Bool}{a:Array Keyed}{p i:Nat}{key:Keyed}{l:List Keyed}(F:jK rk left key a 0 i p p)(hi:i<=a.size)(hs:fF (ng rk) (key::l)):Below (ng rk) (a.extract p i).reverse.toList (key::l):=λx B=>by
 let v:x∈(a.toList.drop p).take (i-p):=by simpa[extract_eq_take_drop] using B
 let#[y,z,rfl]:=List.mem_iff_getElem.mp v;rw[qG,qF]at z;let h1:=F.2.2.2 (p+y) ∅ ∅;unfold cZ at h1;rw[zero_add,Ad (show p+y<a.size by lia)]at h1;show Ay ?_ hs;simp;unfold ng;cases left<;>simp at h1<;>lia
def BS{left:Bool}{key:Keyed}{v:Array Keyed}{p n:Nat}(z:jK rk left key v 0 n p p)(B:0<p)(hn:n<=v.size):rk (v[p-1]'(by let:=z.2.1;lia))<=rk key:=by let F:=z.2.1;let:=z.2.2.1 (p-1) ∅;unfold cZ at this;rw[zero_add,Ad (show p-1<v.size by lia)]at this;cases left<;>simp at this<;>lia
def EG(m:MH rk a b o i j)(hi:i<=a.size)(z:0<j)(B:j<=b.size){p:Nat}(F:jK rk false b[j-1] a 0 i p p):MH rk a b (o++(a.extract p i).reverse) p j:=by unfold MH at*;let v:=m.sb;rw[Ag z B]at v;rw[BG F.2.1]at m;rw[toList_append];show MG.takeA m ?_;rw[Ag z B];show Bi F hi v
def EF(m:MH rk a b o i j)(z:0<i)(hi:i<=a.size)(F:j<=b.size){p:Nat}(B:jK rk true a[i-1] b 0 j p p):MH rk a b (o++(b.extract p j).reverse) i p:=by unfold MH at*;let v:=m.sa;rw[Ag z hi]at v;rw[BG B.2.1]at m;rw[toList_append];show MG.takeB m ?_;rw[Ag z hi];show Bi B F v
structure Gh(rk:Keyed->Int)(a b o:Array Keyed)(i j:Nat):Prop where
 m:MH rk a b o i j
 i0:0<i
 i:i<=a.size
 j0:1<j
 j:j<=b.size
def fT{α:Type}(rk:Keyed->Int)(a b:Array Keyed)(n:Nat)(r:ForInStep (Option (Array Keyed)×Nat×Nat×Array Keyed×α)):Prop:=match r with
 |.done (some r,_)=>fM rk a b r
 |.done (none,i,j,o,_)=>Gh rk a b o i j/\n<o.size
 |.yield (q,i,j,o,_)=>q=none/\Gh rk a b o i j/\n<o.size
structure sS(C:Cmp M A E s κ ok rk)(a b:Array Keyed):Prop where
 oa:∀i(h:i<a.size),ok a[i]
 ob:∀i(h:i<b.size),ok b[i]
 b0:0<b.size
 h0:∀x∈a.toList,rk b[0]<rk x
def FJ{C:Cmp M A E s κ ok rk}(H:sS C a b){st:SortSt}(J:kindOf st=κ)(G:Gh rk a b o i j)(r:Option (Array Keyed)):wpS M A E s (ax a b g (r,i,j,o,c,d)) (λr B=>B=st/\fT rk a b o.size r) st:=by
 let#[m,F,hi,O,L]:=G;show wpS_bind (Ab (show j-1<b.size by lia) ?_);show wpS_bind (Ab (show i-1<a.size by lia) ?_);show wpS_bind (C.lt _ _ _ _ J (H.ob _ _) (H.oa _ _) ?_);by_cases v:rk b[j-1]<rk a[i-1]
 .rw[qP v];show wpS_bind (Ab (show i-1<a.size by lia) ?_);let m:=CI m F hi ∅ L (Int.le_of_lt v);let sz:o.size<(o.push a[i-1]).size:=by simp
  by_cases h1:i-1=0
  .rw[qY (by simp[h1])];show wpS_pure #[rfl,Dc m h1]
  .rw[qZ ↑h1];let z:Gh rk a b (o.push a[i-1]) (i-1) j:=#[m,∅,∅,O,L]
   split
   .show wpS_pure #[rfl,z,sz]
   .show wpS_pure #[rfl,rfl,z,sz]
 .rw[qQ v];show wpS_bind (Ab (show j-1<b.size by lia) ?_);let m:=Ed m F hi ∅ L ∅;let sz:o.size<(o.push b[j-1]).size:=by simp
  by_cases h1:j-1=1
  .rw[qY (by simp[h1])];show wpS_pure #[rfl,Da m H.b0 h1 H.h0]
  .rw[qZ ↑h1];let z:Gh rk a b (o.push b[j-1]) i (j-1):=#[m,F,hi,∅,∅]
   split
   .show wpS_pure #[rfl,z,sz]
   .show wpS_pure #[rfl,rfl,z,sz]
def Ee{C:Cmp M A E s κ ok rk}(H:sS C a b){st:SortSt}(m:MH rk a b o i j)(G:0<i)(hi:i<=a.size)(F:1<j)(z:j<=b.size)(h:rk b[j-1]<=rk a[i-1])(hn:n<=o.size):wpS M A E s (yZ a b g c d i j o) (λr v=>v=st/\fT rk a b n r) st:=by
 show wpS_bind (Ab (show i-1<a.size by lia) ?_);let m:=CI m G hi ∅ z h;let sz:n<(o.push a[i-1]).size:=by simp;lia
 by_cases h1:i-1=0
 .rw[qY (by simp[h1])];show wpS_pure #[rfl,Dc m h1]
 .rw[qZ ↑h1];let B:Gh rk a b (o.push a[i-1]) (i-1) j:=#[m,∅,∅,F,z]
  split
  .show wpS_pure #[rfl,B,sz]
  .show wpS_pure #[rfl,rfl,B,sz]
def Ef{C:Cmp M A E s κ ok rk}(H:sS C a b){st:SortSt}(G:kindOf st=κ)(m:MH rk a b o i j)(v:0<i)(hi:i<=a.size)(j0:1<j)(hj:j<=b.size)(h:rk a[i-1]<=rk b[j-1])(hn:n<=o.size):wpS M A E s (uJ a b g c d j i o) (λr F=>F=st/\fT rk a b n r) st:=by
 show wpS_bind (Ab (show j-1<b.size by lia) ?_);let m:=Ed m v hi ∅ hj h;let sz:n<=(o.push b[j-1]).size:=by simp;lia
 by_cases h1:j-1=1
 .rw[qY (by simp[h1])];show wpS_pure #[rfl,Da m H.b0 h1 H.h0]
 .rw[qZ ↑h1];show wpS_bind (Ab (show i-1<a.size by lia) ?_);show wpS_bind (Am C (H.oa _ _) H.ob ∅ ∅ (CU m.sb ∅) G λp B=>?_);let hp:=B.2.1;let Y:0<p:=by
   rcases Nat.eq_zero_or_pos p with z|z
   .let h2:=B.2.2.2 0 ∅ ∅;let h3:=H.h0 a[i-1] (by simp);unfold cZ at h2;rw[Ad (show 0+0<b.size by lia)]at h2;lia
   .show z
  let O:=BS B Y ∅;by_cases L:j-1-p>0
  .simp only[L,if_true];let J:=EF m v hi ∅ B;by_cases h2:p=1
   .rw[qY (by simp[h2])];show wpS_pure #[rfl,Da J H.b0 h2 H.h0]
   .rw[qZ ↑h2,qZ (by simp;lia -verbose)];show Ee H J v hi ∅ ∅ O (by simp;lia -verbose)
  .simp only[L];obtain rfl:p=j-1:=by lia
   show Ee H m v hi ∅ ∅ O sz
def FH{C:Cmp M A E s κ ok rk}(H:sS C a b){st:SortSt}(B:kindOf st=κ)(G:Gh rk a b o i j):wpS M A E s (vZ a b i j o c d g) (λr v=>bA st v/\fT rk a b o.size r) st:=by
 let#[m,i0,hi,Y,J]:=G;show wpS_bind (AA λh2 ks=>?_);show wpS_bind (Ab (show j-1<b.size by lia) ?_);show wpS_bind (Am C (H.ob _ _) H.oa ∅ ∅ (CU m.sa hi) (ks.1.trans B) λp F=>?_);let hp:=F.2.1;by_cases O:i-p>0
 .simp[O,if_true];let L:=EG m hi ∅ J F;by_cases h1:p=0
  .rw[qY (by simp[h1])];show wpS_pure #[ks,Dc L h1]
  .rw[qZ ↑h1];show wpS_mono (Ef (n:=o.size) H (ks.1.trans B) L ∅ ∅ Y J (BS F ∅ hi) (by simp)) λr v z=>#[z.1▸ks,z.2]
 .simp only[O];obtain rfl:p=i:=by lia
  show wpS_mono (Ef (n:=o.size) H (ks.1.trans B) m i0 hi Y J (BS F i0 hi) (q5 _)) λr v z=>#[z.1▸ks,z.2]
def uW{α:Type}(rk:Keyed->Int)(a b:Array Keyed)(n:Nat)(r:ForInStep (Option (Array Keyed)×Nat×Nat×Array Keyed×α)):Prop:=match r with
 |.done c=>∃r,c.1=some r/\fM rk a b r
 |.yield c=>c.1=none/\Gh rk a b c.2.2.2.1 c.2.1 c.2.2.1/\n<c.2.2.2.1.size
def FF{C:Cmp M A E s κ ok rk}(H:sS C a b){st st':SortSt}(hst:kindOf st=κ)(ks:bA st st')(G:Gh rk a b o i j)(ht:0<t)(q:Option (Array Keyed)):wpS M A E s (yY a b t (q,i,j,o,g)) (λr st'=>bA st st'/\uW rk a b o.size r) st':=by
 refine wpS_bind (wpS_mono (wpS_forRange (I:=λ_ c st1=>c.1=none/\st1=st'/\Gh rk a b c.2.2.2.1 c.2.1 c.2.2.1/\o.size<=c.2.2.2.1.size)
  (Q:=λc st1=>st1=st'/\((∃r,c.1=some r/\fM rk a b r)\/c.1=none/\Gh rk a b c.2.2.2.1 c.2.1 c.2.2.1/\o.size<=c.2.2.2.1.size)) ?step1 (λc st1⟨h1,h2,h3,h4⟩=>#[h2,.inr #[h1,h3,h4]]) #[rfl,rfl,G,q5 _]) ?post1)
 case step1=>
  rintro y ⟨q,i1,j1,o1,c1,d1⟩ st1 _ _ ⟨_,rfl,G1,ho1⟩;show wpS_mono (FJ (g:=g) (c:=c1) (d:=d1) H (ks.1.trans hst) G1 q) λr st2⟨e,z⟩=>?_;subst e;unfold fT at z;split at z
  .show#[rfl,.inl #[_,rfl,z]]
  .show#[rfl,.inr #[rfl,z.1,le_of_lt (lt_of_le_of_lt ho1 z.2)]]
  .show#[z.1,rfl,z.2.1,le_of_lt (lt_of_le_of_lt ho1 z.2.2)]
 rintro⟨q,i1,j1,o1,c1,d1⟩ st1 ⟨rfl,⟨r,hq,hr⟩|⟨hq,G1,ho1⟩⟩
 .cases hq;show wpS_pure #[ks,r,rfl,hr]
 cases hq;show wpS_bind (Ax ?_);refine wpS_bind (wpS_mono (wpS_forRange (I:=λy c st2=>c.1=none/\bA st st2/\Gh rk a b c.2.2.2.1 c.2.1 c.2.2.1/\o.size<=c.2.2.2.1.size/\(0<y->o.size<c.2.2.2.1.size))
  (Q:=λc st2=>bA st st2/\((∃r,c.1=some r/\fM rk a b r)\/c.1=none/\Gh rk a b c.2.2.2.1 c.2.1 c.2.2.1/\o.size<c.2.2.2.1.size)) ?step2 (λc st2⟨h1,h2,h3,_,h5⟩=>#[h2,.inr #[h1,h3,h5 ∅]]) #[rfl,ks,G1,ho1,λz=>absurd z (lt_irrefl 0)]) ?post2)
 case step2=>
  rintro y ⟨q,i2,j2,o2,g2,c2,d2⟩ st2 _ _ ⟨_,k2,G2,ho2,_⟩;show wpS_mono (FH (c:=c2) (d:=d2) H (k2.1.trans hst) G2) λr st3⟨k3,z⟩=>?_;let k3:=k2.trans k3;unfold fT at z;split at z
  .show#[k3,.inl #[_,rfl,z]]
  .show#[k3,.inr #[rfl,z.1,lt_of_le_of_lt ho2 z.2]]
  .show#[z.1,k3,z.2.1,le_of_lt (lt_of_le_of_lt ho2 z.2.2),λ_=>lt_of_le_of_lt ho2 z.2.2]
 rintro⟨q,i2,j2,o2,g2,c2,d2⟩ st2 ⟨k2,⟨r,hq,hr⟩|⟨hq,G2,ho2⟩⟩
 .cases hq;show wpS_pure #[k2,r,rfl,hr]
 cases hq;show wpS_bind (AA λst3 k3=>wpS_pure #[k2.trans k3,rfl,G2,ho2])
def BZ{C:Cmp M A E s κ ok rk}(H:sS C a b)(sa:fF rk a.toList)(sb:fF rk b.toList)(ha:0<a.size)(hl:∀y∈b.toList,rk y<=rk (a[a.size-1]))
  {Q:Array Keyed->SortSt->Prop}{st:SortSt}(hst:kindOf st=κ)(h:∀r st',fM rk a b r->bA st st'->Q r st'):wpS M A E s (eX a b) Q st:=by
 let b0:=H.b0;let dual:∀{l:List Keyed},fF rk l->fF (ng rk) l.reverse:=λ{l} z=>by unfold fF at*;rw[List.pairwise_reverse];show z.imp λ{x y} z=>by unfold ng;lia
 have m0:MH rk a b [a[a.size-1]].toArray (a.size-1) b.size:=by
  let ta:∀a:Array Keyed,a.toList.take a.size=a.toList:=λa=>take_of_length_le (by simp);let m:MH rk a b #[] a.size b.size:=by unfold MH;rw[ta,ta];show#[by rw[nil_append];show List.Perm.append (reverse_perm _) (reverse_perm _),List.Pairwise.nil,dual sa,dual sb,(λ_ z=>nomatch z),λ_ z=>nomatch z]
  show CI m ha (q5 _) b0 (q5 _) (hl _ (by simp))
 rw[Cm];show wpS_bind (Ax ?_);show wpS_bind (Ab (show a.size-1<a.size by lia) ?_);by_cases h1:a.size-1=0
 .rw[qY (by simp[h1])];show wpS_pure (h _ _ (Dc m0 h1) #[rfl,rfl,rfl,rfl])
 rw[qZ ↑h1];by_cases h2:b.size=1
 .rw[qY (by simp[h2])];show wpS_pure (h _ _ (Da m0 b0 h2 H.h0) #[rfl,rfl,rfl,rfl])
 rw[qZ ↑h2];show wpS_bind (wpS_get ?_);refine wpS_bind (wpS_mono (wpS_forRange (I:=λx c st'=>c.1=none/\bA st st'/\Gh rk a b c.2.2.2.1 c.2.1 c.2.2.1/\x<c.2.2.2.1.size)
  (Q:=λc st'=>bA st st'/\∃r,c.1=some r/\fM rk a b r) ?step ?fin #[rfl,#[rfl,rfl,rfl,rfl],#[m0,∅,∅,∅,q5 _],by simp]) ?post)
 case fin=>rintro⟨r,i,j,o,g⟩ st' ⟨_,_,G,hx⟩;let h1:=G.m.perm.length_eq;let h3:=G.i;simp at h1 h2 h3 hx;lia
 case post=>rintro⟨q,i,j,o,g⟩ st' ⟨ks,r,e,hr⟩;cases e;show wpS_pure (h r st' hr ks)
 case step=>
  rintro x ⟨q,i,j,o,g⟩ st' _ hx ⟨_,ks,G,ho⟩;show wpS_mono (FF H hst ks G ∅ q) λr st2⟨k,z⟩=>?_;cases r with
  |done c=>show#[k,z]
  |yield c=>show#[z.1,k,z.2.1,lt_of_le_of_lt ho z.2.2]
def kK(lo n m:Nat):StateT SortSt Sem (Option Nat):=do
 reverseSlice' lo (lo+n)
 let u<-forIn [n:m] ((none,n):Option (Option Nat)×Nat) λ_ v=>do
  match<-ltAt' (lo+v.2) (lo+v.2-1)with
  |some y=>if y=true then pure (ForInStep.done (none,v.2))else pure (ForInStep.yield (none,v.2+1))
  |_=>pure (ForInStep.done (some none,v.2))
 Break.runK.match_1 (λ_=>StateT SortSt Sem (Option Nat)) u.1 (λr=>pure r) λ_=>pure (some u.2)
def uN(lo n m:Nat):StateT SortSt Sem (Option Nat):=do
 rule "list.sort.descending-run"
 let u<-forIn [n+1:m] ((none,n+1,0):Option (Option Nat)×Nat×Nat) λ_ v=>do
  match<-ltAt' (lo+v.2.1) (lo+v.2.1-1)with
  |some y=>
   if y=true then
    if v.2.2>0 then do
     reverseSlice' (lo+v.2.1-(v.2.2+1)) (lo+v.2.1)
     pure (ForInStep.yield (none,v.2.1+1,0))
    else pure (ForInStep.yield (none,v.2.1+1,0))
   else
    match<-ltAt' (lo+v.2.1-1) (lo+v.2.1)with
    |some z=>if z=true then pure (ForInStep.done (none,v.2.1,v.2.2))else pure (ForInStep.yield (none,v.2.1+1,v.2.2+1))
    |_=>pure (ForInStep.done (some none,v.2.1,v.2.2))
  |_=>pure (ForInStep.done (some none,v.2.1,v.2.2))
 Break.runK.match_1 (λ_=>StateT SortSt Sem (Option Nat)) u.1 (λr=>pure r) λ_=>if u.2.2>0 then reverseSlice' (lo+u.2.1-(u.2.2+1)) (lo+u.2.1)>>=λ_=>kK lo u.2.1 m else kK lo u.2.1 m
structure Sb(ok:Keyed->Prop)(lo:Nat)(st st':SortSt):Prop where
 perm:(arrOf st').Perm (arrOf st)
 pre:∀k,k<lo->(arrOf st')[k]?=(arrOf st)[k]?
 rest:kindOf st'=kindOf st/\pendingOf st'=pendingOf st/\failedOf st'=failedOf st
def Sb.refl{lo:Nat}{st:SortSt}:Sb ok lo st st:=#[.refl _,λ_ _=>rfl,rfl,rfl,rfl]
def Sb.size{lo:Nat}{st v:SortSt}(h:Sb ok lo st v):(arrOf v).size=(arrOf st).size:=h.perm.size_eq
def Sb.oks{lo:Nat}{st v:SortSt}(h:Sb ok lo st v)(o:∀x∈(arrOf st).toList,ok x):∀i(hi:i<(arrOf v).size),ok (arrOf v)[i]:=λi hi=>o _ ((perm_iff_toList_perm.mp h.perm).mem_iff.mp (by simp))
def AQ(C:Cmp M A E s κ ok rk){st:SortSt}(v:kindOf st=κ)(o:∀i(h:i<(arrOf st).size),ok (arrOf st)[i]){i j:Nat}(hi:i<(arrOf st).size)(z:j<(arrOf st).size){Q:Option Bool->SortSt->Prop}
  (h:Q (some (decide (aP rk (arrOf st) i<aP rk (arrOf st) j))) st):wpS M A E s (ltAt' i j) Q st:=by
 show wpS_bind (wpS_get ?_);show wpS_bind (Ab hi ?_);show wpS_bind (Ab z ?_);rw[Ad hi,Ad z]at h;show C.lt _ _ _ _ v (o _ _) (o _ _) h
def Ds{xs:Array Keyed}{i j:Nat}(v:j<=xs.size)(k:Nat):aP rk (mirror xs i j ((j-i)/2)) k=if i<=k/\k<j then aP rk xs (i+j-1-k)else aP rk xs k:=by unfold aP;rw[getElem?_mirror_all v];split<;>rfl
def Bb{lo i j:Nat}{st v:SortSt}(h:Sb ok lo st v)(hi:lo<=i)(B:j<=(arrOf st).size){Q:Unit->SortSt->Prop}
  (G:∀z,Sb ok lo st z->(∀k,aP rk (arrOf z) k=if i<=k/\k<j then aP rk (arrOf v) (i+j-1-k)else aP rk (arrOf v) k)->Q () z):wpS M A E s (reverseSlice' i j) Q v:=by
 rw[reverseSlice'_eq];show wpS_modify (G _ #[(mirror_perm _ _ _ _).trans h.perm,λk F=>?_,h.rest] λk=>Ds (by rw[h.size];show B) k);rw[getElem?_mirror_all (by rw[h.size];show B),qZ ∅];show h.pre k F
@[inline]def Dn(rk:Keyed->Int)(xs:Array Keyed)(lo hi:Nat):Prop:=∀i j,lo<=i->i<=j->j<hi->aP rk xs j<=aP rk xs i
def CV{xs:Array Keyed}{lo x:Nat}(G:1<=x)(v:Up rk xs lo (lo+x))(J:¬aP rk xs (lo+x)<aP rk xs (lo+x-1)):Up rk xs lo (lo+(x+1)):=λy z h1 h2 L=>by
 by_cases B:z<lo+x
 .show v y z h1 h2 B
 .obtain rfl:z=lo+x:=by lia
  by_cases F:y=lo+x
  .rw[F];show Int.le_refl _
  .let:=v y (lo+x-1) h1 ∅ ∅;lia
def Bf{xs:Array Keyed}{lo x:Nat}(G:1<=x)(v:Dn rk xs lo (lo+x))(J:aP rk xs (lo+x)<=aP rk xs (lo+x-1)):Dn rk xs lo (lo+(x+1)):=λy z h1 h2 L=>by
 by_cases B:z<lo+x
 .show v y z h1 h2 B
 .obtain rfl:z=lo+x:=by lia
  by_cases F:y=lo+x
  .rw[F];show Int.le_refl _
  .let:=v y (lo+x-1) h1 ∅ ∅;lia
def CY(C:Cmp M A E s κ ok rk){lo n m:Nat}{st st':SortSt}(hst:kindOf st=κ)(o:∀x∈(arrOf st).toList,ok x)(n1:1<=n)(nm:n<=m)(hs:lo+m=(arrOf st).size)(hb:Sb ok lo st st')(hd:Dn rk (arrOf st') lo (lo+n)){Q:Option Nat->SortSt->Prop}
  (h:∀n st',1<=n->n<=m->Sb ok lo st st'->Up rk (arrOf st') lo (lo+n)->Q (some n) st'):wpS M A E s (kK lo n m) Q st':=by
 show wpS_bind (Bb (rk:=rk) hb (q5 _) ∅ λst2 hb2 hr=>?_);let hu:Up rk (arrOf st2) lo (lo+n):=λx y h1 h2 h3=>by rw[hr,hr,qY #[h1,∅],qY #[∅,h3]];show hd _ _ ∅ ∅ ∅
 refine wpS_bind (wpS_mono (wpS_forRange (I:=λx c st'=>st'=st2/\c=(none,x)/\Up rk (arrOf st2) lo (lo+x))
  (Q:=λc st'=>st'=st2/\∃k,c=(none,k)/\1<=k/\k<=m/\Up rk (arrOf st2) lo (lo+k)) ?step ?fin #[rfl,rfl,hu]) ?post)
 case fin=>rintro c st' ⟨rfl,rfl,hu⟩;rw[show max n m=m by lia]at hu⊢;show#[rfl,m,rfl,∅,q5 _,hu]
 case step=>
  rintro x c st' hx1 hx ⟨rfl,rfl,hu⟩;let sz:=hb2.size;show wpS_bind (AQ C (hb2.rest.1.trans hst) (hb2.oks o) (by simp only;lia) (by simp only;lia) ?_);by_cases hl:aP rk (arrOf st') (lo+x)<aP rk (arrOf st') (lo+x-1)
  .rw[qP hl];show wpS_pure #[rfl,x,rfl,∅,∅,hu]
  .rw[qQ hl];show wpS_pure #[rfl,rfl,CV ∅ hu hl]
 case post=>rintro c st' ⟨rfl,k,rfl,k1,km,hu⟩;show wpS_pure (h k st' k1 km hb2 hu)
def Bk{xs ys:Array Keyed}{i j:Nat}(v:∀k,i<=k->k<j->aP rk xs k=aP rk xs (j-1))(z:∀k,aP rk ys k=if i<=k/\k<j then aP rk xs (i+j-1-k)else aP rk xs k)(k:Nat):aP rk ys k=aP rk xs k:=by
 rw[z];split
 .rw[v _ ∅ ∅,v k ∅ ∅]
 .rfl
def Dj(C:Cmp M A E s κ ok rk){lo n m:Nat}{st st':SortSt}(hst:kindOf st=κ)(o:∀x∈(arrOf st).toList,ok x)(n1:1<=n)(nm:n<m)(hs:lo+m=(arrOf st).size)(hb:Sb ok lo st st')(hd:Dn rk (arrOf st') lo (lo+(n+1))){Q:Option Nat->SortSt->Prop}
  (h:∀n st',1<=n->n<=m->Sb ok lo st st'->Up rk (arrOf st') lo (lo+n)->Q (some n) st'):wpS M A E s (uN lo n m) Q st':=by
 refine wpS_bind (Ax ?_);refine wpS_bind (wpS_mono (wpS_forRange (I:=λx c st2=>∃q,c=(none,x,q)/\Sb ok lo st st2/\Dn rk (arrOf st2) lo (lo+x)/\q+1<=x/\∀k,lo+x-(q+1)<=k->k<lo+x->aP rk (arrOf st2) k=aP rk (arrOf st2) (lo+x-1))
  (Q:=λc st2=>∃x q,c=(none,x,q)/\n+1<=x/\x<=m/\Sb ok lo st st2/\Dn rk (arrOf st2) lo (lo+x)/\q+1<=x/\∀k,lo+x-(q+1)<=k->k<lo+x->aP rk (arrOf st2) k=aP rk (arrOf st2) (lo+x-1)) ?step ?fin #[0,rfl,hb,hd,∅,λk h1 h2=>by rw[show k=lo+(n+1)-1 by lia]]) ?post)
 case fin=>rintro c st2 ⟨q,rfl,hb,hd,hq,he⟩;rw[show max (n+1) m=m by lia]at hd hq he⊢;show#[m,q,rfl,nm,q5 _,hb,hd,hq,he]
 case step=>
  rintro x c st2 hx1 hx ⟨q,rfl,hb,hd,hq,he⟩;let sz:=hb.size;let hst2:=hb.rest.1.trans hst;show wpS_bind (AQ C hst2 (hb.oks o) (by simp only;lia) (by simp only;lia) ?_);by_cases hl:aP rk (arrOf st2) (lo+x)<aP rk (arrOf st2) (lo+x-1)
  .rw[qP hl];let hd2:=Bf ∅ hd (Int.le_of_lt hl);by_cases q0:q>0
   .rw[qY q0];show wpS_bind (Bb (rk:=rk) hb ∅ ∅ λst3 hb3 hr=>?_);let er:=Bk he hr;show wpS_pure #[0,rfl,hb3,λy z h1 h2 h3=>by rw[er,er];show hd2 y z h1 h2 h3,∅,λk h1 h2=>by rw[show k=lo+(x+1)-1 by lia]]
   .rw[qZ q0];show wpS_pure #[0,rfl,hb,hd2,∅,λk h1 h2=>by rw[show k=lo+(x+1)-1 by lia]]
  .rw[qQ hl];show wpS_bind (AQ C hst2 (hb.oks o) ∅ ∅ ?_);by_cases hg:aP rk (arrOf st2) (lo+x-1)<aP rk (arrOf st2) (lo+x)
   .rw[qP hg];show wpS_pure #[x,q,rfl,hx1,∅,hb,hd,hq,he]
   .rw[qQ hg];show wpS_pure #[q+1,rfl,hb,Bf ∅ hd ∅,∅,λk h1 h2=>?_];rw[show lo+(x+1)-1=lo+x by lia];by_cases hk:k=lo+x
    .rw[hk]
    .rw[he k ∅ ∅];lia
 case post=>
  rintro c st2 ⟨x,q,rfl,hx1,hx,hb,hd,hq,he⟩;by_cases q0:q>0
  .rw[qY q0];show wpS_bind (Bb (rk:=rk) hb ∅ ∅ λst3 hb3 hr=>?_);let er:=Bk he hr;show CY C hst o ∅ hx hs hb3 (λy z h1 h2 h3=>by rw[er,er];show hd y z h1 h2 h3) h
  .rw[qZ q0];show CY C hst o ∅ hx hs hb hd h
def Dm(C:Cmp M A E s κ ok rk){lo m:Nat}{st:SortSt}(hst:kindOf st=κ)(o:∀x∈(arrOf st).toList,ok x)(hm:0<m)(hs:lo+m=(arrOf st).size){Q:Option Nat->SortSt->Prop}
  (h:∀n st',1<=n->n<=m->Sb ok lo st st'->Up rk (arrOf st') lo (lo+n)->Q (some n) st'):wpS M A E s (countRun' lo m) Q st:=by
 have up1:∀xs:Array Keyed,Up rk xs lo (lo+1):=λxs x y h1 h2 h3=>by
  obtain rfl:x=y:=∅
  show Int.le_refl _
 refine wpS_bind (wpS_mono (wpS_forRange (I:=λx c st'=>st'=st/\c=(none,x)/\Up rk (arrOf st) lo (lo+x))
  (Q:=λc st'=>st'=st/\∃n,c=(none,n)/\1<=n/\n<=m/\Up rk (arrOf st) lo (lo+n)/\(n=m\/aP rk (arrOf st) (lo+n)<aP rk (arrOf st) (lo+n-1))) ?step ?fin #[rfl,rfl,up1 _]) ?post)
 case fin=>rintro c st' ⟨rfl,rfl,hu⟩;rw[show max 1 m=m by lia]at hu⊢;show#[rfl,m,rfl,hm,q5 _,hu,.inl rfl]
 case step=>
  rintro x c st' hx1 hx ⟨rfl,rfl,hu⟩;show wpS_bind (AQ C hst (Sb.refl.oks (lo:=lo) o) (by simp only;lia) (by simp only;lia) ?_);by_cases hl:aP rk (arrOf st') (lo+x)<aP rk (arrOf st') (lo+x-1)
  .rw[qP hl];show wpS_pure #[rfl,x,rfl,hx1,∅,hu,.inr hl]
  .rw[qQ hl];show wpS_pure #[rfl,rfl,CV hx1 hu hl]
 case post=>
  rintro c st' ⟨rfl,n,rfl,n1,nm,hu,he⟩;simp only;by_cases e:n=m
  .rw[qY (by simp[e])];show wpS_pure (h n st' n1 nm Sb.refl hu)
  .rw[qZ ↑e];let he:=he.resolve_left e;by_cases n2:n>1
   .rw[qY n2];show wpS_bind (AQ C hst (Sb.refl.oks (lo:=lo) o) ∅ ∅ ?_);by_cases hl:aP rk (arrOf st') lo<aP rk (arrOf st') (lo+n-1)
    .rw[qP hl];show wpS_pure (h n st' n1 nm Sb.refl hu)
    .rw[qQ hl];let he2:∀k,lo<=k->k<lo+n->aP rk (arrOf st') k=aP rk (arrOf st') (lo+n-1):=λk h1 h2=>by let:=hu lo k (q5 _) h1 h2;let:=hu k (lo+n-1) h1 ∅ ∅;lia
     show wpS_bind (Bb (rk:=rk) (Sb.refl (ok:=ok)) (q5 _) ∅ λst3 hb3 hr=>?_);let er:=Bk he2 hr;show Dj C hst o n1 ∅ hs hb3 (Bf n1 (λy z h1 h2 h3=>?_) (by rw[er,er];show Int.le_of_lt he)) h;rw[er,er,he2 y h1 ∅,he2 z ∅ h3];show Int.le_refl _
   .rw[qZ n2];obtain rfl:n=1:=by lia
    show Dj C hst o n1 ∅ hs Sb.refl (Bf n1 (λy z h1 h2 h3=>?_) (Int.le_of_lt he)) h;obtain rfl:y=z:=∅
    show Int.le_refl _
def BF{xs:Array Keyed}{v d:Nat}(hs:v<xs.size)(z:d<=v)(k:Nat):aP rk (bubble xs v d) k=if k=v-d then aP rk xs v else if v-d<k/\k<=v then aP rk xs (k-1)else aP rk xs k:=by
 unfold aP;rw[getElem?_bubble hs d z k];split
 .rfl
 .split<;>rfl
theorem DG(C:Cmp M A E s κ ok rk){lo n m:Nat}{st st':SortSt}(hst:kindOf st=κ)(o:∀x∈(arrOf st).toList,ok x)(hm:m<=n)(hs:lo+n<=(arrOf st).size)(hb:Sb ok lo st st')(hu:Up rk (arrOf st') lo (lo+m)){Q:Bool->SortSt->Prop}
  (h:∀st',Sb ok lo st st'->Up rk (arrOf st') lo (lo+n)->Q true st'):wpS M A E s (binarySort' lo n m) Q st':=by
 rw[binarySort'_eq];show wpS_bind (wpS_mono (wpS_forRange (I:=λk c st2=>c=(none,())/\Sb ok lo st st2/\Up rk (arrOf st2) lo (lo+min k n)) (Q:=λc st2=>c=(none,())/\Sb ok lo st st2/\Up rk (arrOf st2) lo (lo+n)) ?step ?fin ?init) ?post);case post=>rintro c st2 ⟨rfl,hb2,hu2⟩;show wpS_pure (h st2 hb2 hu2)
 case init=>
  show#[rfl,hb,λx y h1 h2 h3=>?_];by_cases e:m=0
  .obtain rfl:x=y:=by omega
   show Int.le_refl _
  .show hu x y h1 h2 (by omega)
 case fin=>rintro c st2 ⟨hc,hb2,hu2⟩;rw[show min (max (max m 1) n) n=n by omega]at hu2;show#[hc,hb2,hu2]
 case step=>
  rintro k c st2 hk1 hk ⟨rfl,hb2,hu2⟩;let sz:=hb2.size;refine wpS_bind (wpS_mono (wpS_forRange (I:=λx c st3=>st3=st2/\∃l r,c=(none,l,r)/\l<=r/\r<=k/\r-l<=k-x/\(∀i,i<l->aP rk (arrOf st2) (lo+i)<=aP rk (arrOf st2) (lo+k))/\∀i,r<=i->i<k->aP rk (arrOf st2) (lo+k)<aP rk (arrOf st2) (lo+i))
   (Q:=λc st3=>st3=st2/\∃l r,c=(none,l,r)/\l<=k/\(∀i,i<l->aP rk (arrOf st2) (lo+i)<=aP rk (arrOf st2) (lo+k))/\∀i,l<=i->i<k->aP rk (arrOf st2) (lo+k)<aP rk (arrOf st2) (lo+i)) ?istep ?ifin ?iinit) ?ipost)
  case iinit=>show#[rfl,0,k,rfl,by omega,by omega,by omega,λi hi=>by omega,λi h1 h2=>by omega]
  case ifin=>
   rintro c st3 ⟨rfl,l,r,rfl,h1,h2,h3,h4,h5⟩;obtain rfl:l=r:=by omega
   show#[rfl,l,l,rfl,h2,h4,h5]
  case istep=>
   rintro x c st3 _ hx ⟨rfl,l,r,rfl,h1,h2,h3,h4,h5⟩;simp only;by_cases e:l≥r
   .rw[qY e];obtain rfl:l=r:=by omega
    show wpS_pure #[rfl,l,l,rfl,h2,h4,h5]
   .rw[qZ e];show wpS_bind (AQ C (hb2.rest.1.trans hst) (hb2.oks o) (by omega) (by omega) ?_);by_cases hl:aP rk (arrOf st3) (lo+k)<aP rk (arrOf st3) (lo+(l+r)/2)
    .rw[qP hl];show wpS_pure #[rfl,l,(l+r)/2,rfl,by omega,by omega,by omega,h4,λi a1 a2=>?_];let:=hu2 (lo+(l+r)/2) (lo+i) (by omega) (by omega) (by omega);omega
    .rw[qQ hl];show wpS_pure #[rfl,(l+r)/2+1,r,rfl,by omega,h2,by omega,λi a1=>?_,h5];let:=hu2 (lo+i) (lo+(l+r)/2) (by omega) (by omega) (by omega);omega
  case ipost=>
   rintro c st3 ⟨rfl,l,r,rfl,h2,h4,h5⟩;simp only;show wpS_bind (wpS_modify (wpS_pure #[rfl,#[(bubble_perm _ _ _).trans hb2.perm,λi hi=>?_,hb2.rest],λx y a1 a2 a3=>?_]))
   .show(bubble (arrOf st3) (lo+k) (lo+k-(lo+l)))[i]?=_;rw[getElem?_bubble (by omega) _ (by omega),qZ (by omega),qZ (by omega)];show hb2.pre i hi
   .show aP rk (bubble (arrOf st3) (lo+k) (lo+k-(lo+l))) x<=aP rk (bubble (arrOf st3) (lo+k) (lo+k-(lo+l))) y;rw[show min (k+1) n=k+1 by omega]at a3;rw[BF (by omega) (by omega),BF (by omega) (by omega)];let g4:=h4 (x-lo);let g5:=h5 (y-1-lo);rw[show lo+(x-lo)=x by omega]at g4;let u1:=hu2 x y;let u2:=hu2 x (y-1);let u3:=hu2 (x-1) (y-1);by_cases e1:x=lo+k-(lo+k-(lo+l))
    .rw[qY e1];split
     .show Int.le_refl _
     .split
      .rw[show lo+(y-1-lo)=y-1 by omega]at g5;show Int.le_of_lt (g5 (by omega) (by omega))
      .omega
    .rw[qZ e1];split
     .split
      .omega
      .split
       .show u3 (by omega) (by omega) (by omega)
       .omega
     .split
      .show g4 (by omega)
      .split
       .show u2 (by omega) (by omega) (by omega)
       .show u1 (by omega) (by omega) (by omega)
def putAt(a:Array Keyed)(i:Nat)(l:List Keyed):Array Keyed:=l.zipIdx.foldl (λa(p,j)=>a.setIfInBounds (i+j) p) a
def Cn(i:Nat):mergeAt' i=(do
 let u<-get
 let(some (p,n,q),some (r,m,_)):=((pendingOf u)[i]?,(pendingOf u)[i+1]?)|unsupported "internal:list.sort.pending"
 set (setPending u (((pendingOf u).setIfInBounds i (p,n+m,q)).eraseIdxIfInBounds (i+1)))
 let some k<-cK false (<-elem' (arrOf u) r) (arrOf u) p n 0|return false
 let(p,n):=(p+k,n-k)
 if n==0 then return true
 let some m<-cK true (<-elem' (arrOf u) (p+n-1)) (arrOf u) r m (m-1)|return false
 if m==0 then return true
 let x:=(arrOf u).extract p r
 let y:=(arrOf u).extract r (r+m)
 let z<-if n<=m then eW x y else eX x y
 modify λs=>setArr s (putAt (arrOf s) p z.toList)
 return(failedOf (<-get)).isNone):=rfl
def DO(l:List Keyed):∀(a:Array Keyed)(i c:Nat),i+c+l.length<=a.size->((l.zipIdx c).foldl (λa(p,j)=>a.setIfInBounds (i+j) p) a).toList=a.toList.take (i+c)++l++a.toList.drop (i+c+l.length):=by
 induction l with
 |nil=>intro a i c h;simp
 |cons x l z=>
  intro a i c h;rw[qt]at h;let e:(a.setIfInBounds (i+c) x).toList=(a.toList.take (i+c)++[x])++a.toList.drop (i+c+1):=by rw[Array.toList_setIfInBounds,List.set_eq_take_append_cons_drop,qY (by simp;lia -verbose)];simp
  let v:(a.toList.take (i+c)++[x]).length=i+(c+1):=by simp;lia
  rw[List.zipIdx_cons,foldl_cons,z _ _ _ (by simp;lia -verbose)];rw[e,List.take_left' v,<-drop_drop,List.drop_left' v];simp[Nat.add_comm,Nat.add_left_comm]
def AR{xs:Array Keyed}{lo hi:Nat}(F:Up rk xs lo hi)(G:hi<=xs.size):fF rk (xs.extract lo hi).toList:=by unfold fF;rw[pairwise_iff_getElem];intro x y B v z;simp at B v;let:=F (lo+x) (lo+y) ∅ ∅ ∅;rw[Ad (show lo+x<xs.size by lia),Ad (show lo+y<xs.size by lia)]at this;simpa[extract_eq_take_drop] using this
def Be{xs:Array Keyed}{lo hi:Nat}{x:Keyed}(z:hi<=xs.size)(h:x∈(xs.extract lo hi).toList):∃k,lo<=k/\k<hi/\rk x=aP rk xs k:=by let#[y,v,rfl]:=List.mem_iff_getElem.mp h;simp at v;show#[lo+y,∅,∅,by rw[Ad (show lo+y<xs.size by lia)];simp]
def Aj{a:Array Keyed}{i j l:Nat}(h1:i<=j)(h2:j<=l):(a.extract i j).toList++(a.extract j l).toList=(a.extract i l).toList:=by rw[toList_extract,toList_extract,toList_extract,extract_eq_take_drop,extract_eq_take_drop,extract_eq_take_drop,show l-i=(j-i)+(l-j) by lia,List.take_add,drop_drop,show i+(j-i)=j by lia]
def Ey{x:SortSt}{Q:PUnit->SortSt->Prop}{st:SortSt}(h:Q ⟨⟩ x):wpS M A E s (set x:StateT SortSt Sem PUnit) Q st:=wpS_modify (f:=λ_=>x) h
def Bu{a:Array Keyed}{j:Nat}:(a.extract 0 j).toList=a.toList.take j:=by rw[toList_extract,extract_eq_take_drop,drop_zero,Nat.sub_zero]
def Ei{a:Array Keyed}{j:Nat}:(a.extract j a.size).toList=a.toList.drop j:=by rw[toList_extract,extract_eq_take_drop,take_of_length_le (by simp)]
def Ca(C:Cmp M A E s κ ok rk){i p n m q q':Nat}{l1 l2:List (Nat×Nat×Nat)}{st:SortSt}(h5:kindOf st=κ)(o:∀x∈(arrOf st).toList,ok x)(hp:(pendingOf st).toList=l1++(p,n,q)::(p+n,m,q')::l2)(hi:l1.length=i)(n0:0<n)(m0:0<m)(hs:p+n+m<=(arrOf st).size)(hf:failedOf st=none)(u1:Up rk (arrOf st) p (p+n))(u2:Up rk (arrOf st) (p+n) (p+n+m)){Q:Bool->SortSt->Prop}
  (h:∀J L,(arrOf J).toList=((arrOf st).extract 0 p).toList++L++((arrOf st).extract (p+n+m) (arrOf st).size).toList->L.Perm ((arrOf st).extract p (p+n+m)).toList->fF rk L->(pendingOf J).toList=l1++(p,n+m,q)::l2->kindOf J=kindOf st->failedOf J=none->Q true J):wpS M A E s (mergeAt' i) Q st:=by
 subst hi;let oks:∀i(hi:i<(arrOf st).size),ok (arrOf st)[i]:=λi hi=>o _ (by simp);let g1:(pendingOf st)[l1.length]?=some (p,n,q):=by rw[<-qX,hp];simp
 let g2:(pendingOf st)[l1.length+1]?=some (p+n,m,q'):=by rw[<-qX,hp];simp
 rw[Cn];show wpS_bind (wpS_get ?_);rw[g1,g2];show wpS_bind (Ey ?_);obtain⟨pd,r1,ep⟩:∃pd,pd=((pendingOf st).setIfInBounds l1.length (p,n+m,q)).eraseIdxIfInBounds (l1.length+1)/\pd.toList=l1++(p,n+m,q)::l2:=#[_,rfl,by rw[Array.toList_eraseIdxIfInBounds,Array.toList_setIfInBounds,hp,List.set_append_right _ _ (q5 _),List.eraseIdx_append_of_length_le ∅];simp]
 rw[<-r1];let nS:p+n<(arrOf st).size:=∅
 let G:Up rk (arrOf st) p (p+n+m)->Q true (setPending st pd):=λu=>by show h _ ((arrOf st).extract p (p+n+m)).toList ?_ (.refl _) (AR u hs) ep rfl hf;show(arrOf st).toList=_;rw[Aj ∅ ∅,Aj ∅ hs,Bu,take_of_length_le (by simp)]
 show wpS_bind (Ab nS ?_);show wpS_bind (Am (st:=setPending st pd) C (oks _ nS) oks ∅ n0 u1 h5 λk hc=>?_);let kn:=hc.2.1;let e3:∀x,p<=x->x<p+k->aP rk (arrOf st) x<=aP rk (arrOf st) (p+n):=λx r3 B=>by let:=hc.2.2.1 (x-p) ∅;unfold cZ at this;rw[show p+(x-p)=x by lia]at this;rw[Ad nS];simpa using this
 let hq:∀x,p+k<=x->x<p+n->aP rk (arrOf st) (p+n)<aP rk (arrOf st) x:=λx h1 h2=>by let:=hc.2.2.2 (x-p) ∅ ∅;unfold cZ at this;rw[show p+(x-p)=x by lia]at this;rw[Ad nS];simpa using this
 simp only;by_cases e:n-k=0
 .rw[qY (by simp[e])];show wpS_pure (G λx y h1 h2 h3=>?_);let a1:=u1 x y h1 h2;let a2:=u2 x y;let a3:=u2 (p+n) y (q5 _);let a4:=e3 x h1;by_cases hy:y<p+n
  .show a1 ∅
  .by_cases B:x<p+n
   .show Int.le_trans (a4 ∅) (a3 ∅ ∅)
   .show a2 ∅ h2 ∅
 rw[qZ ↑e];let en:p+k+(n-k)-1=p+n-1:=∅
 rw[en];let O:p+n-1<(arrOf st).size:=∅
 show wpS_bind (Ab O ?_);show wpS_bind (Am (st:=setPending st pd) C (oks _ O) oks ∅ ∅ u2 h5 λv hd=>?_);let r2:=hd.2.1;let e1:∀x,p+n<=x->x<p+n+v->aP rk (arrOf st) x<aP rk (arrOf st) (p+n-1):=λx h1 h2=>by let:=hd.2.2.1 (x-(p+n)) ∅;unfold cZ at this;rw[show p+n+(x-(p+n))=x by lia,<-Ad (rk:=rk) O]at this;simpa using this
 let hm:∀x,p+n+v<=x->x<p+n+m->aP rk (arrOf st) (p+n-1)<=aP rk (arrOf st) x:=λx h1 h2=>by let:=hd.2.2.2 (x-(p+n)) ∅ ∅;unfold cZ at this;rw[show p+n+(x-(p+n))=x by lia,<-Ad (rk:=rk) O]at this;simpa using this
 simp only;by_cases e2:v=0
 .rw[qY (by simp[e2])];show wpS_pure (G λx y h1 h2 h3=>?_);by_cases hy:y<p+n
  .show u1 x y h1 h2 ∅
  .by_cases B:x<p+n
   .show Int.le_trans (u1 x (p+n-1) h1 ∅ ∅) (hm y ∅ ∅)
   .show u2 x y ∅ h2 ∅
 rw[qZ ↑e2];let h8:∀x∈((arrOf st).extract (p+k) (p+n)).toList,∃c,p+k<=c/\c<p+n/\rk x=aP rk (arrOf st) c:=λx B=>Be ∅ B;let h7:∀x∈((arrOf st).extract (p+n) (p+n+v)).toList,∃c,p+n<=c/\c<p+n+v/\rk x=aP rk (arrOf st) c:=λx B=>Be ∅ B;let Y:∀(c d i:Nat)(hi:i<((arrOf st).extract c d).size),ok ((arrOf st).extract c d)[i]:=λc d i hi=>o _ (by rw[getElem_extract];simp);let ha:∀(z:Array Keyed)(F:SortSt),fM rk ((arrOf st).extract (p+k) (p+n)) ((arrOf st).extract (p+n) (p+n+v)) z->bA (setPending st pd) F->wpS M A E s (modify (λs=>setArr s (putAt (arrOf s) (p+k) z.toList))>>=λ_=>get>>=λu=>pure (failedOf u).isNone) Q F:=λz F hr ks=>by
  let ea:arrOf F=arrOf st:=ks.2.1;let hz:z.toList.length=n-k+v:=by rw[hr.1.length_eq,qq,qT,qT,size_extract,size_extract];lia
  let el:(putAt (arrOf F) (p+k) z.toList).toList=((arrOf st).extract 0 p).toList++(((arrOf st).extract p (p+k)).toList++z.toList++((arrOf st).extract (p+n+v) (p+n+m)).toList)++((arrOf st).extract (p+n+m) (arrOf st).size).toList:=by let:=DO z.toList (arrOf st) (p+k) 0 ∅;rw[ea];rw[Nat.add_zero,hz,show p+k+(n-k+v)=p+n+v by lia,<-Bu,<-Ei,<-Aj (zero_le p) (le_add_right p k),<-Aj (show p+n+v<=p+n+m by lia) hs]at this;rw[show(putAt (arrOf st) (p+k) z.toList).toList=_ from this];simp only[qp]
  show wpS_bind (wpS_modify (wpS_bind (wpS_get ?_)));let ef:failedOf (setArr F (putAt (arrOf F) (p+k) z.toList))=none:=ks.2.2.2.trans hf;rw[ef];show wpS_pure (h _ _ el ?_ ?_ ((congrArg Array.toList ks.2.2.1).trans ep) ks.1 ef)
  .show((hr.1.append_left _).append_right _).trans ?_;rw[Aj ∅ ∅,Aj ∅ ∅,Aj ∅ ∅]
  let h6:∀x∈z.toList,(∃c,p+k<=c/\c<p+n/\rk x=aP rk (arrOf st) c)\/∃c,p+n<=c/\c<p+n+v/\rk x=aP rk (arrOf st) c:=λx B=>(qx.mp (hr.1.mem_iff.mp B)).imp (h8 x) (h7 x);let h9:∀x∈((arrOf st).extract p (p+k)).toList,∃c,p<=c/\c<p+k/\rk x=aP rk (arrOf st) c:=λx B=>Be ∅ B;let hk:∀x∈((arrOf st).extract (p+n+v) (p+n+m)).toList,∃c,p+n+v<=c/\c<p+n+m/\rk x=aP rk (arrOf st) c:=λx B=>Be ∅ B;let s1:=AR (rk:=rk) (xs:=arrOf st) (lo:=p) (hi:=p+k) (λx y h1 h2 h3=>u1 x y h1 h2 ∅) ∅;let s2:=AR (rk:=rk) (xs:=arrOf st) (lo:=p+n+v) (hi:=p+n+m) (λx y h1 h2 h3=>u2 x y ∅ h2 h3) ∅;show pairwise_append.mpr #[pairwise_append.mpr #[s1,hr.2,λx B y hy=>?_],s2,λx B y hy=>?_]
  .obtain⟨c,h0,hc,ex⟩:=h9 x B;let a1:=e3 c h0 hc;rcases h6 y hy with⟨d,h1,h2,ey⟩|⟨d,h1,h2,ey⟩
   .let a2:=hq d h1 h2;lia
   .let a2:=u2 (p+n) d (q5 _) h1 ∅;lia
  .obtain⟨d,h1,h2,ey⟩:=hk y hy;let a2:=hm d h1 h2;rcases qx.mp B with B|B
   .obtain⟨c,h0,hc,ex⟩:=h9 x B;let a1:=u1 c (p+n-1) h0 ∅ ∅;lia
   .rcases h6 x B with⟨c,h3,h4,ex⟩|⟨c,h3,h4,ex⟩
    .let a1:=u1 c (p+n-1) ∅ ∅ ∅;lia
    .let a1:=e1 c h3 h4;lia
 let sx:=AR (rk:=rk) (xs:=arrOf st) (lo:=p+k) (hi:=p+n) (λx y h1 h2 h3=>u1 x y ∅ h2 ∅) ∅;let sy:=AR (rk:=rk) (xs:=arrOf st) (lo:=p+n) (hi:=p+n+v) (λx y h1 h2 h3=>u2 x y h1 h2 ∅) ∅;let zX:((arrOf st).extract (p+k) (p+n)).size=n-k:=by rw[size_extract];lia
 let zY:((arrOf st).extract (p+n) (p+n+v)).size=v:=by rw[size_extract];lia
 let e4:aP rk ((arrOf st).extract (p+k) (p+n)) (((arrOf st).extract (p+k) (p+n)).size-1)=aP rk (arrOf st) (p+n-1):=by rw[Ad ∅,Ad O,getElem_extract];congr 2;lia
 let y0:rk (((arrOf st).extract (p+n) (p+n+v))[0]'∅)=aP rk (arrOf st) (p+n):=by rw[Ad nS,getElem_extract];rfl
 let hl:∀y∈((arrOf st).extract (p+n) (p+n+v)).toList,rk y<aP rk ((arrOf st).extract (p+k) (p+n)) (((arrOf st).extract (p+k) (p+n)).size-1):=λy hy=>by let#[c,h1,h2,e]:=h7 y hy;rw[e4,e];show e1 c h1 h2
 let h0:∀x∈((arrOf st).extract (p+k) (p+n)).toList,rk (((arrOf st).extract (p+n) (p+n+v))[0]'∅)<rk x:=λx B=>by let#[c,h1,h2,e]:=h8 x B;rw[y0,e];show hq c h1 h2
 by_cases hb:n-k<=v
 .rw[qY hb];show wpS_bind (BY (C:=C) #[Y _ _,Y _ _,hl] sx sy ∅ ∅ (Int.le_of_lt (h0 _ (by rw[mem_toList_iff];show Array.getElem_mem _))) h5 ha)
 .rw[qZ hb];show wpS_bind (BZ (C:=C) #[Y _ _,Y _ _,∅,h0] sx sy ∅ (λy hy=>by rw[<-Ad (rk:=rk)];show Int.le_of_lt (hl y hy)) h5 ha)
def tV(n lo k:Nat):StateT SortSt Sem (ForInStep (Option Unit×Nat)):=do
 let u<-get
 sortRuns'_eq.match_1 (λ_=>StateT SortSt Sem (ForInStep (Option Unit×Nat))) (pendingOf u).back? (λs1 n1 _=>do
  let r<-forIn [:n] ((none,()):Option Unit×Unit) λ_ _=>do
   let u<-get
   sortRuns'_eq.match_1 (λ_=>StateT SortSt Sem (ForInStep (Option Unit×Unit))) (if(pendingOf u).size>1 then(pendingOf u)[(pendingOf u).size-2]? else none) (λ_ _ older=>
    if older<=power' n (2*s1+n1) (2*s1+n1+n1+k) n then pure (ForInStep.done (none,()))
    else do
     let y<-mergeAt' ((pendingOf u).size-2)
     if !y then pure (ForInStep.done (some (),()))else pure (ForInStep.yield (none,()))) λ_=>pure (ForInStep.done (none,()))
  Break.runK.match_1 (λ_=>StateT SortSt Sem (ForInStep (Option Unit×Nat))) r.1 (λr=>pure (.done (some r,lo))) λ_=>do
   modify λs=>setPending s ((pendingOf s).modify ((pendingOf s).size-1) λx=>(x.1,x.2.1,power' n (2*s1+n1) (2*s1+n1+n1+k) n))
   modify λs=>setPending s ((pendingOf s).push (lo,k,0))
   pure (ForInStep.yield (none,lo+k))) λ_=>do
  modify λs=>setPending s ((pendingOf s).push (lo,k,0))
  pure (ForInStep.yield (none,lo+k))
@[inline]def Runs(rk:Keyed->Int)(a:Array Keyed):Nat->List (Nat×Nat×Nat)->Nat->Prop
 |lo,[],hi=>lo=hi
 |lo,x::l,hi=>x.1=lo/\0<x.2.1/\Up rk a lo (lo+x.2.1)/\Runs rk a (lo+x.2.1) l hi
def Cj(f:α->α)(x:α):∀l:List α,(l++[x]).modify l.length f=l++[f x]
 |[]=>rfl
 |y::l=>congrArg (y::·) (Cj f x l)
def Bd{a:Array Keyed}{hi:Nat}:∀{l:List (Nat×Nat×Nat)}{lo:Nat},Runs rk a lo l hi->lo+l.length<=hi
 |[],lo,h=>le_of_eq h
 |x::l,lo,⟨_,h2,_,h4⟩=>by let:=Bd h4;rw[qt];lia
theorem runs_app{a:Array Keyed}{hi:Nat}{r:List (Nat×Nat×Nat)}:∀{l:List (Nat×Nat×Nat)}{lo:Nat},Runs rk a lo (l++r) hi↔∃mid,Runs rk a lo l mid/\Runs rk a mid r hi
 |[],lo=>#[λh=>#[lo,rfl,h],λ⟨_,h1,h2⟩=>by rw[show lo=_ from h1];show h2]
 |x::l,lo=>by
  constructor
  .rintro⟨h1,h2,B,F⟩;let#[mid,z,v]:=runs_app.mp F;show#[mid,#[h1,h2,B,z],v]
  .rintro⟨mid,⟨h1,h2,B,z⟩,v⟩;show#[h1,h2,B,runs_app.mpr #[mid,z,v]]
def CW{a b:Array Keyed}{lo hi:Nat}(e:∀c,lo<=c->c<hi->b[c]?=a[c]?)(h:Up rk a lo hi):Up rk b lo hi:=λi j h1 h2 v=>by let:=h i j h1 h2 v;unfold aP at this⊢;rwa[e i h1 ∅,e j ∅ v]
def AI{a b:Array Keyed}{hi:Nat}:∀{l:List (Nat×Nat×Nat)}{lo:Nat},(∀c,lo<=c->c<hi->b[c]?=a[c]?)->Runs rk a lo l hi->Runs rk b lo l hi
 |[],lo,_,h=>h
 |x::l,lo,e,⟨h1,h2,h3,h4⟩=>by let:=Bd h4;show#[h1,h2,CW (λc z v=>e c z ∅) h3,AI (λc z v=>e c ∅ v) h4]
structure Rn(rk:Keyed->Int)(st st':SortSt)(lo:Nat):Prop where
 perm:(arrOf st').Perm (arrOf st)
 kind:kindOf st'=kindOf st
 failed:failedOf st'=none
 runs:Runs rk (arrOf st') 0 (pendingOf st').toList lo
def Rn.oks{st v:SortSt}{lo:Nat}{ok:Keyed->Prop}(R:Rn rk st v lo)(o:∀x∈(arrOf st).toList,ok x):∀x∈(arrOf v).toList,ok x:=λx z=>o x ((perm_iff_toList_perm.mp R.perm).mem_iff.mp z)
theorem seg_at{a:Array Keyed}{z L v:List Keyed}(h:a.toList=z++L++v)(c:Nat):a[c]?=(z++(L++v))[c]?:=by rw[<-qX,h,qp]
def Bg(C:Cmp M A E s κ ok rk){i lo:Nat}{st v:SortSt}(Y:kindOf st=κ)(o:∀x∈(arrOf st).toList,ok x)(R:Rn rk st v lo)(h4:lo<=(arrOf st).size)(hi:i+1<(pendingOf v).size){Q:Bool->SortSt->Prop}
  (h:∀z,Rn rk st z lo->(∀c,lo<=c->(arrOf z)[c]?=(arrOf v)[c]?)->(pendingOf z).size+1=(pendingOf v).size->Q true z):wpS M A E s (mergeAt' i) Q v:=by
 have sz:=R.perm.size_eq;obtain⟨O,⟨p,n,q⟩,⟨r,m,q'⟩,l2,hp,hl⟩:∃O x y l2,(pendingOf v).toList=O++x::y::l2/\O.length=i:=by
  show#[(pendingOf v).toList.take i,(pendingOf v)[i],(pendingOf v)[i+1],(pendingOf v).toList.drop (i+2),?_,by simp;lia]
  conv=>lhs;rw[<-take_append_drop i (pendingOf v).toList]
  rw[drop_eq_getElem_cons (by simp;lia -verbose),drop_eq_getElem_cons (by simp;lia -verbose)];simp
 let R0:=R.runs;rw[hp]at R0;let#[mid,r1,e1,J,u1,e2,m0,u2,G]:=runs_app.mp R0;simp only at e1 e2 J m0 u1 u2 G;subst e1 e2;let h5:=Bd G;show Ca C (R.kind.trans Y) (R.oks o) hp hl J m0 ∅ R.failed u1 u2 λz L eL pL sL ep ek ef=>?_;let e0:(arrOf v).toList=((arrOf v).extract 0 p).toList++((arrOf v).extract p (p+n+m)).toList++((arrOf v).extract (p+n+m) (arrOf v).size).toList:=by rw[Aj ∅ ∅,Aj ∅ ∅,Bu,take_of_length_le (by simp)]
 let z1:((arrOf v).extract 0 p).toList.length=p:=by simp;lia
 let zL:((arrOf v).extract p (p+n+m)).toList.length=n+m:=by simp;lia
 have F:L.length=n+m:=pL.length_eq.trans zL;let fr:∀c,c<p\/p+n+m<=c->(arrOf z)[c]?=(arrOf v)[c]?:=λc B=>by
  rw[seg_at eL,seg_at e0 c];rcases B with B|B
  .rw[getElem?_append_left ∅,getElem?_append_left ∅]
  .rw[getElem?_append_right ∅,getElem?_append_right ∅,getElem?_append_right ∅,getElem?_append_right ∅,zL,F]
 have up:Up rk (arrOf z) p (p+(n+m)):=λx y h1 h2 h3=>by
  let a:∀c,p<=c->c<p+(n+m)->∃B:c-p<L.length,aP rk (arrOf z) c=rk L[c-p]:=λc a1 a2=>#[∅,by unfold aP;rw[seg_at eL,getElem?_append_right ∅,getElem?_append_left ∅,z1,qh ∅];rfl]
  let#[b1,b2]:=a x h1 ∅;let#[c1,c2]:=a y ∅ h3;rw[b2,c2];by_cases e:x=y
  .subst e;show Int.le_refl _
  .show pairwise_iff_getElem.mp sL _ _ b1 c1 ∅
 show h z #[?_,ek.trans R.kind,ef,?_] (λc B=>fr c (.inr ∅)) ?_
 .show .trans ?_ R.perm;rw[perm_iff_toList_perm,eL,e0];show(pL.append_left _).append_right _
 .rw[ep];show runs_app.mpr #[p,AI (λc _ h2=>fr c (.inl h2)) r1,rfl,lt_of_lt_of_le J (le_add_right _ _),up,?_];rw[<-Nat.add_assoc];show AI (λc h1 _=>fr c (.inr h1)) G
 .rw[<-qT,<-qT,ep,hp];simp;lia
def BN(C:Cmp M A E s κ ok rk){n:Nat}{st:SortSt}(hst:kindOf st=κ)(o:∀x∈(arrOf st).toList,ok x)(hp:pendingOf st=#[])(hf:failedOf st=none)(hn:(arrOf st).size=n){Q:Unit->SortSt->Prop}
  (h:∀st',(arrOf st').Perm (arrOf st)->failedOf st'=none->Up rk (arrOf st') 0 n->Q () st'):wpS M A E s sortRuns' Q st:=by
 have zR:∀{st' lo},Rn rk st st' lo->(arrOf st').size=n:=λR=>R.perm.size_eq.trans hn;rw[sortRuns'_eq];show wpS_bind (wpS_get ?_);rw[hn];refine wpS_bind (wpS_mono (wpS_forRange
  (I:=λx c st'=>∃lo,c=(none,lo)/\x<=lo/\lo<=n/\Rn rk st st' lo)
  (Q:=λc st'=>c=(none,n)/\Rn rk st st' n) ?step ?fin #[0,rfl,zero_le _,zero_le _,.refl _,rfl,hf,by rw[hp];rfl]) ?post)
 case fin=>
  rintro c st' ⟨lo,rfl,h1,h2,R⟩;obtain rfl:lo=n:=∅
  show#[rfl,R]
 case step=>
  rintro x c st' _ hx ⟨lo,rfl,h1,h2,R⟩;simp only;by_cases hlo:lo≥n
  .rw[qY hlo];obtain rfl:lo=n:=by lia
   show wpS_pure #[rfl,R]
  rw[qZ hlo];let zs:=zR R;let oks:=R.oks o;let ks:=R.kind.trans hst;let go:∀(k:Nat)(st3:SortSt)(Q2:ForInStep (Option Unit×Nat)->SortSt->Prop),0<k->lo+k<=n->Sb ok lo st' st3->Up rk (arrOf st3) lo (lo+k)->(∀st4,Rn rk st st4 (lo+k)->Q2 (.yield (none,lo+k)) st4)->wpS M A E s (tV n lo k) Q2 st3:=λk st3 Q2 k0 kn hb hu q2=>by
   let R3:Rn rk st st3 lo:=#[hb.perm.trans R.perm,hb.rest.1.trans R.kind,hb.rest.2.2.trans R.failed,by rw[hb.rest.2.1];show AI (λc _ h2=>hb.pre c h2) R.runs]
   let put:∀(st4:SortSt)(l:Array (Nat×Nat×Nat)),Rn rk st st4 lo->(∀c,lo<=c->(arrOf st4)[c]?=(arrOf st3)[c]?)->Runs rk (arrOf st4) 0 l.toList lo->Q2 (.yield (none,lo+k)) (setPending st4 (l.push (lo,k,0))):=λst4 l R4 e4 r4=>by show q2 _ #[R4.perm,R4.kind,R4.failed,?_];show Runs rk (arrOf st4) 0 (l.push (lo,k,0)).toList (lo+k);rw[toList_push];show runs_app.mpr #[lo,r4,rfl,k0,CW (λc a1 _=>e4 c a1) hu,rfl]
   show wpS_bind (wpS_get ?_);cases hbk:(pendingOf st3).back? with
   |none=>show wpS_bind (wpS_modify (wpS_pure (put st3 _ R3 (λ_ _=>rfl) R3.runs)))
   |some y=>
    obtain⟨s1,n1,q1⟩:=y;let ne3:0<(pendingOf st3).size:=by
     cases e:(pendingOf st3).size with
     |zero=>rw[Array.eq_empty_of_size_eq_zero e]at hbk;cases hbk
     |succ _=>show Nat.succ_pos _
    refine wpS_bind (wpS_mono (wpS_forRange (I:=λ_ c st4=>c=(none,())/\Rn rk st st4 lo/\(∀c,lo<=c->(arrOf st4)[c]?=(arrOf st3)[c]?)/\0<(pendingOf st4).size) (Q:=λc st4=>c=(none,())/\Rn rk st st4 lo/\(∀c,lo<=c->(arrOf st4)[c]?=(arrOf st3)[c]?)/\0<(pendingOf st4).size) ?s2 (λ_ _ z=>z) #[rfl,R3,λ_ _=>rfl,ne3]) ?p2);case s2=>
     rintro _ _ st4 _ _ ⟨rfl,R4,e4,n4⟩;show wpS_bind (wpS_get ?_);by_cases h2s:(pendingOf st4).size>1
     .simp only[qY h2s,getElem?_eq_getElem (show(pendingOf st4).size-2<(pendingOf st4).size by lia)];split
      .show wpS_pure #[rfl,R4,e4,n4]
      .show wpS_bind (Bg C hst o R4 ∅ ∅ λst5 R5 e5 h5=>wpS_pure #[rfl,R5,λc hc=>(e5 c hc).trans (e4 c hc),∅])
     .simp only[qZ h2s];show wpS_pure #[rfl,R4,e4,n4]
    case p2=>
     rintro _ st4 ⟨rfl,R4,e4,n4⟩;show wpS_bind (wpS_modify (wpS_bind (wpS_modify (wpS_pure (put st4 _ R4 e4 ?_)))));let r4:=R4.runs;obtain⟨l,⟨a,b,c⟩,e⟩:∃l y,(pendingOf st4).toList=l++[y]:=#[_,_,(List.dropLast_concat_getLast (by intro e;rw[<-qT,e]at n4;cases n4)).symm]
     rw[e]at r4;show Runs rk (arrOf st4) 0 ((pendingOf st4).modify ((pendingOf st4).size-1) _).toList lo;rw[Array.toList_modify,<-qT,e];let#[mid,r5,r6]:=runs_app.mp r4;rw[qq,qB,Nat.add_sub_cancel,Cj];show runs_app.mpr #[mid,r5,r6]
  show wpS_bind (Dm C ks oks ∅ ∅ λk st2 k1 km hb hu=>?_);let fin:∀k,0<k->lo+k<=n->∀st4,Rn rk st st4 (lo+k)->∃lo',((none,lo+k):Option Unit×Nat)=(none,lo')/\x+1<=lo'/\lo'<=n/\Rn rk st st4 lo':=λk k0 kn st4 R4=>#[_,rfl,∅,kn,R4]
  simp only;by_cases hlt:k<minRun' n n 0
  .rw[qY hlt];show wpS_bind (Ax ?_);show wpS_bind (DG C ks oks ∅ ∅ hb hu λst3 hb3 hu3=>go _ st3 _ ∅ ∅ hb3 hu3 (fin _ ∅ ∅))
  .rw[qZ hlt];show go _ st2 _ k1 ∅ hb hu (fin _ k1 ∅)
 case post=>
  rintro c st' ⟨rfl,R⟩;let hsz:=Bd R.runs;rw[qT]at hsz;show wpS_bind (wpS_mono (wpS_forRange (I:=λx c st4=>c=(none,())/\Rn rk st st4 n/\((pendingOf st4).size<=1\/(pendingOf st4).size+x<=n)) (Q:=λc st4=>c=(none,())/\Rn rk st st4 n/\(pendingOf st4).size<=1) ?step2 ?fin2 #[rfl,R,.inr ∅]) ?post2);case post2=>
   rintro _ st4 ⟨rfl,R4,h1⟩;show wpS_pure (h st4 R4.perm R4.failed ?_);let r4:=R4.runs;rw[<-qT]at h1
   revert r4 h1
   cases(pendingOf st4).toList with
   |nil=>show λ_ r4 i j a1 a2 a3=>by rw[<-show 0=n from r4]at a3;lia
   |cons y l=>
    cases l with
    |nil=>show λ_ r4=>by let e:0+y.2.1=n:=r4.2.2.2;rw[<-e];show r4.2.2.1
    |cons z l=>show λh1 _=>by simp at h1
  case fin2=>rintro c st4 ⟨e,R4,h1⟩;show#[e,R4,∅]
  case step2=>
   rintro x _ st4 _ _ ⟨rfl,R4,h1⟩;show wpS_bind (wpS_get ?_);by_cases hs:(pendingOf st4).size<=1
   .rw[qY hs];show wpS_pure #[rfl,R4,hs]
   rw[qZ hs];show wpS_bind (Bg C hst o R4 (le_of_eq hn.symm) ?_ λst5 R5 _ h5=>wpS_pure #[rfl,R5,∅]);split<;>lia
def BW:∀vs:List Value,vs.zip vs=vs.map λv=>(v,v)
 |[]=>rfl
 |v::r=>by show(v,v)::r.zip r=_;rw[BW r];rfl
theorem list_sort128{a:Addr}{vs:List Value}{n:Nat}{P:Fin->Shared->Prop}(ho:s.heap.get? a=some (seqObj "list" vs.toArray n))(h2:2<=vs.length)(h4:vs.length<301)
  (hk:∀h':Heap,(∀b o,b≠a->s.heap.get? b=some o->h'.get? b=some o)->(∀Q:SortKind->Shared->Prop,Q κ {s with heap:=h'}->wpAny (model prog w) A (keyKind' vs.toArray) Q E {s with heap:=h'})/\Cmp (model prog w) A E {s with heap:=h'} κ ok rk)
  (h1:∀v∈vs,ok (v,v))
  (h:∀F:List Value,F.Perm vs->F.Pairwise (λu v=>rk (u,u)<=rk (v,v))->P (.done (.ret .none)) {s with heap:=sortedHeap s.heap a vs F.toArray}):
  wpAny (model prog w) A (Builtin.«list.sort» #[[.ref a],[]]) P E s:=by
 let ha:a<s.heap.objs.size:=qe ho;rw[list_sort_plain];show qa (listItems_at ho rfl ?_);show qa (listUpdate_at ho rfl ?_ (by rw[qr,zd];lia) (zero_le _));obtain⟨e1,M⟩:∃e1,(s.heap.update a (Obj.mapSeq λ_=>#[])).get? a=some (seqObj "list" #[] e1):=#[_,get?_update_seq ho (λ_=>#[])]
 show qa (seqEpoch_at M rfl ?_);show qa (wpAny_newTuple ?_ (by show vs.length<=_;rw[zd];lia));show qa (wpAny_newList ?_ (zero_le _));show ze ?_;let L:(((s.heap.update a (Obj.mapSeq λ_=>#[])).push (seqObj "tuple" vs.toArray 0)).push (seqObj "list" #[] 0)).get? a=some (seqObj "list" #[] e1):=by rw[Heap.get?_push_ne _ _ _ (by rw[size_push',Heap.size_update];show ne_of_lt (lt_succ_of_lt ha)),Heap.get?_push_ne _ _ _ (by rw[Heap.size_update];show ne_of_lt ha)];show M
 let#[k1,C]:=hk (((s.heap.update a (Obj.mapSeq λ_=>#[])).push (seqObj "tuple" vs.toArray 0)).push (seqObj "list" #[] 0)) λb o hb e=>qc _ (qc _ (by rw[Heap.get?_update_ne _ _ _ _ hb];show e));let O:¬vs.toArray.size<2:=by rw[qr];lia
 rw[qZ O,qZ O];show qa (k1 _ ?_);let J:(vs.toArray.zip vs.toArray).size=vs.length:=by rw[Array.size_zip];show Nat.min_self _
 let hz:(vs.toArray.zip vs.toArray).toList=vs.map λv=>(v,v):=by rw[Array.toList_zip];show BW vs
 refine qa (zg (BN C (st:=SortSt.mk' κ (vs.toArray.zip vs.toArray) #[] 7 none) (n:=vs.length)
   (Q:=λ_ z=>(arrOf z).Perm (vs.toArray.zip vs.toArray)/\failedOf z=none/\Up rk (arrOf z) 0 vs.length) rfl
   (λx Y=>?_) rfl rfl J λz a1 a2 a3=>#[a1,a2,a3]) ?_ λ_ _ e=>e)
 .rw[show(arrOf (SortSt.mk' κ (vs.toArray.zip vs.toArray) #[] 7 none)).toList=vs.map λv=>(v,v) from hz]at Y;let#[v,hv,rfl]:=qJ.mp Y;show h1 v hv
 .rintro⟨⟨⟩,z⟩ s' ⟨rfl,hp,hf,hs⟩;let G:(arrOf z).toList.Perm (vs.map λv=>(v,v)):=by rw[<-hz];exact perm_iff_toList_perm.mp hp
  let B:(arrOf z).size=vs.length:=hp.size_eq.trans J;let h3:(arrOf z).map (·.2)=((arrOf z).toList.map (·.2)).toArray:=Array.toList_inj.mp Array.toList_map;show qa (seqEpoch_at L rfl ?_);show qa (listUpdate_at L rfl ?_ (hsz2:=by rw[Array.size_map,zd];lia));rw[hf];simp;rw[h3];let pv:((arrOf z).toList.map (·.2)).Perm vs:=by let:=G.map (λx:Keyed=>x.2);rwa[qD,show((λx:Keyed=>x.2)∘λv=>(v,v))=id from rfl,map_id]at this
  show qb (h _ pv ?_);let sq:=AR hs (by rw[B];show q5 _);rw[show(arrOf z).extract 0 vs.length=arrOf z by rw[<-B];show Array.extract_size ..]at sq;rw[pairwise_map];show List.Pairwise.imp_of_mem (λ{x y} Y hy r=>?_) sq;let#[v,_,rfl]:=qJ.mp (G.mem_iff.mp Y);let#[u,_,rfl]:=qJ.mp (G.mem_iff.mp hy);show r
theorem sorted128{l:Addr}{vs:List Value}{Q:zh}(O:s.heap.IsList l vs.toArray)(h2:2<=vs.length)(J:vs.length<301)
  (Y:∀h':Heap,(∀b o,s.heap.get? b=some o->h'.get? b=some o)->(∀Q:SortKind->Shared->Prop,Q κ {s with heap:=h'}->wpAny (model prog w) A.in1.in1 (keyKind' vs.toArray) Q E {s with heap:=h'})/\Cmp (model prog w) A.in1.in1 E {s with heap:=h'} κ ok rk)
  (L:∀v∈vs,ok (v,v))
  (h:∀z:List Value,z.Perm vs->z.Pairwise (λu v=>rk (u,u)<=rk (v,v))->Q (.ref (s.heap.objs.size+1)) {s with heap:=sortedAll s.heap vs z.toArray}):
  wpAny (model prog w) A (call (.builtin "sorted") [.ref l]) Q E s:=by
 show Calls.call_function_entry kind_sorted plain_sorted entry_sorted (args_sorted1 _) ?_;show qa (m:=checkCount "sorted" 1 1 _) (qb ?_);show qa (collect_list O ?_ (by rw[zd];lia));show qa (wpAny_newList ?_ (by rw[zd];lia));let B:((s.heap.push (seqObj "list" #[] 0)).update s.heap.objs.size (Obj.mapSeq (·++vs.toArray))).objs.size=s.heap.objs.size+1:=by rw[Heap.size_update,size_push']
 let G:(((s.heap.push (seqObj "list" #[] 0)).update s.heap.objs.size (Obj.mapSeq (·++vs.toArray))).push (seqObj "list" vs.toArray 0)).get? (s.heap.objs.size+1)=some (seqObj "list" vs.toArray 0):=by rw[<-B];show qd _ rfl
 rw[B];show qa (ze (zc slot_list_sort #[_,G,rfl] entry_list_sort (list_sort128 G h2 J (λh' M=>Y h' λb o e=>M b o ?_ ?_) L λz a1 a2=>#[_,rfl,?_]) (args_list_sort _)))
 .show ne_of_lt (lt_succ_of_lt (qe e))
 .let F:b<s.heap.objs.size:=qe e;rw[Heap.get?_push_ne _ _ _ (by rw[B];show ne_of_lt (lt_succ_of_lt F)),Heap.get?_update_ne _ _ _ _ (ne_of_lt F),Heap.get?_push_ne _ _ _ (ne_of_lt F)];show e
 .show qb #[_,rfl,h z a1 a2]
end TS
namespace FL
open PySem PySem.Spec PyProof.Rows L2 PySem.W
section
variable{ps:List (List aK×Addr)}
def nU(ps:List (List aK×Addr))(x:Keyed):Int:=match x.1 with
 |.ref b=>tH (ps.map tK) (ps.findIdx λp=>p.2==b)
 |_=>0
def Kc(G:∀p∈ps,∀q∈ps,p.2=q.2->p.1=q.1){p:List aK×Addr}(B:p∈ps):∃i,∃h:i<ps.length,ps[i]=p/\∀v,nU ps (.ref p.2,v)=tH (ps.map tK) i:=by
 let z:ps.findIdx (λq=>q.2==p.2)<ps.length:=List.findIdx_lt_length_of_exists #[p,B,by simp];let e:=List.findIdx_getElem (p:=λq:List aK×Addr=>q.2==p.2) (w:=z);let F:ps[ps.findIdx (λq=>q.2==p.2)].2=p.2:=↑e
 show#[_,z,Prod.ext (G _ (getElem_mem z) _ B F) F,λ_=>rfl]
def Kn(B:∀p∈ps,∀q∈ps,p.2=q.2->p.1=q.1)(hs:∀p∈ps,dN sh (p.1.map aG)){p q:List aK×Addr}(z:p∈ps)(L:q∈ps){u v:Value}:decide (nU ps (.ref p.2,u)<nU ps (.ref q.2,v))=!dG (tK q) (tK p):=by
 let#[i,hi,ei,J]:=Kc B z;let#[j,F,Y,G]:=Kc B L;let M:∀d∈ps.map tK,fR sh d:=λd O=>by let#[p,z,rfl]:=qJ.mp O;show hs p z
 let:=Oe (Hg sh) M (i:=i) (j:=j) (by rw[qo];show hi) (by rw[qo];show F);rw[J,G,this];simp[hi,F,ei,Y]
def Mc{b:Bool}(B:∀p∈ps,jI s.heap p.2 p.1/\dN sh (p.1.map aG))(hu:∀p∈ps,∀q∈ps,p.2=q.2->p.1=q.1):TS.Cmp (model prog w) A E s (tuples' b) (λx=>∃p∈ps,x=(.ref p.2,.ref p.2)) (nU ps):=by
 show#[λx y Q st F⟨p,v,ex⟩⟨q,M,ey⟩ h=>?_];subst ex ey;rw[Kn hu (λp v=>(B p v).2) v M]at h;rw[lt'_eq];show wpS_bind (wpS_get ?_);rw[F];let#[#[O,r,o,e,c,n,d],L]:=B _ v;let#[#[z,G,o',e',c',n',d'],J]:=B _ M;rw[show dG (tK q) (tK p)=_ from EN J L,Bool.not_not]at h;show wpS_bind (wpS_lift (wpAny_attempt (kat_lt e d e' d' ?_)));let l1:O.toArray.size=p.1.length:=by rw[qr,<-r.length,qo]
 let Y:z.toArray.size=q.1.length:=by rw[qr,<-G.length,qo]
 rw[l1,Y];show Tn 0 r G L J #[rfl,wpS_pure h]
def Mu{t:Bool}(J:∀p∈ps,jI s.heap p.2 p.1/\dN (t::sh) (p.1.map aG))(h2:2<=ps.length){Q:SortKind->Shared->Prop}(h:Q (tuples' true) s):wpAny (model prog w) A (keyKind' (ps.map λp=>Value.ref p.2).toArray) Q E s:=by
 let#[fs,G,L,F]:=Cp J;cases t
 .show kat_kind (T:=.type "int") G ∅ (λv B=>?_) (by rfl) h;let#[z,u,rfl]:=F v B;show Looks.of_pure rfl
 .show kat_kind (T:=.type "str") G ∅ (λv B=>?_) (by rfl) h;let#[z,u,rfl]:=F v B;show Looks.of_pure rfl
def MB(L:∀p∈ps,dN sh (p.1.map aG))(J:∀p∈ps,∀q∈ps,p.2=q.2->p.1=q.1){z:List Value}(M:z.Perm (ps.map λp=>Value.ref p.2))(G:z.Pairwise λu v=>nU ps (u,u)<=nU ps (v,v)):
  ∃B:List (List aK×Addr),z=(B.map λp=>Value.ref p.2)/\B.Perm ps/\(B.map tK).Pairwise (dG · ·=true):=by
 let#[B,rfl,F]:=Hx M;show#[B,rfl,F,?_];rw[pairwise_map]at G⊢;show G.imp_of_mem λ{p q} h1 h2 r=>?_;let:=Kn J L (F.mem_iff.mp h2) (F.mem_iff.mp h1) (u:=.ref q.2) (v:=.ref p.2);rw[qQ ∅]at this;simpa using this.symm
def Le:∀v∈ps.map (λp=>Value.ref p.2),∃p∈ps,(v,v)=(Value.ref p.2,Value.ref p.2):=λv z=>by let#[p,B,rfl]:=qJ.mp z;show#[p,B,rfl]
end
section
variable{K:W.Frag}
def eU(K:W.Frag):List V->Hp->VK->Prop:=λxs H Q=>∃a vs,xs=[.ref a]/\(bK K H a vs\/H a=some (.set vs))/\
 ((vs.length<2/\∀q,H q=none->Q (.ref q) (upd H q (.lst vs)))\/
 ∃(ps:List (List aK×Addr))(sh:List Bool),vs=ps.map (λp=>V.ref p.2)/\2<=ps.length/\ps.length<301/\(∀p∈ps,H p.2=some (.tup (p.1.map kV))/\dN sh (p.1.map aG))/\sh≠[]/\∀v:List (List aK×Addr),v.Perm ps->(v.map tK).Pairwise (dG · ·=true)->∀q,H q=none->Q (.ref q) (upd H q (.lst (v.map λp=>V.ref p.2))))
def Mi:∀{l m:List aK},l.map kV=m.map kV->l=m
 |[],[],_=>rfl
 |[],_::_,h=>nomatch h
 |_::_,[],h=>nomatch h
 |a::l,b::m,h=>by let#[h1,h2]:=List.cons.inj h;rw[Mi h2];cases a<;>cases b<;>first|cases h1;rfl|nomatch h1
def KU{H:Hp}{ps:List (List aK×Addr)}(F:∀p∈ps,H p.2=some (.tup (p.1.map kV))):∀p∈ps,∀q∈ps,p.2=q.2->p.1=q.1:=λp B q v e=>by let z:=F p B;rw[e,F q v]at z;show(Mi (HO.tup.inj (qf z))).symm
def IW(I:Inv X zC Z H s){F:Shared}{D:Addr}{B:Array Value}{e:Nat}{J:List V}(O:zz J B.toList)(hw:J.length<=1000)(hD:F.heap.get? D=some (seqObj "list" B e))(G:s.heap.get? D=none)(L:∀b o,s.heap.get? b=some o->F.heap.get? b=some o)(hg:F.gens=s.gens)(Y:F.os=s.os)(q:∀q,H q=none->Q (.ref q) (upd H q (.lst J))):EP X zC Z Q (.ref D) F:=by
 let#[h2,g2,d2,M,o2]:=F;subst hg Y;show#[.ref D,_,Inv.laidD (s:=s) (t':=M) (d':=d2) (o:=.lst J) I (λm x=>x.at' λo e=>L _ o e) (λb u _ e=>L b u e) G ?_,rfl,q D ?_]
 .show#[by rw[zd];lia,B.toList,e,O,by rw[toArray_toList];show hD]
 .cases e:H D with
  |none=>rfl
  |some u=>let#[v,z]:=zB.there (I.hok D u e);rw[G]at z;cases z
def SF(hh:X.A.handled=none):aS X (.builtin "sorted") (eU X.K):=by
 intro zC s Z H xs us Q I r h;let#[a,vs,rfl,z,h]:=h;cases r with
 |cons r1 r2=>
  cases r2;cases r1;let h8:=λ{s2 D h5 e ws}=>@IW X zC Z H s Q I s2 D h5 e ws;let h9:∀{h':Heap},(∀b o,s.heap.get? b=some o->h'.get? b=some o)->∀b u,b≠X.env.locals->s.heap.get? b=some u->h'.get? b=some u:=λk b u _ e=>k b u e;rcases z with z|z
  .rcases h with⟨h2,q⟩|⟨ps,sh,rfl,h2,J,hp,h7,q⟩
   .show SV zC s Z H [.ref a] [.ref a] Q I (.cons rfl .nil) #[a,vs,rfl,z,h2,q]
   .obtain⟨e3,rv,pl,_⟩:=I.list z;let hv:=IA rv;subst hv;let hu:=KU λp h=>(hp p h).1;let#[t,O,rfl]:=List.exists_cons_of_ne_nil h7;refine TS.sorted128 (ok:=λx=>∃p∈ps,x=(.ref p.2,.ref p.2)) (rk:=nU ps) (κ:=tuples' true) pl.isList (by rw[qo];show h2) (by rw[qo];show J) (λh' k=>?_) Le λh5 a1 a2=>?_
    .let ht:∀p∈ps,jI h' p.2 p.1/\dN (t::O) (p.1.map aG):=λp v=>#[KO I (h9 k) (hp p v).1,(hp p v).2]
     show#[λQ hQ=>Mu (s:={s with heap:=h'}) ht h2 hQ,Mc (s:={s with heap:=h'}) ht hu]
    .obtain⟨Y,rfl,pq,pw⟩:=MB (λp v=>(hp p v).2) hu a1 a2;let#[e,he]:=sortedAll_at s.heap (ps.map λp=>Value.ref p.2) (Y.map λp=>Value.ref p.2).toArray;show h8 (IG Y) (by rw[qo,pq.length_eq];lia) he (Heap.get?_none_of_le (le_succ _)) (λb o w=>sortedAll_old w) rfl rfl (q Y pq pw)
  .obtain⟨es,ep,t,us,h1,h2,h3,h4,pu,hv,hl⟩:=JU I z;let none_of:∀{L:Shared},(∀b o,s.heap.get? b=some o->L.heap.get? b=some o)->s.heap.get? L.heap.objs.size=none:=λ{L} F=>by
    cases q:s.heap.get? L.heap.objs.size with
    |none=>rfl
    |some o=>show absurd (ST.lt_of_get (F _ _ q)) (lt_irrefl _)
   rcases h with⟨G,q⟩|⟨ps,sh,rfl,G,J,hp,h7,q⟩
   .show ST.sorted_set hh (GG I z) h1 h2 h3 h4 ∅ λL ord h6 F hg ho ht new=>?_;let#[ws,pw,M]:=MD hv (h6.map (·.2));let ew:ws=vs:=QO (pw.trans pu) G;subst ew;let e2:(ord.map (·.2)).length<2:=by rw[<-M.length];exact G
    show Lx new e2 #[_,rfl,?_];let#[e,he]:=ST.sortedHeap_at new (ord.map (·.2)).toArray;show h8 M ∅ he (none_of F) (λb o e=>ST.sortedHeap_old (ne_of_lt (ST.lt_of_get (F b o e))) (qc _ (F b o e)) _) hg ho q
   .rw[qo]at hl;show ST.sorted_set hh (GG I z) h1 h2 h3 h4 ∅ λL ord h6 F hg ho ht new=>?_;let#[ws,pw,M]:=MD hv (h6.map (·.2));let#[B,rfl,pp]:=Hx (pw.trans pu);let e1:=IA M;rw[e1]at new⊢;let v:∀p∈B,H p.2=some (.tup (p.1.map kV))/\dN sh (p.1.map aG):=λp h=>hp p (pp.mem_iff.mp h);let hu:=KU λp h=>(v p h).1;let#[t,O,rfl]:=List.exists_cons_of_ne_nil h7;refine TS.list_sort128 (s:={L with heap:=L.heap.push (seqObj "list" (B.map λp=>Value.ref p.2).toArray 0)}) (ok:=λx=>∃p∈B,x=(.ref p.2,.ref p.2)) (rk:=nU B) (κ:=tuples' true) new (by rw[qo,pp.length_eq];show G) (by rw[qo,pp.length_eq];show J) (λh' k=>?_) Le λh5 a1 a2=>#[_,rfl,?_]
    .let ht:∀p∈B,jI h' p.2 p.1/\dN (t::O) (p.1.map aG):=λp z=>#[KO I (λb u _ e=>k b u (ne_of_lt (ST.lt_of_get (F b u e))) (qc _ (F b u e))) (v p z).1,(v p z).2]
     show#[λQ hQ=>Mu (s:={L with heap:=h'}) ht (by rw[pp.length_eq];show G) hQ,Mc (s:={L with heap:=h'}) ht hu]
    .obtain⟨Y,rfl,pq,pw⟩:=MB (λp z=>(v p z).2) hu a1 a2;let#[e,he]:=ST.sortedHeap_at new (Y.map λp=>Value.ref p.2).toArray;show h8 (IG Y) (by rw[qo,pq.length_eq,pp.length_eq];lia) he (none_of F) (λb o e=>ST.sortedHeap_old (ne_of_lt (ST.lt_of_get (F b o e))) (qc _ (F b o e)) _) hg ho (q Y (pq.trans pp) pw)
def Mt:cB K (eU K) sF:=by
 intro Z U F G H vs ds s Q z Y e O;let#[d,v,rfl,rfl]:=Bv (λx y r=>by cases x<;>rfl) rfl Y e;let B:∀{a:Addr}{xs:List V}{l:List D},(bK K H a xs\/H a=some (.set xs))->zA K F xs l->fN l=some s->eU K [.ref a] H Q:=λ{a xs l} h3 r e=>by
  unfold fN at e;split at e
  .rename_i hc;cases e;show#[a,xs,rfl,h3,?_];let#[J,hc]:=hc;let h5:=r.len;by_cases h2:l.length<2
   .show .inl #[∅,λq hn=>?_];rw[RI h2]at O;show O _ F _ (zn.refl F) (z.newLD hn r)
   .obtain⟨sh,h4,L⟩:=hc.resolve_left h2;let M:l.all (bF true)=true:=qH.mpr λd hd=>by let:=L d hd;cases d<;>first|exact this.elim|exact Lc this
    let#[ps,rfl,rfl,hf]:=IS r M;rw[qo]at J h2;show .inr #[ps,sh,rfl,∅,J,λp hp=>#[z.fr _ _ (hf p hp),L (tK p) (qJ.mpr #[p,hp,rfl])],h4,λqs pq pw q hn=>?_];rw[GC (Hg sh) L (pq.map tK) pw]at O;show O _ F _ (zn.refl F) (z.newLD hn (zA.of_all λi hi=>zA.to_all r i (pq.mem_iff.mp hi)))
  .cases e
 cases d with
 |lst l=>let#[a,xs,rfl,h1,r1]:=Y.1.lst z.fr;show B (.inl h1) r1 e
 |set l=>let#[a,xs,rfl,h1,r1]:=aX.set Y.1;show B (.inr (z.fr _ _ h1)) r1 e
 |_=>cases e
def hU(K:W.Frag):List V->Hp->VK->Prop:=λxs H Q=>eU K xs H Q\/∃a vs,xs=[.ref a]/\(bK K H a vs\/H a=some (.set vs))/\((∃ns:List Int,vs=ns.map V.int/\ns.length<64/\∀z:List Int,z.Perm ns->z.Pairwise (·<=·)->∀q,H q=none->Q (.ref q) (upd H q (.lst (z.map V.int))))\/
 ∃B:List Str,vs=B.map V.str/\B.length<64/\∀v:List Str,v.Perm B->sortedS v=true->∀q,H q=none->Q (.ref q) (upd H q (.lst (v.map V.str))))
def SK(Y:X.A.handled=none):aS X (.builtin "sorted") (hU X.K):=by
 intro zC s Z H xs us Q I r h;rcases h with h|⟨a,vs,rfl,z,h⟩
 .show SF Y zC s Z H xs us Q I r h
 .cases r with
  |cons r1 r2=>
   cases r2;cases r1;rcases z with z|z
   .rcases h with⟨ns,rfl,v,q⟩|⟨zs,rfl,v,q⟩
    .show MJ zC s Z H [.ref a] [.ref a] Q I (.cons rfl .nil) #[a,rfl,.inl #[ns,v,z,q]]
    .show MJ zC s Z H [.ref a] [.ref a] Q I (.cons rfl .nil) #[a,rfl,.inr #[zs,v,z,q]]
   .obtain⟨es,ep,t,us,h1,h2,h3,h4,pu,hv,hl⟩:=JU I z;rcases h with⟨ns,rfl,v,q⟩|⟨zs,rfl,v,q⟩
    .obtain⟨ms,rfl,G⟩:=Hx pu;rw[qo]at hl;show ST.sorted_set_ints Y (GG I z) h1 h2 h3 h4 ∅ (Jf hv) λs2 D L e B a1 J a3 hD F O hg M ht=>IW I (Gj a1) (by rw[qo,J.length_eq,G.length_eq];lia) hD F O hg M (q B (J.trans G) a3)
    .obtain⟨ms,rfl,G⟩:=Hx pu;rw[qo]at hl;show ST.sorted_set_strs Y (GG I z) h1 h2 h3 h4 ∅ (Hw hv) λs2 D L e B a1 J a3 hD F O hg M ht=>IW I (IJ a1) (by rw[qo,J.length_eq,G.length_eq];lia) hD F O hg M (q B (J.trans G) a3)
def SE:cB K (hU K) bW:=by
 intro Z U F G H vs ds s Q B O e M;let#[d,v,rfl,rfl]:=Bv (λx y r=>by cases x<;>rfl) rfl O e;let J:∀{a:Addr}{xs:List V}{l:List D},(bK K H a xs\/H a=some (.set xs))->zA K F xs l->bO l=some s->(fN l=some s->eU K [.ref a] H Q)->hU K [.ref a] H Q:=λ{a xs l} h2 r e h8=>by
  unfold bO at e;split at e
  .rename_i hc;rcases hc with⟨h3,hi|hs⟩|h
   .cases e;let#[ns,q1]:=isSome_iff_exists.mp hi;let#[e1,e2]:=OZ r q1;subst e1 e2;show .inr #[a,_,rfl,h2,.inl #[ns,rfl,by rwa[qo]at h3,λY p pw q hn=>?_]];rw[GC Hl (m:=Y.map D.int) (λd hd=>by let#[z,_,rfl]:=qJ.mp hd;trivial) (p.map _) (pairwise_map.mpr (pw.imp λ{a b} h=>by rw[Ky];show qP h))]at M;show M _ F _ (zn.refl F) (B.newLD hn (Ji Y))
   .cases e;let#[ys,q2]:=isSome_iff_exists.mp hs;let#[zs,e1,e2]:=KZ r q2;subst e1;let#[e3,sm]:=Mx r rfl;subst e3;show .inr #[a,_,rfl,h2,.inr #[zs,rfl,by rwa[qo]at h3,λL p pw q hn=>?_]];rw[GC Ij (m:=L.map λz=>D.str z.cps.toList) (λd hd=>by let#[z,_,rfl]:=qJ.mp hd;trivial) (p.map _) (SJ L pw)]at M;show M _ F _ (zn.refl F) (B.newLD hn (LX L λz hz=>sm z (p.mem_iff.mp hz)))
   .show .inl (h8 (by unfold fN;rw[qY h];show e))
  .cases e
 cases d with
 |lst l=>let#[a,xs,rfl,h1,r1]:=O.1.lst B.fr;show J (.inl h1) r1 e λe8=>Mt Z U F G H _ [.lst l] s Q B O e8 M
 |set l=>let#[a,xs,rfl,h1,r1]:=aX.set O.1;show J (.inr (B.fr _ _ h1)) r1 e λe8=>Mt Z U F G H _ [.set l] s Q B O e8 M
 |_=>cases e
def Fp{k:Nat}(F:bE k X.A)(J:Gl X "sorted")(G:X.mg "sorted"=none)(B:bootBuiltins "sorted"=some (.builtin "sorted"))(M:FA X (e::es) z)(L:autoParam (starEach (e::es) X.env=(false,eval e X.env)::starEach es X.env) rZ9)(v:autoParam ((backTo pos (starEach es X.env)).any (·.1)=false) rZ9):FE X (.Call (.Name "sorted" p) (e::es) [] pos) (wB bW z):=
 IV (λpn xe=>SK (X:=wp X pn xe) F.hd) SE J G B M ⋯ ⋯ L v
end
end FL
namespace FL
open PySem PySem.Spec PyProof.Rows L2
section
variable{K:W.Frag}
def Kz:bootBuiltins "dict"=some (.type "dict"):=by decide+kernel
end
end FL
namespace FL
def cJ:List D->Option (List (D×D))
 |[]=>some []
 |.tup [k,v]::r=>(cJ r).map ((k,v)::·)
 |_::_=>none
open Classical in
def dJ:List D->Option S
 |[.tup l]=>match cJ l with
  |some ps=>if(ps.map (·.1)).all bI=true/\(ps.map (·.1)).Nodup/\ps.length<=150 then some (.dct false (ps.map (·.1)) (ps.map λp=>.sh p.2))else none
  |none=>none
 |_=>none
def gL:List D->Option S
 |[.str l]=>if l.length<=150 then some (.set (aC (l.map λc=>.str [c])))else none
 |_=>none
end FL
namespace FL
open PySem PySem.Spec PyProof.Rows L2
section
variable{K:W.Frag}
abbrev Qd:=Addr×aK×V
def kQ:List V->Hp->VK->Prop:=λxs H Q=>∃l,∃v:List Qd,xs=[.ref l]/\H l=some (.tup (v.map λq=>V.ref q.1))/\(∀q∈v,H q.1=some (.tup [kV q.2.1,q.2.2]))/\(v.map (·.2.1)).Nodup/\v.length<=150/\∀p,H p=none->Q (.ref p) (upd H p (.dK (v.map λq:Qd=>q.2)))
def Lw{zD:List (aK×V)}{k:aK}{v:V}(h:k∉zD.map (·.1)):cG zD k v=zD++[(k,v)]:=by unfold cG;rw[qZ];rw[Bool.not_eq_true,List.any_eq_false];intro x z e;show h (qJ.mpr #[x,z,qS e])
def Ta(hr:bE k X.A):aS X (.type "dict") kQ:=by
 intro zC s Z H xs us Q I r h;let#[l,v,rfl,hl,hq,h5,hz,q]:=h;let#[u,rfl,rx]:=vals1 r;cases(show u=Value.ref l from rx);let#[#[_,nd],O,rv,#[c0,d0,data,sl],e1,e2,n0,e3]:=(show zB X.prog X.w H s.heap l _ from I.hok l _ hl)
 let e4:d0=none:=nd _ e1;subst e2 e3 e4;let G:O.length=v.length:=by rw[<-rv.length,qo]
 refine ST.call_dictU (B:=X.A.units+20) (J:=λi h=>(∀b o,s.heap.get? b=some o->h.get? b=some o)/\∃vs,KV ((v.map λq:Qd=>q.2).take i) vs/\h.DictOf (aE X.prog X.w) s.heap.objs.size vs) hr.hd e1 (λh e M=>#[M,[],.nil,?_])
  (λi h h'⟨M,vs,L,o,es,ep,g1,g2⟩ hk=>#[λb o e=>hk b o (le_of_lt (ST.lt_of_get e)) (M b o e),vs,L,o,es,ep,hk _ _ (q5 _) g1,g2])
  (λA i w s' hA hi hw⟨M,vs,L,dd⟩=>?_) (q5 _) λh' tk⟨M,vs,L,dd⟩ hk=>#[.ref _,_,I.laid (o:=.dK (v.map λq:Qd=>q.2)) (t':=tk) hk (q5 _) #[?_,?_,vs,?_,dd],rfl,q _ I.fresh]
 .obtain⟨o,es,ep,h1,h2⟩:=Heap.DictOf.new (knd:=aE X.prog X.w) s.heap;rw[qd _ rfl]at h1;cases h1;show#[_,es,ep,e,h2]
 .have F:i<v.length:=by rw[<-G];simpa using hi
  let#[u,h4,ru]:=rv.get (i:=i) (x:=V.ref v[i].1) (by rw[qE,qh F];rfl);rw[getElem?_toArray,h4]at hw;let h3:u=w:=qf hw;subst h3;cases(show u=Value.ref v[i].1 from ru);let#[_,h8,rt,o,f1,f2,f3]:=(show zB X.prog X.w H s.heap v[i].1 _ from I.hok _ _ (hq v[i] (getElem_mem F)))
  cases rt with
  |cons r1 r2=>
  cases r2 with
  |cons r3 r4=>
  cases r4;rename_i ku yu;show#[v[i].1,ku,yu,rfl,#[o,M _ _ f1,f2,f3],λQ E hQ=>wpAny_dictSet_pairs (hsz:=?_) (Ek r1) dd λh' h6 sb=>hQ h' _ (le_succ _) sb #[λb o e=>(sb.2 b (ne_of_lt (ST.lt_of_get e))).trans (M b o e),_,?_,h6]]
  rotate_left
  .rw[<-L.length,qG,zd];lia
  .have e5:=L.put v[i].2.1 r3;rw[Lw]at e5
   .let e6:(v.map λq:Qd=>q.2).take (i+1)=(v.map λq:Qd=>q.2).take i++[(v[i].2.1,v[i].2.2)]:=by rw[List.take_add_one,qE,qh F];rfl
    rw[e6];show e5
   .intro z;let#[x,hx,ex]:=qJ.mp z;let#[j,hj,ej]:=List.mem_take_iff_getElem.mp hx;let Y:j<i/\j<v.length:=by lia
    let h7:=pairwise_iff_getElem.mp h5 j i (by rw[qo];show Y.2) (by rw[qo];show F) Y.1;rw[getElem_map,getElem_map]at h7;rw[getElem_map]at ej;show h7 (by rw[<-ex,<-ej])
 .rw[qo,zd];lia
 .show beq_eq_false_iff_ne.mpr (Ne.symm (ne_of_lt I.big))
 .let e5:O.toArray.size=(v.map λq:Qd=>q.2).length:=by simpa using G
  rw[e5,take_length]at L;show L
def RR{F H:Hp}(O:zn F H):∀{xs:List V}{l:List D}{ps:List (D×D)},zA K F xs l->cJ l=some ps->(ps.map (·.1)).all bI=true->
  ∃B:List Qd,xs=B.map (λq=>V.ref q.1)/\(∀q∈B,H q.1=some (.tup [kV q.2.1,q.2.2]))/\ps.map (·.1)=B.map (λq=>aG q.2.1)/\zA K F (B.map (·.2.2)) (ps.map (·.2)):=by
 intro xs l ps r;show zA.ind (P:=λxs l=>∀ps,cJ l=some ps->(ps.map (·.1)).all bI=true->∃B:List Qd,xs=B.map (λq=>V.ref q.1)/\(∀q∈B,H q.1=some (.tup [kV q.2.1,q.2.2]))/\ps.map (·.1)=B.map (λq=>aG q.2.1)/\zA K F (B.map (·.2.2)) (ps.map (·.2))) (λps e _=>?_) (λ{x d xs ds} a b ih ps e J=>?_) r ps
 .cases e;show#[[],rfl,(λ_ h=>nomatch h),rfl,.nil]
 .unfold cJ at e;split at e
  .rename_i h;cases h
  .rename_i k v r' h;cases h;rw[qW]at e;let#[G,e1,rfl]:=e;rw[qy,all_cons,and_eq_true]at J;let#[B,rfl,h1,h2,h3]:=ih G e1 J.2;cases a with
   |tup f1 r4=>
    cases r4 with
    |cons r5 r6=>
     cases r6 with
     |cons r7 Y=>
      cases Y;let#[ks,M,L]:=ES (l:=[k]) (.cons r5 .nil) ↑J.1;match ks,M,L with
      |[k'],M,L=>cases M;cases L;show#[(_,k',_)::B,rfl,λq hq=>(qA.mp hq).elim (λz=>by rw[z];show O _ _ f1) (h1 q),by rw[qy,qy,h2],.cons r7 h3]
  .cases e
def zr.ofR{F H:Hp}{xs:List V}{l:List D}(h:zA K F xs l):zr K F H xs (l.map .sh) []:=by
 induction xs generalizing l with
 |nil=>cases h;show .nil
 |cons x xs v=>cases h with
  |cons a b=>have:=zr.cons (aH.sh (H:=H) a) (v b);show this
def SD:cB K kQ dJ:=by
 intro Z U F G H O ds s Q v z e hq;unfold dJ at e;split at e
 .split at e
  .rename_i ps J;split at e
   .rename_i L;cases e;match O,z with
    |[x],⟨z,_⟩=>
     let#[l,xs,rfl,h1,Y]:=aX.tup z;let#[B,rfl,g1,M,g3]:=RR v.fr Y J L.1;let hl:B.length=ps.length:=by let:=congrArg List.length M;simpa using this.symm
     show#[l,B,rfl,v.fr _ _ h1,g1,?_,by rw[hl];show L.2.2,λp hp=>hq _ F _ (zn.refl F) (v.newO hp (.dK Bx (by rw[M,qD];rfl) ?_))]
     .let:=L.2.1;rw[M]at this;show pairwise_map.mpr ((pairwise_map.mp this).imp λ{a b} h e=>h (by rw[e]))
     .rw[qD];let:=zr.ofR (H:=upd H p (.dK (B.map λq:Qd=>q.2))) g3;rwa[qD]at this
   .cases e
  .cases e
 .cases e
def Lq(F:bE k X.A)(J:Gl X "dict")(G:X.mg "dict"=none)(B:bootBuiltins "dict"=some (.type "dict"))(M:FA X (e::es) z)(L:autoParam (starEach (e::es) X.env=(false,eval e X.env)::starEach es X.env) rZ9)(v:autoParam ((backTo pos (starEach es X.env)).any (·.1)=false) rZ9):FE X (.Call (.Name "dict" p) (e::es) [] pos) (wB dJ z):=
 Gi (λpn xe=>Ta (X:=wp X pn xe) F) SD J G B M ⋯ ⋯ L v
end
theorem QZ(hh:A.handled=none)(hu:A.units+20<cLine)(I:Inv X zC Z H s)(hT:s.TypeIs x T)(h2:isSubtype (.type T) (.type "set")=pure false)(Y:isSubtype (.type T) (.type "frozenset")=pure false)(h3:(Value.type T==Value.type "dict")=false)
  (W:ST.WalkOk X.prog X.w s x n P)(hl:n=ks.length)(hP:∀i v(hi:i<ks.length),P i v->zt (kV ks[i]) v)(hz:ks.length<=150)
  (h:∀s',Inv X zC Z (upd H s.heap.objs.size (.set ((fJ id ks).map kV))) s'->Q (.ref s.heap.objs.size) s'):wpAny (model X.prog X.w) A (call (.type "set") [x]) Q E s:=by
 refine ST.call_set (B:=A.units+20) (J:=JK X s ks) hh hT h2 Y h3 W (λh e k=>#[k,[],.refl _,ST.vset_new e,λ_=>e]) (λi h h' hi x hk=>JK.stay X s x hk)
  (λA i v s' Q E hi h5⟨M,xs,p,S,z⟩ hQ hA=>?_) (q5 _) λh' tk⟨M,xs,p,S,z⟩ _ ht=>h _ ?_
 .rw[hl]at hi;let ru:=hP i v hi h5;let h4:xs.length<=150:=by let h1:=p.length_eq;grind[Fi,length_map,fJ,aW,length_take,length_nil]
  let O:∀{h':Heap},Heap.SameBut s.heap.objs.size s'.heap h'->∀b o,s.heap.get? b=some o->h'.get? b=some o:=λL b o e=>(L.2 b (ne_of_lt (ST.lt_of_get e))).trans (M b o e);let G:=IY (id:aK->aK) hi;show ST.setAddV (Ek ru) (IC ru) S h4 (λhm r=>hQ s'.heap _ r (le_succ _) (Heap.SameBut.refl _ _) #[M,xs,?_,S,λz=>nomatch z]) λhm h' ys L pm S' r=>hQ h' _ r (le_succ _) L #[O L,ys,?_,S',λz=>nomatch z]
  .rw[G];unfold aW;grind
  .rw[G];unfold aW;rw[map_id,qZ (show¬id ks[i]∈fJ id (ks.take i) from λz=>hm (p.mem_iff.mp z))];show(qM.trans (List.Perm.cons _ p)).trans (pm.map (·.1)).symm
 .rw[hl,take_length]at p;refine I.laid (t':=tk) M (q5 _) #[?_,?_]
  .grind[length_map,Fi,fJ,aW,length_nil]
  .cases ks with
   |nil=>show .inl #[rfl,z hl]
   |cons y ks=>
    show .inr (.inl #[λe=>?_,xs,?_,S])
    .have h1:∀(l F:List aK),F≠[]->l.foldl (aW id) F≠[]:=λl=>by
      induction l with
      |nil=>show λ_ h=>h
      |cons i l ih=>
       show λF h=>ih _ ?_;unfold aW;split
       .show h
       .simp
     show h1 ks (aW id [] y) (by unfold aW;simp) (map_eq_nil_iff.mp e)
    .let:=p.map kV;rw[qD]at this;show this
section
variable{K:W.Frag}
def nV:List V->Hp->VK->Prop:=λxs H Q=>∃x:Str,xs=[.str x]/\x.cps.size<=150/\∀p,H p=none->Q (.ref p) (upd H p (.set ((fJ id (x.cps.toList.map λc=>(Sum.inr #[[c].toArray]:aK))).map kV)))
def Tj:isSubtype (.type "str") (.type "set")=pure false:=by rw[isSubtype_type];kernel_rfl
def Sy:isSubtype (.type "str") (.type "frozenset")=pure false:=by rw[isSubtype_type];kernel_rfl
def RX(z:bE k X.A):aS X (.type "set") nV:=by
 intro zC s Z H xs O Q I r h;let#[x,rfl,F,q]:=h;let G:X.A.units+20<cLine:=by let:=z.units;lia
 let#[u,rfl,B]:=vals1 r;let#[t,rfl]:=B;show QZ (T:="str") (ks:=x.cps.toList.map λc=>(Sum.inr #[[c].toArray]:aK)) z.hd G I rfl Tj Sy ⋯ (ST.walk_str x t) (by simp) (λi v hi L=>?_) ↑F λs' M=>#[.ref _,_,M,rfl,q _ I.fresh]
 let#[c,u,J,rfl]:=L;let:x.cps.toList[i]?=some c:=by rw[qX];show J
 rw[getElem_map,(qg.mp this).2];show#[u,rfl]
def Rc:cB K nV gL:=by
 intro Z U F G H vs ds s Q B J e L;let#[d,v,rfl,rfl]:=Bv (λx y r=>by cases x<;>rfl) rfl J e;cases d with
 |str l=>
  let e:(if l.length<=150 then some (S.set (aC (l.map λc=>.str [c])))else none)=some s:=e;split at e
  .rename_i O;cases e;let#[x,rfl,e1,z]:=J.1.str;subst e1;show#[x,rfl,O,λp M=>?_];let Y:(x.cps.toList.map λc=>D.str [c])=(x.cps.toList.map λc=>(Sum.inr #[[c].toArray]:aK)).map aG:=by rw[qD];rfl
   rw[Y,Ii id (f:=aG) λi j=>#[Ep,λz=>by rw[show i=j from z]]]at L;show L _ F _ (zn.refl F) (B.newS M (zA.of_all λi hi=>?_));rcases Gc id hi with z|z
   .cases z
   .obtain⟨c,_,rfl⟩:=qJ.mp z;show .str rfl (by show 1<=16777216;decide)
  .cases e
 |_=>cases e
def On(F:bE k X.A)(J:Gl X "set")(G:X.mg "set"=none)(B:bootBuiltins "set"=some (.type "set"))(M:FA X (e::es) z)(L:autoParam (starEach (e::es) X.env=(false,eval e X.env)::starEach es X.env) rZ9)(v:autoParam ((backTo pos (starEach es X.env)).any (·.1)=false) rZ9):FE X (.Call (.Name "set" p) (e::es) [] pos) (wB gL z):=
 Gi (λpn xe=>RX (X:=wp X pn xe) F) Rc J G B M ⋯ ⋯ L v
end
end FL
namespace FL
mutual
def mM:D->D->Bool
 |.int _,.int _=>true
 |.tup l,.tup m=>eI l m
 |_,_=>false
def eI:List D->List D->Bool
 |a::l,b::m=>mM a b&&eI l m
 |_,_=>true
end
end FL
namespace FL
open PySem PySem.Spec PyProof.Rows L2
open PySem.SeqAt AutoSeq1
def uO:bQ (.int i) (.int j)=if i<j then .lt else if j<i then .gt else .eq:=rfl
mutual
theorem RF:∀(d:D),mM d d=true->bQ d d=.eq
 |.int i,_=>by rw[uO,qZ (Int.lt_irrefl i),qZ (Int.lt_irrefl i)]
 |.tup l,h=>Mg l h
 |.non,h|.bl _,h|.str _,h|.lst _,h|.dct ..,h|.set _,h|.exc ..,h=>by cases h
theorem Mg:∀(l:List D),eI l l=true->aQ l l=.eq
 |[],_=>by rw[aQ]
 |d::l,h=>by rw[eI,and_eq_true]at h;rw[aQ,RF d h.1];show Mg l h.2
end
mutual
theorem Np:∀(d e:D),mM d e=true->bQ d e=.eq->d=e
 |.int i,e,h,c=>by
  cases e with
  |int j=>
   rw[uO]at c;split at c
   .cases c
   .split at c
    .cases c
    .rw[show i=j by lia]
  |_=>cases h
 |.tup l,e,h,c=>by
  cases e with
  |tup m=>rw[KJ l m h c]
  |_=>cases h
 |.non,_,h,_|.bl _,_,h,_|.str _,_,h,_|.lst _,_,h,_|.dct ..,_,h,_|.set _,_,h,_|.exc ..,_,h,_=>by cases h
theorem KJ:∀(l m:List D),eI l m=true->aQ l m=.eq->l=m
 |[],[],_,_=>rfl
 |[],_::_,_,c=>by rw[aQ]at c;cases c
 |_::_,[],_,c=>by rw[aQ]at c;cases c
 |d::l,e::m,h,c=>by
  rw[eI,and_eq_true]at h;rw[aQ]at c;cases q:bQ d e with
  |eq=>rw[q]at c;rw[Np d e h.1 q,KJ l m h.2 c]
  |lt=>rw[q]at c;cases c
  |gt=>rw[q]at c;cases c
end
mutual
theorem RQ:∀(d e:D),mM d e=true->aI d e=false
 |.int i,e,h=>by cases e<;>first|rfl|cases h
 |.tup l,e,h=>by
  cases e with
  |tup m=>show MM l m h
  |_=>cases h
 |.non,_,h|.bl _,_,h|.str _,_,h|.lst _,_,h|.dct ..,_,h|.set _,_,h|.exc ..,_,h=>by cases h
theorem MM:∀(l m:List D),eI l m=true->bC l m=false
 |[],[],_=>rfl
 |[],_::_,_=>rfl
 |_::_,[],_=>rfl
 |d::l,e::m,h=>by rw[eI,and_eq_true]at h;show(aI d e||bC l m)=false;rw[RQ d e h.1,MM l m h.2];rfl
end
end FL
namespace FL
def e_C:wC d U Q E=Q (.v (.sh d)) U:=rfl
def kV(o:Option S)(Q:WQ)(U:Env):Prop:=zm o λs=>Q (.v s) U
def e_V:kV (some s) Q U=Q (.v s) U:=rfl
def uG(o:D->D->Option S)(x y:Option D)(Q:WQ)(U:Env):Prop:=zm x λp=>zm y λq=>kV (o p q) Q U
def lG(o:D->D->Option S)(x:R)(Q:WQ):WQ:=λy v=>uG o (zy x v) (zy y v) Q v
def oC(o:D->D->Option S)(b:WE)(Q:WQ)(E:WX):WQ:=λx v=>b v (lG o x Q) E
def znx:zu o a b U Q E=a U (oC o b Q E) E:=rfl
def zka:oC o b Q E x U=b U (lG o x Q) E:=rfl
def kC(o:Option Bool)(Q:Bool->Env->Prop)(U:Env):Prop:=zm o λc=>Q c U
def e_Ck{c:Bool}:kC (some c) QT U=QT c U:=rfl
def uE(o:D->D->Option Bool)(x y:Option D)(Q:Bool->Env->Prop)(U:Env):Prop:=zm x λp=>zm y λq=>kC (o p q) Q U
def lF(o:D->D->Option Bool)(x:R)(Q:Bool->Env->Prop):WQ:=λy v=>uE o (view x v) (view y v) Q v
def oA(o:D->D->Option Bool)(b:WE)(Q:Bool->Env->Prop)(E:WX):WQ:=λx v=>b v (lF o x Q) E
def znp:cD v a b U QT E=a U (oA v b QT E) E:=rfl
def zlF:oA v b QT E x U=b U (lF v x QT) E:=rfl
def rY(b:WT)(Q:Bool->Env->Prop)(E:WX):Bool->Env->Prop:=λc v=>if c then b v Q E else Q false v
def zn0:jQ t u U QT E=t U (rY u QT E) E:=rfl
def zkK:rY u QT E true U=u U QT E:=rfl
def zkB:rY u QT E false U=QT false U:=rfl
def tZ(Q:WQ):Bool->Env->Prop:=λc v=>Q (.v (.sh (.bl c))) v
def zm8:kI t U Q E=t U (tZ Q) E:=rfl
def zk0{c:Bool}:tZ Q c U=Q (.v (.sh (.bl c))) U:=rfl
def zmx:zk U QA E=QA [] U:=rfl
def hW(r:R)(Q:List R->Env->Prop):List R->Env->Prop:=λv U=>Q (r::v) U
def lE(b:WA)(Q:List R->Env->Prop)(E:WX):WQ:=λr v=>b v (hW r Q) E
def zlp:zj a v U QA E=a U (lE v QA E) E:=rfl
def zi6:lE v QA E r U=v U (hW r QA) E:=rfl
def zi8:hW r QA rs U=QA (r::rs) U:=rfl
def uL(s:S):Option (List S×Env)->Option (List S×Env)
 |some (ss,U)=>some (s::ss,U)
 |none=>none
def zK(rs:List R):Option (S×Env)->Option (List S×Env)
 |some (s,U)=>uL s (aJ rs U)
 |none=>none
def znP:aJ [] U=some ([],U):=rfl
theorem e_gA:aJ (r::rs) U=zK rs (give r U):=by
 rw[aJ];unfold zK;cases give r U with
 |none=>rfl
 |some z=>let#[s,v]:=z;show(match aJ rs v with|some (ss,U2)=>some (s::ss,U2)|none=>none)=uL s (aJ rs v);unfold uL;rfl
def zoh:zK rs (some (s,U))=uL s (aJ rs U):=rfl
def zmq:uL s (some (ss,U))=some (s::ss,U):=rfl
def e_gv:give (.v s) U=some (s,U):=rfl
def iV(l:Bool)(x:Option (List S×Env))(Q:WQ):Prop:=zm (if l then x else none) λp=>Q (.v (.sh (.tup (p.1.map S.toD)))) p.2
def jB(l:Bool)(x:Option (List S×Env))(Q:WQ):Prop:=zm (if l then x else none) λp=>Q (.v (.lst p.1)) p.2
def dA(rs:List R):Bool:=decide (rs.length<=big)
def rH(Q:WQ):List R->Env->Prop:=λv U=>iV (dA v) (aJ v U) Q
def rP(Q:WQ):List R->Env->Prop:=λv U=>jB (dA v) (aJ v U) Q
theorem znz:cW v U Q E=v U (rH Q) E:=by unfold cW rH iV dA;simp
def zke:rH Q rs U=iV (dA rs) (aJ rs U) Q:=rfl
def zkL:iV true (some (ss,U)) Q=Q (.v (.sh (.tup (ss.map S.toD)))) U:=rfl
theorem zmi:eK v U Q E=v U (rP Q) E:=by unfold eK rP jB dA;simp
def zla:rP Q rs U=jB (dA rs) (aJ rs U) Q:=rfl
def zlq:jB true (some (ss,U)) Q=Q (.v (.lst ss)) U:=rfl
def e_l0:dA []=true:=rfl
def e_l1:dA [v]=true:=rfl
def e_l2:dA [z,v]=true:=rfl
def e_l3:dA [B,z,v]=true:=rfl
def e_vv:view (.v s) U=some s.toD:=rfl
def e_cv:zy (.v s) U=some s.toD:=rfl
def vC:Option S->Option D
 |some s=>if s.flat then some s.toD else none
 |none=>none
theorem e_cl:zy (.loc i) U=vC (slot U i):=by unfold zy vC;rfl
theorem zlj(h:l.all S.isSh=true):vC (some (.lst l))=some (.lst (l.map S.toD)):=by show(if l.all S.isSh=true then some (S.toD (.lst l))else none)=_;rw[qY h,S.toD_lst]
theorem e_sh{l:List D}:(l.map S.sh).all S.isSh=true:=by simp[S.isSh]
theorem zat{l:List D}:(l.map S.sh).map S.toD=l:=by rw[qD];show map_id l
theorem zny:vC (some (.lst (l.map S.sh)))=some (.lst l):=by rw[zlj e_sh,zat]
def mZ(o:Option S)(Q:WQ)(U:Env):Prop:=match o with|some (.sh d)=>Q (.v (.sh d)) U|_=>False
def nA(o:Option S)(q:D)(Q:WQ)(U:Env):Prop:=match o with|some s=>mZ (iA s q) Q U|none=>False
def lB(x:R)(o:Option D)(Q:WQ)(U:Env):Prop:=zm o λq=>match x with|.v s=>kV (iA s q) Q U|.loc i=>nA (slot U i) q Q U
def nB(x:R)(Q:WQ):WQ:=λy v=>lB x (view y v) Q v
def rQ(b:WE)(Q:WQ)(E:WX):WQ:=λx v=>b v (nB x Q) E
theorem e_Ix:fI a b U Q E=a U (rQ b Q E) E:=by unfold fI rQ nB lB nA mZ kV;rfl
def znG:rQ b Q E x U=b U (nB x Q) E:=rfl
def zni:nB x Q y U=lB x (view y U) Q U:=rfl
def zlI:lB (.v s) (some q) Q U=kV (iA s q) Q U:=rfl
def zjD:lB (.loc i) (some q) Q U=nA (slot U i) q Q U:=rfl
def zmm:nA (some s) q Q U=mZ (iA s q) Q U:=rfl
def zmz:mZ (some (.sh d)) Q U=Q (.v (.sh d)) U:=rfl
def zmt:iA (.sh (.tup l)) (.int z)=(atI l z).map S.sh:=rfl
def zl4:iA (.sh (.lst l)) (.int z)=(atI l z).map S.sh:=rfl
def znS:iA (.sh (.str l)) (.int z)=(atI l z).map λc=>S.sh (.str [c]):=rfl
def zn8:iA (.lst l) (.int z)=atI l z:=rfl
def Hd(B:0<=z)(h:l[z.toNat]?=some v):atI l z=some v:=by let:z.toNat<l.length:=(qg.mp h).1;unfold atI ixN;rw[qY B,qY ∅];show h
theorem znN:atI (v::l) 0=some v:=Hd ⋯ rfl
theorem zmL:atI (z::v::l) 1=some v:=Hd ⋯ rfl
def pA(s:S):Option (List S×Env)->Option (List S×Env)
 |some (ss,U)=>some (s::ss,U)
 |none=>none
theorem e_p0:bU ms [] U=some ([],U):=by cases ms<;>rfl
theorem e_pv:bU (h::ms) (.v s::rs) U=pA s (bU ms rs U):=by rw[bU];unfold pA;rfl
def pL(i:Nat)(o:Option S)(ms:List Bool)(rs:List R)(U:Env):Option (List S×Env):=match o with
 |some s=>pA s (bU ms rs (U.set i none))
 |none=>none
theorem e_pl:bU (true::ms) (.loc i::rs) U=pL i (slot U i) ms rs U:=by rw[bU];unfold pL pA;cases slot U i<;>rfl
def zn3:pL i (some s) ms rs U=pA s (bU ms rs (U.set i none)):=rfl
def e_pA:pA s (some (ss,U))=some (s::ss,U):=rfl
def e_b0:back ms [] ss U=U:=rfl
def e_bv{s t:S}:back (h::ms) (.v s::rs) (t::ss) U=back ms rs ss U:=rfl
def e_bl{t:S}:back (true::ms) (.loc i::rs) (t::ss) U=back ms rs ss (U.set i (some t)):=rfl
def lD(ms:List Bool)(rs:List R)(U:Env)(Q:WQ):S->List S->Prop:=λs v=>Q (.v s) (back ms rs v U)
def uF(ms:List Bool)(rs:List R)(U:Env)(E:WX):D->List S->Prop:=λx v=>E x (back ms rs v U)
def hX(f:WF)(ms:List Bool)(rs:List R)(o:Option (List S×Env))(Q:WQ)(E:WX):Prop:=zm o λp=>f p.1 (lD ms rs p.2 Q) (uF ms rs p.2 E)
def oB(f:WF)(ms:List Bool)(Q:WQ)(E:WX):List R->Env->Prop:=λv U=>hX f ms v (bU ms v U) Q E
def zlG:zw f ms v U Q E=v U (oB f ms Q E) E:=rfl
def zjl:oB f ms Q E rs U=hX f ms rs (bU ms rs U) Q E:=rfl
def ziK:hX f ms rs (some (ss,U)) Q E=f ss (lD ms rs U Q) (uF ms rs U E):=rfl
def zkh:lD ms rs U Q s ss=Q (.v s) (back ms rs ss U):=rfl
def vA:Option D->Option (List D)->Option (List D)
 |some d,some ds=>some (d::ds)
 |_,_=>none
def eQ(rs:List R)(U:Env):Option (List D):=match rs with
 |[]=>some []
 |r::rs=>vA (zy r U) (eQ rs U)
def IB:∀rs:List R,(rs.mapM λr=>zy r U)=eQ rs U
 |[]=>rfl
 |r::rs=>by
  rw[List.mapM_cons,IB rs,eQ];cases zy r U with
  |none=>rfl
  |some d=>cases eQ rs U<;>rfl
def zlX:eQ [] U=some []:=rfl
def e_vA:eQ (r::rs) U=vA (zy r U) (eQ rs U):=rfl
def zna:vA (some d) (some v)=some (d::v):=rfl
def rX(f:List D->Option S)(o:Option (List D))(Q:WQ)(U:Env):Prop:=zm o λv=>kV (f v) Q U
def kB(f:List D->Option S)(Q:WQ):List R->Env->Prop:=λv U=>rX f (eQ v U) Q U
theorem e_B:wB f v U Q E=v U (kB f Q) E:=by unfold wB kB rX kV;simp only[IB]
def e_B1:kB f Q rs U=rX f (eQ rs U) Q U:=rfl
def e_B2:rX f (some v) Q U=kV (f v) Q U:=rfl
def mX(f:List Nat->List D->Option S)(l:List Nat)(Q:WQ):List R->Env->Prop:=λv U=>rX (f l) (eQ v U) Q U
def yT(f:List Nat->List D->Option S)(v:WA)(Q:WQ)(E:WX):WQ:=λx U=>match x with
 |.v (.sh (.str l))=>v U (mX f l Q) E
 |_=>False
theorem e_MS:oJ f a v U Q E=a U (yT f v Q E) E:=by unfold oJ yT mX rX kV;simp only[IB];all_goals rfl
def znd:yT f v Q E (.v (.sh (.str l))) U=v U (mX f l Q) E:=rfl
def znU:mX f l Q rs U=rX (f l) (eQ rs U) Q U:=rfl
def nG(j:Nat)(s:S)(o:Option S)(U:Env)(Q:WQ):Prop:=match o with
 |some (.lst l)=>l.length<big/\Q (.v (.sh .non)) (U.set j (some (.lst (l++[s]))))
 |_=>False
def nH(j:Nat)(o:Option (S×Env))(Q:WQ):Prop:=zm o λp=>nG j p.1 (slot p.2 j) p.2 Q
def nI(j:Nat)(Q:WQ):WQ:=λr U=>nH j (give r U) Q
def yV(j:Nat)(o:Option S)(a:WE)(U:Env)(Q:WQ)(E:WX):Prop:=match o with
 |some (.lst _)=>a U (nI j Q) E
 |_=>False
theorem e_Ap:cT j a U Q E=yV j (slot U j) a U Q E:=by unfold cT yV nI nH nG;rfl
def zmH:yV j (some (.lst l)) a U Q E=a U (nI j Q) E:=rfl
def znk:nI j Q r U=nH j (give r U) Q:=rfl
def znm:nH j (some (s,U)) Q=nG j s (slot U j) U Q:=rfl
def znY:nG j s (some (.lst l)) U Q=(l.length<big/\Q (.v (.sh .non)) (U.set j (some (.lst (l++[s]))))):=rfl
def iZ(j:Nat)(o:Option D)(p:Option S)(U:Env)(Q:WQ):Prop:=match o,p with
 |some (.int i),some (.lst l)=>zm (if l.length<=big then ixN l.length i else none) λk=>zm l[k]? λs=>Q (.v s) (U.set j (some (.lst (l.eraseIdx k))))
 |_,_=>False
def jA(j:Nat)(Q:WQ):WQ:=λr U=>iZ j (view r U) (slot U j) U Q
def rO(j:Nat)(o:Option S)(a:WE)(U:Env)(Q:WQ)(E:WX):Prop:=match o with
 |some (.lst _)=>a U (jA j Q) E
 |_=>False
theorem zmw:eD j a U Q E=rO j (slot U j) a U Q E:=by unfold eD rO jA iZ;rfl
def zln:rO j (some (.lst l)) a U Q E=a U (jA j Q) E:=rfl
def zkP:jA j Q r U=iZ j (view r U) (slot U j) U Q:=rfl
def HW(F:0<=z)(B:l.length<=big)(h:l[z.toNat]?=some s)(v:Q (.v s) (U.set j (some (.lst (l.eraseIdx z.toNat))))):iZ j (some (.int z)) (some (.lst l)) U Q:=by
 let:z.toNat<l.length:=(qg.mp h).1;let e:(if l.length<=big then ixN l.length z else none)=some z.toNat:=by unfold ixN;rw[qY B,qY F,qY ∅]
 show zm (if l.length<=big then ixN l.length z else none) _;rw[e,My,h];show v
def mQ(j:Nat)(r:R)(o:Option S)(U:Env)(Q:WQ):Prop:=match r,o with
 |.v (.lst m),some (.lst l)=>l.length+m.length<=big/\Q (.v (.sh .non)) (U.set j (some (.lst (l++m))))
 |_,_=>False
def mR(j:Nat)(Q:WQ):WQ:=λr U=>mQ j r (slot U j) U Q
def yO(j:Nat)(o:Option S)(a:WE)(U:Env)(Q:WQ)(E:WX):Prop:=match o with
 |some (.lst _)=>a U (mR j Q) E
 |_=>False
theorem e_Xt:cI j a U Q E=yO j (slot U j) a U Q E:=by unfold cI yO mR mQ;rfl
def zmS:yO j (some (.lst l)) a U Q E=a U (mR j Q) E:=rfl
def zmP:mR j Q r U=mQ j r (slot U j) U Q:=rfl
def zlS{l m:List S}:mQ j (.v (.lst m)) (some (.lst l)) U Q=(l.length+m.length<=big/\Q (.v (.sh .non)) (U.set j (some (.lst (l++m))))):=rfl
def zjH{t:Bool}:kJ t U Q E=Q (.v (.dct t [] [])) U:=rfl
def rN(o:Option D)(Q:Option Int->Env->Prop)(U:Env):Prop:=match o with|some (.int i)=>Q (some i) U|_=>False
def aj(Q:Option Int->Env->Prop):WQ:=λx U=>rN (view x U) Q U
def zmc{Q:Option Int->Env->Prop}:eG none U Q E=Q none U:=rfl
def e_Pt{Q:Option Int->Env->Prop}:eG (some a) U Q E=a U (aj Q) E:=rfl
def zoi{Q:Option Int->Env->Prop}:aj Q x U=rN (view x U) Q U:=rfl
def znj{Q:Option Int->Env->Prop}:rN (some (.int z)) Q U=Q (some z) U:=rfl
def rJ(o:Option D)(l h:Option Int)(Q:WQ)(U:Env):Prop:=zm o λd=>kV (jF d l h) Q U
def rK(x:R)(l:Option Int)(Q:WQ):Option Int->Env->Prop:=λh U=>rJ (zy x U) l h Q U
def rL(x:R)(hi:Option WE)(Q:WQ)(E:WX):Option Int->Env->Prop:=λl U=>eG hi U (rK x l Q) E
def ah(lo hi:Option WE)(Q:WQ)(E:WX):WQ:=λx U=>eG lo U (rL x hi Q E) E
def e_Sl:sV a lo hi U Q E=a U (ah lo hi Q E) E:=rfl
def zod:ah lo hi Q E x U=eG lo U (rL x hi Q E) E:=rfl
def znR:rL x hi Q E l U=eG hi U (rK x l Q) E:=rfl
def zmD:rK x l Q h U=rJ (zy x U) l h Q U:=rfl
def znV:rJ (some d) l h Q U=kV (jF d l h) Q U:=rfl
def sN(D:Ends)(k:Env->Prop):Ends:={D with nx:=k}
def e_nx:(sN D' K).nx=K:=rfl
def e_rt:(sN D' K).rt=D'.rt:=rfl
def e_ex:(sN D' K).ex=D'.ex:=rfl
def zk6:dR D' U=D'.nx U:=rfl
def zmg:zv v w D' U=v (sN D' (w D')) U:=rfl
def vX(a b:WS)(D:Ends):Bool->Env->Prop:=λk U=>if k then a D U else b D U
def e_If:lT t v w D' U=t U (vX v w D') D'.ex:=rfl
def znl:vX v w D' true U=v D' U:=rfl
def znC:vX v w D' false U=w D' U:=rfl
def zl6:cC a D' U=a U D'.rt D'.ex:=rfl
def av(D:Ends):WQ:=λ_ U=>D.nx U
def zkJ:wExpr a D' U=a U (av D') D'.ex:=rfl
def ziY:av D' r U=D'.nx U:=rfl
def lH(g:WG)(D:Ends)(o:Option (S×Env)):Prop:=zm o λp=>g p.1 p.2 D.nx
def uH(g:WG)(D:Ends):WQ:=λr U=>lH g D (give r U)
def zm5:zx g a D' U=a U (uH g D') D'.ex:=rfl
def zkj:uH g D' r U=lH g D' (give r U):=rfl
def zkO:lH g D' (some (s,U))=g s U D'.nx:=rfl
def kX(i j:Nat)(D:Ends)(s:S)(o:Option (S×Env)):Prop:=zm o λq=>D.nx ((q.2.set i (some s)).set j (some q.1))
def kY(i j:Nat)(D:Ends)(t:R)(o:Option (S×Env)):Prop:=zm o λp=>kX i j D p.1 (give t p.2)
def tY(i j:Nat)(D:Ends):List R->Env->Prop:=λv U=>match v with
 |[r,t]=>kY i j D t (give r U)
 |_=>False
theorem zm3:lX i j v D' U=v U (tY i j D') D'.ex:=by unfold lX;congr 1
def zk5:tY i j D' [r,x] U=kY i j D' x (give r U):=rfl
def zkW:kY i j D' x (some (s,U))=kX i j D' s (give x U):=rfl
def zj4:kX i j D' s (some (s',U))=D'.nx ((U.set i (some s)).set j (some s')):=rfl
def e_gN:zl i s U K=K (U.set i (some s)):=rfl
def ar(v:List WG)(d:D)(U:Env)(Q:Env->Prop):Prop:=match d with|.tup ds=>ds.length=v.length/\dB v ds U Q|_=>False
def e_gT:cH v s U K=ar v s.toD U K:=rfl
def zl0:ar v (.tup z) U K=(z.length=v.length/\dB v z U K):=rfl
def uC(v:List WG)(z:List D)(Q:Env->Prop):Env->Prop:=λU=>dB v z U Q
def zm1:dB [] [] U K=K U:=rfl
def zmA:dB (g::v) (d::z) U K=g (.sh d) U (uC v z K):=rfl
def zmj:uC v z K U=dB v z U K:=rfl
def fP(j:Nat)(D:Ends)(x:R)(q:FL.D)(s:S)(o:Option S)(U:Env):Prop:=match x,q,o with
 |.loc k,.int n,some (.lst l)=>k=j/\zm (ixN l.length n) λm=>D.nx (U.set j (some (.lst (l.set m s))))
 |_,_,_=>False
def iW(j:Nat)(D:Ends)(x:R)(o:Option FL.D)(p:Option (S×Env)):Prop:=zm o λq=>zm p λp=>fP j D x q p.1 (slot p.2 j) p.2
def iX(j:Nat)(D:Ends)(r x:R):WQ:=λy U=>iW j D x (view y U) (give r U)
def iY(j:Nat)(i:WE)(D:Ends)(r:R):WQ:=λx U=>i U (iX j D r x) D.ex
def kW(j:Nat)(i:WE)(D:Ends):WQ:=λr U=>zi j U (iY j i D r) D.ex
theorem zn4:eP j a b D' U=b U (kW j a D') D'.ex:=by unfold eP kW iY iX iW fP;rfl
def zlt:kW j a D' r U=zi j U (iY j a D' r) D'.ex:=rfl
def zjJ:iY j a D' r x U=a U (iX j D' r x) D'.ex:=rfl
def zk4:iX j D' r x y U=iW j D' x (view y U) (give r U):=rfl
def zkE:iW j D' x (some q) (some (s,U))=fP j D' x q s (slot U j) U:=rfl
def Km(v:0<=z)(h1:z<l.length):fP j D' (.loc j) (.int z) s (some (.lst l)) U=D'.nx (U.set j (some (.lst (l.set z.toNat s)))):=by show(j=j/\zm (ixN l.length z) _)=_;unfold ixN;rw[qY v,qY h1,My];simp
theorem zjA:fP j D' (.loc j) (.int 0) s (some (.lst [s0,v])) U=D'.nx (U.set j (some (.lst [s,v]))):=Km ⋯ (by show(0:Int)<2;decide)
theorem zjp:fP j D' (.loc j) (.int 1) s (some (.lst [s0,v])) U=D'.nx (U.set j (some (.lst [s0,s]))):=Km ⋯ (by show(1:Int)<2;decide)
def rR(o:Option (List D))(U:Env)(Q:List D->Env->Prop):Prop:=zm o λl=>Q l U
def rS(o:Option (S×Env))(Q:List D->Env->Prop):Prop:=zm o λp=>rR (items p.1.toD) p.2 Q
def aq(Q:List D->Env->Prop):WQ:=λr U=>rS (give r U) Q
def e_It:bD a U QI E=a U (aq QI) E:=rfl
def zog:aq QI r U=rS (give r U) QI:=rfl
def zmV:rS (some (s,U)) QI=rR (items s.toD) U QI:=rfl
def zl1:rR (some l) U QI=QI l U:=rfl
def zlW:items (.lst l)=some l:=rfl
def zns:items (.tup l)=some l:=rfl
def zm6:items (.str l)=some (l.map λc=>.str [c]):=rfl
def rM(o:Option D)(Q:List D->Env->Prop)(U:Env):Prop:=match o with|some (.int j)=>(-big<=j/\j<=big)/\Q (fromTo 0 j.toNat) U|_=>False
def ai(Q:List D->Env->Prop):WQ:=λr U=>rM (view r U) Q U
def e_R1:bL a U QI E=a U (ai QI) E:=rfl
def znw:ai QI r U=rM (view r U) QI U:=rfl
def zm9:rM (some (.int z)) QI U=((-big<=z/\z<=big)/\QI (fromTo 0 z.toNat) U):=rfl
def kFor(g:WG)(b:WS)(D:Ends):List FL.D->Env->Prop:=λl U=>bS g b l D U
def znT:cX it g v D' U=it U (kFor g v D') D'.ex:=rfl
def zjQ:kFor g v D' l U=bS g v l D' U:=rfl
def tX(g:WG)(b:WS)(xs:List FL.D)(D:Ends):Ends:={D with nx:=bS g b xs D,ct:=bS g b xs D,bk:=D.nx}
def ak(g:WG)(b:WS)(xs:List FL.D)(D:Ends):Env->Prop:=λU=>b (tX g b xs D) U
def zN:bS g v (d::xs) D' U=g (.sh d) U (ak g v xs D'):=rfl
def znq:ak g v xs D' U=v (tX g v xs D') U:=rfl
def znE:(tX g v xs D').nx=bS g v xs D':=rfl
def zl8:(tX g v xs D').ex=D'.ex:=rfl
def kZ(n:Nat)(o:Option S)(U:Env)(Q:WQ):Prop:=zm o λs=>Q (.v s) (U.take n)
def lA(n:Nat)(Q:WQ):Env->Prop:=λU=>kZ n (slot U n) U Q
def mY(n:Nat)(E:WX):WX:=NX
def ao(n k:Nat)(g:WG)(c:WT)(b:WB)(Q:WQ)(E:WX):List D->Env->Prop:=λl U=>aL g c b l (U++some (.lst [])::List.replicate k none) (lA n Q) (mY n E)
def e_LC:iQ n m it g c v U Q E=it U (ao n m g c v Q E) E:=rfl
def zno:ao n m g c v Q E l U=aL g c v l (U++some (.lst [])::List.replicate m none) (lA n Q) (mY n E):=rfl
def zmU:lA n Q U=kZ n (slot U n) U Q:=rfl
def zj3:kZ n (some s) U Q=Q (.v s) (U.take n):=rfl
def mP(g:WG)(c:WT)(b:WB)(xs:List D)(Q:Env->Prop)(E:WX):Env->Prop:=λU=>aL g c b xs U Q E
def rG(g:WG)(c:WT)(b:WB)(xs:List D)(Q:Env->Prop)(E:WX):Bool->Env->Prop:=λk U=>if k then b U (mP g c b xs Q E) E else aL g c b xs U Q E
def ae(g:WG)(c:WT)(b:WB)(xs:List D)(Q:Env->Prop)(E:WX):Env->Prop:=λU=>c U (rG g c b xs Q E) E
def znr:aL g c v [] U QE E=QE U:=rfl
def uM:aL g c v (d::xs) U QE E=g (.sh d) U (ae g c v xs QE E):=rfl
def zmy:ae g c v xs QE E U=c U (rG g c v xs QE E) E:=rfl
def zjI:rG g c v xs QE E true U=v U (mP g c v xs QE E) E:=rfl
def zmY:mP g c v xs QE E U=aL g c v xs U QE E:=rfl
def nE(n:Nat)(s:S)(o:Option S)(U:Env)(Q:Env->Prop):Prop:=match o with
 |some (.lst l)=>l.length<big/\Q (U.set n (some (.lst (l++[s]))))
 |_=>False
def nF(n:Nat)(o:Option (S×Env))(Q:Env->Prop):Prop:=zm o λp=>nE n p.1 (slot p.2 n) p.2 Q
def yU(n:Nat)(Q:Env->Prop):WQ:=λr U=>nF n (give r U) Q
theorem e_Em:bN n a U QE E=a U (yU n QE) E:=by unfold bN yU nF nE;rfl
def zmb:yU n QE r U=nF n (give r U) QE:=rfl
def zm2:nF n (some (s,U)) QE=nE n s (slot U n) U QE:=rfl
def znv:nE n s (some (.lst l)) U QE=(l.length<big/\QE (U.set n (some (.lst (l++[s]))))):=rfl
def ag(g:WG)(c:WT)(b:WB)(Q:Env->Prop)(E:WX):List D->Env->Prop:=λl U=>aL g c b l U Q E
def e_bF:nM it g c v U QE E=it U (ag g c v QE E) E:=rfl
def zof:ag g c v QE E l U=aL g c v l U QE E:=rfl
def zlT:cV U QT E=QT true U:=rfl
def sQ(o:Option (List S))(P:S->List S->Prop)(s:S):Prop:=zm o λfs=>P s fs
def yR(n:Nat)(ss:List S)(P:S->List S->Prop)(i:Nat)(o:Option S)(U:Env):Prop:=zm o λs=>if i<n then sQ (aB ss (U.set i (some (.sh s.toD)))) P (.sh s.toD)else sQ (aB ss U) P s
def yS(n:Nat)(ss:List S)(P:S->List S->Prop):WQ:=λr U=>match r with
 |.v s=>sQ (aB ss U) P s
 |.loc i=>yR n ss P i (slot U i) U
def ay(n:Nat)(ss:List S)(P:S->List S->Prop)(PX:D->List S->Prop):Ends where
 nx:=λU=>sQ (aB ss U) P (.sh .non)
 rt:=yS n ss P
 bk:=λ_=>False
 ct:=λ_=>False
 ex:=λx U=>zm (aB ss U) λfs=>PX x fs
def CQ(z:ss.length=n)(B:((List.range ss.length).all λi=>decide (i∈ks))=true)(h:v (ay n ss P PX) (ss.map some++List.replicate (m-n) none)):gH n m ks v ss P PX:=by show#[z,λi s hi=>?_,h];let:=(qg.mp hi).1;show .inl (by simpa using qH.mp B i ↑this)
def znf:(ay n ss P PX).rt=yS n ss P:=rfl
def e_Rt:yS n ss P (.v s) U=sQ (aB ss U) P s:=rfl
def e_Fn:sQ (some fs) P s=P s fs:=rfl
def fA(s:S):Option (List S)->Option (List S)
 |some fs=>some (s::fs)
 |none=>none
theorem e_f0:aB [] U=some []:=by cases U<;>rfl
theorem e_fs:aB (.sh d::ss) (o::U)=fA (.sh d) (aB ss U):=by show(aB ss U).map _=_;cases aB ss U<;>rfl
theorem e_fl:aB (.lst l::ss) (some s::U)=fA s (aB ss U):=by show(aB ss U).map _=_;cases aB ss U<;>rfl
def e_fA:fA s (some fs)=some (s::fs):=rfl
def zmI:bY (.int i) (.int j)=some (.sh (.int (i+j))):=rfl
theorem zk1(h:x.length+y.length<=big):bY (.str x) (.str y)=some (.sh (.str (x++y))):=qY h
def zmT:kS (.int i) (.int j)=some (.sh (.int (i-j))):=rfl
theorem zj5(h:-(2^64)<i/\i<2^64):kU (.int i) (.int j)=some (.sh (.int (i*j))):=by show(if iU i j=true then _ else none)=_;rw[qY (by simp only[iU,h.1,h.2,decide_true,Bool.and_self,Bool.true_or])]
theorem zl3(h:0<j):dX (.int i) (.int j)=some (.sh (.int (i %j))):=qY h
theorem zkf(h:0<j)(h2:j<18446744073709551616):fO (.int i) (.int j)=some (.sh (.int (i/j))):=qY #[h,h2]
theorem zmE(h:0<=j/\j<=1000/\i.natAbs<2^64):kT (.int i) (.int j)=some (.sh (.int (i^j.toNat))):=qY h
def e_lt:wA (.int i) (.int j)=some (decide (i<j)):=rfl
def e_gt:oE (.int i) (.int j)=some (decide (j<i)):=rfl
def e_ge:wD (.int i) (.int j)=some (decide (j<=i)):=rfl
theorem zk7:jM (.str x) (.str y)=some (decide (x=y)):=by unfold jM;rw[qZ (by show λz=>Bool.noConfusion (show false=true from z))];simp
theorem zoe:lL (.str x) (.str y)=some (!decide (x=y)):=by unfold lL;rw[zk7];rfl
def zjG:cP [.str x]=some (.sh (.int x.length)):=rfl
def zjV:cP [.lst l]=some (.sh (.int l.length)):=rfl
def zjB:jH [.bl b]=some (.sh (.int (if b then 1 else 0))):=rfl
def zj0:cM [.lst l]=some (.sh (.tup l)):=rfl
theorem zlD(h:x.length<=big):gD [.str x]=some (.lst (x.map λc=>.sh (.str [c]))):=qY h
def znb:jF (.str x) a b=some (.sh (.str (dH x a b))):=rfl
def zn5:jF (.lst l) a b=some (.lst ((dH l a b).map .sh)):=rfl
def zmK:zi 0 (some (.sh d)::U) Q E=Q (.v (.sh d)) (some (.sh d)::U):=rfl
def znh:zi 0 (some (.lst l)::U) Q E=Q (.loc 0) (some (.lst l)::U):=rfl
def zm4:slot (v::U) 0=v:=rfl
def zme:List.set (u::U) 0 v=v::U:=rfl
def znI:zi 1 (s0::some (.sh d)::U) Q E=Q (.v (.sh d)) (s0::some (.sh d)::U):=rfl
def zmF:List.set (s0::u::U) 1 v=s0::v::U:=rfl
def znt:zi 2 (s0::v::some (.sh d)::U) Q E=Q (.v (.sh d)) (s0::v::some (.sh d)::U):=rfl
def zmu:zi 2 (s0::v::some (.lst l)::U) Q E=Q (.loc 2) (s0::v::some (.lst l)::U):=rfl
def zmO:slot (s0::z::v::U) 2=v:=rfl
def znK:List.set (s0::z::u::U) 2 v=s0::z::v::U:=rfl
def zml:zi 3 (s0::z::v::some (.sh d)::U) Q E=Q (.v (.sh d)) (s0::z::v::some (.sh d)::U):=rfl
def zn2:zi 3 (s0::z::v::some (.lst l)::U) Q E=Q (.loc 3) (s0::z::v::some (.lst l)::U):=rfl
def zoc:slot (s0::B::z::v::U) 3=v:=rfl
def znJ:List.set (s0::B::z::u::U) 3 v=s0::B::z::v::U:=rfl
def zmo:zi 4 (s0::B::z::v::some (.sh d)::U) Q E=Q (.v (.sh d)) (s0::B::z::v::some (.sh d)::U):=rfl
def zmd:zi 4 (s0::B::z::v::some (.lst l)::U) Q E=Q (.loc 4) (s0::B::z::v::some (.lst l)::U):=rfl
def znL:slot (s0::F::B::z::v::U) 4=v:=rfl
def zmX:List.set (s0::F::B::z::u::U) 4 v=s0::F::B::z::v::U:=rfl
def zmG:zi 5 (s0::F::B::z::v::some (.sh d)::U) Q E=Q (.v (.sh d)) (s0::F::B::z::v::some (.sh d)::U):=rfl
def zmR:zi 5 (s0::F::B::z::v::some (.lst l)::U) Q E=Q (.loc 5) (s0::F::B::z::v::some (.lst l)::U):=rfl
def znc:slot (s0::G::F::B::z::v::U) 5=v:=rfl
def zn7:List.set (s0::G::F::B::z::u::U) 5 v=s0::G::F::B::z::v::U:=rfl
def znF:zi 6 (s0::G::F::B::z::v::some (.sh d)::U) Q E=Q (.v (.sh d)) (s0::G::F::B::z::v::some (.sh d)::U):=rfl
def zn6:zi 6 (s0::G::F::B::z::v::some (.lst l)::U) Q E=Q (.loc 6) (s0::G::F::B::z::v::some (.lst l)::U):=rfl
def zlU:slot (s0::J::G::F::B::z::v::U) 6=v:=rfl
def zng:List.set (s0::J::G::F::B::z::u::U) 6 v=s0::J::G::F::B::z::v::U:=rfl
def zlR:zi 7 (s0::J::G::F::B::z::v::some (.sh d)::U) Q E=Q (.v (.sh d)) (s0::J::G::F::B::z::v::some (.sh d)::U):=rfl
def zn1:List.set (s0::L::J::G::F::B::z::u::U) 7 v=s0::L::J::G::F::B::z::v::U:=rfl
def znX:zi 8 (s0::L::J::G::F::B::z::v::some (.sh d)::U) Q E=Q (.v (.sh d)) (s0::L::J::G::F::B::z::v::some (.sh d)::U):=rfl
def zlV:zi 8 (s0::L::J::G::F::B::z::v::some (.lst l)::U) Q E=Q (.loc 8) (s0::L::J::G::F::B::z::v::some (.lst l)::U):=rfl
def zmf:slot (s0::M::L::J::G::F::B::z::v::U) 8=v:=rfl
def zne:List.set (s0::M::L::J::G::F::B::z::u::U) 8 v=s0::M::L::J::G::F::B::z::v::U:=rfl
def zoa:zi 9 (s0::M::L::J::G::F::B::z::v::some (.sh d)::U) Q E=Q (.v (.sh d)) (s0::M::L::J::G::F::B::z::v::some (.sh d)::U):=rfl
def zmr:List.set (s0::O::M::L::J::G::F::B::z::u::U) 9 v=s0::O::M::L::J::G::F::B::z::v::U:=rfl
def zjU:zi 10 (s0::O::M::L::J::G::F::B::z::v::some (.sh d)::U) Q E=Q (.v (.sh d)) (s0::O::M::L::J::G::F::B::z::v::some (.sh d)::U):=rfl
def zj8:List.set (s0::Y::O::M::L::J::G::F::B::z::u::U) 10 v=s0::Y::O::M::L::J::G::F::B::z::v::U:=rfl
def zjR:slot (s0::s1::Y::O::M::L::J::G::F::B::z::v::U) 11=v:=rfl
def zly:List.set (s0::s1::Y::O::M::L::J::G::F::B::z::u::U) 11 v=s0::s1::Y::O::M::L::J::G::F::B::z::v::U:=rfl
def zkq:zi 12 (s0::s1::Y::O::M::L::J::G::F::B::z::v::some (.sh d)::U) Q E=Q (.v (.sh d)) (s0::s1::Y::O::M::L::J::G::F::B::z::v::some (.sh d)::U):=rfl
def zks:List.set (s0::s1::s2::Y::O::M::L::J::G::F::B::z::u::U) 12 v=s0::s1::s2::Y::O::M::L::J::G::F::B::z::v::U:=rfl
def zlH:zi 13 (s0::s1::s2::Y::O::M::L::J::G::F::B::z::v::some (.sh d)::U) Q E=Q (.v (.sh d)) (s0::s1::s2::Y::O::M::L::J::G::F::B::z::v::some (.sh d)::U):=rfl
def zkw:List.set (s0::s1::s2::s3::Y::O::M::L::J::G::F::B::z::u::U) 13 v=s0::s1::s2::s3::Y::O::M::L::J::G::F::B::z::v::U:=rfl
def zkg:lG o (.v (.sh p)) Q (.v (.sh q)) U=kV (o p q) Q U:=rfl
def zlC:lF v (.v (.sh p)) QT (.v (.sh q)) U=kC (v p q) QT U:=rfl
def zm7:gC d (.lst l)=lU d (.lst l):=rfl
def zlY:gC d (.dct t ks vs)=lU d (.dct t ks vs):=rfl
def zll:eA p q=(gC p q).map (!·):=rfl
def rW(Q:WQ)(o:Option (S×Env)):Prop:=zm o λp=>Q (.v (.sh p.1.toD)) p.2
def au(Q:WQ):WQ:=λr U=>rW Q (give r U)
def zmZ:dE a U Q E=a U (au Q) E:=rfl
def zlw:au Q r U=rW Q (give r U):=rfl
def zkn:rW Q (some (s,U))=Q (.v (.sh s.toD)) U:=rfl
def lC(i:Nat)(D:Ends)(o:Option S)(U:Env):Prop:=zm o λs=>D.nx (U.set i (some (.sh s.toD)))
def uD(i:Nat)(D:Ends):Env->Prop:=λU=>lC i D (slot U i) U
def zob:wR i v D' U=v (sN D' (uD i D')) U:=rfl
def zk8:uD i D' U=lC i D' (slot U i) U:=rfl
def zk3:lC i D' (some s) U=D'.nx (U.set i (some (.sh s.toD))):=rfl
def nC(o:Option (Option D))(z:R)(U:Env)(Q:WQ):Prop:=zm o λo=>match o with
 |some e=>Q (.v (.sh e)) U
 |none=>Q z U
def rT(o p:Option D)(z:R)(U:Env)(Q:WQ):Prop:=zm o λv=>zm p λq=>nC (rF v q) z U Q
def rU(x y:R)(Q:WQ):WQ:=λz U=>rT (zy x U) (view y U) z U Q
def rV(x:R)(d:WE)(Q:WQ)(E:WX):WQ:=λy U=>d U (rU x y Q) E
def nL(o:Option D):Prop:=zm o λv=>rZ v=true
def uA(k d:WE)(Q:WQ)(E:WX):WQ:=λx U=>nL (zy x U)/\k U (rV x d Q E) E
def e_Ge:iR a b c U Q E=a U (uA b c Q E) E:=rfl
def zlZ:uA b c Q E x U=(nL (zy x U)/\b U (rV x c Q E) E):=rfl
theorem znD:nL (some (.dct t ks vs))=True:=by simp[nL,rZ]
def zm0:rV x c Q E y U=c U (rU x y Q) E:=rfl
def zmM:rU x y Q z U=rT (zy x U) (view y U) z U Q:=rfl
def zmk:rT (some p) (some q) z U Q=nC (rF p q) z U Q:=rfl
def zkd:nC (some (some d)) z U Q=Q (.v (.sh d)) U:=rfl
def zkF:nC (some none) z U Q=Q z U:=rfl
def znA:rF (.dct false ks vs) (.str u)=some (lk ks vs (.str u)):=rfl
def zjP{z:Int}:rF (.dct true ks vs) (.tup [.int z,.str u])=some (lk ks vs (.tup [.int z,.str u])):=rfl
def zlE{z v:Int}:bZ (.int z) (.int v)=kU (.int z) (.int v):=rfl
theorem uB{w v:WB}(h:w=v)(U:Env)(Q:Env->Prop)(E:WX):w U Q E=v U Q E:=by rw[h]
theorem uS{w v:WS}(h:w=v)(D':Ends)(U:Env):w D' U=v D' U:=by rw[h]
def aw(s0:S)(n k:Nat)(g:WG)(c:WT)(b:WB)(Q:WQ)(E:WX):List D->Env->Prop:=λl U=>aL g c b l (U++some s0::List.replicate k none) (lA n Q) (mY n E)
def e_CM:wU s0 n m it g c v U Q E=it U (aw s0 n m g c v Q E) E:=rfl
def zmv:aw s0 n m g c v Q E l U=aL g c v l (U++some s0::List.replicate m none) (lA n Q) (mY n E):=rfl
section
variable{U:Env}{Q:WQ}{QE:Env->Prop}{E:WX}{a b:WE}{x y r:R}{s:S}{q d:D}{n m j:Nat}{l:List D}
def nJ(n:Nat)(s:S)(o:Option S)(U:Env)(Q:Env->Prop):Prop:=match o with
 |some (.set l)=>bG (s.toD::l)=true/\l.length<=150/\Q (U.set n (some (.set (bX l s.toD))))
 |_=>False
def nK(n:Nat)(p:Option (S×Env))(Q:Env->Prop):Prop:=zm p λp=>nJ n p.1 (slot p.2 n) p.2 Q
def yW(n:Nat)(Q:Env->Prop):WQ:=λr U=>nK n (give r U) Q
theorem e_Ad:lN n a U QE E=a U (yW n QE) E:=by unfold lN yW nK nJ;rfl
def zmB:yW n QE r U=nK n (give r U) QE:=rfl
def zmW:nK n (some (s,U)) QE=nJ n s (slot U n) U QE:=rfl
def zms:nJ n s (some (.set l)) U QE=(bG (s.toD::l)=true/\l.length<=150/\QE (U.set n (some (.set (bX l s.toD))))):=rfl
def zlL:(S.set l).toD=.set l:=rfl
def zkT:gM [.set l]=some (.sh (.int l.length)):=rfl
def zjK:bW [.lst l]=bO l:=rfl
def zjF:bW [.set l]=bO l:=rfl
def znM:iD [.lst l]=newS l:=rfl
def Iw(h:bG l=true/\l.length<=150):newS l=some (.set (aC l)):=qY h
def mS(j:Nat)(t:Bool)(z:List D×List S×Nat)(v:List S)(Q:WQ)(o:Option (S×Env)):Prop:=zm o λp=>v.length<big/\Q (.v (.sh .non)) (p.2.set j (some (.dct t z.1 (z.2.1.set z.2.2 (.lst (v++[p.1]))))))
def mT(j:Nat)(t:Bool)(z:List D×List S×Nat)(v:List S)(Q:WQ):WQ:=λr U=>mS j t z v Q (give r U)
def mU(j:Nat)(t:Bool)(z:List D×List S×Nat)(e:WE)(o:Option S)(U:Env)(Q:WQ)(E:WX):Prop:=match o with
 |some (.lst l')=>e (U.set j none) (mT j t z l' Q) E
 |_=>False
def mV(j:Nat)(e:WE)(o:Option D)(p:Option S)(U:Env)(Q:WQ)(E:WX):Prop:=match o,p with
 |some q,some (.dct t ks l)=>bF t q=true/\ks.Nodup/\ks.length<big/\mU j t (aU ks l q) e (aU ks l q).2.1[(aU ks l q).2.2]? U Q E
 |_,_=>False
def mW(j:Nat)(e:WE)(Q:WQ)(E:WX):WQ:=λy U=>mV j e (view y U) (slot U j) U Q E
def yQ(j:Nat)(o:Option S)(k e:WE)(U:Env)(Q:WQ)(E:WX):Prop:=match o with
 |some (.dct _ _ _)=>k U (mW j e Q E) E
 |_=>False
theorem e_SA:dQ j a b U Q E=yQ j (slot U j) a b U Q E:=by unfold dQ yQ mW mV mU mT mS;rfl
def zmh{t:Bool}{ks:List D}{l:List S}:yQ j (some (.dct t ks l)) a b U Q E=a U (mW j b Q E) E:=rfl
def zmp:mW j b Q E y U=mV j b (view y U) (slot U j) U Q E:=rfl
def zma{t:Bool}{ks:List D}{l:List S}:mV j b (some q) (some (.dct t ks l)) U Q E=(bF t q=true/\ks.Nodup/\ks.length<big/\mU j t (aU ks l q) b (aU ks l q).2.1[(aU ks l q).2.2]? U Q E):=rfl
def Pa{t:Bool}{z:List D×List S×Nat}{v:List S}(h:z.2.1[z.2.2]?=some (.lst v)):mU j t z b z.2.1[z.2.2]? U Q E=b (U.set j none) (mT j t z v Q) E:=by rw[h];rfl
def zmC{t:Bool}{z:List D×List S×Nat}{v:List S}:mT j t z v Q r U=mS j t z v Q (give r U):=rfl
def znQ{t:Bool}{z:List D×List S×Nat}{v:List S}:mS j t z v Q (some (s,U))=(v.length<big/\Q (.v (.sh .non)) (U.set j (some (.dct t z.1 (z.2.1.set z.2.2 (.lst (v++[s]))))))):=rfl
variable{fr:D->Option S}
variable{c:WE}{QI:List D->Env->Prop}
end
section
variable{U:Env}{Q:WQ}{E:WX}{a:WE}{r:R}{j:Nat}{d:D}{l:List D}{x:List Nat}{s:S}{o:Option S}
theorem zid{l:List D}{ps:List (D×D)}(h:cJ l=some ps)(h1:(ps.map (·.1)).all bI=true)(h2:(ps.map (·.1)).Nodup)(v:ps.length<=150):dJ [.tup l]=some (.dct false (ps.map (·.1)) (ps.map λp=>.sh p.2)):=by show(match cJ l with|some ps=>_|none=>_)=_;rw[h];show qY #[h1,h2,v]
theorem zir{l:List Nat}(h:l.length<=150):gL [.str l]=some (.set (aC (l.map λc=>.str [c]))):=qY h
end
def sg(c:Nat):D:=.str [c]
def wI:items (.str l)=some (l.map sg):=rfl
def KA(l:List Nat):bT (l.map sg)=some (l.map λc=>[c]):=by let:=Si (l.map λc=>[c]);rw[qD]at this;show this
def Ly:∀l:List Nat,((l.map λc=>[c]).map List.length).sum=l.length
 |[]=>rfl
 |c::l=>by let:=Ly l;simp at this⊢;lia
def LQ:∀l:List Nat,(l.map λc=>[c]).flatten=l
 |[]=>rfl
 |c::l=>by let:=LQ l;simp;rw[this]
def KE(h:l.length<=big):eY [] [.lst (l.map sg)]=some (.sh (.str l)):=by show(bT (l.map sg)).bind _=_;grind[KA,List.length,big,cN,Ly,LY,LQ]
def lY:D->Nat
 |.str [c]=>c
 |_=>0
def Ox(h:l.Perm (A.map sg)):∃v:List Nat,v.Perm A/\l=v.map sg:=by
 show#[l.map lY,?_,?_]
 .let:=h.map lY;rw[qD]at this;let e:(lY∘sg)=id:=funext λc=>rfl;rw[e,map_id]at this;show this
 .rw[qD];let:∀d∈l,(sg∘lY) d=id d:=λd z=>by let#[c,_,rfl]:=qJ.mp (h.mem_iff.mp z);rfl
  rw[map_congr_left this,map_id]
def cO:big=1000000:=rfl
def EO:(fromTo lo n).length=n:=by simp[fromTo]
def Jg{l:List D}{k:Nat}(h:l[k]?=some d):(l.map S.sh)[k]?=some (.sh d):=by rw[qE,h];rfl
def Lh{α β:Type}{f:α->β}{l:List α}{z:Int}(F:0<=z)(h1:z<l.length):∃v,v∈l/\l[z.toNat]?=some v/\atI (l.map f) z=some (f v):=by
 let B:z.toNat<l.length:=∅
 show#[l[z.toNat],getElem_mem B,qh B,Hd F (by rw[qE,qh B];rfl)]
def Gr(F:0<=z)(h1:z<l.length):∃v,v∈l/\l[z.toNat]?=some v/\atI l z=some v:=by
 let B:z.toNat<l.length:=∅
 show#[l[z.toNat],getElem_mem B,qh B,Hd F (qh B)]
def Fs{α β:Type}{f:α->β}:∀(l:List α)(k:Nat),(l.map f).eraseIdx k=(l.eraseIdx k).map f
 |[],_=>rfl
 |_::_,0=>rfl
 |x::l,k+1=>by show f x::(l.map f).eraseIdx k=f x::(l.eraseIdx k).map f;rw[Fs l k]
def Lj(l:List α)(a b:Option Int):(dH l a b).length<=l.length:=by unfold dH;rw[qG,qF];show le_trans (min_le_right ..) (sub_le ..)
def Jh{α:Type}:∀(l:List α)(i:Nat)(h:i<l.length),(l[i]::l.eraseIdx i).Perm l
 |x::l,0,_=>List.Perm.refl _
 |x::l,i+1,h=>by
  let hi:i<l.length:=↑h
  show(List.Perm.swap x l[i] _).trans (List.Perm.cons x (Jh l i hi))
def mN(b:WB)(K:Env->Prop)(E:WX):Bool->Env->Prop:=λk U=>if k then b U K E else K U
def mO(c:WT)(b:WB)(K:Env->Prop)(E:WX):Env->Prop:=λU=>c U (mN b K E) E
def dD:mO c b K E U=c U (mN b K E) E:=rfl
def jO:mN b K E true U=b U K E:=rfl
def vO:mN b K E false U=K U:=rfl
def HR{α:Type}{toD:α->D}(I:List α->Env->Prop)(xs:List α)
  (step:∀(z:List α)(x:α)(v:List α)(K:Env->Prop)(U:Env),z++x::v=xs->I z U->(∀U',I (z++[x]) U'->K U')->g (.sh (toD x)) U (mO c b K E))
  (F:∀U,I xs U->Q U)(J:I [] U):aL g c b (xs.map toD) U Q E:=by
 have B:∀(v z:List α)(U:Env),z++v=xs->I z U->aL g c b (v.map toD) U Q E:=by
  intro v;induction v with
  |nil=>intro z U e h;rw[qz]at e;subst e;show F U h
  |cons x v G=>intro z U e h;show step z x v (mP g c b (v.map toD) Q E) U e h λU' h'=>G (z++[x]) U' (by rw[<-e];simp) h'
 show B xs [] U rfl J
def En{α:Type}{toD:α->D}(I:List α->Env->Prop)(xs:List α)
  (step:∀(z:List α)(x:α)(v:List α)(B:Ends)(U:Env),z++x::v=xs->I z U->(∀U',I (z++[x]) U'->B.nx U')->(∀U',I (z++[x]) U'->B.ct U')->B.rt=D'.rt->B.bk=D'.nx->g (.sh (toD x)) U (λU=>b B U))
  (G:∀U,I xs U->D'.nx U)(L:I [] U):bS g b (xs.map toD) D' U:=by
 have F:∀(v z:List α)(U:Env),z++v=xs->I z U->bS g b (v.map toD) D' U:=by
  intro v;induction v with
  |nil=>intro z U e h;rw[qz]at e;subst e;show G U h
  |cons x v J=>intro z U e h;let k:=λU' h'=>J (z++[x]) U' (by rw[<-e];simp) h';show step z x v (tX g b (v.map toD) D') U e h k k rfl rfl
 show F xs [] U rfl L
def OJ{α:Type}{toD:α->D}(I:List α->List S->Env->Prop)(xs:List α)
  (step:∀(z:List α)(x:α)(B:List α)(l:List S)(U:Env)(vs:List (Option S))(K:Env->Prop),z++x::B=xs->vs.length=k->I z l U->(∀G U1 v,v.length=k->I (z++[x]) G U1->K (U1++some (.lst G)::v))->g (.sh (toD x)) (U++some (.lst l)::vs) (mO c b K E))
  (O:∀l U vs,vs.length=k->I xs l U->Q (U++some (.lst l)::vs))(Y:vs.length=k)(h0:I [] [] U):aL g c b (xs.map toD) (U++some (.lst [])::vs) Q E:=by
 show HR (λz F=>∃l U1 v,v.length=k/\I z l U1/\F=U1++some (.lst l)::v) xs (λz x B K F e M hK=>?_) (λF M=>?_) #[[],U,vs,Y,h0,rfl]
 .obtain⟨l,U1,v,h1,h2,rfl⟩:=M;show step z x B l U1 v K e h1 h2 λG J L h3 h4=>hK _ #[G,J,L,h3,h4,rfl]
 .obtain⟨l,U1,v,h1,h2,rfl⟩:=M;show O l U1 v h1 h2
def HY{α:Type}{toD:α->D}(xs:List α)(h:α->Option S)
  (step:∀x∈xs,∀(l:List S)(vs:List (Option S))(K:Env->Prop),vs.length=k->l.length<xs.length->(∀v,v.length=k->K (U++some (.lst (l++(h x).toList))::v))->g (.sh (toD x)) (U++some (.lst l)::vs) (mO c b K E))
  (F:∀vs,vs.length=k->Q (U++some (.lst (xs.filterMap h))::vs))(J:vs.length=k):aL g c b (xs.map toD) (U++some (.lst [])::vs) Q E:=by
 show OJ (λz l B=>B=U/\l=z.filterMap h) xs (λz x G l B vs K e h1 h2 M=>?_) (λl B vs h1 h2=>?_) J #[rfl,rfl]
 .obtain⟨rfl,rfl⟩:=h2;let L:(z.filterMap h).length<xs.length:=by let:=List.length_filterMap_le h z;rw[<-e];simp;lia
  show step x (by rw[<-e];simp) _ vs K h1 L λv O=>M _ _ v O #[rfl,?_];cases q:h x<;>simp[q]
 .obtain⟨rfl,rfl⟩:=h2;show F vs h1
def Fd{vs:List (Option S)}(h:vs.length=1):∃a,vs=[a]:=by
 match vs,h with
 |[a],_=>show#[a,rfl]
def Fc{vs:List (Option S)}(h:vs.length=2):∃a b,vs=[a,b]:=by
 match vs,h with
 |[a,b],_=>show#[a,b,rfl]
def Fb{vs:List (Option S)}(h:vs.length=3):∃a b c,vs=[a,b,c]:=by
 match vs,h with
 |[a,b,c],_=>show#[a,b,c,rfl]
section
variable{α:Type}
def JF(xs:List α)(h:α->Option S)
  (step:∀x∈xs,∀(l:List S)(o:Option S)(K:Env->Prop),l.length<xs.length->(∀o,K (U.take n++[some (.lst (l++(h x).toList)),o]))->zl (n+1) (.sh (toD x)) (U.take n++[some (.lst l),o]) (mO c b K E))
  (z:∀o,Q (U.take n++[some (.lst (xs.filterMap h)),o]))(e:autoParam (U=U.take n++[some (.lst []),o0]) rZ9):aL (zl (n+1)) c b (xs.map toD) U Q E:=by
 rw[e];show HY (k:=1) xs h (λx F l B K v G J=>?_) (λB v=>?_) rfl
 .obtain⟨a,rfl⟩:=Fd v;show step x F l a K G λo=>J [o] rfl
 .obtain⟨a,rfl⟩:=Fd v;show z a
def TH(xs:List α)(h:α->Option S)
  (step:∀x∈xs,∀(l:List S)(o o':Option S)(K:Env->Prop),l.length<xs.length->(∀o o',K (U.take n++[some (.lst (l++(h x).toList)),o,o']))->cH [zl (n+1),zl (n+2)] (.sh (toD x)) (U.take n++[some (.lst l),o,o']) (mO c b K E))
  (z:∀o o',Q (U.take n++[some (.lst (xs.filterMap h)),o,o']))(e:autoParam (U=U.take n++[some (.lst []),o0,M]) rZ9):aL (cH [zl (n+1),zl (n+2)]) c b (xs.map toD) U Q E:=by
 rw[e];show HY (k:=2) xs h (λx G l F K v J L=>?_) (λF v=>?_) rfl
 .obtain⟨a,B,rfl⟩:=Fc v;show step x G l a B K J λo o'=>L [o,o'] rfl
 .obtain⟨a,B,rfl⟩:=Fc v;show z a B
def TF(xs:List α)(h:α->Option S)
  (step:∀x∈xs,∀(l:List S)(o o' v:Option S)(K:Env->Prop),l.length<xs.length->(∀o o' v,K (U.take n++[some (.lst (l++(h x).toList)),o,o',v]))->cH [zl (n+1),zl (n+2),zl (n+3)] (.sh (toD x)) (U.take n++[some (.lst l),o,o',v]) (mO c b K E))
  (F:∀o o' v,Q (U.take n++[some (.lst (xs.filterMap h)),o,o',v]))(e:autoParam (U=U.take n++[some (.lst []),o0,o1,Y]) rZ9):aL (cH [zl (n+1),zl (n+2),zl (n+3)]) c b (xs.map toD) U Q E:=by
 rw[e];show HY (k:=3) xs h (λx L l J K B M O=>?_) (λJ B=>?_) rfl
 .obtain⟨a,G,z,rfl⟩:=Fb B;show step x L l a G z K M λo o' v=>O [o,o',v] rfl
 .obtain⟨a,G,z,rfl⟩:=Fb B;show F a G z
def JE(xs:List α)(h:α->S)
  (step:∀x∈xs,∀(l:List S)(o:Option S)(K:Env->Prop),l.length<xs.length->(∀o,K (U.take n++[some (.lst (l++[h x])),o]))->zl (n+1) (.sh (toD x)) (U.take n++[some (.lst l),o]) (mO c b K E))
  (v:∀o,Q (U.take n++[some (.lst (xs.map h)),o]))(e:autoParam (U=U.take n++[some (.lst []),o0]) rZ9):aL (zl (n+1)) c b (xs.map toD) U Q E:=
 JF xs (λx=>some (h x)) step (λo=>by rw[show(xs.filterMap λx=>some (h x))=xs.map h from List.filterMap_eq_map▸rfl];show v o) e
def JD(xs:List α)(h:α->S)
  (step:∀x∈xs,∀(l:List S)(o o':Option S)(K:Env->Prop),l.length<xs.length->(∀o o',K (U.take n++[some (.lst (l++[h x])),o,o']))->cH [zl (n+1),zl (n+2)] (.sh (toD x)) (U.take n++[some (.lst l),o,o']) (mO c b K E))
  (v:∀o o',Q (U.take n++[some (.lst (xs.map h)),o,o']))(e:autoParam (U=U.take n++[some (.lst []),o0,z]) rZ9):aL (cH [zl (n+1),zl (n+2)]) c b (xs.map toD) U Q E:=
 TH xs (λx=>some (h x)) step (λo o'=>by rw[show(xs.filterMap λx=>some (h x))=xs.map h from List.filterMap_eq_map▸rfl];show v o o') e
end
def HN(I:Nat->Env->Prop)(xs:List D)
  (step:∀(k:Nat)(x:D),xs[k]?=some x->∀(z:Ends)(U:Env),I k U->(∀U',I (k+1) U'->z.nx U')->(∀U',I (k+1) U'->z.ct U')->z.rt=D'.rt->z.bk=D'.nx->g (.sh x) U (λU=>b z U))
  (L:∀U,I xs.length U->D'.nx U)(Y:I 0 U):bS g b xs D' U:=by
 let:=En (toD:=λx:D=>x) (g:=g) (b:=b) (D':=D') (λv U=>I v.length U) xs (λv x M z U e O F G B J=>step v.length x (by rw[<-e];simp) z U O (λU' h=>F U' ↑h) (λU' h=>G U' ↑h) B J) L Y;rwa[List.map_id']at this
def QJ:∀l:List Int,∀d∈l.map D.int,gP d:=λl d v=>by let#[x,_,rfl]:=qJ.mp v;trivial
def LH:∀l:List (List Nat),∀d∈l.map D.str,lQ d:=λl d v=>by let#[x,_,rfl]:=qJ.mp v;trivial
def Nh:([a]:List Nat)<[b]↔a<b:=by simp[List.cons_lt_cons_iff]
def Sk{l:List Nat}(h:l.Pairwise (·<=·))(hn:l.Nodup):l.Pairwise (·<·):=by let:=h.and hn;show this.imp λ⟨h1,h2⟩=>∅
def NA(h:gP x):(aI x (.int z)||decide (30<eF x))=false:=by
 cases x with
 |int i=>rfl
 |_=>show h.elim
def Nf(h:lQ x):(aI x (.str z)||decide (30<eF x))=false:=by
 cases x with
 |str i=>rfl
 |_=>show h.elim
def Sw{ns:List Int}:(if(ns.map D.int).any (λx=>aI x (.int z)||decide (30<eF x))then none else some (open Classical in decide (D.int z∈ns.map D.int)))=some (decide (z∈ns)):=by grind[mem_map,any_eq_true.mp,NA,QJ]
def To{ns:List (List Nat)}:(if(ns.map D.str).any (λx=>aI x (.str z)||decide (30<eF x))then none else some (open Classical in decide (D.str z∈ns.map D.str)))=some (decide (z∈ns)):=by grind[mem_map,any_eq_true.mp,Nf,LH]
def LJ{ns:List Int}:lU (.int z) (.lst (ns.map D.int))=some (decide (z∈ns)):=Sw
def QV{ns:List (List Nat)}:lU (.str z) (.lst (ns.map D.str))=some (decide (z∈ns)):=To
def JJ{α β:Type}(p:α->Bool)(f:α->β):∀l:List α,(l.filterMap λx=>if p x=true then some (f x)else none)=(l.filter p).map f
 |[]=>rfl
 |x::l=>by let v:=JJ p f l;cases q:p x<;>simp[q,v]
def Hz{α:Type}[DecidableEq α]:∀(l m:List α),l.Nodup->(∀x∈l,x∈m)->l.length<=m.length
 |[],m,_,_=>by simp
 |x::l,m,hn,hs=>by
  let#[h1,h2]:=qK.mp hn;let B:x∈m:=hs x (by simp);let:=Hz l (m.erase x) h2 λy v=>by show(List.mem_erase_of_ne ?_).mpr (hs y (by simp[v]));intro z;subst z;show h1 v
  rw[List.length_erase_of_mem B]at this;let F:=List.length_pos_of_mem B;rw[qt];lia
def Hm:∀l:List D,(∀d∈l,eF d<=n)->bM l<=n
 |[],_=>zero_le _
 |d::l,h=>by show max (eF d) (bM l)<=n;let h1:=h d (by simp);let h2:=Hm l λx v=>h x (by simp[v]);lia
def Cd{α:Type}{l:List α}(h:l.length=n+1):∃a r,l=a::r/\r.length=n:=by
 cases l with
 |nil=>cases h
 |cons a r=>show#[a,r,rfl,Nat.succ.inj h]
def Jq{α:Type}{l:List α}(h:l.length=0):l=[]:=List.length_eq_zero_iff.mp h
def DH{α:Type}{l:List α}(h:l.length=1):∃a,l=[a]:=by let#[a,r,rfl,k]:=Cd h;obtain rfl:=Jq k;show#[a,rfl]
def EV{α:Type}{l:List α}(h:l.length=2):∃z v,l=[z,v]:=by let#[z,r,rfl,k]:=Cd h;let#[v,rfl]:=DH k;show#[z,v,rfl]
def EU{α:Type}{l:List α}(h:l.length=3):∃B z v,l=[B,z,v]:=by let#[B,r,rfl,k]:=Cd h;let#[z,v,rfl]:=EV k;show#[B,z,v,rfl]
def ET{α:Type}{l:List α}(h:l.length=4):∃F B z v,l=[F,B,z,v]:=by let#[F,r,rfl,k]:=Cd h;let#[B,z,v,rfl]:=EU k;show#[F,B,z,v,rfl]
def GH{α:Type}{l:List α}(h:l.length=5):∃G F B z v,l=[G,F,B,z,v]:=by let#[G,r,rfl,k]:=Cd h;let#[F,B,z,v,rfl]:=ET k;show#[G,F,B,z,v,rfl]
def Fe{z:Int}{n:Nat}(h:z=n):fromTo 0 z.toNat=(List.range n).map λ(k:Nat)=>D.int (k:Int):=by subst h;show map_congr_left λk _=>?_;rw[Int.zero_add]
def LV(h:v++i::post=List.range n):v.length=i/\i<n:=by
 let h1:(List.range n)[v.length]?=some i:=by rw[<-h];simp
 let#[h2,z]:=qg.mp h1;rw[List.getElem_range]at z;rw[qC]at h2;lia
def Nc(l:List (List Nat)):bT (l.map D.str)=some l:=by
 induction l with
 |nil=>rfl
 |cons a l v=>show(bT (l.map D.str)).map (a::·)=_;rw[v];rfl
def Sf{l:List (List Nat)}(h:(l.map List.length).sum<=big):eY [] [.lst (l.map D.str)]=some (.sh (.str l.flatten)):=by show(bT (l.map D.str)).bind _=_;rw[Nc];show(if(l.map List.length).sum+l.length*[].length<=big then some (S.sh (.str (cN [] l)))else none)=_;rw[qY (by show h),LY]
def zV(D':Ends)(m:Nat)(J:Nat->Env->Prop):Ends:={D' with nx:=λv=>∃z,z<m/\J z v,ct:=λv=>∃z,z<m/\J z v,bk:=D'.nx}
def yP(b:WS)(D':Ends)(m:Nat)(J:Nat->Env->Prop)(k:Bool)(U:Env):Prop:=if k then b (zV D' m J) U else D'.nx U
def wJ:yP b D' m J true U=b (zV D' m J) U:=rfl
def wK:yP b D' m J false U=D'.nx U:=rfl
def MZ(J:Nat->Env->Prop)(m:Nat)(z:J m U)(h:∀m U,J m U->c U (yP b D' m J) D'.ex):fV c b D' U:=#[J,#[m,z],λm U v=>h m U v]
end FL
noncomputable section
namespace Law
open FL
def kH:WS:=wExpr (dQ 4 (cW (zj (zi 5) (zj (zi 6) zk))) (zi 7))
def pH:=uS kH.eq_1
def hH:WB:=lN 11 (zi 13)
def pE:=uB hH.eq_1
def hC:WB:=nM (bD (iR (zi 4) (cW (zj (zi 12) (zj (zi 6) zk))) (eK zk))) (zl 13) cV hH
def pC:=uB hC.eq_1
def kG:WS:=zx (zl 10) (dE (wB bW (zj (wU (.set []) 11 2 (bD (zi 10)) (zl 12) cV hC) zk)))
def pG:=uS kG.eq_1
def kE:WB:=bN 11 (cW (zj (zi 9) (zj (zi 12) zk)))
def pB:=uB kE.eq_1
def kF:WS:=zv (zx (zl 10) (dE (eK (zj (zi 9) zk))))
  (zv (cX (bD (zi 1)) (zl 6) kG)
  (wExpr (cI 8 (iQ 11 1 (bD (zi 10)) (zl 12) cV kE))))
def pF:=uS kF.eq_1
def sU:WF:=gH 2 11 [0,1]
 (zv (zx (cH [zl 2,zl 3]) (zi 0))
  (zv (zx (zl 4) (kJ true))
  (zv (wR 4 (cX (bD (zi 3)) (cH [zl 5,zl 6,zl 7]) kH))
  (zv (zx (zl 8) (eK zk))
  (zv (cX (bL (zi 2)) (zl 9) kF)
  (cC (wB cM (zj (zi 8) zk))))))))
def kA:WB:=bN 3 (iR (zi 2) (zi 4) (zi 4))
def oZ:=uB kA.eq_1
def wQ:WF:=gH 2 3 [0,1]
 (zv (zx (zl 2) (dE (wB dJ (zj (zi 0) zk))))
  (cC (oJ eY (wC (.str [])) (zj (iQ 3 1 (bD (zi 1)) (zl 4) cV kA) zk))))
def wO:WF:=gH 2 4 [0,1]
 (zv (zx (zl 2) (zu bY (zu bZ (wC (.int 7919)) (zi 1)) (wC (.int 11))))
  (zv (lT (cD wA (zi 1) (wB cP (zj (zi 0) zk))) (zx (zl 2) (fI (zi 0) (zi 1))) (lT (cD oE (wB cP (zj (zi 0) zk)) (wC (.int 0))) (zx (zl 2) (zu bY (zi 2) (zu bZ (zu dX (fI (zi 0) (zu dX (zi 1) (wB cP (zj (zi 0) zk)))) (wC (.int 2147483629))) (wC (.int 69623))))) dR))
  (zv (zx (zl 3) (zu bY (zu dX (zu bY (zu bZ (zu dX (zi 2) (wC (.int 2147483629))) (wC (.int 48271))) (zu bZ (wC (.int 40692)) (zi 1))) (wC (.int 2147483629))) (wC (.int 1))))
  (cC (eK (zj (fI (eK (zj (wC (.int 0)) (zj (zi 2) zk))) (wB jH (zj (kI (cD wD (zi 2) (zu kT (wC (.int 10)) (wC (.int 18))))) zk))) (zj (zi 3) zk)))))))
def gG:WF:=gH 2 4 [0,1]
 (zv (lT (cD oE (fI (zi 0) (wC (.int 0))) (wC (.int 0))) (zv (zx (zl 2) (zu dX (fI (zi 0) (wC (.int 0))) (zi 1)))
  (zv (eP 0 (wC (.int 0)) (zu fO (fI (zi 0) (wC (.int 0))) (zi 1)))
  (cC (zi 2)))) dR)
  (zv (zx (zl 3) (zu dX (zu bZ (fI (zi 0) (wC (.int 1))) (wC (.int 69623))) (wC (.int 2147483647))))
  (zv (eP 0 (wC (.int 1)) (zu bY (zu dX (zu bY (zu bZ (zi 3) (wC (.int 48271))) (wC (.int 30103))) (wC (.int 2147483629))) (wC (.int 1))))
  (cC (zu dX (zu fO (zu bY (zu bZ (zi 3) (wC (.int 2147483647))) (fI (zi 0) (wC (.int 1)))) (wC (.int 8191))) (zi 1))))))
def jT:WB:=bN 5 (zi 8)
def oO:=uB jT.eq_1
def jU:WS:=zx (zl 3) (dE (wB bW (zj (wB iD (zj (iQ 5 3 (bD (fI (zi 0) (wC (.int 1)))) (cH [zl 6,zl 7,zl 8]) (jQ (cD jM (zi 7) (zi 4)) (cD gC (zi 6) (zi 3))) jT) zk)) zk)))
def oP:=uS jU.eq_1
def wM:WF:=gH 3 5 [0,1,2]
 (zv (zx (zl 3) (dE (eK (zj (zi 2) zk))))
  (zv (cX (bD (zi 1)) (zl 4) jU)
  (cC (zi 3))))
def iO:WS:=lT (cD jM (zi 5) (zi 3)) (zx (zl 4) (zi 6)) dR
def iS:=uS iO.eq_1
def iN:WS:=zv (zx (zl 4) (zi 3))
  (zv (cX (bD (zi 0)) (cH [zl 5,zl 6]) iO)
  (zx (zl 2) (zu bY (zi 2) (zi 4))))
def mE:=uS iN.eq_1
def oH:WF:=gH 2 7 [0,1]
 (zv (zx (zl 2) (wC (.str [])))
  (zv (cX (bD (zi 1)) (zl 3) iN)
  (cC (zi 2))))
def jY:WB:=bN 8 (zi 9)
def oX:=uB jY.eq_1
def jX:WB:=bN 8 (cW (zj (zi 9) (zj (zi 6) (zj (zi 10) zk))))
def oW:=uB jX.eq_1
def jZ:WS:=wExpr (cI 5 (iQ 8 2 (bD (zw sU [true,true] (zj (zi 1) (zj (zi 7) zk)))) (cH [zl 9,zl 10]) cV jX))
def oY:=uS jZ.eq_1
def vR:WF:=gH 2 8 [0,1]
 (zv (zx (cH [zl 2,zl 3]) (zi 1))
  (zv (zx (zl 4) (dE (wB dJ (zj (zi 0) zk))))
  (zv (zx (zl 5) (iQ 8 1 (bD (zi 3)) (zl 9) (cD eA (fI (zi 9) (wC (.int 1))) (zi 4)) jY))
  (zv (cX (bD (zi 0)) (cH [zl 6,zl 7]) jZ)
  (cC (cW (zj (zi 2) (zj (wB cM (zj (wB bW (zj (zi 5) zk)) zk)) zk))))))))
def gZ:WB:=bN 3 (dE (eD 2 (zw gG [true,true] (zj (zi 0) (zj (wB cP (zj (zi 2) zk)) zk)))))
def oV:=uB gZ.eq_1
def vQ:WF:=gH 2 3 [0,1]
 (zv (zx (zl 2) (wB gD (zj (wC (.str [97,98,99,100,101,102,103,104,105,106,107,108,109,110,111,112,113,114,115,116,117,118,119,120,121,122])) zk)))
  (cC (oJ eY (wC (.str [])) (zj (wB bW (zj (iQ 3 1 (bL (zi 1)) (zl 4) cV gZ) zk)) zk))))
def gY:WB:=bN 4 (fI (zi 1) (zw gG [true,true] (zj (zi 0) (zj (wB cP (zj (zi 1) zk)) zk))))
def oU:=uB gY.eq_1
def vP:WF:=gH 3 4 [0,1,2]
 (zv (zx (zl 3) (zu bZ (zw gG [true,true] (zj (zi 0) (zj (zu bY (zi 2) (wC (.int 1))) zk))) (wB jH (zj (kI (cD lL (zi 1) (wC (.str [])))) zk))))
  (cC (oJ eY (wC (.str [])) (zj (iQ 4 1 (bL (zi 3)) (zl 5) cV gY) zk))))
def gX:WS:=zv (zx (zl 10) (zw gG [true,true] (zj (zi 0) (zj (zi 5) zk))))
  (zv (wExpr (cT 6 (cW (zj (zi 8) (zj (zi 9) (zj (zi 10) zk))))))
  (zx (zl 8) (zi 10)))
def oT:=uS gX.eq_1
def jW:WS:=zv (zx (zl 8) (zw gG [true,true] (zj (zi 0) (zj (zi 5) zk))))
  (cX (bD (zi 2)) (zl 9) gX)
def oS:=uS jW.eq_1
def jV:WS:=zv (lX 8 10 (zj (zw gG [true,true] (zj (zi 0) (zj (zi 5) zk))) (zj (zw gG [true,true] (zj (zi 0) (zj (zi 5) zk))) zk)))
  (wExpr (cT 6 (cW (zj (zi 8) (zj (fI (zi 1) (zw gG [true,true] (zj (zi 0) (zj (wB cP (zj (zi 1) zk)) zk)))) (zj (zi 10) zk))))))
def oR:=uS jV.eq_1
def gW:WS:=wExpr (eD 6 (zw gG [true,true] (zj (zi 0) (zj (wB cP (zj (zi 6) zk)) zk))))
def oQ:=uS gW.eq_1
def wN:WF:=gH 5 12 [0,1,2,3,4]
 (zv (zx (zl 5) (zu bY (wC (.int 1)) (zw gG [true,true] (zj (zi 0) (zj (zi 3) zk)))))
  (zv (zx (zl 6) (eK zk))
  (zv (cX (bL (zw gG [true,true] (zj (zi 0) (zj (wC (.int 4)) zk)))) (zl 7) jW)
  (zv (cX (bL (zu bZ (zw gG [true,true] (zj (zi 0) (zj (zu bY (zi 4) (wC (.int 1))) zk))) (wB jH (zj (kI (cD lL (zi 1) (wC (.str [])))) zk)))) (zl 11) jV)
  (zv (fV (cD oE (wB gM (zj (wB iD (zj (zi 6) zk)) zk)) (zi 4)) gW)
  (cC (cW (zj (zi 5) (zj (wB cM (zj (wB bW (zj (wB iD (zj (zi 6) zk)) zk)) zk)) zk)))))))))
def jR:WB:=bN 4 (cW (zj (zi 3) (zj (zi 5) zk)))
def oM:=uB jR.eq_1
def jS:WS:=wExpr (cI 2 (iQ 4 1 (bD (zw wM [true,true,true] (zj (zi 0) (zj (zi 1) (zj (zi 3) zk))))) (zl 5) cV jR))
def oN:=uS jS.eq_1
def wL:WF:=gH 2 4 [0,1]
 (zv (zx (zl 2) (eK zk))
  (zv (cX (bL (fI (zi 0) (wC (.int 0)))) (zl 3) jS)
  (cC (wB cM (zj (zi 2) zk)))))
def iP:WS:=zv (zx (zl 7) (dE (eD 4 (zw gG [true,true] (zj (zi 0) (zj (wB cP (zj (zi 4) zk)) zk))))))
  (wExpr (cT 5 (cW (zj (zi 7) (zj (zu bY (fI (zi 3) (zw gG [true,true] (zj (zi 0) (zj (wB cP (zj (zi 3) zk)) zk)))) (zw vP [true,true,true] (zj (zi 0) (zj (zi 3) (zj (zu kS (zi 2) (wC (.int 1))) zk))))) zk)))))
def mF:=uS iP.eq_1
def oI:WF:=gH 3 8 [0,1,2]
 (zv (zx (zl 3) (zu bY (zi 1) (zw vQ [true,true] (zj (zi 0) (zj (wC (.int 2)) zk)))))
  (zv (zx (zl 4) (wB bW (zj (wB gL (zj (zi 3) zk)) zk)))
  (zv (zx (zl 5) (eK zk))
  (zv (cX (bL (zw gG [true,true] (zj (zi 0) (zj (zu bY (wB cP (zj (zi 1) zk)) (wC (.int 1))) zk)))) (zl 6) iP)
  (cC (wB cM (zj (zi 5) zk)))))))
def iL:WB:=bN 6 (zi 7)
def mC:=uB iL.eq_1
def iK:WB:=bN 6 (zi 7)
def mB:=uB iK.eq_1
def iJ:WB:=bN 6 (cW (zj (zi 7) (zj (zi 4) (zj (zi 8) zk))))
def mA:=uB iJ.eq_1
def iM:WS:=wExpr (cI 3 (iQ 6 2 (bD (zw wL [true,true] (zj (zi 1) (zj (zi 5) zk)))) (cH [zl 7,zl 8]) cV iJ))
def mD:=uS iM.eq_1
def oG:WF:=gH 2 6 [0,1]
 (zv (zx (zl 2) (dE (iQ 6 2 (bD (zi 0)) (cH [zl 7,zl 8]) cV iL)))
  (zv (zx (zl 3) (iQ 6 1 (bD (fI (zi 1) (wC (.int 1)))) (zl 7) (cD eA (fI (zi 7) (wC (.int 1))) (zi 2)) iK))
  (zv (cX (bD (zi 0)) (cH [zl 4,zl 5]) iM)
  (cC (cW (zj (fI (zi 1) (wC (.int 0))) (zj (wB cM (zj (wB bW (zj (zi 3) zk)) zk)) zk)))))))
def iI:WS:=zv (zx (zl 2) (zw wO [true,true] (zj (zi 0) (zj (zi 1) zk))))
  (zv (zx (zl 3) (zw vQ [true,true] (zj (zi 2) (zj (zu bY (wC (.int 1)) (zw gG [true,true] (zj (zi 2) (zj (wC (.int 4)) zk)))) zk))))
  (zv (zx (zl 4) (dE (zw oI [true,true,true] (zj (zi 2) (zj (zi 3) (zj (wC (.int 4)) zk))))))
  (zv (zx (zl 5) (zw vP [true,true,true] (zj (zi 2) (zj (zi 3) (zj (wC (.int 6)) zk)))))
  (zv (zx (zl 6) (dE (zw wN [true,true,true,true,true] (zj (zi 2) (zj (zi 3) (zj (sV (zw oH [true,true] (zj (zi 4) (zj (zi 5) zk))) none (some (wC (.int 12)))) (zj (wC (.int 8)) (zj (wC (.int 24)) zk))))))))
  (zv (zx (zl 7) (dE (zw vR [true,true] (zj (zi 4) (zj (zi 6) zk)))))
  (zv (lT (cD lL (zi 7) (zw oG [true,true] (zj (zi 4) (zj (zi 6) zk)))) (cC (wC (.bl false))) dR)
  (zv (lT (cD lL (zw sU [true,true] (zj (zi 7) (zj (zi 5) zk))) (zw sU [true,true] (zj (zi 6) (zj (dE (zw wQ [true,true] (zj (zi 4) (zj (zi 5) zk)))) zk)))) (cC (wC (.bl false))) dR)
  (lT (cD lL (zw vR [true,true] (zj (cW zk) (zj (zi 6) zk))) (zi 6)) (cC (wC (.bl false))) dR))))))))
def lZ:=uS iI.eq_1
def kD:WF:=gH 1 8 [0]
 (zv (cX (bL (zu bY (wC (.int 2)) (wB cP (zj (sV (zi 0) (some (wC (.int 2))) (some (wC (.int 8)))) zk)))) (zl 1) iI)
  (cC (wC (.bl true))))
end Law
end
end
namespace Law
open FL
variable{P:S->List S->Prop}{PX:D->List S->Prop}
set_option hygiene false in
local macro_rules
 |`(tactic|simp! [$xs,*] $[$l:location]?)=>do
  let ls<-("e_C e_V znx zka e_Ck znp zlF zn0 zkK zkB zm8 zk0 zmx zlp zi6 zi8 znP e_gA zoh zmq e_gv znz zke zkL zmi zla zlq e_l0 e_l1 e_l2 e_l3 e_vv e_cv e_cl zlj e_sh zat zny e_Ix znG zni zlI zjD zmm zmz zmt zl4 znS zn8 znN zmL e_p0 e_pv e_pl zn3 e_pA e_b0 e_bv e_bl zlG zjl ziK zkh zlX e_vA zna e_B e_B1 e_B2 e_MS znd znU e_Ap zmH znk znm znY zmw zln zkP e_Xt zmS zmP zlS zjH zmc e_Pt zoi znj e_Sl zod znR zmD znV e_nx e_rt e_ex zk6 zmg e_If znl znC zl6 zkJ ziY zm5 zkj zkO zm3 zk5 zkW zj4 e_gN e_gT zl0 zm1 zmA zmj zn4 zlt zjJ zk4 zkE zjA zjp e_It zog zmV zl1 zlW zns zm6 e_R1 znw zm9 znT zjQ znq znE zl8 e_LC zno zmU zj3 znr zmy zjI zmY e_Em zmb zm2 znv e_bF zof zlT znf e_Rt e_Fn e_f0 e_fs e_fl e_fA zmI zk1 zmT zj5 zl3 zkf zmE e_lt e_gt e_ge zk7 zoe zjG zjV zjB zj0 zlD znb zn5 zmK znh zm4 zme znI zmF znt zmu zmO znK zml zn2 zoc znJ zmo zmd znL zmX zmG zmR znc zn7 znF zn6 zlU zng zlR zn1 znX zlV zmf zne zoa zmr zjU zj8 zjR zly zkq zks zlH zkw zkg zlC zm7 zlY zll zmZ zlw zkn zob zk8 zk3 e_Ge zlZ znD zm0 zmM zmk zkd zkF znA zjP zlE e_CM zmv e_Ad zmB zmW zms zlL zkT zjK zjF znM e_SA zmh zmp zma zmC znQ zid zir map_some S.toD_sh S.toD_lst qy map_nil qN nil_append List.replicate_succ List.replicate_zero Nat.reduceSub Nat.reduceAdd qz List.take_succ_cons List.take_zero true_and S.toDs_map S.toD_dct Int.reduceEq Int.reduceLT Int.reduceLE decide_true decide_false Bool.not_true Bool.not_false".splitOn " ").toArray.mapM λn=>`(Lean.Parser.Tactic.simpLemma|$(Lean.mkIdent n.toName):ident)
  let ls:=ls++xs.getElems
  `(tactic|simp -implicitDefEqProofs (disch:=first|omega|decide|rfl|(simp only[qo,qq,qt,qv,qC,cO];omega)|(simp only[qo,qq,qt,qv,qC,cO];done)) only[$ls,*] $[$l:location]?)
local macro_rules|`(tactic|lia)=>`(tactic|lia -verbose)
noncomputable section pu
def aZ(a s:Int):S:=.lst [.sh (.int a),.sh (.int s)]
def Ct{a s m:Int}(B:0<=a)(hs:1<=s)(v:s<=2147483629)(z:0<m)(G:m<18446744073709551616)
  (h:∀r F s',0<=r->r<m->0<=F->1<=s'->s'<=2147483629->P (.sh (.int r)) [aZ F s',.sh (.int m)]):gG [aZ a s,.sh (.int m)] P PX:=by
 show CQ rfl rfl ?_;simp! [aZ];cases J:decide (0<a)
 .simp! [e_C];show h _ _ _ (Int.emod_nonneg _ ∅) (Int.emod_lt_of_pos _ z) B ∅ ∅
 .simp! [e_C];show h _ _ _ (Int.emod_nonneg _ ∅) (Int.emod_lt_of_pos _ z) (Int.ediv_nonneg B ∅) hs v
def QN{T:Env->Prop}{E:Ends}{ns:List Int}{k:Int}(F:0<=k)(h:∀c,T [some (.sh (.lst (ns.map .int))),some (.sh (.int k)),some (.sh (.int c)),none]):vX (zx (zl 2) (fI (zi 0) (zi 1))) (lT (cD oE (wB cP (zj (zi 0) zk)) (wC (.int 0))) (zx (zl 2) (zu bY (zi 2) (zu bZ (zu dX (fI (zi 0) (zu dX (zi 1) (wB cP (zj (zi 0) zk)))) (wC (.int 2147483629))) (wC (.int 69623))))) dR) (sN E T) (decide (k<ns.length)) [some (.sh (.lst (ns.map .int))),some (.sh (.int k)),some (.sh (.int (7919*k+11))),none]:=by
 by_cases h1:k<ns.length
 .obtain⟨v,_,_,e⟩:=Lh (f:=D.int) F h1;simp! [h1,decide_true,e];show h _
 .by_cases h2:0<ns.length
  .let B:(0:Int)<ns.length:=by lia
   let#[v,_,_,e]:=Lh (f:=D.int) (l:=ns) (z:=k %ns.length) (Int.emod_nonneg _ ∅) (Int.emod_lt_of_pos _ B);simp! [length_map,h1,B,decide_true,decide_false,e];show h _
  .let B:¬(0:Int)<ns.length:=by lia
   simp! [length_map,h1,B,decide_false];show h _
def Qk{ns:List Int}{k:Int}(z:0<=k)
  (h:∀a s,0<=a->1<=s->s<=2147483629->P (aZ a s) [.sh (.lst (ns.map .int)),.sh (.int k)]):wO [.sh (.lst (ns.map .int)),.sh (.int k)] P PX:=by
 show CQ rfl rfl ?_;simp! [length_map];show QN z λv=>?_;simp! [e_C];cases B:decide ((10:Int)^(18:Int).toNat<=v)
 .simp! [if_true,false_eq_true,if_false];show h _ _ ⋯ ∅ ∅
 .simp! [if_true];let:(0:Int)<=v:=by
   let:=qS B;let e:(10:Int)^(18:Int).toNat=1000000000000000000:=⋯
   lia
  show h _ _ this ∅ ∅
def LL{l:List D}(h:(bT l).isSome=true)(v:l.length<64):bO l=some (.lst ((aY l).map .sh)):=by unfold bO;rw[qY (.inl #[v,.inr h])]
def RA{A:List Nat}(h:A.length<64):∃v:List Nat,v.Perm A/\v.Pairwise (·<=·)/\bO (A.map sg)=some (.lst ((v.map sg).map .sh)):=by
 let e:A.map sg=(A.map λc=>[c]).map D.str:=by rw[qD];rfl
 let#[v,F,B]:=Ox (CS (A.map sg));show#[v,F,?_,?_]
 .let z:=Ge Ij (A.map sg) (by rw[e];show LH _);rw[B,pairwise_map]at z;show z.imp λ{a b} h=>?_;let h':(!decide (([b]:List Nat)<[a]))=true:=by rw[<-KR];exact h
  let h2:¬([b]:List Nat)<[a]:=↑h'
  rw[Nh]at h2;lia
 .rw[LL (by rw[KA];rfl) ↑h,B]
def letters:List Nat:=[97,98,99,100,101,102,103,104,105,106,107,108,109,110,111,112,113,114,115,116,117,118,119,120,121,122]
def Qc{Q:Env->Prop}{E:WX}{m:Int}:∀(xs:List D)(a s:Int)(L A:List Nat)(o:Option S),xs.length<=L.length->0<=a->1<=s->s<=2147483629->(A++L).Perm letters->
  (∀O s'(Y M:List Nat) o',0<=O->1<=s'->s'<=2147483629->M.length=A.length+xs.length->(M++Y).Perm letters->Q [some (aZ O s'),some (.sh (.int m)),some (.lst ((Y.map sg).map .sh)),some (.lst ((M.map sg).map .sh)),o'])->
  aL (zl 4) cV gZ xs [some (aZ a s),some (.sh (.int m)),some (.lst ((L.map sg).map .sh)),some (.lst ((A.map sg).map .sh)),o] Q E:=by
 intro xs;induction xs with
 |nil=>intro a s L A o h1 ha hs z v h;show h a s L A o ha hs z (by simp) v
 |cons x xs ih=>
  intro a s L A o h1 ha hs z v h;let J:=v.length_eq;let h6:letters.length=26:=rfl;simp only[qt,qq]at h1 h J;rw[uM];simp! [oV,e_sh,zat,aZ,length_map];show Ct ha hs z ?_ ?_ λr O s' hr h3 h5 h2 G=>?_
  .lia
  .lia
  simp! [e_sh,zat,aZ,length_map];let#[c,hc,hg,_]:=Gr (l:=L) hr h3;show HW hr (by simp only[qo,cO];lia) (Jg (d:=sg c) (by rw[qE,hg];rfl)) ?_;simp! [e_sh,zat,aZ,length_map];show#[by simp only[cO];lia,?_];let e1:((L.map sg).map S.sh).eraseIdx r.toNat=((L.eraseIdx r.toNat).map sg).map S.sh:=by rw[Fs,Fs]
  let e2:((A.map sg).map S.sh)++[S.sh (sg c)]=(((A++[c]).map sg).map S.sh):=by simp
  rw[e1,e2];let F:r.toNat<L.length:=∅
  let hl:(L.eraseIdx r.toNat).length=L.length-1:=List.length_eraseIdx_of_lt F;let h4:L[r.toNat]=c:=by rw[qh F]at hg;show qf hg
  let B:(A++[c]++L.eraseIdx r.toNat).Perm (A++L):=by rw[qp];show List.Perm.append_left A ?_;let:=Jh L r.toNat F;rw[h4]at this;show this
  show ih O s' _ _ _ ∅ h5 h2 G (B.trans v) λa2 s2 Y M o' x1 x2 x3 x4 x5=>h a2 s2 Y M o' x1 x2 x3 (by rw[x4];simp only[qq,qB];lia) x5
def MK{a s m:Int}(ha:0<=a)(hs:1<=s)(J:s<=2147483629)(hm:0<=m)(h3:m<=26)
  (h:∀(l:List Nat) F s',l.length=m.toNat->l.Pairwise (·<·)->(∀c∈l,97<=c/\c<=122)->0<=F->1<=s'->s'<=2147483629->P (.sh (.str l)) [aZ F s',.sh (.int m)]):vQ [aZ a s,.sh (.int m)] P PX:=by
 refine CQ rfl rfl ?_;simp! [aZ,e_sh,zat];show#[by simp only[cO];lia,?_];let hf:(fromTo 0 m.toNat).length=m.toNat:=EO;let h2:letters.length=26:=rfl;refine Qc (fromTo 0 m.toNat) a s letters [] none (by rw[hf,h2];lia) ha hs J (List.Perm.refl _)
  λF s' L' A' o' h1 L v hA z=>?_
 rw[hf,qv,zero_add]at hA;let O:A'.Nodup:=(qw.mp (z.nodup_iff.mpr ⋯)).1;let Y:∀c∈A',97<=c/\c<=122:=λc hc=>by
  let:c∈letters:=z.mem_iff.mp (qj _ hc);let B:∀c∈letters,97<=c/\c<=122:=⋯
  show B c this
 let#[A2,M,G,e]:=RA (A:=A') ∅;let hl:A2.length=m.toNat:=M.length_eq.trans hA;simp! [aZ,e_sh,zat,e,KE (show A2.length<=big by simp only[cO];lia)];show h A2 F s' hl (Sk G (M.nodup_iff.mpr O)) (λc hc=>Y c (M.mem_iff.mp hc)) h1 L v
def Re{Q:Env->Prop}{E:WX}{m many:Int}{v:List Nat}(hc:0<v.length)(h4:v.length<=26):∀(xs:List D)(a s:Int)(A:List Nat)(o:Option S),0<=a->1<=s->s<=2147483629->A.length+xs.length<=1000->
  (∀J s'(G:List Nat) o',0<=J->1<=s'->s'<=2147483629->G.length=A.length+xs.length->(∀z∈G,z∈A\/z∈v)->Q [some (aZ J s'),some (.sh (.str v)),some (.sh (.int m)),some (.sh (.int many)),some (.lst ((G.map sg).map .sh)),o'])->
  aL (zl 5) cV gY xs [some (aZ a s),some (.sh (.str v)),some (.sh (.int m)),some (.sh (.int many)),some (.lst ((A.map sg).map .sh)),o] Q E:=by
 intro xs;induction xs with
 |nil=>intro a s A o ha O B h3 h;show h a s A o ha O B (by simp) λz L=>.inl L
 |cons x xs ih=>
  intro a s A o ha O B h3 h;simp only[qt]at h3 h;rw[uM];simp! [oU,e_sh,zat,aZ,length_map];show Ct ha O B ∅ ∅ λr J s' hr Y h2 M F=>?_;let#[c,h1,_,e]:=Gr (l:=v) hr Y;simp! [e,e_sh,zat,aZ,length_map];show#[by simp only[cO];lia,?_];let e2:((A.map sg).map S.sh)++[S.sh (.str [c])]=(((A++[c]).map sg).map S.sh):=by simp[sg]
  rw[e2];show ih J s' _ _ h2 M F (by simp only[qq,qB];lia) λa2 s2 G o' x1 x2 x3 x4 x5=>h a2 s2 G o' x1 x2 x3 (by rw[x4];simp only[qq,qB];lia) λz L=>?_;rcases x5 z L with q|q
  .rcases qx.mp q with q|q
   .show .inl q
   .rw[qu.mp q];show .inr h1
  .show .inr q
def Ma{a s m:Int}{v:List Nat}(ha:0<=a)(hs:1<=s)(J:s<=2147483629)(hm:0<=m)(h4:m<=900)(hc:0<v.length)(Y:v.length<=26)
  (h:∀(l:List Nat) G s',l.length<=m.toNat->(∀z∈l,z∈v)->0<=G->1<=s'->s'<=2147483629->P (.sh (.str l)) [aZ G s',.sh (.str v),.sh (.int m)]):vP [aZ a s,.sh (.str v),.sh (.int m)] P PX:=by
 show CQ rfl rfl ?_;simp! [aZ,e_sh,zat];show Ct ha hs J ∅ ∅ λr a1 s1 hr h3 h1 L B=>?_;let O:(decide (v=[]))=false:=by simp;intro z;rw[z]at hc;simp at hc
 simp! [aZ,e_sh,zat,O,Bool.not_false,if_true,mul_one];show#[by simp only[cO];lia,?_];let hf:(fromTo 0 r.toNat).length=r.toNat:=EO;show Re (A:=[]) hc Y _ a1 s1 none h1 L B (by rw[hf];simp only[qv];lia) λG s' A' o' h2 M F hA hg=>?_;rw[hf,qv,zero_add]at hA;simp! [aZ,e_sh,zat];rw[KE (by simp only[cO];lia)];simp! [aZ,e_sh,zat];show h A' G s' ∅ (λz hz=>(hg z hz).resolve_left (by simp)) h2 M F
abbrev St:=Int×Nat×Int
def aT(t:St):D:=.tup [.int t.1,.str [t.2.1],.int t.2.2]
def sP:List Bool:=[false,true,false]
def JI(t:St):fR sP (aT t):=trivial
def Kl(L:List St):bG (L.map aT)=true:=by unfold bG;rw[or_eq_true];show .inr (qH.mpr λd v=>?_);let#[t,_,rfl]:=qJ.mp v;rfl
def JX{P:St->Prop}:∀{l:List D},(∀d∈l,∃t,d=aT t/\P t)->∃sts:List St,l=sts.map aT/\∀t∈sts,P t
 |[],_=>#[[],rfl,λ_ z=>nomatch z]
 |d::l,h=>by
  let#[t,rfl,B]:=h d qm;let#[sts,rfl,F]:=JX (l:=l) λe G=>h e (qk _ G);show#[t::sts,rfl,λu v=>?_];rcases qA.mp v with rfl|z
  .show B
  .show F u z
def Qh{P:St->Prop}{L:List St}(O:∀t∈L,P t)(Y:(aC (L.map aT)).length<64):∃sts:List St,bO (aC (L.map aT))=some (.lst ((sts.map aT).map .sh))/\sts.length=(aC (L.map aT)).length/\(∀t∈sts,P t)/\(sts.map aT).Pairwise (dG · ·=true)/\(sts.map aT).Nodup:=by
 let G:∀d∈aC (L.map aT),∃t,d=aT t/\P t:=λd B=>by let#[t,J,rfl]:=qJ.mp (zaD.mp B);show#[t,rfl,O t J]
 let F:=CS (aC (L.map aT));let#[sts,e,M]:=JX (P:=P) (l:=aY (aC (L.map aT))) λd B=>G d (F.mem_iff.mp B);let v:∀d∈aC (L.map aT),fR sP d:=λd B=>by let#[t,rfl,_]:=G d B;trivial
 show#[sts,?_,?_,M,?_,?_]
 .unfold bO;rw[qY (.inr #[∅,.inr #[sP,λz=>(nomatch z),v]]),e]
 .let:=F.length_eq;rw[e,qo]at this;show this
 .rw[<-e];show Ge (Hg sP) _ v
 .rw[<-e];show F.nodup_iff.mpr (Gd _)
def dI(many:Int)(sts:List St):D:=.tup [.int many,.tup (sts.map aT)]
def gJ(many:Int)(v z:List Nat)(t:St):Prop:=(0<=t.1/\t.1<many)/\(0<=t.2.2/\t.2.2<many)/\(t.2.1∈v\/t.2.1∈z)
def jL(L:List St):S:=.lst ((L.map aT).map .sh)
def Kk(L:List St)(t:St):(L.map aT).map S.sh++[S.sh (.tup [.int t.1,.str [t.2.1],.int t.2.2])]=((L++[t]).map aT).map S.sh:=by simp[aT]
def PZ{D':Ends}{many:Int}{B J:List Nat}{s3 s4 s7 M:Option S}(hm:1<=many)(h9:many<=1000):∀(xs:List Nat)(a s x:Int)(L:List St)(F v:Option S),0<=a->1<=s->s<=2147483629->0<=x->x<many->(∀c∈xs,c∈J)->L.length+xs.length<=1000->(∀t∈L,gJ many B J t)->
  (∀a' s' x'(L':List St) F v,0<=a'->1<=s'->s'<=2147483629->L'.length=L.length+xs.length->(∀t∈L',gJ many B J t)->D'.nx [some (aZ a' s'),some (.sh (.str B)),some (.sh (.str J)),s3,s4,some (.sh (.int many)),some (jL L'),s7,some (.sh (.int x')),F,v,M])->
  bS (zl 9) gX (xs.map sg) D' [some (aZ a s),some (.sh (.str B)),some (.sh (.str J)),s3,s4,some (.sh (.int many)),some (jL L),s7,some (.sh (.int x)),F,v,M]:=by
 intro xs;induction xs with
 |nil=>intro a s x L F v ha hs G hx O hc hl hL h;show h a s x L F v ha hs G (by simp) hL
 |cons c xs ih=>
  intro a s x L F v ha hs G hx O hc hl hL h;rw[qy,zN];simp only[qt]at hl h;simp! [oT,aZ,jL,sg];show Ct ha hs G ∅ ∅ λr a' s' hr h6 h8 h7 Y=>?_;simp! [aZ,jL,length_map];show#[by simp only[cO];lia,?_];rw[Kk L (x,c,r)];show ih a' s' r (L++[(x,c,r)]) _ _ h8 h7 Y hr h6 (λd hd=>hc d (qk _ hd)) (by rw[qq,qB];lia) (λt ht=>?_) λa2 s2 x2 L' F v h1 h2 h3 h4 h5=>h a2 s2 x2 L' F v h1 h2 h3 (by rw[h4,qq,qB];lia) h5;rcases qx.mp ht with z|z
  .show hL t z
  .rw[qu.mp z];show#[#[hx,O],#[hr,h6],.inr (hc c qm)]
def QQ{D':Ends}{many M:Int}{v G:List Nat}{s3 s7 s8 s9 F B:Option S}(hM:0<=M)(h6:M<=60){a s:Int}{L:List St}(ha:0<=a)(hs:1<=s)(z:s<=2147483629)(Y:L.length<=150)(hL:∀t∈L,gJ many v G t)
  (h:∀a' s'(L':List St),0<=a'->1<=s'->s'<=2147483629->L'.length<=150->((aC (L'.map aT)).length:Int)<=M->(∀t∈L',gJ many v G t)->D'.nx [some (aZ a' s'),some (.sh (.str v)),some (.sh (.str G)),s3,some (.sh (.int M)),some (.sh (.int many)),some (jL L'),s7,s8,s9,F,B]):
  fV (cD oE (wB gM (zj (wB iD (zj (zi 6) zk)) zk)) (zi 4)) gW D' [some (aZ a s),some (.sh (.str v)),some (.sh (.str G)),s3,some (.sh (.int M)),some (.sh (.int many)),some (jL L),s7,s8,s9,F,B]:=by
 show MZ (λm U=>∃(a s:Int)(L:List St),0<=a/\1<=s/\s<=2147483629/\L.length<=150/\m=L.length/\(∀t∈L,gJ many v G t)/\U=[some (aZ a s),some (.sh (.str v)),some (.sh (.str G)),s3,some (.sh (.int M)),some (.sh (.int many)),some (jL L),s7,s8,s9,F,B]) _ #[a,s,L,ha,hs,z,Y,rfl,hL,rfl] λm U hJ=>?_;let#[a,s,L,ha,hs,z,Y,rfl,hL,rfl]:=hJ;simp! [jL,zat,length_map,Iw (l:=L.map aT) #[Kl L,by rw[length_map];show Y]];let h2:=HD (L.map aT);rw[qo]at h2;cases q:decide (M<((aC (L.map aT)).length:Int))
 .simp! [wK];show h a s L ha hs z Y (by let:=of_decide_eq_false q;lia) hL
 .let q':=qS q;simp! [wJ,oQ,aZ,length_map];show Ct ha hs z ∅ ∅ λr a' s' hr h5 h3 h1 J=>?_;simp! [aZ,length_map];let O:r.toNat<L.length:=by lia
  show HW hr (by simp only[qo,cO];lia) (Jg (d:=aT L[r.toNat]) (by rw[qE,qh O];rfl)) ?_;simp! [aZ];let h4:(L.eraseIdx r.toNat).length=L.length-1:=List.length_eraseIdx_of_lt O;show#[L.length-1,∅,a',s',L.eraseIdx r.toNat,h3,h1,J,∅,∅,λt ht=>hL t (List.mem_of_mem_eraseIdx ht),?_];rw[Fs,Fs]
def SM{a s R M:Int}{B J:List Nat}(ha:0<=a)(hs:1<=s)(v:s<=2147483629)(hR:0<R)(hR2:R<=900)(hM:0<=M)(hM2:M<=60)(hc:0<B.length)(hc2:B.length<=26)(hw:J.length<=25)
  (h:∀(many:Int)(sts:List St) a' s',1<=many->many<=R->(sts.length:Int)<=M->(∀t∈sts,gJ many B J t)->(sts.map aT).Pairwise (dG · ·=true)->(sts.map aT).Nodup->0<=a'->1<=s'->s'<=2147483629->P (.sh (dI many sts)) [aZ a' s',.sh (.str B),.sh (.str J),.sh (.int R),.sh (.int M)]):
  wN [aZ a s,.sh (.str B),.sh (.str J),.sh (.int R),.sh (.int M)] P PX:=by
 show CQ rfl rfl ?_;simp! [aZ];show Ct ha hs v hR ∅ λr a1 s1 hr hr2 r1 hi h7=>?_;simp! [aZ];show Ct r1 hi h7 ⋯ ⋯ λr2 a2 s2 hr20 hr22 hq hs2' Y=>?_;simp! [aZ];show#[by simp only[cO];lia,?_];let hne:(decide (B=[]))=false:=by simp;intro z;rw[z]at hc;simp at hc
 show HN (λk U=>∃(a s:Int)(L:List St)(o7 o8 o9 F:Option S),0<=a/\1<=s/\s<=2147483629/\L.length=k*J.length/\(∀t∈L,gJ (1+r) B J t)/\U=[some (aZ a s),some (.sh (.str B)),some (.sh (.str J)),some (.sh (.int R)),some (.sh (.int M)),some (.sh (.int (1+r))),some (jL L),o7,o8,o9,F,none]) _ (λk x hx D2 U hI hd hct hrt hbk=>?_) (λU hI=>?_) #[a2,s2,[],none,none,none,none,hq,hs2',Y,by simp,λ_ z=>(nomatch z),rfl]
 .obtain⟨a,s,L,o7,o8,o9,F,ha,hs,v,hL,G,rfl⟩:=hI;let hk:k<4:=by let:=(qg.mp hx).1;rw[EO]at this;lia
  let hb:k*J.length<=3*25:=mul_le_mul ∅ hw;simp! [oS,aZ];show Ct ha hs v ∅ ∅ λr3 a3 s3 hl h8 hm hp O=>?_;simp! [aZ,wI];show PZ ∅ ∅ J a3 s3 r3 L _ _ hm hp O hl h8 (λc hc=>hc) ∅ G λa' s' x' L' o9 F h1 h2 h3 h4 h5=>hd _ #[a',s',L',_,_,o9,F,h1,h2,h3,?_,h5,rfl];rw[h4,hL,succ_mul]
 .obtain⟨a,s,L,o7,o8,o9,F,ha,hs,v,hL,G,rfl⟩:=hI;rw[EO]at hL;let hb:r2.toNat*J.length<=3*25:=mul_le_mul ∅ hw;simp! [aZ];show Ct ha hs v ∅ ∅ λr4 a4 s4 hr4 hr42 ha4 hs4 k3=>?_;simp! [aZ,hne,Bool.not_false,if_true,mul_one];show#[by simp only[cO];lia,?_];refine HN (λk U=>∃(a s:Int)(L:List St)(o7 o8 o9 F h9:Option S),0<=a/\1<=s/\s<=2147483629/\L.length<=75+k/\(∀t∈L,gJ (1+r) B J t)/\U=[some (aZ a s),some (.sh (.str B)),some (.sh (.str J)),some (.sh (.int R)),some (.sh (.int M)),some (.sh (.int (1+r))),some (jL L),o7,o8,o9,F,h9]) _ (λk x hx D2 U hI hd hct hrt hbk=>?_) (λU hI=>?_) #[a4,s4,L,o7,o8,o9,F,none,ha4,hs4,k3,∅,G,rfl]
  .obtain⟨a,s,L,o7,o8,o9,F,h9,ha,hs,v,hL,G,rfl⟩:=hI;let hk:k<61:=by let:=(qg.mp hx).1;rw[EO]at this;lia
   simp! [oR,aZ];show Ct ha hs v ∅ ∅ λx1 a1 s1 hx1 k2 r1 hi h7=>?_;simp! [aZ];show Ct r1 hi h7 ∅ ∅ λy1 a2 s2 hy1 k1 hq v Y=>?_;simp! [aZ,jL];show Ct hq v Y ∅ ∅ λr3 a3 s3 hl h8 hm hp O=>?_;let#[c,hcm,_,e]:=Gr (l:=B) hl h8;simp! [aZ,e,length_map];show#[by simp only[cO];lia,?_];rw[Kk L (x1,c,y1)];show hd _ #[a3,s3,L++[(x1,c,y1)],_,_,_,_,_,hm,hp,O,by rw[qq,qB];lia,λt ht=>?_,rfl];rcases qx.mp ht with z|z
   .show G t z
   .rw[qu.mp z];show#[#[hx1,k2],#[hy1,k1],.inl hcm]
  .obtain⟨a,s,L,o7,o8,o9,F,h9,ha,hs,v,hL,G,rfl⟩:=hI;rw[EO]at hL;simp! [e_C];show QQ (L:=L) hM hM2 ha hs v ∅ G λa' s' L' h1 h2 h3 h4 h5 h6=>?_;let#[sts,e1,e2,e3,e4,e5]:=Qh h6 ∅;simp! [jL,zat,length_map,Iw (l:=L'.map aT) #[Kl L',by rw[length_map];show h4],e1];show h (1+r) sts a' s' ∅ ∅ ∅ e3 e4 e5 h1 h2 h3
def zW:D->Int
 |.int i=>i
 |_=>0
def Ic:∀{l:List D},(∀d∈l,∃i,d=D.int i)->(l.map zW).map D.int=l
 |[],_=>rfl
 |d::l,h=>by let#[i,rfl]:=h d qm;rw[qy,qy,Ic λe v=>h e (qk _ v)];rfl
def fW(sts:List St)(c:Nat)(ns:List Int):List Int:=(sts.filter λt=>decide (t.2.1=c)&&decide (t.1∈ns)).map (·.2.2)
def nx(sts:List St)(c:Nat)(ns:List Int):List Int:=(aY (aC ((fW sts c ns).map D.int))).map zW
def KB(sts:List St)(c:Nat)(ns:List Int):(fW sts c ns).length<=sts.length:=by unfold fW;rw[qo];show List.length_filter_le ..
def FX{l:List Int}{d:D}(h:d∈aC (l.map D.int)):∃i,d=D.int i:=by let#[i,_,rfl]:=qJ.mp (zaD.mp h);show#[i,rfl]
def EC(sts:List St)(c:Nat)(ns:List Int):(nx sts c ns).map D.int=aY (aC ((fW sts c ns).map D.int)):=Ic λd v=>FX ((CS _).mem_iff.mp v)
def OH(sts:List St)(c:Nat)(ns:List Int):(nx sts c ns).length<=sts.length:=by
 let h1:(nx sts c ns).length=(aC ((fW sts c ns).map D.int)).length:=by unfold nx;rw[qo];show(CS _).length_eq
 let h2:=HD ((fW sts c ns).map D.int);let v:=KB sts c ns;rw[qo]at h2;lia
def Py(l:List Int):bG (l.map D.int)=true:=by unfold bG;rw[or_eq_true];show .inl (qH.mpr λd v=>?_);let#[t,_,rfl]:=qJ.mp v;rfl
def Lz{l:List D}(h:∀d∈l,∃i,d=D.int i)(v:l.length<64):bO l=some (.lst ((aY l).map .sh)):=by unfold bO;rw[qY (.inl #[v,.inl (by rw[<-Ic h,RW];rfl)])]
def aO(sts:List St)(w:List Nat)(x:Int):List Int:=w.foldl (λv c=>nx sts c v) [x]
def Hs(sts:List St)(w:List Nat)(c:Nat)(x:Int):aO sts (w++[c]) x=nx sts c (aO sts w x):=by unfold aO;rw[foldl_append];rfl
def IT(sts:List St)(w:List Nat)(x:Int):(aO sts w x).length<=sts.length+1:=by
 rcases List.eq_nil_or_concat w with rfl|⟨v,c,rfl⟩
 .simp[aO]
 .rw[List.concat_eq_append,Hs];let:=OH sts c (aO sts v x);lia
def OS(sts:List St)(c:Nat)(ns:List Int):(sts.filterMap λt=>if(decide ([t.2.1]=[c])&&decide (t.1∈ns))=true then some (S.sh (.int t.2.2))else none)=((fW sts c ns).map D.int).map S.sh:=by
 unfold fW;induction sts with
 |nil=>rfl
 |cons t sts v=>
  let e:(decide ([t.2.1]=[c])&&decide (t.1∈ns))=(decide (t.2.1=c)&&decide (t.1∈ns)):=by simp
  cases q:(decide (t.2.1=c)&&decide (t.1∈ns))
  .rw[List.filterMap_cons_none (by rw[e,q];rfl),v,List.filter_cons_of_neg (a:=t) (by rw[q];show qV)]
  .rw[List.filterMap_cons_some (b:=S.sh (.int t.2.2)) (by rw[e,q];rfl),v,List.filter_cons_of_pos (a:=t) (by show q)];rfl
def SG{many x:Int}{sts:List St}{w:List Nat}(hl:sts.length<=60)
  (h:P (.sh (.lst ((aO sts w x).map D.int))) [.sh (dI many sts),.sh (.str w),.sh (.int x)]):wM [.sh (dI many sts),.sh (.str w),.sh (.int x)] P PX:=by
 show CQ rfl rfl ?_;simp! [zat,wI];show En (λv U=>∃F,U=[some (.sh (dI many sts)),some (.sh (.str w)),some (.sh (.int x)),some (.sh (.lst ((aO sts v x).map D.int))),F]) w (λv c O D2 U e M J h4 Y h5=>?_) (λU M=>?_) #[none,rfl]
 .obtain⟨F,rfl⟩:=M;simp! [oP,dI,sg];refine TF (n:=5) (toD:=aT) sts (λt=>if(decide ([t.2.1]=[c])&&decide (t.1∈aO sts v x))=true then some (S.sh (.int t.2.2))else none) (λt ht l o o' G K h3 L=>?_) λo o' G=>?_
  .cases z:decide ([t.2.1]=[c])
   .simp! [aT,dD,vO,length_cons,length_nil,z,Bool.false_and,false_eq_true,if_false];let:=L (some (.sh (.int t.1))) (some (.sh (.str [t.2.1]))) (some (.sh (.int t.2.2)));simp only[z,Bool.false_and,false_eq_true,if_false,Option.toList,qz]at this;show this
   .cases B:decide (t.1∈aO sts v x)
    .simp! [aT,dD,vO,length_cons,length_nil,z,B,LJ,if_true,Bool.and_false,false_eq_true,if_false];let:=L (some (.sh (.int t.1))) (some (.sh (.str [t.2.1]))) (some (.sh (.int t.2.2)));simp only[z,B,Bool.and_false,false_eq_true,if_false,Option.toList,qz]at this;show this
    .simp! [aT,dD,jO,length_cons,length_nil,z,B,LJ,if_true,oO];show#[by simp only[cO];lia,?_];let:=L (some (.sh (.int t.1))) (some (.sh (.str [t.2.1]))) (some (.sh (.int t.2.2)));simp only[z,B,Bool.and_true,if_true,Option.toList]at this;show this
  .rw[OS];let h1:=KB sts c (aO sts v x);let h2:=HD ((fW sts c (aO sts v x)).map D.int);rw[qo]at h2;simp! [zat,Iw #[Py (fW sts c (aO sts v x)),by rw[length_map];lia],Lz (λd hd=>FX hd) (show(aC ((fW sts c (aO sts v x)).map D.int)).length<64 by lia)];rw[<-EC,<-Hs];show J _ #[_,rfl]
 .obtain⟨F,rfl⟩:=M;simp! [e_C];show h
def pD(p:Int×Int):D:=.tup [.int p.1,.int p.2]
def cY(m:Nat)(sts:List St)(w:List Nat):List (Int×Int):=(List.range m).flatMap λ(x:Nat)=>(aO sts w (x:Int)).map λy=>((x:Int),y)
def cQ(m:Nat)(sts:List St)(w:List Nat):List D:=(cY m sts w).map pD
def Io(sts:List St)(w:List Nat):∀m,(cQ m sts w).length<=m*(sts.length+1)
 |0=>by simp[cQ,cY]
 |m+1=>by let h1:=Io sts w m;let h2:=IT sts w m;unfold cQ cY at h1⊢;rw[qo]at h1⊢;rw[List.range_succ,flatMap_append,qq,succ_mul];simp only[flatMap_cons,List.flatMap_nil,qz,qo];lia
def Lm(m:Nat)(sts:List St)(w:List Nat):cQ (m+1) sts w=cQ m sts w++(aO sts w m).map λy=>D.tup [.int m,.int y]:=by unfold cQ cY;rw[List.range_succ,flatMap_append];simp[pD]
def Tf{m:Nat}{sts:List St}{w:List Nat}(M:sts.length<=60)(hm:m<=900)
  (h:P (.sh (.tup (cQ m sts w))) [.sh (dI m sts),.sh (.str w)]):wL [.sh (dI m sts),.sh (.str w)] P PX:=by
 show CQ rfl rfl ?_;simp! [dI];show#[by simp only[cO];lia,?_];rw[Fe (n:=m) rfl];show En (λv U=>∃z,U=[some (.sh (dI m sts)),some (.sh (.str w)),some (.lst ((cQ v.length sts w).map .sh)),z]) (List.range m) (λv k G D2 U e F B h1 J h2=>?_) (λU F=>?_) #[none,rfl]
 .obtain⟨z,rfl⟩:=F;let#[Y,O]:=LV e;simp! [oN];show SG M ?_;simp! [e_C];let he:=IT sts w (k:Int);let ht:=Io sts w v.length;let hb:v.length*(sts.length+1)<=900*61:=mul_le_mul ∅ ∅;refine JE (n:=4) (toD:=D.int) (aO sts w k) (λy=>S.sh (.tup [.int k,.int y])) (λy hy l o K L hK=>?_) λo=>?_
  .simp! [dD,jO,oM,length_cons,length_nil];show#[by simp only[cO];lia,hK _]
  .simp! [length_map];show#[by simp only[cO];lia,B _ #[some (.sh (.int k)),?_]];rw[qq,qB,Lm,map_append,Y,qD];rfl
 .obtain⟨z,rfl⟩:=F;rw[qC];simp! [zat];show h
abbrev Gk:=Int×Nat
def eC(k:Gk):D:=.tup [.int k.1,.str [k.2]]
def HZ{a b:Gk}(h:eC a=eC b):a=b:=by
 unfold eC at h;injection h with h
 injection h with h1 h2
 injection h2 with h2 _
 injection h1 with h1
 injection h2 with h2
 injection h2 with h2
 show Prod.ext h1 h2
def bB(v:List St)(k:Gk):List Int:=(v.filter λt=>decide ((t.1,t.2.1)=k)).map (·.2.2)
def HJ(v:List St)(t:St)(k:Gk):bB (v++[t]) k=bB v k++(if(t.1,t.2.1)=k then[t.2.2]else[]):=by
 unfold bB;rw[List.filter_append,map_append];congr 1;by_cases h:(t.1,t.2.1)=k
 .rw[qY h,List.filter_cons_of_pos (by show qP h)];rfl
 .rw[qZ h,List.filter_cons_of_neg (by rw[qR];show h)];rfl
structure nP(G:List (Gk×List Int))(pre:List St):Prop where
 nd:(G.map (·.1)).Nodup
 val:∀p∈G,p.2=bB pre p.1
 all:∀t∈pre,(t.1,t.2.1)∈G.map (·.1)
 len:G.length<=pre.length
def cL(G:List (Gk×List Int)):List D:=G.map λp=>eC p.1
def gA(G:List (Gk×List Int)):List S:=G.map λp=>S.lst ((p.2.map D.int).map S.sh)
def iB(G:List (Gk×List Int)):List D:=G.map λp=>D.lst (p.2.map D.int)
def gS(G:List (Gk×List Int)):S:=.dct true (cL G) (gA G)
def OM(G:List (Gk×List Int)):(gS G).toD=.dct true (cL G) (iB G):=by unfold gS gA iB;rw[S.toD_dct,qD];congr 1;show map_congr_left λp _=>?_;simp[Function.comp_def]
def OW{G:List (Gk×List Int)}{k:Gk}:(∃m p,gB (cL G) (eC k)=some m/\G[m]?=some p/\p.1=k)\/(gB (cL G) (eC k)=none/\k∉G.map (·.1)):=by
 unfold gB cL;cases q:(G.map λp=>eC p.1).findIdx? (λx=>open Classical in decide (x=eC k))with
 |some m=>let#[h1,h2,_]:=List.findIdx?_eq_some_iff_getElem.mp q;rw[qo]at h1;show .inl #[m,G[m],rfl,qh h1,?_];rw[getElem_map]at h2;show HZ ↑h2
 |none=>show .inr #[rfl,λz=>?_];let#[p,v,rfl]:=qJ.mp z;let:=List.findIdx?_eq_none_iff.mp q (eC p.1) (qJ.mpr #[p,v,rfl]);simp at this
def Ol{G:List (Gk×List Int)}{B:List St}(h:nP G B)(t:St):∃(G':List (Gk×List Int))(l':List Int),nP G' (B++[t])/\l'.length<=B.length/\
  (aU (cL G) (gA G) (eC (t.1,t.2.1))).2.1[(aU (cL G) (gA G) (eC (t.1,t.2.1))).2.2]?=some (.lst ((l'.map D.int).map .sh))/\
  S.dct true (aU (cL G) (gA G) (eC (t.1,t.2.1))).1 ((aU (cL G) (gA G) (eC (t.1,t.2.1))).2.1.set (aU (cL G) (gA G) (eC (t.1,t.2.1))).2.2 (.lst ((l'.map D.int).map .sh++[.sh (.int t.2.2)])))=gS G':=by
 let Y:∀k,(bB B k).length<=B.length:=λk=>by unfold bB;rw[qo];show List.length_filter_le ..
 rcases OW (G:=G) (k:=(t.1,t.2.1))with⟨m,p,e1,J,e3⟩|⟨e1,J⟩
 .have hm:=(qg.mp J).1;let hp:p∈G:=qL J;let es:aU (cL G) (gA G) (eC (t.1,t.2.1))=(cL G,gA G,m):=by unfold aU;rw[e1]
  let L:∀j,j<G.length->(G[j]?.map (·.1))=some (t.1,t.2.1)->j=m:=λj v z=>by show(List.getElem?_inj (l:=G.map (·.1)) (by rw[qo];show v) h.nd).mp ?_;rw[qE,qE,z,J];show _=some p.1;rw[e3]
  show#[G.set m (p.1,p.2++[t.2.2]),p.2,#[?_,λq M=>?_,λu h1=>?_,by rw[length_set,qq];let:=h.len;lia],by rw[h.val p hp];show Y _,?_,?_]
  .have:(G.set m (p.1,p.2++[t.2.2])).map (·.1)=G.map (·.1):=by
    rw[map_set];apply ext_getElem?;intro j;rw[getElem?_set];by_cases v:m=j
    .subst v;rw[qY rfl,qY (by rw[qo];show hm),qE,J];rfl
    .rw[qZ v]
   rw[this];show h.nd
  .obtain⟨j,v,rfl⟩:=getElem_of_mem M;rw[length_set]at v;rw[List.getElem_set];by_cases F:m=j
   .rw[qY F];show p.2++[t.2.2]=bB (B++[t]) p.1;rw[HJ,e3,qY rfl,h.val p hp,e3]
   .rw[qZ F,HJ,qZ λz=>F (L j v (by rw[qh v,z];rfl)).symm,qz];show h.val _ (getElem_mem v)
  .have hk:∀k∈G.map (·.1),k∈(G.set m (p.1,p.2++[t.2.2])).map (·.1):=λk hk=>by
    let#[q,M,rfl]:=qJ.mp hk;let#[j,v,rfl]:=getElem_of_mem M;by_cases F:m=j
    .subst F;show qJ.mpr #[(p.1,p.2++[t.2.2]),List.mem_set v _,?_];rw[qh v]at J;cases J;rfl
    .show qJ.mpr #[G[j],?_,rfl];let:(G.set m (p.1,p.2++[t.2.2]))[j]?=some G[j]:=by rw[getElem?_set_ne F,qh v]
     show qL this
   rcases qx.mp h1 with z|z
   .show hk _ (h.all u z)
   .rw[qu.mp z];show hk _ (qJ.mpr #[p,hp,e3])
  .rw[es];show(gA G)[m]?=_;unfold gA;rw[qE,J];rfl
  .rw[es];unfold gS cL gA;show S.dct true (G.map λp=>eC p.1) ((G.map λp=>S.lst ((p.2.map D.int).map S.sh)).set m _)=_;congr 1
   .rw[map_set];apply ext_getElem?;intro j;rw[getElem?_set];by_cases v:m=j
    .subst v;rw[qY rfl,qY (by rw[qo];show hm),qE,J];rfl
    .rw[qZ v]
   .rw[map_set];congr 2;simp
 .have es:aU (cL G) (gA G) (eC (t.1,t.2.1))=(cL G++[eC (t.1,t.2.1)],gA G++[.lst []],(cL G).length):=by unfold aU;rw[e1]
  let hl:(cL G).length=(gA G).length:=by unfold cL gA;simp
  let O:bB B (t.1,t.2.1)=[]:=by unfold bB;rw[map_eq_nil_iff,List.filter_eq_nil_iff];intro u L z;rw[qR]at z;show J (z▸h.all u L)
  show#[G++[((t.1,t.2.1),[t.2.2])],[],#[?_,λq M=>?_,λu L=>?_,by rw[qq,qq];let:=h.len;simp only[qB];lia],zero_le _,?_,?_]
  .rw[map_append];show qw.mpr #[h.nd,by simp,λa ha b hb e=>by rw[qy,map_nil,qu]at hb;let h3:b=(t.1,t.2.1):=hb;rw[e,h3]at ha;show J ha]
  .rcases qx.mp M with z|z
   .rw[HJ,qZ λy=>J (qJ.mpr #[q,z,y.symm]),qz];show h.val q z
   .rw[qu.mp z,HJ,qY rfl,O];rfl
  .rw[map_append];rcases qx.mp L with z|z
   .show qj _ (h.all u z)
   .rw[qu.mp z];show qi _ (by simp)
  .rw[es];show(gA G++[S.lst []])[(cL G).length]?=_;rw[hl,getElem?_append_right (q5 _),sub_self];rfl
  .rw[es];show S.dct true (cL G++[eC (t.1,t.2.1)]) ((gA G++[S.lst []]).set (cL G).length _)=_;rw[hl,List.set_append_right _ _ (q5 _),sub_self];unfold gS cL gA;rw[map_append,map_append];rfl
def JP{f:Gk->List Int}{k:Gk}:∀{G:List (Gk×List Int)},(∀p∈G,p.2=f p.1)->lk (cL G) (iB G) (eC k)=some (.lst ((f k).map D.int))\/(lk (cL G) (iB G) (eC k)=none/\k∉G.map (·.1))
 |[],_=>.inr #[rfl,λz=>nomatch z]
 |p::G,h=>by
  let e:lk (cL (p::G)) (iB (p::G)) (eC k)=(open Classical in if eC p.1=eC k then some (D.lst (p.2.map D.int))else lk (cL G) (iB G) (eC k)):=rfl;by_cases v:p.1=k
  .left
   rw[e,qY (by rw[v]),h p qm,v]
  .rw[e,qZ λz=>v (HZ z)];rcases JP (G:=G) (f:=f) (k:=k) λq B=>h q (qk _ B)with z|⟨z,y⟩
   .show .inl z
   .show .inr #[z,λw=>?_];rw[qy,qA]at w;rcases w with w|w
    .show v w.symm
    .show y w
def JS:∀{l m:List D},l.Nodup->(∀d∈l,d∈m)->l.length<=m.length
 |[],_,_,_=>zero_le _
 |d::l,m,h,hs=>by
  obtain⟨m1,B,rfl⟩:=append_of_mem (hs d qm);let#[h1,h2]:=qK.mp h;let:=JS (l:=l) (m:=m1++B) h2 λe v=>by
   rcases qx.mp (hs e (qk _ v))with z|z
   .show qj _ z
   .rcases qA.mp z with rfl|z
    .show absurd v h1
    .show qi _ z
  simp only[qq,qt]at this⊢;lia
def SS(l:List D)(d:D):aC (l++[d])=bX (aC l) d:=by unfold aC;rw[foldl_append];rfl
def Rr{l m:List Int}(h:∀i,i∈l↔i∈m):aY (aC (l.map D.int))=aY (aC (m.map D.int)):=by
 have v:(aC (m.map D.int)).Perm (aC (l.map D.int)):=(List.perm_ext_iff_of_nodup (Gd _) (Gd _)).mpr λd=>by
  rw[zaD,zaD];constructor
  .intro z;let#[i,hi,rfl]:=qJ.mp z;show qJ.mpr #[i,(h i).mpr hi,rfl]
  .intro z;let#[i,hi,rfl]:=qJ.mp z;show qJ.mpr #[i,(h i).mp hi,rfl]
 let hi:∀{l:List Int},∀d∈aC (l.map D.int),gP d:=λd B=>by let#[i,rfl]:=FX B;trivial
 show GC Hl hi ((CS _).trans v) (Ge Hl _ hi)
def iC(sts:List St)(c:Nat)(ns:List Int):List Int:=ns.flatMap λr=>bB sts (r,c)
theorem zfl{sts:List St}{c:Nat}{ns:List Int}{i:Int}:i∈iC sts c ns↔i∈fW sts c ns:=by
 unfold iC fW bB;simp only[mem_flatMap,qJ,mem_filter,and_eq_true,qR];constructor
 .rintro⟨r,z,t,⟨v,e⟩,rfl⟩;injection e with e1 e2
  show#[t,#[v,e2,e1▸z],rfl]
 .rintro⟨t,⟨v,e,z⟩,rfl⟩;show#[t.1,z,t,#[v,by rw[e]],rfl]
def nR(sts:List St):Prop:=∀l:List Int,(∀i∈l,i∈sts.map (·.2.2))->(aC (l.map D.int)).length<=60
def IH{m:Nat}{sts:List St}(hs:∀t∈sts,0<=t.2.2/\t.2.2<(m:Int))(F:m<=60):nR sts:=λl z=>by
 let h1:=JS (l:=aC (l.map D.int)) (m:=(List.range m).map λ(k:Nat)=>D.int k) (Gd _) λd B=>by let#[i,hi,rfl]:=qJ.mp (zaD.mp B);let#[t,v,rfl]:=qJ.mp (z i hi);let:=hs t v;show qJ.mpr #[t.2.2.toNat,qI.mpr ∅,by rw[show((t.2.2.toNat:Nat):Int)=t.2.2 by lia]]
 rw[qo,qC]at h1;lia
def Kv{sts:List St}{l:List Int}{c:Nat}{ns:List Int}(z:nR sts)(h:∀i∈l,i∈iC sts c ns):(aC (l.map D.int)).length<=60:=z l λi hi=>by let:=zfl.mp (h i hi);unfold fW at this;let#[t,v,rfl]:=qJ.mp this;show qJ.mpr #[t,(mem_filter.mp v).1,rfl]
def Oq{i:Int}{l:List Int}:bG (.int i::aC (l.map D.int))=true:=by
 unfold bG;rw[or_eq_true];show .inl (qH.mpr λd v=>?_);rcases qA.mp v with rfl|z
 .rfl
 .obtain⟨j,rfl⟩:=FX z;rfl
def Qe{Q:Env->Prop}{E:WX}{G:List (Gk×List Int)}{sts:List St}{c:Nat}{ns:List Int}{s0 s1 s2 s3 s5 s7 s8 Y J B v:Option S}(hG:nP G sts)(hE:nR sts)
  (h5:∀B v,Q [s0,s1,s2,s3,some (.sh (.dct true (cL G) (iB G))),s5,some (.sh (.str [c])),s7,s8,Y,J,some (.set (aC ((iC sts c ns).map D.int))),B,v]):
  aL (zl 12) cV hC (ns.map D.int) [s0,s1,s2,s3,some (.sh (.dct true (cL G) (iB G))),s5,some (.sh (.str [c])),s7,s8,Y,J,some (.set []),B,v] Q E:=by
 show HR (λF U=>∃B v,U=[s0,s1,s2,s3,some (.sh (.dct true (cL G) (iB G))),s5,some (.sh (.str [c])),s7,s8,Y,J,some (.set (aC ((iC sts c F).map D.int))),B,v]) ns (λF r h6 K U e hI hK=>?_) (λU hI=>?_) #[B,v,rfl]
 .obtain⟨B,v,rfl⟩:=hI;let hr:r∈ns:=by rw[<-e];simp
  let eb:iC sts c (F++[r])=iC sts c F++bB sts (r,c):=by unfold iC;rw[flatMap_append];simp
  have M:∀(xs:List Int)(v:Option S),xs=bB sts (r,c)->aL (zl 13) cV hH (xs.map D.int) [s0,s1,s2,s3,some (.sh (.dct true (cL G) (iB G))),s5,some (.sh (.str [c])),s7,s8,Y,J,some (.set (aC ((iC sts c F).map D.int))),some (.sh (.int r)),v] K E:=λxs v ex=>by
   show HR (λL U=>∃v,U=[s0,s1,s2,s3,some (.sh (.dct true (cL G) (iB G))),s5,some (.sh (.str [c])),s7,s8,Y,J,some (.set (aC ((iC sts c F++L).map D.int))),some (.sh (.int r)),v]) xs (λL z h3 K2 U e2 O h4=>?_) (λU O=>?_) #[v,by rw[qz]]
   .obtain⟨v,rfl⟩:=O;let hb:(aC ((iC sts c F++L).map D.int)).length<=60:=Kv (c:=c) (ns:=ns) hE λi hi=>by
     unfold iC;rw[mem_flatMap];rcases qx.mp hi with y|y
     .unfold iC at y;let#[r',h1,h2]:=mem_flatMap.mp y;show#[r',by rw[<-e];show qj _ h1,h2]
     .show#[r,hr,by rw[<-ex,<-e2];show qj _ y]
    simp! [dD,jO,pE];show#[Oq,∅,?_];rw[<-SS];show h4 _ #[some (.sh (.int z)),by simp]
   .obtain⟨v,rfl⟩:=O;rw[ex,<-eb];show hK _ #[_,_,rfl]
  simp! [dD,jO,pC];rcases JP (k:=(r,c)) hG.val with z|⟨z,y⟩
  .let z':lk (cL G) (iB G) (.tup [.int r,.str [c]])=some (.lst ((bB sts (r,c)).map D.int)):=z;simp! [z'];show M _ _ rfl
  .have z':lk (cL G) (iB G) (.tup [.int r,.str [c]])=none:=z;let hn:[]=bB sts (r,c):=by
    unfold bB
    symm
    rw[map_eq_nil_iff,List.filter_eq_nil_iff];intro u hu w;rw[qR]at w;show y (w▸hG.all u hu)
   simp! [z'];show M [] _ hn
 .obtain⟨B,v,rfl⟩:=hI;show h5 B v
def Jc{m:Nat}{sts:List St}{w:List Nat}(hl:sts.length<=900)(hm:m<=60)(hE:nR sts)
  (h:P (.sh (.tup (cQ m sts w))) [.sh (dI m sts),.sh (.str w)]):sU [.sh (dI m sts),.sh (.str w)] P PX:=by
 show CQ rfl rfl ?_;simp! [dI,length_cons,length_nil];show En (toD:=aT) (λv U=>∃(G:List (Gk×List Int))(L F J:Option S),nP G v/\U=[some (.sh (dI m sts)),some (.sh (.str w)),some (.sh (.int m)),some (.sh (.tup (sts.map aT))),some (gS G),L,F,J,none,none,none]) sts (λv t h1 D2 U e hI O h7 h5 h8=>?_) (λU hI=>?_) #[[],none,none,none,#[.nil,λ_ z=>(nomatch z),λ_ z=>(nomatch z),q5 _],rfl]
 .obtain⟨G,L,F,J,hG,rfl⟩:=hI;let hr:v.length<=sts.length:=by rw[<-e];simp
  let#[G',l',e3,ha,e1,e2]:=Ol hG t;let h6:(cL G).Nodup:=by unfold cL;let:=hG.nd;rw[show(G.map λp=>eC p.1)=(G.map (·.1)).map eC by rw[qD];rfl];show List.Pairwise.map _ (λa b h9 z=>h9 (HZ z)) this
  let r2:(cL G).length<=900:=by let:=hG.len;unfold cL;rw[qo];lia
  simp! [pH,aT,length_cons,length_nil,gS];show#[rfl,h6,by simp only[cO];lia,?_];let h3:=e1;unfold eC at h3 e2;rw[Pa h3];simp! [length_map];show#[by simp only[cO];lia,?_];rw[e2];show O _ #[G',_,_,_,e3,rfl]
 .obtain⟨G,L,F,J,hG,rfl⟩:=hI;simp! [OM];show#[by simp only[cO];lia,?_];rw[Fe (n:=m) rfl];refine En (λv U=>∃(L F J o9 M:Option S),U=[some (.sh (dI m sts)),some (.sh (.str w)),some (.sh (.int m)),some (.sh (.tup (sts.map aT))),some (.sh (.dct true (cL G) (iB G))),L,F,J,some (.lst ((cQ v.length sts w).map .sh)),o9,M]) (List.range m) (λv k h1 D2 U e hI O h7 h5 h8=>?_) (λU hI=>?_) #[L,F,J,none,none,rfl]
  .obtain⟨L,F,J,o9,M,rfl⟩:=hI;let#[hk,r1]:=LV e;simp! [pF,zat,wI];refine En (toD:=sg) (λB U=>∃(F:Option S),U=[some (.sh (dI m sts)),some (.sh (.str w)),some (.sh (.int m)),some (.sh (.tup (sts.map aT))),some (.sh (.dct true (cL G) (iB G))),L,F,J,some (.lst ((cQ v.length sts w).map .sh)),some (.sh (.int k)),some (.sh (.lst ((aO sts B k).map D.int)))]) w (λB c h4 D3 U e2 Y h2 hx e4 hp=>?_) (λU Y=>?_) #[F,rfl]
   .obtain⟨F,rfl⟩:=Y;simp! [pG,sg];show Qe hG hE λhs hc=>?_;let hb:(aC ((iC sts c (aO sts B k)).map D.int)).length<=60:=Kv hE λi hi=>hi;simp! [Lz (λd hd=>FX hd) (show(aC ((iC sts c (aO sts B k)).map D.int)).length<64 by lia),zat];rw[Rr (m:=fW sts c (aO sts B k)) λi=>zfl,<-EC,<-Hs];show h2 _ #[_,rfl]
   .obtain⟨F,rfl⟩:=Y;let he:=IT sts w (k:Int);let ht:=Io sts w v.length;let hb:v.length*(sts.length+1)<=60*901:=mul_le_mul ∅ ∅;simp! [e_C];refine JE (n:=11) (toD:=D.int) (aO sts w k) (λy=>S.sh (.tup [.int k,.int y])) (λy hy l o K hq hK=>?_) λo=>?_
    .simp! [dD,jO,pB,length_cons,length_nil];show#[by simp only[cO];lia,hK _]
    .simp! [length_map];show#[by simp only[cO];lia,O _ #[L,F,J,some (.sh (.int k)),some (.sh (.lst ((aO sts w k).map D.int))),?_]];rw[qq,qB,Lm,map_append,hk,qD];rfl
  .obtain⟨L,F,J,o9,M,rfl⟩:=hI;rw[qC];simp! [zat];show h
abbrev Pr:=Nat×List Nat
def dU(p:Pr):D:=.tup [.str [p.1],.str p.2]
def cA(ps:List Pr):Prop:=ps.length<=4/\(ps.map (·.1)).Nodup/\∀p∈ps,0<p.2.length/\p.2.length<=4
def one(ps:List Pr)(c:Nat):List Nat:=((ps.find? λp=>p.1==c).map (·.2)).getD [c]
def fK(ps:List Pr)(w:List Nat):List Nat:=w.flatMap (one ps)
def KQ{ps:List Pr}(h:cA ps)(c:Nat):0<(one ps c).length/\(one ps c).length<=4:=by
 unfold one;cases e:ps.find? λp=>p.1==c with
 |none=>show#[q5 1,show 1<=4 by decide]
 |some p=>show h.2.2 p (List.mem_of_find?_eq_some e)
def Ie{ps:List Pr}(h:cA ps)(w:List Nat):(fK ps w).length<=4*w.length:=by
 induction w with
 |nil=>simp[fK]
 |cons c w v=>have:=(KQ h c).2;unfold fK at v⊢;rw[flatMap_cons,qq,qt];lia
def PP{ps:List Pr}{v w:List Nat}:fK ps (v++w)=fK ps v++fK ps w:=flatMap_append
def Qs(ps:List Pr):cJ (ps.map dU)=some (ps.map λp=>(D.str [p.1],D.str p.2)):=by
 induction ps with
 |nil=>rfl
 |cons p ps v=>show(cJ (ps.map dU)).map ((D.str [p.1],D.str p.2)::·)=_;rw[v];rfl
def GX{ps:List Pr}(h:cA ps):dJ [.tup (ps.map dU)]=some (.dct false (ps.map λp=>.str [p.1]) ((ps.map λp=>D.str p.2).map .sh)):=by
 let:=zid (Qs ps) (by rw[qD,List.all_map,qH];intro x _;rfl) (by rw[qD];show pairwise_map.mpr ((pairwise_map.mp h.2.1).imp λ{a b} v e=>v ?_);let z:D.str [a.1]=D.str [b.1]:=e;simpa using z) (by rw[qo];let:=h.1;lia)
 rw[qD,qD]at this;rw[qD];show this
open Classical in
def JQ:∀(ps:List Pr)(c:Nat),(lk (ps.map λp=>D.str [p.1]) (ps.map λp=>D.str p.2) (.str [c]))=(ps.find? λp=>p.1==c).map λp=>.str p.2
 |[],_=>rfl
 |p::ps,c=>by
  show(if D.str [p.1]=.str [c]then some (D.str p.2)else lk (ps.map λp=>D.str [p.1]) (ps.map λp=>D.str p.2) (.str [c]))=_;by_cases e:p.1=c
  .rw[qY (by rw[e]),find?_cons,show(p.1==c)=true by simpa using e];rfl
  .rw[qZ ↑e,find?_cons,show(p.1==c)=false by simpa using e];show JQ ps c
def SZ{ps:List Pr}{w:List Nat}(z:cA ps)(F:w.length<=60)
  (h:P (.sh (.str (fK ps w))) [.sh (.tup (ps.map dU)),.sh (.str w)]):wQ [.sh (.tup (ps.map dU)),.sh (.str w)] P PX:=by
 show CQ rfl rfl ?_;simp! [GX z,zat];show JE (n:=3) (toD:=sg) w (λc=>.sh (.str (one ps c))) (λc J l o K G v=>?_) λo=>?_
 .simp! [dD,jO,oZ,sg];rw[JQ];cases e:ps.find? λp=>p.1==c with
  |none=>rw[show one ps c=[c] by unfold one;rw[e];rfl]at v;simp! [Option.map_none];show#[by simp only[cO];lia,v _]
  |some p=>rw[show one ps c=p.2 by unfold one;rw[e];rfl]at v;simp! [e_C];show#[by simp only[cO];lia,v _]
 .rw[show(w.map λc=>S.sh (.str (one ps c)))=((w.map (one ps)).map D.str).map S.sh by simp];let B:=Sf (l:=w.map (one ps)) (by let:=Ie z w;unfold fK at this;rw[List.length_flatMap]at this;rw[qD];simp only[cO];show le_trans this ∅)
  rw[show(w.map (one ps)).flatten=fK ps w from(flatMap_def).symm]at B;simp! [zat,B];show h
def QK{ps:List Pr}{p:Pr}{c:Nat}(h:((ps++[p]).map (·.1)).Nodup):one (ps++[p]) c=if p.1=c then p.2 else one ps c:=by
 unfold one;rw[List.find?_append];by_cases e:p.1=c
 .rw[qY e];let:ps.find? (λq=>q.1==c)=none:=by rw[List.find?_eq_none];intro q z v;rw[map_append,qw]at h;exact h.2.2 q.1 (qJ.mpr #[q,z,rfl]) p.1 (by simp) (by rw[e];simpa using v)
  rw[this,Option.none_or,find?_cons,show(p.1==c)=true by simpa using e];rfl
 .rw[qZ e,find?_cons,show(p.1==c)=false by simpa using e,List.find?_nil,Option.or_none]
def SW{ps:List Pr}{w:List Nat}(hp:cA ps)(hw:w.length<=60)
  (h:P (.sh (.str (fK ps w))) [.sh (.tup (ps.map dU)),.sh (.str w)]):oH [.sh (.tup (ps.map dU)),.sh (.str w)] P PX:=by
 show CQ rfl rfl ?_;simp! [e_C];show En (toD:=sg) (λz U=>∃o3 Y G F,U=[some (.sh (.tup (ps.map dU))),some (.sh (.str w)),some (.sh (.str (fK ps z))),o3,Y,G,F]) w (λz c h4 D2 U e L h2 e3 h9 e4=>?_) (λU L=>?_) #[none,none,none,none,rfl]
 .obtain⟨o3,Y,G,F,rfl⟩:=L;let e1:z.length+1<=60:=by let:=congrArg List.length e;rw[qq,qt]at this;lia
  let h8:=Ie hp z;simp! [mE,sg];show En (toD:=dU) (λv U=>∃G F,U=[some (.sh (.tup (ps.map dU))),some (.sh (.str w)),some (.sh (.str (fK ps z))),some (.sh (.str [c])),some (.sh (.str (one v c))),G,F]) ps (λv p B D3 U e2 L J h6 h5 h7=>?_) (λU L=>?_) #[G,F,rfl]
  .obtain⟨G,F,rfl⟩:=L;let h3:((v++[p]).map (·.1)).Nodup:=by let:=hp.2.1;rw[<-e2,show v++p::B=(v++[p])++B by simp,map_append]at this;exact(qw.mp this).1
   let M:=QK (c:=c) h3;cases O:decide ([p.1]=[c])
   .rw[qZ (by simpa using of_decide_eq_false O)]at M;simp! [iS,dU,length_cons,length_nil,O];show J _ #[_,_,by rw[M]]
   .rw[qY (by simpa using qS O)]at M;simp! [iS,dU,length_cons,length_nil,O];show J _ #[_,_,by rw[M]]
  .obtain⟨G,F,rfl⟩:=L;let h1:=(KQ hp c).2;simp! [e_C];rw[show fK ps z++one ps c=fK ps (z++[c]) by rw[PP];simp[fK]];show h2 _ #[_,_,_,_,rfl]
 .obtain⟨o3,Y,G,F,rfl⟩:=L;simp! [e_C];show h
def OL(l:List Nat):∃L:List Nat,aY (aC (l.map sg))=L.map sg/\L.Nodup/\(∀c,c∈L↔c∈l):=by
 let G:(aC (l.map sg)).Nodup:=Gd _;let M:∀d,d∈aC (l.map sg)↔d∈l.map sg:=λd=>zaD;let F:=CS (aC (l.map sg));let B:∀d∈aY (aC (l.map sg)),∃c,d=sg c:=λd v=>by let#[c,_,rfl]:=qJ.mp ((M d).mp (F.mem_iff.mp v));show#[c,rfl]
 have ex:∀(m:List D),(∀d∈m,∃c,d=sg c)->∃L:List Nat,m=L.map sg:=λm=>by
  induction m with
  |nil=>show λ_=>#[[],rfl]
  |cons d m O=>intro h;let#[c,rfl]:=h d (by simp);let#[L,rfl]:=O λd v=>h d (by simp[v]);show#[c::L,rfl]
 let#[L,J]:=ex _ B;show#[L,J,?_,λc=>?_]
 .let:=F.nodup_iff.mpr G;rw[J]at this;show(pairwise_map.mp this).imp λ{a b} h e=>h (by rw[e])
 .have h1:=(F.mem_iff (a:=sg c)).trans (M (sg c));rw[J]at h1;constructor
  .intro z;let#[d,v,e]:=qJ.mp (h1.mp (qJ.mpr #[c,z,rfl]));let:d=c:=by simpa[sg] using e
   show this▸v
  .intro z;let#[d,v,e]:=qJ.mp (h1.mpr (qJ.mpr #[c,z,rfl]));let:d=c:=by simpa[sg] using e
   show this▸v
def SQ{a s:Int}{z:List Nat}(ha:0<=a)(hs:1<=s)(B:s<=2147483629)(hc:0<z.length)(hc4:z.length<=4)(k2:z.Pairwise (·<·))
  (h:∀(ps:List Pr) a' s',cA ps->0<=a'->1<=s'->s'<=2147483629->P (.sh (.tup (ps.map dU))) [aZ a' s',.sh (.str z),.sh (.int 4)]):oI [aZ a s,.sh (.str z),.sh (.int 4)] P PX:=by
 show CQ rfl rfl ?_;simp! [aZ];show MK ha hs B ⋯ ⋯ λCv a1 s1 h2 _ _ ha1 hm h6=>?_;let e2:(z++Cv).length<=6:=by rw[qq,h2];show z.length+2<=6;lia
 let e3:0<(z++Cv).length:=by rw[qq];lia
 obtain⟨Y,eL,hL,h9⟩:=OL (z++Cv);let hL6:Y.length<=6:=le_trans (Hz _ (z++Cv) hL λx hx=>(h9 x).mp hx) e2;let hLc:z.length<=Y.length:=Hz z Y (k2.imp λ{a b} h e=>by lia) λx hx=>(h9 x).mpr (qj _ hx);let e5:gL [.str (z++Cv)]=some (.set (aC ((z++Cv).map sg))):=zir ∅;let e6:bO (aC ((z++Cv).map sg))=some (.lst ((Y.map sg).map .sh)):=by
  have hl:=HD ((z++Cv).map sg);rw[qo]at hl;rw[<-eL];show LL ?_ ∅;let h7:∀(m:List D),(∀d∈m,∃c,d=sg c)->(bT m).isSome=true:=λm=>by
   induction m with
   |nil=>show λ_=>rfl
   |cons d m ih=>intro h;let#[c,rfl]:=h d (by simp);show((bT m).map ([c]::·)).isSome=true;rw[isSome_map];show ih λd hd=>h d (by simp[hd])
  show h7 _ λd hd=>by let#[c,_,rfl]:=qJ.mp (zaD.mp hd);show#[c,rfl]
 simp! [aZ,e5,e6];show Ct ha1 hm h6 ∅ ∅ λn a2 s2 hn hn2 ha2 B h5=>?_;simp! [aZ];show#[by simp only[cO];lia,?_];show HN (λk U=>∃(a s:Int)(L:List Nat)(A:List Pr)(o6 o7:Option S),0<=a/\1<=s/\s<=2147483629/\A.length=k/\L.length+k=Y.length/\(A.map (·.1)++L).Nodup/\(∀p∈A,0<p.2.length/\p.2.length<=4)/\U=[some (aZ a s),some (.sh (.str z)),some (.sh (.int 4)),some (.sh (.str (z++Cv))),some (.lst ((L.map sg).map .sh)),some (.lst ((A.map dU).map .sh)),o6,o7]) _ (λk x hk D2 U hI r2 hct hrt hbk=>?_) (λU hI=>?_) #[a2,s2,Y,[],none,none,ha2,B,h5,rfl,rfl,↑hL,by simp,rfl]
 .obtain⟨a,s,L,A,o6,o7,ha,hs,B,hA,hLl,G,O,rfl⟩:=hI;let r3:=(qg.mp hk).1;rw[EO]at r3;simp! [aZ,mF,length_map];show Ct ha hs B ∅ ∅ λr a3 s3 hr r1 ha3 hb h4=>?_;let#[c,hcm,M,_]:=Gr (l:=L) hr r1;simp! [aZ,length_map];show HW hr (by simp only[qo,cO];lia) (Jg (d:=sg c) (by rw[qE,M];rfl)) ?_;let e1:((L.map sg).map S.sh).eraseIdx r.toNat=((L.eraseIdx r.toNat).map sg).map S.sh:=by rw[Fs,Fs]
  rw[e1];simp! [aZ,length_map];show Ct ha3 hb h4 ∅ ∅ λr4 a4 s4 hq h8 ha4 hi h3=>?_;let#[d,hdm,_,ed]:=Gr (l:=z++Cv) hq h8;simp! [aZ,ed];show Ma ha4 hi h3 ⋯ ⋯ e3 ∅ λv a5 s5 hv hvm k3 e4 h1=>?_;let hv3:v.length<=3:=hv;simp! [aZ,sg,length_map,length_cons,length_nil];let J:r.toNat<L.length:=∅
  let k1:L[r.toNat]=c:=by rw[qh J]at M;show qf M
  let hl:(L.eraseIdx r.toNat).length=L.length-1:=List.length_eraseIdx_of_lt J;let F:(A.map (·.1)++[c]++L.eraseIdx r.toNat).Perm (A.map (·.1)++L):=by rw[qp];show List.Perm.append_left _ ?_;let:=Jh L r.toNat J;rw[k1]at this;show this
  rw[show((A.map dU).map S.sh)++[S.sh (.tup [.str [c],.str (d::v)])]=((A++[(c,d::v)]).map dU).map S.sh by simp[dU]];show#[by simp only[cO];lia,r2 _ #[a5,s5,L.eraseIdx r.toNat,A++[(c,d::v)],_,_,k3,e4,h1,by simp[hA],∅,?_,λp hp=>?_,rfl]]
  .rw[map_append];show F.nodup_iff.mpr G
  .rcases qx.mp hp with q|q
   .show O p q
   .rw[qu.mp q];show#[Nat.succ_pos _,by show v.length+1<=4;lia]
 .obtain⟨a,s,L,A,o6,o7,ha,hs,B,hA,hLl,G,O,rfl⟩:=hI;rw[EO]at hA;simp! [aZ,zat];show h A a s #[∅,(qw.mp G).1,O] ha hs B
@[inline]def Wk(R:Int->Nat->Int->Prop):List Nat->Int->Int->Prop
 |[],x,y=>x=y
 |c::w,x,y=>∃z,R x c z/\Wk R w z y
theorem zdK{R:Int->Nat->Int->Prop}{c:Nat}:∀{w:List Nat}{x y:Int},Wk R (w++[c]) x y↔∃z,Wk R w x z/\R z c y
 |[],x,y=>by show(∃z,R x c z/\z=y)↔∃z,x=z/\R z c y;show#[λ⟨z,h,e⟩=>#[x,rfl,e▸h],λ⟨z,e,h⟩=>#[y,e▸h,rfl]]
 |d::w,x,y=>by
  show(∃z,R x d z/\Wk R (w++[c]) z y)↔∃z,(∃v,R x d v/\Wk R w v z)/\R z c y;constructor
  .rintro⟨z,h,k⟩;let#[v,F,B]:=zdK.mp k;show#[v,#[z,h,F],B]
  .rintro⟨z,⟨v,h,k⟩,B⟩;show#[v,h,zdK.mpr #[z,k,B]]
def kL(sts:List St)(a:Int)(c:Nat)(b:Int):Prop:=(a,c,b)∈sts
def Pp{sts:List St}{c:Nat}{ns:List Int}{i:Int}:i∈fW sts c ns↔∃z∈ns,kL sts z c i:=by
 unfold fW kL;simp only[qJ,mem_filter,and_eq_true,qR];constructor
 .rintro⟨⟨a,d,b⟩,⟨h1,h2,B⟩,v⟩;cases h2;cases v;show#[a,B,h1]
 .rintro⟨z,h1,h2⟩;show#[(z,c,i),#[h2,rfl,h1],rfl]
def LG{l:List Int}{i:Int}:D.int i∈l.map D.int↔i∈l:=#[λh=>by let#[j,v,e]:=qJ.mp h;cases e;show v,λh=>qJ.mpr #[i,h,rfl]]
def ND{sts:List St}{c:Nat}{ns:List Int}{i:Int}:i∈nx sts c ns↔∃z∈ns,kL sts z c i:=by rw[<-LG,EC,(CS _).mem_iff,zaD,LG,Pp]
def Ll{sts:List St}{y:Int}:∀{w:List Nat}{ns:List Int},y∈w.foldl (λns c=>nx sts c ns) ns↔∃x∈ns,Wk (kL sts) w x y
 |[],ns=>#[λh=>#[y,h,rfl],λ⟨x,h,e⟩=>e▸h]
 |c::w,ns=>by rw[foldl_cons,Ll];simp only[ND];show#[λ⟨x,⟨z,h1,h2⟩,v⟩=>#[z,h1,x,h2,v],λ⟨z,h1,x,h2,v⟩=>#[x,#[z,h1,h2],v]]
theorem zbz{sts:List St}{w:List Nat}{x y:Int}:y∈aO sts w x↔Wk (kL sts) w x y:=by unfold aO;rw[Ll];show#[λ⟨z,h,k⟩=>by rw[qu.mp h]at k;show k,λh=>#[x,qu.mpr rfl,h]]
def MV{sts:List St}{c:Nat}{ns:List Int}:(nx sts c ns).Pairwise (·<·):=by
 let hi:∀d∈aC ((fW sts c ns).map D.int),gP d:=λd v=>by let#[i,rfl]:=FX v;trivial
 let h1:=Ge Hl _ hi;let h2:(aY (aC ((fW sts c ns).map D.int))).Nodup:=(CS _).nodup_iff.mpr (Gd _);rw[<-EC]at h1 h2;rw[pairwise_map]at h1;show(h1.and (pairwise_map.mp h2)).imp λ{a b} h=>?_;let e:=h.1;rw[Ky,qR]at e;let:a≠b:=λz=>h.2 (by rw[z]);lia
theorem zce{sts:List St}{w:List Nat}{x:Int}:(aO sts w x).Pairwise (·<·):=by
 rcases List.eq_nil_or_concat w with rfl|⟨v,c,rfl⟩
 .show List.pairwise_singleton ..
 .rw[List.concat_eq_append,Hs];show MV
def Hb{m:Int}{sts:List St}(hs:∀t∈sts,0<=t.2.2/\t.2.2<m){w:List Nat}{x y:Int}(h:Wk (kL sts) w x y)(B:0<=x/\x<m):0<=y/\y<m:=by
 rcases List.eq_nil_or_concat w with rfl|⟨v,c,rfl⟩
 .let:x=y:=h;lia
 .rw[List.concat_eq_append,zdK]at h;let#[z,_,h]:=h;show hs _ h
def Ja{d:D}(h:aI d d=false)(v:eF d<=30):lL d d=some false:=by unfold lL jM;rw[qZ (by rw[h,qQ ∅];decide)];simp
def Mp{l:List D}(h:∀d∈l,aI d d=false):bC l l=false:=by
 induction l with
 |nil=>rfl
 |cons d l v=>show(aI d d||bC l l)=false;rw[h d qm,v λe z=>h e (qk _ z)];rfl
def Hm{l:List D}{n:Nat}(h:∀d∈l,eF d<=n):bM l<=n:=by
 induction l with
 |nil=>show zero_le _
 |cons d l v=>show max (eF d) (bM l)<=n;let h1:=h d qm;let h2:=v λe z=>h e (qk _ z);lia
def Sm(ps:List (Int×Int)):aI (.tup (ps.map pD)) (.tup (ps.map pD))=false/\eF (.tup (ps.map pD))<=2:=by
 show#[Mp λd v=>?_,?_]
 .obtain⟨p,_,rfl⟩:=qJ.mp v;rfl
 .show bM (ps.map pD)+1<=2;let:=Hm (l:=ps.map pD) (n:=1) λd v=>by let#[p,_,rfl]:=qJ.mp v;exact q5 _
  lia
def HH(m:Int)(sts:List St):aI (dI m sts) (dI m sts)=false/\eF (dI m sts)<=3:=by
 let h1:aI (.tup (sts.map aT)) (.tup (sts.map aT))=false:=Mp λd v=>by let#[p,_,rfl]:=qJ.mp v;rfl
 let h2:bM (sts.map aT)<=1:=Hm λd v=>by let#[p,_,rfl]:=qJ.mp v;show q5 _
 show#[?_,?_]
 .show(aI (.int m) (.int m)||(aI (.tup (sts.map aT)) (.tup (sts.map aT))||bC [] []))=false;rw[h1];rfl
 .show max 0 (max (bM (sts.map aT)+1) 0)+1<=3;lia
def cR(ps:List Pr)(c:Nat):Bool:=decide (c∈ps.map (·.1))
def more(m:Nat)(sts:List St)(ps:List Pr):List St:=ps.flatMap λp=>(cY m sts p.2).map λq=>(q.1,p.1,q.2)
def raw(m:Nat)(sts:List St)(ps:List Pr):List St:=sts.filter (λt=>!cR ps t.2.1)++more m sts ps
def wV:D->St
 |.tup [.int x,.str [c],.int y]=>(x,c,y)
 |_=>(0,0,0)
def gU(m:Nat)(sts:List St)(ps:List Pr):List St:=(aY ((raw m sts ps).map aT)).map wV
def Lb(l:List St):(l.map aT).map wV=l:=by rw[qD];show(map_congr_left λ_ _=>rfl).trans (map_id l)
def Hy(m:Nat)(sts:List St)(ps:List Pr):(gU m sts ps).Perm (raw m sts ps):=by let:=(CS ((raw m sts ps).map aT)).map wV;rwa[Lb]at this
def JO(m:Nat)(sts:List St)(ps:List Pr):(gU m sts ps).map aT=aY ((raw m sts ps).map aT):=by unfold gU;rw[qD];show(map_congr_left λd v=>?_).trans (map_id _);let#[t,_,rfl]:=qJ.mp ((CS _).mem_iff.mp v);rfl
def Lf{L:List St}(h:L.length<301):bO (L.map aT)=some (.lst ((aY (L.map aT)).map .sh)):=by unfold bO;rw[qY (.inr #[by rw[qo];show h,.inr #[sP,λz=>(nomatch z),λd v=>by let#[t,_,rfl]:=qJ.mp v;show JI t]])]
def RB{m:Nat}{sts:List St}{w:List Nat}{x:Nat}(hs:∀t∈sts,0<=t.2.2/\t.2.2<(m:Int))(z:x<m):(aO sts w x).length<=m:=by
 let:=Hz (aO sts w x) ((List.range m).map λ(k:Nat)=>(k:Int)) (zce.imp λ{a b} h=>by lia) λy v=>by let:=Hb hs (zbz.mp v) #[∅,∅];show qJ.mpr #[y.toNat,qI.mpr ∅,∅]
 rwa[qo,qC]at this
def KW{m:Nat}{sts:List St}{w:List Nat}(hs:∀t∈sts,0<=t.2.2/\t.2.2<(m:Int)):(cY m sts w).length<=m*m:=by
 unfold cY;rw[List.length_flatMap];let:∀l:List Nat,(∀x∈l,x<m)->(l.map λ(x:Nat)=>((aO sts w (x:Int)).map λy=>((x:Int),y)).length).sum<=l.length*m:=λl=>by
  induction l with
  |nil=>show λ_=>zero_le _
  |cons x l v=>intro h;rw[qy,List.sum_cons,qt,succ_mul,qo];let h1:=RB (w:=w) hs (h x qm);let h2:=v λy z=>h y (qk _ z);lia
 let:=this (List.range m) λx B=>qI.mp B;rwa[qC]at this
def IX{m:Nat}{sts:List St}(hs:∀t∈sts,0<=t.2.2/\t.2.2<(m:Int))(v:m<=8):∀ps:List Pr,(more m sts ps).length<=ps.length*64
 |[]=>zero_le _
 |p::ps=>by unfold more;rw[flatMap_cons,qq,qo,qt,succ_mul];let h1:=KW (w:=p.2) hs;let h2:=IX hs v ps;let z:m*m<=8*8:=mul_le_mul v v;unfold more at h2;lia
def KG{sts:List St}{ps:List Pr}:(sts.filter λt=>!cR ps t.2.1).length<=sts.length:=List.length_filter_le ..
def Ig{m:Nat}{sts:List St}{ps:List Pr}(hs:∀t∈sts,0<=t.2.2/\t.2.2<(m:Int))(z:m<=8)(B:sts.length<=24)(v:cA ps):(raw m sts ps).length<=280:=by unfold raw;rw[qq];let h1:=KG (sts:=sts) (ps:=ps);let h2:=IX hs z ps;let F:=v.1;lia
def Kf{R:Int->Nat->Int->Prop}{v:List Nat}:∀{u:List Nat}{x z:Int},Wk R (u++v) x z↔∃y,Wk R u x y/\Wk R v y z
 |[],x,z=>#[λh=>#[x,rfl,h],λ⟨y,e,h⟩=>by cases e;show h]
 |c::u,x,z=>by show(∃a,R x c a/\Wk R (u++v) a z)↔∃y,(∃a,R x c a/\Wk R u a y)/\Wk R v y z;simp only[Kf (u:=u)];show#[λ⟨a,h,y,h1,h2⟩=>#[y,#[a,h,h1],h2],λ⟨y,⟨a,h,h1⟩,h2⟩=>#[a,h,y,h1,h2]]
def Qv{m:Nat}{sts:List St}{w:List Nat}{x y:Int}:(x,y)∈cY m sts w↔(0<=x/\x<m)/\Wk (kL sts) w x y:=by
 unfold cY;rw[mem_flatMap];constructor
 .rintro⟨k,B,h⟩;let#[z,v,e]:=qJ.mp h;cases e;let:=qI.mp B;show#[#[∅,∅],zbz.mp v]
 .rintro⟨h1,h2⟩;let e:((x.toNat:Nat):Int)=x:=by lia
  show#[x.toNat,qI.mpr ∅,qJ.mpr #[y,by rw[e];show zbz.mpr h2,by rw[e]]]
def HU{ps:List Pr}(h:(ps.map (·.1)).Nodup){p:Pr}(v:p∈ps):one ps p.1=p.2:=by
 unfold one;let B:(ps.find? λq=>q.1==p.1).isSome=true:=List.find?_isSome.mpr #[p,v,by simp];let#[q,e]:=isSome_iff_exists.mp B;let h1:=List.mem_of_find?_eq_some e;let h2:=List.find?_some e;let h2:q.1=p.1:=↑h2
 rw[e];let#[L,J,rfl]:=append_of_mem v;rw[map_append,qy]at h;let#[_,G,F]:=qw.mp h;rcases qx.mp h1 with z|z
 .show absurd h2 (F _ (qJ.mpr #[q,z,rfl]) _ qm)
 .rcases qA.mp z with rfl|z
  .rfl
  .show absurd (h2▸qJ.mpr #[q,z,rfl]) (qK.mp G).1
def PF{ps:List Pr}{c:Nat}(h:c∉ps.map (·.1)):one ps c=[c]:=by
 unfold one;rw[List.find?_eq_none.mpr λq v=>by intro e;show h (qJ.mpr #[q,v,↑e])]
 rfl
def Iq{m:Nat}{sts:List St}{ps:List Pr}(J:cA ps)(M:∀t∈sts,0<=t.1/\t.1<(m:Int)){x y:Int}{c:Nat}:(x,c,y)∈raw m sts ps↔(0<=x/\x<m)/\Wk (kL sts) (one ps c) x y:=by
 unfold raw more;rw[qx,mem_filter,mem_flatMap];by_cases B:c∈ps.map (·.1)
 .have L:cR ps c=true:=qP B;let#[p,v,rfl]:=qJ.mp B;rw[HU J.2.1 v,<-Qv];constructor
  .rintro(⟨_,h⟩|⟨q,G,h⟩)
   .simp only[L]at h;show absurd h ⋯
   .obtain⟨z,F,e⟩:=qJ.mp h;injection e with e1 e2
    injection e2 with e2 e3
    let h1:=HU J.2.1 G;rw[e2,HU J.2.1 v]at h1;rw[h1,<-e1,<-e3];show F
  .intro h;show .inr #[p,v,qJ.mpr #[_,h,rfl]]
 .have L:cR ps c=false:=qQ B;rw[PF B];constructor
  .rintro(⟨h,_⟩|⟨q,G,h⟩)
   .show#[M _ h,y,h,rfl]
   .obtain⟨z,F,e⟩:=qJ.mp h;injection e with e1 e2
    injection e2 with e2 e3
    show absurd (qJ.mpr #[q,G,e2]) B
  .rintro⟨_,z,F,e⟩;let e:z=y:=e;subst e;show .inl #[F,by simp only[L];rfl]
def NJ{m:Nat}{sts:List St}{ps:List Pr}(v:cA ps)(z:∀t∈sts,0<=t.1/\t.1<(m:Int))(hs:∀t∈sts,0<=t.2.2/\t.2.2<(m:Int)):∀t∈gU m sts ps,0<=t.2.2/\t.2.2<(m:Int):=λ⟨x,c,y⟩ h=>by let#[h1,h2]:=(Iq v z).mp ((Hy m sts ps).mem_iff.mp h);show Hb hs h2 h1
def HV{m:Nat}{sts:List St}{ps:List Pr}(v:cA ps)(B:∀t∈sts,0<=t.1/\t.1<(m:Int))(hs:∀t∈sts,0<=t.2.2/\t.2.2<(m:Int)){y:Int}:∀{w:List Nat}{x:Int},0<=x/\x<m->(Wk (kL (gU m sts ps)) w x y↔Wk (kL sts) (fK ps w) x y)
 |[],x,_=>Iff.rfl
 |c::w,x,hx=>by
  show(∃z,(x,c,z)∈gU m sts ps/\Wk (kL (gU m sts ps)) w z y)↔_;rw[show fK ps (c::w)=one ps c++fK ps w from flatMap_cons,Kf];constructor
  .rintro⟨z,h1,h2⟩;let#[_,F]:=(Iq v B).mp ((Hy m sts ps).mem_iff.mp h1);show#[z,F,(HV v B hs (Hb hs F hx)).mp h2]
  .rintro⟨z,h1,h2⟩;show#[z,(Hy m sts ps).mem_iff.mpr ((Iq v B).mpr #[hx,h1]),(HV v B hs (Hb hs h1 hx)).mpr h2]
def OY{m:Nat}{sts:List St}{ps:List Pr}{w:List Nat}(z:cA ps)(B:∀t∈sts,0<=t.1/\t.1<(m:Int))(hs:∀t∈sts,0<=t.2.2/\t.2.2<(m:Int)):cQ m (gU m sts ps) w=cQ m sts (fK ps w):=by unfold cQ cY;rw[flatMap_def,flatMap_def];show congrArg (λl=>(List.flatten l).map pD) (map_congr_left λx v=>?_);let v:=qI.mp v;show congrArg _ (List.Perm.eq_of_pairwise (le:=(·<·)) (λa b _ _ _ _=>by lia) zce zce ((List.perm_ext_iff_of_nodup (zce.imp λ{a b} h=>by lia) (zce.imp λ{a b} h=>by lia)).mpr λi=>?_));rw[zbz,zbz,HV z B hs #[∅,∅]]
def PB{m:Nat}{sts:List St}(h:(sts.map aT).Pairwise (dG · ·=true)):gU m sts []=sts:=by unfold gU raw more;rw[show(sts.filter λt=>!cR [] t.2.1)=sts from List.filter_eq_self.mpr λ_ _=>rfl,List.flatMap_nil,qz,GC (Hg sP) (λd v=>by let#[t,_,rfl]:=qJ.mp v;show JI t) (.refl _) h,Lb]
def oK(p:Pr)(q:Int×Int):St:=(q.1,p.1,q.2)
def Sl{m:Nat}{sts:List St}{ps:List Pr}{p:Pr}:more m sts (ps++[p])=more m sts ps++(cY m sts p.2).map (oK p):=by unfold more;rw[flatMap_append];simp[oK]
def JW{sts:List St}{ps:List Pr}:(sts.filterMap λt=>if(!cR ps t.2.1)=true then some (S.sh (aT t))else none)=((sts.filter λt=>!cR ps t.2.1).map aT).map S.sh:=by rw[JJ (λt:St=>!cR ps t.2.1) (λt=>S.sh (aT t)),qD];rfl
def Ko{ps:List Pr}{c:Nat}{vs:List D}:lU (.str [c]) (.dct false (ps.map λp=>D.str [p.1]) vs)=some (cR ps c):=by
 unfold lU cR;dsimp only;rw[qY (show bF false (D.str [c])=true from rfl)];congr 1;rw[decide_eq_decide,qJ,qJ];constructor
 .rintro⟨p,v,e⟩;show#[p,v,↑e]
 .rintro⟨p,v,e⟩;show#[p,v,by rw[e]]
def JV{ps:List Pr}{c:Nat}:lU (.str [c]) (.lst (ps.map λp=>D.str [p.1]))=some (cR ps c):=by
 rw[show(ps.map λp=>D.str [p.1])=(ps.map λp=>[p.1]).map D.str by rw[qD];rfl,QV];unfold cR;congr 1;rw[decide_eq_decide,qJ,qJ];constructor
 .rintro⟨p,v,e⟩;show#[p,v,↑e]
 .rintro⟨p,v,e⟩;show#[p,v,by rw[e]]
def Kb{m:Nat}{sts:List St}{ps v:List Pr}{p:Pr}:(((sts.filter λt=>!cR ps t.2.1)++more m sts v).map aT).map S.sh++((cY m sts p.2).map λq=>S.sh (.tup [.int q.1,.str [p.1],.int q.2]))=(((sts.filter λt=>!cR ps t.2.1)++more m sts (v++[p])).map aT).map S.sh:=by rw[Sl,<-qp,map_append,map_append];congr 1;simp[oK,aT]
def KS{m:Nat}{sts:List St}{ps v z:List Pr}{p:Pr}(hs:∀t∈sts,0<=t.2.2/\t.2.2<(m:Int))(B:m<=8)(J:sts.length<=24)(F:cA ps)(e:v++p::z=ps):((sts.filter λt=>!cR ps t.2.1)++more m sts v).length+(cY m sts p.2).length<=600:=by let h1:=KG (sts:=sts) (ps:=ps);let h2:=IX hs B v;let O:=F.1;let M:=KW (w:=p.2) hs;let L:m*m<=8*8:=mul_le_mul B B;let G:=congrArg List.length e;rw[qq,qt]at G;rw[qq];lia
def LW{m:Nat}{sts:List St}{ps:List Pr}(G:cA ps)(hs:∀t∈sts,0<=t.2.2/\t.2.2<(m:Int))(Y:m<=8)(hl:sts.length<=24)
  (h:P (.sh (dI m (gU m sts ps))) [.sh (.tup (ps.map dU)),.sh (dI m sts)]):vR [.sh (.tup (ps.map dU)),.sh (dI m sts)] P PX:=by
 show CQ rfl rfl ?_;simp! [dI,length_cons,length_nil,GX G,zat];show JF (n:=8) (toD:=aT) sts (λt=>if(!cR ps t.2.1)=true then some (S.sh (aT t))else none) (λt ht l o K L z=>?_) λo=>?_
 .cases q:cR ps t.2.1
  .simp! [dD,jO,aT,Ko,map_some,q,Bool.not_false,oX];show#[by simp only[cO];lia,?_];let:=z (some (.sh (aT t)));simp only[q,Bool.not_false,if_true,Option.toList]at this;show this
  .simp! [dD,vO,aT,Ko,map_some,q,Bool.not_true];let:=z (some (.sh (aT t)));simp only[q,Bool.not_true,false_eq_true,if_false,Option.toList,qz]at this;show this
 .rw[JW];simp! [e_C];refine En (toD:=dU) (λv U=>∃F B,U=[some (.sh (.tup (ps.map dU))),some (.sh (dI m sts)),some (.sh (.int m)),some (.sh (.tup (sts.map aT))),some (.sh (.dct false (ps.map λp=>D.str [p.1]) (ps.map λp=>D.str p.2))),some (.lst ((((sts.filter λt=>!cR ps t.2.1)++more m sts v).map aT).map .sh)),F,B]) ps (λv p O D2 U e M J h3 h1 h4=>?_) (λU M=>?_) #[none,none,by simp[more,dI]]
  .obtain⟨F,B,rfl⟩:=M;let h2:=KS hs Y hl G e;simp! [oY,dU,length_cons,length_nil];show Jc ∅ ∅ (IH hs ∅) ?_;simp! [cQ];refine JD (n:=8) (toD:=pD) (cY m sts p.2) (λq=>S.sh (.tup [.int q.1,.str [p.1],.int q.2])) (λq hq l o o' K L z=>?_) λo o'=>?_
   .simp! [dD,jO,oW,pD,length_cons,length_nil];show#[by simp only[cO];lia,z _ _]
   .simp! [length_map];show#[by simp only[cO];lia,?_];rw[Kb];show J _ #[_,_,rfl]
  .obtain⟨F,B,rfl⟩:=M;let hr:=Ig hs Y hl G;unfold raw at hr;simp! [zat,Lf (show((sts.filter λt=>!cR ps t.2.1)++more m sts ps).length<301 by lia)];rw[show aY (((sts.filter λt=>!cR ps t.2.1)++more m sts ps).map aT)=(gU m sts ps).map aT from(JO ..).symm];show h
def SR{m:Nat}{sts:List St}{ps:List Pr}(F:cA ps)(hs:∀t∈sts,0<=t.2.2/\t.2.2<(m:Int))(Y:m<=8)(hl:sts.length<=24)
  (h:P (.sh (dI m (gU m sts ps))) [.sh (.tup (ps.map dU)),.sh (dI m sts)]):oG [.sh (.tup (ps.map dU)),.sh (dI m sts)] P PX:=by
 show CQ rfl rfl ?_;let h3:=F.1;simp! [e_C];show JD (n:=6) (toD:=dU) ps (λp=>S.sh (.str [p.1])) (λp F l o o' K B v=>?_) λo o'=>?_
 .simp! [dD,jO,mC,dU,length_cons,length_nil];show#[by simp only[cO];lia,v _ _]
 rw[show(ps.map λp=>S.sh (.str [p.1]))=(ps.map λp=>D.str [p.1]).map S.sh by rw[qD];rfl];simp! [zat,dI];show JF (n:=6) (toD:=aT) sts (λt=>if(!cR ps t.2.1)=true then some (S.sh (aT t))else none) (λt ht l o K B v=>?_) λo=>?_
 .cases q:cR ps t.2.1
  .simp! [dD,jO,aT,JV,map_some,q,Bool.not_false,mB];show#[by simp only[cO];lia,?_];let:=v (some (.sh (aT t)));simp only[q,Bool.not_false,if_true,Option.toList]at this;show this
  .simp! [dD,vO,aT,JV,map_some,q,Bool.not_true];let:=v (some (.sh (aT t)));simp only[q,Bool.not_true,false_eq_true,if_false,Option.toList,qz]at this;show this
 .rw[JW];simp! [e_C];refine En (toD:=dU) (λz U=>∃J G,U=[some (.sh (.tup (ps.map dU))),some (.sh (dI m sts)),some (.sh (.lst (ps.map λp=>D.str [p.1]))),some (.lst ((((sts.filter λt=>!cR ps t.2.1)++more m sts z).map aT).map .sh)),J,G]) ps (λz p O D2 U e M L h4 h1 h5=>?_) (λU M=>?_) #[none,none,by simp[more,dI]]
  .obtain⟨J,G,rfl⟩:=M;let h2:=KS hs Y hl F e;simp! [mD,dU,length_cons,length_nil];show Tf ∅ ∅ ?_;simp! [cQ];refine JD (n:=6) (toD:=pD) (cY m sts p.2) (λq=>S.sh (.tup [.int q.1,.str [p.1],.int q.2])) (λq hq l o o' K B v=>?_) λo o'=>?_
   .simp! [dD,jO,mA,pD,length_cons,length_nil];show#[by simp only[cO];lia,v _ _]
   .simp! [length_map];show#[by simp only[cO];lia,?_];rw[Kb];show L _ #[_,_,rfl]
  .obtain⟨J,G,rfl⟩:=M;let hr:=Ig hs Y hl F;unfold raw at hr;simp! [dI,zat,Lf (show((sts.filter λt=>!cR ps t.2.1)++more m sts ps).length<301 by lia)];rw[show aY (((sts.filter λt=>!cR ps t.2.1)++more m sts ps).map aT)=(gU m sts ps).map aT from(JO ..).symm];show h
def DQ:∀ns:List Int,ns.length<=63->kD [.sh (.lst (ns.map .int))] (λs _=>s=.sh (.bl true)) λ_ _=>False:=by
 intro ns hn;show CQ rfl rfl ?_;let hc:=Lj (ns.map D.int) (some 2) (some 8);rw[qo]at hc;simp! [zat];show#[by simp only[cO];lia,?_];show HN (λk U=>∃(o1 o2 o3 o4 o5 o6 o7:Option S),U=[some (.sh (.lst (ns.map .int))),o1,o2,o3,o4,o5,o6,o7]) _ (λk x hx D2 U hI h9 hct r2 hbk=>?_) (λU hI=>?_) #[none,none,none,none,none,none,none,rfl]
 .obtain⟨o1,o2,o3,o4,o5,o6,o7,rfl⟩:=hI;let h3:x=.int (k:Int):=by let#[h1,h2]:=qg.mp hx;rw[<-h2];simp[fromTo]
  subst h3;simp! [lZ];show Qk ∅ λa s ha hs G=>?_;simp! [aZ];show Ct ha hs G ⋯ ⋯ λr a1 s1 hr r3 e4 h7 O=>?_;simp! [aZ];show MK e4 h7 O ∅ ∅ λcol a2 s2 hl h4 hle e3 G M=>?_;simp! [aZ];show SQ e3 G M ∅ ∅ h4 λps a3 s3 F e2 h6 L=>?_;simp! [aZ];show Ma e2 h6 L ⋯ ⋯ ∅ ∅ λw a4 s4 hw hd e1 h5 J=>?_;let hm:w.length<=6:=hw;simp! [aZ];show SW F ∅ ?_;let hi:(dH (fK ps w) none (some 12)).length<=24:=le_trans (Lj ..) (le_trans (Ie F w) ∅);simp! [aZ];show SM e1 h5 J ⋯ ⋯ ⋯ ⋯ ∅ ∅ ∅ λmany sts a5 s5 k3 k2 hq B h8 k1 ha5 r1 hk=>?_;obtain⟨m,rfl⟩:∃m:Nat,many=m:=#[many.toNat,∅]
  let hb:∀t∈sts,0<=t.1/\t.1<(m:Int):=λt ht=>(B t ht).1;let v:∀t∈sts,0<=t.2.2/\t.2.2<(m:Int):=λt ht=>(B t ht).2.1;let hr:=Ig v ∅ ∅ F;let hgl:=(Hy m sts ps).length_eq;simp! [aZ];show LW F v ∅ ∅ ?_;simp! [aZ];show SR F v ∅ ∅ ?_;simp! [Ja (HH m (gU m sts ps)).1 (le_trans (HH m (gU m sts ps)).2 ⋯)];show Jc ∅ ∅ (IH (NJ F hb v) ∅) ?_;simp! [e_C];show SZ F ∅ ?_;simp! [e_C];show Jc ∅ ∅ (IH v ∅) ?_;rw[OY F hb v];let Y:=Sm (cY m sts (fK ps w));simp! [cQ,Ja Y.1 (le_trans Y.2 ⋯)];show LW (ps:=[]) #[⋯,List.Pairwise.nil,λ_ z=>nomatch z] v ∅ ∅ ?_;rw[PB h8];simp! [Ja (HH m sts).1 (le_trans (HH m sts).2 ⋯)];show h9 _ #[_,_,_,_,_,_,_,rfl]
 .obtain⟨o1,o2,o3,o4,o5,o6,o7,rfl⟩:=hI;simp! [e_C]
end pu
end Law
section
set_option maxHeartbeats 4000000
namespace Law
open PySem PySem.Spec PyProof.Rows L2 FL
local macro_rules
 |`(tactic|trivial)=>`(tactic|first|exact Or.inl rfl|exact Or.inr rfl)
@[inline]def top(i:Nat):Stmt:=PySem.Challenge.pw_walktold_k84_gathered.main.body.getD i (.Pass #[0,0,0,0])
@[reducible]def xT:Stmt:=top 1
def cg:List Str:=["chart","word","many","streets","goes","begin","colour","end","pairs","x","front"]
abbrev yF:List Str:=["chart","word"]
def Ba:aM cg yF (aA xT):=De
@[reducible]def xS:Stmt:=top 3
def cf:List Str:=["pairs","word","words"]
abbrev yE:List Str:=["pairs","word"]
def GL:aM cf yE (aA xS):=De
@[reducible]def xR:Stmt:=top 4
def cc:List Str:=["pairs","chart","many","streets","words","told","colour","word"]
abbrev yD:List Str:=["pairs","chart"]
def Cz:aM cc yD (aA xR):=De
@[reducible]def xQ:Stmt:=top 6
def cb:List Str:=["_law_script","_law_k","_law_cell","_law_seed"]
abbrev yC:List Str:=["_law_script","_law_k"]
def DM:aM cb yC (aA xQ):=De
@[reducible]def xP:Stmt:=top 7
def bz:List Str:=["_law_box_here","_law_many","_law_digit","_law_one"]
abbrev yB:List Str:=["_law_box_here","_law_many"]
def Fw:aM bz yB (aA xP):=De
@[reducible]def xO:Stmt:=top 8
def bx:List Str:=["_law_box_here","_law_many","_law_left"]
abbrev yA:List Str:=["_law_box_here","_law_many"]
def GK:aM bx yA (aA xO):=De
@[reducible]def xN:Stmt:=top 9
def bw:List Str:=["_law_box_here","_law_colours_here","_law_most","_law_many"]
abbrev xZ:List Str:=["_law_box_here","_law_colours_here","_law_most"]
def GJ:aM bw xZ (aA xN):=De
@[reducible]def xM:Stmt:=top 10
def bu:List Str:=["_law_box_here","_law_colours_here","_law_word_here","_law_rooms","_law_streets","_law_many","_law_found","_law_turn","_law_x","_law_colour","_law_y","_law_k"]
abbrev xY:List Str:=["_law_box_here","_law_colours_here","_law_word_here","_law_rooms","_law_streets"]
def By:aM bu xY (aA xM):=De
@[reducible]def xK:Stmt:=top 11
def br:List Str:=["_law_chart_here","_law_word_here","_law_x","_law_here","_law_colour"]
abbrev xX:List Str:=["_law_chart_here","_law_word_here","_law_x"]
def Ez:aM br xX (aA xK):=De
@[reducible]def xJ:Stmt:=top 12
def bq:List Str:=["_law_chart_here","_law_word_here","_law_found","_law_x"]
abbrev xW:List Str:=["_law_chart_here","_law_word_here"]
def Fv:aM bq xW (aA xJ):=De
@[reducible]def pR:Stmt:=top 13
def yJ:List Str:=["_law_box_here","_law_colours_here","_law_most","_law_wider","_law_left","_law_found","_law_k","_law_colour"]
abbrev rE:List Str:=["_law_box_here","_law_colours_here","_law_most"]
def BE:aM yJ rE (aA pR):=De
@[reducible]def pQ:Stmt:=top 14
def yI:List Str:=["_law_pairs_here","_law_word_here","_law_found","_law_colour","_law_more","_law_one","_law_other"]
abbrev rD:List Str:=["_law_pairs_here","_law_word_here"]
def AZ:aM yI rD (aA pQ):=De
@[reducible]def pP:Stmt:=top 15
def yH:List Str:=["_law_pairs_here","_law_chart_here","_law_own","_law_found","_law_colour","_law_word_here"]
abbrev rC:List Str:=["_law_pairs_here","_law_chart_here"]
def Cg:aM yH rC (aA pP):=De
@[reducible]def pO:Stmt:=top 16
def yG:List Str:=["_law_script","_law_k","_law_box_here","_law_colours_here","_law_pairs_here","_law_word_here","_law_chart_here","_law_found"]
abbrev rB:List Str:=["_law_script"]
def AY:aM yG rB (aA pO):=De
structure Txt(K:W.Frag)(mg:Str->Option Value)(af:Nat->Addr):Prop where
 t_0:Tx K mg (af 0) "table" xT yF
 t_1:Tx K mg (af 1) "word_spread" xS yE
 t_2:Tx K mg (af 2) "gathered" xR yD
 t_3:Tx K mg (af 3) "_law_box" xQ yC
 t_4:Tx K mg (af 4) "_law_take" xP yB
 t_5:Tx K mg (af 5) "_law_colours" xO yA
 t_6:Tx K mg (af 6) "_law_word" xN xZ
 t_7:Tx K mg (af 7) "_law_chart" xM xY
 t_8:Tx K mg (af 8) "_law_ends" xK xX
 t_9:Tx K mg (af 9) "_law_table" xJ xW
 t_10:Tx K mg (af 10) "_law_pairs" pR rE
 t_11:Tx K mg (af 11) "_law_spread" pQ rD
 t_12:Tx K mg (af 12) "_law_gathered" pP rC
 t_13:Tx K mg (af 13) "law" pO rB
 n_dict:mg "dict"=none
 n_int:mg "int"=none
 n_len:mg "len"=none
 n_list:mg "list"=none
 n_range:mg "range"=none
 n_set:mg "set"=none
 n_sorted:mg "sorted"=none
 n_tuple:mg "tuple"=none
section
variable{P:Program}{w:World}{K:W.Frag}{mg:Str->Option Value}{base:Heap}{af:Nat->Addr}
def Fy(T:Txt K mg af):jE P w K mg base af 1 0 yF (eS K sU 2):=Dh T.t_0 Ba λ_ _ _ _ _ _ v=>Al (Az (fw 0) (El (by rfl) (Bw (Ai 2 Ba.nd) (Bw (Ai 3 Ba.nd) Et))))
  (Al (Az Qt (Ai 4 Ba.nd))
  (Al (NG (CT (by rfl) (BM (fw 3)) (El (by rfl) (Bw (Ai 5 Ba.nd) (Bw (Ai 6 Ba.nd) (Bw (Ai 7 Ba.nd) Et)))) (AD (Ew (RM (j:=4) (GZ v) (fw 4) (Dk (Aa (fw 5) (Aa (fw 6) Ac))) (fw 7) #[rfl,rfl,rfl,rfl])))))
  (Al (Az (Eo Ac) (Ai 8 Ba.nd))
  (Al (CT (by rfl) (ER (by rfl) T.n_range (fw 2)) (Ai 9 Ba.nd) (Al (Az (Dl (Eo (Aa (fw 9) Ac))) (Ai 10 Ba.nd))
  (Al (CT (by rfl) (BM (fw 1)) (Ai 6 Ba.nd) (AD (Az (Dl (Fp v (by rfl) T.n_sorted Ft (Aa (NT (vars:=["room","end"]) rfl (GZ v) (Rw v) (by rfl) (Au (by kernel_rfl)) rfl (BM (fw 10)) (λ_ _ _=>BV 12) (λ_ _ _=>Es) (λ_ _ _=>BM (Kp (GZ v) (fw 4) (Dk (Aa (fw 12) (Aa (fw 6) Ac))) (Eo Ac) #[rfl,rfl,rfl,rfl])) (λ_ _ _=>BV 13) (λ_ _ _=>Es) (λ_ _ _=>fw 13)) Ac))) (Ai 10 Ba.nd))))
  (AD (Ew (Ho (j:=8) (fw 8) (Eu (vars:=["y"]) rfl (by rfl) (Au (by kernel_rfl)) rfl (BM (fw 10)) (λ_ _ _=>BV 12) (λ_ _ _=>Es) (λ_ _ _=>Dk (Aa (fw 9) (Aa (fw 12) Ac))))))))))
  (AD (BU (Gf (by rfl) T.n_tuple FY (Aa (fw 8) Ac))))))))
def Jx(T:Txt K mg af):jE P w K mg base af 1 1 yE (eS K wQ 2):=Dh T.t_1 GL λ_ _ _ _ _ _ v=>Al (Az (Dl (Lq v (by rfl) T.n_dict Kz (Aa (fw 0) Ac))) (Ai 2 GL.nd))
  (AD (BU (Il (Fj (by rfl) ⋯) (Aa (Eu (vars:=["colour"]) rfl (by rfl) (Au (by kernel_rfl)) rfl (BM (fw 1)) (λ_ _ _=>BV 4) (λ_ _ _=>Es) (λ_ _ _=>Kp (GZ v) (fw 2) (fw 4) (fw 4) #[rfl,rfl,rfl,rfl])) Ac))))
def Jw(T:Txt K mg af):jE P w K mg base af 1 3 yC (eS K wO 2):=Dh T.t_3 DM λ_ _ _ _ _ _ v=>Al (Az (Cu (Ex Ar (fw 1)) Ar) (Ai 2 DM.nd))
  (Al (Fg (DC (λ_ _=>NO) Pi (fw 1) (DF (by rfl) T.n_len (Aa (fw 0) Ac)) (As _)) (AD (Az (BX (fw 0) (fw 1)) (Ai 2 DM.nd))) (AD (Fg (DC (λ_ _=>Ib) Ik (DF (by rfl) T.n_len (Aa (fw 0) Ac)) Ar (As _)) (AD (Az (Cu (fw 2) (Ex (EM (BX (fw 0) (EM (fw 1) (DF (by rfl) T.n_len (Aa (fw 0) Ac)))) Ar) Ar)) (Ai 2 DM.nd))) Ga)))
  (Al (Az (Cu (EM (Cu (Ex (EM (fw 2) Ar) Ar) (Ex Ar (fw 1))) Ar) Ar) (Ai 3 DM.nd))
  (AD (BU (Eo (Aa (BX (Eo (Aa Ar (Aa (fw 2) Ac))) (Ir (by rfl) T.n_int HS (Aa (Ia (λ_ _=>NP) PJ (fw 2) (Og Ar Ar) (As _)) Ac))) (Aa (fw 3) Ac)))))))
def AL(T:Txt K mg af):jE P w K mg base af 1 4 yB (eS K gG 2):=Dh T.t_4 Fw λ_ _ _ _ _ _ v=>Al (Fg (DC (λ_ _=>Ib) Ik (BX (fw 0) Ar) Ar (As _)) (Al (Az (EM (BX (fw 0) Ar) (fw 1)) (Ai 2 Fw.nd))
  (Al (Lv (j:=0) (fw 0) Ar (KC (BX (fw 0) Ar) (fw 1)))
  (AD (BU (fw 2))))) Ga)
  (Al (Az (EM (Ex (BX (fw 0) Ar) Ar) Ar) (Ai 3 Fw.nd))
  (Al (Lv (j:=0) (fw 0) Ar (Cu (EM (Cu (Ex (fw 3) Ar) Ar) Ar) Ar))
  (AD (BU (EM (KC (Cu (Ex (fw 3) Ar) (BX (fw 0) Ar)) Ar) (fw 1))))))
def Ju(T:Txt K mg af):jE P w K mg base af 1 8 xX (eS K wM 3):=Dh T.t_8 Ez λ_ _ _ _ _ _ v=>Al (Az (Dl (Eo (Aa (fw 2) Ac))) (Ai 3 Ez.nd))
  (Al (CT (by rfl) (BM (fw 1)) (Ai 4 Ez.nd) (AD (Az (Dl (Fp v (by rfl) T.n_sorted Ft (Aa (Ip v (by rfl) T.n_set Hf (Aa (Eu (vars:=["_law_y","_law_own","_law_z"]) rfl (by rfl) (Au (by kernel_rfl)) rfl (BM (BX (fw 0) Ar)) (λ_ _ _=>El (by rfl) (Bw (BV 6) (Bw (BV 7) (Bw (BV 8) Et)))) (λ_ _ _=>ID rfl (MT (OO (DC (λ_ _=>JY (MP v)) Ku (fw 7) (fw 4) (As _)) (Pw (DC (λ_ _=>Od (EW v)) QR (fw 6) (fw 3) (by with_unfolding_all rfl)))))) (λ_ _ _=>fw 8)) Ac)) Ac))) (Ai 3 Ez.nd))))
  (AD (BU (fw 3))))
def GS(T:Txt K mg af):jE P w K mg base af 1 11 rD (eS K oH 2):=Dh T.t_11 AZ λ_ _ _ _ _ _ v=>Al (Az (Fj (by rfl) ⋯) (Ai 2 AZ.nd))
  (Al (CT (by rfl) (BM (fw 1)) (Ai 3 AZ.nd) (Al (Az (fw 3) (Ai 4 AZ.nd))
  (Al (CT (by rfl) (BM (fw 0)) (El (by rfl) (Bw (Ai 5 AZ.nd) (Bw (Ai 6 AZ.nd) Et))) (AD (Fg (DC (λ_ _=>JY (MP v)) Ku (fw 5) (fw 3) (As _)) (AD (Az (fw 6) (Ai 4 AZ.nd))) Ga)))
  (AD (Az (Cu (fw 2) (fw 4)) (Ai 2 AZ.nd))))))
  (AD (BU (fw 2))))
def GP(T:Txt K mg af):jE P w K mg base af 2 2 yD (eS K vR 2):=Dh T.t_2 Cz λ_ _ _ _ _ _ v=>Al (Az (fw 1) (El (by rfl) (Bw (Ai 2 Cz.nd) (Bw (Ai 3 Cz.nd) Et))))
  (Al (Az (Dl (Lq v (by rfl) T.n_dict Kz (Aa (fw 0) Ac))) (Ai 4 Cz.nd))
  (Al (LU (i:=5) ⋯ (λj z=>GA Cz.nd z rfl) rfl (by rfl) (by rfl) (vars:=["street"]) rfl (by rfl) (Au (by kernel_rfl)) rfl (BM (fw 3)) (λ_ _ _=>BV 9) (λ_ _ _=>ID rfl (DC (λ_ _=>Mz (EW v)) Ml (BX (fw 9) Ar) (fw 4) (by with_unfolding_all rfl))) (λ_ _ _=>fw 9))
  (Al (CT (by rfl) (BM (fw 0)) (El (by rfl) (Bw (Ai 6 Cz.nd) (Bw (Ai 7 Cz.nd) Et))) (AD (Ew (Ho (j:=5) (fw 5) (Eu (vars:=["x","y"]) rfl (by rfl) (Au (by kernel_rfl)) rfl (BM (AM [true,true] T.t_0 (Fy T) v (Aa (fw 1) (Aa (fw 7) Ac)))) (λ_ _ _=>El (by rfl) (Bw (BV 9) (Bw (BV 10) Et))) (λ_ _ _=>Es) (λ_ _ _=>Dk (Aa (fw 9) (Aa (fw 6) (Aa (fw 10) Ac)))))))))
  (AD (BU (Dk (Aa (fw 2) (Aa (Gf (by rfl) T.n_tuple FY (Aa (Fp v (by rfl) T.n_sorted Ft (Aa (fw 5) Ac)) Ac)) Ac))))))))
def GO(T:Txt K mg af):jE P w K mg base af 2 5 yA (eS K vQ 2):=Dh T.t_5 GK λ_ _ _ _ _ _ v=>Al (Az (Qu (by rfl) (by rfl) T.n_list Pj (Aa (Fj (by rfl) ⋯) Ac)) (Ai 2 GK.nd))
  (AD (BU (Il (Fj (by rfl) ⋯) (Aa (Fp v (by rfl) T.n_sorted Ft (Aa (Eu (vars:=["_law_k"]) rfl (by rfl) (Au (by kernel_rfl)) rfl (ER (by rfl) T.n_range (fw 1)) (λ_ _ _=>BV 4) (λ_ _ _=>Es) (λ_ _ _=>Dl (IU (j:=2) (fw 2) (AM [true,true] T.t_4 (AL T) v (Aa (fw 0) (Aa (DF (by rfl) T.n_len (Aa (fw 2) Ac)) Ac)))))) Ac)) Ac))))
def GN(T:Txt K mg af):jE P w K mg base af 2 6 xZ (eS K vP 3):=Dh T.t_6 GJ λ_ _ _ _ _ _ v=>Al (Az (Ex (AM [true,true] T.t_4 (AL T) v (Aa (fw 0) (Aa (Cu (fw 2) Ar) Ac))) (Ir (by rfl) T.n_int HS (Aa (Ia (λ_ _=>Gq (EW v)) Gw (fw 1) (Fj (by rfl) ⋯) (As _)) Ac))) (Ai 3 GJ.nd))
  (AD (BU (Il (Fj (by rfl) ⋯) (Aa (Eu (vars:=["_law_k"]) rfl (by rfl) (Au (by kernel_rfl)) rfl (ER (by rfl) T.n_range (fw 3)) (λ_ _ _=>BV 5) (λ_ _ _=>Es) (λ_ _ _=>BX (fw 1) (AM [true,true] T.t_4 (AL T) v (Aa (fw 0) (Aa (DF (by rfl) T.n_len (Aa (fw 1) Ac)) Ac))))) Ac))))
def Jv(T:Txt K mg af):jE P w K mg base af 2 7 xY (eS K wN 5):=Dh T.t_7 By λ_ _ _ _ _ _ v=>Al (Az (Cu Ar (AM [true,true] T.t_4 (AL T) v (Aa (fw 0) (Aa (fw 3) Ac)))) (Ai 5 By.nd))
  (Al (Az (Eo Ac) (Ai 6 By.nd))
  (Al (CT (by rfl) (ER (by rfl) T.n_range (AM [true,true] T.t_4 (AL T) v (Aa (fw 0) (Aa Ar Ac)))) (Ai 7 By.nd) (Al (Az (AM [true,true] T.t_4 (AL T) v (Aa (fw 0) (Aa (fw 5) Ac))) (Ai 8 By.nd))
  (AD (CT (by rfl) (BM (fw 2)) (Ai 9 By.nd) (Al (Az (AM [true,true] T.t_4 (AL T) v (Aa (fw 0) (Aa (fw 5) Ac))) (Ai 10 By.nd))
  (Al (Ew (IM (j:=6) (fw 6) (Dk (Aa (fw 8) (Aa (fw 9) (Aa (fw 10) Ac))))))
  (AD (Az (fw 10) (Ai 8 By.nd)))))))))
  (Al (CT (by rfl) (ER (by rfl) T.n_range (Ex (AM [true,true] T.t_4 (AL T) v (Aa (fw 0) (Aa (Cu (fw 4) Ar) Ac))) (Ir (by rfl) T.n_int HS (Aa (Ia (λ_ _=>Gq (EW v)) Gw (fw 1) (Fj (by rfl) ⋯) (As _)) Ac)))) (Ai 11 By.nd) (Al (OV (i:=8) (j:=10) (by rfl) By.nd (by rfl) (by rfl) ⋯ ⋯ ⋯ (by rfl) (by rfl) (Aa (AM [true,true] T.t_4 (AL T) v (Aa (fw 0) (Aa (fw 5) Ac))) (Aa (AM [true,true] T.t_4 (AL T) v (Aa (fw 0) (Aa (fw 5) Ac))) Ac)))
  (AD (Ew (IM (j:=6) (fw 6) (Dk (Aa (fw 8) (Aa (BX (fw 1) (AM [true,true] T.t_4 (AL T) v (Aa (fw 0) (Aa (DF (by rfl) T.n_len (Aa (fw 1) Ac)) Ac)))) (Aa (fw 10) Ac)))))))))
  (Al (RD (DC (λ_ _=>Ib) Ik (Pv (by rfl) T.n_len (Aa (Ip v (by rfl) T.n_set Hf (Aa (fw 6) Ac)) Ac)) (fw 4) (As _)) (AD (Ew (IU (j:=6) (fw 6) (AM [true,true] T.t_4 (AL T) v (Aa (fw 0) (Aa (DF (by rfl) T.n_len (Aa (fw 6) Ac)) Ac)))))))
  (AD (BU (Dk (Aa (fw 5) (Aa (Gf (by rfl) T.n_tuple FY (Aa (Fp v (by rfl) T.n_sorted Ft (Aa (Ip v (by rfl) T.n_set Hf (Aa (fw 6) Ac)) Ac)) Ac)) Ac)))))))))
def Jt(T:Txt K mg af):jE P w K mg base af 2 9 xW (eS K wL 2):=Dh T.t_9 Fv λ_ _ _ _ _ _ v=>Al (Az (Eo Ac) (Ai 2 Fv.nd))
  (Al (CT (by rfl) (ER (by rfl) T.n_range (BX (fw 0) Ar)) (Ai 3 Fv.nd) (AD (Ew (Ho (j:=2) (fw 2) (Eu (vars:=["_law_y"]) rfl (by rfl) (Au (by kernel_rfl)) rfl (BM (AM [true,true,true] T.t_8 (Ju T) v (Aa (fw 0) (Aa (fw 1) (Aa (fw 3) Ac))))) (λ_ _ _=>BV 5) (λ_ _ _=>Es) (λ_ _ _=>Dk (Aa (fw 3) (Aa (fw 5) Ac))))))))
  (AD (BU (Gf (by rfl) T.n_tuple FY (Aa (fw 2) Ac)))))
def GT(T:Txt K mg af):jE P w K mg base af 3 10 rE (eS K oI 3):=Dh T.t_10 BE λ_ _ _ _ _ _ v=>Al (Az (Cu (fw 1) (AM [true,true] T.t_5 (GO T) v (Aa (fw 0) (Aa Ar Ac)))) (Ai 3 BE.nd))
  (Al (Az (Fp v (by rfl) T.n_sorted Ft (Aa (On v (by rfl) T.n_set Hf (Aa (fw 3) Ac)) Ac)) (Ai 4 BE.nd))
  (Al (Az (Eo Ac) (Ai 5 BE.nd))
  (Al (CT (by rfl) (ER (by rfl) T.n_range (AM [true,true] T.t_4 (AL T) v (Aa (fw 0) (Aa (Cu (DF (by rfl) T.n_len (Aa (fw 1) Ac)) Ar) Ac)))) (Ai 6 BE.nd) (Al (Az (Dl (IU (j:=4) (fw 4) (AM [true,true] T.t_4 (AL T) v (Aa (fw 0) (Aa (DF (by rfl) T.n_len (Aa (fw 4) Ac)) Ac))))) (Ai 7 BE.nd))
  (AD (Ew (IM (j:=5) (fw 5) (Dk (Aa (fw 7) (Aa (Cu (BX (fw 3) (AM [true,true] T.t_4 (AL T) v (Aa (fw 0) (Aa (DF (by rfl) T.n_len (Aa (fw 3) Ac)) Ac)))) (AM [true,true,true] T.t_6 (GN T) v (Aa (fw 0) (Aa (fw 3) (Aa (Of (fw 2) Ar) Ac))))) Ac))))))))
  (AD (BU (Gf (by rfl) T.n_tuple FY (Aa (fw 5) Ac)))))))
def GR(T:Txt K mg af):jE P w K mg base af 3 12 rC (eS K oG 2):=Dh T.t_12 Cg λ_ _ _ _ _ _ v=>Al (Az (Dl (Eu (vars:=["_law_colour","_law_word_here"]) rfl (by rfl) (Au (by kernel_rfl)) rfl (BM (fw 0)) (λ_ _ _=>El (by rfl) (Bw (BV 7) (Bw (BV 8) Et))) (λ_ _ _=>Es) (λ_ _ _=>fw 7))) (Ai 2 Cg.nd))
  (Al (LU (i:=3) ⋯ (λj z=>GA Cg.nd z rfl) rfl (by rfl) (by rfl) (vars:=["_law_street"]) rfl (by rfl) (Au (by kernel_rfl)) rfl (BM (BX (fw 1) Ar)) (λ_ _ _=>BV 7) (λ_ _ _=>ID rfl (DC (λ_ _=>Mz (EW v)) Ml (BX (fw 7) Ar) (fw 2) (by with_unfolding_all rfl))) (λ_ _ _=>fw 7))
  (Al (CT (by rfl) (BM (fw 0)) (El (by rfl) (Bw (Ai 4 Cg.nd) (Bw (Ai 5 Cg.nd) Et))) (AD (Ew (Ho (j:=3) (fw 3) (Eu (vars:=["_law_x","_law_y"]) rfl (by rfl) (Au (by kernel_rfl)) rfl (BM (AM [true,true] T.t_9 (Jt T) v (Aa (fw 1) (Aa (fw 5) Ac)))) (λ_ _ _=>El (by rfl) (Bw (BV 7) (Bw (BV 8) Et))) (λ_ _ _=>Es) (λ_ _ _=>Dk (Aa (fw 7) (Aa (fw 4) (Aa (fw 8) Ac)))))))))
  (AD (BU (Dk (Aa (BX (fw 1) Ar) (Aa (Gf (by rfl) T.n_tuple FY (Aa (Fp v (by rfl) T.n_sorted Ft (Aa (fw 3) Ac)) Ac)) Ac)))))))
def GQ(T:Txt K mg af):jE P w K mg base af 4 13 rB (eS K kD 1):=Dh T.t_13 AY λ_ _ _ _ _ _ v=>Al (CT (by rfl) (ER (by rfl) T.n_range (Cu Ar (DF (by rfl) T.n_len (Aa (OQ (fw 0) Ar Ar) Ac)))) (Ai 1 AY.nd) (Al (Az (AM [true,true] T.t_3 (Jw T) v (Aa (fw 0) (Aa (fw 1) Ac))) (Ai 2 AY.nd))
  (Al (Az (AM [true,true] T.t_5 (GO T) v (Aa (fw 2) (Aa (Cu Ar (AM [true,true] T.t_4 (AL T) v (Aa (fw 2) (Aa Ar Ac)))) Ac))) (Ai 3 AY.nd))
  (Al (Az (Dl (AM [true,true,true] T.t_10 (GT T) v (Aa (fw 2) (Aa (fw 3) (Aa Ar Ac))))) (Ai 4 AY.nd))
  (Al (Az (AM [true,true,true] T.t_6 (GN T) v (Aa (fw 2) (Aa (fw 3) (Aa Ar Ac)))) (Ai 5 AY.nd))
  (Al (Az (Dl (AM [true,true,true,true,true] T.t_7 (Jv T) v (Aa (fw 2) (Aa (fw 3) (Aa (NS (AM [true,true] T.t_11 (GS T) v (Aa (fw 4) (Aa (fw 5) Ac))) Ar) (Aa Ar (Aa Ar Ac))))))) (Ai 6 AY.nd))
  (Al (Az (Dl (AM [true,true] T.t_2 (GP T) v (Aa (fw 4) (Aa (fw 6) Ac)))) (Ai 7 AY.nd))
  (Al (Fg (DC (λ_ _=>Gq (EW v)) Gw (fw 7) (AM [true,true] T.t_12 (GR T) v (Aa (fw 4) (Aa (fw 6) Ac))) (As _)) (AD (BU Ha)) Ga)
  (Al (Fg (DC (λ_ _=>Gq (EW v)) Gw (AM [true,true] T.t_0 (Fy T) v (Aa (fw 7) (Aa (fw 5) Ac))) (AM [true,true] T.t_0 (Fy T) v (Aa (fw 6) (Aa (Dl (AM [true,true] T.t_1 (Jx T) v (Aa (fw 4) (Aa (fw 5) Ac)))) Ac))) (As _)) (AD (BU Ha)) Ga)
  (AD (Fg (DC (λ_ _=>Gq (EW v)) Gw (AM [true,true] T.t_2 (GP T) v (Aa (Dk Ac) (Aa (fw 6) Ac))) (fw 6) (As _)) (AD (BU Ha)) Ga)))))))))))
  (AD (BU Ha))
end
theorem all_mk{l:W.OpenLaw}{w:World}{K:W.Frag}{h:Heap}{mg:Str->Option Value}{fa:Addr}(X:K.In h)(G:h.Ns mainGlobals mg)(hfa:mg "law"=some (.ref fa))
  {f_0 f_1 f_2 f_3 f_4 f_5 f_6 f_7 f_8 f_9 f_10 f_11 f_12 f_13:Addr}
  (h_0:Lk K "table" xT f_0)
  (h_1:Lk K "word_spread" xS f_1)
  (h_2:Lk K "gathered" xR f_2)
  (h_3:Lk K "_law_box" xQ f_3)
  (h_4:Lk K "_law_take" xP f_4)
  (h_5:Lk K "_law_colours" xO f_5)
  (h_6:Lk K "_law_word" xN f_6)
  (h_7:Lk K "_law_chart" xM f_7)
  (h_8:Lk K "_law_ends" xK f_8)
  (h_9:Lk K "_law_table" xJ f_9)
  (h_10:Lk K "_law_pairs" pR f_10)
  (h_11:Lk K "_law_spread" pQ f_11)
  (h_12:Lk K "_law_gathered" pP f_12)
  (h_13:Lk K "law" pO f_13)
  (z_dict:W.nsIn K mainGlobals "dict"=some none)
  (z_int:W.nsIn K mainGlobals "int"=some none)
  (z_len:W.nsIn K mainGlobals "len"=some none)
  (z_list:W.nsIn K mainGlobals "list"=some none)
  (z_range:W.nsIn K mainGlobals "range"=some none)
  (z_set:W.nsIn K mainGlobals "set"=some none)
  (z_sorted:W.nsIn K mainGlobals "sorted"=some none)
  (z_tuple:W.nsIn K mainGlobals "tuple"=some none):
  ∃fd:FuncData,(∀(s:Shared)(v:Value),BindsTo s fd #[[v],[]] [("_law_script",v)])/\∀base:Heap,K.In base->base.Ns mainGlobals mg->eO l.prog w K mg base (gR l.prog w) 4 fa fd ["_law_script"] (eS K kD 1):=by
 let e:=hfa.symm.trans (h_13.mm X G);cases e;let T:Txt K mg (λn=>[f_0,f_1,f_2,f_3,f_4,f_5,f_6,f_7,f_8,f_9,f_10,f_11,f_12,fa].getD n 0):=#[h_0.tx X G,h_1.tx X G,h_2.tx X G,h_3.tx X G,h_4.tx X G,h_5.tx X G,h_6.tx X G,h_7.tx X G,h_8.tx X G,h_9.tx X G,h_10.tx X G,h_11.tx X G,h_12.tx X G,h_13.tx X G,W.mg_none_of X G z_dict,W.mg_none_of X G z_int,W.mg_none_of X G z_len,W.mg_none_of X G z_list,W.mg_none_of X G z_range,W.mg_none_of X G z_set,W.mg_none_of X G z_sorted,W.mg_none_of X G z_tuple]
 show#[_,λs v=>h_13.bt s v,λbase _ _=>GQ T]
theorem walk{l:W.OpenLaw}{q:Program}{v:List Str}{Y:(Str->Option Value)->Heap->Prop}{G:World->Heap->Prop}{d:DefRec}{K:Params->W.Frag}(hn:l.most=some 63)(z:d.params.defaults=[])
  (M:∀(w:World)(h:Heap),G w h->(K w.params).In h)
  (F:∀(w:World)(mg:Str->Option Value)(B:Addr)(h:Heap),(K w.params).In h->h.Ns mainGlobals mg->mg d.name=some (.ref B)->
   ∃fd:FuncData,(∀(s:Shared)(u:Value),BindsTo s fd #[[u],[]] [("_law_script",u)])/\∀base:Heap,(K w.params).In base->base.Ns mainGlobals mg->eO l.prog w (K w.params) mg base (gR l.prog w) 4 B fd ["_law_script"] (eS (K w.params) kD 1)):
  W.WalkO q v Y G l.row.toRowW d [] (λf vs=>PySem.call f vs):=
 L2.walk_of (n:=63) (k:=4) (x:="_law_script") (CX:=λw=>gR l.prog w) (sp:=λw=>eS (K w.params) kD 1) hn ⋯ z #[rfl,⋯,⋯,rfl] M F (λ_ H a J L _ O=>Nr DQ H a J L O) λ_ _ _ _ _ h=>(show False from h).elim
end Law
end
end
open PySem PySem.W PyProof.Rows
namespace PySem.W.Fast
theorem tw11024933452437561985:True:=⟨⟩
theorem tw4503664554784443388:True:=⟨⟩
theorem tw17986734512546631584:True:=⟨⟩
theorem tw13062637231890424728:True:=⟨⟩
theorem tw15754029953211119919:True:=⟨⟩
theorem tw8488556448824706652:True:=⟨⟩
theorem tw17772968006200880561:True:=⟨⟩
theorem tw16058523312845142072:True:=⟨⟩
theorem tw13429020891753180272:True:=⟨⟩
theorem tw9879795205071424561:True:=⟨⟩
theorem tw2205666802200004548:True:=⟨⟩
theorem tw2719782255465240601:True:=⟨⟩
theorem tw3840197497776258477:True:=⟨⟩
theorem tw6666785484251806660:True:=⟨⟩
theorem tw11666442825342065740:True:=⟨⟩
theorem tw17341062446025828713:True:=⟨⟩
theorem tw7502765142053342765:True:=⟨⟩
theorem tw16708455176213334112:True:=⟨⟩
theorem tw15314945492922086711:True:=⟨⟩
theorem tw6827827948386770097:True:=⟨⟩
theorem tw5423937187872024091:True:=⟨⟩
theorem tw15506283578540021282:True:=⟨⟩
theorem tw17373854663255972049:True:=⟨⟩
theorem tw6891942621273862788:True:=⟨⟩
theorem tw11742524829199245977:True:=⟨⟩
theorem tw6107733613056525917:True:=⟨⟩
theorem tw12907257031214509551:True:=⟨⟩
theorem tw18168365563146294709:True:=⟨⟩
theorem tw4674722353115470578:True:=⟨⟩
theorem tw13664193987916717524:True:=⟨⟩
theorem tw6220093941038999041:True:=⟨⟩
theorem tw10258894438459399187:True:=⟨⟩
theorem tw14353625045494001586:True:=⟨⟩
theorem tw7248505935523383810:True:=⟨⟩
theorem tw4695668547367097157:True:=⟨⟩
theorem tw14296916508838016654:True:=⟨⟩
theorem tw11971261586220480025:True:=⟨⟩
theorem tw16380990685920302967:True:=⟨⟩
theorem tw4895204755070957863:True:=⟨⟩
theorem tw5133044341648658956:True:=⟨⟩
theorem tw985570069176304926:True:=⟨⟩
theorem tw3623625107279718974:True:=⟨⟩
theorem tw6938214433862535858:True:=⟨⟩
theorem tw3699969438476727041:True:=⟨⟩
theorem tw17125643340916283083:True:=⟨⟩
theorem tw2283823462489455102:True:=⟨⟩
theorem tw10242497538732456239:True:=⟨⟩
theorem tw11703598054846905458:True:=⟨⟩
theorem tw2926344442802461103:True:=⟨⟩
theorem tw6698009828410995657:True:=⟨⟩
theorem tw16159449613773896666:True:=⟨⟩
theorem tw1044909000623186412:True:=⟨⟩
theorem tw16701458518894733988:True:=⟨⟩
theorem tw2144625732922895858:True:=⟨⟩
theorem tw12523141811352216324:True:=⟨⟩
theorem tw15628257853531430322:True:=⟨⟩
theorem tw3674256201065462060:True:=⟨⟩
theorem tw7420513479388302887:True:=⟨⟩
theorem tw6564269042262326968:True:=⟨⟩
theorem tw4307994201493055794:True:=⟨⟩
theorem tw8901046513552112434:True:=⟨⟩
theorem tw10396244659034823439:True:=⟨⟩
theorem tw4694614061700322433:True:=⟨⟩
theorem tw3007675486633057941:True:=⟨⟩
end PySem.W.Fast
set_option maxRecDepth 100000 in
set_option maxHeartbeats 0 in
theorem PySem.Challenge.cw_walktold_k84_gathered_holds : PySem.Challenge.rw_walktold_k84_gathered.Holds := by
 w_on; o_law; k_head; (case hw=>w_witness2)
 k_fill
 refine Law.walk (l:=PySem.Challenge.rw_walktold_k84_gathered) rfl rfl (fun w h Y=>PySem.W.kIn_of Y) ?F
 case F=>
  intro w mg fa h KX G hmg
  refine' Law.all_mk KX G hmg ..
  all_goals try first | k_is | (refine' ⟨?_,?_,?_,?_⟩ <;> try k_is)
