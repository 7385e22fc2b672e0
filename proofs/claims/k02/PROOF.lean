import PyProof.Rows.All
import Wide.All
import OpenK.AllK
import Wide.FinOn
import PySem.Challenge.RW_walktold_k02_maps_looked_at
set_option Elab.async false
set_option linter.all false
set_option maxRecDepth 100000
set_option compiler.extract_closed false
set_option bootstrap.genMatcherCode false
open Array (getElem?_eq_getElem getElem?_toList getElem_mem_toList getElem_toList length_toList mem_toList_iff toArray_toList toList_append)
open Bool (and_eq_true false_eq_true or_eq_true)
open Int (mul_one toNat_natCast)
open List (all_cons all_eq_true append_assoc append_nil cons_append countP_cons drop_zero ext_getElem? filterMap_cons find?_cons foldl_cons getElem?_append_left getElem?_append_right getElem?_eq_none getElem?_map getElem?_set_ne getElem?_set_self getElem_mem getElem_of_mem length_append length_cons length_drop length_map length_nil length_range length_set length_singleton length_take lookup_cons lt_asymm map_append map_congr_left map_cons map_id map_map map_nil map_set mem_append mem_cons mem_filter mem_filterMap mem_map mem_of_getElem? mem_of_mem_take mem_range mem_singleton nil_append nodup_append nodup_cons of_mem_zip pairwise_cons pairwise_map perm_append_comm perm_middle set_comm size_toArray take_append_drop)
open Nat (le_of_lt le_refl le_succ le_trans lt_irrefl lt_of_lt_of_le lt_or_ge lt_succ_of_lt lt_succ_self lt_trans mod_lt mul_le_mul ne_of_gt ne_of_lt not_lt sub_self zero_add zero_le)
open Option (bind_some isSome_iff_exists map_eq_some_iff map_some)
def qa:=@PySem.wpAny_bind
def qb:=@PySem.wpAny_pure
def qc:=@PySem.Heap.get?_push_of_some
def qd:=@PySem.Heap.get?_push_size
def qe:=@PySem.Heap.lt_size
def qf.{u}:=@Option.some.inj.{u}
def qg.{u}:=@List.getElem?_eq_some_iff.{u}
def qh.{u}:=@List.getElem?_eq_getElem.{u}
def qi.{u}:=@List.mem_append_right.{u}
def qj.{u}:=@List.mem_append_left.{u}
def qk.{u}:=@List.mem_cons_of_mem.{u}
def qm.{u}:=@List.mem_cons_self.{u}
def qo:=@List.length_map
def qp:=@List.append_assoc
def qq:=@List.length_append
def qr:=@List.size_toArray
def qt:=@List.length_cons
def qu:=@List.mem_singleton
def qv:=@List.length_nil
def qw:=@List.nodup_append
def qx:=@List.mem_append
def qy:=@List.map_cons
def qz:=@List.append_nil
def qA:=@List.mem_cons
def qB:=@List.length_singleton
def qC:=@List.length_range
def qD:=@List.map_map
def qE:=@List.getElem?_map
def qF:=@List.length_drop
def qG:=@List.length_take
def qH:=@List.all_eq_true
def qI:=@List.mem_range
def qJ:=@List.mem_map
def qK:=@List.nodup_cons
def qL:=@List.mem_of_getElem?
def qM:=@List.perm_append_comm
def qO:=@List.getElem?_eq_none
def qP:=@decide_eq_true
def qQ:=@decide_eq_false
def qR:=@decide_eq_true_eq
def qS:=@of_decide_eq_true
def qT:=@Array.length_toList
def qU:=@Int.toNat_natCast
def qV:=Bool.false_ne_true
def qW:=@Option.map_eq_some_iff
def qX:=@Array.getElem?_toList
def qY:=@if_pos
def qZ:=@if_neg
def q8:=@Nat.le_refl
def q9:=@PySem.Heap.get?_update_other
def za:=@PySem.Heap.get?_update_self
def zc:=@PySem.wpAny_field
def zd:=@PySem.wpAny_newObj_type
def ze:=@PySem.wpAny_call_entry
def zf:=@PySem.sizeLine_eq
def zg:=@PySem.wpAny_holding
def zh:=@PySem.wpAny_of_eq
def zi:=@PySem.wpAny_mono
abbrev zj:=PySem.Value->PySem.Shared->Prop
theorem cpsZ9{A:Prop}(h:∀G:Prop,(A->G)->G):A:=h A id
section
set_option hygiene false in
open Lean Parser.Tactic in
local macro_rules
|`($m:declModifiers def $i:declId $s:optDeclSig $v:declVal)=>do
 let a:=m.raw.getArgs
 if !a[4]!.isNone then Macro.throwUnsupported
 match i.raw[0].getId with
 |.str p n=>do
  let f(s:Syntax):=s.rewriteBottomUp (·.setInfo .none)
  let c:=mkNode ``Parser.Command.declaration
  let i:=f i
  let s:=f s
  let v:=f v
  if a[1]!.isNone&&(n.front.isUpper||!p.isAnonymous) then return c #[m,mkNode ``Parser.Command.theorem #[mkAtom "theorem",i,mkNode ``Parser.Command.declSig #[s[0],s[1][0]],v]] else return c #[m.raw.setArg 4 (mkNullNode #[mkNode ``Parser.Command.noncomputable #[mkAtom "noncomputable"]]),mkNode ``Parser.Command.definition #[mkAtom "def",i,s,v,mkNullNode]]
 |_=>Macro.throwUnsupported
|`(#[$x,*])=>if x.getElems.isEmpty then Macro.throwUnsupported else `(⟨$x,*⟩)
|`(∅)=>`((by lia))
|`(⋯)=>`((by decide))
|`(↑$x)=>`((by simpa using $x))
|`(tactic|lia)=>`(tactic|first|assumption|exact Nat.le_refl _|exact Nat.le_of_lt ‹_›|exact Nat.succ_pos _|exact Nat.not_lt.1 ‹_›|exact Nat.lt_of_lt_of_le ‹_› ‹_›|exact Nat.lt_of_le_of_lt ‹_› ‹_›|exact Nat.le_trans ‹_› ‹_›|exact Nat.lt_trans ‹_› ‹_›|exact Nat.ne_of_lt ‹_›|exact Nat.ne_of_gt ‹_›|exact Nat.lt_succ_of_le ‹_›|exact Nat.le_add_right _ _|exact Nat.sub_le _ _|exact Nat.le_of_lt_succ ‹_›|exact absurd ‹_› (Nat.not_lt_zero _)|exact absurd ‹_ < _› (Nat.not_lt.2 ‹_›)|exact Nat.lt_of_le_of_ne ‹_› ‹_›|exact Nat.pos_of_ne_zero ‹_›|exact Nat.le_trans ‹_› (Nat.le_add_right _ _)|exact Nat.le_trans (Nat.sub_le _ _) ‹_›|exact Int.le_of_lt ‹_›|exact Nat.sub_lt ‹_› Nat.one_pos|exact Nat.add_sub_of_le ‹_›|exact Nat.lt_add_of_pos_right ‹_›|exact Nat.lt_of_lt_of_eq ‹_› ‹_›|exact Nat.le_of_eq ‹_›|exact Nat.not_lt_of_le ‹_›|exact Nat.sub_pos_of_lt ‹_›|exact Nat.le_of_eq (Nat.add_sub_of_le ‹_›)|lia -verbose)
|`(tactic|show $e:term)=>`(tactic|first|refine $e|fail)
|`(tactic|let #[$x,*]:=$e)=>do
 let rec go:Nat->Syntax->MacroM (TSyntax ``rcasesPatLo)
  |n+1,t=>do match t with
   |`(#[$y,*])=>let z<-y.getElems.mapM (go n ·.raw);`(rcasesPatLo|⟨$[$z],*⟩)
   |`(_)=>`(rcasesPatLo|_)
   |_=>`(rcasesPatLo|$(⟨t⟩):ident)
  |_,_=>Macro.throwUnsupported
 let z<-x.getElems.mapM (go 9 ·.raw)
 if z.size>3 then `(tactic|(refine _root_.cpsZ9 fun gZ kZ=>?_;rcases $e:term with ⟨$[$z],*⟩;refine kZ ?_;clear kZ gZ)) else `(tactic|obtain ⟨$[$z],*⟩:=$e)
|`(tactic|let $d:letDecl)=>`(tactic|have $d:letDecl)
noncomputable section
namespace ST
open PySem PySem.SetTable
@[inline]def Rising(xs:Array Nat):Prop:=∀i j(hi:i<xs.size)(z:j<xs.size),i<j->xs[i]<xs[j]
def Dn{xs:Array Nat}(h:i<xs.size):xs.getD i d=xs[i]:=by simp[Array.getD,h]
def Dm(hr:Rising xs):∀(z lo hi:Nat),hi<=xs.size->lo<=hi->hi-lo<=z->(∀i(h:i<xs.size),i<lo->xs[i]<j)->(∀i(h:i<xs.size),hi<=i->j<=xs[i])->
  below.go xs j z lo hi<=xs.size/\(∀i(h:i<xs.size),i<below.go xs j z lo hi->xs[i]<j)/\∀i(h:i<xs.size),below.go xs j z lo hi<=i->j<=xs[i]:=by
 intro z;induction z with
 |zero=>
  intro lo hi h1 h2 h3 J G;let:lo=hi:=∅
  subst this;show#[by show lo<=_;lia,λi h B=>J i h B,λi h B=>G i h B]
 |succ z Y=>
  intro lo hi h1 h2 h3 J G;unfold below.go;by_cases F:lo<hi
  .rw[qY F];let L:(lo+hi)/2<xs.size:=by lia
   dsimp only;rw[Dn L];by_cases O:xs[(lo+hi)/2]<j
   .rw[qY O];show Y _ _ h1 ∅ ∅ (λi h B=>?_) G;by_cases M:i=(lo+hi)/2
    .subst M;show O
    .let:=hr i ((lo+hi)/2) h L ∅;lia
   .rw[qZ O];show Y _ _ ∅ ∅ ∅ J λi h B=>?_;by_cases M:i=(lo+hi)/2
    .subst M;lia
    .let:=hr ((lo+hi)/2) i L h ∅;lia
  .rw[qZ F];let:lo=hi:=by lia
   subst this;show#[∅,λi h B=>J i h B,λi h B=>G i h B]
def Aq(z:Rising xs):below xs j<=xs.size/\(∀i(h:i<xs.size),i<below xs j->xs[i]<j)/\∀i(h:i<xs.size),below xs j<=i->j<=xs[i]:=
 Dm z xs.size 0 xs.size (q8 _) (zero_le _) ∅ (λi h B=>by lia) λi h B=>∅
def CV(B:Rising xs)(h:i<xs.size)(e:xs[i]=j):below xs j=i:=by
 let#[h1,h2,F]:=Aq (j:=j) B;rcases Nat.lt_trichotomy (below xs j) i with z|z|z
 .let G:=F (below xs j) ∅ (q8 _);let:=B (below xs j) i ∅ h z;lia
 .show z
 .let:=h2 i h z;lia
def Bj{t:SetTable}(z:Rising t.place)(h:i<t.place.size)(e:t.place[i]=j):t.slot j=.live i:=by
 unfold slot;dsimp only;rw[CV z h e];let:t.place[i]?=some j:=by rw[getElem?_eq_getElem h,e]
 rw[this];simp
def Bk{t:SetTable}(z:t.dummies=#[])(h:∀i(hi:i<t.place.size),t.place[i]≠j):t.slot j=.empty:=by
 unfold slot;dsimp only;let h1:(t.place[below t.place j]?==some j)=false:=by
  cases q:t.place[below t.place j]? with
  |none=>rfl
  |some v=>let#[hi,e]:=Array.getElem?_eq_some_iff.mp q;let:=h _ hi;rw[e]at this;simpa using this
 rw[h1,z];rfl
def An{t:SetTable}(z:Rising t.place)(B:t.dummies=#[])(j:Nat):(t.slot j=.empty/\∀i(hi:i<t.place.size),t.place[i]≠j)\/∃i,∃hi:i<t.place.size,t.place[i]=j/\t.slot j=.live i:=by
 by_cases h:∃i,∃hi:i<t.place.size,t.place[i]=j
 .obtain⟨i,hi,e⟩:=h;show .inr #[i,hi,e,Bj z hi e]
 .let h':∀i(hi:i<t.place.size),t.place[i]≠j:=λi hi e=>h #[i,hi,e];show .inl #[Bk B h',h']
def aC(t:SetTable)(p:Probe):Nat->Probe
 |0=>p
 |n+1=>aC t (t.advance p) n
def AN(t:SetTable):∀(n:Nat)(p:Probe),aC t p (n+1)=t.advance (aC t p n)
 |0,_=>rfl
 |n+1,p=>AN t n (t.advance p)
def Ae(t:SetTable):∀(m n:Nat)(p:Probe),aC t p (m+n)=aC t (aC t p m) n
 |0,n,p=>by rw[zero_add];rfl
 |m+1,n,p=>by rw[Nat.add_right_comm];show Ae t m n (t.advance p)
def CK(hr:Rising t.place)(hd:t.dummies=#[]):∀(z n:Nat)(p:Probe),p.dummy=none->t.slot (aC t p n).j=.empty->(∀m,m<n->t.slot (aC t p m).j≠.empty)->n<z->
  (probe.go t hashAt h z p=some (.empty (aC t p n).j none)/\∀m,m<n->∀i,t.slot (aC t p m).j=.live i->hashAt i≠h)\/
  ∃m i,m<n/\t.slot (aC t p m).j=.live i/\hashAt i=h/\probe.go t hashAt h z p=some (.candidate (aC t p m).j i (aC t p (m+1)))/\∀F,F<m->∀G,t.slot (aC t p F).j=.live G->hashAt G≠h:=by
 intro z;induction z with
 |zero=>intro n p _ _ _ h;lia
 |succ z ih=>
  intro n p J he M hf;cases n with
  |zero=>show .inl #[?_,λm hm=>∅];unfold probe.go;let h7:t.slot p.j=.empty:=he;rw[h7];rw[J];rfl
  |succ n=>
   rcases An hr hd p.j with⟨Y,_⟩|⟨i,hi,ei,hl⟩
   .show absurd Y (M 0 ∅)
   .by_cases hh:hashAt i=h
    .show .inr #[0,i,∅,hl,hh,?_,λF h6=>∅];unfold probe.go;rw[hl];show(if(hashAt i==h)=true then _ else _)=_;rw[qY (by rw[hh];simp)];rfl
    .have O:probe.go t hashAt h (z+1) p=probe.go t hashAt h z (t.advance p):=by
      conv=>lhs;unfold probe.go
      grind
     have h5:(t.advance p).dummy=none:=by
      unfold advance;split
      .show J
      .show J
     rcases ih n (t.advance p) h5 he (λm hm=>M (m+1) ∅) ∅with⟨h1,h2⟩|⟨m,G,hm,h1,h2,h3,h4⟩
     .show .inl #[by rw[O,h1];rfl,λm hm G B=>?_];cases m with
      |zero=>have:t.slot p.j=.live G:=B;rw[hl]at this;cases this;show hh
      |succ m=>show h2 m ∅ G B
     .show .inr #[m+1,G,∅,h1,h2,by rw[O,h3];rfl,λF h6 L B=>?_];cases F with
      |zero=>have:t.slot p.j=.live L:=B;rw[hl]at this;cases this;show hh
      |succ F=>show h4 F ∅ L B
def aP(mask:Nat)(b:Nat):Nat->Nat×Nat
 |0=>(b %(mask+1),b)
 |k+1=>leap mask (aP mask b k).1 (aP mask b k).2
def aL(mask:Nat)(p:Nat×Nat):Probe:={j:=p.1,more:=runEnd mask p.1-p.1,i:=p.1,perturb:=p.2,dummy:=none}
def Dk(mask i:Nat):runEnd mask i-i<=9:=by unfold runEnd;split<;>lia
def AW:∀m,m<=runEnd t.mask p.1-p.1->aC t (aL t.mask p) m={aL t.mask p with j:=p.1+m,more:=runEnd t.mask p.1-p.1-m}
 |0,_=>rfl
 |m+1,h=>by rw[AN,AW m ∅];unfold advance;rw[qY (by show runEnd t.mask p.1-p.1-m>0;lia)];rfl
def Bm:aC t (aL t.mask p) (runEnd t.mask p.1-p.1+1)=aL t.mask (leap t.mask p.1 p.2):=by rw[AN,AW _ (q8 _)];unfold advance;rw[qZ (by show¬(runEnd t.mask p.1-p.1-(runEnd t.mask p.1-p.1)>0);lia)];rfl
def AX:∀k,∃n,n<=10*k/\aC t (t.probeStart h) n=aL t.mask (aP t.mask (bits h) k)
 |0=>#[0,∅,rfl]
 |k+1=>by let#[n,z,e]:=AX (t:=t) (h:=h) k;let:=Dk t.mask (aP t.mask (bits h) k).1;show#[n+(runEnd t.mask (aP t.mask (bits h) k).1-(aP t.mask (bits h) k).1+1),∅,?_];rw[Ae,e,Bm];rfl
def Dt(h:Int):bits h<2^64:=by unfold bits;grind
def AZ(mask b:Nat):∀k,(aP mask b k).2=b/32^k
 |0=>by simp[aP]
 |k+1=>by show(aP mask b k).2/32=_;rw[AZ mask b k,Nat.div_div_eq_div_mul,Nat.pow_succ]
def BV{mask:Nat}(z:13<=k):(aP mask (bits h) k).2=0:=by
 rw[AZ];show Nat.div_eq_of_lt (lt_of_lt_of_le (Dt h) ?_)
 calc 2^64<=32^13:=by decide
  _<=32^k:=Nat.pow_le_pow_right ⋯ z
def yK(M i:Nat):Nat:=(i*5+1) %M
def it(M:Nat):Nat->Nat->Nat
 |0,i=>i
 |k+1,i=>it M k (yK M i)
def Bb(M:Nat):∀a b i,it M (a+b) i=it M b (it M a i)
 |0,b,i=>by rw[zero_add];rfl
 |a+1,b,i=>by rw[Nat.add_right_comm];show Bb M a b (yK M i)
def Ba{mask:Nat}:∀k,(aP mask (bits h) (13+k)).1=it (mask+1) k (aP mask (bits h) 13).1
 |0=>rfl
 |k+1=>by rw[Bb (mask+1) k 1,<-Ba k];show(leap mask (aP mask (bits h) (13+k)).1 (aP mask (bits h) (13+k)).2).1=_;rw[BV ∅];rfl
def hit(M e:Nat):Nat->Nat->Bool
 |0,_=>false
 |n+1,i=>bif Nat.beq i e then true else hit M e n (yK M i)
def BW:∀{n i:Nat},hit M e n i=true->∃k,k<n/\it M k i=e
 |0,_,h=>by cases h
 |n+1,i,h=>by
  unfold hit at h;cases q:Nat.beq i e with
  |true=>show#[0,∅,Nat.eq_of_beq_eq_true q]
  |false=>rw[q]at h;let#[k,B,z]:=BW (n:=n) h;show#[k+1,∅,z]
def aZ(mask:Nat):Prop:=mask=7\/mask=15\/mask=31\/mask=63\/mask=127\/mask=255\/mask=511
def Du{mask:Nat}(h:aZ mask):(List.range (mask+1)).all (λe=>hit (mask+1) e (mask+1) 0)=true/\it (mask+1) (mask+1) 0=0:=by rcases h with rfl|rfl|rfl|rfl|rfl|rfl|rfl<;>show⟨by decide+kernel,by decide+kernel⟩
def EY{mask s e:Nat}(h:aZ mask)(hs:s<=mask)(G:e<=mask):∃k,k<=mask/\it (mask+1) k s=e:=by
 let#[h1,h2]:=Du h;rw[qH]at h1;let#[a,L,B]:=BW (h1 s (qI.mpr ∅));let#[b,J,z]:=BW (h1 e (qI.mpr ∅));by_cases F:a<=b
 .show#[b-a,∅,by rw[<-B,<-Bb,show a+(b-a)=b by lia,z]]
 .show#[mask+1-a+b,∅,?_];rw[<-B,<-Bb,show a+(mask+1-a+b)=mask+1+b by lia,Bb,h2,z]
def BS(B:aZ t.mask)(F:e<=t.mask):∃n,n<10*turns t.mask/\(aC t (t.probeStart h) n).j=e:=by
 let z:(aP t.mask (bits h) 13).1<=t.mask:=by let:(aP t.mask (bits h) 13).1<t.mask+1:=mod_lt _ ∅;lia
 let#[k,M,J]:=EY B z F;let#[n,L,G]:=AX (t:=t) (h:=h) (13+k);show#[n,by unfold turns;lia,?_];rw[G];show(aP t.mask (bits h) (13+k)).1=e;rw[Ba,J]
def EW{P:Nat->Prop}[DecidablePred P]:∀n,P n->∃m,m<=n/\P m/\∀k,k<m->¬P k:=by
 intro n;induction n using Nat.strongRecOn with
 |ind n F=>
  intro G;by_cases h:∃k,k<n/\P k
  .obtain⟨k,B,z⟩:=h;let#[m,h1,h2,J]:=F k B z;show#[m,∅,h2,J]
  .show#[n,q8 _,G,λk B z=>h #[k,B,z]]
structure fO(t:SetTable)(hs:List Int):Prop where
 ris:Rising t.place
 dum:t.dummies=#[]
 mask:aZ t.mask
 size:t.place.size=hs.length
 le:∀i(hi:i<t.place.size),t.place[i]<=t.mask
 few:hs.length<=t.mask
 reach:∀i(hi:i<t.place.size)(h:Int),hs[i]?=some h->∃n,(aC t (t.probeStart h) n).j=t.place[i]/\∀m,m<n->t.slot (aC t (t.probeStart h) m).j≠.empty
def DE:∀(l m:List Nat),l.Nodup->(∀x∈l,x∈m)->l.length<=m.length
 |[],m,_,_=>by simp
 |x::l,m,hn,hs=>by
  let#[h1,h2]:=qK.mp hn;let F:x∈m:=hs x (by simp);let:=DE l (m.erase x) h2 λy B=>by show(List.mem_erase_of_ne ?_).mpr (hs y (by simp[B]));intro z;subst z;show h1 B
  rw[List.length_erase_of_mem F]at this;let G:=List.length_pos_of_mem F;rw[qt];lia
def CL:∀(m:Nat)(l:List Nat),l.Nodup->(∀x∈l,x<m)->l.length<m->∃e,e<m/\e∉l:=by
 intro m l F B G;by_cases h:∃e,e<m/\e∉l
 .show h
 .exfalso;let:∀e∈List.range m,e∈l:=λe z=>by
   by_cases q:e∈l
   .show q
   .show absurd #[e,qI.mp z,q] h
  let:=DE (List.range m) l List.nodup_range this;rw[qC]at this;lia
def fO.free(T:fO t hs)(h:Int):∃n,n<10*turns t.mask/\t.slot (aC t (t.probeStart h) n).j=.empty/\∀m,m<n->t.slot (aC t (t.probeStart h) m).j≠.empty:=by
 obtain⟨e,he,F⟩:=CL (t.mask+1) t.place.toList (by
  rw[List.Nodup,List.pairwise_iff_getElem];intro i j hi L G;let:=T.ris i j hi ↑L G;simp;lia) (λx J=>by
   let#[i,hi,e]:=getElem_of_mem J;let:=T.le i hi;rw[getElem_toList]at e;lia) (by
   let:=T.few;let:=T.size;rw[qT];lia)
 let#[n,Y,O]:=BS (h:=h) T.mask (show e<=t.mask by lia);let B:t.slot (aC t (t.probeStart h) n).j=.empty:=by rw[O];show Bk T.dum λi hi z=>F ?_;rw[<-z];show getElem_mem_toList hi
 let#[m,h1,h2,M]:=EW (P:=λn=>t.slot (aC t (t.probeStart h) n).j=.empty) n B;show#[m,∅,h2,M]
theorem ris_list:Rising xs↔xs.toList.Pairwise (·<·):=by rw[List.pairwise_iff_getElem];first|rfl|assumption|(simp_all;done)
def Bc(J:Rising xs)(hn:∀i(hi:i<xs.size),xs[i]≠j):Rising (insertAt xs (below xs j) j):=by
 let#[h1,h2,h3]:=Aq (j:=j) J;rw[ris_list,toList_insertAt];let L:=ris_list.mp J;rw[<-take_append_drop (below xs j) xs.toList]at L;let#[Y,O,M]:=List.pairwise_append.mp L;show List.pairwise_append.mpr #[Y,pairwise_cons.mpr #[λy B=>?_,O],λx G y B=>?_]
 .obtain⟨i,hi,e⟩:=getElem_of_mem B;rw[List.getElem_drop,getElem_toList]at e;let z:below xs j+i<xs.size:=by simp at hi;lia
  let a:=h3 (below xs j+i) z ∅;let b:=hn (below xs j+i) z;lia
 .have F:x<j:=by
   let#[i,hi,e]:=getElem_of_mem G;rw[List.getElem_take,getElem_toList]at e;let z:i<xs.size/\i<below xs j:=by simp at hi;lia
   let:=h2 i z.1 z.2;lia
  rcases qA.mp B with rfl|B
  .show F
  .show M x G y B
theorem mem_insert:x∈(insertAt xs p j).toList↔x=j\/x∈xs.toList:=by rw[toList_insertAt,qx];grind[take_append_drop,mem_append]
def Ao(h:t'.mask=t.mask):∀(n:Nat)(p:Probe),aC t' p n=aC t p n
 |0,_=>rfl
 |n+1,p=>by
  let e:t'.advance p=t.advance p:=by unfold advance;rw[h]
  show aC t' (t'.advance p) n=aC t (t.advance p) n;rw[e,Ao h n]
def Am{t t':SetTable}(h:t'.mask=t.mask)(b:Int):t'.probeStart b=t.probeStart b:=by unfold probeStart;rw[h]
def AY{t:SetTable}(B:Rising t.place)(J:t.dummies=#[])(j:Nat):t.slot j≠.empty↔j∈t.place.toList:=by
 rcases An B J j with⟨h,F⟩|⟨i,hi,e,h⟩
 .show#[λz=>absurd h z,λG=>?_];let#[i,hi,e]:=getElem_of_mem G;show absurd e (F i hi)
 .show#[λ_=>?_,λ_=>by rw[h];show nofun];rw[<-e];show getElem_mem_toList hi
def AL{t:SetTable}(z:t.dummies=#[]):(t.put j).1.place=insertAt t.place (below t.place j) j/\(t.put j).1.mask=t.mask/\(t.put j).1.dummies=#[]/\(t.put j).2=below t.place j:=by unfold put;show#[rfl,rfl,?_,rfl];rw[z];rfl
def fO.put(T:fO t hs)(he:t.slot (aC t (t.probeStart h) n).j=.empty)(h4:∀m,m<n->t.slot (aC t (t.probeStart h) m).j≠.empty)(hj:(aC t (t.probeStart h) n).j<=t.mask)(hf:hs.length+1<=t.mask):
  fO (t.put (aC t (t.probeStart h) n).j).1 (hs.take (t.put (aC t (t.probeStart h) n).j).2++h::hs.drop (t.put (aC t (t.probeStart h) n).j).2):=by
 generalize h5:(aC t (t.probeStart h) n).j=j at*;let h3:∀i(hi:i<t.place.size),t.place[i]≠j:=by
  rcases An T.ris T.dum j with⟨_,hn⟩|⟨i,hi,e,M⟩
  .show hn
  .rw[M]at he;cases he
 let#[e1,L,e3,e4]:=AL (t:=t) (j:=j) T.dum;let O:=Bc T.ris h3;let#[b1,b2,b3]:=Aq (j:=j) T.ris;let h2:(insertAt t.place (below t.place j) j).size=t.place.size+1:=by rw[<-qT,toList_insertAt,qq,qt,qG,qF,qT];lia
 let more:∀k,t.slot k≠.empty->(t.put j).1.slot k≠.empty:=λk F=>by rw[AY (by rw[e1];show O) e3,e1,mem_insert];show .inr ((AY T.ris T.dum k).mp F)
 show#[by rw[e1];show O,e3,by rw[L];show T.mask,?_,λi hi=>?_,?_,λi hi g Y=>?_]
 .rw[e1,h2,qq,qt,qG,qF,e4,T.size];let:=T.size;lia
 .let hm:(t.put j).1.place[i]∈(insertAt t.place (below t.place j) j).toList:=by rw[<-e1];exact getElem_mem_toList hi
  rw[L];rcases mem_insert.mp hm with z|z
  .rw[z];show hj
  .obtain⟨k,F,e⟩:=getElem_of_mem z;rw[<-e];show T.le k ↑F
 .rw[L,qq,qt,qG,qF];lia
 .rw[e4]at Y;let B:(t.put j).1.place[i]?=(t.place.toList.take (below t.place j)++j::t.place.toList.drop (below t.place j))[i]?:=by rw[e1,<-qX,toList_insertAt]
  rw[getElem?_eq_getElem hi]at B;let G:(t.place.toList.take (below t.place j)).length=below t.place j:=by rw[qG,qT];lia
  let J:(hs.take (below t.place j)).length=below t.place j:=by let:=T.size;rw[qG];lia
  let h1:∀k(F:k<t.place.size),hs[k]?=some g->(t.put j).1.place[i]=t.place[k]->∃n,(aC (t.put j).1 ((t.put j).1.probeStart g) n).j=(t.put j).1.place[i]/\∀m,m<n->(t.put j).1.slot (aC (t.put j).1 ((t.put j).1.probeStart g) m).j≠.empty:=λk F h6 e=>by let#[n',a,b]:=T.reach k F g h6;show#[n',by rw[Ao L,Am L,a,e],λm hm=>?_];rw[Ao L,Am L];show more _ (b m hm)
  rcases Nat.lt_trichotomy i (below t.place j)with M|M|M
  .rw[getElem?_append_left (by rw[G];show M),List.getElem?_take_of_lt M]at B;rw[getElem?_append_left (by rw[J];show M),List.getElem?_take_of_lt M]at Y;let F:i<t.place.size:=by lia
   rw[qX,getElem?_eq_getElem F]at B;show h1 i F Y (qf B)
  .subst M;rw[getElem?_append_right (by rw[G];show q8 _),G,sub_self,List.getElem?_cons_zero]at B;rw[getElem?_append_right (by rw[J];show q8 _),J,sub_self,List.getElem?_cons_zero]at Y;let eg:=qf Y;subst eg;show#[n,by rw[Ao L,Am L,h5,qf B],λm hm=>?_];rw[Ao L,Am L];show more _ (h4 m hm)
  .obtain⟨k,rfl⟩:∃k,i=k+1:=#[i-1,∅]
   rw[getElem?_append_right (by rw[G];lia),G,show k+1-below t.place j=(k-below t.place j)+1 by lia,List.getElem?_cons_succ,List.getElem?_drop,show below t.place j+(k-below t.place j)=k by lia]at B;rw[getElem?_append_right (by rw[J];lia),J,show k+1-below t.place j=(k-below t.place j)+1 by lia,List.getElem?_cons_succ,List.getElem?_drop,show below t.place j+(k-below t.place j)=k by lia]at Y;let F:k<t.place.size:=by let:=hi;simp only[e1,h2]at this;lia
   rw[qX,getElem?_eq_getElem F]at B;show h1 k F Y (qf B)
def cJ(o:Array (Option Nat))(j:Nat):Bool:=(o.getD j (some 0)).isNone
def bare(mask:Nat):SetTable:={fresh 0 0 true with mask:=mask}
def Ct{mask:Nat}:∀(z:Nat)(p:Nat×Nat)(K:Nat),K<z->(∃q,cJ o q.1=true/\q=(Nat.repeat (λx:Nat×Nat=>leap mask x.1 x.2) K p))->
  ∃j n,layClean.free mask o z p.1 p.2=some j/\(aC (bare mask) (aL mask p) n).j=j/\cJ o j=true/\∀m,m<n->cJ o (aC (bare mask) (aL mask p) m).j=false:=by
 intro z;induction z with
 |zero=>intro p K h;lia
 |succ z M=>
  intro p K hK hq;let run:∀m,m<=runEnd mask p.1-p.1->(aC (bare mask) (aL mask p) m).j=p.1+m:=λm F=>by let:=AW (t:=bare mask) (p:=p) m F;let e:(aC (bare mask) (aL mask p) m).j=({aL mask p with j:=p.1+m,more:=runEnd mask p.1-p.1-m}:Probe).j:=congrArg Probe.j this;show e
  let h4:p.1<=runEnd mask p.1:=by unfold runEnd;split<;>lia
  unfold layClean.free;cases J:(List.range (runEnd mask p.1+1-p.1)).find? (λk=>(o.getD (p.1+k) (some 0)).isNone)with
  |some k=>rw[List.find?_range_eq_some]at J;let#[h1,h2,Y]:=J;rw[qI]at h2;show#[p.1+k,k,rfl,run k ∅,h1,λm F=>?_];rw[run m ∅];let:=Y m F;simpa[cJ] using this
  |none=>
   rw[List.find?_range_eq_none]at J;let B:∀m,m<=runEnd mask p.1-p.1->cJ o (aC (bare mask) (aL mask p) m).j=false:=λm F=>by rw[run m F];let:=J m ∅;simpa[cJ] using this
   cases K with
   |zero=>let#[q,h1,h2]:=hq;let Y:q=p:=h2;let:=B 0 ∅;let e:(aC (bare mask) (aL mask p) 0).j=p.1:=rfl;rw[e,<-Y,h1]at this;cases this
   |succ K=>
    obtain⟨q,h1,h2⟩:=hq;let L:∀(K:Nat)(p:Nat×Nat),Nat.repeat (λx:Nat×Nat=>leap mask x.1 x.2) (K+1) p=Nat.repeat (λx:Nat×Nat=>leap mask x.1 x.2) K (leap mask p.1 p.2):=by
     intro K;induction K with
     |zero=>intro p;rfl
     |succ K M=>intro p;show leap mask (Nat.repeat (λx:Nat×Nat=>leap mask x.1 x.2) (K+1) p).1 (Nat.repeat (λx:Nat×Nat=>leap mask x.1 x.2) (K+1) p).2=leap mask (Nat.repeat (λx:Nat×Nat=>leap mask x.1 x.2) K (leap mask p.1 p.2)).1 (Nat.repeat (λx:Nat×Nat=>leap mask x.1 x.2) K (leap mask p.1 p.2)).2;rw[M p]
    let#[j,n,a1,a2,a3,a4]:=M (leap mask p.1 p.2) K ∅ #[q,h1,by rw[h2,L]];let pl:=Bm (t:=bare mask) (p:=p);let G:aC (bare mask) (aL mask p) (runEnd mask p.1-p.1+1)=aL mask (leap mask p.1 p.2):=pl;show#[j,runEnd mask p.1-p.1+1+n,a1,by rw[Ae,G];show a2,a3,λm F=>?_];by_cases O:m<=runEnd mask p.1-p.1
    .show B m O
    .obtain⟨k,rfl⟩:∃k,m=runEnd mask p.1-p.1+1+k:=#[m-(runEnd mask p.1-p.1+1),∅]
     rw[Ae,G];show a4 k ∅
def Bo(mask b:Nat):∀k,aP mask b k=Nat.repeat (λx:Nat×Nat=>leap mask x.1 x.2) k (b %(mask+1),b)
 |0=>rfl
 |k+1=>by show leap mask (aP mask b k).1 (aP mask b k).2=_;rw[Bo mask b k];rfl
structure lI(mask:Nat)(o:Array (Option Nat))(hs:List Int)(ps:List Nat):Prop where
 size:o.size=mask+1
 len:ps.length=hs.length
 nd:ps.Nodup
 le:∀j∈ps,j<=mask
 own:∀(j i:Nat),o.getD j none=some i↔ps[i]?=some j
 reach:∀(i:Nat)(h:Int)(j:Nat),hs[i]?=some h->ps[i]?=some j->∃n,(aC (bare mask) ((bare mask).probeStart h) n).j=j/\∀m,m<n->(aC (bare mask) ((bare mask).probeStart h) m).j∈ps
def Bd{mask:Nat}(O:lI mask o hs ps)(L:j<=mask):cJ o j=true↔j∉ps:=by
 let z:j<o.size:=by rw[O.size];lia
 unfold cJ;let J:o.getD j (some 0)=o[j]:=by simp[z]
 let B:o.getD j none=o[j]:=by simp[z]
 rw[J];constructor
 .intro h G;let#[i,hi,e]:=getElem_of_mem G;let:=(O.own j i).mpr (by rw[qh hi,e]);rw[B]at this;rw[this]at h;cases h
 .intro F;cases q:o[j]with
  |none=>rfl
  |some i=>have:=(O.own j i).mp (by rw[B,q]);show absurd (qL this) F
def Br(G:aZ t.mask):∀n,(aC t (t.probeStart h) n).j<=t.mask:=by
 have z:∀n(p:Probe),(p.j+p.more<=t.mask)->(aC t p n).j+(aC t p n).more<=t.mask:=by
  intro n;induction n with
  |zero=>intro p B;show B
  |succ n F=>
   intro p B;show F (t.advance p) ?_;unfold advance;split
   .show p.j+1+(p.more-1)<=t.mask;lia
   .let hi:(p.i*5+1+p.perturb/32) %(t.mask+1)<=t.mask:=by let:=mod_lt (p.i*5+1+p.perturb/32) (show 0<t.mask+1 by lia);lia
    show(p.i*5+1+p.perturb/32) %(t.mask+1)+(runEnd t.mask ((p.i*5+1+p.perturb/32) %(t.mask+1))-(p.i*5+1+p.perturb/32) %(t.mask+1))<=t.mask;unfold runEnd;split<;>lia
 intro n;let:=z n (t.probeStart h) (by
  let hi:bits h %(t.mask+1)<=t.mask:=by let:=mod_lt (bits h) (show 0<t.mask+1 by lia);lia
  show bits h %(t.mask+1)+(runEnd t.mask (bits h %(t.mask+1))-bits h %(t.mask+1))<=t.mask;unfold runEnd;split<;>lia)
 lia
def lI.step{mask:Nat}(F:aZ mask)(O:lI mask o hs ps)(hf:hs.length<mask+1):
  ∃j,layClean.free mask o (turns mask) (bits h %(mask+1)) (bits h)=some j/\lI mask (o.setIfInBounds j (some hs.length)) (hs++[h]) (ps++[j]):=by
 let#[e,he,h3]:=CL (mask+1) ps O.nd (λx B=>by let:=O.le x B;lia) (by rw[O.len];show hf);let h1:(aP mask (bits h) 13).1<=mask:=by let:(aP mask (bits h) 13).1<mask+1:=mod_lt _ ∅;lia
 let#[k,hk,ek]:=EY F h1 (show e<=mask by lia);let#[j,n,a1,a2,a3,a4]:=Ct (o:=o) (turns mask) (bits h %(mask+1),bits h) (13+k) (by unfold turns;lia) #[aP mask (bits h) (13+k),by rw[Ba,ek];show(Bd O ∅).mpr h3,Bo _ _ _];let Y:aL mask (bits h %(mask+1),bits h)=(bare mask).probeStart h:=rfl;rw[Y]at a2 a4;let M:j<=mask:=by rw[<-a2];show Br (t:=bare mask) F n
 let L:j∉ps:=(Bd O M).mp a3;let h4:j<o.size:=by rw[O.size];lia
 show#[j,a1,?_,?_,?_,?_,?_,?_]
 .rw[Array.size_setIfInBounds,O.size]
 .rw[qq,qq,O.len];rfl
 .show qw.mpr #[O.nd,by simp,λa ha b hb e=>?_];rw[qu.mp hb]at e;show L (e▸ha)
 .intro x B;rcases qx.mp B with z|z
  .show O.le x z
  .rw[qu.mp z];show M
 .intro x i;let J:(o.setIfInBounds j (some hs.length)).getD x none=if x=j then some hs.length else o.getD x none:=by
   simp[Array.getD_eq_getD_getElem?,Array.getElem?_setIfInBounds];by_cases B:j=x
   .subst B;simp[h4]
   .rw[qZ B,qZ (Ne.symm B)]
  rw[J];by_cases B:x=j
  .subst B;rw[qY rfl];constructor
   .intro z;let:=qf z;subst this;rw[<-O.len,getElem?_append_right (q8 _),sub_self];rfl
   .intro z;by_cases hi:i<ps.length
    .rw[getElem?_append_left hi]at z;show absurd (qL z) L
    .let G:=(qg.mp z).1;rw[qq,qB]at G;rw[show i=hs.length by rw[<-O.len];lia]
  .rw[qZ B,O.own x i];by_cases hi:i<ps.length
   .rw[getElem?_append_left hi]
   .rw[qO ∅];constructor
    .intro z;cases z
    .intro z;rw[getElem?_append_right ∅]at z;let:i-ps.length=0:=by let:=(qg.mp z).1;simp at this;lia
     rw[this]at z;show absurd (qf z).symm B
 .intro i g x J B;by_cases hi:i<ps.length
  .rw[getElem?_append_left hi]at B;rw[getElem?_append_left (by rw[<-O.len];show hi)]at J;let#[n',b1,b2]:=O.reach i g x J B;show#[n',b1,λm hm=>qj _ (b2 m hm)]
  .let G:=(qg.mp B).1;rw[qq,qB]at G;let h5:i=ps.length:=by lia
   subst h5;rw[getElem?_append_right (q8 _),sub_self]at B;rw[getElem?_append_right (by rw[O.len];show q8 _),O.len,sub_self]at J;let e1:j=x:=qf B;let e2:h=g:=qf J;subst e1 e2;show#[n,a2,λm hm=>qj _ ?_];let:=a4 m hm;cases q:decide ((aC (bare mask) ((bare mask).probeStart h) m).j∈ps)with
   |true=>show qS q
   |false=>have h2:=(Bd O (Br (t:=bare mask) F m)).mpr (of_decide_eq_false q);rw[h2]at this;cases this
def BE{mask:Nat}(hmk:aZ mask):∀(hs2 hs1:List Int)(o:Array (Option Nat))(ps:List Nat),lI mask o hs1 ps->(hs1++hs2).length<=mask->
  ∃o' ps',List.foldl (λ(zK:Option (Array (Option Nat)×Nat))(h:Int)=>do
   let(owner,k)<-zK
   let j<-layClean.free mask owner (turns mask) (bits h %(mask+1)) (bits h)
   pure (owner.setIfInBounds j (some k),k+1)) (some (o,hs1.length)) hs2=some (o',(hs1++hs2).length)/\lI mask o' (hs1++hs2) ps'
 |[],hs1,o,ps,O,_=>#[o,ps,by simp,↑O]
 |h::hs2,hs1,o,ps,O,hl=>by
  obtain⟨j,e,O'⟩:=O.step (h:=h) hmk (by rw[qq,qt]at hl;lia);let#[o',ps',e',O'']:=BE hmk hs2 (hs1++[h]) _ _ O' ↑hl;show#[o',ps',?_,↑O''];rw[foldl_cons];let:(do
   let(owner,k)<-(some (o,hs1.length):Option (Array (Option Nat)×Nat))
   let j<-layClean.free mask owner (turns mask) (bits h %(mask+1)) (bits h)
   pure (owner.setIfInBounds j (some k),k+1))=some (o.setIfInBounds j (some hs1.length),(hs1++[h]).length):=by
   show(do
    let j<-layClean.free mask o (turns mask) (bits h %(mask+1)) (bits h)
    pure (o.setIfInBounds j (some hs1.length),hs1.length+1))=_
   rw[e,qq];rfl
  rw[this];simpa using e'
def CO{mask:Nat}(z:aZ mask)(F:hs.size<=mask):∃o ps,layClean mask hs=some o/\lI mask o hs.toList ps:=by
 let J:lI mask (Array.replicate (mask+1) none) [] []:=#[by simp,rfl,by simp,by simp,λj i=>by by_cases h:j<mask+1<;>simp[h],λi h j G=>by simp at G]
 let#[o,ps,e,O]:=BE z hs.toList [] _ _ J F;show#[o,ps,?_,O];unfold layClean;rw[<-Array.foldl_toList];let B:=e;simp only[qv]at B;rw[B];rfl
def CU{α β:Type}{f:α->Option β}:∀(l:List α),(∀x∈l,(f x).isSome=true)->∀k:Nat,(l.filterMap f)[k]?=l[k]?.bind f
 |[],_,k=>by simp
 |x::l,h,k=>by
  let#[y,B]:=isSome_iff_exists.mp (h x (by simp));rw[filterMap_cons,B];cases k with
  |zero=>simp[B]
  |succ k=>show CU l (λz F=>h z (by simp[F])) k
def CP{α:Type}{mask finger moves:Nat}{led plain:Bool}{es:Array (Int×α)}(h9:aZ mask)(hl:es.size<=mask):
  ∃t B,laid mask finger moves led plain (es.map (·.1))=some (t,B)/\(B.filterMap (es[·]?)).toList.Perm es.toList/\fO t ((B.filterMap (es[·]?)).toList.map (·.1))/\t.mask=mask/\t.led=led/\t.plain=plain:=by
 let#[o,ps,e,O]:=CO h9 (hs:=es.map (·.1)) ↑hl;let hp:ps.length=es.size:=by rw[O.len];simp
 generalize h6:((List.range (mask+1)).filterMap λj=>(o.getD j none).map (j,·))=z;let G:∀x:Nat×Nat,x∈z↔ps[x.2]?=some x.1:=λx=>by
  rw[<-h6,mem_filterMap];constructor
  .rintro⟨j,hj,hx⟩;let#[i,hi,rfl]:=qW.mp hx;show(O.own j i).mp hi
  .intro h;show#[x.1,qI.mpr (by let:=O.le x.1 (qL h);lia),?_];rw[(O.own x.1 x.2).mpr h];rfl
 let M:(z.map (·.1)).Pairwise (·<·):=by rw[<-h6,pairwise_map,List.pairwise_filterMap];show List.pairwise_lt_range.imp λ{a b} e3 x hx y hy=>?_;let#[_,_,rfl]:=qW.mp hx;let#[_,_,rfl]:=qW.mp hy;show e3
 have h1:∀j,j∈z.map (·.1)↔j∈ps:=λj=>by
  rw[qJ];constructor
  .rintro⟨x,hx,rfl⟩;show qL ((G x).mp hx)
  .intro hj;let#[i,hi,ei]:=getElem_of_mem hj;show#[(j,i),(G (j,i)).mpr (by rw[qh hi,ei]),rfl]
 let h8:(z.map (·.2)).Nodup:=by rw[List.Nodup,pairwise_map];let h2:z.Pairwise λa b=>a.1<b.1:=pairwise_map.mp M;show List.Pairwise.imp_of_mem (λ{a b} ha hb e3 e=>?_) h2;let h3:=(G a).mp ha;let h4:=(G b).mp hb;rw[e,h4]at h3;lia
 have Y:∀i,i∈z.map (·.2)↔i<es.size:=λi=>by
  rw[qJ];constructor
  .rintro⟨x,hx,rfl⟩;let:=(qg.mp ((G x).mp hx)).1;lia
  simp_all
 let F:(z.map (·.2)).Perm (List.range es.size):=(List.perm_ext_iff_of_nodup h8 List.nodup_range).mpr λi=>by rw[Y,qI]
 let hk:z.length=es.size:=by let:=F.length_eq;rw[qo,qC]at this;show this
 show#[{mask,place:=(z.map (·.1)).toArray,dummies:=#[],finger,led,moves,plain},(z.map (·.2)).toArray,?_,?_,?_,rfl,rfl,rfl]
 .unfold laid;rw[e];show some _=some _;rw[<-h6]
 .rw[Array.toList_filterMap];let:=F.filterMap (es[·]?);rw[filterMap_getElem?_range]at this;show this
 .have h5:∀i∈z.map (·.2),(es[i]?).isSome=true:=λi hi=>by rw[getElem?_eq_getElem ((Y i).mp hi)];rfl
  have e2:∀k:Nat,(((z.map (·.2)).toArray.filterMap (es[·]?)).toList.map (·.1))[k]?=(z[k]?).bind λ(x:Nat×Nat)=>(es.map (·.1)).toList[x.2]?:=λk=>by
   rw[Array.toList_filterMap,qE,CU _ h5,qE];cases z[k]? with
   |none=>rfl
   |some x=>simp
  let J:Rising (z.map (·.1)).toArray:=by rw[ris_list];show M
  let L:(((z.map (·.2)).toArray.filterMap (es[·]?)).toList.map (·.1)).length=es.size:=by rw[qo];let:=(F.filterMap (es[·]?)).length_eq;rw[filterMap_getElem?_range]at this;rw[Array.toList_filterMap];show this
  let h7:∀n p,aC {mask,place:=(z.map (·.1)).toArray,dummies:=#[],finger,led,moves,plain} p n=aC (bare mask) p n:=Ao rfl;let e4:∀b,SetTable.probeStart {mask,place:=(z.map (·.1)).toArray,dummies:=#[],finger,led,moves,plain} b=(bare mask).probeStart b:=Am rfl;show#[J,rfl,h9,?_,λi hi=>?_,?_,λi hi h hh=>?_]
  .rw[L,qr,qo,hk]
  .let:(z.map (·.1)).toArray[i]∈z.map (·.1):=getElem_mem_toList hi;show O.le _ ((h1 _).mp this)
  .rw[L];show hl
  .let e1:i<z.length:=by simpa using hi
   rw[e2,qh e1]at hh;let#[n,a,b]:=O.reach z[i].2 h z[i].1 hh ((G z[i]).mp (getElem_mem e1));show#[n,?_,λm hm=>?_]
   .rw[h7,e4,a];simp
   .rw[AY J rfl,h7];show(h1 _).mpr (b m hm)
def fO.fits(T:fO t hs)(hn:hs.length=n):t.fits n=true:=by unfold SetTable.fits;rw[T.size,hn,and_eq_true,beq_iff_eq];show#[rfl,?_];unfold fill;rw[T.size,T.dum];let:=T.few;simp;lia
def fO.odd(T:fO t hs):t.gaveWay=false:=by unfold SetTable.gaveWay;rcases T.mask with h|h|h|h|h|h|h<;>rw[h]<;>rfl
def BR(n:Nat):(aC t (t.probeStart h) n).dummy=none:=by
 have B:∀n(p:Probe),p.dummy=none->(aC t p n).dummy=none:=by
  intro n;induction n with
  |zero=>intro p z;show z
  |succ n F=>intro p z;show F _ ?_;unfold advance;split<;>show z
 show B n _ rfl
section
variable{prog:Program}{w:World}{K:Type}[DecidableEq K](knd:HeapKind prog w K)
def cZ(xs:List (K×Addr)):List (Int×Value):=xs.map λp=>(knd.hash p.1,Value.ref p.2)
variable{knd}
def DS(B:∀{k:K}{b:Addr}{Q:Bool->Shared->Prop},knd.is s.heap k b->Q false s->wpAny (model prog w) A (ofAClassStatement 8 (.ref b)) Q E s){stored:List Value}(L:knd.is s.heap k b)
  (G:∀v∈stored,∃z c,v=.ref c/\knd.is s.heap z c)(h:Q false s):wpAny (model prog w) A (searchCouldBeSeen (.ref b) stored) Q E s:=by
 show qa ?_;show wpAny_forIn_list _ (λrest r s'=>s'=s/\r=(none,())/\∀v∈rest,∃z c,v=.ref c/\knd.is s.heap z c) _ ?_ ?_ _ _ #[rfl,rfl,G]
 .rintro x rest r s' ⟨rfl,rfl,J⟩;let#[z,c,rfl,M]:=J x qm;let F:∀v∈rest,∃z c,v=.ref c/\knd.is s'.heap z c:=λv O=>J v (qk _ O);dsimp only;split
  .show qb #[rfl,rfl,F]
  .show qa (knd.quiet L ?_);show qa (knd.quiet M ?_);show qa (B L ?_);show qa (B M ?_);show qb #[rfl,rfl,F]
 .rintro r s' ⟨rfl,rfl,_⟩;show qb h
theorem BB(hcl:∀{k:K}{b:Addr}{Q:Bool->Shared->Prop},knd.is s.heap k b->Q false s->wpAny (model prog w) A (ofAClassStatement 8 (.ref b)) Q E s)
  (hu:knd.room A)(hk:knd.is s.heap k b)(ho:s.heap.get? a=some o)(hd:o.data=.set es ep t)(he:es.toList=cZ knd xs)(his:∀x∈xs,knd.is s.heap x.1 x.2)(T:fO t (es.toList.map (·.1)))
  (hf:n<10*turns t.mask)(hemp:t.slot (aC t (t.probeStart (knd.hash k)) n).j=.empty)(hne:∀m,m<n->t.slot (aC t (t.probeStart (knd.hash k)) m).j≠.empty)
  (h1:k∈xs.map (·.1)->Q (.there none) s)(h2:k∉xs.map (·.1)->Q (.free (aC t (t.probeStart (knd.hash k)) n).j false) s):
  ∀(r n0:Nat)(stand:Option Probe),n0<=n->n-n0<r->stand.getD (t.probeStart (knd.hash k))=aC t (t.probeStart (knd.hash k)) n0->
   (∀m,m<n0->∀i,t.slot (aC t (t.probeStart (knd.hash k)) m).j=.live i->(xs[i]?).map (·.1)≠some k)->wpAny (model prog w) A (setSearchFrom a (.ref b) (knd.hash k) true r stand) Q E s:=by
 let hsz:t.fits es.size=true:=T.fits (by simp);let zI:es.size=xs.length:=by rw[<-qT,he];simp[cZ]
 let hent:∀i:Nat,es[i]?=(xs[i]?).map λp=>(knd.hash p.1,Value.ref p.2):=λi=>by rw[<-qX,he];simp[cZ]
 intro r;induction r with
 |zero=>intro n0 stand _ h;lia
 |succ r ih=>
  intro n0 stand hn0 hr hst hsofar;show qa (wpAny_setState_of ho hd hsz ?_);dsimp only;rw[T.odd];simp only[false_eq_true,if_false];let hgo:=CK (t:=t) (hashAt:=λi=>(es[i]?.map (·.1)).getD 0) (h:=knd.hash k) T.ris T.dum (10*turns t.mask) (n-n0) (aC t (t.probeStart (knd.hash k)) n0) (BR n0)
   (by rw[<-Ae,show n0+(n-n0)=n by lia];show hemp) (λm hm=>by rw[<-Ae];show hne _ ∅) ∅
  rw[hst];rcases hgo with⟨g1,g2⟩|⟨m,i,g1,g2,g3,g4,g5⟩
  .have e:t.probe (λi=>(es[i]?.map (·.1)).getD 0) (knd.hash k) (aC t (t.probeStart (knd.hash k)) n0)=some (.empty (aC t (t.probeStart (knd.hash k)) n).j none):=by unfold probe;rw[g1,<-Ae,show n0+(n-n0)=n by lia]
   have none_hit:k∉xs.map (·.1):=λhmem=>by
    let#[x,hx,hxk]:=qJ.mp hmem;let#[i,hi,ei]:=getElem_of_mem hx;let hip:i<t.place.size:=by rw[T.size];simp;lia
    let hh:(es.toList.map (·.1))[i]?=some (knd.hash k):=by rw[qE,qX,hent,qh hi,ei,<-hxk];rfl
    let#[q,q1,q2]:=T.reach i hip _ hh;let hql:t.slot (aC t (t.probeStart (knd.hash k)) q).j=.live i:=by rw[q1];show Bj T.ris hip rfl
    have hqn:q<n:=by
     rcases Nat.lt_trichotomy q n with z|z|z
     .show z
     .subst z;rw[hql]at hemp;cases hemp
     .show absurd hemp (q2 n z)
    by_cases hq0:q<n0
    .show hsofar q hq0 i hql (by rw[qh hi,ei,<-hxk];rfl)
    .let:=g2 (q-n0) ∅ i (by rw[<-Ae,show n0+(q-n0)=q by lia];show hql);apply this;rw[hent,qh hi,ei,<-hxk];rfl
   split
   .rename_i met heq;let h3:t.probe (λi=>(es[i]?.map (·.1)).getD 0) (knd.hash k) (aC t (t.probeStart (knd.hash k)) n0)=some met:=heq;rw[e]at h3;cases h3;show qb (h2 none_hit)
   .rename_i heq;show absurd e (heq _)
  .have e:t.probe (λi=>(es[i]?.map (·.1)).getD 0) (knd.hash k) (aC t (t.probeStart (knd.hash k)) n0)=some (.candidate (aC t (t.probeStart (knd.hash k)) (n0+m)).j i (aC t (t.probeStart (knd.hash k)) (n0+m+1))):=by unfold probe;rw[g4,<-Ae,<-Ae];rfl
   rw[<-Ae]at g2;let hip:∃hi:i<t.place.size,t.place[i]=(aC t (t.probeStart (knd.hash k)) (n0+m)).j:=by
    rcases An T.ris T.dum (aC t (t.probeStart (knd.hash k)) (n0+m)).j with⟨h,_⟩|⟨i',hi',ei',hl'⟩
    .rw[h]at g2;cases g2
    .rw[hl']at g2;cases g2;show#[hi',ei']
   let#[hip,_]:=hip;let hix:i<xs.length:=by rw[T.size]at hip;simp at hip;lia
   let hei:es[i]?=some (knd.hash xs[i].1,Value.ref xs[i].2):=by rw[hent,qh hix];rfl
   have hxi:=his xs[i] (getElem_mem hix);let body:wpAny (model prog w) A (match es[i]? with
     |some (_,y)=>do
      let equal<-holding [y] (eqBool y (Value.ref b))
      let __x<-setState a
      if(true&&equal)=true then pure (SetFound.there none)
       else
        match __x.2.snd.sameMemory t.moves t.mask with
        |some same=>
         match if same=true then __x.2.snd.slot (aC t (t.probeStart (knd.hash k)) (n0+m)).j else Slot.empty with
         |Slot.live i'=>
          match __x.fst[i']? with
          |some (_,y')=>do
           let __do_lift<-isSame y' y
           let still<-pure (if __do_lift=true then some i' else none)
           match still with
            |none=>do
             rule "set.search.anew"
             setSearchFrom a (Value.ref b) (knd.hash k) true r none
            |some i'=>
             if equal=true then pure (SetFound.there (some i'))
             else setSearchFrom a (Value.ref b) (knd.hash k) true r (some (aC t (t.probeStart (knd.hash k)) (n0+m+1)))
          |none=>do
           let still<-pure none
           match still with
            |none=>do
             rule "set.search.anew"
             setSearchFrom a (Value.ref b) (knd.hash k) true r none
            |some i'=>
             if equal=true then pure (SetFound.there (some i'))
             else setSearchFrom a (Value.ref b) (knd.hash k) true r (some (aC t (t.probeStart (knd.hash k)) (n0+m+1)))
         |x=>do
          let still<-pure none
          match still with
           |none=>do
            rule "set.search.anew"
            setSearchFrom a (Value.ref b) (knd.hash k) true r none
           |some i'=>
            if equal=true then pure (SetFound.there (some i'))
            else setSearchFrom a (Value.ref b) (knd.hash k) true r (some (aC t (t.probeStart (knd.hash k)) (n0+m+1)))
        |x=>unsupported "set.changed-during-lookup:is-the-new-block-at-the-old-address"
     |x=>unsupported "internal:set-entry") Q E s:=by
    rw[hei];show qa (zg (knd.eqBool hu hxi hk ?_));show qa (wpAny_setState_of ho hd hsz ?_);by_cases hkk:xs[i].1=k
    .rw[qP hkk];show qb (h1 (qJ.mpr #[xs[i],getElem_mem hix,hkk]))
    .rw[qQ hkk];let hsm:t.sameMemory t.moves t.mask=some true:=by unfold sameMemory;simp
     rw[hsm];dsimp only;rw[qY rfl,g2];dsimp only;rw[hei];show qa (wpAny_isSame_ref_self ?_);rw[qY rfl];show qa (qb ?_);show ih (n0+m+1) _ ∅ ∅ rfl λq hq i' hl'=>?_;rcases lt_or_ge q n0 with z|z
     .show hsofar q z i' hl'
     .rcases lt_or_ge q (n0+m)with z2|z2
      .intro hc;show g5 (q-n0) ∅ i' (by rw[<-Ae,show n0+(q-n0)=q by lia];show hl') ?_;rw[hent];cases hx:xs[i']? with
       |none=>rw[hx]at hc;cases hc
       |some x=>rw[hx]at hc;let:x.1=k:=qf hc;rw[<-this];rfl
      .let:q=n0+m:=by lia
       subst this;rw[g2]at hl';cases hl';rw[qh hix];show λz=>hkk (qf z)
   split
   .rename_i met heq;let h3:t.probe (λi=>(es[i]?.map (·.1)).getD 0) (knd.hash k) (aC t (t.probeStart (knd.hash k)) n0)=some met:=heq;rw[e]at h3;cases h3;dsimp only;split
    .refine qa (DS hcl hk (λv hv=>?_) ?_)
     .obtain⟨p,hp,rfl⟩:=qJ.mp hv;let hp2:p∈es.toList:=by let:=mem_toList_iff.mp hp;exact mem_toList_iff.mpr (Array.mem_filter.mp this).1
      rw[he]at hp2;let#[x,hx,rfl]:=qJ.mp hp2;show#[x.1,x.2,rfl,his x hx]
     .simp;show body
    .show body
   .rename_i heq;show absurd e (heq _)
def dG(t:SetTable)(n:Nat):Prop:=n*5<t.mask*3
def dN(ld:Bool)(knd:HeapKind prog w K)(h:Heap)(a:Addr)(xs:List (K×Addr)):Prop:=∃o es ep t,h.get? a=some o/\o.ExactSet/\o.data=.set es ep t/\t.led=ld/\fO t (es.toList.map (·.1))/\dG t es.size/\es.toList=cZ knd xs/\(∀x∈xs,knd.is h x.1 x.2)/\(xs.map (·.1)).Nodup
def Co(T:fO t hs):fO {t with plain:=p} hs:=by let G:∀n q,aC {t with plain:=p} q n=aC t q n:=Ao rfl;let F:∀b,SetTable.probeStart {t with plain:=p} b=t.probeStart b:=Am rfl;let B:∀j,SetTable.slot {t with plain:=p} j=t.slot j:=λj=>rfl;show#[T.ris,T.dum,T.mask,T.size,T.le,T.few,λi hi h z=>?_];let#[n,a,b]:=T.reach i hi h z;grind
def BA(h:n<=1000):n<=sizeLine:=by rw[zf];lia
def Ay{h:Heap}(B:h.get? a=some o)(z:o.data=.set es ep t):(h.update a (Obj.putSet es' t')).get? a=some {o with data:=.set es' (ep+1) t'}:=by let:=za (Obj.putSet es' t') B (by rw[putSet_of es' t' z];rfl);rw[putSet_of es' t' z]at this;show this
def CI(Y:s.heap.get? a=some o)(hd:o.data=.set es ep t)(T:fO t (es.toList.map (·.1)))(hn:es.size=n)(L:aZ (sizeAbove F-1))(hr:n*5<(sizeAbove F-1)*3)
  (h:∀es' t',es'.toList.Perm es.toList->fO t' (es'.toList.map (·.1))->t'.mask=sizeAbove F-1->t'.led=t.led->Q () {s with heap:=s.heap.update a (Obj.putSet es' t')}):wpAny (model prog w) A (setRelay a F) Q E s:=by
 let hm:sizeAbove F-1<=511:=by rcases L with z|z|z|z|z|z|z<;>lia
 let M:es.size<=sizeAbove F-1:=∅
 let#[t',B,e1,e2,e3,e4,e5,e6]:=CP (finger:=t.finger) (moves:=t.movedTo (sizeAbove F-1)) (led:=t.led) (plain:=t.plain) L M;let J:(B.filterMap (es[·]?)).size=es.size:=by rw[<-qT,e2.length_eq,qT]
 show qa (wpAny_setState_of Y hd (T.fits (by simp)) ?_);dsimp only;let G:¬(sizeAbove F>sizeLine):=by rw[zf];lia
 rw[qZ G];let O:t.relaid (es.map (·.1)) F=some (t',B):=e1;rw[O];show qa ?_;show wpAny (model prog w) A (if((B.filterMap (es[·]?)).size !=es.size)=true then _ else _) _ E s;rw[J];simp;show qb ?_;show wpAny_storeSet_of Y hd (h _ t' e2 e3 e4 e5) (BA (by rw[J];lia))
def Dl(h:aZ m):7<=m/\m<=511:=by rcases h with z|z|z|z|z|z|z<;>lia
def Cu(h:l.Perm (cZ knd xs)):∃ys,ys.Perm xs/\l=cZ knd ys:=by
 unfold cZ at h;induction l generalizing xs with
 |nil=>
  let:=h.length_eq;let z:xs=[]:=↑this.symm
  subst z;show#[[],.refl _,rfl]
 |cons e l G=>
  let J:e∈xs.map λp=>(knd.hash p.1,Value.ref p.2):=h.mem_iff.mp (by simp);let#[x,z,rfl]:=qJ.mp J;let#[F,B,rfl]:=List.append_of_mem z;let h2:l.Perm ((F++B).map λp=>(knd.hash p.1,Value.ref p.2)):=by grind
  let#[ys,p,rfl]:=G h2;show#[x::ys,(List.Perm.cons x p).trans perm_middle.symm,rfl]
theorem DV(hcl:∀{k:K}{b:Addr}{Q:Bool->Shared->Prop},knd.is s.heap k b->Q false s->wpAny (model prog w) A (ofAClassStatement 8 (.ref b)) Q E s)(hbv:∀{k:K}{b:Addr}{Q:Bool->Shared->Prop},knd.is s.heap k b->(∀r,Q r s)->wpAny (model prog w) A (hashByValue 8 (.ref b)) Q E s)
  (hkp:∀{h h':Heap}{k:K}{c:Addr}{o:Obj}{es:Array (Int×Value)}{ep:Nat}{t:SetTable},knd.is h k c->h.get? a=some o->o.data=.set es ep t->Heap.SameBut a h h'->knd.is h' k c)
  (hu:knd.room A)(hk:knd.is s.heap k b)(hS:dN ld knd s.heap a xs)(hroom:xs.length<=150)
  (h1:k∈xs.map (·.1)->Q false s)(h2:k∉xs.map (·.1)->∀h' ys,Heap.SameBut a s.heap h'->ys.Perm ((k,b)::xs)->dN ld knd h' a ys->Q true {s with heap:=h'}):
  wpAny (model prog w) A (setAddHashed a (.ref b) (knd.hash k)) Q E s:=by
 let#[o,es,ep,t,ho,hex,hd,hld,T,hrm,he,his,hnd]:=hS;let hsz:t.fits es.size=true:=T.fits (by simp);let zI:es.size=xs.length:=by rw[<-qT,he];simp[cZ]
 let#[n,hf,hemp,hne]:=T.free (knd.hash k);let hmk:t.mask<=511:=by rcases T.mask with z|z|z|z|z|z|z<;>lia
 show zg (qa (wpAny_setState_of ho hd hsz ?_));dsimp only;let hbs:byScan (.ref b) es=false:=by simp[byScan,Value.scannable]
 rw[hbs];show qa ?_;show BB hcl hu hk ho hd he his T hf hemp hne (λhm=>?_) (λhm=>?_) 100000 0 none (zero_le _) (by unfold turns at hf;lia) rfl (λm hm=>by lia)
 .show qb (h1 hm)
 .dsimp only;show qa (wpAny_setState_of ho hd hsz ?_);let hjm:=Br (t:=t) (h:=knd.hash k) T.mask n;let hfew:(es.toList.map (·.1)).length+1<=t.mask:=by grind[length_map,length_toList,Dl,dG]
  let TP:=T.put hemp hne hjm hfew;generalize hj:(aC t (t.probeStart (knd.hash k)) n).j=j at*;let#[e1,e2,e3,e4]:=AL (t:=t) (j:=j) T.dum;let epl:(t.put j).1.led=t.led:=by unfold SetTable.put;first|rfl|(split<;>rfl)
  generalize hp:t.put j=tp at*;let#[t1,p]:=tp
  --the things behind it
  let hel:(insertAt es p (knd.hash k,Value.ref b)).toList=es.toList.take p++(knd.hash k,Value.ref b)::es.toList.drop p:=toList_insertAt ..;let TP':fO t1 ((insertAt es p (knd.hash k,Value.ref b)).toList.map (·.1)):=by simp_all
  let hys:(insertAt es p (knd.hash k,Value.ref b)).toList=cZ knd (xs.take p++(k,b)::xs.drop p):=by rw[hel,he];unfold cZ;simp_all
  let hyp:(xs.take p++(k,b)::xs.drop p).Perm ((k,b)::xs):=by grind[perm_middle.trans,take_append_drop]
  let hsz1:(insertAt es p (knd.hash k,Value.ref b)).size=es.size+1:=by rw[<-qT,hys];grind
  let all:∀{h':Heap}{ys:List (K×Addr)},Heap.SameBut a s.heap h'->ys.Perm ((k,b)::xs)->(∀x∈ys,knd.is h' x.1 x.2)/\(ys.map (·.1)).Nodup:=λ{h' ys} sb pm=>by grind
  have tail:∀t2:SetTable,fO t2 ((insertAt es p (knd.hash k,Value.ref b)).toList.map (·.1))->t2.mask=t.mask->t2.led=t.led->wpAny (model prog w) A (do
    storeSet a (insertAt es p (knd.hash k,Value.ref b)) t2
    if(!false&&t2.tooFull)=true then do
       setRelay a (grown (es.size+1))
       pure true
     else pure true) Q E s:=λt2 T2 em el=>by
   show qa (wpAny_storeSet_of ho hd ?_ (BA ∅));let ho1:=Ay (es':=insertAt es p (knd.hash k,Value.ref b)) (t':=t2) ho hd;let hsb1:=Heap.SameBut.update s.heap a (Obj.putSet (insertAt es p (knd.hash k,Value.ref b)) t2);let hfill:t2.fill=es.size+1:=by unfold fill;rw[T2.size,T2.dum,qo,qT,hsz1];rfl
   by_cases hfull:t2.tooFull=true
   .rw[hfull];let hn5:aZ (sizeAbove (grown (es.size+1))-1)/\(es.size+1)*5<(sizeAbove (grown (es.size+1))-1)*3:=by
     unfold tooFull at hfull;unfold dG at hrm;rcases T.mask with z|z|z|z|z|z|z
     .rw[show es.size+1=5 by lia];show#[.inr (.inr (.inl ⋯)),⋯]
     .rw[show es.size+1=9 by lia];show#[.inr (.inr (.inr (.inl ⋯))),⋯]
     .rw[show es.size+1=19 by lia];show#[.inr (.inr (.inr (.inr (.inl ⋯)))),⋯]
     .rw[show es.size+1=38 by lia];show#[.inr (.inr (.inr (.inr (.inr (.inl ⋯))))),⋯]
     .rw[show es.size+1=77 by lia];show#[.inr (.inr (.inr (.inr (.inr (.inr ⋯))))),⋯]
     .lia
     .lia
    show qa (CI (s:={s with heap:=s.heap.update a (Obj.putSet (insertAt es p (knd.hash k,Value.ref b)) t2)}) ho1 rfl T2 hsz1 hn5.1 hn5.2 λes' t' pm T' rm rl=>qb ?_);rw[hys]at pm;let#[ys,pm2,ey]:=Cu pm;let sb2:=hsb1.trans (Heap.SameBut.update (s.heap.update a (Obj.putSet (insertAt es p (knd.hash k,Value.ref b)) t2)) a (Obj.putSet es' t'));let hz':es'.size=es.size+1:=by rw[<-qT,ey];let:=(pm2.trans hyp).length_eq;grind[cZ,length_map,length_cons]
    let#[i1,i2]:=all sb2 (pm2.trans hyp);show h2 hm _ ys sb2 (pm2.trans hyp) #[_,es',_,t',Ay ho1 rfl,hex,rfl,rl.trans (el.trans hld),T',by unfold dG;rw[hz',rm];show hn5.2,ey,i1,i2]
   .rw[Bool.not_eq_true]at hfull;rw[hfull];let#[i1,i2]:=all hsb1 hyp;show qb (h2 hm _ _ hsb1 hyp #[_,_,_,t2,ho1,hex,rfl,el.trans hld,T2,?_,hys,i1,i2]);unfold tooFull at hfull;grind[dG]
  split
  .show qa (hbv hk λr=>?_);cases r with
   |true=>show tail t1 TP' e2 epl
   |false=>show tail {t1 with plain:=false} (Co TP') e2 epl
  grind
end
end ST
namespace ST
open PySem
section
variable{prog:Program}{w:World}{K:Type}[DecidableEq K]{knd:KeyKind prog w K}{A:Around}{E:zj}{s:Shared}{ks:List K}{b:Addr}
def Cw(h:carriedByValue v=true):ofAClassStatement n v=pure false:=by
 cases v with
 |ref a=>simp[carriedByValue]at h
 |_=>first|rfl|simp|(unfold ofAClassStatement;rfl)
def CT(h:carriedByValue v=true):∃r,hashByValue n v=pure r:=by
 cases v with
 |ref a=>simp[carriedByValue]at h
 |float bits t=>show#[(Float64.hash? bits).isSome,by rw[hashByValue]]
 |none|bool _|int _ _=>show#[true,by rw[hashByValue]]
 |_=>show#[false,by rw[hashByValue]]
def Cn(F:IsTupleKey knd s.heap ks b)(h:Q false s):wpAny (model prog w) A (ofAClassStatement 8 (.ref b)) Q E s:=by
 let M:=F.typeIs;let#[o,items,n,J,_,L,hi]:=F;unfold ofAClassStatement;show qa (wpAny_typeOf M ?_);dsimp only;show qa (qb ?_);show qa (wpAny_seqItems J L ?_);show qa ?_;rw[<-Array.forIn_toList];show wpAny_forIn_list _ (λrest r s'=>r.1=none/\s'=s/\∀v∈rest,carriedByValue v=true) _ ?_ ?_ _ _ #[rfl,rfl,hi.byValue]
 .rintro v rest r s' ⟨B,rfl,z⟩;rw[Cw (z v qm)];show qa (qb ?_);show qb #[rfl,rfl,λx G=>z x (qk _ G)]
 .rintro r s' ⟨B,rfl,_⟩;rw[B];show qb h
def CD(B:IsTupleKey knd s.heap ks b)(h:∀r,Q r s):wpAny (model prog w) A (hashByValue 8 (.ref b)) Q E s:=by
 let M:=B.typeIs;let#[o,items,n,J,_,L,hi]:=B;show qa (wpAny_specialOf M F.slot_tuple_hash.lookup ?_);dsimp only;show qa (wpAny_seqItems J L ?_);show qa ?_;rw[<-Array.forIn_toList];show wpAny_forIn_list _ (λrest r s'=>s'=s/\∀v∈rest,carriedByValue v=true) _ ?_ ?_ _ _ #[rfl,hi.byValue]
 .rintro v rest r s' ⟨rfl,z⟩;let#[c,e]:=CT (n:=7) (z v qm);rw[e];show qa (qb ?_);cases c
  .show qb (qb (h _))
  .show qb #[rfl,λx G=>z x (qk _ G)]
 .rintro r s' ⟨rfl,_⟩;cases r.1<;>show qb (h _)
def Cm(x:IsTupleKey knd h ks b)(J:h.get? a=some o)(L:o.data=.set es ep t)(hs:Heap.SameBut a h h'):IsTupleKey knd h' ks b:=by
 let#[o',items,n,z,G,F,hi]:=x;let B:b≠a:=by grind
 show#[o',items,n,(hs.2 b B).trans z,G,F,hi]
end
def Ca(hn:n≠0)(h:∀i,i<n->∀d,Q i {s with drawn:=d}):wpAny (model prog w) A (choose .order n) Q E s:=
 λ_ _ _=>#[hn,h _ (mod_lt _ (Nat.pos_of_ne_zero hn)) _]
def BG:∀(n:Nat){xs:List α}{s:Shared}{Q:List α->Shared->Prop},xs.length=n->(∀ys d,ys.Perm xs->Q ys {s with drawn:=d})->wpAny (model prog w) A (drawOrder n xs) Q E s
 |0,xs,s,Q,e,h=>by
  cases xs with
  |nil=>show qb (h [] s.drawn .nil)
  |cons _ _=>cases e
 |n+1,xs,s,Q,e,h=>by
  cases xs with
  |nil=>cases e
  |cons x xs=>show qa (Ca (by simp) λi hi d=>?_);rw[qh hi];show qa (BG n (by rw[List.length_eraseIdx,qY hi,e];rfl) λys B z=>?_);show qb (h _ B ((z.cons _).trans ?_));rw[List.eraseIdx_eq_take_drop_succ];show perm_middle.symm.trans ?_;rw[List.getElem_cons_drop,take_append_drop]
def Aw(h:Q (w.params.followText "set-order") s):wpAny (model prog w) A setsByText Q E s:=qa (wpAny_askSetting (qb h))
theorem slot_next:Slot "set_iterator" "__next__" "set_iterator.__next__":=
 .of (owner:="set_iterator") (n:="__next__") (by rw[typeLookup_type];kernel_rfl) (by decide+kernel) (by decide+kernel) (by decide+kernel)
  (by first|show .inl (by decide+kernel)|show .inr (by decide+kernel)) (by rw[isSubtype_type];kernel_rfl)
def Av:entryFor table "set_iterator.__next__"=some Builtin.«set_iterator.__next__»:=entryFor_of_tree (by kernel_rfl)
def AA(a:Value):argsOk "set_iterator.__next__" #[[a],[]]:=by unfold argsOk;kernel_rfl
def Bi:Slot "set_iterator" "__iter__" "set_iterator.__iter__":=
 .of (owner:="set_iterator") (n:="__iter__") (by rw[typeLookup_type];kernel_rfl) (by decide+kernel) (by decide+kernel) (by decide+kernel)
  (by first|show .inl (by decide+kernel)|show .inr (by decide+kernel)) (by rw[isSubtype_type];kernel_rfl)
def BY:entryFor table "set_iterator.__iter__"=some Builtin.«dict_keyiterator.__iter__»:=
 entryFor_alias (id':="dict_keyiterator.__iter__") (by kernel_rfl) rfl (by decide+kernel) (by kernel_rfl)
def Cy(a:Value):argsOk "set_iterator.__iter__" #[[a],[]]:=by unfold argsOk;kernel_rfl
def jU(h:Heap)(I a:Addr)(f:Value)(i n ep:Nat):Prop:=∃o,h.get? I=some o/\o.cls=.type "set_iterator"/\o.data=.fields [f,.int i 0,.ref a,.int n 0,.int ep 0].toArray
@[inline]def SetAt(h:Heap)(a:Addr)(es:Array (Int×Value))(ep:Nat)(t:SetTable):Prop:=∃o,h.get? a=some o/\o.data=.set es ep t/\t.fits es.size=true
@[inline]def TupAt(h:Heap)(p:Addr)(ys:List Nat):Prop:=∃o c,h.get? p=some o/\o.data=.seq (ys.map λi:Nat=>rawInt (i:Int)).toArray c
def jU.typeIs{s:Shared}(x:jU s.heap I a f i n ep):s.TypeIs (.ref I) "set_iterator":=let⟨o,ho,hc,_⟩:=x;#[o,ho,hc]
def BU(hit:jU s.heap I a (.ref p) i es.size ep)(hs:SetAt s.heap a es ep t)(Y:TupAt s.heap p ys)(hj:ys[i]?=some j)(he:es[j]?=some e)
  (hQ:∀h',jU h' I a (.ref p) (i+1) es.size ep->Heap.SameBut I s.heap h'->Q (some e.2) {s with heap:=h'}):wpAny (model prog w) A (pyNext (.ref I)) Q E s:=by
 obtain⟨o,L,hc,J⟩:=id hit;let#[o',B,G,M]:=hs;let#[O,c,z,F]:=Y;refine qa (wpAny_attempt (wpAny_callSpecial?_slot (name:=Str.ofString "__next__") hit.typeIs slot_next
  (ze slot_next hit.typeIs Av ?_ (AA _))))
 show wpAny _ _ (fieldsOf (.ref I)>>=_) _ _ s;show qa (wpAny_fieldsOf L J ?_);show qa (qa (wpAny_setState_of B G M (qb ?_)));rw[qZ (by simp)];show qa (wpAny_seqItems z F ?_);dsimp only;rw[qU,List.getElem?_toArray,qE,hj];dsimp only[map_some,rawInt];show qa (qa (wpAny_setState_of B G M ?_));dsimp only;rw[qZ (by simp),qU,he];show qb (qa (wpAny_setField L J (by simp) (qb #[_,rfl,qb (hQ _ ?_ (Heap.SameBut.update ..))])));show#[_,za _ L (Obj.isFreed_of_fields (Obj.data_mapFields J _)),(Obj.cls_mapFields ..).trans hc,by rw[Obj.data_mapFields J];simp]
def Cv(hh:A.handled=none)(hit:jU s.heap I a (.ref p) i es.size ep)(hs:SetAt s.heap a es ep t)(O:TupAt s.heap p ys)(Y:ys[i]?=none)
  (hQ:∀h',Heap.ExtBut I s.heap h'->Q none {s with heap:=h'}):wpAny (model prog w) A (pyNext (.ref I)) Q E s:=by
 obtain⟨o,J,hc,F⟩:=id hit;let#[o',G,L,hf]:=hs;let#[M,c,z,B]:=O;refine qa (wpAny_attempt (wpAny_callSpecial?_slot (name:=Str.ofString "__next__") hit.typeIs slot_next
  (ze slot_next hit.typeIs Av ?_ (AA _))))
 show wpAny _ _ (fieldsOf (.ref I)>>=_) _ _ s;show qa (wpAny_fieldsOf J F ?_);show qa (qa (wpAny_setState_of G L hf (qb ?_)));rw[qZ (by simp)];show qa (wpAny_seqItems z B ?_);dsimp only;rw[qU,List.getElem?_toArray,qE,Y];show qa (wpAny_setField J F (by simp) ?_);show qa (wpAny_setField (za _ J (Obj.isFreed_of_fields (Obj.data_mapFields F _))) (Obj.data_mapFields F _) (by simp) ?_);show qa ?_;show qa (zd ?_ (by size_fits));show qa (m:=firstArgMember _ _) (zh (a:=Value.none) (by first|rfl|(simp;rfl)) ?_);show zd ?_ (by size_fits);show qa (wpAny_handled ?_);rw[show A.in1.handled=none from hh];show qa (qb (wpAny_throw ?_));show qa (wpAny_isInstance (T:="StopIteration") (b:=true) ⟨_,qd _ rfl,rfl⟩ isSubtype_stop ?_);show qb (hQ _ ((((Heap.SameBut.update ..).trans (Heap.SameBut.update ..)).extBut.push _).push _))
def BD{slot slot':Nat}(hit:jU s.heap I a (.int slot 0) i es.size ep)(hs:SetAt s.heap a es ep t)
  (hn:∀(A:Around)(E:zj)(R:Option (Value×Nat)->Shared->Prop),R (some (v,slot')) s->wpAny (model prog w) A (setNext a slot i ep) R E s)
  (M:∀h',jU h' I a (.int slot' 0) (i+1) es.size ep->Heap.SameBut I s.heap h'->Q (some v) {s with heap:=h'}):wpAny (model prog w) A (pyNext (.ref I)) Q E s:=by
 obtain⟨o,B,L,z⟩:=id hit;let#[o',F,G,J]:=hs;refine qa (wpAny_attempt (wpAny_callSpecial?_slot (name:=Str.ofString "__next__") hit.typeIs slot_next
  (ze slot_next hit.typeIs Av ?_ (AA _))))
 show wpAny _ _ (fieldsOf (.ref I)>>=_) _ _ s;show qa (wpAny_fieldsOf B z ?_);dsimp only;show qa (qa (wpAny_setState_of F G J (qb ?_)));rw[qZ (by simp)];show qa (hn _ _ _ ?_);show qa (wpAny_setField B z (by simp) ?_);show qa (wpAny_setField (za _ B (Obj.isFreed_of_fields (Obj.data_mapFields z _))) (Obj.data_mapFields z _) (by simp) ?_);show qb #[_,rfl,qb (M _ ?_ ((Heap.SameBut.update ..).trans (Heap.SameBut.update ..)))];show#[_,za _ (za _ B (Obj.isFreed_of_fields (Obj.data_mapFields z _))) (Obj.isFreed_of_fields (Obj.data_mapFields (Obj.data_mapFields z _) _)),(Obj.cls_mapFields ..).trans ((Obj.cls_mapFields ..).trans L),by rw[Obj.data_mapFields (Obj.data_mapFields z _)];simp[rawInt]]
def Ck{slot:Nat}(J:A.handled=none)(hit:jU s.heap I a (.int slot 0) i es.size ep)(hs:SetAt s.heap a es ep t)
  (hn:∀(A:Around)(E:zj)(R:Option (Value×Nat)->Shared->Prop),R none s->wpAny (model prog w) A (setNext a slot i ep) R E s)
  (M:∀h',Heap.ExtBut I s.heap h'->Q none {s with heap:=h'}):wpAny (model prog w) A (pyNext (.ref I)) Q E s:=by
 obtain⟨o,F,O,G⟩:=id hit;let#[o',z,B,L]:=hs;refine qa (wpAny_attempt (wpAny_callSpecial?_slot (name:=Str.ofString "__next__") hit.typeIs slot_next
  (ze slot_next hit.typeIs Av ?_ (AA _))))
 show wpAny _ _ (fieldsOf (.ref I)>>=_) _ _ s;show qa (wpAny_fieldsOf F G ?_);dsimp only;show qa (qa (wpAny_setState_of z B L (qb ?_)));rw[qZ (by simp)];show qa (hn _ _ _ ?_);show qa (wpAny_setField F G (by simp) ?_);show qa ?_;show qa (zd ?_ (by size_fits));show qa (m:=firstArgMember _ _) (zh (a:=Value.none) (by first|rfl|(simp;rfl)) ?_);show zd ?_ (by size_fits);show qa (wpAny_handled ?_);rw[show A.in1.handled=none from J];show qa (qb (wpAny_throw ?_));show qa (wpAny_isInstance (T:="StopIteration") (b:=true) ⟨_,qd _ rfl,rfl⟩ isSubtype_stop ?_);show qb (M _ (((Heap.SameBut.update ..).extBut.push _).push _))
def AV(hit:jU s.heap I a f i n ep)(h:Q (.ref I) s):wpAny (model prog w) A (pyIter (.ref I)) Q E s:=by show wpAny_pyIter_slot hit.typeIs Bi (ze Bi hit.typeIs BY ?_ (Cy _));show qb #[_,rfl,"set_iterator",_,hit.typeIs,slot_next.lookup,h]
end ST
namespace ST
open PySem PySem.SetTable
section
variable{prog:Program}{w:World}{A:Around}{E:zj}{s:Shared}{I a p:Addr}{es:Array (Int×Value)}{ep i slot:Nat}{t:SetTable}{ys:List Nat}
def AB(hs:SetAt s.heap a es ep t)(M:w.params.followText "set-order"=false)(B:¬(!t.plain&&decide (es.size>1))=true)(G:t.led=true)
  (h:R (match es[below t.place slot]?,t.place[below t.place slot]? with|some (_,x),some j=>some (x,j+1)|_,_=>none) s):wpAny (model prog w) A (setNext a slot i ep) R E s:=by
 let#[o',z,F,J]:=hs;show qa (wpAny_setState_of z F J ?_);show qa (Aw ?_);rw[M,qZ ⋯];split
 .rename_i L;show absurd L B
 .show qa ?_;show wpAny _ _ (if(!t.led&& !es.isEmpty)=true then _ else _) _ _ _;rw[G];show qb ?_;show qb h
def AH(hs:SetAt s.heap a es ep t)(G:w.params.followText "set-order"=true)
  (h:R (((pickOrder (w.params.setOrder a ep) es)[i]?).map λe=>(e.2,slot)) s):wpAny (model prog w) A (setNext a slot i ep) R E s:=by
 let#[o',z,B,F]:=hs;show qa (wpAny_setState_of z B F ?_);show qa (Aw ?_);rw[G,qY rfl,qZ (by simp)];show qa ?_;show qa (wpAny_setState_of z B F ?_);show qa (Aw ?_);rw[G];show qa (wpAny_askSetting ?_);show qb (qb h)
def Cb(B:Rising xs):below xs 0=0:=by
 let#[h1,h2,F]:=Aq (j:=0) B;rcases Nat.eq_zero_or_pos (below xs 0)with z|z
 .show z
 .show absurd (h2 0 ∅ z) (Nat.not_lt_zero _)
def Cc(B:Rising xs)(hi:i<xs.size):below xs (xs[i]+1)=i+1:=by
 let#[h1,h2,F]:=Aq (j:=xs[i]+1) B;let a:i<below xs (xs[i]+1):=Nat.lt_of_not_le λz=>absurd (F i hi z) ∅;rcases lt_or_ge (i+1) (below xs (xs[i]+1))with z|z
 .let b:=h2 (i+1) ∅ z;let c:=B i (i+1) hi ∅ ∅;lia
 .lia
end
def Ce(f:Nat->Nat):∀(n k:Nat)(left:List α)(z:Array α),left.length=n->((pickOrder.go f n k left z).toList).Perm (z.toList++left)
 |0,k,left,z,e=>by
  cases left with
  |nil=>unfold pickOrder.go;simp
  |cons _ _=>cases e
 |n+1,k,left,z,e=>by let hi:f k %left.length<left.length:=mod_lt _ ∅;unfold pickOrder.go;rw[qh hi];show(Ce f n (k+1) _ _ (by rw[List.length_eraseIdx,qY hi,e];rfl)).trans ?_;rw[Array.toList_push,qp];show List.Perm.append_left _ ?_;show(left[f k %left.length]::left.eraseIdx (f k %left.length)).Perm left;rw[List.eraseIdx_eq_take_drop_succ];show perm_middle.symm.trans ?_;rw[List.getElem_cons_drop,take_append_drop]
def AM(f:Nat->Nat)(xs:Array α):((pickOrder f xs).toList).Perm xs.toList:=by let:=Ce f xs.size 0 xs.toList #[] (by simp);first|rfl|assumption|(simp_all;done)
def SetAt.same(x:SetAt h a es ep t)(hs:Heap.SameBut I h h')(z:a≠I):SetAt h' a es ep t:=let⟨o,ho,r⟩:=x;#[o,(hs.2 a z).trans ho,r]
def TupAt.same(x:TupAt h p ys)(hs:Heap.SameBut I h h')(z:p≠I):TupAt h' p ys:=let⟨o,c,ho,r⟩:=x;#[o,c,(hs.2 p z).trans ho,r]
def eV(ord:List (Int×Value))(i:Nat)(v:Value):Prop:=∃e,ord[i]?=some e/\v=e.2
def By(hh:A.handled=none){ord:List (Int×Value)}(ho:ord.length=es.size)(hy:ys.length=es.size)(hor:∀(i j:Nat),ys[i]?=some j->es[j]?=ord[i]?/\j<es.size)(ha:a≠I)(hp:p≠I):
  Walks prog w A I [I,a,p] [I] es.size (eV ord) (λi h=>jU h I a (.ref p) i es.size ep/\SetAt h a es ep t/\TupAt h p ys) where
 sub:=λb hb=>by rw[qu.mp hb];simp
 frame:=λi h h' st hk=>by let#[#[o,h1,h2],#[o',h3,h4],#[o'',c,h5,h6]]:=st;show#[#[o,hk I (by simp) o h1,h2],#[o',hk a (by simp) o' h3,h4],#[o'',c,hk p (by simp) o'' h5,h6]]
 item:=λi s Q E hi st hQ=>by let hj:ys[i]?=some (ys[i]'∅):=qh ∅;let#[he,hlt]:=hor i _ hj;let hoi:ord[i]?=some (ord[i]'∅):=qh ∅;show BU st.1 st.2.1 st.2.2 hj (he.trans hoi) λh' hit' hs'=>?_;show hQ _ h' s.toks #[_,hoi,rfl] #[hit',st.2.1.same hs' ha,st.2.2.same hs' hp] λb o hb e=>hs'.extBut b o (λz=>hb (by simp[z])) e
 done:=λs Q E st hQ=>Cv hh st.1 st.2.1 st.2.2 (qO ∅) λh' he'=>hQ h' s.toks λb o hb e=>he' b o (λz=>hb (by simp[z])) e
 self:=λ_ _ _ _ st hQ=>AV st.1 hQ
def BN(hh:A.handled=none)(hb:w.params.followText "set-order"=true)(ha:a≠I):
  Walks prog w A I [I,a] [I] es.size (eV (pickOrder (w.params.setOrder a ep) es).toList) (λi h=>jU h I a (.int ((0:Nat):Int) 0) i es.size ep/\SetAt h a es ep t) where
 sub:=λb hb=>by rw[qu.mp hb];simp
 frame:=λi h h' st hk=>by let#[#[o,h1,h2],#[o',h3,h4]]:=st;show#[#[o,hk I (by simp) o h1,h2],#[o',hk a (by simp) o' h3,h4]]
 item:=λi s Q E hi st hQ=>by let hl:=(AM (w.params.setOrder a ep) es).length_eq;rw[qT,qT]at hl;let hoi:(pickOrder (w.params.setOrder a ep) es)[i]?=some ((pickOrder (w.params.setOrder a ep) es)[i]'∅):=getElem?_eq_getElem ∅;show BD (slot':=0) st.1 st.2 (λA E R hR=>AH st.2 hb (by rw[hoi];show hR)) λh' hit' hs'=>?_;show hQ _ h' s.toks #[_,by rw[qX];show hoi,rfl] #[hit',st.2.same hs' ha] λb o hb e=>hs'.extBut b o (λz=>hb (by simp[z])) e
 done:=λs Q E st hQ=>by let hl:=(AM (w.params.setOrder a ep) es).length_eq;rw[qT,qT]at hl;show Ck hh st.1 st.2 (λA E R hR=>AH st.2 hb (by rw[Array.getElem?_eq_none ∅];show hR)) λh' he'=>hQ h' s.toks λb o hb e=>he' b o (λz=>hb (by simp[z])) e
 self:=λ_ _ _ _ st hQ=>AV st.1 hQ
def Bx(hh:A.handled=none)(hb:w.params.followText "set-order"=false)(hnd:¬(!t.plain&&decide (es.size>1))=true)(hl:t.led=true)(hr:Rising t.place)(hz:t.place.size=es.size)(ha:a≠I):
  Walks prog w A I [I,a] [I] es.size (eV es.toList) (λi h=>∃slot:Nat,jU h I a (.int slot 0) i es.size ep/\below t.place slot=i/\SetAt h a es ep t) where
 sub:=λb hb=>by rw[qu.mp hb];simp
 frame:=λi h h' st hk=>by let#[sl,#[o,h1,h2],hbl,#[o',h3,h4]]:=st;show#[sl,#[o,hk I (by simp) o h1,h2],hbl,#[o',hk a (by simp) o' h3,h4]]
 item:=λi s Q E hi st hQ=>by
  let#[sl,hit,hbl,hs]:=st;let hi':i<t.place.size:=∅
  show BD (slot':=t.place[i]+1) (v:=es[i].2) hit hs (λA E R hR=>AB hs hb hnd hl (by rw[hbl,getElem?_eq_getElem hi,getElem?_eq_getElem hi'];show hR)) λh' hit' hs'=>?_;show hQ _ h' s.toks #[es[i],by rw[qX];show getElem?_eq_getElem hi,rfl] #[_,hit',Cc hr hi',hs.same hs' ha] λb o hb e=>hs'.extBut b o (λz=>hb (by simp[z])) e
 done:=λs Q E st hQ=>by let#[sl,hit,hbl,hs]:=st;show Ck hh hit hs (λA E R hR=>AB hs hb hnd hl (by rw[hbl,Array.getElem?_eq_none (q8 _)];show hR)) λh' he'=>hQ h' s.toks λb o hb e=>he' b o (λz=>hb (by simp[z])) e
 self:=λ_ _ _ _ st hQ=>by let#[sl,hit,_]:=st;show AV hit hQ
def BZ:entryFor table "set.__iter__"=some Builtin.«frozenset.__iter__»:=
 entryFor_alias (id':="frozenset.__iter__") (by kernel_rfl) rfl (by decide+kernel) (by kernel_rfl)
theorem lt_of_get{h:Heap}(e:h.get? b=some o):b<h.objs.size:=Nat.lt_of_not_le λz=>by
 let:h.get? b=none:=by unfold Heap.get?;rw[Array.getElem?_eq_none z]
 rw[this]at e;cases e
def gI(es:Array (Int×Value))(j:Nat):Int×Value:=(es[j]?).getD (0,.none)
def Cq(es:Array (Int×Value)):(List.range es.size).map (gI es)=es.toList:=by show List.ext_getElem (by simp) λi h1 h2=>?_;simp at h1;rw[List.getElem_map,List.getElem_range];unfold gI;rw[getElem?_eq_getElem h1];rfl
def CS(hT:s.TypeIs (.ref a) "set")(hs:SetAt s.heap a es ep t)(hr:Rising t.place)(hz:t.place.size=es.size)(h3:w.params.followText "set-order"=false->t.led=true)(hn:es.size<=300)
  (hQ:∀(I:Addr)(h':Heap)(d:Drawn)(ord:List (Int×Value))(fp:List Addr)(St:Nat->Heap->Prop),ord.Perm es.toList->(∀A':Around,A'.handled=none->Walks prog w A' I fp [I] es.size (eV ord) St)->St 0 h'->I∈fp->
   (∀b∈fp,(b=a\/s.heap.objs.size<=b)/\b<h'.objs.size)->(∀b o,s.heap.get? b=some o->h'.get? b=some o)->s.heap.objs.size<=I->Q (.ref I) {s with heap:=h',drawn:=d}):wpAny (model prog w) A (pyIter (.ref a)) Q E s:=by
 let#[o',B,G,hf]:=id hs;let J:=lt_of_get B;show wpAny_pyIter_slot hT F.slot_set_iter (ze F.slot_set_iter hT BZ ?_ (F.args_set_iter_1 _));unfold Builtin.«frozenset.__iter__» Builtin.Frozenset.slot0 slotArgs;simp only[List.isEmpty_nil,Bool.not_true,↓reduceIte,bind_assoc,qv,bne_self_eq_false];show qa (qb ?_);show qa (qb ?_);show qa (qa (wpAny_setEntries_of B G hf (qb ?_)));show qa (qa (wpAny_setState_of B G hf ?_));show qa (Aw (qb ?_));let M:∀(h:Heap)(o:Obj)(b:Addr)(o2:Obj),h.get? b=some o2->(h.push o).get? b=some o2:=λh o b o2 e=>qc _ e;show wpAny _ _ (if(!w.params.followText "set-order"&&(!t.plain&&decide (es.size>1)))=true then _ else _) _ _ _;by_cases hc:(!w.params.followText "set-order"&&(!t.plain&&decide (es.size>1)))=true
 .rw[qY hc];show qa (BG es.size (by simp) λys d hp=>?_);let Y:ys.length=es.size:=by rw[hp.length_eq];simp
  let O:∀j∈ys,j<es.size:=λj hj=>qI.mp (hp.mem_iff.mp hj);show qa (wpAny_newTuple ?_ (by rw[qo,Y];show le_trans hn ⋯));show qa (qa (wpAny_setState_of (M _ _ _ _ B) G hf (qb ?_)));show qa (zd (qb #[_,rfl,"set_iterator",_,#[_,qd _ rfl,rfl],slot_next.lookup,?_]) (by size_fits));let g1:∀j,j<es.size->es[j]?=some (gI es j):=λj hj=>by unfold gI;rw[getElem?_eq_getElem hj];rfl
  let h5:(s.heap.push {cls:=.type "tuple",data:=.seq (ys.map λi:Nat=>rawInt (i:Int)).toArray}).get? s.heap.objs.size=some {cls:=.type "tuple",data:=.seq (ys.map λi:Nat=>rawInt (i:Int)).toArray}:=qd _ rfl;show hQ _ _ d (ys.map (gI es)) [_,a,s.heap.objs.size] _ ((hp.map _).trans (by rw[Cq])) (λA' hA=>By (ep:=ep) (t:=t) (ys:=ys) hA (by rw[qo,Y]) Y (λi j hj=>#[?_,O j (qL hj)]) ?_ ?_) #[#[_,qd _ rfl,rfl,rfl],#[_,M _ _ _ _ (M _ _ _ _ B),G,hf],#[_,_,M _ _ _ _ h5,rfl]] (by simp) (λb L=>?_) (λb o e=>M _ _ _ _ (M _ _ _ _ e)) ?_
  .rw[qE,hj];show g1 j (O j (qL hj))
  .rw[Heap.size_push];show ne_of_lt (lt_succ_of_lt J)
  .rw[Heap.size_push];show ne_of_lt (lt_succ_self _)
  .rw[Heap.size_push,Heap.size_push];rw[Heap.size_push]at L;rcases qA.mp L with rfl|L
   .show#[.inr (le_succ _),lt_succ_self _]
   .rcases qA.mp L with rfl|L
    .show#[.inl rfl,lt_succ_of_lt (lt_succ_of_lt J)]
    .rw[qu.mp L];show#[.inr (q8 _),lt_succ_of_lt (lt_succ_self _)]
  .rw[Heap.size_push];show le_succ _
 .rw[qZ hc];show qa (qb ?_);show qa (qa (wpAny_setState_of B G hf (qb ?_)));show qa (zd (qb #[_,rfl,"set_iterator",_,#[_,qd _ rfl,rfl],slot_next.lookup,?_]) (by size_fits));let h2:a≠s.heap.objs.size:=ne_of_lt J;let h4:∀(o:Obj),∀b∈[s.heap.objs.size,a],(b=a\/s.heap.objs.size<=b)/\b<(s.heap.push o).objs.size:=λo b L=>by
   rw[Heap.size_push];rcases qA.mp L with rfl|L
   .show#[.inr (q8 _),lt_succ_self _]
   .rw[qu.mp L];show#[.inl rfl,lt_succ_of_lt J]
  by_cases L:w.params.followText "set-order"=true
  .show hQ _ _ s.drawn _ [_,a] _ (AM (w.params.setOrder a ep) es) (λA' hA=>BN (ep:=ep) (t:=t) hA L h2) #[#[_,qd _ rfl,rfl,rfl],#[_,M _ _ _ _ B,G,hf]] (by simp) (h4 _) (λb o e=>M _ _ _ _ e) (q8 _)
  .let h1:w.params.followText "set-order"=false:=by simpa using L
   show hQ _ _ s.drawn _ [_,a] _ (.refl _) (λA' hA=>Bx (ep:=ep) (t:=t) hA h1 (λz=>hc (by rw[h1,z];rfl)) (h3 h1) hr hz h2) #[0,#[_,qd _ rfl,rfl,rfl],Cb hr,#[_,M _ _ _ _ B,G,hf]] (by simp) (h4 _) (λb o e=>M _ _ _ _ e) (q8 _)
def Cr(hn:ord.length=n)(h:ItemsOf (eV ord) z n):z.toList=ord.map (·.2):=by
 show ext_getElem? λi=>?_;rw[qX,qE];rcases lt_or_ge i n with hi|hi
 .let h1:z[i]?=some (z[i]'(by rw[h.1];show hi)):=getElem?_eq_getElem _;let#[e,F,B]:=h.2 i _ h1;rw[h1,F,B];rfl
 .rw[Array.getElem?_eq_none (by rw[h.1];show hi),qO (by rw[hn];show hi)];rfl
def BH(hh:A.handled=none)(hT:s.TypeIs (.ref a) "set")(hs:SetAt s.heap a es ep t)(hr:Rising t.place)(hz:t.place.size=es.size)(h6:w.params.followText "set-order"=false->t.led=true)(hn:es.size<=300)
  (hQ:∀(s':Shared)(ord:List (Int×Value)),ord.Perm es.toList->(∀b o,s.heap.get? b=some o->s'.heap.get? b=some o)->s'.gens=s.gens->s'.os=s.os->s.toks<=s'.toks->Q (ord.map (·.2)) s'):wpAny (model prog w) A (collect (.ref a)) Q E s:=by
 let#[o',h5,hc,hf]:=id hs;let M:=lt_of_get h5;show qa (wpAny_runValue (codeAny_builtin F.entry_proto_collect ?_));show qa (zd ?_);show qb #[plainId_quiet F.plain_list_iadd _,codeAny_builtin F.entry_list_iadd ?_];let h3:(s.heap.push {cls:=.type "list",data:=.seq ([]:List Value).toArray}).get? s.heap.objs.size=some {cls:=.type "list",data:=.seq ([]:List Value).toArray}:=qd _ rfl;let h1:Builtin.List.listSameRef (.ref s.heap.objs.size) (.ref a)=false:=by simp[Builtin.List.listSameRef];show(ne_of_gt M)
 let hk:SetAt (s.heap.push {cls:=.type "list",data:=.seq ([]:List Value).toArray}) a es ep t:=#[o',qc _ h5,hc,hf]
 let Y:Shared.TypeIs {s with heap:=s.heap.push {cls:=.type "list",data:=.seq ([]:List Value).toArray}} (.ref a) "set":=by let#[o2,e1,e2]:=hT;show#[o2,qc _ e1,e2]
 show wpAny _ A.in1 (Builtin.List.listExtendWith (.ref s.heap.objs.size) (.ref a) (.ref s.heap.objs.size)) _ _ _;show qa (wpAny_typeOf Y ?_);rw[qZ (by rw[h1];decide)];show qa (CS Y hk hr hz h6 hn λI h' d ord fp St hp W e3 hI hi B h9=>?_);let O:Shared.TypeIs {s with heap:=h',drawn:=d} (.ref a) "set":=by let#[o2,e1,e2]:=Y;show#[o2,B _ _ e1,e2]
 show qa (zg ?_);show qa (wpAny_specialOf O F.slot_set_len.lookup ?_);generalize hx:("set.__len__":String)=hq
 wp_delta
 subst hx;show qa (wpAny_isInstance (b:=true) O (by rw[isSubtype_type];kernel_rfl) ?_);show qa (wpAny_typeOf O ?_);show qb ?_;let J:=B _ _ h3;let WS:=(W A.in1 hh).toS;show qa (wpAny_rule ?_);show qa ?_;show qa (wpAny_updateSeq J rfl ?_);let G:=za (Obj.mapSeq (·.push Value.none)) J rfl;show wpAny_updateSeq (hz:=by seq_fits) G rfl ?_;let h2:=za (Obj.mapSeq (·.pop)) G rfl;let h4:∀b o,b≠s.heap.objs.size->h'.get? b=some o->((h'.update s.heap.objs.size (Obj.mapSeq (·.push Value.none))).update s.heap.objs.size (Obj.mapSeq (·.pop))).get? b=some o:=
  λb o L e=>(q9 _ _ (Ne.symm L)).trans ((q9 _ _ (Ne.symm L)).trans e)
 have h8:s.heap.objs.size∉fp:=λhm=>by
  rcases(hi _ hm).1 with z|z
  .show ne_of_gt M z
  .rw[Heap.size_push]at z;show Nat.not_succ_le_self _ z
 let e4:es.size<=sizeLine:=le_trans hn ⋯;show qb #[plainId_quiet F.plain_extend_loop _,codeAny_extend_loopS WS e4 _ h8 _ es.size 0 _ _ _ rfl (zero_le _) ((W A.in1 hh).frame 0 _ _ e3 λb L o e=>h4 b o (λz=>h8 (z▸L)) e) h2 (ItemsOf.nil _) λs' hd c' hm hl h7=>?_];show qa (wpAny_load hl ?_);show qb ?_;rw[Cr (by rw[hp.length_eq,qT]) h7];show hQ s' ord hp (λb o e=>?_) hm.gens hm.os hm.toks;let L:=lt_of_get e;show hm.heap b o (λz=>?_) (h4 b o (ne_of_lt L) (B _ _ (qc _ e)));rcases qA.mp z with z|z
 .show ne_of_lt L z
 .rw[qu.mp z]at L;rw[Heap.size_push]at h9;show lt_irrefl _ (lt_of_lt_of_le L (le_trans (le_succ _) h9))
end ST
namespace ST
open PySem PySem.SetTable PyProof.Rows
section
variable{prog:Program}{w:World}{A:Around}{E:zj}{s:Shared}{I a p:Addr}{es:Array (Int×Value)}{ep i slot:Nat}{t:SetTable}{ys:List Nat}{h h':Heap}
theorem sorted_set(hh:A.handled=none)(hT:s.TypeIs (.ref a) "set")(hs:SetAt s.heap a es ep t)(hr:Rising t.place)(hz:t.place.size=es.size)(F:w.params.followText "set-order"=false->t.led=true)(hn:es.size<=300)
  (k:∀(B:Shared)(ord:List (Int×Value)),ord.Perm es.toList->(∀b o,s.heap.get? b=some o->B.heap.get? b=some o)->B.gens=s.gens->B.os=s.os->s.toks<=B.toks->
   (B.heap.push (seqObj "list" (ord.map (·.2)).toArray 0)).get? B.heap.objs.size=some (seqObj "list" (ord.map (·.2)).toArray 0)->
   wpAny (model prog w) A.in1.in1 (Builtin.«list.sort» #[[.ref B.heap.objs.size],[]]) (λG L=>∃r,G=.done (.ret r)/\Q (.ref B.heap.objs.size) L) E {B with heap:=B.heap.push (seqObj "list" (ord.map (·.2)).toArray 0)}):
  wpAny (model prog w) A (call (.builtin "sorted") [.ref a]) Q E s:=by
 show Calls.call_function_entry kind_sorted plain_sorted entry_sorted (args_sorted1 _) (?_:wpAny _ _ _ _ _ _);show qa (m:=checkCount "sorted" 1 1 _) (qb (qa (BH hh hT hs hr hz F hn λB ord M O hg ho Y=>?_)));let J:ord.length<=sizeLine:=by rw[M.length_eq];show le_trans hn ⋯
 show qa (wpAny_newList ?_ (by rw[qo];show J));let new:(B.heap.push (seqObj "list" (ord.map (·.2)).toArray 0)).get? B.heap.objs.size=some (seqObj "list" (ord.map (·.2)).toArray 0):=qd _ rfl;show qa (zg (ze slot_list_sort #[_,new,rfl] entry_list_sort (zi (k B ord M O hg ho Y new) ?_ λe s' z=>z) (args_list_sort _)));rintro G L ⟨r,rfl,q⟩;show#[_,rfl,qb #[_,rfl,q]]
end
def nS:Value->Int
 |.int n _=>n
 |_=>0
theorem ints_map(h:IntsAre vs ns):ns=vs.map nS/\∀v∈vs,∃n t,v=.int n t:=by
 induction h with
 |nil=>show#[rfl,λv z=>nomatch z]
 |cons n t _ B=>show#[by rw[qy,<-B.1];rfl,λv z=>?_];grind
def Cg:∀{vs:List Value},(∀v∈vs,∃n t,v=.int n t)->IntsAre vs (vs.map nS)
 |[],_=>.nil
 |v::vs,h=>by let#[n,t,rfl]:=h v qm;show .cons n t (Cg λu z=>h u (qk _ z))
def Cs(h:IntsAre vs ns)(z:us.Perm vs):∃ms,IntsAre us ms/\ms.Perm ns:=by let#[rfl,h2]:=ints_map h;show#[_,Cg λv B=>h2 v (z.mem_iff.mp B),z.map _]
theorem sortedHeap_at(B:h.get? a=some (seqObj "list" vs.toArray n))(z:Array Value):∃e,(sortedHeap h a vs z).get? a=some (seqObj "list" z e):=
 #[_,get?_update_seq (qc _ (qc _ (get?_update_seq B _))) _]
theorem sortedHeap_old(z:b≠a)(F:h.get? b=some o)(B:Array Value):(sortedHeap h a vs B).get? b=some o:=
 (q9 _ _ (Ne.symm z)).trans (qc _ (qc _ ((q9 _ _ (Ne.symm z)).trans F)))
section
variable{prog:Program}{w:World}{A:Around}{E:zj}{s:Shared}{a:Addr}{es:Array (Int×Value)}{ep:Nat}{t:SetTable}
theorem sorted_set_ints(hh:A.handled=none)(hT:s.TypeIs (.ref a) "set")(hs:SetAt s.heap a es ep t)(hr:Rising t.place)(hz:t.place.size=es.size)(G:w.params.followText "set-order"=false->t.led=true)(hn:es.size<64)
  (hI:IntsAre (es.toList.map (·.2)) ns)
  (k:∀(F:Shared)(D:Addr)(z:Array Value)(e:Nat)(B:List Int),IntsAre z.toList B->B.Perm ns->B.Pairwise (·<=·)->F.heap.get? D=some (seqObj "list" z e)->s.heap.get? D=none->(∀b o,s.heap.get? b=some o->F.heap.get? b=some o)->
   F.gens=s.gens->F.os=s.os->s.toks<=F.toks->Q (.ref D) F):wpAny (model prog w) A (call (.builtin "sorted") [.ref a]) Q E s:=by
 show sorted_set hh hT hs hr hz G ∅ λO ord Y J hg ho ht new=>?_;let#[ms,hm,L]:=Cs hI (Y.map _);let hl:(ord.map (·.2)).length<64:=by rw[qo,Y.length_eq];show hn
 show list_sort_tree new hm hl λz B a1 a2 a3=>#[_,rfl,?_]
 obtain⟨e,he⟩:=sortedHeap_at new z;let M:s.heap.get? O.heap.objs.size=none:=by
  cases q:s.heap.get? O.heap.objs.size with
  |none=>rfl
  |some o=>show absurd (lt_of_get (J _ _ q)) (lt_irrefl _)
 show k _ _ z e B a1 (a2.trans L) a3 he M (λb o q=>sortedHeap_old (ne_of_lt (lt_of_get (J b o q))) (qc _ (J b o q)) z) hg ho ht
end
def textOf:Value->Str
 |.str x _=>x
 |_=>Str.empty
theorem strs_map(h:StrsAre vs ss):ss=vs.map textOf/\∀v∈vs,∃x t,v=.str x t:=by
 induction h with
 |nil=>show#[rfl,λv z=>nomatch z]
 |cons n t _ B=>show#[by rw[qy,<-B.1];rfl,λv z=>?_];grind
def Cd:∀{vs:List Value},(∀v∈vs,∃x t,v=.str x t)->StrsAre vs (vs.map textOf)
 |[],_=>.nil
 |v::vs,h=>by let#[n,t,rfl]:=h v qm;show .cons n t (Cd λu z=>h u (qk _ z))
def Cp(h:StrsAre vs ss)(z:us.Perm vs):∃ms,StrsAre us ms/\ms.Perm ss:=by let#[rfl,h2]:=strs_map h;show#[_,Cd λv B=>h2 v (z.mem_iff.mp B),z.map _]
section
variable{prog:Program}{w:World}{A:Around}{E:zj}{s:Shared}{a:Addr}{es:Array (Int×Value)}{ep:Nat}{t:SetTable}
theorem sorted_set_strs(hh:A.handled=none)(hT:s.TypeIs (.ref a) "set")(hs:SetAt s.heap a es ep t)(hr:Rising t.place)(hz:t.place.size=es.size)(G:w.params.followText "set-order"=false->t.led=true)(hn:es.size<64)
  (hI:StrsAre (es.toList.map (·.2)) ss)
  (k:∀(B:Shared)(D:Addr)(F:Array Value)(e:Nat)(z:List Str),StrsAre F.toList z->z.Perm ss->sortedS z=true->B.heap.get? D=some (seqObj "list" F e)->s.heap.get? D=none->(∀b o,s.heap.get? b=some o->B.heap.get? b=some o)->
   B.gens=s.gens->B.os=s.os->s.toks<=B.toks->Q (.ref D) B):wpAny (model prog w) A (call (.builtin "sorted") [.ref a]) Q E s:=by
 show sorted_set hh hT hs hr hz G ∅ λs1 ord hp L hg ho ht new=>?_;let#[ms,O,M]:=Cp hI (hp.map _);let hl:(ord.map (·.2)).length<64:=by rw[qo,hp.length_eq];show hn
 show list_sort_treeK strKind_oneLt new O.keysOf (λh2 h1 rest e=>keyKind_strs (by rw[<-e];show O)) hl λJ a1 a2=>#[_,rfl,?_]
 obtain⟨z,b1,b2,b3⟩:=sorted_out_str O a1 a2;let#[e,he]:=sortedHeap_at new ((arrOf J).map (·.2));let Y:s.heap.get? s1.heap.objs.size=none:=by
  cases q:s.heap.get? s1.heap.objs.size with
  |none=>rfl
  |some o=>show absurd (lt_of_get (L _ _ q)) (lt_irrefl _)
 show k _ _ _ e z b1 (b2.trans M) b3 he Y (λb o q=>sortedHeap_old (ne_of_lt (lt_of_get (L b o q))) (qc _ (L b o q)) _) hg ho ht
def dN.at{K:Type}[DecidableEq K]{knd:HeapKind prog w K}{ld:Bool}{h:Heap}{xs:List (K×Addr)}(x:dN ld knd h a xs):∃es ep t,SetAt h a es ep t/\Rising t.place/\t.place.size=es.size/\t.led=ld/\es.toList.map (·.2)=xs.map λp=>Value.ref p.2:=by
 let#[o,es,ep,t,F,hex,M,z,T,B,L,J,G]:=x;show#[es,ep,t,#[o,F,M,T.fits (by simp)],T.ris,?_,z,?_]
 .rw[T.size];simp
 .rw[L];unfold cZ;rw[qD];rfl
end
end ST
namespace ST
open PySem PySem.SetTable
def Az(n:Nat):Rising (Array.range n):=by rw[ris_list];simp[List.pairwise_lt_range]
def Cj(G:Rising t.place)(J:t.dummies=#[]):∀(B:Nat)(p:Probe){j:Nat}{d:Option Nat},p.dummy=none->probe.go t hashAt h B p=some (.empty j d)->d=none/\t.slot j=.empty
 |0,_,_,_,_,e=>by cases e
 |B+1,p,j,d,hp,e=>by
  rw[probe.go]at e;let F:(t.advance p).dummy=none:=by
   unfold advance;split
   .show hp
   .show hp
  rcases An G J p.j with⟨z,_⟩|⟨i,hi,_,z⟩
  .rw[z]at e;cases e;show#[hp,z]
  .rw[z]at e;dsimp only at e;split at e
   .cases e
   .show Cj G J B _ F e
def CQ{mask finger moves:Nat}{led plain:Bool}(e:laid mask finger moves led plain hs=some (t',order)):Rising t'.place/\t'.dummies=#[]/\t'.led=led:=by
 unfold laid at e;cases q:layClean mask hs with
 |none=>rw[q]at e;cases e
 |some z=>rw[q]at e;cases e;show#[?_,rfl,rfl];rw[ris_list];rw[pairwise_map,List.pairwise_filterMap];show List.Pairwise.imp (λ{a b} B x G y F=>?_) List.pairwise_lt_range;let#[_,_,rfl]:=qW.mp G;let#[_,_,rfl]:=qW.mp F;show B
structure WTab(t:SetTable)(n:Nat)(ld:Bool):Prop where
 ris:Rising t.place
 dum:t.dummies=#[]
 fit:t.fits n=true
 ldd:t.led=ld
def CN(T:WTab t es.size ld):WTab (layNew t es h x).2.1 (layNew t es h x).1.size ld:=by
 refine#[?_,?_,layNew_fits t es h x,?_];all_goals
  unfold layNew;split
 .rename_i slot B e;dsimp only;unfold orStandIn;split
  .unfold freeSlot at e;split at e
   .rename_i j d q;cases e;let#[rfl,z]:=Cj T.ris T.dum _ (t.probeStart h) rfl q;rcases An T.ris T.dum j with⟨_,y⟩|⟨i,hi,_,y⟩
    .show Bc T.ris y
    .rw[z]at y;cases y
   .cases e
  .show Az _
 .show Az _
 .dsimp only;unfold orStandIn;split
  .show(AL T.dum).2.2.1
  .rfl
 .rfl
 .dsimp only;unfold orStandIn;split
  .show T.ldd
  .show T.ldd
 .show T.ldd
def BP(T:WTab t m ld):WTab (relayAll t es n).2.1 (relayAll t es n).1.size ld:=by
 refine#[?_,?_,relayAll_fits t es n,?_];all_goals
  unfold relayAll;split
 all_goals first
  |(rename_i B z e;dsimp only;let#[a,b,c]:=CQ e;split
    .first|show a|show b|show c.trans T.ldd
    .first|show Az _|rfl|show T.ldd)
  |show Az _
  |rfl
  |show T.ldd
def BQ(T:WTab t n ld):WTab {t with plain:=p} n ld:=⟨T.ris,T.dum,by let:=T.fit;cases t;show this,T.ldd⟩
section
variable{prog:Program}{w:World}{A:Around}{E:zj}{s:Shared}{a:Addr}{K:Type}[DecidableEq K]{knd:KeyKind prog w K}{xs:List (K×Value)}
def eD(knd:KeyKind prog w K)(xs:List (K×Value)):List (Int×Value):=xs.map λp=>(knd.hash p.1,p.2)
@[inline]def VSet(ld:Bool)(knd:KeyKind prog w K)(h:Heap)(a:Addr)(xs:List (K×Value)):Prop:=∃o es ep t,h.get? a=some o/\o.ExactSet/\o.data=.set es ep t/\WTab t es.size ld/\es.toList=eD knd xs/\(∀p∈xs,knd.is p.1 p.2=true/\p.2.scannable=true)/\(xs.map (·.1)).Nodup
def Bp(h:l.Perm (eD knd xs)):∃ys,ys.Perm xs/\l=eD knd ys:=by
 unfold eD at h;induction l generalizing xs with
 |nil=>
  let z:xs=[]:=↑h.length_eq.symm
  subst z;show#[[],.refl _,rfl]
 |cons e l G=>let#[x,z,rfl]:=qJ.mp (h.mem_iff.mp qm);let#[F,B,rfl]:=List.append_of_mem z;rw[map_append]at h;let#[ys,p,rfl]:=G (xs:=F++B) (by rw[map_append];show(h.trans perm_middle).cons_inv);show#[x::ys,(List.Perm.cons x p).trans perm_middle.symm,rfl]
def Dp{es:Array (Int×Value)}(G:es.toList=eD knd xs)(F:∀p∈xs,knd.is p.1 p.2=true/\p.2.scannable=true):ElemsOf knd es.toList:=λe B=>by rw[G]at B;let#[p,z,rfl]:=qJ.mp B;show#[#[p.1,(F p z).1,rfl],(F p z).2]
theorem BI{g:Bool->Sem Unit}(hg:∀(b:Bool)(s₁:Shared)(Q':Unit->Shared->Prop),Q' () s₁->wpAny (model prog w) A (g b) Q' E s₁)(ho:s.heap.get? a=some o)(hex:o.ExactSet)(hd:o.data=.set es ep t)
  (T:WTab t2 es1.size ld)(he:es1.toList=eD knd ys)(hk:∀p∈ys,knd.is p.1 p.2=true/\p.2.scannable=true)(hnd:(ys.map (·.1)).Nodup)(hz:ys.length<=1000)
  (h:∀h' zs,Heap.SameBut a s.heap h'->zs.Perm ys->VSet ld knd h' a zs->R (some true) {s with heap:=h'}):
  wpAny (model prog w) A (do
    storeSet a es1 t2
    if(!wd&&t2.tooFull)=true then do
       g (relayAll t2 es1 (grown es1.size)).2.2
       storeSet a (relayAll t2 es1 (grown es1.size)).1 (relayAll t2 es1 (grown es1.size)).2.1
       pure (some true)
     else pure (some true)) R E s:=by
 let hz1:es1.size<=sizeLine:=by rw[<-qT,he];unfold eD;rw[qo,zf];lia
 show qa (wpAny_storeSet_of ho hd ?_ hz1);let ho1:=Ay (es':=es1) (t':=t2) ho hd;let sb1:=Heap.SameBut.update s.heap a (Obj.putSet es1 t2);split
 .let hp:=relayAll_perm t2 es1 (grown es1.size);let T2:=BP (es:=es1) (n:=grown es1.size) T;generalize relayAll t2 es1 (grown es1.size)=R3 at hp T2⊢;let#[es2,t3,gave]:=R3;rw[he]at hp;let#[zs,pz,ez]:=Bp hp;let hz2:es2.size<=sizeLine:=by rw[<-qT,ez];unfold eD;rw[qo,pz.length_eq,zf];lia
  show qa (hg _ _ _ (qa (wpAny_storeSet_of ho1 rfl (qb ?_) hz2)));show h _ zs (sb1.trans (Heap.SameBut.update _ a _)) pz #[_,es2,_,t3,Ay ho1 rfl,hex,rfl,T2,ez,λp hp=>hk p (pz.mem_iff.mp hp),(pz.map _).nodup_iff.mpr hnd]
 .show qb (h _ ys sb1 (.refl _) #[_,es1,_,t2,ho1,hex,rfl,T,he,hk,hnd])
def HI(M:knd.is k x=true)(O:x.scannable=true)(hS:VSet ld knd s.heap a xs)(e2:xs.length<=150)
  (h1:k∈xs.map (·.1)->Q false s)(h2:k∉xs.map (·.1)->∀h' ys,Heap.SameBut a s.heap h'->ys.Perm ((k,x)::xs)->VSet ld knd h' a ys->Q true {s with heap:=h'}):
  wpAny (model prog w) A (setAddHashed a x (knd.hash k)) Q E s:=by
 let#[o,es,ep,t,ho,hex,hd,T,he,hk,e3]:=hS;let h8:=Dp he hk;let e4:es.size=xs.length:=by rw[<-qT,he];simp[eD]
 let hb:es.size<scanBound:=by show es.size<4096;lia
 show zg (qa (wpAny_setState_of ho hd T.fit ?_));dsimp only;rw[byScan_of O hb h8];show qa (qa (wpAny_rule (qa (wpAny_setScan_of M ho hd T.fit h8 ?_))));let h3:∀p∈xs,knd.is k p.2=true↔p.1=k:=λp G=>#[λz=>(knd.inj p.2 k p.1 z (hk p G).1).symm,λz=>z▸(hk p G).1]
 cases hr:List.findIdx? (λe=>knd.is k e.2) es.toList with
 |some j=>let#[hj,h5,_]:=List.findIdx?_eq_some_iff_getElem.mp hr;let hm:=getElem_mem hj;generalize es.toList[j]=e at hm h5;rw[he]at hm;let#[p,G,rfl]:=qJ.mp hm;show qb (qb (h1 (qJ.mpr #[p,G,(h3 p G).mp h5])))
 |none=>
  let hn:k∉xs.map (·.1):=λz=>by let#[p,G,e]:=qJ.mp z;let q:=List.findIdx?_eq_none_iff.mp hr (knd.hash p.1,p.2) (by rw[he];show qJ.mpr #[p,G,rfl]);rw[(h3 p G).mpr e]at q;cases q
  have B:=layNew_perm t es (knd.hash k) x;let T1:=CN (es:=es) (h:=knd.hash k) (x:=x) T;generalize layNew t es (knd.hash k) x=L at B T1⊢;let#[es1,t1,wd,h9]:=L;rw[Array.toList_push,he]at B;let#[ys,py,ey]:=Bp (knd:=knd) (xs:=(k,x)::xs) (B.trans (qM.trans (by unfold eD;show .refl _)));let h7:∀p∈ys,knd.is p.1 p.2=true/\p.2.scannable=true:=λp G=>by
   rcases qA.mp (py.mem_iff.mp G)with rfl|z
   .show#[M,O]
   .show hk p z
  let h6:(ys.map (·.1)).Nodup:=(py.map _).nodup_iff.mpr (qK.mpr #[hn,e3]);let h4:ys.length<=1000:=by rw[py.length_eq,qt];lia
  have gw:∀(b:Bool)(F:Shared)(Q':Unit->Shared->Prop),Q' () F->wpAny (model prog w) A (match b with|true=>rule "set.scan.the-table-gave-way"|false=>pure ()) Q' E F:=λb F Q' q=>by
   cases b
   .show qb q
   .show wpAny_rule q
  let e1:∀h' J,Heap.SameBut a s.heap h'->J.Perm ys->VSet ld knd h' a J->Q true {s with heap:=h'}:=λh' J Y pz V=>h2 hn h' J Y (pz.trans py) V;show qa (gw h9 _ _ ?_);split
  .show qa ?_;rw[hashByValue_scannable 8 O];show qb (BI gw ho hex hd (es1:=es1) (t2:=_) ?_ ey h7 h6 h4 λh' J Y pz V=>qb (e1 h' J Y pz V));split
   .show T1
   .show BQ T1
  .show qa (qb ?_);show BI gw ho hex hd T1 ey h7 h6 h4 λh' J Y pz V=>qb (e1 h' J Y pz V)
theorem setAddV(z:knd.is k x=true)(F:x.scannable=true)(M:VSet ld knd s.heap a xs)(B:xs.length<=150)
  (h1:k∈xs.map (·.1)->∀r,Q r {s with toks:=s.toks+1})(h2:k∉xs.map (·.1)->∀h' ys,Heap.SameBut a s.heap h'->ys.Perm ((k,x)::xs)->VSet ld knd h' a ys->∀r,Q r {s with heap:=h',toks:=s.toks+1}):
  wpAny (model prog w) A (setAdd a x) Q E s:=by
 show zg (qa (knd.pyHash z ?_));show HI (s:={s with toks:=s.toks+1}) z F M B (λG=>h1 G _) λG h' ys J L T=>h2 G h' ys J L T _
def VSet.at(x:VSet ld knd h a xs):∃es ep t,SetAt h a es ep t/\Rising t.place/\t.place.size=es.size/\t.led=ld/\es.toList.map (·.2)=xs.map (·.2):=by
 let#[o,es,ep,t,z,hex,F,T,B,_]:=x;show#[es,ep,t,#[o,z,F,T.fit],T.ris,?_,T.ldd,?_]
 .let:=T.fit;unfold fits at this;grind
 .rw[B];unfold eD;rw[qD];rfl
end
end ST
namespace ST
open PySem PySem.SetTable PyProof.Rows
def freshSet(ld:Bool):Obj:={cls:=.type "set",dict:=none,data:=.set #[] 0 (.fresh 0 0 ld)}
def ldOf(w:World):Bool:=!w.params.followText "set-order"
def Bh(ld:Bool):fO (.fresh 0 0 ld) []:=by
 let z:∀{i:Nat},i<(SetTable.fresh 0 0 ld).place.size->False:=λh=>by simp[SetTable.fresh]at h
 show#[λi j hi _ _=>(z hi).elim,rfl,.inl rfl,rfl,λi hi=>(z hi).elim,by simp,λi hi=>(z hi).elim]
theorem vset_new{K:Type}[DecidableEq K]{knd:KeyKind prog w K}{ld:Bool}{h:Heap}{a:Addr}(e:h.get? a=some (freshSet ld)):VSet ld knd h a []:=
 #[_,#[],0,_,e,#[rfl,rfl,rfl],rfl,#[(Bh ld).ris,rfl,rfl,rfl],rfl,λ_ z=>(nomatch z),.nil]
theorem tset_new{K:Type}[DecidableEq K]{knd:HeapKind prog w K}{ld:Bool}{h:Heap}{a:Addr}(e:h.get? a=some (freshSet ld)):dN ld knd h a []:=
 #[_,#[],0,_,e,#[rfl,rfl,rfl],rfl,rfl,Bh ld,(by show 0*5<7*3;decide),rfl,λ_ z=>(nomatch z),.nil]
def CC{St:Nat->Shared->Prop}(W:WalksS prog w A.in1 I fp wr G n P St)(S:Addr)(h3:S∉fp){J:Nat->Heap->Prop}
  (stay:∀i h h',i<=n->J i h->(∀b o,b∉wr->h.get? b=some o->h'.get? b=some o)->J i h')
  (step:∀i v(s:Shared)(Q:Bool->Shared->Prop)(E:zj),i<n->P i v->J i s.heap->(∀h' tk r,s.toks<=tk->Heap.SameBut S s.heap h'->J (i+1) h'->Q r {s with heap:=h',toks:=tk})->wpAny (model prog w) A.in1 (setAdd S v) Q E s):
  ∀(k i:Nat)(s:Shared),n-i=k->i<=n->St i s->J i s.heap->(∀s',Moved (S::wr) G s s'->J n s'.heap->R (.ok (.ret .none)) s')->
   codeAny (model prog w) A (.builtin "set.update.loop" #[[.ref S,.ref I],[]]) R s:=by
 intro k;induction k with
 |zero=>
  intro i s hk hi st hJ hR;let e:i=n:=∅
  subst e;show codeAny_builtin F.entry_set_update_loop ?_;show qa (W.done s _ _ st λs' O=>?_);show qb (hR s' (O.mono λb L=>qk _ L) (stay _ _ _ (q8 _) hJ O.heap))
 |succ k ih=>
  intro i s hk hi st hJ hR;let B:i<n:=∅
  show codeAny_builtin F.entry_set_update_loop ?_;show qa (W.item i s _ _ B st λv s' hP h1 O=>?_);show qa (zg (step i v s' _ _ B hP (stay _ _ _ hi hJ O.heap) λh' tk r ht sb h4=>?_));show qb #[plainId_quiet F.plain_set_update_loop _,ih (i+1) _ ∅ B (W.frame _ s' _ _ h1 ht λb L o e=>?_) h4 λh2 M Y=>?_]
  .rw[sb.2 b (λz=>h3 (z▸L))];show e
  .show hR h2 (Moved.trans W.gtrans ((O.mono λb L=>qk _ L).then_heap ht λb o L e=>?_) M) Y;rw[sb.2 b (λz=>L (z▸qm))];show e
def CG(x:Value)(h:Q (.ref s.heap.objs.size) {s with heap:=s.heap.push (freshSet (ldOf w))}):
  codeAny (model prog w) A (.call (.builtin "set.__new__") #[[.type "set",x],[]]) (wants Q E) s:=by
 show codeAny_of_tree ?_;show qa (zh (F.newCall_set_1 x) (qb #[plainId_quiet F.plain_set_new _,codeAny_builtin F.entry_set_new ?_]));unfold Builtin.«set.__new__» Builtin.Frozenset.newClass;let z:=sub_set_self
 wp_walk
 show wpAny_askSetting (qb ?_);show qa (wpAny_alloc (qb ?_));show qb h
@[inline]def WalkOk(prog:Program)(w:World)(s:Shared)(x:Value)(n:Nat)(P:Nat->Value->Prop):Prop:=∀(A:Around)(E:zj)(z:Shared)(Q:zj),(∀b o,s.heap.get? b=some o->z.heap.get? b=some o)->
 (∀(o:Obj)(fp:List Addr)(St:Nat->Heap->Prop),(∀A:Around,A.handled=none->Walks prog w A z.heap.objs.size fp [z.heap.objs.size] n P St)->St 0 (z.heap.push o)->(∀b∈fp,b=z.heap.objs.size\/b<s.heap.objs.size)->Q (.ref z.heap.objs.size) {z with heap:=z.heap.push o})->
 wpAny (model prog w) A (pyIter x) Q E z
def EV(F:s.TypeIs x T)(B:isSubtype (.type T) (.type "set")=pure false)(z:isSubtype (.type T) (.type "frozenset")=pure false)(h:Q false s):wpAny (model prog w) A (Builtin.Frozenset.isAnySet x) Q E s:=by show qa (wpAny_isInstance F B ?_);show wpAny_isInstance F z h
set_option maxHeartbeats 3200000 in
theorem call_set{J:Nat->Heap->Prop}(hh:A.handled=none)(hT:s.TypeIs x T)(e2:isSubtype (.type T) (.type "set")=pure false)(e1:isSubtype (.type T) (.type "frozenset")=pure false)(e3:(Value.type T==Value.type "dict")=false)
  (W:WalkOk prog w s x n P)(h0:∀h,h.get? s.heap.objs.size=some (freshSet (ldOf w))->(∀b o,s.heap.get? b=some o->h.get? b=some o)->J 0 h)
  (stay:∀i h h',i<=n->J i h->(∀b o,b≠s.heap.objs.size+1->h.get? b=some o->h'.get? b=some o)->J i h')
  (step:∀(A:Around) i v(s':Shared)(Q:Bool->Shared->Prop)(E:zj),i<n->P i v->J i s'.heap->(∀h' tk r,s'.toks<=tk->Heap.SameBut s.heap.objs.size s'.heap h'->J (i+1) h'->Q r {s' with heap:=h',toks:=tk})->A.units<=B->wpAny (model prog w) A (setAdd s.heap.objs.size v) Q E s')
  (hB:A.units+20<=B)
  (h:∀(h':Heap)(tk:Nat),J n h'->(∀b o,s.heap.get? b=some o->h'.get? b=some o)->s.toks<=tk->Q (.ref s.heap.objs.size) {s with heap:=h',toks:=tk}):
  wpAny (model prog w) A (call (.type "set") [x]) Q E s:=by
 let#[c,tl,hl]:=F.called_set.mro;let e4:=F.called_set.made;let hs:=F.called_set.sub;show wpAny_call (codeAny_of_tree ?_);show wpAny _ _ (callAny (.type "set") _) _ _ _;show qb #[Code.quiet_builtin _ (by decide+kernel),codeAny_builtin F.entry_type_call ?_];rw[Around.under_plain (weight_type_call_type "set" [x] []) rfl];let h1:=F.called_set.notType;let h2:=F.called_set.canCreate;let hq:=F.typeCall_set_1 x
 repeat (any_goals (first|assumption|wp_step))
 show codeAny_mono (CG x (E:=E) (Q:=λh5 M=>h5=.ref s.heap.objs.size/\M={s with heap:=s.heap.push (freshSet (ldOf w))}) #[rfl,rfl]) λr M hr=>?_;cases r with
 |error e=>show hr
 |ok fl=>
  cases fl with
  |ret h5=>
   let#[rfl,rfl]:=hr;let hS:(s.heap.push (freshSet (ldOf w))).get? s.heap.objs.size=some (freshSet (ldOf w)):=qd _ rfl;let h6:Shared.TypeIs {s with heap:=s.heap.push (freshSet (ldOf w))} (.ref s.heap.objs.size) "set":=⟨_,hS,rfl⟩
   let hd:=F.called_set.init.lookup;let ha:=F.called_set.init.bind (.ref s.heap.objs.size)
   repeat (any_goals (first|assumption|wp_step))
   show codeAny_mono (codeAny_call_builtin (R:=wants (λr L=>r=.none/\∃h' tk,L={s with heap:=h',toks:=tk}/\J n h'/\(∀b o,s.heap.get? b=some o->h'.get? b=some o)/\s.toks<=tk) E) F.called_set.init.plain F.entry_set_init (check_set_init_1 h6 ?_)) λh4 L G=>?_
   .have O:Shared.TypeIs {s with heap:=s.heap.push (freshSet (ldOf w))} x T:=by
     cases x with
     |ref l=>let#[o,e,q]:=hT;show#[o,qc _ e,q]
     |_=>show hT
    unfold Builtin.«set.__init__» noKeywords;generalize hp:Builtin.Frozenset.updateFrom=UF;unfold freshSet at hS h6 O⊢
    wp_walk
    subst hp;unfold Builtin.Frozenset.updateFrom;show qa (EV O e2 e1 ?_);simp only[false_eq_true,if_false];show qa (wpAny_typeOf O ?_);rw[e3];simp only[false_eq_true,if_false];show qa (W _ _ _ _ (λb o e=>qc _ e) λo fp St wk h8 hx=>?_);let hz:(s.heap.push (freshSet (ldOf w))).objs.size=s.heap.objs.size+1:=Heap.size_push ..;let hc:s.heap.objs.size∉fp:=λz=>by
     rcases hx _ z with y|y
     .rw[show s.heap.objs.size=(s.heap.push (freshSet (ldOf w))).objs.size from y]at hz;show absurd hz (ne_of_lt (lt_succ_self _))
     .show lt_irrefl _ y
    refine qa (wpAny_runValue ?_);refine CC (wk A.in1.in1.in1 hh).toS s.heap.objs.size hc (J:=J) (λi h h' hi Y hk=>stay i h h' hi Y λb o hb e=>hk b o (λz=>hb (by rw[<-hz];show qu.mp z)) e)
     (λi v s' Q E hi hP Y hk=>step _ i v s' Q E hi hP Y hk (by show A.units+1+1+1<=B;lia)) (n-0) 0 _ rfl (zero_le _) h8 (h0 _ (qc _ hS) λb o e=>qc _ (qc _ e)) λs' hm Y=>?_
    let#[h',g',d',h7,h9]:=s';let eg:g'=s.gens:=hm.gens;let ed:d'=s.drawn:=hm.drawn;let eo:h9=s.os:=hm.os;subst eg ed eo;show qb ?_;show wpAny _ _ (ret Value.none) _ _ _;show qb #[rfl,h',h7,rfl,Y,λb o e=>?_,hm.toks];let hb:=lt_of_get e;show hm.heap b o (λz=>?_) (qc _ (qc _ e));rcases qA.mp z with z|z
    .show ne_of_lt hb z
    .let:=qu.mp z;rw[this]at hb;show absurd hb (by show¬(s.heap.push (freshSet (ldOf w))).objs.size<_;rw[hz];show not_lt.mpr (le_succ _))
   .cases h4 with
    |error e=>show G
    |ok h3=>
     cases h3 with
     |ret r=>
      let#[rfl,h',tk,rfl,Y,hk,ht]:=G
      repeat (any_goals (first|assumption|wp_step))
      show h _ _ Y hk ht
     |_=>show G.elim
  |_=>show hr.elim
theorem walk_list(M:s.heap.IsList l items):WalkOk prog w s (.ref l) items.size (λi v=>items[i]?=some v):=λA E J Q L h=>by
 let#[o,e,r]:=M;let F:J.heap.IsList l items:=#[o,L _ _ e,r]
 have G:=lt_of_get e;let B:=lt_of_get (L _ _ e);exact wpAny_pyIter_list F (h _ [J.heap.objs.size,l] _ (λA Y=>Walks.list Y _ l (ne_of_lt B) items) #[#[_,qd _ rfl,rfl,rfl],F.push _] λb O=>by
  rcases qA.mp O with z|z
  .show .inl z
  .show .inr (by rw[qu.mp z];show G))
theorem walk_tuple(M:s.heap.IsTuple l items):WalkOk prog w s (.ref l) items.size (λi v=>items[i]?=some v):=λA E J Q L h=>by
 let#[o,e,r]:=M;let F:J.heap.IsTuple l items:=#[o,L _ _ e,r]
 have G:=lt_of_get e;let B:=lt_of_get (L _ _ e);exact wpAny_pyIter_tuple F (h _ [J.heap.objs.size,l] _ (λA Y=>Walks.tuple Y _ l (ne_of_lt B) items) #[#[_,qd _ rfl,rfl,rfl],let#[o,e,r]:=F;#[o,qc _ e,r]] λb O=>by
  rcases qA.mp O with z|z
  .show .inl z
  .show .inr (by rw[qu.mp z];show G))
end ST
theorem m1{α:Type}{a:α}{l:List α}:a∈a::l:=.head _
theorem m2{α:Type}{a b:α}{l:List α}:b∈a::b::l:=.tail _ m1
def DJ(i:Int)(n:Nat):max 0 (min (if i<0 then i+(n:Int)else i) (n:Int))=(((if i<0 then(i+(n:Int)).toNat else min i.toNat n):Nat):Int):=by
 by_cases h:i<0
 .rw[qY h,qY h,Int.min_eq_left ∅,Int.ofNat_toNat,Int.max_comm]
 .rw[qZ h,qZ h];let#[k,rfl]:=Int.eq_ofNat_of_zero_le (Int.not_lt.mp h);rw[qU];rcases Nat.le_total k n with q|q
  .rw[Nat.min_eq_left q,Int.min_eq_left (Int.ofNat_le.mpr q),Int.max_eq_right (Int.natCast_nonneg k)]
  .rw[Nat.min_eq_right q,Int.min_eq_right (Int.ofNat_le.mpr q),Int.max_eq_right (Int.natCast_nonneg n)]
theorem cps{A:Prop}(h:∀G:Prop,(A->G)->G):A:=h A id
namespace ST
open PySem PySem.SetTable
section
variable{prog:Program}{w:World}{A:Around}{E:zj}{s:Shared}{a b:Addr}{K:Type}[DecidableEq K]{knd:KeyKind prog w K}{ks:List K}{ld:Bool}{xs:List (List K×Addr)}
theorem setAddT(G:A.units<cLine)(z:IsTupleKey knd s.heap ks b)(hS:dN ld (tupleKind knd) s.heap a xs)(B:xs.length<=150)
  (h1:ks∈xs.map (·.1)->∀tk r,s.toks<=tk->Q r {s with toks:=tk})
  (h2:ks∉xs.map (·.1)->∀h' ys tk r,Heap.SameBut a s.heap h'->ys.Perm ((ks,b)::xs)->dN ld (tupleKind knd) h' a ys->s.toks<=tk->Q r {s with heap:=h',toks:=tk}):
  wpAny (model prog w) A (setAdd a (.ref b)) Q E s:=by
 show zg (qa ((tupleKind knd).pyHash G z ?_));show DV (s:={s with toks:=s.toks+(tupleKind knd).draws ks}) (knd:=tupleKind knd) (λz q=>Cn z q) (λz q=>CD z q) (λz O Y M=>Cm z O Y M) G z hS B (λF=>h1 F _ _ (Nat.le_add_right _ _)) λF h' ys J L T=>h2 F h' ys _ _ J L T (Nat.le_add_right _ _)
@[inline]def TRaw(ld:Bool)(knd:HeapKind prog w K)(h:Heap)(a:Addr)(xs:List (K×Addr)):Prop:=∃o es ep t,h.get? a=some o/\o.ExactSet/\o.data=.set es ep t/\t.led=ld/\fO t (es.toList.map (·.1))/\dG t es.size/\es.toList=cZ knd xs/\(xs.map (·.1)).Nodup
def TRaw.full{knd:HeapKind prog w K}{xs:List (K×Addr)}(x:TRaw ld knd h a xs)(k:∀x∈xs,knd.is h x.1 x.2):dN ld knd h a xs:=by let#[o,es,ep,t,h1,h2,L,J,G,F,B,z]:=x;show#[o,es,ep,t,h1,h2,L,J,G,F,B,k,z]
def dN.raw{knd:HeapKind prog w K}{xs:List (K×Addr)}(x:dN ld knd h a xs):TRaw ld knd h a xs:=by let#[o,es,ep,t,h1,h2,L,J,G,F,B,k,z]:=x;show#[o,es,ep,t,h1,h2,L,J,G,F,B,z]
def VSet.len{xs:List (K×Value)}(x:VSet ld knd s.heap a xs)(hz:xs.length<=1000)(h:Q (.int xs.length (s.toks+1)) {s with toks:=s.toks+1+1}):wpAny (model prog w) A (call (.builtin "len") [.ref a]) Q E s:=by
 let#[o,es,ep,t,B,hex,G,T,F,_]:=x;let z:es.size=xs.length:=by rw[<-qT,F];simp[eD]
 show call_len_set B hex G T.fit (by rw[z];lia) (by rw[z];show h)
def TRaw.len{knd:HeapKind prog w K}{xs:List (K×Addr)}(x:TRaw ld knd s.heap a xs)(hz:xs.length<=1000)(h:Q (.int xs.length (s.toks+1)) {s with toks:=s.toks+1+1}):wpAny (model prog w) A (call (.builtin "len") [.ref a]) Q E s:=by
 let#[o,es,ep,t,B,hex,G,_,T,_,F,_]:=x;let z:es.size=xs.length:=by rw[<-qT,F];simp[cZ]
 show call_len_set B hex G (T.fits (by simp)) (by rw[z];lia) (by rw[z];show h)
end
instance okDec(m:Nat):Decidable (aZ m):=by unfold aZ;infer_instance
end ST
namespace L2
open PySem PySem.Spec PyProof.Rows
abbrev aT:=Sum Int Str
def eR:aT->Value->Bool
 |.inl k,v=>Value.isInt k v
 |.inr x,v=>Value.isStrOf x v
def yQ(w:World):aT->Int
 |.inl k=>hashInt k
 |.inr x=>hashStr w x
def CY:∀{k:aT}{v:Value},eR k v=true->(∃i t,k=Sum.inl i/\v=Value.int i t)\/(∃x t,k=Sum.inr x/\v=Value.str x t)
 |.inl i,v,h=>by let#[t,e]:=Value.isInt_shape (k:=i) (v:=v) h;show .inl #[i,t,rfl,e]
 |.inr x,v,h=>by let#[t,e]:=Value.isStrOf_shape (x:=x) (v:=v) h;show .inr #[x,t,rfl,e]
def Rg(i:Int)(t:Tok):eR (.inl i) (.int i t)=true:=by simp[eR,Value.isInt]
def PU(x:Str)(t:Tok):eR (.inr x) (.str x t)=true:=by simp[eR,Value.isStrOf]
def MD(a b:Int):decide ((Sum.inl a:aT)=Sum.inl b)=(a==b):=by grind
def Ms(a b:Str):decide ((Sum.inr a:aT)=Sum.inr b)=decide (a=b):=by grind
def LR(a:Int)(b:Str):decide ((Sum.inl a:aT)=Sum.inr b)=false:=qQ (λq=>nomatch q)
def LS(a:Str)(b:Int):decide ((Sum.inr a:aT)=Sum.inl b)=false:=qQ (λq=>nomatch q)
def aH(prog:Program)(w:World):PySem.KeyKind prog w aT where
 is:=eR
 hash:=yQ w
 inj:=λv a b ha hb=>by
  rcases CY ha with⟨i,t,rfl,rfl⟩|⟨x,t,rfl,rfl⟩
  .rcases CY hb with⟨j,u,rfl,e⟩|⟨y,u,rfl,e⟩
   .injection e with e1 _;rw[e1]
   .show nomatch e
  .rcases CY hb with⟨j,u,rfl,e⟩|⟨y,u,rfl,e⟩
   .show nomatch e
   .injection e with e1 _;rw[e1]
 byValue:=λk v h=>by rcases CY h with⟨i,t,rfl,rfl⟩|⟨x,t,rfl,rfl⟩<;>rfl
 pyHash:=λhv h=>by
  rcases CY hv with⟨i,t,rfl,rfl⟩|⟨x,t,rfl,rfl⟩
  .show wpAny_pyHash_int h
  .show wpAny_pyHash_str h
 eqBool:=λhu hv h=>by
  rcases CY hu with⟨i,t,rfl,rfl⟩|⟨x,t,rfl,rfl⟩
  .rcases CY hv with⟨j,u,rfl,rfl⟩|⟨y,u,rfl,rfl⟩
   .rw[MD]at h;show wpAny_eqBool_int h
   .rw[LR]at h;show SeqAt.EqAt.int_str i t y u _ _ _ _ h
  .rcases CY hv with⟨j,u,rfl,rfl⟩|⟨y,u,rfl,rfl⟩
   .rw[LS]at h;show SeqAt.EqAt.str_int x t j u _ _ _ _ h
   .rw[Ms]at h;show wpAny_eqBool_str h
 «strs»:=λk x t v h=>by
  rcases CY h with⟨i,u,rfl,e⟩|⟨y,u,rfl,e⟩
  .show nomatch e
  .injection e with e1 _
   subst e1;cases v<;>rfl
def Rr(prog:Program)(w:World)(i:Int)(t:Tok):(aH prog w).is (.inl i) (.int i t)=true:=Rg i t
def Si(prog:Program)(w:World)(x:Str)(t:Tok):(aH prog w).is (.inr x) (.str x t)=true:=PU x t
inductive V where
 |non|bl(b:Bool)|int(i:Int)|str(x:Str)|byt(b:Array UInt8)|flt(b:UInt64)|ref(a:Addr)|ty(n:String)
 deriving DecidableEq
def zw:V->Value->Prop
 |.non,u=>u=Value.none
 |.bl b,u=>u=Value.bool b
 |.int i,u=>∃t,u=Value.int i t
 |.str x,u=>∃t,u=Value.str x t
 |.byt b,u=>∃t,u=Value.bytes b t
 |.flt b,u=>∃t,u=Value.float b t
 |.ref a,u=>u=Value.ref a
 |.ty n,u=>u=Value.type n
abbrev zC:List V->List Value->Prop:=Paired zw
def zC.length(r:zC xs us):xs.length=us.length:=Paired.length r
def zC.get:∀{xs:List V}{us:List Value}{i:Nat}{x:V},zC xs us->xs[i]?=some x->∃u,us[i]?=some u/\zw x u
 |_,_,_,_,.nil,e=>by simp at e
 |_,_,0,_,.cons r _,e=>by simp at e;subst e;show#[_,rfl,r]
 |_,_,i+1,x,.cons _ t,e=>by let#[u,h1,h2]:=zC.get (i:=i) (x:=x) t ↑e;show#[u,↑h1,h2]
def zC.set(r:zw x u):∀{xs:List V}{us:List Value}(i:Nat),zC xs us->zC (xs.set i x) (us.set i u)
 |_,_,_,.nil=>.nil
 |_,_,0,.cons _ t=>.cons r t
 |_,_,i+1,.cons q t=>.cons q (zC.set r i t)
def zC.append:∀{xs ys:List V}{us z:List Value},zC xs us->zC ys z->zC (xs++ys) (us++z):=by
 intro xs ys us z r s;induction r with
 |nil=>show s
 |cons r _ B=>show .cons r B
def zC.take:∀{xs:List V}{us:List Value}(n:Nat),zC xs us->zC (xs.take n) (us.take n)
 |_,_,0,_=>.nil
 |_,_,_+1,.nil=>.nil
 |_,_,n+1,.cons r t=>.cons r (zC.take n t)
def zC.drop:∀{xs:List V}{us:List Value}(n:Nat),zC xs us->zC (xs.drop n) (us.drop n)
 |_,_,0,r=>r
 |_,_,_+1,.nil=>.nil
 |_,_,n+1,.cons _ t=>zC.drop n t
def zC.none_of:∀{xs:List V}{us:List Value}{i:Nat},zC xs us->xs[i]?=none->us[i]?=none:=λ{xs us i} r e=>by let h1:=r.length;let h2:xs.length<=i:=List.getElem?_eq_none_iff.mp e;show List.getElem?_eq_none_iff.mpr ∅
def fC:Option V->Option Value->Prop
 |some v,some u=>zw v u
 |none,none=>True
 |_,_=>False
@[inline]def KV{κ:Type}:List (κ×V)->List (κ×Value)->Prop:=Paired λ(p:κ×V)(q:κ×Value)=>p.1=q.1/\zw p.2 q.2
def kV:aT->V
 |.inl i=>.int i
 |.inr x=>.str x
inductive HO where
 |lst(xs:List V)
 |tup(xs:List V)
 |dK(zG:List (aT×V))|dT(zG:List (List aT×V))
 |set(vs:List V)
 |ins(C dx:Addr)(fs:List (Str×V))
 |own(x:Addr)
 |xd(fs:List (Str×V))
 |met(f x:Addr)
 |rng(lo hi:Int)
 |frz(o:Obj)(u:HO)
 |tbl(ps:Array Value)
 |ext(φ:Heap->Prop)
abbrev Hp:=Addr->Option HO
def upd(H:Hp)(a:Addr)(o:HO):Hp:=λb=>if b=a then some o else H b
def AQ:upd H a o a=some o:=by unfold upd;rw[qY rfl]
def Ah(h:b≠a):upd H a o b=H b:=by unfold upd;rw[qZ h]
def Cz{H:Hp}(h:H a=some o)(h':H b=none):a≠b:=by intro e;subst e;rw[h]at h';cases h'
section
variable(P:Program)(w:World)
def iI(h:Heap)(a:Addr):Prop:=∀o,h.get? a=some o->o.dict=none
def iI.new{h:Heap}{c:Value}{x:Data}{n:Addr}(e:n=h.objs.size)(z:(h.push {cls:=c,data:=x}).get? h.objs.size=some {cls:=c,data:=x}):iI (h.push {cls:=c,data:=x}) n:=λo q=>by subst e;rw[z]at q;cases q;rfl
def zE(H:Hp)(h:Heap)(a:Addr):HO->Prop
 |.lst xs=>xs.length<=sizeLine/\∃(z:List Value)(n:Nat),zC xs z/\h.get? a=some {cls:=.type "list",data:=.seq z.toArray n}
 |.tup xs=>(xs.length<=sizeLine/\iI h a)/\∃z:List Value,zC xs z/\IsTup h a z.toArray
 |.dK zG=>zG.length<=sizeLine/\(a==sysModules)=false/\∃vs,KV zG vs/\h.DictOf (aH P w) a vs
 |.dT zG=>zG.length<=sizeLine/\(a==sysModules)=false/\∃xs:List (List aT×Addr×Value),
  Paired (λ(p:List aT×V)(q:List aT×Addr×Value)=>p.1=q.1/\H q.2.1=some (.tup (p.1.map kV))/\zw p.2 q.2.2) zG xs/\
  ∃o es ep,h.get? a=some o/\o.ExactDict/\o.data=.dict es ep/\es.toList=xs.map (entryOfKey (tupleKind (aH P w)))/\(xs.map (·.1)).Nodup
 |.set vs=>vs.length<=151/\((vs=[]/\h.get? a=some (ST.freshSet (ST.ldOf w)))\/(vs≠[]/\∃xs:List (aT×Value),vs.Perm (xs.map λp=>kV p.1)/\ST.VSet (ST.ldOf w) (aH P w) h a xs)\/vs≠[]/\∃xs:List (List aT×Addr),vs.Perm (xs.map λp=>V.ref p.2)/\(∀p∈xs,H p.2=some (.tup (p.1.map kV)))/\ST.TRaw (ST.ldOf w) (tupleKind (aH P w)) h a xs)
 |.ins C dx fs=>H dx=some (.own a)/\fs.length<=1000/\dx≠a/\h.get? a=some (W.instObj C dx)/\
  ∃B,h.Ns1 dx B/\(∀f,fC (fs.lookup f) (B f))/\PySem.Within B (fs.map (·.1))
 |.own _=>∃o,h.get? a=some o
 |.xd fs=>∃B,h.Ns1 a B/\∀f,fC (fs.lookup f) (B f)
 |.rng lo hi=>∃t u v,h.get? a=some {cls:=.type "range",data:=.fields [.int lo t,.int hi u,.int 1 v].toArray}
 |.frz o u=>h.get? a=some o/\zE H h a u
 |.tbl ps=>h.get? a=some {cls:=.none,data:=.fields ps}
 |.met f x=>h.get? a=some (W.methodObj (.ref f) (.ref x))
 |.ext φ=>φ h/\(∃o,h.get? a=some o)/\∀h1 h2:Heap,φ h1->(∀o,h1.get? a=some o->h2.get? a=some o)->φ h2
def cX(H:Hp)(h:Heap):Prop:=∀a o,H a=some o->zE P w H h a o
end
section
variable{P:Program}{w:World}{H H':Hp}{h h':Heap}{a:Addr}{o:HO}
def zE.lt(x:zE P w H h a o):a<h.objs.size:=by
 cases o with
 |lst xs=>let#[_,_,_,_,e]:=x;show qe e
 |tup xs=>let#[_,_,_,p]:=x;show p.lt
 |dK z=>let#[_,_,_,_,o,_,_,e,_]:=x;show qe e
 |dT z=>let#[_,_,_,_,o,_,_,e,_]:=x;show qe e
 |set vs=>
  rcases x with⟨_,⟨_,e⟩|⟨_,_,_,_,_,_,_,e,_⟩|⟨_,_,_,_,_,_,_,_,e,_⟩⟩
  .show qe e
  .show qe e
  .show qe e
 |ins C dx fs=>let#[_,_,_,e,_]:=x;show qe e
 |own y=>let#[_,e]:=x;show qe e
 |xd fs=>let#[_,#[_,_,_,e,_],_]:=x;show qe e
 |rng lo hi=>let#[_,_,_,e]:=x;show qe e
 |frz B u=>let#[e,_]:=x;show qe e
 |tbl ps=>show qe (show h.get? a=some _ from x)
 |met f y=>show qe (show h.get? a=some _ from x)
 |ext φ=>let#[_,#[_,e],_]:=x;show qe e
def Paired.mapP:∀{l₁:List α}{l₂:List β},Paired F l₁ l₂->(∀a b,F a b->G a b)->Paired G l₁ l₂
 |_,_,.nil,_=>.nil
 |_,_,.cons r t,f=>.cons (f _ _ r) (Paired.mapP t f)
def zE.stay(x:zE P w H h a o)(k:∀b u,(b=a\/H b=some (.own a))->h.get? b=some u->h'.get? b=some u)
  (ho:∀b,H b=some (.own a)->H' b=some (.own a))(M:∀b xs,H b=some (.tup xs)->H' b=some (.tup xs)):zE P w H' h' a o:=by
 induction o with
 |lst xs=>let#[z,F,n,r,e]:=x;show#[z,F,n,r,k _ _ (.inl rfl) e]
 |tup xs=>let#[#[z,Y],F,r,B,e,c]:=x;show#[#[z,λo q=>by rw[k _ _ (.inl rfl) e]at q;cases q;show Y _ e],F,r,B,k _ _ (.inl rfl) e,c]
 |dK L=>let#[z,y,vs,r,B,es,ep,e,c]:=x;show#[z,y,vs,r,B,es,ep,k _ _ (.inl rfl) e,c]
 |dT L=>let#[z,y,xs,r,B,es,ep,e,c]:=x;show#[z,y,xs,Paired.mapP r λp q z=>#[z.1,M _ _ z.2.1,z.2.2],B,es,ep,k _ _ (.inl rfl) e,c]
 |set vs=>
  rcases x with⟨z,⟨n,e⟩|⟨n,xs,p,B,es,ep,t,e,c⟩|⟨n,xs,p,hx,B,es,ep,t,e,c⟩⟩
  .show#[z,.inl #[n,k _ _ (.inl rfl) e]]
  .show#[z,.inr (.inl #[n,xs,p,B,es,ep,t,k _ _ (.inl rfl) e,c])]
  .show#[z,.inr (.inr #[n,xs,p,λq hq=>M _ _ (hx q hq),B,es,ep,t,k _ _ (.inl rfl) e,c])]
 |ins C dx fs=>let#[d,z,O,e,J,#[G,es,ep,e2,c],r]:=x;show#[ho _ d,z,O,k _ _ (.inl rfl) e,J,#[G,es,ep,k _ _ (.inr d) e2,c],r]
 |own y=>let#[B,e]:=x;show#[B,k _ _ (.inl rfl) e]
 |xd fs=>let#[J,#[G,es,ep,e,c],r]:=x;show#[J,#[G,es,ep,k _ _ (.inl rfl) e,c],r]
 |rng lo hi=>let#[t,u,v,e]:=x;show#[t,u,v,k _ _ (.inl rfl) e]
 |frz B u ih=>let#[e,q]:=x;show#[k _ _ (.inl rfl) e,ih q]
 |tbl ps=>have e:h.get? a=some {cls:=.none,data:=.fields ps}:=x;show h'.get? a=some {cls:=.none,data:=.fields ps};show k a _ (.inl rfl) e
 |met f y=>have e:h.get? a=some (W.methodObj (.ref f) (.ref y)):=x;show h'.get? a=some (W.methodObj (.ref f) (.ref y));show k a _ (.inl rfl) e
 |ext φ=>let#[p,#[o,e],st]:=x;show#[st _ _ p λo q=>k _ _ (.inl rfl) q,#[o,k _ _ (.inl rfl) e],st]
def cX.lt(x:cX P w H h)(e:H a=some o):a<h.objs.size:=(x a o e).lt
def cX.fresh(x:cX P w H h)(e:h.objs.size<=a):H a=none:=by
 cases q:H a with
 |none=>rfl
 |some u=>show absurd (lt_of_lt_of_le (x.lt q) e) (lt_irrefl _)
def cX.kept(x:cX P w H h)(k:∀b u,h.get? b=some u->h'.get? b=some u):cX P w H h':=λa o e=>(x a o e).stay (λb u _ q=>k b u q) (λ_ q=>q) λ_ _ q=>q
def cX.laid(x:cX P w H h)(k:∀b u,h.get? b=some u->h'.get? b=some u)(F:h.objs.size<=a)(new:zE P w (upd H a o) h' a o):cX P w (upd H a o) h':=λb u e=>by
 let z:=x.fresh F;by_cases B:b=a
 .subst B;rw[AQ]at e;cases e;show new
 .rw[Ah B]at e;show(x b u e).stay (λc v _ q=>k c v q) (λc q=>by rw[Ah (Cz q z)];show q) λc xs q=>by rw[Ah (Cz q z)];show q
end
@[inline]def Rd(H:Hp)(a:Addr)(u:HO):Prop:=H a=some u\/∃o,H a=some (.frz o u)
def Rd.of(h:H a=some u):Rd H a u:=.inl h
def Rd.ok(r:Rd H a u)(x:cX P w H h):zE P w H h a u:=by
 rcases r with r|⟨o,r⟩
 .show x a u r
 .obtain⟨_,q⟩:=x a _ r;show q
def wA:Option HO->Prop
 |some (.lst _)=>True
 |some (.dK _)=>True
 |some (.dT _)=>True
 |some (.set _)=>True
 |some (.ins _ _ _)=>True
 |some (.ext _)=>True
 |_=>False
section
variable{P:Program}{w:World}{H:Hp}{h h':Heap}{x e:Addr}{o':HO}
def cX.write(ok:cX P w H h)(G:wA (H x))(he:e=x\/H e=some (.own x))(k:∀b u,b≠e->h.get? b=some u->h'.get? b=some u)(J:∃u,h'.get? e=some u)
  (new:zE P w (upd H x o') h' x o'):cX P w (upd H x o') h':=λb u q=>by
 let F:∀c y,H c=some (.own y)->c≠x:=λc y r z=>by subst z;rw[r]at G;show G
 let B:∀c xs,H c=some (.tup xs)->c≠x:=λc xs r z=>by subst z;rw[r]at G;show G
 by_cases O:b=x
 .subst O;rw[AQ]at q;cases q;show new
 .rw[Ah O]at q;by_cases L:b=e
  .let M:H b=some (.own x):=by grind
   rw[q]at M;cases M;let#[v,Y]:=J;show#[v,by rw[L];show Y]
  .show(ok b u q).stay (λc v hc r=>k c v ?_ r) (λc r=>by rw[Ah (F c b r)];show r) λc xs r=>by rw[Ah (B c xs r)];exact r
   grind
end
structure Un(fs ex:List Addr)(H H':Hp)(h h':Heap):Prop where
 keep:∀b o,h.get? b=some o->H b=none->b∉fs->b∉ex->h'.get? b=some o
 slot:∀b o,h.get? b=some o->H b=none->b∈fs->b∉ex->∃sl,h'.get? b=some {o with slots:=sl}
 free:∀b o,h.get? b=some o->H b=none->b∉ex->H' b=none
 there:∀b o,h.get? b=some o->b∉ex->∃o',h'.get? b=some o'
 tups:∀b xs,H b=some (.tup xs)->H' b=some (.tup xs)
 frzs:∀b o u,H b=some (.frz o u)->H' b=some (.frz o u)
 tbls:∀b ps,H b=some (.tbl ps)->∃more,H' b=some (.tbl (ps++more))
section
variable{fs fs' ex ex':List Addr}{H H1 H2:Hp}{h h1 h2 h':Heap}{a x e:Addr}{o:HO}
def Un.any(u:Un fs ex H H1 h h1)(q:h.get? b=some z)(n:H b=none)(B:b∉ex):∃G,h1.get? b=some {z with slots:=G}:=by
 by_cases F:b∈fs
 .show u.slot b z q n F B
 .show#[z.slots,u.keep b z q n F B]
def Un.kept(k:∀b u,h.get? b=some u->h'.get? b=some u):Un fs ex H H h h':=
 #[λb z q _ _ _=>k b z q,λb z q _ _ _=>#[z.slots,k b z q],λ_ _ _ n _=>n,λb z q _=>#[z,k b z q],λ_ _ q=>q,λ_ _ _ q=>q,λ_ ps q=>#[#[],by rw[q];simp]]
def Un.refl:Un fs ex H H h h:=Un.kept λ_ _ q=>q
def Un.laid(k:∀b u,h.get? b=some u->h'.get? b=some u)(hp:h.objs.size<=a)(hn:H a=none):Un fs ex H (upd H a o) h h' where
 keep:=λb u q _ _ _=>k b u q
 slot:=λb u q _ _ _=>#[u.slots,k b u q]
 free:=λb u q n _=>by rw[Ah (ne_of_lt (lt_of_lt_of_le (qe q) hp))];show n
 there:=λb u q _=>#[u,k b u q]
 tups:=λb xs q=>by rw[Ah (Cz q hn)];show q
 frzs:=λb u xs q=>by rw[Ah (Cz q hn)];show q
 tbls:=λb ps q=>#[#[],by rw[Ah (Cz q hn),q];simp]
def Un.write(B:wA (H x))(M:e=x\/H e=some (.own x))(k:∀b u,b≠e->h.get? b=some u->h'.get? b=some u)(L:∃u,h'.get? e=some u):Un fs ex H (upd H x o) h h':=by
 let J:∀b,H b=none->b≠x:=λb n z=>by subst z;rw[n]at B;show B
 let G:∀b,H b=none->b≠e:=λb n z=>by grind
 let F:∀b u,H b=some u->¬wA (some u)->b≠x:=λb u q nm z=>by subst z;rw[q]at B;show nm B
 refine⟨λb u q n _ _=>k b u (G b n) q,λb u q n _ _=>#[u.slots,k b u (G b n) q],λb u q n _=>by rw[Ah (J b n)];exact n,λb u q _=>?_,
  λb xs q=>by rw[Ah (F b _ q λz=>z)];show q,λb u xs q=>by rw[Ah (F b _ q λz=>z)];show q,λb ps q=>#[#[],by rw[Ah (F b _ q λz=>z),q];simp]⟩
 grind
end
def wW(h:Heap)(H:Hp):List Addr:=(List.range h.objs.size).filter λa=>(H a).isSome
def fX(h:Heap)(H:Hp):Heap:=W.hideAll h (wW h H)
def Rp(h:Heap)(H:Hp):(fX h H).objs.size=h.objs.size:=W.hideAll_size _ _
def NR(e:h.get? b=some o)(n:H b=none):(fX h H).get? b=some o:=
 W.hideAll_get _ e λz=>by let q:(H b).isSome=true:=(mem_filter.mp z).2;rw[n]at q;simp at q
def MQ(e:(fX h H).get? b=some o):h.get? b=some o/\H b=none:=by
 let z:h.get? b=some o:=W.of_hideAll (wW h H) e;show#[z,?_];cases q:H b with
 |none=>rfl
 |some x=>grind[wW,mem_filter,mem_range,Heap.lt_size,fX,W.hideAll_none]
def jE(g h:Heap)(L:Addr):List (Addr×Obj):=(List.range h.objs.size).filterMap λa=>if a=L\/(g.get? a).isSome=true then none else(h.get? a).map λo=>(a,o)
def Rt(h1:a≠L)(h2:g.get? a=none)(z:h.get? a=some o):(a,o)∈jE g h L:=
 mem_filterMap.mpr #[a,qI.mpr (qe z),by simp[h1,h2,z]]
def rest(g h:Heap)(L d:Addr):List (Addr×Obj):=(jE g h L).filter λp=>decide (p.1≠d)
theorem zbq(h1:a≠L)(h2:g.get? a=none)(B:h.get? a=some o)(z:a≠d):(a,o)∈rest g h L d:=
 mem_filter.mpr #[Rt h1 h2 B,qP z]
structure Mod(K:W.Frag)(mg:Str->Option Value)(base:Heap):Prop where
 kin:K.In base
 glob:base.Ns mainGlobals mg
 blt:∃mb,base.Ns builtinsNs mb/\∀x:Str,x≠"__name__"->mb x=bootBuiltins x
 nolimit:base.NoLimit
structure Cx where
 prog:Program
 w:World
 K:W.Frag
 mg:Str->Option Value
 base:Heap
 A:Around
 N:List Str
 s₀:Shared
 H₀:Hp
 env:Env
 outer:List Env
 stack:List Env
 ex:List Addr
 fn:Str->Bool
 calm:Bool
 pn:List (Addr×Obj)
 xe:zj
def gC(l:List Env):List Addr:=l.filterMap (·.frame)
abbrev Cx.fs(X:Cx):List Addr:=gC X.outer
def rV(z:Scope)(x:Str):Prop:=z.names.lookup x=some .local\/z.names.lookup x=some .cell\/z.names.lookup x=some .free
@[inline]def Loc(z:Scope)(x:Str):Prop:=z.names.lookup x=some .local\/z.names.lookup x=some .cell
@[inline]def Look(env:Env)(h:Heap)(m:Str->Option Value)(x:Str)(u:Value):Prop:=
 (env.kindOf x=some .local/\m x=some u)\/((env.kindOf x=some .cell\/env.kindOf x=some .free)/\∃c,env.cells.lookup x=some c/\h.IsCell c (some u))
structure Cx.Ok(X:Cx):Prop where
 mod:Mod X.K X.mg X.base
 kind:X.env.scope.kind=.function
 glob:X.env.globals=mainGlobals
 blt:X.env.builtins=builtinsNs
 above:X.s₀.heap.objs.size<=X.env.locals
 inj:∀x y c,X.env.cells.lookup x=some c->X.env.cells.lookup y=some c->x=y
 has:∀x,(X.env.kindOf x=some .cell\/X.env.kindOf x=some .free)->∃c,X.env.cells.lookup x=some c
 cab:∀x c,X.fn x=true->X.env.cells.lookup x=some c->X.s₀.heap.objs.size<=c
 hd:X.calm=true->X.A.handled=none
 frames:X.A.frames=some X.stack
 stk:X.stack=X.outer\/(X.stack=X.env::X.outer/\X.env.frame=some X.env.locals)
 exf:∀b∈X.ex,b≠X.env.locals/\∀x c,X.env.cells.lookup x=some c->c≠b
 bs:∀b o,X.base.get? b=some o->X.s₀.heap.get? b=some o/\X.H₀ b=none
 bsz:X.base.objs.size<=X.s₀.heap.objs.size
 noex:∀b o,X.base.get? b=some o->b∉X.ex
 exfs:∀b∈X.ex,b∉X.fs
 funs:X.s₀.heap.FunFrames X.base X.outer
 frf:∀b∈X.fs,X.H₀ b=none
structure Inv(X:Cx)(zF:List (Addr×Obj))(Z:List (Option V))(H:Hp)(s:Shared):Prop where
 ok:X.Ok
 os:s.os=X.s₀.os
 bare:AllBare s.gens
 base:Un X.fs X.ex X.H₀ H X.s₀.heap s.heap
 loc:∃m,s.heap.Ns X.env.locals m/\∀(i:Nat)(x:Str)(v:V),X.N[i]?=some x->Z[i]?=some (some v)->rV X.env.scope x->∃u,zw v u/\Look X.env s.heap m x u
 cell:∀x c,X.env.cells.lookup x=some c->∃v,s.heap.IsCell c v
 free:H X.env.locals=none
 freeC:∀x c,X.env.cells.lookup x=some c->H c=none
 pin:∀p∈X.pn++zF,s.heap.get? p.1=some p.2/\H p.1=none/\p.1≠X.env.locals/\p.1∉X.fs/\∀v,p.2.data≠.cell v
 hok:cX X.prog X.w H s.heap
 len:Z.length=X.N.length
section
variable{X:Cx}{zF:List (Addr×Obj)}{Z:List (Option V)}{H H':Hp}{s:Shared}{h':Heap}
def Cx.Ok.nofr(ok:X.Ok)(e:X.base.get? b=some o):b∉X.fs:=λz=>by let:=(ok.funs.mem z).1;rw[e]at this;cases this
def Inv.bs(I:Inv X zF Z H s):∀b o,X.base.get? b=some o->s.heap.get? b=some o/\H b=none:=λb o e=>#[I.base.keep b o (I.ok.bs b o e).1 (I.ok.bs b o e).2 (I.ok.nofr e) (I.ok.noex b o e),I.base.free b o (I.ok.bs b o e).1 (I.ok.bs b o e).2 (I.ok.noex b o e)]
def Inv.bk(I:Inv X zF Z H s):∀b o,X.base.get? b=some o->s.heap.get? b=some o:=λb o e=>(I.bs b o e).1
def Inv.mod(I:Inv X zF Z H s):Mod X.K X.mg X.base:=I.ok.mod
def Inv.kIn(I:Inv X zF Z H s):X.K.In s.heap:=I.ok.mod.kin.keeps I.bk
def Inv.fr(I:Inv X zF Z H s):∃m,Fr X.base X.env.locals s.heap m:=
 let⟨m,hn,_⟩:=I.loc
 #[m,hn,I.bk,le_trans I.ok.bsz I.ok.above]
def Inv.lt(I:Inv X zF Z H s):X.env.locals<s.heap.objs.size:=let⟨_,hn,_⟩:=I.loc;hn.lt
def Inv.sz(I:Inv X zF Z H s):X.s₀.heap.objs.size<=s.heap.objs.size:=le_trans I.ok.above (le_of_lt I.lt)
def Inv.nofs(I:Inv X zF Z H s)(h:s.heap.objs.size<=a):a∉X.fs:=λB=>by let#[_,o,z,_]:=I.ok.funs.mem B;show absurd (lt_of_lt_of_le (qe z) (le_trans I.sz h)) (lt_irrefl _)
def Inv.cne(I:Inv X zF Z H s):∀x c,X.env.cells.lookup x=some c->c≠X.env.locals:=λx c e z=>by let#[v,o,G,J]:=I.cell x c e;let#[m,#[o',es,ep,B,F,_],_]:=I.loc;rw[z,B]at G;cases G;rw[F]at J;cases J
def Inv.funs(I:Inv X zF Z H s):s.heap.FunFrames X.base X.outer:=by
 have all:∀(l:List Env),(∀b∈gC l,b∈X.fs)->X.s₀.heap.FunFrames X.base l->s.heap.FunFrames X.base l:=by
  intro l;induction l with
  |nil=>intro _ _;trivial
  |cons h1 r M=>intro J hl;let#[hk,#[L,o,B,hn,Y,hd],O]:=hl;let G:L∈X.fs:=J L (by unfold gC;rw[filterMap_cons,B];show qm);let#[sl,e]:=I.base.slot L o Y (I.ok.frf L G) G λz=>I.ok.exfs L z G;show#[hk,#[L,_,B,hn,e,hd],M (λb F=>J b (by unfold gC;rw[filterMap_cons,B];show qk _ F)) O]
 show all X.outer (λ_ F=>F) I.ok.funs
def Inv.stack(I:Inv X zF Z H s):s.heap.FunFrames X.base X.stack:=by
 rcases I.ok.stk with e|⟨e,B⟩
 .rw[e];show I.funs
 .rw[e];let#[m,z,_]:=I.loc;show .cons (by rw[I.ok.kind];decide) B z ?_ I.funs;show Heap.get?_none_of_le (le_trans I.ok.bsz I.ok.above)
def Inv.stkSub(I:Inv X zF Z H s):∀b∈gC X.stack,b∈X.env.locals::X.fs:=λb z=>by
 rcases I.ok.stk with e|⟨e,B⟩
 .rw[e]at z;show qk _ z
 .rw[e]at z;unfold gC at z;rw[filterMap_cons,B]at z;show z
def Inv.stkFree(I:Inv X zF Z H s):∀b∈gC X.stack,H b=none:=λb B=>by
 rcases qA.mp (I.stkSub b B)with e|B
 .rw[e];show I.free
 .obtain⟨_,o,F,_⟩:=I.ok.funs.mem B;show I.base.free b o F (I.ok.frf b B) λz=>I.ok.exfs b z B
def Inv.step{ch:List Addr}(I:Inv X zF Z H s)
  (J:∀b∈ch,(b∈X.ex\/X.s₀.heap.get? b=none)/\b≠X.env.locals/\(∀x c,X.env.cells.lookup x=some c->c≠b)/\∀p∈X.pn++zF,p.1≠b)
  (G:∀b o,b≠X.env.locals->b∉X.fs->b∉ch->s.heap.get? b=some o->H b=none->h'.get? b=some o)
  (slot:∀b o,b≠X.env.locals->b∈X.fs->b∉ch->s.heap.get? b=some o->H b=none->∃sl,h'.get? b=some {o with slots:=sl})(free:∀b o,b∉ch->s.heap.get? b=some o->H b=none->H' b=none)
  (there:∀b o,b∉ch->s.heap.get? b=some o->∃o',h'.get? b=some o')
  (h1:∀b xs,H b=some (.tup xs)->H' b=some (.tup xs))(h4:∀b o u,H b=some (.frz o u)->H' b=some (.frz o u))(h2:∀b ps,H b=some (.tbl ps)->∃more,H' b=some (.tbl (ps++more)))
  (ns:∀m,s.heap.Ns X.env.locals m->h'.Ns X.env.locals m)(h6:cX X.prog X.w H' h')(hg:AllBare g'):
  Inv X zF Z H' {s with heap:=h',gens:=g',drawn:=d',toks:=t'}:=by
 have h3:∀b o,X.s₀.heap.get? b=some o->b≠X.env.locals:=λb o e=>ne_of_lt (lt_of_lt_of_le (qe e) I.ok.above);let M:∀b o,X.s₀.heap.get? b=some o->b∉X.ex->b∉ch:=λb o e B Y=>by
  rcases(J b Y).1 with z|z
  .show B z
  .rw[z]at e;cases e
 have L:∀x c,X.env.cells.lookup x=some c->∀v,s.heap.IsCell c v->h'.IsCell c v:=λx c e v⟨o,ho,hd⟩=>by
  let F:c∉ch:=λz=>(J c z).2.2.1 x c e rfl;by_cases hc:c∈X.fs
  .obtain⟨sl,q⟩:=slot c o (I.cne x c e) hc F ho (I.freeC x c e);show#[_,q,hd]
  .show#[o,G c o (I.cne x c e) hc F ho (I.freeC x c e),hd]
 show#[I.ok,I.os,hg,#[λb o e n Y B=>?_,λb o e n Y B=>?_,λb o e n B=>?_,λb o e B=>?_,λb xs e=>h1 b xs (I.base.tups b xs e),λb o xs e=>h4 b o xs (I.base.frzs b o xs e),λb ps e=>?_],?_,λx c e=>?_,?_,λx c e=>?_,λp hp=>?_,h6,I.len]
 .show G b o (h3 b o e) Y (M b o e B) (I.base.keep b o e n Y B) (I.base.free b o e n B)
 .obtain⟨sl,O⟩:=I.base.slot b o e n Y B;let#[h5,e2]:=slot b _ (h3 b o e) Y (M b o e B) O (I.base.free b o e n B);show#[h5,e2]
 .obtain⟨o',O⟩:=I.base.there b o e B;show free b o' (M b o e B) O (I.base.free b o e n B)
 .obtain⟨o',O⟩:=I.base.there b o e B;show there b o' (M b o e B) O
 .obtain⟨m1,O⟩:=I.base.tbls b ps e;let#[m2,e2]:=h2 b _ O;show#[m1++m2,by rw[e2,Array.append_assoc]]
 .obtain⟨m,hn,hl⟩:=I.loc;show#[m,ns m hn,λi x v O e2 e3=>?_];let#[u,r,l]:=hl i x v O e2 e3;show#[u,r,?_];rcases l with l|⟨k,c,e,z⟩
  .show .inl l
  .show .inr #[k,c,e,L x c e _ z]
 .obtain⟨v,z⟩:=I.cell x c e;show#[v,L x c e v z]
 .obtain⟨m,⟨o,_,_,ho,_⟩,_⟩:=I.loc;show free _ o (λz=>(J _ z).2.1 rfl) ho I.free
 .obtain⟨v,o,ho,hd⟩:=I.cell x c e;show free c o (λz=>(J c z).2.2.1 x c e rfl) ho (I.freeC x c e)
 .obtain⟨e,n,ne,nf,d⟩:=I.pin p hp;let F:p.1∉ch:=λz=>(J p.1 z).2.2.2 p hp rfl;show#[G p.1 p.2 ne nf F e n,free p.1 p.2 F e n,ne,nf,d]
def Inv.un(I:Inv X zF Z H s)(u:Un X.fs [] H H' s.heap h')(F:cX X.prog X.w H' h'):Inv X zF Z H' {s with heap:=h',toks:=t'}:=by let#[m,#[o,es,ep,M,r],_]:=id I.loc;let#[sl,hL]:=u.any M I.free (by simp);show I.step (g':=s.gens) (d':=s.drawn) (ch:=[]) (λ_ z=>nomatch z) (λb o _ G _ e n=>u.keep b o e n G (by simp)) (λb o _ G _ e n=>u.slot b o e n G (by simp)) (λb o _ e n=>u.free b o e n (by simp)) (λb o _ e=>u.there b o e (by simp)) u.tups u.frzs u.tbls (λm' Y=>by let#[o',J,L,B,O]:=Y;rw[M]at B;cases B;show#[_,J,L,hL,O]) F I.bare
def Inv.call(I:Inv X zF Z H s)(u:Un (gC X.stack) ch H H' s.heap h')(J:cX X.prog X.w H' h')(hg:AllBare g')
  (G:∀b∈ch,(b∈X.ex\/X.s₀.heap.get? b=none)/\b≠X.env.locals/\(∀x c,X.env.cells.lookup x=some c->c≠b)/\∀p∈X.pn++zF,p.1≠b):
  Inv X zF Z H' {s with heap:=h',gens:=g',drawn:=d',toks:=t'}:=by
 let#[m,#[o,es,ep,Y,r],_]:=id I.loc;let#[sl,L]:=u.any Y I.free λz=>(G _ z).2.1 rfl;show I.step (ch:=ch) G (λb o L hb B e n=>u.keep b o e n (λz=>(qA.mp (I.stkSub b z)).elim L hb) B) (λb o _ _ B e n=>u.any e n B) (λb o B e n=>u.free b o e n B) (λb o B e=>u.there b o e B) u.tups u.frzs u.tbls (λm' hm=>by let#[o',M,O,F,r']:=hm;rw[Y]at F;cases F;show#[_,M,O,L,r']) J hg
def Inv.turned(I:Inv X zF Z H s)(k:∀b o,b≠it->s.heap.get? b=some o->h'.get? b=some o)(hn:H it=none)(G:it≠X.env.locals)
  (h1:it∈X.ex\/X.s₀.heap.get? it=none)(h2:∀x c,X.env.cells.lookup x=some c->c≠it)(O:∀p∈X.pn++zF,p.1≠it):Inv X zF Z H {s with heap:=h',toks:=t'}:=by
 let F:∀b u,H b=some u->b≠it:=λb u e z=>by rw[z,hn]at e;cases e
 refine I.step (g':=s.gens) (d':=s.drawn) (ch:=[it]) (λb M=>?_) (λb o _ _ B e _=>k b o (λz=>B (by simp[z])) e) (λb o _ _ B e _=>#[o.slots,k b o (λz=>B (by simp[z])) e]) (λ_ _ _ _ n=>n)
  (λb o B e=>#[o,k b o (λz=>B (by simp[z])) e]) (λ_ _ e=>e) (λ_ _ _ e=>e) (λb ps e=>#[#[],by rw[e];simp]) (λm L=>?_) (λb u e=>?_) I.bare
 .let e:b=it:=by simpa using M
  subst e;show#[h1,G,h2,O]
 .obtain⟨o,es,ep,J,r⟩:=L;show#[o,es,ep,k _ o (Ne.symm G) J,r]
 .show(I.hok b u e).stay (λc v B q=>k c v ?_ q) (λ_ q=>q) λ_ _ q=>q;rcases B with z|z
  .rw[z];show F b u e
  .show F c _ z
def Inv.tok(I:Inv X zF Z H s)(t:Nat):Inv X zF Z H {s with toks:=t}:=I.un (h':=s.heap) (t':=t) Un.refl I.hok
def Inv.kept(I:Inv X zF Z H s)(k:∀b u,s.heap.get? b=some u->h'.get? b=some u):Inv X zF Z H {s with heap:=h',toks:=t'}:=I.un (Un.kept k) (I.hok.kept k)
def Inv.laid(I:Inv X zF Z H s)(k:∀b u,s.heap.get? b=some u->h'.get? b=some u)(z:s.heap.objs.size<=a)(new:zE X.prog X.w (upd H a o) h' a o):
  Inv X zF Z (upd H a o) {s with heap:=h',toks:=t'}:=I.un (Un.laid k z (I.hok.fresh z)) (I.hok.laid k z new)
def Inv.write(I:Inv X zF Z H s)(B:wA (H x))(F:e=x\/H e=some (.own x))(k:∀b u,b≠e->s.heap.get? b=some u->h'.get? b=some u)(z:∃u,h'.get? e=some u)
  (new:zE X.prog X.w (upd H x o) h' x o):Inv X zF Z (upd H x o) {s with heap:=h',toks:=t'}:=I.un (Un.write B F k z) (I.hok.write B F k z new)
def Inv.pins_of(I:Inv X zF Z H s)(h:∀p∈pins',s.heap.get? p.1=some p.2/\H p.1=none/\p.1≠X.env.locals/\p.1∉X.fs/\∀v,p.2.data≠.cell v):Inv X pins' Z H s:=
 #[I.ok,I.os,I.bare,I.base,I.loc,I.cell,I.free,I.freeC,λp B=>(qx.mp B).elim (λz=>I.pin p (qj _ z)) (h p),I.hok,I.len]
def FJ{N:List Str}(z:N.Nodup){i j:Nat}(a:N[i]?=some x)(b:N[j]?=some x):i=j:=by let#[h1,F]:=qg.mp a;let#[h2,B]:=qg.mp b;show(List.getElem_inj z).mp (F.trans B.symm)
def PR(I:Inv X zF Z H s)(hN:X.N.Nodup)(hi:X.N[i]?=some x)(L:Loc X.env.scope x)(r:zw v u)
  (h:∀s',Inv X zF (Z.set i (some v)) H s'->(∃a,Heap.SameBut a s.heap s'.heap/\(a=X.env.locals\/X.env.cells.lookup x=some a))->Q () s')(hf:X.fn x=true\/X.env.scope.names.lookup x=some .local:=by first|show .inl rfl|show .inr rfl|assumption):wpAny M A (storeName X.env x u) Q E s:=by
 let#[m,hn,hl]:=id I.loc;let h5:(X.env.scope.kind==.class||(X.env.scope.kind==.module&&X.env.locals !=X.env.globals))=false:=by rw[I.ok.kind];rfl
 let h1:i<Z.length:=by rw[I.len];show(qg.mp hi).1
 have cne:=I.cne;let F:∀{a:Addr}{h':Heap},(∃o,s.heap.get? a=some o/\H a=none)->Heap.SameBut a s.heap h'->cX X.prog X.w H h':=λ{a h'} ha B b ob e=>by
  let#[_,_,O]:=ha;show(I.hok b ob e).stay (λc w' J q=>(B.2 c ?_).trans q) (λ_ q=>q) λ_ _ q=>q;rintro rfl;rcases J with rfl|J
  .rw[O]at e;cases e
  .rw[O]at J;cases J
 rcases L with hk|hk
 .refine wpAny_storeName_local hk hn (λh' h9 B=>?_) h5;let#[oL,_,_,h8,_]:=id hn;refine h _ #[I.ok,I.os,I.bare,#[λb o e n hb L=>?_,λb o e n hb L=>?_,I.base.free,λb o e L=>?_,I.base.tups,I.base.frzs,I.base.tbls],#[_,h9,λj y v' G Y e3=>?_],λy c e=>?_,I.free,I.freeC,λp hp=>?_,F #[oL,h8,I.free] B,↑I.len] #[_,B,.inl rfl]
  .show(B.2 b (ne_of_lt (lt_of_lt_of_le (qe e) I.ok.above))).trans (I.base.keep b o e n hb L)
  .obtain⟨sl,G⟩:=I.base.slot b o e n hb L;show#[sl,(B.2 b (ne_of_lt (lt_of_lt_of_le (qe e) I.ok.above))).trans G]
  .obtain⟨o',G⟩:=I.base.there b o e L;show#[o',(B.2 b (ne_of_lt (lt_of_lt_of_le (qe e) I.ok.above))).trans G]
  .by_cases hj:j=i
   .subst hj;rw[hi]at G;cases G;rw[getElem?_set_self h1]at Y;cases Y;show#[u,r,.inl #[hk,by simp]]
   .rw[getElem?_set_ne (Ne.symm hj)]at Y;let#[u',r',q]:=hl j y v' G Y e3;show#[u',r',?_];rcases q with⟨k,e⟩|⟨k,c,e,z⟩
    .show .inl #[k,?_];let:y≠x:=λe=>hj (FJ hN G (e▸hi));simp[this,e]
    .show .inr #[k,c,e,z.sameBut B (cne y c e)]
  .obtain⟨w',z⟩:=I.cell y c e;show#[w',z.sameBut B (cne y c e)]
  .obtain⟨e,n,ne,nf,d⟩:=I.pin p hp;show#[(B.2 p.1 ne).trans e,n,ne,nf,d]
 .have h2:X.fn x=true:=by
   rcases hf with z|z
   .show z
   .rw[z]at hk;cases hk
  let#[c,J]:=I.ok.has x (.inl hk);let#[w',z]:=I.cell x c J;show wpAny_storeName_cell I.ok.kind hk J z (λh' h7 B=>?_);let#[oc,h4,h3]:=id z;show h {s with heap:=h'} ⟨I.ok,I.os,I.bare,⟨λb o e n hb L=>?_,λb o e n hb L=>?_,I.base.free,λb o e L=>?_,I.base.tups,I.base.frzs,I.base.tbls⟩,⟨m,hn.sameBut B (Ne.symm (cne x c J)),λj y v' G Y e3=>?_⟩,λy c' e=>?_,I.free,I.freeC,λp hp=>?_,F ⟨oc,h4,I.freeC x c J⟩ B,↑I.len⟩ #[c,B,.inr J]
  .show(B.2 b (ne_of_lt (lt_of_lt_of_le (qe e) (I.ok.cab x c h2 J)))).trans (I.base.keep b o e n hb L)
  .obtain⟨sl,G⟩:=I.base.slot b o e n hb L;show#[sl,(B.2 b (ne_of_lt (lt_of_lt_of_le (qe e) (I.ok.cab x c h2 J)))).trans G]
  .obtain⟨o',G⟩:=I.base.there b o e L;show#[o',(B.2 b (ne_of_lt (lt_of_lt_of_le (qe e) (I.ok.cab x c h2 J)))).trans G]
  .by_cases hj:j=i
   .subst hj;rw[hi]at G;cases G;rw[getElem?_set_self h1]at Y;cases Y;show#[u,r,.inr #[.inl hk,c,J,h7]]
   .rw[getElem?_set_ne (Ne.symm hj)]at Y;let#[u',r',q]:=hl j y v' G Y e3;show#[u',r',?_];rcases q with q|⟨k,c',e,z'⟩
    .show .inl q
    .show .inr #[k,c',e,z'.sameBut B ?_];rintro rfl;show hj (FJ hN G (I.ok.inj _ _ _ e J▸hi))
  .by_cases h6:c'=c
   .subst h6;show#[_,h7]
   .obtain⟨w2,z2⟩:=I.cell y c' e;show#[w2,z2.sameBut B h6]
  .obtain⟨e,n,ne,nf,d⟩:=I.pin p hp;show#[(B.2 p.1 ?_).trans e,n,ne,nf,d];intro q;rw[q,h4]at e;let q':oc=p.2:=qf e;show d w' (by rw[<-q'];show h3)
def JU(I:Inv X zF Z H s)(F:X.N.Nodup)(hi:X.N[i]?=some x)(z:Loc X.env.scope x)(r:zw v u)
  (h:∀s',Inv X zF (Z.set i (some v)) H s'->Q () s')(B:X.fn x=true\/X.env.scope.names.lookup x=some .local:=by first|show .inl rfl|show .inr rfl|assumption):wpAny M A (storeName X.env x u) Q E s:=
 PR I F hi z r (λs' G _=>h s' G) B
def Inv.call'(I:Inv X zF Z H s)(F:s'.os=s.os)(u:Un (gC X.stack) ch H H' s.heap s'.heap)(z:cX X.prog X.w H' s'.heap)(G:AllBare s'.gens)
  (B:∀b∈ch,(b∈X.ex\/X.s₀.heap.get? b=none)/\b≠X.env.locals/\(∀x c,X.env.cells.lookup x=some c->c≠b)/\∀p∈X.pn++zF,p.1≠b):Inv X zF Z H' s':=by
 let#[h',g',d',t',o']:=s';let e:o'=s.os:=F;subst e;show I.call (g':=g') (t':=t') (d':=d') u z G B
end
abbrev XK:=Value->Option Addr->Hp->Prop
abbrev St:=List (Option V)
abbrev VK:=V->Hp->Prop
abbrev TE:=St->Hp->VK->Prop
abbrev TT:=St->Hp->(Bool->Hp->Prop)->Prop
abbrev TA:=St->Hp->(List V->Hp->Prop)->Prop
structure Ends where
 nx:St->Hp->Prop
 rt:VK
 bk:St->Hp->Prop:=λ_ _=>False
 ct:St->Hp->Prop:=λ_ _=>False
abbrev TS:=Ends->St->Hp->Prop
inductive EP(X:Cx)(zF:List (Addr×Obj))(Z:St)(Q:VK)(u:Value)(s':Shared):Prop
 |mk (v:V) (H':Hp):Inv X zF Z H' s'->zw v u->Q v H'->EP X zF Z Q u s'
inductive TP(X:Cx)(zF:List (Addr×Obj))(Z:St)(Q:Bool->Hp->Prop)(b:Bool)(s':Shared):Prop
 |mk (H':Hp):Inv X zF Z H' s'->Q b H'->TP X zF Z Q b s'
inductive AP(X:Cx)(zF:List (Addr×Obj))(Z:St)(Q:List V->Hp->Prop)(us:List Value)(s':Shared):Prop
 |mk (vs:List V) (H':Hp):Inv X zF Z H' s'->zC vs us->Q vs H'->AP X zF Z Q us s'
@[inline]def SP(X:Cx)(zF:List (Addr×Obj))(D:Ends)(f:Flow)(s':Shared):Prop:=
 match f with
 |.next=>∃Z' H',Inv X zF Z' H' s'/\D.nx Z' H'
 |.brk=>∃Z' H',Inv X zF Z' H' s'/\D.bk Z' H'
 |.cont=>∃Z' H',Inv X zF Z' H' s'/\D.ct Z' H'
 |.ret u=>∃v Z' H',Inv X zF Z' H' s'/\zw v u/\D.rt v H'
@[inline]def PE(X:Cx)(e:Expr)(t:TE):Prop:=
 ∀(zF:List (Addr×Obj))(s:Shared)(Z:St)(H:Hp)(Q:VK),Inv X zF Z H s->t Z H Q->wpAny (model X.prog X.w) X.A (eval e X.env) (EP X zF Z Q) X.xe s
@[inline]def PT(X:Cx)(e:Expr)(t:TT):Prop:=
 ∀(zF:List (Addr×Obj))(s:Shared)(Z:St)(H:Hp)(Q:Bool->Hp->Prop),Inv X zF Z H s->t Z H Q->wpAny (model X.prog X.w) X.A (isTrue e X.env (eval e X.env)) (TP X zF Z Q) X.xe s
@[inline]def PW(X:Cx)(e:Expr)(t:TT):Prop:=
 ∀(z:Sem Value)(zF:List (Addr×Obj))(s:Shared)(Z:St)(H:Hp)(Q:Bool->Hp->Prop),Inv X zF Z H s->t Z H Q->wpAny (model X.prog X.w) X.A (isTrue e X.env z) (TP X zF Z Q) X.xe s
def PW.pt(h:PW X e t):PT X e t:=h _
@[inline]def PA(X:Cx)(es:List Expr)(t:TA):Prop:=
 ∀(pos:Pos)(zF:List (Addr×Obj))(s:Shared)(Z:St)(H:Hp)(Q:List V->Hp->Prop),Inv X zF Z H s->t Z H Q->wpAny (model X.prog X.w) X.A (spliced (backTo pos (starEach es X.env))) (AP X zF Z Q) X.xe s
@[inline]def PS(X:Cx)(st:Stmt)(t:TS):Prop:=
 ∀(zF:List (Addr×Obj))(s:Shared)(Z:St)(H:Hp)(D:Ends),Inv X zF Z H s->t D Z H->wpAny (model X.prog X.w) X.A (exec st X.env) (SP X zF D) X.xe s
def gS(X:Cx)(st:List Stmt)(t:TS):Prop:=
 ∀(zF:List (Addr×Obj))(s:Shared)(Z:St)(H:Hp)(D:Ends),Inv X zF Z H s->t D Z H->wpAny (model X.prog X.w) X.A (execs st X.env) (SP X zF D) X.xe s
def Af(h:wpAny M A t Q E s)(z:∀a s,Q a s->Q' a s):wpAny M A t Q' E s:=zi h z λ_ _ x=>x
section
variable{X:Cx}
def wX(i:Nat):TE:=λZ H Q=>∃v,Z[i]?=some (some v)/\Q v H
def tC(v:V):TE:=λ_ H Q=>Q v H
def Gh(hN:X.N[i]?=some x)(M:rV X.env.scope x)(G:(x==("__debug__":Str))=false:=by decide)(J:(x==("__classdict__":Str))=false:=by decide):PE X (.Name x pos) (wX i):=by
 intro zF s Z H Q I h;let#[v,e,h]:=h;let#[m,O,hl]:=I.loc;let#[u,r,l]:=hl i x v hN e M;let F:EP X zF Z Q u s:=#[v,H,I,r,h]
 rcases l with⟨B,Y⟩|⟨B,c,L,z⟩
 .show wpAny_Name (wpAny_loadName_local I.ok.kind B O Y F) G
 .rcases B with B|B
  .show wpAny_Name (wpAny_loadName_cell I.ok.kind B L z F) G
  .show wpAny_Name (wpAny_loadName_free I.ok.kind B L z F J) G
def Mo:PE X (.Constant (.int i) j pos) (tC (.int i)):=λ_ _ _ H _ I h=>wpAny_Constant_int #[.int i,H,I.tok _,#[_,rfl],h]
def Lw:PE X (.Constant (.bool b) j pos) (tC (.bl b)):=λ_ _ _ H _ I h=>Constant_bool #[.bl b,H,I,rfl,h]
def LQ:PE X (.Constant .none j pos) (tC .non):=λ_ _ _ H _ I h=>Constant_none #[.non,H,I,rfl,h]
def MG:PE X (.Constant (.str x) j pos) (tC (.str x)):=λ_ _ _ H _ I h=>Calls.Constant_str #[.str x,H,I.tok _,#[_,rfl],h]
@[inline]def Gl(X:Cx)(x:Str):Prop:=X.env.kindOf x=some .globalImplicit
def EE(I:Inv X zF Z H s)(B:Gl X x)(z:X.mg x=some u)(h:Q u s)
  (F:(x==("__debug__":Str))=false:=by decide):wpAny (model X.prog X.w) X.A (eval (.Name x pos) X.env) Q E s:=
 Calls.Name_function_global I.ok.kind B (Calls.loadGlobal_global (by rw[I.ok.glob];show I.mod.glob.keeps I.bk) z h) F
def DN(I:Inv X zF Z H s)(F:Gl X x)(B:X.mg x=none)(z:bootBuiltins x=some u)(h:Q u s)
  (hn:x≠"__name__":=by decide)(G:(x==("__debug__":Str))=false:=by decide):wpAny (model X.prog X.w) X.A (eval (.Name x pos) X.env) Q E s:=by
 let#[J,h1,h2]:=I.mod.blt;show Calls.Name_function_global I.ok.kind F (Calls.loadGlobal_builtin (by rw[I.ok.glob];show I.mod.glob.keeps I.bk) B (by rw[I.ok.blt];show h1.keeps I.bk) ((h2 x hn).trans z) h) G
variable{a b:Expr}{ta tb:TE}{pos:Pos}
def CM(b:Expr)(h:op≠.In)(h2:op≠.NotIn):behindInMarks op b=false:=by
 let B:(op==CmpOp.In)=false:=by cases op<;>first|rfl|show absurd rfl h
 let z:(op==CmpOp.NotIn)=false:=by cases op<;>first|rfl|show absurd rfl h2
 cases b<;>first|rfl|(show(_&&(op==.In||op==.NotIn)&&_)=false;rw[B,z,Bool.or_false,Bool.and_false];rfl)
variable{tA tB':TT}{rest:List Expr}
def xK(t u:TT):TT:=λZ H Q=>t Z H λc H1=>if c=true then u Z H1 Q else Q false H1
def bu(t u:TT):TT:=λZ H Q=>t Z H λc H1=>if c=true then Q true H1 else u Z H1 Q
def xD(t:TT):TT:=λZ H Q=>t Z H λc H1=>Q (!c) H1
def Nv(z:PT X a tA):PW X (.BoolOp .And [a] pos) tA:=by
 intro B zF s Z H Q I h;show isTrue_and (Af (z zF s Z H Q I h) λc F e=>?_);cases c with
 |true=>show isTrue_and_nil e
 |false=>show e
def LJ(z:PT X a tA):PW X (.BoolOp .Or [a] pos) tA:=by
 intro B zF s Z H Q I h;show isTrue_or (Af (z zF s Z H Q I h) λc F e=>?_);cases c with
 |false=>show isTrue_or_nil e
 |true=>show e
def LC(M:PT X a tA)(L:PW X (.BoolOp .And (b::rest) pos) tB'):PW X (.BoolOp .And (a::b::rest) pos) (xK tA tB'):=by
 intro G zF s Z H Q I h;show isTrue_and (Af (M zF s Z H _ I h) λc J F=>?_);let#[H1,B,z]:=F;cases c with
 |true=>show L G zF J Z H1 Q B z
 |false=>show#[H1,B,z]
def Lz(M:PT X a tA)(L:PW X (.BoolOp .Or (b::rest) pos) tB'):PW X (.BoolOp .Or (a::b::rest) pos) (bu tA tB'):=by
 intro G zF s Z H Q I h;show isTrue_or (Af (M zF s Z H _ I h) λc J F=>?_);let#[H1,B,z]:=F;cases c with
 |true=>show#[H1,B,z]
 |false=>show L G zF J Z H1 Q B z
def MO(F:PT X a tA):PT X (.UnaryOp .Not a pos) (xD tA):=by intro zF s Z H Q I h;show isTrue_not (Af (F zF s Z H (λc H1=>Q (!c) H1) I h) λc J z=>by let#[H1,G,B]:=z;show#[H1,G,B])
def sT(ta tb:TE):TE:=λZ H Q=>ta Z H λx H1=>∃c,x=.bl c/\if c=true then tb Z H1 Q else Q (.bl false) H1
def xC(ta tb:TE):TE:=λZ H Q=>ta Z H λx H1=>∃c,x=.bl c/\if c=true then Q (.bl true) H1 else tb Z H1 Q
def Mw(h:PE X a t):PE X (.BoolOp op [a] pos) t:=by first|rfl|assumption|(simp_all;done)
def Mn(M:PE X a ta)(L:PE X (.BoolOp .And (b::rest) pos) tb):PE X (.BoolOp .And (a::b::rest) pos) (sT ta tb):=by
 intro zF s Z H Q I h;show BoolOp_and (Af (M zF s Z H _ I h) λv G F=>?_);let#[x,H1,B,J,z]:=F;let#[c,rfl,z]:=z;cases J;show wpAny_truthy_bool ?_;cases c with
 |true=>show L zF G Z H1 Q B z
 |false=>show#[.bl false,H1,B,rfl,z]
def LA(M:PE X a ta)(L:PE X (.BoolOp .Or (b::rest) pos) tb):PE X (.BoolOp .Or (a::b::rest) pos) (xC ta tb):=by
 intro zF s Z H Q I h;show BoolOp_or (Af (M zF s Z H _ I h) λv G F=>?_);let#[x,H1,B,J,z]:=F;let#[c,rfl,z]:=z;cases J;show wpAny_truthy_bool ?_;cases c with
 |false=>show L zF G Z H1 Q B z
 |true=>show#[.bl true,H1,B,rfl,z]
end
def bC(K:W.Frag)(H:Hp)(a:Addr)(xs:List V):Prop:=
 Rd H a (.lst xs)\/
  ∃(o:Obj)(z:Array Value)(n:Nat),K.lookup a=some o/\o.cls=.type "list"/\o.dict=none/\o.data=.seq z n/\z.size<=sizeLine/\zC xs z.toList
def aV(K:W.Frag)(H:Hp)(a:Addr)(xs:List V):Prop:=
 Rd H a (.tup xs)\/
  ∃(o:Obj)(z:Array Value)(n:Nat),K.lookup a=some o/\o.cls=.type "tuple"/\o.data=.seq z n/\z.size<=sizeLine/\zC xs z.toList
def zQ:Value->Option V
 |.none=>some .non
 |.bool b=>some (.bl b)
 |.int i _=>some (.int i)
 |.str x _=>some (.str x)
 |.bytes b _=>some (.byt b)
 |.float b _=>some (.flt b)
 |.ref a=>some (.ref a)
 |.type n=>some (.ty n)
 |_=>none
def zw.abs(r:zw x u):zQ u=some x:=by
 cases x with
 |non=>cases r;rfl
 |bl _=>cases r;rfl
 |int _=>let#[t,rfl]:=r;rfl
 |str _=>let#[t,rfl]:=r;rfl
 |byt _=>let#[t,rfl]:=r;rfl
 |flt _=>let#[t,rfl]:=r;rfl
 |ref _=>cases r;rfl
 |ty _=>cases r;rfl
def zw.inj(r:zw x u)(q:zw y u):x=y:=qf (r.abs.symm.trans q.abs)
def zC.inj:∀{xs ys:List V}{us:List Value},zC xs us->zC ys us->xs=ys:=by
 intro xs ys us r q;induction r generalizing ys with
 |nil=>cases q;rfl
 |cons r _ F=>cases q with
  |cons B z=>rw[r.inj B,F z]
inductive uZ(xs:List V)(h:Heap)(a:Addr):Prop
 |mk (zJ:List Value):zC xs zJ->PlainL h a zJ.toArray->xs.length<=sizeLine->uZ xs h a
inductive uY(xs:List V)(h:Heap)(a:Addr):Prop
 |mk (zJ:List Value):zC xs zJ->IsTup h a zJ.toArray->xs.length<=sizeLine->uY xs h a
section
variable{X:Cx}{zF:List (Addr×Obj)}{Z:St}{H:Hp}{s:Shared}{a:Addr}{xs ys:List V}
def bC.of{K:W.Frag}(h:H a=some (.lst xs)):bC K H a xs:=.inl (.inl h)
def aV.of{K:W.Frag}(h:H a=some (.tup xs)):aV K H a xs:=.inl (.inl h)
def Inv.list(I:Inv X zF Z H s)(h:bC X.K H a xs):uZ xs s.heap a:=by
 rcases h with h|⟨o,B,n,G,L,J,F,M,r⟩
 .obtain⟨z,B,n,r,e⟩:=h.ok I.hok;show#[B,r,#[_,n,e,rfl,rfl,rfl],z]
 .show#[B.toList,r,#[o,n,I.kIn a o G,L,J,↑F],?_];let e:=r.length;simp only[qT]at e;lia
def Inv.tuple(I:Inv X zF Z H s)(h:aV X.K H a xs):uY xs s.heap a:=by
 rcases h with h|⟨o,B,n,G,J,F,L,r⟩
 .obtain⟨z,B,r,p⟩:=h.ok I.hok;show#[B,r,p,z.1]
 .show#[B.toList,r,#[o,I.kIn a o G,J,n,↑F],?_];let e:=r.length;simp only[qT]at e;lia
def Inv.list_inj(I:Inv X zF Z H s)(h:bC X.K H a xs)(h':bC X.K H a ys):xs=ys:=by
 let#[B,r,#[o,n,e,_,_,d],_]:=I.list h;let#[z,J,#[o',L,F,_,_,G],_]:=I.list h';rw[e]at F;cases F;rw[d]at G;injection G with d1 _
 let:B=z:=by simpa using congrArg Array.toList d1
 subst this;show r.inj J
def Inv.tuple_inj(I:Inv X zF Z H s)(h:aV X.K H a xs)(h':aV X.K H a ys):xs=ys:=by
 let#[B,r,#[o,e,_,n,d],_]:=I.tuple h;let#[z,J,#[o',F,_,L,G],_]:=I.tuple h';rw[e]at F;cases F;rw[d]at G;injection G with d1 _
 let:B=z:=by simpa using congrArg Array.toList d1
 subst this;show r.inj J
end
section
variable{X:Cx}{st:Stmt}{rest:List Stmt}{t u:TS}{e:Expr}{te:TE}{pos:Pos}
def sP:TS:=λD Z H=>D.nx Z H
def wZ(t u:TS):TS:=λD Z H=>t {D with nx:=u D} Z H
def IH:gS X [] sP:=λ_ _ Z H _ I h=>wpAny_execs_nil #[Z,H,I,h]
def PC(h1:PS X st t)(h2:gS X rest u):gS X (st::rest) (wZ t u):=by
 intro zF s Z H D I h;show wpAny_execs_cons (Af (h1 zF s Z H {D with nx:=u D} I h) λf B q=>?_);cases f with
 |next=>let#[z,H',F,q]:=q;show h2 zF B z H' D F q
 |ret v=>show q
 |brk=>show q
 |cont=>show q
def Jn(h1:PS X st t):gS X [st] t:=by
 intro zF s Z H D I h;show wpAny_execs_cons (Af (h1 zF s Z H D I h) λf z q=>?_);cases f with
 |next=>show wpAny_execs_nil q
 |ret v=>show q
 |brk=>show q
 |cont=>show q
def Inv.quiet(I:Inv X zF Z H s):interactive X.env=false:=by simp[interactive,I.ok.kind]
def sQ(te:TE):TS:=λD Z H=>te Z H λ_ H1=>D.nx Z H1
def MY(B:PE X e te)(hs:swapsWith e none pos.line X.env=pure false:=by rfl):PS X (.Expr e pos) (sQ te):=by intro zF s Z H D I h;show wpAny_Expr_any (Af (B zF s Z H _ I h) λv G⟨x,H1,F,J,z⟩=>#[Z,H1,F,z]) I.quiet hs
def xA(te:TE):TS:=λD Z H=>te Z H D.rt
def LY(F:PE X e te):PS X (.Return (some e) pos) (xA te):=by intro zF s Z H D I h;show wpAny_Return_some (Af (F zF s Z H _ I h) λv J⟨x,H1,G,z,B⟩=>#[x,Z,H1,G,z,B])
def xG(c:TT)(t u:TS):TS:=λD Z H=>c Z H λb H1=>if b=true then t D Z H1 else u D Z H1
def Lo(J:PT X c tc)(M:gS X a t)(L:gS X b u):PS X (.If c a b pos) (xG tc t u):=by
 intro zF s Z H D I h;show wpAny_If (Af (J zF s Z H _ I h) λd z G=>?_);let#[H1,F,B]:=G;cases d with
 |true=>show M zF z Z H1 D F B
 |false=>show L zF z Z H1 D F B
end
abbrev TG:=V->St->Hp->(St->Hp->Prop)->Prop
abbrev uP:=List V->St->Hp->(St->Hp->Prop)->Prop
@[inline]def PG(X:Cx)(z:Expr)(t:TG):Prop:=
 ∀(zF:List (Addr×Obj))(s:Shared)(Z:St)(H:Hp)(v:V)(u:Value)(Q:St->Hp->Prop),Inv X zF Z H s->zw v u->t v Z H Q->
  wpAny (model X.prog X.w) X.A (assign z X.env u) (λ_ s'=>∃Z' H',Inv X zF Z' H' s'/\Q Z' H') X.xe s
def uV(X:Cx)(z:List Expr)(t:uP):Prop:=
 ∀(zF:List (Addr×Obj))(s:Shared)(Z:St)(H:Hp)(vs:List V)(us:List Value)(Q:St->Hp->Prop),Inv X zF Z H s->zC vs us->t vs Z H Q->
  wpAny (model X.prog X.w) X.A (assignInOrder ((assignEach z X.env).map (·.2)) us) (λ_ s'=>∃Z' H',Inv X zF Z' H' s'/\Q Z' H') X.xe s
abbrev dN:=V->V->V->Hp->(Hp->Prop)->Prop
def uT(X:Cx)(t:dN):Prop:=
 ∀(zF:List (Addr×Obj))(s:Shared)(Z:St)(H:Hp)(o i v:V)(z B u:Value)(Q:Hp->Prop),Inv X zF Z H s->zw o z->zw i B->zw v u->t o i v H Q->
  wpAny (model X.prog X.w) X.A (setItem z B u) (λ_ s'=>∃H',Inv X zF Z H' s'/\Q H') X.xe s
section
variable{X:Cx}{pos:Pos}
def zM:uP:=λvs Z H Q=>vs=[]/\Q Z H
def uE(t:TG)(u:uP):uP:=λvs Z H Q=>∃v r,vs=v::r/\t v Z H λz H'=>u r z H' Q
def Ol:uV X [] zM:=by intro zF s Z H vs z Q I r h;let#[e,h]:=h;subst e;cases r;show assignInOrder_nil #[Z,H,I,h]
def Pj(h1:PG X e t)(h2:uV X es u)
  (hs:(assignEach (e::es) X.env).map (·.2)=assign e X.env::(assignEach es X.env).map (·.2):=by rfl):uV X (e::es) (uE t u):=by
 intro zF s Z H vs Y Q I r h;let#[v,O,L,h]:=h;subst L;cases r with
 |cons r G=>rw[hs];show assignInOrder_cons (Af (h1 zF s Z H _ _ _ I r h) λ_ F B=>?_);let#[z,H1,M,J]:=B;show h2 zF F z H1 _ _ Q M G J
def cG(K:W.Frag)(n:Nat)(t:uP):TG:=λv Z H Q=>∃a xs,v=.ref a/\aV K H a xs/\xs.length=n/\t xs Z H Q
def LP(Y:X.calm=true)(h:uV X es t)
  (hn:(assignEach es X.env).length=n:=by rfl)(B:(assignEach es X.env).findIdx? (·.1)=none:=by rfl):PG X (.Tuple es k pos) (cG X.K n t):=by
 intro zF s Z H v u Q I r z;let#[a,xs,e1,M,O,z]:=z;subst e1;cases r;let#[G,F,L,hz]:=I.tuple M;show assign_Tuple_tuple (I.ok.hd Y) L (by simp[hn,<-O,F.length]) B λh' J=>?_;let I1:Inv X zF Z H {s with heap:=h'}:=I.kept (t':=s.toks) λb o e=>J b o (ne_of_lt (qe e)) e;show h zF _ Z H xs _ Q I1 ↑F z
def zL(z B:TE)(t:dN):TG:=λv Z H Q=>z Z H λo H1=>B Z H1 λi H2=>t o i v H2 λF=>Q Z F
def Io(ho:PE X o to)(hi:PE X i ti)(hs:uT X t)
  (ha:∀v,assign (.Subscript o i pos) X.env v=(do
   let ov<-holding [v] (eval o X.env)
   let iv<-holding [v,ov] (eval i X.env)
   standAt pos
   holding [v,ov,iv] (setItem ov iv v)
   release [v,ov,iv] []):=by intro _;rfl):PG X (.Subscript o i pos) (zL to ti t):=by
 intro zF s Z H v u Q I r h;rw[ha];show qa (zg (Af (ho zF s Z H _ I h) λov s1 zq=>?_));let#[x,H1,I1,r1,q1]:=zq;show qa (zg (Af (hi zF s1 Z H1 _ I1 q1) λiv s2 zq=>?_));let#[y,H2,I2,r2,q2]:=zq;show qa (wpAny_standAt (qa (zg (Af (hs zF s2 Z H2 x y v ov iv u _ I2 r1 r2 r q2) λ_ s3 zq=>?_))));let#[H3,I3,q3]:=zq;show wpAny_release #[Z,H3,I3,q3]
def xJ(te:TE)(g:TG):TS:=λD Z H=>te Z H λx H1=>g x Z H1 D.nx
def Ir(M:PE X e te)(L:PG X tg g)(hs:swapsWithSole [tg] e pos.line X.env=pure false:=by rfl)(J:swappedStores [tg] e X.env=pure none:=by rfl)
  (h1:(assignEach [tg] X.env).map (·.2)=[assign tg X.env]:=by rfl):PS X (.Assign [tg] e pos) (xJ te g):=by
 intro zF s Z H D I h;show wpAny_Assign_stores (Af (M zF s Z H _ I h) λv B z=>?_) hs J;let#[x,H1,O,F,G]:=z;rw[h1];show Af (L zF B Z H1 x v _ O F G) λ_ Y q=>q
def xB(i j:Nat)(ta:TA):TS:=λD Z H=>ta Z H λvs H1=>∃v w,vs=[v,w]/\D.nx ((Z.set i (some v)).set j (some w)) H1
def Mg(hc:X.calm=true)(hN:X.N.Nodup)(hi:X.N[i]?=some x)(hj:X.N[j]?=some y)(hij:i≠j)
  (hx:X.env.scope.names.lookup x=some .local)(hy:X.env.scope.names.lookup y=some .local)(ha:PA X [a,b] ta)
  (hw:swappedStores [.Tuple [.Name x px,.Name y py] kt pt] (.Tuple [a,b] k2 pt2) X.env=pure (some [x,y]))
  (hs:swapsWithSole [.Tuple [.Name x px,.Name y py] kt pt] (.Tuple [a,b] k2 pt2) pos.line X.env=pure false:=by rfl):
  PS X (.Assign [.Tuple [.Name x px,.Name y py] kt pt] (.Tuple [a,b] k2 pt2) pos) (xB i j ta):=by
 intro zF s Z H D I h;rw[exec_Assign_arm];show qa (wpAny_standAt ?_);rw[hs];show qa (qb ?_);rw[qZ ⋯];show qa (Tuple_ (Af (ha _ zF s Z H _ I h) λus s1 zq=>?_));let#[vs,H1,I1,r1,q1]:=zq;let#[v,w,e1,q1]:=q1;subst e1;obtain⟨u1,u2,rfl,rv,rw'⟩:∃u1 u2,us=[u1,u2]/\zw v u1/\zw w u2:=by
  cases r1 with
  |cons p q=>
   cases q with
   |cons p' q'=>cases q';show#[_,_,rfl,p,p']
 show zd ?_ (by show 2<=sizeLine;decide);let I2:Inv X zF Z H1 {s1 with heap:=s1.heap.push {cls:=.type "tuple",data:=.seq [u1,u2].toArray}}:=I1.kept (t':=s1.toks) λb o e=>qc _ e;rw[hw];show qa (qb ?_);show wpAny (model X.prog X.w) X.A (do rule "assign.swapped-stores";let items<-unpackItems (.ref s1.heap.objs.size) 2 none;assignInOrder [λv=>bindName X.env y v,λv=>bindName X.env x v] items.reverse;pure Flow.next) _ _ _;show qa (wpAny_rule (qa (unpackItems_tuple (items:=[u1,u2].toArray) (I.ok.hd hc) (IsTup.new s1.heap _) λh' hx'=>?_)));let I3:=I2.kept (h':=h') (t':=s1.toks) λb o e=>hx' b o (ne_of_lt (qe e)) e;show wpAny _ _ (assignInOrder [λv=>bindName X.env y v,λv=>bindName X.env x v] [u2,u1]>>=λ_=>pure Flow.next) _ _ _;show qa (assignInOrder_cons (wpAny_bindName (JU I3 hN hj (.inl hy) rw' (λs2 I4=>?_) (.inr hy))));show assignInOrder_cons (wpAny_bindName (JU I4 hN hi (.inl hx) rv (λs3 I5=>assignInOrder_nil (qb ?_)) (.inr hx)));rw[set_comm _ _ (Ne.symm hij)]at I5;show#[_,H1,I5,q1]
def oO(c:TT)(tb:TS):TS:=λD Z H=>∃W:Nat->St->Hp->Prop,(∃m,W m Z H)/\∀m Z H,W m Z H->
 c Z H λb H1=>if b=true then∃N:St->Hp->Prop,(∀Z' H',N Z' H'->∃z,z<m/\W z Z' H')/\tb {D with nx:=N,ct:=N,bk:=D.nx} Z H1 else D.nx Z H1
def OO(hp:PassesOwn (model X.prog X.w) X.A X.env X.xe)(hc:PT X c tc)(hb:gS X body tb):PS X (.While c body [] pos) (oO tc tb):=by
 intro zF s Z H D I h;let#[W,#[m0,w0],F]:=h;show wpAny_While (codeAny_whileLoop (λn s'=>∃Z' H',Inv X zF Z' H' s'/\W n Z' H') ?_ m0 #[Z,H,I,w0]);rintro n s1 ⟨B,H1,I1,w1⟩;show wpAny_passesOwn hp (Af (hc zF s1 B H1 _ I1 (F n B H1 w1)) λb s2 zq=>?_);let#[H2,I2,L]:=zq;cases b with
 |true=>
  let#[N,hN,L]:=L;rw[qY rfl];show wpAny_passesOwn hp (Af (hb zF s2 B H2 _ I2 L) λf s3 J=>?_);cases f with
  |next=>let#[z,G,I3,O]:=J;let#[Y,hm,M]:=hN z G O;show#[Y,hm,z,G,I3,M]
  |cont=>let#[z,G,I3,O]:=J;let#[Y,hm,M]:=hN z G O;show#[Y,hm,z,G,I3,M]
  |brk=>show J
  |ret v=>show J
 |false=>rw[qZ qV];show wpAny_execs_nil #[B,H2,I2,L]
end
structure It where
 go:Nat->Hp->Prop
 yld:Nat->Hp->V->Hp->Prop
 stop:Nat->Hp->Prop
def bB(X:Cx)(zF:List (Addr×Obj))(H:Hp)(b:Addr):Prop:=
 H b=none/\b≠X.env.locals/\b∉X.fs/\(b∈X.ex\/X.s₀.heap.get? b=none)/\(∀x c,X.env.cells.lookup x=some c->c≠b)/\∀p∈X.pn++zF,p.1≠b
def Inv.fpOk(I:Inv X zF Z H s)(B:s.heap.objs.size<=b)(hn:H' b=none):bB X zF H' b:=by
 show#[hn,ne_of_gt (lt_of_lt_of_le I.lt B),I.nofs B,.inr (Heap.get?_none_of_le (le_trans I.sz B)),λx c e z=>?_,λp F z=>?_]
 .obtain⟨v,q⟩:=I.cell x c e;show absurd (lt_of_lt_of_le q.lt (by rw[z];show B)) (lt_irrefl _)
 .show absurd (lt_of_lt_of_le (qe (I.pin p F).1) (by rw[z];show B)) (lt_irrefl _)
structure gR(P:Program)(w:World)(K:W.Frag)(tg:Expr)(J:It)(fp:List Addr)(it:Addr)(tn:Nat->Heap->Prop):Prop where
 mem:it∈fp
 obj:∀i h,tn i h->∀b∈fp,∃o,h.get? b=some o/\∀v,o.data≠.cell v
 keep:∀i h h',tn i h->(∀b∈fp,∀o,h.get? b=some o->h'.get? b=some o)->tn i h'
 item:∀(X:Cx),X.prog=P->X.w=w->X.K=K->X.calm=true->∀(i:Nat)(zF:List (Addr×Obj))(s:Shared)(Z:St)(H:Hp)(E:zj),Inv X zF Z H s->(∀b∈fp,bB X zF H b)->tn i s.heap->J.go i H->
  wpAny (model P w) X.A (pyNext (.ref it)) (λr s1=>∃u,r=some u/\
   wpAny (model P w) X.A (letOwnedTupleGo tg (.ref it) u) (λ_ s2=>∃x H',Inv X zF Z H' s2/\zw x u/\J.yld i H x H'/\tn (i+1) s2.heap/\∀b∈fp,H' b=none) E s1) E s
 done:∀(X:Cx),X.prog=P->X.w=w->X.K=K->X.calm=true->∀(i:Nat)(zF:List (Addr×Obj))(s:Shared)(Z:St)(H:Hp)(E:zj),Inv X zF Z H s->(∀b∈fp,bB X zF H b)->tn i s.heap->J.stop i H->
  wpAny (model P w) X.A (pyNext (.ref it)) (λr s1=>r=none/\Inv X zF Z H s1) E s
 self:∀(A:Around)(i:Nat)(s:Shared)(Q:zj)(E:zj),tn i s.heap->Q (.ref it) s->wpAny (model P w) A (pyIter (.ref it)) Q E s
abbrev TI:=St->Hp->(It->Hp->Prop)->Prop
inductive uU(X:Cx)(zF:List (Addr×Obj))(Z:St)(tg:Expr)(R:It->Hp->Prop)(itv:Value)(s2:Shared):Prop
 |mk (it:Addr) (fp:List Addr) (tn:Nat->Heap->Prop) (J:It) (H':Hp):itv=.ref it->Inv X zF Z H' s2->gR X.prog X.w X.K tg J fp it tn->tn 0 s2.heap->(∀b∈fp,bB X zF H' b)->R J H'->uU X zF Z tg R itv s2
@[inline]def PI(X:Cx)(tg iter:Expr)(z:TI):Prop:=
 ∀(zF:List (Addr×Obj))(s:Shared)(Z:St)(H:Hp)(R:It->Hp->Prop),Inv X zF Z H s->z Z H R->
  wpAny (model X.prog X.w) X.A (eval iter X.env) (λv B=>wpAny (model X.prog X.w) X.A (pyIter v) (uU X zF Z tg R) X.xe B) X.xe s
def Fd(B:s.heap.get? it=some o)(G:o.cls=.type n)(F:o.data=.fields vs)
  (hn:["enumerate","zip","dict_itemiterator","dict_reverseitemiterator","odict_iterator","itertools.zip_longest","itertools.pairwise"].contains n=false)(z:Q () s):wpAny M A (letOwnedTupleGo tg (.ref it) u) Q E s:=by
 unfold letOwnedTupleGo;cases tg<;>first
  |show qb z
  |(cases u<;>first
   |show qb z
   |(show qa (wpAny_load B ?_);rw[G,F];show wpAny M A (if(["enumerate","zip","dict_itemiterator","dict_reverseitemiterator","odict_iterator","itertools.zip_longest","itertools.pairwise"].contains n&&vs[0]?==some (rawInt _))=true then _ else _) Q E s;rw[qZ (by intro h;rw[hn,Bool.false_and]at h;cases h)];show qb z))
def vB(K:W.Frag)(a:Addr):It:=
 #[λi H=>∃xs x,bC K H a xs/\xs[i]?=some x,λi H x H'=>H'=H/\∀xs,bC K H a xs->xs[i]?=some x,λi H=>∃xs,bC K H a xs/\xs.length<=i]
def zX(K:W.Frag)(a:Addr):It:=
 #[λi H=>∃xs x,aV K H a xs/\xs[i]?=some x,λi H x H'=>H'=H/\∀xs,aV K H a xs->xs[i]?=some x,λi H=>∃xs,aV K H a xs/\xs.length<=i]
def wD(lo:Int)(n:Nat):It:=#[λi _=>i<n,λi H x H'=>H'=H/\x=.int (lo+i),λi _=>n<=i]
def Rj{P:Program}{w:World}{K:W.Frag}{tg:Expr}(a it:Addr):gR P w K tg (vB K a) [it] it (λi h=>h.IsListIter it a i) where
 mem:=by simp
 obj:=λi h st b hb=>by
  let e:b=it:=↑hb
  subst e;let#[o,e,c,d]:=st;show#[o,e,λv z=>by rw[d]at z;cases z]
 keep:=λi h h' st k=>st.at λo e=>k it (by simp) o e
 item:=by intro X hP hw hK hc i zF s Z H E I hf st hg;subst hP hw hK;let#[xs,x,hq,hx]:=hg;let#[zJ,rv,p,hz]:=I.list hq;let#[u,hu,ru]:=rv.get hx;let#[f0,f1,f2,f3,f4,f5]:=hf it (by simp);show wpAny_pyNext_list_item st p.isList (x:=u) ↑hu λh' st' sb=>?_;let I1:Inv X zF Z H {s with heap:=h'}:=I.turned (t':=s.toks) (λb o hb e=>(sb.2 b hb).trans e) f0 f1 f3 f4 f5;let#[o,e,c,d]:=id st';show#[u,rfl,Fd (s:={s with heap:=h'}) e c d ⋯ #[x,H,I1,ru,#[rfl,λys hy=>by rw[I.list_inj hy hq];show hx],st',λb hb=>(hf b hb).1]]
 done:=by intro X hP hw hK hc i zF s Z H E I hf st hg;subst hP hw hK;let#[xs,hq,hx]:=hg;let#[zJ,rv,p,hz]:=I.list hq;let#[f0,f1,f2,f3,f4,f5]:=hf it (by simp);let hl:=rv.length;show wpAny_pyNext_list_end (I.ok.hd hc) st p.isList (by simp;lia -verbose) λh' eb=>#[rfl,I.turned (t':=s.toks) (λb o hb e=>eb b o hb e) f0 f1 f3 f4 f5]
 self:=λ_ _ _ _ _ st h=>wpAny_pyIter_listiter st h
def RJ{P:Program}{w:World}{K:W.Frag}{tg:Expr}(a it:Addr):gR P w K tg (zX K a) [it] it (λi h=>h.IsTupleIter it a i) where
 mem:=by simp
 obj:=λi h st b hb=>by
  let e:b=it:=↑hb
  subst e;let#[o,e,c,d]:=st;show#[o,e,λv z=>by rw[d]at z;cases z]
 keep:=λi h h' st k=>st.at λo e=>k it (by simp) o e
 item:=by intro X hP hw hK hc i zF s Z H E I hf st hg;subst hP hw hK;let#[xs,x,hq,hx]:=hg;let#[zJ,rv,p,hz]:=I.tuple hq;let#[u,hu,ru]:=rv.get hx;let#[f0,f1,f2,f3,f4,f5]:=hf it (by simp);show wpAny_pyNext_tuple_item st (show s.heap.IsTuple a zJ.toArray from p) (x:=u) ↑hu λh' st' sb=>?_;let I1:Inv X zF Z H {s with heap:=h'}:=I.turned (t':=s.toks) (λb o hb e=>(sb.2 b hb).trans e) f0 f1 f3 f4 f5;let#[o,e,c,d]:=id st';show#[u,rfl,Fd (s:={s with heap:=h'}) e c d ⋯ #[x,H,I1,ru,#[rfl,λys hy=>by rw[I.tuple_inj hy hq];show hx],st',λb hb=>(hf b hb).1]]
 done:=by intro X hP hw hK hc i zF s Z H E I hf st hg;subst hP hw hK;let#[xs,hq,hx]:=hg;let#[zJ,rv,p,hz]:=I.tuple hq;let#[f0,f1,f2,f3,f4,f5]:=hf it (by simp);let hl:=rv.length;show wpAny_pyNext_tuple_end (I.ok.hd hc) st (show s.heap.IsTuple a zJ.toArray from p) (by simp;lia -verbose) λh' eb=>#[rfl,I.turned (t':=s.toks) (λb o hb e=>eb b o hb e) f0 f1 f3 f4 f5]
 self:=λ_ _ _ _ _ st h=>wpAny_pyIter_tupleiter st h
def RH{P:Program}{w:World}{K:W.Frag}{tg:Expr}(it:Addr)(lo:Int)(n:Nat):gR P w K tg (wD lo n) [it] it (λi h=>IsRangeIter h it (lo+(i:Nat)*1) ((n:Int)-(i:Nat)) 1) where
 mem:=by simp
 obj:=λi h st b hb=>by
  let e:b=it:=↑hb
  subst e;show#[_,st,λv z=>by let z':Data.fields _=Data.cell v:=z;cases z']
 keep:=λi h h' st k=>k it (by simp) _ st
 item:=by intro X hP hw hK hc i zF s Z H E I hf st hg;subst hP hw hK;let#[f0,f1,f2,f3,f4,f5]:=hf it (by simp);let W:=Walks.range (prog:=X.prog) (w:=X.w) (I.ok.hd hc) it lo 1 n;show W.item i s _ _ hg st λv h' tk hv st' kk=>?_;let#[t,rfl]:=hv;let I1:Inv X zF Z H {s with heap:=h',toks:=tk}:=I.turned (λb o hb e=>kk b o ↑hb e) f0 f1 f3 f4 f5;show#[_,rfl,Fd (s:={s with heap:=h',toks:=tk}) (n:="range_iterator") st' rfl rfl ⋯ #[.int (lo+i),H,I1,#[t,?_],#[rfl,rfl],st',λb hb=>(hf b hb).1]];rw[mul_one]
 done:=by intro X hP hw hK hc i zF s Z H E I hf st hg;subst hP hw hK;let#[f0,f1,f2,f3,f4,f5]:=hf it (by simp);show wpAny_pyNext_range_end (I.ok.hd hc) st (by let:n<=i:=hg;lia) λh' eb=>#[rfl,I.turned (t':=s.toks) (λb o hb e=>eb b o hb e) f0 f1 f3 f4 f5]
 self:=λ_ _ _ _ _ st h=>wpAny_pyIter_rangeiter st h
section
variable{X:Cx}{tg:Expr}
def Px{lo hi:Int}(I:Inv X zF Z H s)(h1:-(2^62)<=lo)(h2:lo<2^62)(G:-(2^62)<=hi)(F:hi<2^62)
  (q:R (wD lo (hi-lo).toNat) H):wpAny (model X.prog X.w) X.A (pyIter (.ref s.heap.objs.size)) (uU X zF Z tg R) E {s with heap:=s.heap.push {cls:=.type "range",data:=.fields [.int lo t,.int hi u,.int 1 v].toArray},toks:=tk}:=by
 refine wpAny_pyIter_range (IsRange.new ..) (small_one h1 h2 G F) ?_;let z:Inv X zF Z H {s with heap:=s.heap.push {cls:=.type "range",data:=.fields [.int lo t,.int hi u,.int 1 v].toArray},toks:=tk}:=I.kept λb o e=>qc _ e;refine⟨(s.heap.push {cls:=.type "range",data:=.fields [.int lo t,.int hi u,.int 1 v].toArray}).objs.size,[(s.heap.push {cls:=.type "range",data:=.fields [.int lo t,.int hi u,.int 1 v].toArray}).objs.size],_,_,H,rfl,
  z.kept (t':=tk) λb o e=>qc _ e,RH _ lo (hi-lo).toNat,?_,λb B=>?_,q⟩
 .let L:lo+((0:Nat):Int)*1=lo:=by simp
  let J:(((hi-lo).toNat:Nat):Int)-((0:Nat):Int)=Builtin.Range.rangeSize lo hi 1:=by rw[rangeSize_one];split<;>lia
  show IsRangeIter _ _ (lo+((0:Nat):Int)*1) ((((hi-lo).toNat:Nat):Int)-((0:Nat):Int)) 1;rw[L,J];show qd _ rfl
 .let e:b=(s.heap.push {cls:=.type "range",data:=.fields [.int lo t,.int hi u,.int 1 v].toArray}).objs.size:=by simpa using B
  subst e;show z.fpOk (q8 _) (z.hok.fresh (q8 _))
def uC(ta:TA):TI:=λZ H R=>ta Z H λvs H1=>∃j:Int,vs=[.int j]/\-(2^62)<=j/\j<2^62/\R (wD 0 j.toNat) H1
def PP(M:Gl X "range")(L:X.mg "range"=none)(O:PA X [a] ta)(hs:starEach [a] X.env=[(false,eval a X.env)]:=by rfl):PI X tg (.Call (.Name "range" p) [a] [] pos) (uC ta):=by
 intro zF s Z H R I h;show Call_ (DN I M L boot_range (PyProof.Rows.callWith_type1 (Af (O pos zF s Z H _ I h) λus s1 B=>?_) hs rfl));let#[vs,H1,Y,G,z]:=B;let#[j,e,z,J,q]:=z;subst e;cases G with
 |cons r F=>cases F;let#[t,rfl]:=r;show call_range_1 (Px Y ∅ ∅ z J ↑q)
def xH(F:TI)(g:TG)(tb:TS):TS:=λD Z H=>F Z H λJ H1=>∃W:Nat->Nat->St->Hp->Prop,(∃m,W 0 m Z H1)/\∀i m Z H,W i m Z H->
 (J.stop i H/\D.nx Z H)\/(J.go i H/\∃N:St->Hp->Prop,(∀Z' H',N Z' H'->∃B,B<m/\W (i+1) B Z' H')/\∀x H',J.yld i H x H'->g x Z H' λz H2=>tb {D with nx:=N,ct:=N,bk:=D.nx} z H2)
def eP(fp:List Addr)(h:Heap):List (Addr×Obj):=fp.filterMap λb=>(h.get? b).map λo=>(b,o)
def Ga(z:b∈fp)(e:h.get? b=some o):(b,o)∈eP fp h:=mem_filterMap.mpr #[b,z,by rw[e];rfl]
def Qd(z:p∈eP fp h):p.1∈fp/\h.get? p.1=some p.2:=by
 let#[b,B,e]:=mem_filterMap.mp z;cases q:h.get? b with
 |none=>rw[q]at e;cases e
 |some o=>grind
def Inv.pinned(I:Inv X zF Z H s)(L:∀b∈fp,bB X zF H b)(J:∀b∈fp,∃o,s.heap.get? b=some o/\∀v,o.data≠.cell v):Inv X (zF++eP fp s.heap) Z H s:=
 I.pins_of λp G=>(qx.mp G).elim (λz=>I.pin p (qi _ z)) λz=>by let#[B,e]:=Qd z;let#[Y,O,M,_]:=L p.1 B;let#[o,F,d]:=J p.1 B;rw[e]at F;cases F;show#[e,Y,O,M,d]
def Inv.unpinned(I:Inv X (zF++B) Z H s):Inv X zF Z H s:=I.pins_of λp z=>I.pin p (qi _ (qj _ z))
def Mq(hp:PassesOwn (model X.prog X.w) X.A X.env X.xe)(hc:X.calm=true)(hi:PI X tg iter wi)(hg:PG X tg g)(G:gS X body tb)
  (hs:∀x,foldedSetIterable iter X.env x=pure x:=by intro _;rfl):PS X (.For tg iter body [] pos) (xH wi g tb):=by
 intro zF s Z H D I h;show wpAny_For (Af (hi zF s Z H _ I h) λv s1 h1=>Af h1 λe3 s2 h2=>?_) hs;let#[it,fp,tn,J,H2,e,I2,T,h9,f2,W,#[m0,w0],h3]:=h2;subst e
 --what stays true of the iterator's objects through the loop
 let F:∀{H':Hp},(∀b∈fp,H' b=none)->∀b∈fp,bB X zF H' b:=λhn b G=>#[hn b G,(f2 b G).2]
 show codeAny_forLoop_any (λn s'=>∃i Z' H',Inv X zF Z' H' s'/\tn i s'.heap/\(∀b∈fp,H' b=none)/\W i n Z' H') ?_ m0 #[0,Z,H2,I2,h9,λb G=>(f2 b G).1,w0];rintro n s3 ⟨i,B,H3,I3,h6,h7,w3⟩;rcases h3 i n B H3 w3 with⟨h5,qn⟩|⟨go,N,hN,step⟩
 .show wpAny_passesOwn hp (Af (T.done X rfl rfl rfl hc i zF s3 B H3 X.xe I3 (F h7) h6 h5) λr s4⟨hr,I4⟩=>?_);subst hr;show wpAny_execs_nil #[B,H3,I4,qn]
 .show wpAny_passesOwn hp (Af (T.item X rfl rfl rfl hc i zF s3 B H3 X.xe I3 (F h7) h6 go) λr s4 zq=>?_);let#[u,hr,h4]:=zq;subst hr;show wpAny_passesOwn hp (Af h4 λ_ s5 zq=>?_);let#[x,H5,I5,r5,y5,Y,e1]:=zq;let e2:=I5.pinned (F e1) (T.obj _ _ Y);show wpAny_passesOwn hp (Af (hg _ s5 B H5 x u _ e2 r5 (step x H5 y5)) λ_ s6 zq=>?_);let#[h8,H6,I6,q6]:=zq;show wpAny_passesOwn hp (Af (G _ s6 h8 H6 _ I6 q6) λf s7 O=>?_);let again:∀{z:St}{M:Hp},Inv X (zF++eP fp s5.heap) z M s7->N z M->∃m,m<n/\∃i Z' H',Inv X zF Z' H' s7/\tn i s7.heap/\(∀b∈fp,H' b=none)/\W i m Z' H':=λ{z M} L n7=>by let#[m',hm,w7]:=hN z M n7;show#[m',hm,i+1,z,M,L.unpinned,T.keep _ _ _ Y λb G o e=>(L.pin (b,o) (qi _ (qi _ (Ga G e)))).1,λb G=>?_,w7];let#[o,e,d]:=T.obj _ _ Y b G;exact(L.pin (b,o) (qi _ (qi _ (Ga G e)))).2.1
  cases f with
  |next=>let#[z,M,L,n7]:=O;show again L n7
  |cont=>let#[z,M,L,n7]:=O;show again L n7
  |brk=>let#[z,M,L,O]:=O;show#[z,M,L.unpinned,O]
  |ret v=>let#[x7,z,M,L,r7,O]:=O;show#[x7,z,M,L.unpinned,r7,O]
end
abbrev R2:=V->V->Hp->VK->Prop
@[inline]def OpR(X:Cx)(f:Value->Value->Sem Value)(r:R2):Prop:=
 ∀(zF:List (Addr×Obj))(s:Shared)(Z:St)(H:Hp)(x y:V)(v u:Value)(Q:VK),Inv X zF Z H s->zw x v->zw y u->r x y H Q->
  wpAny (model X.prog X.w) X.A (f v u) (EP X zF Z Q) X.xe s
def zS(X:Cx)(f:Value->Sem Value)(r:V->Hp->VK->Prop):Prop:=
 ∀(zF:List (Addr×Obj))(s:Shared)(Z:St)(H:Hp)(x:V)(v:Value)(Q:VK),Inv X zF Z H s->zw x v->r x H Q->
  wpAny (model X.prog X.w) X.A (f v) (EP X zF Z Q) X.xe s
def aK(X:Cx)(f:Value)(r:List V->Hp->VK->Prop):Prop:=
 ∀(zF:List (Addr×Obj))(s:Shared)(Z:St)(H:Hp)(xs:List V)(us:List Value)(Q:VK),Inv X zF Z H s->zC xs us->r xs H Q->
  wpAny (model X.prog X.w) X.A (call f us) (EP X zF Z Q) X.xe s
def zU(X:Cx)(r:V->Hp->(Bool->Hp->Prop)->Prop):Prop:=
 ∀(zF:List (Addr×Obj))(s:Shared)(Z:St)(H:Hp)(x:V)(v:Value)(Q:Bool->Hp->Prop),Inv X zF Z H s->zw x v->r x H Q->
  wpAny (model X.prog X.w) X.A (truthy v) (TP X zF Z Q) X.xe s
def vQ(r:R2)(ta tb:TE):TE:=λZ H Q=>ta Z H λx H1=>tb Z H1 λy H2=>r x y H2 Q
def bq(r:V->Hp->VK->Prop)(ta:TE):TE:=λZ H Q=>ta Z H λx H1=>r x H1 Q
def rI(C:Int->Int->Prop)(g:Int->Int->V):R2:=λx y H Q=>∃i j,x=.int i/\y=.int j/\C i j/\Q (g i j) H
def nK(g:Int->Int->V):R2:=λx y H Q=>∃i j,x=.int i/\y=.int j/\Q (g i j) H
def rU(g:Int->V):V->Hp->VK->Prop:=λx H Q=>∃i,x=.int i/\Q (g i) H
section
variable{X:Cx}{a b c:Expr}{ta tb tc:TE}{pos:Pos}
def DU(ha:PE X a ta)(hb:PE X b tb){R:V->V->Hp->Prop}(I:Inv X zF Z H s)
  (h:ta Z H λx H1=>tb Z H1 λy H2=>R x y H2){f:Value->Value->Sem Value}
  (hf:∀v u F x y H2,Inv X zF Z H2 F->zw x v->zw y u->R x y H2->wpAny (model X.prog X.w) X.A (f v u) Q X.xe F):
  wpAny (model X.prog X.w) X.A (eval a X.env) (λv B=>wpAny (model X.prog X.w) X.A (eval b X.env) (λu z=>wpAny (model X.prog X.w) X.A (f v u) Q X.xe z) X.xe B) X.xe s:=by
 show Af (ha zF s Z H _ I h) λv J G=>?_;let#[x,H1,I1,M,Y]:=G;show Af (hb zF J Z H1 _ I1 Y) λu F G=>?_;let#[y,H2,I2,L,O]:=G;show hf v u F x y H2 I2 M L O
def LN(G:OpR X (binaryOp op) r)(L:PE X a ta)(J:PE X b tb):PE X (.BinOp a op b pos) (vQ r ta tb):=by intro zF s Z H Q I h;show wpAny_BinOp (DU L J I h λv u z x y H2 M F B q=>G zF z Z H2 x y v u Q M F B q)
def LK(G:zS X (unaryOp op) r)(J:PE X a ta):PE X (.UnaryOp op a pos) (bq r ta):=by intro zF s Z H Q I h;show UnaryOp_ (Af (J zF s Z H _ I h) λv z⟨x,H1,L,B,F⟩=>G zF z Z H1 x v Q L B F)
def EN{g:Int->Int->Int}
  (rule:∀(i j:Int)(t u:Tok)(s:Shared)(Q:zj)(E:zj),C i j->Q (.int (g i j) s.toks) {s with toks:=s.toks+1}->wpAny (model X.prog X.w) X.A (f (.int i t) (.int j u)) Q E s):
  OpR X f (rI C λi j=>.int (g i j)):=by
 intro zF s Z H x y v u Q I F B h;let#[i,j,rfl,rfl,G,q]:=h;let#[t,rfl]:=F;let#[z,rfl]:=B;show rule i j t z s _ _ G #[.int (g i j),H,I.tok _,#[_,rfl],q]
def Hs{g:Int->Int->Int}
  (rule:∀(i j:Int)(t u:Tok)(s:Shared)(Q:zj)(E:zj),Q (.int (g i j) s.toks) {s with toks:=s.toks+1}->wpAny (model X.prog X.w) X.A (f (.int i t) (.int j u)) Q E s):
  OpR X f (nK λi j=>.int (g i j)):=by
 intro zF s Z H x y v u Q I F B h;let#[i,j,rfl,rfl,q]:=h;let#[t,rfl]:=F;let#[z,rfl]:=B;show rule i j t z s _ _ #[.int (g i j),H,I.tok _,#[_,rfl],q]
def Dj{g:Int->Int->Bool}
  (rule:∀(i j:Int)(t u:Tok)(s:Shared)(Q:zj)(E:zj),Q (.bool (g i j)) s->wpAny (model X.prog X.w) X.A (f (.int i t) (.int j u)) Q E s):
  OpR X f (nK λi j=>.bl (g i j)):=by
 intro zF s Z H x y v u Q I F B h;let#[i,j,rfl,rfl,q]:=h;let#[t,rfl]:=F;let#[z,rfl]:=B;show rule i j t z s _ _ #[.bl (g i j),H,I,rfl,q]
def vJ(i j:Int):Prop:=0<=j/\j<=1000000/\i.natAbs<2^64
def lN(i j:Int):Prop:=(-(2^64)<i/\i<2^64)\/(-(2^64)<j/\j<2^64)
def lN.ok(h:lN i j):IntMulOk i j:=by
 rcases h with⟨h1,h2⟩|⟨h1,h2⟩
 .show .of_left (intBits_le_64 h1 h2)
 .show .of_right (intBits_le_64 h1 h2)
def Md:OpR X (binaryOp .Add) (nK λi j=>.int (i+j)):=Hs λ_ _ _ _ _ _ _ q=>add_int q
def LH:OpR X (binaryOp .Mult) (rI lN λi j=>.int (i*j)):=EN λ_ _ _ _ _ _ _ z q=>mul_int q z.ok
def Mm:OpR X (binaryOp .Mod) (rI (λ_ j=>0<j) λi j=>.int (i %j)):=EN λi j _ _ _ _ _ z q=>by let h1:(0:Int)<j:=z;show mod_int' ∅ (by rw[Int.fmod_eq_emod_of_nonneg i ∅];show q)
def MA:OpR X (binaryOp .Pow) (rI vJ λi j=>.int (i^j.toNat)):=EN λ_ _ _ _ _ _ _ z q=>pow_int_small z.1 z.2.1 z.2.2 q
def Sy{g:Int->Int}
  (rule:∀(i:Int)(t:Tok)(s:Shared)(Q:zj)(E:zj),Q (.int (g i) s.toks) {s with toks:=s.toks+1}->wpAny (model X.prog X.w) X.A (f (.int i t)) Q E s):
  zS X f (rU λi=>.int (g i)):=by
 intro zF s Z H x v Q I z h;let#[i,rfl,q]:=h;let#[t,rfl]:=z;show rule i t s _ _ #[.int (g i),H,I.tok _,#[_,rfl],q]
def LF:zS X (unaryOp .USub) (rU λi=>.int (-i)):=Sy λ_ _ _ _ _ q=>neg_int q
end
def sU:V->V->Bool
 |.non,.non=>true|.non,.int _=>true|.int _,.non=>true|.non,.bl _=>true|.bl _,.non=>true|.non,.str _=>true|.str _,.non=>true
 |.int _,.int _=>true|.bl _,.bl _=>true|.str _,.str _=>true|.byt _,.byt _=>true
 |.int _,.str _=>true|.str _,.int _=>true|.bl _,.str _=>true|.str _,.bl _=>true
 |_,_=>false
def bz:R2:=λx y H Q=>sU x y=true/\Q (.bl (!decide (x=y))) H
def Nw:decide (V.int i=V.int j)=(i==j):=by rw[Bool.eq_iff_iff];simp
def MJ:decide (V.bl i=V.bl j)=(i==j):=by rw[Bool.eq_iff_iff];simp
def ND:decide (V.str i=V.str j)=(i==j):=by rw[Bool.eq_iff_iff];simp
def Nk:decide (V.byt i=V.byt j)=(i.toList==j.toList):=by rw[Bool.eq_iff_iff];cases i;cases j;simp
section
variable{X:Cx}{a b c:Expr}{ta tb tc:TE}{pos:Pos}
def BK(I:Inv X zF Z H s)(q:Q (.bl k) H)(e:k=z):EP X zF Z Q (.bool z) s:=by subst e;show#[.bl k,H,I,rfl,q]
def Lx:OpR X (compareOp .NotEq) bz:=by
 intro zF s Z H x y v u Q I G z h;let#[F,q]:=h;cases x with
 |non=>
  cases G;cases y with
  |non=>cases z;show PySem.EqNone.ne_none_none (BK I q (by simp))
  |bl j=>cases z;show PySem.EqNone.ne_none_bool (BK I q (by simp))
  |int j=>let#[B,rfl]:=z;show PySem.EqNone.ne_none_int (BK I q (by simp))
  |str j=>let#[B,rfl]:=z;show PySem.EqNone.ne_none_str (BK I q (by simp))
  |_=>show absurd (show false=true from F) qV
 |bl i=>
  cases G;cases y with
  |non=>cases z;show PySem.EqNone.ne_bool_none (BK I q (by simp))
  |bl j=>cases z;show ne_bool (BK I q (congrArg not MJ))
  |str j=>let#[B,rfl]:=z;show PySem.EqMixed.ne_bool_str (BK I q (by simp))
  |_=>show absurd (show false=true from F) qV
 |int i=>
  let#[t,rfl]:=G;cases y with
  |non=>cases z;show PySem.EqNone.ne_int_none (BK I q (by simp))
  |int j=>let#[B,rfl]:=z;show ne_int (BK I q (congrArg not Nw))
  |str j=>let#[B,rfl]:=z;show PySem.EqMixed.ne_int_str (BK I q (by simp))
  |_=>show absurd (show false=true from F) qV
 |str i=>
  let#[t,rfl]:=G;cases y with
  |non=>cases z;show PySem.EqNone.ne_str_none (BK I q (by simp))
  |bl j=>cases z;show PySem.EqMixed.ne_str_bool (BK I q (by simp))
  |int j=>let#[B,rfl]:=z;show PySem.EqMixed.ne_str_int (BK I q (by simp))
  |str j=>let#[B,rfl]:=z;show ne_str (BK I q (congrArg not ND))
  |_=>show absurd (show false=true from F) qV
 |byt i=>
  let#[t,rfl]:=G;cases y with
  |byt j=>let#[B,rfl]:=z;show W.ne_bytes (BK I q (congrArg not Nk))
  |_=>show absurd (show false=true from F) qV
 |_=>cases y<;>show absurd (show false=true from F) qV
def LM:OpR X (compareOp .Lt) (nK λi j=>.bl (decide (i<j))):=Dj λ_ _ _ _ _ _ _ q=>lt_int q
def Ly:OpR X (compareOp .LtE) (nK λi j=>.bl (decide (i<=j))):=Dj λ_ _ _ _ _ _ _ q=>le_int q
def Ll:OpR X (compareOp .Gt) (nK λi j=>.bl (decide (j<i))):=Dj λ_ _ _ _ _ _ _ q=>gt_int q
def Lm:OpR X (compareOp .GtE) (nK λi j=>.bl (decide (j<=i))):=Dj λ_ _ _ _ _ _ _ q=>ge_int q
def LW:OpR X (compareOp .Is) (λx y H Q=>y=.non/\Q (.bl (decide (x=.non))) H):=by
 intro zF s Z H x y v u Q I z B h;let#[rfl,q]:=h;cases B;show is_none_gen (BK I q ?_);cases x<;>first
  |(cases z;rfl)
  |(let#[t,rfl]:=z;rfl)
def Ad(b:Expr)(h:op≠.In:=by decide)(h2:op≠.NotIn:=by decide):behindInMarks op b=false:=CM b h h2
def My(G:OpR X (compareOp op) r)(M:PE X a ta)(L:PE X b tb)(J:behindInMarks op b=false):PE X (.Compare a [op] [b] pos) (vQ r ta tb):=by intro zF s Z H Q I h;show wpAny_Compare1 (DU M L I h λv u z x y H2 O F B q=>G zF z Z H2 x y v u Q O F B q) J
def nF(t:TE):TT:=λZ H Q=>t Z H λx H'=>∃k,x=.bl k/\Q k H'
def Jg(ho:OpR X (compareOp op) r)(ha:PE X a ta)(hb:PE X b tb)(hm:behindInMarks op b=false):PT X (.Compare a [op] [b] pos) (nF (vQ r ta tb)):=by
 intro zF s Z H Q I h;show wpAny_isTrue_Compare1 (Af (ha zF s Z H _ I h) λv F⟨x,H1,I1,L,Y⟩=>Af (hb zF F Z H1 _ I1 Y) λu B⟨y,H2,I2,J,O⟩=>Af (ho zF B Z H2 x y v u _ I2 L J O) λc s3⟨z,H3,I3,G,k,e,M⟩=>?_) hm
 subst e;cases G;show wpAny_truthy_bool #[H3,I3,M]
def hV(r G:R2)(ta tb tc:TE):TE:=λZ H Q=>ta Z H λx H1=>tb Z H1 λy H2=>r x y H2 λz B=>∃k,z=.bl k/\
 (if k=true then tc Z B λF J=>G y F J Q else Q (.bl false) B)
def OJ(ho:OpR X (compareOp op) r)(F:OpR X (compareOp B) r')(ha:PE X a ta)(hb:PE X b tb)(hc:PE X c tc)
  (hm:lastMarks [op,B] [b,c]=false:=by with_unfolding_all rfl):PE X (.Compare a [op,B] [b,c] pos) (hV r r' ta tb tc):=by
 intro zF s Z H Q I h;show Compare_chain (Af (ha zF s Z H _ I h) λv s1⟨x,H1,I1,r1,q1⟩=>chain_link (Af (hb zF s1 Z H1 _ I1 q1) λu s2⟨y,H2,I2,G,q2⟩=>Af (ho zF s2 Z H2 x y v u _ I2 r1 G q2) λd s3⟨z,M,L,r3,k,e,J⟩=>?_)) hm
 subst e;cases r3;show wpAny_truthy_bool ?_;cases k with
 |false=>show ite_ff #[.bl false,M,L,rfl,J]
 |true=>show ite_tt (chain_last (Af (hc zF s3 Z M _ L J) λY s4⟨O,H4,I4,r4,q4⟩=>F zF s4 Z H4 y O u Y Q I4 G r4 q4))
def NS(ho:OpR X (compareOp op) r)(F:OpR X (compareOp B) r')(ha:PE X a ta)(hb:PE X b tb)(hc:PE X c tc)
  (hm:lastMarks [op,B] [b,c]=false:=by with_unfolding_all rfl):PT X (.Compare a [op,B] [b,c] pos) (nF (hV r r' ta tb tc)):=by
 intro zF s Z H Q I h;show isTrue_chain (Af (ha zF s Z H _ I h) λv s1⟨x,H1,I1,r1,q1⟩=>test_link (Af (hb zF s1 Z H1 _ I1 q1) λu s2⟨y,H2,I2,G,q2⟩=>Af (ho zF s2 Z H2 x y v u _ I2 r1 G q2) λd s3⟨z,M,L,r3,k,e,J⟩=>?_)) hm
 subst e;cases r3;show wpAny_truthy_bool ?_;cases k with
 |false=>let#[k',e',q']:=J;cases e';show ite_ff #[M,L,q']
 |true=>show ite_tt (test_last (Af (hc zF s3 Z M _ L J) λw' s4⟨Y,H4,I4,r4,q4⟩=>Af (F zF s4 Z H4 y Y u w' _ I4 G r4 q4) λd' s5 O=>?_));let#[z2,H5,I5,r5,k2,e2,q5]:=O;subst e2;cases r5;show wpAny_truthy_bool #[H5,I5,q5]
def rX(K:W.Frag)(x:V)(H:Hp)(k:Bool):Prop:=
 match x with
 |.non=>k=false
 |.bl b=>k=b
 |.int i=>k=(i !=0)
 |.str y=>y.length<=sizeLine/\k=((y.length:Int) !=0)
 |.byt y=>y.size<=sizeLine/\k=((y.size:Int) !=0)
 |.ref p=>(∃xs,bC K H p xs/\k=!xs.isEmpty)\/(∃xs,aV K H p xs/\k=!xs.isEmpty)\/∃z,H p=some (.dK z)/\k=!z.isEmpty
 |_=>False
def QS(r:KV z vs):(!vs.isEmpty)=!z.isEmpty:=by cases r<;>rfl
def Kw(r:zC xs z):(!z.toArray.isEmpty)=!xs.isEmpty:=by cases r<;>simp
def AD:(sizeLine:Nat)<2^63:=by rw[zf];decide
def LU:zU X (λx H Q=>∃k,rX X.K x H k/\Q k H):=by
 intro zF s Z H x v Q I G h;let#[k,e,q]:=h;let hl:=AD;let hs:sizeLine=16777216:=zf;cases x with
 |non=>cases G;let z:k=false:=e;subst z;show truthy_none #[H,I,q]
 |bl b=>cases G;let z:k=b:=e;subst z;show wpAny_truthy_bool #[H,I,q]
 |int i=>let#[t,rfl]:=G;let z:k=(i !=0):=e;subst z;show PySem.P.truthy_int #[H,I,q]
 |str y=>let#[t,rfl]:=G;obtain⟨Y,z⟩:y.length<=sizeLine/\k=((y.length:Int) !=0):=e;subst z;show PySem.P.truthy_str ∅ #[H,I.tok _,q]
 |byt y=>let#[t,rfl]:=G;obtain⟨Y,z⟩:y.size<=sizeLine/\k=((y.size:Int) !=0):=e;subst z;show W.truthy_bytes ∅ #[H,I.tok _,q]
 |ref p=>
  cases G;let z:(∃xs,bC X.K H p xs/\k=!xs.isEmpty)\/(∃xs,aV X.K H p xs/\k=!xs.isEmpty)\/∃B,H p=some (.dK B)/\k=!B.isEmpty:=e;rcases z with⟨xs,J,z⟩|⟨xs,J,z⟩|⟨B,J,z⟩
  .subst z;let#[M,r,L,O]:=I.list J;let F:=r.length;show wpAny_truthy_list L.isList (by simp only[qr];lia) #[H,I.tok _,by rw[Kw r];show q]
  .subst z;let#[M,r,L,O]:=I.tuple J;let F:=r.length;show truthy_tuple L (by simp only[qr];lia) #[H,I.tok _,by rw[Kw r];show q]
  .subst z;obtain⟨O,hS,vs,r,m⟩:B.length<=sizeLine/\(p==sysModules)=false/\∃vs,KV B vs/\s.heap.DictOf (aH X.prog X.w) p vs:=I.hok p _ J;let F:B.length=vs.length:=Paired.length r;show wpAny_truthy_dict hS m ∅ #[H,I.tok _,by rw[QS r];show q]
 |_=>show(show False from e).elim
def Ob(ha:PE X a ta)(he:∀whole,isTrue a X.env whole=(do let v<-whole;standAt a.pos;holding [v] (truthy v))):
  PT X a (λZ H Q=>ta Z H λx H'=>∃k,rX X.K x H' k/\Q k H'):=by
 intro zF s Z H Q I h;show isTrue_plain (Af (ha zF s Z H _ I h) λv s1⟨x,H1,I1,r1,q1⟩=>LU zF s1 Z H1 x v Q I1 r1 q1) (he _)
def Ry:OpR X (binaryOp .Add) (λx y H Q=>∃i j,x=.str i/\y=.str j/\i.length+j.length<=sizeLine/\Q (.str (i++j)) H):=by intro zF s Z H x y v u Q I F B h;let#[i,j,rfl,rfl,G,q]:=h;let#[t,rfl]:=F;let#[z,rfl]:=B;show add_str (λz tk=>#[.str (i++j),H,I.tok _,#[_,rfl],q]) G
theorem vals1(r:zC [x] us):∃u,us=[u]/\zw x u:=by
 cases r with
 |cons B z=>cases z;show#[_,rfl,B]
theorem vals2(r:zC [x,y] us):∃u z,us=[u,z]/\zw x u/\zw y z:=by
 cases r with
 |cons J G=>
  cases G with
  |cons F B=>cases B;show#[_,_,rfl,J,F]
def Ql(B:X.calm=true):aK X (.builtin "max") (λxs H Q=>∃i j,xs=[.int i,.int j]/\Q (.int (if j>i then j else i)) H):=by
 intro zF s Z H xs G Q I r h;let#[i,j,rfl,q]:=h;let#[u,F,rfl,#[t,rfl],#[J,rfl]]:=vals2 r;show max_two_ints (I.ok.hd B) λh' tk k=>#[_,H,I.kept k,?_,q]
 by_cases z:j>i
 .rw[qY z,qY z];show#[_,rfl]
 .rw[qZ z,qZ z];show#[_,rfl]
def Qb(B:X.calm=true):aK X (.builtin "min") (λxs H Q=>∃i j,xs=[.int i,.int j]/\Q (.int (if j<i then j else i)) H):=by
 intro zF s Z H xs G Q I r h;let#[i,j,rfl,q]:=h;let#[u,F,rfl,#[t,rfl],#[J,rfl]]:=vals2 r;show min_two_ints (I.ok.hd B) λh' tk k=>#[_,H,I.kept k,?_,q]
 by_cases z:j<i
 .rw[qY z,qY z];show#[_,rfl]
 .rw[qZ z,qZ z];show#[_,rfl]
def PZ:aK X (.type "int") (λxs H Q=>(∃i,xs=[.int i]/\Q (.int i) H)\/∃k,xs=[.bl k]/\Q (.int (if k then 1 else 0)) H):=by
 intro zF s Z H xs B Q I r h;rcases h with⟨i,rfl,q⟩|⟨k,rfl,q⟩
 .obtain⟨u,rfl,t,rfl⟩:=vals1 r;show call_int_int #[.int i,H,I,#[_,rfl],q]
 .obtain⟨u,rfl,z⟩:=vals1 r;cases z;show call_int_bool #[.int (if k then 1 else 0),H,I.tok _,#[_,rfl],q]
end
def PF{h:Heap}(n:h.Ns1 dx G):∃F,h.get? dx=some F/\∀name,W.lookIn name F=some (G name):=by
 let#[o,es,ep,L,Y,O,_,M]:=n;show#[o,L,λname=>?_];let e:=M name;unfold nsFind findBy at e;rw[<-Array.find?_toList]at e;unfold W.lookIn;rw[Y];dsimp only;split
 .rename_i y q;rw[q]at e;show congrArg some e
 .rename_i q;rw[q]at e;let a:es.toList.any (·.refKey)=false:=by rw[List.any_eq_false];intro y J;let#[z,t,B]:=O y (mem_toList_iff.mp J);simp[DictEntry.refKey,B]
  grind
def fC.none_of(r:fC none o):o=none:=by
 cases o with
 |none=>rfl
 |some u=>show(show False from r).elim
section
variable{X:Cx}{zF:List (Addr×Obj)}{Z:St}{H:Hp}{s:Shared}{a C dx:Addr}{fs:List (Str×V)}{f:Str}{v:V}{A:Around}{E:zj}
def Ot(B:attributeBase e f env (eval e env)=eval e env)
  (h:wpAny (model prog w) A (eval e env) (λo z=>wpAny (model prog w) A (getAttr o f true) Q E z) E s):wpAny (model prog w) A (eval (.Attribute e f pos) env) Q E s:=
 Attribute_any_ h (by rw[arm_eval_Attribute,B])
end
structure aR(k:Nat)(A:Around):Prop where
 hd:A.handled=none
 dp:A.depth+3*k+5<recursionLimit
 un:A.units+16*k+200<cLine
 gd:A.guards=some []
def aR.mono(r:aR k A)(h:j<=k):aR j A:=#[r.hd,by let:=r.dp;lia,by let:=r.un;lia,r.gd]
def aR.deeper(r:aR (k+1) A)(env:Env):aR k (A.deeper env):=
 #[r.hd,by let:=r.dp;show A.depth+1+3*k+5<_;lia,by let:=r.un;show A.units+3+16*k+200<_;lia,r.gd]
def QO{A:Around}:(A.under (.builtin "type.__call__" #[.ref C::us,z])).depth=A.depth+1:=by first|rfl|assumption|(simp_all;done)
def Ru{A:Around}:(A.under (.builtin "type.__call__" #[.ref C::us,z])).units=A.units+1:=by first|rfl|assumption|(simp_all;done)
def aR.make(r:aR (k+1) A)(C:Addr)(us:List Value)(z:List (Str×Value)):aR k (A.under (.builtin "type.__call__" #[.ref C::us,z])):=
 #[r.hd,by let:=r.dp;rw[QO];lia,by let:=r.un;rw[Ru];lia,by first|show r.gd|(have:=r.gd;simp[Around.under,Code.isGuard,guardIds,this])]
def aR.depth(r:aR k A):A.depth<recursionLimit:=by let:=r.dp;lia
def aR.units(r:aR k A):A.units+64<cLine:=by let:=r.un;lia
def xE:TA:=λ_ H Q=>Q [] H
def sR(ta:TE)(z:TA):TA:=λZ H Q=>ta Z H λx H1=>z Z H1 λxs H2=>Q (x::xs) H2
section
variable{X:Cx}{e:Expr}{es:List Expr}{te:TE}{t:TA}{pos:Pos}
def Mb:PA X [] xE:=λ_ _ _ _ H Q I h=>Calls.spliced_nil #[[],H,I,.nil,h]
def Mz(O:PE X e te)(M:PA X es t)(hs:starEach (e::es) X.env=(false,eval e X.env)::starEach es X.env:=by rfl):PA X (e::es) (sR te t):=by intro pos zF s Z H Q I h;rw[hs];show wpAny _ _ (spliced ((false,eval e X.env)::backTo pos (starEach es X.env))) _ _ s;show Calls.spliced_cons (Af (O zF s Z H _ I h) λu B z=>?_);let#[x,H1,I1,G,L]:=z;show Af (M pos zF B Z H1 _ I1 L) λus s2⟨xs,H2,Y,F,J⟩=>#[x::xs,H2,Y,.cons G F,J]
def wY(t:TA):TE:=λZ H Q=>t Z H λxs H1=>xs.length<=sizeLine/\∀p,H1 p=none->Q (.ref p) (upd H1 p (.tup xs))
def xF(t:TA):TE:=λZ H Q=>t Z H λxs H1=>xs.length<=sizeLine/\∀p,H1 p=none->Q (.ref p) (upd H1 p (.lst xs))
def Mt(h:PA X es t):PE X (.Tuple es M pos) (wY t):=by intro zF s Z H Q I J;show wpAny_Tuple_spliced (Af (h pos zF s Z H _ I J) λG B⟨xs,H1,F,r,z,q⟩=>#[by rw[<-r.length];show z,?_]);let L:H1 B.heap.objs.size=none:=F.hok.fresh (q8 _);show#[.ref B.heap.objs.size,upd H1 B.heap.objs.size (.tup xs),F.laid (t':=B.toks) (λb u e=>qc _ e) (q8 _) ?_,rfl,q _ L];show#[#[z,iI.new rfl (qd _ rfl)],G,r,#[_,qd _ rfl,rfl,_,rfl]]
def LV(h:PA X es t):PE X (.List es pos) (xF t):=by intro zF s Z H Q I J;show wpAny_List_spliced (Af (h pos zF s Z H _ I J) λG B⟨xs,H1,F,r,z,q⟩=>#[by rw[<-r.length];show z,?_]);let L:H1 B.heap.objs.size=none:=F.hok.fresh (q8 _);show#[.ref B.heap.objs.size,upd H1 B.heap.objs.size (.lst xs),F.laid (t':=B.toks) (λb u e=>qc _ e) (q8 _) ?_,rfl,q _ L];show#[z,G,0,r,qd _ rfl]
end
abbrev Sp:=List V->Hp->VK->XK->Prop
abbrev vI:=List Env->Hp->Shared->XK->Value->Shared->Prop
structure iM(P:Program)(w:World)(K:W.Frag)(mg:Str->Option Value)(base:Heap)(A:Around)(outer:List Env)(s:Shared)(H:Hp):Prop where
 frames:A.frames=some outer
 mod:Mod K mg base
 bs:∀b o,base.get? b=some o->s.heap.get? b=some o/\H b=none
 bsz:base.objs.size<=s.heap.objs.size
 funs:s.heap.FunFrames base outer
 frf:∀b∈gC outer,H b=none
 hok:cX P w H s.heap
 bare:AllBare s.gens
@[inline]def CE(z:List Env)(P:Program)(w:World)(H:Hp)(s:Shared)(Q:VK)(u:Value)(s':Shared):Prop:=
 ∃v H',s'.os=s.os/\AllBare s'.gens/\Un (gC z) [] H H' s.heap s'.heap/\cX P w H' s'.heap/\zw v u/\Q v H'
@[inline]def CR(CX:vI)(z:List Env)(P:Program)(w:World)(H:Hp)(s:Shared)(Q:VK)(E:XK)(r:Result)(s':Shared):Prop:=
 match r with
 |.ok (.ret u)=>CE z P w H s Q u s'
 |.ok _=>False
 |.error e=>CX z H s E e s'
structure cW(P:Program)(w:World)(K:W.Frag)(mg:Str->Option Value)(base:Heap)(CX:vI)(k:Nat)(f:Addr)(fd:FuncData)(ps:List Str)(sp:Sp):Prop where
 len:∀vs H Q E,sp vs H Q E->vs.length=ps.length
 run:∀(A:Around)(outer:List Env)(s:Shared)(H:Hp)(args:Args)(us:List Value)(vs:List V)(Q:VK)(E:XK),aR k A->iM P w K mg base A outer s H->BindsTo s fd args (ps.zip us)->zC vs us->sp vs H Q E->
  codeAny (model P w) A (.call (.ref f) args) (CR CX outer P w H s Q E) s
def iM.make{K:W.Frag}(e:iM P w K mg base A outer s H)(C:Addr)(us:List Value)(z:List (Str×Value)):
  iM P w K mg base (A.under (.builtin "type.__call__" #[.ref C::us,z])) outer s H:=#[by first|show e.frames|(simpa[Around.under,Code.envs,Code.isFrame,pushEnvs] using e.frames),e.mod,e.bs,e.bsz,e.funs,e.frf,e.hok,e.bare]
section
variable{X:Cx}{zF:List (Addr×Obj)}{Z:St}{H:Hp}{s s':Shared}
def Inv.env0(I:Inv X zF Z H s):iM X.prog X.w X.K X.mg X.base X.A X.stack s H:=
 #[I.ok.frames,I.ok.mod,I.bs,le_trans I.ok.bsz I.sz,I.stack,I.stkFree,I.hok,I.bare]
def Inv.after(I:Inv X zF Z H s)(h:CE X.stack X.prog X.w H s Q u s'):EP X zF Z Q u s':=by let#[v,H',os,bare,un,F,r,q]:=h;let#[G,g,d,t,B]:=s';obtain rfl:B=s.os:=os;show#[v,H',I.call (h':=G) (g':=g) (d':=d) (t':=t) (ch:=[]) un F bare (λb z=>absurd z (by simp)),r,q]
end
@[inline]def Binds(K:W.Frag)(fd:FuncData)(ps:List Str)(ds:List Value):Prop:=
 ∀(s:Shared)(us:List Value),K.In s.heap->(us++ds).length=ps.length->BindsTo s fd #[us,[]] (ps.zip (us++ds))
def Binds.all{K:W.Frag}(h:∀us:List Value,us.length=ps.length->bindArgs fd #[us,[]]=pure (ps.zip us)):Binds K fd ps []:=λs us _ z=>by rw[qz]at z⊢;show .of_eq (h us z)
structure aE(N P:List Str)(sc:Scope):Prop where
 kind:sc.kind=.function
 co:sc.isCoroutine=false
 gen:sc.isGenerator=false
 nd:N.Nodup
 pre:N.take P.length=P
 par:∀x∈P,sc.names.lookup x=some .local\/sc.names.lookup x=some .cell
 nofree:∀y∈sc.names,y.2≠.free
def KI{kindOf:Str->Option NameKind}:∀{binds:List (Str×Value)}{m:Str->Option Value},(∀v,(x,v)∉binds)->bindL kindOf binds m x=m x
 |[],_,_=>rfl
 |(n,v)::r,m,h=>by
  unfold bindL;rw[KI λw z=>h w (qk _ z)];split
  .let:x≠n:=by rintro rfl;exact h v qm
   simp[this]
  .rfl
def KM{kindOf:Str->Option NameKind}:∀{binds:List (Str×Value)}{m:Str->Option Value},(∀v,(x,v)∉binds)->bindC kindOf binds m x=m x
 |[],_,_=>rfl
 |(n,v)::r,m,h=>by
  unfold bindC;rw[KM λw z=>h w (qk _ z)];split
  .rfl
  .let:x≠n:=by rintro rfl;exact h v qm
   simp[this]
def KW{kindOf:Str->Option NameKind}:∀{P:List Str}{vs:List Value}{i:Nat}{m:Str->Option Value},P.Nodup->P[i]?=some x->vs[i]?=some v->kindOf x=some .local->
  bindL kindOf (P.zip vs) m x=some v
 |[],_,_,_,_,h,_,_=>by simp at h
 |_::_,[],_,_,_,_,h,_=>by simp at h
 |p::P,w::vs,0,m,nd,h1,h2,hk=>by simp at h1 h2;subst h1;subst h2;show bindL kindOf ((p,w)::P.zip vs) m p=_;unfold bindL;rw[KI λv z=>(qK.mp nd).1 (of_mem_zip z).1,qY hk];simp
 |p::P,w::vs,i+1,m,nd,h1,h2,hk=>by show bindL kindOf ((p,w)::P.zip vs) m x=_;unfold bindL;show KW (i:=i) (qK.mp nd).2 ↑h1 ↑h2 hk
def Kl{kindOf:Str->Option NameKind}:∀{P:List Str}{vs:List Value}{i:Nat}{m:Str->Option Value},P.Nodup->P[i]?=some x->vs[i]?=some v->kindOf x≠some .local->
  bindC kindOf (P.zip vs) m x=some v
 |[],_,_,_,_,h,_,_=>by simp at h
 |_::_,[],_,_,_,_,h,_=>by simp at h
 |p::P,w::vs,0,m,nd,h1,h2,hk=>by simp at h1 h2;subst h1;subst h2;show bindC kindOf ((p,w)::P.zip vs) m p=_;unfold bindC;rw[KM λv z=>(qK.mp nd).1 (of_mem_zip z).1,qZ hk];simp
 |p::P,w::vs,i+1,m,nd,h1,h2,hk=>by show bindC kindOf ((p,w)::P.zip vs) m x=_;unfold bindC;show Kl (i:=i) (qK.mp nd).2 ↑h1 ↑h2 hk
def start(N:List Str)(vs:List V):St:=vs.map some++List.replicate (N.length-vs.length) none
def dA(CX:vI)(P:Program)(w:World)(K:W.Frag)(mg:Str->Option Value)(base:Heap)(N:List Str)(qual:Str)(scope:Scope)(f:Addr)(cd:Value)(A:Around)(outer:List Env)(s:Shared)(H:Hp)(E:XK):Cx where
 prog:=P
 w:=w
 K:=K
 mg:=mg
 base:=base
 A:=A.deeper (envOfC qual scope s.heap.objs.size f cd)
 N:=N
 s₀:=s
 H₀:=H
 env:=envOfC qual scope s.heap.objs.size f cd
 outer:=outer
 stack:=envOfC qual scope s.heap.objs.size f cd::outer
 ex:=[]
 calm:=true
 fn:=λ_=>true
 pn:=[]
 xe:=λe s'=>wpAny (model P w) (A.deeper (envOfC qual scope s.heap.objs.size f cd)) (leaving (envOfC qual scope s.heap.objs.size f cd) e) (λ_ s''=>CX outer H s E e s'') (λe' s''=>CX outer H s E e' s'') s'
def Jy{z:Scope}(h:z.names.lookup x=some .cell):∃c,(cellsFrom n z.names []).lookup x=some c:=by let q:=W.cellsFrom_some z.names n [] (.inl h);show isSome_iff_exists.mp q
def Qu{K:W.Frag}
  (S:aE N ps scope)(hd:A.handled=none)(B:iM P w K mg base A outer s H)(hl:vs.length=ps.length)(r:zC vs us)
  (x:InCallC s s.heap.objs.size (bindL (envOfC qual scope s.heap.objs.size f M).kindOf (ps.zip us) λ_=>none) (cellsFrom (s.heap.objs.size+1) scope.names []) (bindC (envOfC qual scope s.heap.objs.size f M).kindOf (ps.zip us) λ_=>none) s1):
  Inv (dA CX P w K mg base N qual scope f M A outer s H E) [] (start N vs) H s1:=by
 let h4:ps.length<=N.length:=by let:=congrArg List.length S.pre;rw[qG]at this;lia
 obtain⟨h1,tk,rfl,Y⟩:=x.done;let F:∀b:Addr,b∉(dA CX P w K mg base N qual scope f M A outer s H E).ex:=λb z=>absurd (show b∈([]:List Addr) from z) (by simp);refine⟨#[B.mod,S.kind,rfl,rfl,q8 _,λy z c h1 h2=>?_,λy G=>?_,λy c _ h=>?_,λ_=>hd,Around.frames_deeper B.frames,.inr #[rfl,rfl],λb z=>absurd z (F b),B.bs,B.bsz,λb _ _=>F b,λb z=>absurd z (F b),B.funs,B.frf],
  rfl,B.bare,Un.kept Y,#[_,x.toInCall.ns,λi y v h1 h2 h3=>?_],λy c h=>#[_,x.cell y c h],B.hok.fresh (q8 _),λy c h=>?_,λp L=>absurd (show p∈([]:List (Addr×Obj)) from L) (by simp),B.hok.kept Y,?_⟩
 .show name_of_addr x.apart (PySem.mem_of_lookup h1) (PySem.mem_of_lookup h2)
 .let G:scope.names.lookup y=some .cell\/scope.names.lookup y=some .free:=G;rcases G with G|G
  .show Jy G
  .show absurd rfl (S.nofree _ (PySem.mem_of_lookup G))
 .show le_of_lt (x.above y c (PySem.mem_of_lookup h))
 .have hi:i<vs.length:=by
   unfold start at h2;by_cases hi:i<vs.length
   .show hi
   .rw[getElem?_append_right ↑hi]at h2;rw[List.getElem?_replicate]at h2;split at h2<;>cases h2
  have ha:vs[i]?=some v:=by
   unfold start at h2;rw[getElem?_append_left ↑hi,qE]at h2;cases e:vs[i]? with
   |none=>rw[e]at h2;cases h2
   |some a=>rw[e]at h2;cases h2;rfl
  let#[u,O,rv]:=r.get ha;let L:ps[i]?=some y:=by rw[<-S.pre,List.getElem?_take_of_lt ∅];show h1
  let J:ps.Nodup:=by rw[<-S.pre];show S.nd.sublist (List.take_sublist _ _)
  show#[u,rv,?_];rcases S.par y (qL L)with k|k
  .show .inl #[k,KW J L O k]
  .obtain⟨c,e⟩:=Jy (n:=s.heap.objs.size+1) k;show .inr #[.inl k,c,e,?_];let q:=x.cell y c e;rw[Kl J L O (by show scope.names.lookup y≠_;rw[k];decide)]at q;show q
 .show B.hok.fresh (le_of_lt (x.above y c (PySem.mem_of_lookup h)))
 .unfold start;show _=N.length;rw[qq,qo,List.length_replicate];lia
def Lp{K:W.Frag}{dV kV h1 pm B ct oc:Value}(lk:K.lookup f=some #[oc,od,.func (W.fnOf name qual params body scope dV kV h1 pm an B ct),h4])(h3:W.codeIn K B qual=true)(S:aE N ps scope)
  (len:∀vs H Q E,sp vs H Q E->vs.length=ps.length)
  (G:∀(A:Around)(z:List Env)(s:Shared)(H:Hp)(vs:List V)(Q:VK)(E:XK),aR k (A.deeper (envOfC qual scope s.heap.objs.size f B))->sp vs H Q E->
   ∃t,gS (dA CX P w K mg base N qual scope f B A z s H E) body t/\t {nx:=λ_ H'=>Q .non H',rt:=Q} (start N vs) H):
  cW P w K mg base CX (k+1) f (W.fnOf name qual params body scope dV kV h1 pm an B ct) ps sp:=by
 refine#[len,λA z s H args us vs Q E hr Y hb r M=>?_];let hl:=len _ _ _ _ M;let KX:K.In s.heap:=Y.mod.kin.keeps λb o e=>(Y.bs b o e).1;let h2:s.heap.NoLimit:=Y.mod.nolimit.keeps λb o e=>(Y.bs b o e).1;let F:∀y∈ps.zip us,scope.names.lookup y.1=some .local\/(scope.names.lookup y.1=some .cell/\((cellsFrom (s.heap.objs.size+1) scope.names []).lookup y.1).isSome=true):=λ⟨n,v⟩ hy=>by
  rcases S.par n (of_mem_zip hy).1 with q|q
  .show .inl q
  .show .inr #[q,W.cellsFrom_some _ _ _ (.inl q)]
 refine codeAny_call_function hr.depth (KX _ _ lk) rfl S.co S.gen rfl (W.codeRec_of KX h3) (hb _ _ _ _ ?_);show wpAny_newFunctionEnv_cells S.kind F λh5 he s1 x=>?_;subst he;show#[h2.keeps x.toInCall.keep,codeAny_func ?_];let#[t,ht,hq]:=G A z s H vs Q E (hr.deeper _) M;let I:Inv (dA CX P w K mg base N qual scope f B A z s H E) [] (start N vs) H s1:=Qu S hr.hd Y hl r x;show zi (ht [] s1 (start N vs) H _ I hq) (λfl s' L=>?_) λe s' L=>L;let O:∀{Z':St}{H':Hp}{v:V}{u:Value},Inv (dA CX P w K mg base N qual scope f B A z s H E) [] Z' H' s'->zw v u->Q v H'->CE z P w H s Q u s':=
  λ{Z' H' v u} J rv q=>#[v,H',J.os,J.bare,J.base,J.hok,rv,q]
 cases fl with
 |ret u=>let#[v,Z',H',J,rv,q]:=L;show O J rv q
 |next=>let#[Z',H',J,q]:=L;show O (v:=V.non) (u:=Value.none) J rfl q
 |brk=>let#[_,_,_,q]:=L;show False.elim q
 |cont=>let#[_,_,_,q]:=L;show False.elim q
section
variable{X:Cx}{x:Str}{p pos:Pos}{e:Expr}{es:List Expr}{t:TA}{id T:String}{r:List V->Hp->VK->Prop}
def sS(r:List V->Hp->VK->Prop)(t:TA):TE:=λZ H Q=>t Z H λvs H1=>r vs H1 Q
def GN(hc:aK X (.builtin id) r)(Y:Gl X x)(O:X.mg x=none)(M:bootBuiltins x=some (.builtin id))(ha:PA X (e::es) t)(hn:x≠"__name__":=by decide)(B:(x==("__debug__":Str))=false:=by decide)
  (he:starEach (e::es) X.env=(false,eval e X.env)::starEach es X.env:=by rfl)(z:(backTo pos (starEach es X.env)).any (·.1)=false:=by rfl):PE X (.Call (.Name x p) (e::es) [] pos) (sS r t):=by
 intro zF s Z H Q I h;show wpAny_Call_Name_kw (DN I Y O M ?_ hn B);show PyProof.Rows.callWith_builtin1 (Af (ha pos zF s Z H _ I h) λF G⟨vs,H1,I1,J,L⟩=>hc zF G Z H1 vs F Q I1 J L) he z
def Qk(hc:aK X (.type T) r)(Y:Gl X x)(O:X.mg x=none)(M:bootBuiltins x=some (.type T))(ha:PA X (e::es) t)(hn:x≠"__name__":=by decide)(B:(x==("__debug__":Str))=false:=by decide)
  (he:starEach (e::es) X.env=(false,eval e X.env)::starEach es X.env:=by rfl)(z:(backTo pos (starEach es X.env)).any (·.1)=false:=by rfl):PE X (.Call (.Name x p) (e::es) [] pos) (sS r t):=by
 intro zF s Z H Q I h;show wpAny_Call_Name_kw (DN I Y O M ?_ hn B);show PyProof.Rows.callWith_type1 (Af (ha pos zF s Z H _ I h) λF G⟨vs,H1,I1,J,L⟩=>hc zF G Z H1 vs F Q I1 J L) he z
end
section
variable{κ:Type}[DecidableEq κ]
def dE(z:List (κ×V))(k:κ):Option V:=(z.find? λB=>decide (B.1=k)).map (·.2)
def FK{p:κ×V}{r:List (κ×V)}{k:κ}(e:p.1=k):dE (p::r) k=some p.2:=by simp[dE,find?_cons,e]
def FH{p:κ×V}{r:List (κ×V)}{k:κ}(e:¬p.1=k):dE (p::r) k=dE r k:=by simp[dE,find?_cons,e]
def fC.isSome_eq(r:fC o u):o.isSome=u.isSome:=by
 cases o with
 |none=>cases u with
  |none=>rfl
  |some _=>show(show False from r).elim
 |some _=>cases u with
  |none=>show(show False from r).elim
  |some _=>rfl
def KV.val{B:List (κ×V)}{vs:List (κ×Value)}(r:KV B vs)(k:κ):fC (dE B k) (valueAt vs k):=by
 induction r with
 |nil=>show True.intro
 |@cons p q ps F h t J=>
  let#[h1,h2]:=h;by_cases e:p.1=k
  .let G:q.1=k:=h1.symm.trans e;let b:valueAt (q::F) k=some q.2:=by simp[valueAt,G]
   rw[FK e,b];show h2
  .let G:¬q.1=k:=λz=>e (h1.trans z);let b:valueAt (q::F) k=valueAt F k:=by simp[valueAt,G]
   rw[FH e,b];show J
end
def Gd(r:zw (kV k) u):(aH P w).is k u=true:=by
 cases k with
 |inl i=>let#[t,e]:=(show∃t,u=Value.int i t from r);subst e;show Rr P w i t
 |inr x=>let#[t,e]:=(show∃t,u=Value.str x t from r);subst e;show Si P w x t
def KR:∀{ks:List aT}{us:List Value},zC (ks.map kV) us->ItemsAre (aH P w) ks us
 |[],_,r=>by rw[map_nil]at r;cases r;show .nil
 |k::ks,_,r=>by
  cases r with
  |cons h t=>show .cons (Gd h) (KR t)
abbrev KT(H:Hp):List (List aT×V)->List (List aT×Addr×Value)->Prop:=Paired λp q=>p.1=q.1/\H q.2.1=some (.tup (p.1.map kV))/\zw p.2 q.2.2
def KT.val{H:Hp}{B:List (List aT×V)}{xs:List (List aT×Addr×Value)}(r:KT H B xs)(k:List aT):fC (dE B k) ((atKey xs k).map (·.2)):=by
 induction r with
 |nil=>show True.intro
 |@cons p q ps F h t J=>
  let#[h1,_,h2]:=h;by_cases e:p.1=k
  .let G:q.1=k:=h1.symm.trans e;let b:atKey (q::F) k=some q.2:=by simp[atKey,G]
   rw[FK e,b];show h2
  .let G:¬q.1=k:=λz=>e (h1.trans z);let b:atKey (q::F) k=atKey F k:=by simp[atKey,G]
   rw[FH e,b];show J
def HL(ok:cX P w H h)(e:Rd H a u):zE P w H h a u:=e.ok ok
def Lq(ok:cX P w H h)(e:Rd H a (.dK z)):z.length<=sizeLine/\(a==sysModules)=false/\∃vs,KV z vs/\h.DictOf (aH P w) a vs:=
 show zE P w H h a (.dK z) from HL ok e
def Ff(ok:cX P w H h)(e:H a=some (.tup (ks.map kV))):(tupleKind (aH P w)).is h ks a:=by
 let#[_,z,r,o,h1,h2,n,B]:=(show zE P w H h a (.tup (ks.map kV)) from ok a _ e)
 show#[o,z.toArray,n,h1,h2,B,KR r]
def LO(ok:cX P w H h)(e:Rd H a (.dT B)):B.length<=sizeLine/\(a==sysModules)=false/\
  ∃xs,KT H B xs/\h.DictOfH (tupleKind (aH P w)) a xs:=by
 let#[z,y,xs,r,o,es,ep,h1,h2,O,M,L]:=(show zE P w H h a (.dT B) from HL ok e)
 refine#[z,y,xs,r,o,es,ep,h1,h2,O,M,λx F=>?_,L];let all:∀{l:List (List aT×V)}{m:List (List aT×Addr×Value)},KT H l m->∀x∈m,(tupleKind (aH P w)).is h x.1 x.2.1:=by
  intro l m q;induction q with
  |nil=>intro x F;show nomatch F
  |@cons p q ps Y G t J=>
   intro x F;rcases qA.mp F with e|F
   .subst e;show Ff ok (by rw[<-G.1];show G.2.1)
   .show J x F
 show all r x F
def rZ(H:Hp)(a:Addr)(y:V)(r:Option V):Prop:=
 (∃z k,Rd H a (.dK z)/\y=kV k/\r=dE z k)\/∃z k b,Rd H a (.dT z)/\y=.ref b/\H b=some (.tup (k.map kV))/\r=dE z k
def Inv.big(I:Inv X zF Z H s):sysModules<s.heap.objs.size:=by let h:mainGlobals<s.heap.objs.size:=(I.mod.glob.keeps I.bk).lt;show lt_trans ⋯ h
def Nr(O:A.units+1<cLine)(I:Inv X zF Z H s)(g:rZ H a y o)(M:zw y u)(h:∀s',Inv X zF Z H s'->Q (.bool (!o.isSome)) s'):
  wpAny (model X.prog X.w) A (compareOp .NotIn u (.ref a)) Q E s:=by
 rcases g with⟨F,k,e,J,l⟩|⟨F,k,b,e,J,Y,l⟩
 .subst J;let#[z,G,vs,B,L]:=Lq I.hok e;show wpAny_notIn_of (Gd M) G L.mapOf ?_;rw[<-(B.val k).isSome_eq,<-l];show h _ (I.tok _)
 .subst J;cases(show u=Value.ref b from M);let#[z,G,xs,B,L]:=LO I.hok e;show wpAny_notIn_heap (tupleKind_room_in1 O) (Ff I.hok Y) G L ?_;let q:=(B.val k).isSome_eq;rw[Option.isSome_map]at q;rw[<-q,<-l];show h _ (I.tok _)
end L2
namespace HT
open PySem PyProof.Rows
theorem cat_tup(ht:IsTup s.heap t vs.toArray)(hb:IsTup s.heap b z.toArray)(hv:vs≠[])
  (h1:z=[]->Q (.ref t) s)(h2:z≠[]->Q (.ref s.heap.objs.size) {s with heap:=s.heap.push {cls:=.type "tuple",data:=.seq (vs++z).toArray}})
  (M:vs.length+z.length<=sizeLine):wpAny (model prog w) A (binaryOp .Add (.ref t) (.ref b)) Q E s:=by
 let#[#[cls,dd,data,sl],L,hc,n,hd]:=id ht;let#[#[h3,G,data2,F],B,Y,n2,O]:=id hb;subst hc hd Y O;let e:vs.toArray++z.toArray=(vs++z).toArray:=by simp
 by_cases J:z=[]
 .exact concat_meets #[_,L,rfl] #[_,B,rfl] noFill_tuple_add seq_tuple_add PySem.F.slot_tuple_add PySem.F.entry_tuple_add (PySem.F.args_tuple_add_2 _ _)
   (tuple_addW1 t b vs.toArray z.toArray n n2 dd G sl F ↑hv (by simp[J])) #[L,B,h1 J]
 .refine concat_meets #[_,L,rfl] #[_,B,rfl] noFill_tuple_add seq_tuple_add PySem.F.slot_tuple_add PySem.F.entry_tuple_add (PySem.F.args_tuple_add_2 _ _)
   (tuple_addW2 t b vs.toArray z.toArray n n2 dd G sl F ↑hv ↑J (by rw[qr];show M)) #[L,B,?_]
  rw[e];show h2 J
def sIx(n d:Nat):Option Int->Nat
 |none=>d
 |some v=>if v<0 then(v+(n:Int)).toNat else min v.toNat n
theorem sIx_le(n d:Nat)(B:d<=n)(o:Option Int):sIx n d o<=n:=by
 cases o with
 |none=>show B
 |some v=>
  show(if v<0 then(v+(n:Int)).toNat else min v.toNat n)<=n;by_cases z:v<0
  .rw[qY z];lia
  .rw[qZ z];show Nat.min_le_right _ _
def IV(v:Int)(n d:Nat):(if v<0 then max (v+(n:Int)) 0 else min v (n:Int))=((sIx n d (some v):Nat):Int):=by show(if v<0 then max (v+(n:Int)) 0 else min v (n:Int))=(((if v<0 then(v+(n:Int)).toNat else min v.toNat n):Nat):Int);grind
def Qy(lo hi:Option Int)(n:Nat):Builtin.Slice.sliceAdjust lo hi 1 (n:Int)=(((sIx n 0 lo:Nat):Int),((sIx n n hi:Nat):Int)):=by
 let h1:¬((1:Int)<0):=∅
 unfold Builtin.Slice.sliceAdjust;show Prod.ext ?_ ?_
 .cases lo with
  |none=>rfl
  |some v=>show IV v n 0
 .cases hi with
  |none=>rfl
  |some v=>show IV v n n
def RA(i j:Nat):Builtin.Slice.slicePlaces (i:Int) (j:Int) 1=j-i:=by
 unfold Builtin.Slice.slicePlaces;let h1:(1:Int)>0:=∅
 split<;>lia
def KC(p:IsPart v o)(h:Q o s):wpAny (model prog w) A (Builtin.Slice.slicePartIndex v) Q E s:=by
 cases p with
 |none=>show slicePart_none h
 |int i t=>show slicePart_int h
theorem sliceApplied_gen{lo hi:Option Int}{n:Nat}(hs:s.heap.IsSliceOf J G F .none)(M:IsPart G lo)(L:IsPart F hi)
  (h:Q (((sIx n 0 lo:Nat):Int),1,sIx n n hi-sIx n 0 lo) s):wpAny (model prog w) A (Builtin.Slice.sliceApplied (.ref J) (pure (n:Int))) Q E s:=by
 let#[os,z,O,B]:=id hs;show qa (qa (zc z B (x:=G) rfl (qa (zc z B (x:=F) rfl (qa (zc z B (x:=.none) rfl (qb ?_)))))));show qa (slicePart_none ?_);show qa (KC M (qa (KC L (qa (qb ?_)))));show wpAny _ _ (match Builtin.Slice.sliceAdjust lo hi 1 (n:Int)with|(lo,hi)=>pure (lo,(1:Int),Builtin.Slice.slicePlaces lo hi 1)) _ _ s;rw[Qy lo hi n];show wpAny _ _ (pure (((sIx n 0 lo:Nat):Int),(1:Int),Builtin.Slice.slicePlaces ((sIx n 0 lo:Nat):Int) ((sIx n n hi:Nat):Int) 1)) _ _ s;rw[RA];show qb h
def NT(xs:Array Value)(i k:Nat):((List.range k).filterMap λ(m:Nat)=>xs[((i:Int)+(m:Int)*1).toNat]?).toArray=((xs.toList.drop i).take k).toArray:=by
 have e:(λ(m:Nat)=>xs[((i:Int)+(m:Int)*1).toNat]?)=λm=>xs[i+m]?:=by
  funext m
  let:((i:Int)+(m:Int)*1).toNat=i+m:=∅
  rw[this]
 rw[e];let:=pick_run xs i k;rw[List.filterMap_map]at this;let z:((λx=>xs[x]?)∘λx=>i+x)=λm=>xs[i+m]?:=rfl;rw[z]at this;rw[this]
theorem getItem_tuple_cut{lo hi:Option Int}(B:IsTup s.heap t items)(hs:s.heap.IsSliceOf O vl Y .none)(pl:IsPart vl lo)(pu:IsPart Y hi)
  (hw:¬(sIx items.size 0 lo=0/\sIx items.size items.size hi=items.size))
  (h:Q (.ref s.heap.objs.size) {s with heap:=s.heap.push {cls:=.type "tuple",data:=.seq ((items.toList.drop (sIx items.size 0 lo)).take (sIx items.size items.size hi-sIx items.size 0 lo)).toArray}})
  (F:items.size<=sizeLine):wpAny (model prog w) A (getItem (.ref t) (.ref O)) Q E s:=by
 let z:sizeOk (.seq ((items.toList.drop (sIx items.size 0 lo)).take (sIx items.size items.size hi-sIx items.size 0 lo)).toArray):=by show((items.toList.drop (sIx items.size 0 lo)).take (sIx items.size items.size hi-sIx items.size 0 lo)).toArray.size<=sizeLine;rw[qr,qG,qF];show le_trans (Nat.min_le_right ..) (le_trans (Nat.sub_le ..) F)
 let#[os,G,L,h1]:=id hs;let M:s.TypeIs (.ref O) "slice":=#[os,G,L]
 unfold getItem;try with_reducible show zg ?_
 first|show qa (qb ?_)|skip
 refine qa (wpAny_sequenceKey B.typeIs ⋯ ?_);refine qa (wpAny_callSpecial?_slot (name:=Str.ofString "__getitem__") B.typeIs PyProof.Rows.slot_tuple_getitem
  (ze PyProof.Rows.slot_tuple_getitem B.typeIs entry_tuple_getitem ?_ (args_tuple_getitem _ _)))
 show wpAny _ _ (Builtin.Tuple.tupleItemsOf (.ref t)>>=_) _ _ s;show qa (tupleItemsOf_ B ?_);show qa (wpAny_typeOf M ?_);show qa (sliceApplied_gen hs pl pu ?_);let J:¬((((sIx items.size 0 lo:Nat):Int)==0&&(1:Int)==1&&(sIx items.size items.size hi-sIx items.size 0 lo)==items.size)=true):=by grind
 show wpAny _ _ (if(((sIx items.size 0 lo:Nat):Int)==0&&(1:Int)==1&&(sIx items.size items.size hi-sIx items.size 0 lo)==items.size)=true then _ else _) _ _ s;rw[qZ J,NT];first
  |show qa (m:=Builtin.Tuple.tupleExact _) (zd (qb ⟨_,rfl,qb h⟩) z)
  |show qa (m:=Builtin.Tuple.tupleExact _) (zd (qa (qb (qb ⟨_,rfl,qb h⟩))) z)
  |show qa (qa (m:=Builtin.Tuple.tupleExact _) (zd (qb (qb ⟨_,rfl,qb h⟩)) z))
  |show qa (qa (m:=Builtin.Tuple.tupleExact _) (zd (qb ⟨_,rfl,qb h⟩) z))
end HT
namespace L2
open PySem PySem.Spec PyProof.Rows
abbrev TO:=St->Hp->(Option Int->Hp->Prop)->Prop
@[inline]def PO(X:Cx)(e:Option Expr)(t:TO):Prop:=
 ∀(zF:List (Addr×Obj))(s:Shared)(Z:St)(H:Hp)(Q:Option Int->Hp->Prop),Inv X zF Z H s->t Z H Q->
  wpAny (model X.prog X.w) X.A (evalPart e X.env) (λu s'=>∃o H',Inv X zF Z H' s'/\IsPart u o/\Q o H') X.xe s
def mB:TO:=λ_ H Q=>Q none H
def sO(t:TE):TO:=λZ H Q=>t Z H λx H1=>∃i,x=.int i/\Q (some i) H1
def GV:∀{us:List Value},zC (ns.map V.int) us->IntsAre us ns:=by
 induction ns with
 |nil=>intro us r;rw[map_nil]at r;cases r;show .nil
 |cons n ns F=>
  intro us r;cases r with
  |cons B z=>let#[t,e]:=B;subst e;show .cons n t (F z)
section
variable{lo hi:Option Expr}
def Jc:PO X none mB:=by intro zF s Z H Q I h;show qb #[none,H,I,.none,h]
def Jd(h:PE X e te):PO X (some e) (sO te):=by intro zF s Z H Q I G;show Af (h zF s Z H _ I G) λu L z=>?_;let#[x,H1,J,B,F]:=z;let#[i,rfl,q]:=F;let#[t,rfl]:=B;show#[some i,H1,J,.int i t,q]
def jS(X:Cx)(r:V->Option Int->Option Int->Hp->VK->Prop):Prop:=
 ∀(zF:List (Addr×Obj))(s:Shared)(Z:St)(H:Hp)(x:V)(v B z:Value)(lo hi:Option Int)(F:Addr)(Q:VK),Inv X zF Z H s->zw x v->s.heap.IsSliceOf F B z .none->IsPart B lo->IsPart z hi->r x lo hi H Q->
  ∃T id,typeLookup (.type T) "__getitem__"=pure (some (.builtin id))/\s.TypeIs v T/\wpAny (model X.prog X.w) X.A (getItem v (.ref F)) (EP X zF Z Q) X.xe s
def jS.or(h:jS X r)(h':jS X O):jS X (λx lo hi H Q=>r x lo hi H Q\/O x lo hi H Q):=by
 intro zF s Z H x v B z lo hi F Q I G M L J q;rcases q with q|q
 .show h zF s Z H x v B z lo hi F Q I G M L J q
 .show h' zF s Z H x v B z lo hi F Q I G M L J q
def br(r:V->Option Int->Option Int->Hp->VK->Prop)(te:TE)(z B:TO):TE:=λZ H Q=>te Z H λx H1=>z Z H1 λl H2=>B Z H2 λu F=>r x l u F Q
def JB(hr:jS X r)(he:PE X e te)(hl:PO X lo L)(hu:PO X hi M):PE X (.Subscript e (.Slice lo hi none p2) pos) (br r te L M):=by intro zF s Z H Q I h;show Subscript_ (Af (he zF s Z H _ I h) λv Y B=>?_);let#[x,H1,I1,r1,q1]:=B;show wpAny_Slice (Af (hl zF Y Z H1 _ I1 q1) λG O⟨l,H2,I2,pl,q2⟩=>Af (hu zF O Z H2 _ I2 q2) λF z B=>?_);let#[u,J,I3,pu,q3]:=B;show qb ?_;let I4:Inv X zF Z J {z with heap:=z.heap.push {cls:=.type "slice",data:=.fields [G,F,.none].toArray}}:=I3.kept (t':=z.toks) λb ob q=>qc _ q;let#[T,id,hT,ht,hg]:=hr zF {z with heap:=z.heap.push {cls:=.type "slice",data:=.fields [G,F,.none].toArray}} Z J x v G F l u z.heap.objs.size Q I4 r1 (Heap.IsSliceOf.new ..) pl pu q3;show tail_any (ops:=[.ref z.heap.objs.size,v]) ht hT hg (by with_unfolding_all rfl)
def gN(xs:List V)(lo hi:Option Int):List V:=(xs.drop (HT.sIx xs.length 0 lo)).take (HT.sIx xs.length xs.length hi-HT.sIx xs.length 0 lo)
def KG(xs:List V)(lo hi:Option Int):(gN xs lo hi).length<=xs.length:=by unfold gN;rw[qG,qF];show le_trans (Nat.min_le_right ..) (Nat.sub_le ..)
def sW(K:W.Frag):V->Option Int->Option Int->Hp->VK->Prop:=λx lo hi H Q=>∃a xs,x=.ref a/\aV K H a xs/\
 ¬(HT.sIx xs.length 0 lo=0/\HT.sIx xs.length xs.length hi=xs.length)/\∀p,H p=none->Q (.ref p) (upd H p (.tup (gN xs lo hi)))
def LD:jS X (sW X.K):=by
 intro zF s Z H x v vl vu lo hi sl Q I J hs M L h;let#[a,xs,rfl,O,Y,q]:=h;cases J;let#[B,r,G,F]:=I.tuple O;let z:B.toArray.size=xs.length:=by rw[qr];show r.length.symm
 show#["tuple",_,PyProof.Rows.slot_tuple_getitem.lookup,G.typeIs,?_];show HT.getItem_tuple_cut G hs M L (by rw[z];show Y) ?_ (by rw[z];show F);rw[z];show#[.ref s.heap.objs.size,_,I.laid (t':=s.toks) (o:=.tup (gN xs lo hi)) (λb ob q=>qc _ q) (q8 _) ?_,rfl,q _ (I.hok.fresh (q8 _))];show#[#[le_trans (KG xs lo hi) F,iI.new rfl (qd _ rfl)],_,(r.drop (HT.sIx xs.length 0 lo)).take (HT.sIx xs.length xs.length hi-HT.sIx xs.length 0 lo),IsTup.new _ _]
def tI(K:W.Frag):R2:=λx y H Q=>∃a b xs ys,x=.ref a/\y=.ref b/\aV K H a xs/\aV K H b ys/\xs≠[]/\xs.length+ys.length<=sizeLine/\
 (ys=[]->Q (.ref a) H)/\(ys≠[]->∀p,H p=none->Q (.ref p) (upd H p (.tup (xs++ys))))
def zC.nil_iff(r:zC xs us):us=[]↔xs=[]:=by
 cases r with
 |nil=>simp
 |cons _ _=>simp
def Nm:OpR X (binaryOp .Add) (tI X.K):=by intro zF s Z H x y v u Q I M L h;let#[a,b,xs,ys,rfl,rfl,ha,hb,hx,J,Y,O]:=h;cases M;cases L;let#[h1,F,p1,_]:=I.tuple ha;let#[G,B,p2,_]:=I.tuple hb;show HT.cat_tup p1 p2 (λz=>hx (F.nil_iff.mp z)) (λz=>#[.ref a,H,I,rfl,Y (B.nil_iff.mp z)]) (λz=>?_) (by rw[<-F.length,<-B.length];show J);show#[.ref s.heap.objs.size,_,I.laid (t':=s.toks) (o:=.tup (xs++ys)) (λb ob q=>qc _ q) (q8 _) ?_,rfl,O (λw=>z (B.nil_iff.mpr w)) _ (I.hok.fresh (q8 _))];show#[#[by rw[qq];show J,iI.new rfl (qd _ rfl)],_,F.append B,IsTup.new _ _]
end
def ixN(n:Nat)(i:Int):Option Nat:=if 0<=i then(if i<n then some i.toNat else none)else if -(n:Int)<=i then some (i+n).toNat else none
def atI{α:Type}(xs:List α)(i:Int):Option α:=(ixN xs.length i).bind λj=>xs[j]?
def Gy(h:ixN n i=some j):seqIndex? i n=some j/\j<n/\-(n:Int)<=i/\i<n:=by
 unfold ixN at h;by_cases z:0<=i
 .rw[qY z]at h;by_cases h1:i<n
  .rw[qY h1]at h;let e:i.toNat=j:=qf h;show#[by rw[seqIndex_of z h1,e],∅,∅,h1]
  .rw[qZ h1]at h;cases h
 .rw[qZ z]at h;by_cases h1:-(n:Int)<=i
  .rw[qY h1]at h;let e:(i+n).toNat=j:=qf h;show#[by rw[seqIndex_neg ∅ h1,e],∅,h1,∅]
  .rw[qZ h1]at h;cases h
def Gw(h:atI xs i=some v):∃j,seqIndex? i xs.length=some j/\xs[j]?=some v/\j<xs.length/\-(xs.length:Int)<=i/\i<xs.length:=by
 unfold atI at h;cases e:ixN xs.length i with
 |none=>rw[e]at h;cases h
 |some j=>rw[e]at h;let#[h1,h2,B,z]:=Gy e;show#[j,h1,h,h2,B,z]
theorem atI_last(xs:List α)(v:α):atI (xs++[v]) (-1)=some v:=by
 let z:(xs++[v]).length=xs.length+1:=by simp
 let e:ixN (xs++[v]).length (-1)=some xs.length:=by unfold ixN;rw[z,qZ ⋯,qY ∅];congr 1;lia
 unfold atI;rw[e];simp
def jG(b:Expr):Prop:=∀o i,subscripted b false o i=operate [o,i] (getItem o i)
def nA(X:Cx)(r:R2):Prop:=
 ∀(B z:Expr)(zF:List (Addr×Obj))(s:Shared)(Z:St)(H:Hp)(x y:V)(v u:Value)(Q:VK),Inv X zF Z H s->zw x v->zw y u->r x y H Q->
  subscripted z false v u=operate [v,u] (getItem v u)->wpAny (model X.prog X.w) X.A (subscriptTail B z v u) (EP X zF Z Q) X.xe s
def bf(X:Cx)(id:String)(r:V->List V->Hp->VK->Prop):Prop:=
 ∀(zF:List (Addr×Obj))(s:Shared)(Z:St)(H:Hp)(x:V)(xs:List V)(v:Value)(us:List Value)(Q:VK),Inv X zF Z H s->zw x v->zC xs us->r x xs H Q->
  wpAny (model X.prog X.w) X.A (call (.builtin id) (v::us)) (EP X zF Z Q) X.xe s
section
def nA.or(h:nA X r)(h':nA X L):nA X (λx y H Q=>r x y H Q\/L x y H Q):=by
 intro z B zF s Z H x y v u Q I G F q J;rcases q with q|q
 .show h z B zF s Z H x y v u Q I G F q J
 .show h' z B zF s Z H x y v u Q I G F q J
def LB(G:nA X r)(L:PE X a ta)(J:PE X b tb)(hs:jG b):PE X (.Subscript a b pos) (vQ r ta tb):=by intro zF s Z H Q I h;show Subscript_ (DU L J I h λv u z x y H2 M F B q=>G a b zF z Z H2 x y v u Q M F B q (hs _ _))
def tE(K:W.Frag):R2:=λx y H Q=>∃p xs i v,x=.ref p/\y=.int i/\bC K H p xs/\atI xs i=some v/\Q v H
def tB(K:W.Frag):R2:=λx y H Q=>∃p xs i v,x=.ref p/\y=.int i/\aV K H p xs/\atI xs i=some v/\Q v H
def tD:R2:=λx y H Q=>∃z i c,x=.str z/\y=.int i/\z.length<=sizeLine/\atI z.cps.toList i=some c/\Q (.str #[[c].toArray]) H
theorem zjS:nA X (tE X.K):=by
 intro F G zF s Z H x y v u Q I rx ry h Y;let#[p,xs,i,z,rfl,rfl,hq,he,q]:=h;cases rx;let#[t,rfl]:=ry;let#[M,r,L,hz]:=I.list hq;let#[j,h1,h2,h3,h4,h5]:=Gw he;let#[w,ew,J]:=r.get h2;let hl:=r.length;let hn:=AD;let B:EP X zF Z Q w s:=#[z,H,I,J,q]
 by_cases h0:0<=i
 .let O:i.toNat=j:=by rw[seqIndex_of h0 h5]at h1;exact qf h1
  show item_listR L.isList h0 ∅ (by rw[O];simpa using ew) B Y
 .have O:(i+(M.toArray.size:Int)).toNat=j:=by rw[seqIndex_neg ∅ h4]at h1;rw[qr,<-hl];exact qf h1
  exact subscriptTail_builtinR (x:=w) L.isList.typeIs slot_list_getitem.lookup
   (wpAny_getItem_list_neg (Q:=λr s'=>r=w/\EP X zF Z Q r s') L.isList ∅ (by rw[qr]<;>lia) ∅ (by rw[O];simpa using ew) #[rfl,B]) Y
theorem zla:nA X (tB X.K):=by
 intro B F zF s Z H x y v u Q I O M h hs;let#[p,xs,i,z,rfl,rfl,hq,he,q]:=h;cases O;let#[t,rfl]:=M;let#[Y,r,L,hz]:=I.tuple hq;let#[j,h1,h2,h3,h4,h5]:=Gw he;let#[w,ew,G]:=r.get h2;let hl:=r.length;let hn:=AD;let J:EP X zF Z Q w s:=#[z,H,I,G,q]
 exact subscriptTail_builtinR (x:=w) L.typeIs slot_tuple_getitem.lookup
  (getItem_tuple (j:=j) (Q:=λr s'=>r=w/\EP X zF Z Q r s') L ∅ ∅ (by rw[qr,<-hl];show h1) ↑ew #[rfl,J]) hs
def MM:nA X tD:=by
 intro B F zF s Z H x y v u Q I J G h L;let#[z,i,c,rfl,rfl,hz,O,q]:=h;let#[t,rfl]:=J;let#[t',rfl]:=G;let#[j,h1,h2,h3,h4,Y]:=Gw O;let M:z.cps.toList.length=z.length:=by simp[Str.length]
 rw[M]at h1 h4 Y;let hn:=AD;show tail_any (typeIs_str s z t) slot_str_getitem.lookup (getItem_str (c:=c) (by let e1:decide (i< -(2^63:Int))=false:=qQ ∅;let e2:decide (i≥2^63)=false:=qQ ∅;rw[e1,e2,Bool.or_false]) (by rw[h1];simpa using h2) #[.str #[[c].toArray],H,I.tok _,#[_,rfl],q]) L
def vR(K:W.Frag):R2:=λx y H Q=>tE K x y H Q\/tB K x y H Q\/tD x y H Q
def ML:nA X (vR X.K):=zjS.or (zla.or MM)
def Qz(z:List Value)(n j:Nat)(u:Value):Obj.mapSeq (·.setIfInBounds j u) {cls:=.type "list",data:=.seq z.toArray n}={cls:=.type "list",data:=.seq (z.set j u).toArray n}:=by simp[Obj.mapSeq]
def Inv.lst(I:Inv X zF Z H s)(h:H p=some (.lst xs)):
  ∃(B:List Value)(n:Nat),zC xs B/\s.heap.get? p=some {cls:=.type "list",data:=.seq B.toArray n}/\xs.length<=sizeLine:=by
 let#[z,B,n,r,e]:=I.hok p _ h;show#[B,n,r,e,z]
def Inv.lstUpd{z its':List Value}(I:Inv X zF Z H s)(h:H p=some (.lst xs))
  (G:s.heap.get? p=some {cls:=.type "list",data:=.seq z.toArray n})(F:f {cls:=.type "list",data:=.seq z.toArray n}={cls:=.type "list",data:=.seq its'.toArray B})(r:zC ys its')(hz:ys.length<=sizeLine)(t:Nat):
  Inv X zF Z (upd H p (.lst ys)) {s with heap:=s.heap.update p f,toks:=t}:=by
 let e:(s.heap.update p f).get? p=some {cls:=.type "list",data:=.seq its'.toArray B}:=by rw[za f G (by rw[F]<;>rfl),F]
 show I.write (x:=p) (e:=p) (by rw[h];trivial) (.inl rfl) (λb u J q=>(q9 _ _ (Ne.symm J)).trans q) #[_,e] ?_;show#[hz,its',B,r,e]
def sZ:V->V->V->Hp->(Hp->Prop)->Prop:=λo i v H Q=>∃p xs k j,o=.ref p/\i=.int k/\H p=some (.lst xs)/\ixN xs.length k=some j/\Q (upd H p (.lst (xs.set j v)))
def JG:uT X sZ:=by
 intro zF s Z H o i v ov iv u Q I ro ri rv h;let#[p,xs,k,j,rfl,rfl,J,hj,q]:=h;cases ro;let#[t,rfl]:=ri;let#[z,n,r,B,hz]:=I.lst J;let#[h1,h2,M,L]:=Gy hj;let F:=r.length;let hn:=AD;let Y:Inv X zF Z (upd H p (.lst (xs.set j v))) {s with heap:=s.heap.update p (Obj.mapSeq (·.setIfInBounds j u))}:=
  I.lstUpd J B (Qz z n j u) (r.set rv j) (by rw[length_set];show hz) s.toks
 by_cases O:0<=k
 .let G:k.toNat=j:=by rw[seqIndex_of O L]at h1;exact qf h1
  show W.ki_setAt B O ∅ (by rw[qr,<-F];show L) (by rw[G];show#[_,Y,q])
 .let G:(k+(z.toArray.size:Int)).toNat=j:=by rw[seqIndex_neg ∅ M]at h1;rw[qr,<-F];exact qf h1
  show W.ki_setBack B ∅ (by rw[qr,<-F];show M) ∅ (by rw[G];show#[_,Y,q])
def Ss(lo hi:Option Int)(n:Nat):(sliceBounds lo hi none n).1=((HT.sIx n 0 lo:Nat):Int)/\(sliceBounds lo hi none n).2.1=((HT.sIx n n hi:Nat):Int)/\(sliceBounds lo hi none n).2.2=1:=by
 let z:∀(i:Int)(n d:Nat),max 0 (min (if i<0 then i+(n:Int)else i) (n:Int))=((HT.sIx n d (some i):Nat):Int):=λi n _=>DJ i n;show#[?_,?_,rfl]
 .cases lo with
  |none=>rfl
  |some i=>show z i n 0
 .cases hi with
  |none=>rfl
  |some i=>show z i n n
def Sm(z:List Value)(lo hi:Option Int):slicePick z.toArray lo hi none=((z.drop (HT.sIx z.length 0 lo)).take (HT.sIx z.length z.length hi-HT.sIx z.length 0 lo)).toArray:=by let#[h1,h2,B]:=Ss lo hi z.toArray.size;unfold slicePick;rw[h1,h2,B];simp only[sliceRange_one,pick_run]<;>rfl
def sY(K:W.Frag):V->Option Int->Option Int->Hp->VK->Prop:=λx lo hi H Q=>∃a xs,x=.ref a/\bC K H a xs/\∀p,H p=none->Q (.ref p) (upd H p (.lst (gN xs lo hi)))
def MT:jS X (sY X.K):=by intro zF s Z H x v vl vu lo hi sl Q I F Y J G h;let#[a,xs,rfl,O,q]:=h;cases F;let#[L,r,B,M]:=I.list O;let z:=r.length;show#["list",_,slot_list_getitem.lookup,B.isList.typeIs,?_];show wpAny_getItem_list_slice B.isList Y J G .none (by simp) ?_ (by rw[qr]<;>lia);rw[Sm,<-z];show#[.ref s.heap.objs.size,_,I.laid (t':=s.toks) (o:=.lst (gN xs lo hi)) (λb ob q=>qc _ q) (q8 _) ?_,rfl,q _ (I.hok.fresh (q8 _))];show#[le_trans (KG xs lo hi) M,_,0,(r.drop (HT.sIx xs.length 0 lo)).take (HT.sIx xs.length xs.length hi-HT.sIx xs.length 0 lo),qd _ rfl]
def RM:aK X (.builtin "len") (λxs H Q=>∃p ys,xs=[.ref p]/\(bC X.K H p ys\/aV X.K H p ys)/\Q (.int ys.length) H):=by
 intro zF s Z H xs O Q I r h;let#[p,ys,rfl,B,q]:=h;let#[u,rfl,L]:=vals1 r;cases L;let Y:=AD;rcases B with B|B
 .obtain⟨J,F,G,M⟩:=I.list B;let z:=F.length;show Calls.call_len_list G.isList (by simp<;>lia) #[.int ys.length,H,I.tok _,#[s.toks+1,by rw[qr,z]],q]
 .obtain⟨J,F,G,M⟩:=I.tuple B;let z:=F.length;show len_tuple G (by simp<;>lia) #[.int ys.length,H,I.tok _,#[s.toks+1,by rw[qr,z]],q]
def Su:aK X (.builtin "len") (λxs H Q=>∃z,xs=[.str z]/\z.length<=sizeLine/\Q (.int z.length) H):=by intro zF s Z H xs B Q I r h;let#[z,rfl,F,q]:=h;let#[u,rfl,t,rfl]:=vals1 r;let G:=AD;show len_str ∅ #[.int z.length,H,I.tok _,#[_,rfl],q]
def Sk:aK X (.type "list") (λxs H Q=>∃p ys,xs=[.ref p]/\(bC X.K H p ys\/aV X.K H p ys)/\∀l,H l=none->Q (.ref l) (upd H l (.lst ys))):=by
 intro zF s Z H xs us Q I r h;let#[p,ys,rfl,L,q]:=h;let#[u,rfl,rx]:=vals1 r;cases rx;let O:∀(z:List Value),zC ys z->ys.length<=sizeLine->∀(h':Heap)(F:Nat),(∀b o',s.heap.get? b=some o'->h'.get? b=some o')->
   h'.get? s.heap.objs.size=some {cls:=.type "list",dict:=none,data:=.seq z.toArray F,slots:=#[]}->EP X zF Z Q (.ref s.heap.objs.size) {s with heap:=h'}:=λz B J h' F G e=>
  #[.ref s.heap.objs.size,_,I.laid (t':=s.toks) G (q8 _) (show zE X.prog X.w _ h' _ (.lst ys) from#[J,z,F,B,e]),rfl,q _ (I.hok.fresh (q8 _))]
 rcases L with L|L
 .obtain⟨z,B,Y,J⟩:=I.list L;let M:=B.length;let#[o,ho,hc,n,hd]:=Y.isList;show call_list_seq p (.inl rfl) ho hc hd (λh' F G e=>O z B J h' F G e) (by simp<;>lia)
 .obtain⟨z,B,Y,J⟩:=I.tuple L;let M:=B.length;let#[o,ho,hc,n,hd]:=Y;show call_list_seq p (.inr rfl) ho hc hd (λh' F G e=>O z B J h' F G e) (by simp<;>lia)
def So:aK X (.type "tuple") (λxs H Q=>∃p ys,xs=[.ref p]/\((bC X.K H p ys/\∀l,H l=none->Q (.ref l) (upd H l (.tup ys)))\/(aV X.K H p ys/\Q (.ref p) H))):=by
 intro zF s Z H xs us Q I r h;let#[p,ys,rfl,h]:=h;let#[u,rfl,O]:=vals1 r;cases O;rcases h with⟨G,q⟩|⟨G,q⟩
 .obtain⟨z,B,F,J⟩:=I.list G;let L:=B.length;show call_tuple_list F.isList (λh' Y=>?_) (by simp<;>lia);let M:Inv X zF Z H {s with heap:=h'}:=I.kept (t':=s.toks) Y;let I2:Inv X zF Z (upd H h'.objs.size (.tup ys)) {s with heap:=h'.push {cls:=.type "tuple",data:=.seq z.toArray}}:=
   M.laid (t':=s.toks) (λb o e=>qc _ e) (q8 _) (show zE X.prog X.w _ _ _ (.tup ys) from#[#[J,iI.new rfl (qd _ rfl)],z,B,IsTup.new _ _])
  show#[.ref h'.objs.size,_,I2,rfl,q _ (M.hok.fresh (q8 _))]
 .obtain⟨z,B,F,J⟩:=I.tuple G;show call_tuple_same F #[.ref p,H,I,rfl,q]
def wV(K:W.Frag)(T:String)(x:V)(H:Hp):Prop:=match x with
 |.str _=>T="str"
 |.int _=>T="int"
 |.ref p=>(T="list"/\∃xs,bC K H p xs)\/(T="tuple"/\∃o,K.lookup p=some o/\o.cls=.type "tuple"/\o.dict=none)\/
  (T="dict"/\((∃z,H p=some (.dK z))\/∃z,H p=some (.dT z)))
 |_=>False
def Ia(I:Inv X zF Z H s)(r:zw x v)(F:wV X.K T x H):
  s.TypeIs v T/\∀a,v=.ref a->∃M,s.heap.get? a=some M/\M.dict=none:=by
 cases x with
 |str z=>let#[t,rfl]:=r;cases(show T="str" from F);show#[typeIs_str s z t,λ_ e=>nomatch e]
 |int i=>let#[t,rfl]:=r;cases(show T="int" from F);show#[typeIs_int s i t,λ_ e=>nomatch e]
 |ref p=>
  cases r;rcases F with⟨rfl,xs,Y⟩|⟨rfl,o,B,hc,J⟩|⟨rfl,B⟩
  .obtain⟨O,_,L,_⟩:=I.list Y;show#[L.isList.typeIs,λa e=>?_];cases e;let#[o,n,e,c,J,_]:=L;show#[o,e,J]
  .show#[#[o,I.kIn p o B,hc],λa e=>?_];cases e;show#[o,I.kIn _ o B,J]
  .have z:∃o,s.heap.get? p=some o/\o.ExactDict:=by
    rcases B with⟨G,B⟩|⟨G,B⟩
    .obtain⟨_,_,_,_,o,_,_,e,ex,_⟩:=I.hok p _ B;show#[o,e,ex]
    .obtain⟨_,_,_,_,o,_,_,e,ex,_⟩:=I.hok p _ B;show#[o,e,ex]
   let#[o,e,ex]:=z;show#[#[o,e,ex.1],λa e2=>?_];cases e2;show#[o,e,ex.2.1]
 |_=>show False.elim F
def xI(K:W.Frag)(T:String)(r:V->List V->Hp->VK->Prop)(z:TE):TE:=λZ H Q=>z Z H λx H1=>wV K T x H1/\r x [] H1 Q
def bw(K:W.Frag)(T:String)(r:V->List V->Hp->VK->Prop)(z:TE)(t:TA):TE:=λZ H Q=>z Z H λx H1=>wV K T x H1/\t Z H1 λxs H2=>r x xs H2 Q
variable{T id:String}
def MF(pa:PlainAttrs T)(slot:Slot T name id)(F:typeOf (.builtin id)=pure (.type "method_descriptor"))(hm:bf X id r)(ho:PE X o O)
  (B:attributeBase o name X.env (eval o X.env)=eval o X.env:=by rfl)(z:(apos.endLine==cpos.line)=true:=by rfl):PE X (.Call (.Attribute o name apos) [] [] cpos) (xI X.K T r O):=by
 intro zF s Z H Q I h;show wpAny_Call_method0_late B z (Af (ho zF s Z H _ I h) λv Y L=>?_);let#[x,H1,J,G,M,q1]:=L;let#[h1,h2]:=Ia J G M;show#[T,id,pa,slot,F,h1,h2,Calls.callWith_builtin rfl (PySem.evalArgs_none (hm zF Y Z H1 x [] v [] Q J G .nil q1))]
def Gf(pa:PlainAttrs T)(slot:Slot T name id)(J:typeOf (.builtin id)=pure (.type "method_descriptor"))(hm:bf X id r)(ho:PE X o to)(ha:PA X (e::es) t)
  (F:attributeBase o name X.env (eval o X.env)=eval o X.env:=by rfl)
  (G:((backTo cpos (starEach (e::es) X.env)).all (λx=>!x.1)&&(backToKw cpos (keywordEach [] X.env)).all (λx=>x.1.isSome)
   &&decide ((e::es).length+([]:List Keyword).length+(if([]:List Keyword).isEmpty then 0 else 1)<30))=true:=by rfl)
  (B:(apos.endLine==cpos.line)=true:=by rfl)(hs:starEach (e::es) X.env=(false,eval e X.env)::starEach es X.env:=by rfl)(z:(backTo cpos (starEach es X.env)).any (·.1)=false:=by rfl):
  PE X (.Call (.Attribute o name apos) (e::es) [] cpos) (bw X.K T r to t):=by
 intro zF s Z H Q I h;show wpAny_Call_method_late F G B rfl (Af (ho zF s Z H _ I h) λv s1 Y=>?_);let#[x,H1,O,L,ty,q1]:=Y;let#[h1,h2]:=Ia O L ty;show#[T,id,pa,slot,J,h1,h2,?_];let M:=ha cpos zF s1 Z H1 _ O q1;rw[hs]at M⊢;show Calls.callWith_builtin (by show(false||(backTo cpos (starEach es X.env)).any (·.1))=false;rw[z]<;>rfl) (Calls.evalArgs_plain ?_);show Af M λus s2⟨vs,H2,I2,r2,q2⟩=>hm zF s2 Z H2 x vs v us Q I2 L r2 q2
end
def uW(X:Cx)(id:String)(r:V->List V->Hp->VK->Prop):Prop:=
 ∀(zF:List (Addr×Obj))(s:Shared)(Z:St)(H:Hp)(x:V)(xs:List V)(v:Value)(us:List Value)(Q:VK),Inv X zF Z H s->zw x v->zC xs us->r x xs H Q->
  wpAny (model X.prog X.w) X.A (call (.builtin id) (v::us)) (EP X zF Z Q) X.xe s
def zC.one:∀{x:V}{us:List Value},zC [x] us->∃u,us=[u]/\zw x u:=by
 intro x us h;cases h with
 |cons r t=>cases t;show#[_,rfl,r]
def zC.eraseIdx:∀{xs:List V}{us:List Value}(i:Nat),zC xs us->zC (xs.eraseIdx i) (us.eraseIdx i)
 |_,_,_,.nil=>.nil
 |_,_,0,.cons _ t=>t
 |_,_,i+1,.cons r t=>.cons r (zC.eraseIdx i t)
def KQ{α:Type}:∀(l:List α)(i:Nat),(l.eraseIdx i).length<=l.length
 |[],_=>q8 _
 |_::_,0=>le_succ _
 |_::r,i+1=>Nat.succ_le_succ (KQ r i)
def Inv.lset{z its':List Value}(I:Inv X zF Z H s)(L:H l=some (.lst xs))
  (e:s.heap.get? l=some {cls:=.type "list",data:=.seq z.toArray n})(G:f z.toArray=its'.toArray)(B:zC ys its')(hz:ys.length<=sizeLine):
  Inv X zF Z (upd H l (.lst ys)) {s with heap:=s.heap.update l (Obj.mapSeq f),toks:=t'}:=by
 let q:=PySem.IsL.update e f;rw[G]at q;show I.write (x:=l) (e:=l) (by rw[L];show trivial) (.inl rfl) (λM u J F=>(q9 s.heap (Obj.mapSeq f) (Ne.symm J)).trans F) #[_,q] ?_;show#[hz,its',_,B,q]
def Inv.lnew(I:Inv X zF Z H s)(B:zC ys z)(hz:ys.length<=sizeLine):
  Inv X zF Z (upd H s.heap.objs.size (.lst ys)) {s with heap:=s.heap.push {cls:=.type "list",data:=.seq z.toArray},toks:=t'}:=
 I.laid (λ_ _ q=>qc _ q) (q8 _) #[hz,z,0,B,qd _ rfl]
def Inv.fresh(I:Inv X zF Z H s):H s.heap.objs.size=none:=I.hok.fresh (q8 _)
def Inv.lstM(I:Inv X zF Z H s)(F:H l=some (.lst xs)):xs.length<=sizeLine/\∃(B:List Value)(n:Nat),zC xs B/\xs.length=B.length/\s.heap.get? l=some {cls:=.type "list",data:=.seq B.toArray n}:=by let#[z,B,n,r,e]:=I.hok l _ F;show#[z,B,n,r,r.length,e]
def mE:V->List V->Hp->VK->Prop:=λx vs H Q=>∃l xs y,x=.ref l/\vs=[y]/\H l=some (.lst xs)/\xs.length<sizeLine/\Q .non (upd H l (.lst (xs++[y])))
def Kh:uW X "list.append" mE:=by intro zF s Z H x vs v O Q I J L h;let#[l,xs,y,rfl,rfl,G,Y,q]:=h;cases J;let#[u,rfl,M]:=L.one;let#[z,B,n,r,hl,e]:=I.lstM G;show call_meets F.slot_list_append #[_,e,rfl] F.entry_list_append (F.args_list_append_2 _ _) (PySem.list_append l B.toArray n u (by rw[qr];lia)) #[e,?_];show#[.non,_,I.lset (its':=B++[u]) G e (by simp) (r.append (.cons M .nil)) ?_,rfl,q];rw[qq,qB];lia
def pC:V->List V->Hp->VK->Prop:=λx vs H Q=>∃l xs i k y,x=.ref l/\vs=[.int i]/\H l=some (.lst xs)/\-(2^63)<=i/\i<2^63/\seqIndex? i xs.length=some k/\xs[k]?=some y/\Q y (upd H l (.lst (xs.eraseIdx k)))
def Pu:uW X "list.pop" pC:=by
 intro zF s Z H x vs v us Q I L M h;let#[l,xs,i,k,y,rfl,rfl,J,h1,h2,hk,Y,q]:=h;cases L;let#[u,rfl,O]:=M.one;let#[t,rfl]:=O;let#[z,B,n,r,hl,e]:=I.lstM J;let#[w,hw,G]:=r.get Y;refine call_meets F.slot_list_pop #[_,e,rfl] F.entry_list_pop (F.args_list_pop_2 _ _)
  (MeetsSeq.list_pop_at l B.toArray n i t k w (fitsIndex_both h1 h2) (by rw[qr,<-hl];show hk) (by rw[<-qX];show hw) (by rw[qr];lia)) #[e,?_]
 show#[y,_,I.lset (its':=B.eraseIdx k) J e ?_ (r.eraseIdx k) ?_,G,q]
 .show B.toArray.eraseIdxIfInBounds k=(B.eraseIdx k).toArray;rw[List.eraseIdxIfInBounds_toArray]
 .let:=KQ xs k;lia
end L2
namespace Att
open PySem PySem.W PySem.Calls PyProof.Rows
def Sw:∀(ns:List Int)(vs:List Value),WellAll P h vs (ns.map WData.int)->IntsAre vs ns:=by
 intro ns;induction ns with
 |nil=>intro vs w;cases w;show .nil
 |cons n ns z=>
  intro vs w;cases w with
  |cons a b=>cases a;show .cons _ _ (z _ b)
def Qc{l:OpenLaw}(hn:l.most=some n)
  (z:l.row.toRowW.claim.pre args=true)(J:WellAll P h vals args):
  ∃a vs ns,vals=[Value.ref a]/\args=[WData.list (ns.map WData.int)]/\h.get? a=some {cls:=.type "list",data:=.seq vs.toArray}/\IntsAre vs ns/\ns.length<=n:=by
 have L:WShape.hasAll [] args [.list .int]=true:=(pre_splitW z).1;let hc:l.pre.holds [] {args:=args}=true:=(pre_splitW z).2;let#[d,r,rfl,h1,h2]:=hasAllW_cons L;obtain rfl:=hasAllW_nil h2;let#[xs,rfl,h3]:=hasW_list h1;let#[ns,rfl]:=items_int h3;let B:ns.length<=n:=by
  let G:(WTm.not (.lt (.lit (.int (n:Int))) (.len (.arg 0)))).holds [] {args:=[.list (ns.map .int)]}=true:=by let G:=(holds_andW hc).1;rw[hn]at G;show G
  let h5:=condW_of G (w_not (w_lt w_lit (w_len_list (w_arg rfl))));grind
 cases J with
 |cons O M=>
  cases M;cases O with
  |list Y F=>show#[_,_,ns,rfl,rfl,Y,Sw ns _ F,B]
def PY(l:OpenLaw)(args:List WData):l.row.toRowW.claim.post args (.bool true) args=true:=
 postW_of (r:=l.row.toRowW) (X:=(true==true))
  (show WShape.has [] (.bool true) .bool=true by first|rfl|decide|simp)
  (show(WTm.eq .res (.lit (.bool true))).value [] {args:=args,res:=some (.bool true),after:=args}=some (.bool (true==true)) from w_eq_bool (w_res rfl) w_lit) rfl
theorem attach_call{l:OpenLaw}
  (hn:l.most=some n)(h6:d.params.defaults=[])
  (call:∀(w:World)(B z:Shared)(mg mb:Str->Option Value)(fa:Addr)(o:Obj)(pm cd J:Value)(a:Addr)(vs:List Value)(ns:List Int),
   Ground q loose [] XP w B mg mb z.heap->YP w z.heap->
   z.heap.get? fa=some o->o.data=.func (docDef d.name d.params d.body d.scope pm cd J)->z.heap.CodeRec cd d.name->mg d.name=some (.ref fa)->
   z.heap.get? a=some {cls:=.type "list",data:=.seq vs.toArray}->IntsAre vs ns->ns.length<=n->z.gens=#[]->
   codeAny (model l.prog w) callerA (.call (.ref fa) #[[.ref a],[]]) (λr s'=>r=.ok (.ret (.bool true))/\OldK z.heap s'.heap/\s'.os=z.os/\AllBare s'.gens) z):
  WalkO q loose XP YP l.row.toRowW d [] (λf vs=>PySem.call f vs):=by
 intro w B z mg mb G Y fa o pm cd J dV kV ho hd h7 hD h5 hg args h8 as L h9 e1 h1 e2;obtain rfl:dV=.none:=Dflts.none hD h6;obtain rfl:kV=.none:=Dflts.noKw hD;let#[a,vs,ns,rfl,rfl,M,F,O]:=Qc hn L h1;show enter_call (codeAny_mono (call w B z mg mb fa o pm cd J a vs ns G Y ho (fd_plain hd) h7 h5 M F O hg) λr s' hq=>?_);let#[rfl,h2,h3,h4]:=hq;show#[.inl #[.bool true,.bool true,[],rfl,λ_=>rfl,.bool true,PY l _,λ_=>#[List.Pairwise.nil,λ_ hm=>(nomatch hm)]],h2,h3,h4]
end Att
namespace L2
open PySem PySem.Spec PyProof.Rows
def Ei:∀{vs:List Value}{ns:List Int},IntsAre vs ns->zC (ns.map V.int) vs
 |_,_,.nil=>.nil
 |_,_,.cons n t h=>.cons #[t,rfl] (Ei h)
def rY(H:Hp):Prop:=∀b,H b=none\/∃o xs,H b=some (.frz o (.lst xs))
def Pn{K:W.Frag}
  (KX:K.In B.heap)(h5:B.heap.Ns mainGlobals mg)(O:B.heap.Ns builtinsNs mb)(e3:∀x:Str,x≠"__name__"->mb x=bootBuiltins x)(h6:B.heap.NoLimit)(hg:B.gens=#[])
  (ha:B.heap.get? a=some {cls:=.type "list",data:=.seq vs.toArray})(hi:IntsAre vs ns)(hl:ns.length<=sizeLine)(hr:aR k callerA)
  (F:∀base:Heap,K.In base->base.Ns mainGlobals mg->cW P w K mg base CX k fa fd [x] sp)(M:∀(s:Shared)(u:Value),BindsTo s fd #[[u],[]] [(x,u)])
  (h9:∀H:Hp,rY H->bC K H a (ns.map V.int)->sp [.ref a] H (λv _=>v=.bl true) λ_ _ _=>False)
  (e4:∀H e s',CX [] H B (λ_ _ _=>False) e s'->False):
  codeAny (model P w) callerA (.call (.ref fa) #[[.ref a],[]]) (λr s'=>r=.ok (.ret (.bool true))/\OldK B.heap s'.heap/\s'.os=B.os/\AllBare s'.gens) B:=by
 let rv:=Ei hi;let Y:=hi.length
 --from an abstract heap in which nothing but the script may be tracked
 have L:∀H:Hp,rY H->bC K H a (ns.map V.int)->cX P w H B.heap->(∀b,H b≠none->b=a)->(H a≠none->K.lookup a=none)->
   codeAny (model P w) callerA (.call (.ref fa) #[[.ref a],[]]) (λr s'=>r=.ok (.ret (.bool true))/\OldK B.heap s'.heap/\s'.os=B.os/\AllBare s'.gens) B:=by
  intro H hO hS h4 hA hK;let G:∀{b:Addr}{o:Obj},B.heap.get? b=some o->H b=none->(fX B.heap H).get? b=some o:=λe n=>NR e n;let h8:∀{b:Addr}{o:Obj}{es:Array DictEntry}{ep:Nat},B.heap.get? b=some o->o.data=.dict es ep->H b=none:=λ{b o es ep} e d=>by
   cases q:H b with
   |none=>rfl
   |some u=>grind
  let J:∀{b:Addr}{m:Str->Option Value},B.heap.Ns b m->(fX B.heap H).Ns b m:=λ{b m}⟨o,es,ep,e,d,r⟩=>#[o,es,ep,G e (h8 e d),d,r]
  have h7:K.In (fX B.heap H):=λb o e=>G (KX b o e) (by
   cases q:H b with
   |none=>rfl
   |some u=>have e':b=a:=hA b (by rw[q];simp);subst e';rw[hK (by rw[q];simp)]at e;cases e)
  let hM:Mod K mg (fX B.heap H):=#[h7,J h5,#[mb,J O,e3],let#[mc,h1,h2]:=h6;#[mc,J h1,h2]]
  let e0:iM P w K mg (fX B.heap H) callerA [] B H:=#[rfl,hM,λb o e=>MQ e,Nat.le_of_eq (Rp _ _),trivial,λb O=>absurd (show b∈([]:List Addr) from O) (by simp),h4,.of_eq hg]
  show codeAny_mono ((F _ h7 (J h5)).run callerA [] B H #[[.ref a],[]] [.ref a] [.ref a] _ _ hr e0 (M B (.ref a)) (.cons rfl .nil) (h9 H hO hS)) λr s' h=>?_;cases r with
  |error e=>show(e4 H e s' h).elim
  |ok fl=>
   cases fl with
   |next=>show False.elim h
   |brk=>show False.elim h
   |cont=>show False.elim h
   |ret u=>
    let#[v,H',os,bare,un,h3,r',q]:=h;let q':v=.bl true:=q;subst q';obtain rfl:u=Value.bool true:=r';show#[rfl,OldK.of_keep λb o e=>?_,os,bare];cases q:H b with
    |none=>show un.keep b o e q (by intro z;show absurd (show b∈([]:List Addr) from z) (by simp)) (by simp)
    |some u=>
     rcases hO b with z|⟨ob,xs,z⟩
     .rw[q]at z;cases z
     .let z2:=un.frzs b ob _ z;let#[e1,_]:=h4 b _ z;let#[e2,_]:=h3 b _ z2;rw[e]at e1;cases e1;show e2
 cases hk:K.lookup a with
 |some o=>
  --the script is one of the module's own objects
  let e:=KX a o hk;rw[ha]at e;cases e;show L (λ_=>none) (λ_=>.inl rfl) (.inr #[_,vs.toArray,_,hk,rfl,rfl,rfl,by rw[qr,Y];show hl,rv]) (λb u z=>by let z':(none:Option HO)=some u:=z;cases z') (λb z=>absurd rfl z) λz=>absurd rfl z
 |none=>
  show L (λb=>if b=a then some (.frz {cls:=.type "list",data:=.seq vs.toArray} (.lst (ns.map V.int)))else none) (λb=>?_) (.inl (.inr #[{cls:=.type "list",data:=.seq vs.toArray},qY rfl])) (λb u z=>?_) (λb z=>?_) λ_=>hk
  .grind
  .by_cases O:b=a
   .let z':=(qY O).symm.trans z;cases z';subst O;show#[ha,by rw[qo];show hl,vs,_,rv,ha]
   grind
  grind
theorem walk_of{l:W.OpenLaw}{K:Params->W.Frag}{CX:World->vI}{sp:World->Sp}
  (hn:l.most=some n)(h1:n<=sizeLine)(h3:d.params.defaults=[])(hr:aR k callerA)
  (hY:∀(w:World)(h:Heap),YP w h->(K w.params).In h)
  (F:∀(w:World)(mg:Str->Option Value)(M:Addr)(h:Heap),(K w.params).In h->h.Ns mainGlobals mg->mg d.name=some (.ref M)->
   ∃fd:FuncData,(∀(s:Shared)(u:Value),BindsTo s fd #[[u],[]] [(x,u)])/\
    ∀base:Heap,(K w.params).In base->base.Ns mainGlobals mg->cW l.prog w (K w.params) mg base (CX w) k M fd [x] (sp w))
  (O:∀(w:World)(H:Hp)(a:Addr)(ns:List Int),ns.length<=n->rY H->bC (K w.params) H a (ns.map V.int)->sp w [.ref a] H (λv _=>v=.bl true) λ_ _ _=>False)
  (h4:∀(w:World)(H:Hp)(s:Shared)(e:Value)(s':Shared),CX w [] H s (λ_ _ _=>False) e s'->False):
  W.WalkO q loose XP YP l.row.toRowW d [] (λf vs=>PySem.call f vs):=by
 show Att.attach_call hn h3 λw h5 J mg mb M o pm cd h7 a vs ns G Y ho hd h6 h2 L B z hg=>?_;let KX:=hY w _ Y;let#[fd,hb,hF]:=F w mg M _ KX G.T.g h2;show Pn KX G.T.g G.T.b G.T.builtins G.T.nolimit hg L B (le_trans z h1) hr hF hb (λH hO hS=>O w H a ns z hO hS) λH e s'=>h4 w H J e s'
def bS(s:Stmt):Arguments:=match s with
 |.FunctionDef _ a _ _ _ _ _ _ _ _=>a
 |_=>{posonlyargs:=[],args:=[],vararg:=none,kwonlyargs:=[],kw_defaults:=[],kwarg:=none,defaults:=[]}
def aU(s:Stmt):List Stmt:=match s with
 |.FunctionDef _ _ b _ _ _ _ _ _ _=>b
 |_=>[]
def aA(s:Stmt):Scope:=match s with
 |.FunctionDef _ _ _ _ _ _ sc _ _ _=>sc
 |_=>{kind:=.function,names:=[],isGenerator:=false,isCoroutine:=false}
structure nB(K:W.Frag)(x qual:Str)(st:Stmt)(f:Addr)(fd:FuncData):Prop where
 ex:∃(oc:Value)(od:Option Addr)(kV doc pm:Value)(an:Option Addr)(cdv ct:Value)(osl:Array (Option Value)),
  fd=W.fnOf x qual (bS st) (aU st) (aA st) .none kV doc pm an cdv ct/\K.lookup f=some #[oc,od,.func fd,osl]/\W.codeIn K cdv qual=true
 kp:W.keepIn K (.ref f)=true
section
variable{K:W.Frag}
def nB.binds{st:Stmt}(F:nB K x qual st f fd)
  (h:∀(kV z G:Value)(J:Option Addr)(B ct:Value)(us:List Value),us.length=ps.length->bindArgs (W.fnOf x qual (bS st) (aU st) (aA st) .none kV z G J B ct) #[us,[]]=pure (ps.zip us)):Binds K fd ps []:=by
 let#[Y,O,kV,z,G,J,B,ct,L,rfl,lk,M]:=F.ex;show .all (h kV z G J B ct)
def Iq{st:Stmt}{kV B F z ct:Value}(l:K.lookup f=some #[M,L,.func (W.fnOf x qual (bS st) (aU st) (aA st) .none kV B F J z ct),G])
  (c:W.codeIn K z qual=true)(k:W.keepIn K (.ref f)=true):nB K x qual st f (W.fnOf x qual (bS st) (aU st) (aA st) .none kV B F J z ct):=#[#[M,L,kV,B,F,J,z,ct,G,rfl,l,c],k]
end
def zr(H H':Hp):Prop:=∀b o,H b=some o->H' b=some o
def zr.refl(H:Hp):zr H H:=λ_ _ h=>h
def zr.trans(a:zr H H1)(b:zr H1 H2):zr H H2:=λc o h=>b c o (a c o h)
structure zV(fs:List Addr)(e:Addr)(cls:Value)(dx:Option Addr)(a0:Option Value)(T:Addr)(h h':Heap):Prop where
 new:h.objs.size<=T
 keep:∀b o,b∉fs->b≠e->h.get? b=some o->h'.get? b=some o
 slot:∀b o,b∈fs->b≠e->h.get? b=some o->∃sl,h'.get? b=some {o with slots:=sl}
 rcd:∃oe vs,h'.get? e=some oe/\oe.cls=cls/\oe.dict=dx/\oe.data=.fields vs/\vs[0]?=a0/\vs[1]?=some (.ref T)
 trc:∃oT ts,h'.get? T=some oT/\oT.data=.fields ts/\ts[3]?=some .none
def Obj.dict_mapFields(o:Obj)(f:Array Value->Array Value):(o.mapFields f).dict=o.dict:=by unfold Obj.mapFields;split<;>rfl
def Km{base:Heap}{env:Env}{outer:List Env}{L e:Addr}{oe:Obj}{vs:Array Value}{head:Value}{hadNext:Bool}{Q:Unit->Shared->Prop}
  (hfr:A.frames=some (env::outer))(hl:s.heap.FunFrames base (env::outer))(hf:env.frame=some L)(he:s.heap.get? e=some oe)(hd:oe.data=.fields vs)(hsz:1<vs.size)
  (h:∀h' T,zV (gC (env::outer)) e oe.cls oe.dict vs[0]? T s.heap h'->Q () {s with heap:=h'}):
  wpAny M A (do let a<-frameOf env;let pl<-entryPlaceOf L hadNext;let b<-EntryCells.newEntry head a .none (rawInt L) .none pl;setField (.ref e) 1 b) (λ_ s'=>wpAny M A (setFlight (.ref e) none) Q E s') E s:=by
 let hene:e∉gC (env::outer):=λhm=>by let#[_,o,ho,hnf]:=hl.mem hm;rw[he]at ho;injection ho with ho;subst ho;show hnf vs hd
 refine qa (wpAny_frameOf_fun hfr hl hf λh₁ hs₁=>?_);show qa (wpAny_entryPlaceOf λpl hpl=>?_);show qa (zd ?_ (hpl.sizeOk5 _ _ _ _ _));let he₁:h₁.get? e=some oe:=(hs₁.2.1 e hene).trans he;let he₂:=qc (h:=h₁) {cls:=.type "traceback",dict:=none,data:=.fields ([head,.ref L,.none,rawInt L,.none]++(if pl.isEmpty then List.replicate 6 Value.none else pl)).toArray} he₁;show wpAny_setField he₂ hd hsz ?_;let hTe:h₁.objs.size≠e:=ne_of_gt (qe he₁);let hd₃:=Obj.data_mapFields hd (·.setIfInBounds 1 (Value.ref h₁.objs.size));let he₃:=za (Obj.mapFields (·.setIfInBounds 1 (Value.ref h₁.objs.size))) he₂ (Obj.isFreed_of_fields hd₃);let hT₃:=(q9 (h₁.push {cls:=.type "traceback",dict:=none,data:=.fields ([head,.ref L,.none,rawInt L,.none]++(if pl.isEmpty then List.replicate 6 Value.none else pl)).toArray})
  (Obj.mapFields (·.setIfInBounds 1 (Value.ref h₁.objs.size))) (Ne.symm hTe)).trans (qd h₁ rfl)
 refine qa (zc he₃ hd₃ (x:=.ref h₁.objs.size) (by simp[hsz]) ?_);show wpAny_setField hT₃ rfl (by simp<;>omega) (h _ h₁.objs.size ?_);let keep:∀b o,b≠e->h₁.get? b=some o->
   (((h₁.push {cls:=.type "traceback",dict:=none,data:=.fields ([head,.ref L,.none,rawInt L,.none]++(if pl.isEmpty then List.replicate 6 Value.none else pl)).toArray}).update e (Obj.mapFields (·.setIfInBounds 1 (Value.ref h₁.objs.size)))).update h₁.objs.size
     (Obj.mapFields (·.setIfInBounds 3 ((none:Option Addr).elim Value.none λf=>rawInt f)))).get? b=some o:=λb o hbe hb=>by
  let hbT:h₁.objs.size≠b:=ne_of_gt (qe hb);rw[q9 _ _ hbT,q9 _ _ (Ne.symm hbe)];show qc _ hb
 show#[by rw[hs₁.1];show q8 _,λb o hb hbe q=>keep b o hbe ((hs₁.2.1 b hb).trans q),λb o _ hbe q=>?_,?_,?_]
 .obtain⟨sl,hs⟩:=hs₁.2.2 b o q;show#[sl,keep b _ hbe hs]
 .show#[_,_,?_,Obj.cls_mapFields _ _,Obj.dict_mapFields _ _,hd₃,by rw[Array.getElem?_setIfInBounds_ne ⋯],by simp[hsz]];rw[q9 _ _ hTe];show he₃
 .show#[_,_,za _ hT₃ (Obj.isFreed_of_fields (Obj.data_mapFields rfl _)),Obj.data_mapFields rfl _,by first|(simp;done)|(rcases hpl with rfl|⟨_,_,_,_,_,_,_,rfl⟩<;>simp)]
def zE.there(x:zE P w H h a o):∃u,h.get? a=some u:=by
 cases o with
 |lst xs=>let#[_,_,_,_,e]:=x;show#[_,e]
 |tup xs=>let#[_,_,_,u,e,_]:=x;show#[_,e]
 |dK z=>let#[_,_,_,_,o,_,_,e,_]:=x;show#[_,e]
 |dT z=>let#[_,_,_,_,o,_,_,e,_]:=x;show#[_,e]
 |set vs=>
  rcases x with⟨_,⟨_,e⟩|⟨_,_,_,_,_,_,_,e,_⟩|⟨_,_,_,_,_,_,_,_,e,_⟩⟩
  .show#[_,e]
  .show#[_,e]
  .show#[_,e]
 |ins C dx fs=>let#[_,_,_,e,_]:=x;show#[_,e]
 |own y=>show x
 |xd fs=>let#[_,#[_,_,_,e,_],_]:=x;show#[_,e]
 |rng lo hi=>let#[_,_,_,e]:=x;show#[_,e]
 |frz B u=>show#[_,x.1]
 |tbl ps=>show#[_,(show h.get? a=some _ from x)]
 |met f y=>show#[_,(show h.get? a=some _ from x)]
 |ext φ=>show x.2.1
def fZ(X:Cx)(zF:List (Addr×Obj))(H:Hp)(h:Heap)(e:Addr)(cls:Value)(dx:Option Addr):Prop:=bB X zF H e/\∃z vs,h.get? e=some z/\z.cls=cls/\z.dict=dx/\z.data=.fields vs/\
 (vs[1]?=some .none\/∃T F B,vs[1]?=some (.ref T)/\T≠e/\bB X zF H T/\h.get? T=some F/\F.data=.fields B/\B[3]?=some .none)
def GT{ch:List Addr}{h':Heap}(I:Inv X zF Z H s)(G:∀b∈ch,bB X zF H b)(B:∀b o,b∉gC X.stack->b∉ch->s.heap.get? b=some o->h'.get? b=some o)(slot:∀b o,b∈gC X.stack->b∉ch->s.heap.get? b=some o->∃O,h'.get? b=some {o with slots:=O}):
  Inv X zF Z H {s with heap:=h'}:=by
 let J:∀b u,H b=some u->b∉gC X.stack/\b∉ch:=λb u z=>#[λq=>(by rw[I.stkFree b q]at z;cases z),λq=>(by rw[(G b q).1]at z;cases z)]
 show I.call (ch:=ch) (t':=s.toks) (d':=s.drawn) (g':=s.gens) #[λb o q _ M L=>B b o M L q,λb o q _ M L=>slot b o M L q,λ_ _ _ z _=>z,λb o q n=>?_,λ_ _ z=>z,λ_ _ _ z=>z,λb ps z=>#[#[],by rw[z];simp]] (λa o q=>?_) I.bare λb F=>?_
 .by_cases F:b∈gC X.stack
  .obtain⟨O,z⟩:=slot b o F n q;show#[_,z]
  .show#[o,B b o F n q]
 .show(I.hok a o q).stay (λb u F z=>?_) (λ_ z=>z) λ_ _ z=>z;rcases F with rfl|F
  .show B _ _ (J _ _ q).1 (J _ _ q).2 z
  .show B _ _ (J _ _ F).1 (J _ _ F).2 z
 .obtain⟨_,f1,_,f3,f4,Y⟩:=G b F;show#[f3,f1,f4,Y]
def JO{Q:Unit->Shared->Prop}(O:X.stack=X.env::X.outer)(hf:X.env.frame=some X.env.locals)(I:Inv X zF Z H s)(F:fZ X zF H s.heap e cls dx)
  (k:∀h',Inv X zF Z H {s with heap:=h'}->fZ X zF H h' e cls dx->Q () {s with heap:=h'}):wpAny (model X.prog X.w) X.A (noteFrame (.ref e) X.env) (λ_ s'=>wpAny (model X.prog X.w) X.A (setFlight (.ref e) none) Q E s') E s:=by
 let#[fe,oe,vs,he,rfl,rfl,hd,ht]:=F;let h6:X.A.frames=some (X.env::X.outer):=O▸I.ok.frames;let hl:s.heap.FunFrames X.base (X.env::X.outer):=O▸I.stack;unfold noteFrame;simp only[hf];rcases ht with h1|⟨T,oT,ts,h1,h8,fT,hT,h5,h3⟩
 .show qa (zc he hd h1 ?_);show Km h6 hl hf he hd (Array.getElem?_eq_some_iff.mp h1).1 λh' T' L=>?_;rw[<-O]at L;let I':Inv X zF Z H {s with heap:=h'}:=GT (ch:=[e]) I (λb G=>by rw[qu.mp G];show fe) (λb o n1 M q=>L.keep b o n1 (λz=>M (by simp[z])) q) λb o n1 M q=>L.slot b o n1 (λz=>M (by simp[z])) q;let#[h2,Y,r1,r2,rd,r3,_,r5]:=L.rcd;let#[oT,ts,t1,t2,t3]:=L.trc;show k h' I' #[fe,h2,Y,r1,r2,rd,r3,.inr #[T',oT,ts,r5,λz=>absurd (qe he) (by let:=L.new;rw[z]at this;lia),I.fpOk L.new (I.hok.fresh L.new),t1,t2,t3]]
 .refine qa (zc he hd h1 ?_);show qa (zc hT h5 h3 ?_);show qa (wpAny_setField hT h5 (Array.getElem?_eq_some_iff.mp h3).1 ?_);let B:∀b,b≠T->(s.heap.update T (Obj.mapFields (·.setIfInBounds 3 Value.none))).get? b=s.heap.get? b:=λb G=>q9 _ _ (Ne.symm G);let J:∀b o,s.heap.get? b=some o->(∀vs,o.data≠.fields vs)->b≠T:=λb o G h4 q=>by rw[q,hT]at G;injection G with G;subst G;exact h4 ts h5
  refine Km h6 (hl.of_keeps λb o G h4=>#[o,(B b (J b o G h4)).trans G,rfl]) hf ((B e (Ne.symm h8)).trans he) hd (Array.getElem?_eq_some_iff.mp h1).1 λh' T' L=>?_;rw[<-O]at L;let h7:(s.heap.update T (Obj.mapFields (·.setIfInBounds 3 Value.none))).objs.size=s.heap.objs.size:=Heap.size_update ..;let I':Inv X zF Z H {s with heap:=h'}:=GT (ch:=[e,T]) I (λb G=>by
   rcases qA.mp G with rfl|G
   .show fe
   .rw[qu.mp G];show fT) (λb o n1 M q=>L.keep b o n1 (λz=>M (by simp[z])) ((B b λz=>M (by simp[z])).trans q)) λb o n1 M q=>L.slot b o n1 (λz=>M (by simp[z])) ((B b λz=>M (by simp[z])).trans q)
  let#[h2,Y,r1,r2,rd,r3,_,r5]:=L.rcd;let#[oT,ts,t1,t2,t3]:=L.trc;let hn:s.heap.objs.size<=T':=h7▸L.new;show k h' I' #[fe,h2,Y,r1,r2,rd,r3,.inr #[T',oT,ts,r5,λz=>absurd (qe he) (by rw[z]at hn;lia),I.fpOk hn (I.hok.fresh hn),t1,t2,t3]]
def OM{Q:Unit->Shared->Prop}(z:X.stack=X.env::X.outer)(B:X.env.frame=some X.env.locals)(I:Inv X zF Z H s)(F:fZ X zF H s.heap e cls dx)
  (k:∀h',Inv X zF Z H {s with heap:=h'}->fZ X zF H h' e cls dx->Q () {s with heap:=h'}):wpAny (model X.prog X.w) X.A (leaving X.env (.ref e)) Q E s:=by
 show qa (JO z B I F k)
def QN{Q:Unit->Shared->Prop}(I:Inv X zF Z H s)(F:fZ X zF H s.heap e cls dx)
  (k:∀h',Inv X zF Z H {s with heap:=h'}->fZ X zF H h' e cls dx->Q () {s with heap:=h'}):wpAny (model X.prog X.w) A (setFlight (.ref e) none) Q E s:=by
 let#[fe,oe,vs,M,rfl,rfl,O,ht]:=F;rcases ht with h1|⟨T,oT,ts,h1,L,fT,hT,G,h3⟩
 .show qa (zc M O h1 ?_);show qb (k s.heap I #[fe,oe,vs,M,rfl,rfl,O,.inl h1])
 .refine qa (zc M O h1 ?_);let J:=(Array.getElem?_eq_some_iff.mp h3).1;show wpAny_setField hT G J ?_;let B:∀b,b≠T->(s.heap.update T (Obj.mapFields (·.setIfInBounds 3 ((none:Option Addr).elim Value.none λf=>rawInt f)))).get? b=s.heap.get? b:=λb hb=>q9 _ _ (Ne.symm hb);refine k _ (GT (ch:=[T]) I (λb hb=>by rw[qu.mp hb];show fT) (λb o n1 Y q=>(B b λz=>Y (by simp[z])).trans q) λb o n1 Y q=>#[o.slots,(B b λz=>Y (by simp[z])).trans q])
   #[fe,oe,vs,(B e (Ne.symm L)).trans M,rfl,rfl,O,.inr #[T,_,_,h1,L,fT,za _ hT (Obj.isFreed_of_fields (Obj.data_mapFields G _)),Obj.data_mapFields G _,by simp[J]]]
def Inv.fpNew(I:Inv X zF Z H s)(J:s.heap.get? b=none)(hn:H' b=none):bB X zF H' b:=by
 let no:∀o,s.heap.get? b=some o->False:=λo z=>by rw[J]at z;cases z
 show#[hn,λz=>?_,λz=>?_,?_,λx c q z=>?_,λp G z=>?_]
 .obtain⟨m,⟨o,_,_,B,_⟩,_⟩:=I.loc;rw[<-z]at B;show no o B
 .obtain⟨_,o,B,_⟩:=I.funs.mem z;show no o B
 .by_cases F:b∈X.ex
  .show .inl F
  .show .inr ?_;cases q:X.s₀.heap.get? b with
   |none=>rfl
   |some o=>let#[o',z]:=I.base.there b o q F;show(no o' z).elim
 .obtain⟨v,o,B,_⟩:=I.cell x c q;rw[z]at B;show no o B
 .let:=(I.pin p G).1;rw[z]at this;show no _ this
def bB.few(f:bB X zF H b):bB X [] H b:=#[f.1,f.2.1,f.2.2.1,f.2.2.2.1,f.2.2.2.2.1,λp z=>f.2.2.2.2.2 p (qj _ ↑z)]
def fZ.few(F:fZ X zF H h e cls dx):fZ X [] H h e cls dx:=by let#[f,B,vs,h1,h2,J,M,L]:=F;show#[f.few,B,vs,h1,h2,J,M,L.imp id ?_];rintro⟨T,G,z,a1,a2,Y,O⟩;show#[T,G,z,a1,a2,Y.few,O]
def Inv.few(I:Inv X zF Z H s):Inv X [] Z H s:=I.pins_of λp z=>I.pin p (qj _ ↑z)
def eY(P:Program)(w:World):vI:=λz H s E e s'=>∃a cls dx H',e=.ref a/\s'.os=s.os/\AllBare s'.gens/\Un (gC z) [] H H' s.heap s'.heap/\cX P w H' s'.heap/\E cls dx H'/\s.heap.get? a=none/\H' a=none/\
 ∃B vs,s'.heap.get? a=some B/\B.cls=cls/\B.dict=dx/\B.data=.fields vs/\(vs[1]?=some .none\/∃T G F,vs[1]?=some (.ref T)/\T≠a/\s.heap.get? T=none/\H' T=none/\s'.heap.get? T=some G/\G.data=.fields F/\F[3]?=some .none)
section
variable{K:W.Frag}
def OR(I:Inv (dA (eY P w) P w K mg base N qual scope f B A outer s H E) [] Z H' s')(F:fZ (dA (eY P w) P w K mg base N qual scope f B A outer s H E) [] H' s'.heap e cls dx)(q:E cls dx H'):
  (dA (eY P w) P w K mg base N qual scope f B A outer s H E).xe (.ref e) s':=by
 show OM (X:=dA (eY P w) P w K mg base N qual scope f B A outer s H E) rfl rfl I F λh' G F'=>?_;let#[L,Y,vs,h1,h2,hd,h3,h4]:=F';let J:∀{b},bB (dA (eY P w) P w K mg base N qual scope f B A outer s H E) [] H' b->s.heap.get? b=none:=λ{b} z=>z.2.2.2.1.resolve_left λz=>by cases z
 show#[e,cls,dx,H',rfl,G.os,G.bare,G.base,G.hok,q,J L,L.1,Y,vs,h1,h2,hd,h3,h4.imp id ?_];rintro⟨T,oT,O,a1,a2,M,a4⟩;show#[T,oT,O,a1,a2,J M,M.1,a4]
end
def MX(I:Inv X zF Z H s)(h:eY X.prog X.w X.stack H s E u s'):∃a cls dx H',u=.ref a/\Inv X zF Z H' s'/\fZ X zF H' s'.heap a cls dx/\E cls dx H':=by let#[a,cls,dx,H',rfl,O,Y,un,B,q,M,L,G,vs,h1,h2,hd,h3,h4]:=h;show#[a,cls,dx,H',rfl,I.call' O un B Y (λb z=>absurd z (by simp)),#[I.fpNew M L,G,vs,h1,h2,hd,h3,h4.imp id ?_],q];rintro⟨T,J,F,a1,a2,a3,a4,a5⟩;show#[T,J,F,a1,a2,I.fpNew a3 a4,a5]
@[inline]def XW(X:Cx)(Z:St):XK:=λcls dx H'=>∀(a:Addr)(s':Shared),Inv X [] Z H' s'->fZ X [] H' s'.heap a cls dx->X.xe (.ref a) s'
def oP(X:Cx)(sp:Sp)(t:TA):TE:=λZ H Q=>t Z H λvs H1=>sp vs H1 Q (XW X Z)
def OX(F:cW X.prog X.w X.K X.mg X.base (eY X.prog X.w) k f fd ps sp)(hr:aR k X.A)(hg:Gl X x)(hm:X.mg x=some (.ref f))(hk:W.keepIn X.K (.ref f)=true)(hb:Binds X.K fd ps [])
  (ha:PA X (e::es) t)(L:(x==("__debug__":Str))=false:=by decide)(he:starEach (e::es) X.env=(false,eval e X.env)::starEach es X.env:=by rfl)(J:(backTo pos (starEach es X.env)).any (·.1)=false:=by rfl):
  PE X (.Call (.Name x p) (e::es) [] pos) (oP X sp t):=by
 intro zF s Z H Q I h;show wpAny_Call_Name_kw (EE I hg hm ?_ L);show W.callWith_K (h₀:=X.base) I.ok.mod.kin hk (Af (ha pos zF s Z H _ I h) λG M O=>?_) he J;let#[vs,H1,B,r,q]:=O;show#[B.kIn,?_];let hl:(G++[]).length=ps.length:=by rw[qz,<-r.length];show F.len _ _ _ _ q
 show wpAny_call (codeAny_mono (F.run X.A X.stack M H1 #[G,[]] G vs Q (XW X Z) hr B.env0 (by let:=hb M G B.kIn hl;rwa[qz]at this) r q) λr s' z=>?_);cases r with
 |error e=>let#[a,cls,dx,H',rfl,I',F',Y]:=MX B z;show Y a s' I'.few F'.few
 |ok fl=>
  cases fl with
  |ret u=>show B.after z
  |next=>show False.elim z
  |brk=>show False.elim z
  |cont=>show False.elim z
section
variable{K:W.Frag}
def nB.okX{st:Stmt}(F:nB K x qual st f fd)(S:aE N ps (aA st))(len:∀vs H Q E,sp vs H Q E->vs.length=ps.length)
  (G:∀(B:Value)(A:Around)(z:List Env)(s:Shared)(H:Hp)(vs:List V)(Q:VK)(E:XK),aR k (A.deeper (envOfC qual (aA st) s.heap.objs.size f B))->sp vs H Q E->
   ∃t,gS (dA (eY P w) P w K mg base N qual (aA st) f B A z s H E) (aU st) t/\t {nx:=λ_ H'=>Q .non H',rt:=Q} (start N vs) H):cW P w K mg base (eY P w) (k+1) f fd ps sp:=by
 let#[oc,od,kV,Y,pm,an,B,ct,M,rfl,lk,L]:=F.ex;show Lp lk L S len λA z s H vs Q E O J=>G B A z s H vs Q E O J
end
end L2
namespace FL
open PySem
inductive D where
 |non
 |bl(b:Bool)
 |int(i:Int)
 |str(l:List Nat)
 |tup(l:List D)
 |lst(l:List D)
 |dct(t:Bool)(ks vs:List D)
 |set(l:List D)
 |exc(c:List Nat)(fs:List (List Nat))(vs:List D)
 deriving Inhabited
inductive S where
 |sh(d:D)
 |lst(l:List S)
 |dct(t:Bool)(ks:List D)(vs:List S)
 |set(l:List D)
 deriving Inhabited
mutual
@[inline]def S.toD:S->D
 |.sh d=>d
 |.lst l=>.lst (S.toDs l)
 |.dct t ks vs=>.dct t ks (S.toDs vs)
 |.set l=>.set l
@[inline]def S.toDs:List S->List D
 |[]=>[]
 |s::r=>S.toD s::S.toDs r
end
@[simp] theorem S.toDs_map:∀l:List S,S.toDs l=l.map S.toD
  |[]=>rfl
  |s::r=>by rw[S.toDs,S.toDs_map r,qy]
@[simp] theorem S.toD_sh(d:D):(S.sh d).toD=d:=rfl
@[simp] theorem S.toD_lst(l:List S):(S.lst l).toD=.lst (l.map S.toD):=by rw[<-S.toDs_map];rfl
@[simp] theorem S.toD_dct(t:Bool)(ks:List D)(l:List S):(S.dct t ks l).toD=.dct t ks (l.map S.toD):=by rw[<-S.toDs_map];rfl
@[simp] theorem S.toD_set(l:List D):(S.set l).toD=.set l:=rfl
@[inline]def S.isSh:S->Bool
 |.sh _=>true
 |_=>false
@[inline]def S.flat:S->Bool
 |.sh _=>true
 |.lst l=>l.all S.isSh
 |.dct _ _ vs=>vs.all S.isSh
 |.set _=>false
inductive R where
 |v(s:S)
 |loc(i:Nat)
abbrev Env:=List (Option S)
abbrev WQ:=R->Env->Prop
abbrev WX:=D->Env->Prop
@[inline]def NX:WX:=λ_ _=>False
abbrev WE:=Env->WQ->WX->Prop
abbrev WT:=Env->(Bool->Env->Prop)->WX->Prop
abbrev WA:=Env->(List R->Env->Prop)->WX->Prop
structure Ends where
 nx:Env->Prop
 rt:WQ
 bk:Env->Prop
 ct:Env->Prop
 ex:WX
abbrev WS:=Ends->Env->Prop
def slot(U:Env)(i:Nat):Option S:=match U,i with
 |[],_=>none
 |s::_,0=>s
 |_::r,i+1=>slot r i
@[simp] theorem SF(s:Option S)(r:Env):slot (s::r) 0=s:=rfl
@[simp] theorem SG(s:Option S)(r:Env)(i:Nat):slot (s::r) (i+1)=slot r i:=rfl
def view(r:R)(U:Env):Option D:=match r with
 |.v s=>some s.toD
 |.loc i=>(slot U i).map S.toD
def zB(r:R)(U:Env):Option D:=match r with
 |.v s=>some s.toD
 |.loc i=>match slot U i with
  |some s=>if s.flat then some s.toD else none
  |none=>none
def give(r:R)(U:Env):Option (S×Env):=match r with
 |.v s=>some (s,U)
 |.loc i=>match slot U i with
  |some s=>some (.sh s.toD,U.set i (some (.sh s.toD)))
  |none=>none
def aF:List R->Env->Option (List S×Env)
 |[],U=>some ([],U)
 |r::rs,U=>match give r U with
  |some (s,U1)=>match aF rs U1 with
   |some (ss,U2)=>some (s::ss,U2)
   |none=>none
  |none=>none
def ixN(n:Nat)(i:Int):Option Nat:=if 0<=i then(if i<n then some i.toNat else none)else if -(n:Int)<=i then some (i+n).toNat else none
def atI{α:Type}(xs:List α)(i:Int):Option α:=(ixN xs.length i).bind λj=>xs[j]?
def sIx(n d:Nat):Option Int->Nat
 |none=>d
 |some i=>if i<0 then(i+n).toNat else min i.toNat n
def bZ{α:Type}(xs:List α)(lo hi:Option Int):List α:=(xs.drop (sIx xs.length 0 lo)).take (sIx xs.length xs.length hi-sIx xs.length 0 lo)
def big:Nat:=1000000
def zp{α:Type}(o:Option α)(k:α->Prop):Prop:=match o with
 |some a=>k a
 |none=>False
@[simp] theorem GX{α:Type}(a:α)(k:α->Prop):zp (some a) k=k a:=rfl
@[simp] theorem SH{α:Type}(k:α->Prop):zp (none:Option α) k=False:=rfl
@[simp] theorem SE{α:Type}{c:Prop}[Decidable c](a:α)(k:α->Prop):zp (if c then some a else none) k=(c/\k a):=by by_cases h:c<;>simp[h]
def zk(i:Nat):WE:=λU Q _=>match slot U i with
 |some (.sh d)=>Q (.v (.sh d)) U
 |some _=>Q (.loc i) U
 |none=>False
def wC(d:D):WE:=λU Q _=>Q (.v (.sh d)) U
def zx(op:D->D->Option S)(a b:WE):WE:=λU Q E=>a U (λx B=>b B (λy z=>zp (zB x z) λp=>zp (zB y z) λq=>zp (op p q) λs=>Q (.v s) z) E) E
def nE(op:D->Option S)(a:WE):WE:=λU Q E=>a U (λx z=>zp (zB x z) λp=>zp (op p) λs=>Q (.v s) z) E
def aO:D->D->Option S
 |.int i,.int j=>some (.sh (.int (i+j)))
 |.str x,.str y=>if x.length+y.length<=big then some (.sh (.str (x++y)))else none
 |.lst x,.lst y=>if x.length+y.length<=big then some (.lst ((x++y).map .sh))else none
 |.tup x,.tup y=>if x.length+y.length<=big then some (.sh (.tup (x++y)))else none
 |_,_=>none
def dY:D->D->Option S
 |.int i,.int j=>some (.sh (.int (i-j)))
 |_,_=>none
def iV(i j:Int):Bool:=(decide (-(2^64)<i)&&decide (i<2^64))||(decide (-(2^64)<j)&&decide (j<2^64))
def kN:D->D->Option S
 |.int i,.int j=>if iV i j then some (.sh (.int (i*j)))else none
 |_,_=>none
def fH:D->D->Option S
 |.int i,.int j=>if 0<j/\j<18446744073709551616 then some (.sh (.int (i/j)))else none
 |_,_=>none
def dZ:D->D->Option S
 |.int i,.int j=>if 0<j then some (.sh (.int (i %j)))else none
 |_,_=>none
def jL:D->D->Option S
 |.int i,.int j=>if 0<=j/\j<=1000/\i.natAbs<2^64 then some (.sh (.int (i^j.toNat)))else none
 |_,_=>none
def fV:D->Option S
 |.int i=>some (.sh (.int (-i)))
 |_=>none
mutual
def aM:D->D->Bool
 |.tup l,.tup m=>bH l m
 |.lst l,.lst m=>bH l m
 |.int _,.int _=>false
 |.int _,.str _=>false
 |.int _,.non=>false
 |.str _,.int _=>false
 |.str _,.str _=>false
 |.str _,.non=>false
 |.str _,.bl _=>false
 |.bl _,.bl _=>false
 |.bl _,.str _=>false
 |.bl _,.non=>false
 |.non,.int _=>false
 |.non,.str _=>false
 |.non,.bl _=>false
 |.non,.non=>false
 |_,_=>true
def bH:List D->List D->Bool
 |a::l,b::m=>aM a b||bH l m
 |_,_=>false
end
mutual
def fY:D->Nat
 |.tup l=>bY l+1
 |.lst l=>bY l+1
 |_=>0
def bY:List D->Nat
 |[]=>0
 |a::l=>max (fY a) (bY l)
end
open Classical in
def gO(a b:D):Option Bool:=if aM a b||decide (30<fY a)then none else some (decide (a=b))
def mU(a b:D):Option Bool:=(gO a b).map (!·)
def vU:D->D->Option Bool
 |.int i,.int j=>some (decide (i<j))
 |.str x,.str y=>some (decide (x<y))
 |_,_=>none
def lD(a b:D):Option Bool:=vU a b
def mV(a b:D):Option Bool:=vU b a
def lR:D->D->Option Bool
 |.int i,.int j=>some (decide (i<=j))
 |.str x,.str y=>some (!decide (y<x))
 |_,_=>none
def vW:D->D->Option Bool
 |.int i,.int j=>some (decide (j<=i))
 |.str x,.str y=>some (!decide (x<y))
 |_,_=>none
def cT:D->Bool
 |.int _=>true
 |.str _=>true
 |_=>false
def eS:Bool->D->Bool
 |true,.tup l=>l.all cT
 |false,d=>cT d
 |_,_=>false
open Classical in
def zP(a:D):D->Option Bool
 |.lst l=>if l.any (λx=>aM x a||decide (30<fY x))then none else some (decide (a∈l))
 |.tup l=>if l.any (λx=>aM x a||decide (30<fY x))then none else some (decide (a∈l))
 |.dct t ks _=>if eS t a then some (decide (a∈ks))else none
 |_=>none
open Classical in
def uL(a:D):D->Option Bool
 |.non=>some (decide (a=.non))
 |.bl b=>some (decide (a=.bl b))
 |_=>none
def gF:D->Option Bool
 |.non=>some false
 |.bl b=>some b
 |.int i=>some (decide (i≠0))
 |.str l=>some (!l.isEmpty)
 |.tup l=>some (!l.isEmpty)
 |.lst l=>some (!l.isEmpty)
 |_=>none
def bF(op:D->D->Option Bool)(a b:WE):WT:=λU Q E=>a U (λx B=>b B (λy z=>zp (view x z) λp=>zp (view y z) λq=>zp (op p q) λc=>Q c z) E) E
def cA(op J:D->D->Option Bool)(a b c:WE):WT:=λU Q E=>a U (λx G=>b G (λy B=>zp (view x B) λp=>zp (view y B) λq=>zp (op p q) λk=>if k then c B (λz F=>zp (view y F) λq=>zp (view z F) λr=>zp (J q r) λL=>Q L F) E else Q false B) E) E
def dP(a:WE):WT:=λU Q E=>a U (λx z=>zp (view x z) λp=>zp (gF p) λc=>Q c z) E
def eK(a b:WT):WT:=λU Q E=>a U (λc z=>if c then b z Q E else Q false z) E
def lT(a b:WT):WT:=λU Q E=>a U (λc z=>if c then Q true z else b z Q E) E
def fE(a:WT):WT:=λU Q E=>a U (λc z=>Q (!c) z) E
def dD(t:WT):WE:=λU Q E=>t U (λc z=>Q (.v (.sh (.bl c))) z) E
def iS(a b:WE):WE:=λU Q E=>a U (λx z=>match view x z with
 |some (.bl c)=>if c then b z Q E else Q (.v (.sh (.bl false))) z
 |_=>False) E
def oB(a b:WE):WE:=λU Q E=>a U (λx z=>match view x z with
 |some (.bl c)=>if c then Q (.v (.sh (.bl true))) z else b z Q E
 |_=>False) E
def zm:WA:=λU Q _=>Q [] U
def zl(a:WE)(b:WA):WA:=λU Q E=>a U (λr B=>b B (λF z=>Q (r::F) z) E) E
def bE(a:WA):WE:=λU Q E=>a U (λB z=>zp (if B.length<=big then aF B z else none) λp=>Q (.v (.sh (.tup (p.1.map S.toD)))) p.2) E
def dX(a:WA):WE:=λU Q E=>a U (λB z=>zp (if B.length<=big then aF B z else none) λp=>Q (.v (.lst p.1)) p.2) E
open Classical in
def lk{α:Type}:List D->List α->D->Option α
 |k'::ks,v::vs,k=>if k'=k then some v else lk ks vs k
 |_,_,_=>none
def iG:S->D->Option S
 |.sh (.tup l),.int i=>(atI l i).map .sh
 |.sh (.lst l),.int i=>(atI l i).map .sh
 |.sh (.str l),.int i=>(atI l i).map λc=>.sh (.str [c])
 |.lst l,.int i=>atI l i
 |_,_=>none
def cR(a b:WE):WE:=λU Q E=>a U (λx B=>b B (λy z=>zp (view y z) λq=>match x with
 |.v s=>zp (iG s q) λt=>Q (.v t) z
 |.loc i=>match slot z i with
  |some s=>match iG s q with
   |some (.sh d)=>Q (.v (.sh d)) z
   |_=>False
  |none=>False) E) E
def dQ(a:Option WE):Env->(Option Int->Env->Prop)->WX->Prop:=match a with
 |none=>λU Q _=>Q none U
 |some a=>λU Q E=>a U (λx z=>match view x z with
  |some (.int i)=>Q (some i) z
  |_=>False) E
def lP(d:D)(lo hi:Option Int):Option S:=match d with
 |.str l=>some (.sh (.str (bZ l lo hi)))
 |.tup l=>some (.sh (.tup (bZ l lo hi)))
 |.lst l=>some (.lst ((bZ l lo hi).map .sh))
 |_=>none
def kH(a:WE)(lo hi:Option WE):WE:=λU Q E=>a U (λx F=>dQ lo F (λl B=>dQ hi B (λh z=>zp (zB x z) λd=>zp (lP d l h) λs=>Q (.v s) z) E) E) E
abbrev WF:=List S->(S->List S->Prop)->(D->List S->Prop)->Prop
def bN:List Bool->List R->Env->Option (List S×Env)
 |_,[],U=>some ([],U)
 |ms,.v s::rs,U=>match bN ms.tail rs U with
  |some (ss,U1)=>some (s::ss,U1)
  |none=>none
 |ms,.loc i::rs,U=>match slot U i with
  |some s=>if ms.headD false then(match bN ms.tail rs (U.set i none)with
   |some (ss,U1)=>some (s::ss,U1)
   |none=>none)
   else(match bN ms.tail rs (U.set i (some (.sh s.toD)))with
    |some (ss,U1)=>some (.sh s.toD::ss,U1)
    |none=>none)
  |none=>none
def back:List Bool->List R->List S->Env->Env
 |ms,.v _::rs,_::ss,U=>back ms.tail rs ss U
 |ms,.loc i::rs,s::ss,U=>if ms.headD false then back ms.tail rs ss (U.set i (some s))else back ms.tail rs ss U
 |_,_,_,U=>U
def zz(f:WF)(ms:List Bool)(a:WA):WE:=λU Q E=>a U (λF z=>zp (bN ms F z) λp=>f p.1 (λs B=>Q (.v s) (back ms F B p.2)) (λx B=>E x (back ms F B p.2))) E
def wB(f:List D->Option S)(a:WA):WE:=λU Q E=>a U (λB z=>zp (B.mapM λr=>zB r z) λF=>zp (f F) λs=>Q (.v s) z) E
def cK(j:Nat)(e:WE):WE:=λU Q E=>match slot U j with
 |some (.lst _)=>e U (λr z=>zp (give r z) λp=>match slot p.2 j with
  |some (.lst l)=>l.length<big/\Q (.v (.sh .non)) (p.2.set j (some (.lst (l++[p.1]))))
  |_=>False) E
 |_=>False
def bQ:List D->Option S
 |[.str l]=>some (.sh (.int l.length))
 |[.tup l]=>some (.sh (.int l.length))
 |[.lst l]=>some (.sh (.int l.length))
 |_=>none
def jQ:List D->Option S
 |[.int i]=>some (.sh (.int i))
 |[.bl b]=>some (.sh (.int (if b then 1 else 0)))
 |_=>none
def dI:List D->Option S
 |[.tup l]=>some (.sh (.tup l))
 |[.lst l]=>some (.sh (.tup l))
 |_=>none
def uM:List D->Option S
 |[.tup l]=>some (.lst (l.map .sh))
 |[.lst l]=>some (.lst (l.map .sh))
 |_=>none
def mW:List D->Option S
 |[.int i,.int j]=>some (.sh (.int (if j>i then j else i)))
 |_=>none
def jP:List D->Option S
 |[.int i,.int j]=>some (.sh (.int (if j<i then j else i)))
 |_=>none
def aY:WS:=λD U=>D.nx U
def zy(a b:WS):WS:=λD U=>a {D with nx:=b D} U
def fG(c:WT)(a b:WS):WS:=λD U=>c U (λk z=>if k then a D z else b D z) D.ex
def aX(a:WE):WS:=λD U=>a U D.rt D.ex
def wExpr(a:WE):WS:=λD U=>a U (λ_ z=>D.nx z) D.ex
abbrev WG:=S->Env->(Env->Prop)->Prop
def zo(i:Nat):WG:=λs U Q=>Q (U.set i (some s))
def cQ:List WG->List D->Env->(Env->Prop)->Prop
 |[],[],U,Q=>Q U
 |g::gs,d::ds,U,Q=>g (.sh d) U λz=>cQ gs ds z Q
 |_,_,_,_=>False
def cG(z:List WG):WG:=λs U Q=>match s.toD with
 |.tup ds=>ds.length=z.length/\cQ z ds U Q
 |_=>False
def eL(j:Nat)(i e:WE):WS:=λD U=>e U (λr F=>zk j F (λx B=>i B (λy z=>zp (view y z) λq=>zp (give r z) λp=>match x,q,slot p.2 j with
 |.loc k,.int n,some (.lst l)=>k=j/\zp (ixN l.length n) λm=>D.nx (p.2.set j (some (.lst (l.set m p.1))))
 |_,_,_=>False) D.ex) D.ex) D.ex
def zA(g:WG)(a:WE):WS:=λD U=>a U (λr z=>zp (give r z) λp=>g p.1 p.2 D.nx) D.ex
abbrev WI:=Env->(List D->Env->Prop)->WX->Prop
def items:D->Option (List D)
 |.lst l=>some l
 |.tup l=>some l
 |.str l=>some (l.map λc=>.str [c])
 |_=>none
def fF(a:WE):WI:=λU Q E=>a U (λr z=>zp (give r z) λp=>zp (items p.1.toD) λl=>Q l p.2) E
def fromTo(lo:Int)(n:Nat):List D:=(List.range n).map λ(k:Nat)=>.int (lo+(k:Int))
def bM(a:WE):WI:=λU Q E=>a U (λr z=>match view r z with
 |some (.int j)=>(-big<=j/\j<=big)/\Q (fromTo 0 j.toNat) z
 |_=>False) E
def bJ(g:WG)(z:WS):List D->WS
 |[],D,U=>D.nx U
 |x::xs,D,U=>g (.sh x) U λB=>z {D with nx:=bJ g z xs D,ct:=bJ g z xs D,bk:=D.nx} B
def eN(it:WI)(g:WG)(z:WS):WS:=λD U=>it U (λl B=>bJ g z l D B) D.ex
def fQ(c:WT)(G:WS):WS:=λD U=>∃J:Nat->Env->Prop,(∃m,J m U)/\∀m U,J m U->c U (λk B=>if k then
 G {D with nx:=λz=>∃F,F<m/\J F z,ct:=λz=>∃F,F<m/\J F z,bk:=D.nx} B else D.nx B) D.ex
abbrev WB:=Env->(Env->Prop)->WX->Prop
def gD:WT:=λU Q _=>Q true U
def aN(g:WG)(c:WT)(b:WB):List D->WB
 |[],U,Q,_=>Q U
 |x::xs,U,Q,E=>g (.sh x) U λF=>c F (λk z=>if k then b z (λB=>aN g c b xs B Q E) E else aN g c b xs z Q E) E
def dU(n:Nat)(a:WE):WB:=λU Q E=>a U (λr z=>zp (give r z) λp=>match slot p.2 n with
 |some (.lst l)=>l.length<big/\Q (p.2.set n (some (.lst (l++[p.1]))))
 |_=>False) E
def sC(n k:Nat)(it:WI)(g:WG)(c:WT)(b:WB):WE:=λU Q E=>it U (λl B=>aN g c b l (B++some (.lst [])::List.replicate k none) (λz=>zp (slot z n) λs=>Q (.v s) (z.take n)) NX) E
def aB:List S->Env->Option (List S)
 |[],_=>some []
 |.sh d::ss,_::U=>(aB ss U).map (.sh d::·)
 |_::ss,some s::U=>(aB ss U).map (s::·)
 |_,_=>none
def gB(n m:Nat)(ks:List Nat)(B:WS):WF:=λz P PX=>z.length=n/\(∀i s,z[i]?=some s->i∈ks\/s.isSh=true)/\
 B {nx:=λU=>zp (aB z U) λfs=>P (.sh .non) fs
    rt:=λr U=>match r with
     |.v s=>zp (aB z U) λfs=>P s fs
     |.loc i=>zp (slot U i) λs=>if i<n then zp (aB z (U.set i (some (.sh s.toD)))) λfs=>P (.sh s.toD) fs else zp (aB z U) λfs=>P s fs
    bk:=λ_=>False
    ct:=λ_=>False
    ex:=λx U=>zp (aB z U) λfs=>PX x fs} (z.map some++List.replicate (m-n) none)
def vV(c f:List Nat)(z:Ends)(U:Env):Option D->Prop
 |some (.int i)=>z.ex (.exc c [f] [.int i]) U
 |_=>False
def eF(c f:List Nat)(a:WE):WS:=λD U=>a U (λr z=>vV c f D z (view r z)) D.ex
def nW(kn:List (List Nat))(f:List Nat):D->Option D
 |.exc c [g] [v]=>if kn.contains c&&g==f then some v else none
 |_=>none
def kG(kn:List (List Nat))(f:List Nat)(a:WE):WE:=λU Q E=>a U (λx z=>zp (view x z) λd=>zp (nW kn f d) λv=>Q (.v (.sh v)) z) E
def wF(cs:List (List Nat))(d:D):Prop:=∃c∈cs,∃fs vs,d=.exc c fs vs
def fR(cs:List (List Nat))(j:Nat)(G F:WS):WS:=λD U=>G {D with ex:=λd B=>wF cs d/\F {nx:=λz=>D.nx (z.set j none),rt:=λ_ _=>False,bk:=λ_=>False,ct:=λ_=>False,ex:=NX} (B.set j (some (.sh d)))} U
def tX(kn yes:List (List Nat)):D->Option Bool
 |.non=>some false
 |.exc c _ _=>if kn.contains c then some (yes.contains c)else none
 |_=>none
def gE(kn yes:List (List Nat))(a:WE):WE:=λU Q E=>a U (λx z=>zp (view x z) λd=>zp (tX kn yes d) λb=>Q (.v (.sh (.bl b))) z) E
end FL
namespace FL
open PySem L2
def aQ:aT->D
 |.inl i=>.int i
 |.inr x=>.str x.cps.toList
def gM(a C:Addr)(dx:Option Addr)(h:Heap):Prop:=∃o vs,h.get? a=some o/\o.cls=.ref C/\o.dict=dx/\o.data=.fields vs
def cY:HO->Bool
 |.tup _=>false
 |_=>true
def jR(F:Hp)(dx:Option Addr)(fs:List (List Nat))(vs:List D):Prop:=(dx=none/\fs=[]/\vs=[])\/∃p f i,dx=some p/\fs=[f]/\vs=[.int i]/\F p=some (.xd [((#[f.toArray]:Str),.int i)])
mutual
inductive aI(K:W.Frag)(F:Hp):V->D->Prop
 |non:aI K F .non .non
 |bl (b:Bool):aI K F (.bl b) (.bl b)
 |int (i:Int):aI K F (.int i) (.int i)
 |str {x:Str} {l:List Nat}:x.cps.toList=l->l.length<=16777216->aI K F (.str x) (.str l)
 |tup {a:Addr} {xs:List V} {ds:List D}:F a=some (.tup xs)->zD K F xs ds->aI K F (.ref a) (.tup ds)
 |lst {a:Addr} {xs:List V} {ds:List D}:bC K F a xs->zD K F xs ds->aI K F (.ref a) (.lst ds)
 |dK {a:Addr} {zG:List (aT×V)} {ks vs:List D}:Rd F a (.dK zG)->ks=zG.map (λp=>aQ p.1)->zD K F (zG.map (·.2)) vs->aI K F (.ref a) (.dct false ks vs)
 |dT {a:Addr} {zG:List (List aT×V)} {ks vs:List D}:Rd F a (.dT zG)->ks=zG.map (λp=>D.tup (p.1.map aQ))->zD K F (zG.map (·.2)) vs->aI K F (.ref a) (.dct true ks vs)
 |st {a:Addr} {xs:List V} {ds:List D}:F a=some (.set xs)->zD K F xs ds->aI K F (.ref a) (.set ds)
 |exc {a C:Addr} {dx:Option Addr} {c:List Nat} {fs:List (List Nat)} {vs:List D}:F a=some (.ext (gM a C dx))->W.nsIn K mainGlobals (⟨c.toArray⟩:Str)=some (some (.ref C))->jR F dx fs vs->aI K F (.ref a) (.exc c fs vs)
inductive zD(K:W.Frag)(F:Hp):List V->List D->Prop
 |nil:zD K F [] []
 |cons {x:V} {d:D} {xs:List V} {ds:List D}:aI K F x d->zD K F xs ds->zD K F (x::xs) (d::ds)
end
mutual
inductive aJ(K:W.Frag)(F H:Hp):V->S->List Addr->Prop
 |sh {v:V} {d:D}:aI K F v d->aJ K F H v (.sh d) []
 |lst {a:Addr} {xs:List V} {l:List S} {fp:List Addr}:H a=some (.lst xs)->zv K F H xs l fp->aJ K F H (.ref a) (.lst l) (a::fp)
 |dK {a:Addr} {zG:List (aT×V)} {ks:List D} {l:List S} {fp:List Addr}:H a=some (.dK zG)->ks=zG.map (λp=>aQ p.1)->zv K F H (zG.map (·.2)) l fp->aJ K F H (.ref a) (.dct false ks l) (a::fp)
 |dT {a:Addr} {zG:List (List aT×V)} {ks:List D} {l:List S} {fp:List Addr}:H a=some (.dT zG)->ks=zG.map (λp=>D.tup (p.1.map aQ))->zv K F H (zG.map (·.2)) l fp->aJ K F H (.ref a) (.dct true ks l) (a::fp)
 |st {a:Addr} {xs:List V} {ds:List D}:H a=some (.set xs)->zD K F xs ds->aJ K F H (.ref a) (.set ds) [a]
inductive zv(K:W.Frag)(F H:Hp):List V->List S->List Addr->Prop
 |nil:zv K F H [] [] []
 |cons {x:V} {s:S} {xs:List V} {l:List S} {fp fq:List Addr}:aJ K F H x s fp->zv K F H xs l fq->zv K F H (x::xs) (s::l) (fp++fq)
end
def Rd.mono(h:zr F F')(r:Rd F a u):Rd F' a u:=by
 rcases r with r|⟨o,r⟩
 .show .inl (h _ _ r)
 .show .inr #[o,h _ _ r]
def bC.mono(h:zr F F')(r:bC K F a xs):bC K F' a xs:=r.elim (λr=>.inl (Rd.mono h r)) .inr
def aV.mono(h:zr F F')(r:aV K F a xs):aV K F' a xs:=r.elim (λr=>.inl (Rd.mono h r)) .inr
def zD.ind{P:List V->List D->Prop}(hn:P [] [])(B:∀{x:V}{d:D}{xs:List V}{ds:List D},aI K F x d->zD K F xs ds->P xs ds->P (x::xs) (d::ds))(r:zD K F xs ds):P xs ds:=
 zD.rec (motive_1:=λ_ _ _=>True) (motive_2:=λxs ds _=>P xs ds) trivial (λ_=>trivial) (λ_=>trivial) (λ_ _=>trivial) (λ_ _ _=>trivial) (λ_ _ _=>trivial) (λ_ _ _ _=>trivial) (λ_ _ _ _=>trivial) (λ_ _ _=>trivial) (λ_ _ _=>trivial) hn (λa b _ z=>B a b z) r
def zv.ind{P:List V->List S->List Addr->Prop}(hn:P [] [] [])(B:∀{x:V}{s:S}{xs:List V}{l:List S}{fp fq:List Addr},aJ K F H x s fp->zv K F H xs l fq->P xs l fq->P (x::xs) (s::l) (fp++fq))(r:zv K F H xs l fp):P xs l fp:=
 zv.rec (motive_1:=λ_ _ _ _=>True) (motive_2:=λxs l fp _=>P xs l fp) (λ_=>trivial) (λ_ _ _=>trivial) (λ_ _ _ _=>trivial) (λ_ _ _ _=>trivial) (λ_ _=>trivial) hn (λa b _ z=>B a b z) r
def jR.mono(h:zr F F')(x:jR F dx fs vs):jR F' dx fs vs:=x.imp id λ⟨p,f,i,J,G,B,z⟩=>#[p,f,i,J,G,B,h _ _ z]
def aI.mono(h:zr F F')(r:aI K F v d):aI K F' v d:=
 aI.rec (motive_1:=λv d _=>aI K F' v d) (motive_2:=λv d _=>zD K F' v d) .non .bl .int (λe z=>.str e z) (λe _ B=>.tup (h _ _ e) B) (λe _ B=>.lst (bC.mono h e) B) (λe k _ B=>.dK (Rd.mono h e) k B) (λe k _ B=>.dT (Rd.mono h e) k B) (λe _ B=>.st (h _ _ e) B) (λe k x=>.exc (h _ _ e) k (x.mono h)) .nil (λ_ _ a b=>.cons a b) r
def zD.mono(h:zr F F')(r:zD K F v d):zD K F' v d:=zD.ind .nil (λa _ z=>.cons (aI.mono h a) z) r
def aJ.mono(h:zr F F')(r:aJ K F H v s fp):(∀a∈fp,H' a=H a)->aJ K F' H' v s fp:=
 aJ.rec (motive_1:=λv s fp _=>(∀a∈fp,H' a=H a)->aJ K F' H' v s fp) (motive_2:=λv s fp _=>(∀a∈fp,H' a=H a)->zv K F' H' v s fp)
  (λr _=>.sh (aI.mono h r)) (λe _ z k=>.lst ((k _ qm).trans e) (z λa B=>k a (qk _ B)))
  (λe q _ z k=>.dK ((k _ qm).trans e) q (z λa B=>k a (qk _ B))) (λe q _ z k=>.dT ((k _ qm).trans e) q (z λa B=>k a (qk _ B)))
  (λe r k=>.st ((k _ qm).trans e) (zD.mono h r)) (λ_=>.nil) (λ_ _ a b k=>.cons (a λc G=>k c (qj _ G)) (b λc G=>k c (qi _ G))) r
def zv.mono(h:zr F F')(r:zv K F H v s fp):(∀a∈fp,H' a=H a)->zv K F' H' v s fp:=
 zv.ind (P:=λv s fp=>(∀a∈fp,H' a=H a)->zv K F' H' v s fp) (λ_=>.nil) (λa _ b k=>.cons (aJ.mono h a λc z=>k c (qj _ z)) (b λc z=>k c (qi _ z))) r
def aJ.frz(h:zr F F')(r:aJ K F H v s fp):(∀a∈fp,F' a=H a)->aI K F' v s.toD:=
 aJ.rec (motive_1:=λv s fp _=>(∀a∈fp,F' a=H a)->aI K F' v s.toD) (motive_2:=λv s fp _=>(∀a∈fp,F' a=H a)->zD K F' v (S.toDs s))
  (λr _=>aI.mono h r) (λe _ z k=>.lst (bC.of ((k _ qm).trans e)) (z λa B=>k a (qk _ B)))
  (λe q _ z k=>.dK (.of ((k _ qm).trans e)) q (z λa B=>k a (qk _ B))) (λe q _ z k=>.dT (.of ((k _ qm).trans e)) q (z λa B=>k a (qk _ B)))
  (λe r k=>.st ((k _ qm).trans e) (zD.mono h r)) (λ_=>.nil) (λ_ _ a b k=>.cons (a λc G=>k c (qj _ G)) (b λc G=>k c (qi _ G))) r
def zv.frz(h:zr F F')(r:zv K F H v s fp):(∀a∈fp,F' a=H a)->zD K F' v (S.toDs s):=
 zv.ind (P:=λv s fp=>(∀a∈fp,F' a=H a)->zD K F' v (S.toDs s)) (λ_=>.nil) (λa _ b k=>.cons (aJ.frz h a λc z=>k c (qj _ z)) (b λc z=>k c (qi _ z))) r
def aJ.view(h:zr F H)(r:aJ K F H v s fp):aI K H v s.toD:=aJ.frz h r λ_ _=>rfl
def aJ.in_:∀{v:V}{s:S}{fp:List Addr},aJ K F H v s fp->∀a∈fp,∃o,H a=some o/\cY o=true:=by
 intro v s fp r;show aJ.rec (motive_1:=λv s fp _=>∀a∈fp,∃o,H a=some o/\cY o=true) (motive_2:=λv s fp _=>∀a∈fp,∃o,H a=some o/\cY o=true) ?_ ?_ ?_ ?_ ?_ ?_ ?_ r
 .intro v d r a z;cases z
 .grind[cY]
 .grind[cY]
 .grind[cY]
 .grind[cY]
 .intro a z;cases z
 grind
inductive zu(K:W.Frag)(F H:Hp):Env->St->List Addr->Prop
 |nil:zu K F H [] [] []
 |no {U:Env} {Z:St} {o:Option V} {fp:List Addr}:zu K F H U Z fp->zu K F H (none::U) (o::Z) fp
 |so {U:Env} {Z:St} {v:V} {s:S} {fp fq:List Addr}:aJ K F H v s fp->zu K F H U Z fq->zu K F H (some s::U) (some v::Z) (fp++fq)
def zu.len(r:zu K F H U Z fp):U.length=Z.length:=by
 induction r with
 |nil=>rfl
 |no _ z=>show congrArg (·+1) z
 |so _ _ z=>show congrArg (·+1) z
def zu.mono(h:zr F F')(r:zu K F H U Z fp)(k:∀a∈fp,H' a=H a):zu K F' H' U Z fp:=by
 induction r with
 |nil=>show .nil
 |no _ z=>show .no (z k)
 |so a _ z=>show .so (aJ.mono h a λc B=>k c (qj _ B)) (z λc B=>k c (qi _ B))
def zu.in_(r:zu K F H U Z fp):∀a∈fp,∃o,H a=some o/\cY o=true:=by
 induction r with
 |nil=>show λa G=>nomatch G
 |no _ B=>show B
 |so q _ B=>show λa G=>(qx.mp G).elim (λz=>aJ.in_ q a z) λz=>B a z
def zu.app(r:zu K F H U Z fp)(B:zu K F H U' Z' fq):zu K F H (U++U') (Z++Z') (fp++fq):=by
 induction r with
 |nil=>show B
 |no _ z=>show .no z
 |so a _ z=>rw[qp];show .so a z
inductive vF(K:W.Frag)(F H:Hp)(U:Env)(Z:St)(U':Env)(Z':St)(fp:List Addr):Prop
 |mk (f1 f2:List Addr):fp=f1++f2->zu K F H U Z f1->zu K F H U' Z' f2->vF K F H U Z U' Z' fp
def zu.cut(e:U.length=Z.length)(r:zu K F H (U++U') (Z++Z') fp):vF K F H U Z U' Z' fp:=by
 induction U generalizing Z fp with
 |nil=>cases Z with
  |nil=>show#[[],fp,rfl,.nil,r]
  |cons _ _=>show absurd e.symm (Nat.succ_ne_zero _)
 |cons x U B=>cases Z with
  |nil=>show absurd e (Nat.succ_ne_zero _)
  |cons y Z=>cases r with
   |no r=>let#[G,z,rfl,a,b]:=B (Nat.succ.inj e) r;show#[G,z,rfl,.no a,b]
   |so q r=>let#[G,z,rfl,a,b]:=B (Nat.succ.inj e) r;show#[_,z,(qp ..).symm,.so q a,b]
def bh(K:W.Frag)(F H:Hp)(U:Env)(Z:St)(i:Nat)(B z:List Addr):Prop:=∀{F' H':Hp}{o:Option S}{u:Option V}{fi':List Addr},zr F F'->(∀a∈B++z,H' a=H a)->(zu K F' H' [o] [u] fi')->zu K F' H' (U.set i o) (Z.set i u) (B++(fi'++z))
inductive bj(K:W.Frag)(F H:Hp)(U:Env)(Z:St)(fp:List Addr)(i:Nat)(s:S):Prop
 |mk (v:V) (fa fi fb:List Addr):Z[i]?=some (some v)->fp=fa++(fi++fb)->aJ K F H v s fi->bh K F H U Z i fa fb->bj K F H U Z fp i s
inductive vE(K:W.Frag)(F H:Hp)(U:Env)(Z:St)(fp:List Addr)(i:Nat):Prop
 |mk (fa fi fb:List Addr):fp=fa++(fi++fb)->bh K F H U Z i fa fb->vE K F H U Z fp i
def zu.at:∀{U:Env}{Z:St}{fp:List Addr}{i:Nat}{s:S},zu K F H U Z fp->slot U i=some s->bj K F H U Z fp i s
 |_,_,_,_,_,.nil,e=>by simp[slot]at e
 |_,_,_,0,_,.no r,e=>by simp at e
 |_,_,_,0,s,.so (fp:=fp) (fq:=fq) q r,e=>by simp at e;subst e;show#[_,[],fp,fq,rfl,rfl,q,λ{F' H' o u J} h k x=>?_];let r':=zu.mono (H':=H') h r λa B=>k a B;show x.app r'
 |_,_,_,i+1,s,.no r,e=>by let#[v,O,L,M,Y,rfl,q,G]:=zu.at r e;show#[v,O,L,M,Y,rfl,q,λh k x=>.no (G h k x)]
 |_,_,_,i+1,s,.so (fp:=fp) (fq:=fq) p r,e=>by let#[v,O,L,M,Y,rfl,q,G]:=zu.at r e;show#[v,fp++O,L,M,Y,(qp ..).symm,q,λ{F' H' o u J} h k x=>?_];rw[qp];show .so (aJ.mono h p λa B=>k a (qj _ (qj _ B))) (G h (λa B=>k a ((qx.mp B).elim (λz=>qj _ (qi _ z)) λz=>qi _ z)) x)
def zu.put:∀{U:Env}{Z:St}{fp:List Addr}{i:Nat},zu K F H U Z fp->i<U.length->vE K F H U Z fp i
 |_,_,_,_,.nil,e=>by simp at e
 |_,_,fp,0,.no r,e=>#[[],[],fp,rfl,λ{Y H' o u G} h k x=>x.app (zu.mono (H':=H') h r λa B=>k a B)]
 |_,_,_,0,.so (fp:=fp) (fq:=fq) q r,e=>#[[],fp,fq,rfl,λ{Y H' o u G} h k x=>x.app (zu.mono (H':=H') h r λa B=>k a B)]
 |_,_,_,i+1,.no r,e=>by let#[O,L,M,rfl,J]:=zu.put (i:=i) r ↑e;show#[O,L,M,rfl,λh k x=>.no (J h k x)]
 |_,_,_,i+1,.so (fp:=fp) (fq:=fq) p r,e=>by let#[O,L,M,rfl,J]:=zu.put (i:=i) r ↑e;show#[fp++O,L,M,(qp ..).symm,λ{Y H' o u G} h k x=>?_];rw[qp];show .so (aJ.mono h p λa B=>k a (qj _ (qj _ B))) (J h (λa B=>k a ((qx.mp B).elim (λz=>qj _ (qi _ z)) λz=>qi _ z)) x)
inductive lI(K:W.Frag)(U:Env)(Z:St)(F G H:Hp):Prop
 |mk (fp:List Addr):zu K F H U Z fp->fp.Nodup->(∀a∈fp,F a=none/\G a=none)->lI K U Z F G H
structure Rel(K:W.Frag)(U:Env)(Z:St)(F G H:Hp):Prop where
 fr:zr F H
 gr:∀a o,G a=some o->(H a=some o/\cY o=true)/\F a=none
 en:lI K U Z F G H
def Rel.len(r:Rel K U Z F G H):U.length=Z.length:=let⟨_,e,_,_⟩:=r.en;e.len
def Rel.free(r:Rel K U Z F G H)(h:H p=none):F p=none/\G p=none/\∀fp,zu K F H U Z fp->p∉fp:=by
 show#[?_,?_,λfp e z=>?_]
 .cases q:F p with
  |none=>rfl
  |some o=>rw[r.fr p o q]at h;cases h
 .cases q:G p with
  |none=>rfl
  |some o=>rw[(r.gr p o q).1.1]at h;cases h
 .obtain⟨o,q,_⟩:=e.in_ p z;rw[h]at q;cases q
def zr.upd(h:F p=none):zr F (upd F p o):=λb u e=>by rw[Ah (λz=>by rw[z,h]at e;cases e)];show e
def zr.upd2(h:zr F H):zr (L2.upd F p o) (L2.upd H p o):=λb u e=>by
 by_cases q:b=p
 .subst q;rw[AQ]at e⊢;show e
 .rw[Ah q]at e⊢;show h b u e
def zr.updR(h:zr F H)(n:F p=none):zr F (L2.upd H p o):=λb u e=>by rw[Ah (λz=>by rw[z,n]at e;cases e)];show h b u e
def Rel.newF(r:Rel K U Z F G H)(h:H p=none):Rel K U Z (upd F p o) G (upd H p o):=by
 let#[f0,Y,O]:=r.free h;let#[fp,e,M,ap]:=r.en;let J:∀a∈fp,a≠p:=λa B z=>O fp e (z▸B);show#[zr.upd2 r.fr,λa u q=>?_,fp,e.mono (zr.upd f0) λa B=>Ah (J a B),M,λa B=>?_]
 .let L:a≠p:=λz=>by rw[z,Y]at q;cases q
  rw[Ah L,Ah L];show r.gr a u q
 .rw[Ah (J a B)];show ap a B
def Rel.newO(r:Rel K U Z F G H)(h:H p=none)(q:aJ K F (upd H p o) (.ref p) s [p]):Rel K (U++[some s]) (Z++[some (.ref p)]) F G (upd H p o):=by
 let#[Y,O,L]:=r.free h;let#[fp,e,nd,ap]:=r.en;let J:∀a∈fp,a≠p:=λa B z=>L fp e (z▸B);show#[zr.updR r.fr Y,λa u q=>?_,fp++([p]++[]),(e.mono (zr.refl F) λa B=>Ah (J a B)).app (.so q .nil),?_,λa B=>?_]
 .let M:a≠p:=λz=>by rw[z,O]at q;cases q
  rw[Ah M];show r.gr a u q
 .grind
 grind
def Rel.drop(r:Rel K (U++U') (Z++Z') F G H)(h:U.length=Z.length):Rel K U Z F G H:=by let#[M,e,z,L]:=r.en;let#[J,O,rfl,a,b]:=e.cut h;show#[r.fr,r.gr,J,a,(qw.mp z).1,λc B=>L c (qj _ B)]
def Rel.hide(r:Rel K (U++U') (Z++Z') F G H)(h:U.length=Z.length):∃Y,Rel K U Z F Y H/\zr G Y/\
  ∀{U2:Env}{Z2:St}{M H2:Hp},zr F M->Rel K U2 Z2 M Y H2->Rel K (U2++U') (Z2++Z') M G H2:=by
 classical
 let#[fp,e,nd,ap]:=r.en;let#[f1,L,rfl,a,b]:=e.cut h;let#[n1,n2,h2]:=qw.mp nd;show#[λx=>if x∈L then H x else G x,#[r.fr,λx o q=>?_,f1,a,n1,λx B=>?_],λx o q=>?_,λ{U2 Z2 M H2} sm O=>?_]
 .by_cases z:x∈L
  .let:=b.in_ x z;grind
  .simp only[z]at q;show r.gr x o q
 .grind
 .grind
 .obtain⟨J,e2,h1,h3⟩:=O.en;let hk:∀x∈L,H2 x=H x/\M x=none/\x∉J:=λx B=>by let#[o,q,_]:=b.in_ x B;let w:=O.gr x o (by simp only[B];show q);grind
  show#[O.fr,λx o q=>?_,J++L,e2.app (b.mono sm λx B=>(hk x B).1),?_,λx B=>?_]
  .let z:x∉L:=λz=>by grind
   show O.gr x o (by simp only[z];show q)
  .grind
  grind
def Rel.weakG(r:Rel K U Z F G' H)(h:zr G G'):Rel K U Z F G H:=by
 let#[L,e,J,B]:=r.en;show#[r.fr,λa o q=>r.gr a o (h a o q),L,e,J,λa z=>#[(B a z).1,?_]];cases q:G a with
 |none=>rfl
 |some o=>have:=(B a z).2;rw[h a o q]at this;cases this
def Rel.swap(h:U.length=Z.length)(h1:U1.length=Z1.length)(r:Rel K (U++(U1++U2)) (Z++(Z1++Z2)) F G H):Rel K (U++(U2++U1)) (Z++(Z2++Z1)) F G H:=by let#[fp,e,L,ap]:=r.en;let#[J,O,rfl,a,b]:=e.cut h;let#[B,z,rfl,Y,c]:=b.cut h1;let p:(J++(z++B)).Perm (J++(B++z)):=List.Perm.append_left _ qM;show#[r.fr,r.gr,_,a.app (c.app Y),p.nodup_iff.mpr L,λx M=>ap x (p.mem_iff.mp M)]
def Rel.push(r:Rel K U Z F G H)(h:aI K F v d):Rel K (U++[some (.sh d)]) (Z++[some v]) F G H:=by
 let#[J,e,z,L]:=r.en;show#[r.fr,r.gr,J++([]++[]),e.app (.so (.sh h) .nil),?_,λx B=>L x ?_]
 .simpa using z
 .simpa using B
def Rel.pushN(r:Rel K U Z F G H):Rel K (U++[none]) (Z++[u]) F G H:=by
 let#[J,e,z,L]:=r.en;show#[r.fr,r.gr,J++[],e.app (.no .nil),?_,λx B=>L x ?_]
 .simpa using z
 .simpa using B
def KY(h:slot U i=some s):U[i]?=some (some s):=by
 induction U generalizing i with
 |nil=>simp[slot]at h
 |cons a r z=>cases i with
  |zero=>simp at h;simp[h]
  |succ i=>simp at h;simpa using z h
def Eg(h:slot U i=some s):i<U.length:=(qg.mp (KY h)).1
def Ez(h:i<U.length):slot (U++U') i=slot U i:=by
 induction U generalizing i with
 |nil=>simp at h
 |cons a r z=>cases i with
  |zero=>rfl
  |succ i=>simpa using z ↑h
def Eh:slot (U++o::U') U.length=o:=by
 induction U with
 |nil=>rfl
 |cons a r z=>simpa using z
inductive bc(K:W.Frag)(F H:Hp)(Z:St)(i:Nat)(s:S):Prop
 |mk (v:V) (fp:List Addr):Z[i]?=some (some v)->aJ K F H v s fp->bc K F H Z i s
def Rel.at(r:Rel K U Z F G H)(h:slot U i=some s):bc K F H Z i s:=by let#[L,e,J,Y]:=r.en;let#[v,O,z,M,B,_,q,_]:=e.at h;show#[v,z,B,q]
def Rel.give(r:Rel K U Z F G H)(h:slot U i=some s):∃v F',Z[i]?=some (some v)/\zr F F'/\aI K F' v s.toD/\Rel K (U.set i (some (.sh s.toD))) Z F' G H:=by
 classical
 let#[fp,e,nd,ap]:=r.en;let#[v,fa,B,fb,e1,rfl,q,O]:=e.at h;let#[na,Y,h1]:=qw.mp nd;let J:zr F (λx=>if x∈B then H x else F x):=λx o w=>by grind
 let L:aI K (λx=>if x∈B then H x else F x) v s.toD:=q.frz J λx M=>by simp[M,if_true]
 let e2:Z.set i (some v)=Z:=by apply ext_getElem?;grind
 show#[v,_,e1,J,L,λx o w=>?_,λx o w=>?_,fa++([]++fb),?_,?_,λx M=>?_]
 .by_cases z:x∈B
  .simp only[z]at w;show w
  .simp only[z]at w;show r.fr x o w
 .let w2:=r.gr x o w;grind
 .let:=O (F':=λx=>if x∈B then H x else F x) (H':=H) (o:=some (.sh s.toD)) (u:=some v) (fi':=[]) J (λ_ _=>rfl) (.so (.sh L) .nil);rw[e2]at this;show this
 .grind
 grind
def Rel.store(r:Rel K (U++[o]) (Z++[u]) F G H)(h:U.length=Z.length)(hi:i<U.length):Rel K (U.set i o) (Z.set i u) F G H:=by
 let#[fp,e,J,ap]:=r.en;let#[f1,f2,rfl,a,b]:=e.cut h;let#[fa,fi,Y,rfl,z]:=a.put hi;let#[O,n2,M]:=qw.mp J;let#[na,B,L]:=qw.mp O;show#[r.fr,r.gr,fa++(f2++Y),z (zr.refl F) (λ_ _=>rfl) b,?_,λx hx=>?_]
 .grind
 grind
end FL
namespace FL
open PySem PySem.Spec PyProof.Rows L2
abbrev St:=L2.St
abbrev wp(X:Cx)(pn:List (Addr×Obj))(xe:zj):Cx:={X with pn:=pn,xe:=xe}
def zt:R->Option S
 |.v s=>some s
 |.loc _=>none
@[inline]def RV(Z:St)(v:V):R->Prop
 |.v _=>True
 |.loc i=>Z[i]?=some (some v)
def lS(Z:St):List V->List R->Prop
 |[],[]=>True
 |v::vs,r::rs=>RV Z v r/\lS Z vs rs
 |_,_=>False
def uK(K:W.Frag)(F:Hp)(d:D)(C:Addr)(dx:Option Addr):Prop:=∃c fs vs,d=.exc c fs vs/\W.nsIn K mainGlobals (#[c.toArray]:Str)=some (some (.ref C))/\jR F dx fs vs
def zR(X:Cx)(F H:Hp)(h:Heap)(u:Value)(d:D):Prop:=∃e C dx,u=.ref e/\uK X.K F d C dx/\fZ X [] H h e (.ref C) dx
@[inline]def KP(ks:List Nat)(Z Z':St):Prop:=∀i∈ks,Z'[i]?=Z[i]?
@[inline]def XC(X:Cx)(T:St->Prop)(F G:Hp)(PX:WX):Prop:=∀(d:D)(U':Env)(Z':St)(F' H':Hp)(u:Value)(s':Shared),PX d U'->T Z'->zr F F'->Rel X.K U' Z' F' G H'->Inv X [] Z' H' s'->zR X F' H' s'.heap u d->X.xe u s'
def XC.mono(h:XC X T F G PX)(t:∀Z,T' Z->T Z)(f:zr F F')(g:zr G G'):XC X T' F' G' PX:=
 λd B z L H2 u s' p q J r I x=>h d B z L H2 u s' p (t _ q) (f.trans J) (r.weakG g) I x
def XC.grow(h:XC X T F G PX)(f:zr F F'):XC X T F' G PX:=h.mono (λ_ z=>z) f (zr.refl G)
inductive tW(X:Cx)(w:WE)(Z:St)(H:Hp)(Q:VK):Prop
 |mk (F G:Hp) (U:Env) (P:WQ) (PX:WX) (zH:Rel X.K U Z F G H) (hw:w U P PX) (hok:∀r U' v F' H',P r U'->zr F F'->Rel X.K (U'++[zt r]) (Z++[some v]) F' G H'->RV Z v r->Q v H') (hx:XC X (·=Z) F G PX):tW X w Z H Q
@[inline]def FE(X:Cx)(e:Expr)(w:WE):Prop:=∀(pn:List (Addr×Obj))(xe:zj),PassesOwn (model X.prog X.w) X.A X.env xe->PE (wp X pn xe) e (tW (wp X pn xe) w)
inductive kJ(X:Cx)(w:WT)(Z:St)(H:Hp)(Q:Bool->Hp->Prop):Prop
 |mk (F G:Hp) (U:Env) (P:Bool->Env->Prop) (PX:WX) (zH:Rel X.K U Z F G H) (hw:w U P PX) (hok:∀b U' F' H',P b U'->zr F F'->Rel X.K U' Z F' G H'->Q b H') (hx:XC X (·=Z) F G PX):kJ X w Z H Q
@[inline]def FT(X:Cx)(e:Expr)(w:WT):Prop:=∀(pn:List (Addr×Obj))(xe:zj),PassesOwn (model X.prog X.w) X.A X.env xe->PT (wp X pn xe) e (kJ (wp X pn xe) w)
@[inline]def FW(X:Cx)(e:Expr)(w:WT):Prop:=∀(pn:List (Addr×Obj))(xe:zj),PassesOwn (model X.prog X.w) X.A X.env xe->PW (wp X pn xe) e (kJ (wp X pn xe) w)
inductive lZ(X:Cx)(w:WA)(Z:St)(H:Hp)(Q:List V->Hp->Prop):Prop
 |mk (F G:Hp) (U:Env) (P:List R->Env->Prop) (PX:WX) (zH:Rel X.K U Z F G H) (hw:w U P PX) (hok:∀rs U' vs F' H',P rs U'->zr F F'->Rel X.K (U'++rs.map zt) (Z++vs.map some) F' G H'->U'.length=Z.length->lS Z vs rs->Q vs H') (hx:XC X (·=Z) F G PX):lZ X w Z H Q
@[inline]def FA(X:Cx)(es:List Expr)(w:WA):Prop:=∀(pn:List (Addr×Obj))(xe:zj),PassesOwn (model X.prog X.w) X.A X.env xe->PA (wp X pn xe) es (lZ (wp X pn xe) w)
def PE.imp(h:PE X e t)(k:∀Z H Q,t' Z H Q->t Z H Q):PE X e t':=λzF s Z H Q I q=>h zF s Z H Q I (k Z H Q q)
def PT.imp(h:PT X e t)(k:∀Z H Q,t' Z H Q->t Z H Q):PT X e t':=λzF s Z H Q I q=>h zF s Z H Q I (k Z H Q q)
def PW.imp(h:PW X e t)(k:∀Z H Q,t' Z H Q->t Z H Q):PW X e t':=λz zF s Z H Q I q=>h z zF s Z H Q I (k Z H Q q)
def PA.imp(h:PA X e t)(k:∀Z H Q,t' Z H Q->t Z H Q):PA X e t':=λp zF s Z H Q I q=>h p zF s Z H Q I (k Z H Q q)
section
variable{K:W.Frag}
def Rel.mid(r:Rel K (U++o::U') (Z++w::Z') F G H)(h:U.length=Z.length):Rel K (U++U') (Z++Z') F G H:=by let#[fp,e,B,ap]:=r.en;let#[f1,f2,rfl,a,b]:=e.cut h;let#[f2,f3,rfl,b,c]:=zu.cut (U:=[o]) (Z:=[w]) rfl b;let#[O,M,L]:=qw.mp B;let#[n4,J,n6]:=qw.mp M;show#[r.fr,r.gr,f1++f3,a.app c,qw.mpr #[O,J,λx z y Y=>L x z y (qi _ Y)],λx z=>ap x ?_];grind
def Ag(r:Rel K (U++[o]) (Z++[w]) F G H):U.length=Z.length:=by let:=r.len;simpa using this
def Ku:(U++o::U').set U.length o'=U++o'::U':=by
 induction U with
 |nil=>rfl
 |cons a r z=>simpa using z
inductive Nd{α:Type}(o:Option α)(k:α->Prop):Prop
 |mk (a:α):o=some a->k a->Nd o k
def Ai(h:zp o k):Nd o k:=by
 cases o with
 |none=>show h.elim
 |some a=>show#[a,rfl,h]
def aS(K:W.Frag)(F H:Hp)(v:V)(d:D):Prop:=aI K F v d\/
 (∃a xs ds,v=.ref a/\d=.lst ds/\H a=some (.lst xs)/\zD K F xs ds)\/
 (∃a z ks vs,v=.ref a/\d=.dct false ks vs/\H a=some (.dK z)/\ks=z.map (λp=>aQ p.1)/\zD K F (z.map (·.2)) vs)\/
 (∃a z ks vs,v=.ref a/\d=.dct true ks vs/\H a=some (.dT z)/\ks=z.map (λp=>D.tup (p.1.map aQ))/\zD K F (z.map (·.2)) vs)
def aS.mono(h:zr F F')(r:aS K F H v d):aS K F' H v d:=by
 rcases r with r|⟨a,xs,M,J,G,B,r⟩|⟨a,z,ks,vs,J,G,B,L,r⟩|⟨a,z,ks,vs,J,G,B,L,r⟩
 .show .inl (r.mono h)
 .show .inr (.inl #[a,xs,M,J,G,B,r.mono h])
 .show .inr (.inr (.inl #[a,z,ks,vs,J,G,B,L,r.mono h]))
 .show .inr (.inr (.inr #[a,z,ks,vs,J,G,B,L,r.mono h]))
def zv.sh(r:zv K F H xs l fp):l.all S.isSh=true->zD K F xs (l.map S.toD)/\fp=[]:=
 zv.ind (P:=λxs l fp=>l.all S.isSh=true->zD K F xs (l.map S.toD)/\fp=[]) (λ_=>#[.nil,rfl]) (λa _ z h=>by
  rw[all_cons,and_eq_true]at h;let#[q,e]:=z h.2;cases a with
  |sh r=>show#[.cons r q,e]
  |_=>show absurd h.1 (by simp[S.isSh])) r
def Ap(r:Rel K (U++(zt x::U')) (Z++(some v::Z')) F G H)(h:U.length=Z.length)(O:RV Z v x)(e:view x U=some d):aI K H v d:=by
 cases x with
 |v s=>
  let#[u,Y,z,q]:=r.at (i:=U.length) (s:=s) Eh;rw[h,getElem?_append_right (q8 _)]at z;let M:v=u:=↑z
  subst M;let L:s.toD=d:=qf e;rw[<-L];show q.view r.fr
 |loc i=>
  let B:(slot U i).map S.toD=some d:=e;cases q:slot U i with
  |none=>rw[q]at B;cases B
  |some s=>
   rw[q]at B;let L:s.toD=d:=qf B;let hi:=Eg q;let#[u,Y,z,w]:=r.at (i:=i) (s:=s) (by rw[Ez hi];show q);rw[getElem?_append_left (h▸hi)]at z;let J:Z[i]?=some (some v):=O;rw[J]at z;let M:v=u:=↑z
   subst M;rw[<-L];show w.view r.fr
inductive bb(K:W.Frag)(U:Env)(Z:St)(F G H:Hp)(v:V)(d:D):Prop
 |mk (F':Hp):zr F F'->aS K F' H v d->Rel K U Z F' G H->bb K U Z F G H v d
def AU(r:Rel K (U++(zt x::U')) (Z++(some v::Z')) F G H)(h:U.length=Z.length)(rv:RV Z v x)(e:zB x U=some d):
  bb K (U++U') (Z++Z') F G H v d:=by
 cases x with
 |v s=>
  let#[u,F',z,sm,rp,r']:=r.give (i:=U.length) (s:=s) Eh;rw[h,getElem?_append_right (q8 _)]at z;let e2:v=u:=↑z
  subst e2;let e3:s.toD=d:=qf e;rw[show(U++zt (.v s)::U').set U.length (some (S.sh s.toD))=U++some (S.sh s.toD)::U' from Ku]at r';show#[F',sm,.inl (e3▸rp),r'.mid h]
 |loc i=>
  let e':(match slot U i with|some s=>if s.flat then some s.toD else none|none=>none)=some d:=e;cases q:slot U i with
  |none=>rw[q]at e';cases e'
  |some s=>
   let hi:=Eg q;let#[u,fp,z,w]:=r.at (i:=i) (s:=s) (by rw[Ez hi];show q);rw[getElem?_append_left (h▸hi)]at z;let O:Z[i]?=some (some v):=rv;rw[O]at z;let e2:v=u:=↑z
   subst e2;show#[F,zr.refl F,?_,r.mid h];by_cases M:s.flat=true
   .let e3:s.toD=d:=by grind
    subst e3;cases w with
    |sh r=>show .inl r
    |lst L J=>let#[B,_]:=J.sh M;show .inr (.inl #[_,_,_,rfl,by simp,L,B])
    |dK L Y J=>let#[B,_]:=J.sh M;show .inr (.inr (.inl #[_,_,_,_,rfl,by simp,L,Y,B]))
    |dT L Y J=>let#[B,_]:=J.sh M;show .inr (.inr (.inr #[_,_,_,_,rfl,by simp,L,Y,B]))
    |st _ _=>show absurd M (by simp[S.flat])
   grind
inductive bg(K:W.Frag)(L:Prop)(U:Env)(Z:St)(F G H:Hp):Prop
 |mk (F':Hp):zr F F'->L->Rel K U Z F' G H->bg K L U Z F G H
def AC(r:Rel K (U++(zt x::U')) (Z++(some v::Z')) F G H)(h:U.length=Z.length)(rv:RV Z v x)(e:give x U=some (s,U1)):
  bg K (U1.length=U.length) (U1++(some s::U')) (Z++(some v::Z')) F G H:=by
 cases x with
 |v t=>have z:some (t,U)=some (s,U1):=e;cases z;show#[F,zr.refl F,rfl,r]
 |loc i=>
  let z:(match slot U i with|some s=>some (S.sh s.toD,U.set i (some (.sh s.toD)))|none=>none)=some (s,U1):=e;cases q:slot U i with
  |none=>rw[q]at z;cases z
  |some t=>
   rw[q]at z;cases z;let hi:=Eg q;let#[u,O,L,Y,rp,B]:=r.give (i:=i) (s:=t) (by rw[Ez hi];show q);rw[getElem?_append_left (h▸hi)]at L;let J:Z[i]?=some (some v):=rv;rw[J]at L;let e2:v=u:=↑L
   subst e2;rw[List.set_append_left _ _ hi]at B;show#[O,Y,by simp,?_];let#[fp,en,nd,ap]:=B.en;let hl:(U.set i (some (S.sh t.toD))).length=Z.length:=↑h
   let#[f1,M,rfl,a,b]:=en.cut hl;let b':zu K O H (none::U') (some v::Z') M:=b;cases b' with
   |no b=>show#[B.fr,B.gr,f1++([]++M),a.app (.so (.sh rp) b),↑nd,λx hx=>ap x hx]
end
def tW.mono(h:tW X w Z H Q)(k:∀v H',Q v H'->Q' v H'):tW X w Z H Q':=by let#[F,G,U,P,PX,B,M,J,L]:=h;show#[F,G,U,P,PX,B,M,λr z v O H' a b c d=>k _ _ (J r z v O H' a b c d),L]
inductive zT(X:Cx)(Z:St)(k:R->R->Env->WQ->WX->Prop)(Q:VK)(v u:V)(H:Hp):Prop
 |mk (F G:Hp) (U:Env) (x y:R) (P:WQ) (PX:WX) (zH:Rel X.K (U++[zt x,zt y]) (Z++[some v,some u]) F G H) (hl:U.length=Z.length) (rx:RV Z v x) (ry:RV Z u y) (hk:k x y U P PX) (hok:∀r U' v F' H',P r U'->zr F F'->Rel X.K (U'++[zt r]) (Z++[some v]) F' G H'->RV Z v r->Q v H') (hx:XC X (·=Z) F G PX):zT X Z k Q v u H
def Em(h:tW X (λU Q E=>wa U (λx U1=>wb U1 (λy U2=>k x y U2 Q E) E) E) Z H Q):
  tW X wa Z H λv H1=>tW X wb Z H1 λu H2=>zT X Z k Q v u H2:=by
 let#[F,G,U,P,PX,h3,hw,h6,hx]:=h;show#[F,G,U,_,PX,h3,hw,λx U1 v F1 H1 h5 M r1 Y=>?_,hx];let h1:=Ag r1;let#[G1,B,gg,back]:=r1.hide h1;show#[F1,G1,U1,_,PX,B,h5,λy U2 u F2 H2 h4 L r2 O=>?_,hx.mono (λ_ z=>z) M gg];let h2:=Ag r2;let r3:=back L r2;rw[qp,qp]at r3;show#[F2,G,U2,x,y,P,PX,Rel.swap (U1:=[zt y]) (Z1:=[some u]) (U2:=[zt x]) (Z2:=[some v]) h2 rfl r3,h2,Y,O,h4,λr J v F' H' a b c d=>h6 r J v F' H' a (M.trans (L.trans b)) c d,hx.grow (M.trans L)]
inductive One(X:Cx)(Z:St)(k:R->Env->WQ->WX->Prop)(Q:VK)(v:V)(H:Hp):Prop
 |mk (F G:Hp) (U:Env) (x:R) (P:WQ) (PX:WX) (zH:Rel X.K (U++[zt x]) (Z++[some v]) F G H) (hl:U.length=Z.length) (rx:RV Z v x) (hk:k x U P PX) (hok:∀r U' v F' H',P r U'->zr F F'->Rel X.K (U'++[zt r]) (Z++[some v]) F' G H'->RV Z v r->Q v H') (hx:XC X (·=Z) F G PX):One X Z k Q v H
theorem one(h:tW X (λU Q E=>wa U (λx U1=>k x U1 Q E) E) Z H Q):tW X wa Z H λv H1=>One X Z k Q v H1:=by let#[F,G,U,P,PX,J,hw,M,hx]:=h;show#[F,G,U,_,PX,J,hw,λx U1 v F1 H1 L O Y B=>#[F1,G,U1,x,P,PX,Y,Ag Y,B,L,λr z v F' H' a b c d=>M r z v F' H' a (O.trans b) c d,hx.grow O],hx]
def Mv(hN:X.N[i]?=some x)(Y:rV X.env.scope x)(hd:(x==("__debug__":Str))=false:=by decide)(M:(x==("__classdict__":Str))=false:=by decide):FE X (.Name x pos) (zk i):=by
 intro pn xe hp;show PE.imp (Gh (X:=wp X pn xe) hN Y hd M) λZ H Q h=>?_;let#[F,G,U,P,PX,z,J,B,hx]:=h;unfold zk at J;cases q:slot U i with
 |none=>rw[q]at J;show J.elim
 |some s=>
  let#[v,fp,L,O]:=z.at q;rw[q]at J;cases s with
  |sh d=>
   cases O with
   |sh r=>show#[v,L,B _ _ v F H J (zr.refl F) (z.push r) trivial]
  |lst l=>show#[v,L,B _ _ v F H J (zr.refl F) z.pushN L]
  |dct t a b=>show#[v,L,B _ _ v F H J (zr.refl F) z.pushN L]
  |set l=>show#[v,L,B _ _ v F H J (zr.refl F) z.pushN L]
def Do(h:∀X:Cx,PE X e (tC v))(r:∀K F,aI K F v d):FE X e (wC d):=by intro pn xe M;show PE.imp (h _) λZ H Q h=>?_;let#[F,G,U,P,PX,z,J,B,L]:=h;show B _ _ v F H J (zr.refl F) (z.push (r _ _)) trivial
def Ac:FE X (.Constant (.int i) j pos) (wC (.int i)):=Do (λ_=>Mo) λ_ _=>.int i
def Eo:FE X (.Constant (.bool b) j pos) (wC (.bl b)):=Do (λ_=>Lw) λ_ _=>.bl b
def Gj:FE X (.Constant .none j pos) (wC .non):=Do (λ_=>LQ) λ_ _=>.non
def Be(e:x.cps.toList=l)(z:l.length<=16777216):FE X (.Constant (.str x) j pos) (wC (.str l)):=Do (λ_=>MG) λ_ _=>.str e z
def OpR.or(h:OpR X f r)(h':OpR X f G):OpR X f (λx y H Q=>r x y H Q\/G x y H Q):=λzF s Z H x y v u Q I F B q=>q.elim (λz=>h zF s Z H x y v u Q I F B z) λz=>h' zF s Z H x y v u Q I F B z
def gA(K:W.Frag)(r:R2)(op:D->D->Option S):Prop:=∀(Z:St)(U:Env)(F G H:Hp)(x y:V)(p q:D)(s:S)(Q:VK),Rel K U Z F G H->aS K F H x p->aS K F H y q->op p q=some s->
 (∀v F' H',zr F F'->Rel K (U++[some s]) (Z++[some v]) F' G H'->Q v H')->r x y H Q
def DY(ho:∀pn xe,OpR (wp X pn xe) (binaryOp op) r)(hd:gA X.K r o)(ha:FE X a wa)(hb:FE X b wb):FE X (.BinOp a op b pos) (zx o wa wb):=by intro pn xe hp;show PE.imp (LN (ho pn xe) (ha pn xe hp) (hb pn xe hp)) λZ H Q h=>?_;show(Em (k:=λx y B Q E=>zp (zB x B) λp=>zp (zB y B) λq=>zp (o p q) λs=>Q (.v s) B) h).mono λv H1 h1=>h1.mono λu H2 h2=>?_;let#[F,G,U,x,y,P,PX,M,hl,rx,ry,J,h3,hx]:=h2;let#[p,ep,J]:=Ai J;let#[q,eq,J]:=Ai J;let#[t,et,J]:=Ai J;let#[F1,s1,Y,L]:=AU M hl rx ep;let#[F2,s2,O,z]:=AU (U':=[]) (Z':=[]) L hl ry eq;rw[qz,qz]at z;show hd Z U F2 G H2 v u p q t Q z (Y.mono s2) O et λv' F' H' sm r'=>h3 (.v t) U v' F' H' J (s1.trans (s2.trans sm)) r' trivial
def lZ.mono(h:lZ X w Z H Q)(k:∀v H',Q v H'->Q' v H'):lZ X w Z H Q':=by let#[F,G,U,P,PX,B,M,J,L]:=h;show#[F,G,U,P,PX,B,M,λr z v O H' a b c d e=>k _ _ (J r z v O H' a b c d e),L]
inductive uO(X:Cx)(Z:St)(k:R->R->Env->(Bool->Env->Prop)->WX->Prop)(Q:Bool->Hp->Prop)(v u:V)(H:Hp):Prop
 |mk (F G:Hp) (U:Env) (x y:R) (P:Bool->Env->Prop) (PX:WX) (zH:Rel X.K (U++[zt x,zt y]) (Z++[some v,some u]) F G H) (hl:U.length=Z.length) (rx:RV Z v x) (ry:RV Z u y) (hk:k x y U P PX) (hok:∀r U' F' H',P r U'->zr F F'->Rel X.K U' Z F' G H'->Q r H') (hx:XC X (·=Z) F G PX):uO X Z k Q v u H
def Ho(h:kJ X (λU Q E=>wa U (λx U1=>wb U1 (λy U2=>k x y U2 Q E) E) E) Z H Q):
  tW X wa Z H λv H1=>tW X wb Z H1 λu H2=>uO X Z k Q v u H2:=by
 let#[F,G,U,P,PX,h3,hw,h6,hx]:=h;show#[F,G,U,_,PX,h3,hw,λx U1 v F1 H1 h5 M r1 Y=>?_,hx];let h1:=Ag r1;let#[G1,B,gg,back]:=r1.hide h1;show#[F1,G1,U1,_,PX,B,h5,λy U2 u F2 H2 h4 L r2 O=>?_,hx.mono (λ_ z=>z) M gg];let h2:=Ag r2;let r3:=back L r2;rw[qp,qp]at r3;show#[F2,G,U2,x,y,P,PX,Rel.swap (U1:=[zt y]) (Z1:=[some u]) (U2:=[zt x]) (Z2:=[some v]) h2 rfl r3,h2,Y,O,h4,λr J F' H' a b c=>h6 r J F' H' a (M.trans (L.trans b)) c,hx.grow (M.trans L)]
def bD(K:W.Frag)(r:R2)(op:D->D->Option Bool):Prop:=∀(H:Hp)(x y:V)(p q:D)(k:Bool)(Q:VK),aI K H x p->aI K H y q->op p q=some k->Q (.bl k) H->r x y H Q
def Cf{K:W.Frag}(B:Rel K (U++[zt x,zt y]) (Z++[some v,some u]) F G H)(J:U.length=Z.length)(M:RV Z v x)(L:RV Z u y)(ep:view x U=some p)(O:view y U=some q):
  aI K H v p/\aI K H u q/\Rel K U Z F G H:=by
 let z:Rel K (U++[zt y]) (Z++[some u]) F G H:=B.mid J;show#[Ap B J M ep,Ap (U':=[]) (Z':=[]) z J L O,z.drop J]
def Bw(ho:∀pn xe,OpR (wp X pn xe) (compareOp op) r)(hd:bD X.K r o)(ha:FE X a wa)(hb:FE X b Y)(hm:behindInMarks op b=false):FT X (.Compare a [op] [b] pos) (bF o wa Y):=by intro pn xe O;show PT.imp (Jg (ho pn xe) (ha pn xe O) (hb pn xe O) hm) λZ H Q h=>?_;show(Ho (k:=λx y z Q E=>zp (view x z) λp=>zp (view y z) λq=>zp (o p q) λc=>Q c z) h).mono λv H1 h1=>h1.mono λu H2 h2=>?_;let#[F,G,U,x,y,P,PX,L,hl,rx,ry,B,M,hx]:=h2;let#[p,ep,B]:=Ai B;let#[q,eq,B]:=Ai B;let#[t,et,B]:=Ai B;let#[r1,r2,J]:=Cf L hl rx ry ep eq;show hd H2 v u p q t _ r1 r2 et #[t,rfl,M t U F H2 B (zr.refl F) J]
def DZ(ho:∀pn xe,OpR (wp X pn xe) (compareOp op) r)(hd:bD X.K r o)(ha:FE X a wa)(hb:FE X b Y)(hm:behindInMarks op b=false):FE X (.Compare a [op] [b] pos) (dD (bF o wa Y)):=by intro pn xe O;show PE.imp (My (ho pn xe) (ha pn xe O) (hb pn xe O) hm) λZ H Q h=>?_;show(Em (k:=λx y z Q E=>zp (view x z) λp=>zp (view y z) λq=>zp (o p q) λc=>Q (.v (.sh (.bl c))) z) h).mono λv H1 h1=>h1.mono λu H2 h2=>?_;let#[F,G,U,x,y,P,PX,L,hl,rx,ry,B,M,hx]:=h2;let#[p,ep,B]:=Ai B;let#[q,eq,B]:=Ai B;let#[t,et,B]:=Ai B;let#[r1,r2,J]:=Cf L hl rx ry ep eq;show hd H2 v u p q t _ r1 r2 et (M _ U (.bl t) F H2 B (zr.refl F) (J.push (.bl t)) trivial)
def Nn{K:W.Frag}(r:aI K H v d)(e:gF d=some k):rX K v H k:=by
 cases r with
 |non=>show(qf e).symm
 |bl b=>show(qf e).symm
 |int i=>have B:=(qf e).symm;rw[B];show decide (i≠0)=(i !=0);by_cases h:i=0<;>simp[h]
 |str G z=>
  rename_i x l;let B:=(qf e).symm;let F:x.length=l.length:=by rw[<-G];rfl
  show#[by rw[F];show z,?_];rw[B,F];cases l with
  |nil=>rfl
  |cons a r=>simp;lia
 |tup h r=>show .inr (.inl #[_,aV.of h,?_]);let B:=(qf e).symm;rw[B];cases r<;>rfl
 |lst h r=>show .inl #[_,h,?_];let B:=(qf e).symm;rw[B];cases r<;>rfl
 |dK h k r=>cases e
 |dT h k r=>cases e
 |st h r=>cases e
 |exc h k=>cases e
def Eb(ha:FE X a wa)(he:∀whole,isTrue a X.env whole=(do let v<-whole;standAt a.pos;holding [v] (truthy v)):=by intro _;rfl):FT X a (dP wa):=by intro pn xe hp;show PT.imp (Ob (ha pn xe hp) he) λZ H Q h=>?_;let#[F,G,U,P,PX,zH,hw,hok,hx]:=h;show#[F,G,U,_,PX,zH,hw,λx U1 v F1 H1 hk s1 r1 rv1=>?_,hx];let#[p,ep,hk]:=Ai hk;let#[t,et,hk]:=Ai hk;let hl:=Ag r1;show#[t,Nn (Ap (U':=[]) (Z':=[]) r1 hl rv1 ep) et,hok t U1 F1 H1 hk s1 (r1.drop hl)]
def CF{k:Bool->Env->(Bool->Env->Prop)->WX->Prop}(h:kJ X (λU Q E=>ta U (λc U1=>k c U1 Q E) E) Z H Q)
  (hk:∀(c:Bool)(F G:Hp)(U:Env)(P:Bool->Env->Prop)(PX:WX)(H1:Hp),Rel X.K U Z F G H1->k c U P PX->(∀r U' F' H',P r U'->zr F F'->Rel X.K U' Z F' G H'->Q r H')->XC X (·=Z) F G PX->Q' c H1):kJ X ta Z H Q':=by
 let#[F,G,U,P,PX,z,O,B,L]:=h;show#[F,G,U,_,PX,z,O,λc U1 F1 H1 Y J M=>hk c F1 G U1 P PX H1 M Y (λr U' F' H' a b c=>B r U' F' H' a (J.trans b) c) (L.grow J),L]
def Fc(h:FW X a ta):FT X a ta:=λpn xe z=>(h pn xe z).pt
def Gx(h:FT X a ta):FW X (.BoolOp .And [a] pos) ta:=λpn xe z=>Nv (h pn xe z)
def Mi(h:FT X a ta):FW X (.BoolOp .Or [a] pos) ta:=λpn xe z=>LJ (h pn xe z)
def Et{rest:List Expr}(h:FT X a ta)(h':FW X (.BoolOp .And (b::rest) pos) tb):FW X (.BoolOp .And (a::b::rest) pos) (eK ta tb):=λpn xe L=>by
 show PW.imp (LC (h pn xe L) (h' pn xe L)) λZ H Q q=>?_;show CF (k:=λc z Q E=>if c then tb z Q E else Q false z) q λc F G U P PX H1 B M J O=>?_;cases c with
 |true=>show#[F,G,U,P,PX,B,M,J,O]
 |false=>show J false U F H1 M (zr.refl F) B
def HR{rest:List Expr}(h:FT X a ta)(h':FW X (.BoolOp .Or (b::rest) pos) tb):FW X (.BoolOp .Or (a::b::rest) pos) (lT ta tb):=λpn xe L=>by
 show PW.imp (Lz (h pn xe L) (h' pn xe L)) λZ H Q q=>?_;show CF (k:=λc z Q E=>if c then Q true z else tb z Q E) q λc F G U P PX H1 B M J O=>?_;cases c with
 |false=>show#[F,G,U,P,PX,B,M,J,O]
 |true=>show J true U F H1 M (zr.refl F) B
def Fs(h:FT X a ta):FT X (.UnaryOp .Not a pos) (fE ta):=λpn xe L=>by show PT.imp (MO (h pn xe L)) λZ H Q q=>?_;show CF (k:=λc z Q E=>Q (!c) z) q λc F G U P PX H1 B M J O=>J _ U F H1 M (zr.refl F) B
def Ge{K:W.Frag}{c:Bool}(r:aI K H v (.bl c)):v=.bl c:=by cases r;rfl
def Gm(h:FE X a z):FE X (.BoolOp op [a] pos) z:=λpn xe B=>Mw (h pn xe B)
def Im{rest:List Expr}(ha:FE X a wa)(hb:FE X (.BoolOp .And (b::rest) pos) O):FE X (.BoolOp .And (a::b::rest) pos) (iS wa O):=λpn xe Y=>by
 show PE.imp (Mn (ha pn xe Y) (hb pn xe Y)) λZ H Q q=>?_;show(one (k:=λx z Q E=>match view x z with|some (.bl c)=>if c then O z Q E else Q (.v (.sh (.bl false))) z|_=>False) q).mono λv H1 h1=>?_;let#[F,G,U,x,P,PX,B,M,rx,L,J,hx]:=h1;split at L
 .rename_i c e;show#[c,Ge (Ap (U':=[]) (Z':=[]) B M rx e),?_];cases c with
  |true=>show#[F,G,U,P,PX,B.drop M,L,J,hx]
  |false=>show J _ U (.bl false) F H1 L (zr.refl F) ((B.drop M).push (.bl false)) trivial
 .show L.elim
def Lr{rest:List Expr}(ha:FE X a wa)(hb:FE X (.BoolOp .Or (b::rest) pos) O):FE X (.BoolOp .Or (a::b::rest) pos) (oB wa O):=λpn xe Y=>by
 show PE.imp (LA (ha pn xe Y) (hb pn xe Y)) λZ H Q q=>?_;show(one (k:=λx z Q E=>match view x z with|some (.bl c)=>if c then Q (.v (.sh (.bl true))) z else O z Q E|_=>False) q).mono λv H1 h1=>?_;let#[F,G,U,x,P,PX,B,M,rx,L,J,hx]:=h1;split at L
 .rename_i c e;show#[c,Ge (Ap (U':=[]) (Z':=[]) B M rx e),?_];cases c with
  |false=>show#[F,G,U,P,PX,B.drop M,L,J,hx]
  |true=>show J _ U (.bl true) F H1 L (zr.refl F) ((B.drop M).push (.bl true)) trivial
 .show L.elim
def Ab:FA X [] zm:=λpn xe M=>PA.imp Mb λZ H Q q=>by let#[F,G,U,P,PX,z,J,B,L]:=q;show B [] U [] F H J (zr.refl F) ↑z z.len trivial
def Aa(ha:FE X e wa)(hb:FA X es wb)(hs:starEach (e::es) X.env=(false,eval e X.env)::starEach es X.env:=by rfl):FA X (e::es) (zl wa wb):=λpn xe hp=>by
 show PA.imp (Mz (ha pn xe hp) (hb pn xe hp) hs) λZ H Q q=>?_;let#[F,G,U,P,PX,O,hw,h4,hx]:=q;show#[F,G,U,_,PX,O,hw,λx U1 v F1 H1 h3 s1 r1 L=>?_,hx];let h1:=Ag r1;let#[G1,B,gg,back]:=r1.hide h1;show#[F1,G1,U1,_,PX,B,h3,λM U2 vs F2 H2 Y s2 r2 h2 J=>?_,hx.mono (λ_ z=>z) s1 gg];let r3:=back s2 r2;rw[qp,qp]at r3;let hl:(M.map zt).length=(vs.map some).length:=by let:=r2.len;grind
 show h4 (x::M) U2 (v::vs) F2 H2 Y (s1.trans s2) (Rel.swap (U1:=M.map zt) (Z1:=vs.map some) (U2:=[zt x]) (Z2:=[some v]) h2 hl r3) h2 #[L,J]
section
variable{K:W.Frag}
def lS.len:∀{vs:List V}{rs:List R},lS Z vs rs->vs.length=rs.length
 |[],[],_=>rfl
 |[],_::_,h=>h.elim
 |_::_,[],h=>h.elim
 |_::vs,_::rs,h=>by simp[lS.len h.2]
def FY:∀{rs:List R}{vs:List V}{U U' U1:Env}{ss:List S}{F:Hp}{Z':St},Rel K (U++(rs.map zt++U')) (Z++(vs.map some++Z')) F G H->U.length=Z.length->lS Z vs rs->aF rs U=some (ss,U1)->
  ∃F',zr F F'/\U1.length=U.length/\ss.length=rs.length/\Rel K (U1++(ss.map some++U')) (Z++(vs.map some++Z')) F' G H
 |[],[],U,U',U1,ss,F,Z',r,h,_,e=>by let z:some (([]:List S),U)=some (ss,U1):=e;cases z;show#[F,zr.refl F,rfl,rfl,r]
 |[],_::_,_,_,_,_,_,_,_,_,h,_=>h.elim
 |_::_,[],_,_,_,_,_,_,_,_,h,_=>h.elim
 |x::rs,v::vs,U,U',U1,ss,F,Z',r,h,rv,e=>by
  let z:(match give x U with|some (s,U1)=>(match aF rs U1 with|some (ss,U2)=>some (s::ss,U2)|none=>none)|none=>none)=some (ss,U1):=e;cases q:give x U with
  |none=>rw[q]at z;cases z
  |some p=>
   let#[s,U2]:=p;rw[q]at z;cases B:aF rs U2 with
   |none=>simp only[B]at z;cases z
   |some p2=>
    let#[L,h1]:=p2;simp only[B]at z;cases z;let#[F1,s1,l1,Y]:=AC (U':=rs.map zt++U') (Z':=vs.map some++Z') r h rv.1 q;let h2:U2.length=Z.length:=l1.trans h;let hl:(rs.map zt++U').length=(vs.map some++Z').length:=by let:=Y.len;rw[qq,qq,qt,qt]at this;lia
    let J:U'.length=Z'.length:=by let:=rv.2.len;simp at hl;lia
    let O:=Rel.swap (U1:=[some s]) (Z1:=[some v]) (U2:=rs.map zt++U') (Z2:=vs.map some++Z') h2 rfl Y;rw[qp,qp]at O;let#[F2,s2,l2,l3,M]:=FY (rs:=rs) (vs:=vs) O h2 rv.2 B;let h3:U1.length=Z.length:=l2.trans h2;rw[<-qp (L.map some),<-qp (vs.map some)]at M;let r4:=Rel.swap (U1:=L.map some++U') (Z1:=vs.map some++Z') (U2:=[some s]) (Z2:=[some v]) h3 (by simp[l3,rv.2.len,J]) M;show#[F2,s1.trans s2,l2.trans l1,by simp[l3],r4]
def Bs:∀{vs:List V}{ss:List S}{fp:List Addr},zu K F H (ss.map some) (vs.map some) fp->zv K F H vs ss fp
 |[],[],_,.nil=>.nil
 |[],_::_,_,h=>nomatch h
 |_::_,[],_,h=>nomatch h
 |v::vs,s::ss,_,.so a b=>.cons a (Bs b)
def Rel.newL(r:Rel K (U++ss.map some) (Z++vs.map some) F G H)(h:U.length=Z.length)(J:H p=none):
  Rel K (U++[some (.lst ss)]) (Z++[some (.ref p)]) F G (upd H p (.lst vs)):=by
 let#[f0,g0,Y]:=r.free J;let#[fp,e,nd,ap]:=r.en;let L:∀a∈fp,a≠p:=λa B z=>Y fp e (z▸B);let#[f1,f2,rfl,O,M]:=(e.mono (H':=upd H p (.lst vs)) (zr.refl F) λa B=>Ah (L a B)).cut h;show#[zr.updR r.fr f0,λa u q=>?_,f1++((p::f2)++[]),O.app (.so (.lst AQ (Bs M)) .nil),?_,λa B=>?_]
 .let J:a≠p:=λz=>by rw[z,g0]at q;cases q
  rw[Ah J];show r.gr a u q
 .grind
 grind
def Rel.giveD{ss:List S}(r:Rel K (U++ss.map some) (Z++vs.map some) F G H)(h:U.length=Z.length):∃F',zr F F'/\zD K F' vs (ss.map S.toD)/\Rel K U Z F' G H:=by
 classical
 let#[fp,e,O,ap]:=r.en;let#[f1,M,rfl,a,b]:=e.cut h;let#[Y,n2,n3]:=qw.mp O;let B:zr F (λx=>if x∈M then H x else F x):=λx o w=>by grind
 let J:=(Bs b).frz B λx L=>by simp[L,if_true]
 rw[S.toDs_map]at J;show#[_,B,J,λx o w=>?_,λx o w=>?_,f1,a.mono B λ_ _=>rfl,Y,λx L=>?_]
 .by_cases z:x∈M
  .simp only[z]at w;show w
  .simp only[z]at w;show r.fr x o w
 .let w2:=r.gr x o w;grind
 grind
end
inductive uX(X:Cx)(Z:St)(k:List R->Env->WQ->WX->Prop)(Q:VK)(vs:List V)(H:Hp):Prop
 |mk (F G:Hp) (U:Env) (rs:List R) (P:WQ) (PX:WX) (zH:Rel X.K (U++rs.map zt) (Z++vs.map some) F G H) (hl:U.length=Z.length) (rv:lS Z vs rs) (hk:k rs U P PX) (hok:∀r U' v F' H',P r U'->zr F F'->Rel X.K (U'++[zt r]) (Z++[some v]) F' G H'->RV Z v r->Q v H') (hx:XC X (·=Z) F G PX):uX X Z k Q vs H
theorem many(h:tW X (λU Q E=>wa U (λrs U1=>k rs U1 Q E) E) Z H Q):lZ X wa Z H λvs H1=>uX X Z k Q vs H1:=by let#[F,G,U,P,PX,J,hw,M,Y]:=h;show#[F,G,U,_,PX,J,hw,λrs U1 vs F1 H1 L O r1 h1 B=>#[F1,G,U1,rs,P,PX,r1,h1,B,L,λr z v F' H' a b c d=>M r z v F' H' a (O.trans b) c d,Y.grow O],Y]
def De(h:FA X es wa):FE X (.List es pos) (dX wa):=λpn xe M=>by
 show PE.imp (LV (h pn xe M)) λZ H Q q=>?_;show(many (k:=λB z Q E=>zp (if B.length<=big then aF B z else none) λp=>Q (.v (.lst p.1)) p.2) q).mono λvs H1 h1=>?_;let#[F,G,U,B,P,PX,J,hl,rv,Y,O,hx]:=h1;let#[#[ss,z],ep,Y]:=Ai Y;by_cases L:B.length<=big
 .rw[qY L]at ep;let#[F1,s1,l1,l2,r1]:=FY (U':=[]) (Z':=[]) ↑J hl rv ep;show#[by rw[rv.len];show le_trans L ⋯,λp M=>O _ z (.ref p) F1 _ Y s1 (Rel.newL ↑r1 (l1.trans hl) M) trivial]
 .rw[qZ L]at ep;cases ep
def AR(h:FA X es wa):FE X (.Tuple es k pos) (bE wa):=λpn xe J=>by
 show PE.imp (Mt (h pn xe J)) λZ H Q q=>?_;show(many (k:=λB z Q E=>zp (if B.length<=big then aF B z else none) λp=>Q (.v (.sh (.tup (p.1.map S.toD)))) p.2) q).mono λvs H1 h1=>?_;let#[F,G,U,B,P,PX,L,hl,rv,Y,O,hx]:=h1;let#[#[ss,z],ep,Y]:=Ai Y;by_cases M:B.length<=big
 .rw[qY M]at ep;let#[F1,s1,l1,l2,r1]:=FY (U':=[]) (Z':=[]) ↑L hl rv ep;let#[F2,s2,rp,r2]:=Rel.giveD (U:=z) ↑r1 (l1.trans hl);show#[by rw[rv.len];show le_trans M ⋯,λp J=>?_];let n2:=(r2.free J).1;show O _ z (.ref p) _ _ Y (s1.trans (s2.trans (zr.upd n2))) ((r2.newF J).push (.tup AQ (rp.mono (zr.upd n2)))) trivial
 .rw[qZ M]at ep;cases ep
def KP.refl:KP ks Z Z:=λ_ _=>rfl
def KP.trans(a:KP ks Z Z1)(b:KP ks Z1 Z2):KP ks Z Z2:=λi h=>(b i h).trans (a i h)
inductive vN(X:Cx)(ks:List Nat)(w:WS)(D:L2.Ends)(Z:St)(H:Hp):Prop
 |mk (F G:Hp) (U:Env) (E:Ends) (zH:Rel X.K U Z F G H) (hw:w E U) (n:∀U' Z' F' H',E.nx U'->KP ks Z Z'->zr F F'->Rel X.K U' Z' F' G H'->D.nx Z' H') (b:∀U' Z' F' H',E.bk U'->KP ks Z Z'->zr F F'->Rel X.K U' Z' F' G H'->D.bk Z' H') (c:∀U' Z' F' H',E.ct U'->KP ks Z Z'->zr F F'->Rel X.K U' Z' F' G H'->D.ct Z' H') (r:∀r U' Z' v F' H',E.rt r U'->KP ks Z Z'->zr F F'->Rel X.K (U'++[zt r]) (Z'++[some v]) F' G H'->RV Z' v r->D.rt v H') (hx:XC X (KP ks Z) F G E.ex):vN X ks w D Z H
@[inline]def FS(X:Cx)(ks:List Nat)(st:Stmt)(w:WS):Prop:=∀(pn:List (Addr×Obj))(xe:zj),PassesOwn (model X.prog X.w) X.A X.env xe->PS (wp X pn xe) st (vN (wp X pn xe) ks w)
def jH(X:Cx)(ks:List Nat)(st:List Stmt)(w:WS):Prop:=∀(pn:List (Addr×Obj))(xe:zj),PassesOwn (model X.prog X.w) X.A X.env xe->gS (wp X pn xe) st (vN (wp X pn xe) ks w)
def PS.imp(h:PS X e t)(k:∀D Z H,t' D Z H->t D Z H):PS X e t':=λzF s Z H D I q=>h zF s Z H D I (k D Z H q)
def gS.imp(h:gS X e t)(k:∀D Z H,t' D Z H->t D Z H):gS X e t':=λzF s Z H D I q=>h zF s Z H D I (k D Z H q)
inductive vO(X:Cx)(ks:List Nat)(g:WG)(v:V)(Z:St)(H:Hp)(Q:St->Hp->Prop):Prop
 |mk (F G:Hp) (U:Env) (s:S) (P:Env->Prop) (zH:Rel X.K (U++[some s]) (Z++[some v]) F G H) (hw:g s U P) (n:∀U' Z' F' H',P U'->KP ks Z Z'->zr F F'->Rel X.K U' Z' F' G H'->Q Z' H'):vO X ks g v Z H Q
@[inline]def FG(X:Cx)(ks:List Nat)(tg:Expr)(g:WG):Prop:=∀(pn:List (Addr×Obj))(xe:zj),PassesOwn (model X.prog X.w) X.A X.env xe->PG (wp X pn xe) tg (vO (wp X pn xe) ks g)
def PG.imp(h:PG X e t)(k:∀v Z H Q,t' v Z H Q->t v Z H Q):PG X e t':=λzF s Z H v u Q I r q=>h zF s Z H v u Q I r (k v Z H Q q)
section
variable{st:Stmt}{rest:List Stmt}
def Bv:jH X ks [] aY:=λpn xe J=>gS.imp IH λD Z H q=>by let#[F,G,U,E,z,B,n,b,c,r,x]:=q;show n U Z F H B KP.refl (zr.refl F) z
def Aj(h1:FS X ks st w1)(h2:jH X ks rest w2):jH X ks (st::rest) (zy w1 w2):=λpn xe O=>gS.imp (PC (h1 pn xe O) (h2 pn xe O)) λD Z H q=>by
 obtain⟨F,G,U,E,h3,hw,n,b,c,r,x⟩:=q;show#[F,G,U,{E with nx:=w2 E},h3,hw,λY h5 F1 H1 O k M r1=>?_,b,c,r,x];exact⟨F1,G,Y,E,r1,O,λB z L H' h J s r=>n B z L H' h (k.trans J) (M.trans s) r,λB z L H' h J s r=>b B z L H' h (k.trans J) (M.trans s) r,
  λB z L H' h J s r=>c B z L H' h (k.trans J) (M.trans s) r,λa B z v L H' h J s q rv=>r a B z v L H' h (k.trans J) (M.trans s) q rv,x.mono (λh4 J=>k.trans J) M (zr.refl G)⟩
def Ar(h1:FS X ks st z):jH X ks [st] z:=λpn xe B=>Jn (h1 pn xe B)
def Fu(h:FE X e Y)(hs:swapsWith e none pos.line X.env=pure false:=by rfl):FS X ks (.Expr e pos) (wExpr Y):=λpn xe L=>PS.imp (MY (h pn xe L) hs) λD Z H q=>by let#[F,G,U,E,J,hw,n,b,c,r,x]:=q;show#[F,G,U,_,_,J,hw,λa B v F1 H1 L s1 M rv=>n B Z F1 H1 L KP.refl s1 (M.drop (Ag M)),x.mono (λO z=>by rw[z];show KP.refl) (zr.refl F) (zr.refl G)]
def AK(h:FE X e O):FS X ks (.Return (some e) pos) (aX O):=λpn xe L=>PS.imp (LY (h pn xe L)) λD Z H q=>by let#[F,G,U,E,J,hw,n,b,c,r,x]:=q;show#[F,G,U,_,_,J,hw,λa B v F1 H1 L Y r1 rv=>r a B Z v F1 H1 L KP.refl Y r1 rv,x.mono (λM z=>by rw[z];show KP.refl) (zr.refl F) (zr.refl G)]
def Bu(hc:FT X c tc)(ha:jH X ks a w1)(hb:jH X ks b w2):FS X ks (.If c a b pos) (fG tc w1 w2):=λpn xe O=>PS.imp (Lo (hc pn xe O) (ha pn xe O) (hb pn xe O)) λD Z H q=>by
 obtain⟨F,G,U,E,h1,hw,n,b,c,r,x⟩:=q;show#[F,G,U,_,_,h1,hw,λk Y F1 H1 O s1 r1=>?_,x.mono (λh2 z=>by rw[z];show KP.refl) (zr.refl F) (zr.refl G)];let go:∀w:WS,w E Y->vN (wp X pn xe) ks w D Z H1:=λw hw=>⟨F1,G,Y,E,r1,hw,λJ B M H' h L s r=>n J B M H' h L (s1.trans s) r,λJ B M H' h L s r=>b J B M H' h L (s1.trans s) r,
  λJ B M H' h L s r=>c J B M H' h L (s1.trans s) r,λa J B v M H' h L s q rv=>r a J B v M H' h L (s1.trans s) q rv,x.grow s1⟩
 cases k with
 |true=>show go _ O
 |false=>show go _ O
def Au(he:FE X e we)(hg:FG X ks tg g)(hs:swapsWithSole [tg] e pos.line X.env=pure false:=by rfl)(M:swappedStores [tg] e X.env=pure none:=by rfl)
  (h1:(assignEach [tg] X.env).map (·.2)=[assign tg X.env]:=by rfl):FS X ks (.Assign [tg] e pos) (zA g we):=λpn xe B=>PS.imp (Ir (he pn xe B) (hg pn xe B) hs M h1) λD Z H q=>by
 let#[F,G,U,E,L,M,n,b,c,r,x]:=q;show#[F,G,U,_,_,L,M,λa h2 v F1 H1 B s1 O rv=>?_,x.mono (λY z=>by rw[z];show KP.refl) (zr.refl F) (zr.refl G)];let#[#[s,J],eg,hk]:=Ai B;let#[F2,s2,l2,r2]:=AC (U':=[]) (Z':=[]) O (Ag O) rv eg;show#[F2,G,J,s,_,r2,hk,λU' Z' F' H' h k' s r=>n U' Z' F' H' h k' (s1.trans (s2.trans s)) r]
end
def Kt(I:Inv X zF Z H s)(hN:∀j,X.N[j]?=some x->j=i)(hi:X.N[i]?=some x)(L:Loc X.env.scope x)(r:zw v u)
  (h:∀s',Inv X zF (Z.set i (some v)) H s'->(∃a,Heap.SameBut a s.heap s'.heap/\(a=X.env.locals\/X.env.cells.lookup x=some a))->Q () s')(hf:X.fn x=true\/X.env.scope.names.lookup x=some .local):wpAny M A (storeName X.env x u) Q E s:=by
 let#[m,hn,hl]:=id I.loc;let h5:(X.env.scope.kind==.class||(X.env.scope.kind==.module&&X.env.locals !=X.env.globals))=false:=by rw[I.ok.kind];rfl
 let h1:i<Z.length:=by rw[I.len];show(qg.mp hi).1
 have cne:=I.cne;let F:∀{a:Addr}{h':Heap},(∃o,s.heap.get? a=some o/\H a=none)->Heap.SameBut a s.heap h'->cX X.prog X.w H h':=λ{a h'} ha B b ob e=>by
  let#[_,_,O]:=ha;show(I.hok b ob e).stay (λc w' J q=>(B.2 c ?_).trans q) (λ_ q=>q) λ_ _ q=>q;rintro rfl;rcases J with rfl|J
  .rw[O]at e;cases e
  .rw[O]at J;cases J
 rcases L with hk|hk
 .refine wpAny_storeName_local hk hn (λh' h9 B=>?_) h5;let#[oL,_,_,h8,_]:=id hn;refine h _ #[I.ok,I.os,I.bare,#[λb o e n hb L=>?_,λb o e n hb L=>?_,I.base.free,λb o e L=>?_,I.base.tups,I.base.frzs,I.base.tbls],#[_,h9,λj y v' G Y e3=>?_],λy c e=>?_,I.free,I.freeC,λp hp=>?_,F #[oL,h8,I.free] B,↑I.len] #[_,B,.inl rfl]
  .show(B.2 b (ne_of_lt (lt_of_lt_of_le (qe e) I.ok.above))).trans (I.base.keep b o e n hb L)
  .obtain⟨sl,G⟩:=I.base.slot b o e n hb L;show#[sl,(B.2 b (ne_of_lt (lt_of_lt_of_le (qe e) I.ok.above))).trans G]
  .obtain⟨o',G⟩:=I.base.there b o e L;show#[o',(B.2 b (ne_of_lt (lt_of_lt_of_le (qe e) I.ok.above))).trans G]
  .by_cases hj:j=i
   .subst hj;rw[hi]at G;cases G;rw[getElem?_set_self h1]at Y;cases Y;show#[u,r,.inl #[hk,by simp]]
   .rw[getElem?_set_ne (Ne.symm hj)]at Y;let#[u',r',q]:=hl j y v' G Y e3;show#[u',r',?_];rcases q with⟨k,e⟩|⟨k,c,e,z⟩
    .show .inl #[k,?_];let:y≠x:=λe=>hj (hN j (e▸G));simp[this,e]
    .show .inr #[k,c,e,z.sameBut B (cne y c e)]
  .obtain⟨w',z⟩:=I.cell y c e;show#[w',z.sameBut B (cne y c e)]
  .obtain⟨e,n,ne,nf,d⟩:=I.pin p hp;show#[(B.2 p.1 ne).trans e,n,ne,nf,d]
 .have h2:X.fn x=true:=by
   rcases hf with z|z
   .show z
   .rw[z]at hk;cases hk
  let#[c,J]:=I.ok.has x (.inl hk);let#[w',z]:=I.cell x c J;show wpAny_storeName_cell I.ok.kind hk J z (λh' h7 B=>?_);let#[oc,h4,h3]:=id z;show h {s with heap:=h'} ⟨I.ok,I.os,I.bare,⟨λb o e n hb L=>?_,λb o e n hb L=>?_,I.base.free,λb o e L=>?_,I.base.tups,I.base.frzs,I.base.tbls⟩,⟨m,hn.sameBut B (Ne.symm (cne x c J)),λj y v' G Y e3=>?_⟩,λy c' e=>?_,I.free,I.freeC,λp hp=>?_,F ⟨oc,h4,I.freeC x c J⟩ B,↑I.len⟩ #[c,B,.inr J]
  .show(B.2 b (ne_of_lt (lt_of_lt_of_le (qe e) (I.ok.cab x c h2 J)))).trans (I.base.keep b o e n hb L)
  .obtain⟨sl,G⟩:=I.base.slot b o e n hb L;show#[sl,(B.2 b (ne_of_lt (lt_of_lt_of_le (qe e) (I.ok.cab x c h2 J)))).trans G]
  .obtain⟨o',G⟩:=I.base.there b o e L;show#[o',(B.2 b (ne_of_lt (lt_of_lt_of_le (qe e) (I.ok.cab x c h2 J)))).trans G]
  .by_cases hj:j=i
   .subst hj;rw[hi]at G;cases G;rw[getElem?_set_self h1]at Y;cases Y;show#[u,r,.inr #[.inl hk,c,J,h7]]
   .rw[getElem?_set_ne (Ne.symm hj)]at Y;let#[u',r',q]:=hl j y v' G Y e3;show#[u',r',?_];rcases q with q|⟨k,c',e,z'⟩
    .show .inl q
    .show .inr #[k,c',e,z'.sameBut B ?_];rintro rfl;show hj (hN j (I.ok.inj _ _ _ e J▸G))
  .by_cases h6:c'=c
   .subst h6;show#[_,h7]
   .obtain⟨w2,z2⟩:=I.cell y c' e;show#[w2,z2.sameBut B h6]
  .obtain⟨e,n,ne,nf,d⟩:=I.pin p hp;show#[(B.2 p.1 ?_).trans e,n,ne,nf,d];intro q;rw[q,h4]at e;let q':oc=p.2:=qf e;show d w' (by rw[<-q'];show h3)
def KP.set(h:i∉ks):KP ks Z (Z.set i u):=λj B=>getElem?_set_ne (λ(z:i=j)=>h (z▸B))
def Jp(Y:i∉ks)(hN:∀j,X.N[j]?=some x->j=i)(hi:X.N[i]?=some x)(M:Loc X.env.scope x)(hf:X.fn x=true\/X.env.scope.names.lookup x=some .local):FG X ks (.Name x pos) (zo i):=by
 intro pn xe hp zF s Z H v u Q I L q;let#[F,G,U,t,P,z,O,n]:=q;let J:=Ag z;let B:i<U.length:=by rw[J,I.len];show(qg.mp hi).1
 show wpAny_assign_Name (Kt (X:=wp X pn xe) I hN hi M L (λs' I' _=>#[_,H,I',n _ _ F H O (KP.set Y) (zr.refl F) (z.store J B)]) hf)
inductive sN(X:Cx)(ks:List Nat)(gs:List WG)(vs:List V)(Z:St)(H:Hp)(Q:St->Hp->Prop):Prop
 |mk (F G:Hp) (U:Env) (ds:List D) (P:Env->Prop) (zH:Rel X.K U Z F G H) (rp:zD X.K F vs ds) (hw:cQ gs ds U P) (n:∀U' Z' F' H',P U'->KP ks Z Z'->zr F F'->Rel X.K U' Z' F' G H'->Q Z' H'):sN X ks gs vs Z H Q
def wG(X:Cx)(ks:List Nat)(tg:List Expr)(g:List WG):Prop:=∀(pn:List (Addr×Obj))(xe:zj),PassesOwn (model X.prog X.w) X.A X.env xe->uV (wp X pn xe) tg (sN (wp X pn xe) ks g)
def Da:wG X ks [] []:=λpn xe M zF s Z H vs J Q I r q=>by
 let#[F,G,U,O,P,z,L,B,n]:=q;show Ol zF s Z H vs J Q I r ?_;cases L with
 |nil=>show#[rfl,n U Z F H B KP.refl (zr.refl F) z]
 |cons a b=>show B.elim
def AS(h1:FG X ks e g)(h2:wG X ks es gs)
  (hs:(assignEach (e::es) X.env).map (·.2)=assign e X.env::(assignEach es X.env).map (·.2):=by rfl):wG X ks (e::es) (g::gs):=λpn xe z zF s Z H vs us Q I r q=>by
 let#[F,G,U,ds,P,M,rp,Y,n]:=q;show Pj (X:=wp X pn xe) (h1 pn xe z) (h2 pn xe z) hs zF s Z H vs us Q I r ?_;cases rp with
 |nil=>show Y.elim
 |cons a b=>show#[_,_,rfl,F,G,U,_,_,M.push a,Y,λJ h3 F1 H1 z k O r1=>#[F1,G,J,_,P,r1,b.mono O,z,λL B F' H' h k' s r=>n L B F' H' h (k.trans k') (O.trans s) r]]
def zD.len{K:W.Frag}(r:zD K F xs ds):xs.length=ds.length:=zD.ind (P:=λxs ds=>xs.length=ds.length) rfl (λ_ _ z=>congrArg (·+1) z) r
def Dc(hc:X.calm=true)(h:wG X ks es J)(hn:(assignEach es X.env).length=J.length:=by rfl)(O:(assignEach es X.env).findIdx? (·.1)=none:=by rfl):FG X ks (.Tuple es k pos) (cG J):=λpn xe hp=>by
 show PG.imp (LP (X:=wp X pn xe) hc (h pn xe hp) hn O) λv Z H Q q=>?_;let#[F,G,U,s,P,B,hw,n]:=q;let#[F1,s1,rp,Y]:=Rel.giveD (U:=U) (vs:=[v]) (ss:=[s]) B (Ag B);cases rp with
 |cons a b=>
  let z:(match s.toD with|.tup ds=>ds.length=J.length/\cQ J ds U P|_=>False):=hw;generalize s.toD=d at a z;cases a with
  |tup e r=>show#[_,_,rfl,aV.of (Y.fr _ _ e),by rw[r.len];show z.1,F1,G,U,_,P,Y,r,z.2,λM L F' H' h k' s r=>n M L F' H' h k' (s1.trans s) r]
  |_=>show z.elim
def fD(K:W.Frag)(J:It)(l:List D)(z:Hp):Prop:=∀(i:Nat)(U:Env)(Z:St)(F G H:Hp),zr z F->Rel K U Z F G H->
 (∀d,l[i]?=some d->J.go i H/\∀x H',J.yld i H x H'->∃F',zr F F'/\Rel K U Z F' G H'/\aI K F' x d)/\(l.length<=i->J.stop i H)
inductive ae(X:Cx)(wi:WI)(Z:St)(H:Hp)(R:It->Hp->Prop):Prop
 |mk (F G:Hp) (U:Env) (P:List D->Env->Prop) (PX:WX) (zH:Rel X.K U Z F G H) (hw:wi U P PX) (hok:∀l U' F' H' J,P l U'->zr F F'->Rel X.K U' Z F' G H'->fD X.K J l F'->R J H') (hx:XC X (·=Z) F G PX):ae X wi Z H R
@[inline]def FI(X:Cx)(tg iter:Expr)(z:WI):Prop:=∀(pn:List (Addr×Obj))(xe:zj),PassesOwn (model X.prog X.w) X.A X.env xe->PI (wp X pn xe) tg iter (ae (wp X pn xe) z)
def PI.imp(h:PI X tg e t)(k:∀Z H R,t' Z H R->t Z H R):PI X tg e t':=λzF s Z H R I q=>h zF s Z H R I (k Z H R q)
def zD.get{K:W.Frag}{i:Nat}(r:zD K F xs ds)(h:ds[i]?=some d):∃x,xs[i]?=some x/\aI K F x d:=
 zD.ind (P:=λxs ds=>∀i d,ds[i]?=some d->∃x,xs[i]?=some x/\aI K F x d) (λ_ _ e=>by cases e) (λa _ z i d e=>by
  cases i with
  |zero=>cases e;show#[_,rfl,a]
  |succ i=>show z i d e) r i d h
section
variable{K:W.Frag}
def Kn(e:bC K F0 a xs)(r:zD K F0 xs l):fD K (vB K a) l F0:=λi U Z F G H L z=>by let J:bC K H a xs:=bC.mono (L.trans z.fr) e;show#[λd Y=>?_,λh=>#[xs,J,by rw[r.len];show h]];let#[x,M,O]:=r.get Y;show#[#[xs,x,J,M],λy H' B=>?_];let#[rfl,B]:=B;let:x=y:=qf (M.symm.trans (B xs J));subst this;show#[F,zr.refl F,z,O.mono L]
def Ox(e:aV K F0 a xs)(r:zD K F0 xs l):fD K (zX K a) l F0:=λi U Z F G H L z=>by let J:aV K H a xs:=aV.mono (L.trans z.fr) e;show#[λd Y=>?_,λh=>#[xs,J,by rw[r.len];show h]];let#[x,M,O]:=r.get Y;show#[#[xs,x,J,M],λy H' B=>?_];let#[rfl,B]:=B;let:x=y:=qf (M.symm.trans (B xs J));subst this;show#[F,zr.refl F,z,O.mono L]
def QL{lo:Int}(h:(fromTo lo n)[i]?=some d):i<n/\d=.int (lo+i):=by
 unfold fromTo at h;rw[qE]at h;by_cases hi:i<n
 .rw[List.getElem?_range hi]at h;show#[hi,(qf h).symm]
 .rw[qO ↑hi]at h;cases h
def RD{lo:Int}:fD K (wD lo n) (fromTo lo n) F0:=λi U Z F G H L z=>by
 show#[λd J=>?_,λh=>?_]
 .obtain⟨hi,rfl⟩:=QL J;show#[hi,λx H' B=>?_];let#[rfl,rfl]:=B;show#[F,zr.refl F,z,.int _]
 .let:n<=i:=by simpa[fromTo] using h
  show this
end
def sJ(x:Str):It:=#[λi _=>i<x.cps.size,λi H v H'=>H'=H/\∃c,x.cps[i]?=some c/\v=.str #[[c].toArray],λi _=>x.cps.size<=i]
def OI{P:Program}{w:World}{K:W.Frag}{tg:Expr}(it:Addr)(x:Str)(t:Tok)(ty:String)(hty:ty="str_ascii_iterator"\/ty="str_iterator"):gR P w K tg (sJ x) [it] it (λi h=>h.IsStrIter it ty x t i) where
 mem:=m1
 obj:=λi h st b hb=>by
  let e:b=it:=↑hb
  subst e;let#[o,e,c,d]:=st;show#[o,e,λv z=>by rw[d]at z;cases z]
 keep:=λi h h' st k=>by let#[o,e,r]:=st;show#[o,k it (m1) o e,r]
 item:=by
  intro X hP hw hK hc i zF s Z H E I hf st hg;subst hP hw hK;let#[f0,f1,f2,f3,f4,f5]:=hf it (m1);let W:Walks X.prog X.w X.A it [it] [it] x.cps.size (SignAt x) (λi h=>h.IsStrIter it ty x t i):=by
   rcases hty with rfl|rfl
   .show Walks.strAscii (I.ok.hd hc) it x t
   .show Walks.strWide (I.ok.hd hc) it x t
  show W.item i s _ _ hg st λv h' tk hv st' kk=>?_;let#[c,u,e1,rfl]:=hv;let I1:Inv X zF Z H {s with heap:=h',toks:=tk}:=I.turned (λb o hb e=>kk b o ↑hb e) f0 f1 f3 f4 f5;let#[o,e,cl,d]:=id st';show#[_,rfl,Fd (s:={s with heap:=h',toks:=tk}) e cl d (by rcases hty with rfl|rfl<;>decide) ⟨.str ⟨[c].toArray⟩,H,I1,⟨u,rfl⟩,⟨rfl,c,e1,rfl⟩,st',λb hb=>(hf b hb).1⟩]
 done:=by
  intro X hP hw hK hc i zF s Z H E I hf st hg;let#[f0,f1,f2,f3,f4,f5]:=hf it (m1);let hn:x.cps[i]?=none:=by let:x.cps.size<=i:=hg;simp[this]
  rcases hty with rfl|rfl
  .show wpAny_pyNext_ascii_end (I.ok.hd hc) st hn λh' eb=>#[rfl,I.turned (t':=s.toks) (λb o hb e=>eb b o hb e) f0 f1 f3 f4 f5]
  .show wpAny_pyNext_wide_end (I.ok.hd hc) st hn λh' eb=>#[rfl,I.turned (t':=s.toks) (λb o hb e=>eb b o hb e) f0 f1 f3 f4 f5]
 self:=λA i s Q E st h=>by
  rcases hty with rfl|rfl
  .show wpAny_pyIter_striter_ascii st h
  .show wpAny_pyIter_striter_wide st h
def yZ(K:W.Frag)(z:TE):TI:=λZ H R=>z Z H λv H1=>(∃a,v=.ref a/\(∃xs,bC K H1 a xs)/\R (vB K a) H1)\/(∃a,v=.ref a/\(∃xs,aV K H1 a xs)/\R (zX K a) H1)\/∃x,v=.str x/\R (sJ x) H1
def Mu(hl:PE X l tl):PI X tg l (yZ X.K tl):=by
 intro zF s Z H R I h;show Af (hl zF s Z H _ I h) λv z zq=>?_;let#[y,H1,B,M,q1]:=zq;rcases q1 with⟨a,e,⟨xs,Y⟩,q⟩|⟨a,e,⟨xs,Y⟩,q⟩|⟨x,e,q⟩
 .subst e;cases M;let#[G,rv,p,hz]:=B.list Y;show wpAny_pyIter_list p.isList ?_;show#[z.heap.objs.size,[z.heap.objs.size],_,_,H1,rfl,B.kept (t':=z.toks) λb o e=>qc _ e,Rj a _,#[_,qd _ rfl,rfl,rfl],λb J=>?_,q];let e:b=z.heap.objs.size:=by simpa using J
  subst e;show B.fpOk (q8 _) (B.hok.fresh (q8 _))
 .subst e;cases M;let#[G,rv,p,hz]:=B.tuple Y;show wpAny_pyIter_tuple (show z.heap.IsTuple a G.toArray from p) ?_;show#[z.heap.objs.size,[z.heap.objs.size],_,_,H1,rfl,B.kept (t':=z.toks) λb o e=>qc _ e,RJ a _,#[_,qd _ rfl,rfl,rfl],λb J=>?_,q];let e:b=z.heap.objs.size:=by simpa using J
  subst e;show B.fpOk (q8 _) (B.hok.fresh (q8 _))
 .subst e;let#[t,rfl]:=M;let L:∀(F:String)(o:Obj),(F="str_ascii_iterator"\/F="str_iterator")->o.cls=.type F->o.data=.fields [.str x t,.int 0 0].toArray->o.isFreed=false->uU X zF Z tg R (.ref z.heap.objs.size) {z with heap:=z.heap.push o}:=λF o O hc hd hf=>by
   show#[z.heap.objs.size,[z.heap.objs.size],_,_,H1,rfl,B.kept (t':=z.toks) λb o e=>qc _ e,OI _ x t F O,#[_,qd _ hf,hc,hd],λb J=>?_,q];let e:b=z.heap.objs.size:=↑J
   subst e;show B.fpOk (q8 _) (B.hok.fresh (q8 _))
  cases ha:x.cps.all (·<128)
  .show wpAny_pyIter_wide ha (L "str_iterator" _ (.inr rfl) rfl rfl rfl)
  .show wpAny_pyIter_ascii ha (L "str_ascii_iterator" _ (.inl rfl) rfl rfl rfl)
section
variable{K:W.Frag}
def JI(e:x.cps.toList=l):fD K (sJ x) (l.map λc=>.str [c]) F0:=λi U Z F G H sm B=>by
 let L:x.cps.size=l.length:=by rw[<-e];simp
 show#[λd z=>?_,λh=>by show x.cps.size<=i;rw[L];simpa using h];rw[qE]at z;cases q:l[i]? with
 |none=>rw[q]at z;cases z
 |some c=>
  rw[q]at z;let J:D.str [c]=d:=qf z;let hi:i<l.length:=(qg.mp q).1;let Y:x.cps[i]?=some c:=by rw[<-qX,e];show q
  show#[by show i<x.cps.size;rw[L];show hi,λy H' O=>?_];let#[rfl,c',M,rfl]:=O;rw[Y]at M;let:c=c':=qf M;subst this;rw[<-J];show#[F,zr.refl F,B,.str rfl (by show 1<=_;decide)]
def Fg(h:FE X e we):FI X tg e (fF we):=λpn xe hp=>by
 show PI.imp (Mu (h pn xe hp)) λZ H R q=>?_;let#[F,G,U,P,PX,h1,hw,L,hx]:=q;show#[F,G,U,_,PX,h1,hw,λr h2 v F1 H1 M s1 r1 rv=>?_,hx];let#[#[s,J],eg,M]:=Ai M;let#[l,el,M]:=Ai M;let#[F2,s2,l2,r2]:=AC (U':=[]) (Z':=[]) r1 (Ag r1) rv eg;let#[F3,s3,rp,O]:=Rel.giveD (U:=J) (vs:=[v]) (ss:=[s]) r2 (Ag r2);let Y:=s1.trans (s2.trans s3);cases rp with
 |cons a b=>
  let B:items s.toD=some l:=el;generalize s.toD=d at a B;cases a with
  |lst e r=>have:l=_:=(qf B).symm;subst this;show .inl #[_,rfl,#[_,bC.mono O.fr e],L _ J F3 H1 _ M Y O (Kn e r)]
  |tup e r=>have:l=_:=(qf B).symm;subst this;show .inr (.inl #[_,rfl,#[_,aV.of (O.fr _ _ e)],L _ J F3 H1 _ M Y O (Ox (aV.of e) r)])
  |str e z=>have:l=_:=(qf B).symm;subst this;show .inr (.inr #[_,rfl,L _ J F3 H1 _ M Y O (JI e)])
  |_=>cases B
def DR(hg:Gl X "range")(hm:X.mg "range"=none)(ha:FE X a we)(hs:starEach [a] X.env=[(false,eval a X.env)]:=by rfl):FI X tg (.Call (.Name "range" p) [a] [] pos) (bM we):=λpn xe hp=>by
 show PI.imp (PP (X:=wp X pn xe) hg hm (Aa ha Ab hs pn xe hp) hs) λZ H R q=>?_;let#[F,G,U,P,PX,O,hw,Y,hx]:=q;show#[F,G,U,λM B=>match M with|[r]=>(match view r B with|some (.int j)=>(-big<=j/\j<=big)/\P (fromTo 0 j.toNat) B|_=>False)|_=>False,PX,O,hw,λM B vs F1 H1 z s1 L hl J=>?_,hx];match M,vs,J,L,z with
 |[r],[v],J,L,z=>
  dsimp only at z;split at z
  .rename_i j ej;let rp:=Ap (U':=[]) (Z':=[]) L hl J.1 ej;cases rp;let#[#[h1,h2],z]:=z;let eb:(big:Int)=1000000:=rfl;show#[j,rfl,∅,∅,Y _ B F1 H1 _ z s1 ((show Rel X.K (B++[zt r]) (Z++[some (.int j)]) F1 G H1 from L).drop hl) RD]
  .show z.elim
 |[],_,_,_,z=>show z.elim
 |[_],[],J,_,_=>show J.elim
 |[_],_::_::_,J,_,_=>show J.2.elim
 |_::_::_,_,_,_,z=>show z.elim
end
def Dd(hc:X.calm=true)(hi:FI X tg iter wi)(hg:FG X ks tg g)(hb:jH X ks body wb)(hs:∀x,foldedSetIterable iter X.env x=pure x:=by intro _;rfl):FS X ks (.For tg iter body [] pos) (eN wi g wb):=λpn xe hp=>by
 show PS.imp (Mq (X:=wp X pn xe) hp hc (hi pn xe hp) (hg pn xe hp) (hb pn xe hp) hs) λD Z H q=>?_;let#[F,G,U,E,h9,hw,n,b,c,r,x]:=q;show#[F,G,U,_,_,h9,hw,λl h7 F1 H1 J hk s1 r1 it=>?_,x.mono (λL z=>by rw[z];show KP.refl) (zr.refl F) (zr.refl G)];show#[λi m L H2=>m=l.length-i/\i<=l.length/\∃F2 U2,KP ks Z L/\zr F1 F2/\Rel X.K U2 L F2 G H2/\bJ g wb (l.drop i) E U2,#[l.length,rfl,zero_le _,F1,h7,KP.refl,zr.refl F1,r1,hk],?_];rintro i m L H2 ⟨rfl,hi,F2,U2,kp,s2,r2,h1⟩;let#[e2,e1]:=it i U2 L F2 G H2 s2 r2;by_cases h2:i<l.length
 .obtain⟨go,h8⟩:=e2 l[i] (by simp);show .inr #[go,λh3 H3=>i+1<=l.length/\∃F3 h5,KP ks Z h3/\zr F1 F3/\Rel X.K h5 h3 F3 G H3/\bJ g wb (l.drop (i+1)) E h5,λh3 H3 h=>#[l.length-(i+1),∅,rfl,h],λy H3 hy=>?_];let#[F3,s3,r3,rp]:=h8 y H3 hy;rw[List.drop_eq_getElem_cons h2]at h1;show#[F3,G,U2,_,_,r3.push rp,h1,λh6 hx F4 H4 e3 k4 s4 r4=>?_];let O:=kp.trans k4;let h4:=s1.trans (s2.trans (s3.trans s4));exact⟨F4,G,h6,_,r4,e3,λB M F' H' h Y s r=>#[h2,F',B,O.trans Y,s2.trans (s3.trans (s4.trans s)),r,h],λB M F' H' h Y s r=>n B M F' H' h (O.trans Y) (h4.trans s) r,
   λB M F' H' h Y s r=>#[h2,F',B,O.trans Y,s2.trans (s3.trans (s4.trans s)),r,h],λa B M v F' H' h Y s q rv=>r a B M v F' H' h (O.trans Y) (h4.trans s) q rv,x.mono (λe4 Y=>O.trans Y) h4 (zr.refl G)⟩
 .let e:i=l.length:=Nat.le_antisymm hi (not_lt.mp h2);subst e;rw[List.drop_length]at h1;show .inl #[e1 (q8 _),n U2 L F2 H2 h1 kp (s1.trans s2) r2]
def OE(hc:FT X c wc)(hb:jH X ks body wb):FS X ks (.While c body [] pos) (fQ wc wb):=λpn xe hp=>by
 show PS.imp (OO (X:=wp X pn xe) hp (hc pn xe hp) (hb pn xe hp)) λD Z H q=>?_;let#[F,G,U,E,h4,#[J,#[m0,j0],step],n,b,c,r,x]:=q;show#[λm O H2=>∃F2 U2,KP ks Z O/\zr F F2/\Rel X.K U2 O F2 G H2/\J m U2,#[m0,F,U,KP.refl,zr.refl F,h4,j0],?_];rintro m O H2 ⟨F2,U2,kp,s2,r2,j2⟩;show#[F2,G,U2,_,_,r2,step m U2 j2,λk h2 F3 H3 hk s3 r3=>?_,x.mono (λh3 z=>by rw[z];show kp) s2 (zr.refl G)];let L:=s2.trans s3;cases k with
 |true=>
  refine#[λh1 H4=>∃m',m'<m/\∃F2 U2,KP ks Z h1/\zr F F2/\Rel X.K U2 h1 F2 G H4/\J m' U2,λh1 H4 h=>h,?_];exact⟨F3,G,h2,_,r3,hk,λB M F' H'⟨m',hm,h⟩ Y s r=>#[m',hm,F',B,kp.trans Y,L.trans s,r,h],λB M F' H' h Y s r=>n B M F' H' h (kp.trans Y) (L.trans s) r,
   λB M F' H'⟨m',hm,h⟩ Y s r=>#[m',hm,F',B,kp.trans Y,L.trans s,r,h],λa B M v F' H' h Y s q rv=>r a B M v F' H' h (kp.trans Y) (L.trans s) q rv,x.mono (λh3 Y=>kp.trans Y) L (zr.refl G)⟩
 |false=>show n h2 O F3 H3 hk kp L r3
inductive eG(K:W.Frag)(f:WF)(n:Nat)(vs:List V)(H:Hp)(Q:VK)(Zq:XK):Prop
 |mk (F G:Hp) (ss:List S) (P:S->List S->Prop) (PX:D->List S->Prop) (hn:vs.length=n) (zH:Rel K (ss.map some) (vs.map some) F G H) (hw:f ss P PX) (hok:∀s ss' v F' H',P s ss'->zr F F'->ss'.length=ss.length->Rel K (ss'.map some++[some s]) (vs.map some++[some v]) F' G H'->Q v H') (hex:∀d ss' F' H' C dx,PX d ss'->zr F F'->ss'.length=ss.length->Rel K (ss'.map some) (vs.map some) F' G H'->uK K F' d C dx->Zq (.ref C) dx H'):eG K f n vs H Q Zq
section
variable{K:W.Frag}
def Rel.comm(h:U.length=Z.length)(r:Rel K (U++U') (Z++Z') F G H):Rel K (U'++U) (Z'++Z) F G H:=by let:=Rel.swap (U:=[]) (Z:=[]) (U1:=U) (Z1:=Z) (U2:=U') (Z2:=Z') rfl h r;simpa using this
def Rel.lend(r:Rel K (U++(none::U')) (Z++(some v::Z')) F G H)(h:U.length=Z.length)(hs:slot U i=some s)(z:Z[i]?=some (some v)):
  Rel K (U.set i none++(some s::U')) (Z++(some v::Z')) F G H:=by
 let#[fp,e,nd,ap]:=r.en;let#[f1,O,rfl,a,b]:=e.cut h;let#[v',M,B,L,Y,rfl,q,up]:=a.at hs;rw[z]at Y;let e2:v=v':=↑Y
 subst e2;let a2:=up (F':=F) (H':=H) (o:=none) (u:=some v) (fi':=[]) (zr.refl F) (λ_ _=>rfl) (.no .nil);let es:Z.set i (some v)=Z:=by
  apply ext_getElem?;intro j;by_cases J:i=j
  .subst J;rw[getElem?_set_self (qg.mp z).1,z]
  .rw[getElem?_set_ne J]
 rw[es]at a2;cases b with
 |no b=>
  let p:((M++([]++L))++(B++O)).Perm ((M++(B++L))++O):=by simp;show List.Perm.append_left _ ?_;rw[<-qp,<-qp B];show List.Perm.append_right _ qM
  show#[r.fr,r.gr,_,a2.app (.so q b),p.nodup_iff.mpr nd,λx hx=>ap x (p.mem_iff.mp hx)]
def Rel.back1(r:Rel K (U++(some s::U')) (Z++(some v::Z')) F G H)(h:U.length=Z.length)(B:Z[i]?=some (some v)):Rel K (U.set i (some s)++U') (Z++Z') F G H:=by
 let hi:i<Z.length:=(qg.mp B).1;let es:Z.set i (some v)=Z:=by apply ext_getElem?;grind
 let J:U'.length=Z'.length:=by let:=r.len;grind
 let z:=Rel.swap (U1:=[some s]) (Z1:=[some v]) (U2:=U') (Z2:=Z') h rfl r;rw[<-qp,<-qp]at z;let L:=Rel.store (i:=i) z (by simp[h,J]) (by simp;lia -verbose);grind
theorem IP:∀{rs:List R}{vs:List V}{ms:List Bool}{U U' U1:Env}{ss:List S}{F:Hp}{Z':St},Rel K (U++(rs.map zt++U')) (Z++(vs.map some++Z')) F G H->U.length=Z.length->lS Z vs rs->bN ms rs U=some (ss,U1)->
  ∃F',zr F F'/\U1.length=U.length/\ss.length=rs.length/\Rel K (U1++(ss.map some++U')) (Z++(vs.map some++Z')) F' G H
 |[],[],ms,U,U',U1,ss,F,Z',r,h,_,e=>by
  let z:some (([]:List S),U)=some (ss,U1):=by cases ms<;>show e
  cases z;show#[F,zr.refl F,rfl,rfl,r]
 |[],_::_,_,_,_,_,_,_,_,_,_,h,_=>h.elim
 |_::_,[],_,_,_,_,_,_,_,_,_,h,_=>h.elim
 |x::rs,v::vs,ms,U,U',U1,ss,F,Z',r,h,rv,e=>by
  --the first one,as it is handed on
  have first:∃s U2 B M,bN ms.tail rs U2=some (B,U1)/\ss=s::B/\zr F M/\U2.length=U.length/\Rel K (U2++(some s::(rs.map zt++U'))) (Z++(some v::(vs.map some++Z'))) M G H:=by
   cases x with
   |v s=>
    let z:(match bN ms.tail rs U with|some (ss,U1)=>some (s::ss,U1)|none=>none)=some (ss,U1):=by cases ms<;>show e
    cases q:bN ms.tail rs U with
    |none=>rw[q]at z;cases z
    |some p=>let#[B,L]:=p;rw[q]at z;cases z;show#[s,U,B,F,q,rfl,zr.refl F,rfl,r]
   |loc i=>
    have z:(match slot U i with
     |some s=>if ms.headD false then(match bN ms.tail rs (U.set i none)with
      |some (ss,U1)=>some (s::ss,U1)
      |none=>none)
      else(match bN ms.tail rs (U.set i (some (.sh s.toD)))with
       |some (ss,U1)=>some (.sh s.toD::ss,U1)
       |none=>none)
     |none=>none)=some (ss,U1):=by cases ms<;>show e
    cases q:slot U i with
    |none=>rw[q]at z;cases z
    |some s=>
     rw[q]at z;dsimp only at z;by_cases hm:ms.headD false=true
     .rw[qY hm]at z;cases J:bN ms.tail rs (U.set i none)with
      |none=>rw[J]at z;cases z
      |some p=>let#[B,L]:=p;rw[J]at z;cases z;show#[s,U.set i none,B,F,J,rfl,zr.refl F,by simp,Rel.lend r h q rv.1]
     .rw[qZ hm]at z;cases J:bN ms.tail rs (U.set i (some (.sh s.toD)))with
      |none=>rw[J]at z;cases z
      |some p=>let#[B,L]:=p;rw[J]at z;cases z;let#[M,Y,l1,O]:=AC (x:=.loc i) (s:=.sh s.toD) (U1:=U.set i (some (.sh s.toD))) r h rv.1 (by show(match slot U i with|some s=>some (S.sh s.toD,U.set i (some (.sh s.toD)))|none=>none)=_;rw[q]);show#[_,_,B,M,J,rfl,Y,by simp,O]
  let#[s,U2,B,M,J,rfl,Y,l1,O]:=first
  let h2:U2.length=Z.length:=l1.trans h;let hl:(rs.map zt++U').length=(vs.map some++Z').length:=by let:=O.len;rw[qq,qq,qt,qt]at this;lia
  let h1:U'.length=Z'.length:=by let:=rv.2.len;simp at hl;lia
  let r2:=Rel.swap (U1:=[some s]) (Z1:=[some v]) (U2:=rs.map zt++U') (Z2:=vs.map some++Z') h2 rfl O;rw[qp,qp]at r2;let#[F2,s2,l2,l3,r3]:=IP (rs:=rs) (vs:=vs) r2 h2 rv.2 J;let h3:U1.length=Z.length:=l2.trans h2;rw[<-qp (B.map some),<-qp (vs.map some)]at r3;let r4:=Rel.swap (U1:=B.map some++U') (Z1:=vs.map some++Z') (U2:=[some s]) (Z2:=[some v]) h3 (by simp[l3,rv.2.len,h1]) r3;show#[F2,Y.trans s2,l2.trans l1,by simp[l3],r4]
def EF:∀{rs:List R}{vs:List V}{ms:List Bool}{U U':Env}{ss:List S}{Z':St},Rel K (U++(ss.map some++U')) (Z++(vs.map some++Z')) F G H->U.length=Z.length->ss.length=rs.length->lS Z vs rs->
  (back ms rs ss U).length=U.length/\Rel K (back ms rs ss U++U') (Z++Z') F G H
 |[],[],ms,U,U',[],Z',r,h,_,_=>by
  let e:back ms [] [] U=U:=by cases ms<;>rfl
  show#[rfl,r]
 |[],_,_,_,_,_::_,_,_,_,hl,_=>by simp at hl
 |_::_,_,_,_,_,[],_,_,_,hl,_=>by simp at hl
 |[],_::_,_,_,_,_,_,_,_,_,h=>h.elim
 |_::_,[],_,_,_,_,_,_,_,_,h=>h.elim
 |x::rs,v::vs,ms,U,U',s::ss,Z',r,h,hl,rv=>by
  cases x with
  |v t=>
   let e:back ms (.v t::rs) (s::ss) U=back ms.tail rs ss U:=by cases ms<;>rfl
   show EF (rs:=rs) (vs:=vs) (r.mid h) h ↑hl rv.2
  |loc i=>
   let e:back ms (.loc i::rs) (s::ss) U=if ms.headD false then back ms.tail rs ss (U.set i (some s))else back ms.tail rs ss U:=by cases ms<;>rfl
   rw[e];by_cases z:ms.headD false=true
   .rw[qY z];let q:=EF (rs:=rs) (vs:=vs) (ms:=ms.tail) (U:=U.set i (some s)) (Rel.back1 r h rv.1) ↑h ↑hl rv.2;show#[q.1.trans (by simp),q.2]
   .rw[qZ z];show EF (rs:=rs) (vs:=vs) (r.mid h) h ↑hl rv.2
end
def MU(Fk:cW X.prog X.w X.K X.mg X.base (eY X.prog X.w) k f fd ps (eG X.K wf n))(hr:aR k X.A)(hg:Gl X x)(hm:X.mg x=some (.ref f))(O:W.keepIn X.K (.ref f)=true)(hb:Binds X.K fd ps [])
  (ha:FA X (e::es) wa)(h2:∀ss P PX,wf ss P PX->ss.length=n)(h7:(x==("__debug__":Str))=false:=by decide)(he:starEach (e::es) X.env=(false,eval e X.env)::starEach es X.env:=by rfl)(h5:(backTo pos (starEach es X.env)).any (·.1)=false:=by rfl):
  FE X (.Call (.Name x p) (e::es) [] pos) (zz wf ms wa):=λpn xe hp=>by
 show PE.imp (OX (X:=wp X pn xe) Fk hr hg hm O hb (ha pn xe hp) h7 he h5) λZ H Q q=>?_;show(many (k:=λrs B Q E=>zp (bN ms rs B) λp=>wf p.1 (λs ss=>Q (.v s) (back ms rs ss p.2)) (λx ss=>E x (back ms rs ss p.2))) q).mono λvs H1 h1=>?_;let#[F,G,U,rs,P,PX,h3,hl,L,O,h6,hx]:=h1;let#[#[ss,B],ep,O]:=Ai O;let#[F1,s1,l1,M,r1]:=IP (U':=[]) (Z':=[]) ↑h3 hl L ep;let h1:B.length=Z.length:=l1.trans hl;let r2:=Rel.comm (U':=ss.map some) (Z':=vs.map some) h1 ↑r1;let h4:(ss.map some).length=(vs.map some).length:=by simp[M,L.len]
 let#[G',r3,gg,bk]:=r2.hide h4;let hn:=h2 _ _ _ O;show#[F1,G',ss,_,_,by rw[L.len,<-M];show hn,r3,O,λs J v F2 H2 hp Y l3 r4=>?_,λd J F2 H2 C dx hp Y l3 r4 cd a s' I Fl=>?_]
 .let r5:=bk Y r4;let z:(J.map some++[some s]).length=(vs.map some++[some v]).length:=by simp[l3,M,L.len]
  let r6:=Rel.comm z r5;let#[l7,r7]:=EF (ms:=ms) (rs:=rs) (vs:=vs) (U':=[some s]) (Z':=[some v]) r6 h1 (l3.trans M) L;show h6 _ _ v F2 H2 hp (s1.trans Y) r7 trivial
 .let r5:=bk Y r4;let z:(J.map some).length=(vs.map some).length:=by simp[l3,M,L.len]
  let r6:=Rel.comm z r5;let#[l7,r7]:=EF (ms:=ms) (rs:=rs) (vs:=vs) (U':=[]) (Z':=[]) ↑r6 h1 (l3.trans M) L;show hx d _ Z F2 H2 (.ref a) s' hp rfl (s1.trans Y) ↑r7 I #[a,C,dx,rfl,cd,Fl]
section
variable{K:W.Frag}
def Rel.pushNs(r:Rel K U Z F G H):∀m:Nat,Rel K (U++List.replicate m none) (Z++List.replicate m none) F G H
 |0=>↑r
 |m+1=>by let:=(Rel.pushNs r m).pushN (u:=none);rw[qp,qp,<-List.replicate_succ',<-List.replicate_succ']at this;show this
@[inline]def Args(K:W.Frag)(F:Hp):List S->List V->St->Prop
 |[],[],_=>True
 |s::ss,v::vs,u::Z=>((∃d,s=.sh d/\aI K F v d)\/(s.isSh=false/\u=some v))/\Args K F ss vs Z
 |_,_,_=>False
def FD:∀{ss:List S}{vs:List V}{fs:List S}{U U' Ua:Env}{Z Z' Za:St},aB ss U=some fs->Rel K (Ua++(U++U')) (Za++(Z++Z')) F G H->Ua.length=Za.length->U.length=Z.length->Args K F ss vs Z->
  fs.length=ss.length/\vs.length=ss.length/\Rel K (Ua++(fs.map some++U')) (Za++(vs.map some++Z')) F G H
 |[],[],fs,U,U',Ua,Z,Z',Za,e,r,h,h2,_=>by
  let z:some ([]:List S)=some fs:=by cases U<;>show e
  cases z;show#[rfl,rfl,?_];let J:=Rel.swap (U1:=U) (Z1:=Z) (U2:=U') (Z2:=Z') h h2 r;rw[<-qp,<-qp]at J;let hl:(Ua++U').length=(Za++Z').length:=by let:=r.len;simp at this;simp;lia
  simpa using J.drop hl
 |[],_::_,_,_,_,_,_,_,_,_,_,_,_,h=>by cases h
 |_::_,[],_,_,_,_,_,_,_,_,_,_,_,h=>by cases h
 |_::_,_::_,_,_,_,_,[],_,_,_,_,_,_,h=>by cases h
 |_::_,_::_,_,[],_,_,_::_,_,_,_,_,_,h2,_=>by simp at h2
 |s::ss,v::vs,fs,o::U,U',Ua,u::Z,Z',Za,e,r,h,h2,ha=>by
  let M:U.length=Z.length:=↑h2
  let#[h1,L]:=ha;rcases h1 with⟨d,rfl,rp⟩|⟨hs,hu⟩
  .have z:(aB ss U).map (S.sh d::·)=some fs:=e;cases q:aB ss U with
   |none=>rw[q]at z;cases z
   |some B=>
    rw[q]at z;let h3:S.sh d::B=fs:=qf z;subst h3;let J:Rel K (Ua++(U++U')) (Za++(Z++Z')) F G H:=Rel.mid (U:=Ua) (Z:=Za) r h;let#[l1,Y,O]:=FD q J h M L;let hl:(B.map some++U').length=(vs.map some++Z').length:=by let:=O.len;simp at this;simp;lia
    let r3:=O.push rp;rw[qp Ua,qp Za]at r3;let r4:=Rel.swap (U1:=B.map some++U') (Z1:=vs.map some++Z') (U2:=[some (.sh d)]) (Z2:=[some v]) h hl r3;show#[by simp[l1],by simp[Y],r4]
  .subst hu;let z:∃t B,o=some t/\aB ss U=some B/\fs=t::B:=by
    cases s with
    |sh d=>cases hs
    |_=>
     cases o with
     |none=>cases e
     |some t=>
      let z:(aB ss U).map (t::·)=some fs:=e;cases q:aB ss U with
      |none=>rw[q]at z;cases z
      |some B=>rw[q]at z;show#[t,B,rfl,rfl,(qf z).symm]
   let#[t,B,rfl,q,rfl]:=z;let J:Rel K ((Ua++[some t])++(U++U')) ((Za++[some v])++(Z++Z')) F G H:=↑r
   let#[l1,Y,O]:=FD q J (by simp[h]) M L;show#[by simp[l1],by simp[Y],↑O]
def Ja{ks:List Nat}:∀{ss:List S}{vs:List V}{Z:St}{j:Nat}{fp:List Addr},zu K F0 H (ss.map some) (vs.map some) fp->zr F0 F->(∀i s,ss[i]?=some s->(j+i)∈ks\/s.isSh=true)->
  (∀i v,vs[i]?=some v->(j+i)∈ks->Z[i]?=some (some v))->vs.length<=Z.length->Args K F ss vs Z
 |[],[],_,_,_,_,_,_,_,_=>trivial
 |[],_::_,_,_,_,r,_,_,_,_=>by cases r
 |_::_,[],_,_,_,r,_,_,_,_=>by cases r
 |_::_,_::_,[],_,_,_,_,_,_,h=>by simp at h
 |s::ss,v::vs,u::Z,j,_,.so a b,sm,hk,hv,hl=>by
  show#[?_,Ja (j:=j+1) b sm (λi t e=>by let:=hk (i+1) t e;rwa[show j+(i+1)=j+1+i by lia]at this) (λi t e z=>by simpa using hv (i+1) t ↑e (by rwa[show j+(i+1)=j+1+i by lia])) ↑hl];cases B:s.isSh with
  |true=>
   cases s with
   |sh d=>cases a with
    |sh r=>show .inl #[d,rfl,r.mono sm]
   |_=>cases B
  |false=>show .inr #[rfl,?_];let:=hk 0 s rfl;rw[B]at this;let z:(j+0)∈ks:=this.resolve_right (by simp);simpa using hv 0 v rfl z
theorem HG{st:Stmt}(Fn:nB K x qual st f fd)(Sc:aE N ps (aA st))(hn:ps.length=n)(hm:N.length=m)
  (hb:∀(O:Value)(A:Around)(B:List PySem.Env)(s:Shared)(H:Hp)(E:XK),aR k (A.deeper (envOfC qual (aA st) s.heap.objs.size f O))->jH (dA (eY P w) P w K mg base N qual (aA st) f O A B s H E) ks (aU st) wb):
  cW P w K mg base (eY P w) (k+1) f fd ps (eG K (gB n m ks wb) n):=by
 show Fn.okX Sc (λvs H Q E h=>?_) (λO A B s H vs Q E hr h=>?_)
 .obtain⟨F,G,ss,P',PX,hl,_⟩:=h;rw[hl,hn]
 .obtain⟨F,G,ss,P',PX,h5,h2,⟨e2,e1,h1⟩,h8,hex⟩:=h;show#[_,hb O A B s H E hr [] (dA (eY P w) P w K mg base N qual (aA st) f O A B s H E).xe PassesOwn.leaving,?_];let h9:N.length-vs.length=m-n:=by rw[h5,hm]
  let h7:Rel K (ss.map some++List.replicate (m-n) none) (L2.start N vs) F G H:=by unfold L2.start;rw[h9];show h2.pushNs (m-n)
  let h6:∀i v,vs[i]?=some v->(L2.start N vs)[i]?=some (some v):=λi v e=>by unfold L2.start;let hi:i<vs.length:=(qg.mp e).1;rw[getElem?_append_left ↑hi,qE,e];rfl
  --how the arguments are at an end
  have h3:∀{U':Env}{Z':St}{F':Hp}{fs:List S},KP ks (L2.start N vs) Z'->zr F F'->U'.length=Z'.length->aB ss U'=some fs->Args K F' ss vs Z':=by
   intro U' Z' F' fs L J M e;let#[fp,en,_]:=h2.en;let h4:vs.length<=Z'.length:=by
    --aB reads as many slots as there are arguments
    have:∀(ss:List S)(U:Env)(fs:List S),aB ss U=some fs->ss.length<=U.length:=by
     intro ss;induction ss with
     |nil=>intro U fs _;simp
     |cons s ss ih=>
      intro U fs e;cases U with
      |nil=>cases s<;>cases e
      |cons o U=>
       have:∃gs,aB ss U=some gs:=by
        cases q:aB ss U with
        |some gs=>show#[gs,rfl]
        |none=>
         cases s with
         |sh d=>have e':(aB ss U).map (S.sh d::·)=some fs:=e;rw[q]at e';cases e'
         |_=>
          cases o with
          |none=>cases e
          |some t=>have e':(aB ss U).map (t::·)=some fs:=e;rw[q]at e';cases e'
       let#[gs,q]:=this;let:=ih U gs q;simp;show this
    let:=this ss U' fs e;lia
   show Ja (ks:=ks) (F:=F') (Z:=Z') (j:=0) en J (λi s e=>by simpa using e1 i s e) (λi v e z=>by rw[L i ↑z];show h6 i v e) h4
  let Y:∀{U':Env}{Z':St}{F' H':Hp}{t:S}{v:V}{fs:List S},KP ks (L2.start N vs) Z'->zr F F'->Rel K (U'++[some t]) (Z'++[some v]) F' G H'->aB ss U'=some fs->P' t fs->Q v H':=by intro U' Z' F' H' t v fs L J r e hp;let M:U'.length=Z'.length:=Ag r;let#[l1,l2,r1]:=FD (Ua:=[]) (Za:=[]) (U':=[some t]) (Z':=[some v]) e r rfl M (h3 L J M e);show h8 t fs v F' H' hp J l1 r1
  show#[F,G,_,_,h7,h1,λU' Z' F' H' h L J r=>?_,λU' Z' F' H' h=>h.elim,λU' Z' F' H' h=>h.elim,λa U' Z' v F' H' h L J r rv=>?_,λd U' Z' F' H' u s' h L J r I xr=>?_]
  .obtain⟨fs,e,h⟩:=Ai h;show Y L J (r.push .non) e h
  .cases a with
   |v t=>let#[fs,e,h]:=Ai h;show Y L J r e h
   |loc i=>
    let#[t,et,h]:=Ai h;let hl:=Ag r;by_cases hi:i<n
    .rw[qY hi]at h;let#[fs,e,h]:=Ai h;let#[F2,s2,_,r2]:=AC (x:=.loc i) (s:=.sh t.toD) (U1:=U'.set i (some (.sh t.toD))) (U':=[]) (Z':=[]) r hl rv (by show(match slot U' i with|some s=>some (S.sh s.toD,U'.set i (some (.sh s.toD)))|none=>none)=_;rw[et]);show Y L (J.trans s2) r2 e h
    .rw[qZ hi]at h;let#[fs,e,h]:=Ai h;let r2:=Rel.lend (U':=[]) (Z':=[]) r hl et rv;refine Y L J r2 ?_ h
     --the slot lies behind the parameters
     have:∀(ss:List S)(U:Env)(i:Nat),ss.length<=i->aB ss (U.set i none)=aB ss U:=by
      intro ss;induction ss with
      |nil=>intro U i _;cases U<;>cases i<;>rfl
      |cons s ss ih=>
       intro U i hi;cases U with
       |nil=>rfl
       |cons o U=>
        cases i with
        |zero=>simp at hi
        |succ i=>
         let e:=ih U i ↑hi;cases s with
         |sh d=>show(aB ss (U.set i none)).map _=(aB ss U).map _;rw[e]
         |_=>
          cases o with
          |none=>rfl
          |some t=>show(aB ss (U.set i none)).map _=(aB ss U).map _;rw[e]
     rw[this ss U' i ∅];show e
  .obtain⟨fs,e,h⟩:=Ai h;let#[a,C,dx,rfl,cd,Fl]:=xr;let#[l1,l2,r1]:=FD (K:=K) (Ua:=[]) (Za:=[]) (U':=[]) (Z':=[]) e (by simpa using(show Rel K U' Z' F' G H' from r)) rfl r.len (h3 L J r.len e);show OR I Fl (hex d fs F' H' C dx h J l1 ↑r1 cd)
end
@[inline]def ClsAt(h:Heap)(C:Addr)(bm:List Value):Prop:=∃nm q N bs hdct sn sub ab col dd k0 k1 k2 k3 k5 newId,h.get? C=some (excClassObj nm q C N bs bm hdct sn sub ab col dd k0 k1 k2 k3 k5 newId)/\bm.contains (.type "BaseException")=true
def ClsAt.keeps(k:∀b o,h.get? b=some o->h'.get? b=some o)(c:ClsAt h C bm):ClsAt h' C bm:=by let#[nm,q,N,bs,B,G,sub,ab,F,dd,Y,O,M,L,J,z,hC,hb]:=c;show#[nm,q,N,bs,B,G,sub,ab,F,dd,Y,O,M,L,J,z,k _ _ hC,hb]
def RQ{M:Model}{A:Around}{E:zj}{s:Shared}{e C B:Addr}{oe:Obj}{bm F:List Value}{Q:Bool->Shared->Prop}(hC:ClsAt s.heap C bm)(J:ClsAt s.heap B F)(he:s.heap.get? e=some oe)(z:oe.cls=.ref C)
  (hm:(Value.ref C::bm).contains (.ref B)=true)(hq:Q true s):wpAny M A (excMatches (.ref e) (.ref B)) Q E s:=by
 let#[nm,q,N,bs,h3,sn,sub,ab,e4,dd,k0,k1,k2,k3,k5,L,hC,hb]:=hC;let#[h6,q',N',hk,O,h5,h2,hx,h4,e3,e2,e1,h9,h8,h7,G,J,h1]:=J;let Y:(Value.ref B::F).contains (.type "BaseException")=true:=by rw[List.contains_cons,h1,Bool.or_true]
 let f:=tc_notTuple
 repeat (first|(with_reducible show wpAny_loadPart_at he ?_;rw[z])|with_reducible show wpAny_loadPart_at J ?_|(with_reducible show wpAny_isSubtype_exc hC ?_;rw[hm])|(with_reducible show wpAny_isSubtype_exc J ?_;rw[Y])|wp_step)
 show hq
abbrev hX(X:Cx)(e:Addr):Cx:={X with A:=X.A.mark (some (.ref e)),calm:=false}
def Inv.wp'(I:Inv (wp X pn xe) zF Z H s)(h:∀p∈z++pins',p∈pn++zF):Inv (wp X z B) pins' Z H s:=
 ⟨⟨I.ok.mod,I.ok.kind,I.ok.glob,I.ok.blt,I.ok.above,I.ok.inj,I.ok.has,I.ok.cab,I.ok.hd,I.ok.frames,I.ok.stk,I.ok.exf,I.ok.bs,I.ok.bsz,I.ok.noex,I.ok.exfs,I.ok.funs,I.ok.frf⟩,
   I.os,I.bare,I.base,I.loc,I.cell,I.free,I.freeC,λp F=>I.pin p (h p F),I.hok,I.len⟩
def Inv.held(I:Inv (wp X pn xe) zF Z H s)(h:∀p∈B++pins',p∈pn++zF):Inv (wp (hX X e) B F) pins' Z H s:=
 ⟨⟨I.ok.mod,I.ok.kind,I.ok.glob,I.ok.blt,I.ok.above,I.ok.inj,I.ok.has,I.ok.cab,λz=>(by cases z),I.ok.frames,I.ok.stk,I.ok.exf,I.ok.bs,I.ok.bsz,I.ok.noex,I.ok.exfs,I.ok.funs,I.ok.frf⟩,
   I.os,I.bare,I.base,I.loc,I.cell,I.free,I.freeC,λp G=>I.pin p (h p G),I.hok,I.len⟩
def Inv.let(I:Inv (wp (hX X e) z B) pins' Z H s)(G:X.calm=true->X.A.handled=none)(h:∀p∈pn++zF,p∈z++pins'):Inv (wp X pn xe) zF Z H s:=
 ⟨⟨I.ok.mod,I.ok.kind,I.ok.glob,I.ok.blt,I.ok.above,I.ok.inj,I.ok.has,I.ok.cab,G,I.ok.frames,I.ok.stk,I.ok.exf,I.ok.bs,I.ok.bsz,I.ok.noex,I.ok.exfs,I.ok.funs,I.ok.frf⟩,
   I.os,I.bare,I.base,I.loc,I.cell,I.free,I.freeC,λp F=>I.pin p (h p F),I.hok,I.len⟩
def fZ.wp'{H:Hp}(F:fZ (wp X pn xe) zF H h e cls dx)(hs:∀p∈z++pins',p∈pn++zF):fZ (wp X z B) pins' H h e cls dx:=by
 let g:∀{b},bB (wp X pn xe) zF H b->bB (wp X z B) pins' H b:=λf=>#[f.1,f.2.1,f.2.2.1,f.2.2.2.1,f.2.2.2.2.1,λp M=>f.2.2.2.2.2 p (hs p M)]
 let#[f,J,vs,h1,h2,O,h3,Y]:=F;show#[g f,J,vs,h1,h2,O,h3,Y.imp id ?_];rintro⟨T,L,G,a1,a2,a3,a4⟩;show#[T,L,G,a1,a2,g a3,a4]
def SP.wp'{D:L2.Ends}(h:∀p∈pn++zF,p∈F++pins')(z:SP (wp X F G) pins' D f s):SP (wp X pn xe) zF D f s:=by
 cases f with
 |next=>let#[B,H',I,q]:=z;show#[B,H',Inv.wp' I h,q]
 |brk=>let#[B,H',I,q]:=z;show#[B,H',Inv.wp' I h,q]
 |cont=>let#[B,H',I,q]:=z;show#[B,H',Inv.wp' I h,q]
 |ret u=>let#[v,B,H',I,r,q]:=z;show#[v,B,H',Inv.wp' I h,r,q]
def lM(X:Cx)(cs:List (List Nat))(B:Addr):Prop:=∀c∈cs,∃C bm,W.nsIn X.K mainGlobals (#[c.toArray]:Str)=some (some (.ref C))/\ClsAt X.base C bm/\(Value.ref C::bm).contains (.ref B)=true
def Inv.adopt{zF:List (Addr×Obj)}{Z:St}{H:Hp}{s:Shared}{e:Addr}(I:Inv X zF Z H s)(F:fZ X zF H s.heap e (.ref C) dx):Inv X zF Z (upd H e (.ext (gM e C dx))) s:=by
 let#[#[f0,f1,f2,f3,f4,f5],J,vs,L,hc,O,Y,_]:=F;let B:∀b o,H b=some o->b≠e:=λb o q z=>by rw[z,f0]at q;cases q
 show I.call' (ch:=[e]) rfl #[λb o q _ _ _=>q,λb o q _ _ _=>#[o.slots,q],λb o _ n x=>(Ah λz=>x (by simp[z])).trans n,λb o q _=>#[o,q],λb xs q=>(Ah (B _ _ q)).trans q,λb o u q=>(Ah (B _ _ q)).trans q,λb ps q=>#[#[],by rw[Ah (B _ _ q),q];simp]] (λb o q=>?_) I.bare λb G=>?_
 .by_cases G:b=e
  .subst G;rw[AQ]at q;cases q;show#[#[J,vs,L,hc,O,Y],#[J,L],λh1 h2 z k=>?_];let#[o,M,a1,a2,a3]:=z;show#[o,M,k _ a1,a2,a3]
  .rw[Ah G]at q;show(I.hok b o q).stay (λ_ _ _ z=>z) (λc z=>(Ah (B _ _ z)).trans z) λc xs z=>(Ah (B _ _ z)).trans z
 .rw[qu.mp G];show#[f3,f1,f4,f5]
def HD{zF:List (Addr×Obj)}{Z:St}{H:Hp}{s:Shared}{i:Nat}{y:Str}{M:Model}{A:Around}{E:zj}{Q:Unit->Shared->Prop}(I:Inv X zF Z H s)(hN:∀j,X.N[j]?=some y->j=i)(hk:X.env.scope.names.lookup y=some .local)(h:∀s',Inv X zF (Z.set i none) H s'->Q () s'):
  wpAny M A (do bindName X.env y .none;unbindBehindTheSuite X.env y pos) Q E s:=by
 let#[m,hn,hl]:=id I.loc;let hcls:(X.env.scope.kind==.class||(X.env.scope.kind==.module&&X.env.locals !=X.env.globals))=false:=by rw[I.ok.kind];rfl
 let cne:=I.cne;show wpAny_nameGoes_keeps hk hn hcls λh' v hn' hs=>h _ #[I.ok,I.os,I.bare,#[λb o e n hb hx=>?_,λb o e n hb hx=>?_,I.base.free,λb o e hx=>?_,I.base.tups,I.base.frzs,I.base.tbls],#[_,hn',λj z v' e1 e2 e3=>?_],λy c e=>?_,I.free,I.freeC,λp hp=>?_,λb ob e=>?_,↑I.len]
 .show(hs.2 b (ne_of_lt (lt_of_lt_of_le (qe e) I.ok.above))).trans (I.base.keep b o e n hb hx)
 .obtain⟨sl,e1⟩:=I.base.slot b o e n hb hx;show#[sl,(hs.2 b (ne_of_lt (lt_of_lt_of_le (qe e) I.ok.above))).trans e1]
 .obtain⟨o',e1⟩:=I.base.there b o e hx;show#[o',(hs.2 b (ne_of_lt (lt_of_lt_of_le (qe e) I.ok.above))).trans e1]
 .let hj:i≠j:=λq=>by grind
  rw[getElem?_set_ne hj]at e2;let#[u',r',q]:=hl j z v' e1 e2 e3;show#[u',r',?_];rcases q with⟨k,e⟩|⟨k,c,e,w⟩
  .show .inl #[k,?_];let:z≠y:=λe=>hj (hN j (e▸e1)).symm;simp[this,e]
  .show .inr #[k,c,e,w.sameBut hs (cne z c e)]
 .obtain⟨w',z⟩:=I.cell y c e;show#[w',z.sameBut hs (cne y c e)]
 .obtain⟨e,n,ne,nf,d⟩:=I.pin p hp;show#[(hs.2 p.1 ne).trans e,n,ne,nf,d]
 .show(I.hok b ob e).stay (λc w' hc q=>(hs.2 c ?_).trans q) (λ_ q=>q) λ_ _ q=>q;rintro rfl;let:=I.free;rcases hc with hc|hc
  .rw[<-hc,this]at e;cases e
  .rw[this]at hc;cases hc
def ON{j:Nat}{y:Str}(hk:j∉ks)(hN:∀i,X.N[i]?=some y->i=j)(hj:X.N[j]?=some y)(hy:X.env.scope.names.lookup y=some .local)(ha:X.stack=X.env::X.outer)(hf:X.env.frame=some X.env.locals)(hg:Gl X x)(hB:X.mg x=some (.ref B))(cB:ClsAt X.base B bmB)(k2:lM X cs B)(hb:jH X ks body wb)(hs:∀e,jH (hX X e) ks (b0::suite) ws)
  (k1:(x==("__debug__":Str))=false:=by decide):FS X ks (.Try body [.ExceptHandler (some (.Name x np)) (some y) (b0::suite) hpos] [] [] pos) (fR cs j wb ws):=by
 intro pn xe M zF s Z H D I q;let#[F,G,U,E,hc,hw,n,b,c,r,hx]:=q;let hd:X.calm=true->X.A.handled=none:=I.ok.hd;show wpAny_Try_except (Af (hb (pn++zF) (λe h8=>wpAny (model X.prog X.w) X.A (noteFrame e X.env) (λ_ h7=>wpAny (model X.prog X.w) X.A (setFlight e none) (λ_ h6=>wpAny (model X.prog X.w) X.A (handleBy e X.env [.ExceptHandler (some (.Name x np)) (some y) (b0::suite) hpos]) (SP (wp X pn xe) zF D) xe h6) xe h7) xe h8) PassesOwn.looking [] s Z H D (Inv.wp' I λp M=>by simpa using M) ?_) λf s1 z=>?_)
 .refine#[F,G,U,_,hc,hw,n,b,c,r,λd e3 O F' H' u s' M r2 sm L I' xr=>?_];let#[#[c0,hc0,fs0,e4,rfl],hq]:=M;let#[e,C,dx,rfl,#[c',fs',vs',ec,e1,hr],Fl]:=xr;cases ec;let#[C',bm,h3,hC,hm]:=k2 c0 hc0;rw[h3]at e1;cases e1;let J:Inv (wp X pn xe) zF O H' s':=Inv.wp' I' λp M=>by simpa using M
  show JO (X:=wp X pn xe) (zF:=zF) ha hf J (fZ.wp' Fl λp M=>by simpa using M) λh1 J1 F1=>?_;show wpAny_handleBy_cons (codeAny_handlers_test ?_) (by intro q;cases q);let J2:Inv (wp (hX X e) pn (λ_ _=>False)) zF O H' {s' with heap:=h1}:=Inv.held J1 λ_ z=>z;show EE (X:=wp (hX X e) pn (λ_ _=>False)) J2 hg hB ?_ k1;let#[_,oe,vs,he,k3,_]:=id F1;show RQ (hC.keeps J2.bk) (cB.keeps J2.bk) he k3 hm ?_;show codeAny_handlers_suite_as (QN (X:=wp X pn xe) J1 F1 λh2 J3 F3=>?_);let J4:Inv (wp (hX X e) (pn++zF) (λ_ _=>False)) [] O (upd H' e (.ext (gM e C dx))) {s' with heap:=h2}:=Inv.held (Inv.adopt (X:=wp X pn xe) J3 F3) λp M=>↑M
  have hl:=L.len;let h4:=F3.1.1;let h9:Rel X.K (e3.set j (some (.sh (.exc c0 fs0 e4)))) (O.set j (some (.ref e))) (upd F' e (.ext (gM e C dx))) G (upd H' e (.ext (gM e C dx))):=
   Rel.store ((L.newF h4).push (.exc AQ h3 (hr.mono (zr.upd (L.free h4).1)))) hl (by rw[hl,J.len];show(qg.mp hj).1)
  show Kt (X:=wp (hX X e) (pn++zF) (λ_ _=>False)) (v:=.ref e) J4 hN hj (.inl hy) rfl (λs4 J5 _=>?_) (.inr hy);show zi (hs e (pn++zF) (λ_ _=>False) PassesOwn.never [] _ _ _ {nx:=λY H2=>D.nx (Y.set j none) H2,rt:=λ_ _=>False} J5 ?_) (λf s2 z=>?_) λ_ _ z=>z.elim
  .refine#[_,G,_,_,h9,hq,λh5 Y F2 H2 h k s r=>?_,λ_ _ _ _ h=>h.elim,λ_ _ _ _ h=>h.elim,λ_ _ _ _ _ _ h=>h.elim,λd h5 Y F2 H2 u s2 p=>p.elim];let r1:=r.len;refine n _ _ F2 H2 h (λi hi=>?_) (sm.trans ((zr.upd (L.free h4).1).trans s)) ?_
   .let e2:j≠i:=λz=>hk (z▸hi);rw[getElem?_set_ne e2,k i hi,getElem?_set_ne e2];show r2 i hi
   .by_cases r3:j<h5.length
    .show Rel.store (r.pushN (u:=none)) r1 r3
    .rw[List.set_eq_of_length_le ∅,List.set_eq_of_length_le ∅];show r
  .cases f with
   |next=>let#[Y,H2,J6,q]:=z;show HD (X:=wp X pn xe) (zF:=zF) (Inv.let J6 hd λp M=>by simpa using M) hN hy λs5 J7=>#[_,H2,J7,q]
   |brk=>let#[_,_,_,q]:=z;show q.elim
   |cont=>let#[_,_,_,q]:=z;show q.elim
   |ret u=>let#[_,_,_,_,_,q]:=z;show q.elim
 .let z':SP (wp X pn xe) zF D f s1:=SP.wp' (λp M=>by simpa using M) z;cases f with
  |next=>let#[O,H',I',q]:=z';show IH (X:=wp X pn xe) zF s1 O H' D I' q
  |brk=>show z'
  |cont=>show z'
  |ret u=>show z'
end FL
namespace FL
open PySem PySem.Spec PySem.Calls PyProof.Rows PySem.W L2
structure lJ(K:Frag)(C:Addr):Prop where
 ga:findIn K (.ref C) "__getattribute__"=some (some (.builtin "BaseException.__getattribute__"))
 gt:findIn K (.ref C) "__getattr__"=some none
 cl:findIn K (.ref C) "__class__"=some (some (.builtin "object.__class__"))
 hn:specialIn K (.builtin "object.__class__") "__get__"=some (some (.builtin "getset_descriptor.__get__"))
 tk:takesIn K (.builtin "object.__class__")=some true
 ob:mroIn K C (.type "object")=some true
 be:mroIn K C (.type "BaseException")=some true
section
variable{K:Frag}{x C D:Addr}
def Oj(z:Value):bindSpecial (.builtin "BaseException.__getattribute__") z=pure (.builtin "BaseException.__getattribute__",[z]):=F.attr_ValueError.ga.bind z
def JX{fill B:Bool}{tk:Tok}{Q:zj}(X:K.In s.heap)(I:InstAt s.heap x ox D h1)(k:lJ K D)
  (h:∀(A:Around)(Y:Fin->Shared->Prop)(E':zj),(∀v s',handedOut v=pure v/\Q v s'->Y (.done (.ret v)) s')->wpAny (model prog w) A (Builtin.«object.__getattribute__» #[[.ref x,.str name tk],[]]) Y E' s):
  wpAny (model prog w) A (getAttrBy (.ref x) (.str name tk) fill B) Q E s:=by
 let#[hh,gg,d,t,os]:=s;let L0:=I.type (M:=model prog w);let L1:=looks_findIn (M:=model prog w) X k.ga;let L2:=looks_findIn (M:=model prog w) X k.gt;let L3:=looks_mroIn (M:=model prog w) X k.be;let O:(B&&onTheHeap (Value.builtin "BaseException.__getattribute__"))=false:=by cases B<;>rfl
 let J:(Value.builtin "BaseException.__getattribute__"==Value.builtin "object.__getattribute__")=false:=by decide+kernel
 let L:(onTheHeap (Value.ref D)&&Value.builtin "BaseException.__getattribute__"==Value.builtin "object.__getattribute__")=false:=by rw[J];rfl
 unfold getAttrBy;show zg (qa (L0.at (qa (L1.at ?_))));dsimp only;rw[qZ (by rw[L];decide)];unfold getAttrByItsOwn hookBefore;rw[qY (show onTheHeap (Value.ref D)=true from rfl)];show qa (L2.at (qa (wpAny_attempt (zg ?_))));unfold callGetattribute;rw[qZ (by rw[O];decide)];unfold boundAndCalled;rw[Oj];show qa (qb ?_);show wpAny_call (codeAny_call_builtin (by decide+kernel) F.entry_bexc_ga ?_);let hk:builtinKind "BaseException.__getattribute__"=some .slot:=by decide+kernel
 let G:splitId "BaseException.__getattribute__"=some ("BaseException","__getattribute__"):=by decide+kernel
 let ha:=F.args_bexc_ga (.ref x) (.str name tk);simp only[checkBuiltinCall,hk,G];show qa ?_;unfold isInstance;show qa (L0.at (L3.at ?_))
 repeat (first|(show h _ _ _ λv s' z=>?_)|wp_step)
 let#[z1,z2]:=z;show wpAny _ _ (handedOut v) _ _ _;rw[z1];show qb z2
def NC{fill B:Bool}{tk:Tok}{Q:zj}(X:K.In s.heap)(I:InstAt s.heap x Y D F)(k:lJ K D)(J:findObj K D F name=some (.bind g a))
  (h:∀A,wpAny (model prog w) A (call g [a,.ref x,.ref D]) (λv s'=>handedOut v=pure v/\Q v s') (λ_ _=>False) s):
  wpAny (model prog w) A (getAttrBy (.ref x) (.str name tk) fill B) Q E s:=JX X I k λA Q' E' G=>by
 let O:=I.type (M:=model prog w);let L:=looks_find (M:=model prog w) X I J;show qa (qb (qa (qb (qa (O.at (qa (L.at ?_)))))));show qa (zg (zi (h _) (λv s' z=>qb (G v s' z)) λ_ _ z=>z.elim))
def Nz{Q:Option Value->Shared->Prop}(X:K.In s.heap)(I:InstAt s.heap x G D z)(k:lJ K D)(h:Q (some (.ref D)) {s with toks:=s.toks+1}):wpAny (model prog w) A (getAttr? (.ref x) "__class__") Q E s:=by
 have B:(clsIn K D).isSome=true:=by
  let:=k.ob;unfold mroIn at this;cases q:clsIn K D with
  |none=>rw[q]at this;cases this
  |some _=>rfl
 let F:findObj K D z "__class__"=some (.bind (.builtin "getset_descriptor.__get__") (.builtin "object.__class__")):=by let#[J,B]:=isSome_iff_exists.mp B;unfold findObj;rw[B,k.cl,bind_some];simp[k.hn,k.tk]
 show qa (wpAny_mkText (qa (wpAny_attempt ?_)));show NC (s:={s with toks:=s.toks+1}) X I k F λA=>wpAny_call (class_get (s:={s with toks:=s.toks+1}) X I k.ob #[rfl,qb h])
def Jt{x C:Addr}{odo:Option Obj}(k:lJ K C):KitX K (.ref x) (.ref C) (λh=>∃ox,InstAt h x ox C odo) where
 ty:=λ_ _ _⟨_,I⟩=>I.type
 it:=λ_ _ X _=>by
  let hc:=k.ob;unfold mroIn clsIn at hc;split at hc
  .rename_i c' d' cd' sl' ho;intro A' Q' E' s' k q;show qa (wpAny_loadPart (k _ _ (X _ _ ho)) (qb q))
  .cases hc
 ne:=λh tp dd zJ n sl X htp=>by
  let hc:=k.ob;show Bool.eq_false_iff.mpr λq=>?_;let e:C=tp:=Value.ref.inj (beq_iff_eq.mp q);subst e;unfold mroIn clsIn at hc;split at hc
  .rename_i c' d' cd' sl' ho;let z:=(X _ _ ho).symm.trans htp;cases z
  .cases hc
 ca:=λX⟨_,I⟩ q=>Nz X I k q
end
end FL
namespace FL
open PySem PySem.Spec PyProof.Rows L2
open PySem.W (kitOne kitAny nsIn kia_one kia_tup kitx_none)
def cV(K:W.Frag)(kn yes:List (List Nat))(z:Value):Prop:=kitOne K (.type "NoneType") z=some false/\∀c∈kn,∃C,nsIn K mainGlobals (#[c.toArray]:Str)=some (some (.ref C))/\lJ K C/\kitOne K (.ref C) z=some (yes.contains c)
def eX(K:W.Frag)(kn yes:List (List Nat))(z:List Value):Prop:=kitAny K (.type "NoneType") z=some false/\∀c∈kn,∃C,nsIn K mainGlobals (#[c.toArray]:Str)=some (some (.ref C))/\lJ K C/\kitAny K (.ref C) z=some (yes.contains c)
section
variable{X:Cx}{s:Shared}
def Iz{c:List Nat}{fs:List (List Nat)}{vs:List D}(e:tX kn yes (.exc c fs vs)=some b):c∈kn/\yes.contains c=b:=by
 let z:(if kn.contains c then some (yes.contains c)else none)=some b:=e;split at z
 .rename_i h;show#[↑h,qf z]
 .cases z
def Jw{a C:Addr}{dx:Option Addr}{fs:List (List Nat)}{vs:List D}(z:cX X.prog X.w H s.heap)(Y:H a=some (.ext (gM a C dx)))(L:jR H dx fs vs):∃B J,W.InstAt s.heap a J C B:=by
 let#[#[o,ws,h1,h2,G,O],_,_]:=(show zE X.prog X.w H s.heap a (.ext (gM a C dx)) from z a _ Y)
 let F:W.notCls o=true:=by unfold W.notCls;rw[O]
 rcases L with⟨rfl,_⟩|⟨p,f,i,rfl,_,_,e⟩
 .show#[none,o,h1,h2,F,by rw[G];trivial]
 .obtain⟨u,M⟩:=zE.there (z p _ e);show#[some u,o,h1,h2,F,by rw[G];show M]
def OG(I:Inv X zF Z H s)(F:zw x u)(G:aI X.K H x d)(e:tX kn yes d=some b)(hi:cV X.K kn yes cv)(h:∀tk,Q (.bool b) {s with toks:=tk}):
  wpAny (model X.prog X.w) A (call (.builtin "isinstance") [u,cv]) Q E s:=by
 cases G with
 |non=>cases(show u=Value.none from F);cases e;show kia_one kitx_none I.kIn True.intro hi.1 (λz=>nomatch z) h
 |@exc a C dx c fs vs ea Y O=>cases(show u=Value.ref a from F);let#[hc,rfl]:=Iz e;let#[C',B,k,q]:=hi.2 _ hc;rw[Y]at B;cases B;let#[M,L,J]:=Jw I.hok ea O;show kia_one (Jt k) I.kIn #[L,J] q (λz=>nomatch z) h
 |_=>cases e
def OQ{L:Addr}{dd:Option Addr}{B:List Value}{n:Nat}{O:Array (Option Value)}(I:Inv X zF Z H s)(M:zw x u)(Y:aI X.K H x d)(e:tX kn yes d=some b)(hi:eX X.K kn yes B)(F:s.heap.get? L=some #[.type "tuple",dd,.seq B.toArray n,O])(h:∀tk,Q (.bool b) {s with toks:=tk}):
  wpAny (model X.prog X.w) A (call (.builtin "isinstance") [u,.ref L]) Q E s:=by
 cases Y with
 |non=>cases(show u=Value.none from M);cases e;show kia_tup kitx_none I.kIn True.intro F hi.1 (λz=>nomatch z) h
 |@exc a C dx c fs vs ea hn hx=>cases(show u=Value.ref a from M);let#[hc,rfl]:=Iz e;let#[C',G,k,q]:=hi.2 _ hc;rw[hn]at G;cases G;let#[h1,ox,J]:=Jw I.hok ea hx;show kia_tup (Jt k) I.kIn #[ox,J] F q (λz=>nomatch z) h
 |_=>cases e
end
def HZ(hg:Gl X "isinstance")(hm:X.mg "isinstance"=none)(hv:bootBuiltins "isinstance"=some (.builtin "isinstance"))
  (hT:∀(pn:List (Addr×Obj))(xe:zj)(zF:List (Addr×Obj))(Z:St)(H:Hp)(s:Shared)(Q:zj)(E:zj),Inv (wp X pn xe) zF Z H s->Q cv s->wpAny (model X.prog X.w) X.A (eval (.Name T pt) X.env) Q E s)
  (hi:cV X.K kn yes cv)(ha:FE X a wa)
  (he:starEach [a,.Name T pt] X.env=(false,eval a X.env)::starEach [.Name T pt] X.env:=by rfl)(h1:starEach [.Name T pt] X.env=[(false,eval (.Name T pt) X.env)]:=by rfl)(M:(backTo pos (starEach [.Name T pt] X.env)).any (·.1)=false:=by rfl):
  FE X (.Call (.Name "isinstance" p) [a,.Name T pt] [] pos) (gE kn yes wa):=λpn xe hp=>by
 intro zF s Z H Q I h;show wpAny_Call_Name_kw (DN (X:=wp X pn xe) I hg hm hv ?_ ⋯ ⋯);show PyProof.Rows.callWith_builtin1 ?_ he M;rw[he];show Calls.spliced_cons (Af (ha pn xe hp zF s Z H _ I (one (k:=λx B Q E=>zp (view x B) λd=>zp (tX kn yes d) λb=>Q (.v (.sh (.bl b))) B) h)) λu s1 zq=>?_);let#[x,H1,Y,r1,q1]:=zq;show Calls.spliced_cons (hT pn xe zF Z H1 s1 _ _ Y (Calls.spliced_nil ?_));let#[F,G,U,y,P,PX,J,hl,ry,L,O,hx]:=q1;let#[d,ed,L]:=Ai L;let#[b,eb,L]:=Ai L;let rp:=Ap (U':=[]) (Z':=[]) J hl ry ed;show OG Y r1 rp eb hi λtk=>#[.bl _,H1,Y.kept λ_ _ z=>z,rfl,?_]
 show O _ U _ F H1 L (zr.refl F) ((J.drop hl).push (.bl _)) trivial
def Oh{B:Addr}(O:Gl X "isinstance")(M:X.mg "isinstance"=none)(L:bootBuiltins "isinstance"=some (.builtin "isinstance"))(F:Gl X T)(z:X.mg T=some (.ref B))(hi:cV X.K kn yes (.ref B))(ha:FE X a J)(G:(T==("__debug__":Str))=false:=by decide)
  (Y:starEach [a,.Name T pt] X.env=(false,eval a X.env)::starEach [.Name T pt] X.env:=by rfl):FE X (.Call (.Name "isinstance" p) [a,.Name T pt] [] pos) (gE kn yes J):=
 HZ O M L (λpn xe zF Z H s Q E I q=>EE (X:=wp X pn xe) I F z q G) hi ha Y
def NF{TS:String}(Y:Gl X "isinstance")(O:X.mg "isinstance"=none)(M:bootBuiltins "isinstance"=some (.builtin "isinstance"))(G:Gl X T)(F:X.mg T=none)(z:bootBuiltins T=some (.type TS))(hi:cV X.K kn yes (.type TS))(ha:FE X a L)(B:T≠"__name__":=by decide)(J:(T==("__debug__":Str))=false:=by decide)
  (he:starEach [a,.Name T pt] X.env=(false,eval a X.env)::starEach [.Name T pt] X.env:=by rfl):FE X (.Call (.Name "isinstance" p) [a,.Name T pt] [] pos) (gE kn yes L):=
 HZ Y O M (λpn xe zF Z H s Q E I q=>DN (X:=wp X pn xe) I G F z q B J) hi ha he
inductive sI(X:Cx):List Expr->List Value->Prop
 |nil:sI X [] []
 |cons {x:Str} {p:Pos} {B:Addr} {es:List Expr} {vs:List Value}:Gl X x->X.mg x=some (.ref B)->(x==("__debug__":Str))=false->sI X es vs->sI X (.Name x p::es) (.ref B::vs)
def sI.run{es:List Expr}{vs:List Value}(n:sI X es vs):∀{pn:List (Addr×Obj)}{xe:zj}{zF:List (Addr×Obj)}{Z:St}{H:Hp}{s:Shared}{Q:List Value->Shared->Prop}{E:zj},Inv (wp X pn xe) zF Z H s->Q vs s->wpAny (model X.prog X.w) X.A (spliced (backTo pos (starEach es X.env))) Q E s:=by
 induction n with
 |nil=>show λI q=>Calls.spliced_nil q
 |@cons x p B es vs G F J _ z=>intro pn xe zF Z H s Q E I q;show Calls.spliced_cons (EE (X:=wp X pn xe) I G F (z I q) J)
def NP{es:List Expr}{vs:List Value}(hg:Gl X "isinstance")(hm:X.mg "isinstance"=none)(hv:bootBuiltins "isinstance"=some (.builtin "isinstance"))(hT:sI X es vs)(hz:vs.length<=sizeLine)(hi:eX X.K kn yes vs)(ha:FE X a wa)
  (he:starEach [a,.Tuple es z pt] X.env=(false,eval a X.env)::starEach [.Tuple es z pt] X.env:=by rfl)(h1:starEach [.Tuple es z pt] X.env=[(false,eval (.Tuple es z pt) X.env)]:=by rfl)(M:(backTo pos (starEach [.Tuple es z pt] X.env)).any (·.1)=false:=by rfl):
  FE X (.Call (.Name "isinstance" p) [a,.Tuple es z pt] [] pos) (gE kn yes wa):=λpn xe hp=>by
 intro zF s Z H Q I h;show wpAny_Call_Name_kw (DN (X:=wp X pn xe) I hg hm hv ?_ ⋯ ⋯);show PyProof.Rows.callWith_builtin1 ?_ he M;rw[he];show wpAny _ _ (spliced ((false,eval a X.env)::[(false,eval (.Tuple es z pt) X.env)])) _ _ s;show Calls.spliced_cons (Af (ha pn xe hp zF s Z H _ I (one (k:=λx B Q E=>zp (view x B) λd=>zp (tX kn yes d) λb=>Q (.v (.sh (.bl b))) B) h)) λu s1 zq=>?_);let#[x,H1,I1,r1,q1]:=zq;show Calls.spliced_cons (wpAny_Tuple_spliced (hT.run I1 #[hz,Calls.spliced_nil ?_]));let#[F,G,U,y,P,PX,J,Y,ry,L,O,hx]:=q1;let#[d,ed,L]:=Ai L;let#[b,eb,L]:=Ai L;let rp:=Ap (U':=[]) (Z':=[]) J Y ry ed;let I2:=I1.kept (t':=s1.toks) λb u e=>qc {cls:=.type "tuple",data:=.seq vs.toArray} e;show OQ I2 r1 rp eb hi (qd _ rfl) λtk=>#[.bl _,H1,I2.kept λ_ _ z=>z,rfl,?_]
 show O _ U _ F H1 L (zr.refl F) ((J.drop Y).push (.bl _)) trivial
end FL
namespace FL
open PySem PySem.Spec PyProof.Rows L2
open PySem.W (nsIn excIn mroIn clsIn isNs_of_in nsMap_none_of_in tail_of_in)
abbrev dB:List Value:=[.type "ValueError",.type "Exception",.type "BaseException",.type "object"]
abbrev eA:String:="ValueError.__new__"
section
variable{K:W.Frag}
def LG(X:K.In h)(q:excIn K C dB eA=true):∃bm,ClsAt h C bm/\∀B,mroIn K C (.ref B)=some true->(Value.ref C::bm).contains (.ref B)=true:=by
 unfold excIn at q;split at q
 .rename_i dd cd J ho;split at q
  .rename_i C' bm k0 Y O M n L hm hs;simp at q;let#[#[#[#[#[rfl,rfl],z],ht],h2],h3]:=q;let#[nm,bs,h1,ns,qn,hd,sn,sub,ab,G,h4]:=cd;subst hm z;let F:J=[k0,Y,O,M,some (.builtin eA),L].toArray:=by let#[l]:=J;simp only at hs;rw[hs]
   subst F;show#[bm,#[nm,qn,ns,bs,hd,sn,sub,ab,G,dd,k0,Y,O,M,L,eA,X _ _ ho,(tail_of_in X ht).hasType (by decide+kernel)],λB e=>?_];unfold mroIn clsIn at e;rw[ho]at e;simpa using e
  .cases q
 .cases q
end
def vH(K:W.Frag)(C:Addr):Prop:=∀h,K.In h->∃bm,ClsAt h C bm/\∀B,mroIn K C (.ref B)=some true->(Value.ref C::bm).contains (.ref B)=true
theorem ck{K:W.Frag}{C:Addr}(q:excIn K C dB eA=true):vH K C:=λ_ X=>LG X q
def cM(K:W.Frag)(cs:List (List Nat))(B:Addr):Prop:=∀c∈cs,∃C,nsIn K mainGlobals (#[c.toArray]:Str)=some (some (.ref C))/\vH K C/\mroIn K C (.ref B)=some true
def cM.at{h:Heap}(J:X.K.In X.base)(k:cM X.K cs B):lM X cs B:=λc z=>by let#[C,h1,h2,F]:=k c z;let#[G,a,b]:=h2 _ J;show#[C,G,h1,a,b B F]
def Qt(Y:j∉ks)(hN:∀i,X.N[i]?=some y->i=j)(hj:X.N[j]?=some y)(M:X.env.scope.names.lookup y=some .local)(hB:X.mg x=some (.ref B))(eB:vH X.K B)(G:cM X.K cs B)(hb:jH X ks body L)(hs:∀e,jH (hX X e) ks (b0::suite) J)
  (z:X.stack=X.env::X.outer:=by rfl)(hf:X.env.frame=some X.env.locals:=by rfl)(hg:Gl X x:=by rfl)(F:(x==("__debug__":Str))=false:=by decide):FS X ks (.Try body [.ExceptHandler (some (.Name x np)) (some y) (b0::suite) hpos] [] [] pos) (fR cs j L J):=λpn xe O zF s Z H D I q=>by
 let#[bm,cB,_]:=eB _ I.ok.mod.kin;show ON Y hN hj M z hf hg hB cB (G.at (h:=X.base) I.ok.mod.kin) hb hs F pn xe O zF s Z H D I q
def Sl:bootBuiltins "ValueError"=some (.type "ValueError"):=by decide+kernel
section
variable{K:W.Frag}
def DK(h:x.cps.toList=c)(e:nsIn K mainGlobals x=r):nsIn K mainGlobals (#[c.toArray]:Str)=r:=by subst h;simpa using e
def RB:cM K [] B:=λ_ h=>nomatch h
def RR(h1:nsIn K mainGlobals (#[c.toArray]:Str)=some (some (.ref C)))(h2:vH K C)(F:mroIn K C (.ref B)=some true)(r:cM K cs B):cM K (c::cs) B:=λd z=>by
 rcases qA.mp z with rfl|z
 .show#[C,h1,h2,F]
 .show r d z
def IT(h:W.kitOne K (.type "NoneType") z=some false):cV K [] yes z:=#[h,λ_ h=>nomatch h]
def JJ(h1:nsIn K mainGlobals (#[c.toArray]:Str)=some (some (.ref C)))(h2:lJ K C)(G:W.kitOne K (.ref C) B=some b)(F:yes.contains c=b)(r:cV K kn yes B):cV K (c::kn) yes B:=⟨r.1,λd z=>by
 rcases qA.mp z with rfl|z
 .show#[C,h1,h2,by rw[F];show G]
 .show r.2 d z⟩
def NG(h:W.kitAny K (.type "NoneType") z=some false):eX K [] yes z:=#[h,λ_ h=>nomatch h]
def Oy(h1:nsIn K mainGlobals (#[c.toArray]:Str)=some (some (.ref C)))(h2:lJ K C)(G:W.kitAny K (.ref C) z=some b)(F:yes.contains c=b)(r:eX K kn yes z):eX K (c::kn) yes z:=⟨r.1,λd B=>by
 rcases qA.mp B with rfl|B
 .show#[C,h1,h2,by rw[F];show G]
 .show r.2 d B⟩
end
end FL
namespace FL
open PySem PySem.Spec PySem.Calls PyProof.Rows PySem.W L2
section
variable{os:OsState}
variable{sub:List Value}{K:Frag}{rest:List Value}
def QB{Q:Fin->Shared->Prop}(F:ExcBaseFacts B newId initId Y)(T:OwnTail h Y bm)(L:h.get? C=some (excClassObj nm q C N bs bm hdct sn sub ab col dd k0 k1 k2 k3 k5 newId))(X:K.In h)
  (hi:findIn K (.ref C) "__init__"=some (some (.ref fI)))(hf:typeIn K (.ref fI)=some (.type "function"))
  (hq:∀h' e,Heap.MadeExcOf h h' e (.ref C) rest->wpAny (model prog w) A (call (.ref fI) (.ref e::rest)) (λr s'=>r=.none/\Q (.done (.ret (.ref e))) s') E #[h',g,d,t,os])(G:rest.length<=sizeLine):
  wpAny (model prog w) A (Builtin.«type.__call__» #[.ref C::rest,[]]) Q E #[h,g,d,t,os]:=by
 repeat (first|with_reducible show wpAny_loadPart_at L ?_|with_reducible show wpAny_madeBy_exc L ?_|wp_step)
 refine codeAny_call_builtin_code (Code.quiet_builtin _ F.quiet) (wpAny_check_new_subT F T L ?_);show codeAny_exc_new_subT F T L ?_ G;let M:∀b o,h.get? b=some o->((h.push {cls:=.type "tuple",data:=.seq rest.toArray}).push {cls:=.ref C,data:=.fields [.ref h.objs.size,.none,.none,.none,.bool false,.none].toArray}).get? b=some o:=λb o e=>qc _ (qc _ e);let J:=M _ _ L;let z:((h.push {cls:=.type "tuple",data:=.seq rest.toArray}).push {cls:=.ref C,data:=.fields [.ref h.objs.size,.none,.none,.none,.bool false,.none].toArray}).get? (h.objs.size+1)=some
   {cls:=.ref C,data:=.fields [.ref h.objs.size,.none,.none,.none,.bool false,.none].toArray}:=by heap_get
 let O:(Value.ref C::bm).contains (.ref C)=true:=by simp
 repeat (first|with_reducible show wpAny_loadPart_at z ?_|(with_reducible show wpAny_isSubtype_exc J ?_;rw[O])|wp_step)
 show(looks_findIn (X.keeps M) hi).at ?_;show zg (qa ((bind_fn (X.keeps M) _ hf).at ?_));show qa (zi (hq _ (h.objs.size+1) #[M,Heap.get?_none_of_le (le_succ _),h.objs.size,z,Heap.get?_none_of_le (q8 _),qc _ (Heap.get?_push_at rfl rfl)]) (λr s' hr=>?_) λ_ _ x=>x);let#[rfl,hQ]:=hr
 wp_walk
 show hQ
def Qh{Q:zj}(F:ExcBaseFacts B newId initId J)(T:OwnTail h J bm)(G:h.get? C=some (excClassObj nm q C N bs bm hdct sn sub ab col dd k0 k1 k2 k3 k5 newId))(X:K.In h)
  (hi:findIn K (.ref C) "__init__"=some (some (.ref L)))(Y:typeIn K (.ref L)=some (.type "function"))
  (M:∀h' e,Heap.MadeExcOf h h' e (.ref C) rest->wpAny (model prog w) (A.under (.builtin "type.__call__" #[.ref C::rest,[]])) (call (.ref L) (.ref e::rest)) (λr s'=>r=.none/\Q (.ref e) s') E #[h',g,d,t,os])(z:rest.length<=sizeLine):
  wpAny (model prog w) A (call (.ref C) rest) Q E #[h,g,d,t,os]:=by
 let f1:=tc_lookup;let f2:=tc_bind (.ref C);show wpAny_call (codeAny_of_tree ?_)
 repeat (any_goals (first|assumption|with_reducible show wpAny_loadPart_at G ?_|wp_step))
 show#[rfl,?_];show codeAny_call_builtin_at (Code.quiet_builtin _ (by decide+kernel)) entry_typeCall (wpAny_check_type_call_sub G (QB F T G X hi Y (λh' e O=>M h' e O) z))
end
def eC(e C:Addr)(dx:Option Addr)(h:Heap):Prop:=∃t z,h.get? e=some #[.ref C,dx,.fields [.ref t,.none,.none,.none,.bool false,.none].toArray,z]
section
variable{sub:List Value}{K:Frag}
def QQ{x:Sem Value}{Q:Flow->Shared->Prop}(B:bm.contains (.type "BaseException")=true)(O:A.handled=none)
  (h:wpAny M A x (λv z=>∃e J,v=.ref e/\z.heap.get? C=some (excClassObj nm q C N bs bm hdct sn sub ab col dd k0 k1 k2 k3 k5 newId)/\
   eC e C J z.heap/\E (.ref e) z) E s):
  wpAny M A (raiseStmt env (some x) none) Q E s:=by
 let G:(Value.ref C::bm).contains (.type "BaseException")=true:=by rw[List.contains_cons,B,Bool.or_true]
 show qa (zi h (λv z F=>?_) λ_ _ x=>x);let#[e,J,rfl,L,#[t,sl,Y],hE]:=F
 repeat (first|with_reducible show wpAny_loadPart_at Y ?_|with_reducible show wpAny_loadPart_at L ?_|(with_reducible show wpAny_isSubtype_exc L ?_;rw[G])|wp_step)
 show wpAny_raiseNew_none O hE
def RF(F:ExcBaseFacts B newId initId h5){x:Str}{np M pos:Pos}{args:List Expr}{Q:Flow->Shared->Prop}
  (hi:findIn K (.ref C) "__init__"=some (some (.ref fI)))(hf:typeIn K (.ref fI)=some (.type "function"))(h1:bm.contains (.type "BaseException")=true)(hh:A.handled=none)(O:(backTo M (starEach args env)).any (·.1)=false)
  (h:wpAny (model prog w) A (eval (.Name x np) env) (λf Y=>f=.ref C/\wpAny (model prog w) A (evalArgs (.ref C) true (backTo M (starEach args env)) [])
   (λa G=>a.kw=[]/\a.pos.length<=sizeLine/\G.heap.get? C=some (excClassObj nm q C N bs bm hdct sn sub ab col dd k0 k1 k2 k3 k5 newId)/\K.In G.heap/\OwnTail G.heap h5 bm/\
    ∀h' e,Heap.MadeExcOf G.heap h' e (.ref C) a.pos->wpAny (model prog w) (A.under (.builtin "type.__call__" #[.ref C::a.pos,[]])) (call (.ref fI) (.ref e::a.pos)) (λr s'=>r=.none/\s'.heap.get? C=some (excClassObj nm q C N bs bm hdct sn sub ab col dd k0 k1 k2 k3 k5 newId)/\∃od,eC e C od s'.heap/\E (.ref e) s') E {G with heap:=h'}) E Y) E s):
  wpAny (model prog w) A (exec (.Raise (some (.Call (.Name x np) args [] M)) none pos) env) Q E s:=by
 rw[arm_exec_Raise];show qa (wpAny_standAt (QQ (C:=C) (nm:=nm) (q:=q) (N:=N) (bs:=bs) (bm:=bm) (hdct:=hdct) (sn:=sn) (sub:=sub) (ab:=ab) (col:=col) (dd:=dd) (k0:=k0) (k1:=k1) (k2:=k2) (k3:=k3) (k5:=k5) (newId:=newId) h1 hh (qa (zi (wpAny_Call_ofName (zi h (λf Y L=>?_) λ_ _ x=>x)) (λv h7 h2=>qa (wpAny_standAt (qb h2))) λ_ _ x=>x))));let#[rfl,L]:=L;show qa (zg (zi L (λa G J=>qa (wpAny_standAt ?_)) λ_ _ x=>x));let#[apos,h6]:=a;let#[h4,h3,hC,X,T,J]:=J;obtain rfl:h6=[]:=h4;simp only[O];show qa (wpAny_keeperOf_exc hC ?_);show qa (Qh F T hC X hi hf (λh' e hm=>zi (J h' e hm) (λr s' z=>?_) λ_ _ z=>z) h3);let#[z1,z2,od,z3,z4]:=z;show#[z1,qa (zg (wpAny_point (qb #[e,od,rfl,z2,z3,z4])))]
end
end FL
namespace FL
open PySem PySem.Spec PySem.Calls PyProof.Rows PySem.W L2
open Builtin Builtin.ObjectAttr
structure lK(K:Frag)(C Wb fI:Addr)(n:Str):Prop where
 lk:∃dd nm bs ns qn sn sub ab col k0 k1 k2 k3 k5,K.lookup C=some (excClassObj nm qn C ns bs (.ref Wb::dB) true sn sub ab col dd k0 k1 k2 k3 k5 eA)
 eW:excIn K Wb dB eA=true
 hi:findIn K (.ref C) "__init__"=some (some (.ref fI))
 hf:typeIn K (.ref fI)=some (.type "function")
 hs:findIn K (.ref C) "__setattr__"=some (some (.builtin "object.__setattr__"))
 hn:findIn K (.ref C) n=some none
section
variable{K:Frag}
def lK.tail(k:lK K C Wb M name)(X:K.In h):OwnTail h dB (.ref Wb::dB):=by
 let q:=k.eW;unfold excIn at q;split at q
 .rename_i O Y J G;split at q
  .simp at q;let#[#[#[#[#[rfl,rfl],F],L],z],B]:=q;show .own (X _ _ G) (.of_isNs (isNs_of_in X z)) (nsMap_none_of_in X z B) .base
  .cases q
 .cases q
def Os(X:K.In s.heap)(k:lK K C Wb fI name)(he:eC x C none s.heap)
  (h:∀h' dx tk,s.heap.get? dx=none->eC x C (some dx) h'->h'.Ns1 dx (λy=>if y=name then some v else none)->(∀b o,b≠x->s.heap.get? b=some o->h'.get? b=some o)->Q () {s with heap:=h',toks:=tk}):
  wpAny (model prog w) A (setAttr (.ref x) name v) Q E s:=by
 let#[tt,sl,M]:=he;let#[dd,nm,bs,ns,qn,sn,sub,ab,J,k0,k1,k2,k3,k5,lk]:=k.lk;let I:InstAt s.heap x #[.ref C,none,.fields [.ref tt,.none,.none,.none,.bool false,.none].toArray,sl] C none:=#[M,rfl,rfl,True.intro]
 show set_plain X I k.hs ?_;let L:=PySem.F.store_object;let hc:clsIn K C=some #[nm,bs,.ref C::.ref Wb::dB,ns,qn,true,sn,sub,ab,J,false]:=by unfold clsIn;rw[lk]
 have sb:Looks (model prog w) s.heap (isInstance (.ref x) (.type "object")) true:=I.type.andThen (looks_mroIn X (by unfold mroIn;rw[hc,bind_some];simp));show codeAny_call_builtin L.slot.plain L.entry (@check_slot (model prog w) _ _ _ "object.__setattr__" "object" "__setattr__" (.ref x) [.str name s.toks,v] [] _ L.kind L.split sb (L.args (.ref x) (.str name s.toks) v) ?_);let hm:Looks (model prog w) s.heap (mroOf (.ref C)) (.ref C::.ref Wb::dB):=(looks_clsIn X hc).andThen .now;rw[osa_eq,refuse_eq];show qa (qa (I.type.at (qa (hm.at ?_))));show qb (qa (I.type.at (qa ((looks_findIn X k.hn).at (qa (qb ?_))))));show qa (qb (qa ?_));let#[z,O,Y,tk,os]:=s;let F:x≠z.objs.size:=ne_of_lt (qe M);let B:=qc {cls:=.type "dict",data:=.dict #[]} M;let hC:z.get? C=some (excClassObj nm qn C ns bs (.ref Wb::dB) true sn sub ab J dd k0 k1 k2 k3 k5 eA):=X _ _ lk;let h3:∀{A:Around}{Q':Option Addr->Shared->Prop}{E':zj}{O Y tk os},Q' (some z.objs.size) #[(z.push {cls:=.type "dict",data:=.dict #[]}).update x λo=>{o with dict:=some z.objs.size},O,Y,tk,os]->wpAny (model prog w) A (instanceDict x true) Q' E' #[z,O,Y,tk,os]:=λ{A Q' E' O Y tk os} q=>by
  repeat (first|with_reducible show wpAny_loadPart_at M ?_|with_reducible show wpAny_loadPart_at hC ?_|wp_step)
  show q
 refine h3 ?_;let h4:((z.push {cls:=.type "dict",data:=.dict #[]}).update x λo=>{o with dict:=some z.objs.size}).get? z.objs.size=some {cls:=.type "dict",data:=.dict #[]}:=
  (Heap.get?_update_ne _ _ _ _ F.symm).trans (Heap.get?_push_at rfl rfl)
 have h2:((z.push {cls:=.type "dict",data:=.dict #[]}).update x λo=>{o with dict:=some z.objs.size}).Ns z.objs.size (λ_=>none):=
  #[_,#[],_,h4,rfl,λe he=>absurd he (by simp),λ_=>rfl]
 show qa (qb (qa (wpAny_nsSet1 (Heap.Ns1.of_empty h2) λh' G hs=>?_)));let#[oD,h8,h9,h1,h5,h6]:=G.count (Within.cons name v Within.nil);show qa (wpAny_lookBehind h1 (by rw[h5];show pastItsLine_dict (le_trans h6 (by rw[qt,qv];omega))) ?_);show qb ?_;show h h' z.objs.size _ (Heap.get?_none_of_le (q8 _)) #[tt,sl,?_] ?_ λb ob h7 hb=>?_
 .show(hs.2 x F).trans (za _ B rfl)
 .obtain⟨o',es,ep,e1,e2,e3,eu,e4⟩:=G;show#[o',es,ep,e1,e2,e3,eu,λy=>by rw[e4 y]]
 .show(hs.2 b (ne_of_lt (qe hb))).trans ((Heap.get?_update_ne _ _ _ _ h7).trans (qc _ hb))
end
end FL
namespace FL
open PySem PySem.Spec PyProof.Rows L2
open PySem.W (Frag nsIn findIn findObj)
def hW(K:Frag)(n:Str):Sp:=λvs H Q _=>∃e C B z i,vs=[.ref e,.int i]/\lK K C B z n/\H e=some (.ext (eC e C none))/\∀d,H d=none->d≠e->Q .non (upd (upd H e (.ext (eC e C (some d)))) d (.xd [(n,.int i)]))
def bx(K:Frag)(ta z:TE)(n:Str):TS:=λD Z H=>z Z H λy H1=>ta Z H1 λx H2=>∃e C F B,x=.ref e/\lK K C F B n/\H2 e=some (.ext (eC e C none))/\∀d,H2 d=none->d≠e->D.nx Z (upd (upd H2 e (.ext (eC e C (some d)))) d (.xd [(n,y)]))
def HS(z:eC e C dx h):zE P w H h e (.ext (eC e C dx)):=#[z,let#[_,_,q]:=z;#[_,q],λ_ _⟨t,B,q⟩ k=>#[t,B,k _ q]]
def Inv.noH(I:Inv X zF Z H s)(h:s.heap.get? d=none):H d=none:=by
 cases z:H d with
 |none=>rfl
 |some o=>let#[v,z]:=zE.there (I.hok d o z);rw[h]at z;cases z
def RW(I:Inv X zF Z H s)(G:H e=some (.ext (eC e C none)))(k:lK X.K C Wb fI n)(ry:zw y u)
  (h:∀s' d,H d=none->d≠e->Inv X zF Z (upd (upd H e (.ext (eC e C (some d)))) d (.xd [(n,y)])) s'->Q () s'):wpAny (model X.prog X.w) A (setAttr (.ref e) n u) Q E s:=by
 let#[hm,#[oe,he],_]:=(show zE X.prog X.w H s.heap e (.ext (eC e C none)) from I.hok e _ G)
 show Os I.kIn k hm λh' dx tk O M h1 F=>?_;let hd:H dx=none:=Inv.noH I O;let h2:dx≠e:=λz=>by rw[z,he]at O;cases O
 let J:∀b,H b=none->b≠e:=λb q z=>by rw[z,G]at q;cases q
 let L:∀b o u,s.heap.get? b=some u->b≠e->H b=o->(upd (upd H e (.ext (eC e C (some dx)))) dx (.xd [(n,y)])) b=o:=λb o u q z r=>by rw[Ah (λz=>by rw[z,O]at q;cases q),Ah z];show r
 let B:∀b o,b≠e->H b=some o->(upd (upd H e (.ext (eC e C (some dx)))) dx (.xd [(n,y)])) b=some o:=λb o z r=>by let#[u,q]:=zE.there (I.hok b o r);show L b _ u q z r
 refine h _ dx hd h2 (I.call (ch:=[]) (g':=s.gens) (d':=s.drawn) (t':=tk) ⟨λb o q r _ _=>F b o (J b r) q,λb o q r _ _=>#[o.slots,F b o (J b r) q],λb o q r _=>L b _ o q (J b r) r,λb o q _=>?_,
  λb xs q=>B b _ (λz=>by rw[z,G]at q;cases q) q,λb o u q=>B b _ (λz=>by rw[z,G]at q;cases q) q,λb ps q=>#[#[],by rw[B b _ (λz=>by rw[z,G]at q;cases q) q];simp]⟩ (λb o q=>?_) I.bare λb hb=>absurd hb (by simp))
 .by_cases z:b=e
  .subst z;let#[_,_,z]:=M;show#[_,z]
  .show#[o,F b o z q]
 .by_cases z:b=dx
  .subst z;rw[AQ]at q;cases q;show#[_,h1,λf=>?_];by_cases hf:f=n
   .subst hf;simp[fC,ry]
   .let:(f==n)=false:=beq_eq_false_iff_ne.mpr hf;simp[fC,List.lookup,hf,this]
  .rw[Ah z]at q;by_cases z2:b=e
   .subst z2;rw[AQ]at q;cases q;show HS M
   .rw[Ah z2]at q;show(I.hok b o q).stay (λc u Y r=>F c u ?_ r) (λc r=>B c _ (λz=>by rw[z,G]at r;cases r) r) λc xs r=>B c _ (λz=>by rw[z,G]at r;cases r) r;rcases Y with rfl|Y
    .show z2
    .show λz=>by rw[z,G]at Y;cases Y
def Ln(Y:PE X o ta)(O:PE X value B)(hs:swapsWith value (some (.Attribute o n pos')) pos.line X.env=pure false):PS X (.Assign [.Attribute o n pos'] value pos) (bx X.K ta B n):=by intro zF s Z H D I h;show plainObj_wpAny_Assign_Attribute (Af (O zF s Z H _ I h) λu F z=>?_) hs;let#[y,H1,I1,G,q]:=z;show Af (Y zF F Z H1 _ I1 q) λM s2 z=>?_;let#[x,H2,I2,J,e,C,Wb,fI,ex,k,ee,L]:=z;subst ex;obtain rfl:M=Value.ref e:=J;show RW I2 ee k G λs3 d h1 h2 I3=>#[Z,_,I3,L d h1 h2]
@[inline]def iH:Stmt->Stmt
 |.ClassDef _ _ _ b _ _ _ _ _ _ _=>(b.find? λ|.FunctionDef ..=>true|_=>false).getD (.Pass #[0,0,0,0])
 |s=>s
section
variable{K:Frag}{st:Stmt}
def Je(Fn:nB K x qual st f fd)(Sc:aE [a,b] [a,b] (aA st))(L:aU st=[.Assign [.Attribute (.Name a p1) n p2] (.Name b p3) p4])(J:rV (aA st) a:=by first|show Or.inl rfl|show Or.inr (Or.inl rfl)|show Or.inr (Or.inr rfl))(G:rV (aA st) b:=by first|show Or.inl rfl|show Or.inr (Or.inl rfl)|show Or.inr (Or.inr rfl))
  (Y:(a==("__debug__":Str))=false:=by decide)(O:(b==("__debug__":Str))=false:=by decide)(ca:(a==("__classdict__":Str))=false:=by decide)(cb:(b==("__classdict__":Str))=false:=by decide):
  cW P w K mg base (eY P w) 1 f fd [a,b] (hW K n):=by
 show Fn.okX Sc (λvs H Q E h=>?_) λh3 A z s H vs Q E hr h=>?_
 .obtain⟨e,C,F,B,i,rfl,_⟩:=h;rfl
 .obtain⟨e,C,F,B,i,rfl,k,M,q⟩:=h;show#[_,by rw[L];show Jn (Ln (Gh (i:=0) rfl J Y ca) (Gh (i:=1) rfl G O cb) rfl),?_];show#[_,rfl,_,rfl,e,C,F,B,rfl,k,M,λd h1 h2=>q d h1 h2]
end
def Inv.adoptM(I:Inv X zF Z H s)(F:bB X zF H e)(z:eC e C none s.heap):Inv X zF Z (upd H e (.ext (eC e C none))) s:=by
 let#[Y,O,f2,M,L,J]:=F;let B:∀b o,H b=some o->b≠e:=λb o q z=>by rw[z,Y]at q;cases q
 show I.call' (ch:=[e]) rfl #[λb o q _ _ _=>q,λb o q _ _ _=>#[o.slots,q],λb o _ n x=>(Ah λz=>x (by simp[z])).trans n,λb o q _=>#[o,q],λb xs q=>(Ah (B _ _ q)).trans q,λb o u q=>(Ah (B _ _ q)).trans q,λb ps q=>#[#[],by rw[Ah (B _ _ q),q];simp]] (λb o q=>?_) I.bare λb G=>?_
 .by_cases G:b=e
  .subst G;rw[AQ]at q;cases q;show HS z
  .rw[Ah G]at q;show(I.hok b o q).stay (λ_ _ _ z=>z) (λc z=>(Ah (B _ _ z)).trans z) λc xs z=>(Ah (B _ _ z)).trans z
 .rw[qu.mp G];show#[M,O,L,J]
def Inv.unadopt{H':Hp}(I:Inv X zF Z H' s)(hn:H e=none)(F:bB X zF H e)(B:∀b,b≠e->H' b=H b)(L:∀o,H' e=some o->∃φ,o=.ext φ):Inv X zF Z H s:=by
 obtain⟨f0,f1,f2,Y,O,M⟩:=F;let J:∀b o,H' b=some o->(∀φ,o≠.ext φ)->H b=some o:=λb o q z=>by
  by_cases G:b=e
  .subst G;let#[φ,r]:=L o q;show absurd r (z φ)
  .rw[<-B b G];show q
 show I.call' (ch:=[e]) rfl #[λb o q _ _ _=>q,λb o q _ _ _=>#[o.slots,q],λb o _ n x=>by rw[<-B b λz=>x (by simp[z])];show n,λb o q _=>#[o,q],λb xs q=>J _ _ q (λφ z=>by cases z),λb o u q=>J _ _ q (λφ z=>by cases z),λb ps q=>#[#[],by rw[J _ _ q (λφ z=>by cases z)];simp]] (λb o q=>?_) I.bare λb G=>?_
 .let G:b≠e:=λz=>by rw[z,hn]at q;cases q
  rw[<-B b G]at q;show(I.hok b o q).stay (λ_ _ _ z=>z) (λc z=>J _ _ z (λφ z=>by cases z)) λc xs z=>J _ _ z (λφ z=>by cases z)
 .rw[qu.mp G];show#[Y,f1,O,M]
def Qw(k:lK X.K C Wb fI n)(Fk:cW X.prog X.w X.K X.mg X.base (eY X.prog X.w) kk fI fd ps (hW X.K n))(hb:Binds X.K fd ps [])(hr:aR (kk+1) X.A)(L:X.mg x=some (.ref C))(hc:X.calm=true)(hg:Gl X x)(ha:PE X a ta)
  (hd:(x==("__debug__":Str))=false)(he:starEach [a] X.env=[(false,eval a X.env)]):
  PS X (.Raise (some (.Call (.Name x np) [a] [] cpos)) none pos) (λ_ Z H=>ta Z H λv H1=>∃i,v=.int i/\∀d,H1 d=none->XW X Z (.ref C) (some d) (upd H1 d (.xd [(n,.int i)]))):=by
 intro zF s Z H D I h;let#[dd,nm,bs,ns,qn,sn,sub,ab,col,k0,k1,k2,k3,k5,lk]:=k.lk;show RF (C:=C) (nm:=nm) (q:=qn) (N:=ns) (bs:=bs) (bm:=.ref Wb::dB) (hdct:=true) (sn:=sn) (sub:=sub) (ab:=ab) (col:=col) (dd:=dd) (k0:=k0) (k1:=k1) (k2:=k2) (k3:=k3) (k5:=k5) F.excBase_ValueError k.hi k.hf (by simp) (I.ok.hd hc) (by rw[he];rfl) (EE I hg L #[rfl,?_] hd);rw[he];show Calls.evalArgs_plain ?_;show Calls.spliced_cons (Af (ha zF s Z H _ I h) λu s1 zq=>Calls.spliced_nil ?_);let#[v,H1,G,M,i,rfl,q]:=zq;let#[t,rfl]:=(show∃t,u=Value.int i t from M)
 show#[rfl,by rw[zf];show 1<=_;omega,G.kIn _ _ lk,G.kIn,k.tail G.kIn,λh' e m=>?_];let hn:=Inv.noH G m.new;let#[tt,Y,_,_]:=m.there;let I2:Inv X zF Z (upd H1 e (.ext (eC e C none))) {s1 with heap:=h'}:=Inv.adoptM (G.kept (t':=s1.toks) m.keeps) (G.fpNew m.new hn) ⟨tt,_,Y⟩;let r2:zC [V.ref e,V.int i] [Value.ref e,Value.int i t]:=.cons rfl (.cons #[t,rfl] .nil);let hl:([Value.ref e,Value.int i t]++[]).length=ps.length:=(Fk.len [.ref e,.int i] (upd H1 e (.ext (eC e C none))) (λ_ _=>True) (λ_ _ _=>False) #[e,C,Wb,fI,i,rfl,k,AQ,λ_ _ _=>trivial])
 show wpAny_call (codeAny_mono (Fk.run _ X.stack _ _ #[[Value.ref e,Value.int i t],[]] [Value.ref e,Value.int i t] [.ref e,.int i] (λv H'=>v=.non/\∃d,H1 d=none/\d≠e/\H'=upd (upd (upd H1 e (.ext (eC e C none))) e (.ext (eC e C (some d)))) d (.xd [(n,.int i)])) (λ_ _ _=>False) (hr.make C _ []) (I2.env0.make C _ []) (hb _ [Value.ref e,Value.int i t] I2.kIn hl) r2 #[e,C,Wb,fI,i,rfl,k,AQ,λd h1 h2=>#[rfl,d,by rw[Ah h2]at h1;show h1,h2,rfl]]) λr s' B=>?_);cases r with
 |error u=>let#[_,_,_,_,_,_,_,_,_,z,_]:=B;show z.elim
 |ok fl=>
  cases fl with
  |ret u=>
   let#[v,H',I3,M,rfl,d,h1,h2,rfl]:=I2.after B;let eH:(upd (upd (upd H1 e (.ext (eC e C none))) e (.ext (eC e C (some d)))) d (.xd [(n,.int i)])) e=some (.ext (eC e C (some d))):=by rw[Ah (Ne.symm h2),AQ]
   let#[L,_,_]:=(show zE X.prog X.w _ s'.heap e (.ext (eC e C (some d))) from I3.hok e _ eH)
   let J:(upd H1 d (.xd [(n,.int i)])) e=none:=by rw[Ah (Ne.symm h2)];show hn
   have fp:bB X zF (upd H1 d (.xd [(n,.int i)])) e:=G.fpNew m.new J;let I4:Inv X zF Z (upd H1 d (.xd [(n,.int i)])) s':=Inv.unadopt I3 J fp (λb hb=>by
    unfold upd;by_cases z:b=d
    .simp[z]
    .simp[z,hb]) λo z=>by rw[eH]at z;cases z;show#[_,rfl]
   let#[t1,h3,O]:=id L;show#[M,I3.kIn _ _ lk,some d,L,q d h1 e s' I4.few (fZ.few #[fp,_,_,O,rfl,rfl,rfl,.inl rfl])]
  |next=>show False.elim B
  |brk=>show False.elim B
  |cont=>show False.elim B
def lK.ck{K:Frag}(k:lK K C Wb fI n):vH K C:=λh X=>by let#[dd,nm,bs,J,G,F,sub,ab,z,k0,Y,O,M,L,lk]:=k.lk;show#[_,#[nm,G,J,bs,true,F,sub,ab,z,dd,k0,Y,O,M,L,eA,X _ _ lk,by simp],λB e=>?_];unfold W.mroIn W.clsIn at e;rw[lk]at e;simpa using e
def JZ(hf:(#[f.toArray]:Str)=n)(k:lK X.K C Wb fI n)(Fk:cW X.prog X.w X.K X.mg X.base (eY X.prog X.w) kk fI fd ps (hW X.K n))(hb:Binds X.K fd ps [])(hm:X.mg x=some (.ref C))(h1:nsIn X.K mainGlobals (#[c.toArray]:Str)=some (some (.ref C)))(hr:aR j X.A)(ha:FE X a wa)
  (hj:kk+1<=j:=by decide)(hc:X.calm=true:=by rfl)(hg:Gl X x:=by rfl)(M:(x==("__debug__":Str))=false:=by decide)(he:starEach [a] X.env=[(false,eval a X.env)]:=by rfl):
  FS X ks (.Raise (some (.Call (.Name x np) [a] [] cpos)) none pos) (eF c f wa):=λpn xe B=>PS.imp (Qw (X:=wp X pn xe) k Fk hb (hr.mono hj) hm hc hg (ha pn xe B) M he) λD Z H q=>by
 subst hf;let#[F,G,U,E,O,hw,n,b,c,r,hx]:=q;show#[F,G,U,_,_,O,hw,λr J v F1 H1 B s1 L rv=>?_,hx.mono (λh2 z=>by rw[z];show KP.refl) (zr.refl F) (zr.refl G)];let hl:=Ag L;cases Y:view r J with
 |none=>rw[Y]at B;show B.elim
 |some d=>
  rw[Y]at B;let rp:=Ap (U':=[]) (Z':=[]) L hl rv Y;cases rp with
  |int i=>show#[i,rfl,λd M a s' I Fl=>?_];show hx _ J Z (upd F1 d (.xd [((#[f.toArray]:Str),.int i)])) (upd H1 d (.xd [((#[f.toArray]:Str),.int i)])) (.ref a) s' B KP.refl (s1.trans (zr.upd (L.free M).1)) ((L.drop hl).newF M) I #[a,C,some d,rfl,#[_,_,_,rfl,h1,.inr #[d,f,i,rfl,rfl,rfl,AQ]],Fl]
  |_=>show B.elim
def OZ{prog:Program}{w:World}{A:Around}{E:zj}{s:Shared}{K:Frag}{x D:Addr}{F:Obj}{z:Option Obj}{name:Str}{B:Bool}{v:Value}{Q:zj}(X:K.In s.heap)(I:W.InstAt s.heap x F D z)(k:lJ K D)
  (L:findObj K D z name=some (.value v))(J:W.handedIn v=true)(h:Q v {s with toks:=s.toks+1}):wpAny (model prog w) A (getAttr (.ref x) name B) Q E s:=by
 show qa (wpAny_mkText ?_);show JX (s:={s with toks:=s.toks+1}) X I k λA Q' E' G=>?_;let Y:=I.type (M:=model prog w);let O:=W.looks_find (M:=model prog w) X I L;show qa (qb (qa (qb (qa (Y.at (qa (O.at ?_)))))));show qb (G _ _ #[W.handedOut_of J,h])
def vZ(K:Frag)(kn:List (List Nat))(n:Str):Prop:=∀c∈kn,∃C,nsIn K mainGlobals (#[c.toArray]:Str)=some (some (.ref C))/\lJ K C/\findIn K (.ref C) n=some none/\W.hasDictIn K C=true
def NH{K:Frag}:vZ K [] n:=λ_ h=>nomatch h
def Py{K:Frag}(h1:nsIn K mainGlobals (#[c.toArray]:Str)=some (some (.ref C)))(h2:lJ K C)(F:findIn K (.ref C) n=some none)(B:W.hasDictIn K C=true)(r:vZ K kn n):vZ K (c::kn) n:=λd z=>by
 rcases qA.mp z with rfl|z
 .show#[C,h1,h2,F,B]
 .show r d z
def MW(hk:vZ X.K kn n)(hf:(#[f.toArray]:Str)=n)(ha:FE X a wa)(hb:attributeBase a n X.env (eval a X.env)=eval a X.env:=by rfl):FE X (.Attribute a n pos) (kG kn f wa):=λpn xe hp=>by
 subst hf;intro zF s Z H Q I h;show Ot hb (Af (ha pn xe hp zF s Z H _ I (one (k:=λx L Q E=>zp (view x L) λd=>zp (nW kn f d) λv=>Q (.v (.sh v)) L) h)) λu s1 zq=>?_);let#[x,H1,I1,r1,F,G,U,y,P,PX,M,hl,ry,z,h6,hx]:=zq;let#[d,ed,z]:=Ai z;let#[v,ev,z]:=Ai z;let rp:=Ap (U':=[]) (Z':=[]) M hl ry ed;cases rp with
 |@exc a C dx c fs vs ea hn h2=>
  rcases h2 with⟨rfl,rfl,rfl⟩|⟨p,g,i,rfl,rfl,rfl,h5⟩
  .cases ev
  .have B:(if(kn.contains c&&g==f)=true then some (D.int i)else none)=some v:=ev;split at B
   .rename_i hc;rw[and_eq_true,beq_iff_eq]at hc;let#[hc,rfl]:=hc;cases B;let#[C',h1,k,h3,h4]:=hk _ ↑hc;rw[hn]at h1;cases h1;cases(show u=Value.ref a from r1);let#[#[o,ws,q1,q2,q3,q4],_,_]:=(show zE X.prog X.w H1 s1.heap a (.ext (gM a C (some p))) from I1.hok a _ ea)
    let#[mA,h7,Y]:=(show zE X.prog X.w H1 s1.heap p (.xd _) from I1.hok p _ h5)
    let#[od,ho,h8]:=PF h7;let J:W.InstAt s1.heap a o C (some od):=#[q1,q2,by unfold W.notCls;rw[q4],by rw[q3];show ho]
    let O:=Y (#[g.toArray]:Str);rw[show List.lookup (#[g.toArray]:Str) [((#[g.toArray]:Str),V.int i)]=some (.int i) by simp]at O;cases hm:mA (#[g.toArray]:Str)with
    |none=>rw[hm]at O;show O.elim
    |some v=>
     rw[hm]at O;let#[t,rfl]:=(show∃t,v=Value.int i t from O)
     show OZ I1.kIn J k (W.findObj_own h4 h3 rfl (by rw[h8,hm])) rfl #[.int i,H1,I1.tok _,#[t,rfl],?_];show h6 _ U _ F H1 z (zr.refl F) ((M.drop hl).push (.int i)) trivial
   .cases B
 |_=>cases ev
end FL
namespace L2
open PySem PySem.Spec PyProof.Rows
def bP(cells:List (Str×Addr)):List (Str×NameKind)->List (Str×Addr)->List (Str×Addr)
 |[],zK=>zK
 |(n,k)::r,zK=>if k==.free then(match cells.lookup n with|some c=>bP cells r ((n,c)::zK)|none=>bP cells r zK)else bP cells r zK
def GU(f:Str×NameKind->List (Str×Addr)->Sem (ForInStep (List (Str×Addr))))
  (hf:∀n k cs,f (n,k) cs=if k==.free then(do let a<-cellOf env n;pure (.yield ((n,a)::cs)))else pure (.yield cs)):
  ∀(names:List (Str×NameKind))(zK:List (Str×Addr)),(∀x∈names,x.2=.free->∃c,env.cells.lookup x.1=some c)->(forIn names zK f:Sem _)=pure (bP env.cells names zK)
 |[],zK,_=>by rw[List.forIn_nil];rfl
 |(n,k)::r,zK,h=>by
  rw[List.forIn_cons,hf];let hr:∀x∈r,x.2=.free->∃c,env.cells.lookup x.1=some c:=λx hx=>h x (qk _ hx);by_cases hk:(k==.free)=true
  .obtain⟨c,hc⟩:=h (n,k) qm ↑hk;let hc':env.cells.lookup n=some c:=hc;let e:cellOf env n=pure c:=by unfold cellOf;rw[hc']
   rw[qY hk,e];let ih:=GU f hf r ((n,c)::zK) hr;unfold bP;rw[qY hk,hc'];rw[<-ih];simp
  .rw[qZ hk];let ih:=GU f hf r zK hr;unfold bP;rw[qZ hk,<-ih];simp
def Sn(h:∀x∈scope.names,x.2=.free->∃c,env.cells.lookup x.1=some c):closureFor scope env=pure (bP env.cells scope.names []):=by show(forIn scope.names ([]:List (Str×Addr)) _>>=λcs=>pure cs)=_;rw[GU (env:=env) _ (λn k cs=>rfl) scope.names [] h];rfl
def FC:∀{names:List (Str×NameKind)}{B:List (Str×Addr)},(n,c)∈bP cells names B->(n,c)∈B\/((n,NameKind.free)∈names/\cells.lookup n=some c)
 |[],_,h=>.inl h
 |(m,k)::r,B,h=>by
  unfold bP at h;by_cases G:(k==.free)=true
  .rw[qY G]at h;let F:k=.free:=by simpa using G
   cases q:cells.lookup m with
   |none=>
    rw[q]at h;rcases FC h with z|⟨z,w⟩
    .show .inl z
    .show .inr #[qk _ z,w]
   |some d=>
    rw[q]at h;rcases FC h with z|⟨z,w⟩
    .rcases qA.mp z with e|z
     .cases e;show .inr #[by rw[<-F];show qm,q]
     .show .inl z
    .show .inr #[qk _ z,w]
  .rw[qZ G]at h;rcases FC h with z|⟨z,w⟩
   .show .inl z
   .show .inr #[qk _ z,w]
def EI(F:cells.lookup n=some c):∀{names:List (Str×NameKind)}{B:List (Str×Addr)},((n,c)∈B\/(n,NameKind.free)∈names)->(n,c)∈bP cells names B
 |[],_,h=>h.elim id λz=>by simp at z
 |(m,k)::r,B,h=>by
  unfold bP;by_cases G:(k==.free)=true
  .rw[qY G];cases q:cells.lookup m with
   |none=>
    show EI F ?_;rcases h with z|z
    .show .inl z
    .rcases qA.mp z with e|z
     .cases e;rw[F]at q;cases q
     .show .inr z
   |some d=>
    show EI F ?_;rcases h with z|z
    .show .inl (qk _ z)
    .rcases qA.mp z with e|z
     .cases e;rw[F]at q;cases q;show .inl qm
     .show .inr z
  .rw[qZ G];show EI F ?_;rcases h with z|z
   .show .inl z
   .rcases qA.mp z with e|z
    .cases e;show(G ⋯).elim
    .show .inr z
def Lh{α:Type}:∀{l:List (Str×α)}{n:Str}{c:α},(n,c)∈l->(∀z,(n,z)∈l->z=c)->l.lookup n=some c
 |[],_,_,h,_=>by simp at h
 |(m,d)::r,n,c,h,u=>by
  rw[lookup_cons];cases B:n==m with
  |true=>
   let e:n=m:=↑B
   subst e;show congrArg some (u d qm)
  |false=>
   show Lh (l:=r) ?_ λz F=>u z (qk _ F);rcases qA.mp h with e|h
   .cases e;simp at B
   .show h
def Hk:∀{names:List (Str×NameKind)}{n:Nat}{B:List (Str×Addr)}{x:Str}{c:Addr},(x,c)∈cellsFrom n names B->(x,c)∈B\/((x,NameKind.cell)∈names/\n<=c)
 |[],_,_,_,_,h=>.inl h
 |(m,k)::r,n,B,x,c,h=>by
  unfold cellsFrom at h;by_cases G:(k==.cell)=true
  .rw[qY G]at h;let F:k=.cell:=by simpa using G
   rcases Hk h with z|⟨z,w⟩
   .rcases qA.mp z with e|z
    .cases e;show .inr #[by rw[<-F];show qm,q8 _]
    .show .inl z
   .show .inr #[qk _ z,∅]
  .rw[qZ G]at h;rcases Hk h with z|⟨z,w⟩
   .show .inl z
   .show .inr #[qk _ z,w]
def EG:∀{names:List (Str×NameKind)}{n:Nat}{B:List (Str×Addr)}{x:Str},((x,NameKind.cell)∈names\/∃c,(x,c)∈B)->∃c,(x,c)∈cellsFrom n names B
 |[],_,_,_,h=>h.elim (λz=>by simp at z) id
 |(m,k)::r,n,B,x,h=>by
  unfold cellsFrom;by_cases F:(k==.cell)=true
  .rw[qY F];show EG ?_;rcases h with z|⟨c,z⟩
   .rcases qA.mp z with e|z
    .cases e;show .inr #[n,qm]
    .show .inl z
   .show .inr #[c,qk _ z]
  .rw[qZ F];show EG ?_;rcases h with z|z
   .rcases qA.mp z with e|z
    .cases e;show(F ⋯).elim
    .show .inl z
   .show .inr z
def FP{α:Type}:∀{l:List (Str×α)}{x:Str},(∃c,(x,c)∈l)->∃c,l.lookup x=some c
 |[],_,⟨_,h⟩=>by simp at h
 |(m,d)::r,x,⟨c,h⟩=>by
  rw[lookup_cons];cases z:x==m with
  |true=>show#[d,rfl]
  |false=>
   show FP (l:=r) #[c,?_];rcases qA.mp h with e|h
   .cases e;simp at z
   .show h
def Hl:∀{names:List (Str×NameKind)}{n:Nat}{z:List (Str×Addr)},(∀p∈z,p.2<n)->(∀p∈z,∀q∈z,p.2=q.2->p.1=q.1)->
  ∀p∈cellsFrom n names z,∀q∈cellsFrom n names z,p.2=q.2->p.1=q.1
 |[],_,_,_,h=>h
 |(m,k)::r,n,z,hb,h=>by
  unfold cellsFrom;by_cases J:(k==.cell)=true
  .rw[qY J];refine Hl (λp B=>?_) λp B q F e=>?_
   .rcases qA.mp B with rfl|B
    .show lt_succ_self _
    .show lt_succ_of_lt (hb p B)
   .rcases qA.mp B with rfl|B<;>rcases qA.mp F with rfl|F
    .rfl
    .let h1:=hb q F;let G:n=q.2:=e;show absurd h1 (by rw[<-G];show lt_irrefl _)
    .let h1:=hb p B;let G:p.2=n:=e;show absurd h1 (by rw[G];show lt_irrefl _)
    .show h p B q F e
  .rw[qZ J];show Hl hb h
def RX
  (hQ:∀h':Heap,(∀b o,s.heap.get? b=some o->h'.get? b=some o)->h'.Ns s.heap.objs.size (λ_=>none)->(∀x c,(x,c)∈cellsFrom (s.heap.objs.size+1) scope.names G->(x,c)∈G\/h'.IsCell c none)->
   Q {scope:=scope,locals:=s.heap.objs.size,globals:=globals,cells:=cellsFrom (s.heap.objs.size+1) scope.names G,qual:=qual,func:=none,code:=env.code,frame:=env.frame,builtins:=env.builtins} {s with heap:=h'}):
  wpAny M A (newFunctionEnv scope globals G [] qual none .none (some env)) Q E s:=by
 simp only[newFunctionEnv,Option.isSome_some,if_true];show qa (wpAny_alloc ?_);show qa (wpAny_layCells _ (λL kind cells=>by cases h1:kind==NameKind.cell<;>simp) _ _ _ _ ?_);rw[show({s with heap:=s.heap.push {cls:=.type "dict",data:=.dict #[]}}:Shared).heap.objs.size=s.heap.objs.size+1 from Heap.size_push ..];show qb (hQ _ (λb o e=>pushCells_keeps _ _ b o (qc _ e)) ((Heap.Ns.new s.heap (.type "dict")).keeps (pushCells_keeps _ _)) λx c h=>?_)
 --the new cells are empty
 have all:∀(names:List (Str×NameKind))(h:Heap)(F:List (Str×Addr)),(∀p∈F,p∈G\/h.IsCell p.2 none)->∀p∈cellsFrom h.objs.size names F,p∈G\/(pushCells h names).IsCell p.2 none:=by
  intro names;induction names with
  |nil=>intro h F J p B;show J p B
  |cons q r O=>
   intro h F J p B;let#[m,k]:=q;unfold cellsFrom at B;unfold pushCells;by_cases Y:(k==.cell)=true
   .rw[qY Y]at B⊢;let e:(h.push {cls:=.type "cell",data:=.cell none}).objs.size=h.objs.size+1:=Heap.size_push ..;rw[<-e]at B;show O _ _ (λp B=>?_) p B;rcases qA.mp B with rfl|B
    .show .inr #[_,qd _ rfl,rfl]
    .rcases J p B with z|z
     .show .inl z
     .show .inr (z.keeps λb o e=>qc _ e)
   .rw[qZ Y]at B⊢;show O h F J p B
 let:=all scope.names (s.heap.push {cls:=.type "dict",data:=.dict #[]}) G (λp B=>.inl B) (x,c) (by rw[Heap.size_push];show h);show this
def eT(N vars:List Str):List Str:=N.map (λx=>if x∈vars then Str.empty else x)++Str.empty::vars
def aW(X:Cx)(scope:Scope)(vars:List Str)(s:Shared)(H:Hp)(ex:List Addr):Cx where
 prog:=X.prog
 w:=X.w
 K:=X.K
 mg:=X.mg
 base:=X.base
 A:=X.A
 N:=eT X.N vars
 s₀:=s
 H₀:=H
 env:=compEnvC scope (cellsFrom (s.heap.objs.size+1) scope.names (bP X.env.cells scope.names [])) s.heap.objs.size X.env
 outer:=X.stack
 stack:=X.stack
 ex:=ex
 fn:=λx=>decide ((x,NameKind.cell)∈scope.names)
 calm:=X.calm
 pn:=[]
 xe:=λ_ _=>False
structure cL(outer scope:Scope)(N vars:List Str):Prop where
 kind:scope.kind=.function
 fr:∀x∈scope.names,x.2=.free->outer.names.lookup x.1=some .cell\/outer.names.lookup x.1=some .free
 nd:(scope.names.map (·.1)).Nodup
 own:∀x∈N,x∉vars->(x,NameKind.local)∉scope.names/\(x,NameKind.cell)∉scope.names
 emp:scope.names.lookup Str.empty=none
def FX{α:Type}{l:List (Str×α)}{c:α}(z:(l.map (·.1)).Nodup):l.lookup n=some c↔(n,c)∈l:=by
 show#[mem_of_lookup,λh=>Lh h λF h'=>?_];induction l with
 |nil=>simp at h
 |cons p r B=>grind
theorem Li{α β:Type}(g:Str->α->β):∀(l:List (Str×α))(n:Str),(l.map λp=>(p.1,g p.1 p.2)).lookup n=(l.lookup n).map (g n)
 |[],_=>rfl
 |(m,d)::r,n=>by
  rw[qy,lookup_cons,lookup_cons];cases z:n==m with
  |true=>have e:n=m:=by simpa using z
         subst e;rfl
  |false=>show Li g r n
def rl(env:PySem.Env)(n:Str)(k:NameKind):NameKind:=if(k==NameKind.free&&env.scope.kind==.function&&env.kindOf n==some .cell)then NameKind.cell else k
def Sr(scope:Scope)(env:PySem.Env):(relabel scope env).names=scope.names.map λp=>(p.1,rl env p.1 p.2):=by
 show map_congr_left λp _=>?_;let#[n,k]:=p;show(if(k==NameKind.free&&env.scope.kind==.function&&env.kindOf n==some .cell)=true then(n,NameKind.cell)else(n,k))=(n,rl env n k);unfold rl;by_cases h:(k==NameKind.free&&env.scope.kind==.function&&env.kindOf n==some .cell)=true
 .rw[qY h,qY h]
 .rw[qZ h,qZ h]
def FV(scope:Scope)(env:PySem.Env)(x:Str):(relabel scope env).names.lookup x=(scope.names.lookup x).map (rl env x):=by rw[Sr,Li]
def Er(h:k≠.free):rl env x k=k:=by unfold rl;rw[qZ];intro z;simp at z;show h z.1.1
def MV:rl env x .free=.cell\/rl env x .free=.free:=by
 unfold rl;split
 .show .inl rfl
 .show .inr rfl
def Qo(h:(eT N vars)[i]?=some x)(hi:i<N.length):(N[i]?=some x/\x∉vars)\/x=Str.empty:=by
 unfold eT at h;rw[getElem?_append_left ↑hi,qE]at h;cases q:N[i]? with
 |none=>rw[q]at h;cases h
 |some y=>grind
def Inv.comp(I:Inv X zF Z H s)(S:cL X.env.scope scope X.N vars)(hex:∀b∈ex,bB X zF H b/\b<s.heap.objs.size)(kept:∀b o,s.heap.get? b=some o->h'.get? b=some o)(h7:h'.Ns s.heap.objs.size (λ_=>none))
  (h9:∀x c,(x,c)∈cellsFrom (s.heap.objs.size+1) scope.names (bP X.env.cells scope.names [])->(x,c)∈bP X.env.cells scope.names []\/h'.IsCell c none)(hk:vars.length=k)(w0:Option V):
  Inv (aW X scope vars s H ex) [] (Z++w0::List.replicate k none) H {s with heap:=h'}:=by
 have cm:∀{x:Str}{c:Addr},(x,c)∈bP X.env.cells scope.names []->(x,NameKind.free)∈scope.names/\X.env.cells.lookup x=some c:=λ{x c} h=>by
  rcases FC h with z|z
  .simp at z
  .show z
 let lt:∀{x:Str}{c:Addr},X.env.cells.lookup x=some c->c<s.heap.objs.size:=λ{x c} h=>by let#[v,z]:=I.cell x c h;show z.lt
 have Ap:∀{x:Str}{c:Addr},(aW X scope vars s H ex).env.cells.lookup x=some c->(X.env.cells.lookup x=some c/\(x,NameKind.free)∈scope.names)\/((x,NameKind.cell)∈scope.names/\s.heap.objs.size+1<=c):=λ{x c} h=>by
  rcases Hk (mem_of_lookup h)with z|z
  .show .inl #[(cm z).2,(cm z).1]
  .show .inr z
 let uniq:∀{x:Str}{a b:NameKind},(x,a)∈scope.names->(x,b)∈scope.names->a=b:=λ{x a b} h1 h2=>by let e1:=(FX S.nd).mpr h1;let e2:=(FX S.nd).mpr h2;rw[e1]at e2;show qf e2
 --what a visible name is,seen from around
 have h4:∀{x:Str},((relabel scope X.env).names.lookup x=some .cell\/(relabel scope X.env).names.lookup x=some .free)->(x,NameKind.cell)∈scope.names\/(x,NameKind.free)∈scope.names:=λ{x} h=>by
  rw[FV]at h;cases q:scope.names.lookup x with
  |none=>rw[q]at h;rcases h with h|h<;>cases h
  |some k=>
   let L:=mem_of_lookup q;rw[q]at h;let h0:some (rl X.env x k)=some .cell\/some (rl X.env x k)=some .free:=h;cases k with
   |cell=>show .inl L
   |free=>show .inr L
   |«local»=>rw[Er ⋯]at h0;rcases h0 with h|h<;>cases h
   |globalImplicit=>rw[Er ⋯]at h0;rcases h0 with h|h<;>cases h
   |globalExplicit=>rw[Er ⋯]at h0;rcases h0 with h|h<;>cases h
 have ok:(aW X scope vars s H ex).Ok:=by
  show#[I.ok.mod,S.kind,I.ok.glob,I.ok.blt,q8 _,λx y c h1 h2=>?_,λx h=>?_,λx c hf h=>?_,I.ok.hd,I.ok.frames,.inl rfl,λb M=>#[?_,λx c h z=>?_],I.bs,le_trans I.ok.bsz I.sz,λb o e M=>?_,λb M z=>?_,I.stack,I.stkFree]
  .refine Hl (λp hp=>?_) (λp hp q hq e=>?_) (x,c) (mem_of_lookup h1) (y,c) (mem_of_lookup h2) rfl
   .show lt_succ_of_lt (lt (cm (x:=p.1) (c:=p.2) hp).2)
   .show I.ok.inj _ _ _ (cm (x:=p.1) (c:=p.2) hp).2 (e▸(cm (x:=q.1) (c:=q.2) hq).2)
  .rcases h4 h with z|z
   .show FP (EG (.inl z))
   .obtain⟨c,hc⟩:=I.ok.has x (S.fr (x,.free) z rfl);show FP (EG (.inr #[c,EI hc (.inr z)]))
  .let h8:(x,NameKind.cell)∈scope.names:=qS hf;rcases Ap h with⟨_,z⟩|⟨_,z⟩
   .cases uniq h8 z
   .show Nat.le_of_succ_le z
  .show ne_of_lt (hex b M).2
  .rcases Ap h with⟨w,_⟩|⟨_,w⟩
   .show(hex b M).1.2.2.2.2.1 x c w z
   .let h1:=(hex b M).2;rw[<-z]at h1;show absurd (lt_of_lt_of_le h1 (Nat.le_of_succ_le w)) (lt_irrefl _)
  .obtain⟨_,_,_,h1,_⟩:=(hex b M).1;rcases h1 with z|z
   .show I.ok.noex b o e z
   .rw[(I.ok.bs b o e).1]at z;cases z
  .obtain⟨_,h2,O,_⟩:=(hex b M).1;rcases qA.mp (I.stkSub b z)with w|w
   .show h2 w
   .show O w
 let F:∀{c:Addr}{v:Option Value},s.heap.IsCell c v->h'.IsCell c v:=λz=>z.keeps kept;show#[ok,rfl,I.bare,Un.kept kept,#[_,h7,λi x v h1 h2 O=>?_],λx c h=>?_,I.hok.fresh (q8 _),λx c h=>?_,λp hp=>absurd (show p∈([]:List (Addr×Obj)) from hp) (by simp),I.hok.kept kept,?_]
 ·--a slot of the context
  let h5:¬rV (aW X scope vars s H ex).env.scope Str.empty:=λO=>by let G:(relabel scope X.env).names.lookup Str.empty=some .local\/(relabel scope X.env).names.lookup Str.empty=some .cell\/(relabel scope X.env).names.lookup Str.empty=some .free:=O;rw[FV,S.emp]at G;rcases G with z|z|z<;>cases z
  have hi:i<Z.length:=by
   by_cases hi:i<Z.length
   .show hi
   .exfalso;rw[getElem?_append_right (not_lt.mp hi)]at h2;cases q:i-Z.length with
    |zero=>
     let e:i=X.N.length:=by let:=I.len;lia
     rw[e]at h1;let Y:(eT X.N vars)[X.N.length]?=some x:=h1;unfold eT at Y;simp at Y;subst Y;show h5 O
    |succ j=>rw[q,List.getElem?_cons_succ,List.getElem?_replicate]at h2;split at h2<;>cases h2
  rw[getElem?_append_left hi]at h2;rcases Qo h1 (by rw[<-I.len];show hi)with⟨h1,hx⟩|rfl
  .have own:=S.own x (qL h1) hx;let B:(x,NameKind.free)∈scope.names:=by
    let G:(relabel scope X.env).names.lookup x=some .local\/(relabel scope X.env).names.lookup x=some .cell\/(relabel scope X.env).names.lookup x=some .free:=O;rcases G with z|z
    .rw[FV]at z;cases q:scope.names.lookup x with
     |none=>rw[q]at z;cases z
     |some kk=>
      rw[q]at z;let z0:some (rl X.env x kk)=some .local:=z;let L:=mem_of_lookup q;cases kk with
      |«local»=>show absurd L own.1
      |cell=>show absurd L own.2
      |free=>show L
      |globalImplicit=>rw[Er ⋯]at z0;cases z0
      |globalExplicit=>rw[Er ⋯]at z0;cases z0
    .rcases h4 z with w|w
     .show absurd w own.2
     .show w
   let J:=S.fr (x,.free) B rfl;let#[m,L,hl]:=I.loc;let#[u,r,l]:=hl i x v h1 h2 (J.elim (λz=>.inr (.inl z)) λz=>.inr (.inr z));show#[u,r,.inr #[?_,?_]]
   .show(relabel scope X.env).names.lookup x=some .cell\/(relabel scope X.env).names.lookup x=some .free;rw[FV,(FX S.nd).mpr B];show some (rl X.env x .free)=_\/some (rl X.env x .free)=_;rcases MV (env:=X.env) (x:=x)with e|e<;>rw[e]
    .show .inl rfl
    .show .inr rfl
   .rcases l with⟨z,_⟩|⟨_,c,hc,z⟩
    .let z':X.env.scope.names.lookup x=some .local:=z;rcases J with w|w<;>(have w':X.env.scope.names.lookup x=_:=w;rw[w']at z';cases z')
    .show#[c,?_,F z];let#[c',h6]:=FP (EG (n:=s.heap.objs.size+1) (names:=scope.names) (.inr #[c,EI hc (.inr B)]));rcases Ap h6 with⟨w,_⟩|⟨w,_⟩
     .rw[hc]at w;cases w;show h6
     .cases uniq B w
  .show absurd O h5
 .rcases h9 x c (mem_of_lookup h)with z|z
  .obtain⟨v,w⟩:=I.cell x c (cm z).2;show#[v,F w]
  .show#[none,z]
 .rcases Ap h with⟨w,_⟩|⟨_,w⟩
  .show I.freeC x c w
  .show I.hok.fresh (Nat.le_of_succ_le w)
 .show _=(eT X.N vars).length;unfold eT;simp[I.len,hk]
abbrev TB:=St->Hp->(St->Hp->Prop)->Prop
def lG(X:Cx)(m:Sem Unit)(t:TB):Prop:=∀(zF:List (Addr×Obj))(s:Shared)(Z:St)(H:Hp)(Q:St->Hp->Prop),Inv X zF Z H s->t Z H Q->
 wpAny (model X.prog X.w) X.A m (λ_ s'=>∃Z' H',Inv X zF Z' H' s'/\Q Z' H') (λ_ _=>False) s
def mZ(X:Cx)(ifs:List Expr)(t:TT):Prop:=∀(zF:List (Addr×Obj))(s:Shared)(Z:St)(H:Hp)(Q:Bool->Hp->Prop),Inv X zF Z H s->t Z H Q->
 wpAny (model X.prog X.w) X.A (forIn ifs true λc r=>if r=true then do let ok<-isTrue c X.env (eval c X.env);pure (ForInStep.yield ok)else pure (ForInStep.yield r)) (TP X zF Z Q) X.xe s
def OA:mZ X [] (λ_ H Q=>Q true H):=λzF s Z H Q I q=>wpAny_tests_nil #[H,I,q]
def hU(g:TG)(tc:TT)(tb:TB)(J:It):TB:=λZ H Q=>∃W:Nat->Nat->St->Hp->Prop,(∃m,W 0 m Z H)/\∀i m Z H,W i m Z H->
 (J.stop i H/\Q Z H)\/(J.go i H/\∃N:St->Hp->Prop,(∀Z' H',N Z' H'->∃B,B<m/\W (i+1) B Z' H')/\∀x H',J.yld i H x H'->g x Z H' λz H2=>tc z H2 λb F=>if b=true then tb z F N else N z F)
def lH(X:Cx)(e:Expr)(d:Nat)(z:Value)(tg:Expr)(F:It->TB):Prop:=∀(zF:List (Addr×Obj))(s:Shared)(Z:St)(H:Hp)(J:It)(fp:List Addr)(it:Addr)(B:Nat->Heap->Prop)(Q:St->Hp->Prop),Inv X zF Z H s->
 gR X.prog X.w X.K tg J fp it B->B 0 s.heap->(∀b∈fp,bB X zF H b)->F J Z H Q->
 codeAny (model X.prog X.w) X.A (.compLoop e d (.ref it) z X.env) (λr s'=>∃Z' H',r=.ok .next/\Inv X zF Z' H' s'/\Q Z' H') s
def lF(X:Cx)(m:Sem Fin)(c:Code)(t:TB):Prop:=∀(zF:List (Addr×Obj))(s:Shared)(Z:St)(H:Hp)(Q:St->Hp->Prop),Inv X zF Z H s->t Z H Q->
 wpAny (model X.prog X.w) X.A m (λf s'=>f=.again c/\∃Z' H',Inv X zF Z' H' s'/\Q Z' H') (λ_ _=>False) s
def lG.f(h:lG X m t):lF X (m>>=λ_=>again c) c t:=λzF s Z H Q I q=>qa (zi (h zF s Z H Q I q) (λ_ s' z=>qb #[rfl,z]) λ_ _ z=>z)
def Rb{inner:Addr->Sem Fin}(hc:X.calm=true)(hxe:X.xe=λ_ _=>False)(hg:PG X tg g)(ht:mZ X ifs tc)(hr:∀it,lF X (inner it) (.compLoop e d (.ref it) zK X.env) tb)
  (hq:∀it,(Code.compLoop e d (.ref it) zK X.env).quiet=true)(hun:∀it,X.A.under (.compLoop e d (.ref it) zK X.env)=X.A)
  (hden:∀it,(model X.prog X.w).den (.compLoop e d (.ref it) zK X.env)=(compTurn e d (.ref it) zK X.env).onRaise (λx=>do noteFrame x X.env;theTreesLotGoes x))
  (heq:∀it,compTurn e d (.ref it) zK X.env=(standAt ipos>>=λ_=>pyNext (.ref it)>>=λr=>match r with
   |none=>pure (.done .next)
   |some v=>letOwnedTupleGo tg (.ref it) v>>=λ_=>assign tg X.env v>>=λ_=>(forIn ifs true λc r=>if r=true then do let ok<-isTrue c X.env (eval c X.env);pure (ForInStep.yield ok)else pure (ForInStep.yield r))>>=λok=>if ok=true then inner it else again (.compLoop e d (.ref it) zK X.env))):
  lH X e d zK tg (hU g tc tb):=by
 intro zF s Z H J fp it tn Q I T st f ⟨W,⟨m0,w0⟩,turn⟩;let stat:∀{H':Hp},(∀b∈fp,H' b=none)->∀b∈fp,bB X zF H' b:=λhn b hb=>#[hn b hb,(f b hb).2]
 let nox:∀{α:Type}{m:Sem α}{Q:α->Shared->Prop}{E:zj}{s:Shared},wpAny (model X.prog X.w) X.A m Q X.xe s->wpAny (model X.prog X.w) X.A m Q E s:=λh=>zi h (λ_ _ q=>q) λ_ _ x=>by rw[hxe]at x;show x.elim
 show codeAny_loop (hq it) (λn s'=>∃i Z' H',Inv X zF Z' H' s'/\tn i s'.heap/\(∀b∈fp,H' b=none)/\W i n Z' H') ?_ m0 #[0,Z,H,I,st,λb hb=>(f b hb).1,w0];rintro n s3 ⟨i,Z3,H3,I3,st3,fr3,w3⟩;rw[hun,hden];show wpAny_noted ?_;rw[heq];show qa (wpAny_standAt (qa ?_));rcases turn i n Z3 H3 w3 with⟨stop,qn⟩|⟨go,N,hN,step⟩
 .show Af (T.done X rfl rfl rfl hc i zF s3 Z3 H3 _ I3 (stat fr3) st3 stop) λr s4⟨hr,I4⟩=>?_;subst hr;show qb #[Z3,H3,rfl,I4,qn]
 .show Af (T.item X rfl rfl rfl hc i zF s3 Z3 H3 _ I3 (stat fr3) st3 go) λr s4 zq=>?_;let#[u,hr',h4]:=zq;subst hr';show qa (Af h4 λ_ s5 zq=>?_);show cps λ_ kk=>?_;let#[x,H5,I5,r5,y5,st5,fr5]:=zq;show kk ?_;let I5':=I5.pinned (stat fr5) (T.obj _ _ st5);show qa (nox (Af (hg _ s5 Z3 H5 x u _ I5' r5 (step x H5 y5)) λ_ s6 zq=>?_));let#[Z6,H6,I6,q6]:=zq;let again:∀{Z7:St}{H7:Hp}{s7:Shared},Inv X (zF++eP fp s5.heap) Z7 H7 s7->N Z7 H7->∃m,m<n/\∃i Z' H',Inv X zF Z' H' s7/\tn i s7.heap/\(∀b∈fp,H' b=none)/\W i m Z' H':=λ{Z7 H7 s7} I7 n7=>by let#[m',hm,w7]:=hN Z7 H7 n7;show#[m',hm,i+1,Z7,H7,I7.unpinned,T.keep _ _ _ st5 λb hb o e=>(I7.pin (b,o) (qi _ (qi _ (Ga hb e)))).1,λb hb=>?_,w7];let#[o,e,d]:=T.obj _ _ st5 b hb;exact(I7.pin (b,o) (qi _ (qi _ (Ga hb e)))).2.1
  show qa (nox (Af (ht _ s6 Z6 H6 _ I6 q6) λb s7 zq=>?_));let#[H7,I7,q7]:=zq;cases b with
  |true=>show zi (hr it _ s7 Z6 H7 _ I7 q7) (λf s8 zq=>?_) λ_ _ z=>z.elim;let#[ef,Z8,H8,I8,n8]:=zq;subst ef;show#[rfl,again I8 n8]
  |false=>show qb #[rfl,again I7 q7]
def QH(hl:lH X e d zK tg tl)
  (hq:∀it,(Code.compLoop e d (.ref it) zK X.env).quiet=true)(hun:∀it,X.A.under (.compStart e d (.ref it) zK X.env)=X.A)
  (hden:∀it,(model X.prog X.w).den (.compStart e d (.ref it) zK X.env)=(compStart e d (.ref it) zK X.env).onRaise (λx=>do noteFrame x X.env;standAt theWindowsPlace))
  (heq:∀it,∃p,compStart e d (.ref it) zK X.env=(ask>>=λc=>if c.params.followText "comprehension-iter-twice"=true then again (.compLoop e d (.ref it) zK X.env)else
   rule "comprehension.iter-twice">>=λ_=>standAt p>>=λ_=>pyIter (.ref it)>>=λit'=>again (.compLoop e d it' zK X.env)))(I:Inv X zF Z H s)
  (T:gR X.prog X.w X.K tg J fp it tn)(st:tn 0 s.heap)(f:∀b∈fp,bB X zF H b)(q:tl J Z H Q):
  codeAny (model X.prog X.w) X.A (.compStart e d (.ref it) zK X.env) (λr s'=>∃Z' H',r=.ok .next/\Inv X zF Z' H' s'/\Q Z' H') s:=by
 let h0:=hl zF s Z H J fp it tn Q I T st f q;show codeAny_of_tree ?_;rw[hun,hden];show wpAny_notedAt ?_;let#[p,e]:=heq it;rw[e];show qa (wpAny_askSetting (wpAny_ite ?_));split
 .show qb #[hq it,h0]
 .show qa (wpAny_rule (qa (wpAny_standAt (qa (T.self X.A 0 s _ _ st (qb #[hq it,h0]))))))
end L2
namespace FL
open PySem PySem.Spec PyProof.Rows L2
inductive vP(X:Cx)(n:Nat)(D:Addr)(b:WB)(Z:St)(H:Hp)(Q:St->Hp->Prop):Prop
 |mk (F G:Hp) (U:Env) (P:Env->Prop) (zH:Rel X.K U Z F G H) (hs:Z[n]?=some (some (.ref D))) (hw:b U P NX) (hn:∀U' Z' F' H',P U'->KP (List.range (n+1)) Z Z'->zr F F'->Rel X.K U' Z' F' G H'->Q Z' H'):vP X n D b Z H Q
def Lj:XC X T F G NX:=λ_ _ _ _ _ _ _ z=>z.elim
section
variable{K:W.Frag}
def zv.snoc(b:zv K F H xs l fp)(r:aJ K F H v s fq):zv K F H (xs++[v]) (l++[s]) (fp++fq):=
 zv.ind (P:=λxs l fp=>zv K F H (xs++[v]) (l++[s]) (fp++fq)) (by let:=zv.cons r .nil;rwa[qz]at this) (λa _ z=>by rw[qp];show .cons a z) b
def zv.len(r:zv K F H xs l fp):xs.length=l.length:=zv.ind (P:=λxs l _=>xs.length=l.length) rfl (λ_ _ z=>congrArg (·+1) z) r
def Rel.append{D:Addr}(r:Rel K (U++[some s]) (Z++[some v]) F G H)(hs:slot U n=some (.lst l))(J:Z[n]?=some (some (.ref D))):
  ∃xs,H D=some (.lst xs)/\xs.length=l.length/\Rel K (U.set n (some (.lst (l++[s])))) Z F G (upd H D (.lst (xs++[v]))):=by
 let hl:=Ag r;let#[fp,e,nd,ap]:=r.en;let#[f1,f2,rfl,a,b]:=e.cut hl;let#[v',fa,fi,fb,e1,rfl,q,up]:=a.at hs;rw[J]at e1;let e2:V.ref D=v':=↑e1
 subst e2;cases q with
 |lst hD rl=>
  rename_i xs fl;cases b with
  |so sr nl=>
   cases nl;rename_i fs;show#[xs,hD,rl.len,?_];let es:Z.set n (some (.ref D))=Z:=by
    apply ext_getElem?;intro j;by_cases hj:n=j
    .subst hj;rw[getElem?_set_self (qg.mp J).1,J]
    .rw[getElem?_set_ne hj]
   --D is nobody else's
   let#[n1,n2,Y]:=qw.mp nd;let#[na,B,O]:=qw.mp n1;let#[ni,nb,B]:=qw.mp B;let#[nD,h4]:=qK.mp ni;let h3:D∉fa:=λz=>O D z D (qj _ qm) rfl;let h2:D∉fb:=λz=>B D qm D z rfl;let h1:D∉fs:=λz=>Y D (qi _ (qj _ qm)) D ↑z rfl;let M:=ap D (qj _ (qi _ (qj _ qm)));let ne:∀{l:List Addr},D∉l->∀x∈l,upd H D (.lst (xs++[v])) x=H x:=λh x L=>Ah λz=>h (z▸L);let new:aJ K F (upd H D (.lst (xs++[v]))) (.ref D) (.lst (l++[s])) (D::(fl++fs)):=.lst AQ (zv.snoc (rl.mono (zr.refl F) (ne nD)) (sr.mono (zr.refl F) (ne h1)));let a2:=up (F':=F) (H':=upd H D (.lst (xs++[v]))) (o:=some (.lst (l++[s]))) (u:=some (.ref D)) (zr.refl F) (λx L=>Ah λz=>(qx.mp L).elim (λw=>h3 (z▸w)) λw=>h2 (z▸w)) (.so new .nil);rw[es]at a2;let p:(fa++((D::(fl++fs))++[]++fb)).Perm (fa++((D::fl)++fb)++(fs++[])):=by simp;show List.Perm.append_left _ (List.Perm.cons _ (List.Perm.append_left _ qM))
   show#[zr.updR r.fr M.1,λx o w=>?_,_,a2,p.nodup_iff.mpr nd,λx L=>ap x (by simpa using p.mem_iff.mp L)];let L:x≠D:=λz=>by rw[z,M.2]at w;cases w
   rw[Ah L];show r.gr x o w
end
section
variable{D:Addr}
def Qe(L:X.xe=λ_ _=>False)(h:FE X h5 we):lG X (eval h5 X.env>>=λx=>call (.builtin "list.append") [.ref D,x]>>=λ_=>pure ()) (vP X n D (dU n we)):=by
 intro zF s Z H Q I q;let#[F,G,U,P,h2,h3,hw,h4]:=q;let hp:PassesOwn (model X.prog X.w) X.A X.env X.xe:=by rw[L];show PassesOwn.never
 have he:=h X.pn X.xe hp zF s Z H (λv H1=>∃O U1 t l,zr F O/\Rel X.K (U1++[some t]) (Z++[some v]) O G H1/\slot U1 n=some (.lst l)/\l.length<big/\P (U1.set n (some (.lst (l++[t]))))) I
  #[F,G,U,_,NX,h2,hw,λr U1 v O H1 B s1 Y rv=>?_,Lj]
 .let J:∀e s',X.xe e s'->False:=λe s' z=>by rw[L]at z;exact z
  show qa (zi he (λu s1 zq=>?_) λe s' z=>J e s' z);show cps λ_ kk=>?_;let#[v,H1,I1,rv,O,U1,t,l,sm,Y,hs,hz,hP]:=zq;let#[xs,hD,M,r2]:=Rel.append Y hs h3;show kk ?_;show qa (zi (Kh zF s1 Z H1 (.ref D) [v] (.ref D) [u] (λw H'=>w=.non/\H'=upd H1 D (.lst (xs++[v]))) I1 rfl (.cons rv .nil) #[D,xs,v,rfl,rfl,hD,by rw[M];show lt_trans hz ⋯,rfl,rfl]) (λw s2 zq=>?_) λe s' z=>J e s' z);let#[w',H2,I2,_,_,e2]:=zq;subst e2;show qb #[Z,_,I2,h4 _ Z O _ hP KP.refl sm r2]
 .obtain⟨⟨t,h1⟩,eg,B⟩:=Ai B;let#[F2,s2,l2,r2]:=AC (U':=[]) (Z':=[]) Y (Ag Y) rv eg;split at B
  .rename_i l e;show#[F2,h1,t,l,s1.trans s2,r2,e,B.1,B.2]
  .show B.elim
def Fv:mZ X [] (kJ X gD):=λzF s Z H Q I q=>OA zF s Z H Q I (by let#[F,G,U,P,PX,z,J,B,L]:=q;show B true U F H J (zr.refl F) z)
def OW(it:fD X.K J l F)(h7:Rel X.K U Z F G H)(e1:Z[n]?=some (some (.ref D)))
  (hw:aN g wc b l U P NX)(e3:∀U' Z' F' H',P U'->KP (List.range (n+1)) Z Z'->zr F F'->Rel X.K U' Z' F' G H'->Q Z' H'):
  hU (vO X (List.range (n+1)) g) (kJ X wc) (vP X n D b) J Z H Q:=by
 let h3:∀{Z':St},KP (List.range (n+1)) Z Z'->Z'[n]?=some (some (.ref D)):=λk=>by rw[k n (by simp)];show e1
 show#[λi m z H2=>m=l.length-i/\i<=l.length/\∃F2 U2,KP (List.range (n+1)) Z z/\zr F F2/\Rel X.K U2 z F2 G H2/\aN g wc b (l.drop i) U2 P NX,#[l.length,by simp,zero_le _,F,U,KP.refl,zr.refl F,h7,hw],?_];rintro i m z H2 ⟨rfl,hi,F2,U2,kp,s2,r2,B⟩;let#[h9,h8]:=it i U2 z F2 G H2 s2 r2;by_cases L:i<l.length
 .obtain⟨go,h6⟩:=h9 l[i] (by simp);show .inr #[go,λM H3=>i+1<=l.length/\∃F3 h1,KP (List.range (n+1)) Z M/\zr F F3/\Rel X.K h1 M F3 G H3/\aN g wc b (l.drop (i+1)) h1 P NX,λM H3 h=>#[l.length-(i+1),∅,rfl,h],λy H3 hy=>?_];let#[F3,s3,r3,rp]:=h6 y H3 hy;rw[List.drop_eq_getElem_cons L]at B;show#[F3,G,U2,_,_,r3.push rp,B,λh5 e4 F4 H4 e2 k4 s4 r4=>?_];let O:=kp.trans k4;let h2:=s2.trans (s3.trans s4);show#[F4,G,h5,_,_,r4,e2,λk Y F5 H5 h4 s5 r5=>?_,Lj];cases k with
  |true=>show#[F5,G,Y,_,r5,h3 O,h4,λU' Z' F' H' h k' s r=>#[L,F',U',O.trans k',h2.trans (s5.trans s),r,h]]
  |false=>show#[L,F5,Y,O,h2.trans s5,r5,h4]
 .let e:i=l.length:=Nat.le_antisymm hi (not_lt.mp L);subst e;rw[List.drop_length]at B;show .inl #[h8 (q8 _),e3 U2 z F2 H2 B kp s2 r2]
end
def Lf{α:Type}{l:List α}{a:α}(h:l[n]?=some a):l=l.take n++a::l.drop (n+1):=by let#[z,e]:=qg.mp h;rw[<-e,<-List.drop_eq_getElem_cons z,take_append_drop]
section
variable{X:Cx}
def Nl(hmk:∀(A:Around)(E:zj)(s:Shared)(Q:zj),Q (.ref s.heap.objs.size) {s with heap:=s.heap.push {cls:=.type ty,dict:=none,data:=dat}}->wpAny (model X.prog X.w) A mk Q E s)(ho:∀(H:Hp)(h:Heap),sysModules<h.objs.size->zE X.prog X.w H (h.push {cls:=.type ty,dict:=none,data:=dat}) h.objs.size o0)(hs0:∀(F H:Hp)(p:Addr),H p=some o0->aJ X.K F H (.ref p) s0 [p])(hcl:clausesOf e=⟨tg,iter,ifs,0⟩::gs)(hs:∀x,foldedSetIterable iter X.env x=pure x)
  (Sc:cL X.env.scope scope X.N vars)(hk:vars.length=k)(hi:FI X tg iter wi)
  (hb:∀(s:Shared)(H:Hp)(ex:List Addr)(D:Addr),lH (aW X scope vars s H ex) e 0 (.ref D) tg (hU (vO (aW X scope vars s H ex) (List.range (X.N.length+1)) g) (kJ (aW X scope vars s H ex) wc) (vP (aW X scope vars s H ex) X.N.length D b)))
  (hq:∀it zK env,(Code.compLoop e 0 (.ref it) zK env).quiet=true)(hun:∀it zK env,X.A.under (.compStart e 0 (.ref it) zK env)=X.A)
  (hden:∀it zK env,(model X.prog X.w).den (.compStart e 0 (.ref it) zK env)=(compStart e 0 (.ref it) zK env).onRaise (λx=>do noteFrame x env;standAt theWindowsPlace))
  (heq:∀it zK env,∃p,compStart e 0 (.ref it) zK env=(ask>>=λc=>if c.params.followText "comprehension-iter-twice"=true then again (.compLoop e 0 (.ref it) zK env)else
   rule "comprehension.iter-twice">>=λ_=>standAt p>>=λ_=>pyIter (.ref it)>>=λit'=>again (.compLoop e 0 it' zK env)))(hp:PassesOwn (model X.prog X.w) X.A X.env xe){P:WQ}(I:Inv (wp X pn xe) zF Z H s)
  (zH:Rel X.K U Z F G H)(hw:wi U (λl U1=>aN g wc b l (U1++some s0::List.replicate k none) (λU2=>zp (slot U2 X.N.length) λs=>P (.v s) (U2.take X.N.length)) NX) PX)(hx:XC (wp X pn xe) (·=Z) F G PX)
  (fin:∀(D C:Addr)(s4:Shared)(H4 F4:Hp)(m:Str->Option Value)(t:S)(U4:Env),s4.heap.Ns C m->Inv (wp X pn xe) zF Z H4 s4->H4 C=none->C≠X.env.locals->X.s₀.heap.objs.size<=C->(∀x c,X.env.cells.lookup x=some c->c≠C)->(∀p∈pn++zF,p.1≠C)->
   P (.v t) U4->zr F F4->Rel X.K (U4++[some t]) (Z++[some (.ref D)]) F4 G H4->compPost (model X.prog X.w) X.A xe use Q' (.ref D) C (.ok .next) s4):
  wpAny (model X.prog X.w) X.A (comprehension e scope X.env cpos mk false (eval iter X.env) use) Q' xe s:=by
 have hi':=hi pn xe hp zF s Z H (λJ H1=>∃F1 U1 l,zr F F1/\Rel X.K U1 Z F1 G H1/\fD X.K J l F1/\
   aN g wc b l (U1++some s0::List.replicate k none) (λU2=>zp (slot U2 X.N.length) λs=>P (.v s) (U2.take X.N.length)) NX) I
  #[F,G,U,_,PX,zH,hw,λl U1 F1 H1 J hk s1 r1 it=>#[F1,U1,l,s1,r1,it,hk],hx]
 let hfree:∀x∈scope.names,x.2=.free->∃c,X.env.cells.lookup x.1=some c:=λx hx hf=>I.ok.has x.1 (Sc.fr x hx hf);show wpAny_comprehension_free (use:=use) hcl hs (Sn hfree) Sc.kind (λx hx hl=>(FX Sc.nd).mpr (by let#[a,b]:=x;let hl':b=.local:=hl;subst hl';show hx)) (zi hi' (λv s1 h1=>zi h1 (λitv s2 h2=>?_) λ_ _ z=>z) λ_ _ z=>z);show cps λ_ kk=>?_;let#[it,fp,tn,J,H2,e1,I2,T,st,f,F1,U1,l,s1',r1,ito,hk2]:=h2;show kk ?_;subst e1
 --the zK
 show hmk _ _ _ _ ?_;generalize hs3:({s2 with heap:=s2.heap.push {cls:=.type ty,dict:=none,data:=dat}}:Shared)=s3;let k23:∀b o,s2.heap.get? b=some o->s3.heap.get? b=some o:=λb o e=>by rw[<-hs3];show qc _ e
 let sz3:s3.heap.objs.size=s2.heap.objs.size+1:=by rw[<-hs3];show Heap.size_push ..
 let hD:H2 s2.heap.objs.size=none:=I2.hok.fresh (q8 _);let I3:Inv (wp X pn xe) zF Z (upd H2 s2.heap.objs.size o0) s3:=by rw[<-hs3];show I2.laid (t':=s2.toks) (λb o e=>qc _ e) (q8 _) (ho _ _ I2.big)
 let r3:Rel X.K (U1++[some s0]) (Z++[some (.ref s2.heap.objs.size)]) F1 G (upd H2 s2.heap.objs.size o0):=r1.newO hD (hs0 _ _ _ AQ);let fplt:∀b∈fp,b<s2.heap.objs.size:=λb hb=>by let#[o,e,_]:=T.obj _ _ st b hb;show qe e
 let fne:∀b∈fp,b≠s2.heap.objs.size:=λb hb=>ne_of_lt (fplt b hb);let f3:∀b∈fp,bB (wp X pn xe) zF (upd H2 s2.heap.objs.size o0) b:=λb hb=>by let#[h1,h2]:=f b hb;show#[by rw[Ah (fne b hb)];show h1,h2]
 show RX λh' kept hns hcl'=>?_;let I4:=Inv.comp (X:=wp X pn xe) (ex:=fp) I3 Sc (λb hb=>#[f3 b hb,by rw[sz3];show lt_succ_of_lt (fplt b hb)]) kept hns hcl' hk (some (.ref s2.heap.objs.size));let hZn:(Z++some (.ref s2.heap.objs.size)::List.replicate k none)[X.N.length]?=some (some (.ref s2.heap.objs.size)):=by let hl:X.N.length=Z.length:=I2.len.symm;rw[hl,getElem?_append_right (q8 _),sub_self];rfl
 let r4:Rel X.K (U1++some s0::List.replicate k none) (Z++some (.ref s2.heap.objs.size)::List.replicate k none) F1 G (upd H2 s2.heap.objs.size o0):=by let:=r3.pushNs k;simpa using this
 let st4:tn 0 h':=T.keep _ _ _ st λb hb o e=>kept b o (k23 b o e);let f4:∀b∈fp,bB (aW X scope vars s3 (upd H2 s2.heap.objs.size o0) fp) [] (upd H2 s2.heap.objs.size o0) b:=λb hb=>by let#[h1,h2,h3,h4,h5,h6]:=f3 b hb;let e:=I4.ok.exf b hb;show#[h1,e.1,I4.ok.exfs b hb,.inl hb,e.2,λp hp=>absurd (show p∈([]:List (Addr×Obj)) from hp) (by simp)]
 have go:=QH (hb s3 (upd H2 s2.heap.objs.size o0) fp s2.heap.objs.size) (λit=>hq it _ _) (λit=>hun it _ _) (λit=>hden it _ _) (λit=>heq it _ _) I4 T st4 f4
  (Q:=λZ' H'=>∃F' U',zp (slot U' X.N.length) (λs=>P (.v s) (U'.take X.N.length))/\KP (List.range (X.N.length+1)) (Z++some (.ref s2.heap.objs.size)::List.replicate k none) Z'/\zr F1 F'/\Rel X.K U' Z' F' G H')
  (OW ito r4 hZn hk2 λU' Z' F' H' a kp sm r=>#[F',U',a,kp,sm,r])
 show codeAny_mono go λr s4 zq=>?_;show cps λ_ kk=>?_;let#[Z4,H4,er,I5,F4,U4,hn4,kp4,sm4,r5]:=zq;subst er;let#[m,hm,_]:=id I5.loc;show kk ?_;let I6:Inv (wp X pn xe) zF Z H4 s4:=Inv.call' (ch:=fp) I3 I5.os I5.base I5.hok I5.bare λb hb=>by let#[h1,h2,h3,h4,h5,h6]:=f3 b hb;show#[h4,h2,h5,h6]
 --the block's names go
 let#[t,et,hP]:=Ai hn4;let hl:X.N.length=Z.length:=I2.len.symm;let hZ4:Z4[X.N.length]?=some (some (.ref s2.heap.objs.size)):=by rw[kp4 X.N.length (by simp)];show hZn
 have eZ:Z4.take X.N.length=Z:=by
  apply ext_getElem?;intro j;by_cases hj:j<X.N.length
  .rw[List.getElem?_take_of_lt hj,kp4 j (by simp;lia -verbose),getElem?_append_left ∅]
  .rw[List.getElem?_take_eq_none (not_lt.mp hj),qO ∅]
 let e1:=Lf (KY et);let e2:=Lf hZ4;rw[e1,e2,eZ]at r5;let r6:Rel X.K ((U4.take X.N.length++[some t])++U4.drop (X.N.length+1)) ((Z++[some (.ref s2.heap.objs.size)])++Z4.drop (X.N.length+1)) F4 G H4:=↑r5
 let hlt:X.N.length<U4.length:=Eg et;let ltC:∀{b:Addr}{o:Obj},s3.heap.get? b=some o->b≠s3.heap.objs.size:=λe=>ne_of_lt (qe e);show fin s2.heap.objs.size s3.heap.objs.size s4 H4 F4 m t (U4.take X.N.length) hm I6 I5.free (Ne.symm (ne_of_lt I3.lt)) I3.sz (λx c e z=>?_) (λp hp z=>?_) hP (s1'.trans sm4) (r6.drop (by simp;lia -verbose))
 .obtain⟨v,o,ho,_⟩:=I3.cell x c e;show ltC ho z
 .show ltC (I3.pin p hp).1 z
def NI{P:WQ}(M:∀r U' v F' H',P r U'->zr F F'->Rel X.K (U'++[zt r]) (Z++[some v]) F' G H'->RV Z v r->Q v H'):
  ∀(D C:Addr)(J:Shared)(B L:Hp)(m:Str->Option Value)(t:S)(z:Env),J.heap.Ns C m->Inv (wp X pn xe) zF Z B J->B C=none->C≠X.env.locals->X.s₀.heap.objs.size<=C->(∀x c,X.env.cells.lookup x=some c->c≠C)->(∀p∈pn++zF,p.1≠C)->
   P (.v t) z->zr F L->Rel X.K (z++[some t]) (Z++[some (.ref D)]) L G B->compPost (model X.prog X.w) X.A xe none (EP (wp X pn xe) zF Z Q) (.ref D) C (.ok .next) J:=
 λD C J B L m t z hm I n1 n2 n3 n4 n5 hP O r=>#[m,hm,λh1 Y=>#[.ref D,B,I.turned (t':=J.toks) (λb o hb e=>(Y.2 b hb).trans e) n1 n2 (.inr (Heap.get?_none_of_le n3)) n4 n5,rfl,M (.v t) z _ L B hP O r trivial]]
def NQ(A:Around)(E:zj)(s:Shared)(Q:zj)(h:Q (.ref s.heap.objs.size) {s with heap:=s.heap.push {cls:=.type B,dict:=none,data:=z}})(hz:sizeOk z:=by size_fits):wpAny (model X.prog X.w) A (newObj (.type B) z) Q E s:=zd h hz
def NA(H:Hp)(h:Heap)(_:sysModules<h.objs.size):zE X.prog X.w H (h.push {cls:=.type "list",dict:=none,data:=.seq ([]:List Value).toArray}) h.objs.size (.lst []):=#[zero_le _,[],0,.nil,qd _ rfl]
def MI(F H:Hp)(p:Addr)(e:H p=some (.lst [])):aJ X.K F H (.ref p) (.lst []) [p]:=.lst e .nil
def Fq(hn:X.N.length=n)(hc:X.calm=true)(Sc:cL X.env.scope scope X.N vars)(hk:vars.length=k)(hi:FI X tg iter M)
  (hg:∀s H ex,FG (aW X scope vars s H ex) (List.range (n+1)) tg g)(ht:∀s H ex,mZ (aW X scope vars s H ex) B (kJ (aW X scope vars s H ex) Y))(he:∀s H ex,FE (aW X scope vars s H ex) L O)
  (hs:∀x,foldedSetIterable iter X.env x=pure x:=by intro _;rfl):FE X (.ListComp L [#[tg,iter,B,0]] scope pos) (sC n k M g Y (dU n O)):=by
 subst hn;intro pn xe hp zF s Z H Q I q;let#[F,G,U,P,PX,z,hw,J,hx]:=q;show Nl (λA E s Q h=>NQ A E s Q h) (s0:=.lst []) NA MI rfl hs Sc hk hi (λs H ex D=>?_) (λ_ _ _=>rfl) (λ_ _ _=>rfl) (λ_ _ _=>rfl) (λ_ _ _=>#[_,rfl]) hp I z hw hx (NI J);show Rb (X:=aW X scope vars s H ex) hc rfl (hg s H ex [] (λ_ _=>False) PassesOwn.never) (ht s H ex) (λ_=>(Qe (X:=aW X scope vars s H ex) rfl (he s H ex)).f) (λ_=>rfl) (λ_=>rfl) (λ_=>rfl) (λ_=>rfl)
end
section
variable{K:W.Frag}
def Ed{x:Str}(e:x.cps.toList=l):x.length=l.length:=by rw[<-e];rfl
def Oe{x y:Str}(e:x.cps.toList=l)(z:y.cps.toList=m):(x++y).cps.toList=l++m:=by show(x.cps++y.cps).toList=_;rw[toList_append,e,z]
def aS.int(h:aS K F H v (.int i)):v=.int i:=by
 rcases h with h|⟨_,_,_,_,h,_⟩|⟨_,_,_,_,_,h,_⟩|⟨_,_,_,_,_,h,_⟩
 .cases h;rfl
 .cases h
 .cases h
 .cases h
def aS.str(h:aS K F H v (.str l)):∃x,v=.str x/\x.cps.toList=l/\l.length<=16777216:=by
 rcases h with h|⟨_,_,_,_,h,_⟩|⟨_,_,_,_,_,h,_⟩|⟨_,_,_,_,_,h,_⟩
 .cases h with
  |str e z=>show#[_,rfl,e,z]
 .cases h
 .cases h
 .cases h
def aS.tup(h:aS K F H v (.tup l)):∃a xs,v=.ref a/\F a=some (.tup xs)/\zD K F xs l:=by
 rcases h with h|⟨_,_,_,_,h,_⟩|⟨_,_,_,_,_,h,_⟩|⟨_,_,_,_,_,h,_⟩
 .cases h with
  |tup e r=>show#[_,_,rfl,e,r]
 .cases h
 .cases h
 .cases h
def aS.lst(z:zr F H)(h:aS K F H v (.lst l)):∃a xs,v=.ref a/\bC K H a xs/\zD K F xs l:=by
 rcases h with h|⟨a,xs,J,G,h,B,r⟩|⟨_,_,_,_,_,h,_⟩|⟨_,_,_,_,_,h,_⟩
 .cases h with
  |lst e r=>show#[_,_,rfl,bC.mono z e,r]
 .cases h;show#[a,xs,G,bC.of B,r]
 .cases h
 .cases h
def zD.append(a:zD K F xs l)(r:zD K F ys m):zD K F (xs++ys) (l++m):=zD.ind (P:=λxs l=>zD K F (xs++ys) (l++m)) r (λa _ z=>.cons a z) a
def Rel.newLD(r:Rel K U Z F G H)(L:H p=none)(B:zD K F xs l):Rel K (U++[some (.lst (l.map .sh))]) (Z++[some (.ref p)]) F G (upd H p (.lst xs)):=by
 have z:∀{xs:List V}{l:List D},zD K F xs l->zv K F (upd H p (.lst xs)) xs (l.map .sh) []:=by
  intro xs l h;generalize upd H p (.lst xs)=H';induction xs generalizing l with
  |nil=>cases h;show .nil
  |cons x xs J=>cases h with
   |cons a b=>have:=zv.cons (aJ.sh (H:=H') a) (J b);show this
 show r.newO L (.lst AQ ?_);let:=z B;show this
def nL(K:W.Frag):R2:=λx y H Q=>∃l b xs z,x=.ref l/\y=.ref b/\bC K H l xs/\bC K H b z/\xs.length+z.length<=sizeLine/\∀p,H p=none->Q (.ref p) (upd H p (.lst (xs++z)))
def Nj:OpR X (binaryOp .Add) (nL X.K):=by
 intro zF s Z H x y v u Q I rx ry h;let#[l,b,xs,zs,rfl,rfl,hl,hb,hz,q]:=h;cases rx;cases ry;let#[B,r1,#[#[cls,dd,data,sl],n,ho,hc,M,hd],_]:=I.list hl;let#[z,Y,#[#[h1,h2,data2,J],n2,F,O,G,L],_]:=I.list hb;subst hc M hd O G L;show concat_meets #[_,ho,rfl] #[_,F,rfl] noFill_list_add seq_list_add PySem.F.slot_list_add PySem.F.entry_list_add (PySem.F.args_list_add_2 _ _) (list_addW l b B.toArray z.toArray n n2 none none sl J (by rw[qr,qr,<-r1.length,<-Y.length];show hz)) #[ho,F,?_];let ea:B.toArray++z.toArray=(B++z).toArray:=by simp
 rw[ea];show#[.ref _,_,I.lnew (t':=s.toks) (r1.append Y) (by rw[qq];show hz),rfl,q _ I.fresh]
def kM(K:W.Frag):R2:=λx y H Q=>∃a b xs ys,x=.ref a/\y=.ref b/\aV K H a xs/\aV K H b ys/\xs.length+ys.length<=sizeLine/\
 (xs=[]->Q (.ref b) H)/\(xs≠[]->ys=[]->Q (.ref a) H)/\(xs≠[]->ys≠[]->∀p,H p=none->Q (.ref p) (upd H p (.tup (xs++ys))))
def NY:OpR X (binaryOp .Add) (kM X.K):=by
 intro zF s Z H x y v u Q I rx Y h;let#[a,b,xs,ys,rfl,rfl,ha,hb,hz,q0,q1,q2]:=h;by_cases F:xs=[]
 .cases rx;cases Y;let#[B,r1,p1,_]:=I.tuple ha;let#[z,r2,p2,_]:=I.tuple hb;let#[#[cls,dd,data,sl],ho,hc,n,hd]:=id p1;let#[#[h1,O,data2,J],G,M,n2,L]:=id p2;subst hc hd M L;let hi:B=[]:=r1.nil_iff.mpr F;exact concat_meets #[_,ho,rfl] #[_,G,rfl] noFill_tuple_add seq_tuple_add PySem.F.slot_tuple_add PySem.F.entry_tuple_add (PySem.F.args_tuple_add_2 _ _)
   (tuple_addW0 a b B.toArray z.toArray n n2 dd O sl J (by simp[hi])) #[ho,G,.ref b,H,I,rfl,q0 F]
 .show Nm zF s Z H _ _ v u Q I rx Y #[a,b,xs,ys,rfl,rfl,ha,hb,F,hz,q1 F,q2 F]
def mC:R2:=λx y H Q=>∃i j,x=.str i/\y=.str j/\i.length+j.length<=sizeLine/\Q (.str (i++j)) H
def iU(K:W.Frag):R2:=λx y H Q=>nK (λi j=>.int (i+j)) x y H Q\/(mC x y H Q\/(nL K x y H Q\/kM K x y H Q))
def Ro:OpR X (binaryOp .Add) (iU X.K):=OpR.or Md (OpR.or Ry (OpR.or Nj NY))
def FM(h:n<=big):n<=sizeLine:=by rw[zf];show le_trans h ⋯
def OC:gA K (iU K) aO:=by
 intro Z U F G H x y p q s Q z ex Y e L;unfold aO at e;split at e
 .cases e;let h1:=ex.int;let h2:=Y.int;subst h1 h2;show .inl #[_,_,rfl,rfl,L _ F H (zr.refl F) (z.push (.int _))]
 .rename_i a b;split at e
  .rename_i M;cases e;let#[x,rfl,e1,z1]:=ex.str;let#[y,rfl,e2,z2]:=Y.str;show .inr (.inl #[_,_,rfl,rfl,by rw[Ed e1,Ed e2];show FM M,L _ F H (zr.refl F) (z.push (.str (Oe e1 e2) (by rw[qq];show le_trans M ⋯)))])
  .cases e
 .rename_i a b;split at e
  .rename_i M;cases e;let#[l,xs,rfl,h1,J]:=ex.lst z.fr;let#[m,ys,rfl,h2,B]:=Y.lst z.fr;show .inr (.inr (.inl #[l,m,xs,ys,rfl,rfl,h1,h2,by rw[J.len,B.len];show FM M,λp O=>?_]));show L _ F _ (zr.refl F) (z.newLD O (J.append B))
  .cases e
 .rename_i a b;split at e
  .rename_i M;cases e;let#[l,xs,rfl,h1,J]:=ex.tup;let#[m,ys,rfl,h2,B]:=Y.tup;refine .inr (.inr (.inr #[l,m,xs,ys,rfl,rfl,aV.of (z.fr _ _ h1),aV.of (z.fr _ _ h2),by rw[J.len,B.len];show FM M,λhx=>?_,λ_ hy=>?_,λ_ _ p O=>?_]))
   .subst hx;cases J;show L _ F H (zr.refl F) (z.push (.tup h2 B))
   .subst hy;cases B;rw[qz]at L;show L _ F H (zr.refl F) (z.push (.tup h1 J))
   .let n2:=(z.free O).1;show L _ _ _ (zr.upd n2) ((z.newF O).push (.tup AQ ((J.append B).mono (zr.upd n2))))
  .cases e
 .cases e
def Ey{g:Int->Int->Int}(J:∀p q s,o p q=some s->∃i j,p=.int i/\q=.int j/\C i j/\s=.sh (.int (g i j))):gA K (rI C λi j=>.int (g i j)) o:=by intro Z U F G H x y p q s Q z ex M e B;let#[i,j,rfl,rfl,L,rfl]:=J p q s e;let h1:=ex.int;let h2:=M.int;subst h1 h2;show#[i,j,rfl,rfl,L,B _ F H (zr.refl F) (z.push (.int _))]
def Pp:gA K (rI (λ_ _=>True) λi j=>.int (i-j)) dY:=Ey λp q s e=>by
 unfold dY at e;split at e
 .cases e;show#[_,_,rfl,rfl,trivial,rfl]
 .cases e
def NK:OpR X (binaryOp .Sub) (rI (λ_ _=>True) λi j=>.int (i-j)):=EN λ_ _ _ _ _ _ _ _ q=>sub_int q
def OY:gA K (rI lN λi j=>.int (i*j)) kN:=Ey λp q s e=>by
 unfold kN at e;split at e
 .rename_i i j;split at e
  .rename_i h;cases e;show#[_,_,rfl,rfl,?_,rfl];simp[iV,or_eq_true,and_eq_true,qR]at h;show h
  .cases e
 .cases e
def Pw:gA K (rI (λ_ j=>0<j) λi j=>.int (i %j)) dZ:=Ey λp q s e=>by
 unfold dZ at e;split at e
 .split at e
  .rename_i h;cases e;show#[_,_,rfl,rfl,h,rfl]
  .cases e
 .cases e
def Pc:gA K (rI vJ λi j=>.int (i^j.toNat)) jL:=Ey λp q s e=>by
 unfold jL at e;split at e
 .split at e
  .rename_i h;cases e;show#[_,_,rfl,rfl,#[h.1,∅,h.2.2],rfl]
  .cases e
 .cases e
def nU(i j:Int):Prop:=0<j/\j<18446744073709551616
def Pl:OpR X (binaryOp .FloorDiv) (rI nU λi j=>.int (i/j)):=EN λi j _ _ _ _ _ z q=>by
 let h1:(0:Int)<j:=z.1;let h2:j<18446744073709551616:=z.2;show floordiv_int ∅ ?_ (.inl (PyProof.noPylong_of_log2 ?_))
 .rw[Int.fdiv_eq_ediv_of_nonneg _ ∅];show q
 .let B:j.natAbs≠0:=by lia
  let:j.natAbs.log2<64:=(Nat.log2_lt B).mpr ∅;lia
def PQ:gA K (rI nU λi j=>.int (i/j)) fH:=Ey λp q s e=>by
 unfold fH at e;split at e
 .split at e
  .rename_i h;cases e;show#[_,_,rfl,rfl,h,rfl]
  .cases e
 .cases e
end
def AF(G:FE X a B)(F:FE X b z):FE X (.BinOp a .Add b pos) (zx aO B z):=DY (λ_ _=>Ro) OC G F
def Dw(G:FE X a B)(F:FE X b z):FE X (.BinOp a .Sub b pos) (zx dY B z):=DY (λ_ _=>NK) Pp G F
def Dv(G:FE X a B)(F:FE X b z):FE X (.BinOp a .Mod b pos) (zx dZ B z):=DY (λ_ _=>Mm) Pw G F
def ID(G:FE X a B)(F:FE X b z):FE X (.BinOp a .FloorDiv b pos) (zx fH B z):=DY (λ_ _=>Pl) PQ G F
def Iy(G:FE X a B)(F:FE X b z):FE X (.BinOp a .Pow b pos) (zx jL B z):=DY (λ_ _=>MA) Pc G F
section
open PySem.SeqAt
def Rk(h:aM (.tup l) (.tup m)=false):bH l m=false:=h
def FB:∀{l m:List D}{j:Nat}{a b:D},bH l m=false->l[j]?=some a->m[j]?=some b->aM a b=false
 |[],_,_,_,_,_,h,_=>by simp at h
 |_::_,[],_,_,_,_,_,h=>by simp at h
 |x::l,y::m,0,a,b,h,h1,h2=>by simp at h1 h2;subst h1 h2;let h':(aM x y||bH l m)=false:=h;rw[Bool.or_eq_false_iff]at h';show h'.1
 |x::l,y::m,j+1,a,b,h,h1,h2=>by let h':(aM x y||bH l m)=false:=h;rw[Bool.or_eq_false_iff]at h';show FB h'.2 h1 ↑h2
def Ft:∀{l:List D}{j:Nat}{a:D},l[j]?=some a->fY a<=bY l
 |[],_,_,h=>by simp at h
 |x::l,0,a,h=>by simp at h;subst h;show fY x<=max (fY x) (bY l);lia
 |x::l,j+1,a,h=>by let:=Ft (l:=l) (j:=j) (a:=a) h;show fY a<=max (fY x) (bY l);lia
open Classical in
def Fm{l m:List D}(n:Nat)(hn:n=min l.length m.length):((List.range n).all (λj=>decide (l[j]?=m[j]?))&&(l.length==m.length))=decide (l=m):=by
 by_cases h:l=m
 .subst h;simp
 .rw[qQ h];by_cases z:l.length=m.length
  .have:(List.range n).all (λj=>decide (l[j]?=m[j]?))=false:=by
    cases q:(List.range n).all (λj=>decide (l[j]?=m[j]?))with
    |false=>rfl
    |true=>
     exfalso;apply h;apply ext_getElem?;intro j;by_cases B:j<n
     .show qS (qH.mp q j ↑B)
     .rw[qO ∅,qO ∅]
   rw[this];rfl
  .let:(l.length==m.length)=false:=by simpa using z
   rw[this,Bool.and_false]
inductive Sc:V->D->Prop
 |non:Sc .non .non
 |bl (b:Bool):Sc (.bl b) (.bl b)
 |int (i:Int):Sc (.int i) (.int i)
 |str {x:Str} {l:List Nat}:x.cps.toList=l->Sc (.str x) (.str l)
def HK{K:W.Frag}(r:aI K H v d)(z:aM d e=false)(h1:∀l,d≠.tup l)(h2:∀l,d≠.lst l):Sc v d:=by
 cases r with
 |tup=>show absurd rfl (h1 _)
 |lst=>show absurd rfl (h2 _)
 |dK=>cases e<;>cases z
 |dT=>cases e<;>cases z
 |st=>cases e<;>cases z
 |exc=>cases e<;>cases z
 |non=>show .non
 |bl=>show .bl _
 |int=>show .int _
 |str e _=>show .str e
def Ie{K:W.Frag}(r:aI K H u e)(s:Sc v d)(z:aM d e=false):Sc u e:=by
 cases r with
 |non=>show .non
 |bl=>show .bl _
 |int=>show .int _
 |str e _=>show .str e
 |_=>cases s<;>cases z
open Classical in
def Jj{K:W.Frag}(r1:aI K H v d)(Y:aI K H u e)(F:zw v L)(z:zw u M)(G:aM d e=false)(h1:∀l,d≠.tup l)(h2:∀l,d≠.lst l):
  EqAt A s L M (decide (d=e))/\RcAt A s L M (decide (d=e)):=by
 let O:=HK r1 G h1 h2;let B:=Ie Y O G
 clear r1 Y h1 h2
 cases O with
 |non=>
  cases F;cases B with
  |non=>cases z;simp;show#[EqAt.same _,RcAt.none_none]
  |bl b=>cases z;simp;show#[EqAt.none_bool _,RcAt.none_bool _]
  |int i=>let#[t,rfl]:=z;simp;show#[EqAt.none_int _ _,RcAt.none_int _ _]
  |str e=>let#[t,rfl]:=z;simp;show#[EqAt.none_str _ _,RcAt.none_str _ _]
 |bl a=>
  cases F;cases B with
  |non=>cases z;simp;show#[EqAt.bool_none _,RcAt.bool_none _]
  |bl b=>
   cases z;let e:(decide (D.bl a=D.bl b))=(a==b):=by cases a<;>cases b<;>simp
   rw[e];show#[EqAt.bool_bool _ _,RcAt.bool_bool _ _]
  |str e=>let#[t,rfl]:=z;simp;show#[EqAt.bool_str _ _ _,RcAt.bool_str _ _ _]
  |int=>cases G
 |int i=>
  let#[t,rfl]:=F;cases B with
  |non=>cases z;simp;show#[EqAt.int_none _ _,RcAt.int_none _ _]
  |int j=>
   let#[J,rfl]:=z;let e:(decide (D.int i=D.int j))=(i==j):=by by_cases h:i=j<;>simp[h]
   rw[e];show#[EqAt.int_int _ _ _ _,RcAt.int_int _ _ _ _]
  |str e=>let#[J,rfl]:=z;simp;show#[EqAt.int_str _ _ _ _,RcAt.int_str _ _ _ _]
  |bl=>cases G
 |str e1=>
  let#[t,rfl]:=F;cases B with
  |non=>cases z;simp;show#[EqAt.str_none _ _,RcAt.str_none _ _]
  |bl b=>cases z;simp;show#[EqAt.str_bool _ _ _,RcAt.str_bool _ _ _]
  |int j=>let#[J,rfl]:=z;simp;show#[EqAt.str_int _ _ _ _,RcAt.str_int _ _ _ _]
  |str e2=>
   obtain⟨J,rfl⟩:=z;rename_i x l y m;let e:(decide (D.str l=D.str m))=(x==y):=by
    by_cases h:x=y
    .subst h;rw[<-e1,<-e2];simp
    .let hb:(x==y)=false:=by simpa using h
     rw[hb];show qQ λq=>h ?_;let#[#[a]]:=x;let#[#[b]]:=y;let a1:a=l:=e1;let b1:b=m:=e2;rw[a1,b1,D.str.inj q]
   rw[e];show#[EqAt.str_str _ _ _ _,RcAt.str_str _ _ _ _]
def DQ(r:zC xs us)(h:j<us.toArray.size):∃x,xs[j]?=some x/\zw x us.toArray[j]:=by
 let G:=r.length;let J:j<us.length:=h;let F:j<xs.length:=∅
 let#[u,B,z]:=r.get (i:=j) (x:=xs[j]) (by simp);show#[xs[j],by simp,?_];let:us.toArray[j]=u:=by let:=qg.mp B;simpa using this.2
 rw[this];show z
mutual
def aI.uniq(I:Inv X zF Z H s)(r:aI X.K H v d)(q:aI X.K H v e)(z:aM d e=false):d=e:=by
 cases r with
 |non=>cases q;rfl
 |bl _=>cases q;rfl
 |int _=>cases q;rfl
 |str F _=>cases q with|str B _=>rw[<-F,<-B]
 |tup F J=>cases q with
  |tup B G=>cases I.tuple_inj (aV.of F) (aV.of B);rw[zD.uniq I J G z]
  |_=>cases z
 |lst F J=>cases q with
  |lst B G=>cases I.list_inj F B;rw[zD.uniq I J G z]
  |_=>cases z
 |dK=>cases e<;>cases z
 |dT=>cases e<;>cases z
 |st=>cases e<;>cases z
 |exc=>cases e<;>cases z
def zD.uniq(I:Inv X zF Z H s)(r:zD X.K H v d)(q:zD X.K H v e)(z:bH d e=false):d=e:=by
 cases r with
 |nil=>cases q;rfl
 |@cons _ a _ l J F=>cases q with
  |@cons _ b _ m G B=>have h':(aM a b||bH l m)=false:=z;rw[Bool.or_eq_false_iff]at h';rw[aI.uniq I J G h'.1,zD.uniq I F B h'.2]
end
open Classical in
def Fe:∀(n:Nat){A:Around}{v u:V}{vv uu:Value}{d e:D},fY d<=n->Inv X zF Z H s->aI X.K H v d->aI X.K H u e->zw v vv->zw u uu->aM d e=false->A.units+n<cLine->
  EqAt A s vv uu (decide (d=e))/\RcAt A s vv uu (decide (d=e)):=by
 intro n;induction n with
 |zero=>intro A v u vv uu d e hd I r1 r2 rv ru hc hu;show Jj r1 r2 rv ru hc (λl z=>by subst z;show absurd hd (by show¬bY l+1<=0;lia)) (λl z=>by subst z;show absurd hd (by show¬bY l+1<=0;lia))
 |succ n ih=>
  intro A v u vv uu d e hd I r1 r2 rv ru hc hu;let e4:A.in1.units+n<cLine:=by show A.units+1+n<cLine;lia
  cases r1 with
  |tup e1 q1=>
   cases r2 with
   |tup e2 q2=>
    rename_i a xs l b ys m;cases rv;cases ru;let#[G,w1,p1,_]:=I.tuple (aV.of e1);let#[B,w2,p2,_]:=I.tuple (aV.of e2);let h8:bY l<=n:=by let:bY l+1<=n+1:=hd;lia
    let h4:G.toArray.size=l.length:=by rw[qr,<-w1.length,q1.len]
    let h9:B.toArray.size=m.length:=by rw[qr,<-w2.length,q2.len]
    have items:∀j(h1:j<G.toArray.size)(h2:j<B.toArray.size),EqAt A.in1 s G.toArray[j] B.toArray[j] (decide (l[j]?=m[j]?)):=λj h1 h2=>by
     let#[x,hx,rx]:=DQ w1 h1;let#[y,hy,ry]:=DQ w2 h2;let F:j<l.length:=∅
     let J:j<m.length:=∅
     let#[x',M,h6]:=q1.get (i:=j) (d:=l[j]) (by simp[F]);let#[y',L,h5]:=q2.get (i:=j) (d:=m[j]) (by simp[J]);rw[hx]at M;cases M;rw[hy]at L;cases L;let:=(ih (A:=A.in1) (le_trans (Ft (l:=l) (j:=j) (by simp[F])) h8) I h6 h5 rx ry (FB (j:=j) (a:=l[j]) (b:=m[j]) (Rk hc) (by simp[F]) (by simp[J])) e4).1;let e:decide (l[j]?=m[j]?)=decide (l[j]=m[j]):=by simp[F,J]
     rw[e];show this
    have O:RcAt A s (.ref a) (.ref b) (decide (D.tup l=D.tup m)):=by
     let:=RcAt.tuples (s:=s) (show s.heap.IsTuple a G.toArray from p1) (show s.heap.IsTuple b B.toArray from p2) ∅ items;rw[h4,h9,Fm (l:=l) (m:=m) _ rfl]at this;let e:decide (D.tup l=D.tup m)=decide (l=m):=by by_cases h:l=m<;>simp[h]
     rw[e];show this
    show#[?_,O];by_cases h3:a=b
    .subst h3;let h7:l=m:=by let z:=aI.uniq I (.tup e1 q1) (.tup e2 q2) hc;cases z;rfl
     subst h7;simp;show EqAt.same _
    .show EqAt.of_refs h3 O
   |_=>cases hc
  |lst e1 q1=>
   cases r2 with
   |lst e2 q2=>
    rename_i a xs l b ys m;cases rv;cases ru;let#[G,w1,p1,_]:=I.list e1;let#[B,w2,p2,_]:=I.list e2;let h8:bY l<=n:=by let:bY l+1<=n+1:=hd;lia
    let h4:G.toArray.size=l.length:=by rw[qr,<-w1.length,q1.len]
    let h9:B.toArray.size=m.length:=by rw[qr,<-w2.length,q2.len]
    have items:∀j(h1:j<G.toArray.size)(h2:j<B.toArray.size),EqAt A.in1 s G.toArray[j] B.toArray[j] (decide (l[j]?=m[j]?)):=λj h1 h2=>by
     let#[x,hx,rx]:=DQ w1 h1;let#[y,hy,ry]:=DQ w2 h2;let F:j<l.length:=∅
     let J:j<m.length:=∅
     let#[x',M,h6]:=q1.get (i:=j) (d:=l[j]) (by simp[F]);let#[y',L,h5]:=q2.get (i:=j) (d:=m[j]) (by simp[J]);rw[hx]at M;cases M;rw[hy]at L;cases L;let hk:bH l m=false:=hc;let:=(ih (A:=A.in1) (le_trans (Ft (l:=l) (j:=j) (by simp[F])) h8) I h6 h5 rx ry (FB (j:=j) (a:=l[j]) (b:=m[j]) hk (by simp[F]) (by simp[J])) e4).1;let e:decide (l[j]?=m[j]?)=decide (l[j]=m[j]):=by simp[F,J]
     rw[e];show this
    have O:RcAt A s (.ref a) (.ref b) (decide (D.lst l=D.lst m)):=by
     let e:decide (D.lst l=D.lst m)=decide (l=m):=by by_cases h:l=m<;>simp[h]
     rw[e];by_cases Y:l.length=m.length
     .let:=RcAt.lists (s:=s) p1.isList p2.isList ∅ ∅ items;rw[h4]at this;let e2:=Fm (l:=l) (m:=m) l.length ∅;let e3:(l.length==m.length)=true:=by simpa using Y
      rw[e3,Bool.and_true]at e2;rw[<-e2];show this
     .let:=RcAt.lists_lengths (A:=A) (s:=s) p1.isList p2.isList (by simp only[h4,h9];simpa using Y) ∅;let e2:decide (l=m)=false:=qQ λz=>Y (by rw[z]);rw[e2];show this
    show#[?_,O];by_cases h3:a=b
    .subst h3;let h7:l=m:=by let z:=aI.uniq I (.lst e1 q1) (.lst e2 q2) hc;cases z;rfl
     subst h7;simp;show EqAt.same _
    .show EqAt.of_refs h3 O
   |_=>cases hc
  |_=>show Jj (by first|show .non|show .bl _|show .int _|(rename_i e z;show .str e z)|(rename_i e k r;show .dK e k r)|(rename_i e k r;show .dT e k r)|(rename_i e r;show .st e r)|(rename_i e k z;show .exc e k z)) r2 rv ru hc (λl z=>by cases z) (λl z=>by cases z)
end
section
variable{K:W.Frag}
open PySem.SeqAt
open Classical in
def tH(K:W.Frag):R2:=λx y H Q=>∃p q,aI K H x p/\aI K H y q/\aM p q=false/\fY p<=30/\Q (.bl (decide (p=q))) H
def DX(O:X.A.units+31<cLine):OpR X (compareOp .Eq) (tH X.K):=by intro zF s Z H x y v u Q I B z h;let#[p,q,G,F,M,L,J]:=h;show(Fe 30 L I G F B z M ∅).2 X.prog X.w X.xe _ #[.bl _,H,I,rfl,J]
def HY(h:gO p q=some k):aM p q=false/\fY p<=30:=by grind[gO]
open Classical in
def Jl(h:gO p q=some k):k=decide (p=q):=by
 unfold gO at h;split at h
 .cases h
 .show(qf h).symm
def Ec:bD K (tH K) gO:=by intro H x y p q k Q B z e F;let#[h1,h2]:=HY e;let:=Jl e;subst this;show#[p,q,B,z,h1,h2,F]
open Classical in
def pD(K:W.Frag):R2:=λx y H Q=>∃p q,aI K H x p/\aI K H y q/\aM p q=false/\fY p<=30/\Q (.bl (!decide (p=q))) H
def Jz(I:Inv X zF Z H s)(q1:zD X.K H xs l)(q2:zD X.K H ys m)(Y:zC xs us)(O:zC ys J)(hc:bH l m=false)(hd:bY l<=30)(hu:A.units+30<cLine):
  ∀j(h1:j<us.toArray.size)(h2:j<J.toArray.size),EqAt A s us.toArray[j] J.toArray[j] (open Classical in decide (l[j]?=m[j]?)):=λj h1 h2=>by
 let#[x,hx,rx]:=DQ Y h1;let#[y,hy,ry]:=DQ O h2;let h4:us.toArray.size=l.length:=by rw[qr,<-Y.length,q1.len]
 let h3:J.toArray.size=m.length:=by rw[qr,<-O.length,q2.len]
 let G:j<l.length:=∅
 let F:j<m.length:=∅
 let#[x',B,M]:=q1.get (i:=j) (d:=l[j]) (by simp);let#[y',z,L]:=q2.get (i:=j) (d:=m[j]) (by simp);rw[hx]at B;cases B;rw[hy]at z;cases z;let:=(Fe 30 (A:=A) (le_trans (Ft (l:=l) (j:=j) (by simp)) hd) I M L rx ry (FB (j:=j) (a:=l[j]) (b:=m[j]) hc (by simp[G]) (by simp[F])) hu).1;let e:(open Classical in decide (l[j]?=m[j]?))=(open Classical in decide (l[j]=m[j])):=by simp[G,F]
 rw[e];show this
def EX(p:D):(∃l,p=.tup l)\/(∃l,p=.lst l)\/((∀l,p≠.tup l)/\∀l,p≠.lst l):=by
 cases p with
 |tup l=>show .inl #[l,rfl]
 |lst l=>show .inr (.inl #[l,rfl])
 |_=>show .inr (.inr #[λl z=>D.noConfusion z,λl z=>D.noConfusion z])
def NN(h:aM (.tup l) q=false):∃m,q=.tup m:=by
 cases q with
 |tup m=>show#[m,rfl]
 |_=>cases h
def Na(h:aM (.lst l) q=false):∃m,q=.lst m:=by
 cases q with
 |lst m=>show#[m,rfl]
 |_=>cases h
def NJ(L:aI K H x p)(J:aI K H y q)(B:aM p q=false)(h1:∀l,p≠.tup l)(h2:∀l,p≠.lst l):sU x y=true/\(p=q↔x=y):=by
 let G:=HK L B h1 h2;let F:=Ie J G B;cases G with
 |str O=>
  cases F with
  |str M=>
   rename_i x l y m;show#[rfl,λz=>?_,λz=>?_]
   .obtain⟨⟨a⟩⟩:=x;let#[#[b]]:=y;grind
   .cases z;rw[<-O,<-M]
  |_=>show#[rfl,λz=>D.noConfusion z,λz=>V.noConfusion z]
 |_=>cases F<;>first|show⟨rfl,λz=>D.noConfusion z,λz=>V.noConfusion z⟩|show⟨rfl,λz=>by cases z;rfl,λz=>by cases z;rfl⟩|cases B
def Fp(hu:X.A.units+32<cLine):OpR X (compareOp .NotEq) (pD X.K):=by
 classical
 intro zF s Z H x y v u Q I rx ry h;let#[p,q,r1,r2,hc,hd,hq]:=h;let B:EP X zF Z Q (.bool (!decide (p=q))) s:=#[.bl _,H,I,rfl,hq]
 let h3:X.A.in1.units+30<cLine:=by show X.A.units+1+30<cLine;lia
 rcases EX p with⟨l,rfl⟩|⟨l,rfl⟩|⟨n1,n2⟩
 .obtain⟨m,rfl⟩:=NN hc;cases r1 with
  |tup e1 q1=>
  cases r2 with
  |tup M q2=>
   rename_i a xs b ys;cases rx;cases ry;let#[J,w1,p1,_]:=I.tuple (aV.of e1);let#[F,w2,p2,_]:=I.tuple (aV.of M);let O:bY l<=30:=by let:bY l+1<=30:=hd;lia
   let L:J.toArray.size=l.length:=by rw[qr,<-w1.length,q1.len]
   let Y:F.toArray.size=m.length:=by rw[qr,<-w2.length,q2.len]
   let:=RcNeAt.tuples (A:=X.A) (s:=s) (show s.heap.IsTuple a J.toArray from p1) (show s.heap.IsTuple b F.toArray from p2) ∅ (Jz I q1 q2 w1 w2 hc O h3);rw[L,Y,Fm (l:=l) (m:=m) _ rfl]at this;let e:decide (D.tup l=D.tup m)=decide (l=m):=by by_cases h:l=m<;>simp
   rw[e]at B;show this X.prog X.w X.xe _ B
 .obtain⟨m,rfl⟩:=Na hc;cases r1 with
  |lst e1 q1=>
  cases r2 with
  |lst M q2=>
   cases rx;cases ry;let#[J,w1,p1,_]:=I.list e1;let#[F,w2,p2,_]:=I.list M;let O:bY l<=30:=by let:bY l+1<=30:=hd;lia
   let L:J.toArray.size=l.length:=by rw[qr,<-w1.length,q1.len]
   let Y:F.toArray.size=m.length:=by rw[qr,<-w2.length,q2.len]
   let e:decide (D.lst l=D.lst m)=decide (l=m):=by by_cases h:l=m<;>simp
   rw[e]at B;by_cases G:l.length=m.length
   .let:=RcNeAt.lists (A:=X.A) (s:=s) p1.isList p2.isList ∅ ∅ (Jz I q1 q2 w1 w2 hc O h3);rw[L]at this;let M:=Fm (l:=l) (m:=m) l.length ∅;let e3:(l.length==m.length)=true:=by simpa using G
    rw[e3,Bool.and_true]at M;rw[<-M]at B;show this X.prog X.w X.xe _ B
   .let:=RcNeAt.lists_lengths (A:=X.A) (s:=s) p1.isList p2.isList (by simp[L,Y];simpa using G) ∅;let M:decide (l=m)=false:=qQ λz=>G (by rw[z]);rw[M]at B;show this X.prog X.w X.xe _ B
 .obtain⟨h1,h2⟩:=NJ r1 r2 hc n1 n2;rw[decide_eq_decide.mpr h2]at hq;show Lx zF s Z H x y v u Q I rx ry #[h1,hq]
def GH:bD K (pD K) mU:=by
 intro H x y p q k Q F B e G;unfold mU at e;cases z:gO p q with
 |none=>rw[z]at e;cases e
 |some b=>rw[z]at e;let J:(!b)=k:=qf e;let#[h1,h2]:=HY z;let:=Jl z;subst this;subst J;show#[p,q,F,B,h1,h2,G]
def fU(f:Int->Int->Bool)(g:List Nat->List Nat->Bool):R2:=λx y H Q=>(∃i j,x=.int i/\y=.int j/\Q (.bl (f i j)) H)\/∃i j,x=.str i/\y=.str j/\Q (.bl (g i.cps.toList j.cps.toList)) H
def Fw{g:List Nat->List Nat->Bool}(rule:∀(i j:Str)(t u:Tok)(s:Shared)(Q:zj)(E:zj),Q (.bool (g i.cps.toList j.cps.toList)) s->wpAny (model X.prog X.w) X.A (compareOp op (.str i t) (.str j u)) Q E s):
  OpR X (compareOp op) (λx y H Q=>∃i j,x=.str i/\y=.str j/\Q (.bl (g i.cps.toList j.cps.toList)) H):=by
 intro zF s Z H x y v u Q I F B h;let#[i,j,rfl,rfl,q]:=h;let#[t,rfl]:=F;let#[z,rfl]:=B;show rule i j t z s _ _ #[.bl _,H,I,rfl,q]
def Dx:OpR X (compareOp .Lt) (fU (λi j=>decide (i<j)) λl m=>decide (l<m)):=FL.OpR.or LM (Fw (g:=λl m=>decide (l<m)) λ_ _ _ _ _ _ _ q=>PyProof.Rows.lt_str q)
def Ea:OpR X (compareOp .LtE) (fU (λi j=>decide (i<=j)) λl m=>!decide (m<l)):=FL.OpR.or Ly (Fw (g:=λl m=>!decide (m<l)) λ_ _ _ _ _ _ _ q=>PySem.P.le_str q)
def Ew:OpR X (compareOp .Gt) (fU (λi j=>decide (j<i)) λl m=>decide (m<l)):=FL.OpR.or Ll (Fw (g:=λl m=>decide (m<l)) λ_ _ _ _ _ _ _ q=>PySem.P.gt_str q)
def MB:OpR X (compareOp .GtE) (fU (λi j=>decide (j<=i)) λl m=>!decide (l<m)):=FL.OpR.or Lm (Fw (g:=λl m=>!decide (l<m)) λ_ _ _ _ _ _ _ q=>PySem.P.ge_str q)
def FN(h:∀p q k,o p q=some k->(∃i j,p=.int i/\q=.int j/\k=f i j)\/∃l m,p=.str l/\q=.str m/\k=g l m):bD K (fU f g) o:=by
 intro H x y p q k Q B z e F;rcases h p q k e with⟨i,j,rfl,rfl,rfl⟩|⟨l,m,rfl,rfl,rfl⟩
 .cases B;cases z;show .inl #[i,j,rfl,rfl,F]
 .cases B with
  |str J M=>cases z with
   |str G L=>subst J G;show .inr #[_,_,rfl,rfl,F]
def DA:bD K (fU (λi j=>decide (i<j)) λl m=>decide (l<m)) lD:=FN λp q k e=>by
 unfold lD vU at e;split at e
 .show .inl #[_,_,rfl,rfl,(qf e).symm]
 .show .inr #[_,_,rfl,rfl,(qf e).symm]
 .cases e
def ED:bD K (fU (λi j=>decide (j<i)) λl m=>decide (m<l)) mV:=FN λp q k e=>by
 unfold mV vU at e;split at e
 .show .inl #[_,_,rfl,rfl,(qf e).symm]
 .show .inr #[_,_,rfl,rfl,(qf e).symm]
 .cases e
def Ee:bD K (fU (λi j=>decide (i<=j)) λl m=>!decide (m<l)) lR:=FN λp q k e=>by
 unfold lR at e;split at e
 .show .inl #[_,_,rfl,rfl,(qf e).symm]
 .show .inr #[_,_,rfl,rfl,(qf e).symm]
 .cases e
def MS:bD K (fU (λi j=>decide (j<=i)) λl m=>!decide (l<m)) vW:=FN λp q k e=>by
 unfold vW at e;split at e
 .show .inl #[_,_,rfl,rfl,(qf e).symm]
 .show .inr #[_,_,rfl,rfl,(qf e).symm]
 .cases e
end
section
open PySem.SeqAt
open Classical in
def tG(K:W.Frag)(neg:Bool):R2:=λx y H Q=>∃p l,aI K H x p/\(aI K H y (.lst l)\/aI K H y (.tup l))/\(∀d∈l,aM d p=false/\fY d<=30)/\Q (.bl (if neg then !decide (p∈l)else decide (p∈l))) H
def JS(I:Inv X zF Z H s)(rx:zw x v)(r1:aI X.K H x p)(q1:zD X.K H xs l)(w1:zC xs us)(hc:∀d∈l,aM d p=false/\fY d<=30)(hu:A.units+30<cLine):
  ∃e:Value->Bool,(∀y,y∈us.toArray->EqAt A s y v (e y))/\us.toArray.any e=(open Classical in decide (p∈l)):=by
 classical
 have item:∀{y:Value},y∈us->∃z d,zw z y/\aI X.K H z d/\d∈l:=λ{y} O=>by
  let#[j,hj,e]:=getElem_of_mem O;let#[z,hz,G]:=DQ (j:=j) w1 hj;let hl:j<l.length:=by rw[<-q1.len,w1.length];show hj
  let#[Y,M,B]:=q1.get (i:=j) (d:=l[j]) (by simp);rw[hz]at M;cases M;show#[z,l[j],?_,B,by simp];let:us.toArray[j]=y:=e;rw[<-this];show G
 show#[λy=>decide (∃z,zw z y/\aI X.K H z p),λy O=>?_,?_]
 .have h1:y∈us:=by simpa using O
  obtain⟨z,d,G,B,hd⟩:=item h1;let L:=hc d hd;let:=(Fe 30 (A:=A) L.2 I B r1 G rx L.1 hu).1;let e:decide (d=p)=decide (∃z,zw z y/\aI X.K H z p):=by
   by_cases h:d=p
   .subst h;rw[qP rfl,qP #[z,G,B]]
   .rw[qQ h];show(qQ ?_).symm;rintro⟨Y,F,J⟩;let:z=Y:=G.inj F;subst this;show h (aI.uniq I B J L.1)
  show EqAt A s y v (decide (∃z,zw z y/\aI X.K H z p));rw[<-e];show this
 .by_cases h:p∈l
  .rw[qP h];let#[j,hj,e]:=getElem_of_mem h;let#[z,hz,B]:=q1.get (i:=j) (d:=l[j]) (by simp);let#[u,h2,ru]:=w1.get hz;rw[Array.any_eq_true'];show#[u,by simpa using qL h2,qP #[z,ru,e▸B]]
  .rw[qQ h];rw[Array.any_eq_false'];intro y O z;let#[Y,F,J]:=qS z;let#[z2,d,G,B,hd]:=item (y:=y) ↑O;let:z2=Y:=G.inj F;subst this;show h (aI.uniq I B J (hc d hd).1▸hd)
def Qm(hu:X.A.units+32<cLine):OpR X (compareOp .NotIn) (tG X.K true):=by
 intro zF s Z H x y v u Q I Y O h;let#[p,l,r1,z,hc,hq]:=h;let F:X.A.in1.units+30<cLine:=by show X.A.units+1+30<cLine;lia
 rcases z with z|z
 .cases z with
  |lst e q=>cases O;let#[B,G,J,_]:=I.list e;let#[f,L,M]:=JS (A:=X.A.in1) I Y r1 q G hc F;show notIn_listAt f J.isList L #[.bl _,H,I,rfl,by rw[M];show hq]
 .cases z with
  |tup e q=>cases O;let#[B,G,J,_]:=I.tuple (aV.of e);let#[f,L,M]:=JS (A:=X.A.in1) I Y r1 q G hc F;show notIn_tupleAt f (show s.heap.IsTuple _ B.toArray from J) L #[.bl _,H,I,rfl,by rw[M];show hq]
end
section
variable{K:W.Frag}
def Gi(B:xs.length=l.length)(h:atI l i=some d):∃j,ixN l.length i=some j/\l[j]?=some d/\∀x,xs[j]?=some x->L2.atI xs i=some x:=by
 unfold atI at h;cases q:ixN l.length i with
 |none=>rw[q]at h;cases h
 |some j=>
  rw[q]at h;show#[j,rfl,h,λx z=>?_];let e:L2.ixN xs.length i=some j:=by rw[B];show q
  unfold L2.atI;rw[e];show z
def zD.atI(r:zD K F xs l)(h:FL.atI l i=some d):∃x,L2.atI xs i=some x/\aI K F x d:=by let#[j,_,h1,h2]:=Gi (xs:=xs) r.len h;let#[x,B,z]:=r.get h1;show#[x,h2 x B,z]
def zv.get{j:Nat}(r:zv K F H xs l fp)(h:l[j]?=some t):∃x G z B,xs[j]?=some x/\aJ K F H x t z/\fp=G++(z++B):=
 zv.ind (P:=λxs l fp=>∀j t,l[j]?=some t->∃x G z B,xs[j]?=some x/\aJ K F H x t z/\fp=G++(z++B)) (λ_ _ e=>by cases e) (λa _ J j t e=>by
  cases j with
  |zero=>cases e;show#[_,[],_,_,rfl,a,rfl]
  |succ j=>let#[x,G,z,B,h1,h2,rfl]:=J j t e;show#[x,_++G,z,B,h1,h2,(qp ..).symm]) r j t h
def Rel.item{j:Nat}(r:Rel K (U++[some (.lst l)]) (Z++[some (.ref a)]) F G H)(h:l[j]?=some t):∃xs x,H a=some (.lst xs)/\xs.length=l.length/\xs[j]?=some x/\Rel K (U++[some t]) (Z++[some x]) F G H:=by
 let#[fp,e,nd,ap]:=r.en;let#[J,f2,rfl,en,b]:=e.cut (Ag r);cases b with
 |so O Y=>
  cases Y;cases O with
  |lst hD rl=>
   rename_i xs fl;let#[x,M,B,L,h1,h2,rfl]:=rl.get h;show#[xs,x,hD,rl.len,h1,r.fr,r.gr,J++(B++[]),en.app (.so h2 .nil),?_,λy hy=>ap y ?_]
   .let sub:List.Sublist (J++(B++[])) (J++(a::(M++(B++L))++[])):=by show List.Sublist.append (List.Sublist.refl _) ?_;simp;exact(List.Sublist.cons _ ((List.sublist_append_left B L).trans (List.sublist_append_right M _)))
    show sub.nodup nd
   .rcases qx.mp hy with z|z
    .show qj _ z
    .show qi _ ?_;simp only[qz]at z⊢;show qk _ (qi _ (qj _ z))
end
def Ou{K:W.Frag}(e:aV K H c xs)(r:zD K F xs l)(h:atI l i=some d)(G:∀x,aI K F x d->Q x H):vR K (.ref c) (.int i) H Q:=by let#[x,B,z]:=r.atI h;show .inr (.inl #[c,xs,i,x,rfl,rfl,e,B,G x z])
def Om{K:W.Frag}(e:bC K H c xs)(r:zD K F xs l)(h:atI l i=some d)(G:∀x,aI K F x d->Q x H):vR K (.ref c) (.int i) H Q:=by let#[x,B,z]:=r.atI h;show .inl #[c,xs,i,x,rfl,rfl,e,B,G x z]
def Nh(h:iG s q=some t):(∃l i d,s=.sh (.tup l)/\q=.int i/\atI l i=some d/\t=.sh d)\/(∃l i d,s=.sh (.lst l)/\q=.int i/\atI l i=some d/\t=.sh d)\/
  (∃l i c,s=.sh (.str l)/\q=.int i/\atI l i=some c/\t=.sh (.str [c]))\/∃l i,s=.lst l/\q=.int i/\atI l i=some t:=by
 show cps λ_ kk=>?_;rcases s with d|l|_|_
 .rcases d with _|_|_|l|l|l|_|_|_;case str|tup|lst=>
   rcases q with _|_|i|_|_|_|_|_|_;case int=>let#[d,e,e']:=qW.mp h;first|show kk (.inl ⟨_,_,d,rfl,rfl,e,e'.symm⟩)|show kk (.inr (.inl ⟨_,_,d,rfl,rfl,e,e'.symm⟩))|show kk (.inr (.inr (.inl ⟨_,_,d,rfl,rfl,e,e'.symm⟩)))
   all_goals cases h
  all_goals cases h
 .rcases q with _|_|i|_|_|_|_|_|_;case int=>exact kk (.inr (.inr (.inr #[_,_,rfl,rfl,h])))
  all_goals cases h
 all_goals cases h
def Gz{K:W.Frag}(h:aJ K F H v (.sh d) fp):aI K F v d:=by cases h;assumption
def Jq{K:W.Frag}(h:aJ K F H v (.lst l) fp):∃a xs fq,v=.ref a/\H a=some (.lst xs)/\zv K F H xs l fq:=by
 cases h with
 |lst h1 h2=>show#[_,_,_,rfl,h1,h2]
def IB{K:W.Frag}(fr:zr F H)(r:aI K F v d)(L:aI K F2 u q)(Y:iG (.sh d) q=some t)(G:∀e x,t=.sh e->aI K F x e->Q x H):vR K v u H Q:=by
 rcases Nh Y with⟨l,i,e,B,rfl,O,rfl⟩|⟨l,i,e,B,rfl,O,rfl⟩|⟨l,i,c,B,rfl,ec,rfl⟩|⟨l,i,B,_⟩
 .injection B with B
  subst B;obtain rfl:=aS.int (H:=H) (.inl L);let#[a,xs,rfl,h1,M]:=aS.tup (H:=H) (.inl r);show Ou (aV.of (fr _ _ h1)) M O λx J=>G _ x rfl J
 .injection B with B
  subst B;obtain rfl:=aS.int (H:=H) (.inl L);let#[a,xs,rfl,h1,M]:=aS.lst (H:=H) fr (.inl r);show Om h1 M O λx J=>G _ x rfl J
 .injection B with B
  subst B;obtain rfl:=aS.int (H:=H) (.inl L);let#[x,rfl,h1,z]:=aS.str (H:=H) (.inl r);show .inr (.inr #[_,i,c,rfl,rfl,by rw[Ed h1];show z,by rw[h1];show ec,G _ _ rfl (.str rfl (by show 1<=_;decide))])
 .cases B
def IJ(h:iG (.lst l) q=some t):∃i,q=.int i/\atI l i=some t:=by
 cases q with
 |int i=>show#[i,rfl,h]
 |_=>cases h
def AJ(ha:FE X a wa)(hb:FE X b wb)(hs:jG b:=by intro _ _;rfl):FE X (.Subscript a b pos) (cR wa wb):=λpn xe hp=>by
 refine PE.imp (LB (ML (X:=wp X pn xe)) (ha pn xe hp) (hb pn xe hp) hs) λZ H Q q=>?_;refine(Em (k:=λx y U2 Q E=>zp (view y U2) λq=>match x with
  |.v s=>zp (iG s q) λt=>Q (.v t) U2
  |.loc i=>match slot U2 i with
   |some s=>match iG s q with
    |some (.sh d)=>Q (.v (.sh d)) U2
    |_=>False
   |none=>False) q).mono λv H1 h1=>h1.mono λu H2 h2=>?_
 let#[F,G,U,x,y,P,PX,h5,Y,rx,ry,J,h6,hx]:=h2;let#[q,eq,J]:=Ai J;let B:Rel X.K (U++[zt x]) (Z++[some v]) F G H2:=by let:=Rel.swap (U1:=[zt x]) (Z1:=[some v]) (U2:=[zt y]) (Z2:=[some u]) Y rfl h5;show Rel.mid (U:=U) (Z:=Z) this Y
 let h4:Rel X.K (U++[zt y]) (Z++[some u]) F G H2:=h5.mid Y;let ru:=Ap (U':=[]) (Z':=[]) h4 Y ry eq;let M:∀{d:D}{x:V},P (.v (.sh d)) U->aI X.K F x d->Q x H2:=λhP r=>h6 _ U _ F H2 hP (zr.refl F) ((B.drop Y).push r) trivial;cases x with
 |v s=>
  let#[t,L,hP]:=Ai J;let#[w,fp,e1,sr]:=B.at (i:=U.length) (s:=s) Eh;rw[Y,getElem?_append_right (q8 _)]at e1;let e2:v=w:=↑e1
  subst e2;cases s with
  |sh d=>show IB B.fr (Gz sr) ru L λe x z rx=>M (by rw[<-z];show hP) rx
  |lst l=>let#[i,rfl,L]:=IJ L;obtain rfl:=aS.int (H:=H2) (.inl ru);let#[a,ys,fq,rfl,hD,rl]:=Jq sr;let#[j,_,hj,h3]:=Gi rl.len L;let#[xs,x,h7,h9,O,r2]:=Rel.item B hj;rw[hD]at h7;cases h7;show .inl #[_,_,i,x,rfl,rfl,bC.of hD,h3 x O,h6 _ U _ F H2 hP (zr.refl F) r2 trivial]
  |_=>cases q<;>cases L
 |loc k=>
  dsimp only at J;cases qs:slot U k with
  |none=>rw[qs]at J;show J.elim
  |some s=>
   rw[qs]at J;dsimp only at J;split at J
   .rename_i d L;let#[w,fp,e1,sr]:=(B.drop Y).at qs;let h8:Z[k]?=some (some v):=rx;rw[h8]at e1;let e2:v=w:=by simpa using e1
    subst e2;cases s with
    |sh d'=>show IB B.fr (Gz sr) ru L λe x z rx=>M (by injection z with z;rw[<-z];show J) rx
    |lst l=>let#[i,rfl,L]:=IJ L;obtain rfl:=aS.int (H:=H2) (.inl ru);let#[a,ys,fq,rfl,hD,rl]:=Jq sr;let#[j,_,hj,h3]:=Gi rl.len L;let#[x,fa,fi,fb,O,sx,_]:=rl.get hj;show .inl #[_,_,i,x,rfl,rfl,bC.of hD,h3 x O,M J (Gz sx)]
    |_=>cases q<;>cases L
   .show J.elim
section
variable{K:W.Frag}{Z:St}
def zv.set:∀{xs:List V}{l:List S}{fp:List Addr}{m:Nat},zv K F H xs l fp->m<l.length->∃J M G,fp=J++(M++G)/\
  ∀{H':Hp}{v:V}{s:S}{fq:List Addr},(∀a∈J++G,H' a=H a)->aJ K F H' v s fq->zv K F H' (xs.set m v) (l.set m s) (J++(fq++G))
 |_,_,_,_,.nil,h=>by simp at h
 |_,_,_,0,.cons (fp:=fp) (fq:=fq) a b,h=>#[[],fp,fq,rfl,λL r=>by rw[nil_append];show .cons r (b.mono (zr.refl F) λc B=>L c B)]
 |_,_,_,m+1,.cons (fp:=fp) (fq:=fq) a b,h=>by let#[J,M,G,rfl,O]:=zv.set (m:=m) b ↑h;show#[fp++J,M,G,(qp ..).symm,λL r=>?_];rw[qp];show .cons (a.mono (zr.refl F) λc B=>L c (qj _ (qj _ B))) (O (λc B=>L c ((qx.mp B).elim (λz=>qj _ (qi _ z)) λz=>qi _ z)) r)
def JD(h:Z[n]?=some (some v)):Z.set n (some v)=Z:=by
 apply ext_getElem?;intro j;by_cases z:n=j
 .subst z;rw[getElem?_set_self (qg.mp h).1,h]
 .rw[getElem?_set_ne z]
def Rel.setItem{D:Addr}(r:Rel K (U++[some s]) (Z++[some v]) F G H)(hs:slot U n=some (.lst l))(L:Z[n]?=some (some (.ref D)))(hm:m<l.length):
  ∃xs,H D=some (.lst xs)/\xs.length=l.length/\Rel K (U.set n (some (.lst (l.set m s)))) Z F G (upd H D (.lst (xs.set m v))):=by
 let hl:=Ag r;let#[fp,e,nd,ap]:=r.en;let#[f1,f2,rfl,a,b]:=e.cut hl;let#[v',fa,fi,fb,e1,rfl,q,up]:=a.at hs;rw[L]at e1;let e2:V.ref D=v':=↑e1
 subst e2;cases q with
 |lst hD rl=>
  rename_i xs fl;cases b with
  |so sr nl=>
   cases nl;rename_i fs;let#[O,gi,M,rfl,h1]:=rl.set hm;show#[xs,hD,rl.len,?_];let#[n1,n2,h3]:=qw.mp nd;let#[na,B,h2]:=qw.mp n1;let#[ni,nb,B]:=qw.mp B;let#[nD,h8]:=qK.mp ni;let h7:D∉fa:=λz=>h2 D z D (qj _ qm) rfl;let h6:D∉fb:=λz=>B D qm D z rfl;let h4:D∉fs:=λz=>h3 D (qi _ (qj _ qm)) D ↑z rfl;let Y:=ap D (qj _ (qi _ (qj _ qm)));let ne:∀{l:List Addr},D∉l->∀x∈l,upd H D (.lst (xs.set m v)) x=H x:=λh x J=>Ah λz=>h (z▸J);let h5:D∉O++M:=λz=>nD ((qx.mp z).elim (λw=>qj _ w) λw=>qi _ (qi _ w));let new:aJ K F (upd H D (.lst (xs.set m v))) (.ref D) (.lst (l.set m s)) (D::(O++(fs++M))):=.lst AQ (h1 (ne h5) (sr.mono (zr.refl F) (ne h4)));let a2:=up (F':=F) (H':=upd H D (.lst (xs.set m v))) (o:=some (.lst (l.set m s))) (u:=some (.ref D)) (zr.refl F) (λx J=>Ah λz=>(qx.mp J).elim (λw=>h7 (z▸w)) λw=>h6 (z▸w)) (.so new .nil);rw[JD L]at a2;let sub:∃l2,l2.Perm (fa++((D::(O++(gi++M)))++fb)++(fs++[]))/\List.Sublist (fa++((D::(O++(fs++M)))++[]++fb)) l2:=by
    show#[fa++((D::(O++(fs++(gi++M))))++[]++fb),?_,?_]
    .simp;show List.Perm.append_left _ (List.Perm.cons _ (List.Perm.append_left _ ?_));show qM.trans (by simp)
    simp_all
   let#[l2,p,sb]:=sub;show#[zr.updR r.fr Y.1,λx o w=>?_,_,a2,sb.nodup (p.nodup_iff.mpr nd),λx J=>ap x (p.mem_iff.mp (sb.subset J))];let J:x≠D:=λz=>by rw[z,Y.2]at w;cases w
   rw[Ah J];show r.gr x o w
end
theorem JF(ho:FE X o (zk j))(hi:FE X i wi)(he:FE X e we)(hs:swapsWithSole [.Subscript o i tpos] e pos.line X.env=pure false:=by rfl)(hw:swappedStores [.Subscript o i tpos] e X.env=pure none:=by rfl)
  (h1:(assignEach [.Subscript o i tpos] X.env).map (·.2)=[assign (.Subscript o i tpos) X.env]:=by rfl)
  (ha:∀v,assign (.Subscript o i tpos) X.env v=(do
   let ov<-holding [v] (eval o X.env)
   let iv<-holding [v,ov] (eval i X.env)
   standAt tpos
   holding [v,ov,iv] (setItem ov iv v)
   release [v,ov,iv] []):=by intro _;rfl):FS X ks (.Assign [.Subscript o i tpos] e pos) (eL j wi we):=λpn xe hp=>by
 show PS.imp (Ir (X:=wp X pn xe) (he pn xe hp) (Io (X:=wp X pn xe) (ho pn xe hp) (hi pn xe hp) JG ha) hs hw h1) λD Z H q=>?_;let#[F,G,U,E,zH,hw,n,b,c,r,x]:=q;let x0:XC (wp X pn xe) (·=Z) F G E.ex:=x.mono (λZ2 z=>by rw[z];show KP.refl) (zr.refl F) (zr.refl G);show#[F,G,U,_,_,zH,hw,λr U1 v F1 H1 hk s1 r1 rv=>?_,x0];let l1:=Ag r1;let#[G1,rel1,gg,back]:=r1.hide l1;show#[F1,G1,U1,_,_,rel1,hk,λy U2 o' F2 H2 hk2 s2 r2 rv2=>?_,x0.mono (λ_ z=>z) s1 gg];let l2:=Ag r2;let#[G2,rel2,gg2,back2]:=r2.hide l2;show#[F2,G2,U2,_,_,rel2,hk2,λz U3 i' F3 H3 hk3 s3 r3 rv3=>?_,x0.mono (λ_ z=>z) (s1.trans s2) (gg.trans gg2)];let l3:=Ag r3;let#[q,eq,hk3]:=Ai hk3;let#[#[t,U4],eg,hk4]:=Ai hk3
 --all three stand at the end
 let r4:=back (s2.trans s3) (back2 s3 r3);simp only[qp,cons_append,nil_append]at r4;let ri:=Ap (U':=[zt y,zt r]) (Z':=[some o',some v]) r4 l3 rv3 eq;let r5:Rel X.K (U3++[zt r]) (Z++[some v]) F3 G H3:=Rel.mid (U:=U3) (Z:=Z) (Rel.mid (U:=U3) (Z:=Z) r4 l3) l3;let#[F4,s4,l4,r6]:=AC (U':=[]) (Z':=[]) r5 l3 rv eg;cases y with
 |v y0=>show hk4.elim
 |loc k=>
  cases q with
  |int m=>
   cases qs:slot U4 j with
   |none=>simp only[qs]at hk4
   |some sj=>
    cases sj with
    |lst l=>
     simp only[qs]at hk4;let#[rfl,hk4]:=hk4;let#[w,ew,hnx]:=Ai hk4;let hZ:Z[k]?=some (some o'):=rv2;let#[v',fp,e1,sr]:=r6.at (i:=k) (s:=.lst l) (by rw[Ez (Eg qs)];show qs);let hkl:k<Z.length:=(qg.mp hZ).1;rw[getElem?_append_left hkl,hZ]at e1;let e2:o'=v':=↑e1
     subst e2;let hw:w<l.length:=by
      unfold ixN at ew;split at ew
      .split at ew
       .let e:=qf ew;lia
       .cases ew
      .split at ew
       .let e:=qf ew;lia
       .cases ew
     cases sr with
     |lst hD rl=>rename_i a xs fl;let#[xs',hD',zI,r7]:=Rel.setItem r6 qs hZ hw;rw[hD]at hD';cases hD';cases ri;show#[a,xs,m,w,rfl,rfl,hD,by rw[zI];show ew,n _ Z F4 _ hnx KP.refl (s1.trans (s2.trans (s3.trans s4))) r7]
    |_=>simp[qs]at hk4
  |_=>show hk4.elim
def Hf(ho:FE X o (zk j))(he:FE X e we)
  (Y:attributeBase o "append" X.env (eval o X.env)=eval o X.env:=by rfl)
  (h3:((backTo cpos (starEach [e] X.env)).all (λx=>!x.1)&&(backToKw cpos (keywordEach [] X.env)).all (λx=>x.1.isSome)
   &&decide ([e].length+([]:List Keyword).length+(if([]:List Keyword).isEmpty then 0 else 1)<30))=true:=by rfl)
  (O:(apos.endLine==cpos.line)=true:=by rfl)(hs:starEach [e] X.env=[(false,eval e X.env)]:=by rfl):FE X (.Call (.Attribute o "append" apos) [e] [] cpos) (cK j we):=λpn xe hp=>by
 refine PE.imp (Gf (X:=wp X pn xe) PySem.F.plainAttrs_list PySem.F.slot_list_append PySem.F.type_list_append Kh (ho pn xe hp) (Aa he Ab hs pn xe hp) Y h3 O hs rfl) λZ H Q q=>?_;let#[F,G,U,P,PX,h4,hw,h5,hx]:=q;let J:(match slot U j with
  |some (.lst _)=>we U (λr L=>zp (give r L) λp=>(match slot p.2 j with
   |some (.lst l)=>l.length<big/\P (.v (.sh .non)) (p.2.set j (some (.lst (l++[p.1]))))
   |_=>False)) PX
  |_=>False):=hw
 cases qs:slot U j with
 |none=>rw[qs]at J;show J.elim
 |some s0=>
  cases s0 with
  |lst l0=>
   rw[qs]at J;show#[F,G,U,λy M=>y=.loc j/\M=U,PX,h4,by unfold zk;rw[qs];show#[rfl,rfl],λy M o' F1 H1 B s1 r1 rv=>?_,hx];let#[rfl,rfl]:=B;let l1:=Ag r1;let h1:Z[j]?=some (some o'):=rv;let r2:=r1.drop l1;let#[v',fp,e1,sr]:=r2.at qs;rw[h1]at e1;let e2:o'=v':=↑e1
   subst e2;cases sr with
   |lst hD rl=>
    rename_i a xs fl;show#[.inl #[rfl,_,bC.of hD],F1,G,M,λrs L=>match rs with|[r]=>(zp (give r L) λp=>match slot p.2 j with|some (.lst l)=>l.length<big/\P (.v (.sh .non)) (p.2.set j (some (.lst (l++[p.1]))))|_=>False)|_=>False,PX,r2,J,λrs L vs F2 H2 B s2 r3 hl z=>?_,hx.grow s1];match rs,vs,z,r3,B with
    |[r],[v],z,r3,B=>
     let#[#[t,h7],eg,B]:=Ai B;let#[F3,s3,l3,r4]:=AC (U':=[]) (Z':=[]) r3 hl z.1 eg;split at B
     .rename_i l ql;let#[ys,h6,h2,r5]:=Rel.append r4 ql h1;show#[a,ys,v,rfl,rfl,h6,by rw[h2];show lt_trans B.1 ⋯,h5 _ _ .non F3 _ B.2 (s1.trans (s2.trans s3)) (r5.push .non) trivial]
     .show B.elim
    |[],_,_,_,B=>show B.elim
    |[_],[],z,_,_=>show z.elim
    |[_],_::_::_,z,_,_=>show z.2.elim
    |_::_::_,_,_,_,B=>show B.elim
  |_=>rw[qs]at J;show J.elim
section
variable{K:W.Frag}
def fP(K:W.Frag)(F H:Hp):List V->List D->Prop
 |[],[]=>True
 |v::vs,d::ds=>aS K F H v d/\fP K F H vs ds
 |_,_=>False
def Bg{b:List D->Option S}(h2:∀x y r,b (x::y::r)=none)(B:b []=none)(z:fP K F H vs ds)(e:b ds=some s):∃d v,ds=[d]/\vs=[v]:=by
 cases ds with
 |nil=>rw[B]at e;cases e
 |cons x ds=>
  cases ds with
  |cons y r=>rw[h2]at e;cases e
  |nil=>
   cases vs with
   |nil=>show z.elim
   |cons v vs=>
    cases vs with
    |nil=>show#[x,v,rfl,rfl]
    |cons u vs=>show z.2.elim
def Fb{b:List D->Option S}(h1:∀x,b [x]=none)(G:∀x y z r,b (x::y::z::r)=none)(J:b []=none)(B:fP K F H vs ds)(e:b ds=some s):∃d L v u,ds=[d,L]/\vs=[v,u]:=by
 cases ds with
 |nil=>rw[J]at e;cases e
 |cons x ds=>
  cases ds with
  |nil=>rw[h1]at e;cases e
  |cons y ds=>
   cases ds with
   |cons z r=>rw[G]at e;cases e
   |nil=>
    cases vs with
    |nil=>show B.elim
    |cons v vs=>
     cases vs with
     |nil=>show B.2.elim
     |cons u vs=>
      cases vs with
      |nil=>show#[x,y,v,u,rfl,rfl]
      |cons u vs=>show B.2.2.elim
def Bq:∀{rs:List R}{vs:List V}{ds:List D}{U U':Env}{F:Hp}{Z':St},Rel K (U++(rs.map zt++U')) (Z++(vs.map some++Z')) F G H->U.length=Z.length->lS Z vs rs->(rs.mapM λr=>zB r U)=some ds->
  ∃F',zr F F'/\fP K F' H vs ds/\Rel K (U++U') (Z++Z') F' G H
 |[],[],ds,U,U',F,Z',r,h,_,e=>by
  let B:ds=[]:=↑e.symm
  subst B;show#[F,zr.refl F,trivial,r]
 |[],_::_,_,_,_,_,_,_,_,h,_=>h.elim
 |_::_,[],_,_,_,_,_,_,_,h,_=>h.elim
 |x::rs,v::vs,ds,U,U',F,Z',r,h,rv,e=>by
  rw[List.mapM_cons]at e;cases q:zB x U with
  |none=>rw[q]at e;cases e
  |some d=>
   rw[q]at e;cases z:(rs.mapM λr=>zB r U)with
   |none=>rw[z]at e;cases e
   |some es=>rw[z]at e;let B:d::es=ds:=qf e;subst B;let#[F1,L,M,Y]:=AU (U':=rs.map zt++U') (Z':=vs.map some++Z') r h rv.1 q;let#[F2,J,res,O]:=Bq (rs:=rs) (vs:=vs) Y h rv.2 z;show#[F2,L.trans J,#[M.mono J,res],O]
def bT(K:W.Frag)(r:List V->Hp->VK->Prop)(f:List D->Option S):Prop:=∀(Z:St)(U:Env)(F G H:Hp)(vs:List V)(ds:List D)(s:S)(Q:VK),Rel K U Z F G H->fP K F H vs ds->f ds=some s->
 (∀v F' H',zr F F'->Rel K (U++[some s]) (Z++[some v]) F' G H'->Q v H')->r vs H Q
end
section
variable{id T:String}
def JR(hd:bT X.K r f)(Z:St)(H:Hp)(Q:VK)(q:tW (wp X pn xe) (wB f Y) Z H Q):sS r (lZ (wp X pn xe) Y) Z H Q:=by show(many (k:=λO z Q E=>zp (O.mapM λr=>zB r z) λM=>zp (f M) λs=>Q (.v s) z) q).mono λvs H1 h1=>?_;let#[F,G,U,O,P,PX,J,hl,rv,B,L,hx]:=h1;let#[M,ed,B]:=Ai B;let#[s,es,B]:=Ai B;let#[F1,s1,re,r1]:=Bq (U':=[]) (Z':=[]) ↑J hl rv ed;show hd Z U F1 G H1 vs M s Q ↑r1 re es λv F' H' sm r'=>L _ U v F' H' B (s1.trans sm) r' trivial
def Ek(hc:∀pn xe,aK (wp X pn xe) (.builtin id) r)(Y:bT X.K r f)(M:Gl X x)(L:X.mg x=none)(G:bootBuiltins x=some (.builtin id))(ha:FA X (e::es) F)(hn:x≠"__name__":=by decide)(B:(x==("__debug__":Str))=false:=by decide)
  (O:starEach (e::es) X.env=(false,eval e X.env)::starEach es X.env:=by rfl)(z:(backTo pos (starEach es X.env)).any (·.1)=false:=by rfl):FE X (.Call (.Name x p) (e::es) [] pos) (wB f F):=λpn xe J=>
 PE.imp (GN (X:=wp X pn xe) (hc pn xe) M L G (ha pn xe J) hn B O z) (JR Y)
def Fz(hc:∀pn xe,aK (wp X pn xe) (.type T) r)(Y:bT X.K r f)(M:Gl X x)(L:X.mg x=none)(G:bootBuiltins x=some (.type T))(ha:FA X (e::es) F)(hn:x≠"__name__":=by decide)(B:(x==("__debug__":Str))=false:=by decide)
  (O:starEach (e::es) X.env=(false,eval e X.env)::starEach es X.env:=by rfl)(z:(backTo pos (starEach es X.env)).any (·.1)=false:=by rfl):FE X (.Call (.Name x p) (e::es) [] pos) (wB f F):=λpn xe J=>
 PE.imp (Qk (X:=wp X pn xe) (hc pn xe) M L G (ha pn xe J) hn B O z) (JR Y)
def pF(K:W.Frag):List V->Hp->VK->Prop:=λxs H Q=>(∃p ys,xs=[.ref p]/\(bC K H p ys\/aV K H p ys)/\Q (.int ys.length) H)\/∃z,xs=[.str z]/\z.length<=sizeLine/\Q (.int z.length) H
def aK.or'{f:Value}(h:aK X f r)(h':aK X f F):aK X f (λx H Q=>r x H Q\/F x H Q):=λzF s Z H xs z Q I B q=>q.elim (h zF s Z H xs z Q I B) (h' zF s Z H xs z Q I B)
def Kj:aK X (.builtin "len") (pF X.K):=aK.or' RM Su
def JE{K:W.Frag}:bT K (pF K) bQ:=by
 intro Z U F G H vs Y s Q B J e M;let#[d,v,rfl,rfl]:=Bg (λx y r=>by cases x<;>rfl) rfl J e;cases d with
 |str l=>cases e;let#[x,rfl,O,z]:=J.1.str;show .inr #[x,rfl,by rw[Ed O];show z,by rw[Ed O];show M _ F H (zr.refl F) (B.push (.int _))]
 |tup l=>cases e;let#[a,xs,rfl,h1,L]:=J.1.tup;show .inl #[a,xs,rfl,.inr (aV.of (B.fr _ _ h1)),by rw[L.len];show M _ F H (zr.refl F) (B.push (.int _))]
 |lst l=>cases e;let#[a,xs,rfl,h1,L]:=J.1.lst B.fr;show .inl #[a,xs,rfl,.inl h1,by rw[L.len];show M _ F H (zr.refl F) (B.push (.int _))]
 |_=>cases e
def BJ(G:Gl X "len")(F:X.mg "len"=none)(L:FA X (e::es) B)(J:starEach (e::es) X.env=(false,eval e X.env)::starEach es X.env:=by rfl)(z:(backTo pos (starEach es X.env)).any (·.1)=false:=by rfl):FE X (.Call (.Name "len" p) (e::es) [] pos) (wB bQ B):=
 Ek (λ_ _=>Kj) JE G F PySem.boot_len L ⋯ ⋯ J z
end
section
variable{K:W.Frag}
def xZ:List V->Hp->VK->Prop:=λxs H Q=>(∃i,xs=[.int i]/\Q (.int i) H)\/∃k,xs=[.bl k]/\Q (.int (if k then 1 else 0)) H
def aS.bl(h:aS K F H v (.bl b)):v=.bl b:=by
 rcases h with h|⟨_,_,_,_,h,_⟩|⟨_,_,_,_,_,h,_⟩|⟨_,_,_,_,_,h,_⟩
 .cases h;rfl
 .cases h
 .cases h
 .cases h
def Rf:bT K xZ jQ:=by
 intro Z U F G H vs L s Q z B e J;let#[d,v,rfl,rfl]:=Bg (λx y r=>by cases x<;>rfl) rfl B e;cases d with
 |int i=>cases e;let:=B.1.int;subst this;show .inl #[i,rfl,J _ F H (zr.refl F) (z.push (.int _))]
 |bl b=>cases e;let:=B.1.bl;subst this;show .inr #[b,rfl,J _ F H (zr.refl F) (z.push (.int _))]
 |_=>cases e
def Gu(J:Gl X "int")(G:X.mg "int"=none)(F:bootBuiltins "int"=some (.type "int"))(M:FA X (e::es) B)(L:starEach (e::es) X.env=(false,eval e X.env)::starEach es X.env:=by rfl)(z:(backTo pos (starEach es X.env)).any (·.1)=false:=by rfl):FE X (.Call (.Name "int" p) (e::es) [] pos) (wB jQ B):=
 Fz (λ_ _=>PZ) Rf J G F M ⋯ ⋯ L z
def oY(K:W.Frag):List V->Hp->VK->Prop:=λxs H Q=>∃p ys,xs=[.ref p]/\((bC K H p ys/\∀l,H l=none->Q (.ref l) (upd H l (.tup ys)))\/(aV K H p ys/\Q (.ref p) H))
def Rx:bT K (oY K) dI:=by
 intro Z U F G H vs Y s Q z B e M;let#[d,v,rfl,rfl]:=Bg (λx y r=>by cases x<;>rfl) rfl B e;cases d with
 |tup l=>cases e;let#[a,xs,rfl,h1,J]:=B.1.tup;show#[a,xs,rfl,.inr #[aV.of (z.fr _ _ h1),M _ F H (zr.refl F) (z.push (.tup h1 J))]]
 |lst l=>cases e;let#[a,xs,rfl,h1,J]:=B.1.lst z.fr;show#[a,xs,rfl,.inl #[h1,λp O=>?_]];let L:=(z.free O).1;show M _ _ _ (zr.upd L) ((z.newF O).push (.tup AQ (J.mono (zr.upd L))))
 |_=>cases e
def Hd(J:Gl X "tuple")(G:X.mg "tuple"=none)(F:bootBuiltins "tuple"=some (.type "tuple"))(M:FA X (e::es) B)(L:starEach (e::es) X.env=(false,eval e X.env)::starEach es X.env:=by rfl)(z:(backTo pos (starEach es X.env)).any (·.1)=false:=by rfl):FE X (.Call (.Name "tuple" p) (e::es) [] pos) (wB dI B):=
 Fz (λ_ _=>So) Rx J G F M ⋯ ⋯ L z
def nI(K:W.Frag):List V->Hp->VK->Prop:=λxs H Q=>∃p ys,xs=[.ref p]/\(bC K H p ys\/aV K H p ys)/\∀l,H l=none->Q (.ref l) (upd H l (.lst ys))
def Kf:bT K (nI K) uM:=by
 intro Z U F G H vs O s Q z B e M;let#[d,v,rfl,rfl]:=Bg (λx y r=>by cases x<;>rfl) rfl B e;cases d with
 |tup l=>cases e;let#[a,xs,rfl,h1,J]:=B.1.tup;show#[a,xs,rfl,.inr (aV.of (z.fr _ _ h1)),λp L=>M _ F _ (zr.refl F) (z.newLD L J)]
 |lst l=>cases e;let#[a,xs,rfl,h1,J]:=B.1.lst z.fr;show#[a,xs,rfl,.inl h1,λp L=>M _ F _ (zr.refl F) (z.newLD L J)]
 |_=>cases e
end
def EA(h:aQ a=aQ b):a=b:=by
 cases a with
 |inl i=>cases b with
  |inl j=>have h':D.int i=D.int j:=h;cases h';rfl
  |inr y=>have h':D.int i=D.str y.cps.toList:=h;cases h'
 |inr x=>cases b with
  |inl j=>have h':D.str x.cps.toList=D.int j:=h;cases h'
  |inr y=>have h':D.str x.cps.toList=D.str y.cps.toList:=h;let#[#[a]]:=x;first|rfl|assumption|(simp_all;done)
def He:∀{a b:List aT},a.map aQ=b.map aQ->a=b
 |[],[],_=>rfl
 |[],_::_,h=>by simp at h
 |_::_,[],h=>by simp at h
 |x::a,y::b,h=>by
  injection h with h1 h2
  rw[EA h1,He h2]
section
variable{K:W.Frag}
def IS(r:aI K H x d)(h:cT d=true):∃k:aT,x=kV k/\d=aQ k:=by
 cases r with
 |int i=>show#[.inl i,rfl,rfl]
 |str e z=>show#[.inr _,rfl,by rw[<-e];rfl]
 |_=>cases h
def GF(r:zD K H xs l):l.all cT=true->∃ks:List aT,xs=ks.map kV/\l=ks.map aQ:=
 zD.ind (P:=λxs l=>l.all cT=true->∃ks:List aT,xs=ks.map kV/\l=ks.map aQ) (λ_=>#[[],rfl,rfl]) (λa _ z h=>by rw[all_cons,and_eq_true]at h;let#[k,rfl,rfl]:=IS a h.1;let#[ks,rfl,rfl]:=z h.2;show#[k::ks,rfl,rfl]) r
open Classical in
def Ha{κ:Type}[DecidableEq κ](g:κ->D)(F:∀a b,g a=g b->a=b):∀(B:List (κ×V))(k:κ),(dE B k).isSome=decide (g k∈B.map λp=>g p.1)
 |[],k=>by simp[dE]
 |p::r,k=>by
  by_cases e:p.1=k
  .rw[FK e];let:g k∈(p::r).map λp=>g p.1:=by rw[qy,e];exact qm
   show(qP this).symm
  .rw[FH e,Ha g F r k];let:(g k∈(p::r).map λp=>g p.1)↔(g k∈r.map λp=>g p.1):=by rw[qy,qA];exact#[λz=>z.elim (λw=>absurd (F _ _ w).symm e) id,.inr]
   show(decide_eq_decide.2 this).symm
open Classical in
def GD{κ:Type}[DecidableEq κ](g:κ->D)(G:∀a b,g a=g b->a=b){α:Type}:∀(B:List (κ×V))(vs:List α)(k:κ)(P:V->α->Prop),B.length=vs.length->(∀(i:Nat) x y,(B.map (·.2))[i]?=some x->vs[i]?=some y->P x y)->
  (lk (B.map λp=>g p.1) vs (g k)=none/\dE B k=none)\/∃x y,dE B k=some x/\lk (B.map λp=>g p.1) vs (g k)=some y/\P x y
 |[],[],k,P,_,_=>.inl #[rfl,rfl]
 |[],_::_,_,_,h,_=>by simp at h
 |_::_,[],_,_,h,_=>by simp at h
 |p::r,v::vs,k,P,hl,h=>by
  by_cases e:p.1=k
  .show .inr #[p.2,v,FK e,?_,h 0 p.2 v rfl rfl];show(if g p.1=g k then some v else lk (r.map λp=>g p.1) vs (g k))=some v;rw[qY (by rw[e])]
  .let F:¬g p.1=g k:=λz=>e (G _ _ z);rw[FH e];let J:lk ((p::r).map λp=>g p.1) (v::vs) (g k)=lk (r.map λp=>g p.1) vs (g k):=by show(if g p.1=g k then some v else lk (r.map λp=>g p.1) vs (g k))=_;rw[qZ F]
   rw[J];show GD g G r vs k P ↑hl λi x y h1 h2=>h (i+1) x y ↑h1 ↑h2
def Nt(O:aI K H x d)(r2:aI K H (.ref a) (.dct t ks vs))(M:eS t d=true):∃o,rZ H a x o/\o.isSome=(open Classical in decide (d∈ks))/\
  ((lk ks vs d=none/\o=none)\/∃v e,o=some v/\lk ks vs d=some e/\aI K H v e):=by
 cases r2 with
 |dK e k r=>
  rename_i B;let#[J,rfl,rfl]:=IS O M;show#[_,.inl #[B,J,e,rfl,rfl],?_,?_]
  .rw[k];show Ha aQ (λ_ _=>EA) B J
  .rw[k];rcases GD aQ (λ_ _=>EA) B vs J (λv e=>aI K H v e) (by let:=r.len;simpa using this) (λi x y h1 h2=>by let#[Y,G,L]:=r.get h2;rw[h1]at G;cases G;show L)with⟨h1,h2⟩|⟨v,e,h1,h2,h3⟩
   .show .inl #[h1,h2]
   .show .inr #[v,e,h1,h2,h3]
 |dT e k r=>
  rename_i B;cases O with
  |tup e1 q=>
   let#[F,rfl,rfl]:=GF q M;let inj:∀a b:List aT,D.tup (a.map aQ)=D.tup (b.map aQ)->a=b:=λa b z=>He (D.tup.inj z);show#[_,.inr #[B,F,_,e,rfl,e1,rfl],?_,?_]
   .rw[k];show Ha (λl=>D.tup (l.map aQ)) inj B F
   .rw[k];rcases GD (λl=>D.tup (l.map aQ)) inj B vs F (λv e=>aI K H v e) (by let:=r.len;simpa using this) (λi x y h1 h2=>by let#[Y,G,L]:=r.get h2;rw[h1]at G;cases G;show L)with⟨h1,h2⟩|⟨v,e,h1,h2,h3⟩
    .show .inl #[h1,h2]
    .show .inr #[v,e,h1,h2,h3]
  |_=>cases M
def iT(neg:Bool):R2:=λx y H Q=>∃a o,y=.ref a/\rZ H a x o/\Q (.bl (if neg then !o.isSome else o.isSome)) H
def RL(F:X.A.units+1<cLine):OpR X (compareOp .NotIn) (iT true):=by intro zF s Z H x y v u Q I B z h;let#[a,o,rfl,g,q]:=h;cases z;show Nr F I g B λs' G=>#[.bl _,H,G,rfl,q]
def iC(K:W.Frag)(neg:Bool):R2:=λx y H Q=>tG K neg x y H Q\/iT neg x y H Q
def Sd(z:X.A.units+32<cLine):OpR X (compareOp .NotIn) (iC X.K true):=FL.OpR.or (Qm z) (RL ∅)
open Classical in
def Ny(F:aI K H x p)(B:aI K H y q)(e:zP p q=some k)(G:Q (.bl (if neg then !k else k)) H):iC K neg x y H Q:=by
 unfold zP at e;split at e
 .rename_i l;split at e
  .cases e
  .rename_i h;let z:=qf e;subst z;show .inl #[p,l,F,.inl B,λd L=>?_,G];grind
 .rename_i l;split at e
  .cases e
  .rename_i h;let z:=qf e;subst z;show .inl #[p,l,F,.inr B,λd L=>?_,G];grind
 .rename_i t ks vs;split at e
  .rename_i h;let z:=qf e;cases y with
   |ref a=>let#[o,g,J,_]:=Nt F B h;show .inr #[a,o,rfl,g,?_];rw[J,z];show G
   |_=>cases B
  .cases e
 .cases e
end
open PySem.Builtin.Str (strSliceIndices)
def FF(n d:Nat)(o:Option Int):HT.sIx n d o=FL.sIx n d o:=by cases o<;>rfl
def IX(n d:Nat)(z:d<=n)(o:Option Int):FL.sIx n d o<=n:=by rw[<-FF];show HT.sIx_le n d z o
def rQ(z:Str)(lo hi:Option Int):Str:=#[(bZ z.cps.toList lo hi).toArray]
def QK(lo hi:Option Int)(n:Nat):strSliceIndices lo hi 1 n=(List.range (FL.sIx n n hi-FL.sIx n 0 lo)).map (FL.sIx n 0 lo+·):=by rw[<-sliceRange_one];unfold strSliceIndices;cases lo<;>cases hi<;>simp only[if_true,FL.sIx,DJ]<;>rfl
def Qn(x:Str)(lo hi:Option Int):Txt.slice x lo hi=rQ x lo hi:=by
 let B:x.length=x.cps.toList.length:=by show x.cps.size=_;rw[qT]
 unfold Txt.slice rQ bZ;rw[QK,pick_run,<-B];split
 .rename_i h;simp at h;let h1:=IX x.length x.length (q8 _) hi;let h2:FL.sIx x.length 0 lo=0\/x.length=0:=by lia
  let F:FL.sIx x.length 0 lo=0:=h2.elim id λz=>by let:=IX x.length 0 (zero_le _) lo;lia
  rw[h,F,drop_zero,List.take_of_length_le (by rw[B];show q8 _)]
 .rfl
def sX:V->Option Int->Option Int->Hp->VK->Prop:=λx lo hi H Q=>∃z,x=.str z/\z.length<=sizeLine/\Q (.str (rQ z lo hi)) H
def IK(p:IsPart v o):∃l:Option (Int×Tok),v=partValue l/\o=l.map (·.1):=by
 cases p with
 |none=>show#[none,rfl,rfl]
 |int i t=>show#[some (i,t),rfl,rfl]
def MC:jS X sX:=by
 intro zF s Z H x v Y O lo hi sl Q I B M J G h;let#[z,rfl,L,q]:=h;let#[t,rfl]:=B;let#[l,rfl,rfl]:=IK J;let#[u,rfl,rfl]:=IK G;rw[<-Qn]at q;exact⟨"str",_,F.slot_str_getitem.lookup,typeIs_str _ _ _,wpAny_getItem_str_slice (l:=l) (u:=u) (st:=none) M rfl
  (post_val_or_str #[le_trans (Txt.slice_le z _ _) L,λt' k=>#[.str (Txt.slice z (l.map (·.1)) (u.map (·.1))),H,I.tok _,#[_,rfl],q]])⟩
def sV(K:W.Frag):V->Option Int->Option Int->Hp->VK->Prop:=λx lo hi H Q=>∃a xs,x=.ref a/\aV K H a xs/\
 (HT.sIx xs.length 0 lo=0/\HT.sIx xs.length xs.length hi=xs.length)/\Q (.ref a) H
def Sv{items:Array Value}{lo hi:Option Int}(B:IsTup s.heap t items)(hs:s.heap.IsSliceOf L Y O .none)(pl:IsPart Y lo)(pu:IsPart O hi)
  (M:HT.sIx items.size 0 lo=0/\HT.sIx items.size items.size hi=items.size)(h:Q (.ref t) s):wpAny (model prog w) A (getItem (.ref t) (.ref L)) Q E s:=by
 let#[os,F,G,h1]:=id hs;let J:s.TypeIs (.ref L) "slice":=#[os,F,G]
 unfold getItem;try with_reducible show zg ?_
 first|show qa (qb ?_)|skip
 refine qa (wpAny_sequenceKey B.typeIs ⋯ ?_);refine qa (wpAny_callSpecial?_slot (name:=Str.ofString "__getitem__") B.typeIs PyProof.Rows.slot_tuple_getitem
  (ze PyProof.Rows.slot_tuple_getitem B.typeIs entry_tuple_getitem ?_ (args_tuple_getitem _ _)))
 show wpAny _ _ (Builtin.Tuple.tupleItemsOf (.ref t)>>=_) _ _ s;show qa (tupleItemsOf_ B ?_);show qa (wpAny_typeOf J ?_);show qa (HT.sliceApplied_gen hs pl pu ?_);let z:(((HT.sIx items.size 0 lo:Nat):Int)==0&&(1:Int)==1&&(HT.sIx items.size items.size hi-HT.sIx items.size 0 lo)==items.size)=true:=by rw[M.1,M.2];simp
 show wpAny _ _ (if(((HT.sIx items.size 0 lo:Nat):Int)==0&&(1:Int)==1&&(HT.sIx items.size items.size hi-HT.sIx items.size 0 lo)==items.size)=true then _ else _) _ _ s;rw[qY z];show qa (qa (wpAny_typeOf B.typeIs (qb ?_)));first
  |show qa (wpAny_rule (qb ⟨_,rfl,qb h⟩))
  |show qa (qb (qb ⟨_,rfl,qb h⟩))
  |show qb ⟨_,rfl,qb h⟩
def OP:jS X (sV X.K):=by
 intro zF s Z H x v vl vu lo hi sl Q I G Y L J h;let#[a,xs,rfl,M,O,q]:=h;cases G;let#[B,r,F,hz]:=I.tuple M;let z:B.toArray.size=xs.length:=by rw[qr];show r.length.symm
 show#["tuple",_,PyProof.Rows.slot_tuple_getitem.lookup,F.typeIs,?_];show Sv F Y L J (by rw[z];show O) #[.ref a,H,I,rfl,q]
section
variable{K:W.Frag}
def zD.drop:∀{xs:List V}{l:List D}(n:Nat),zD K F xs l->zD K F (xs.drop n) (l.drop n)
 |_,_,0,r=>by rw[drop_zero];show r
 |_,_,n+1,.nil=>by rw[List.drop_nil];show .nil
 |_,_,n+1,.cons a b=>by rw[List.drop_succ_cons];show zD.drop n b
def zD.take:∀{xs:List V}{l:List D}(n:Nat),zD K F xs l->zD K F (xs.take n) (l.take n)
 |_,_,0,r=>by rw[List.take_zero];show .nil
 |_,_,n+1,.nil=>by rw[List.take_nil];show .nil
 |_,_,n+1,.cons a b=>by rw[List.take_succ_cons];show .cons a (zD.take n b)
def zD.cut{lo hi:Option Int}(r:zD K F xs l):zD K F (gN xs lo hi) (bZ l lo hi):=by unfold gN bZ;rw[FF,r.len];show(r.drop _).take _
def xX(K:W.Frag):V->Option Int->Option Int->Hp->VK->Prop:=λx lo hi H Q=>sY K x lo hi H Q\/sW K x lo hi H Q\/sV K x lo hi H Q\/sX x lo hi H Q
def IA:jS X (xX X.K):=jS.or MT (jS.or LD (jS.or OP MC))
def Ni{lo hi:Option Int}(z:Rel K U Z F G H)(O:aS K F H v d)(e:lP d lo hi=some s)
  (L:∀v F' H',zr F F'->Rel K (U++[some s]) (Z++[some v]) F' G H'->Q v H'):xX K v lo hi H Q:=by
 cases d with
 |str l=>
  cases e;let#[x,rfl,h1,h2]:=O.str;subst h1;show .inr (.inr (.inr #[x,rfl,?_,L _ F H (zr.refl F) (z.push (.str rfl ?_))]))
  .let:x.length=x.cps.toList.length:=by show x.cps.size=_;rw[qT]
   rw[this];show h2
  .show le_trans ?_ h2;unfold bZ;rw[qG,qF];lia
 |tup l=>
  cases e;let#[a,xs,rfl,h1,B]:=O.tup;by_cases J:HT.sIx xs.length 0 lo=0/\HT.sIx xs.length xs.length hi=xs.length
  .show .inr (.inr (.inl #[a,xs,rfl,aV.of (z.fr _ _ h1),J,L _ F H (zr.refl F) (z.push ?_)]));let:bZ l lo hi=l:=by unfold bZ;rw[<-B.len,<-FF,<-FF,J.1,J.2,drop_zero,List.take_of_length_le (by rw[<-B.len];lia)]
   rw[this];show .tup h1 B
  .show .inr (.inl #[a,xs,rfl,aV.of (z.fr _ _ h1),J,λp M=>?_]);let Y:=(z.free M).1;show L _ _ _ (zr.upd Y) ((z.newF M).push (.tup AQ (B.cut.mono (zr.upd Y))))
 |lst l=>cases e;let#[a,xs,rfl,h1,B]:=O.lst z.fr;show .inl #[a,xs,rfl,h1,λp M=>L _ F _ (zr.refl F) (z.newLD M B.cut)]
 |_=>cases e
end
theorem nextOf(r1:Rel X.K (U1++[zt x]) (Z++[some v]) F G H1)(M:RV Z v x)(Y:wb U1 (λy U2=>k x y U2 P PX) PX)
  (h3:∀r U' v F' H',P r U'->zr F F'->Rel X.K (U'++[zt r]) (Z++[some v]) F' G H'->RV Z v r->Q v H')(hx:XC X (·=Z) F G PX):tW X wb Z H1 λu H2=>zT X Z k Q v u H2:=by
 let h1:=Ag r1;let#[G1,B,gg,back]:=r1.hide h1;show#[F,G1,U1,_,PX,B,Y,λy U2 u F2 H2 O J r2 L=>?_,hx.mono (λ_ z=>z) (zr.refl F) gg];let h2:=Ag r2;let r3:=back J r2;rw[qp,qp]at r3;show#[F2,G,U2,x,y,P,PX,Rel.swap (U1:=[zt y]) (Z1:=[some u]) (U2:=[zt x]) (Z2:=[some v]) h2 rfl r3,h2,M,L,O,λr U' v F' H' a b c d=>h3 r U' v F' H' a (J.trans b) c d,hx.grow J]
def Bn{U:Env}{o:Option D}{k:Int->Prop}(h:(match o with|some (.int i)=>k i|_=>False)):∃i,o=some (.int i)/\k i:=by
 split at h
 .show#[_,rfl,h]
 .show h.elim
def Ig{K:W.Frag}{U:Env}{Z:St}{F G H:Hp}{x y:R}{v u:V}{lo hi:Option Int}{P:WQ}{Q:VK}{q:D}(J:Rel K (U++[zt x,zt y]) (Z++[some v,some u]) F G H)(M:U.length=Z.length)(rx:RV Z v x)
  (B:zp (zB x U) λd=>zp (lP d lo hi) λs=>P (.v s) U)
  (L:∀r U' v F' H',P r U'->zr F F'->Rel K (U'++[zt r]) (Z++[some v]) F' G H'->RV Z v r->Q v H'):xX K v lo hi H Q:=by
 let#[d,ed,B]:=Ai B;let#[s,es,B]:=Ai B;let z:Rel K (U++[zt x]) (Z++[some v]) F G H:=by let:=Rel.swap (U1:=[zt x]) (Z1:=[some v]) (U2:=[zt y]) (Z2:=[some u]) M rfl J;show Rel.mid (U:=U) (Z:=Z) this M
 let#[F1,Y,re,r1]:=AU (U':=[]) (Z':=[]) z M rx ed;show Ni (U:=U) (Z:=Z) ↑r1 re es λv F' H' O r'=>L _ U v F' H' B (Y.trans O) r' trivial
def Fi(ha:FE X a wa)(hb:FE X b Y):FE X (.Subscript a (.Slice (some b) none none p2) pos) (kH wa (some Y) none):=λpn xe O=>by
 refine PE.imp (JB (IA (X:=wp X pn xe)) (ha pn xe O) (Jd (hb pn xe O)) Jc) λZ H Q q=>?_;refine(Em (k:=λx y z Q E=>match view y z with
  |some (.int i)=>zp (zB x z) λd=>zp (lP d (some i) none) λs=>Q (.v s) z
  |_=>False) q).mono λv H1 h1=>h1.mono λu H2 h2=>?_
 let#[F,G,U,x,y,P,PX,B,L,rx,ry,M,J,hx]:=h2;let#[i,ei,M]:=Bn (U:=U) (k:=λi=>zp (zB x U) λd=>zp (lP d (some i) none) λs=>P (.v s) U) M;let ru:=Ap (U':=[]) (Z':=[]) (B.mid L) L ry ei;cases ru;show#[i,rfl,Ig (q:=.non) B L rx M J]
def Fj(ha:FE X a wa)(hb:FE X b Y):FE X (.Subscript a (.Slice none (some b) none p2) pos) (kH wa none (some Y)):=λpn xe O=>by
 refine PE.imp (JB (IA (X:=wp X pn xe)) (ha pn xe O) Jc (Jd (hb pn xe O))) λZ H Q q=>?_;refine(Em (k:=λx y z Q E=>match view y z with
  |some (.int i)=>zp (zB x z) λd=>zp (lP d none (some i)) λs=>Q (.v s) z
  |_=>False) q).mono λv H1 h1=>h1.mono λu H2 h2=>?_
 let#[F,G,U,x,y,P,PX,B,L,rx,ry,M,J,hx]:=h2;let#[i,ei,M]:=Bn (U:=U) (k:=λi=>zp (zB x U) λd=>zp (lP d none (some i)) λs=>P (.v s) U) M;let ru:=Ap (U':=[]) (Z':=[]) (B.mid L) L ry ei;cases ru;show#[i,rfl,Ig (q:=.non) B L rx M J]
end FL
namespace FL
open PySem
def sA(f:List Nat->List D->Option S)(o:WE)(a:WA):WE:=λU Q E=>o U (λx B=>match x with
 |.v (.sh (.str l))=>a B (λF z=>zp (F.mapM λr=>zB r z) λG=>zp (f l G) λs=>Q (.v s) z) E
 |_=>False) E
def cO:List D->Option (List (List Nat))
 |[]=>some []
 |.str x::r=>(cO r).map (x::·)
 |_::_=>none
@[simp] theorem QV(l:List (List Nat)):cO (l.map .str)=some l:=by
  induction l with
  |nil=>rfl
  |cons a r z=>rw[qy,cO,z];rfl
def cI(z:List Nat):List (List Nat)->List Nat
 |[]=>[]
 |[x]=>x
 |x::r=>x++z++cI z r
def Le(z:List Nat):∀ys:List (List Nat),(cI z ys).length<=(ys.map List.length).sum+ys.length*z.length
 |[]=>zero_le _
 |[x]=>by simp[cI]
 |x::y::r=>by
  let:=Le z (y::r);rw[cI,qq,qq,qy,List.sum_cons,qt (a:=x),Nat.succ_mul]
  .lia
  .intro h;cases h
def PN(ys:List (List Nat)):cI [] ys=ys.flatten:=by
 induction ys with
 |nil=>rfl
 |cons x r z=>
  cases r with
  |nil=>simp[cI]
  |cons y r=>rw[cI,z];simp;intro h;cases h
def lA(z:List Nat)(l:List D):Option S:=(cO l).bind λys=>if(ys.map List.length).sum+ys.length*z.length<=big then some (.sh (.str (cI z ys)))else none
def gL(z:List Nat):List D->Option S
 |[.lst l]=>lA z l
 |[.tup l]=>lA z l
 |_=>none
def eM(j:Nat)(e:WE):WE:=λU Q E=>match slot U j with
 |some (.lst _)=>e U (λr z=>match view r z,slot z j with
  |some (.int i),some (.lst l)=>zp (if l.length<=big then ixN l.length i else none) λk=>zp l[k]? λs=>Q (.v s) (z.set j (some (.lst (l.eraseIdx k))))
  |_,_=>False) E
 |_=>False
def fN:List D->Option (List Bool)
 |[]=>some []
 |.bl x::r=>(fN r).map (x::·)
 |_::_=>none
@[simp] theorem Rn(l:List Bool):fN (l.map .bl)=some l:=by
  induction l with
  |nil=>rfl
  |cons a r z=>rw[qy,fN,z];rfl
def mX:List D->Option S
 |[.lst l]=>(fN l).map λbs=>.sh (.bl (bs.all id))
 |_=>none
end FL
namespace FL
open PySem PySem.Spec PyProof.Rows L2
section
variable{id:String}
def lL(K:W.Frag)(r:V->List V->Hp->VK->Prop)(f:List Nat->List D->Option S):Prop:=∀(Z:St)(U:Env)(F G H:Hp)(x:Str)(vs:List V)(ds:List D)(s:S)(Q:VK),Rel K U Z F G H->x.cps.toList.length<=16777216->fP K F H vs ds->f x.cps.toList ds=some s->
 (∀v F' H',zr F F'->Rel K (U++[some s]) (Z++[some v]) F' G H'->Q v H')->r (.str x) vs H Q
def Ls(hm:∀pn xe,uW (wp X pn xe) id r)(hd:lL X.K r f)(slot:Slot "str" name id)(h5:typeOf (.builtin id)=pure (.type "method_descriptor"))(ho:FE X o wo)(ha:FA X (e::es) wa)
  (O:attributeBase o name X.env (eval o X.env)=eval o X.env:=by rfl)
  (h2:((backTo cpos (starEach (e::es) X.env)).all (λx=>!x.1)&&(backToKw cpos (keywordEach [] X.env)).all (λx=>x.1.isSome)
   &&decide ((e::es).length+([]:List Keyword).length+(if([]:List Keyword).isEmpty then 0 else 1)<30))=true:=by rfl)
  (M:(apos.endLine==cpos.line)=true:=by rfl)(hs:starEach (e::es) X.env=(false,eval e X.env)::starEach es X.env:=by rfl)(L:(backTo cpos (starEach es X.env)).any (·.1)=false:=by rfl):
  FE X (.Call (.Attribute o name apos) (e::es) [] cpos) (sA f wo wa):=λpn xe hp=>by
 refine PE.imp (Gf (X:=wp X pn xe) PySem.F.plainAttrs_str slot h5 (hm pn xe) (ho pn xe hp) (ha pn xe hp) O h2 M hs L) λZ H Q q=>?_;refine(one (k:=λx h3 Q E=>match x with
  |.v (.sh (.str l))=>wa h3 (λrs B=>zp (rs.mapM λr=>zB r B) λds=>zp (f l ds) λs=>Q (.v s) B) E
  |_=>False) q).mono λv H1 h1=>?_
 let#[F,G,U,x,P,PX,Y,hl,rx,hk,h6,hx]:=h1;split at hk
 .rename_i l;let rp:=Ap (U':=[]) (Z':=[]) (x:=.v (.sh (.str l))) Y hl rx rfl;cases rp with
  |str e1 z=>rename_i y;subst e1;show#[rfl,F,G,U,_,PX,Y.drop hl,hk,λrs B vs F2 H2 J s2 r2 h7 h4=>?_,hx];let#[ds,ed,J]:=Ai J;let#[s,es,J]:=Ai J;let#[F3,s3,re,r3]:=Bq (U':=[]) (Z':=[]) ↑r2 h7 h4 ed;show hd Z B F3 G H2 y vs ds s Q ↑r3 z re es λv F' H' sm r'=>h6 _ B v F' H' J (s2.trans (s3.trans sm)) r' trivial
 .show hk.elim
end
section
variable{K:W.Frag}
def IL(r:zD K F xs l)(h:cO l=some ys):∃B:List Str,xs=B.map V.str/\ys=B.map λz=>z.cps.toList:=
 zD.ind (P:=λxs l=>∀ys,cO l=some ys->∃B:List Str,xs=B.map V.str/\ys=B.map λz=>z.cps.toList) (λys h=>by cases h;show#[[],rfl,rfl]) (λa _ J ys h=>by
  cases a with
  |@str x _ e z=>let#[G,h1,rfl]:=qW.mp h;let#[B,rfl,rfl]:=J _ h1;show#[x::B,rfl,by rw[qy,e]]
  |_=>cases h) r ys h
def JW(B:Str):∀F:List Str,(Str.join B F).cps.toList=cI B.cps.toList (F.map λz=>z.cps.toList)
 |[]=>rfl
 |[x]=>rfl
 |x::y::r=>by show((x++B++Str.join B (y::r):Str)).cps.toList=x.cps.toList++B.cps.toList++cI B.cps.toList ((y::r).map λz=>z.cps.toList);rw[<-JW B (y::r)];show(x.cps++B.cps++(Str.join B (y::r)).cps).toList=_;rw[toList_append,toList_append]
def Gb:∀{us:List Value},zC (ys.map V.str) us->StrsAre us ys:=by
 induction ys with
 |nil=>intro us r;rw[map_nil]at r;cases r;show .nil
 |cons n G F=>
  intro us r;cases r with
  |cons B z=>let#[t,e]:=B;subst e;show .cons n t (F z)
def kL(K:W.Frag):V->List V->Hp->VK->Prop:=λx vs H Q=>∃z a ys,x=.str z/\vs=[.ref a]/\(bC K H a (ys.map V.str)\/aV K H a (ys.map V.str))/\(ys.map (·.length)).sum+ys.length*z.length<=16777216/\Q (.str (Str.join z ys)) H
def Nf:uW X "str.join" (kL X.K):=by
 intro zF s Z H x vs v us Q I M O h;let#[z,a,ys,rfl,rfl,B,J,q]:=h;let#[t,rfl]:=M;cases O with
 |cons r1 Y=>
  cases Y;cases r1;let e:Txt.join z ys=Str.join z ys:=StrLaws.glued_eq_join z ys;rcases B with B|B
  .obtain⟨G,r,F,_⟩:=I.list B;show join_list F.isList (Gb r) J λL k=>#[.str (Str.join z ys),H,I.tok _,#[_,by rw[e]],q]
  .obtain⟨G,r,F,_⟩:=I.tuple B;show join_tuple F (Gb r) J λL k=>#[.str (Str.join z ys),H,I.tok _,#[_,by rw[e]],q]
def Kg(J:Rel K U Z F G H)(Y:bC K H a xs\/aV K H a xs)(r:zD K F xs l)(e:lA x.cps.toList l=some s)
  (k:∀v F' H',zr F F'->Rel K (U++[some s]) (Z++[some v]) F' G H'->Q v H'):kL K (.str x) [.ref a] H Q:=by
 let#[ys,e1,O]:=Option.bind_eq_some_iff.mp e;let#[B,rfl,rfl]:=IL r e1;split at O
 .rename_i M;cases O;let hl:∀z:Str,z.cps.toList.length=z.length:=λz=>by rw[qT];rfl
  let e3:((B.map λz=>z.cps.toList).map List.length)=B.map (·.length):=by rw[qD];show map_congr_left λz _=>hl z
  let L:=M;rw[e3,qo]at M;show#[x,a,B,rfl,rfl,Y,le_trans M ⋯,k _ F H (zr.refl F) (J.push (.str (JW x B) ?_))];show le_trans (Le _ _) (le_trans L ⋯)
 .cases O
def PL:lL K (kL K) gL:=by
 intro Z U F G H x vs O s Q z M B e L;let#[d,v,rfl,rfl]:=Bg (λx y r=>by cases x<;>rfl) rfl B e;cases d with
 |tup l=>let#[a,xs,rfl,h1,J]:=B.1.tup;show Kg z (.inr (aV.of (z.fr _ _ h1))) J e L
 |lst l=>let#[a,xs,rfl,h1,J]:=B.1.lst z.fr;show Kg z (.inl h1) J e L
 |_=>cases e
end
def IG(M:FE X o J)(O:FA X [e] L)
  (F:attributeBase o "join" X.env (eval o X.env)=eval o X.env:=by rfl)
  (G:((backTo cpos (starEach [e] X.env)).all (λx=>!x.1)&&(backToKw cpos (keywordEach [] X.env)).all (λx=>x.1.isSome)
   &&decide ([e].length+([]:List Keyword).length+(if([]:List Keyword).isEmpty then 0 else 1)<30))=true:=by rfl)
  (B:(apos.endLine==cpos.line)=true:=by rfl)(hs:starEach [e] X.env=(false,eval e X.env)::starEach [] X.env:=by rfl)(z:(backTo cpos (starEach [] X.env)).any (·.1)=false:=by rfl):
  FE X (.Call (.Attribute o "join" apos) [e] [] cpos) (sA gL J L):=Ls (λ_ _=>Nf) PL PySem.F.slot_str_join PySem.F.type_str_join M O F G B hs z
section
variable{K:W.Frag}
def zv.erase:∀{xs:List V}{l:List S}{fp:List Addr}{m:Nat}{s:S},zv K F H xs l fp->l[m]?=some s->∃y G z B,fp=G++(z++B)/\xs[m]?=some y/\aJ K F H y s z/\zv K F H (xs.eraseIdx m) (l.eraseIdx m) (G++B)
 |_,_,_,_,_,.nil,h=>by simp at h
 |_,_,_,0,s,.cons (x:=x) (fp:=fp) (fq:=fq) a b,h=>by let e:=qf h;subst e;show#[x,[],fp,fq,rfl,rfl,a,b]
 |_,_,_,m+1,s,.cons (fp:=fp) (fq:=fq) a b,h=>by let#[y,G,z,B,rfl,h1,h2,J]:=zv.erase (m:=m) b h;show#[y,fp++G,z,B,(qp ..).symm,h1,h2,?_];rw[qp];show .cons a J
def Rel.popItem{D:Addr}(r:Rel K U Z F G H)(hs:slot U n=some (.lst l))(Y:Z[n]?=some (some (.ref D)))(hm:l[m]?=some s):
  ∃xs y,H D=some (.lst xs)/\xs.length=l.length/\xs[m]?=some y/\Rel K (U.set n (some (.lst (l.eraseIdx m)))++[some s]) (Z++[some y]) F G (upd H D (.lst (xs.eraseIdx m))):=by
 let#[fp,e,nd,ap]:=r.en;let#[v',fa,fi,O,e1,rfl,q,up]:=e.at hs;rw[Y]at e1;let e2:V.ref D=v':=↑e1
 subst e2;cases q with
 |lst hD rl=>
  rename_i xs fl;let#[y,ga,M,L,rfl,hy,sr,h2]:=rl.erase hm;show#[xs,y,hD,rl.len,hy,?_];let#[na,B,h3]:=qw.mp nd;let#[ni,nb,B]:=qw.mp B;let#[nD,h8]:=qK.mp ni;let h7:D∉fa:=λz=>h3 D z D (qj _ qm) rfl;let h6:D∉O:=λz=>B D qm D z rfl;let h1:=ap D (qi _ (qj _ qm));let ne:∀{l:List Addr},D∉l->∀x∈l,upd H D (.lst (xs.eraseIdx m)) x=H x:=λh x J=>Ah λz=>h (z▸J);let h5:D∉ga++L:=λz=>nD ((qx.mp z).elim (λw=>qj _ w) λw=>qi _ (qi _ w));let h4:D∉M:=λz=>nD (qi _ (qj _ z));let new:aJ K F (upd H D (.lst (xs.eraseIdx m))) (.ref D) (.lst (l.eraseIdx m)) (D::(ga++L)):=.lst AQ (h2.mono (zr.refl F) (ne h5));let a2:=up (F':=F) (H':=upd H D (.lst (xs.eraseIdx m))) (o:=some (.lst (l.eraseIdx m))) (u:=some (.ref D)) (zr.refl F) (λx J=>Ah λz=>(qx.mp J).elim (λw=>h7 (z▸w)) λw=>h6 (z▸w)) (.so new .nil);rw[JD Y]at a2;let a3:=a2.app (.so (sr.mono (zr.refl F) (ne h4)) .nil);let pm:(fa++((D::(ga++L))++[]++O)++(M++[])).Perm (fa++((D::(ga++(M++L)))++O)):=by simp;show List.Perm.append_left _ (List.Perm.cons _ (List.Perm.append_left _ ?_));rw[<-qp M L O,<-qp L O M];show(qM (l₁:=L++O) (l₂:=M)).trans ?_;rw[qp]
  show#[zr.updR r.fr h1.1,λx o w=>?_,_,a3,pm.nodup_iff.mpr nd,λx J=>ap x (pm.mem_iff.mp J)];let J:x≠D:=λz=>by rw[z,h1.2]at w;cases w
  rw[Ah J];show r.gr x o w
end
def Js(ho:FE X o (zk j))(he:FE X e we)
  (Y:attributeBase o "pop" X.env (eval o X.env)=eval o X.env:=by rfl)
  (h3:((backTo cpos (starEach [e] X.env)).all (λx=>!x.1)&&(backToKw cpos (keywordEach [] X.env)).all (λx=>x.1.isSome)
   &&decide ([e].length+([]:List Keyword).length+(if([]:List Keyword).isEmpty then 0 else 1)<30))=true:=by rfl)
  (O:(apos.endLine==cpos.line)=true:=by rfl)(hs:starEach [e] X.env=[(false,eval e X.env)]:=by rfl):FE X (.Call (.Attribute o "pop" apos) [e] [] cpos) (eM j we):=λpn xe hp=>by
 refine PE.imp (Gf (X:=wp X pn xe) PySem.F.plainAttrs_list PySem.F.slot_list_pop PySem.F.type_list_pop Pu (ho pn xe hp) (Aa he Ab hs pn xe hp) Y h3 O hs rfl) λZ H Q q=>?_;let#[F,G,U,P,PX,h4,hw,h5,hx]:=q;let L:(match slot U j with
  |some (.lst _)=>we U (λr z=>match view r z,slot z j with
   |some (.int i),some (.lst l)=>zp (if l.length<=big then ixN l.length i else none) λk=>zp l[k]? λs=>P (.v s) (z.set j (some (.lst (l.eraseIdx k))))
   |_,_=>False) PX
  |_=>False):=hw
 cases qs:slot U j with
 |none=>rw[qs]at L;show L.elim
 |some s0=>
  cases s0 with
  |lst l0=>
   rw[qs]at L;show#[F,G,U,λy M=>y=.loc j/\M=U,PX,h4,by unfold zk;rw[qs];show#[rfl,rfl],λy M o' F1 H1 B s1 r1 rv=>?_,hx];let#[rfl,rfl]:=B;let l1:=Ag r1;let h1:Z[j]?=some (some o'):=rv;let r2:=r1.drop l1;let#[v',fp,e1,sr]:=r2.at qs;rw[h1]at e1;let e2:o'=v':=↑e1
   subst e2;cases sr with
   |lst hD rl=>
    rename_i a xs fl;show#[.inl #[rfl,_,bC.of hD],F1,G,M,λrs z=>match rs with|[r]=>(match view r z,slot z j with|some (.int i),some (.lst l)=>zp (if l.length<=big then ixN l.length i else none) λk=>zp l[k]? λs=>P (.v s) (z.set j (some (.lst (l.eraseIdx k))))|_,_=>False)|_=>False,PX,r2,L,λrs z vs F2 H2 B s2 r3 hl J=>?_,hx.grow s1];match rs,vs,J,r3,B with
    |[r],[v],J,r3,B=>
     dsimp only at B;split at B
     .rename_i i l ei ql;let#[m,em,B]:=Ai B;let#[s,es,B]:=Ai B;let rp:=Ap (U':=[]) (Z':=[]) r3 hl J.1 ei;cases rp;split at em
      .rename_i hz;let r4:=r3.drop hl;let#[ys,y,h6,h2,hy,r5]:=Rel.popItem r4 ql h1 es;rw[<-h2]at em hz;let#[b1,b2,b3,b4]:=Gy em;let hb:ys.length<=1000000:=hz;show#[a,ys,i,m,y,rfl,rfl,h6,∅,∅,b1,hy,h5 _ _ y F2 _ B (s1.trans s2) r5 trivial]
      .cases em
     .show B.elim
    |[],_,_,_,B=>show B.elim
    |[_],[],J,_,_=>show J.elim
    |[_],_::_::_,J,_,_=>show J.2.elim
    |_::_::_,_,_,_,B=>show B.elim
  |_=>rw[qs]at L;show L.elim
section
variable{K:W.Frag}
def Pv:bT K (λxs H Q=>∃i j,xs=[.int i,.int j]/\Q (.int (if j>i then j else i)) H) mW:=by
 intro Z U F G H vs O s Q B J e L;let#[d,M,v,u,rfl,rfl]:=Fb (λx=>by cases x<;>rfl) (λx y z r=>by cases x<;>first|rfl|(cases y<;>rfl)) rfl J e;cases d with
 |int i=>
  cases M with
  |int j=>cases e;let h1:=J.1.int;let h2:=J.2.1.int;subst h1;subst h2;show#[i,j,rfl,L _ F H (zr.refl F) (B.push (.int _))]
  |_=>cases e
 |_=>cases e
def Ov:bT K (λxs H Q=>∃i j,xs=[.int i,.int j]/\Q (.int (if j<i then j else i)) H) jP:=by
 intro Z U F G H vs O s Q B J e L;let#[d,M,v,u,rfl,rfl]:=Fb (λx=>by cases x<;>rfl) (λx y z r=>by cases x<;>first|rfl|(cases y<;>rfl)) rfl J e;cases d with
 |int i=>
  cases M with
  |int j=>cases e;let h1:=J.1.int;let h2:=J.2.1.int;subst h1;subst h2;show#[i,j,rfl,L _ F H (zr.refl F) (B.push (.int _))]
  |_=>cases e
 |_=>cases e
def MN(M:X.calm=true)(J:Gl X "max")(G:X.mg "max"=none)(F:bootBuiltins "max"=some (.builtin "max"))(O:FA X (e::es) B)(L:starEach (e::es) X.env=(false,eval e X.env)::starEach es X.env:=by rfl)(z:(backTo pos (starEach es X.env)).any (·.1)=false:=by rfl):FE X (.Call (.Name "max" p) (e::es) [] pos) (wB mW B):=
 Ek (λ_ _=>Ql M) Pv J G F O ⋯ ⋯ L z
def Gk(M:X.calm=true)(J:Gl X "min")(G:X.mg "min"=none)(F:bootBuiltins "min"=some (.builtin "min"))(O:FA X (e::es) B)(L:starEach (e::es) X.env=(false,eval e X.env)::starEach es X.env:=by rfl)(z:(backTo pos (starEach es X.env)).any (·.1)=false:=by rfl):FE X (.Call (.Name "min" p) (e::es) [] pos) (wB jP B):=
 Ek (λ_ _=>Qb M) Ov J G F O ⋯ ⋯ L z
def JV:∀{xs:List V}{l:List D}{ys:List Bool},zD K F xs l->fN l=some ys->xs=ys.map V.bl
 |_,_,ys,.nil,h=>by cases h;rfl
 |_,d::l,ys,.cons a b,h=>by
  cases a with
  |bl c=>let#[z,h1,rfl]:=qW.mp h;rw[JV b h1];rfl
  |_=>cases h
def Sf:∀{us:List Value},zC (ys.map V.bl) us->LSm.BoolsAre us ys:=by
 induction ys with
 |nil=>intro us r;rw[map_nil]at r;cases r;show .nil
 |cons n G F=>
  intro us r;cases r with
  |cons B z=>cases B;show .cons n (F z)
end
def Rz(L:A.handled=none)(B:s.heap.IsList l vs.toArray)(F:LSm.BoolsAre vs bs)(h:∀h' tk,(∀b x,s.heap.get? b=some x->h'.get? b=some x)->Q (.bool (bs.all id)) {s with heap:=h',toks:=tk}):
  wpAny (model prog w) A (call (.builtin "all") [.ref l]) Q E s:=by
 let z:l<s.heap.objs.size:=by let#[_,e,_]:=B;show qe e
 refine call_all_walk (wpAny_pyIter_list B ?_);refine⟨s.heap.objs.size,[s.heap.objs.size,l],[s.heap.objs.size],vs.toArray.size,_,_,λi=>(bs[i]?).getD true,rfl,Walks.list (A:=A.in1) L _ l (ne_of_lt z) vs.toArray,
  #[#[_,qd _ rfl,rfl,rfl],B.push _],λi v s' O Y M G=>?_,λh' tk J=>?_⟩
 .obtain⟨b,e,rfl⟩:=F.get i v ↑M;simp only[e]at G;show wpAny_truthy_bool G
 .let e:((List.range vs.toArray.size).all λi=>(bs[i]?).getD true)=bs.all id:=by rw[qr,F.length];exact LSm.range_all bs
  rw[e];show h h' tk (LSm.kept_iter J)
section
variable{K:W.Frag}
def tJ(K:W.Frag):List V->Hp->VK->Prop:=λxs H Q=>∃(a:Addr)(bs:List Bool),xs=[.ref a]/\bC K H a (bs.map V.bl)/\Q (.bl (bs.all id)) H
def QY(L:X.calm=true):aK X (.builtin "all") (tJ X.K):=by
 intro zF s Z H xs M Q I r h;let#[a,bs,rfl,J,q]:=h;cases r with
 |cons B z=>cases z;cases B;let#[G,r,F,_]:=I.list J;show Rz (I.ok.hd L) F.isList (Sf r) λh' tk k=>#[.bl _,H,I.kept k,rfl,q]
def OL:bT K (tJ K) mX:=by
 intro Z U F G H vs O s Q z B e L;let#[d,v,rfl,rfl]:=Bg (λx y r=>by cases x<;>rfl) rfl B e;cases d with
 |lst l=>let#[bs,M,rfl]:=qW.mp e;let#[a,xs,rfl,h1,J]:=B.1.lst z.fr;let:=JV J M;subst this;show#[a,bs,rfl,h1,L _ F H (zr.refl F) (z.push (.bl _))]
 |_=>cases e
def MK(M:X.calm=true)(J:Gl X "all")(G:X.mg "all"=none)(F:bootBuiltins "all"=some (.builtin "all"))(O:FA X (e::es) B)(L:starEach (e::es) X.env=(false,eval e X.env)::starEach es X.env:=by rfl)(z:(backTo pos (starEach es X.env)).any (·.1)=false:=by rfl):FE X (.Call (.Name "all" p) (e::es) [] pos) (wB mX B):=
 Ek (λpn xe=>QY (X:=wp X pn xe) M) OL J G F O ⋯ ⋯ L z
end
end FL
namespace FL
open PySem
mutual
def bA:D->D->Ordering
 |.int i,.int j=>if i<j then .lt else if j<i then .gt else .eq
 |.str x,.str y=>if x<y then .lt else if y<x then .gt else .eq
 |.tup l,.tup m=>aD l m
 |_,_=>.eq
def aD:List D->List D->Ordering
 |[],[]=>.eq
 |[],_::_=>.lt
 |_::_,[]=>.gt
 |a::l,b::m=>match bA a b with
  |.eq=>aD l m
  |o=>o
end
def cS(a b:D):Bool:=match bA a b with
 |.gt=>false
 |_=>true
@[simp] theorem Mx(i j:Int):cS (.int i) (.int j)=decide (i<=j):=by
  show(match(if i<j then Ordering.lt else if j<i then .gt else .eq)with|.gt=>false|_=>true)=_;by_cases h:i<j
  .rw[qY h,qP ∅]
  .rw[qZ h];by_cases h2:j<i
   .rw[qY h2,qQ ∅]
   .rw[qZ h2,qP ∅]
@[simp] theorem Jb(x y:List Nat):cS (.str x) (.str y)=!decide (y<x):=by
  show(match(if x<y then Ordering.lt else if y<x then .gt else .eq)with|.gt=>false|_=>true)=_;by_cases h:x<y
  .rw[qY h,qQ (λh'=>lt_asymm h h')];rfl
  .rw[qZ h];by_cases h2:y<x
   .rw[qY h2,qP h2];rfl
   .rw[qZ h2,qQ h2];rfl
def jM(x:D):List D->List D
 |[]=>[x]
 |y::r=>if cS x y then x::y::r else y::jM x r
def dR:List D->List D
 |[]=>[]
 |x::r=>jM x (dR r)
def GW(x:D):∀l:List D,(jM x l).Perm (x::l)
 |[]=>.refl _
 |y::r=>by
  unfold jM;split
  .show .refl _
  .show(List.Perm.cons y (GW x r)).trans (.swap x y r)
def Ej:∀l:List D,(dR l).Perm l
 |[]=>.refl _
 |x::r=>(GW x _).trans (.cons x (Ej r))
structure dW(P:D->Prop):Prop where
 tot:∀a b,P a->P b->cS a b=true\/cS b a=true
 tr:∀a b c,P a->P b->P c->cS a b=true->cS b c=true->cS a c=true
 anti:∀a b,P a->P b->cS a b=true->cS b a=true->a=b
def Lb(o:dW P)(x:D)(B:P x):∀l:List D,(∀d∈l,P d)->l.Pairwise (cS · ·=true)->(jM x l).Pairwise (cS · ·=true)
 |[],_,_=>List.pairwise_singleton _ _
 |y::r,hp,h=>by
  let#[h1,h2]:=pairwise_cons.mp h;let F:=hp y qm;let G:∀d∈r,P d:=λd z=>hp d (qk _ z);unfold jM;split
  .rename_i c;show pairwise_cons.mpr #[λd z=>?_,h];rcases qA.mp z with rfl|z
   .show c
   .show o.tr x y d B F (G d z) c (h1 d z)
  .rename_i c;show pairwise_cons.mpr #[λd z=>?_,Lb o x B r G h2];rcases qA.mp ((GW x r).mem_iff.mp z)with rfl|z
   .show(o.tot d y B F).resolve_left c
   .show h1 d z
def FU(o:dW P):∀l:List D,(∀d∈l,P d)->(dR l).Pairwise (cS · ·=true)
 |[],_=>.nil
 |x::r,hp=>Lb o x (hp x qm) _ (λd z=>hp d (qk _ ((Ej r).mem_iff.mp z))) (FU o r λd z=>hp d (qk _ z))
def KZ(o:dW P):∀l m:List D,(∀d∈l,P d)->l.Perm m->l.Pairwise (cS · ·=true)->m.Pairwise (cS · ·=true)->l=m
 |[],m,_,p,_,_=>(List.nil_perm.mp p).symm
 |x::r,[],_,p,_,_=>absurd p.length_eq (by simp)
 |x::r,y::t,hp,p,h1,h2=>by
  obtain⟨M,L⟩:=pairwise_cons.mp h1;let#[J,G]:=pairwise_cons.mp h2;let B:=hp x qm;let z:P y:=hp y (p.mem_iff.mpr qm);let e:x=y:=by
   let m1:x∈y::t:=p.mem_iff.mp qm;let m2:y∈x::r:=p.mem_iff.mpr qm;rcases qA.mp m1 with e|m1
   .show e
   .rcases qA.mp m2 with e|m2
    .show e.symm
    .show o.anti x y B z (M y m2) (J x m1)
  subst e;rw[KZ o r t (λd F=>hp d (qk _ F)) (List.Perm.cons_inv p) L G]
def GS(o:dW P)(z:∀d∈l,P d)(p:m.Perm l)(h:m.Pairwise (cS · ·=true)):dR l=m:=
 KZ o _ _ (λd B=>z d ((Ej l).mem_iff.mp B)) ((Ej l).trans p.symm) (FU o l z) h
def vD:D->Prop
 |.int _=>True
 |_=>False
def nT:D->Prop
 |.str _=>True
 |_=>False
def MZ:dW vD where
 tot
  |.int a,.int b,_,_=>by simp;lia
 tr
  |.int a,.int b,.int c,_,_,_=>by simp;lia
 anti
  |.int a,.int b,_,_=>by simp;intro h1 h2;rw[Int.le_antisymm h1 h2]
def GE:dW nT where
 tot
  |.str a,.str b,_,_=>by
   simp;by_cases h:b<a
   .show .inr λh'=>lt_asymm h h'
   .show .inl h
 tr
  |.str a,.str b,.str c,_,_,_=>by simp;intro h1 h2;show λh=>(List.le_trans (l₁:=a) (l₂:=b) (l₃:=c) h1 h2) h
 anti
  |.str a,.str b,_,_=>by simp;intro h1 h2;let:a=b:=List.le_antisymm (as:=a) (bs:=b) h1 h2;rw[this]
def fL:List D->Option (List Int)
 |[]=>some []
 |.int x::r=>(fL r).map (x::·)
 |_::_=>none
@[simp] theorem SI(l:List Int):fL (l.map .int)=some l:=by
  induction l with
  |nil=>rfl
  |cons a r z=>rw[qy,fL,z];rfl
end FL
namespace FL
open PySem PySem.Spec PyProof.Rows L2
section
variable{K:W.Frag}
def Oi(r:zD K F xs l)(h:fL l=some ys):xs=ys.map V.int/\l=ys.map D.int:=
 zD.ind (P:=λxs l=>∀ys,fL l=some ys->xs=ys.map V.int/\l=ys.map D.int) (λys h=>by cases h;show#[rfl,rfl]) (λa _ B ys h=>by
  cases a with
  |int c=>let#[z,h1,rfl]:=qW.mp h;let#[J,G]:=B _ h1;rw[J,G];show#[rfl,rfl]
  |_=>cases h) r ys h
def Ei:∀{us:List Value}{ns:List Int},IntsAre us ns->zC (ns.map V.int) us
 |_,_,.nil=>.nil
 |_,_,.cons i t r=>.cons #[t,rfl] (Ei r)
def GI:∀{us:List Value}{ns:List Str},StrsAre us ns->zC (ns.map V.str) us
 |_,_,.nil=>.nil
 |_,_,.cons i t r=>.cons #[t,rfl] (GI r)
def mD(K:W.Frag):List V->Hp->VK->Prop:=λxs H Q=>∃a,xs=[.ref a]/\
 ((∃ns:List Int,ns.length<64/\bC K H a (ns.map V.int)/\∀B:List Int,B.Perm ns->B.Pairwise (·<=·)->∀q,H q=none->Q (.ref q) (upd H q (.lst (B.map V.int))))\/
  (∃F:List Str,F.length<64/\bC K H a (F.map V.str)/\∀z:List Str,z.Perm F->sortedS z=true->∀q,H q=none->Q (.ref q) (upd H q (.lst (z.map V.str)))))
def Lc:aK X (.builtin "sorted") (mD X.K):=by
 intro zF s Z H xs us Q I r h;let#[a,rfl,h]:=h;cases r with
 |cons r1 r2=>
  cases r2;cases r1;rcases h with⟨ns,J,Y,q⟩|⟨zs,J,Y,q⟩
  .obtain⟨F,r,M,_⟩:=I.list Y;let G:F.length=ns.length:=by let:=r.length;rw[qo]at this;exact this.symm
   show sorted_ints M.isList (GV r) (by rw[G];show J) λB z a1 L a3=>?_;let#[e,he]:=sortedAll_at s.heap F B;let O:z.length<=sizeLine:=by rw[L.length_eq,zf];lia
   show#[.ref (s.heap.objs.size+1),_,I.laid (t':=s.toks) (o:=.lst (z.map V.int)) (λb ob w=>sortedAll_old w) (le_succ _) ?_,rfl,q z L a3 _ (I.hok.fresh (le_succ _))];show#[by rw[qo];show O,B.toList,e,Ei a1,by rw[toArray_toList];show he]
  .obtain⟨F,r,M,_⟩:=I.list Y;let G:F.length=zs.length:=by let:=r.length;rw[qo]at this;exact this.symm
   show sorted_strs M.isList (Gb r) (by rw[G];show J) λB z a1 L a3=>?_;let#[e,he]:=sortedAll_at s.heap F B;let O:z.length<=sizeLine:=by rw[L.length_eq,zf];lia
   show#[.ref (s.heap.objs.size+1),_,I.laid (t':=s.toks) (o:=.lst (z.map V.str)) (λb ob w=>sortedAll_old w) (le_succ _) ?_,rfl,q z L a3 _ (I.hok.fresh (le_succ _))];show#[by rw[qo];show O,B.toList,e,GI a1,by rw[toArray_toList];show he]
def GZ:∀ns:List Int,zD K F (ns.map V.int) (ns.map D.int)
 |[]=>.nil
 |n::ns=>.cons (.int n) (GZ ns)
def Kp:∀B:List Str,(∀z∈B,z.cps.toList.length<=16777216)->zD K F (B.map V.str) (B.map λz=>D.str z.cps.toList)
 |[],_=>.nil
 |z::B,h=>.cons (.str rfl (h z qm)) (Kp B λy G=>h y (qk _ G))
def Kz:∀{xs:List V}{l:List D}{B:List Str},zD K F xs l->xs=B.map V.str->l=(B.map λz=>D.str z.cps.toList)/\∀z∈B,z.cps.toList.length<=16777216
 |_,_,[],.nil,_=>#[rfl,λ_ h=>by cases h]
 |_,_,_::_,.nil,h=>by simp at h
 |_,_,[],.cons _ _,h=>by simp at h
 |_,_,z::B,.cons a b,h=>by
  injection h with h1 h2
  subst h1;let#[e,k]:=Kz b h2;cases a with
  |str L J=>
   subst L;show#[by rw[e];rfl,λy G=>?_];rcases qA.mp G with rfl|G
   .show J
   .show k y G
def Ka:∀(r:List Str)(p:Str),risingS p r=true->((p::r).map λz=>D.str z.cps.toList).Pairwise (cS · ·=true)
 |[],p,_=>List.pairwise_singleton _ _
 |x::r,p,h=>by
  let h':(!ltCps x.cps.toList p.cps.toList&&risingS x r)=true:=h;rw[and_eq_true,ltCps_eq]at h';let G:=Ka r x h'.2;let F:cS (.str p.cps.toList) (.str x.cps.toList)=true:=by rw[Jb];show h'.1
  show pairwise_cons.mpr #[λd B=>?_,G];rcases qA.mp B with rfl|B
  .show F
  .obtain⟨z,_,rfl⟩:=qJ.mp B;show GE.tr _ (.str x.cps.toList) _ trivial trivial trivial F ((pairwise_cons.mp G).1 _ B)
def QU:∀r:List Str,sortedS r=true->(r.map λz=>D.str z.cps.toList).Pairwise (cS · ·=true)
 |[],_=>.nil
 |x::r,h=>Ka r x h
end
def RY(z:∀id,v≠.builtin id)(h:Q (.bool (v==.bool d)) s):wpAny M A (compareOp .Is v (.bool d)) Q E s:=by cases v<;>first|show qb h|show absurd rfl (z _)
section
variable{K:W.Frag}
def zw.bool_iff(r:zw x v)(d:Bool):(v==Value.bool d)=decide (x=.bl d):=by
 cases x with
 |bl b=>cases r;cases b<;>cases d<;>rfl
 |_=>first
  |(cases r;rfl)
  |(let#[t,rfl]:=r;rfl)
def zw.noBuiltin(r:zw x v):∀id,v≠.builtin id:=by
 intro id e;subst e;cases x<;>first
  |(cases r;done)
  |(let#[t,h]:=r;cases h)
def xY(neg:Bool):R2:=λx y H Q=>(y=.non/\Q (.bl (if neg then !decide (x=.non)else decide (x=.non))) H)\/∃b,y=.bl b/\Q (.bl (if neg then !decide (x=.bl b)else decide (x=.bl b))) H
def MH:OpR X (compareOp .Is) (xY false):=by
 intro zF s Z H x y v u Q I z B h;rcases h with⟨rfl,q⟩|⟨b,rfl,q⟩
 .show LW zF s Z H x .non v u Q I z B #[rfl,q]
 .cases B;show RY (zw.noBuiltin z) #[.bl _,H,I,by rw[zw.bool_iff z];rfl,q]
open Classical in
def NB(F:aI K H x p)(B:aI K H y q)(e:uL p q=some k)(G:Q (.bl (if neg then !k else k)) H):xY neg x y H Q:=by
 cases q with
 |non=>
  cases B;let z:decide (p=.non)=k:=qf e;let:decide (x=V.non)=k:=by rw[<-z];cases F<;>simp
  show .inl #[rfl,by rw[this];show G]
 |bl b=>
  cases B;let z:decide (p=.bl b)=k:=qf e;let:decide (x=V.bl b)=k:=by rw[<-z];cases F<;>simp
  show .inr #[b,rfl,by rw[this];show G]
 |_=>cases e
def NL:bD K (xY false) uL:=λH x y p q k Q B z e F=>NB B z e F
end
mutual
def bV:D->PyData
 |.non=>.none
 |.bl b=>.bool b
 |.int i=>.int i
 |.str l=>.str #[l.toArray]
 |.tup l=>.tuple (bR l)
 |.lst l=>.list (bR l)
 |_=>.none
def bR:List D->List PyData
 |[]=>[]
 |d::r=>bV d::bR r
end
mutual
def gG:D->Bool
 |.non=>true
 |.bl _=>true
 |.int i=>decide (i.natAbs.log2<1920)
 |.str _=>true
 |.tup l=>cC l
 |.lst l=>cC l
 |_=>false
def cC:List D->Bool
 |[]=>true
 |d::r=>gG d&&cC r
end
def uA:D->Bool
 |.tup _=>true
 |.lst _=>true
 |_=>false
mutual
def Lg:∀d:D,gG d=true->(bV d).showable=true
 |.non,_=>rfl
 |.bl _,_=>rfl
 |.int i,h=>h
 |.str _,_=>rfl
 |.tup l,h=>Hh l h
 |.lst l,h=>Hh l h
 |.dct _ _ _,h=>by cases h
 |.set _,h=>by cases h
 |.exc _ _ _,h=>by cases h
def Hh:∀l:List D,cC l=true->PyData.showableAll (bR l)=true
 |[],_=>rfl
 |d::r,h=>by rw[cC,and_eq_true]at h;rw[bR,PyData.showableAll,Lg d h.1,Hh r h.2];rfl
end
mutual
def Ko:∀d:D,(bV d).hasDict=false
 |.non=>rfl
 |.bl _=>rfl
 |.int i=>rfl
 |.str _=>rfl
 |.tup l=>Hb l
 |.lst l=>Hb l
 |.dct _ _ _=>rfl
 |.set _=>rfl
 |.exc _ _ _=>rfl
def Hb:∀l:List D,PyData.hasDictAll (bR l)=false
 |[]=>rfl
 |d::r=>by rw[bR,PyData.hasDictAll,Ko d,Hb r];rfl
end
mutual
def Jr:∀d:D,(bV d).depth<=fY d
 |.non=>q8 _
 |.bl _=>q8 _
 |.int i=>q8 _
 |.str _=>q8 _
 |.tup l=>Nat.succ_le_succ (GY l)
 |.lst l=>Nat.succ_le_succ (GY l)
 |.dct _ _ _=>q8 _
 |.set _=>q8 _
 |.exc _ _ _=>q8 _
def GY:∀l:List D,PyData.depthAll (bR l)<=bY l
 |[]=>q8 _
 |d::r=>by let h1:=Jr d;let h2:=GY r;simp only[bR,PyData.depthAll,bY];lia
end
def OS(I:Inv X zF Z H s)(q:aI X.K H v d)(r:zw v u)(h:gG d=true):∃as,Reads s.heap u (bV d) as:=by
 show aI.rec (motive_1:=λv d _=>∀u,zw v u->gG d=true->∃as,Reads s.heap u (bV d) as) (motive_2:=λvs l _=>∀us,zC vs us->cC l=true->∃as,ReadsAll s.heap us (bR l) as) ?_ ?_ ?_ ?_ ?_ ?_ ?_ ?_ ?_ ?_ ?_ ?_ q u r h
 .intro u r _;cases r;show#[[],.none]
 .intro b u r _;cases r;show#[[],.bool b]
 .intro i u r _;let#[t,rfl]:=r;show#[[],.int i t]
 .intro x l e z u r _;let#[t,rfl]:=r;subst e;show#[[],.str _ t]
 .intro a xs M e q J u r h;cases r;let#[G,B,#[o,g,c,n,L],_]:=I.tuple (aV.of e);let#[as,F]:=J _ B h;show#[as,.tuple g c L F]
 .intro a xs M e q J u r h;cases r;let#[G,B,#[o,n,g,c,_,L],_]:=I.list e;let#[as,F]:=J _ B h;show#[_::as,.list g c L F]
 .intro _ _ _ _ _ _ _ _ _ _ h;cases h
 .intro _ _ _ _ _ _ _ _ _ _ h;cases h
 .intro _ _ _ _ _ _ _ _ h;cases h
 .intro _ _ _ _ _ _ _ _ _ _ _ h;cases h
 .intro us r _;cases r;show#[[],.nil]
 .intro x d xs M _ _ i1 i2 us r h;rw[cC,and_eq_true]at h;cases r with
  |cons Y O=>let#[as,h1]:=i1 _ Y h.1;let#[bs,h2]:=i2 _ O h.2;show#[as++bs,.cons h1 h2]
end FL
namespace FL
open PySem
def mY(l m:List Nat)(i:Nat):Bool:=decide (i+m.length<=l.length)&&decide ((l.drop i).take m.length=m)
def cE(l m:List Nat):Option Nat:=(List.range (l.length+1)).find? (mY l m)
def dM:List D->Option S
 |[.tup l]=>some (.lst (l.map .sh))
 |[.lst l]=>some (.lst (l.map .sh))
 |[.str l]=>if l.length<=big then some (.lst (l.map λc=>.sh (.str [c])))else none
 |_=>none
theorem find?_first(h:i<n)(z:p i=true)(hn:∀k,k<i->p k=false):(List.range n).find? p=some i:=by first|rfl|assumption|(simp_all;done)
theorem find?_not(hn:∀k,p k=false):(List.range n).find? p=none:=by grind
theorem zgG:mY l [c] i=true↔l[i]?=some c:=by
 unfold mY;simp only[qB,and_eq_true,qR];constructor
 .rintro⟨h1,h2⟩;let:=congrArg (λz:List Nat=>z[0]?) h2;simpa[List.getElem?_take] using this
 .intro h;let hi:i<l.length:=(qg.mp h).1;show#[hi,?_];rw[List.drop_eq_getElem_cons hi];let:l[i]=c:=by rw[qh hi]at h;exact qf h
  simp[this]
def Qg(h:c∈l):∃i,cE l [c]=some i/\i<l.length/\l[i]?=some c:=by
 unfold cE;cases q:(List.range (l.length+1)).find? (mY l [c])with
 |none=>rw[List.find?_eq_none]at q;let#[i,hi,e]:=getElem_of_mem h;show absurd (zgG.mpr (by rw[qh hi,e])) (q i (by simp;lia -verbose))
 |some i=>have:=List.find?_some q;let h2:=zgG.mp this;show#[i,rfl,(qg.mp h2).1,h2]
end FL
namespace FL
open PySem PySem.Spec PyProof.Rows L2
section
variable{K:W.Frag}
theorem ziD:StrLaws.At x y x.length i↔mY x.cps.toList y.cps.toList i=true:=by
 let h1:x.length=x.cps.toList.length:=by show x.cps.size=_;rw[qT]
 let h2:y.length=y.cps.toList.length:=by show y.cps.size=_;rw[qT]
 unfold StrLaws.At mY Builtin.Str.subAt;rw[and_eq_true,qR,qR,h2,beq_iff_eq];show and_congr_right λ_=>?_;rw[<-Array.toList_inj,Array.toList_extract,List.extract_eq_take_drop];let:i+y.cps.toList.length-i=y.cps.toList.length:=∅
 rw[this]
def Nc(x y:Str):Txt.find x y=(match cE x.cps.toList y.cps.toList with|some i=>(i:Int)|none=>-1):=by
 have z:∀{i},¬StrLaws.At x y x.length i->mY x.cps.toList y.cps.toList i=false:=λ{i} h=>by
  cases q:mY x.cps.toList y.cps.toList i with
  |false=>rfl
  |true=>show absurd (ziD.mpr q) h
 rcases find_whole x y with⟨e,h⟩|⟨i,e,hi,h⟩
 .rw[e];unfold cE;rw[find?_not λk=>z (h k)]
 .rw[e];unfold cE;let F:=hi.1;let h1:x.length=x.cps.toList.length:=by show x.cps.size=_;rw[qT]
  rw[find?_first (i:=i) (by rw[<-h1];lia) (ziD.mp hi) λk B=>z (h k B)]
def kK:List V->Hp->VK->Prop:=λxs H Q=>∃x:Str,xs=[.str x]/\x.length<=sizeLine/\∀l,H l=none->Q (.ref l) (upd H l (.lst (x.cps.toList.map λc=>.str #[[c].toArray])))
def KF:∀{xs:List V}{us:List Value},xs.length=us.length->(∀(j:Nat) x u,xs[j]?=some x->us[j]?=some u->zw x u)->zC xs us
 |[],[],_,_=>.nil
 |[],_::_,h,_=>by simp at h
 |_::_,[],h,_=>by simp at h
 |x::xs,u::us,h,k=>.cons (k 0 x u rfl rfl) (KF ↑h λj z B h1 h2=>k (j+1) z B h1 ↑h2)
def Sj(F:X.calm=true):aK X (.type "list") kK:=by
 intro zF s Z H xs us Q I r h;let#[x,rfl,J,q]:=h;let#[u,rfl,L]:=vals1 r;let#[t,rfl]:=L;show call_list_str (I.ok.hd F) x t (hn:=J) λh' tk B Y O G z=>?_;let M:zC (x.cps.toList.map λc=>V.str #[[c].toArray]) B.toList:=KF (by rw[qo,qT,qT,z.1]) λj y v h1 h2=>by let#[c,u,F,rfl]:=z.2 j v (by rw[<-qX];show h2);rw[qE,qX,F]at h1;cases h1;show#[u,rfl]
 show#[.ref s.heap.objs.size,_,I.laid (t':=tk) O (q8 _) (show zE X.prog X.w _ h' _ (.lst (x.cps.toList.map λc=>V.str #[[c].toArray])) from#[?_,B.toList,Y,M,G]),rfl,q _ (I.hok.fresh (q8 _))];rw[qo];show J
def pE(K:W.Frag):List V->Hp->VK->Prop:=λxs H Q=>nI K xs H Q\/kK xs H Q
def KD:∀l:List Nat,zD K F (l.map λc=>V.str #[[c].toArray]) (l.map λc=>D.str [c])
 |[]=>.nil
 |c::l=>.cons (.str rfl (by show 1<=16777216;decide)) (KD l)
def RE:bT K (pE K) dM:=by
 intro Z U F G H vs ds s Q B J e L;let#[d,v,rfl,rfl]:=Bg (λx y r=>by cases x<;>rfl) rfl J e;cases d with
 |tup l=>show .inl (Kf Z U F G H [v] [.tup l] s Q B J e L)
 |lst l=>show .inl (Kf Z U F G H [v] [.lst l] s Q B J e L)
 |str l=>
  let#[x,rfl,M,z]:=J.1.str;let e:(if l.length<=big then some (S.lst (l.map λc=>S.sh (.str [c])))else none)=some s:=e;split at e
  .rename_i Y;cases e;show .inr #[x,rfl,by rw[Ed M];show FM Y,λp O=>?_];rw[M];let h:=B.newLD O (KD l);rw[qD]at h;show L (.ref p) F (upd H p (.lst (l.map λc=>V.str #[[c].toArray]))) (zr.refl F) h
  .cases e
 |_=>cases e
def JA(M:X.calm=true)(J:Gl X "list")(G:X.mg "list"=none)(F:bootBuiltins "list"=some (.type "list"))(O:FA X (e::es) B)(L:starEach (e::es) X.env=(false,eval e X.env)::starEach es X.env:=by rfl)(z:(backTo pos (starEach es X.env)).any (·.1)=false:=by rfl):FE X (.Call (.Name "list" p) (e::es) [] pos) (wB dM B):=
 Fz (λpn xe=>aK.or' Sk (Sj (X:=wp X pn xe) M)) RE J G F O ⋯ ⋯ L z
end
def Gg:bootBuiltins "int"=some (.type "int"):=by decide+kernel
def GP:bootBuiltins "tuple"=some (.type "tuple"):=by decide+kernel
def Jo:bootBuiltins "list"=some (.type "list"):=by decide+kernel
def Mp:bootBuiltins "max"=some (.builtin "max"):=by decide+kernel
def Gn:bootBuiltins "min"=some (.builtin "min"):=by decide+kernel
def Mk:bootBuiltins "all"=some (.builtin "all"):=by decide+kernel
def KH:bootBuiltins "sorted"=some (.builtin "sorted"):=by decide+kernel
def Hj:bootBuiltins "isinstance"=some (.builtin "isinstance"):=by decide+kernel
def EK(z:aR k A):A.units+32<cLine:=by let:=z.units;lia
def DD(z:aR k A):A.units+31<cLine:=by let:=z.units;lia
theorem uq{N:List Str}(h:(N.zipIdx.all λp=>!(p.1==x)||p.2==i)=true):∀j,N[j]?=some x->j=i:=by intro j z;let:=qH.mp h (x,j) (by rw[List.mem_zipIdx_iff_getElem?];simpa using z);simpa using this
instance(outer scope:Scope)(N vars:List Str):Decidable (scope.kind=.function/\(∀x∈scope.names,x.2=.free->outer.names.lookup x.1=some .cell\/outer.names.lookup x.1=some .free)/\(scope.names.map (·.1)).Nodup/\
  (∀x∈N,x∉vars->(x,NameKind.local)∉scope.names/\(x,NameKind.cell)∉scope.names)/\scope.names.lookup Str.empty=none):=inferInstance
def rR(z scope:Scope)(N vars:List Str):Bool:=decide (scope.kind=.function/\(∀x∈scope.names,x.2=.free->z.names.lookup x.1=some .cell\/z.names.lookup x.1=some .free)/\(scope.names.map (·.1)).Nodup/\
    (∀x∈N,x∉vars->(x,NameKind.local)∉scope.names/\(x,NameKind.cell)∉scope.names)/\scope.names.lookup Str.empty=none)
def Bt(h:rR outer scope N vars=true):cL outer scope N vars:=
 let⟨a,b,c,d,e⟩:=qS h
 #[a,b,c,d,e]
def NU{K:W.Frag}(r:aJ K F H v (.sh (.bl true)) fp):v=.bl true:=by
 cases r with
 |sh r=>cases r;rfl
def Me{K:W.Frag}(h:∀ns:List Int,ns.length<=63->L [.sh (.lst (ns.map .int))] (λs _=>s=.sh (.bl true)) λ_ _=>False)(H:Hp)(a:Addr)(ns:List Int)(O:ns.length<=63)(Y:bC K H a (ns.map V.int)):
  eG K L 1 [.ref a] H (λv _=>v=.bl true) λ_ _ _=>False:=by
 show#[H,λ_=>none,[.sh (.lst (ns.map .int))],_,_,rfl,#[zr.refl H,λ_ _ z=>(nomatch z),[]++[],.so (.sh (.lst Y (GZ ns))) .nil,List.nodup_nil,λ_ z=>(nomatch z)],h ns O,λs B v F' H' M sm F r=>?_,λ_ _ _ _ _ _ z=>z.elim];subst M;let#[u,fp,J,q]:=r.at (i:=B.length) (s:=.sh (.bl true)) (by let:=Eh (U:=B.map some) (o:=some (.sh (.bl true))) (U':=[]);simpa using this)
 let G:B.length=1:=F;rw[G]at J;let:u=v:=↑J.symm
 rw[<-this];show NU q
end FL
namespace FL
open PySem PySem.Spec PyProof.Rows L2
def DW(ha:FE X a O):FE X (.UnaryOp .USub a pos) (nE fV O):=λpn xe hp=>by
 show PE.imp (LK LF (ha pn xe hp)) λZ H Q q=>?_;show(one (k:=λx z Q E=>zp (zB x z) λp=>zp (fV p) λs=>Q (.v s) z) q).mono λv H1 h1=>?_;let#[F,G,U,x,P,PX,J,hl,rx,B,L,hx]:=h1;let#[p,ep,B]:=Ai B;let#[s,es,B]:=Ai B;let#[M,Y,re,r1]:=AU (U':=[]) (Z':=[]) J hl rx ep;cases p with
 |int i=>have e:=re.int;subst e;show#[i,rfl,L _ U _ M H1 B Y ((show Rel _ U Z M G H1 by simpa using r1).push (.int _)) trivial]
 |_=>cases es
def Kx(hd:bD X.K r o)(h3:bD X.K r' o')(Z:St)(H:Hp)(Q:VK)(h:tW X (dD (cA o o' wa wb wc)) Z H Q):hV r r' (tW X wa) (tW X wb) (tW X wc) Z H Q:=by
 show(Em (k:=λx y M Q E=>zp (view x M) λp=>zp (view y M) λq=>zp (o p q) λk=>if k then wc M (λz J=>zp (view y J) λq=>zp (view z J) λr=>zp (o' q r) λk'=>Q (.v (.sh (.bl k'))) J) E else Q (.v (.sh (.bl false))) M) h).mono λv H1 h1=>h1.mono λu H2 h2=>?_;let#[F,G,U,x,y,P,PX,O,hl,rx,ry,B,Y,hx]:=h2;let#[p,ep,B]:=Ai B;let#[q,eq,B]:=Ai B;let#[t,et,B]:=Ai B;let#[r1,r2,L]:=Cf O hl rx ry ep eq;show hd H2 v u p q t _ r1 r2 et #[t,rfl,?_];cases t with
 |false=>show Y (.v (.sh (.bl false))) U (.bl false) F H2 B (zr.refl F) (L.push (.bl false)) trivial
 |true=>show(nextOf (k:=λy z J Q E=>zp (view y J) λq=>zp (view z J) λr=>zp (o' q r) λk'=>Q (.v (.sh (.bl k'))) J) (O.mid hl) ry B Y hx).mono λw H4 h4=>?_;let#[F,G,U,y,z,P,PX,O,hl,ry,rz,B,Y,hx]:=h4;let#[q,eq,B]:=Ai B;let#[r,er,B]:=Ai B;let#[t,et,B]:=Ai B;let#[r1,r2,L]:=Cf O hl ry rz eq er;show h3 H4 u w q r t _ r1 r2 et (Y _ U (.bl t) F H4 B (zr.refl F) (L.push (.bl t)) trivial)
def GO(Y:∀pn xe,OpR (wp X pn xe) (compareOp op) r)(hd:bD X.K r o)(F:∀pn xe,OpR (wp X pn xe) (compareOp z) O)(G:bD X.K O o')(ha:FE X a M)(hb:FE X b L)(hc:FE X c J)
  (hm:lastMarks [op,z] [b,c]=false:=by with_unfolding_all rfl):FE X (.Compare a [op,z] [b,c] pos) (dD (cA o o' M L J)):=λpn xe B=>
 PE.imp (OJ (Y pn xe) (F pn xe) (ha pn xe B) (hb pn xe B) (hc pn xe B) hm) λZ H Q h=>Kx (X:=wp X pn xe) hd G Z H Q h
def Ju(ho:∀pn xe,OpR (wp X pn xe) (compareOp op) r)(hd:bD X.K r o)(O:∀pn xe,OpR (wp X pn xe) (compareOp B) r')(Y:bD X.K r' o')(ha:FE X a wa)(hb:FE X b wb)(hc:FE X c wc)
  (hm:lastMarks [op,B] [b,c]=false:=by with_unfolding_all rfl):FT X (.Compare a [op,B] [b,c] pos) (cA o o' wa wb wc):=λpn xe z=>
 PT.imp (NS (ho pn xe) (O pn xe) (ha pn xe z) (hb pn xe z) (hc pn xe z) hm) λZ H Q h=>by
  let#[F,G,U,P,PX,J,hw,M,hx]:=h;show Kx (X:=wp X pn xe) hd Y Z H _ #[F,G,U,λr U'=>match r with|.v (.sh (.bl c))=>P c U'|_=>False,PX,J,hw,λr U' v F' H' z s1 L rv=>?_,hx]
  skip
  split at z
  .rename_i c;let hl:=Ag L;let rp:=Ap (U':=[]) (Z':=[]) L hl rv (d:=.bl c) rfl;show#[c,Ge rp,M c U' F' H' z s1 (L.drop hl)]
  .show z.elim
open AutoSeq1 (wpAny_loadPart')
def Ml(J:s.heap.IsTupleIter u z n)(hz:s.heap.IsTuple z xs)(L:xs[n]?=some v)(k:∀h',h'.IsTupleIter u z (n+1)->Heap.SameBut u s.heap h'->Q v {s with heap:=h'}):
  wpAny (model prog w) A (Builtin.SmallTypes.nextOf (.ref u)) Q E s:=by
 let#[ob,G,Y,B]:=id J;let#[zb,O,_,zn,M]:=hz;apply qa;show wpAny_callSpecial?_slot (name:=Str.ofString "__next__") J.typeIs F.slot_tuple_iterator_next (ze F.slot_tuple_iterator_next J.typeIs F.entry_tuple_iterator_next ?_ (F.args_tuple_iterator_next_1 _));show wpAny _ _ (field (.ref u) 0>>=_) _ _ _;apply qa;show zc G B (x:=.ref z) rfl ?_;apply qa;show zc G B (x:=.int n 0) rfl ?_;apply qa;show wpAny_seqItems O M ?_;simp[qU,L];apply qa;show wpAny_setField G B (by simp) (qb #[v,rfl,qb (k _ #[_,za _ G (Obj.isFreed_of_fields (Obj.data_mapFields B _)),(Obj.cls_mapFields ..).trans Y,?_] (Heap.SameBut.update ..))]);rw[Obj.data_mapFields B];simp[rawInt]
def KA(L:A.handled=none)(B:s.heap.IsTupleIter u z n)(hz:s.heap.IsTuple z xs)(M:xs[n]?=none)
  (k:∀h' e,Heap.ExtBut u s.heap h'->(∃o,h'.get? e=some o/\o.cls=.type "StopIteration")->E (.ref e) {s with heap:=h'}):wpAny (model prog w) A (Builtin.SmallTypes.nextOf (.ref u)) Q E s:=by
 let#[ob,J,e1,G]:=id B;let#[zb,Y,_,zn,O]:=hz;apply qa;show wpAny_callSpecial?_slot (name:=Str.ofString "__next__") B.typeIs F.slot_tuple_iterator_next (ze F.slot_tuple_iterator_next B.typeIs F.entry_tuple_iterator_next ?_ (F.args_tuple_iterator_next_1 _));show wpAny _ _ (field (.ref u) 0>>=_) _ _ _;apply qa;show zc J G (x:=.ref z) rfl ?_;apply qa;show zc J G (x:=.int n 0) rfl ?_;apply qa;show wpAny_seqItems Y O ?_;simp[qU,M];apply qa;apply wpAny_rule;apply qa;show wpAny_setField J G (by simp) ?_;apply qa;apply qa;show zd ?_ (by size_fits);show qa (m:=firstArgMember _ _) (zh (a:=Value.none) (by first|rfl|(simp;rfl)) (zd ?_ (by size_fits)));apply qa;show wpAny_handled ?_;first|rw[show A.in1.handled=none from L]|rw[L]
 show qa (qb (wpAny_throw (k _ _ (((Heap.SameBut.update ..).extBut.push _).push _) #[_,qd _ rfl,rfl])))
def QW{prog:Program}{w:World}{A:Around}(hh:A.handled=none)(u z:Addr)(hne:z≠u)(xs:Array Value):
  Draws prog w A u [u,z] xs.size (λi v=>xs[i]?=some v) (λi h=>h.IsTupleIter u z i/\h.IsTuple z xs) where
 live:=λ_ _ st=>let#[o,e,_]:=st.1;#[o,e]
 frame:=λ_ _ _ st k=>#[st.1.at λo e=>k u (by simp) o e,by let#[o,e,r]:=st.2;show#[o,k z (by simp) o e,r]]
 item:=λi s Q E hi st k=>Ml st.1 st.2 (v:=xs[i]) (by simp) λh' a b=>k _ h' s.toks (by simp[hi]) #[a,by let#[o,e,r]:=st.2;show#[o,b.extBut _ _ hne e,r]] b
 done:=λs Q E st k=>KA hh st.1 st.2 (by simp) k
inductive SrcI(P:Program)(w:World)(A:Around)(it:Addr)(J:It)(tn:Nat->Heap->Prop)(i:Nat)(s:Shared)(H:Hp):Prop
 |mk (fp:List Addr) (n:Nat) (Pr:Nat->Value->Prop) (Sx:Nat->Heap->Prop):Draws P w A it fp n Pr Sx->Sx i s.heap->i<n->it∈fp->(∀b∈fp,b=it\/(H b≠none/\∃o,s.heap.get? b=some o/\o.cls=.type "tuple")\/∃o,s.heap.get? b=some o/\o.cls=.type "list")->(∀v,Pr i v->∃x,zw x v/\J.yld i H x H)->(∀h',Sx (i+1) h'->tn (i+1) h')->SrcI P w A it J tn i s H
structure uQ(P:Program)(w:World)(K:W.Frag)(J:It)(it:Addr)(tn:Nat->Heap->Prop):Prop where
 live:∀i h,tn i h->∃o,h.get? it=some o/\(∀v,o.data≠.cell v)/\o.cls≠.type "enumerate"/\o.cls≠.type "zip"/\o.cls≠.type "tuple"/\o.cls≠.type "list"
 keep:∀i h h',tn i h->(∀o,h.get? it=some o->h'.get? it=some o)->tn i h'
 yl:∀i H x H',J.yld i H x H'->H'=H
 item:∀(X:Cx),X.prog=P->X.w=w->X.K=K->∀(i:Nat)(zF:List (Addr×Obj))(s:Shared)(Z:St)(H:Hp)(A:Around),A.handled=none->Inv X zF Z H s->tn i s.heap->H it=none->J.go i H->
  SrcI P w A it J tn i s H
 done:∀(X:Cx),X.prog=P->X.w=w->X.K=K->∀(i:Nat)(zF:List (Addr×Obj))(s:Shared)(Z:St)(H:Hp)(A:Around),A.handled=none->Inv X zF Z H s->tn i s.heap->J.stop i H->∀(Q:zj)(E:zj),
  (∀h' e,Heap.ExtBut it s.heap h'->(∃o,h'.get? e=some o/\o.cls=.type "StopIteration")->E (.ref e) {s with heap:=h'})->wpAny (model P w) A (Builtin.SmallTypes.nextOf (.ref it)) Q E s
def OD{P:Program}{w:World}{K:W.Frag}(a it:Addr):uQ P w K (vB K a) it (λi h=>h.IsListIter it a i) where
 live:=λi h st=>by let#[o,e,c,d]:=st;show#[o,e,λv z=>by(rw[d]at z;cases z),by rw[c];decide,by rw[c];decide,by rw[c];decide,by rw[c];decide]
 keep:=λi h h' st k=>st.at k
 yl:=λi H x H' h=>h.1
 item:=by
  intro X hP hw hK i zF s Z H A hh I st hn hg;subst hP hw hK;let#[xs,x,hq,hx]:=hg;let#[zJ,rv,p,hz]:=I.list hq;let#[lo,l1,l2,l3]:=id p.isList;let hne:a≠it:=λz=>by let#[o,e,c,d]:=id st;rw[<-z,l1]at e;cases e;rw[l2]at c;show absurd c ⋯
  let hl:=rv.length;let hi:i<zJ.toArray.size:=by let:=(qg.mp hx).1;rw[qr];lia
  show#[_,_,_,_,Draws.list hh it a hne zJ.toArray,#[st,p.isList],hi,m1,λb hb=>?_,λv hv=>?_,λh' z=>z.1]
  .simp at hb;rcases hb with rfl|rfl
   .show .inl rfl
   .show .inr (.inr #[lo,l1,l2])
  .obtain⟨u,hu,ru⟩:=rv.get hx;let:u=v:=by
    let hv':zJ[i]?=some v:=↑hv
    rw[hu]at hv';show qf hv'
   subst this;show#[x,ru,rfl,λys hy=>by rw[I.list_inj hy hq];show hx]
 done:=by intro X hP hw hK i zF s Z H A hh I st hg Q E k;subst hP hw hK;let#[xs,hq,hx]:=hg;let#[zJ,rv,p,hz]:=I.list hq;let hl:=rv.length;show wpAny_nextOf_list_end hh st p.isList (by simp;lia -verbose) k
def zW(a:Addr):It:=#[λi H=>∃xs x,H a=some (.tup xs)/\xs[i]?=some x,λi H x H'=>H'=H/\∀xs,H a=some (.tup xs)->xs[i]?=some x,λi H=>∃xs,H a=some (.tup xs)/\xs.length<=i]
def Np{P:Program}{w:World}{K:W.Frag}(a it:Addr):uQ P w K (zW a) it (λi h=>h.IsTupleIter it a i) where
 live:=λi h st=>by let#[o,e,c,d]:=st;show#[o,e,λv z=>by(rw[d]at z;cases z),by rw[c];decide,by rw[c];decide,by rw[c];decide,by rw[c];decide]
 keep:=λi h h' st k=>st.at k
 yl:=λi H x H' h=>h.1
 item:=by
  intro X hP hw hK i zF s Z H A hh I st hn hg;let#[xs,x,hq,hx]:=hg;let#[zJ,rv,p,hz]:=I.tuple (aV.of hq);let#[lo,l1,l2,l3]:=id p;let hne:a≠it:=λz=>by rw[z,hn]at hq;cases hq
  let hl:=rv.length;let hi:i<zJ.toArray.size:=by grind
  show#[_,_,_,_,QW hh it a hne zJ.toArray,#[st,p],hi,m1,λb hb=>?_,λv hv=>?_,λh' z=>z.1]
  .grind
  .obtain⟨u,hu,ru⟩:=rv.get hx;let:u=v:=by grind
   subst this;show#[x,ru,rfl,λys hy=>by rw[hq]at hy;cases hy;show hx]
 done:=by intro X hP hw hK i zF s Z H A hh I st hg Q E k;let#[xs,hq,hx]:=hg;let#[zJ,rv,p,hz]:=I.tuple (aV.of hq);let hl:=rv.length;show KA hh st p (by simp;lia -verbose) k
def MR{P:Program}{w:World}{K:W.Frag}(it:Addr)(x:Str)(t:Tok):uQ P w K (sJ x) it (λi h=>h.IsStrIter it (strIterType x) x t i) where
 live:=λi h st=>by
  obtain⟨o,e,c,d⟩:=st;let hc:o.cls=.type "str_ascii_iterator"\/o.cls=.type "str_iterator":=by
   rw[c];unfold strIterType;split
   .show .inl rfl
   .show .inr rfl
  grind
 keep:=λi h h' st k=>by let#[o,e,r]:=st;show#[o,k o e,r]
 yl:=λi H x H' h=>h.1
 item:=by
  intro X hP hw hK i zF s Z H A hh I st hn hg;let fin:∀v:Value,(∃c u,x.cps[i]?=some c/\v=.str #[[c].toArray] u)->∃y,zw y v/\(sJ x).yld i H y H:=λv⟨c,u,e,ev⟩=>#[.str #[[c].toArray],by rw[ev];show#[u,rfl],rfl,c,e,rfl]
  cases ha:x.cps.all (·<128)
  .let e:strIterType x="str_iterator":=by unfold strIterType;rw[ha];rfl
   rw[e]at st⊢;show#[_,_,_,_,Draws.strWide hh it x t,st,hg,m1,λb hb=>.inl ↑hb,fin,λ_ z=>z]
  .let e:strIterType x="str_ascii_iterator":=by unfold strIterType;rw[ha];rfl
   rw[e]at st⊢;show#[_,_,_,_,Draws.strAscii hh it x t,st,hg,m1,λb hb=>.inl ↑hb,fin,λ_ z=>z]
 done:=by
  intro X hP hw hK i zF s Z H A hh I st hg Q E k;let hn:x.cps[i]?=none:=by let:x.cps.size<=i:=hg;simp[this]
  cases ha:x.cps.all (·<128)
  .let e:strIterType x="str_iterator":=by unfold strIterType;rw[ha];rfl
   rw[e]at st;show wpAny_nextOf_wide_end hh st hn k
  .let e:strIterType x="str_ascii_iterator":=by unfold strIterType;rw[ha];rfl
   rw[e]at st;show wpAny_nextOf_ascii_end hh st hn k
end FL
namespace FL
def bO(k:Nat):List D->List D
 |[]=>[]
 |d::l=>.tup [.int k,d]::bO (k+1) l
def iR(a:WE):WI:=λU Q E=>a U (λr z=>zp (give r z) λp=>zp (items p.1.toD) λl=>Q (bO 0 l) p.2) E
def Ks:∀(l:List D)(k i:Nat)(d:D),(bO k l)[i]?=some d->∃e,l[i]?=some e/\d=.tup [.int ((k+i:Nat):Int),e]
 |[],_,_,_,h=>by simp[bO]at h
 |e::l,k,0,d,h=>by simp[bO]at h;show#[e,rfl,↑h.symm]
 |e::l,k,i+1,d,h=>by let#[z,h1,h2]:=Ks l (k+1) i d (by simpa[bO] using h);show#[z,↑h1,by rw[h2];congr 4;lia]
def Kc:∀(l:List D)(k:Nat),(bO k l).length=l.length
 |[],_=>rfl
 |_::l,k=>by simp[bO,Kc l]
end FL
namespace FL
open PySem PySem.Spec PyProof.Rows L2
open AutoSeq1 (wpAny_loadPart')
def KN{ch:List Addr}(I:Inv X zF Z H s)(F:∀b∈ch,bB X zF H b)(k:∀b o,b∉ch->s.heap.get? b=some o->h'.get? b=some o):Inv X zF Z H {s with heap:=h',toks:=t'}:=by
 let G:∀b u,H b=some u->b∉ch:=λb u e z=>by rw[(F b z).1]at e;cases e
 refine I.step (g':=s.gens) (d':=s.drawn) (ch:=ch) (λb M=>?_) (λb o _ _ B e _=>k b o B e) (λb o _ _ B e _=>#[o.slots,k b o B e]) (λ_ _ _ _ n=>n)
  (λb o B e=>#[o,k b o B e]) (λ_ _ e=>e) (λ_ _ _ e=>e) (λb ps e=>#[#[],by rw[e];simp]) (λm L=>?_) (λb u e=>?_) I.bare
 .obtain⟨f0,f1,f2,f3,Y,O⟩:=F b M;show#[f3,f1,Y,O]
 .obtain⟨o,es,ep,J,r⟩:=L;show#[o,es,ep,k _ o (λz=>(F _ z).2.1 rfl) J,r]
 .show(I.hok b u e).stay (λc v B q=>k c v ?_ q) (λ_ q=>q) λ_ _ q=>q;grind
def Oz(f:bB X zF H b)(h:b≠T):bB X zF (L2.upd H T o) b:=#[by rw[Ah h];show f.1,f.2]
def Sa{ch:List Addr}(I:Inv X zF Z H s)(O:∀b∈ch,bB X zF H b)(M:∀b∈ch,b<s.heap.objs.size)(hz:xs.length<=sizeLine)(G:zC xs us)
  (Y:∃o,h'.get? s.heap.objs.size=some o/\o.cls=.type "tuple"/\o.dict=none/\∃n,o.data=.seq us.toArray n)(k:∀b o,b∉ch->s.heap.get? b=some o->h'.get? b=some o):
  Inv X zF Z (L2.upd H s.heap.objs.size (.tup xs)) {s with heap:=h',toks:=t'}:=by
 let#[o,e,c,L,n,d]:=Y;let z:o.isFreed=false:=by let#[oc,od,F,J]:=o;let d':F=.seq us.toArray n:=d;subst d';rfl
 have I1:Inv X zF Z (L2.upd H s.heap.objs.size (.tup xs)) {s with heap:=s.heap.push o}:=I.laid (t':=s.toks) (λb u q=>qc _ q) (q8 _) #[#[hz,λo' q=>by rw[qd _ z]at q;cases q;show L],us,G,#[o,qd _ z,c,n,d]];let I2:=KN I1 (h':=h') (t':=t') (ch:=ch) (λb B=>Oz (O b B) (ne_of_lt (M b B))) λb u B q=>by
  rcases Heap.get?_push_cases q with⟨rfl,rfl⟩|q
  .show e
  .show k b u B q
 show I2
def sL(J:It):It:=#[J.go,λi H x H'=>∃p y,H p=none/\J.yld i H y H/\x=.ref p/\H'=upd H p (.tup [.int i,y]),J.stop]
def OV(J:IsEnum s.heap e it i L)(O:∀(Q:zj)(E:zj),(∀h' x,Heap.ExtBut it s.heap h'->(∃o,h'.get? x=some o/\o.cls=.type "StopIteration")->E (.ref x) {s with heap:=h'})->wpAny (model prog w) A.in1 (Builtin.SmallTypes.nextOf (.ref it)) Q E s)
  (hQ:∀h',Heap.ExtBut it s.heap h'->Q none {s with heap:=h'}):wpAny (model prog w) A (pyNext (.ref e)) Q E s:=by
 let G:s.TypeIs (.ref e) "enumerate":=#[_,J,rfl]
 apply qa;apply wpAny_attempt;show wpAny_callSpecial?_slot (name:=Str.ofString "__next__") G F.slot_enumerate_next (ze F.slot_enumerate_next G F.entry_enumerate_next ?_ (F.args_enumerate_next_1 _));show wpAny _ _ (field (.ref e) 2>>=_) _ _ _;apply qa;show zc J rfl (x:=.ref it) rfl (qa (O _ _ λh' x B z=>?_));let#[o,M,Y]:=z;show qa (wpAny_isInstance (T:="StopIteration") (b:=true) #[o,M,Y] isSubtype_stop (qb (hQ _ B)))
def PM{P:Program}{w:World}{K:W.Frag}{J:It}{it e:Addr}{tn:Nat->Heap->Prop}{elts:List Expr}{k:Nat}{pos:Pos}(S:uQ P w K J it tn)(hei:e≠it):
  gR P w K (.Tuple elts k pos) (sL J) [e,it] e (λi h=>(∃old,IsEnum h e it i old)/\tn i h) where
 mem:=m1
 obj:=λi h st b hb=>by
  simp at hb;rcases hb with rfl|rfl
  .obtain⟨old,q⟩:=st.1;show#[_,q,λv z=>by cases z]
  .obtain⟨o,h1,h2,_⟩:=S.live i h st.2;show#[o,h1,h2]
 keep:=λi h h' st kk=>by let#[#[old,q],t]:=st;show#[#[old,kk e (m1) _ q],S.keep i h h' t λo q=>kk it (m2) o q]
 item:=by
  intro X hP hw hK hc i zF s Z H E I hf st hg;let#[#[old,he],ht]:=st;let hh:X.A.in1.handled=none:=I.ok.hd hc;let#[fp,n,Pr,Sx,D,hS,hin,hif,hfp,hv,hs]:=S.item X hP hw hK i zF s Z H X.A.in1 hh I ht (hf it (m2)).1 hg;let hef:e∉fp:=λz=>by grind
  have hel:e<s.heap.objs.size:=qe he;let#[oi,hoi,_]:=S.live i _ ht;let hil:it<s.heap.objs.size:=qe hoi;show wpAny_pyNext_enum_itemD (A:=X.A) D he hS hin hei hef λx h1 tk hPx ho hS1 hT hsz hk=>?_;let#[y,ry,hy]:=hv x hPx;show#[_,rfl,wpAny_letOwnedTupleGo_enum ho λh2 he2 sb=>?_];let ne:s.heap.objs.size≠e:=ne_of_gt hel;let I2:Inv X zF Z (upd H s.heap.objs.size (.tup [.int i,y])) {s with heap:=h2,toks:=tk+1}:=Sa I (ch:=[e,it]) (us:=[.int i tk,x]) hf (λb hb=>by
    simp at hb;rcases hb with rfl|rfl
    .show hel
    .show hil) (by show 2<=_;decide) (.cons #[_,rfl] (.cons ry .nil)) #[_,sb.extBut _ _ ne hT,rfl,rfl,_,rfl] λb o hb q=>by
   simp at hb;show sb.extBut _ _ hb.1 (hk b o hb.1 hb.2 q)
  show#[.ref s.heap.objs.size,_,I2,rfl,#[s.heap.objs.size,y,I.hok.fresh (q8 _),hy,rfl,rfl],#[#[x,he2],S.keep _ _ _ (hs _ hS1) λo q=>sb.extBut _ _ (Ne.symm hei) q],λb hb=>?_];simp at hb;rcases hb with rfl|rfl
  .rw[Ah (ne_of_lt hel)];show(hf _ (m1)).1
  .rw[Ah (ne_of_lt hil)];show(hf _ (m2)).1
 done:=by intro X hP hw hK hc i zF s Z H E I hf st hg;let#[#[old,he],ht]:=st;let hh:X.A.in1.handled=none:=I.ok.hd hc;show OV he (S.done X hP hw hK i zF s Z H X.A.in1 hh I ht hg) λh' hx=>#[rfl,KN I (t':=s.toks) (ch:=[it]) (λb hb=>hf b (by simp at hb;simp[hb])) λb o hb q=>hx b o ↑hb q]
 self:=λA i s Q E st h=>by let#[#[old,he],_]:=st;show wpAny_pyIter_enum he h
abbrev lC(h:Heap)(z:Addr):Heap:=(h.push {cls:=.type "tuple_iterator",data:=.fields [.ref z,.int 0 0].toArray}).push {cls:=.type "enumerate",data:=.fields [.none,.bool false,.ref h.objs.size,rawInt 0,.none,.none].toArray}
set_option maxHeartbeats 1000000 in
def Qv(z:Addr)(xs:Array Value)(n:Nat)(dd:Option Addr)(M:Array (Option Value)):Meets (Builtin.«enumerate.__new__» #[[.type "enumerate",.ref z],[]]) (λ_ R s=>s.heap.get? z=some {cls:=.type "tuple",dict:=dd,data:=.seq xs n,slots:=M}/\
  R (.ok (.ret (.ref (s.heap.objs.size+1)))) {s with heap:=lC s.heap z}):=
 .of_wp λprog w A R s J=>by
  let#[F,g,d,tk,os]:=s;let#[G,Y]:=J;let ss:=sub_enumerate;let O:(F.push {cls:=.type "tuple_iterator",data:=.fields [.ref z,.int 0 0].toArray}).objs.size=F.objs.size+1:=Heap.size_push ..;let B:R (.ok (.ret (.ref (F.push {cls:=.type "tuple_iterator",data:=.fields [.ref z,.int 0 0].toArray}).objs.size))) {heap:=lC F z,gens:=g,drawn:=d,toks:=tk,os:=os}:=by rw[O];show Y
  let L:Heap.IsTuple (Shared.heap #[F,g,d,tk,os]) z xs:=#[_,G,rfl,n,rfl]
  wp_walk using wpAny_loadPart' G
  show wpAny_stack_any λst=>qb ?_;split
  .rename_i c _ _ _ _ _;cases(c==Value.type "enumerate")<;>(wp_walk using wpAny_loadPart' G,wpAny_pyIter_tuple L;show#[_,rfl,B])
  .wp_walk using wpAny_loadPart' G,wpAny_pyIter_tuple L
   show#[_,rfl,B]
def OK(hT:s.heap.IsTuple z xs)
  (k:∀h',IsEnum h' (s.heap.objs.size+1) s.heap.objs.size 0 .none->h'.IsTupleIter s.heap.objs.size z 0->(∀b o,s.heap.get? b=some o->h'.get? b=some o)->Q (.ref (s.heap.objs.size+1)) {s with heap:=h'}):
  wpAny (model prog w) A (call (.type "enumerate") [.ref z]) Q E s:=by
 let#[#[c,dd,dt,J],M,Y,n,O]:=hT;let e1:c=.type "tuple":=Y;let e2:dt=.seq xs n:=O;subst e1 e2;show callType_new F.called_enumerate ⋯ (F.typeCall_enumerate_1 _) (F.newCall_enumerate_1 _) (λB=>F.args_object_init_2 B _) F.entry_enumerate_new (Qv z xs n dd J) #[M,?_];let L:(s.heap.push {cls:=.type "tuple_iterator",data:=.fields [.ref z,.int 0 0].toArray}).objs.size=s.heap.objs.size+1:=Heap.size_push ..;let G:IsEnum (lC s.heap z) (s.heap.objs.size+1) s.heap.objs.size 0 .none:=by let:=qd (s.heap.push {cls:=.type "tuple_iterator",data:=.fields [.ref z,.int 0 0].toArray}) (o:={cls:=.type "enumerate",data:=.fields [.none,.bool false,.ref s.heap.objs.size,rawInt 0,.none,.none].toArray}) rfl;rw[L]at this;show this
 show#[#[_,G,rfl],k _ G #[_,qc _ (qd _ rfl),rfl,rfl] λb o x=>qc _ (qc _ x)]
def uD(K:W.Frag)(z:TA):TI:=λZ H R=>z Z H λvs H1=>(∃a,vs=[.ref a]/\(∃xs,bC K H1 a xs)/\R (sL (vB K a)) H1)\/(∃a,vs=[.ref a]/\(∃xs,H1 a=some (.tup xs))/\R (sL (zW a)) H1)\/∃x,vs=[.str x]/\R (sL (sJ x)) H1
def Nu(hc:X.calm=true)(hg:Gl X "enumerate")(hm:X.mg "enumerate"=none)(hv:bootBuiltins "enumerate"=some (.type "enumerate"))(hl:PA X [a] tl)
  (hs:starEach [a] X.env=[(false,eval a X.env)]:=by rfl):PI X (.Tuple elts kk tpos) (.Call (.Name "enumerate" p) [a] [] pos) (uD X.K tl):=by
 intro zF s Z H R I h;show wpAny_Call_Name_kw (DN I hg hm hv ?_ ⋯ ⋯);show PyProof.Rows.callWith_type1 (Af (hl pos zF s Z H _ I h) λus z zq=>?_) hs rfl;let#[vs,H1,L,Y,q1]:=zq;let G:∀{J:It}{O:Nat->Heap->Prop}{h':Heap},uQ X.prog X.w X.K J z.heap.objs.size O->R (sL J) H1->IsEnum h' (z.heap.objs.size+1) z.heap.objs.size 0 .none->O 0 h'->(∀b o,z.heap.get? b=some o->h'.get? b=some o)->
   wpAny (model X.prog X.w) X.A (pyIter (.ref (z.heap.objs.size+1))) (uU X zF Z (.Tuple elts kk tpos) R) X.xe {z with heap:=h'}:=λ{J O h'} S hR B ht F=>by
  show wpAny_pyIter_enum (s:={z with heap:=h'}) B ?_;show#[z.heap.objs.size+1,[z.heap.objs.size+1,z.heap.objs.size],_,_,H1,rfl,L.kept (t':=z.toks) F,PM S (Nat.succ_ne_self _),#[#[_,B],ht],λb hb=>?_,hR];simp at hb;rcases hb with rfl|rfl
  .show L.fpOk (le_succ _) (L.hok.fresh (le_succ _))
  .show L.fpOk (q8 _) (L.hok.fresh (q8 _))
 rcases q1 with⟨b,e,⟨xs,hq⟩,q⟩|⟨b,e,⟨xs,hq⟩,q⟩|⟨x,e,q⟩
 .subst e;let#[u,rfl,M]:=vals1 Y;cases M;let#[h1,rv,pl,hz]:=L.list hq;show call_enumerate_list pl.isList λh' B hi _ F=>G (OD b _) q B hi F
 .subst e;let#[u,rfl,M]:=vals1 Y;cases M;let#[h1,rv,pl,hz]:=L.tuple (aV.of hq);show OK pl λh' B hi F=>G (Np b _) q B hi F
 .subst e;let#[u,rfl,M]:=vals1 Y;let#[t,rfl]:=M;show call_enumerate_str λh' B hi _ F=>G (MR _ x t) q B hi F
def GL{K:W.Frag}(hy:∀i H x H',J.yld i H x H'->H'=H)(h:fD K J l F0):fD K (sL J) (bO 0 l) F0:=λi U Z F G H sm z=>by let#[h1,h2]:=h i U Z F G H sm z;show#[λd hd=>?_,λO=>h2 (by rw[Kc]at O;show O)];let#[e,he,rfl]:=Ks l 0 i d hd;let#[g1,g2]:=h1 e he;show#[g1,λx H' zq=>?_];let#[p,y,M,B,ex,eH]:=zq;subst ex eH;let#[F',s1,L,rp]:=g2 y H B;let#[Y,_,_]:=L.free M;show#[upd F' p (.tup [.int i,y]),s1.trans (zr.upd Y),L.newF M,?_];let:=aI.tup (K:=K) (F:=upd F' p (.tup [.int i,y])) (a:=p) (xs:=[.int i,y]) (ds:=[.int i,e]) AQ (.cons (.int i) (.cons (rp.mono (zr.upd Y)) .nil));simpa using this
def OU{K:W.Frag}{a:Addr}(e:F0 a=some (.tup xs))(r:zD K F0 xs l):fD K (zW a) l F0:=λi U Z F G H L z=>by let J:H a=some (.tup xs):=(L.trans z.fr) _ _ e;show#[λd Y=>?_,λh=>#[xs,J,by rw[r.len];show h]];let#[x,M,O]:=r.get Y;show#[#[xs,x,J,M],λy H' B=>?_];let#[rfl,B]:=B;let:x=y:=qf (M.symm.trans (B xs J));subst this;show#[F,zr.refl F,z,O.mono L]
def Ld:bootBuiltins "enumerate"=some (.type "enumerate"):=by decide+kernel
def IY(hc:X.calm=true)(hg:Gl X "enumerate")(hm:X.mg "enumerate"=none)(hv:bootBuiltins "enumerate"=some (.type "enumerate"))(ha:FE X a we)(hs:starEach [a] X.env=[(false,eval a X.env)]:=by rfl):
  FI X (.Tuple elts kk tpos) (.Call (.Name "enumerate" p) [a] [] pos) (iR we):=λpn xe hp=>by
 show PI.imp (Nu (X:=wp X pn xe) hc hg hm hv (Aa ha Ab hs pn xe hp) hs) λZ H R q=>?_;let#[F,G,U,P,PX,h2,hw,O,hx]:=q;show#[F,G,U,λrs h1=>match rs with|[r]=>(zp (give r h1) λp=>zp (items p.1.toD) λl=>P (bO 0 l) p.2)|_=>False,PX,h2,hw,λrs h1 vs F1 H1 B s1 r1 hl M=>?_,hx];match rs,vs,M,r1,B with
 |[r],[v],M,r1,B=>
  let#[#[s,L],eg,B]:=Ai B;let#[l,el,B]:=Ai B;let#[F2,s2,l2,r2]:=AC (U':=[]) (Z':=[]) r1 hl M.1 eg;let#[F3,s3,rp,r3]:=Rel.giveD (U:=L) (vs:=[v]) (ss:=[s]) r2 (l2.trans hl);let sm:=s1.trans (s2.trans s3);cases rp with
  |cons a0 b0=>
   let J:items s.toD=some l:=el;generalize s.toD=d at a0 J;cases a0 with
   |lst Y r0=>cases J;show .inl #[_,rfl,#[_,bC.mono r3.fr Y],O _ L F3 H1 _ B sm r3 (GL (λ_ _ _ _ z=>z.1) (Kn Y r0))]
   |tup Y r0=>cases J;show .inr (.inl #[_,rfl,#[_,r3.fr _ _ Y],O _ L F3 H1 _ B sm r3 (GL (λ_ _ _ _ z=>z.1) (OU Y r0))])
   |str Y z0=>cases J;show .inr (.inr #[_,rfl,O _ L F3 H1 _ B sm r3 (GL (λ_ _ _ _ z=>z.1) (JI Y))])
   |_=>cases J
 |[],_,_,_,B=>show B.elim
 |[_],[],M,_,_=>show M.elim
 |[_],_::_::_,M,_,_=>show M.2.elim
 |_::_::_,_,_,_,B=>show B.elim
end FL
namespace FL
open PySem PySem.Spec PyProof.Rows L2
section
variable{κ:Type}[DecidableEq κ]{kd:κ->D}(inj:∀a b,kd a=kd b->a=b)
include inj
end
section
variable{K:W.Frag}
def GV:∀{us:List Value},zC (ns.map V.int) us->IntsAre us ns:=by
 induction ns with
 |nil=>intro us r;cases r;show .nil
 |cons n ns F=>
  intro us r;cases r with
  |cons B z=>let#[t,rfl]:=B;show .cons _ t (F z)
end
end FL
namespace FL
def kI(i j:Nat)(a:WA):WS:=λD U=>a U (λB z=>match B with
 |[r,t]=>zp (give r z) λp=>zp (give t p.2) λq=>D.nx ((q.2.set i (some p.1)).set j (some q.1))
 |_=>False) D.ex
end FL
namespace FL
open PySem PySem.Spec PyProof.Rows L2
def Jx{α:Type}{l:List α}{r:List α}{v:α}(h:n<l.length):(l++r).set n v=l.set n v++r:=by rw[List.set_append_left _ _ h]
def Ib(hc:X.calm=true)(hN:X.N.Nodup)(hi:X.N[i]?=some x)(hj:X.N[j]?=some y)(h1:i≠j)(h6:i∉ks)(h5:j∉ks)
  (hx:X.env.scope.names.lookup x=some .local)(hy:X.env.scope.names.lookup y=some .local)(ha:FA X [a,b] wa)
  (hw:swappedStores [.Tuple [.Name x px,.Name y py] kt pt] (.Tuple [a,b] k2 h2) X.env=pure (some [x,y]):=by rfl)
  (hs:swapsWithSole [.Tuple [.Name x px,.Name y py] kt pt] (.Tuple [a,b] k2 h2) pos.line X.env=pure false:=by rfl):
  FS X ks (.Assign [.Tuple [.Name x px,.Name y py] kt pt] (.Tuple [a,b] k2 h2) pos) (kI i j wa):=λpn xe hp zF s Z H D I q=>by
 let M:Z.length=X.N.length:=I.len;let h9:i<Z.length:=by rw[M];show(qg.mp hi).1
 let h8:j<Z.length:=by rw[M];show(qg.mp hj).1
 show Mg (X:=wp X pn xe) hc hN hi hj h1 hx hy (ha pn xe hp) hw hs zF s Z H D I ?_;let#[F,G,U,E,h3,h4,n,b2,c,r,x2]:=q;let x0:XC (wp X pn xe) (·=Z) F G E.ex:=x2.mono (λe1 z=>by rw[z];show KP.refl) (zr.refl F) (zr.refl G);show#[F,G,U,_,_,h3,h4,λrs J vs F1 H1 B s1 r1 hl O=>?_,x0];match rs,vs,O,r1,B with
 |[r,t],[v,u],O,r1,B=>
  dsimp only at B;let#[#[s',L],eg,B]:=Ai B;let#[#[t',Y],h7,B]:=Ai B;let e:aF [r,t] J=some ([s',t'],Y):=by show(match give r J with|some (s,J)=>(match aF [t] J with|some (ss,L)=>some (s::ss,L)|none=>none)|none=>none)=_;rw[eg];show(match(match give t L with|some (s,J)=>some ([s],J)|none=>none)with|some (ss,L)=>some (s'::ss,L)|none=>none)=_;rw[h7]
  let#[F2,s2,l2,z2,r2]:=FY (rs:=[r,t]) (vs:=[v,u]) (U':=[]) (Z':=[]) r1 hl O e;let l3:Y.length=Z.length:=l2.trans hl;let r3:Rel X.K ((Y++[some s'])++[some t']) ((Z++[some v])++[some u]) F2 G H1:=↑r2
  let r4:=r3.store (i:=j) (by simp[l3]) (by simp;lia -verbose);rw[Jx ∅,Jx ∅]at r4;let r5:=r4.store (i:=i) (by simp[l3]) (by simp;lia -verbose);rw[set_comm _ _ (Ne.symm h1),set_comm (α:=Option V) _ _ (Ne.symm h1)]at r5;show#[v,u,rfl,n _ _ F2 H1 B (KP.trans (KP.set h6) (KP.set h5)) (s1.trans s2) r5]
 |[],_,_,_,B=>show B.elim
 |[_],_,_,_,B=>show B.elim
 |[_,_],[],O,_,_=>show O.elim
 |[_,_],[_],O,_,_=>show O.2.elim
 |[_,_],_::_::_::_,O,_,_=>show O.2.2.elim
 |_::_::_::_,_,_,_,B=>show B.elim
end FL
namespace FL
open PySem PySem.W PyProof.Rows
def bU(n:Nat)(rk:Nat->Int){α:Type}:KasT α->(α->Prop)->Prop
 |.ret a,P=>P a
 |.ask i j k,P=>i<n/\j<n/\bU n rk (k (decide (rk i<rk j))) P
def El:∀{t:KasT α},bU n rk t (λa=>bU n rk (f a) P)->bU n rk (t.bind f) P
 |.ret _,h=>h
 |.ask _ _ _,h=>#[h.1,h.2.1,El h.2.2]
def kA(rk:Nat->Int)(p:Array Nat)(k:Nat):Int:=rk ((p[k]?).getD 0)
def CW(p:Array Nat)(k:Nat):rk (p.getD k 0)=kA rk p k:=by unfold kA;rw[Array.getD_eq_getD_getElem?]
def iK(n:Nat)(p:Array Nat):Prop:=p.size=n/\∀k,p.getD k 0<n
def lE(rk:Nat->Int)(p:Array Nat)(m:Nat):Prop:=∀a b,a<=b->b<m->kA rk p a<=kA rk p b
def vG(rk:Nat->Int)(p:Array Nat)(m:Nat):Prop:=∀a b,a<=b->b<m->kA rk p b<=kA rk p a
def Ex(h:iK n q)(z:p.Perm q)(hn:0<n):iK n p:=by
 show#[z.size_eq.trans h.1,λk=>?_];rw[Array.getD_eq_getD_getElem?];cases e:p[k]? with
 |none=>show hn
 |some x=>have B:x∈q:=z.mem_iff.mp (Array.mem_of_getElem? e);let#[j,F,G]:=Array.getElem_of_mem B;let:=h.2 j;simp_all
def GC(F:iK n p):∀(f m:Nat),1<=m->lE rk p m->(∀B,m<=B->B<=m+f->lE rk p B->(B<m+f->kA rk p B<kA rk p (B-1))->P B)->bU n rk (kas_asc p f m) P
 |0,m,_,hs,h=>h m (q8 _) (q8 _) hs λz=>absurd z ∅
 |f+1,m,h1,hs,h=>by
  show#[F.2 m,F.2 (m-1),?_];rw[CW (rk:=rk),CW (rk:=rk)];by_cases G:kA rk p m<kA rk p (m-1)
  .rw[qP G];show h m (q8 _) ∅ hs λ_=>G
  .rw[qQ G];show GC F f (m+1) ∅ (λa b L hb=>?_) λB h2 h3 Y O=>h B ∅ ∅ Y λz=>O ∅;by_cases J:b<m
   .show hs a b L J
   .let:b=m:=by lia
    by_cases M:a=b
    .rw[M];show Int.le_refl _
    .let:=hs a (b-1) ∅ ∅;lia
def GM(B:iK n p)(hs:lE rk p k):∀(f l r:Nat),l<=r->r<=k->r-l<=f->(∀a,a<l->kA rk p a<=kA rk p k)->(∀a,r<=a->a<k->kA rk p k<kA rk p a)->
  (∀z,z<=k->(∀a,a<z->kA rk p a<=kA rk p k)->(∀a,z<=a->a<k->kA rk p k<kA rk p a)->P z)->bU n rk (kas_place p k f l r) P
 |0,l,r,h1,h2,h3,h4,h5,h=>by
  let:l=r:=∅
  subst this;show h l h2 h4 h5
 |f+1,l,r,h1,h2,h3,h4,h5,h=>by
  unfold kas_place;by_cases F:l≥r
  .rw[qY F];let:l=r:=by lia
   subst this;show h l h2 h4 h5
  .rw[qZ F];show#[B.2 k,B.2 _,?_];rw[CW (rk:=rk),CW (rk:=rk)];by_cases G:kA rk p k<kA rk p ((l+r)/2)
   .rw[qP G];show GM B hs f l ((l+r)/2) ∅ ∅ ∅ h4 (λa J L=>?_) h;let:=hs _ a J L;lia
   .rw[qQ G];show GM B hs f ((l+r)/2+1) r ∅ h2 ∅ (λa J=>?_) h5 h;let:=hs a ((l+r)/2) ∅ ∅;lia
def KS(z:k<p.size)(B:d<=k)(j:Nat):kA rk (bubble p k d) j=if j=k-d then kA rk p k else if k-d<j/\j<=k then kA rk p (j-1)else kA rk p j:=by unfold kA;rw[getElem?_bubble z d B j];grind
def IE(hn:0<n):∀(f:Nat)(p:Array Nat)(k:Nat),iK n p->lE rk p k->k+f<=n->(∀F,F.Perm p->iK n F->lE rk F (k+f)->P F)->bU n rk (kas_bin f p k) P
 |0,p,k,hr,hs,_,h=>h p (Array.Perm.refl _) hr hs
 |f+1,p,k,hr,hs,hk,h=>by
  show El (GM hr hs k 0 k (zero_le _) (q8 _) ∅ (λa z=>absurd z ∅) (λa z1 z2=>absurd z1 ∅) λl hl h1 h2=>?_);let G:k<p.size:=by rw[hr.1];lia
  let hp:=bubble_perm p k (k-l);show IE hn f _ (k+1) (Ex hr hp hn) (λa b O hb=>?_) ∅ λF q1 q2 q3=>h F (q1.trans hp) q2 (by rw[show k+(f+1)=k+1+f by lia];show q3);rw[KS G ∅,KS G ∅];let Y:k-(k-l)=l:=∅
  rw[Y];by_cases ha:a=l
  .rw[qY ha];by_cases B:b=l
   .rw[qY B];show Int.le_refl _
   .rw[qZ B];let:=h2 (b-1) ∅ ∅;lia
  .rw[qZ ha];by_cases L:l<a/\a<=k
   .rw[qY L,qZ ∅,qY #[∅,∅]];show hs (a-1) (b-1) ∅ ∅
   .rw[qZ L];let M:a<l:=by lia
    by_cases B:b=l
    .rw[qY B];show h1 a M
    .rw[qZ B];by_cases J:l<b/\b<=k
     .rw[qY J];show hs a (b-1) ∅ ∅
     .rw[qZ J];show hs a b O ∅
def Ep(z:j<=p.size)(k:Nat):kA rk (kas_rev p i j) k=if i<=k/\k<j then kA rk p (i+j-1-k)else kA rk p k:=by
 unfold kA kas_rev;rw[getElem?_mirror_all z];by_cases h:i<=k/\k<j
 .rw[qY h,qY h]
 .rw[qZ h,qZ h]
def DP(p:Array Nat)(i j:Nat):(kas_rev p i j).Perm p:=mirror_perm ..
def GR(hn:0<n):∀(f:Nat)(p:Array Nat)(m q:Nat),iK n p->vG rk p m->m+f<=n->q+1<=m->(∀a,m-(q+1)<=a->a<m->kA rk p a=kA rk p (m-1))->
  (∀B z F,B.Perm p->iK n B->vG rk B z->z<=m+f->m<=z->F+1<=z->(∀a,z-(F+1)<=a->a<z->kA rk B a=kA rk B (z-1))->P (B,z,F))->bU n rk (kas_desc f p m q) P
 |0,p,m,q,hr,hd,_,hq,he,h=>h p m q (Array.Perm.refl _) hr hd (q8 _) (q8 _) hq he
 |f+1,p,m,q,hr,hd,hm,hq,he,h=>by
  unfold kas_desc;show#[hr.2 m,hr.2 (m-1),?_];rw[CW (rk:=rk),CW (rk:=rk)];by_cases hc:kA rk p m<kA rk p (m-1)
  ·(rw[qP hc];dsimp only;rw[qY rfl])
   have go:∀M:Array Nat,M.Perm p->(∀k,kA rk M k=kA rk p k)->bU n rk (kas_desc f M (m+1) 0) P:=by
    intro M hp G;show GR hn f M (m+1) 0 (Ex hr hp hn) (λa b L hb=>?_) ∅ ∅ (λa h1 h2=>?_) λB z F g1 g2 g3 g4 g5 g6 g7=>h B z F (g1.trans hp) g2 g3 ∅ ∅ g6 g7
    .rw[G,G];by_cases J:b<m
     .show hd a b L J
     .let:b=m:=by lia
      by_cases ha:a=b
      .rw[ha];show Int.le_refl _
      .let:=hd a (b-1) ∅ ∅;lia
    .let:a=m+1-1:=by lia
     rw[this]
   by_cases O:q>0
   .rw[qY O];show go _ (DP ..) λk=>?_;rw[Ep (by rw[hr.1];lia)];by_cases G:m-(q+1)<=k/\k<m
    .rw[qY G,he k G.1 G.2,he _ ∅ ∅]
    .rw[qZ G]
   .rw[qZ O];show go p (Array.Perm.refl _) λ_=>rfl
  ·(rw[qQ hc];dsimp only;rw[qZ qV])
   show#[hr.2 (m-1),hr.2 m,?_];rw[CW (rk:=rk),CW (rk:=rk)];by_cases Y:kA rk p (m-1)<kA rk p m
   ·(rw[qP Y];dsimp only;rw[qY rfl])
    show h p m q (Array.Perm.refl _) hr hd ∅ (q8 _) hq he
   ·(rw[qQ Y];dsimp only;rw[qZ qV])
    let h3:kA rk p m=kA rk p (m-1):=∅
    show GR hn f p (m+1) (q+1) hr (λa b L hb=>?_) ∅ ∅ (λa h1 h2=>?_) λB z F g1 g2 g3 g4 g5 g6 g7=>h B z F g1 g2 g3 ∅ ∅ g6 g7
    .by_cases J:b<m
     .show hd a b L J
     .let:b=m:=by lia
      by_cases ha:a=b
      .rw[ha];show Int.le_refl _
      .let:=hd a (b-1) ∅ ∅;lia
    .show kA rk p a=kA rk p m;by_cases ha:a=m
     .rw[ha]
     .rw[h3];show he a ∅ ∅
def Oo(z:m<=p.size)(B:vG rk p m):lE rk (kas_rev p 0 m) m:=λa b G F=>by rw[Ep z,Ep z,qY #[zero_le _,∅],qY #[zero_le _,F]];show B _ _ ∅ ∅
def Jv(hn:0<n)(G:iK n p)(M:vG rk p m)(h1:1<=m)(L:m<=n)
  (h:∀z F,F.Perm p->iK n F->m<=z->z<=n->lE rk F z->P (z,F)):bU n rk (kas_tail3 m n p) P:=by
 let J:=Oo (by rw[G.1];show L) M;let B:=Ex G (DP p 0 m) hn;show El (GC B (n-m) m h1 J λz Y g2 O _=>h z _ (DP ..) B Y ∅ O)
def KO(hn:0<n)(hr:iK n p)(hd:vG rk p (m+1))(h1:1<=m)(hm:m+1<=n)
  (h:∀z B,B.Perm p->iK n B->1<=z->z<=n->lE rk B z->P (z,B)):bU n rk (kas_descPart m n p) P:=by
 show El (GR hn (n-(m+1)) p (m+1) 0 hr hd ∅ ∅ (λa O G=>by rw[show a=m+1-1 by lia]) λB z J O G g3 g4 g5 g6 g7=>?_);by_cases hq:J>0
 .rw[qY hq];let F:∀k,kA rk (kas_rev B (z-(J+1)) z) k=kA rk B k:=λk=>by
   rw[Ep (by rw[G.1];lia)];by_cases F:z-(J+1)<=k/\k<z
   .rw[qY F,g7 k F.1 F.2,g7 _ ∅ ∅]
   .rw[qZ F]
  show Jv hn (Ex G (DP ..) hn) (λa b M hb=>by rw[F,F];show g3 a b M hb) ∅ ∅ λm2 L e1 e2 e3 e4 Y=>h m2 L (e1.trans ((DP ..).trans O)) e2 ∅ e4 Y
 .rw[qZ hq];show Jv hn G g3 ∅ ∅ λm2 L e1 e2 e3 e4 Y=>h m2 L (e1.trans O) e2 ∅ e4 Y
def Ra(hn:2<=n)(z:iK n p)(h:∀J G,G.Perm p->iK n G->1<=J->J<=n->lE rk G J->P (J,G)):bU n rk (kas_count n p) P:=by
 show El (GC z (n-1) 1 (q8 _) (λa b F hb=>by rw[show a=b by lia];show Int.le_refl _) λm M g2 L g4=>?_);by_cases O:(m==n)=true
 .rw[qY O];show h m p (Array.Perm.refl _) z M ∅ L
 .rw[qZ O];by_cases B:m>1
  .rw[qY B];show#[z.2 0,z.2 (m-1),?_];rw[CW (rk:=rk),CW (rk:=rk)];by_cases Y:kA rk p 0<kA rk p (m-1)
   ·(rw[qP Y];dsimp only;rw[qY rfl])
    show h m p (Array.Perm.refl _) z M ∅ L
   ·(rw[qQ Y];dsimp only;rw[qZ qV])
    let h1:∀a,a<m->kA rk p a=kA rk p (m-1):=λa ha=>by let e1:=L 0 a (zero_le _) ha;let e2:=L a (m-1) ∅ ∅;lia
    let hk:∀k,kA rk (kas_rev p 0 m) k=kA rk p k:=λk=>by rw[Ep (by rw[z.1];lia)];grind
    show KO ∅ (Ex z (DP ..) ∅) (λa b F hb=>?_) M ∅ λm2 p2 e1 e2 e3 e4 e5=>h m2 p2 (e1.trans (DP ..)) e2 e3 e4 e5;grind
  .rw[qZ B];let:m=1:=by lia
   subst this;show KO ∅ z (λa b F hb=>?_) (q8 _) ∅ h;grind
def Qs(hn:0<n):iK n (List.range n).toArray:=by
 show#[by simp,λk=>?_];by_cases z:k<n
 .simp[z]
 .simp[z];show hn
def Pz(hn:2<=n)(h:∀p,p.Perm (List.range n).toArray->lE rk p n->P p):bU n rk (kas_sort n) P:=by
 show El (Ra hn (Qs ∅) λm p G M g3 Y F=>?_);let z:max m 1=m:=∅
 rw[z];by_cases B:m<n
 .rw[qY B];show IE ∅ (n-m) p m M F ∅ λL O e2 J=>h L (O.trans G) (by rw[show m+(n-m)=n by lia]at J;show J)
 .rw[qZ B];let:m=n:=by lia
  subst this;show h p G F
end FL
namespace FL
open PySem PySem.Spec PyProof.Rows L2
def HW{h:Heap}(x:h.Ns a m)(y:h.Ns a z):m=z:=by let#[o,es,ep,e,d,_,f]:=x;let#[o',B,F,J,L,_,G]:=y;grind
section
open PySem.W HT
def Kv{P:α->Prop}{R:α->Shared->Prop}(z:∀i j(C:Bool->Shared->Prop),i<n->j<n->C (decide (rk i<rk j)) s->kas_ask prog w A κ vs i j C s):
  ∀(t:KasT α),bU n rk t P->(∀a,P a->R a s)->t.kasWp (kas_ask prog w A κ vs) R s
 |.ret a,h,q=>q a h
 |.ask i j k,h,q=>z i j _ h.1 h.2.1 (Kv z (k _) h.2.2 q)
def rest(h₀:Heap)(L:Addr)(h:Heap):List (Addr×Obj):=(List.range h.objs.size).filterMap λb=>if b=L then none else if(h₀.get? b).isSome then none else(h.get? b).map λo=>(b,o)
theorem zbq:p∈rest h₀ L h↔h.get? p.1=some p.2/\p.1≠L/\h₀.get? p.1=none:=by
 unfold rest;rw[mem_filterMap];constructor
 .rintro⟨b,_,e⟩;by_cases h1:b=L
  .rw[qY h1]at e;cases e
  .rw[qZ h1]at e;cases h2:h₀.get? b with
   |some o=>rw[h2]at e;cases e
   |none=>rw[h2]at e;let#[o,z,B]:=qW.mp e;cases B;show#[z,h1,h2]
 .rintro⟨z,B,F⟩;show#[p.1,qI.mpr (qe z),?_];rw[qZ B,F,z];rfl
end
end FL
namespace FL
open PySem PySem.Spec PyProof.Rows L2
open HT
section
variable{K:W.Frag}
def QP{α:Type}(d:α):∀l:List α,(List.range l.length).map (λi=>l.getD i d)=l:=λl=>by show List.ext_getElem (by simp) λi h1 h2=>?_;simp[h2]
end
end FL
namespace FL
open PySem PySem.Spec PyProof.Rows L2
def Oc{vs:List Value}(few:vs.length<2):(vs.toArray.zip vs.toArray).map (·.2)=vs.toArray:=by rw[List.zip_toArray,List.map_toArray,List.map_snd_zip (q8 _)]
def JH(F:s.heap.get? a=some (seqObj "list" vs.toArray n))(few:vs.length<2)
  (k:P (.done (.ret .none)) {s with heap:=sortedHeap s.heap a vs vs.toArray}):wpAny (model prog w) A (Builtin.«list.sort» ⟨[.ref a],[]⟩) P E s:=by
 rw[list_sort_plain];let z:vs.toArray.size<2:=few;let G:∃e,(s.heap.update a (Obj.mapSeq λ_=>#[])).get? a=some (seqObj "list" #[] e):=#[_,get?_update_seq F _]
 obtain⟨e,mid⟩:=G;let B:(((s.heap.update a (Obj.mapSeq λ_=>#[])).push (seqObj "tuple" vs.toArray 0)).push (seqObj "list" #[] 0)).get? a=some (seqObj "list" #[] e):=
  qc _ (qc _ mid)
 show qa (listItems_at F rfl (qa (listUpdate_at F rfl (qa (seqEpoch_at mid rfl (qa (wpAny_newTuple (qa (wpAny_newList (zg ?_))))))))));dsimp only;rw[qY z,qY z];show qa (qb (?_:wpAny _ _ _ _ _ _));let J:(arrOf (SortSt.mk' general' (vs.toArray.zip vs.toArray) #[] 7 none)).map (·.2)=vs.toArray:=by show Oc few
 show qa (qb (?_:wpAny _ _ _ _ _ _));rw[J];show qa (seqEpoch_at B rfl (qa (listUpdate_at B rfl ?_ (hsz2:=by rw[zf];lia))));simp;show qb k
def RI(F:s.heap.IsList l vs.toArray)(few:vs.length<2)
  (k:Q (.ref (s.heap.objs.size+1)) {s with heap:=sortedAll s.heap vs vs.toArray}):wpAny (model prog w) A (call (.builtin "sorted") [.ref l]) Q E s:=by
 show Calls.call_function_entry kind_sorted plain_sorted entry_sorted (args_sorted1 _) (?_:wpAny _ _ _ _ _ _);show qa (m:=checkCount "sorted" 1 1 _) (qb (qa (collect_list F (qa (wpAny_newList ?_)))));generalize B:((s.heap.push (seqObj "list" #[] 0)).update s.heap.objs.size (Obj.mapSeq (·++vs.toArray)))=h1;let z:h1.objs.size=s.heap.objs.size+1:=by rw[<-B,Heap.size_update,size_push']
 let new:(h1.push (seqObj "list" vs.toArray 0)).get? (s.heap.objs.size+1)=some (seqObj "list" vs.toArray 0):=z▸qd _ rfl;rw[z];show qa (zg (ze slot_list_sort #[_,new,rfl] entry_list_sort (JH new few #[_,rfl,?_]) (args_list_sort _)));subst B;show qb #[_,rfl,k]
section
variable{K:W.Frag}
def oZ(K:W.Frag):List V->Hp->VK->Prop:=λxs H Q=>∃a ys,xs=[.ref a]/\bC K H a ys/\ys.length<2/\∀q,H q=none->Q (.ref q) (upd H q (.lst ys))
def RK:aK X (.builtin "sorted") (oZ X.K):=by
 intro zF s Z H xs M Q I r h;let#[a,ys,rfl,J,h2,q]:=h;cases r with
 |cons F B=>cases B;cases F;let#[z,r,G,_]:=I.list J;show RI G.isList (by rw[<-r.length];show h2) ?_;let#[e,L]:=sortedAll_at s.heap z z.toArray;show#[.ref (s.heap.objs.size+1),_,I.laid (t':=s.toks) (o:=.lst ys) (λb O w=>sortedAll_old w) (le_succ _) ?_,rfl,q _ (I.hok.fresh (le_succ _))];show#[by rw[zf];lia,z,e,r,L]
end
end FL
namespace FL
def jN(a b:D):Option Bool:=match b with
 |.str l=>match a with
  |.str x=>some (cE l x).isSome
  |_=>none
 |d=>zP a d
def eI(a b:D):Option Bool:=(jN a b).map (!·)
def hH(a:WE):WE:=λU Q E=>a U (λr z=>zp (give r z) λp=>Q (.v (.sh p.1.toD)) p.2) E
mutual
def jK:D->Bool
 |.non=>true
 |.bl _=>true
 |.int i=>decide (-1000000000000<i)&&decide (i<1000000000000)
 |.str l=>l.all λc=>decide (c<1114112)
 |.tup l=>cP l
 |.lst l=>cP l
 |_=>false
def cP:List D->Bool
 |[]=>true
 |d::r=>jK d&&cP r
end
mutual
def nC:D->Nat
 |.int _=>41
 |.str l=>l.length
 |.tup l=>jJ l
 |.lst l=>jJ l
 |_=>0
def jJ:List D->Nat
 |[]=>0
 |d::r=>nC d+1+jJ r
end
def bW(d:D):Bool:=jK d&&(decide (fY d<=30)&&decide (nC d<=1000000))
def eE(res:Bool)(a b:WE):WT:=λU Q E=>a U (λx B=>zp (zB x B) λp=>bW p=true/\b B (λy z=>zp (zB y z) λq=>p=q/\Q res z) E) E
def bX(p q:D):Option S:=match p,q with
 |.str x,.int n=>if 0<=n/\n<=1000/\x.length<=500 then some (.sh (.str (List.replicate n.toNat x).flatten))else none
 |p,q=>kN p q
end FL
namespace FL
open PySem PySem.Spec PyProof.Rows L2
section
variable{K:W.Frag}
def RU(x y:Str):Txt.contains x y=(cE x.cps.toList y.cps.toList).isSome:=by
 let h:=Nc x y;unfold Txt.find at h;unfold Txt.contains;cases q:Builtin.Str.occurrences x y 0 x.length 1 with
 |nil=>
  rw[q]at h;cases e:cE x.cps.toList y.cps.toList with
  |none=>rfl
  |some i=>rw[e]at h;let h':(-1:Int)=(i:Int):=h;lia
 |cons i r=>
  rw[q]at h;cases e:cE x.cps.toList y.cps.toList with
  |none=>rw[e]at h;let h':((i:Nat):Int)=-1:=h;lia
  |some i=>rfl
def tF(neg:Bool):R2:=λx y H Q=>∃z u,x=.str z/\y=.str u/\Q (.bl (if neg then !(Txt.contains u z)else Txt.contains u z)) H
def Qp:OpR X (compareOp .NotIn) (tF true):=by intro zF s Z H x y v u Q I F B h;let#[z,t,rfl,rfl,q]:=h;let#[J,rfl]:=F;let#[G,rfl]:=B;show SB.notContains #[.bl _,H,I,rfl,q]
def pH(K:W.Frag)(neg:Bool):R2:=λx y H Q=>iC K neg x y H Q\/tF neg x y H Q
def Rc(z:X.A.units+32<cLine):OpR X (compareOp .NotIn) (pH X.K true):=FL.OpR.or (Sd z) Qp
def Pt(B:aI K H x p)(z:aI K H y q)(e:jN p q=some k)(F:Q (.bl (if neg then !k else k)) H):pH K neg x y H Q:=by
 unfold jN at e;split at e
 .split at e
  .cases B with
   |str J M=>cases z with
    |str G L=>show .inr #[_,_,rfl,rfl,?_];rw[RU,J,G,qf e];show F
  .cases e
 .show .inl (Ny B z e F)
def Se:bD K (pH K true) eI:=λH x y p q k Q F B e G=>by
 unfold eI at e;cases z:jN p q with
 |none=>rw[z]at e;cases e
 |some b=>rw[z]at e;let J:(!b)=k:=qf e;subst J;show Pt F B z G
def Rel.frzEnd(r:Rel K (U++[some s]) (Z++[some v]) F G H)(h:U.length=Z.length):∃F',zr F F'/\Rel K (U++[some (.sh s.toD)]) (Z++[some v]) F' G H:=by let#[u,F',L,B,J,z]:=r.give (i:=U.length) (s:=s) Eh;rw[show(U++[some s]).set U.length (some (S.sh s.toD))=U++[some (S.sh s.toD)] from Ku]at z;show#[F',B,z]
end
section
variable{st:Stmt}
def Es(he:FE X e we):FE X e (hH we):=λpn xe hp=>by show PE.imp (he pn xe hp) λZ H Q q=>?_;let#[F,G,U,P,PX,B,hw,J,hx]:=q;show#[F,G,U,_,PX,B,hw,λr Y v F1 H1 L s1 O rv=>?_,hx];let#[#[s,z],eg,L]:=Ai L;let#[F2,s2,l2,M]:=AC (U':=[]) (Z':=[]) O (Ag O) rv eg;let#[F3,s3,r3]:=Rel.frzEnd M (Ag M);show J _ z v F3 H1 L (s1.trans (s2.trans s3)) r3 trivial
end
def Gq(h1:-1000000000000<i)(h2:i<1000000000000):i.natAbs.log2<40:=by
 let:i.natAbs<2^40:=∅
 by_cases z:i.natAbs=0
 .rw[z];decide
 .show(Nat.log2_lt z).mpr this
mutual
def GK:∀d:D,jK d=true->gG d=true
 |.non,_=>rfl
 |.bl _,_=>rfl
 |.int i,h=>by let h':(decide (-1000000000000<i)&&decide (i<1000000000000))=true:=h;rw[and_eq_true,qR,qR]at h';let:=Gq h'.1 h'.2;show decide (i.natAbs.log2<1920)=true;rw[qR];lia
 |.str _,_=>rfl
 |.tup l,h=>Hc l h
 |.lst l,h=>Hc l h
 |.dct _ _ _,h=>by cases h
 |.set _,h=>by cases h
 |.exc _ _ _,h=>by cases h
def Hc:∀l:List D,cP l=true->cC l=true
 |[],_=>rfl
 |d::r,h=>by rw[cP,and_eq_true]at h;rw[cC,GK d h.1,Hc r h.2];rfl
end
mutual
def FR:∀d:D,jK d=true->(bV d).leavesShort 13=true
 |.non,_=>rfl
 |.bl _,_=>rfl
 |.int i,h=>by let h':(decide (-1000000000000<i)&&decide (i<1000000000000))=true:=h;rw[and_eq_true,qR,qR]at h';let:=int_text_length_le10 (a:=i) (k:=12) ⋯ ∅;simp only[bV,PyData.leavesShort,qR];show(Str.ofString (toString i)).length<=13;rw[PySem.ofString_length];show this
 |.str l,h=>by let h':(l.all λc=>decide (c<1114112))=true:=h;simp only[bV,PyData.leavesShort,qH,qR]at h'⊢;intro c z;let:=h' c ↑z;lia
 |.tup l,h=>by simp only[bV,PyData.leavesShort];show Hm l h
 |.lst l,h=>by simp only[bV,PyData.leavesShort];show Hm l h
 |.dct _ _ _,h=>by cases h
 |.set _,h=>by cases h
 |.exc _ _ _,h=>by cases h
def Hm:∀l:List D,cP l=true->PyData.leavesShortAll 13 (bR l)=true
 |[],_=>rfl
 |d::r,h=>by rw[cP,and_eq_true]at h;simp only[bR,PyData.leavesShortAll,and_eq_true];show#[FR d h.1,Hm r h.2]
end
mutual
def FQ:∀d:D,jK d=true->(bV d).weight<=nC d
 |.non,_=>q8 _
 |.bl _,_=>q8 _
 |.int i,h=>by let h':(decide (-1000000000000<i)&&decide (i<1000000000000))=true:=h;rw[and_eq_true,qR,qR]at h';let:=Gq h'.1 h'.2;simp only[bV,PyData.weight,nC];split<;>lia
 |.str l,h=>by simp[bV,PyData.weight,nC]
 |.tup l,h=>by simp only[bV,PyData.weight,nC];show Hi l h
 |.lst l,h=>by simp only[bV,PyData.weight,nC];show Hi l h
 |.dct _ _ _,h=>by cases h
 |.set _,h=>by cases h
 |.exc _ _ _,h=>by cases h
def Hi:∀l:List D,cP l=true->PyData.weightAll (bR l)<=jJ l
 |[],_=>q8 _
 |d::r,h=>by rw[cP,and_eq_true]at h;let h1:=FQ d h.1;let h2:=Hi r h.2;simp only[bR,PyData.weightAll,jJ];lia
end
def aS.view{K:W.Frag}(h:aS K F H v d)(z:zr F H):aI K H v d:=by
 rcases h with h|⟨a,xs,G,rfl,rfl,e,r⟩|⟨a,B,ks,vs,rfl,rfl,e,k,r⟩|⟨a,B,ks,vs,rfl,rfl,e,k,r⟩
 .show h.mono z
 .show .lst (bC.of e) (r.mono z)
 .show .dK (.of e) k (r.mono z)
 .show .dT (.of e) k (r.mono z)
def vL:D->Str
 |.non=>"None"
 |.bl b=>if b then "True" else "False"
 |.int i=>toString i
 |d=>(bV d).shown
def iB(K:W.Frag):List V->Hp->VK->Prop:=λxs H Q=>∃v d,xs=[v]/\aI K H v d/\bW d=true/\Q (.str (vL d)) H
def Ky(hr:aR k X.A):aK X (.builtin "repr") (iB X.K):=by
 intro zF s Z H xs us Q I r h;let#[v,d,rfl,Y,G,q]:=h;unfold bW at G;rw[and_eq_true,and_eq_true,qR,qR]at G;let#[F,hd,hw]:=G;let#[u,rfl,L]:=vals1 r;let J:∀a,v=.ref a->uA d=true->wpAny (model X.prog X.w) X.A (call (.builtin "repr") [u]) (EP X zF Z Q) X.xe s:=λa e hq=>by
  subst e;cases L;let#[as,rd]:=OS I Y rfl (GK d F);let h1:=Jr d;let h2:=hr.units;let O:vL d=(bV d).shown:=by cases d<;>first|rfl|cases hq
  rw[O]at q;show repr_of_reads' (h₀:=s.heap) rd (Lg d (GK d F)) (λh=>by rw[Ko]at h;cases h) hr.gd ∅ (λ_ _ z=>z) (λh' u tk hk=>#[.str _,H,I.kept hk,#[u,rfl],q]) ?_;let M:=FQ d F;show PyData.shown_fits (B:=13) ⋯ ⋯ (FR d F) ∅
 cases Y with
 |non=>cases L;show P.repr_of_none #[.str _,H,I.kept λ_ _ z=>z,#[_,rfl],q]
 |bl b=>cases L;show P.repr_of_bool #[.str _,H,I.kept λ_ _ z=>z,#[_,rfl],q]
 |int i=>let#[t,rfl]:=L;let h':(decide (-1000000000000<i)&&decide (i<1000000000000))=true:=F;rw[and_eq_true,qR,qR]at h';let:=Gq h'.1 h'.2;show P.repr_of_int ∅ #[.str _,H,I.kept λ_ _ z=>z,#[_,rfl],q]
 |@str x l e z=>
  let#[t,rfl]:=L;let ex:x=#[l.toArray]:=by let#[#[a]]:=x;let e':a=l:=e;rw[e']
  subst ex;let M:=FQ (.str l) F;show P.repr_of_str #[.str _,H,I.kept λ_ _ z=>z,#[_,rfl],q] (PyData.shown_fits (d:=bV (.str l)) (B:=13) ⋯ ⋯ (FR _ F) ∅)
 |tup e r=>show J _ rfl rfl
 |lst e r=>show J _ rfl rfl
 |dK e k r=>cases F
 |dT e k r=>cases F
 |st e r=>cases F
 |exc e k=>cases F
def Of(hs:bW d=true):(vL d).cps.toList.length<=16777216:=by
 unfold bW at hs;rw[and_eq_true,and_eq_true,qR,qR]at hs;let#[hs,G,F]:=hs;let z:=FQ d hs;let h:=PyData.shown_fits (d:=bV d) (B:=13) ⋯ ⋯ (FR _ hs) ∅;let e:vL d=(bV d).shown:=by
  cases d with
  |non=>rfl
  |bl b=>rfl
  |int i=>rfl
  |str l=>rfl
  |tup l=>rfl
  |lst l=>rfl
  |_=>cases hs
 rw[e,qT];show h
def QR{a b:Expr}{wa wb:WE}{res:Bool}{X':Cx}{Z:St}{H:Hp}{Q:Bool->Hp->Prop}{C:V->V->Hp->Prop}(hC:∀(z:Str) H2,z.cps.toList.length<=16777216->Q res H2->C (.str z) (.str z) H2)(q:kJ X' (eE res wa wb) Z H Q):
  sS (iB X'.K) (lZ X' (zl wa zm)) Z H λv H1=>sS (iB X'.K) (lZ X' (zl wb zm)) Z H1 λu H2=>C v u H2:=by
 let#[F,G,U,P,PX,h2,hw,h4,hx]:=q;show#[F,G,U,λrs O=>match rs with|[r]=>(zp (zB r O) λp=>bW p=true/\wb O (λy B=>zp (zB y B) λq=>p=q/\P res B) PX)|_=>False,PX,h2,hw,λrs O vs F1 H1 J s1 r1 hl L=>?_,hx];match rs,vs,L,r1,J with
 |[r],[v],L,r1,J=>
  let#[d,ed,h1,J]:=Ai J;let#[F2,s2,re,r2]:=AU (U':=[]) (Z':=[]) r1 hl L.1 ed;rw[qz,qz]at r2;show#[v,d,rfl,re.view r2.fr,h1,F2,G,O,λrs B=>match rs with|[r]=>(zp (zB r B) λq=>d=q/\P res B)|_=>False,PX,r2,J,λrs B us F3 H3 M s3 r3 h5 Y=>?_,hx.grow (s1.trans s2)];match rs,us,Y,r3,M with
  |[r],[u],Y,r3,M=>let#[d2,h6,h7,M]:=Ai M;subst h7;let#[F4,s4,h3,r4]:=AU (U':=[]) (Z':=[]) r3 h5 Y.1 h6;rw[qz,qz]at r4;show#[u,d,rfl,h3.view r4.fr,h1,hC _ _ (Of h1) (h4 _ B F4 H3 M (s1.trans (s2.trans (s3.trans s4))) r4)]
  |[],_,_,_,J=>show J.elim
  |[_],[],L,_,_=>show L.elim
  |[_],_::_::_,L,_,_=>show L.2.elim
  |_::_::_,_,_,_,J=>show J.elim
 |[],_,_,_,J=>show J.elim
 |[_],[],L,_,_=>show L.elim
 |[_],_::_::_,L,_,_=>show L.2.elim
 |_::_::_,_,_,_,J=>show J.elim
def JP:bootBuiltins "repr"=some (.builtin "repr"):=by decide+kernel
def PK(F:aR k X.A)(M:Gl X "repr")(L:X.mg "repr"=none)(ha:FE X a Y)(hb:FE X b O)(hs:starEach [a] X.env=[(false,eval a X.env)]:=by rfl)(B:starEach [b] X.env=[(false,eval b X.env)]:=by rfl):
  FT X (.Compare (.Call (.Name "repr" p) [a] [] pos1) [.NotEq] [.Call (.Name "repr" p2) [b] [] pos2] pos) (eE false Y O):=λpn xe J=>by
 show PT.imp (Jg (Fp (X:=wp X pn xe) (EK F)) (GN (X:=wp X pn xe) (Ky (X:=wp X pn xe) F) M L JP (Aa ha Ab hs pn xe J) ⋯ ⋯ hs (by rfl)) (GN (X:=wp X pn xe) (Ky (X:=wp X pn xe) F) M L JP (Aa hb Ab B pn xe J) ⋯ ⋯ B (by rfl)) (Ad _)) λZ H Q q=>?_;show QR (a:=a) (b:=b) (C:=λv u H2=>pD X.K v u H2 λz H3=>∃c,z=.bl c/\Q c H3) (λz H2 G hq=>?_) q;show#[.str z.cps.toList,.str z.cps.toList,.str rfl G,.str rfl G,rfl,zero_le _,false,by simp,hq]
section
variable{K:W.Frag}
def Kr(a:Array Nat):∀(n:Nat)(b:Array Nat),((List.replicate n a).foldl (·++·) b).toList=b.toList++(List.replicate n a.toList).flatten
 |0,b=>by simp
 |n+1,b=>by rw[List.replicate_succ,foldl_cons,Kr a n,List.replicate_succ,List.flatten_cons,toList_append,qp]
def Mf(z:0<=n):(Txt.mul x n).cps.toList=(List.replicate n.toNat x.cps.toList).flatten:=by
 unfold Txt.mul;by_cases h1:n<1
 .rw[show n=0 by lia];rfl
 .rw[qZ h1];by_cases h2:(n==1||x.length==0)=true
  .rw[qY h2];rw[or_eq_true,beq_iff_eq,beq_iff_eq]at h2;rcases h2 with h2|h2
   .subst h2;simp
   .let:x.cps.toList=[]:=by let e:x.cps.size=0:=h2;rw[<-List.length_eq_zero_iff];exact e
    rw[this];simp
  .rw[qZ h2];rw[Kr];simp
def nH:R2:=λx y H Q=>∃z n,x=.str z/\y=.int n/\0<=n/\n<=1000/\z.length<=500/\Q (.str (Txt.mul z n)) H
def Nx:OpR X (binaryOp .Mult) nH:=by
 intro zF s Z H x y v u Q I F B h;let#[z,n,rfl,rfl,Y,h1,G,q]:=h;let#[t,rfl]:=F;let#[L,rfl]:=B;show SB.mul #[?_,λh _=>?_,λh _=>?_] λJ k=>#[.str _,H,I.kept λ_ _ z=>z,#[_,rfl],q]
 .grind
 .let O:(9223372036854775807:Int)/1000<=(2^63-1)/n:=by rw[Int.le_ediv_iff_mul_le ∅];grind
  grind
 .let M:z.length*n.toNat<=500*1000:=mul_le_mul G ∅;simp only[Builtin.Str.tooLong,zf];lia
def PV:gA K (λx y H Q=>(rI lN λi j=>.int (i*j)) x y H Q\/nH x y H Q) bX:=by
 intro Z U F G H x y p q s Q B L J e M;unfold bX at e;split at e
 .rename_i l n;split at e
  .rename_i hc;cases e;let#[O,h1,hz]:=hc;let#[z,rfl,Y,_]:=L.str;let ey:y=.int n:=by
    rcases J with J|⟨_,_,_,_,e,_⟩|⟨_,_,_,_,_,e,_⟩|⟨_,_,_,_,_,e,_⟩
    .cases J;rfl
    .cases e
    .cases e
    .cases e
   subst ey;let h2:z.length=l.length:=by rw[<-Y];rfl
   show .inr #[z,n,rfl,rfl,O,h1,∅,?_];show M _ F H (zr.refl F) (B.push (.str ?_ ?_))
   .rw[Mf O,Y]
   .let h4:n.toNat*l.length<=1000*500:=mul_le_mul ∅ hz;let e5:∀m,((List.replicate m l).flatten).length=m*l.length:=λm=>by simp
    rw[e5];lia
  .cases e
 .show .inl (OY Z U F G H x y _ _ s Q B L J e M)
def Df(G:FE X a B)(F:FE X b z):FE X (.BinOp a .Mult b pos) (zx bX B z):=DY (λ_ _=>OpR.or LH Nx) PV G F
end
def dO(K:W.Frag)(f:Addr):FuncData:=match K.lookup f with
 |some ⟨_,_,.func d,_⟩=>d
 |_=>default
def Gc{K:W.Frag}(l:K.lookup f=some #[F,B,.func d,z]):dO K f=d:=by unfold dO;rw[l]
inductive Lk(K:W.Frag)(n:Str)(st:Stmt)(f:Addr):Prop
 |mk {oc kV dc pm cd ct:Value} {od an:Option Addr} {sl:Array (Option Value)} (a:W.nsIn K mainGlobals n=some (some (.ref f))) (l:K.lookup f=some ⟨oc,od,.func (W.fnOf n n (bS st) (aU st) (aA st) .none kV dc pm an cd ct),sl⟩)
  (c:W.codeIn K cd n=true) (k:W.keepIn K (.ref f)=true):Lk K n st f
structure Tx(K:W.Frag)(mg:Str->Option Value)(f:Addr)(n:Str)(st:Stmt)(ps:List Str):Prop where
 F:nB K n n st f (dO K f)
 m:mg n=some (.ref f)
 k:W.keepIn K (.ref f)=true
 b:Binds K (dO K f) ps []
def bo(n:Str)(st:Stmt)(ps:List Str):Prop:=∀(kV z F:Value)(G:Option Addr)(B ct:Value)(us:List Value),us.length=ps.length->bindArgs (W.fnOf n n (bS st) (aU st) (aA st) .none kV z F G B ct) #[us,[]]=pure (ps.zip us)
section
variable{K:W.Frag}{st:Stmt}
def Lk.mm(t:Lk K n st f)(X:K.In h)(G:h.Ns mainGlobals mg):mg n=some (.ref f):=by let#[a,l,c,k]:=t;show W.mg_of X G a
def Lk.tx(t:Lk K n st f)(X:K.In h)(G:h.Ns mainGlobals mg)(b:bo n st ps:=by intro _ _ _ _ _ _ us z;first|(let#[_,rfl]:=CB (l:=us) z;rfl)|(let#[_,_,rfl]:=CA (l:=us) z;rfl)|(let#[_,_,_,rfl]:=DC (l:=us) z;rfl)|(let#[_,_,_,_,rfl]:=DB (l:=us) z;rfl)|(let#[_,_,_,_,_,rfl]:=EJ (l:=us) z;rfl)):Tx K mg f n st ps:=by
 let#[a,l,c,k]:=t;let e:=Gc l;let F:=Iq l c k;show#[?_,W.mg_of X G a,k,?_]
 .rw[e];show F
 .rw[e];show F.binds b
def Lk.bt(t:Lk K n st f)(s:Shared)(v:Value)(b:bo n st [x]:=by intro _ _ _ _ _ _ us z;let#[_,rfl]:=CB (l:=us) z;rfl):BindsTo s (dO K f) #[[v],[]] [(x,v)]:=by let#[a,l,c,k]:=t;let e:=Gc l;rw[e];show .of_eq (b _ _ _ _ _ _ [v] rfl)
end
def BL{N P:List Str}{z:Scope}(a:z.kind=.function:=by rfl)(b:z.isCoroutine=false:=by rfl)(c:z.isGenerator=false:=by rfl)(d:N.Nodup:=by decide+kernel)(e:N.take P.length=P:=by rfl)(f:∀x∈P,z.names.lookup x=some .local\/z.names.lookup x=some .cell:=by decide+kernel)(g:∀y∈z.names,y.2≠.free:=by decide+kernel):aE N P z:=#[a,b,c,d,e,f,g]
abbrev iL(P:Program)(w:World)(K:W.Frag)(mg:Str->Option Value)(base:Heap)(af:Nat->Addr)(k i:Nat)(ps:List Str)(sp:Sp):Prop:=cW P w K mg base (eY P w) k (af i) (dO K (af i)) ps sp
def BX{K:W.Frag}{st:Stmt}(t:Tx K mg f x st ps)(Sc:aE N ps (aA st))
  (J:∀(B:Value)(A:Around)(z:List PySem.Env)(s:Shared)(H:Hp)(E:XK),aR k (A.deeper (envOfC x (aA st) s.heap.objs.size f B))->jH (dA (eY P w) P w K mg base N x (aA st) f B A z s H E) ks (aU st) F)(hn:ps.length=n:=by rfl)(G:N.length=m:=by rfl):
  cW P w K mg base (eY P w) (k+1) f (dO K f) ps (eG K (gB n m ks F) n):=HG t.F Sc hn G J
section
theorem fw(i:Nat)(G:X.N[i]?=some x:=by rfl)(B:rV X.env.scope x:=by first|show Or.inl rfl|show Or.inr (Or.inl rfl)|show Or.inr (Or.inr rfl))(F:(x==("__debug__":Str))=false:=by decide)
  (z:(x==("__classdict__":Str))=false:=by decide):FE X (.Name x pos) (zk i):=Mv G B F z
def Al(i:Nat)(z:X.N.Nodup)(F:i∉ks:=by decide)(hi:X.N[i]?=some x:=by rfl)(B:Loc X.env.scope x:=by first|show Or.inl rfl|show Or.inr rfl)(J:X.fn x=true\/X.env.scope.names.lookup x=some .local:=by show Or.inl rfl):FG X ks (.Name x pos) (FL.zo i):=Jp F (λj G=>FJ z G hi) hi B J
def En(i:Nat)(F:i∉ks:=by decide)(B:(X.N.zipIdx.all λp=>!(p.1==x)||p.2==i)=true:=by kernel_rfl)(hi:X.N[i]?=some x:=by rfl)(z:Loc X.env.scope x:=by first|show Or.inl rfl|show Or.inr rfl)(G:X.fn x=true\/X.env.scope.names.lookup x=some .local:=by first|show Or.inr rfl|show Or.inl rfl):FG X ks (.Name x pos) (FL.zo i):=Jp F (uq B) hi z G
variable{st:Stmt}
def As(ms:List Bool)(t:Tx X.K X.mg f x st ps)(Fk:cW X.prog X.w X.K X.mg X.base (eY X.prog X.w) k f (dO X.K f) ps (eG X.K G n))(L:aR j X.A)(ha:FA X (e::es) J)(M:k<=j:=by decide)(O:Gl X x:=by rfl)(z:∀ss P PX,G ss P PX->ss.length=n:=by show λ_ _ _ h=>h.1)
  (F:(x==("__debug__":Str))=false:=by decide)(Y:starEach (e::es) X.env=(false,eval e X.env)::starEach es X.env:=by rfl)(B:(backTo pos (starEach es X.env)).any (·.1)=false:=by rfl):
  FE X (.Call (.Name x p) (e::es) [] pos) (zz G ms J):=MU Fk (L.mono M) O t.m t.k t.b ha z F Y B
end
inductive Ci(K:W.Frag)(C Wb f:Addr)(q n:Str)(st:Stmt):Prop
 |mk {dd od an:Option Addr} {nm qn:Str} {bs sub:List Value} {ns:Addr} {sn:List Str} {ab:Bool} {col:Option Bool} {k0 k1 k2 k3 k5:Option Value} {oc kV dc pm cd ct:Value} {sl:Array (Option Value)}
  (a:K.lookup C=some (excClassObj nm qn C ns bs (.ref Wb::dB) true sn sub ab col dd k0 k1 k2 k3 k5 eA))
  (i:W.findIn K (.ref C) "__init__"=some (some (.ref f)))
  (l:K.lookup f=some #[oc,od,.func (W.fnOf "__init__" q (bS st) (aU st) (aA st) .none kV dc pm an cd ct),sl])
  (c:W.codeIn K cd q=true) (k:W.keepIn K (.ref f)=true) (t:W.typeIn K (.ref f)=some (.type "function"))
  (s:W.findIn K (.ref C) "__setattr__"=some (some (.builtin "object.__setattr__"))) (z:W.findIn K (.ref C) n=some none):Ci K C Wb f q n st
structure Ix(K:W.Frag)(C Wb f:Addr)(q n:Str)(st:Stmt)(ps:List Str):Prop where
 e:lK K C Wb f n
 F:nB K "__init__" q st f (dO K f)
 b:Binds K (dO K f) ps []
def Ci.ix{K:W.Frag}{C J f:Addr}{q n:Str}{st:Stmt}{ps:List Str}(t:Ci K C J f q n st)(w:W.excIn K J dB eA=true)
  (b:∀(kV B L:Value)(O:Option Addr)(G ct:Value)(us:List Value),us.length=ps.length->bindArgs (W.fnOf "__init__" q (bS st) (aU st) (aA st) .none kV B L O G ct) #[us,[]]=pure (ps.zip us):=by intro _ _ _ _ _ _ us M;(let#[_,_,rfl]:=CA (l:=us) M;rfl)):Ix K C J f q n st ps:=by
 let#[a,i,l,c,k,t,s,z]:=t;let e:=Gc l;let F:=Iq l c k;show#[#[#[_,_,_,_,_,_,_,_,_,_,_,_,_,_,a],w,i,t,s,z],?_,?_]
 .rw[e];show F
 .rw[e];show F.binds b
end FL
namespace FL
def gH(l:List D):Bool:=l.all cT||l.all (eS true)
open Classical in
def dC(l:List D)(d:D):List D:=if d∈l then l else l++[d]
def bL(l:List D):List D:=l.foldl dC []
def newS(l:List D):Option S:=if gH l=true/\l.length<=150 then some (.set (bL l))else none
def jO:List D->Option S
 |[.lst l]=>newS l
 |[.tup l]=>newS l
 |_=>none
def gQ:List D->Option S
 |[.set l]=>some (.sh (.int l.length))
 |ds=>bQ ds
def eJ:List Bool->List D->Prop
 |[],[]=>True
 |false::sh,.int _::r=>eJ sh r
 |true::sh,.str _::r=>eJ sh r
 |_,_=>False
def jF(sh:List Bool):D->Prop
 |.tup l=>eJ sh l
 |_=>False
open Classical in
def cH(l:List D):Option S:=if l.length<64/\(l.length<2\/(fL l).isSome=true\/(cO l).isSome=true\/∃sh,sh≠[]/\∀d∈l,jF sh d)then some (.lst ((dR l).map .sh))else none
def dJ:List D->Option S
 |[.lst l]=>cH l
 |[.set l]=>cH l
 |_=>none
@[inline]def Kd:D->D->Prop:=λa b=>(∃i j,a=.int i/\b=.int j)\/∃x y,a=.str x/\b=.str y
def Ef(i j:Int):bA (.int i) (.int j)=if i<j then .lt else if j<i then .gt else .eq:=by rw[bA]
def DL(x y:List Nat):bA (.str x) (.str y)=if x<y then .lt else if y<x then .gt else .eq:=by rw[bA]
def Ki(x y:List Nat):x<y\/y<x\/x=y:=by grind
def Fx(h:Kd a b):(bA a b=.lt/\bA b a=.gt)\/(bA a b=.gt/\bA b a=.lt)\/(a=b/\bA a b=.eq):=by
 rcases h with⟨i,j,rfl,rfl⟩|⟨x,y,rfl,rfl⟩
 .grind[Ef]
 .rw[DL,DL];grind
def LI(h:Kd a b)(h':Kd b c)(e:bA a b=.lt)(G:bA b c=.lt):bA a c=.lt:=by
 rcases h with⟨i,j,rfl,rfl⟩|⟨x,y,rfl,rfl⟩
 .rcases h' with⟨B,k,h1,rfl⟩|⟨x,y,h1,rfl⟩
  .grind[Ef,Int.lt_trans]
  .cases h1
 .rcases h' with⟨B,k,h1,rfl⟩|⟨F,z,h1,rfl⟩
  .cases h1
  grind[DL,List.lt_trans]
def FO(h:eJ sh (a::l))(h':eJ sh (b::m)):Kd a b/\∃z,eJ z l/\eJ z m:=by
 cases sh with
 |nil=>show h.elim
 |cons t sh=>
  cases t
  .cases a<;>first|exact h.elim|skip
   cases b<;>first|show h'.elim|skip
   show#[.inl #[_,_,rfl,rfl],sh,h,h']
  .cases a<;>first|exact h.elim|skip
   cases b<;>first|show h'.elim|skip
   show#[.inr #[_,_,rfl,rfl],sh,h,h']
def DM(h:eJ sh [])(h':eJ sh m):m=[]:=by
 cases sh with
 |nil=>cases m with
  |nil=>rfl
  |cons _ _=>show h'.elim
 |cons t _=>cases t<;>show h.elim
def Ph{sh z:List Bool}{l m:List D}(h:eJ sh l)(h':eJ z l):sh=z:=by
 induction l generalizing sh z with
 |nil=>
  cases sh with
  |nil=>cases z with
   |nil=>rfl
   |cons t _=>cases t<;>show h'.elim
  |cons t _=>cases t<;>show h.elim
 |cons a l F=>
  cases sh with
  |nil=>show h.elim
  |cons t sh=>cases z with
   |nil=>show h'.elim
   |cons B z=>cases t<;>cases B<;>cases a<;>first|show h.elim|show h'.elim|rw[F h h']
def GJ(a b:D)(l m:List D):aD (a::l) (b::m)=match bA a b with|.eq=>aD l m|o=>o:=by rw[aD];first|done|(cases bA a b<;>rfl)
def DO:∀{sh:List Bool}{l m:List D},eJ sh l->eJ sh m->(aD l m=.lt/\aD m l=.gt)\/(aD l m=.gt/\aD m l=.lt)\/(l=m/\aD l m=.eq)
 |sh,[],m,h,h'=>by rw[DM h h'];show .inr (.inr #[rfl,by rw[aD]])
 |sh,a::l,[],h,h'=>by cases DM h' h
 |sh,a::l,b::m,h,h'=>by
  let#[k,J,M,L]:=FO h h';rw[GJ,GJ];rcases Fx k with⟨B,G⟩|⟨B,G⟩|⟨rfl,B⟩
  .rw[B,G];show .inl #[rfl,rfl]
  .rw[B,G];show .inr (.inl #[rfl,rfl])
  .rw[B];rcases DO M L with⟨z,F⟩|⟨z,F⟩|⟨rfl,z⟩
   .show .inl #[z,F]
   .show .inr (.inl #[z,F])
   .show .inr (.inr #[rfl,z])
def IU:∀{sh:List Bool}{l m n:List D},eJ sh l->eJ sh m->eJ sh n->aD l m=.lt->aD m n=.lt->aD l n=.lt
 |sh,[],m,n,h,h',h'',e,_=>by rw[DM h h']at e;cases e
 |sh,a::l,[],n,h,h',h'',e,_=>by cases DM h' h
 |sh,a::l,b::m,[],h,h',h'',e,_=>by cases DM h'' h
 |sh,a::l,b::m,c::n,h,h',h'',e,e'=>by
  let#[k,G,Y,O]:=FO h h';let#[J,F,L,M]:=FO h' h'';let es:G=F:=Ph (m:=[]) O L;subst es;rw[GJ]at e e'⊢;rcases Fx k with⟨B,_⟩|⟨B,_⟩|⟨rfl,B⟩
  .rw[B]at e;rcases Fx J with⟨z,_⟩|⟨z,_⟩|⟨rfl,z⟩
   .rw[LI k J B z]
   .rw[z]at e';cases e'
   .rw[B]
  .rw[B]at e;cases e
  .rw[B]at e;rcases Fx J with⟨z,_⟩|⟨z,_⟩|⟨rfl,z⟩
   .rw[z]
   .rw[z]at e';cases e'
   .rw[B]at e';rw[B];show IU Y L M e e'
def Dy(h:eJ sh l)(h':eJ sh m):cS (.tup l) (.tup m)=!(aD m l==.lt):=by
 unfold cS;rw[show bA (.tup l) (.tup m)=aD l m by rw[bA]];rcases DO h h' with⟨z,B⟩|⟨z,B⟩|⟨rfl,z⟩
 .rw[z,B];rfl
 .rw[z,B];rfl
 .rw[z];rfl
def Fo(sh:List Bool):dW (jF sh) where
 tot a b ha hb:=by
  cases a<;>first|show ha.elim|skip
  cases b<;>first|show hb.elim|skip
  rw[Dy ha hb,Dy hb ha];rcases DO ha hb with⟨f1,f2⟩|⟨f1,f2⟩|⟨_,f1⟩
  .show .inl (by rw[f2];rfl)
  .show .inr (by rw[f1];rfl)
  .show .inr (by rw[f1];rfl)
 tr a b c ha hb hc:=by
  cases a<;>first|show ha.elim|skip
  cases b<;>first|show hb.elim|skip
  cases c<;>first|show hc.elim|skip
  rw[Dy ha hb,Dy hb hc,Dy ha hc];intro h1 h2;rcases DO ha hb with⟨f1,f2⟩|⟨f1,f2⟩|⟨rfl,f1⟩
  .rcases DO hb hc with⟨g1,g2⟩|⟨g1,g2⟩|⟨rfl,g1⟩
   .rcases DO ha hc with⟨k1,k2⟩|⟨k1,k2⟩|⟨rfl,k1⟩
    .rw[k2];rfl
    .rw[IU ha hb hc f1 g1]at k1;cases k1
    .rw[k1];rfl
   .rw[g2]at h2;cases h2
   .show h1
  .rw[f2]at h1;cases h1
  .show h2
 anti a b ha hb:=by
  cases a<;>first|show ha.elim|skip
  cases b<;>first|show hb.elim|skip
  rw[Dy ha hb,Dy hb ha];intro h1 h2;rcases DO ha hb with⟨f1,f2⟩|⟨f1,f2⟩|⟨rfl,f1⟩
  .rw[f1]at h2;cases h2
  .rw[f2]at h1;cases h1
  .rfl
section
variable{ι κ:Type}[DecidableEq κ](g:ι->κ)
def bI(l:List ι)(i:ι):List ι:=if g i∈l.map g then l else l++[i]
def gK(l:List ι):List ι:=l.foldl (bI g) []
def Ow{f:ι->D}(h:∀i j,f i=f j↔g i=g j)(l:List ι)(i:ι):dC (l.map f) (f i)=(bI g l i).map f:=by unfold dC bI;grind
def IR{f:ι->D}(h:∀i j,f i=f j↔g i=g j)(l:List ι):bL (l.map f)=(gK g l).map f:=by
 suffices ∀z:List ι,(l.map f).foldl dC (z.map f)=(l.foldl (bI g) z).map f from this []
 induction l with
 |nil=>show λ_=>rfl
 |cons i l B=>intro z;rw[qy,foldl_cons,Ow g h];show B _
def JC{l:List ι}{k:Nat}(h:k<l.length):gK g (l.take (k+1))=bI g (gK g (l.take k)) l[k]:=by unfold gK;rw[List.take_add_one,qh h,List.foldl_append];rfl
def EB:∀{l B:List ι}{i:ι},i∈l.foldl (bI g) B->i∈B\/i∈l
 |[],_,_,h=>.inl h
 |j::l,B,i,h=>by
  rw[foldl_cons]at h;rcases EB h with z|z
  .unfold bI at z;split at z
   .show .inl z
   .rcases qx.mp z with z|z
    .show .inl z
    .show .inr (qA.mpr (.inl (qu.mp z)))
  .show .inr (qk _ z)
def EC:∀(l z:List ι),(l.foldl (bI g) z).length<=z.length+l.length
 |[],_=>q8 _
 |j::l,z=>by
  rw[foldl_cons];let h1:=EC l (bI g z j);let h2:(bI g z j).length<=z.length+1:=by
   unfold bI;split
   .lia
   .rw[qq];show q8 _
  rw[qt];lia
end
def Pe:x∈dC l d↔x∈l\/x=d:=by
 unfold dC;split
 .rename_i h;show#[.inl,λz=>z.elim id λe=>e▸h]
 .rw[qx,qu]
theorem zgS:x∈bL l↔x∈l:=by
 suffices ∀z:List D,x∈l.foldl dC z↔x∈z\/x∈l from(this []).trans (by simp)
 induction l with
 |nil=>show λ_=>by simp
 |cons i l B=>intro z;rw[foldl_cons,B,Pe,qA,or_assoc]
def Rv(h:l.Nodup):(dC l d).Nodup:=by
 unfold dC;split
 .show h
 .rename_i z;show qw.mpr #[h,by simp,λa F b B=>by rw[qu.mp B];show λe=>z (e▸F)]
def RP(l:List D):(bL l).Nodup:=by
 suffices ∀z:List D,z.Nodup->(l.foldl dC z).Nodup from this [] .nil
 induction l with
 |nil=>show λ_ h=>h
 |cons i l B=>show λz h=>B _ (Rv h)
def NV(l:List D)(d:D):(dC l d).length<=l.length+1:=by
 unfold dC;split
 .lia
 .rw[qq];show q8 _
def Qq(l:List D):(bL l).length<=l.length:=by
 unfold bL
 suffices ∀z:List D,(l.foldl dC z).length<=z.length+l.length by simpa using this []
 induction l with
 |nil=>show λ_=>q8 _
 |cons i l B=>grind[foldl_cons,length_cons,dC,NV]
end FL
namespace FL
open PySem PySem.Spec PyProof.Rows L2
def Og(h:zw (kV k) u):u.scannable=true:=by
 cases k with
 |inl i=>let#[t,rfl]:=h;rfl
 |inr x=>let#[t,rfl]:=h;rfl
def Fy(I:Inv X zF Z H s)(e:H a=some (.set vs)):s.TypeIs (.ref a) "set":=by
 rcases I.hok a _ e with⟨_,⟨_,h1⟩|⟨_,_,_,o,_,_,_,h1,h2,_⟩|⟨_,_,_,_,o,_,_,_,h1,h2,_⟩⟩
 .show#[_,h1,rfl]
 .show#[o,h1,h2.1]
 .show#[o,h1,h2.1]
section
variable{K:W.Frag}
def tK(p:List aT×Addr):D:=.tup (p.1.map aQ)
def Re{a b:List aT}:D.tup (a.map aQ)=D.tup (b.map aQ)↔a=b:=#[λh=>by injection h with h;show He h,λh=>by rw[h]]
def On(r:aI K F x d)(h:eS true d=true):∃p:List aT×Addr,x=.ref p.2/\d=tK p/\F p.2=some (.tup (p.1.map kV)):=by
 cases r with
 |tup e r=>let#[ks,rfl,rfl]:=GF r h;show#[(ks,_),rfl,rfl,e]
 |_=>cases h
def JQ(r:zD K F xs l):l.all (eS true)=true->∃ps:List (List aT×Addr),xs=ps.map (λp=>V.ref p.2)/\l=ps.map tK/\∀p∈ps,F p.2=some (.tup (p.1.map kV)):=
 zD.ind (P:=λxs l=>l.all (eS true)=true->∃ps:List (List aT×Addr),xs=ps.map (λp=>V.ref p.2)/\l=ps.map tK/\∀p∈ps,F p.2=some (.tup (p.1.map kV))) (λ_=>#[[],rfl,rfl,λ_ z=>nomatch z]) (λa _ B h=>by
  rw[all_cons,and_eq_true]at h;let#[p,rfl,rfl,e]:=On a h.1;let#[ps,rfl,rfl,es]:=B h.2;show#[p::ps,rfl,rfl,λq G=>?_];rcases qA.mp G with rfl|z
  .show e
  .show es q z) r
end
def kf(p:List aT×Addr):List aT:=p.1
section
variable(X:Cx)(s:Shared)
@[inline]def JK(ks:List aT)(i:Nat)(h:Heap):Prop:=(∀b o,s.heap.get? b=some o->h.get? b=some o)/\∃xs:List (aT×Value),(gK id (ks.take i)).Perm (xs.map (·.1))/\ST.VSet (ST.ldOf X.w) (aH X.prog X.w) h s.heap.objs.size xs/\(i=0->h.get? s.heap.objs.size=some (ST.freshSet (ST.ldOf X.w)))
@[inline]def JT(ps:List (List aT×Addr))(i:Nat)(h:Heap):Prop:=(∀b o,s.heap.get? b=some o->h.get? b=some o)/\∃xs:List (List aT×Addr),(gK kf (ps.take i)).Perm xs/\ST.TRaw (ST.ldOf X.w) (tupleKind (aH X.prog X.w)) h s.heap.objs.size xs/\(i=0->h.get? s.heap.objs.size=some (ST.freshSet (ST.ldOf X.w)))
def JK.stay{ks:List aT}{i:Nat}{h h':Heap}(x:JK X s ks i h)(B:∀b o,b≠s.heap.objs.size+1->h.get? b=some o->h'.get? b=some o):JK X s ks i h':=by let#[k,xs,p,#[o,es,ep,t,J,r],z]:=x;let F:s.heap.objs.size≠s.heap.objs.size+1:=ne_of_lt (lt_succ_self _);show#[λb o e=>B b o (ne_of_lt (lt_succ_of_lt (ST.lt_of_get e))) (k b o e),xs,p,#[o,es,ep,t,B _ _ F J,r],λG=>B _ _ F (z G)]
def JT.stay{ps:List (List aT×Addr)}{i:Nat}{h h':Heap}(x:JT X s ps i h)(B:∀b o,b≠s.heap.objs.size+1->h.get? b=some o->h'.get? b=some o):JT X s ps i h':=by let#[k,xs,p,#[o,es,ep,t,J,r],z]:=x;let F:s.heap.objs.size≠s.heap.objs.size+1:=ne_of_lt (lt_succ_self _);show#[λb o e=>B b o (ne_of_lt (lt_succ_of_lt (ST.lt_of_get e))) (k b o e),xs,p,#[o,es,ep,t,B _ _ F J,r],λG=>B _ _ F (z G)]
end
def Iu:bootBuiltins "set"=some (.type "set"):=by decide+kernel
def Sh:isSubtype (.type "tuple") (.type "set")=pure false:=by rw[isSubtype_type];kernel_rfl
def Sb:isSubtype (.type "tuple") (.type "frozenset")=pure false:=by rw[isSubtype_type];kernel_rfl
theorem PH(hh:A.handled=none)(hu:A.units+20<cLine)(I:Inv X zF Z H s)(hT:s.TypeIs x T)(h3:isSubtype (.type T) (.type "set")=pure false)(h2:isSubtype (.type T) (.type "frozenset")=pure false)(h4:(Value.type T==Value.type "dict")=false)
  (W:ST.WalkOk X.prog X.w s x F.toArray.size (λi v=>F.toArray[i]?=some v))(rv:zC (ks.map kV) F)(hz:ks.length<=150)
  (h:∀s',Inv X zF Z (upd H s.heap.objs.size (.set ((gK id ks).map kV))) s'->Q (.ref s.heap.objs.size) s'):wpAny (model X.prog X.w) A (call (.type "set") [x]) Q E s:=by
 let hl:F.toArray.size=ks.length:=by rw[qr,<-rv.length,qo]
 refine ST.call_set (B:=A.units+20) (J:=JK X s ks) hh hT h3 h2 h4 W (λh e k=>#[k,[],.refl _,ST.vset_new e,λ_=>e]) (λi h h' hi x hk=>JK.stay X s x hk)
  (λA i v s' Q E hi hP⟨O,xs,p,S,z⟩ hQ hA=>?_) (q8 _) λh' tk⟨O,xs,p,S,z⟩ _ ht=>h _ ?_
 .rw[hl]at hi;let#[u,h6,ru]:=rv.get (i:=i) (x:=kV ks[i]) (by rw[qE,qh hi];rfl);let hv:v=u:=by grind
  subst hv;let h5:xs.length<=150:=by let h1:=p.length_eq;grind[EC,length_map,gK,bI,length_take,length_nil]
  let Y:∀{h':Heap},Heap.SameBut s.heap.objs.size s'.heap h'->∀b o,s.heap.get? b=some o->h'.get? b=some o:=λM b o e=>(M.2 b (ne_of_lt (ST.lt_of_get e))).trans (O b o e);let L:=JC (id:aT->aT) hi;show ST.setAddV (Gd ru) (Og ru) S h5 (λhm r=>hQ s'.heap _ r (le_succ _) (Heap.SameBut.refl _ _) #[O,xs,?_,S,λz=>nomatch z]) λhm h' ys M pm S' r=>hQ h' _ r (le_succ _) M #[Y M,ys,?_,S',λz=>nomatch z]
  .rw[L];unfold bI;grind
  .rw[L];unfold bI;rw[map_id,qZ (show¬id ks[i]∈gK id (ks.take i) from λz=>hm (p.mem_iff.mp z))];show(qM.trans (List.Perm.cons _ p)).trans (pm.map (·.1)).symm
 .rw[hl,List.take_length]at p;refine I.laid (t':=tk) O (q8 _) #[?_,?_]
  .grind[length_map,EC,gK,bI,length_nil]
  .cases ks with
   |nil=>show .inl #[rfl,z hl]
   |cons y ks=>
    show .inr (.inl #[λe=>?_,xs,?_,S])
    .have h1:∀(l G:List aT),G≠[]->l.foldl (bI id) G≠[]:=λl=>by
      induction l with
      |nil=>show λ_ h=>h
      |cons i l ih=>
       show λG h=>ih _ ?_;unfold bI;split
       .show h
       .simp
     show h1 ks (bI id [] y) (by unfold bI;simp) (List.map_eq_nil_iff.mp e)
    .let:=p.map kV;rw[qD]at this;show this
theorem Qi(hh:A.handled=none)(hu:A.units+20<cLine)(I:Inv X zF Z H s)(hT:s.TypeIs x T)(h9:isSubtype (.type T) (.type "set")=pure false)(h8:isSubtype (.type T) (.type "frozenset")=pure false)(e1:(Value.type T==Value.type "dict")=false)
  (W:ST.WalkOk X.prog X.w s x F.toArray.size (λi v=>F.toArray[i]?=some v))(rv:zC (ps.map λp=>V.ref p.2) F)(hp:∀p∈ps,H p.2=some (.tup (p.1.map kV)))(hz:ps.length<=150)
  (h:∀s',Inv X zF Z (upd H s.heap.objs.size (.set ((gK kf ps).map λp=>V.ref p.2))) s'->Q (.ref s.heap.objs.size) s'):wpAny (model X.prog X.w) A (call (.type "set") [x]) Q E s:=by
 let hl:F.toArray.size=ps.length:=by rw[qr,<-rv.length,qo]
 let M:∀{h:Heap},(∀b o,s.heap.get? b=some o->h.get? b=some o)->∀p∈ps,IsTupleKey (aH X.prog X.w) h p.1 p.2:=λk p O=>by let#[o,F,n,h1,r]:=Ff I.hok (hp p O);show#[o,F,n,k _ _ h1,r]
 have h6:∀{h:Heap}{i:Nat}{xs:List (List aT×Addr)},(∀b o,s.heap.get? b=some o->h.get? b=some o)->(gK kf (ps.take i)).Perm xs->∀p∈xs,IsTupleKey (aH X.prog X.w) h p.1 p.2:=λk pm p O=>by
  rcases EB kf (pm.mem_iff.mpr O)with z|z
  .cases z
  .show M k p (mem_of_mem_take z)
 refine ST.call_set (B:=A.units+20) (J:=JT X s ps) hh hT h9 h8 e1 W (λh e k=>#[k,[],.refl _,(ST.tset_new e).raw,λ_=>e]) (λi h h' hi x hk=>JT.stay X s x hk)
  (λA i v s' Q E hi hP⟨L,xs,p,S,z⟩ hQ hA=>?_) (q8 _) λh' tk⟨L,xs,p,S,z⟩ _ ht=>h _ ?_
 .rw[hl]at hi;let#[u,h7,ru]:=rv.get (i:=i) (x:=V.ref ps[i].2) (by rw[qE,qh hi];rfl);let hv:v=u:=by rw[List.getElem?_toArray,h7]at hP;exact(qf hP).symm
  subst hv;cases(show v=Value.ref ps[i].2 from ru);let e2:xs.length<=150:=by let h1:=p.length_eq;let h2:=EC kf (ps.take i) [];let h3:(gK kf (ps.take i)).length=((ps.take i).foldl (bI kf) []).length:=rfl;rw[qG,qv]at h2;lia
  let h5:∀{h':Heap},Heap.SameBut s.heap.objs.size s'.heap h'->∀b o,s.heap.get? b=some o->h'.get? b=some o:=λsb b o e=>(sb.2 b (ne_of_lt (ST.lt_of_get e))).trans (L b o e);let h4:=JC kf hi;show ST.setAddT ∅ (M L ps[i] (getElem_mem hi)) (S.full (h6 L p)) e2 (λhm tk r ht=>hQ s'.heap _ r ht (Heap.SameBut.refl _ _) #[L,xs,?_,S,λz=>nomatch z]) λhm h' ys tk r sb pm S' ht=>hQ h' _ r ht sb #[h5 sb,ys,?_,S'.raw,λz=>nomatch z]
  .rw[h4];unfold bI;rw[qY (show kf ps[i]∈_ from(p.map kf).mem_iff.mpr hm)];show p
  .rw[h4];unfold bI;rw[qZ (show¬kf ps[i]∈_ from λz=>hm ((p.map kf).mem_iff.mp z))];show(qM.trans (List.Perm.cons _ p)).trans pm.symm
 .rw[hl,List.take_length]at p;let Y:∀d xs,H d=some (HO.tup xs)->upd H s.heap.objs.size (.set ((gK kf ps).map λp=>V.ref p.2)) d=some (.tup xs):=λd xs z=>by rw[Ah (Cz z I.fresh)];exact z
  show I.laid (t':=tk) L (q8 _) #[?_,?_]
  .rw[qo];let:=EC kf ps [];let h3:(gK kf ps).length=(ps.foldl (bI kf) []).length:=rfl;rw[qv]at this;lia
  .cases ps with
   |nil=>show .inl #[rfl,z hl]
   |cons y ps=>
    show .inr (.inr #[λe=>?_,xs,p.map _,λq O=>?_,S])
    .have h1:∀(l G:List (List aT×Addr)),G≠[]->l.foldl (bI kf) G≠[]:=λl=>by
      induction l with
      |nil=>show λ_ h=>h
      |cons i l ih=>
       show λG h=>ih _ ?_;unfold bI;split
       .show h
       .simp
     show h1 ps (bI kf [] y) (by unfold bI;simp) (List.map_eq_nil_iff.mp e)
    .rcases EB kf (p.mem_iff.mpr O)with z|z
     .cases z
     .show Y _ _ (hp q z)
def pB(K:W.Frag):List V->Hp->VK->Prop:=λxs H Q=>∃a vs,xs=[.ref a]/\(bC K H a vs\/aV K H a vs)/\vs.length<=150/\
 ((∃ks:List aT,vs=ks.map kV/\∀p,H p=none->Q (.ref p) (upd H p (.set ((gK id ks).map kV))))\/
  ∃ps:List (List aT×Addr),vs=ps.map (λp=>V.ref p.2)/\(∀p∈ps,H p.2=some (.tup (p.1.map kV)))/\∀p,H p=none->Q (.ref p) (upd H p (.set ((gK kf ps).map λp=>V.ref p.2))))
def QX(J:aR k X.A):aK X (.type "set") (pB X.K):=by
 intro zF s Z H xs us Q I r h;let#[a,vs,rfl,G,O,h]:=h;let Y:X.A.units+20<cLine:=by let:=J.units;lia
 cases r with
 |cons r1 r2=>
  cases r2;cases r1;let go:∀{T:String}{z:List Value},s.TypeIs (.ref a) T->isSubtype (.type T) (.type "set")=pure false->isSubtype (.type T) (.type "frozenset")=pure false->(Value.type T==Value.type "dict")=false->ST.WalkOk X.prog X.w s (.ref a) z.toArray.size (λi v=>z.toArray[i]?=some v)->zC vs z->
    wpAny (model X.prog X.w) X.A (call (.type "set") [.ref a]) (EP X zF Z Q) X.xe s:=λ{T z} hT h1 h2 h3 W B=>by
   rcases h with⟨ks,rfl,q⟩|⟨ps,rfl,hp,q⟩
   .show PH J.hd Y I hT h1 h2 h3 W B ↑O λs' L=>#[.ref _,_,L,rfl,q _ I.fresh]
   .show Qi J.hd Y I hT h1 h2 h3 W B hp ↑O λs' L=>#[.ref _,_,L,rfl,q _ I.fresh]
  rcases G with G|G
  .obtain⟨z,B,M,_⟩:=I.list G;show go M.isList.typeIs F.sub_list_set F.sub_list_frozenset ⋯ (ST.walk_list M.isList) B
  .obtain⟨z,B,⟨o,e,c,n,d⟩,_⟩:=I.tuple G;let ht:s.heap.IsTuple a z.toArray:=#[o,e,c,n,d]
   show go #[o,e,c] Sh Sb ⋯ (ST.walk_tuple ht) B
section
variable{K:W.Frag}
def zD.of_all{ι:Type}{z:ι->V}{B:ι->D}:∀{l:List ι},(∀i∈l,aI K F (z i) (B i))->zD K F (l.map z) (l.map B)
 |[],_=>.nil
 |i::l,h=>.cons (h i qm) (zD.of_all λj G=>h j (qk _ G))
def zD.to_all{ι:Type}{B:ι->V}{G:ι->D}:∀{l:List ι},zD K F (l.map B) (l.map G)->∀i∈l,aI K F (B i) (G i)
 |[],_,_,h=>nomatch h
 |j::l,.cons a b,i,h=>by
  rcases qA.mp h with rfl|z
  .show a
  .show zD.to_all b i z
def Rel.newS{p:Addr}(z:Rel K U Z F G H)(B:H p=none)(r:zD K F vs l):Rel K (U++[some (.set l)]) (Z++[some (.ref p)]) F G (upd H p (.set vs)):=z.newO B (.st AQ r)
def NW:bT K (pB K) jO:=by
 intro Z U F G H vs ds s Q B Y e O;let#[d,v,rfl,rfl]:=Bg (λx y r=>by cases x<;>rfl) rfl Y e;let J:∀{a:Addr}{xs:List V}{l:List D},(bC K H a xs\/aV K H a xs)->zD K F xs l->newS l=some s->pB K [.ref a] H Q:=λ{a xs l} h2 r e=>by
  unfold newS at e;split at e
  .rename_i hc;cases e;show#[a,xs,rfl,h2,by rw[r.len];show hc.2,?_];let L:=hc.1;unfold gH at L;rw[or_eq_true]at L;rcases L with L|L
   .obtain⟨ks,rfl,rfl⟩:=GF r L;show .inl #[ks,rfl,λp M=>?_];rw[IR id (f:=aQ) λi j=>#[EA,λz=>by rw[show i=j from z]]]at O;show O _ F _ (zr.refl F) (B.newS M (zD.of_all λi hi=>zD.to_all r i ?_));rcases EB id hi with z|z
    .cases z
    .show z
   .obtain⟨ps,rfl,rfl,hf⟩:=JQ r L;show .inr #[ps,rfl,λp M=>B.fr _ _ (hf p M),λp M=>?_];rw[IR kf (f:=tK) λi j=>Re]at O;show O _ F _ (zr.refl F) (B.newS M (zD.of_all λi hi=>zD.to_all r i ?_));rcases EB kf hi with z|z
    .cases z
    .show z
  .cases e
 cases d with
 |lst l=>let#[a,xs,rfl,h1,r1]:=Y.1.lst B.fr;show J (.inl h1) r1 e
 |tup l=>let#[a,xs,rfl,h1,r1]:=Y.1.tup;show J (.inr (aV.of (B.fr _ _ h1))) r1 e
 |_=>cases e
def II(G:aR k X.A)(L:Gl X "set")(J:X.mg "set"=none)(F:bootBuiltins "set"=some (.type "set"))(O:FA X (e::es) B)(M:starEach (e::es) X.env=(false,eval e X.env)::starEach es X.env:=by rfl)(z:(backTo pos (starEach es X.env)).any (·.1)=false:=by rfl):FE X (.Call (.Name "set" p) (e::es) [] pos) (wB jO B):=
 Fz (λpn xe=>QX (X:=wp X pn xe) G) NW L J F O ⋯ ⋯ M z
def nJ(K:W.Frag):List V->Hp->VK->Prop:=λxs H Q=>(∃a vs,xs=[.ref a]/\H a=some (.set vs)/\Q (.int vs.length) H)\/pF K xs H Q
def Rm:aK X (.builtin "len") (nJ X.K):=λzF s Z H xs G Q I r h=>by
 rcases h with⟨a,vs,rfl,e,q⟩|h
 .cases r with
  |cons L J=>
   cases J;cases L;let B:∀n:Nat,n=vs.length->∀t,EP X zF Z Q (.int n t) {s with toks:=s.toks+1+1}:=λn M t=>#[.int n,H,I.kept λ_ _ z=>z,#[t,rfl],by rw[M];show q]
   rcases I.hok a _ e with⟨Y,⟨O,h1⟩|⟨_,xs,p,S⟩|⟨_,xs,p,_,S⟩⟩
   .show ST.VSet.len (K:=aT) (knd:=aH X.prog X.w) (ST.vset_new h1) (zero_le _) (B 0 (by rw[O];rfl) _)
   .let F:=p.length_eq;rw[qo]at F;show ST.VSet.len S ∅ (B _ F.symm _)
   .let F:=p.length_eq;rw[qo]at F;show ST.TRaw.len S ∅ (B _ F.symm _)
 .show Kj zF s Z H xs G Q I r h
def aS.set(r:aS K F H v (.set l)):∃a xs,v=.ref a/\F a=some (.set xs)/\zD K F xs l:=by
 rcases r with r|⟨_,_,_,_,e,_⟩|⟨_,_,_,_,_,e,_⟩|⟨_,_,_,_,_,e,_⟩
 .cases r with
  |st e r=>show#[_,_,rfl,e,r]
 .cases e
 .cases e
 .cases e
def Qx:bT K (nJ K) gQ:=by
 intro Z U F G H vs M s Q z B e J;let#[d,v,rfl,rfl]:=Bg (λx y r=>by cases x<;>rfl) rfl B e;cases d with
 |set l=>cases e;let#[a,xs,rfl,h1,L]:=aS.set B.1;show .inl #[a,xs,rfl,z.fr _ _ h1,by rw[L.len];show J _ F H (zr.refl F) (z.push (.int _))]
 |_=>show .inr (JE Z U F G H [v] _ s Q z B e J)
def Oq(G:Gl X "len")(F:X.mg "len"=none)(L:FA X (e::es) B)(J:starEach (e::es) X.env=(false,eval e X.env)::starEach es X.env:=by rfl)(z:(backTo pos (starEach es X.env)).any (·.1)=false:=by rfl):FE X (.Call (.Name "len" p) (e::es) [] pos) (wB gQ B):=
 Ek (λ_ _=>Rm) Qx G F PySem.boot_len L ⋯ ⋯ J z
end
def GG:∀l:List Nat,(∀x∈l,p x=true->q x=true)->l.countP p<=l.countP q
 |[],_=>q8 _
 |a::l,h=>by
  rw[countP_cons,countP_cons];let:=GG l λx z=>h x (qk _ z);cases e:p a with
  |true=>rw[h a qm e];lia
  |false=>simp;lia
def IF:∀l:List Nat,(∀x∈l,p x=true->q x=true)->(∃x,x∈l/\q x=true/\p x=false)->l.countP p<l.countP q
 |[],_,z=>by let#[_,z,_]:=z;cases z
 |a::l,h,z=>by
  rw[countP_cons,countP_cons];let#[x,B,F,G]:=z;by_cases e:x=a
  .subst e;let:=GG l λx B=>h x (qk _ B);rw[F];lia
  .let:=IF l (λx B=>h x (qk _ B)) #[x,(qA.mp B).resolve_left e,F,G];cases e:p a with
   |true=>rw[h a qm e];lia
   |false=>simp;lia
def oW(l:List D)(i:Nat):Int:=((List.range l.length).countP λj=>!cS (l.getD i .non) (l.getD j .non):Nat)
def HX(o:dW P)(Y:∀d∈l,P d)(hi:i<l.length)(O:j<l.length):decide (oW l i<oW l j)=!cS (l.getD j .non) (l.getD i .non):=by
 let B:∀k,k<l.length->P (l.getD k .non):=λk J=>by grind
 let F:=B i hi;let M:=B j O;unfold oW;cases e:cS (l.getD j .non) (l.getD i .non)with
 |false=>
  show qP (Int.ofNat_lt.mpr (IF _ (λk J h=>?_) #[i,qI.mpr hi,by rw[e];rfl,?_]))
  .have L:=B k (qI.mp J);cases q:cS (l.getD j .non) (l.getD k .non)with
   |false=>rfl
   |true=>
    let G:cS (l.getD i .non) (l.getD k .non)=false:=↑h
    rcases o.tot _ _ F M with z|z
    .rw[o.tr _ _ _ F M L z q]at G;cases G
    .rw[z]at e;cases e
  .rcases o.tot _ _ F F with z|z<;>rw[z]<;>rfl
 |true=>
  refine qQ λh=>?_;let:=GG (p:=λk=>!cS (l.getD j .non) (l.getD k .non)) (q:=λk=>!cS (l.getD i .non) (l.getD k .non)) (List.range l.length) λk J h=>by
   let L:=B k (qI.mp J);cases q:cS (l.getD i .non) (l.getD k .non)with
   |false=>rfl
   |true=>rw[o.tr _ _ _ M F L e q]at h;cases h
  lia
section
open PySem.W HT
theorem RO{ks F:List aT}(i:Nat)(r:zC (ks.map kV) us)(L:zC (F.map kV) vs)(h:eJ sh (ks.map aQ))(h':eJ sh (F.map aQ))(B:Q (aD (ks.map aQ) (F.map aQ)==.lt) s):KatLex prog w A b (decide (ks.length<F.length)) Q (us.zip vs) i s:=by
 induction ks generalizing us vs F i sh with
 |nil=>
  let e:F=[]:=by simpa using DM h h'
  subst e;cases r;show kat_nil B
 |cons k ks O=>cases F with
  |nil=>have e:=DM (m:=(k::ks).map aQ) h' h;cases e
  |cons j F=>
   rw[qy,qy]at B;let#[kd,h3,h1,h2]:=FO h h';let e:decide ((k::ks).length<(j::F).length)=decide (ks.length<F.length):=decide_eq_decide.2 Nat.succ_lt_succ_iff;rw[e];cases r with
   |@cons _ u _ us M r=>
    cases L with
    |@cons _ v _ vs J L=>
     cases k with
     |inl n=>
      let#[t,rfl]:=M;cases j with
      |inr y=>rcases kd with⟨_,_,_,z⟩|⟨_,_,z,_⟩<;>cases z
      |inl m=>
       let#[Y,rfl]:=J;show kat_cons (wpAny_eqBool_int ?_);let B:Q ((match bA (D.int n) (D.int m)with|.eq=>aD (ks.map aQ) (F.map aQ)|o=>o)==.lt) s:=B;rw[Ef]at B;by_cases nm:n=m
       .subst nm;rw[qZ (Int.lt_irrefl n),qZ (Int.lt_irrefl n)]at B;rw[show(n==n)=true by simp];show kat_yes (O (i+1) r L h1 h2 B)
       .rw[show(n==m)=false by simp[nm]];let G:Q (decide (n<m)) s:=by
         by_cases z:n<m
         .rw[qY z]at B;rw[qP z];show B
         .rw[qZ z,qY ∅]at B;rw[qQ z];show B
        show kat_no ?_;cases(b&&i==0)with
        |true=>show oneLt_int G
        |false=>show kat_one _ _ (PyProof.Rows.lt_int G)
     |inr x=>
      let#[t,rfl]:=M;cases j with
      |inl y=>rcases kd with⟨_,_,z,_⟩|⟨_,_,_,z⟩<;>cases z
      |inr y=>
       let#[Y,rfl]:=J;show kat_cons (wpAny_eqBool_str ?_);let B:Q ((match bA (D.str x.cps.toList) (D.str y.cps.toList)with|.eq=>aD (ks.map aQ) (F.map aQ)|o=>o)==.lt) s:=B;rw[DL]at B;by_cases nm:x=y
       .subst nm;rw[qZ (List.lt_irrefl _),qZ (List.lt_irrefl _)]at B;rw[qP rfl];show kat_yes (O (i+1) r L h1 h2 B)
       .rw[qQ nm];let G:Q (decide (x.cps.toList<y.cps.toList)) s:=by
         rcases Ki x.cps.toList y.cps.toList with z|z|z
         .rw[qY z]at B;rw[qP z];show B
         .rw[qZ (lt_asymm z),qY z]at B;rw[qQ (lt_asymm z)];show B
         .show absurd (EA (a:=.inr x) (b:=.inr y) (by show D.str _=D.str _;rw[z])) (λe=>nm (by cases e;rfl))
        show kat_no ?_;cases(b&&i==0)with
        |true=>show oneLt_str G
        |false=>show kat_one _ _ (PyProof.Rows.lt_str G)
def rW(h:Heap)(b:Addr)(ks:List aT):Prop:=∃us,zC (ks.map kV) us/\IsTup h b us.toArray
def BF:∀{ps:List (List aT×Addr)},(∀p∈ps,rW h p.2 p.1/\eJ (t::sh) (p.1.map aQ))->∃fs:List Value,KatTups h (ps.map λp=>Value.ref p.2) fs/\fs.length=ps.length/\∀v∈fs,if t then∃z u,v=Value.str z u else∃z u,v=Value.int z u
 |[],_=>#[[],.nil,rfl,λ_ z=>nomatch z]
 |(ks,b)::ps,hp=>by
  let#[fs,M,L,J]:=BF (ps:=ps) λp Y=>hp p (qk _ Y);let#[#[G,r,o,e,c,n,d],B]:=hp (ks,b) qm;cases ks with
  |nil=>cases t<;>show B.elim
  |cons k ks=>
   cases r with
   |@cons _ u _ G F r=>
    show#[u::fs,.cons e c d rfl M,by simp[L],λv O=>?_];rcases qA.mp O with z|z
    .subst z;cases t
     .cases k with
      |inl i=>let#[tk,rfl]:=F;show#[_,_,rfl]
      |inr x=>show B.elim
     .cases k with
      |inl i=>show B.elim
      |inr x=>let#[tk,rfl]:=F;show#[_,_,rfl]
    .show J v z
def Ke{L D:Addr}{Q:Shared->Prop}(F':Fr h₀ L s.heap m)(N':News h₀ L s.heap ((D,seqObj "list" #[] e1)::news))(hD:∀q∈news,q.1<D)
  (O:∀p∈ps,rW s.heap p.2 p.1/\eJ sh (p.1.map aQ))(h5:sh≠[])(h2:2<=ps.length)
  (h9:∀qs:List (List aT×Addr),qs.Perm ps->(qs.map tK).Pairwise (cS · ·=true)->∀J c,Fr h₀ L J m->News h₀ L J ((D,seqObj "list" (qs.map λp=>Value.ref p.2).toArray c)::news)->Q {s with heap:=J}):
  wpAny (model prog w) A (keyKind' (ps.map λp=>Value.ref p.2).toArray) (λκ s'=>(kas_sort (ps.map λp=>Value.ref p.2).length).kasWp (kas_ask prog w A κ (ps.map λp=>Value.ref p.2)) (λp B=>KasFin h₀ L m D e1 (p.toList.map λi=>(ps.map λp=>Value.ref p.2).getD i Value.none) Q B) s') (λ_ _=>False) s:=by
 cases sh with
 |nil=>show absurd rfl h5
 |cons t sh=>
  let#[fs,t1,t2,t3]:=BF O;let hk:∀d∈ps.map tK,jF (t::sh) d:=λd hd=>by let#[p,hp,rfl]:=qJ.mp hd;show(O p hp).2
  have hl:(ps.map tK).length=ps.length:=qo ..;let go:∀b,(kas_sort (ps.map λp=>Value.ref p.2).length).kasWp (kas_ask prog w A (tuples' b) (ps.map λp=>Value.ref p.2)) (λp B=>KasFin h₀ L m D e1 (p.toList.map λi=>(ps.map λp=>Value.ref p.2).getD i Value.none) Q B) s:=λb=>by
   show Kv (n:=ps.length) (rk:=oW (ps.map tK)) (P:=λp=>p.Perm (List.range ps.length).toArray/\lE (oW (ps.map tK)) p ps.length) (λi j C hi F Y=>?_) _ (by rw[qo];show Pz h2 λp a b=>#[a,b]) λp⟨p1,p2⟩=>?_
   .rw[HX (Fo (t::sh)) hk ∅ ∅]at Y;let M:∀i,i<ps.length->(ps.map tK).getD i .non=tK (ps.getD i ([],0)):=λi hi=>by simp[hi]
    let gV:∀i,i<ps.length->(ps.map λp=>Value.ref p.2).getD i Value.none=.ref (ps.getD i ([],0)).2:=λi hi=>by simp[hi]
    have gP:∀i,i<ps.length->ps.getD i ([],0)∈ps:=λi hi=>by
     let e:ps.getD i ([],0)=ps[i]:=by simp[hi]
     rw[e];show getElem_mem hi
    rw[M i hi,M j F]at Y;let#[#[us,r,o,e,c,n,d],ki]:=O _ (gP i hi);let#[#[h1,r',o',e',c',n',d'],kj]:=O _ (gP j F);rw[show cS (tK (ps.getD j ([],0))) (tK (ps.getD i ([],0)))=_ from Dy kj ki,Bool.not_not]at Y;unfold kas_ask;rw[gV i hi,gV j F];show kat_lt e d e' d' ?_;let l1:us.toArray.size=(ps.getD i ([],0)).1.length:=by rw[qr,<-r.length,qo]
    let l2:h1.toArray.size=(ps.getD j ([],0)).1.length:=by rw[qr,<-r'.length,qo]
    rw[l1,l2];show RO 0 r r' ki kj Y
   .have G:∀i∈p.toList,i<ps.length:=λi hi=>by let:=p1.mem_iff.mp (mem_toList_iff.mp hi);simpa using this
    let h4:p.size=ps.length:=by let:=p1.size_eq;simpa using this
    let pp:p.toList.Perm (List.range ps.length):=Array.perm_iff_toList_perm.mp p1;show KasFin.intro F' N' (.head λp hp=>ne_of_lt (hD p hp)) λJ c F3 N3=>h9 (p.toList.map λi=>ps.getD i ([],0)) ((pp.map _).trans (by rw[QP])) ?_ J c F3 ?_
    .rw[qD,pairwise_map];show List.pairwise_iff_getElem.mpr λi j hi F e2=>?_;let h6:j<ps.length:=by rw[<-h4];simpa using F
     let k:=p2 i j ∅ h6;let gi:∀i(h:i<p.toList.length),kA (oW (ps.map tK)) p i=oW (ps.map tK) p.toList[i]:=λi h=>by unfold kA;rw[getElem?_eq_getElem h];simp
     rw[gi i hi,gi j F]at k;let h8:=G _ (getElem_mem hi);let h7:=G _ (getElem_mem F);let:=HX (Fo (t::sh)) hk (i:=p.toList[j]) (j:=p.toList[i]) ∅ ∅;rw[qQ ∅]at this;let e:cS ((ps.map tK).getD p.toList[i] .non) ((ps.map tK).getD p.toList[j] .non)=true:=↑this.symm
     let M:∀i,i<ps.length->(ps.map tK).getD i .non=tK (ps.getD i ([],0)):=λi hi=>by simp[hi]
     rw[M _ h8,M _ h7]at e;show e
    .let eo:(p.toList.map λi=>(ps.map λp=>Value.ref p.2).getD i Value.none)=(p.toList.map λi=>ps.getD i ([],0)).map λp=>Value.ref p.2:=by rw[qD];show map_congr_left λi hi=>?_;simp[G i hi]
     rw[<-eo];show N3
  cases t
  .show kat_kind (T:=.type "int") t1 ∅ (λv hv=>?_) (by rfl) (go _);let#[z,u,rfl]:=t3 v hv;show Looks.of_pure rfl
  .show kat_kind (T:=.type "str") t1 ∅ (λv hv=>?_) (by rfl) (go _);let#[z,u,rfl]:=t3 v hv;show Looks.of_pure rfl
end
def Inv.laidD(I:Inv X zF Z H s)(hn:∀m,s.heap.Ns X.env.locals m->h'.Ns X.env.locals m)(k:∀b u,b≠X.env.locals->s.heap.get? b=some u->h'.get? b=some u)
  (L:s.heap.get? a=none)(new:zE X.prog X.w (upd H a o) h' a o):Inv X zF Z (upd H a o) {s with heap:=h',toks:=t',drawn:=d'}:=by
 have F:H a=none:=by
  cases e:H a with
  |none=>rfl
  |some u=>let#[v,z]:=zE.there (I.hok a u e);rw[L]at z;cases z
 refine I.step (g':=s.gens) (d':=d') (ch:=[]) (λ_ z=>nomatch z) (λb B J _ _ e _=>k b B J e) (λb B J _ _ e _=>#[B.slots,k b B J e]) (λb B _ e n=>by rw[Ah (λz=>by rw[z,L]at e;cases e)];show n)
  (λb B _ e=>?_) (λb xs q=>by rw[Ah (Cz q F)];show q) (λb u xs q=>by rw[Ah (Cz q F)];show q) (λb ps q=>#[#[],by rw[Ah (Cz q F),q];simp]) hn (λb B e=>?_) I.bare
 .by_cases G:b=X.env.locals
  .obtain⟨m,x,_⟩:=I.loc;let#[o',_,_,O,_]:=hn m x;show#[o',by rw[G];show O]
  .show#[B,k b B G e]
 .by_cases G:b=a
  .grind[AQ]
  .rw[Ah G]at e;show(I.hok b B e).stay (λc v M q=>k c v (λz=>?_) q) (λc q=>by rw[Ah (Cz q F)];show q) λc xs q=>by rw[Ah (Cz q F)];exact q
   rw[z]at M;rcases M with r|r
   .rw[<-r,I.free]at e;cases e
   .rw[I.free]at r;cases r
def Ng(h:eR k v=true):zw (kV k) v:=by
 rcases CY h with⟨i,t,rfl,rfl⟩|⟨x,t,rfl,rfl⟩
 .show#[t,rfl]
 .show#[t,rfl]
def KL(r:zC xs ys)(p:B.Perm ys):∃us,us.Perm xs/\zC us B:=by
 induction p generalizing xs with
 |nil=>cases r;show#[[],.refl _,.nil]
 |cons x _ L=>
  cases r with
  |cons z r=>let#[us,p,q]:=L r;show#[_::us,.cons _ p,.cons z q]
 |swap x y l=>
  cases r with
  |cons z r=>
   cases r with
   |cons F r=>show#[_,.swap _ _ _,.cons F (.cons z r)]
 |trans _ _ J G=>grind
def uR(X:Cx)(s:Shared)(a:Addr)(vs:List V):Prop:=∃es ep t us,ST.SetAt s.heap a es ep t/\ST.Rising t.place/\t.place.size=es.size/\(X.w.params.followText "set-order"=false->t.led=true)/\us.Perm vs/\zC us (es.toList.map (·.2))/\es.size=vs.length
def LZ(I:Inv X zF Z H s)(e:H a=some (.set vs)):uR X s a vs:=by
 let led:∀{t:SetTable},t.led=ST.ldOf X.w->X.w.params.followText "set-order"=false->t.led=true:=λe h=>by rw[e];unfold ST.ldOf;rw[h];rfl
 have M:∀{xs:List (aT×Value)},ST.VSet (ST.ldOf X.w) (aH X.prog X.w) s.heap a xs->vs.Perm (xs.map λp=>kV p.1)->uR X s a vs:=λ{xs} S p=>by
  let#[es,ep,t,h1,h2,L,J,z]:=S.at;let B:∀p∈xs,(aH X.prog X.w).is p.1 p.2=true/\p.2.scannable=true:=let⟨_,_,_,_,_,_,_,_,_,B,_⟩:=S;B
  have Y:zC (xs.map λp=>kV p.1) (es.toList.map (·.2)):=by
   rw[z]
   clear z p S
   induction xs with
   |nil=>show .nil
   |cons x xs F=>show .cons (Ng (B x qm).1) (F λq hq=>B q (qk _ hq))
  let hl:es.size=vs.length:=by let:=congrArg List.length z;rw[qo,qo,qT]at this;rw[p.length_eq,qo,this]
  show#[es,ep,t,_,h1,h2,L,led J,p.symm,Y,hl]
 rcases I.hok a _ e with⟨hz,⟨h0,h1⟩|⟨_,xs,p,S⟩|⟨_,xs,p,O,S⟩⟩
 .show M (xs:=[]) (ST.vset_new h1) (by rw[h0];show .refl _)
 .show M S p
 .obtain⟨es,ep,t,h1,h2,L,J,z⟩:=(S.full λx G=>Ff I.hok (O x G)).at;refine#[es,ep,t,xs.map λp=>V.ref p.2,h1,h2,L,led J,p.symm,?_,?_]
  .rw[z]
   clear z p S O
   induction xs with
   |nil=>show .nil
   |cons x xs F=>show .cons rfl F
  .let:=congrArg List.length z;rw[qo,qo,qT]at this;rw[p.length_eq,qo,this]
def PB{α:Type}{l m:List α}(p:l.Perm m)(h:m.length<2):l=m:=by
 match m,h with
 |[],_=>show p.eq_nil
 |[a],_=>show p.eq_singleton
def GQ{ι β:Type}{f:ι->β}{us:List β}{ns:List ι}(p:us.Perm (ns.map f)):∃ms:List ι,us=ms.map f/\ms.Perm ns:=by
 induction us generalizing ns with
 |nil=>simp_all
 |cons u us F=>let#[n,G,rfl]:=qJ.mp (p.mem_iff.mp qm);let#[B,z,rfl]:=List.append_of_mem G;rw[map_append]at p;let#[ms,rfl,q]:=F (ns:=B++z) (by rw[map_append];show(p.trans perm_middle).cons_inv);show#[n::ms,rfl,(List.Perm.cons n q).trans perm_middle.symm]
def GA:∀{ps:List (List aT×Addr)}{z:List Value},zC (ps.map λp=>V.ref p.2) z->z=ps.map λp=>Value.ref p.2
 |[],_,.nil=>rfl
 |p::ps,_,.cons r t=>by let e:_=Value.ref p.2:=r;rw[e,GA t];rfl
def Gr:∀ps:List (List aT×Addr),zC (ps.map λp=>V.ref p.2) (ps.map λp=>Value.ref p.2)
 |[]=>.nil
 |_::ps=>.cons rfl (Gr ps)
section
variable{K:W.Frag}
def pG(vs:List V)(H:Hp)(Q:VK):Prop:=
 (vs.length<2/\∀q,H q=none->Q (.ref q) (upd H q (.lst vs)))\/
 (∃ns:List Int,vs=ns.map V.int/\ns.length<64/\∀B:List Int,B.Perm ns->B.Pairwise (·<=·)->∀q,H q=none->Q (.ref q) (upd H q (.lst (B.map V.int))))\/
 (∃F:List Str,vs=F.map V.str/\F.length<64/\∀z:List Str,z.Perm F->sortedS z=true->∀q,H q=none->Q (.ref q) (upd H q (.lst (z.map V.str))))\/
 ∃(ps:List (List aT×Addr))(sh:List Bool),vs=ps.map (λp=>V.ref p.2)/\2<=ps.length/\ps.length<64/\(∀p∈ps,H p.2=some (.tup (p.1.map kV))/\eJ sh (p.1.map aQ))/\sh≠[]/\∀G:List (List aT×Addr),G.Perm ps->(G.map tK).Pairwise (cS · ·=true)->∀q,H q=none->Q (.ref q) (upd H q (.lst (G.map λp=>V.ref p.2)))
def iA(K:W.Frag):List V->Hp->VK->Prop:=λxs H Q=>∃a vs,xs=[.ref a]/\(bC K H a vs\/H a=some (.set vs))/\pG vs H Q
def FZ{s:Shared}(F:Fr h₀ L s.heap m)(F':Fr h₀ L h' m)(G:News h₀ L h' (rest h₀ L s.heap)):∀b u,b≠L->s.heap.get? b=some u->h'.get? b=some u:=λb u B e=>by
 cases z:h₀.get? b with
 |some o=>rw[F.keep b o z]at e;rw[<-e];show F'.keep b o z
 |none=>show(G (b,u) (zbq.mpr #[e,B,z])).1
def Jm(I:Inv X zF Z H s)(k:∀b u,b≠X.env.locals->s.heap.get? b=some u->h'.get? b=some u){p:List aT×Addr}(e:H p.2=some (.tup (p.1.map kV))):rW h' p.2 p.1:=by let#[B,r,#[o,e,c,n,d],_]:=I.tuple (aV.of e);show#[B,r,o,k p.2 o (λz=>?_) e,c,n,d];let#[m,#[o',es,ep,F,G,_],_]:=I.loc;grind
def QJ(hh:X.A.handled=none):aK X (.builtin "sorted") (iA X.K):=by
 intro zF s Z H xs us Q I r h;let#[a,vs,rfl,O,h]:=h;cases r with
 |cons r1 r2=>
  cases r2;cases r1;rcases O with O|O
  .rcases h with⟨h2,q⟩|⟨ns,rfl,G,q⟩|⟨zs,rfl,G,q⟩|⟨ps,sh,rfl,h2,G,J,e2,q⟩
   .show RK zF s Z H [.ref a] [.ref a] Q I (.cons rfl .nil) #[a,vs,rfl,O,h2,q]
   .show Lc zF s Z H [.ref a] [.ref a] Q I (.cons rfl .nil) #[a,rfl,.inl #[ns,G,O,q]]
   .show Lc zF s Z H [.ref a] [.ref a] Q I (.cons rfl .nil) #[a,rfl,.inr #[zs,G,O,q]]
   .obtain⟨hr,rv,pl,_⟩:=I.list O;let hv:=GA rv;subst hv;let#[m,F]:=I.fr;let N:News X.base X.env.locals s.heap (rest X.base X.env.locals s.heap):=λp J=>zbq.mp J;show W.kat_sorted F N pl.isList (by rw[qo];show h2) (by rw[qo];show G) λD e1 h' F' N' hD=>?_;let tl:∀{h':Heap}{d o news},News X.base X.env.locals h' ((d,o)::news)->News X.base X.env.locals h' news:=λN p J=>N p (qk _ J);let B:s.heap.get? D=none:=by
     cases e:s.heap.get? D with
     |none=>rfl
     |some u=>let#[_,n1,n2]:=N' (D,seqObj "list" #[] e1) qm;show absurd (hD (D,u) (zbq.mpr #[e,n1,n2])) (lt_irrefl _)
    show Ke (s:={s with heap:=h'}) F' N' hD (λp Y=>#[Jm I (FZ F F' (tl N')) (J p Y).1,(J p Y).2]) e2 h2 λqs pq pw h3 c F3 N3=>?_;show#[.ref D,_,Inv.laidD (s:=s) (t':=s.toks) (d':=s.drawn) (o:=.lst (qs.map λp=>V.ref p.2)) I (λm' x=>by rw[HW x F.ns];show F3.ns) (FZ F F3 (tl N3)) B ?_,rfl,q qs pq pw D ?_]
    .show#[by rw[qo,pq.length_eq,zf];lia,_,c,Gr qs,(N3 (D,_) qm).1]
    .cases e:H D with
     |none=>rfl
     |some u=>let#[v,z]:=zE.there (I.hok D u e);rw[B]at z;cases z
  .obtain⟨es,ep,t,us,h1,h2,h3,h4,pu,hv,hl⟩:=LZ I O
   --the end:a new list
   have e3:∀{s2:Shared}{D:Addr}{M:Array Value}{e:Nat}{ws:List V},zC ws M.toList->ws.length<=1000->s2.heap.get? D=some (seqObj "list" M e)->s.heap.get? D=none->(∀b o,s.heap.get? b=some o->s2.heap.get? b=some o)->s2.gens=s.gens->s2.os=s.os->(∀q,H q=none->Q (.ref q) (upd H q (.lst ws)))->EP X zF Z Q (.ref D) s2:=λ{s2 D M e ws} rv hw hD B hk hg ho q=>by
    let#[h2,g2,d2,t2,o2]:=s2;subst hg ho;show#[.ref D,_,Inv.laidD (s:=s) (t':=t2) (d':=d2) (o:=.lst ws) I (λm x=>x.at' λo e=>hk _ o e) (λb u _ e=>hk b u e) B ?_,rfl,q D ?_]
    .show#[by rw[zf];lia,M.toList,e,rv,by rw[toArray_toList];show hD]
    .cases e:H D with
     |none=>rfl
     |some u=>let#[v,z]:=zE.there (I.hok D u e);rw[B]at z;cases z
   have none_of:∀{L:Shared},(∀b o,s.heap.get? b=some o->L.heap.get? b=some o)->s.heap.get? L.heap.objs.size=none:=λ{L} hx=>by
    cases q:s.heap.get? L.heap.objs.size with
    |none=>rfl
    |some o=>show absurd (ST.lt_of_get (hx _ _ q)) (lt_irrefl _)
   rcases h with⟨h5,q⟩|⟨ns,rfl,G,q⟩|⟨zs,rfl,G,q⟩|⟨ps,sh,rfl,h5,G,J,e2,q⟩
   .show ST.sorted_set hh (Fy I O) h1 h2 h3 h4 ∅ λL ord h9 hx hg ho ht new=>?_;let#[ws,pw,h6]:=KL hv (h9.map (·.2));let ew:ws=vs:=PB (pw.trans pu) h5;subst ew;let hs:(ord.map (·.2)).length<2:=by rw[<-h6.length];exact h5
    show JH new hs #[_,rfl,?_];let#[e,he]:=ST.sortedHeap_at new (ord.map (·.2)).toArray;show e3 h6 ∅ he (none_of hx) (λb o e=>ST.sortedHeap_old (ne_of_lt (ST.lt_of_get (hx b o e))) (qc _ (hx b o e)) _) hg ho q
   .obtain⟨ms,rfl,pm⟩:=GQ pu;rw[qo]at hl;show ST.sorted_set_ints hh (Fy I O) h1 h2 h3 h4 ∅ (GV hv) λs2 D M e h8 a1 a2 a3 hD B hk hg ho ht=>e3 (Ei a1) (by rw[qo,a2.length_eq,pm.length_eq];lia) hD B hk hg ho (q h8 (a2.trans pm) a3)
   .obtain⟨ms,rfl,pm⟩:=GQ pu;rw[qo]at hl;show ST.sorted_set_strs hh (Fy I O) h1 h2 h3 h4 ∅ (Gb hv) λs2 D M e h8 a1 a2 a3 hD B hk hg ho ht=>e3 (GI a1) (by rw[qo,a2.length_eq,pm.length_eq];lia) hD B hk hg ho (q h8 (a2.trans pm) a3)
   .rw[qo]at hl;show ST.sorted_set hh (Fy I O) h1 h2 h3 h4 ∅ λL ord h9 hx hg ho ht new=>?_;let#[ws,pw,h6]:=KL hv (h9.map (·.2));let#[e4,rfl,pp]:=GQ (pw.trans pu);let hc:=GA h6;rw[hc]at new⊢;let#[m,F]:=I.fr;let N:News X.base X.env.locals s.heap (rest X.base X.env.locals s.heap):=λp J=>zbq.mp J;let h7:∀b o,s.heap.get? b=some o->(L.heap.push (seqObj "list" (e4.map λp=>Value.ref p.2).toArray 0)).get? b=some o:=λb o e=>qc _ (hx b o e);let hL:X.env.locals<L.heap.objs.size:=by let#[o',_,_,e',_]:=F.ns;exact ST.lt_of_get (hx _ _ e')
    have B:=none_of hx;let hm:X.base.get? L.heap.objs.size=none:=by
     cases q:X.base.get? L.heap.objs.size with
     |none=>rfl
     |some o=>rw[F.keep _ _ q]at B;cases B
    let hi:∀p∈rest X.base X.env.locals s.heap,p.1<L.heap.objs.size:=λp J=>ST.lt_of_get (hx _ _ (N p J).1);let tl:∀{h':Heap}{d o news},News X.base X.env.locals h' ((d,o)::news)->News X.base X.env.locals h' news:=λN p J=>N p (qk _ J);show W.kat_list_sort (s:={L with heap:=L.heap.push (seqObj "list" (e4.map λp=>Value.ref p.2).toArray 0)}) (news:=rest X.base X.env.locals s.heap) (F.kept h7) (N.grown h7) new (ne_of_gt hL) hm (λp J=>ne_of_lt (hi p J)) (by rw[qo,pp.length_eq];show h5) (by rw[qo,pp.length_eq];show G) λe1 h' F' N'=>?_;show Ke (s:={L with heap:=h'}) F' N' hi (λp Y=>#[Jm I (FZ F F' (tl N')) (J p (pp.mem_iff.mp Y)).1,(J p (pp.mem_iff.mp Y)).2]) e2 (by rw[pp.length_eq];show h5) λqs pq hb h3 c F3 N3=>#[_,rfl,?_]
    let#[hd,g1,d1,t1,o1]:=L;subst hg ho;show#[.ref _,_,Inv.laidD (s:=s) (t':=t1) (d':=d1) (o:=.lst (qs.map λp=>V.ref p.2)) I (λm' x=>by rw[HW x F.ns];show F3.ns) (FZ F F3 (tl N3)) B ?_,rfl,q qs (pq.trans pp) hb _ ?_]
    .show#[by rw[qo,pq.length_eq,pp.length_eq,zf];lia,_,c,Gr qs,(N3 (_,_) qm).1]
    .cases e:H hd.objs.size with
     |none=>rfl
     |some u=>let#[v,z]:=zE.there (I.hok _ u e);rw[B]at z;cases z
def KU(h:l.length<2):dR l=l:=by
 match l,h with
 |[],_=>rfl
 |[_],_=>rfl
def Ji:∀{sh:List Bool}{l:List D},eJ sh l->l.all cT=true
 |[],[],_=>rfl
 |[],_::_,h=>h.elim
 |t::_,[],h=>by cases t<;>show h.elim
 |t::sh,a::l,h=>by cases t<;>cases a<;>first|show h.elim|show Ji (sh:=sh) (l:=l) h
def QF:bT K (iA K) dJ:=by
 intro Z U F G H vs ds s Q B re e J;let#[d,v,rfl,rfl]:=Bg (λx y r=>by cases x<;>rfl) rfl re e;let O:∀{a:Addr}{xs:List V}{l:List D},(bC K H a xs\/H a=some (.set xs))->zD K F xs l->cH l=some s->iA K [.ref a] H Q:=λ{a xs l} h6 r e=>by
  unfold cH at e;split at e
  .rename_i hc;cases e;show#[a,xs,rfl,h6,?_];let#[M,hc]:=hc;let h8:=r.len;rcases hc with h2|hi|hs|⟨sh,h7,h3⟩
   .show .inl #[∅,λq L=>?_];rw[KU h2]at J;show J _ F _ (zr.refl F) (B.newLD L r)
   .obtain⟨ns,q1⟩:=isSome_iff_exists.mp hi;let#[e1,e2]:=Oi r q1;subst e1 e2;show .inr (.inl #[ns,rfl,by rwa[qo]at M,λh4 p pw q L=>?_]);rw[GS MZ (m:=h4.map D.int) (λd hd=>by let#[z,_,rfl]:=qJ.mp hd;trivial) (p.map _) (pairwise_map.mpr (pw.imp λ{a b} h=>by rw[Mx];show qP h))]at J;show J _ F _ (zr.refl F) (B.newLD L (GZ h4))
   .obtain⟨ys,q2⟩:=isSome_iff_exists.mp hs;let#[zs,e1,e2]:=IL r q2;subst e1;let#[e3,sm]:=Kz r rfl;subst e3;show .inr (.inr (.inl #[zs,rfl,by rwa[qo]at M,λY p pw q L=>?_]));rw[GS GE (m:=Y.map λz=>D.str z.cps.toList) (λd hd=>by let#[z,_,rfl]:=qJ.mp hd;trivial) (p.map _) (QU Y pw)]at J;show J _ F _ (zr.refl F) (B.newLD L (Kp Y λz hz=>sm z (p.mem_iff.mp hz)))
   .by_cases h2:l.length<2
    .show .inl #[∅,λq L=>?_];rw[KU h2]at J;show J _ F _ (zr.refl F) (B.newLD L r)
    .let h5:l.all (eS true)=true:=qH.mpr λd hd=>by let:=h3 d hd;cases d<;>first|exact this.elim|exact Ji this
     let#[ps,rfl,rfl,hf]:=JQ r h5;rw[qo]at M h2;show .inr (.inr (.inr #[ps,sh,rfl,∅,M,λp hp=>#[B.fr _ _ (hf p hp),h3 (tK p) (qJ.mpr #[p,hp,rfl])],h7,λqs pq pw q L=>?_]));rw[GS (Fo sh) h3 (pq.map tK) pw]at J;show J _ F _ (zr.refl F) (B.newLD L (zD.of_all λi hi=>zD.to_all r i (pq.mem_iff.mp hi)))
  .cases e
 cases d with
 |lst l=>let#[a,xs,rfl,h1,r1]:=re.1.lst B.fr;show O (.inl h1) r1 e
 |set l=>let#[a,xs,rfl,h1,r1]:=aS.set re.1;show O (.inr (B.fr _ _ h1)) r1 e
 |_=>cases e
def JN(G:aR k X.A)(L:Gl X "sorted")(J:X.mg "sorted"=none)(F:bootBuiltins "sorted"=some (.builtin "sorted"))(O:FA X (e::es) B)(M:starEach (e::es) X.env=(false,eval e X.env)::starEach es X.env:=by rfl)(z:(backTo pos (starEach es X.env)).any (·.1)=false:=by rfl):FE X (.Call (.Name "sorted" p) (e::es) [] pos) (wB dJ B):=
 Ek (λpn xe=>QJ (X:=wp X pn xe) G.hd) QF L J F O ⋯ ⋯ M z
end
def lO(c:Nat):Nat:=if 97<=c/\c<=122 then c-32 else c
def ME:∀c:Fin 128,Unicode.upperOf c.1=[lO c.1]:=by decide+kernel
def Qa{x:Str}(h:x.cps.toList.all (decide<|·<128)=true):placed x (λ_ c=>Unicode.upperOf c)=(x.cps.toList.map lO).toArray:=by
 apply Array.toList_inj.mp;unfold placed;let:∀l:List Nat,l.all (decide<|·<128)=true->(l.map λc=>(Unicode.upperOf c).toArray.toList).flatten=l.map lO:=by
  intro l;induction l with
  |nil=>intro _;rfl
  |cons c l B=>intro h;rw[all_cons,and_eq_true]at h;rw[qy,List.flatten_cons,B h.2,ME #[c,qS h.1]];rfl
 rw[<-this _ h];let z:∀l:List Nat,l.mapIdx (λ(_:Nat) c=>(Unicode.upperOf c).toArray)=l.map λc=>(Unicode.upperOf c).toArray:=λl=>by apply ext_getElem?;simp
 simp[z];rfl
def gZ(a:WE):WE:=λU Q E=>a U (λx z=>match x with
 |.v (.sh (.str l))=>(l.all (decide<|·<128)=true/\l.length<=big)/\Q (.v (.sh (.str (l.map lO)))) z
 |_=>False) E
def oX:V->List V->Hp->VK->Prop:=λx vs H Q=>∃z,x=.str z/\vs=[]/\z.cps.toList.all (decide<|·<128)=true/\z.cps.toList.length<=big/\Q (.str ⟨(z.cps.toList.map lO).toArray⟩) H
def Po:uW X "str.upper" oX:=by
 intro zF s Z H x vs v G Q I B F h;let#[z,rfl,rfl,h1,h2,q]:=h;cases F;let#[t,rfl]:=B;let e:=Qa h1;show call_gives PySem.F.slot_str_upper (typeIs_str s z t) PySem.F.entry_str_upper (PySem.F.args_str_upper_1 _) (gives_str_upper z t ?_) ?_
 .rw[e,qr,qo];show qQ (not_lt.mpr (le_trans h2 (by rw[zf];decide)))
 .rw[e];show#[?_,.str _,H,I.tok _,#[_,rfl],q];show(List.map lO z.cps.toList).toArray.size<=_;rw[qr,qo];show le_trans h2 ⋯
def Oa(ho:FE X o wo)(J:attributeBase o "upper" X.env (eval o X.env)=eval o X.env:=by rfl)(B:(apos.endLine==cpos.line)=true:=by rfl):FE X (.Call (.Attribute o "upper" apos) [] [] cpos) (gZ wo):=λpn xe hp=>by
 show PE.imp (MF (X:=wp X pn xe) PySem.F.plainAttrs_str PySem.F.slot_str_upper PySem.F.type_str_upper Po (ho pn xe hp) J B) λZ H Q q=>?_;let#[F,G,U,P,PX,Y,hw,h1,hx]:=q;show#[F,G,U,_,PX,Y,hw,λr L v F1 H1 M s1 O rv=>?_,hx];split at M
 .rename_i l;let#[v',fp,e1,sr]:=O.at (i:=L.length) (s:=.sh (.str l)) Eh;rw[Ag O,getElem?_append_right (q8 _)]at e1;let e2:v=v':=by simpa using e1
  subst e2;cases sr with
  |sh rr=>
   cases rr with
   |str e z=>subst e;show#[rfl,_,rfl,rfl,M.1.1,M.1.2,h1 _ L _ F1 H1 M.2 s1 ((O.drop (Ag O)).push (.str (by simp) (by rw[qo];show z))) trivial]
 .show M.elim
end FL
namespace FL
mutual
def mF:D->D->Bool
 |.int _,.int _=>true
 |.tup l,.tup m=>dS l m
 |_,_=>false
def dS:List D->List D->Bool
 |a::l,b::m=>mF a b&&dS l m
 |_,_=>true
end
end FL
namespace FL
open PySem PySem.Spec PyProof.Rows L2
open PySem.SeqAt AutoSeq1
def uJ:bA (.int i) (.int j)=if i<j then .lt else if j<i then .gt else .eq:=rfl
mutual
def OH:∀(d:D),mF d d=true->bA d d=.eq
 |.int i,_=>by rw[uJ,qZ (Int.lt_irrefl i),qZ (Int.lt_irrefl i)]
 |.tup l,h=>Kb l h
 |.non,h|.bl _,h|.str _,h|.lst _,h|.dct ..,h|.set _,h|.exc ..,h=>by cases h
def Kb:∀(l:List D),dS l l=true->aD l l=.eq
 |[],_=>by rw[aD]
 |d::l,h=>by rw[dS,and_eq_true]at h;rw[aD,OH d h.1];show Kb l h.2
end
mutual
def Mc:∀(d e:D),mF d e=true->bA d e=.eq->d=e
 |.int i,e,h,c=>by
  cases e with
  |int j=>
   rw[uJ]at c;split at c
   .cases c
   .split at c
    .cases c
    .rw[show i=j by lia]
  |_=>cases h
 |.tup l,e,h,c=>by
  cases e with
  |tup m=>rw[IQ l m h c]
  |_=>cases h
 |.non,_,h,_|.bl _,_,h,_|.str _,_,h,_|.lst _,_,h,_|.dct ..,_,h,_|.set _,_,h,_|.exc ..,_,h,_=>by cases h
def IQ:∀(l m:List D),dS l m=true->aD l m=.eq->l=m
 |[],[],_,_=>rfl
 |[],_::_,_,c=>by rw[aD]at c;cases c
 |_::_,[],_,c=>by rw[aD]at c;cases c
 |d::l,e::m,h,c=>by
  rw[dS,and_eq_true]at h;rw[aD]at c;cases q:bA d e with
  |eq=>rw[q]at c;rw[Mc d e h.1 q,IQ l m h.2 c]
  |lt=>rw[q]at c;cases c
  |gt=>rw[q]at c;cases c
end
mutual
def QC:∀(d e:D),mF d e=true->aM d e=false
 |.int i,e,h=>by cases e<;>first|rfl|cases h
 |.tup l,e,h=>by
  cases e with
  |tup m=>show La l m h
  |_=>cases h
 |.non,_,h|.bl _,_,h|.str _,_,h|.lst _,_,h|.dct ..,_,h|.set _,_,h|.exc ..,_,h=>by cases h
def La:∀(l m:List D),dS l m=true->bH l m=false
 |[],[],_=>rfl
 |[],_::_,_=>rfl
 |_::_,[],_=>rfl
 |d::l,e::m,h=>by rw[dS,and_eq_true]at h;show(aM d e||bH l m)=false;rw[QC d e h.1,La l m h.2];rfl
end
end FL
namespace FL
def uF(j:Nat)(i:WE):WG:=λs U Q=>zk j U (λx B=>i B (λy z=>zp (view y z) λq=>match x,q,slot z j with
 |.loc k,.int n,some (.lst l)=>k=j/\zp (ixN l.length n) λm=>Q (z.set j (some (.lst (l.set m s))))
 |_,_,_=>False) NX) NX
def fo(g:Bool)(o:Ordering):Bool:=g !=(o==.lt)
def eQ:D->D->Bool
 |.int _,.int _=>true
 |.str _,.str _=>true
 |_,_=>false
def dH:List D->List D->Bool
 |a::l,b::m=>eQ a b&&dH l m
 |_,_=>true
def fM(g:Bool):D->D->Option Bool
 |.tup l,.tup m=>if dH l m=true then some (fo g (aD l m))else none
 |_,_=>none
end FL
namespace FL
open PySem PySem.Spec PyProof.Rows L2
theorem HU(ho:FE X o (zk j))(hi:FE X i wi)
  (ha:∀v,assign (.Subscript o i tpos) X.env v=(do
   let ov<-holding [v] (eval o X.env)
   let iv<-holding [v,ov] (eval i X.env)
   standAt tpos
   holding [v,ov,iv] (setItem ov iv v)
   release [v,ov,iv] []):=by intro _;rfl):FG X ks (.Subscript o i tpos) (uF j wi):=λpn xe hp=>by
 show PG.imp (Io (X:=wp X pn xe) (ho pn xe hp) (hi pn xe hp) JG ha) λv Z H Q q=>?_;let#[F,G,U,t,P,zH,hw,n]:=q;let l1:=Ag zH;let#[G1,rel1,gg,back]:=zH.hide l1;show#[F,G1,U,_,_,rel1,hw,λy U2 o' F2 H2 hk2 s2 r2 rv2=>?_,λd U' Z' F' H' u s' z=>z.elim];let l2:=Ag r2;let#[G2,rel2,gg2,back2]:=r2.hide l2;show#[F2,G2,U2,_,_,rel2,hk2,λz U3 i' F3 H3 hk3 s3 r3 rv3=>?_,λd U' Z' F' H' u s' z=>z.elim];let l3:=Ag r3;let#[q,eq,hk4]:=Ai hk3;let r4:=back (s2.trans s3) (back2 s3 r3);simp only[qp,cons_append,nil_append]at r4;let ri:=Ap (U':=[zt y,some t]) (Z':=[some o',some v]) r4 l3 rv3 eq;let r6:Rel X.K (U3++[some t]) (Z++[some v]) F3 G H3:=Rel.mid (U:=U3) (Z:=Z) (Rel.mid (U:=U3) (Z:=Z) r4 l3) l3;cases y with
 |v y0=>show hk4.elim
 |loc k=>
  cases q with
  |int m=>
   cases qs:slot U3 j with
   |none=>simp only[qs]at hk4
   |some sj=>
    cases sj with
    |lst l=>
     simp only[qs]at hk4;let#[rfl,hk4]:=hk4;let#[w,ew,hnx]:=Ai hk4;let hZ:Z[k]?=some (some o'):=rv2;let#[v',fp,e1,sr]:=r6.at (i:=k) (s:=.lst l) (by rw[Ez (Eg qs)];show qs);let hkl:k<Z.length:=(qg.mp hZ).1;rw[getElem?_append_left hkl,hZ]at e1;let e2:o'=v':=↑e1
     subst e2;let hw:w<l.length:=by
      unfold ixN at ew;split at ew
      .split at ew
       .let e:=qf ew;lia
       .cases ew
      .split at ew
       .let e:=qf ew;lia
       .cases ew
     cases sr with
     |lst hD rl=>rename_i a xs fl;let#[xs',hD',zI,r7]:=Rel.setItem r6 qs hZ hw;rw[hD]at hD';cases hD';cases ri;show#[a,xs,m,w,rfl,rfl,hD,by rw[zI];show ew,n _ Z F3 _ hnx KP.refl (s2.trans s3) r7]
    |_=>simp[qs]at hk4
  |_=>show hk4.elim
def Ri:∀(d:D),eQ d d=true->bA d d=.eq
 |.int i,_=>by rw[Ef,qZ (Int.lt_irrefl i),qZ (Int.lt_irrefl i)]
 |.str l,h=>by rw[DL,qZ (List.lt_irrefl _),qZ (List.lt_irrefl _)]
def MP:∀(d e:D),eQ d e=true->bA d e=.eq->d=e
 |.int i,.int j,h,c=>by
  rw[Ef]at c;split at c
  .cases c
  .split at c
   .cases c
   .rw[show i=j by lia]
 |.str x,.str y,h,c=>by
  rw[DL]at c;rcases Ki x y with z|z|z
  .rw[qY z]at c;cases c
  .rw[qZ (lt_asymm z),qY z]at c;cases c
  .rw[z]
open PySem.SeqAt AutoSeq1
def sD:Bool->CmpOp
 |false=>.Lt
 |true=>.GtE
def zY(g:Bool)(A:Around)(s:Shared)(y x:Value)(b:Bool):Prop:=
 ∀(prog:Program)(w:World)(E:zj)(Q:zj),Q (.bool b) s->wpAny (model prog w) A (richCompare (sD g) y x) Q E s
open Classical in
def iJ(g:Bool)(A:Around)(s:Shared):List Value->List Value->List D->List D->Prop
 |v::vs,w::ws,d::ds,e::es=>(eQ d e=true/\EqAt A s v w (decide (d=e))/\zY g A s v w (fo g (bA d e)))/\iJ g A s vs ws ds es
 |[],ws,[],es=>ws.length=es.length
 |_::_,[],_::_,[]=>True
 |_,_,_,_=>False
def bG:Bool->Builtin
 |false=>Builtin.«tuple.__lt__»
 |true=>Builtin.«tuple.__ge__»
open Classical in
set_option maxHeartbeats 4000000 in
def QD(gg:Bool)(l b:Addr)(items items2:Array Value)(n n2:Nat)(dd dd2:Option Addr)(sl sl2:Array (Option Value))(ds es:List D)(z1:items.size=ds.length)(z2:items2.size=es.length):
  Meets (bG gg #[[.ref l,.ref b],[]])
   (λA R s=>s.heap.get? l=some {cls:=.type "tuple",dict:=dd,data:=.seq items n,slots:=sl}/\s.heap.get? b=some {cls:=.type "tuple",dict:=dd2,data:=.seq items2 n2,slots:=sl2}/\
    iJ gg A.in1 s items.toList items2.toList ds es/\R (.ok (.ret (.bool (fo gg (aD ds es))))) s):=by
 have fin:∀{A:Around}{s:Shared}{vs ws:List Value}{ds' es':List D},vs.zip ws=[]->iJ gg A s vs ws ds' es'->ds'.length+items2.size=es'.length+items.size->Value.bool (fo gg (aD ds' es'))=Builtin.Tuple.tupleCompareSizes (sD gg) items.size items2.size:=by
  intro A s vs ws ds' es' hz hL zI;let key:aD ds' es'=if items.size<items2.size then .lt else if items2.size<items.size then .gt else .eq:=by
   rcases vs with _|⟨v,vs⟩
   .rcases ds' with _|⟨d1,ds'⟩
    .let hL:ws.length=es'.length:=hL;rcases es' with _|⟨e1,es'⟩
     .simp at zI;rw[aD,zI];simp
     .rw[aD,qY (by simp at zI;lia)]
    .cases ws<;>show hL.elim
   .rcases ws with _|⟨w',ws⟩
    .rcases ds' with _|⟨d1,ds'⟩
     .show hL.elim
     .rcases es' with _|⟨e1,es'⟩
      .simp at zI;rw[aD,qZ ∅,qY ∅]
      .show hL.elim
    .rw[List.zip_cons_cons]at hz;cases hz
  rw[key];cases gg<;>simp[Builtin.Tuple.tupleCompareSizes,sD,fo]<;>grind
 have turn:∀{A:Around}{s:Shared}{v w:Value}{vs ws:List Value}{ds' es':List D},iJ gg A s (v::vs) (w::ws) ds' es'->∃d1 ds e1 es,ds'=d1::ds/\es'=e1::es/\EqAt A s v w (decide (d1=e1))/\iJ gg A s vs ws ds es/\(d1=e1->aD ds' es'=aD ds es)/\(d1≠e1->zY gg A s v w (fo gg (aD ds' es'))):=by
  intro A s v w vs ws ds' es' hL;rcases ds' with _|⟨d1,ds'⟩
  .show hL.elim
  rcases es' with _|⟨e1,es'⟩
  .show hL.elim
  let#[#[hk,he,ht],hL]:=hL;show#[d1,ds',e1,es',rfl,rfl,he,hL,λe=>?_,λe=>?_]
  .subst e;rw[aD,Ri d1 hk]
  .rw[aD];cases q2:bA d1 e1 with
   |eq=>show absurd (MP d1 e1 hk q2) e
   |lt=>rw[q2]at ht;show ht
   |gt=>rw[q2]at ht;show ht
 show .of_wp λprog w A R s h=>?_;let#[hp,g,d,tk,os]:=s;let#[hl,hb,hL,h]:=h;let f2:=AutoSeq1.sub_tuple_tuple;generalize iJ gg=LX at fin turn hL;generalize fo gg=ff at fin turn h;cases gg<;>simp only[bG,sD]at fin⊢<;>
 .wp_walk using wpAny_loadPart' hl,wpAny_loadPart' hb,wpAny_forIn_list _ (λrest b s'=>b.1=none/\s'=#[hp,g,d,tk,os]/\∃(vs ws:List Value)(ds' es':List D),rest=vs.zip ws/\
   LX A.in1 #[hp,g,d,tk,os] vs ws ds' es'/\ds'.length+items2.size=es'.length+items.size/\R (.ok (.ret (.bool (ff (aD ds' es'))))) #[hp,g,d,tk,os]) _
  case turn=>
   rintro⟨y,x⟩ rest b s' ⟨hb',rfl,vs,ws,ds',es',hz,hL,zI,hR⟩;rcases vs with _|⟨v,vs⟩
   .rw[List.zip_nil_left]at hz;cases hz
   .rcases ws with _|⟨w',ws⟩
    .rw[List.zip_nil_right]at hz;cases hz
    rw[List.zip_cons_cons]at hz;injection hz with hyx hrest
    injection hyx with hy hx
    subst hy hx;let#[d1,ds2,e1,es2,rfl,rfl,he,hL,k1,k2]:=turn hL;simp only[qt]at zI;show qa (he prog w _ _ ?_);by_cases q:d1=e1
    .rw[k1 q]at hR;simp only[qP q]
     wp_walk
     show#[rfl,rfl,_,_,_,_,hrest,hL,∅,hR]
    .simp only[qQ q];let hri:=k2 q prog w;simp only[sD]at hri
     wp_walk using hri
     show#[_,rfl,hR]
  case fin=>
   rintro⟨b1,b2⟩ s' ⟨hb',rfl,vs,ws,ds',es',hz,hL,zI,hR⟩;simp only at hb';subst hb';rw[fin hz.symm hL zI]at hR
   wp_walk
   show#[_,rfl,hR]
  case h=>show#[rfl,rfl,items.toList,items2.toList,ds,es,rfl,hL,∅,h]
end FL
namespace FL
open PySem PySem.Spec PyProof.Rows L2
open PySem.SeqAt AutoSeq1
section
variable{X:Cx}
def NZ{A:Around}{v u:V}{B F:Value}{d e:D}(g:Bool)(M:aI X.K H v d)(L:aI X.K H u e)(G:zw v B)(J:zw u F)(z:eQ d e=true):zY g A s B F (fo g (bA d e)):=by
 intro prog w E Q O;cases d with
 |int i=>
  cases e with
  |int j=>
   cases M;cases L;let#[t,rfl]:=G;let#[Y,rfl]:=J;rw[Ef]at O;cases g with
   |false=>show PyProof.Rows.lt_int (by grind[fo])
   |true=>show PyProof.Rows.ge_int (by grind[fo])
  |_=>cases z
 |str x=>
  cases e with
  |str y=>
   cases M with
   |str e1 z1=>
    cases L with
    |str e2 z2=>
     let#[t,rfl]:=G;let#[Y,rfl]:=J;subst e1 e2;rw[DL]at O;cases g with
     |false=>show PyProof.Rows.lt_str (by grind[fo])
     |true=>show PySem.P.ge_str (by grind[fo])
  |_=>cases z
 |_=>cases z
def RT:∀(d e:D),eQ d e=true->aM d e=false
 |.int _,.int _,_=>rfl
 |.str _,.str _,_=>rfl
def Qr:∀(d e:D),eQ d e=true->fY d<=0
 |.int _,.int _,_=>q8 _
 |.str _,.str _,_=>q8 _
def Nb(g:Bool){A:Around}(I:Inv X zF Z H s)(hu:A.units<cLine):∀{xs ys:List V}{us B:List Value}{l m:List D},zD X.K H xs l->zD X.K H ys m->zC xs us->zC ys B->dH l m=true->iJ g A s us B l m:=by
 intro xs;induction xs with
 |nil=>intro ys us B l m L J G F _;cases L;cases G;show F.length.symm.trans J.len
 |cons x xs ih=>
  intro ys us B l m L J G F z;cases L with
  |cons a1 b1=>
   cases G with
   |cons O d1=>
    cases J with
    |nil=>cases F;show trivial
    |cons Y b2=>
     cases F with
     |cons M d2=>rw[dH,and_eq_true]at z;show#[#[z.1,(Fe 0 (Qr _ _ z.1) I a1 Y O M (RT _ _ z.1) hu).1,NZ g a1 Y O M z.1],ih b1 b2 d1 d2 z.2]
def nG(K:W.Frag)(g:Bool):R2:=λx y H Q=>∃l m,aI K H x (.tup l)/\aI K H y (.tup m)/\dH l m=true/\Q (.bl (fo g (aD l m))) H
def Jh(g:Bool)(hu:X.A.units+31<cLine):OpR X (compareOp (sD g)) (nG X.K g):=by
 intro zF s Z H x y v u Q I rx ry h;let#[l,m,r1,r2,hc,hq]:=h;cases r1 with
 |tup e1 q1=>
  rename_i a1 x1;cases r2 with
  |tup e2 q2=>
   rename_i a2 x2;cases rx;cases ry;let#[L,Y,#[#[c1,d1,h2,J],F,rfl,k1,rfl],_]:=I.tuple (aV.of e1);let#[z,O,#[#[c2,d2,h1,G],B,rfl,k2,rfl],_]:=I.tuple (aV.of e2);let M:X.A.in1.units<cLine:=by show X.A.units+1<cLine;lia
   let go:=QD g a1 a2 L.toArray z.toArray k1 k2 d1 d2 J G l m (by rw[qr,<-Y.length,q1.len]) (by rw[qr,<-O.length,q2.len]);let sp:=Nb g I M q1 q2 Y O hc;cases g with
   |false=>show richCompare_meets_room (op:=.Lt) #[_,F,rfl] #[_,B,rfl] PySem.F.slot_tuple_lt PySem.F.entry_tuple_lt (PySem.F.args_tuple_lt_2 _ _) go #[F,B,sp,(λx=>nomatch x),#[.bl _,H,I,rfl,hq]] ∅
   |true=>show richCompare_meets_room (op:=.GtE) #[_,F,rfl] #[_,B,rfl] PySem.F.slot_tuple_ge PySem.F.entry_tuple_ge (PySem.F.args_tuple_ge_2 _ _) go #[F,B,sp,(λx=>nomatch x),#[.bl _,H,I,rfl,hq]] ∅
def KJ{K:W.Frag}:bD K (nG K g) (fM g):=by
 intro H x y p q k Q B z e F;unfold fM at e;split at e
 .split at e
  .rename_i h;cases e;show#[_,_,B,z,h,F]
  .cases e
 .cases e
end
end FL
namespace FL
def e_C:wC d U Q E=Q (.v (.sh d)) U:=rfl
def kV(o:Option S)(Q:WQ)(U:Env):Prop:=zp o λs=>Q (.v s) U
def e_V:kV (some s) Q U=Q (.v s) U:=rfl
def tY(o:D->D->Option S)(x y:Option D)(Q:WQ)(U:Env):Prop:=zp x λp=>zp y λq=>kV (o p q) Q U
def kY(o:D->D->Option S)(x:R)(Q:WQ):WQ:=λy z=>tY o (zB x z) (zB y z) Q z
def nQ(o:D->D->Option S)(b:WE)(Q:WQ)(E:WX):WQ:=λx z=>b z (kY o x Q) E
def zog:zx o a b U Q E=a U (nQ o b Q E) E:=rfl
def zkK:nQ o b Q E x U=b U (kY o x Q) E:=rfl
def pR(o:D->Option S)(x:Option D)(Q:WQ)(U:Env):Prop:=zp x λp=>kV (o p) Q U
def aj(o:D->Option S)(Q:WQ):WQ:=λx U=>pR o (zB x U) Q U
def e_Un{o:D->Option S}:nE o a U Q E=a U (aj o Q) E:=rfl
def znf{o:D->Option S}:aj o Q x U=pR o (zB x U) Q U:=rfl
def znt{o:D->Option S}:pR o (some p) Q U=kV (o p) Q U:=rfl
def kC(o:Option Bool)(Q:Bool->Env->Prop)(U:Env):Prop:=zp o λc=>Q c U
def e_Ck{c:Bool}:kC (some c) QT U=QT c U:=rfl
def fK(o:D->D->Option Bool)(x y:Option D)(Q:Bool->Env->Prop)(U:Env):Prop:=zp x λp=>zp y λq=>kC (o p q) Q U
def kX(o:D->D->Option Bool)(x:R)(Q:Bool->Env->Prop):WQ:=λy z=>fK o (view x z) (view y z) Q z
def nO(o:D->D->Option Bool)(b:WE)(Q:Bool->Env->Prop)(E:WX):WQ:=λx z=>b z (kX o x Q) E
def zn6:bF z a b U QT E=a U (nO z b QT E) E:=rfl
def zmm:nO z b QT E x U=b U (kX z x QT) E:=rfl
def zkr:fK z (some p) (some q) QT U=kC (z p q) QT U:=rfl
def rL(o':D->D->Option Bool)(y:R)(Q:Bool->Env->Prop):WQ:=λz B=>fK o' (view y B) (view z B) Q B
def mQ(o':D->D->Option Bool)(y:R)(c:WE)(Q:Bool->Env->Prop)(E:WX):Bool->Env->Prop:=λk z=>if k then c z (rL o' y Q) E else Q false z
def rM(o o':D->D->Option Bool)(x:R)(c:WE)(Q:Bool->Env->Prop)(E:WX):WQ:=λy z=>fK o (view x z) (view y z) (mQ o' y c Q E) z
def tV(o o':D->D->Option Bool)(b c:WE)(Q:Bool->Env->Prop)(E:WX):WQ:=λx z=>b z (rM o o' x c Q E) E
def e_Ch:cA B z a b c U QT E=a U (tV B z b c QT E) E:=rfl
def zni:tV B z b c QT E x U=b U (rM B z x c QT E) E:=rfl
def zo4:rM B z x c QT E y U=fK B (view x U) (view y U) (mQ z y c QT E) U:=rfl
def zlk:mQ z y c QT E true U=c U (rL z y QT) E:=rfl
def zle:mQ z y c QT E false U=QT false U:=rfl
def znS:rL z y QT x U=fK z (view y U) (view x U) QT U:=rfl
def iD(x:Option D)(Q:Bool->Env->Prop)(U:Env):Prop:=zp x λp=>kC (gF p) Q U
def nN(Q:Bool->Env->Prop):WQ:=λx U=>iD (view x U) Q U
def zk8:dP a U QT E=a U (nN QT) E:=rfl
def zi3:nN QT x U=iD (view x U) QT U:=rfl
def ziX:iD (some p) QT U=kC (gF p) QT U:=rfl
def rP(b:WT)(Q:Bool->Env->Prop)(E:WX):Bool->Env->Prop:=λc z=>if c then b z Q E else Q false z
def zoL:eK t u U QT E=t U (rP u QT E) E:=rfl
def zlg:rP u QT E true U=u U QT E:=rfl
def zk4:rP u QT E false U=QT false U:=rfl
def yU(b:WT)(Q:Bool->Env->Prop)(E:WX):Bool->Env->Prop:=λc z=>if c then Q true z else b z Q E
def e_Or:lT t u U QT E=t U (yU u QT E) E:=rfl
def zob:yU u QT E true U=QT true U:=rfl
def znJ:yU u QT E false U=u U QT E:=rfl
def tR(Q:Bool->Env->Prop):Bool->Env->Prop:=λc z=>Q (!c) z
def zm7:fE t U QT E=t U (tR QT) E:=rfl
def zlV{c:Bool}:tR QT c U=QT (!c) U:=rfl
def tQ(Q:WQ):Bool->Env->Prop:=λc z=>Q (.v (.sh (.bl c))) z
def znN:dD t U Q E=t U (tQ Q) E:=rfl
def zlw{c:Bool}:tQ Q c U=Q (.v (.sh (.bl c))) U:=rfl
def fW(x:Option D)(b:WE)(Q:WQ)(E:WX)(U:Env):Prop:=match x with|some (.bl c)=>if c then b U Q E else Q (.v (.sh (.bl false))) U|_=>False
def nR(b:WE)(Q:WQ)(E:WX):WQ:=λx U=>fW (view x U) b Q E U
def zkP:iS a b U Q E=a U (nR b Q E) E:=rfl
def zi8:nR b Q E x U=fW (view x U) b Q E U:=rfl
def zjo:fW (some (.bl true)) b Q E U=b U Q E:=rfl
def zjs:fW (some (.bl false)) b Q E U=Q (.v (.sh (.bl false))) U:=rfl
def jC(x:Option D)(b:WE)(Q:WQ)(E:WX)(U:Env):Prop:=match x with|some (.bl c)=>if c then Q (.v (.sh (.bl true))) U else b U Q E|_=>False
def tP(b:WE)(Q:WQ)(E:WX):WQ:=λx U=>jC (view x U) b Q E U
def zo5:oB a b U Q E=a U (tP b Q E) E:=rfl
def zmu:tP b Q E x U=jC (view x U) b Q E U:=rfl
def zkM:jC (some (.bl true)) b Q E U=Q (.v (.sh (.bl true))) U:=rfl
def zkJ:jC (some (.bl false)) b Q E U=b U Q E:=rfl
def znb:zm U QA E=QA [] U:=rfl
def iE(r:R)(Q:List R->Env->Prop):List R->Env->Prop:=λz U=>Q (r::z) U
def kW(b:WA)(Q:List R->Env->Prop)(E:WX):WQ:=λr z=>b z (iE r Q) E
def zl6:zl a z U QA E=a U (kW z QA E) E:=rfl
def zjv:kW z QA E r U=z U (iE r QA) E:=rfl
def zjz:iE r QA rs U=QA (r::rs) U:=rfl
def uG(s:S):Option (List S×Env)->Option (List S×Env)
 |some (ss,U)=>some (s::ss,U)
 |none=>none
def zN(rs:List R):Option (S×Env)->Option (List S×Env)
 |some (s,U)=>uG s (aF rs U)
 |none=>none
def zoA:aF [] U=some ([],U):=rfl
theorem e_gA:aF (r::rs) U=zN rs (give r U):=by
 rw[aF];unfold zN;cases give r U with
 |none=>rfl
 |some z=>let#[s,B]:=z;show(match aF rs B with|some (ss,U2)=>some (s::ss,U2)|none=>none)=uG s (aF rs B);unfold uG;rfl
def zo2:zN rs (some (s,U))=uG s (aF rs U):=rfl
def zm5:uG s (some (ss,U))=some (s::ss,U):=rfl
def e_gv:give (.v s) U=some (s,U):=rfl
def iW(l:Bool)(x:Option (List S×Env))(Q:WQ):Prop:=zp (if l then x else none) λp=>Q (.v (.sh (.tup (p.1.map S.toD)))) p.2
def jD(l:Bool)(x:Option (List S×Env))(Q:WQ):Prop:=zp (if l then x else none) λp=>Q (.v (.lst p.1)) p.2
def cD(rs:List R):Bool:=decide (rs.length<=big)
def pS(Q:WQ):List R->Env->Prop:=λz U=>iW (cD z) (aF z U) Q
def rB(Q:WQ):List R->Env->Prop:=λz U=>jD (cD z) (aF z U) Q
theorem zoj:bE z U Q E=z U (pS Q) E:=by unfold bE pS iW cD;simp
def zkQ:pS Q rs U=iW (cD rs) (aF rs U) Q:=rfl
def zlh:iW true (some (ss,U)) Q=Q (.v (.sh (.tup (ss.map S.toD)))) U:=rfl
theorem zm0:dX z U Q E=z U (rB Q) E:=by unfold dX rB jD cD;simp
def zlH:rB Q rs U=jD (cD rs) (aF rs U) Q:=rfl
def zl7:jD true (some (ss,U)) Q=Q (.v (.lst ss)) U:=rfl
def e_l0:cD []=true:=rfl
def e_l1:cD [z]=true:=rfl
def e_l2:cD [B,z]=true:=rfl
def e_l3:cD [F,B,z]=true:=rfl
def e_l4:cD [G,F,B,z]=true:=rfl
def e_l6:cD [L,J,G,F,B,z]=true:=rfl
def e_vv:view (.v s) U=some s.toD:=rfl
def e_cv:zB (.v s) U=some s.toD:=rfl
def vC:Option S->Option D
 |some s=>if s.flat then some s.toD else none
 |none=>none
theorem e_cl:zB (.loc i) U=vC (slot U i):=by unfold zB vC;rfl
theorem zlZ(h:l.all S.isSh=true):vC (some (.lst l))=some (.lst (l.map S.toD)):=by show(if l.all S.isSh=true then some (S.toD (.lst l))else none)=_;rw[qY h,S.toD_lst]
theorem e_sh{l:List D}:(l.map S.sh).all S.isSh=true:=by simp[S.isSh]
theorem zaP{l:List D}:(l.map S.sh).map S.toD=l:=by rw[qD];show map_id l
theorem zoi:vC (some (.lst (l.map S.sh)))=some (.lst l):=by rw[zlZ e_sh,zaP]
def mI(o:Option S)(Q:WQ)(U:Env):Prop:=match o with|some (.sh d)=>Q (.v (.sh d)) U|_=>False
def mJ(o:Option S)(q:D)(Q:WQ)(U:Env):Prop:=match o with|some s=>mI (iG s q) Q U|none=>False
def kS(x:R)(o:Option D)(Q:WQ)(U:Env):Prop:=zp o λq=>match x with|.v s=>kV (iG s q) Q U|.loc i=>mJ (slot U i) q Q U
def mK(x:R)(Q:WQ):WQ:=λy z=>kS x (view y z) Q z
def rD(b:WE)(Q:WQ)(E:WX):WQ:=λx z=>b z (mK x Q) E
theorem e_Ix:cR a b U Q E=a U (rD b Q E) E:=by unfold cR rD mK kS mJ mI kV;rfl
def zor:rD b Q E x U=b U (mK x Q) E:=rfl
def znY:mK x Q y U=kS x (view y U) Q U:=rfl
def zmo:kS (.v s) (some q) Q U=kV (iG s q) Q U:=rfl
def zkg:kS (.loc i) (some q) Q U=mJ (slot U i) q Q U:=rfl
def zm3:mJ (some s) q Q U=mI (iG s q) Q U:=rfl
def znd:mI (some (.sh d)) Q U=Q (.v (.sh d)) U:=rfl
def zm8:iG (.sh (.tup l)) (.int z)=(atI l z).map S.sh:=rfl
def zmM:iG (.sh (.lst l)) (.int z)=(atI l z).map S.sh:=rfl
def zoD:iG (.sh (.str l)) (.int z)=(atI l z).map λc=>S.sh (.str [c]):=rfl
def zoT:iG (.lst l) (.int z)=atI l z:=rfl
def Fh(B:0<=z)(h:l[z.toNat]?=some v):atI l z=some v:=by let:z.toNat<l.length:=(qg.mp h).1;unfold atI ixN;rw[qY B,qY ∅];show h
theorem zox:atI (v::l) 0=some v:=Fh ⋯ rfl
theorem znu:atI (z::v::l) 1=some v:=Fh ⋯ rfl
def pA(s:S):Option (List S×Env)->Option (List S×Env)
 |some (ss,U)=>some (s::ss,U)
 |none=>none
theorem e_p0:bN ms [] U=some ([],U):=by cases ms<;>rfl
theorem e_pv:bN (h::ms) (.v s::rs) U=pA s (bN ms rs U):=by rw[bN];unfold pA;rfl
def pL(i:Nat)(o:Option S)(ms:List Bool)(rs:List R)(U:Env):Option (List S×Env):=match o with
 |some s=>pA s (bN ms rs (U.set i none))
 |none=>none
theorem e_pl:bN (true::ms) (.loc i::rs) U=pL i (slot U i) ms rs U:=by rw[bN];unfold pL pA;cases slot U i<;>rfl
def zoO:pL i (some s) ms rs U=pA s (bN ms rs (U.set i none)):=rfl
def e_pA:pA s (some (ss,U))=some (s::ss,U):=rfl
def e_b0:back ms [] ss U=U:=rfl
def e_bv{s t:S}:back (h::ms) (.v s::rs) (t::ss) U=back ms rs ss U:=rfl
def e_bl{t:S}:back (true::ms) (.loc i::rs) (t::ss) U=back ms rs ss (U.set i (some t)):=rfl
def kU(ms:List Bool)(rs:List R)(U:Env)(Q:WQ):S->List S->Prop:=λs z=>Q (.v s) (back ms rs z U)
def rN(ms:List Bool)(rs:List R)(U:Env)(E:WX):D->List S->Prop:=λx z=>E x (back ms rs z U)
def iF(f:WF)(ms:List Bool)(rs:List R)(o:Option (List S×Env))(Q:WQ)(E:WX):Prop:=zp o λp=>f p.1 (kU ms rs p.2 Q) (rN ms rs p.2 E)
def nP(f:WF)(ms:List Bool)(Q:WQ)(E:WX):List R->Env->Prop:=λz U=>iF f ms z (bN ms z U) Q E
def zmn:zz f ms z U Q E=z U (nP f ms Q E) E:=rfl
def zjV:nP f ms Q E rs U=iF f ms rs (bN ms rs U) Q E:=rfl
def zi9:iF f ms rs (some (ss,U)) Q E=f ss (kU ms rs U Q) (rN ms rs U E):=rfl
def zkT:kU ms rs U Q s ss=Q (.v s) (back ms rs ss U):=rfl
def vA:Option D->Option (List D)->Option (List D)
 |some d,some ds=>some (d::ds)
 |_,_=>none
def eO(rs:List R)(U:Env):Option (List D):=match rs with
 |[]=>some []
 |r::rs=>vA (zB r U) (eO rs U)
def GB:∀rs:List R,(rs.mapM λr=>zB r U)=eO rs U
 |[]=>rfl
 |r::rs=>by
  rw[List.mapM_cons,GB rs,eO];cases zB r U with
  |none=>rfl
  |some d=>cases eO rs U<;>rfl
def zmE:eO [] U=some []:=rfl
def e_vA:eO (r::rs) U=vA (zB r U) (eO rs U):=rfl
def znP:vA (some d) (some ds)=some (d::ds):=rfl
def rO(f:List D->Option S)(o:Option (List D))(Q:WQ)(U:Env):Prop:=zp o λz=>kV (f z) Q U
def kB(f:List D->Option S)(Q:WQ):List R->Env->Prop:=λz U=>rO f (eO z U) Q U
theorem e_B:wB f z U Q E=z U (kB f Q) E:=by unfold wB kB rO kV;simp only[GB]
def e_B1:kB f Q rs U=rO f (eO rs U) Q U:=rfl
def e_B2:rO f (some ds) Q U=kV (f ds) Q U:=rfl
def mH(f:List Nat->List D->Option S)(l:List Nat)(Q:WQ):List R->Env->Prop:=λz U=>rO (f l) (eO z U) Q U
def yV(f:List Nat->List D->Option S)(z:WA)(Q:WQ)(E:WX):WQ:=λx U=>match x with
 |.v (.sh (.str l))=>z U (mH f l Q) E
 |_=>False
theorem e_MS:sA f a z U Q E=a U (yV f z Q E) E:=by unfold sA yV mH rO kV;simp only[GB];all_goals rfl
def znR:yV f z Q E (.v (.sh (.str l))) U=z U (mH f l Q) E:=rfl
def zoF:mH f l Q rs U=rO (f l) (eO rs U) Q U:=rfl
def mR(j:Nat)(s:S)(o:Option S)(U:Env)(Q:WQ):Prop:=match o with
 |some (.lst l)=>l.length<big/\Q (.v (.sh .non)) (U.set j (some (.lst (l++[s]))))
 |_=>False
def mS(j:Nat)(o:Option (S×Env))(Q:WQ):Prop:=zp o λp=>mR j p.1 (slot p.2 j) p.2 Q
def mT(j:Nat)(Q:WQ):WQ:=λr U=>mS j (give r U) Q
def yY(j:Nat)(o:Option S)(a:WE)(U:Env)(Q:WQ)(E:WX):Prop:=match o with
 |some (.lst _)=>a U (mT j Q) E
 |_=>False
theorem e_Ap:cK j a U Q E=yY j (slot U j) a U Q E:=by unfold cK yY mT mS mR;rfl
def znp:yY j (some (.lst l)) a U Q E=a U (mT j Q) E:=rfl
def zn1:mT j Q r U=mS j (give r U) Q:=rfl
def zn3:mS j (some (s,U)) Q=mR j s (slot U j) U Q:=rfl
def zoJ:mR j s (some (.lst l)) U Q=(l.length<big/\Q (.v (.sh .non)) (U.set j (some (.lst (l++[s]))))):=rfl
def jA(j:Nat)(o:Option D)(p:Option S)(U:Env)(Q:WQ):Prop:=match o,p with
 |some (.int i),some (.lst l)=>zp (if l.length<=big then ixN l.length i else none) λk=>zp l[k]? λs=>Q (.v s) (U.set j (some (.lst (l.eraseIdx k))))
 |_,_=>False
def jB(j:Nat)(Q:WQ):WQ:=λr U=>jA j (view r U) (slot U j) U Q
def rA(j:Nat)(o:Option S)(a:WE)(U:Env)(Q:WQ)(E:WX):Prop:=match o with
 |some (.lst _)=>a U (jB j Q) E
 |_=>False
theorem zna:eM j a U Q E=rA j (slot U j) a U Q E:=by unfold eM rA jB jA;rfl
def zl4:rA j (some (.lst l)) a U Q E=a U (jB j Q) E:=rfl
def zll:jB j Q r U=jA j (view r U) (slot U j) U Q:=rfl
def Ih(G:0<=z)(F:l.length<=big)(h:l[z.toNat]?=some s)(B:Q (.v s) (U.set j (some (.lst (l.eraseIdx z.toNat))))):jA j (some (.int z)) (some (.lst l)) U Q:=by
 let:z.toNat<l.length:=(qg.mp h).1;let e:(if l.length<=big then ixN l.length z else none)=some z.toNat:=by unfold ixN;rw[qY F,qY G,qY ∅]
 show zp (if l.length<=big then ixN l.length z else none) _;rw[e,GX,h];show B
def qN(o:Option D)(Q:Option Int->Env->Prop)(U:Env):Prop:=match o with|some (.int i)=>Q (some i) U|_=>False
def aq(Q:Option Int->Env->Prop):WQ:=λx U=>qN (view x U) Q U
def zmW{Q:Option Int->Env->Prop}:dQ none U Q E=Q none U:=rfl
def e_Pt{Q:Option Int->Env->Prop}:dQ (some a) U Q E=a U (aq Q) E:=rfl
def zo3{Q:Option Int->Env->Prop}:aq Q x U=qN (view x U) Q U:=rfl
def znZ{Q:Option Int->Env->Prop}:qN (some (.int z)) Q U=Q (some z) U:=rfl
def pT(o:Option D)(l h:Option Int)(Q:WQ)(U:Env):Prop:=zp o λd=>kV (lP d l h) Q U
def pU(x:R)(l:Option Int)(Q:WQ):Option Int->Env->Prop:=λh U=>pT (zB x U) l h Q U
def pV(x:R)(hi:Option WE)(Q:WQ)(E:WX):Option Int->Env->Prop:=λl U=>dQ hi U (pU x l Q) E
def ak(lo hi:Option WE)(Q:WQ)(E:WX):WQ:=λx U=>dQ lo U (pV x hi Q E) E
def e_Sl:kH a lo hi U Q E=a U (ak lo hi Q E) E:=rfl
def zoX:ak lo hi Q E x U=dQ lo U (pV x hi Q E) E:=rfl
def zoC:pV x hi Q E l U=dQ hi U (pU x l Q) E:=rfl
def znh:pU x l Q h U=pT (zB x U) l h Q U:=rfl
def zoG:pT (some d) l h Q U=kV (lP d l h) Q U:=rfl
def vK(D:Ends)(k:Env->Prop):Ends:={D with nx:=k}
def e_nx:(vK D' K).nx=K:=rfl
def e_rt:(vK D' K).rt=D'.rt:=rfl
def e_ex:(vK D' K).ex=D'.ex:=rfl
def zlF:aY D' U=D'.nx U:=rfl
def zmZ:zy v w D' U=v (vK D' (w D')) U:=rfl
def yW(a b:WS)(D:Ends):Bool->Env->Prop:=λk U=>if k then a D U else b D U
def e_If:fG t v w D' U=t U (yW v w D') D'.ex:=rfl
def zn2:yW v w D' true U=v D' U:=rfl
def zom:yW v w D' false U=w D' U:=rfl
def zmN:aX a D' U=a U D'.rt D'.ex:=rfl
def ay(D:Ends):WQ:=λ_ U=>D.nx U
def zlf:wExpr a D' U=a U (ay D') D'.ex:=rfl
def zjj:ay D' r U=D'.nx U:=rfl
def kZ(g:WG)(D:Ends)(o:Option (S×Env)):Prop:=zp o λp=>g p.1 p.2 D.nx
def tZ(g:WG)(D:Ends):WQ:=λr U=>kZ g D (give r U)
def znL:zA g a D' U=a U (tZ g D') D'.ex:=rfl
def zkU:tZ g D' r U=kZ g D' (give r U):=rfl
def zlj:kZ g D' (some (s,U))=g s U D'.nx:=rfl
def kP(i j:Nat)(D:Ends)(s:S)(o:Option (S×Env)):Prop:=zp o λq=>D.nx ((q.2.set i (some s)).set j (some q.1))
def kQ(i j:Nat)(D:Ends)(t:R)(o:Option (S×Env)):Prop:=zp o λp=>kP i j D p.1 (give t p.2)
def tO(i j:Nat)(D:Ends):List R->Env->Prop:=λz U=>match z with
 |[r,t]=>kQ i j D t (give r U)
 |_=>False
theorem znI:kI i j z D' U=z U (tO i j D') D'.ex:=by unfold kI;congr 1
def zlE:tO i j D' [r,x] U=kQ i j D' x (give r U):=rfl
def zlu:kQ i j D' x (some (s,U))=kP i j D' s (give x U):=rfl
def zkC:kP i j D' s (some (s',U))=D'.nx ((U.set i (some s)).set j (some s')):=rfl
def e_gN:zo i s U K=K (U.set i (some s)):=rfl
def aw(z:List WG)(d:D)(U:Env)(Q:Env->Prop):Prop:=match d with|.tup ds=>ds.length=z.length/\cQ z ds U Q|_=>False
def e_gT:cG z s U K=aw z s.toD U K:=rfl
def zmI:aw z (.tup ds) U K=(ds.length=z.length/\cQ z ds U K):=rfl
def tU(z:List WG)(ds:List D)(Q:Env->Prop):Env->Prop:=λU=>cQ z ds U Q
def znG:cQ [] [] U K=K U:=rfl
def zne:cQ (g::z) (d::ds) U K=g (.sh d) U (tU z ds K):=rfl
def zm1:tU z ds K U=cQ z ds U K:=rfl
def fJ(j:Nat)(D:Ends)(x:R)(q:FL.D)(s:S)(o:Option S)(U:Env):Prop:=match x,q,o with
 |.loc k,.int n,some (.lst l)=>k=j/\zp (ixN l.length n) λm=>D.nx (U.set j (some (.lst (l.set m s))))
 |_,_,_=>False
def iX(j:Nat)(D:Ends)(x:R)(o:Option FL.D)(p:Option (S×Env)):Prop:=zp o λq=>zp p λp=>fJ j D x q p.1 (slot p.2 j) p.2
def iY(j:Nat)(D:Ends)(r x:R):WQ:=λy U=>iX j D x (view y U) (give r U)
def iZ(j:Nat)(i:WE)(D:Ends)(r:R):WQ:=λx U=>i U (iY j D r x) D.ex
def kO(j:Nat)(i:WE)(D:Ends):WQ:=λr U=>zk j U (iZ j i D r) D.ex
theorem zoP:eL j a b D' U=b U (kO j a D') D'.ex:=by unfold eL kO iZ iY iX fJ;rfl
def zl9:kO j a D' r U=zk j U (iZ j a D' r) D'.ex:=rfl
def zkk:iZ j a D' r x U=a U (iY j D' r x) D'.ex:=rfl
def zlD:iY j D' r x y U=iX j D' x (view y U) (give r U):=rfl
def zk6:iX j D' x (some q) (some (s,U))=fJ j D' x q s (slot U j) U:=rfl
def Ik(B:0<=z)(h1:z<l.length):fJ j D' (.loc j) (.int z) s (some (.lst l)) U=D'.nx (U.set j (some (.lst (l.set z.toNat s)))):=by show(j=j/\zp (ixN l.length z) _)=_;unfold ixN;rw[qY B,qY h1,GX];simp
theorem zkc:fJ j D' (.loc j) (.int 0) s (some (.lst [s0,z])) U=D'.nx (U.set j (some (.lst [s,z]))):=Ik ⋯ (by show(0:Int)<2;decide)
theorem zjY:fJ j D' (.loc j) (.int 1) s (some (.lst [s0,z])) U=D'.nx (U.set j (some (.lst [s0,s]))):=Ik ⋯ (by show(1:Int)<2;decide)
def rE(o:Option (List D))(U:Env)(Q:List D->Env->Prop):Prop:=zp o λl=>Q l U
def rF(o:Option (S×Env))(Q:List D->Env->Prop):Prop:=zp o λp=>rE (items p.1.toD) p.2 Q
def av(Q:List D->Env->Prop):WQ:=λr U=>rF (give r U) Q
def e_It:fF a U QI E=a U (av QI) E:=rfl
def zoZ:av QI r U=rF (give r U) QI:=rfl
def znC:rF (some (s,U)) QI=rE (items s.toD) U QI:=rfl
def zmJ:rE (some l) U QI=QI l U:=rfl
def zn9:items (.tup l)=some l:=rfl
def znM:items (.str l)=some (l.map λc=>.str [c]):=rfl
def rJ(o:Option (List D))(U:Env)(Q:List D->Env->Prop):Prop:=zp o λl=>Q (bO 0 l) U
def rK(o:Option (S×Env))(Q:List D->Env->Prop):Prop:=zp o λp=>rJ (items p.1.toD) p.2 Q
def az(Q:List D->Env->Prop):WQ:=λr U=>rK (give r U) Q
def e_En:iR a U QI E=a U (az QI) E:=rfl
def zop:az QI r U=rK (give r U) QI:=rfl
def zmF:rK (some (s,U)) QI=rJ (items s.toD) U QI:=rfl
def zmQ:rJ (some l) U QI=QI (bO 0 l) U:=rfl
def pZ(o:Option D)(Q:List D->Env->Prop)(U:Env):Prop:=match o with|some (.int j)=>(-big<=j/\j<=big)/\Q (fromTo 0 j.toNat) U|_=>False
def ao(Q:List D->Env->Prop):WQ:=λr U=>pZ (view r U) Q U
def e_R1:bM a U QI E=a U (ao QI) E:=rfl
def zof:ao QI r U=pZ (view r U) QI U:=rfl
def znO:pZ (some (.int z)) QI U=((-big<=z/\z<=big)/\QI (fromTo 0 z.toNat) U):=rfl
def kFor(g:WG)(b:WS)(D:Ends):List FL.D->Env->Prop:=λl U=>bJ g b l D U
def zoE:eN it g v D' U=it U (kFor g v D') D'.ex:=rfl
def zko:kFor g v D' l U=bJ g v l D' U:=rfl
def sE(g:WG)(b:WS)(xs:List FL.D)(D:Ends):Ends:={D with nx:=bJ g b xs D,ct:=bJ g b xs D,bk:=D.nx}
def ar(g:WG)(b:WS)(xs:List FL.D)(D:Ends):Env->Prop:=λU=>b (sE g b xs D) U
def uI:bJ g v (d::xs) D' U=g (.sh d) U (ar g v xs D'):=rfl
def zn7:ar g v xs D' U=v (sE g v xs D') U:=rfl
def zoo:(sE g v xs D').nx=bJ g v xs D':=rfl
def zmR:(sE g v xs D').ex=D'.ex:=rfl
def kR(n:Nat)(o:Option S)(U:Env)(Q:WQ):Prop:=zp o λs=>Q (.v s) (U.take n)
def rC(n:Nat)(Q:WQ):Env->Prop:=λU=>kR n (slot U n) U Q
def tS(n:Nat)(E:WX):WX:=NX
def au(n k:Nat)(g:WG)(c:WT)(b:WB)(Q:WQ)(E:WX):List D->Env->Prop:=λl U=>aN g c b l (U++some (.lst [])::List.replicate k none) (rC n Q) (tS n E)
def e_LC:sC n m it g c z U Q E=it U (au n m g c z Q E) E:=rfl
def zn4:au n m g c z Q E l U=aN g c z l (U++some (.lst [])::List.replicate m none) (rC n Q) (tS n E):=rfl
def znB:rC n Q U=kR n (slot U n) U Q:=rfl
def zkB:kR n (some s) U Q=Q (.v s) (U.take n):=rfl
def mG(g:WG)(c:WT)(b:WB)(xs:List D)(Q:Env->Prop)(E:WX):Env->Prop:=λU=>aN g c b xs U Q E
def pP(g:WG)(c:WT)(b:WB)(xs:List D)(Q:Env->Prop)(E:WX):Bool->Env->Prop:=λk U=>if k then b U (mG g c b xs Q E) E else aN g c b xs U Q E
def ag(g:WG)(c:WT)(b:WB)(xs:List D)(Q:Env->Prop)(E:WX):Env->Prop:=λU=>c U (pP g c b xs Q E) E
def uH:aN g c z (d::xs) U QE E=g (.sh d) U (ag g c z xs QE E):=rfl
def znc:ag g c z xs QE E U=c U (pP g c z xs QE E) E:=rfl
def zkj:pP g c z xs QE E true U=z U (mG g c z xs QE E) E:=rfl
def znE:mG g c z xs QE E U=aN g c z xs U QE E:=rfl
def mO(n:Nat)(s:S)(o:Option S)(U:Env)(Q:Env->Prop):Prop:=match o with
 |some (.lst l)=>l.length<big/\Q (U.set n (some (.lst (l++[s]))))
 |_=>False
def mP(n:Nat)(o:Option (S×Env))(Q:Env->Prop):Prop:=zp o λp=>mO n p.1 (slot p.2 n) p.2 Q
def yX(n:Nat)(Q:Env->Prop):WQ:=λr U=>mP n (give r U) Q
theorem e_Em:dU n a U QE E=a U (yX n QE) E:=by unfold dU yX mP mO;rfl
def zmU:yX n QE r U=mP n (give r U) QE:=rfl
def znH:mP n (some (s,U)) QE=mO n s (slot U n) U QE:=rfl
def zoe:mO n s (some (.lst l)) U QE=(l.length<big/\QE (U.set n (some (.lst (l++[s]))))):=rfl
def zmC:gD U QT E=QT true U:=rfl
def sF(o:Option (List S))(P:S->List S->Prop)(s:S):Prop:=zp o λfs=>P s fs
def yS(n:Nat)(ss:List S)(P:S->List S->Prop)(i:Nat)(o:Option S)(U:Env):Prop:=zp o λs=>if i<n then sF (aB ss (U.set i (some (.sh s.toD)))) P (.sh s.toD)else sF (aB ss U) P s
def yT(n:Nat)(ss:List S)(P:S->List S->Prop):WQ:=λr U=>match r with
 |.v s=>sF (aB ss U) P s
 |.loc i=>yS n ss P i (slot U i) U
def ba(n:Nat)(ss:List S)(P:S->List S->Prop)(PX:D->List S->Prop):Ends where
 nx:=λU=>sF (aB ss U) P (.sh .non)
 rt:=yT n ss P
 bk:=λ_=>False
 ct:=λ_=>False
 ex:=λx U=>zp (aB ss U) λfs=>PX x fs
def BM(z:ss.length=n)(B:((List.range ss.length).all λi=>decide (i∈ks))=true)(h:v (ba n ss P PX) (ss.map some++List.replicate (m-n) none)):gB n m ks v ss P PX:=by show#[z,λi s hi=>?_,h];let:=(qg.mp hi).1;show .inl (by simpa using qH.mp B i ↑this)
def znV:(ba n ss P PX).rt=yT n ss P:=rfl
def e_Rt:yT n ss P (.v s) U=sF (aB ss U) P s:=rfl
def e_Fn:sF (some fs) P s=P s fs:=rfl
def fA(s:S):Option (List S)->Option (List S)
 |some fs=>some (s::fs)
 |none=>none
theorem e_f0:aB [] U=some []:=by cases U<;>rfl
theorem e_fs:aB (.sh d::ss) (o::U)=fA (.sh d) (aB ss U):=by show(aB ss U).map _=_;cases aB ss U<;>rfl
theorem e_fl:aB (.lst l::ss) (some s::U)=fA s (aB ss U):=by show(aB ss U).map _=_;cases aB ss U<;>rfl
def e_fA:fA s (some fs)=some (s::fs):=rfl
def znq:aO (.int i) (.int j)=some (.sh (.int (i+j))):=rfl
theorem zlx(h:x.length+y.length<=big):aO (.str x) (.str y)=some (.sh (.str (x++y))):=qY h
theorem zlK(h:l.length+m.length<=big):aO (.tup l) (.tup m)=some (.sh (.tup (l++m))):=qY h
def znA:dY (.int i) (.int j)=some (.sh (.int (i-j))):=rfl
theorem zkE(h:-(2^64)<i/\i<2^64):kN (.int i) (.int j)=some (.sh (.int (i*j))):=by show(if iV i j=true then _ else none)=_;rw[qY (by simp only[iV,h.1,h.2,decide_true,Bool.and_self,Bool.true_or])]
theorem zmL(h:0<j):dZ (.int i) (.int j)=some (.sh (.int (i %j))):=qY h
theorem zkR(h:0<j)(h2:j<18446744073709551616):fH (.int i) (.int j)=some (.sh (.int (i/j))):=qY #[h,h2]
theorem znm(h:0<=j/\j<=1000/\i.natAbs<2^64):jL (.int i) (.int j)=some (.sh (.int (i^j.toNat))):=qY h
def zmB:fV (.int i)=some (.sh (.int (-i))):=rfl
def e_lt:lD (.int i) (.int j)=some (decide (i<j)):=rfl
def e_gt:mV (.int i) (.int j)=some (decide (j<i)):=rfl
def e_le:lR (.int i) (.int j)=some (decide (i<=j)):=rfl
def e_ge:vW (.int i) (.int j)=some (decide (j<=i)):=rfl
theorem zmk:gO (.int i) (.int j)=some (decide (i=j)):=by unfold gO;rw[qZ (by show λz=>Bool.noConfusion (show false=true from z))];simp
theorem zmz:mU (.int i) (.int j)=some (!decide (i=j)):=by unfold mU;rw[zmk];rfl
theorem zlG:gO (.str x) (.str y)=some (decide (x=y)):=by unfold gO;rw[qZ (by show λz=>Bool.noConfusion (show false=true from z))];simp
theorem zoY:mU (.str x) (.str y)=some (!decide (x=y)):=by unfold mU;rw[zlG];rfl
def zo1:gF (.bl b)=some b:=rfl
def zki:bQ [.str x]=some (.sh (.int x.length)):=rfl
def zlN:bQ [.tup l]=some (.sh (.int l.length)):=rfl
def zkt:bQ [.lst l]=some (.sh (.int l.length)):=rfl
def zke:jQ [.bl b]=some (.sh (.int (if b then 1 else 0))):=rfl
def zkz:dI [.lst l]=some (.sh (.tup l)):=rfl
def zks:dM [.tup l]=some (.lst (l.map .sh)):=rfl
theorem zmj(h:x.length<=big):dM [.str x]=some (.lst (x.map λc=>.sh (.str [c]))):=qY h
def znz:mW [.int i,.int j]=some (.sh (.int (if j>i then j else i))):=rfl
def zmH:jP [.int i,.int j]=some (.sh (.int (if j<i then j else i))):=rfl
def znl:lP (.tup l) a b=some (.sh (.tup (bZ l a b))):=rfl
def zns:zk 0 (some (.sh d)::U) Q E=Q (.v (.sh d)) (some (.sh d)::U):=rfl
def znX:zk 0 (some (.lst l)::U) Q E=Q (.loc 0) (some (.lst l)::U):=rfl
def znK:slot (v::U) 0=v:=rfl
def zmX:List.set (u::U) 0 v=v::U:=rfl
def zos:zk 1 (s0::some (.sh d)::U) Q E=Q (.v (.sh d)) (s0::some (.sh d)::U):=rfl
def zok:slot (s0::v::U) 1=v:=rfl
def znn:List.set (s0::u::U) 1 v=s0::v::U:=rfl
def zoa:zk 2 (s0::z::some (.sh d)::U) Q E=Q (.v (.sh d)) (s0::z::some (.sh d)::U):=rfl
def zm9:zk 2 (s0::z::some (.lst l)::U) Q E=Q (.loc 2) (s0::z::some (.lst l)::U):=rfl
def znx:slot (s0::z::v::U) 2=v:=rfl
def zou:List.set (s0::z::u::U) 2 v=s0::z::v::U:=rfl
def zm2:zk 3 (s0::B::z::some (.sh d)::U) Q E=Q (.v (.sh d)) (s0::B::z::some (.sh d)::U):=rfl
def zoW:slot (s0::B::z::v::U) 3=v:=rfl
def zot:List.set (s0::B::z::u::U) 3 v=s0::B::z::v::U:=rfl
def zm4:zk 4 (s0::F::B::z::some (.sh d)::U) Q E=Q (.v (.sh d)) (s0::F::B::z::some (.sh d)::U):=rfl
def zov:slot (s0::F::B::z::v::U) 4=v:=rfl
def znD:List.set (s0::F::B::z::u::U) 4 v=s0::F::B::z::v::U:=rfl
def zno:zk 5 (s0::G::F::B::z::some (.sh d)::U) Q E=Q (.v (.sh d)) (s0::G::F::B::z::some (.sh d)::U):=rfl
def znQ:slot (s0::G::F::B::z::v::U) 5=v:=rfl
def zoS:List.set (s0::G::F::B::z::u::U) 5 v=s0::G::F::B::z::v::U:=rfl
def zoq:zk 6 (s0::J::G::F::B::z::some (.sh d)::U) Q E=Q (.v (.sh d)) (s0::J::G::F::B::z::some (.sh d)::U):=rfl
def zoQ:zk 6 (s0::J::G::F::B::z::some (.lst l)::U) Q E=Q (.loc 6) (s0::J::G::F::B::z::some (.lst l)::U):=rfl
def zmD:slot (s0::J::G::F::B::z::v::U) 6=v:=rfl
def znW:List.set (s0::J::G::F::B::z::u::U) 6 v=s0::J::G::F::B::z::v::U:=rfl
def zmy:zk 7 (s0::L::J::G::F::B::z::some (.sh d)::U) Q E=Q (.v (.sh d)) (s0::L::J::G::F::B::z::some (.sh d)::U):=rfl
def zoM:List.set (s0::L::J::G::F::B::z::u::U) 7 v=s0::L::J::G::F::B::z::v::U:=rfl
def zoI:zk 8 (s0::M::L::J::G::F::B::z::some (.sh d)::U) Q E=Q (.v (.sh d)) (s0::M::L::J::G::F::B::z::some (.sh d)::U):=rfl
def znU:List.set (s0::M::L::J::G::F::B::z::u::U) 8 v=s0::M::L::J::G::F::B::z::v::U:=rfl
def zoV:zk 9 (s0::O::M::L::J::G::F::B::z::some (.sh d)::U) Q E=Q (.v (.sh d)) (s0::O::M::L::J::G::F::B::z::some (.sh d)::U):=rfl
def zm6:List.set (s0::O::M::L::J::G::F::B::z::u::U) 9 v=s0::O::M::L::J::G::F::B::z::v::U:=rfl
def zkq:zk 10 (s0::Y::O::M::L::J::G::F::B::z::some (.sh d)::U) Q E=Q (.v (.sh d)) (s0::Y::O::M::L::J::G::F::B::z::some (.sh d)::U):=rfl
def zkH:List.set (s0::Y::O::M::L::J::G::F::B::z::u::U) 10 v=s0::Y::O::M::L::J::G::F::B::z::v::U:=rfl
def zly:zk 11 (s0::s1::Y::O::M::L::J::G::F::B::z::some (.sh d)::U) Q E=Q (.v (.sh d)) (s0::s1::Y::O::M::L::J::G::F::B::z::some (.sh d)::U):=rfl
def zmf:List.set (s0::s1::Y::O::M::L::J::G::F::B::z::u::U) 11 v=s0::s1::Y::O::M::L::J::G::F::B::z::v::U:=rfl
def zkS:kY o (.v (.sh p)) Q (.v (.sh q)) U=kV (o p q) Q U:=rfl
def zmi:kX z (.v (.sh p)) QT (.v (.sh q)) U=kC (z p q) QT U:=rfl
def zl1:eI p q=(jN p q).map (!·):=rfl
def rH(Q:WQ)(o:Option (S×Env)):Prop:=zp o λp=>Q (.v (.sh p.1.toD)) p.2
def ax(Q:WQ):WQ:=λr U=>rH Q (give r U)
def znF:hH a U Q E=a U (ax Q) E:=rfl
def zmd:ax Q r U=rH Q (give r U):=rfl
def zkY:rH Q (some (s,U))=Q (.v (.sh s.toD)) U:=rfl
def pW(res:Bool)(p:D)(o:Option D)(Q:Bool->Env->Prop)(U:Env):Prop:=zp o λq=>p=q/\Q res U
def pX(res:Bool)(p:D)(Q:Bool->Env->Prop):WQ:=λy U=>pW res p (zB y U) Q U
def pY(res:Bool)(b:WE)(o:Option D)(Q:Bool->Env->Prop)(E:WX)(U:Env):Prop:=zp o λp=>bW p=true/\b U (pX res p Q) E
def tN(res:Bool)(b:WE)(Q:Bool->Env->Prop)(E:WX):WQ:=λx U=>pY res b (zB x U) Q E U
def e_Re:eE res a b U QT E=a U (tN res b QT E) E:=rfl
def zoc:tN res b QT E x U=pY res b (zB x U) QT E U:=rfl
def zoz:pY res b (some p) QT E U=(bW p=true/\b U (pX res p QT) E):=rfl
def zmT:pX res p QT y U=pW res p (zB y U) QT U:=rfl
def znk:pW res p (some q) QT U=(p=q/\QT res U):=rfl
def zml{z B:Int}:bX (.int z) (.int B)=kN (.int z) (.int B):=rfl
theorem uB{w v:WB}(h:w=v)(U:Env)(Q:Env->Prop)(E:WX):w U Q E=v U Q E:=by rw[h]
theorem uS{w v:WS}(h:w=v)(D':Ends)(U:Env):w D' U=v D' U:=by rw[h]
section
variable{U:Env}{Q:WQ}{QE:Env->Prop}{E:WX}{a b:WE}{x y r:R}{s:S}{q d:D}{n m j:Nat}{l:List D}
def zmr:(S.set l).toD=.set l:=rfl
def zlr:gQ [.set l]=some (.sh (.int l.length)):=rfl
def zkp:dJ [.lst l]=cH l:=rfl
def zls:dJ [.set l]=cH l:=rfl
def zow:jO [.lst l]=newS l:=rfl
def Jk(h:gH l=true/\l.length<=150):newS l=some (.set (bL l)):=qY h
variable{fr:D->Option S}
variable{c:WE}{QI:List D->Env->Prop}
end
section
variable{U:Env}{Q:WQ}{E:WX}{D':Ends}{a:WE}{v w:WS}{x:R}{j:Nat}{c:List Nat}{cs kn yes fs:List (List Nat)}{vs:List D}{d:D}
def zoH{ms:List Bool}{rs:List R}{ss:List S}:rN ms rs U E d ss=E d (back ms rs ss U):=rfl
def tM(c f:List Nat)(D:Ends):WQ:=λr U=>vV c f D U (view r U)
def e_Rz{f:List Nat}:eF c f a D' U=a U (tM c f D') D'.ex:=rfl
def zng{f:List Nat}:tM c f D' x U=vV c f D' U (view x U):=rfl
def zo0{f:List Nat}{i:Int}:vV c f D' U (some (.int i))=D'.ex (.exc c [f] [.int i]) U:=rfl
def pQ(kn:List (List Nat))(f:List Nat)(o:Option D)(Q:WQ)(U:Env):Prop:=zp o λd=>zp (nW kn f d) λv=>Q (.v (.sh v)) U
def ah(kn:List (List Nat))(f:List Nat)(Q:WQ):WQ:=λx U=>pQ kn f (view x U) Q U
def e_XF{f:List Nat}:kG kn f a U Q E=a U (ah kn f Q) E:=rfl
def zmO{f:List Nat}:ah kn f Q x U=pQ kn f (view x U) Q U:=rfl
theorem znT{f g:List Nat}(h:(kn.contains c&&g==f)=true):pQ kn f (some (.exc c [g] [d])) Q U=Q (.v (.sh d)) U:=by show zp (if(kn.contains c&&g==f)=true then some d else none) _=_;rw[qY h];rfl
def nV(j:Nat)(D:Ends):Ends:={nx:=λz=>D.nx (z.set j none),rt:=λ_ _=>False,bk:=λ_=>False,ct:=λ_=>False,ex:=NX}
def jV(cs:List (List Nat))(j:Nat)(w:WS)(D:Ends):Ends:={D with ex:=λd U=>wF cs d/\w (nV j D) (U.set j (some (.sh d)))}
def zlT:fR cs j v w D' U=v (jV cs j w D') U:=rfl
def ziQ:(jV cs j w D').nx=D'.nx:=rfl
theorem zjm(h:cs.contains c=true):(jV cs j w D').ex (.exc c fs vs) U=w (nV j D') (U.set j (some (.sh (.exc c fs vs)))):=by
 show(wF cs _/\w _ _)=_;let:wF cs (.exc c fs vs):=#[c,↑h,fs,vs,rfl]
 simp only[this,true_and]
def zjO:(nV j D').nx U=D'.nx (U.set j none):=rfl
def kT(kn yes:List (List Nat))(o:Option D)(Q:WQ)(U:Env):Prop:=zp o λd=>zp (tX kn yes d) λb=>Q (.v (.sh (.bl b))) U
def tT(kn yes:List (List Nat))(Q:WQ):WQ:=λx U=>kT kn yes (view x U) Q U
def znw:gE kn yes a U Q E=a U (tT kn yes Q) E:=rfl
def zlP:tT kn yes Q x U=kT kn yes (view x U) Q U:=rfl
theorem zmg(h:kn.contains c=true):kT kn yes (some (.exc c fs vs)) Q U=Q (.v (.sh (.bl (yes.contains c)))) U:=by show zp (if kn.contains c then some (yes.contains c)else none) _=_;rw[qY h];rfl
end
section
variable{U:Env}{Q:WQ}{E:WX}{a:WE}{r:R}{j:Nat}{d:D}{l:List D}{x:List Nat}{s:S}{o:Option S}
def ai(Q:WQ):WQ:=λx z=>match x with
 |.v (.sh (.str l))=>(l.all (decide<|·<128)=true/\l.length<=big)/\Q (.v (.sh (.str (l.map lO)))) z
 |_=>False
def e_Up:gZ a U Q E=a U (ai Q) E:=rfl
def zmP:ai Q (.v (.sh (.str x))) U=((x.all (decide<|·<128)=true/\x.length<=big)/\Q (.v (.sh (.str (x.map lO)))) U):=rfl
end
def mL(j:Nat)(s:S)(Q:Env->Prop)(x:R)(q:FL.D)(o:Option S)(U:Env):Prop:=match x,q,o with
 |.loc k,.int n,some (.lst l)=>k=j/\zp (ixN l.length n) λm=>Q (U.set j (some (.lst (l.set m s))))
 |_,_,_=>False
def mM(j:Nat)(s:S)(Q:Env->Prop)(x:R)(o:Option FL.D)(U:Env):Prop:=zp o λq=>mL j s Q x q (slot U j) U
def mN(j:Nat)(s:S)(Q:Env->Prop)(x:R):WQ:=λy U=>mM j s Q x (view y U) U
def rG(j:Nat)(i:WE)(s:S)(Q:Env->Prop):WQ:=λx U=>i U (mN j s Q x) NX
theorem e_Ga:uF j i s U Q=zk j U (rG j i s Q) NX:=by unfold uF rG mN mM mL;rfl
def zon:rG j i s Q x U=i U (mN j s Q x) NX:=rfl
def zn8:mN j s Q x y U=mM j s Q x (view y U) U:=rfl
def zmA:mM j s Q x (some q) U=mL j s Q x q (slot U j) U:=rfl
def HN(B:0<=z)(h1:z<l.length):mL j s Q (.loc j) (.int z) (some (.lst l)) U=Q (U.set j (some (.lst (l.set z.toNat s)))):=by show(j=j/\zp (ixN l.length z) _)=_;unfold ixN;rw[qY B,qY h1,GX];simp
theorem ziH(h:dH l m=true):fM g (.tup l) (.tup m)=some (fo g (aD l m)):=qY h
def sg(c:Nat):D:=.str [c]
def bp:items (.str l)=some (l.map sg):=rfl
def IC(l:List Nat):cO (l.map sg)=some (l.map λc=>[c]):=by let:=QV (l.map λc=>[c]);rw[qD]at this;show this
def JM:∀l:List Nat,((l.map λc=>[c]).map List.length).sum=l.length
 |[]=>rfl
 |c::l=>by let:=JM l;simp at this⊢;lia
def Kk:∀l:List Nat,(l.map λc=>[c]).flatten=l
 |[]=>rfl
 |c::l=>by let:=Kk l;simp;rw[this]
def IZ(h:l.length<=big):gL [] [.lst (l.map sg)]=some (.sh (.str l)):=by show(cO (l.map sg)).bind _=_;grind[IC,List.length,big,cI,JM,PN,Kk]
def lU:D->Nat
 |.str [c]=>c
 |_=>0
def Nq(h:l.Perm (A.map sg)):∃z:List Nat,z.Perm A/\l=z.map sg:=by
 show#[l.map lU,?_,?_]
 .let:=h.map lU;rw[qD]at this;let e:(lU∘sg)=id:=funext λc=>rfl;rw[e,map_id]at this;show this
 .rw[qD];let:∀d∈l,(sg∘lU) d=id d:=λd B=>by let#[c,_,rfl]:=qJ.mp (h.mem_iff.mp B);rfl
  rw[map_congr_left this,map_id]
def fB:big=1000000:=rfl
def Dz:(fromTo lo n).length=n:=by simp[fromTo]
def KB{l:List D}{k:Nat}(h:l[k]?=some d):(l.map S.sh)[k]?=some (.sh d):=by rw[qE,h];rfl
def CZ{α β:Type}{f:α->β}{l:List α}{z:Int}(F:0<=z)(h1:z<l.length):∃v,v∈l/\l[z.toNat]?=some v/\atI (l.map f) z=some (f v):=by
 let B:z.toNat<l.length:=∅
 show#[l[z.toNat],getElem_mem B,qh B,Fh F (by rw[qE,qh B];rfl)]
def Gp(F:0<=z)(h1:z<l.length):∃v,v∈l/\l[z.toNat]?=some v/\atI l z=some v:=by
 let B:z.toNat<l.length:=∅
 show#[l[z.toNat],getElem_mem B,qh B,Fh F (qh B)]
def EH{α β:Type}{f:α->β}:∀(l:List α)(k:Nat),(l.map f).eraseIdx k=(l.eraseIdx k).map f
 |[],_=>rfl
 |_::_,0=>rfl
 |x::l,k+1=>by show f x::(l.map f).eraseIdx k=f x::(l.eraseIdx k).map f;rw[EH l k]
def JL(f:α->β)(l:List α)(a b:Option Int):bZ (l.map f) a b=(bZ l a b).map f:=by unfold bZ;simp_all
def PJ(l:List α)(z:0<=k):bZ l (some k) none=l.drop k.toNat:=by
 unfold bZ sIx;let:¬k<0:=∅
 simp[qZ this];by_cases h:k.toNat<=l.length
 .rw[Nat.min_eq_left h,List.take_of_length_le];rw[qF];lia
 .let h2:l.length<=k.toNat:=by lia
  rw[Nat.min_eq_right h2,List.drop_of_length_le (q8 _),List.drop_of_length_le h2,List.take_nil]
def Ma(l:List Bool):mX [.lst (l.map D.bl)]=some (.sh (.bl (l.all id))):=by show(fN (l.map D.bl)).map _=_;rw[Rn];rfl
def KE{α:Type}:∀(l:List α)(i:Nat)(h:i<l.length),(l[i]::l.eraseIdx i).Perm l
 |x::l,0,_=>List.Perm.refl _
 |x::l,i+1,h=>by
  let hi:i<l.length:=↑h
  show(List.Perm.swap x l[i] _).trans (List.Perm.cons x (KE l i hi))
def pO(b:WB)(K:Env->Prop)(E:WX):Bool->Env->Prop:=λk U=>if k then b U K E else K U
def nM(c:WT)(b:WB)(K:Env->Prop)(E:WX):Env->Prop:=λU=>c U (pO b K E) E
def sM:nM c b K E U=c U (pO b K E) E:=rfl
def zZ:pO b K E true U=b U K E:=rfl
def Mh{α:Type}{toD:α->D}(I:List α->Env->Prop)(xs:List α)
  (step:∀(B:List α)(x:α)(z:List α)(K:Env->Prop)(U:Env),B++x::z=xs->I B U->(∀U',I (B++[x]) U'->K U')->g (.sh (toD x)) U (nM c b K E))
  (G:∀U,I xs U->Q U)(L:I [] U):aN g c b (xs.map toD) U Q E:=by
 have F:∀(z B:List α)(U:Env),B++z=xs->I B U->aN g c b (z.map toD) U Q E:=by
  intro z;induction z with
  |nil=>intro B U e h;rw[qz]at e;subst e;show G U h
  |cons x z J=>intro B U e h;show step B x z (mG g c b (z.map toD) Q E) U e h λU' h'=>J (B++[x]) U' (by rw[<-e];simp) h'
 show F xs [] U rfl L
def Eu{α:Type}{toD:α->D}(I:List α->Env->Prop)(xs:List α)
  (step:∀(B:List α)(x:α)(z:List α)(F:Ends)(U:Env),B++x::z=xs->I B U->(∀U',I (B++[x]) U'->F.nx U')->(∀U',I (B++[x]) U'->F.ct U')->F.rt=D'.rt->F.bk=D'.nx->g (.sh (toD x)) U (λU=>b F U))
  (J:∀U,I xs U->D'.nx U)(M:I [] U):bJ g b (xs.map toD) D' U:=by
 have G:∀(z B:List α)(U:Env),B++z=xs->I B U->bJ g b (z.map toD) D' U:=by
  intro z;induction z with
  |nil=>intro B U e h;rw[qz]at e;subst e;show J U h
  |cons x z L=>intro B U e h;let k:=λU' h'=>L (B++[x]) U' (by rw[<-e];simp) h';show step B x z (sE g b (z.map toD) D') U e h k k rfl rfl
 show G xs [] U rfl M
def Mr{α:Type}{toD:α->D}(I:List α->List S->Env->Prop)(xs:List α)
  (step:∀(B:List α)(x:α)(F:List α)(l:List S)(U:Env)(vs:List (Option S))(K:Env->Prop),B++x::F=xs->vs.length=k->I B l U->(∀J U1 z,z.length=k->I (B++[x]) J U1->K (U1++some (.lst J)::z))->g (.sh (toD x)) (U++some (.lst l)::vs) (nM c b K E))
  (Y:∀l U vs,vs.length=k->I xs l U->Q (U++some (.lst l)::vs))(hv:vs.length=k)(h0:I [] [] U):aN g c b (xs.map toD) (U++some (.lst [])::vs) Q E:=by
 show Mh (λB G=>∃l U1 z,z.length=k/\I B l U1/\G=U1++some (.lst l)::z) xs (λB x F K G e O hK=>?_) (λG O=>?_) #[[],U,vs,hv,h0,rfl]
 .obtain⟨l,U1,z,h1,h2,rfl⟩:=O;show step B x F l U1 z K e h1 h2 λJ L M h3 h4=>hK _ #[J,L,M,h3,h4,rfl]
 .obtain⟨l,U1,z,h1,h2,rfl⟩:=O;show Y l U1 z h1 h2
def Il{α:Type}{toD:α->D}(xs:List α)(h:α->Option S)
  (step:∀x∈xs,∀(l:List S)(vs:List (Option S))(K:Env->Prop),vs.length=k->l.length<xs.length->(∀z,z.length=k->K (U++some (.lst (l++(h x).toList))::z))->g (.sh (toD x)) (U++some (.lst l)::vs) (nM c b K E))
  (G:∀vs,vs.length=k->Q (U++some (.lst (xs.filterMap h))::vs))(L:vs.length=k):aN g c b (xs.map toD) (U++some (.lst [])::vs) Q E:=by
 show Mr (λB l F=>F=U/\l=B.filterMap h) xs (λB x J l F vs K e h1 h2 O=>?_) (λl F vs h1 h2=>?_) L #[rfl,rfl]
 .obtain⟨rfl,rfl⟩:=h2;let M:(B.filterMap h).length<xs.length:=by let:=List.length_filterMap_le h B;rw[<-e];simp;lia
  show step x (by rw[<-e];simp) _ vs K h1 M λz Y=>O _ _ z Y #[rfl,?_];cases q:h x<;>simp[q]
 .obtain⟨rfl,rfl⟩:=h2;show G vs h1
def DG{vs:List (Option S)}(h:vs.length=1):∃a,vs=[a]:=by
 match vs,h with
 |[a],_=>show#[a,rfl]
def DF{vs:List (Option S)}(h:vs.length=3):∃a b c,vs=[a,b,c]:=by
 match vs,h with
 |[a,b,c],_=>show#[a,b,c,rfl]
section
variable{α:Type}
def SD(xs:List α)(h:α->Option S)
  (step:∀x∈xs,∀(l:List S)(o:Option S)(K:Env->Prop),l.length<xs.length->(∀o,K (U.take n++[some (.lst (l++(h x).toList)),o]))->zo (n+1) (.sh (toD x)) (U.take n++[some (.lst l),o]) (nM c b K E))
  (B:∀o,Q (U.take n++[some (.lst (xs.filterMap h)),o]))(e:U=U.take n++[some (.lst []),L]:=by rfl):aN (zo (n+1)) c b (xs.map toD) U Q E:=by
 rw[e];show Il (k:=1) xs h (λx F l vs K z G J=>?_) (λvs z=>?_) rfl
 .obtain⟨a,rfl⟩:=DG z;show step x F l a K G λo=>J [o] rfl
 .obtain⟨a,rfl⟩:=DG z;show B a
def SC(xs:List α)(h:α->Option S)
  (step:∀x∈xs,∀(l:List S)(o o' z:Option S)(K:Env->Prop),l.length<xs.length->(∀o o' z,K (U.take n++[some (.lst (l++(h x).toList)),o,o',z]))->cG [zo (n+1),zo (n+2),zo (n+3)] (.sh (toD x)) (U.take n++[some (.lst l),o,o',z]) (nM c b K E))
  (G:∀o o' z,Q (U.take n++[some (.lst (xs.filterMap h)),o,o',z]))(e:U=U.take n++[some (.lst []),o0,o1,Y]:=by rfl):aN (cG [zo (n+1),zo (n+2),zo (n+3)]) c b (xs.map toD) U Q E:=by
 rw[e];show Il (k:=3) xs h (λx L l vs K F M O=>?_) (λvs F=>?_) rfl
 .obtain⟨a,J,B,rfl⟩:=DF F;show step x L l a J B K M λo o' z=>O [o,o',z] rfl
 .obtain⟨a,J,B,rfl⟩:=DF F;show G a J B
def SA(xs:List α)(h:α->S)
  (step:∀x∈xs,∀(l:List S)(o:Option S)(K:Env->Prop),l.length<xs.length->(∀o,K (U.take n++[some (.lst (l++[h x])),o]))->zo (n+1) (.sh (toD x)) (U.take n++[some (.lst l),o]) (nM c b K E))
  (z:∀o,Q (U.take n++[some (.lst (xs.map h)),o]))(e:U=U.take n++[some (.lst []),B]:=by rfl):aN (zo (n+1)) c b (xs.map toD) U Q E:=
 SD xs (λx=>some (h x)) step (λo=>by rw[show(xs.filterMap λx=>some (h x))=xs.map h from List.filterMap_eq_map▸rfl];show z o) e
def Sz(xs:List α)(h:α->S)
  (step:∀x∈xs,∀(l:List S)(o o' z:Option S)(K:Env->Prop),l.length<xs.length->(∀o o' z,K (U.take n++[some (.lst (l++[h x])),o,o',z]))->cG [zo (n+1),zo (n+2),zo (n+3)] (.sh (toD x)) (U.take n++[some (.lst l),o,o',z]) (nM c b K E))
  (B:∀o o' z,Q (U.take n++[some (.lst (xs.map h)),o,o',z]))(e:U=U.take n++[some (.lst []),J,G,F]:=by rfl):aN (cG [zo (n+1),zo (n+2),zo (n+3)]) c b (xs.map toD) U Q E:=
 SC xs (λx=>some (h x)) step (λo o' z=>by rw[show(xs.filterMap λx=>some (h x))=xs.map h from List.filterMap_eq_map▸rfl];show B o o' z) e
end
def HC(I:Nat->Env->Prop)(xs:List D)
  (step:∀(k:Nat)(x:D),xs[k]?=some x->∀(B:Ends)(U:Env),I k U->(∀U',I (k+1) U'->B.nx U')->(∀U',I (k+1) U'->B.ct U')->B.rt=D'.rt->B.bk=D'.nx->g (.sh x) U (λU=>b B U))
  (M:∀U,I xs.length U->D'.nx U)(h0:I 0 U):bJ g b xs D' U:=by
 let:=Eu (toD:=λx:D=>x) (g:=g) (b:=b) (D':=D') (λz U=>I z.length U) xs (λz x O B U e Y G J F L=>step z.length x (by rw[<-e];simp) B U Y (λU' h=>G U' ↑h) (λU' h=>J U' ↑h) F L) M h0;rwa[List.map_id']at this
def OT:∀l:List (List Nat),∀d∈l.map D.str,nT d:=λl d z=>by let#[x,_,rfl]:=qJ.mp z;trivial
def Ip:([a]:List Nat)<[b]↔a<b:=by simp[List.cons_lt_cons_iff]
def QZ{l:List Nat}(h:l.Pairwise (·<=·))(hn:l.Nodup):l.Pairwise (·<·):=by let:=h.and hn;show this.imp λ⟨h1,h2⟩=>∅
def Pa:(cE l [c]).isSome=decide (c∈l):=by grind[Qg,cE,mY,List.mem_of_mem_drop,mem_of_mem_take]
def Bz{α:Type}{l:List α}(h:l.length=n+1):∃a r,l=a::r/\r.length=n:=by
 cases l with
 |nil=>cases h
 |cons a r=>show#[a,r,rfl,Nat.succ.inj h]
def Hn{α:Type}{l:List α}(h:l.length=0):l=[]:=List.length_eq_zero_iff.mp h
def CB{α:Type}{l:List α}(h:l.length=1):∃a,l=[a]:=by let#[a,r,rfl,k]:=Bz h;obtain rfl:=Hn k;show#[a,rfl]
def CA{α:Type}{l:List α}(h:l.length=2):∃B z,l=[B,z]:=by let#[B,r,rfl,k]:=Bz h;let#[z,rfl]:=CB k;show#[B,z,rfl]
def DC{α:Type}{l:List α}(h:l.length=3):∃F B z,l=[F,B,z]:=by let#[F,r,rfl,k]:=Bz h;let#[B,z,rfl]:=CA k;show#[F,B,z,rfl]
def DB{α:Type}{l:List α}(h:l.length=4):∃G F B z,l=[G,F,B,z]:=by let#[G,r,rfl,k]:=Bz h;let#[F,B,z,rfl]:=DC k;show#[G,F,B,z,rfl]
def EJ{α:Type}{l:List α}(h:l.length=5):∃J G F B z,l=[J,G,F,B,z]:=by let#[J,r,rfl,k]:=Bz h;let#[G,F,B,z,rfl]:=DB k;show#[J,G,F,B,z,rfl]
abbrev Wd:=List Nat
def JY{α:Type}(f:α->D):∀(B:List α)(k:Nat),bO k (B.map f)=(List.range B.length).map λi=>D.tup [.int ((k+i:Nat):Int),(B[i]?).elim .non f]
 |[],k=>rfl
 |b::B,k=>by rw[qy,bO,JY f B (k+1),qt,List.range_succ_eq_map,qy,qD];congr 1;show map_congr_left λi _=>?_;rw[show k+1+i=k+(i+1) by lia];rfl
def DH{z:Int}{n:Nat}(h:z=n):fromTo 0 z.toNat=(List.range n).map λ(k:Nat)=>D.int (k:Int):=by subst h;show map_congr_left λk _=>?_;rw[Int.zero_add]
def Hg(h:z++i::post=List.range n):z.length=i/\i<n:=by
 let h1:(List.range n)[z.length]?=some i:=by rw[<-h];simp
 let#[h2,B]:=qg.mp h1;rw[List.getElem_range]at B;rw[qC]at h2;lia
def aa(D':Ends)(m:Nat)(J:Nat->Env->Prop):Ends:={D' with nx:=λz=>∃B,B<m/\J B z,ct:=λz=>∃B,B<m/\J B z,bk:=D'.nx}
def yR(b:WS)(D':Ends)(m:Nat)(J:Nat->Env->Prop)(k:Bool)(U:Env):Prop:=if k then b (aa D' m J) U else D'.nx U
def wH:yR b D' m J true U=b (aa D' m J) U:=rfl
def wI:yR b D' m J false U=D'.nx U:=rfl
def Lv(J:Nat->Env->Prop)(m:Nat)(B:J m U)(h:∀m U,J m U->c U (yR b D' m J) D'.ex):fQ c b D' U:=#[J,#[m,B],λm U z=>h m U z]
theorem atI_last{l:List α}(h:0<l.length):∃v,v∈l/\l.getLast?=some v/\atI l (-1)=some v:=by show#[l.getLast (List.length_pos_iff.mp h),List.getLast_mem _,List.getLast?_eq_some_getLast (List.length_pos_iff.mp h),?_];unfold atI ixN;rw[qZ ⋯,qY ∅];show l[((-1:Int)+(l.length:Int)).toNat]?=_;rw[show((-1:Int)+(l.length:Int)).toNat=l.length-1 by lia,qh ∅,List.getLast_eq_getElem]
end FL
namespace Law
open FL
abbrev jI:List Nat:=[78,111,77,97,112]
def kF:WB:=dU 1 (dD (cA lR lR (wC (.str [97])) (zk 2) (wC (.str [122]))))
def oN:=uB kF.eq_1
def wU:WF:=gB 1 1 [0]
 (aX (wB mX (zl (sC 1 1 (fF (zk 0)) (zo 2) gD kF) zm)))
def wN:WF:=gB 2 4 [0,1]
 (zy (zA (zo 2) (zx aO (zx bX (wC (.int 7919)) (zk 1)) (wC (.int 11))))
  (zy (fG (bF lD (zk 1) (wB bQ (zl (zk 0) zm))) (zA (zo 2) (cR (zk 0) (zk 1))) (fG (bF mV (wB bQ (zl (zk 0) zm)) (wC (.int 0))) (zA (zo 2) (zx aO (zk 2) (zx bX (zx dZ (cR (zk 0) (zx dZ (zk 1) (wB bQ (zl (zk 0) zm)))) (wC (.int 2147483629))) (wC (.int 69623))))) aY))
  (zy (zA (zo 3) (zx aO (zx dZ (zx aO (zx bX (zx dZ (zk 2) (wC (.int 2147483629))) (wC (.int 48271))) (zx bX (wC (.int 40692)) (zk 1))) (wC (.int 2147483629))) (wC (.int 1))))
  (aX (dX (zl (cR (dX (zl (wC (.int 0)) (zl (zk 2) zm))) (wB jQ (zl (dD (bF vW (zk 2) (zx jL (wC (.int 10)) (wC (.int 18))))) zm))) (zl (zk 3) zm)))))))
def cN:WF:=gB 2 4 [0,1]
 (zy (fG (bF mV (cR (zk 0) (wC (.int 0))) (wC (.int 0))) (zy (zA (zo 2) (zx dZ (cR (zk 0) (wC (.int 0))) (zk 1)))
  (zy (eL 0 (wC (.int 0)) (zx fH (cR (zk 0) (wC (.int 0))) (zk 1)))
  (aX (zk 2)))) aY)
  (zy (zA (zo 3) (zx dZ (zx bX (cR (zk 0) (wC (.int 1))) (wC (.int 69623))) (wC (.int 2147483647))))
  (zy (eL 0 (wC (.int 1)) (zx aO (zx dZ (zx aO (zx bX (zk 3) (wC (.int 48271))) (wC (.int 30103))) (wC (.int 2147483629))) (wC (.int 1))))
  (aX (zx dZ (zx fH (zx aO (zx bX (zk 3) (wC (.int 2147483647))) (cR (zk 0) (wC (.int 1)))) (wC (.int 8191))) (zk 1))))))
def iQ:WS:=zy (zA (zo 7) (iS (dD (cA lR lD (wC (.int 0)) (zk 4) (zk 1))) (dD (cA lR lD (wC (.int 0)) (zk 6) (zk 1)))))
  (zy (fG (lT (fE (dP (zk 7))) (lT (bF mU (wB bQ (zl (zk 5) zm)) (wC (.int 1))) (bF eI (zk 5) (wC (.str [97,98,99,100,101,102,103,104,105,106,107,108,109,110,111,112,113,114,115,116,117,118,119,120,121,122]))))) (aX (bE (zl (wC (.str [114,101,102,117,115,101,100])) (zl (zk 3) zm)))) aY)
  (fG (eK (bF mV (zk 3) (wC (.int 0))) (bF (fM true) (cR (zk 2) (zx dY (zk 3) (wC (.int 1)))) (cR (zk 2) (zk 3)))) (aX (bE (zl (wC (.str [114,101,102,117,115,101,100])) (zl (zk 3) zm)))) aY))
def lY:=uS iQ.eq_1
def nY:WF:=gB 1 8 [0]
 (zy (zA (cG [zo 1,zo 2]) (zk 0))
  (zy (fG (bF lD (zk 1) (wC (.int 1))) (aX (bE (zl (wC (.str [114,101,102,117,115,101,100])) (zl (nE fV (wC (.int 1))) zm)))) aY)
  (zy (eN (iR (zk 2)) (cG [zo 3,cG [zo 4,zo 5,zo 6]]) iQ)
  (aX (wC (.bl true))))))
def wR:WF:=gB 1 1 [0]
 (aX (iS (dD (bF gO (wB bQ (zl (zk 0) zm)) (wC (.int 1)))) (zz wU [true] (zl (zk 0) zm))))
def gY:WB:=dU 3 (hH (eM 2 (zz cN [true,true] (zl (zk 0) (zl (wB bQ (zl (zk 2) zm)) zm)))))
def oK:=uB gY.eq_1
def wM:WF:=gB 2 3 [0,1]
 (zy (zA (zo 2) (wB dM (zl (wC (.str [97,98,99,100,101,102,103,104,105,106,107,108,109,110,111,112,113,114,115,116,117,118,119,120,121,122])) zm)))
  (aX (sA gL (wC (.str [])) (zl (wB dJ (zl (sC 3 1 (bM (zk 1)) (zo 4) gD gY) zm)) zm))))
def gX:WB:=dU 4 (cR (zk 1) (zz cN [true,true] (zl (zk 0) (zl (wB bQ (zl (zk 1) zm)) zm))))
def oJ:=uB gX.eq_1
def wL:WF:=gB 3 4 [0,1,2]
 (zy (zA (zo 3) (zx bX (zz cN [true,true] (zl (zk 0) (zl (zx aO (zk 2) (wC (.int 1))) zm))) (wB jQ (zl (dD (bF mU (zk 1) (wC (.str [])))) zm))))
  (aX (sA gL (wC (.str [])) (zl (sC 4 1 (bM (zk 3)) (zo 5) gD gX) zm))))
def gW:WS:=zy (zA (zo 10) (zz cN [true,true] (zl (zk 0) (zl (zk 5) zm))))
  (zy (wExpr (cK 6 (bE (zl (zk 8) (zl (zk 9) (zl (zk 10) zm))))))
  (zA (zo 8) (zk 10)))
def oI:=uS gW.eq_1
def jZ:WS:=zy (zA (zo 8) (zz cN [true,true] (zl (zk 0) (zl (zk 5) zm))))
  (eN (fF (zk 2)) (zo 9) gW)
def oH:=uS jZ.eq_1
def jY:WS:=zy (kI 8 10 (zl (zz cN [true,true] (zl (zk 0) (zl (zk 5) zm))) (zl (zz cN [true,true] (zl (zk 0) (zl (zk 5) zm))) zm)))
  (wExpr (cK 6 (bE (zl (zk 8) (zl (cR (zk 1) (zz cN [true,true] (zl (zk 0) (zl (wB bQ (zl (zk 1) zm)) zm)))) (zl (zk 10) zm))))))
def oG:=uS jY.eq_1
def gU:WS:=wExpr (eM 6 (zz cN [true,true] (zl (zk 0) (zl (wB bQ (zl (zk 6) zm)) zm))))
def oF:=uS gU.eq_1
def wK:WF:=gB 5 12 [0,1,2,3,4]
 (zy (zA (zo 5) (zx aO (wC (.int 1)) (zz cN [true,true] (zl (zk 0) (zl (zk 3) zm)))))
  (zy (zA (zo 6) (dX zm))
  (zy (eN (bM (zz cN [true,true] (zl (zk 0) (zl (wC (.int 4)) zm)))) (zo 7) jZ)
  (zy (eN (bM (zx bX (zz cN [true,true] (zl (zk 0) (zl (zx aO (zk 4) (wC (.int 1))) zm))) (wB jQ (zl (dD (bF mU (zk 1) (wC (.str [])))) zm)))) (zo 11) jY)
  (zy (fQ (bF mV (wB gQ (zl (wB jO (zl (zk 6) zm)) zm)) (zk 4)) gU)
  (aX (bE (zl (zk 5) (zl (wB dI (zl (wB dJ (zl (wB jO (zl (zk 6) zm)) zm)) zm)) zm)))))))))
def jX:WS:=wExpr (cK 2 (zx aO (zx aO (cR (zk 2) (nE fV (wC (.int 1)))) (wC (.int 1))) (zz cN [true,true] (zl (zk 0) (zl (wC (.int 120)) zm)))))
def oE:=uS jX.eq_1
def jW:WB:=dU 5 (bE (zl (cR (zk 2) (zk 6)) (zl (zk 7) (zl (cR (zk 2) (zk 8)) zm))))
def oC:=uB jW.eq_1
def wJ:WF:=gB 2 5 [0,1]
 (zy (fG (bF mV (zz cN [true,true] (zl (zk 0) (zl (wC (.int 4)) zm))) (wC (.int 0))) (aX (zk 1)) aY)
  (zy (zA (zo 2) (dX (zl (zz cN [true,true] (zl (zk 0) (zl (wC (.int 12)) zm))) zm)))
  (zy (eN (bM (cR (zk 1) (wC (.int 0)))) (zo 3) jX)
  (zy (zA (zo 4) (wB dI (zl (sC 5 3 (fF (cR (zk 1) (wC (.int 1)))) (cG [zo 6,zo 7,zo 8]) gD jW) zm)))
  (aX (bE (zl (cR (dX (zl (zx aO (cR (zk 2) (nE fV (wC (.int 1)))) (wC (.int 1))) (zl (wC (.int 999)) zm))) (zz cN [true,true] (zl (zk 0) (zl (wC (.int 2)) zm)))) (zl (zk 4) zm))))))))
def oA:WF:=gB 2 7 [0,1]
 (zy (kI 2 3 (zl (zz cN [true,true] (zl (zk 0) (zl (wB bQ (zl (zk 1) zm)) zm))) (zl (zz cN [true,true] (zl (zk 0) (zl (zx aO (wB bQ (zl (zk 1) zm)) (wC (.int 1))) zm))) zm)))
  (zy (zA (zo 4) (zz cN [true,true] (zl (zk 0) (zl (wC (.int 4)) zm))))
  (zy (zA (zo 5) (zx aO (kH (zk 1) none (some (zk 2))) (kH (zk 1) (some (zx aO (zk 2) (wC (.int 1)))) none)))
  (zy (fG (bF gO (zk 4) (wC (.int 0))) (aX (zk 5)) aY)
  (zy (fG (bF gO (zk 4) (wC (.int 1))) (aX (zx aO (zx aO (kH (zk 1) none (some (zk 3))) (bE (zl (cR (zk 1) (zk 2)) zm))) (kH (zk 1) (some (zk 3)) none))) aY)
  (zy (fG (bF gO (zk 4) (wC (.int 2))) (aX (zx aO (zx aO (kH (zk 5) none (some (zk 3))) (bE (zl (cR (zk 1) (zk 2)) zm))) (kH (zk 5) (some (zk 3)) none))) aY)
  (zy (zA (zo 6) (wB dM (zl (zk 1) zm)))
  (zy (zA (cG [uF 6 (zk 2),uF 6 (wB jP (zl (zk 3) (zl (zx dY (wB bQ (zl (zk 6) zm)) (wC (.int 1))) zm)))]) (bE (zl (cR (zk 6) (wB jP (zl (zk 3) (zl (zx dY (wB bQ (zl (zk 6) zm)) (wC (.int 1))) zm)))) (zl (cR (zk 6) (zk 2)) zm))))
  (aX (wB dI (zl (zk 6) zm)))))))))))
def wQ:WF:=gB 3 6 [0,1,2]
 (zy (zA (cG [zo 3,zo 4,zo 5]) (zk 2))
  (zy (fG (fE (eK (cA lR lD (wC (.int 0)) (zk 3) (zk 0)) (eK (cA lR lD (wC (.int 0)) (zk 5) (zk 0)) (dP (zz wR [true] (zl (zk 4) zm)))))) (aX (wC (.bl false))) aY)
  (aX (oB (dD (bF uL (zk 1) (wC .non))) (dD (bF (fM false) (zk 1) (zk 2)))))))
def nZ:WF:=gB 2 12 [0,1]
 (zy (zA (cG [zo 2,zo 3]) (zk 1))
  (zy (zA (zo 4) (zz cN [true,true] (zl (zk 0) (zl (wC (.int 8)) zm))))
  (zy (fG (bF gO (zk 4) (wC (.int 0))) (aX (bE (zl (cR (dX (zl (wC (.int 0)) (zl (nE fV (wC (.int 1))) (zl (zx dY (zk 2) (wC (.int 1))) (zl (zx aO (zk 2) (wC (.int 1))) (zl (zx dY (wC (.int 0)) (zk 2)) (zl (wC (.int 1)) zm))))))) (zz cN [true,true] (zl (zk 0) (zl (wC (.int 6)) zm)))) (zl (zk 3) zm)))) aY)
  (zy (fG (bF gO (wB bQ (zl (zk 3) zm)) (wC (.int 0))) (aX (bE (zl (zk 2) (zl (bE (zl (bE (zl (zz cN [true,true] (zl (zk 0) (zl (wC (.int 9)) zm))) (zl (wC (.str [97])) (zl (zz cN [true,true] (zl (zk 0) (zl (wC (.int 9)) zm))) zm)))) zm)) zm)))) aY)
  (zy (fG (bF lD (zk 4) (wC (.int 4))) (aX (bE (zl (zk 2) (zl (zz oA [true,true] (zl (zk 0) (zl (zk 3) zm))) zm)))) aY)
  (zy (zA (zo 5) (zz cN [true,true] (zl (zk 0) (zl (wB bQ (zl (zk 3) zm)) zm))))
  (zy (zA (cG [zo 6,zo 7,zo 8]) (cR (zk 3) (zk 5)))
  (zy (zA (zo 9) (cR (dX (zl (zk 2) (zl (zx aO (zx aO (zk 2) (wC (.int 1))) (zz cN [true,true] (zl (zk 0) (zl (zx jL (wC (.int 10)) (wC (.int 6))) zm)))) (zl (nE fV (wC (.int 1))) (zl (zx dY (zx dY (wC (.int 0)) (wC (.int 1))) (zz cN [true,true] (zl (zk 0) (zl (wC (.int 9)) zm)))) zm))))) (zz cN [true,true] (zl (zk 0) (zl (wC (.int 4)) zm)))))
  (zy (zA (zo 10) (cR (dX (zl (wC (.str [])) (zl (wC (.str [97,98])) (zl (zx aO (zk 7) (zk 7)) (zl (gZ (zk 7)) (zl (wC (.str [49])) (zl (wC (.str [32])) (zl (wC (.str [126])) (zl (wC (.str [123])) (zl (wC (.str [96])) (zl (wC (.str [10])) zm))))))))))) (zz cN [true,true] (zl (zk 0) (zl (wC (.int 10)) zm)))))
  (zy (zA (zo 11) (cR (dX (zl (bE (zl (zk 9) (zl (zk 7) (zl (zk 8) zm)))) (zl (bE (zl (zk 6) (zl (zk 7) (zl (zk 9) zm)))) (zl (bE (zl (zk 6) (zl (zk 10) (zl (zk 8) zm)))) (zl (bE (zl (zk 9) (zl (zk 10) (zl (zk 9) zm)))) zm))))) (zx dY (zk 4) (wC (.int 4)))))
  (aX (bE (zl (zk 2) (zl (zx aO (zx aO (kH (zk 3) none (some (zk 5))) (bE (zl (zk 11) zm))) (kH (zk 3) (some (zx aO (zk 5) (wC (.int 1)))) none)) zm))))))))))))))
def kD:WS:=zy (fG (fE (dP (zz wQ [true,true,true] (zl (zk 1) (zl (zk 3) (zl (zk 5) zm)))))) (eF jI [97,116] (zk 4)) aY)
  (zA (zo 3) (zk 5))
def oM:=uS kD.eq_1
def wO:WF:=gB 1 6 [0]
 (zy (zA (cG [zo 1,zo 2]) (zk 0))
  (zy (fG (bF lD (zk 1) (wC (.int 1))) (eF jI [97,116] (nE fV (wC (.int 1)))) aY)
  (zy (zA (zo 3) (wC .non))
  (zy (eN (iR (zk 2)) (cG [zo 4,zo 5]) kD)
  (aX (wC (.bl true)))))))
def nX:WF:=gB 1 4 [0]
 (zy (zA (zo 1) (wC .non))
  (zy (fR [jI] 2 (zA (zo 1) (hH (zz wO [true] (zl (zk 0) zm)))) (zy (zA (zo 3) (gE [jI] [] (zk 2)))
  (fG (eK (dP (gE [jI] [jI] (zk 2))) (eK (dP (gE [jI] [jI] (zk 2))) (fE (dP (zk 3))))) (zA (zo 1) (bE (zl (wC (.str [114,101,102,117,115,101,100])) (zl (kG [jI] [97,116] (zk 2)) zm)))) aY)))
  (aX (zk 1))))
def iP:WS:=zA (zo 5) (hH (zz nZ [true,true] (zl (zk 2) (zl (zk 5) zm))))
def lX:=uS iP.eq_1
def iO:WS:=fG (eE false (zz nX [true] (zl (zk 7) zm)) (zz nY [true] (zl (zk 7) zm))) (aX (wC (.bl false))) aY
def lW:=uS iO.eq_1
def iN:WS:=zy (zA (zo 2) (zz wN [true,true] (zl (zk 0) (zl (zk 1) zm))))
  (zy (zA (zo 3) (zz wM [true,true] (zl (zk 2) (zl (zx aO (wC (.int 1)) (zz cN [true,true] (zl (zk 2) (zl (wC (.int 4)) zm)))) zm))))
  (zy (zA (zo 4) (hH (zz wJ [true,true] (zl (zk 2) (zl (hH (zz wK [true,true,true,true,true] (zl (zk 2) (zl (zk 3) (zl (zz wL [true,true,true] (zl (zk 2) (zl (zk 3) (zl (wC (.int 6)) zm)))) (zl (wC (.int 8)) (zl (wC (.int 24)) zm))))))) zm)))))
  (zy (zA (zo 5) (zk 4))
  (zy (eN (bM (zx aO (wC (.int 1)) (zz cN [true,true] (zl (zk 2) (zl (wC (.int 3)) zm))))) (zo 6) iP)
  (eN (fF (bE (zl (zk 4) (zl (zk 5) (zl (zk 4) (zl (zk 5) zm)))))) (zo 7) iO)))))
def lV:=uS iN.eq_1
def kE:WF:=gB 1 8 [0]
 (zy (eN (bM (wB mW (zl (wC (.int 1)) (zl (wB jP (zl (wC (.int 4)) (zl (wB bQ (zl (zk 0) zm)) zm))) zm)))) (zo 1) iN)
  (aX (wC (.bl true))))
end Law
end
namespace Law
open FL
variable{P:S->List S->Prop}{PX:D->List S->Prop}
set_option hygiene false in
local macro_rules
 |`(tactic|simp! [$xs,*] $[$l:location]?)=>do
  let ls<-("e_C e_V zog zkK e_Un znf znt e_Ck zn6 zmm zkr e_Ch zni zo4 zlk zle znS zk8 zi3 ziX zoL zlg zk4 e_Or zob znJ zm7 zlV znN zlw zkP zi8 zjo zjs zo5 zmu zkM zkJ znb zl6 zjv zjz zoA e_gA zo2 zm5 e_gv zoj zkQ zlh zm0 zlH zl7 e_l0 e_l1 e_l2 e_l3 e_l4 e_l6 e_vv e_cv e_cl zlZ e_sh zaP zoi e_Ix zor znY zmo zkg zm3 znd zm8 zmM zoD zoT zox znu e_p0 e_pv e_pl zoO e_pA e_b0 e_bv e_bl zmn zjV zi9 zkT zmE e_vA znP e_B e_B1 e_B2 e_MS znR zoF e_Ap znp zn1 zn3 zoJ zna zl4 zll zmW e_Pt zo3 znZ e_Sl zoX zoC znh zoG e_nx e_rt e_ex zlF zmZ e_If zn2 zom zmN zlf zjj znL zkU zlj znI zlE zlu zkC e_gN e_gT zmI znG zne zm1 zoP zl9 zkk zlD zk6 zkc zjY e_It zoZ znC zmJ zn9 znM e_En zop zmF zmQ e_R1 zof znO zoE zko zn7 zoo zmR e_LC zn4 znB zkB znc zkj znE e_Em zmU znH zoe zmC znV e_Rt e_Fn e_f0 e_fs e_fl e_fA znq zlx zlK znA zkE zmL zkR znm zmB e_lt e_gt e_le e_ge zmk zmz zlG zoY zo1 zki zlN zkt zke zkz zks zmj znz zmH znl zns znX znK zmX zos zok znn zoa zm9 znx zou zm2 zoW zot zm4 zov znD zno znQ zoS zoq zoQ zmD znW zmy zoM zoI znU zoV zm6 zkq zkH zly zmf zkS zmi zl1 znF zmd zkY e_Re zoc zoz zmT znk zml zmr zlr zkp zls zow zoH e_Rz zng zo0 e_XF zmO znT zlT ziQ zjm zjO znw zlP zmg e_Up zmP e_Ga zon zn8 zmA ziH map_some S.toD_sh S.toD_lst qy map_nil cons_append nil_append List.replicate_succ List.replicate_zero Nat.reduceSub Nat.reduceAdd qz List.take_succ_cons List.take_zero true_and S.toDs_map S.toD_dct Int.reduceEq Int.reduceLT Int.reduceLE decide_true decide_false Bool.not_true Bool.not_false".splitOn " ").toArray.mapM λn=>`(Lean.Parser.Tactic.simpLemma|$(Lean.mkIdent n.toName):ident)
  let ls:=ls++xs.getElems
  `(tactic|simp -implicitDefEqProofs (disch:=first|omega|decide|rfl|(simp only[qo,qq,qt,qv,qC,fB];omega)|(simp only[qo,qq,qt,qv,qC,fB];done)) only[$ls,*] $[$l:location]?)
local macro_rules|`(tactic|lia)=>`(tactic|lia -verbose)
noncomputable section pu
def aG(a s:Int):S:=.lst [.sh (.int a),.sh (.int s)]
def AE{a s m:Int}(F:0<=a)(hs:1<=s)(z:s<=2147483629)(B:0<m)(J:m<18446744073709551616)
  (h:∀r G s',0<=r->r<m->0<=G->1<=s'->s'<=2147483629->P (.sh (.int r)) [aG G s',.sh (.int m)]):cN [aG a s,.sh (.int m)] P PX:=by
 show BM rfl rfl ?_;simp! [aG];cases L:decide (0<a)
 .simp! [e_C];show h _ _ _ (Int.emod_nonneg _ ∅) (Int.emod_lt_of_pos _ B) F ∅ ∅
 .simp! [e_C];show h _ _ _ (Int.emod_nonneg _ ∅) (Int.emod_lt_of_pos _ B) (Int.ediv_nonneg F ∅) hs z
def Pm{ns:List Int}{k:Int}(L:0<=k)
  (h:∀a s,0<=a->1<=s->s<=2147483629->P (aG a s) [.sh (.lst (ns.map .int)),.sh (.int k)]):wN [.sh (.lst (ns.map .int)),.sh (.int k)] P PX:=by
 show BM rfl rfl ?_;simp! [length_map];by_cases h1:k<ns.length
 .obtain⟨v,J,_,e⟩:=CZ (f:=D.int) L h1;simp! [length_map,h1,decide_true,e];cases F:decide ((10:Int)^(18:Int).toNat<=v)
  .simp! [if_true,false_eq_true,if_false];show h _ _ ⋯ ∅ ∅
  .simp! [if_true];let:(0:Int)<=v:=by
    let:=qS F;let e:(10:Int)^(18:Int).toNat=1000000000000000000:=⋯
    lia
   show h _ _ this ∅ ∅
 .by_cases h2:0<ns.length
  .have G:(0:Int)<ns.length:=by lia
   let#[v,J,_,e]:=CZ (f:=D.int) (l:=ns) (z:=k %ns.length) (Int.emod_nonneg _ ∅) (Int.emod_lt_of_pos _ G);simp! [length_map,h1,G,decide_true,decide_false,e];generalize 7919*k+11+v %2147483629*69623=B;cases F:decide ((10:Int)^(18:Int).toNat<=B)
   .simp! [if_true,false_eq_true,if_false];show h _ _ ⋯ ∅ ∅
   .simp! [if_true];let:(0:Int)<=B:=by
     let:=qS F;let e:(10:Int)^(18:Int).toNat=1000000000000000000:=⋯
     lia
    show h _ _ this ∅ ∅
  .have G:¬(0:Int)<ns.length:=by lia
   simp! [length_map,h1,G,decide_true,decide_false];generalize 7919*k+11=B;cases F:decide ((10:Int)^(18:Int).toNat<=B)
   .simp! [if_true,false_eq_true,if_false];show h _ _ ⋯ ∅ ∅
   .simp! [if_true];let:(0:Int)<=B:=by
     let:=qS F;let e:(10:Int)^(18:Int).toNat=1000000000000000000:=⋯
     lia
    show h _ _ this ∅ ∅
def Pf{l:List D}(h:(cO l).isSome=true)(z:l.length<64):cH l=some (.lst ((dR l).map .sh)):=by unfold cH;rw[qY #[z,.inr (.inr (.inl h))]]
def Pq{A:List Nat}(h:A.length<64):∃z:List Nat,z.Perm A/\z.Pairwise (·<=·)/\cH (A.map sg)=some (.lst ((z.map sg).map .sh)):=by
 let e:A.map sg=(A.map λc=>[c]).map D.str:=by rw[qD];rfl
 let#[z,G,F]:=Nq (Ej (A.map sg));show#[z,G,?_,?_]
 .let B:=FU GE (A.map sg) (by rw[e];show OT _);rw[F,pairwise_map]at B;show B.imp λ{a b} h=>?_;let h':(!decide (([b]:List Nat)<[a]))=true:=by rw[<-Jb];exact h
  let h2:¬([b]:List Nat)<[a]:=↑h'
  rw[Ip]at h2;lia
 .rw[Pf (by rw[IC];rfl) ↑h,F]
def letters:List Nat:=[97,98,99,100,101,102,103,104,105,106,107,108,109,110,111,112,113,114,115,116,117,118,119,120,121,122]
def Pg{Q:Env->Prop}{E:WX}{m:Int}:∀(xs:List D)(a s:Int)(L A:List Nat)(o:Option S),xs.length<=L.length->0<=a->1<=s->s<=2147483629->(A++L).Perm letters->
  (∀Y s'(L' O:List Nat) o',0<=Y->1<=s'->s'<=2147483629->O.length=A.length+xs.length->(O++L').Perm letters->Q [some (aG Y s'),some (.sh (.int m)),some (.lst ((L'.map sg).map .sh)),some (.lst ((O.map sg).map .sh)),o'])->
  aN (zo 4) gD gY xs [some (aG a s),some (.sh (.int m)),some (.lst ((L.map sg).map .sh)),some (.lst ((A.map sg).map .sh)),o] Q E:=by
 intro xs;induction xs with
 |nil=>intro a s L A o h1 ha hs B z h;show h a s L A o ha hs B (by simp) z
 |cons x xs ih=>
  intro a s L A o h1 ha hs B z h;let M:=z.length_eq;let h6:letters.length=26:=rfl;simp only[qt,qq]at h1 h M;rw[uH];simp! [oK,e_sh,zaP,aG,length_map];show AE ha hs B ?_ ?_ λr Y s' hr h3 h5 h2 J=>?_
  .lia
  .lia
  simp! [e_sh,zaP,aG,length_map];let#[c,hc,hg,_]:=Gp (l:=L) hr h3;show Ih hr (by simp only[qo,fB];lia) (KB (d:=sg c) (by rw[qE,hg];rfl)) ?_;simp! [e_sh,zaP,aG,length_map];show#[by simp only[fB];lia,?_];let e1:((L.map sg).map S.sh).eraseIdx r.toNat=((L.eraseIdx r.toNat).map sg).map S.sh:=by rw[EH,EH]
  let e2:((A.map sg).map S.sh)++[S.sh (sg c)]=(((A++[c]).map sg).map S.sh):=by simp
  rw[e1,e2];let G:r.toNat<L.length:=∅
  let hl:(L.eraseIdx r.toNat).length=L.length-1:=List.length_eraseIdx_of_lt G;let h4:L[r.toNat]=c:=by rw[qh G]at hg;show qf hg
  let F:(A++[c]++L.eraseIdx r.toNat).Perm (A++L):=by rw[qp];show List.Perm.append_left A ?_;let:=KE L r.toNat G;rw[h4]at this;show this
  show ih Y s' _ _ _ ∅ h5 h2 J (F.trans z) λa2 s2 L' O o' x1 x2 x3 x4 x5=>h a2 s2 L' O o' x1 x2 x3 (by rw[x4];simp only[qq,qB];lia) x5
def RN{a s m:Int}(ha:0<=a)(hs:1<=s)(L:s<=2147483629)(hm:0<=m)(h4:m<=26)
  (h:∀(l:List Nat) G s',l.length=m.toNat->l.Pairwise (·<·)->(∀c∈l,97<=c/\c<=122)->0<=G->1<=s'->s'<=2147483629->P (.sh (.str l)) [aG G s',.sh (.int m)]):wM [aG a s,.sh (.int m)] P PX:=by
 refine BM rfl rfl ?_;simp! [aG,e_sh,zaP];show#[by simp only[fB];lia,?_];let hf:(fromTo 0 m.toNat).length=m.toNat:=Dz;let h3:letters.length=26:=rfl;refine Pg (fromTo 0 m.toNat) a s letters [] none (by rw[hf,h3];lia) ha hs L (List.Perm.refl _)
  λG s' L' A' o' h2 M z hA B=>?_
 rw[hf,qv,zero_add]at hA;let Y:A'.Nodup:=(qw.mp (B.nodup_iff.mpr ⋯)).1;let h1:∀c∈A',97<=c/\c<=122:=λc hc=>by
  let:c∈letters:=B.mem_iff.mp (qj _ hc);let F:∀c∈letters,97<=c/\c<=122:=⋯
  show F c this
 let#[A2,O,J,e]:=Pq (A:=A') ∅;let hl:A2.length=m.toNat:=O.length_eq.trans hA;simp! [aG,e_sh,zaP,e,IZ (show A2.length<=big by simp only[fB];lia)];show h A2 G s' hl (QZ J (O.nodup_iff.mpr Y)) (λc hc=>h1 c (O.mem_iff.mp hc)) h2 M z
def Qj{Q:Env->Prop}{E:WX}{m many:Int}{col:List Nat}(hc:0<col.length)(h4:col.length<=26):∀(xs:List D)(a s:Int)(A:List Nat)(o:Option S),0<=a->1<=s->s<=2147483629->A.length+xs.length<=1000->
  (∀J s'(G:List Nat) o',0<=J->1<=s'->s'<=2147483629->G.length=A.length+xs.length->(∀z∈G,z∈A\/z∈col)->Q [some (aG J s'),some (.sh (.str col)),some (.sh (.int m)),some (.sh (.int many)),some (.lst ((G.map sg).map .sh)),o'])->
  aN (zo 5) gD gX xs [some (aG a s),some (.sh (.str col)),some (.sh (.int m)),some (.sh (.int many)),some (.lst ((A.map sg).map .sh)),o] Q E:=by
 intro xs;induction xs with
 |nil=>intro a s A o ha O B h3 h;show h a s A o ha O B (by simp) λz L=>.inl L
 |cons x xs ih=>
  intro a s A o ha O B h3 h;simp only[qt]at h3 h;rw[uH];simp! [oJ,e_sh,zaP,aG,length_map];show AE ha O B ∅ ∅ λr J s' hr Y h2 M F=>?_;let#[c,h1,_,e]:=Gp (l:=col) hr Y;simp! [e,e_sh,zaP,aG,length_map];show#[by simp only[fB];lia,?_];let e2:((A.map sg).map S.sh)++[S.sh (.str [c])]=(((A++[c]).map sg).map S.sh):=by simp[sg]
  rw[e2];show ih J s' _ _ h2 M F (by simp only[qq,qB];lia) λa2 s2 G o' x1 x2 x3 x4 x5=>h a2 s2 G o' x1 x2 x3 (by rw[x4];simp only[qq,qB];lia) λz L=>?_;rcases x5 z L with q|q
  .rcases qx.mp q with q|q
   .show .inl q
   .rw[qu.mp q];show .inr h1
  .show .inr q
def Rl{a s m:Int}{col:List Nat}(ha:0<=a)(hs:1<=s)(J:s<=2147483629)(hm:0<=m)(h4:m<=900)(hc:0<col.length)(Y:col.length<=26)
  (h:∀(l:List Nat) G s',l.length<=m.toNat->(∀z∈l,z∈col)->0<=G->1<=s'->s'<=2147483629->P (.sh (.str l)) [aG G s',.sh (.str col),.sh (.int m)]):wL [aG a s,.sh (.str col),.sh (.int m)] P PX:=by
 show BM rfl rfl ?_;simp! [aG,e_sh,zaP];show AE ha hs J ∅ ∅ λr a1 s1 hr h3 h1 L B=>?_;let O:(decide (col=[]))=false:=by simp;intro z;rw[z]at hc;simp at hc
 simp! [aG,e_sh,zaP,O,Bool.not_false,if_true,mul_one];show#[by simp only[fB];lia,?_];let hf:(fromTo 0 r.toNat).length=r.toNat:=Dz;show Qj (A:=[]) hc Y _ a1 s1 none h1 L B (by rw[hf];simp only[qv];lia) λG s' A' o' h2 M F hA hg=>?_;rw[hf,qv,zero_add]at hA;simp! [aG,e_sh,zaP];rw[IZ (by simp only[fB];lia)];simp! [aG,e_sh,zaP];show h A' G s' ∅ (λz hz=>(hg z hz).resolve_left (by simp)) h2 M F
abbrev St:=Int×Nat×Int
def dF(t:St):D:=.tup [.int t.1,.str [t.2.1],.int t.2.2]
def xM:List Bool:=[false,true,false]
def Ij(L:List St):gH (L.map dF)=true:=by unfold gH;rw[or_eq_true];show .inr (qH.mpr λd z=>?_);let#[t,_,rfl]:=qJ.mp z;rfl
def Iw{P:St->Prop}:∀{l:List D},(∀d∈l,∃t,d=dF t/\P t)->∃B:List St,l=B.map dF/\∀t∈B,P t
 |[],_=>#[[],rfl,λ_ z=>nomatch z]
 |d::l,h=>by
  let#[t,rfl,G]:=h d qm;let#[B,rfl,J]:=Iw (l:=l) λe L=>h e (qk _ L);show#[t::B,rfl,λu F=>?_];rcases qA.mp F with rfl|z
  .show G
  .show J u z
def Pk{P:St->Prop}{L:List St}(hL:∀t∈L,P t)(M:(bL (L.map dF)).length<64):∃B:List St,cH (bL (L.map dF))=some (.lst ((B.map dF).map .sh))/\B.length=(bL (L.map dF)).length/\(∀t∈B,P t)/\(B.map dF).Pairwise (cS · ·=true)/\(B.map dF).Nodup:=by
 let O:∀d∈bL (L.map dF),∃t,d=dF t/\P t:=λd G=>by let#[t,Y,rfl]:=qJ.mp (zgS.mp G);show#[t,rfl,hL t Y]
 let J:=Ej (bL (L.map dF));let#[B,e,hs]:=Iw (P:=P) (l:=dR (bL (L.map dF))) λd G=>O d (J.mem_iff.mp G);let F:∀d∈bL (L.map dF),jF xM d:=λd G=>by let#[t,rfl,_]:=O d G;trivial
 show#[B,?_,?_,hs,?_,?_]
 .unfold cH;rw[qY #[M,.inr (.inr (.inr #[xM,λz=>(nomatch z),F]))],e]
 .let:=J.length_eq;rw[e,qo]at this;show this
 .rw[<-e];show FU (Fo xM) _ F
 .rw[<-e];show J.nodup_iff.mpr (RP _)
def zO(many:Int)(z:List St):D:=.tup [.int many,.tup (z.map dF)]
def gJ(many:Int)(col z:List Nat)(t:St):Prop:=(0<=t.1/\t.1<many)/\(0<=t.2.2/\t.2.2<many)/\(t.2.1∈col\/t.2.1∈z)
def jT(L:List St):S:=.lst ((L.map dF).map .sh)
def Ii(L:List St)(t:St):(L.map dF).map S.sh++[S.sh (.tup [.int t.1,.str [t.2.1],.int t.2.2])]=((L++[t]).map dF).map S.sh:=by simp[dF]
def Pd{D':Ends}{many:Int}{col J:List Nat}{s3 s4 s7 M:Option S}(hm:1<=many)(h9:many<=1000):∀(xs:List Nat)(a s x:Int)(L:List St)(F B:Option S),0<=a->1<=s->s<=2147483629->0<=x->x<many->(∀c∈xs,c∈J)->L.length+xs.length<=1000->(∀t∈L,gJ many col J t)->
  (∀a' s' x'(L':List St) F B,0<=a'->1<=s'->s'<=2147483629->L'.length=L.length+xs.length->(∀t∈L',gJ many col J t)->D'.nx [some (aG a' s'),some (.sh (.str col)),some (.sh (.str J)),s3,s4,some (.sh (.int many)),some (jT L'),s7,some (.sh (.int x')),F,B,M])->
  bJ (zo 9) gW (xs.map sg) D' [some (aG a s),some (.sh (.str col)),some (.sh (.str J)),s3,s4,some (.sh (.int many)),some (jT L),s7,some (.sh (.int x)),F,B,M]:=by
 intro xs;induction xs with
 |nil=>intro a s x L F B ha hs G hx O hc hl hL h;show h a s x L F B ha hs G (by simp) hL
 |cons c xs ih=>
  intro a s x L F B ha hs G hx O hc hl hL h;rw[qy,uI];simp only[qt]at hl h;simp! [oI,aG,jT,sg];show AE ha hs G ∅ ∅ λr a' s' hr h6 h8 h7 Y=>?_;simp! [aG,jT,length_map];show#[by simp only[fB];lia,?_];rw[Ii L (x,c,r)];show ih a' s' r (L++[(x,c,r)]) _ _ h8 h7 Y hr h6 (λd hd=>hc d (qk _ hd)) (by rw[qq,qB];lia) (λt ht=>?_) λa2 s2 x2 L' F B h1 h2 h3 h4 h5=>h a2 s2 x2 L' F B h1 h2 h3 (by rw[h4,qq,qB];lia) h5;rcases qx.mp ht with z|z
  .show hL t z
  .rw[qu.mp z];show#[#[hx,O],#[hr,h6],.inr (hc c qm)]
def PD{D':Ends}{many M:Int}{col G:List Nat}{s3 s7 s8 s9 F B:Option S}(hM:0<=M)(h6:M<=60){a s:Int}{L:List St}(ha:0<=a)(hs:1<=s)(z:s<=2147483629)(Y:L.length<=150)(hL:∀t∈L,gJ many col G t)
  (h:∀a' s'(L':List St),0<=a'->1<=s'->s'<=2147483629->L'.length<=150->((bL (L'.map dF)).length:Int)<=M->(∀t∈L',gJ many col G t)->D'.nx [some (aG a' s'),some (.sh (.str col)),some (.sh (.str G)),s3,some (.sh (.int M)),some (.sh (.int many)),some (jT L'),s7,s8,s9,F,B]):
  fQ (bF mV (wB gQ (zl (wB jO (zl (zk 6) zm)) zm)) (zk 4)) gU D' [some (aG a s),some (.sh (.str col)),some (.sh (.str G)),s3,some (.sh (.int M)),some (.sh (.int many)),some (jT L),s7,s8,s9,F,B]:=by
 show Lv (λm U=>∃(a s:Int)(L:List St),0<=a/\1<=s/\s<=2147483629/\L.length<=150/\m=L.length/\(∀t∈L,gJ many col G t)/\U=[some (aG a s),some (.sh (.str col)),some (.sh (.str G)),s3,some (.sh (.int M)),some (.sh (.int many)),some (jT L),s7,s8,s9,F,B]) _ #[a,s,L,ha,hs,z,Y,rfl,hL,rfl] λm U hJ=>?_;let#[a,s,L,ha,hs,z,Y,rfl,hL,rfl]:=hJ;simp! [jT,zaP,length_map,Jk (l:=L.map dF) #[Ij L,by rw[length_map];show Y]];let h2:=Qq (L.map dF);rw[qo]at h2;cases q:decide (M<((bL (L.map dF)).length:Int))
 .simp! [wI];show h a s L ha hs z Y (by let:=of_decide_eq_false q;lia) hL
 .let q':=qS q;simp! [wH,oF,aG,length_map];show AE ha hs z ∅ ∅ λr a' s' hr h5 h3 h1 J=>?_;simp! [aG,length_map];let O:r.toNat<L.length:=by lia
  show Ih hr (by simp only[qo,fB];lia) (KB (d:=dF L[r.toNat]) (by rw[qE,qh O];rfl)) ?_;simp! [aG];let h4:(L.eraseIdx r.toNat).length=L.length-1:=List.length_eraseIdx_of_lt O;show#[L.length-1,∅,a',s',L.eraseIdx r.toNat,h3,h1,J,∅,∅,λt ht=>hL t (List.mem_of_mem_eraseIdx ht),?_];rw[EH,EH]
def RC{a s R M:Int}{col O:List Nat}(ha:0<=a)(hs:1<=s)(B:s<=2147483629)(hR:0<R)(hR2:R<=900)(hM:0<=M)(hM2:M<=60)(hc:0<col.length)(hc2:col.length<=26)(hw:O.length<=25)
  (h:∀(many:Int)(G:List St) a' s',1<=many->many<=R->(G.length:Int)<=M->(∀t∈G,gJ many col O t)->(G.map dF).Pairwise (cS · ·=true)->(G.map dF).Nodup->0<=a'->1<=s'->s'<=2147483629->P (.sh (zO many G)) [aG a' s',.sh (.str col),.sh (.str O),.sh (.int R),.sh (.int M)]):
  wK [aG a s,.sh (.str col),.sh (.str O),.sh (.int R),.sh (.int M)] P PX:=by
 show BM rfl rfl ?_;simp! [aG];show AE ha hs B hR ∅ λr a1 s1 hr hr2 k1 hl h8=>?_;simp! [aG];show AE k1 hl h8 ⋯ ⋯ λr2 a2 s2 hr20 hr22 r1 hs2' h7=>?_;simp! [aG];show#[by simp only[fB];lia,?_];let hne:(decide (col=[]))=false:=by simp;intro z;rw[z]at hc;simp at hc
 show HC (λk U=>∃(a s:Int)(L:List St)(o7 o8 o9 F:Option S),0<=a/\1<=s/\s<=2147483629/\L.length=k*O.length/\(∀t∈L,gJ (1+r) col O t)/\U=[some (aG a s),some (.sh (.str col)),some (.sh (.str O)),some (.sh (.int R)),some (.sh (.int M)),some (.sh (.int (1+r))),some (jT L),o7,o8,o9,F,none]) _ (λk x hx D2 U hI hm hct hrt hbk=>?_) (λU hI=>?_) #[a2,s2,[],none,none,none,none,r1,hs2',h7,by simp,λ_ z=>(nomatch z),rfl]
 .obtain⟨a,s,L,o7,o8,o9,F,ha,hs,B,hL,J,rfl⟩:=hI;let hk:k<4:=by let:=(qg.mp hx).1;rw[Dz]at this;lia
  let hb:k*O.length<=3*25:=mul_le_mul ∅ hw;simp! [oH,aG];show AE ha hs B ∅ ∅ λr3 a3 s3 hd h9 hq hi Y=>?_;simp! [aG,bp];show Pd ∅ ∅ O a3 s3 r3 L _ _ hq hi Y hd h9 (λc hc=>hc) ∅ J λa' s' x' L' o9 F h1 h2 h3 h4 h5=>hm _ #[a',s',L',_,_,o9,F,h1,h2,h3,?_,h5,rfl];rw[h4,hL,Nat.succ_mul]
 .obtain⟨a,s,L,o7,o8,o9,F,ha,hs,B,hL,J,rfl⟩:=hI;rw[Dz]at hL;let hb:r2.toNat*O.length<=3*25:=mul_le_mul ∅ hw;simp! [aG];show AE ha hs B ∅ ∅ λr4 a4 s4 hr4 hr42 ha4 hs4 hs24=>?_;simp! [aG,hne,Bool.not_false,if_true,mul_one];show#[by simp only[fB];lia,?_];refine HC (λk U=>∃(a s:Int)(L:List St)(o7 o8 o9 F hp:Option S),0<=a/\1<=s/\s<=2147483629/\L.length<=75+k/\(∀t∈L,gJ (1+r) col O t)/\U=[some (aG a s),some (.sh (.str col)),some (.sh (.str O)),some (.sh (.int R)),some (.sh (.int M)),some (.sh (.int (1+r))),some (jT L),o7,o8,o9,F,hp]) _ (λk x hx D2 U hI hm hct hrt hbk=>?_) (λU hI=>?_) #[a4,s4,L,o7,o8,o9,F,none,ha4,hs4,hs24,∅,J,rfl]
  .obtain⟨a,s,L,o7,o8,o9,F,hp,ha,hs,B,hL,J,rfl⟩:=hI;let hk:k<61:=by let:=(qg.mp hx).1;rw[Dz]at this;lia
   simp! [oG,aG];show AE ha hs B ∅ ∅ λx1 a1 s1 hx1 k3 k1 hl h8=>?_;simp! [aG];show AE k1 hl h8 ∅ ∅ λy1 a2 s2 hy1 k2 r1 B h7=>?_;simp! [aG,jT];show AE r1 B h7 ∅ ∅ λr3 a3 s3 hd h9 hq hi Y=>?_;let#[c,hcm,_,e]:=Gp (l:=col) hd h9;simp! [aG,e,length_map];show#[by simp only[fB];lia,?_];rw[Ii L (x1,c,y1)];show hm _ #[a3,s3,L++[(x1,c,y1)],_,_,_,_,_,hq,hi,Y,by rw[qq,qB];lia,λt ht=>?_,rfl];rcases qx.mp ht with z|z
   .show J t z
   .rw[qu.mp z];show#[#[hx1,k3],#[hy1,k2],.inl hcm]
  .obtain⟨a,s,L,o7,o8,o9,F,hp,ha,hs,B,hL,J,rfl⟩:=hI;rw[Dz]at hL;simp! [e_C];show PD (L:=L) hM hM2 ha hs B ∅ J λa' s' L' h1 h2 h3 h4 h5 h6=>?_;let#[G,e1,e2,e3,e4,e5]:=Pk h6 ∅;simp! [jT,zaP,length_map,Jk (l:=L'.map dF) #[Ij L',by rw[length_map];show h4],e1];show h (1+r) G a' s' ∅ ∅ ∅ e3 e4 e5 h1 h2 h3
def sG(w:Wd):Bool:=w.all λc=>decide (97<=c)&&decide (c<=122)
def Ic{a b:Nat}:lR (.str [a]) (.str [b])=some (decide (a<=b)):=by show some (!decide ([b]<[a]))=_;congr 1;let:([b]:List Nat)<[a]↔b<a:=Ip;simp only[this];rw[<-decide_not,decide_eq_decide];lia
def RZ{w:Wd}(J:w.length<=1000)(h:P (.sh (.bl (sG w))) [.sh (.str w)]):wU [.sh (.str w)] P PX:=by
 show BM rfl rfl ?_;simp! [e_C];show SA (n:=1) w (λc=>.sh (.bl (decide (97<=c)&&decide (c<=122)))) (λc L l o K F z=>?_) λo=>?_
 .simp! [sM,zZ,oN,Ic];let B:l.length<big:=by simp only[fB];lia
  cases q:decide (97<=c)
  .simp! [e_C];rw[q]at z;show#[B,z _]
  .rw[q]at z;simp! [Ic];show#[B,z _]
 .let e:(w.map λc=>S.sh (D.bl (decide (97<=c)&&decide (c<=122)))).map S.toD=(w.map λc=>(decide (97<=c)&&decide (c<=122))).map D.bl:=by rw[qD,qD];rfl
  simp! [e,Ma];let G:(w.map λc=>(decide (97<=c)&&decide (c<=122))).all id=sG w:=by rw[List.all_map];rfl
  rw[G];show h
def RS{c:Nat}:c∈letters↔97<=c/\c<=122:=by rw[show letters=List.range' 97 26 from rfl,List.mem_range'_1];lia
def lQ(w:Wd):Bool:=decide ((w.length:Int)=1)&&sG w
def Sq{w:Wd}(z:w.length<=1000)(h:P (.sh (.bl (lQ w))) [.sh (.str w)]):wR [.sh (.str w)] P PX:=by
 show BM rfl rfl ?_;unfold lQ at h;simp! [e_C];cases q:decide ((w.length:Int)=1)
 .rw[q]at h;simp! [e_C];show h
 .rw[q]at h;simp! [e_C];show RZ z ?_;simp! [e_C];show h
abbrev Sg:=Int×Wd×Int
def bK(t:Sg):D:=.tup [.int t.1,.str t.2.1,.int t.2.2]
def cF(many:Int)(L:List Sg):D:=.tup [.int many,.tup (L.map bK)]
def tL(t u:Sg):Bool:=aD [.int t.1,.str t.2.1,.int t.2.2] [.int u.1,.str u.2.1,.int u.2.2]==.lt
def sH(many x:Int):Bool:=decide (0<=x)&&decide (x<many)
def vT(many:Int)(t:Sg):Bool:=sH many t.1&&(sH many t.2.2&&lQ t.2.1)
def d0:Sg:=(0,[],0)
def eU(many:Int)(L:List Sg)(k:Nat):Bool:=!vT many (L.getD k d0)||(decide (0<k)&& !tL (L.getD (k-1) d0) (L.getD k d0))
def fS(z:Int):D:=.tup [.str [114,101,102,117,115,101,100],.int z]
def cU(many:Int)(L:List Sg):D:=if many<1 then fS (-1)else match(List.range L.length).find? (eU many L)with
 |some k=>fS k
 |none=>.bl true
def HJ(g:Bool)(t u:Sg):fM g (bK t) (bK u)=some (fo g (aD [.int t.1,.str t.2.1,.int t.2.2] [.int u.1,.str u.2.1,.int u.2.2])):=ziH rfl
def HF(t u:Sg):fo false (aD [.int t.1,.str t.2.1,.int t.2.2] [.int u.1,.str u.2.1,.int u.2.2])=tL t u:=by unfold fo tL;simp
def HE(t u:Sg):fo true (aD [.int t.1,.str t.2.1,.int t.2.2] [.int u.1,.str u.2.1,.int u.2.2])=!tL t u:=by unfold fo tL;simp
structure AG(L:List Sg):Prop where
 len:L.length<=100
 sh:∀t∈L,t.2.1.length<=100
def rT(o:Option Sg):D:=match o with
 |some t=>bK t
 |none=>.non
def vY(o:Option Sg)(t:Sg):Bool:=match o with
 |some u=>tL u t
 |none=>true
def lB(many:Int)(o:Option Sg)(t:Sg):Bool:=vT many t&&vY o t
def Mj(t:Sg):uL (bK t) .non=some false:=by show some (open Classical in decide (bK t=D.non))=_;simp[bK]
def Lu:uL .non .non=some true:=by show some (open Classical in decide (D.non=D.non))=_;simp
def OF{many:Int}{o:Option Sg}{t:Sg}(O:t.2.1.length<=1000)(h:P (.sh (.bl (lB many o t))) [.sh (.int many),.sh (rT o),.sh (bK t)]):wQ [.sh (.int many),.sh (rT o),.sh (bK t)] P PX:=by
 show BM rfl rfl ?_;let z:vT many t=true->P (.sh (.bl (vY o t))) [.sh (.int many),.sh (rT o),.sh (bK t)]:=λB=>by unfold lB at h;rw[B]at h;show h
 let no:vT many t=false->P (.sh (.bl false)) [.sh (.int many),.sh (rT o),.sh (bK t)]:=λB=>by unfold lB at h;rw[B]at h;show h
 unfold vT sH at z no;rw[show bK t=D.tup [.int t.1,.str t.2.1,.int t.2.2] from rfl];simp! [length_cons,length_nil];cases M:decide (0<=t.1)
 .simp! [e_C];show no (by rw[M];rfl)
 .simp! [e_C];cases L:decide (t.1<many)
  .simp! [e_C];show no (by rw[L];simp)
  .simp! [e_C];cases J:decide (0<=t.2.2)
   .simp! [e_C];show no (by rw[J];simp)
   .simp! [e_C];cases G:decide (t.2.2<many)
    .simp! [e_C];show no (by rw[G];simp)
    .simp! [e_C];show Sq O ?_;cases F:lQ t.2.1
     .simp! [e_C];show no (by rw[F];simp)
     .simp! [e_C];let:=z (by rw[M,L,J,G,F];rfl);cases o with
      |none=>simp! [rT,Lu];show this
      |some u=>simp! [rT,Mj];rw[show D.tup [.int t.1,.str t.2.1,.int t.2.2]=bK t from rfl,HJ,HF];simp! [e_C];show this
def DI(L:List Sg):bO 0 (L.map bK)=(List.range L.length).map λk:Nat=>D.tup [.int (k:Int),bK (L.getD k d0)]:=by let:=JY (λd:D=>d) (L.map bK) 0;rw[List.map_id']at this;rw[this,qo];show map_congr_left λi hi=>?_;let hi:=qI.mp hi;rw[zero_add,qE,qh hi];simp[List.getD,qh hi]
def Pi{p:Nat->Bool}{z B:List Nat}{k:Nat}(F:∀j∈z,p j=false)(G:p k=true):(z++k::B).find? p=some k:=by rw[List.find?_append,List.find?_eq_none.mpr λj J=>by simp[F j J],find?_cons,G];rfl
def HV{L:List Sg}{k:Nat}(h:k<L.length):L.getD k d0∈L:=by rw[List.getD_eq_getElem?_getD,qh h];show getElem_mem h
def EZ{L:List Sg}{k:Nat}(h:k<L.length):atI (L.map bK) (k:Int)=some (bK (L.getD k d0)):=by let#[v,_,B,F]:=CZ (f:=bK) (l:=L) (z:=(k:Int)) ∅ ∅;rw[F,List.getD_eq_getElem?_getD];rw[qU]at B;rw[B];rfl
def Jf{many:Int}{L:List Sg}{k:Nat}{B F:List Nat}(J:¬many<1)(e:B++k::F=List.range L.length)(G:∀j∈B,eU many L j=false)(z:eU many L k=true):cU many L=fS k:=by unfold cU;rw[qZ J,<-e,Pi G z]
def IM{many:Int}{L:List Sg}(B:¬many<1)(z:∀j∈List.range L.length,eU many L j=false):cU many L=.bl true:=by unfold cU;rw[qZ B,List.find?_eq_none.mpr λj F=>by rw[z j F];decide]
def Od{α:Type}{toD:α->D}{D':Ends}{g:WG}{b:WS}{U:Env}(I:List α->Env->Prop)(xs:List α)
  (step:∀(B:List α)(x:α)(z:List α)(F:Ends)(U:Env),B++x::z=xs->I B U->(∀U',I (B++[x]) U'->F.nx U')->F.rt=D'.rt->F.ex=D'.ex->g (.sh (toD x)) U (λU=>b F U))
  (J:∀U,I xs U->D'.nx U)(M:I [] U):bJ g b (xs.map toD) D' U:=by
 have G:∀(z B:List α)(U:Env),B++z=xs->I B U->bJ g b (z.map toD) D' U:=by
  intro z;induction z with
  |nil=>intro B U e h;rw[qz]at e;subst e;show J U h
  |cons x z L=>intro B U e h;rw[qy,uI];show step B x z (sE g b (z.map toD) D') U e h (λU' h'=>L (B++[x]) U' (by rw[<-e];simp) h') rfl rfl
 show G xs [] U rfl M
def vX(L:List Sg)(k:Nat):Option Sg:=if k=0 then none else some (L.getD (k-1) d0)
def NO(many:Int)(L:List Sg)(k:Nat):eU many L k=!lB many (vX L k) (L.getD k d0):=by
 unfold eU lB vX;rcases Nat.eq_zero_or_pos k with rfl|h
 .simp[vY]
 .rw[qZ ∅];simp[vY,h]
def Rh{many:Int}{L:List Sg}(hL:AG L)(h:cU many L=.bl true->P (.sh (.bl true)) [.sh (cF many L)])(hx:∀z:Int,cU many L=fS z->PX (.exc jI [[97,116]] [.int z]) [.sh (cF many L)]):wO [.sh (cF many L)] P PX:=by
 let hl:=hL.len;show BM rfl rfl ?_;simp! [cF,length_cons,length_nil];cases q0:decide (many<1)
 .have J:=of_decide_eq_false q0;simp! [e_C];rw[DI];refine Od (λF U=>(∀j∈F,eU many L j=false)/\∃O M:Option S,U=[some (.sh (cF many L)),some (.sh (.int many)),some (.sh (.tup (L.map bK))),some (.sh (rT (vX L F.length))),O,M]) (List.range L.length) (λF k h1 D2 U e hI Y h3 hex=>?_) (λU hI=>?_) #[λ_ z=>(nomatch z),_,_,rfl]
  .obtain⟨G,O,M,rfl⟩:=hI;let hk:=Hg e;let h2:=hL.sh _ (HV hk.2);let B:=NO many L k;rw[hk.1];simp! [oM,length_cons,length_nil];show OF ∅ ?_;cases q:lB many (vX L k) (L.getD k d0)
   .rw[q]at B;simp! [hex];show hx _ (Jf J e G B)
   .rw[q]at B;simp! [e_C];show Y _ #[λj hj=>(qx.mp hj).elim (G j) λz=>by rw[qu.mp z];show B,some (.sh (.int (k:Int))),some (.sh (bK (L.getD k d0))),?_];rw[qq,qB,hk.1];rfl
  .obtain⟨G,O,M,rfl⟩:=hI;simp! [e_C];show h (IM J G)
 .let J:=qS q0;simp! [e_C];show hx _ (by unfold cU;rw[qY J])
def QG{w:Wd}(h:w.length=1):jN (.str w) (.str [97,98,99,100,101,102,103,104,105,106,107,108,109,110,111,112,113,114,115,116,117,118,119,120,121,122])=some (sG w):=by
 match w,h with
 |[c],_=>show some (cE letters [c]).isSome=_;rw[Pa];simp[sG,RS]
theorem OB{many:Int}{L:List Sg}(hL:AG L)(h:P (.sh (cU many L)) [.sh (cF many L)]):nY [.sh (cF many L)] P PX:=by
 let hl:=hL.len;show BM rfl rfl ?_;simp! [cF,length_cons,length_nil];cases q0:decide (many<1)
 .have hm:=of_decide_eq_false q0;simp! [e_C];rw[DI];refine Eu (λh1 U=>(∀j∈h1,eU many L j=false)/\∃o3 Y O M J:Option S,U=[some (.sh (cF many L)),some (.sh (.int many)),some (.sh (.tup (L.map bK))),o3,Y,O,M,J]) (List.range L.length) (λh1 k h9 D2 U e hI h5 e2 B e3=>?_) (λU hI=>?_) #[λ_ z=>(nomatch z),_,_,_,_,_,rfl]
  .obtain⟨hp,o3,Y,O,M,J,rfl⟩:=hI;let hk:=Hg e;let h3:=hL.sh _ (HV hk.2);let F:eU many L k=true->P (S.sh (fS k)) [S.sh (cF many L)]:=λz=>by rw[Jf hm e hp z]at h;exact h
   let go:eU many L k=false->∀o3 Y O M J:Option S,D2.nx [some (.sh (cF many L)),some (.sh (.int many)),some (.sh (.tup (L.map bK))),o3,Y,O,M,J]:=λz o3 Y O M J=>h5 _ #[λj hj=>(qx.mp hj).elim (hp j) λz2=>by rw[qu.mp z2];show z,_,_,_,_,_,rfl];let G:eU many L k=(!(sH many (L.getD k d0).1&&(sH many (L.getD k d0).2.2&&lQ (L.getD k d0).2.1))||(decide (0<k)&& !tL (L.getD (k-1) d0) (L.getD k d0))):=rfl;generalize hg:L.getD k d0=t at G h3;let h8:atI (L.map bK) (k:Int)=some (bK t):=by rw[<-hg];show EZ hk.2
   simp only[sH]at G;let no:(decide (0<=t.1)&&decide (t.1<many)&&(decide (0<=t.2.2)&&decide (t.2.2<many)&&lQ t.2.1))=false->P (S.sh (fS k)) [S.sh (cF many L)]:=λz=>F (by rw[G,z];rfl);rw[show bK t=D.tup [.int t.1,.str t.2.1,.int t.2.2] from rfl];simp! [lY,length_cons,length_nil];cases q1:decide (0<=t.1)
   .simp! [B];show no (by rw[q1];rfl)
   .simp! [e_C];cases q2:decide (t.1<many)
    .simp! [B];show no (by rw[q2];simp)
    .simp! [e_C];cases q3:decide (0<=t.2.2)
     .simp! [B];show no (by rw[q3];simp)
     .simp! [e_C];cases q4:decide (t.2.2<many)
      .simp! [B];show no (by rw[q4];simp)
      .simp! [e_C];cases q5:decide ((t.2.1.length:Int)=1)
       .simp! [B];show no (by unfold lQ;rw[q5];simp)
       .have e1:=qS q5;simp! [QG (show t.2.1.length=1 by lia)];cases q6:sG t.2.1
        .simp! [B];show no (by unfold lQ;rw[q6];simp)
        .simp! [e_C];let h4:(decide (0<=t.1)&&decide (t.1<many)&&(decide (0<=t.2.2)&&decide (t.2.2<many)&&lQ t.2.1))=true:=by unfold lQ;rw[q1,q2,q3,q4,q5,q6];rfl
         rw[h4]at G;rcases Nat.eq_zero_or_pos k with rfl|h7
         .rw[show decide ((0:Int)<((0:Nat):Int))=false from rfl];simp! [e_C];show go (by rw[G];rfl) _ _ _ _ _
         .let h6:decide ((0:Int)<(k:Int))=true:=qP ∅;let h2:atI (L.map bK) ((k:Int)-1)=some (bK (L.getD (k-1) d0)):=by rw[show(k:Int)-1=((k-1:Nat):Int) by lia];exact EZ ∅
          simp! [h6,h8,h2,HJ,HE];rw[qP h7]at G;cases q7:tL (L.getD (k-1) d0) t
          .simp! [B];show F (by rw[G,q7];rfl)
          .simp! [e_C];show go (by rw[G,q7];rfl) _ _ _ _ _
  .obtain⟨hp,o3,Y,O,M,J,rfl⟩:=hI;simp! [e_C];rw[IM hm hp]at h;show h
 .let hm:=qS q0;simp! [e_C];rw[show cU many L=fS (-1) by unfold cU;rw[qY hm]]at h;show h
def Qf{many:Int}{L:List Sg}(B:AG L):cU many L=.bl true\/∃z:Int,-1<=z/\z<1000/\cU many L=fS z:=by
 let F:=B.len;unfold cU;split
 .show .inr #[-1,∅,∅,rfl]
 .split
  .rename_i k e;let:=qI.mp (List.mem_of_find?_eq_some e);show .inr #[k,∅,∅,rfl]
  .show .inl rfl
def Pb{many:Int}{L:List Sg}(B:AG L):bW (cU many L)=true:=by
 rcases Qf (many:=many) B with e|⟨z,h1,h2,e⟩
 .rw[e];rfl
 .rw[e];simp[fS,bW,jK,cP,fY,bY,nC,jJ];lia
def Rw{many:Int}{L:List Sg}(B:AG L)(h:P (.sh (cU many L)) [.sh (cF many L)]):nX [.sh (cF many L)] P PX:=by
 show BM rfl rfl ?_;simp! [e_C];show Rh B (λq=>?_) λz q=>?_
 .rw[q]at h;simp! [e_C];show h
 .rw[q]at h;let G:([]:List (List Nat)).contains jI=false:=rfl;let F:[jI].contains jI=true:=by decide
  simp! [G,F,length_cons,length_nil];show h
def uN(a b:D):atI [a,b] 0=some a:=rfl
def rS(a b:D):atI [a,b] 1=some b:=rfl
def gT(n m:Nat)(L:List Sg):Prop:=L.length<=n/\∀t∈L,t.2.1.length<=m/\∀c∈t.2.1,c<128
def Iv{L:List Sg}{n m:Nat}(h:gT n m L)(hn:n<=100)(B:m<=100):AG L:=#[le_trans h.1 hn,λt z=>le_trans (h.2 t z).1 B]
def vS(ps:List Int):S:=.lst ((ps.map D.int).map .sh)
def IW{ps:List Int}(h:0<ps.length):∃v,atI ((ps.map D.int).map S.sh) (-1)=some (.sh (.int v)):=by let#[v,B,_,e]:=FL.atI_last (l:=(ps.map D.int).map S.sh) ↑h;let#[d,F,rfl]:=qJ.mp B;let#[z,_,rfl]:=qJ.mp F;show#[z,e]
def HQ{ps:List Int}{z:Int}(F:0<=z)(h:z<ps.length):atI ((ps.map D.int).map S.sh) z=some (.sh (.int (ps.getD z.toNat 0))):=by
 let#[v,_,B,G]:=CZ (f:=S.sh) (l:=ps.map D.int) (z:=z) F ↑h;rw[G];rw[qE]at B;cases q:ps[z.toNat]? with
 |none=>rw[q]at B;cases B
 |some x=>rw[q]at B;cases B;rw[List.getD_eq_getElem?_getD,q];rfl
def RG{a s:Int}{many:Int}{L:List Sg}(ha:0<=a)(hs:1<=s)(B:s<=2147483629)(hm:1<=many)(e2:many<=8)(hL:gT 24 1 L)(h7:∀t∈L,(0<=t.1/\t.1<many)/\(0<=t.2.2/\t.2.2<many))
  (h:∀(M:Int)(L':List Sg) a' s',gT 24 1 L'->0<=a'->1<=s'->s'<=2147483629->P (.sh (cF M L')) [aG a' s',.sh (cF many L)]):wJ [aG a s,.sh (cF many L)] P PX:=by
 show BM rfl rfl ?_;simp! [aG];show AE ha hs B ⋯ ⋯ λr a1 s1 r0 r1 h2 h1 F=>?_;simp! [aG];cases q:decide (0<r)
 .simp! [aG];show AE h2 h1 F ⋯ ⋯ λr2 a2 s2 p0 p1 h8 Y O=>?_;simp! [aG,cF,uN,rS];show#[by simp only[fB];lia,?_];refine HC (λk U=>∃(a s:Int)(ps:List Int)(o3 o4:Option S),0<=a/\1<=s/\s<=2147483629/\ps.length=k+1/\U=[some (aG a s),some (.sh (cF many L)),some (vS ps),o3,o4]) _ (λk x hx D2 U hI h6 e4 e1 hp=>?_) (λU hI=>?_) #[a2,s2,[r2],_,_,h8,Y,O,rfl,rfl]
  .obtain⟨a,s,ps,o3,o4,ha,hs,B,hl,rfl⟩:=hI;let hk:k<8:=by let:=(qg.mp hx).1;rw[Dz]at this;lia
   let#[v,ev]:=IW (ps:=ps) ∅;simp! [oE,aG,vS,zaP,ev];show AE ha hs B ⋯ ⋯ λr3 a3 s3 h4 h3 J G z=>?_;simp! [aG,length_map];show#[by simp only[fB];lia,h6 _ #[a3,s3,ps++[v+1+r3],some (.sh x),o4,J,G,z,by rw[qq,hl];rfl,?_]];simp[vS,aG]
  .obtain⟨a,s,ps,o3,o4,ha,hs,B,hl,rfl⟩:=hI;rw[Dz]at hl;simp! [aG,cF,rS,vS];let h9:=hL.1;refine Sz (n:=5) L (λt=>.sh (bK (ps.getD t.1.toNat 0,t.2.1,ps.getD t.2.2.toNat 0))) (λt ht l o o' h5 K e3 hK=>?_) λo o' h5=>?_
   .let hi:=h7 t ht;rw[show bK t=D.tup [.int t.1,.str t.2.1,.int t.2.2] from rfl];simp! [sM,zZ,oC,length_cons,length_nil,HQ hi.1.1 (show t.1<ps.length by lia),HQ hi.2.1 (show t.2.2<ps.length by lia)];show#[by simp only[fB];lia,hK _ _ _]
   .obtain⟨v,ev⟩:=IW (ps:=ps) ∅;let e:(L.map λt=>S.sh (bK (ps.getD t.1.toNat 0,t.2.1,ps.getD t.2.2.toNat 0)))=((L.map λt=>(ps.getD t.1.toNat 0,t.2.1,ps.getD t.2.2.toNat 0)).map bK).map S.sh:=by rw[qD,qD];rfl
    rw[e];simp! [aG,zaP,e_sh,ev];show AE ha hs B ⋯ ⋯ λr3 a3 s3 h4 h3 J G z=>?_;let f:∀M,P (.sh (cF M (L.map λt=>(ps.getD t.1.toNat 0,t.2.1,ps.getD t.2.2.toNat 0)))) [aG a3 s3,.sh (cF many L)]:=λM=>h M _ a3 s3 #[by rw[qo];show h9,λu hu=>by let#[t,ht,rfl]:=qJ.mp hu;show hL.2 t ht] J G z;rcases(by lia:r3=0\/r3=1)with rfl|rfl
    .simp! [aG,uN];show f _
    .simp! [aG,rS];show f _
 .simp! [aG];show h many L a1 s1 hL h2 h1 F
def Gs{L z:List Sg}{n m B:Nat}(h:gT n m L)(G:z.length<=B)(hs:∀t∈z,t∈L):gT B m z:=#[G,λt F=>h.2 t (hs t F)]
def Gv{L:List Sg}{n m F i j:Nat}{t:Sg}(h:gT n m L)(G:t.2.1.length<=F/\∀c∈t.2.1,c<128)(J:m<=F)(M:i<=j):gT (n+1) F (L.take i++[t]++L.drop j):=by
 obtain⟨h1,h2⟩:=h;show#[by simp only[qq,qG,qF,qB];lia,λx B=>?_];let:x∈L\/x=t:=by
  rcases qx.mp B with B|B
  .rcases qx.mp B with B|B
   .show .inl (mem_of_mem_take B)
   .show .inr (qu.mp B)
  .show .inl (List.mem_of_mem_drop B)
 rcases this with z|rfl
 .show#[le_trans (h2 x z).1 J,(h2 x z).2]
 .show G
def NM{l:List α}{z:Int}(B:0<=z):bZ l none (some z)=l.take z.toNat:=by
 unfold bZ sIx;let:¬z<0:=∅
 simp[qZ this];all_goals first|(rw[List.take_eq_take_iff];done)|(rw[List.take_eq_take_iff];lia)
def Dr{B:List Sg}{z:Int}(F:0<=z):bZ (B.map bK) none (some z)=(B.take z.toNat).map bK:=by rw[JL,NM F]
def Ds{B:List Sg}{z:Int}(F:0<=z):bZ (B.map bK) (some z) none=(B.drop z.toNat).map bK:=by rw[JL,PJ B F]
def Dg{B:List Sg}{n k:Nat}(h:B.length<=n)(hn:n<=50):(B.take k).length<=50:=by rw[qG];lia
def Dq{B:List Sg}{n k:Nat}(h:B.length<=n)(hn:n<=50):(B.drop k).length<=50:=by rw[qF];lia
def HM{L:List Sg}{z:Int}(F:0<=z)(h1:z<L.length):∃t∈L,L[z.toNat]?=some t/\atI (L.map bK) z=some (bK t):=by let#[v,B,J,G]:=CZ (f:=bK) (l:=L) F h1;show#[v,B,J,G]
def HP{L:List Sg}{z:Int}(G:0<=z)(h1:z<L.length):∃t∈L,atI ((L.map bK).map S.sh) z=some (.sh (bK t)):=by let#[v,B,M,J]:=CZ (f:=S.sh) (l:=L.map bK) G ↑h1;let#[t,F,rfl]:=qJ.mp B;show#[t,F,J]
def LL(L:List Sg)(i:Nat)(u:Sg):((L.map bK).map S.sh).set i (.sh (bK u))=((L.set i u).map bK).map S.sh:=by rw[map_set,map_set]
def QM{a s:Int}{n m:Nat}{L:List Sg}(ha:0<=a)(hs:1<=s)(h7:s<=2147483629)(hL:gT n m L)(hn:n<=50)(e3:0<L.length)
  (h:∀(L':List Sg) a' s',gT (n+1) m L'->0<=a'->1<=s'->s'<=2147483629->P (.sh (.tup (L'.map bK))) [aG a' s',.sh (.tup (L.map bK))]):oA [aG a s,.sh (.tup (L.map bK))] P PX:=by
 let hl:=hL.1;show BM rfl rfl ?_;simp! [aG,length_map];show AE ha hs h7 ∅ ∅ λB a1 s1 h0 h1 e1 h8 h4=>?_;simp! [aG,length_map];show AE e1 h8 h4 ∅ ∅ λF a2 s2 t0 t1 h9 h5 h3=>?_;simp! [aG,length_map];show AE h9 h5 h3 ⋯ ⋯ λf a3 s3 f0 f1 M J G=>?_;let#[t,ht,hk,h2]:=HM h0 h1;let e4:(50:Nat)+1+50<=big:=⋯
 let b1:=Dg (k:=B.toNat) hl hn;let b2:=Dq (k:=(B+1).toNat) hl hn;let b3:=Dg (k:=F.toNat) hl hn;let b4:=Dq (k:=F.toNat) hl hn;let hR:(L.take B.toNat++L.drop (B+1).toNat).length<=n:=by rw[qq,qG,qF];lia
 let Y:∀x∈L.take B.toNat++L.drop (B+1).toNat,x∈L:=λx O=>(qx.mp O).elim mem_of_mem_take List.mem_of_mem_drop;simp! [aG,length_map,Dr h0,Ds (show 0<=B+1 by lia),h2];rw[<-map_append];generalize hp:L.take B.toNat++L.drop (B+1).toNat=R at hR Y;let c1:=Dg (k:=F.toNat) hR hn;let c2:=Dq (k:=F.toNat) hR hn;let e2:gT n m R:=Gs hL hR Y;cases q1:decide (f=0)
 .simp! [aG];cases q2:decide (f=1)
  .simp! [aG];cases q3:decide (f=2)
   .simp! [aG,length_map,zaP,e_sh];generalize hz:(if(L.length:Int)-1<F then(L.length:Int)-1 else F)=z;let z0:0<=z/\z<L.length:=by subst hz;split<;>lia
    let#[u,hu,eu]:=HP z0.1 z0.2;let#[t',h6,et]:=HP h0 h1;simp! [aG,eu,et,length_map,length_cons,length_nil,HN h0 (show B<((L.map bK).map S.sh).length by simpa using h1),LL,length_set,hz,HN z0.1 (show z<(((L.set B.toNat u).map bK).map S.sh).length by simpa using z0.2),zaP,e_sh];show h _ a3 s3 (Gs hL (by rw[length_set,length_set];lia) λx O=>?_) M J G;rcases List.mem_or_eq_of_mem_set O with O|rfl
    .rcases List.mem_or_eq_of_mem_set O with O|rfl
     .show O
     .show hu
    .show h6
   .simp! [aG,length_map,Dr t0,Ds t0,h2,length_cons,length_nil];let:=h _ a3 s3 (Gv (i:=F.toNat) (j:=F.toNat) (t:=t) e2 (hL.2 t ht) (q8 _) (q8 _)) M J G;simpa[aG] using this
  .simp! [aG,length_map,Dr t0,Ds t0,h2,length_cons,length_nil];let:=h _ a3 s3 (Gv (i:=F.toNat) (j:=F.toNat) (t:=t) hL (hL.2 t ht) (q8 _) (q8 _)) M J G;simpa[aG] using this
 .simp! [aG];show h R a3 s3 (Gs hL ∅ Y) M J G
def Rq{a s:Int}{n m:Nat}{many:Int}{L:List Sg}(ha:0<=a)(hs:1<=s)(F:s<=2147483629)(hL:gT n m L)(hn:n<=49)(hm1:1<=m)(hm:m<=50)
  (h:∀(m':Int)(L':List Sg) a' s',gT (n+1) (m+m) L'->0<=a'->1<=s'->s'<=2147483629->P (.sh (cF m' L')) [aG a' s',.sh (cF many L)]):nZ [aG a s,.sh (cF many L)] P PX:=by
 let hl:=hL.1;let h7:∀{L'},gT (n+1) m L'->gT (n+1) (m+m) L':=λz=>#[z.1,λt ht=>#[le_trans (z.2 t ht).1 ∅,(z.2 t ht).2]]
 show BM rfl rfl ?_;simp! [aG,cF,length_cons,length_nil];show AE ha hs F ⋯ ⋯ λf a1 s1 f0 f1 h3 h2 J=>?_;simp! [aG];cases q1:decide (f=0)
 .simp! [aG,length_map];cases q2:decide ((L.length:Int)=0)
  .have e4:0<L.length:=by let:=of_decide_eq_false q2;lia
   simp! [aG];cases q3:decide (f<4)
   .simp! [aG,length_map];show AE h3 h2 J ∅ ∅ λY a2 s2 h0 h1 G e3 B=>?_;let#[t,ht,_,et]:=HM h0 h1;let#[htl,M]:=hL.2 t ht;let hk:(t.2.1.all λc=>decide (c<128))=true:=qH.mpr λx hx=>qP (M x hx);rw[show bK t=D.tup [.int t.1,.str t.2.1,.int t.2.2] from rfl]at et;simp! [aG,et,length_cons,length_nil];show AE G e3 B ⋯ ⋯ λr3 a3 s3 _ _ h6 h5 O=>?_;simp! [aG];show AE h6 h5 O ⋯ ⋯ λr4 a4 s4 _ _ k1 hd e2=>?_;simp! [aG];show AE k1 hd e2 ⋯ ⋯ λr5 a5 s5 g0 g1 hq hb e1=>?_;let#[od,_,_,eo]:=CZ (f:=λz=>S.sh (D.int z)) (l:=[many,many+1+r3,-1,0-1-r4]) g0 g1;simp only[qy,map_nil]at eo;simp! [aG,eo,hk];show#[by simp only[fB];lia,?_];show AE hq hb e1 ⋯ ⋯ λr6 a6 s6 p0 p1 hr hi h9=>?_;let#[sn,h8,_,es]:=CZ (f:=λw=>S.sh (D.str w)) (l:=[[],[97,98],t.2.1++t.2.1,t.2.1.map lO,[49],[32],[126],[123],[96],[10]]) p0 p1;simp only[qy,map_nil]at es;let h4:sn.length<=m+m/\∀c∈sn,c<128:=by
     simp only[qA,List.not_mem_nil,or_false]at h8;rcases h8 with rfl|rfl|rfl|rfl|rfl|rfl|rfl|rfl|rfl|rfl
     .show#[by simp,by simp]
     .show#[by simp;lia,by simp]
     .show#[by rw[qq];lia,λc hc=>M c ((qx.mp hc).elim id id)]
     .show#[by rw[qo];lia,λx hx=>?_];let#[y,hy,rfl]:=qJ.mp hx;let:=M y hy;unfold lO;split<;>lia
     all_goals show#[by simp;lia,by simp]
    simp! [aG,es];let f4:0<=f-4/\f-4<4:=by let:=of_decide_eq_false q3;lia
    obtain⟨u,hu,_,eu⟩:=CZ (f:=λt:Sg=>S.sh (bK t)) (l:=[(od,t.2.1,t.2.2),(t.1,t.2.1,od),(t.1,sn,t.2.2),(od,sn,od)]) f4.1 f4.2;simp only[qy,map_nil,bK]at eu;let hp:u.2.1.length<=m+m/\∀c∈u.2.1,c<128:=by
     simp only[qA,List.not_mem_nil,or_false]at hu;rcases hu with rfl|rfl|rfl|rfl
     .show#[by show t.2.1.length<=_;lia,M]
     .show#[by show t.2.1.length<=_;lia,M]
     .show h4
     .show h4
    let b1:=Dg (k:=Y.toNat) hl (show n<=50 by lia);let b2:=Dq (k:=(Y+1).toNat) hl (show n<=50 by lia);let k3:(50:Nat)+1+50<=big:=⋯
    simp! [aG,eu,Dr h0,Ds (show 0<=Y+1 by lia),length_map,length_cons,length_nil];let:=h many _ a6 s6 (Gv (i:=Y.toNat) (j:=(Y+1).toNat) (t:=u) hL hp ∅ ∅) hr hi h9;rw[cF,map_append,map_append]at this;show this
   .simp! [aG];show QM h3 h2 J hL ∅ e4 λL' a2 s2 k2 G F B=>?_;simp! [aG];show h _ L' a2 s2 (h7 k2) G F B
  .simp! [aG];show AE h3 h2 J ⋯ ⋯ λr1 a2 s2 _ _ G F B=>?_;simp! [aG];show AE G F B ⋯ ⋯ λr2 a3 s3 _ _ h6 h5 O=>?_;simp! [aG];show h _ [(r1,[97],r2)] a3 s3 #[by simp,λt ht=>by rw[qu.mp ht];show#[by simp;lia,by simp]] h6 h5 O
 .simp! [aG];show AE h3 h2 J ⋯ ⋯ λr a2 s2 h0 h1 G F B=>?_;let#[v,_,_,e]:=CZ (f:=λz=>S.sh (D.int z)) (l:=[0,-1,many-1,many+1,0-many,1]) h0 h1;simp only[qy,map_nil]at e;simp! [aG,e];show h v L a2 s2 (h7 #[∅,hL.2]) G F B
def vM(t:St):Sg:=(t.1,[t.2.1],t.2.2)
def HH(many:Int)(z:List St):zO many z=cF many (z.map vM):=by unfold zO cF;rw[qD];rfl
def CJ:∀ns:List Int,ns.length<=63->kE [.sh (.lst (ns.map .int))] (λs _=>s=.sh (.bl true)) λ_ _=>False:=by
 intro ns hns;show BM rfl rfl ?_;simp! [length_map];generalize hz:(if(if(ns.length:Int)<4 then(ns.length:Int)else 4)>1 then(if(ns.length:Int)<4 then(ns.length:Int)else 4)else 1)=z;let hz1:1<=z/\z<=4:=by subst hz;split<;>split<;>lia
 show#[by simp only[fB];lia,?_];rw[DH (n:=z.toNat) ∅];show Eu (λ_ U=>∃o1 o2 o3 o4 o5 o6 L:Option S,U=[some (.sh (.lst (ns.map .int))),o1,o2,o3,o4,o5,o6,L]) (List.range z.toNat) (λh2 k post D2 U e M hnx hct hrt hbk=>?_) (λU M=>?_) #[_,_,_,_,_,_,_,rfl]
 .obtain⟨o1,o2,o3,o4,o5,o6,L,rfl⟩:=M;simp! [lV];show Pm ∅ λa s ha hs J=>?_;simp! [aG];show AE ha hs J ⋯ ⋯ λr1 a1 s1 g0 g1 ha1 r3 e1=>?_;simp! [aG];show RN ha1 r3 e1 ∅ ∅ λh4 a2 s2 hcl _ hcc ha2 J h9=>?_;simp! [aG];show Rl ha2 J h9 ⋯ ⋯ ∅ ∅ λwd a3 s3 hwl hd ha3 r2 h8=>?_;simp! [aG];show RC ha3 r2 h8 ⋯ ⋯ ⋯ ⋯ ∅ ∅ (by let:(6:Int).toNat=6:=rfl;lia) λmany h1 a4 s4 hm1 hm2 hsl h3 _ _ ha4 hq h7=>?_;rw[HH];let hG:gT 24 1 (h1.map vM):=#[by rw[qo];lia,λu hu=>by let#[t,ht,rfl]:=qJ.mp hu;show#[q8 _,λc hc=>?_];let hcm:t.2.1∈h4:=(h3 t ht).2.2.elim id (hd _);rw[qu.mp hc];let:=hcc _ hcm;lia]
  let hp:∀u∈h1.map vM,(0<=u.1/\u.1<many)/\(0<=u.2.2/\u.2.2<many):=λu hu=>by let#[t,ht,rfl]:=qJ.mp hu;show#[(h3 t ht).1,(h3 t ht).2.1]
  generalize h1.map vM=L0 at hG hp;simp! [aG];show RG ha4 hq h7 hm1 hm2 hG hp λmg G a5 s5 hi ha5 hr h6=>?_;simp! [aG];show AE ha5 hr h6 ⋯ ⋯ λr4 a6 s6 f0 f1 ha6 hm h5=>?_;simp! [aG];show#[by simp only[fB];lia,?_];rw[DH (n:=(1+r4).toNat) ∅];show Eu (λh2 U=>∃(F:Int)(B:List Sg)(a s:Int)(o6 L:Option S),gT (24+h2.length) (2^h2.length) B/\0<=a/\1<=s/\s<=2147483629/\U=[some (.sh (.lst (ns.map .int))),some (.sh (.int (k:Int))),some (aG a s),some (.sh (.str h4)),some (.sh (cF mg G)),some (.sh (cF F B)),o6,L]) (List.range (1+r4).toNat) (λY k2 hl D3 U e2 M hx hct2 hrt2 hbk2=>?_) (λU M=>?_) #[mg,G,a6,s6,_,_,hi,ha6,hm,h5,rfl]
  .obtain⟨F,B,a,s,o6,L,O,ha,hs,J,rfl⟩:=M;let hk2:=Hg e2;let hp1:1<=2^Y.length:=Nat.one_le_two_pow;let k3:2^Y.length<=2^3:=Nat.pow_le_pow_right ⋯ ∅;simp! [lX];show Rq ha hs J O ∅ hp1 ∅ λm2 L2 a' s' hL2 ha' k1 e4=>?_;simp! [e_C];show hx _ #[m2,L2,a',s',_,_,?_,ha',k1,e4,rfl];rw[qq,qB,Nat.pow_succ,Nat.mul_two];show hL2
  .obtain⟨F,B,a,s,o6,L,O,ha,hs,J,rfl⟩:=M;rw[qC]at O;let k3:2^(1+r4).toNat<=2^3:=Nat.pow_le_pow_right ⋯ ∅;let hB2:AG B:=Iv O ∅ ∅;let hB1:AG G:=Iv hi ⋯ ⋯;simp! [length_cons,length_nil];rw[show[cF mg G,cF F B,cF mg G,cF F B]=([(mg,G),(F,B),(mg,G),(F,B)]:List (Int×List Sg)).map (λp=>cF p.1 p.2) from rfl];refine Eu (λ_ U=>∃L:Option S,U=[some (.sh (.lst (ns.map .int))),some (.sh (.int (k:Int))),some (aG a s),some (.sh (.str h4)),some (.sh (cF mg G)),some (.sh (cF F B)),o6,L]) [(mg,G),(F,B),(mg,G),(F,B)] (λpre3 X hb D3 U e3 M hk hct3 hrt3 hbk3=>?_) (λU M=>?_) #[L,rfl]
   .obtain⟨L,rfl⟩:=M;let hX:AG X.2:=by
     let:X∈[(mg,G),(F,B),(mg,G),(F,B)]:=by rw[<-e3];simp
     rcases(by simpa using this:X=(mg,G)\/X=(F,B)\/X=(mg,G)\/X=(F,B))with rfl|rfl|rfl|rfl<;>assumption
    simp! [lW];show Rw hX ?_;simp! [e_C];show#[Pb hX,?_];show OB hX ?_;simp! [e_C];show hk _ #[_,rfl]
   .obtain⟨L,rfl⟩:=M;show hnx _ #[_,_,_,_,_,_,_,rfl]
 .obtain⟨o1,o2,o3,o4,o5,o6,L,rfl⟩:=M;simp! [e_C]
end pu
end Law
section
set_option maxHeartbeats 4000000
namespace Law
open PySem PySem.Spec PyProof.Rows L2 FL
local macro_rules
 |`(tactic|trivial)=>`(tactic|first|exact Or.inl rfl|exact Or.inr rfl)
@[inline]def top(i:Nat):Stmt:=PySem.Challenge.pw_walktold_k02_maps_looked_at.main.body.getD i (.Pass #[0,0,0,0])
@[reducible]def xW:Stmt:=top 9
def cx:List Str:=["text"]
abbrev yJ:List Str:=["text"]
def Hr:aE cx yJ (aA xW):=BL
@[reducible]def xV:Stmt:=top 10
def cw:List Str:=["text"]
abbrev yI:List Str:=["text"]
def Hq:aE cw yI (aA xV):=BL
@[reducible]def xU:Stmt:=top 12
def cu:List Str:=["many","ahead","street","begin","colour","end"]
abbrev yH:List Str:=["many","ahead","street"]
def Di:aE cu yH (aA xU):=BL
@[reducible]def xT:Stmt:=top 13
def cq:List Str:=["chart","many","streets","ahead","at","street"]
abbrev yG:List Str:=["chart"]
def BO:aE cq yG (aA xT):=BL
@[reducible]def xS:Stmt:=top 15
def cp:List Str:=["_law_script","_law_k","_law_cell","_law_seed"]
abbrev yF:List Str:=["_law_script","_law_k"]
def CH:aE cp yF (aA xS):=BL
@[reducible]def xR:Stmt:=top 16
def cn:List Str:=["_law_box_here","_law_many","_law_digit","_law_one"]
abbrev yE:List Str:=["_law_box_here","_law_many"]
def DT:aE cn yE (aA xR):=BL
@[reducible]def xQ:Stmt:=top 17
def cj:List Str:=["_law_box_here","_law_many","_law_left"]
abbrev yD:List Str:=["_law_box_here","_law_many"]
def EM:aE cj yD (aA xQ):=BL
@[reducible]def xP:Stmt:=top 18
def cg:List Str:=["_law_box_here","_law_colours_here","_law_most","_law_many"]
abbrev yC:List Str:=["_law_box_here","_law_colours_here","_law_most"]
def EL:aE cg yC (aA xP):=BL
@[reducible]def xO:Stmt:=top 19
def cf:List Str:=["_law_box_here","_law_colours_here","_law_word_here","_law_rooms","_law_streets","_law_many","_law_found","_law_turn","_law_x","_law_colour","_law_y","_law_k"]
abbrev yB:List Str:=["_law_box_here","_law_colours_here","_law_word_here","_law_rooms","_law_streets"]
def Bf:aE cf yB (aA xO):=BL
@[reducible]def xN:Stmt:=top 20
def cc:List Str:=["_law_box_here","_law_chart_here","_law_places","_law_k","_law_streets"]
abbrev yA:List Str:=["_law_box_here","_law_chart_here"]
def Dh:aE cc yA (aA xN):=BL
@[reducible]def oV:Stmt:=top 21
def yP:List Str:=["_law_box_here","_law_streets","_law_at","_law_to","_law_form","_law_rest","_law_found"]
abbrev pN:List Str:=["_law_box_here","_law_streets"]
def BC:aE yP pN (aA oV):=BL
@[reducible]def oU:Stmt:=top 22
def yO:List Str:=["_law_box_here","_law_chart_here","_law_many","_law_streets","_law_form","_law_at","_law_x","_law_colour","_law_y","_law_odd","_law_sign","_law_one"]
abbrev pM:List Str:=["_law_box_here","_law_chart_here"]
def Ax:aE yO pM (aA oU):=BL
@[reducible]def oS:Stmt:=top 23
def yN:List Str:=["_law_chart_here","_law_many","_law_streets","_law_k","_law_x","_law_colour","_law_y","_law_there"]
abbrev pK:List Str:=["_law_chart_here"]
def AO:aE yN pK (aA oS):=BL
@[reducible]def oR:Stmt:=top 24
def yM:List Str:=["_law_chart_here","_law_found","e","_law_beside_it"]
abbrev pJ:List Str:=["_law_chart_here"]
def Bl:aE yM pJ (aA oR):=BL
@[reducible]def oQ:Stmt:=top 25
def yL:List Str:=["_law_script","_law_k","_law_box_here","_law_colours_here","_law_good","_law_odd","_law_turn","_law_chart_here"]
abbrev pI:List Str:=["_law_script"]
def AI:aE yL pI (aA oQ):=BL
def Kq:aE ["self","at"] ["self","at"] (aA (iH (top 3))):=BL
structure Txt(K:W.Frag)(mg:Str->Option Value)(af:Nat->Addr):Prop where
 t_0:Tx K mg (af 0) "is_word" xW yJ
 t_1:Tx K mg (af 1) "is_colour" xV yI
 t_2:Tx K mg (af 2) "may_follow" xU yH
 t_3:Tx K mg (af 3) "look_map" xT yG
 t_4:Tx K mg (af 4) "_law_box" xS yF
 t_5:Tx K mg (af 5) "_law_take" xR yE
 t_6:Tx K mg (af 6) "_law_colours" xQ yD
 t_7:Tx K mg (af 7) "_law_word" xP yC
 t_8:Tx K mg (af 8) "_law_chart" xO yB
 t_9:Tx K mg (af 9) "_law_great" xN yA
 t_10:Tx K mg (af 10) "_law_moved" oV pN
 t_11:Tx K mg (af 11) "_law_spoilt" oU pM
 t_12:Tx K mg (af 12) "_law_due" oS pK
 t_13:Tx K mg (af 13) "_law_heard" oR pJ
 t_14:Tx K mg (af 14) "law" oQ pI
 n_ValueError:mg "ValueError"=none
 n_all:mg "all"=none
 n_enumerate:mg "enumerate"=none
 n_int:mg "int"=none
 n_isinstance:mg "isinstance"=none
 n_len:mg "len"=none
 n_list:mg "list"=none
 n_max:mg "max"=none
 n_min:mg "min"=none
 n_range:mg "range"=none
 n_repr:mg "repr"=none
 n_set:mg "set"=none
 n_sorted:mg "sorted"=none
 n_tuple:mg "tuple"=none
 j_NoMap:Ix K (af 15) (af 16) (af 22) "NoMap.__init__" "at" (iH (top 3)) ["self","at"]
 g_NoMap:mg "NoMap"=some (.ref (af 15))
 g_WalkError:mg "WalkError"=some (.ref (af 16))
 g_TooMany:mg "TooMany"=some (.ref (af 17))
 g_NoRow:mg "NoRow"=some (.ref (af 18))
 g_NoBoard:mg "NoBoard"=some (.ref (af 19))
 g_IsFixed:mg "IsFixed"=some (.ref (af 20))
 g_BadText:mg "BadText"=some (.ref (af 21))
 k_NoMap:W.nsIn K mainGlobals "NoMap"=some (some (.ref (af 15)))
 k_WalkError:W.nsIn K mainGlobals "WalkError"=some (some (.ref (af 16)))
 e_WalkError:W.excIn K (af 16) dB eA=true
 i_BadText_IsFixed_NoBoard_NoRow_TooMany_0:W.kitAny K (.type "NoneType") [.ref (af 21),.ref (af 20),.ref (af 19),.ref (af 18),.ref (af 17)]=some false
 x0_NoMap:W.findIn K (.ref (af 15)) "__getattribute__"=some (some (.builtin "BaseException.__getattribute__"))
 x1_NoMap:W.findIn K (.ref (af 15)) "__getattr__"=some none
 x2_NoMap:W.findIn K (.ref (af 15)) "__class__"=some (some (.builtin "object.__class__"))
 x3_NoMap:W.specialIn K (.builtin "object.__class__") "__get__"=some (some (.builtin "getset_descriptor.__get__"))
 x4_NoMap:W.takesIn K (.builtin "object.__class__")=some true
 x5_NoMap:W.mroIn K (af 15) (.type "object")=some true
 x6_NoMap:W.mroIn K (af 15) (.type "BaseException")=some true
 i_BadText_IsFixed_NoBoard_NoRow_TooMany_NoMap:W.kitAny K (.ref (af 15)) [.ref (af 21),.ref (af 20),.ref (af 19),.ref (af 18),.ref (af 17)]=some false
 k_TooMany:W.nsIn K mainGlobals "TooMany"=some (some (.ref (af 17)))
 k_NoRow:W.nsIn K mainGlobals "NoRow"=some (some (.ref (af 18)))
 k_NoBoard:W.nsIn K mainGlobals "NoBoard"=some (some (.ref (af 19)))
 k_IsFixed:W.nsIn K mainGlobals "IsFixed"=some (some (.ref (af 20)))
 k_BadText:W.nsIn K mainGlobals "BadText"=some (some (.ref (af 21)))
 i_NoMap_0:W.kitOne K (.type "NoneType") (.ref (af 15))=some false
 i_NoMap_NoMap:W.kitOne K (.ref (af 15)) (.ref (af 15))=some true
 i_ValueError_0:W.kitOne K (.type "NoneType") (.type "ValueError")=some false
 i_ValueError_NoMap:W.kitOne K (.ref (af 15)) (.type "ValueError")=some true
 y_NoMap_at:W.findIn K (.ref (af 15)) "at"=some none
 d_NoMap:W.hasDictIn K (af 15)=true
 m_NoMap_WalkError:W.mroIn K (af 15) (.ref (af 16))=some true
section
variable{P:Program}{w:World}{K:W.Frag}{mg:Str->Option Value}{base:Heap}{af:Nat->Addr}
def HB(T:Txt K mg af):iL P w K mg base af 1 0 yJ (eG K wU 1):=BX T.t_0 Hr λ_ _ _ _ _ _ z=>Ar (AK (MK (by rfl) (by rfl) T.n_all Mk (Aa (Fq (vars:=["sign"]) rfl (by rfl) (Bt (by kernel_rfl)) rfl (Fg (fw 0)) (λ_ _ _=>En 2) (λ_ _ _=>Fv) (λ_ _ _=>GO (λ_ _=>Ea) Ee (λ_ _=>Ea) Ee (Be (by rfl) ⋯) (fw 2) (Be (by rfl) ⋯))) Ab)))
def Hx(T:Txt K mg af):iL P w K mg base af 1 4 yF (eG K wN 2):=BX T.t_4 CH λ_ _ _ _ _ _ z=>Aj (Au (AF (Df Ac (fw 1)) Ac) (Al 2 CH.nd))
  (Aj (Bu (Bw (λ_ _=>Dx) DA (fw 1) (BJ (by rfl) T.n_len (Aa (fw 0) Ab)) (Ad _)) (Ar (Au (AJ (fw 0) (fw 1)) (Al 2 CH.nd))) (Ar (Bu (Bw (λ_ _=>Ew) ED (BJ (by rfl) T.n_len (Aa (fw 0) Ab)) Ac (Ad _)) (Ar (Au (AF (fw 2) (Df (Dv (AJ (fw 0) (Dv (fw 1) (BJ (by rfl) T.n_len (Aa (fw 0) Ab)))) Ac) Ac)) (Al 2 CH.nd))) Bv)))
  (Aj (Au (AF (Dv (AF (Df (Dv (fw 2) Ac) Ac) (Df Ac (fw 1))) Ac) Ac) (Al 3 CH.nd))
  (Ar (AK (De (Aa (AJ (De (Aa Ac (Aa (fw 2) Ab))) (Gu (by rfl) T.n_int Gg (Aa (DZ (λ_ _=>MB) MS (fw 2) (Iy Ac Ac) (Ad _)) Ab))) (Aa (fw 3) Ab)))))))
def Ak(T:Txt K mg af):iL P w K mg base af 1 5 yE (eG K cN 2):=BX T.t_5 DT λ_ _ _ _ _ _ z=>Aj (Bu (Bw (λ_ _=>Ew) ED (AJ (fw 0) Ac) Ac (Ad _)) (Aj (Au (Dv (AJ (fw 0) Ac) (fw 1)) (Al 2 DT.nd))
  (Aj (JF (j:=0) (fw 0) Ac (ID (AJ (fw 0) Ac) (fw 1)))
  (Ar (AK (fw 2))))) Bv)
  (Aj (Au (Dv (Df (AJ (fw 0) Ac) Ac) Ac) (Al 3 DT.nd))
  (Aj (JF (j:=0) (fw 0) Ac (AF (Dv (AF (Df (fw 3) Ac) Ac) Ac) Ac))
  (Ar (AK (Dv (ID (AF (Df (fw 3) Ac) (AJ (fw 0) Ac)) Ac) (fw 1))))))
def ES(T:Txt K mg af):iL P w K mg base af 1 12 pK (eG K nY 1):=BX T.t_12 AO λ_ _ _ _ _ _ z=>Aj (Au (fw 0) (Dc (by rfl) (AS (Al 1 AO.nd) (AS (Al 2 AO.nd) Da))))
  (Aj (Bu (Bw (λ_ _=>Dx) DA (fw 1) Ac (Ad _)) (Ar (AK (AR (Aa (Be (by rfl) ⋯) (Aa (DW Ac) Ab))))) Bv)
  (Aj (Dd (by rfl) (IY (by rfl) (by rfl) T.n_enumerate Ld (fw 2)) (Dc (by rfl) (AS (Al 3 AO.nd) (AS (Dc (by rfl) (AS (Al 4 AO.nd) (AS (Al 5 AO.nd) (AS (Al 6 AO.nd) Da)))) Da))) (Aj (Au (Im (GO (λ_ _=>Ea) Ee (λ_ _=>Dx) DA Ac (fw 4) (fw 1)) (Gm (GO (λ_ _=>Ea) Ee (λ_ _=>Dx) DA Ac (fw 6) (fw 1)))) (Al 7 AO.nd))
  (Aj (Bu (Fc (HR (Fs (Eb (fw 7))) (HR (Bw (λ_ _=>Fp (EK z)) GH (BJ (by rfl) T.n_len (Aa (fw 5) Ab)) Ac (Ad _)) (Mi (Bw (λ_ _=>Rc (EK z)) Se (fw 5) (Be (by rfl) ⋯) (by with_unfolding_all rfl)))))) (Ar (AK (AR (Aa (Be (by rfl) ⋯) (Aa (fw 3) Ab))))) Bv)
  (Ar (Bu (Fc (Et (Bw (λ_ _=>Ew) ED (fw 3) Ac (Ad _)) (Gx (Bw (λ_ _=>Jh true (DD z)) KJ (AJ (fw 2) (Dw (fw 3) Ac)) (AJ (fw 2) (fw 3)) (Ad _))))) (Ar (AK (AR (Aa (Be (by rfl) ⋯) (Aa (fw 3) Ab))))) Bv)))))
  (Ar (AK Eo))))
def HA(T:Txt K mg af):iL P w K mg base af 2 1 yI (eG K wR 1):=BX T.t_1 Hq λ_ _ _ _ _ _ z=>Ar (AK (Im (DZ (λ_ _=>DX (DD z)) Ec (BJ (by rfl) T.n_len (Aa (fw 0) Ab)) Ac (Ad _)) (Gm (As [true] T.t_0 (HB T) z (Aa (fw 0) Ab)))))
def Hw(T:Txt K mg af):iL P w K mg base af 2 6 yD (eG K wM 2):=BX T.t_6 EM λ_ _ _ _ _ _ z=>Aj (Au (JA (by rfl) (by rfl) T.n_list Jo (Aa (Be (by rfl) ⋯) Ab)) (Al 2 EM.nd))
  (Ar (AK (IG (Be (by rfl) ⋯) (Aa (JN z (by rfl) T.n_sorted KH (Aa (Fq (vars:=["_law_k"]) rfl (by rfl) (Bt (by kernel_rfl)) rfl (DR (by rfl) T.n_range (fw 1)) (λ_ _ _=>En 4) (λ_ _ _=>Fv) (λ_ _ _=>Es (Js (j:=2) (fw 2) (As [true,true] T.t_5 (Ak T) z (Aa (fw 0) (Aa (BJ (by rfl) T.n_len (Aa (fw 2) Ab)) Ab)))))) Ab)) Ab))))
def Hv(T:Txt K mg af):iL P w K mg base af 2 7 yC (eG K wL 3):=BX T.t_7 EL λ_ _ _ _ _ _ z=>Aj (Au (Df (As [true,true] T.t_5 (Ak T) z (Aa (fw 0) (Aa (AF (fw 2) Ac) Ab))) (Gu (by rfl) T.n_int Gg (Aa (DZ (λ_ _=>Fp (EK z)) GH (fw 1) (Be (by rfl) ⋯) (Ad _)) Ab))) (Al 3 EL.nd))
  (Ar (AK (IG (Be (by rfl) ⋯) (Aa (Fq (vars:=["_law_k"]) rfl (by rfl) (Bt (by kernel_rfl)) rfl (DR (by rfl) T.n_range (fw 3)) (λ_ _ _=>En 5) (λ_ _ _=>Fv) (λ_ _ _=>AJ (fw 1) (As [true,true] T.t_5 (Ak T) z (Aa (fw 0) (Aa (BJ (by rfl) T.n_len (Aa (fw 1) Ab)) Ab))))) Ab))))
def Hu(T:Txt K mg af):iL P w K mg base af 2 8 yB (eG K wK 5):=BX T.t_8 Bf λ_ _ _ _ _ _ z=>Aj (Au (AF Ac (As [true,true] T.t_5 (Ak T) z (Aa (fw 0) (Aa (fw 3) Ab)))) (Al 5 Bf.nd))
  (Aj (Au (De Ab) (Al 6 Bf.nd))
  (Aj (Dd (by rfl) (DR (by rfl) T.n_range (As [true,true] T.t_5 (Ak T) z (Aa (fw 0) (Aa Ac Ab)))) (Al 7 Bf.nd) (Aj (Au (As [true,true] T.t_5 (Ak T) z (Aa (fw 0) (Aa (fw 5) Ab))) (Al 8 Bf.nd))
  (Ar (Dd (by rfl) (Fg (fw 2)) (Al 9 Bf.nd) (Aj (Au (As [true,true] T.t_5 (Ak T) z (Aa (fw 0) (Aa (fw 5) Ab))) (Al 10 Bf.nd))
  (Aj (Fu (Hf (j:=6) (fw 6) (AR (Aa (fw 8) (Aa (fw 9) (Aa (fw 10) Ab))))))
  (Ar (Au (fw 10) (Al 8 Bf.nd)))))))))
  (Aj (Dd (by rfl) (DR (by rfl) T.n_range (Df (As [true,true] T.t_5 (Ak T) z (Aa (fw 0) (Aa (AF (fw 4) Ac) Ab))) (Gu (by rfl) T.n_int Gg (Aa (DZ (λ_ _=>Fp (EK z)) GH (fw 1) (Be (by rfl) ⋯) (Ad _)) Ab)))) (Al 11 Bf.nd) (Aj (Ib (i:=8) (j:=10) (by rfl) Bf.nd (by rfl) (by rfl) ⋯ ⋯ ⋯ (by rfl) (by rfl) (Aa (As [true,true] T.t_5 (Ak T) z (Aa (fw 0) (Aa (fw 5) Ab))) (Aa (As [true,true] T.t_5 (Ak T) z (Aa (fw 0) (Aa (fw 5) Ab))) Ab)))
  (Ar (Fu (Hf (j:=6) (fw 6) (AR (Aa (fw 8) (Aa (AJ (fw 1) (As [true,true] T.t_5 (Ak T) z (Aa (fw 0) (Aa (BJ (by rfl) T.n_len (Aa (fw 1) Ab)) Ab)))) (Aa (fw 10) Ab)))))))))
  (Aj (OE (Bw (λ_ _=>Ew) ED (Oq (by rfl) T.n_len (Aa (II z (by rfl) T.n_set Iu (Aa (fw 6) Ab)) Ab)) (fw 4) (Ad _)) (Ar (Fu (Js (j:=6) (fw 6) (As [true,true] T.t_5 (Ak T) z (Aa (fw 0) (Aa (BJ (by rfl) T.n_len (Aa (fw 6) Ab)) Ab)))))))
  (Ar (AK (AR (Aa (fw 5) (Aa (Hd (by rfl) T.n_tuple GP (Aa (JN z (by rfl) T.n_sorted KH (Aa (II z (by rfl) T.n_set Iu (Aa (fw 6) Ab)) Ab)) Ab)) Ab)))))))))
def Ht(T:Txt K mg af):iL P w K mg base af 2 9 yA (eG K wJ 2):=BX T.t_9 Dh λ_ _ _ _ _ _ z=>Aj (Bu (Bw (λ_ _=>Ew) ED (As [true,true] T.t_5 (Ak T) z (Aa (fw 0) (Aa Ac Ab))) Ac (Ad _)) (Ar (AK (fw 1))) Bv)
  (Aj (Au (De (Aa (As [true,true] T.t_5 (Ak T) z (Aa (fw 0) (Aa Ac Ab))) Ab)) (Al 2 Dh.nd))
  (Aj (Dd (by rfl) (DR (by rfl) T.n_range (AJ (fw 1) Ac)) (Al 3 Dh.nd) (Ar (Fu (Hf (j:=2) (fw 2) (AF (AF (AJ (fw 2) (DW Ac)) Ac) (As [true,true] T.t_5 (Ak T) z (Aa (fw 0) (Aa Ac Ab))))))))
  (Aj (Au (Hd (by rfl) T.n_tuple GP (Aa (Fq (vars:=["_law_x","_law_colour","_law_y"]) rfl (by rfl) (Bt (by kernel_rfl)) rfl (Fg (AJ (fw 1) Ac)) (λ_ _ _=>Dc (by rfl) (AS (En 6) (AS (En 7) (AS (En 8) Da)))) (λ_ _ _=>Fv) (λ_ _ _=>AR (Aa (AJ (fw 2) (fw 6)) (Aa (fw 7) (Aa (AJ (fw 2) (fw 8)) Ab))))) Ab)) (Al 4 Dh.nd))
  (Ar (AK (AR (Aa (AJ (De (Aa (AF (AJ (fw 2) (DW Ac)) Ac) (Aa Ac Ab))) (As [true,true] T.t_5 (Ak T) z (Aa (fw 0) (Aa Ac Ab)))) (Aa (fw 4) Ab))))))))
def EU(T:Txt K mg af):iL P w K mg base af 2 10 pN (eG K oA 2):=BX T.t_10 BC λ_ _ _ _ _ _ z=>Aj (Ib (i:=2) (j:=3) (by rfl) BC.nd (by rfl) (by rfl) ⋯ ⋯ ⋯ (by rfl) (by rfl) (Aa (As [true,true] T.t_5 (Ak T) z (Aa (fw 0) (Aa (BJ (by rfl) T.n_len (Aa (fw 1) Ab)) Ab))) (Aa (As [true,true] T.t_5 (Ak T) z (Aa (fw 0) (Aa (AF (BJ (by rfl) T.n_len (Aa (fw 1) Ab)) Ac) Ab))) Ab)))
  (Aj (Au (As [true,true] T.t_5 (Ak T) z (Aa (fw 0) (Aa Ac Ab))) (Al 4 BC.nd))
  (Aj (Au (AF (Fj (fw 1) (fw 2)) (Fi (fw 1) (AF (fw 2) Ac))) (Al 5 BC.nd))
  (Aj (Bu (Bw (λ_ _=>DX (DD z)) Ec (fw 4) Ac (Ad _)) (Ar (AK (fw 5))) Bv)
  (Aj (Bu (Bw (λ_ _=>DX (DD z)) Ec (fw 4) Ac (Ad _)) (Ar (AK (AF (AF (Fj (fw 1) (fw 3)) (AR (Aa (AJ (fw 1) (fw 2)) Ab))) (Fi (fw 1) (fw 3))))) Bv)
  (Aj (Bu (Bw (λ_ _=>DX (DD z)) Ec (fw 4) Ac (Ad _)) (Ar (AK (AF (AF (Fj (fw 5) (fw 3)) (AR (Aa (AJ (fw 1) (fw 2)) Ab))) (Fi (fw 5) (fw 3))))) Bv)
  (Aj (Au (JA (by rfl) (by rfl) T.n_list Jo (Aa (fw 1) Ab)) (Al 6 BC.nd))
  (Aj (Au (AR (Aa (AJ (fw 6) (Gk (by rfl) (by rfl) T.n_min Gn (Aa (fw 3) (Aa (Dw (BJ (by rfl) T.n_len (Aa (fw 6) Ab)) Ac) Ab)))) (Aa (AJ (fw 6) (fw 2)) Ab))) (Dc (by rfl) (AS (HU (j:=6) (fw 6) (fw 2)) (AS (HU (j:=6) (fw 6) (Gk (by rfl) (by rfl) T.n_min Gn (Aa (fw 3) (Aa (Dw (BJ (by rfl) T.n_len (Aa (fw 6) Ab)) Ac) Ab)))) Da))))
  (Ar (AK (Hd (by rfl) T.n_tuple GP (Aa (fw 6) Ab)))))))))))
def Hz(T:Txt K mg af):iL P w K mg base af 3 2 yH (eG K wQ 3):=BX T.t_2 Di λ_ _ _ _ _ _ z=>Aj (Au (fw 2) (Dc (by rfl) (AS (Al 3 Di.nd) (AS (Al 4 Di.nd) (AS (Al 5 Di.nd) Da)))))
  (Aj (Bu (Fs (Fc (Et (Ju (λ_ _=>Ea) Ee (λ_ _=>Dx) DA Ac (fw 3) (fw 0)) (Et (Ju (λ_ _=>Ea) Ee (λ_ _=>Dx) DA Ac (fw 5) (fw 0)) (Gx (Eb (As [true] T.t_1 (HA T) z (Aa (fw 4) Ab)))))))) (Ar (AK Eo)) Bv)
  (Ar (AK (Lr (DZ (λ_ _=>MH) NL (fw 1) Gj (Ad _)) (Gm (DZ (λ_ _=>Jh false (DD z)) KJ (fw 1) (fw 2) (Ad _)))))))
def ET(T:Txt K mg af):iL P w K mg base af 3 11 pM (eG K nZ 2):=BX T.t_11 Ax λ_ _ _ _ _ _ z=>Aj (Au (fw 1) (Dc (by rfl) (AS (Al 2 Ax.nd) (AS (Al 3 Ax.nd) Da))))
  (Aj (Au (As [true,true] T.t_5 (Ak T) z (Aa (fw 0) (Aa Ac Ab))) (Al 4 Ax.nd))
  (Aj (Bu (Bw (λ_ _=>DX (DD z)) Ec (fw 4) Ac (Ad _)) (Ar (AK (AR (Aa (AJ (De (Aa Ac (Aa (DW Ac) (Aa (Dw (fw 2) Ac) (Aa (AF (fw 2) Ac) (Aa (Dw Ac (fw 2)) (Aa Ac Ab))))))) (As [true,true] T.t_5 (Ak T) z (Aa (fw 0) (Aa Ac Ab)))) (Aa (fw 3) Ab))))) Bv)
  (Aj (Bu (Bw (λ_ _=>DX (DD z)) Ec (BJ (by rfl) T.n_len (Aa (fw 3) Ab)) Ac (Ad _)) (Ar (AK (AR (Aa (fw 2) (Aa (AR (Aa (AR (Aa (As [true,true] T.t_5 (Ak T) z (Aa (fw 0) (Aa Ac Ab))) (Aa (Be (by rfl) ⋯) (Aa (As [true,true] T.t_5 (Ak T) z (Aa (fw 0) (Aa Ac Ab))) Ab)))) Ab)) Ab))))) Bv)
  (Aj (Bu (Bw (λ_ _=>Dx) DA (fw 4) Ac (Ad _)) (Ar (AK (AR (Aa (fw 2) (Aa (As [true,true] T.t_10 (EU T) z (Aa (fw 0) (Aa (fw 3) Ab))) Ab))))) Bv)
  (Aj (Au (As [true,true] T.t_5 (Ak T) z (Aa (fw 0) (Aa (BJ (by rfl) T.n_len (Aa (fw 3) Ab)) Ab))) (Al 5 Ax.nd))
  (Aj (Au (AJ (fw 3) (fw 5)) (Dc (by rfl) (AS (Al 6 Ax.nd) (AS (Al 7 Ax.nd) (AS (Al 8 Ax.nd) Da)))))
  (Aj (Au (AJ (De (Aa (fw 2) (Aa (AF (AF (fw 2) Ac) (As [true,true] T.t_5 (Ak T) z (Aa (fw 0) (Aa (Iy Ac Ac) Ab)))) (Aa (DW Ac) (Aa (Dw (Dw Ac Ac) (As [true,true] T.t_5 (Ak T) z (Aa (fw 0) (Aa Ac Ab)))) Ab))))) (As [true,true] T.t_5 (Ak T) z (Aa (fw 0) (Aa Ac Ab)))) (Al 9 Ax.nd))
  (Aj (Au (AJ (De (Aa (Be (by rfl) ⋯) (Aa (Be (by rfl) ⋯) (Aa (AF (fw 7) (fw 7)) (Aa (Oa (fw 7)) (Aa (Be (by rfl) ⋯) (Aa (Be (by rfl) ⋯) (Aa (Be (by rfl) ⋯) (Aa (Be (by rfl) ⋯) (Aa (Be (by rfl) ⋯) (Aa (Be (by rfl) ⋯) Ab))))))))))) (As [true,true] T.t_5 (Ak T) z (Aa (fw 0) (Aa Ac Ab)))) (Al 10 Ax.nd))
  (Aj (Au (AJ (De (Aa (AR (Aa (fw 9) (Aa (fw 7) (Aa (fw 8) Ab)))) (Aa (AR (Aa (fw 6) (Aa (fw 7) (Aa (fw 9) Ab)))) (Aa (AR (Aa (fw 6) (Aa (fw 10) (Aa (fw 8) Ab)))) (Aa (AR (Aa (fw 9) (Aa (fw 10) (Aa (fw 9) Ab)))) Ab))))) (Dw (fw 4) Ac)) (Al 11 Ax.nd))
  (Ar (AK (AR (Aa (fw 2) (Aa (AF (AF (Fj (fw 3) (fw 5)) (AR (Aa (fw 11) Ab))) (Fi (fw 3) (AF (fw 5) Ac))) Ab))))))))))))))
def Hy(T:Txt K mg af):iL P w K mg base af 4 3 yG (eG K wO 1):=BX T.t_3 BO λ_ _ _ _ _ _ z=>Aj (Au (fw 0) (Dc (by rfl) (AS (Al 1 BO.nd) (AS (Al 2 BO.nd) Da))))
  (Aj (Bu (Bw (λ_ _=>Dx) DA (fw 1) Ac (Ad _)) (Ar (JZ (by decide+kernel) T.j_NoMap.e (Je T.j_NoMap.F Kq rfl) T.j_NoMap.b T.g_NoMap (DK (by decide+kernel) T.k_NoMap) z (DW Ac))) Bv)
  (Aj (Au Gj (Al 3 BO.nd))
  (Aj (Dd (by rfl) (IY (by rfl) (by rfl) T.n_enumerate Ld (fw 2)) (Dc (by rfl) (AS (Al 4 BO.nd) (AS (Al 5 BO.nd) Da))) (Aj (Bu (Fs (Eb (As [true,true,true] T.t_2 (Hz T) z (Aa (fw 1) (Aa (fw 3) (Aa (fw 5) Ab)))))) (Ar (JZ (by decide+kernel) T.j_NoMap.e (Je T.j_NoMap.F Kq rfl) T.j_NoMap.b T.g_NoMap (DK (by decide+kernel) T.k_NoMap) z (fw 4))) Bv)
  (Ar (Au (fw 5) (Al 3 BO.nd)))))
  (Ar (AK Eo)))))
def ER(T:Txt K mg af):iL P w K mg base af 5 13 pJ (eG K nX 1):=BX T.t_13 Bl λ_ _ _ _ _ _ z=>Aj (Au Gj (Al 1 Bl.nd))
  (Aj (Qt (j:=2) ⋯ (λj B=>FJ Bl.nd B rfl) rfl (by rfl) T.g_WalkError (ck T.e_WalkError) (RR (DK (by decide+kernel) T.k_NoMap) T.j_NoMap.e.ck T.m_NoMap_WalkError RB) (Ar (Au (Es (As [true] T.t_3 (Hy T) z (Aa (fw 0) Ab))) (Al 1 Bl.nd))) (λ_=>Aj (Au (NP (by rfl) T.n_isinstance Hj (.cons (by rfl) T.g_BadText ⋯ (.cons (by rfl) T.g_IsFixed ⋯ (.cons (by rfl) T.g_NoBoard ⋯ (.cons (by rfl) T.g_NoRow ⋯ (.cons (by rfl) T.g_TooMany ⋯ .nil))))) (by rw[zf];show Nat.le_of_ble_eq_true rfl) (Oy (DK (by decide+kernel) T.k_NoMap) #[T.x0_NoMap,T.x1_NoMap,T.x2_NoMap,T.x3_NoMap,T.x4_NoMap,T.x5_NoMap,T.x6_NoMap] T.i_BadText_IsFixed_NoBoard_NoRow_TooMany_NoMap (by rfl) (NG T.i_BadText_IsFixed_NoBoard_NoRow_TooMany_0)) (fw 2)) (Al 3 Bl.nd))
  (Ar (Bu (Fc (Et (Eb (Oh (by rfl) T.n_isinstance Hj (by rfl) T.g_NoMap (JJ (DK (by decide+kernel) T.k_NoMap) #[T.x0_NoMap,T.x1_NoMap,T.x2_NoMap,T.x3_NoMap,T.x4_NoMap,T.x5_NoMap,T.x6_NoMap] T.i_NoMap_NoMap (by rfl) (IT T.i_NoMap_0)) (fw 2))) (Et (Eb (NF (by rfl) T.n_isinstance Hj (by rfl) T.n_ValueError Sl (JJ (DK (by decide+kernel) T.k_NoMap) #[T.x0_NoMap,T.x1_NoMap,T.x2_NoMap,T.x3_NoMap,T.x4_NoMap,T.x5_NoMap,T.x6_NoMap] T.i_ValueError_NoMap (by rfl) (IT T.i_ValueError_0)) (fw 2))) (Gx (Fs (Eb (fw 3))))))) (Ar (Au (AR (Aa (Be (by rfl) ⋯) (Aa (MW (Py (DK (by decide+kernel) T.k_NoMap) #[T.x0_NoMap,T.x1_NoMap,T.x2_NoMap,T.x3_NoMap,T.x4_NoMap,T.x5_NoMap,T.x6_NoMap] T.y_NoMap_at T.d_NoMap NH) (by decide+kernel) (fw 2)) Ab))) (Al 1 Bl.nd))) Bv))))
  (Ar (AK (fw 1))))
def EO(T:Txt K mg af):iL P w K mg base af 6 14 pI (eG K kE 1):=BX T.t_14 AI λ_ _ _ _ _ _ z=>Aj (Dd (by rfl) (DR (by rfl) T.n_range (MN (by rfl) (by rfl) T.n_max Mp (Aa Ac (Aa (Gk (by rfl) (by rfl) T.n_min Gn (Aa Ac (Aa (BJ (by rfl) T.n_len (Aa (fw 0) Ab)) Ab))) Ab)))) (Al 1 AI.nd) (Aj (Au (As [true,true] T.t_4 (Hx T) z (Aa (fw 0) (Aa (fw 1) Ab))) (Al 2 AI.nd))
  (Aj (Au (As [true,true] T.t_6 (Hw T) z (Aa (fw 2) (Aa (AF Ac (As [true,true] T.t_5 (Ak T) z (Aa (fw 2) (Aa Ac Ab)))) Ab))) (Al 3 AI.nd))
  (Aj (Au (Es (As [true,true] T.t_9 (Ht T) z (Aa (fw 2) (Aa (Es (As [true,true,true,true,true] T.t_8 (Hu T) z (Aa (fw 2) (Aa (fw 3) (Aa (As [true,true,true] T.t_7 (Hv T) z (Aa (fw 2) (Aa (fw 3) (Aa Ac Ab)))) (Aa Ac (Aa Ac Ab))))))) Ab)))) (Al 4 AI.nd))
  (Aj (Au (fw 4) (Al 5 AI.nd))
  (Aj (Dd (by rfl) (DR (by rfl) T.n_range (AF Ac (As [true,true] T.t_5 (Ak T) z (Aa (fw 2) (Aa Ac Ab))))) (Al 6 AI.nd) (Ar (Au (Es (As [true,true] T.t_11 (ET T) z (Aa (fw 2) (Aa (fw 5) Ab)))) (Al 5 AI.nd))))
  (Ar (Dd (by rfl) (Fg (AR (Aa (fw 4) (Aa (fw 5) (Aa (fw 4) (Aa (fw 5) Ab)))))) (Al 7 AI.nd) (Ar (Bu (PK z (by rfl) T.n_repr (As [true] T.t_13 (ER T) z (Aa (fw 7) Ab)) (As [true] T.t_12 (ES T) z (Aa (fw 7) Ab))) (Ar (AK Eo)) Bv))))))))))
  (Ar (AK Eo))
end
theorem all_mk{l:W.OpenLaw}{w:World}{K:W.Frag}{h:Heap}{mg:Str->Option Value}{fa:Addr}(X:K.In h)(G:h.Ns mainGlobals mg)(hfa:mg "law"=some (.ref fa))
  {f_0 f_1 f_2 f_3 f_4 f_5 f_6 f_7 f_8 f_9 f_10 f_11 f_12 f_13 f_14:Addr}
  (h_0:Lk K "is_word" xW f_0)
  (h_1:Lk K "is_colour" xV f_1)
  (h_2:Lk K "may_follow" xU f_2)
  (h_3:Lk K "look_map" xT f_3)
  (h_4:Lk K "_law_box" xS f_4)
  (h_5:Lk K "_law_take" xR f_5)
  (h_6:Lk K "_law_colours" xQ f_6)
  (h_7:Lk K "_law_word" xP f_7)
  (h_8:Lk K "_law_chart" xO f_8)
  (h_9:Lk K "_law_great" xN f_9)
  (h_10:Lk K "_law_moved" oV f_10)
  (h_11:Lk K "_law_spoilt" oU f_11)
  (h_12:Lk K "_law_due" oS f_12)
  (h_13:Lk K "_law_heard" oR f_13)
  (h_14:Lk K "law" oQ f_14)
  (z_ValueError:W.nsIn K mainGlobals "ValueError"=some none)
  (z_all:W.nsIn K mainGlobals "all"=some none)
  (z_enumerate:W.nsIn K mainGlobals "enumerate"=some none)
  (z_int:W.nsIn K mainGlobals "int"=some none)
  (z_isinstance:W.nsIn K mainGlobals "isinstance"=some none)
  (z_len:W.nsIn K mainGlobals "len"=some none)
  (z_list:W.nsIn K mainGlobals "list"=some none)
  (z_max:W.nsIn K mainGlobals "max"=some none)
  (z_min:W.nsIn K mainGlobals "min"=some none)
  (z_range:W.nsIn K mainGlobals "range"=some none)
  (z_repr:W.nsIn K mainGlobals "repr"=some none)
  (z_set:W.nsIn K mainGlobals "set"=some none)
  (z_sorted:W.nsIn K mainGlobals "sorted"=some none)
  (z_tuple:W.nsIn K mainGlobals "tuple"=some none)
  {C_NoMap C_WalkError C_TooMany C_NoRow C_NoBoard C_IsFixed C_BadText C_i_NoMap:Addr}
  (j_NoMap:Ci K C_NoMap C_WalkError C_i_NoMap "NoMap.__init__" "at" (iH (top 3)))
  (k_NoMap:W.nsIn K mainGlobals "NoMap"=some (some (.ref C_NoMap)))
  (k_WalkError:W.nsIn K mainGlobals "WalkError"=some (some (.ref C_WalkError)))
  (e_WalkError:W.excIn K C_WalkError dB eA=true)
  (i_BadText_IsFixed_NoBoard_NoRow_TooMany_0:W.kitAny K (.type "NoneType") [.ref C_BadText,.ref C_IsFixed,.ref C_NoBoard,.ref C_NoRow,.ref C_TooMany]=some false)
  (x0_NoMap:W.findIn K (.ref C_NoMap) "__getattribute__"=some (some (.builtin "BaseException.__getattribute__")))
  (x1_NoMap:W.findIn K (.ref C_NoMap) "__getattr__"=some none)
  (x2_NoMap:W.findIn K (.ref C_NoMap) "__class__"=some (some (.builtin "object.__class__")))
  (x3_NoMap:W.specialIn K (.builtin "object.__class__") "__get__"=some (some (.builtin "getset_descriptor.__get__")))
  (x4_NoMap:W.takesIn K (.builtin "object.__class__")=some true)
  (x5_NoMap:W.mroIn K C_NoMap (.type "object")=some true)
  (x6_NoMap:W.mroIn K C_NoMap (.type "BaseException")=some true)
  (i_BadText_IsFixed_NoBoard_NoRow_TooMany_NoMap:W.kitAny K (.ref C_NoMap) [.ref C_BadText,.ref C_IsFixed,.ref C_NoBoard,.ref C_NoRow,.ref C_TooMany]=some false)
  (k_TooMany:W.nsIn K mainGlobals "TooMany"=some (some (.ref C_TooMany)))
  (k_NoRow:W.nsIn K mainGlobals "NoRow"=some (some (.ref C_NoRow)))
  (k_NoBoard:W.nsIn K mainGlobals "NoBoard"=some (some (.ref C_NoBoard)))
  (k_IsFixed:W.nsIn K mainGlobals "IsFixed"=some (some (.ref C_IsFixed)))
  (k_BadText:W.nsIn K mainGlobals "BadText"=some (some (.ref C_BadText)))
  (i_NoMap_0:W.kitOne K (.type "NoneType") (.ref C_NoMap)=some false)
  (i_NoMap_NoMap:W.kitOne K (.ref C_NoMap) (.ref C_NoMap)=some true)
  (i_ValueError_0:W.kitOne K (.type "NoneType") (.type "ValueError")=some false)
  (i_ValueError_NoMap:W.kitOne K (.ref C_NoMap) (.type "ValueError")=some true)
  (y_NoMap_at:W.findIn K (.ref C_NoMap) "at"=some none)
  (d_NoMap:W.hasDictIn K C_NoMap=true)
  (m_NoMap_WalkError:W.mroIn K C_NoMap (.ref C_WalkError)=some true):
  ∃fd:FuncData,(∀(s:Shared)(v:Value),BindsTo s fd #[[v],[]] [("_law_script",v)])/\∀base:Heap,K.In base->base.Ns mainGlobals mg->cW l.prog w K mg base (eY l.prog w) 6 fa fd ["_law_script"] (eG K kE 1):=by
 let e:=hfa.symm.trans (h_14.mm X G);cases e;let T:Txt K mg (λn=>[f_0,f_1,f_2,f_3,f_4,f_5,f_6,f_7,f_8,f_9,f_10,f_11,f_12,f_13,fa,C_NoMap,C_WalkError,C_TooMany,C_NoRow,C_NoBoard,C_IsFixed,C_BadText,C_i_NoMap].getD n 0):=#[h_0.tx X G,h_1.tx X G,h_2.tx X G,h_3.tx X G,h_4.tx X G,h_5.tx X G,h_6.tx X G,h_7.tx X G,h_8.tx X G,h_9.tx X G,h_10.tx X G,h_11.tx X G,h_12.tx X G,h_13.tx X G,h_14.tx X G,W.mg_none_of X G z_ValueError,W.mg_none_of X G z_all,W.mg_none_of X G z_enumerate,W.mg_none_of X G z_int,W.mg_none_of X G z_isinstance,W.mg_none_of X G z_len,W.mg_none_of X G z_list,W.mg_none_of X G z_max,W.mg_none_of X G z_min,W.mg_none_of X G z_range,W.mg_none_of X G z_repr,W.mg_none_of X G z_set,W.mg_none_of X G z_sorted,W.mg_none_of X G z_tuple,j_NoMap.ix e_WalkError,W.mg_of X G k_NoMap,W.mg_of X G k_WalkError,W.mg_of X G k_TooMany,W.mg_of X G k_NoRow,W.mg_of X G k_NoBoard,W.mg_of X G k_IsFixed,W.mg_of X G k_BadText,k_NoMap,k_WalkError,e_WalkError,i_BadText_IsFixed_NoBoard_NoRow_TooMany_0,x0_NoMap,x1_NoMap,x2_NoMap,x3_NoMap,x4_NoMap,x5_NoMap,x6_NoMap,i_BadText_IsFixed_NoBoard_NoRow_TooMany_NoMap,k_TooMany,k_NoRow,k_NoBoard,k_IsFixed,k_BadText,i_NoMap_0,i_NoMap_NoMap,i_ValueError_0,i_ValueError_NoMap,y_NoMap_at,d_NoMap,m_NoMap_WalkError]
 show#[_,λs v=>h_14.bt s v,λbase _ _=>EO T]
theorem walk{l:W.OpenLaw}{q:Program}{z:List Str}{XP:(Str->Option Value)->Heap->Prop}{J:World->Heap->Prop}{d:DefRec}{K:Params->W.Frag}(hn:l.most=some 63)(B:d.params.defaults=[])
  (O:∀(w:World)(h:Heap),J w h->(K w.params).In h)
  (F:∀(w:World)(mg:Str->Option Value)(G:Addr)(h:Heap),(K w.params).In h->h.Ns mainGlobals mg->mg d.name=some (.ref G)->
   ∃fd:FuncData,(∀(s:Shared)(u:Value),BindsTo s fd #[[u],[]] [("_law_script",u)])/\∀base:Heap,(K w.params).In base->base.Ns mainGlobals mg->cW l.prog w (K w.params) mg base (eY l.prog w) 6 G fd ["_law_script"] (eG (K w.params) kE 1)):
  W.WalkO q z XP J l.row.toRowW d [] (λf vs=>PySem.call f vs):=
 L2.walk_of (n:=63) (k:=6) (x:="_law_script") (CX:=λw=>eY l.prog w) (sp:=λw=>eG (K w.params) kE 1) hn ⋯ B #[rfl,⋯,⋯,rfl] O F (λ_ H a L M _ Y=>Me CJ H a L M Y) λ_ _ _ _ _ h=>by let#[_,_,_,_,_,_,_,_,_,q,_]:=h;show q
end Law
end
end
open PySem PySem.W PyProof.Rows
namespace PySem.W.Fast
def tw12836246561127852652:=0
def tw227731741434542400:=0
def tw5149425220587960099:=0
def tw11123645289597392415:=0
def tw7459466425785366981:=0
def tw2105371898324828579:=0
def tw6161984988393018824:=0
def tw15364977037621085704:=0
def tw17885957556070271403:=0
def tw15167795258382816947:=0
def tw3492575899878322517:=0
def tw4829227926896454679:=0
def tw13239784215094244582:=0
def tw16406160550929850866:=0
def tw8223392210492864607:=0
def tw6523359935343192777:=0
def tw4881987968691991042:=0
def tw16758955643585831356:=0
def tw13427361365419795426:=0
def tw4260208476170076859:=0
def tw9355180316813289558:=0
def tw13415170612759412320:=0
def tw8355358384900196073:=0
def tw14476389041001420521:=0
def tw9058654020776095926:=0
def tw5325853476765464186:=0
def tw8032349258247201820:=0
def tw2379083982044245391:=0
def tw9249911776147740492:=0
def tw3897155185600004647:=0
def tw13235159742808516535:=0
def tw9122711335140443358:=0
def tw14389401135704086310:=0
def tw1416996905200471987:=0
def tw2446785057961276702:=0
def tw5833753580931378096:=0
def tw7991962215155009099:=0
def tw2649613924740837045:=0
def tw2600769420561259294:=0
def tw13861949193070009151:=0
def tw17869820348245174773:=0
def tw14849300200568252074:=0
def tw18241926477806325210:=0
def tw176880628078136841:=0
def tw17616218722577190305:=0
def tw4886710720997966548:=0
def tw3298003712672278499:=0
def tw17440322545324086372:=0
def tw3444176024334148798:=0
def tw14685053726987738997:=0
def tw12835413032796108201:=0
def tw15376541601576765718:=0
def tw15050298465148975547:=0
def tw941219360887335866:=0
def tw4275112023751109581:=0
def tw2197784661847129045:=0
def tw9188234669824654156:=0
def tw17510283521977666127:=0
def tw12584429573189072437:=0
def tw16545315232733645562:=0
def tw12336739570846702204:=0
def tw14393432512594235516:=0
def tw10572603082511569159:=0
def tw4217416167731207572:=0
def tw9522521038086853833:=0
def tw5783701675512263406:=0
def tw14543489806127370242:=0
def tw10727590716260210961:=0
def tw7145212536661837032:=0
def tw13498957004938863395:=0
def tw7010464875782808444:=0
def tw3937151976379622518:=0
def tw13705865709400824841:=0
def tw4643871516655789555:=0
def tw13894655833505638014:=0
def tw16841438880207612252:=0
def tw5331357125236175728:=0
def tw6843753163961806276:=0
def tw15840498906372258301:=0
def tw16654380637469778749:=0
def tw9700229685444987440:=0
def tw12692833955598745024:=0
def tw3891752438490133603:=0
def tw5432240448781486182:=0
def tw10239294784639064142:=0
def tw5788020547913893821:=0
def tw18362180882704186611:=0
def tw14007964339768425567:=0
def tw14035077475412356372:=0
def tw16154764347816680811:=0
def tw1074514517434366381:=0
def tw17160979276063455661:=0
def tw13668938153128113752:=0
def tw8566874317901515813:=0
def tw16243280168127744400:=0
def tw9313141221632429205:=0
def tw4037949478084502035:=0
def tw9668799741409533047:=0
def tw12462037330533427464:=0
def tw18124192876551384343:=0
def tw10899782669518119523:=0
def tw15613091893148021973:=0
def tw18370657253293296819:=0
def tw406126430974160806:=0
def tw1944119441258219573:=0
def tw16542109774564656712:=0
def tw9279773133001293772:=0
def tw5784468523193799722:=0
def tw1560807208121494995:=0
def tw1053451188020195549:=0
def tw13009961816224245420:=0
def tw10624668148602983939:=0
def tw17240626548154185720:=0
def tw1425790612656645630:=0
def tw16730616088204097469:=0
def tw1407429735977380396:=0
def tw1153884729231398019:=0
def tw11177459042240161495:=0
def tw4003884420011394690:=0
def tw4920411048863127831:=0
def tw11566460885559108349:=0
def tw6549631609320288128:=0
def tw13678479681005327398:=0
def tw8435992698471035433:=0
def tw1241464823816339530:=0
def tw2032420457663586439:=0
def tw1035708820154837760:=0
def tw9596427410934567174:=0
def tw455234035378709684:=0
def tw15287157592466131556:=0
def tw181289849355273821:=0
def tw12782944717728369551:=0
def tw7765971946969045063:=0
def tw8577416578309588309:=0
def tw12130918375456275833:=0
end PySem.W.Fast
set_option maxRecDepth 100000 in
set_option maxHeartbeats 0 in
theorem PySem.Challenge.cw_walktold_k02_maps_looked_at_holds : PySem.Challenge.rw_walktold_k02_maps_looked_at.Holds := by
 w_on; o_law; k_head; (case hw=>w_witness2)
 k_fill
 refine Law.walk (l:=PySem.Challenge.rw_walktold_k02_maps_looked_at) rfl rfl (fun w h Y=>PySem.W.kIn_of Y) ?F
 case F=>
  intro w mg fa h KX G hmg
  refine' Law.all_mk KX G hmg ..
  all_goals try first | k_is | (refine' ⟨?_,?_,?_,?_⟩ <;> try k_is)
  all_goals try first | k_is | k_exc | kit_is | (refine' ⟨?_,?_,?_,?_,?_,?_,?_,?_⟩ <;> try k_is)
