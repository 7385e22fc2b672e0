import PyProof.Rows.All
import Wide.All
import OpenK.AllK
import Wide.FinOn
import PySem.Challenge.RW_walktold_k04_texts_there_and_back
set_option Elab.async false
set_option linter.all false
set_option maxRecDepth 100000
set_option compiler.extract_closed false
set_option bootstrap.genMatcherCode false
open Array (forIn_toList getElem?_eq_getElem getElem?_toList getElem_mem_toList getElem_toList length_toList mem_toList_iff toArray_toList toList_append toList_push)
open Bool (and_eq_true false_eq_true or_eq_true)
open Int (mul_one toNat_natCast)
open List (all_cons all_eq_true all_map append_assoc append_nil append_of_mem cons_append countP_cons drop_zero ext_getElem? filterMap_cons find?_cons foldl_cons forIn_cons forIn_nil getD_eq_getElem?_getD getElem?_append_left getElem?_append_right getElem?_eq_none getElem?_map getElem?_set_ne getElem?_set_self getElem?_toArray getElem_mem getElem_of_mem length_append length_cons length_drop length_map length_nil length_pos_iff length_range length_singleton length_take lookup_cons lt_asymm map_append map_congr_left map_cons map_id map_map map_nil mem_append mem_cons mem_cons_self mem_filter mem_filterMap mem_map mem_of_getElem? mem_range mem_singleton nil_append nodup_append nodup_cons not_mem_nil of_mem_zip pairwise_append pairwise_cons pairwise_map perm_append_comm perm_middle set_comm size_toArray sum_append sum_cons take_append_drop)
open Nat (le_of_lt le_refl le_succ le_trans log2_lt lt_irrefl lt_of_lt_of_le lt_or_ge lt_succ_of_lt lt_succ_self lt_trans min_le_right mod_lt mul_le_mul ne_of_gt ne_of_lt not_lt sub_le sub_self sub_zero succ_mul zero_add zero_le)
open Option (bind_some isSome_iff_exists map_eq_some_iff map_some)
def qa:=@PySem.wpAny_bind
def qb:=@PySem.wpAny_pure
def qc:=@PySem.Heap.get?_push_of_some
def qd:=@PySem.Heap.get?_push_size
def qe:=@PySem.Heap.lt_size
def qf.{u}:=@Option.some.inj.{u}
def qg.{u}:=@List.getElem?_eq_some_iff.{u}
def qh.{u}:=@List.getElem?_eq_getElem.{u}
def qi.{u}:=@List.mem_append_right.{u}
def qj.{u}:=@List.mem_append_left.{u}
def qk.{u}:=@List.mem_cons_of_mem.{u}
def qm.{u}:=@List.mem_cons_self.{u}
def qo:=@List.length_map
def qp:=@List.append_assoc
def qq:=@List.length_append
def qr:=@List.size_toArray
def qt:=@List.length_cons
def qu:=@List.mem_singleton
def qv:=@List.length_nil
def qw:=@List.nodup_append
def qx:=@List.mem_append
def qy:=@List.map_cons
def qz:=@List.append_nil
def qA:=@List.mem_cons
def qB:=@List.length_singleton
def qC:=@List.length_range
def qD:=@List.map_map
def qE:=@List.getElem?_map
def qF:=@List.length_drop
def qG:=@List.length_take
def qH:=@List.all_eq_true
def qI:=@List.mem_range
def qJ:=@List.mem_map
def qK:=@List.nodup_cons
def qL:=@List.mem_of_getElem?
def qM:=@List.perm_append_comm
def qO:=@List.length_pos_iff
def qP:=@List.getElem?_eq_none
def qQ:=@decide_eq_true
def qR:=@decide_eq_false
def qS:=@decide_eq_true_eq
def qT:=@of_decide_eq_true
def qU:=@Array.length_toList
def qV:=@Int.toNat_natCast
def qW:=Bool.false_ne_true
def qX:=@Option.map_eq_some_iff
def qY:=@Array.getElem?_toList
def qZ:=@if_pos
def q8:=@if_neg
def q9:=@Nat.le_refl
def zc:=@PySem.Heap.get?_update_other
def zi:=@PySem.Heap.get?_update_self
def zj:=@PySem.wpAny_field
def zk:=@PySem.wpAny_newObj_type
def zl:=@PySem.wpAny_call_entry
def zm:=@PySem.sizeLine_eq
def zo:=@PySem.wpAny_setField_rec
def zp:=@PySem.wpAny_holding
def zr:=@PySem.wpAny_of_eq
def zt:=@PySem.wpAny_mono
abbrev zu:=PySem.Value->PySem.Shared->Prop
theorem aZ8(h:1=1:=by rfl):True:=trivial
theorem aZ9(h:1=1:=by decide):True:=trivial
@[inline]def rZ9:=aZ8._auto_1
@[inline]def dZ9:=aZ9._auto_1
theorem cpsZ9{A:Prop}(h:∀G:Prop,(A->G)->G):A:=h A id
section
set_option hygiene false in
open Lean Parser.Tactic in
local macro_rules
|`($m:declModifiers def $i:declId $s:optDeclSig $v:declVal)=>do
 let a:=m.raw.getArgs
 if !a[4]!.isNone then Macro.throwUnsupported
 match i.raw[0].getId with
 |.str p n=>do
  let f(s:Syntax):=s.rewriteBottomUp (·.setInfo .none)
  let c:=mkNode ``Parser.Command.declaration
  let i:=f i
  let s:=f s
  let v:=f v
  if a[1]!.isNone&&(n.front.isUpper||!p.isAnonymous) then return c #[m,mkNode ``Parser.Command.theorem #[mkAtom "theorem",i,mkNode ``Parser.Command.declSig #[s[0],s[1][0]],v]] else return c #[m.raw.setArg 4 (mkNullNode #[mkNode ``Parser.Command.noncomputable #[mkAtom "noncomputable"]]),mkNode ``Parser.Command.definition #[mkAtom "def",i,s,v,mkNullNode]]
 |_=>Macro.throwUnsupported
|`(#[$x,*])=>if x.getElems.isEmpty then Macro.throwUnsupported else `(⟨$x,*⟩)
|`(∅)=>`((by lia))
|`(⋯)=>`((by decide))
|`(⇑$x)=>`(some $x)
|`(↥$x)=>`(decide $x)
|`(↑$x)=>`((by simpa using $x))
|`(tactic|lia)=>`(tactic|first|assumption|exact Nat.le_refl _|exact Nat.le_of_lt ‹_›|exact Nat.succ_pos _|exact Nat.not_lt.1 ‹_›|exact Nat.lt_of_lt_of_le ‹_› ‹_›|exact Nat.lt_of_le_of_lt ‹_› ‹_›|exact Nat.le_trans ‹_› ‹_›|exact Nat.lt_trans ‹_› ‹_›|exact Nat.ne_of_lt ‹_›|exact Nat.ne_of_gt ‹_›|exact Nat.lt_succ_of_le ‹_›|exact Nat.le_add_right _ _|exact Nat.sub_le _ _|exact Nat.le_of_lt_succ ‹_›|exact absurd ‹_› (Nat.not_lt_zero _)|exact absurd ‹_ < _› (Nat.not_lt.2 ‹_›)|exact Nat.lt_of_le_of_ne ‹_› ‹_›|exact Nat.pos_of_ne_zero ‹_›|exact Nat.le_trans ‹_› (Nat.le_add_right _ _)|exact Nat.le_trans (Nat.sub_le _ _) ‹_›|exact Int.le_of_lt ‹_›|exact Nat.sub_lt ‹_› Nat.one_pos|exact Nat.add_sub_of_le ‹_›|exact Nat.lt_add_of_pos_right ‹_›|exact Nat.lt_of_lt_of_eq ‹_› ‹_›|exact Nat.le_of_eq ‹_›|exact Nat.not_lt_of_le ‹_›|exact Nat.sub_pos_of_lt ‹_›|exact Nat.le_of_eq (Nat.add_sub_of_le ‹_›)|lia -verbose)
|`(tactic|show $e:term)=>`(tactic|first|refine $e|fail)
|`(tactic|let #[$x,*]:=$e)=>do
 let rec go:Nat->Syntax->MacroM (TSyntax ``rcasesPatLo)
  |n+1,t=>do match t with
   |`(#[$y,*])=>let z<-y.getElems.mapM (go n ·.raw);`(rcasesPatLo|⟨$[$z],*⟩)
   |`(_)=>`(rcasesPatLo|_)
   |_=>`(rcasesPatLo|$(⟨t⟩):ident)
  |_,_=>Macro.throwUnsupported
 let z<-x.getElems.mapM (go 9 ·.raw)
 if z.size>3 then `(tactic|(refine _root_.cpsZ9 fun gZ kZ=>?_;rcases $e:term with ⟨$[$z],*⟩;refine kZ ?_;clear kZ gZ)) else `(tactic|obtain ⟨$[$z],*⟩:=$e)
|`(tactic|let $d:letDecl)=>`(tactic|have $d:letDecl)
noncomputable section
namespace ST
open PySem PySem.SetTable
@[inline]def Rising(xs:Array Nat):Prop:=∀i j(hi:i<xs.size)(B:j<xs.size),i<j->xs[i]<xs[j]
def DJ{xs:Array Nat}(h:i<xs.size):xs.getD i d=xs[i]:=by simp[Array.getD,h]
def DI(hr:Rising xs):∀(B lo hi:Nat),hi<=xs.size->lo<=hi->hi-lo<=B->(∀i(h:i<xs.size),i<lo->xs[i]<j)->(∀i(h:i<xs.size),hi<=i->j<=xs[i])->
  below.go xs j B lo hi<=xs.size/\(∀i(h:i<xs.size),i<below.go xs j B lo hi->xs[i]<j)/\∀i(h:i<xs.size),below.go xs j B lo hi<=i->j<=xs[i]:=by
 intro B;induction B with
 |zero=>
  intro lo hi h1 h2 h3 L J;let:lo=hi:=∅
  subst this;show#[by show lo<=_;lia,λi h F=>L i h F,λi h F=>J i h F]
 |succ B ih=>
  intro lo hi h1 h2 h3 L J;unfold below.go;by_cases G:lo<hi
  .rw[qZ G];let M:(lo+hi)/2<xs.size:=by lia
   dsimp only;rw[DJ M];by_cases Y:xs[(lo+hi)/2]<j
   .rw[qZ Y];show ih _ _ h1 ∅ ∅ (λi h F=>?_) J;by_cases O:i=(lo+hi)/2
    .subst O;show Y
    .let:=hr i ((lo+hi)/2) h M ∅;lia
   .rw[q8 Y];show ih _ _ ∅ ∅ ∅ L λi h F=>?_;by_cases O:i=(lo+hi)/2
    .subst O;lia
    .let:=hr ((lo+hi)/2) i M h ∅;lia
  .rw[q8 G];let:lo=hi:=by lia
   subst this;show#[∅,λi h F=>L i h F,λi h F=>J i h F]
def Ar(B:Rising xs):below xs j<=xs.size/\(∀i(h:i<xs.size),i<below xs j->xs[i]<j)/\∀i(h:i<xs.size),below xs j<=i->j<=xs[i]:=
 DI B xs.size 0 xs.size (q9 _) (zero_le _) ∅ (λi h F=>by lia) λi h F=>∅
def Dp(F:Rising xs)(h:i<xs.size)(e:xs[i]=j):below xs j=i:=by
 let#[h1,h2,G]:=Ar (j:=j) F;rcases Nat.lt_trichotomy (below xs j) i with B|B|B
 .let J:=G (below xs j) ∅ (q9 _);let:=F (below xs j) i ∅ h B;lia
 .show B
 .let:=h2 i h B;lia
def Bl{t:SetTable}(B:Rising t.place)(h:i<t.place.size)(e:t.place[i]=j):t.slot j=.live i:=by
 unfold slot;dsimp only;rw[Dp B h e];let:t.place[i]?=⇑j:=by rw[getElem?_eq_getElem h,e]
 rw[this];simp
def Bn{t:SetTable}(B:t.dummies=#[])(h:∀i(hi:i<t.place.size),t.place[i]≠j):t.slot j=.empty:=by
 unfold slot;dsimp only;let h1:(t.place[below t.place j]?==⇑j)=false:=by
  cases q:t.place[below t.place j]? with
  |none=>rfl
  |some v=>let#[hi,e]:=Array.getElem?_eq_some_iff.mp q;let:=h _ hi;rw[e]at this;simpa using this
 rw[h1,B];rfl
def Ao{t:SetTable}(B:Rising t.place)(F:t.dummies=#[])(j:Nat):(t.slot j=.empty/\∀i(hi:i<t.place.size),t.place[i]≠j)\/∃i,∃hi:i<t.place.size,t.place[i]=j/\t.slot j=.live i:=by
 by_cases h:∃i,∃hi:i<t.place.size,t.place[i]=j
 .obtain⟨i,hi,e⟩:=h;show .inr #[i,hi,e,Bl B hi e]
 .let h':∀i(hi:i<t.place.size),t.place[i]≠j:=λi hi e=>h #[i,hi,e];show .inl #[Bn F h',h']
def aD(t:SetTable)(p:Probe):Nat->Probe
 |0=>p
 |n+1=>aD t (t.advance p) n
def AM(t:SetTable):∀(n:Nat)(p:Probe),aD t p (n+1)=t.advance (aD t p n)
 |0,_=>rfl
 |n+1,p=>AM t n (t.advance p)
def Ae(t:SetTable):∀(m n:Nat)(p:Probe),aD t p (m+n)=aD t (aD t p m) n
 |0,n,p=>by rw[zero_add];rfl
 |m+1,n,p=>by rw[Nat.add_right_comm];show Ae t m n (t.advance p)
def Dd(hr:Rising t.place)(hd:t.dummies=#[]):∀(B n:Nat)(p:Probe),p.dummy=none->t.slot (aD t p n).j=.empty->(∀m,m<n->t.slot (aD t p m).j≠.empty)->n<B->
  (probe.go t hashAt h B p=⇑(.empty (aD t p n).j none)/\∀m,m<n->∀i,t.slot (aD t p m).j=.live i->hashAt i≠h)\/
  ∃m i,m<n/\t.slot (aD t p m).j=.live i/\hashAt i=h/\probe.go t hashAt h B p=⇑(.candidate (aD t p m).j i (aD t p (m+1)))/\∀m',m'<m->∀G,t.slot (aD t p m').j=.live G->hashAt G≠h:=by
 intro B;induction B with
 |zero=>intro n p _ _ _ h;lia
 |succ B ih=>
  intro n p J he M hf;cases n with
  |zero=>show .inl #[?_,λm hm=>∅];unfold probe.go;let h7:t.slot p.j=.empty:=he;rw[h7];rw[J];rfl
  |succ n=>
   rcases Ao hr hd p.j with⟨Y,_⟩|⟨i,hi,ei,hl⟩
   .show absurd Y (M 0 ∅)
   .by_cases hh:hashAt i=h
    .show .inr #[0,i,∅,hl,hh,?_,λm' h6=>∅];unfold probe.go;rw[hl];show(if(hashAt i==h)=true then _ else _)=_;rw[qZ (by rw[hh];simp)];rfl
    .have O:probe.go t hashAt h (B+1) p=probe.go t hashAt h B (t.advance p):=by
      conv=>lhs;unfold probe.go
      grind
     have h5:(t.advance p).dummy=none:=by
      unfold advance;split
      .show J
      .show J
     rcases ih n (t.advance p) h5 he (λm hm=>M (m+1) ∅) ∅with⟨h1,h2⟩|⟨m,G,hm,h1,h2,h3,h4⟩
     .show .inl #[by rw[O,h1];rfl,λm hm G F=>?_];cases m with
      |zero=>have:t.slot p.j=.live G:=F;rw[hl]at this;cases this;show hh
      |succ m=>show h2 m ∅ G F
     .show .inr #[m+1,G,∅,h1,h2,by rw[O,h3];rfl,λm' h6 L F=>?_];cases m' with
      |zero=>have:t.slot p.j=.live L:=F;rw[hl]at this;cases this;show hh
      |succ m'=>show h4 m' ∅ L F
def aX(mask:Nat)(b:Nat):Nat->Nat×Nat
 |0=>(b %(mask+1),b)
 |k+1=>leap mask (aX mask b k).1 (aX mask b k).2
def aU(mask:Nat)(p:Nat×Nat):Probe:={j:=p.1,more:=runEnd mask p.1-p.1,i:=p.1,perturb:=p.2,dummy:=none}
def DG(mask i:Nat):runEnd mask i-i<=9:=by unfold runEnd;split<;>lia
def AW:∀m,m<=runEnd t.mask p.1-p.1->aD t (aU t.mask p) m={aU t.mask p with j:=p.1+m,more:=runEnd t.mask p.1-p.1-m}
 |0,_=>rfl
 |m+1,h=>by rw[AM,AW m ∅];unfold advance;rw[qZ (by show runEnd t.mask p.1-p.1-m>0;lia)];rfl
def Bp:aD t (aU t.mask p) (runEnd t.mask p.1-p.1+1)=aU t.mask (leap t.mask p.1 p.2):=by rw[AM,AW _ (q9 _)];unfold advance;rw[q8 (by show¬(runEnd t.mask p.1-p.1-(runEnd t.mask p.1-p.1)>0);lia)];rfl
def AX:∀k,∃n,n<=10*k/\aD t (t.probeStart h) n=aU t.mask (aX t.mask (bits h) k)
 |0=>#[0,∅,rfl]
 |k+1=>by let#[n,B,e]:=AX (t:=t) (h:=h) k;let:=DG t.mask (aX t.mask (bits h) k).1;show#[n+(runEnd t.mask (aX t.mask (bits h) k).1-(aX t.mask (bits h) k).1+1),∅,?_];rw[Ae,e,Bp];rfl
def DL(h:Int):bits h<2^64:=by unfold bits;grind
def AZ(mask b:Nat):∀k,(aX mask b k).2=b/32^k
 |0=>by simp[aX]
 |k+1=>by show(aX mask b k).2/32=_;rw[AZ mask b k,Nat.div_div_eq_div_mul,Nat.pow_succ]
def BV{mask:Nat}(B:13<=k):(aX mask (bits h) k).2=0:=by
 rw[AZ];show Nat.div_eq_of_lt (lt_of_lt_of_le (DL h) ?_)
 calc 2^64<=32^13:=by decide
  _<=32^k:=Nat.pow_le_pow_right ⋯ B
def du(M i:Nat):Nat:=(i*5+1) %M
def it(M:Nat):Nat->Nat->Nat
 |0,i=>i
 |k+1,i=>it M k (du M i)
def Bb(M:Nat):∀a b i,it M (a+b) i=it M b (it M a i)
 |0,b,i=>by rw[zero_add];rfl
 |a+1,b,i=>by rw[Nat.add_right_comm];show Bb M a b (du M i)
def Ba{mask:Nat}:∀k,(aX mask (bits h) (13+k)).1=it (mask+1) k (aX mask (bits h) 13).1
 |0=>rfl
 |k+1=>by rw[Bb (mask+1) k 1,<-Ba k];show(leap mask (aX mask (bits h) (13+k)).1 (aX mask (bits h) (13+k)).2).1=_;rw[BV ∅];rfl
def hit(M e:Nat):Nat->Nat->Bool
 |0,_=>false
 |n+1,i=>bif Nat.beq i e then true else hit M e n (du M i)
def BW:∀{n i:Nat},hit M e n i=true->∃k,k<n/\it M k i=e
 |0,_,h=>by cases h
 |n+1,i,h=>by
  unfold hit at h;cases q:Nat.beq i e with
  |true=>show#[0,∅,Nat.eq_of_beq_eq_true q]
  |false=>rw[q]at h;let#[k,F,B]:=BW (n:=n) h;show#[k+1,∅,B]
def bH(mask:Nat):Prop:=mask=7\/mask=15\/mask=31\/mask=63\/mask=127\/mask=255\/mask=511
def DM{mask:Nat}(h:bH mask):(List.range (mask+1)).all (λe=>hit (mask+1) e (mask+1) 0)=true/\it (mask+1) (mask+1) 0=0:=by rcases h with rfl|rfl|rfl|rfl|rfl|rfl|rfl<;>show⟨by decide+kernel,by decide+kernel⟩
def Ge{mask s e:Nat}(h:bH mask)(hs:s<=mask)(J:e<=mask):∃k,k<=mask/\it (mask+1) k s=e:=by
 let#[h1,h2]:=DM h;rw[qH]at h1;let#[a,M,F]:=BW (h1 s (qI.mpr ∅));let#[b,L,B]:=BW (h1 e (qI.mpr ∅));by_cases G:a<=b
 .show#[b-a,∅,by rw[<-F,<-Bb,show a+(b-a)=b by lia,B]]
 .show#[mask+1-a+b,∅,?_];rw[<-F,<-Bb,show a+(mask+1-a+b)=mask+1+b by lia,Bb,h2,B]
def BS(F:bH t.mask)(G:e<=t.mask):∃n,n<10*turns t.mask/\(aD t (t.probeStart h) n).j=e:=by
 let B:(aX t.mask (bits h) 13).1<=t.mask:=by let:(aX t.mask (bits h) 13).1<t.mask+1:=mod_lt _ ∅;lia
 let#[k,O,L]:=Ge F B G;let#[n,M,J]:=AX (t:=t) (h:=h) (13+k);show#[n,by unfold turns;lia,?_];rw[J];show(aX t.mask (bits h) (13+k)).1=e;rw[Ba,L]
def Ga{P:Nat->Prop}[DecidablePred P]:∀n,P n->∃m,m<=n/\P m/\∀k,k<m->¬P k:=by
 intro n;induction n using Nat.strongRecOn with
 |ind n G=>
  intro J;by_cases h:∃k,k<n/\P k
  .obtain⟨k,F,B⟩:=h;let#[m,h1,h2,L]:=G k F B;show#[m,∅,h2,L]
  .show#[n,q9 _,J,λk F B=>h #[k,F,B]]
structure gG(t:SetTable)(hs:List Int):Prop where
 ris:Rising t.place
 dum:t.dummies=#[]
 mask:bH t.mask
 size:t.place.size=hs.length
 le:∀i(hi:i<t.place.size),t.place[i]<=t.mask
 few:hs.length<=t.mask
 reach:∀i(hi:i<t.place.size)(h:Int),hs[i]?=⇑h->∃n,(aD t (t.probeStart h) n).j=t.place[i]/\∀m,m<n->t.slot (aD t (t.probeStart h) m).j≠.empty
def Ei:∀(l m:List Nat),l.Nodup->(∀x∈l,x∈m)->l.length<=m.length
 |[],m,_,_=>by simp
 |x::l,m,hn,hs=>by
  let#[h1,h2]:=qK.mp hn;let F:x∈m:=hs x (by simp);let:=Ei l (m.erase x) h2 λy B=>by show(List.mem_erase_of_ne ?_).mpr (hs y (by simp[B]));intro z;subst z;show h1 B
  rw[List.length_erase_of_mem F]at this;let G:=List.length_pos_of_mem F;rw[qt];lia
def De:∀(m:Nat)(l:List Nat),l.Nodup->(∀x∈l,x<m)->l.length<m->∃e,e<m/\e∉l:=by
 intro m l G F J;by_cases h:∃e,e<m/\e∉l
 .show h
 .exfalso;let:∀e∈List.range m,e∈l:=λe B=>by
   by_cases q:e∈l
   .show q
   .show absurd #[e,qI.mp B,q] h
  let:=Ei (List.range m) l List.nodup_range this;rw[qC]at this;lia
def gG.free(T:gG t hs)(h:Int):∃n,n<10*turns t.mask/\t.slot (aD t (t.probeStart h) n).j=.empty/\∀m,m<n->t.slot (aD t (t.probeStart h) m).j≠.empty:=by
 obtain⟨e,he,F⟩:=De (t.mask+1) t.place.toList (by
  rw[List.Nodup,List.pairwise_iff_getElem];intro i j hi L G;let:=T.ris i j hi ↑L G;simp;lia) (λx J=>by
   let#[i,hi,e]:=getElem_of_mem J;let:=T.le i hi;rw[getElem_toList]at e;lia) (by
   let:=T.few;let:=T.size;rw[qU];lia)
 let#[n,Y,O]:=BS (h:=h) T.mask (show e<=t.mask by lia);let B:t.slot (aD t (t.probeStart h) n).j=.empty:=by rw[O];show Bn T.dum λi hi z=>F ?_;rw[<-z];show getElem_mem_toList hi
 let#[m,h1,h2,M]:=Ga (P:=λn=>t.slot (aD t (t.probeStart h) n).j=.empty) n B;show#[m,∅,h2,M]
theorem ris_list:Rising xs↔xs.toList.Pairwise (·<·):=by rw[List.pairwise_iff_getElem];first|rfl|assumption|(simp_all;done)
def Bc(L:Rising xs)(hn:∀i(hi:i<xs.size),xs[i]≠j):Rising (insertAt xs (below xs j) j):=by
 let#[h1,h2,h3]:=Ar (j:=j) L;rw[ris_list,toList_insertAt];let M:=ris_list.mp L;rw[<-take_append_drop (below xs j) xs.toList]at M;let#[p1,Y,O]:=pairwise_append.mp M;show pairwise_append.mpr #[p1,pairwise_cons.mpr #[λy F=>?_,Y],λx J y F=>?_]
 .obtain⟨i,hi,e⟩:=getElem_of_mem F;rw[List.getElem_drop,getElem_toList]at e;let B:below xs j+i<xs.size:=by simp at hi;lia
  let a:=h3 (below xs j+i) B ∅;let b:=hn (below xs j+i) B;lia
 .have G:x<j:=by
   let#[i,hi,e]:=getElem_of_mem J;rw[List.getElem_take,getElem_toList]at e;let B:i<xs.size/\i<below xs j:=by simp at hi;lia
   let:=h2 i B.1 B.2;lia
  rcases qA.mp F with rfl|F
  .show G
  .show O x J y F
theorem mem_insert:x∈(insertAt xs p j).toList↔x=j\/x∈xs.toList:=by rw[toList_insertAt,qx];grind[take_append_drop,mem_append]
def Ap(h:t'.mask=t.mask):∀(n:Nat)(p:Probe),aD t' p n=aD t p n
 |0,_=>rfl
 |n+1,p=>by
  let e:t'.advance p=t.advance p:=by unfold advance;rw[h]
  show aD t' (t'.advance p) n=aD t (t.advance p) n;rw[e,Ap h n]
def An{t t':SetTable}(h:t'.mask=t.mask)(b:Int):t'.probeStart b=t.probeStart b:=by unfold probeStart;rw[h]
def AY{t:SetTable}(B:Rising t.place)(J:t.dummies=#[])(j:Nat):t.slot j≠.empty↔j∈t.place.toList:=by
 rcases Ao B J j with⟨h,F⟩|⟨i,hi,e,h⟩
 .show#[λz=>absurd h z,λG=>?_];let#[i,hi,e]:=getElem_of_mem G;show absurd e (F i hi)
 .show#[λ_=>?_,λ_=>by rw[h];show nofun];rw[<-e];show getElem_mem_toList hi
def AK{t:SetTable}(B:t.dummies=#[]):(t.put j).1.place=insertAt t.place (below t.place j) j/\(t.put j).1.mask=t.mask/\(t.put j).1.dummies=#[]/\(t.put j).2=below t.place j:=by unfold put;show#[rfl,rfl,?_,rfl];rw[B];rfl
def gG.put(T:gG t hs)(he:t.slot (aD t (t.probeStart h) n).j=.empty)(h4:∀m,m<n->t.slot (aD t (t.probeStart h) m).j≠.empty)(hj:(aD t (t.probeStart h) n).j<=t.mask)(hf:hs.length+1<=t.mask):
  gG (t.put (aD t (t.probeStart h) n).j).1 (hs.take (t.put (aD t (t.probeStart h) n).j).2++h::hs.drop (t.put (aD t (t.probeStart h) n).j).2):=by
 generalize h5:(aD t (t.probeStart h) n).j=j at*;let h3:∀i(hi:i<t.place.size),t.place[i]≠j:=by
  rcases Ao T.ris T.dum j with⟨_,hn⟩|⟨i,hi,e,M⟩
  .show hn
  .rw[M]at he;cases he
 let#[e1,L,e3,e4]:=AK (t:=t) (j:=j) T.dum;let O:=Bc T.ris h3;let#[b1,b2,b3]:=Ar (j:=j) T.ris;let h2:(insertAt t.place (below t.place j) j).size=t.place.size+1:=by rw[<-qU,toList_insertAt,qq,qt,qG,qF,qU];lia
 let more:∀k,t.slot k≠.empty->(t.put j).1.slot k≠.empty:=λk F=>by rw[AY (by rw[e1];show O) e3,e1,mem_insert];show .inr ((AY T.ris T.dum k).mp F)
 show#[by rw[e1];show O,e3,by rw[L];show T.mask,?_,λi hi=>?_,?_,λi hi g Y=>?_]
 .rw[e1,h2,qq,qt,qG,qF,e4,T.size];let:=T.size;lia
 .let hm:(t.put j).1.place[i]∈(insertAt t.place (below t.place j) j).toList:=by rw[<-e1];exact getElem_mem_toList hi
  rw[L];rcases mem_insert.mp hm with z|z
  .rw[z];show hj
  .obtain⟨k,F,e⟩:=getElem_of_mem z;rw[<-e];show T.le k ↑F
 .rw[L,qq,qt,qG,qF];lia
 .rw[e4]at Y;let B:(t.put j).1.place[i]?=(t.place.toList.take (below t.place j)++j::t.place.toList.drop (below t.place j))[i]?:=by rw[e1,<-qY,toList_insertAt]
  rw[getElem?_eq_getElem hi]at B;let G:(t.place.toList.take (below t.place j)).length=below t.place j:=by rw[qG,qU];lia
  let J:(hs.take (below t.place j)).length=below t.place j:=by let:=T.size;rw[qG];lia
  let h1:∀k(F:k<t.place.size),hs[k]?=⇑g->(t.put j).1.place[i]=t.place[k]->∃n,(aD (t.put j).1 ((t.put j).1.probeStart g) n).j=(t.put j).1.place[i]/\∀m,m<n->(t.put j).1.slot (aD (t.put j).1 ((t.put j).1.probeStart g) m).j≠.empty:=λk F h6 e=>by let#[n',a,b]:=T.reach k F g h6;show#[n',by rw[Ap L,An L,a,e],λm hm=>?_];rw[Ap L,An L];show more _ (b m hm)
  rcases Nat.lt_trichotomy i (below t.place j)with M|M|M
  .rw[getElem?_append_left (by rw[G];show M),List.getElem?_take_of_lt M]at B;rw[getElem?_append_left (by rw[J];show M),List.getElem?_take_of_lt M]at Y;let F:i<t.place.size:=by lia
   rw[qY,getElem?_eq_getElem F]at B;show h1 i F Y (qf B)
  .subst M;rw[getElem?_append_right (by rw[G];show q9 _),G,sub_self,List.getElem?_cons_zero]at B;rw[getElem?_append_right (by rw[J];show q9 _),J,sub_self,List.getElem?_cons_zero]at Y;let eg:=qf Y;subst eg;show#[n,by rw[Ap L,An L,h5,qf B],λm hm=>?_];rw[Ap L,An L];show more _ (h4 m hm)
  .obtain⟨k,rfl⟩:∃k,i=k+1:=#[i-1,∅]
   rw[getElem?_append_right (by rw[G];lia),G,show k+1-below t.place j=(k-below t.place j)+1 by lia,List.getElem?_cons_succ,List.getElem?_drop,show below t.place j+(k-below t.place j)=k by lia]at B;rw[getElem?_append_right (by rw[J];lia),J,show k+1-below t.place j=(k-below t.place j)+1 by lia,List.getElem?_cons_succ,List.getElem?_drop,show below t.place j+(k-below t.place j)=k by lia]at Y;let F:k<t.place.size:=by let:=hi;simp only[e1,h2]at this;lia
   rw[qY,getElem?_eq_getElem F]at B;show h1 k F Y (qf B)
def cT(o:Array (Option Nat))(j:Nat):Bool:=(o.getD j (some 0)).isNone
def bare(mask:Nat):SetTable:={fresh 0 0 true with mask:=mask}
def CA{mask:Nat}:∀(B:Nat)(p:Nat×Nat)(K:Nat),K<B->(∃q,cT o q.1=true/\q=(Nat.repeat (λx:Nat×Nat=>leap mask x.1 x.2) K p))->
  ∃j n,layClean.free mask o B p.1 p.2=⇑j/\(aD (bare mask) (aU mask p) n).j=j/\cT o j=true/\∀m,m<n->cT o (aD (bare mask) (aU mask p) m).j=false:=by
 intro B;induction B with
 |zero=>intro p K h;lia
 |succ B O=>
  intro p K hK hq;let run:∀m,m<=runEnd mask p.1-p.1->(aD (bare mask) (aU mask p) m).j=p.1+m:=λm G=>by let:=AW (t:=bare mask) (p:=p) m G;let e:(aD (bare mask) (aU mask p) m).j=({aU mask p with j:=p.1+m,more:=runEnd mask p.1-p.1-m}:Probe).j:=congrArg Probe.j this;show e
  let h4:p.1<=runEnd mask p.1:=by unfold runEnd;split<;>lia
  unfold layClean.free;cases L:(List.range (runEnd mask p.1+1-p.1)).find? (λk=>(o.getD (p.1+k) (some 0)).isNone)with
  |some k=>rw[List.find?_range_eq_some]at L;let#[h1,h2,h3]:=L;rw[qI]at h2;show#[p.1+k,k,rfl,run k ∅,h1,λm G=>?_];rw[run m ∅];let:=h3 m G;simpa[cT] using this
  |none=>
   rw[List.find?_range_eq_none]at L;let F:∀m,m<=runEnd mask p.1-p.1->cT o (aD (bare mask) (aU mask p) m).j=false:=λm G=>by rw[run m G];let:=L m ∅;simpa[cT] using this
   cases K with
   |zero=>let#[q,h1,h2]:=hq;let h3:q=p:=h2;let:=F 0 ∅;let e:(aD (bare mask) (aU mask p) 0).j=p.1:=rfl;rw[e,<-h3,h1]at this;cases this
   |succ K=>
    obtain⟨q,h1,h2⟩:=hq;let M:∀(K:Nat)(p:Nat×Nat),Nat.repeat (λx:Nat×Nat=>leap mask x.1 x.2) (K+1) p=Nat.repeat (λx:Nat×Nat=>leap mask x.1 x.2) K (leap mask p.1 p.2):=by
     intro K;induction K with
     |zero=>intro p;rfl
     |succ K O=>intro p;show leap mask (Nat.repeat (λx:Nat×Nat=>leap mask x.1 x.2) (K+1) p).1 (Nat.repeat (λx:Nat×Nat=>leap mask x.1 x.2) (K+1) p).2=leap mask (Nat.repeat (λx:Nat×Nat=>leap mask x.1 x.2) K (leap mask p.1 p.2)).1 (Nat.repeat (λx:Nat×Nat=>leap mask x.1 x.2) K (leap mask p.1 p.2)).2;rw[O p]
    let#[j,n,a1,a2,a3,a4]:=O (leap mask p.1 p.2) K ∅ #[q,h1,by rw[h2,M]];let pl:=Bp (t:=bare mask) (p:=p);let J:aD (bare mask) (aU mask p) (runEnd mask p.1-p.1+1)=aU mask (leap mask p.1 p.2):=pl;show#[j,runEnd mask p.1-p.1+1+n,a1,by rw[Ae,J];show a2,a3,λm G=>?_];by_cases Y:m<=runEnd mask p.1-p.1
    .show F m Y
    .obtain⟨k,rfl⟩:∃k,m=runEnd mask p.1-p.1+1+k:=#[m-(runEnd mask p.1-p.1+1),∅]
     rw[Ae,J];show a4 k ∅
def Br(mask b:Nat):∀k,aX mask b k=Nat.repeat (λx:Nat×Nat=>leap mask x.1 x.2) k (b %(mask+1),b)
 |0=>rfl
 |k+1=>by show leap mask (aX mask b k).1 (aX mask b k).2=_;rw[Br mask b k];rfl
structure mT(mask:Nat)(o:Array (Option Nat))(hs:List Int)(ps:List Nat):Prop where
 size:o.size=mask+1
 len:ps.length=hs.length
 nd:ps.Nodup
 le:∀j∈ps,j<=mask
 own:∀(j i:Nat),o.getD j none=⇑i↔ps[i]?=⇑j
 reach:∀(i:Nat)(h:Int)(j:Nat),hs[i]?=⇑h->ps[i]?=⇑j->∃n,(aD (bare mask) ((bare mask).probeStart h) n).j=j/\∀m,m<n->(aD (bare mask) ((bare mask).probeStart h) m).j∈ps
def Bd{mask:Nat}(O:mT mask o hs ps)(M:j<=mask):cT o j=true↔j∉ps:=by
 let B:j<o.size:=by rw[O.size];lia
 unfold cT;let L:o.getD j (some 0)=o[j]:=by simp[B]
 let F:o.getD j none=o[j]:=by simp[B]
 rw[L];constructor
 .intro h J;let#[i,hi,e]:=getElem_of_mem J;let:=(O.own j i).mpr (by rw[qh hi,e]);rw[F]at this;rw[this]at h;cases h
 .intro G;cases q:o[j]with
  |none=>rfl
  |some i=>have:=(O.own j i).mp (by rw[F,q]);show absurd (qL this) G
def Bu(J:bH t.mask):∀n,(aD t (t.probeStart h) n).j<=t.mask:=by
 have B:∀n(p:Probe),(p.j+p.more<=t.mask)->(aD t p n).j+(aD t p n).more<=t.mask:=by
  intro n;induction n with
  |zero=>intro p F;show F
  |succ n G=>
   intro p F;show G (t.advance p) ?_;unfold advance;split
   .show p.j+1+(p.more-1)<=t.mask;lia
   .let hi:(p.i*5+1+p.perturb/32) %(t.mask+1)<=t.mask:=by let:=mod_lt (p.i*5+1+p.perturb/32) (show 0<t.mask+1 by lia);lia
    show(p.i*5+1+p.perturb/32) %(t.mask+1)+(runEnd t.mask ((p.i*5+1+p.perturb/32) %(t.mask+1))-(p.i*5+1+p.perturb/32) %(t.mask+1))<=t.mask;unfold runEnd;split<;>lia
 intro n;let:=B n (t.probeStart h) (by
  let hi:bits h %(t.mask+1)<=t.mask:=by let:=mod_lt (bits h) (show 0<t.mask+1 by lia);lia
  show bits h %(t.mask+1)+(runEnd t.mask (bits h %(t.mask+1))-bits h %(t.mask+1))<=t.mask;unfold runEnd;split<;>lia)
 lia
def mT.step{mask:Nat}(F:bH mask)(O:mT mask o hs ps)(hf:hs.length<mask+1):
  ∃j,layClean.free mask o (turns mask) (bits h %(mask+1)) (bits h)=⇑j/\mT mask (o.setIfInBounds j ⇑hs.length) (hs++[h]) (ps++[j]):=by
 let#[e,he,h3]:=De (mask+1) ps O.nd (λx B=>by let:=O.le x B;lia) (by rw[O.len];show hf);let h1:(aX mask (bits h) 13).1<=mask:=by let:(aX mask (bits h) 13).1<mask+1:=mod_lt _ ∅;lia
 let#[k,hk,ek]:=Ge F h1 (show e<=mask by lia);let#[j,n,a1,a2,a3,a4]:=CA (o:=o) (turns mask) (bits h %(mask+1),bits h) (13+k) (by unfold turns;lia) #[aX mask (bits h) (13+k),by rw[Ba,ek];show(Bd O ∅).mpr h3,Br _ _ _];let Y:aU mask (bits h %(mask+1),bits h)=(bare mask).probeStart h:=rfl;rw[Y]at a2 a4;let M:j<=mask:=by rw[<-a2];show Bu (t:=bare mask) F n
 let L:j∉ps:=(Bd O M).mp a3;let h4:j<o.size:=by rw[O.size];lia
 show#[j,a1,?_,?_,?_,?_,?_,?_]
 .rw[Array.size_setIfInBounds,O.size]
 .rw[qq,qq,O.len];rfl
 .show qw.mpr #[O.nd,by simp,λa ha b hb e=>?_];rw[qu.mp hb]at e;show L (e▸ha)
 .intro x B;rcases qx.mp B with z|z
  .show O.le x z
  .rw[qu.mp z];show M
 .intro x i;let J:(o.setIfInBounds j ⇑hs.length).getD x none=if x=j then ⇑hs.length else o.getD x none:=by
   simp[Array.getD_eq_getD_getElem?,Array.getElem?_setIfInBounds];by_cases B:j=x
   .subst B;simp[h4]
   .rw[q8 B,q8 (Ne.symm B)]
  rw[J];by_cases B:x=j
  .subst B;rw[qZ rfl];constructor
   .intro z;let:=qf z;subst this;rw[<-O.len,getElem?_append_right (q9 _),sub_self];rfl
   .intro z;by_cases hi:i<ps.length
    .rw[getElem?_append_left hi]at z;show absurd (qL z) L
    .let G:=(qg.mp z).1;rw[qq,qB]at G;rw[show i=hs.length by rw[<-O.len];lia]
  .rw[q8 B,O.own x i];by_cases hi:i<ps.length
   .rw[getElem?_append_left hi]
   .rw[qP ∅];constructor
    .intro z;cases z
    .intro z;rw[getElem?_append_right ∅]at z;let:i-ps.length=0:=by let:=(qg.mp z).1;simp at this;lia
     rw[this]at z;show absurd (qf z).symm B
 .intro i g x J B;by_cases hi:i<ps.length
  .rw[getElem?_append_left hi]at B;rw[getElem?_append_left (by rw[<-O.len];show hi)]at J;let#[n',b1,b2]:=O.reach i g x J B;show#[n',b1,λm hm=>qj _ (b2 m hm)]
  .let G:=(qg.mp B).1;rw[qq,qB]at G;let h5:i=ps.length:=by lia
   subst h5;rw[getElem?_append_right (q9 _),sub_self]at B;rw[getElem?_append_right (by rw[O.len];show q9 _),O.len,sub_self]at J;let e1:j=x:=qf B;let e2:h=g:=qf J;subst e1 e2;show#[n,a2,λm hm=>qj _ ?_];let:=a4 m hm;cases q:↥((aD (bare mask) ((bare mask).probeStart h) m).j∈ps)with
   |true=>show qT q
   |false=>have h2:=(Bd O (Bu (t:=bare mask) F m)).mpr (of_decide_eq_false q);rw[h2]at this;cases this
def BI{mask:Nat}(hmk:bH mask):∀(hs2 hs1:List Int)(o:Array (Option Nat))(ps:List Nat),mT mask o hs1 ps->(hs1++hs2).length<=mask->
  ∃o' ps',List.foldl (λ(zY:Option (Array (Option Nat)×Nat))(h:Int)=>do
   let(owner,k)<-zY
   let j<-layClean.free mask owner (turns mask) (bits h %(mask+1)) (bits h)
   pure (owner.setIfInBounds j ⇑k,k+1)) ⇑(o,hs1.length) hs2=⇑(o',(hs1++hs2).length)/\mT mask o' (hs1++hs2) ps'
 |[],hs1,o,ps,O,_=>#[o,ps,by simp,↑O]
 |h::hs2,hs1,o,ps,O,hl=>by
  obtain⟨j,e,O'⟩:=O.step (h:=h) hmk (by rw[qq,qt]at hl;lia);let#[o',ps',e',O'']:=BI hmk hs2 (hs1++[h]) _ _ O' ↑hl;show#[o',ps',?_,↑O''];rw[foldl_cons];let:(do
   let(owner,k)<-(⇑(o,hs1.length):Option (Array (Option Nat)×Nat))
   let j<-layClean.free mask owner (turns mask) (bits h %(mask+1)) (bits h)
   pure (owner.setIfInBounds j ⇑k,k+1))=⇑(o.setIfInBounds j ⇑hs1.length,(hs1++[h]).length):=by
   show(do
    let j<-layClean.free mask o (turns mask) (bits h %(mask+1)) (bits h)
    pure (o.setIfInBounds j ⇑hs1.length,hs1.length+1))=_
   rw[e,qq];rfl
  rw[this];simpa using e'
def Dj{mask:Nat}(B:bH mask)(G:hs.size<=mask):∃o ps,layClean mask hs=⇑o/\mT mask o hs.toList ps:=by
 let L:mT mask (Array.replicate (mask+1) none) [] []:=#[by simp,rfl,by simp,by simp,λj i=>by by_cases h:j<mask+1<;>simp[h],λi h j J=>by simp at J]
 let#[o,ps,e,O]:=BI B hs.toList [] _ _ L G;show#[o,ps,?_,O];unfold layClean;rw[<-Array.foldl_toList];let F:=e;simp only[qv]at F;rw[F];rfl
def Do{α β:Type}{f:α->Option β}:∀(l:List α),(∀x∈l,(f x).isSome=true)->∀k:Nat,(l.filterMap f)[k]?=l[k]?.bind f
 |[],_,k=>by simp
 |x::l,h,k=>by
  let#[y,B]:=isSome_iff_exists.mp (h x (by simp));rw[filterMap_cons,B];cases k with
  |zero=>simp[B]
  |succ k=>show Do l (λz F=>h z (by simp[F])) k
def Dk{α:Type}{mask finger moves:Nat}{led plain:Bool}{es:Array (Int×α)}(e1:bH mask)(hl:es.size<=mask):
  ∃t F,laid mask finger moves led plain (es.map (·.1))=⇑(t,F)/\(F.filterMap (es[·]?)).toList.Perm es.toList/\gG t ((F.filterMap (es[·]?)).toList.map (·.1))/\t.mask=mask/\t.led=led/\t.plain=plain:=by
 let#[o,ps,e,O]:=Dj e1 (hs:=es.map (·.1)) ↑hl;let hc:ps.length=es.size:=by rw[O.len];simp
 generalize h7:((List.range (mask+1)).filterMap λj=>(o.getD j none).map (j,·))=B;let J:∀x:Nat×Nat,x∈B↔ps[x.2]?=⇑x.1:=λx=>by
  rw[<-h7,mem_filterMap];constructor
  .rintro⟨j,hj,hx⟩;let#[i,hi,rfl]:=qX.mp hx;show(O.own j i).mp hi
  .intro h;show#[x.1,qI.mpr (by let:=O.le x.1 (qL h);lia),?_];rw[(O.own x.1 x.2).mpr h];rfl
 let Y:(B.map (·.1)).Pairwise (·<·):=by rw[<-h7,pairwise_map,List.pairwise_filterMap];show List.pairwise_lt_range.imp λ{a b} e4 x hx y hy=>?_;let#[_,_,rfl]:=qX.mp hx;let#[_,_,rfl]:=qX.mp hy;show e4
 have h5:∀j,j∈B.map (·.1)↔j∈ps:=λj=>by
  rw[qJ];constructor
  .rintro⟨x,hx,rfl⟩;show qL ((J x).mp hx)
  .intro hj;let#[i,hi,ei]:=getElem_of_mem hj;show#[(j,i),(J (j,i)).mpr (by rw[qh hi,ei]),rfl]
 let h9:(B.map (·.2)).Nodup:=by rw[List.Nodup,pairwise_map];let h2:B.Pairwise λa b=>a.1<b.1:=pairwise_map.mp Y;show List.Pairwise.imp_of_mem (λ{a b} ha hb e4 e=>?_) h2;let h3:=(J a).mp ha;let h4:=(J b).mp hb;rw[e,h4]at h3;lia
 have h1:∀i,i∈B.map (·.2)↔i<es.size:=λi=>by
  rw[qJ];constructor
  .rintro⟨x,hx,rfl⟩;let:=(qg.mp ((J x).mp hx)).1;lia
  simp_all
 let G:(B.map (·.2)).Perm (List.range es.size):=(List.perm_ext_iff_of_nodup h9 List.nodup_range).mpr λi=>by rw[h1,qI]
 let hp:B.length=es.size:=by let:=G.length_eq;rw[qo,qC]at this;show this
 show#[{mask,place:=(B.map (·.1)).toArray,dummies:=#[],finger,led,moves,plain},(B.map (·.2)).toArray,?_,?_,?_,rfl,rfl,rfl]
 .unfold laid;rw[e];show ⇑_=⇑_;rw[<-h7]
 .rw[Array.toList_filterMap];let:=G.filterMap (es[·]?);rw[filterMap_getElem?_range]at this;show this
 .have h6:∀i∈B.map (·.2),(es[i]?).isSome=true:=λi hi=>by rw[getElem?_eq_getElem ((h1 i).mp hi)];rfl
  have e3:∀k:Nat,(((B.map (·.2)).toArray.filterMap (es[·]?)).toList.map (·.1))[k]?=(B[k]?).bind λ(x:Nat×Nat)=>(es.map (·.1)).toList[x.2]?:=λk=>by
   rw[Array.toList_filterMap,qE,Do _ h6,qE];cases B[k]? with
   |none=>rfl
   |some x=>simp
  let L:Rising (B.map (·.1)).toArray:=by rw[ris_list];show Y
  let M:(((B.map (·.2)).toArray.filterMap (es[·]?)).toList.map (·.1)).length=es.size:=by rw[qo];let:=(G.filterMap (es[·]?)).length_eq;rw[filterMap_getElem?_range]at this;rw[Array.toList_filterMap];show this
  let h8:∀n p,aD {mask,place:=(B.map (·.1)).toArray,dummies:=#[],finger,led,moves,plain} p n=aD (bare mask) p n:=Ap rfl;let hk:∀b,SetTable.probeStart {mask,place:=(B.map (·.1)).toArray,dummies:=#[],finger,led,moves,plain} b=(bare mask).probeStart b:=An rfl;show#[L,rfl,e1,?_,λi hi=>?_,?_,λi hi h hh=>?_]
  .rw[M,qr,qo,hp]
  .let:(B.map (·.1)).toArray[i]∈B.map (·.1):=getElem_mem_toList hi;show O.le _ ((h5 _).mp this)
  .rw[M];show hl
  .let e2:i<B.length:=by simpa using hi
   rw[e3,qh e2]at hh;let#[n,a,b]:=O.reach B[i].2 h B[i].1 hh ((J B[i]).mp (getElem_mem e2));show#[n,?_,λm hm=>?_]
   .rw[h8,hk,a];simp
   .rw[AY L rfl,h8];show(h5 _).mpr (b m hm)
def gG.fits(T:gG t hs)(hn:hs.length=n):t.fits n=true:=by unfold SetTable.fits;rw[T.size,hn,and_eq_true,beq_iff_eq];show#[rfl,?_];unfold fill;rw[T.size,T.dum];let:=T.few;simp;lia
def gG.odd(T:gG t hs):t.gaveWay=false:=by unfold SetTable.gaveWay;rcases T.mask with h|h|h|h|h|h|h<;>rw[h]<;>rfl
def BR(n:Nat):(aD t (t.probeStart h) n).dummy=none:=by
 have F:∀n(p:Probe),p.dummy=none->(aD t p n).dummy=none:=by
  intro n;induction n with
  |zero=>intro p B;show B
  |succ n G=>intro p B;show G _ ?_;unfold advance;split<;>show B
 show F n _ rfl
section
variable{prog:Program}{w:World}{K:Type}[DecidableEq K](knd:HeapKind prog w K)
def dX(xs:List (K×Addr)):List (Int×Value):=xs.map λp=>(knd.hash p.1,Value.ref p.2)
variable{knd}
def ED(F:∀{k:K}{b:Addr}{Q:Bool->Shared->Prop},knd.is s.heap k b->Q false s->wpAny (model prog w) A (ofAClassStatement 8 (.ref b)) Q E s){stored:List Value}(M:knd.is s.heap k b)
  (J:∀v∈stored,∃B c,v=.ref c/\knd.is s.heap B c)(h:Q false s):wpAny (model prog w) A (searchCouldBeSeen (.ref b) stored) Q E s:=by
 show qa ?_;show wpAny_forIn_list _ (λrest r s'=>s'=s/\r=(none,())/\∀v∈rest,∃B c,v=.ref c/\knd.is s.heap B c) _ ?_ ?_ _ _ #[rfl,rfl,J]
 .rintro x rest r s' ⟨rfl,rfl,L⟩;let#[B,c,rfl,O]:=L x qm;let G:∀v∈rest,∃B c,v=.ref c/\knd.is s'.heap B c:=λv Y=>L v (qk _ Y);dsimp only;split
  .show qb #[rfl,rfl,G]
  .show qa (knd.quiet M ?_);show qa (knd.quiet O ?_);show qa (F M ?_);show qa (F O ?_);show qb #[rfl,rfl,G]
 .rintro r s' ⟨rfl,rfl,_⟩;show qb h
theorem BC(hcl:∀{k:K}{b:Addr}{Q:Bool->Shared->Prop},knd.is s.heap k b->Q false s->wpAny (model prog w) A (ofAClassStatement 8 (.ref b)) Q E s)
  (hu:knd.room A)(hk:knd.is s.heap k b)(ho:s.heap.get? a=⇑o)(hd:o.data=.set es ep t)(he:es.toList=dX knd xs)(his:∀x∈xs,knd.is s.heap x.1 x.2)(T:gG t (es.toList.map (·.1)))
  (hf:n<10*turns t.mask)(hemp:t.slot (aD t (t.probeStart (knd.hash k)) n).j=.empty)(hne:∀m,m<n->t.slot (aD t (t.probeStart (knd.hash k)) m).j≠.empty)
  (h1:k∈xs.map (·.1)->Q (.there none) s)(h2:k∉xs.map (·.1)->Q (.free (aD t (t.probeStart (knd.hash k)) n).j false) s):
  ∀(r n0:Nat)(stand:Option Probe),n0<=n->n-n0<r->stand.getD (t.probeStart (knd.hash k))=aD t (t.probeStart (knd.hash k)) n0->
   (∀m,m<n0->∀i,t.slot (aD t (t.probeStart (knd.hash k)) m).j=.live i->(xs[i]?).map (·.1)≠⇑k)->wpAny (model prog w) A (setSearchFrom a (.ref b) (knd.hash k) true r stand) Q E s:=by
 let hsz:t.fits es.size=true:=T.fits (by simp);let zW:es.size=xs.length:=by rw[<-qU,he];simp[dX]
 let hent:∀i:Nat,es[i]?=(xs[i]?).map λp=>(knd.hash p.1,Value.ref p.2):=λi=>by rw[<-qY,he];simp[dX]
 intro r;induction r with
 |zero=>intro n0 stand _ h;lia
 |succ r ih=>
  intro n0 stand hn0 hr hst hsofar;show qa (wpAny_setState_of ho hd hsz ?_);dsimp only;rw[T.odd];simp only[false_eq_true,if_false];let hgo:=Dd (t:=t) (hashAt:=λi=>(es[i]?.map (·.1)).getD 0) (h:=knd.hash k) T.ris T.dum (10*turns t.mask) (n-n0) (aD t (t.probeStart (knd.hash k)) n0) (BR n0)
   (by rw[<-Ae,show n0+(n-n0)=n by lia];show hemp) (λm hm=>by rw[<-Ae];show hne _ ∅) ∅
  rw[hst];rcases hgo with⟨g1,g2⟩|⟨m,i,g1,g2,g3,g4,g5⟩
  .have e:t.probe (λi=>(es[i]?.map (·.1)).getD 0) (knd.hash k) (aD t (t.probeStart (knd.hash k)) n0)=⇑(.empty (aD t (t.probeStart (knd.hash k)) n).j none):=by unfold probe;rw[g1,<-Ae,show n0+(n-n0)=n by lia]
   have none_hit:k∉xs.map (·.1):=λhmem=>by
    let#[x,hx,hxk]:=qJ.mp hmem;let#[i,hi,ei]:=getElem_of_mem hx;let hip:i<t.place.size:=by rw[T.size];simp;lia
    let hh:(es.toList.map (·.1))[i]?=⇑(knd.hash k):=by rw[qE,qY,hent,qh hi,ei,<-hxk];rfl
    let#[q,q1,q2]:=T.reach i hip _ hh;let hql:t.slot (aD t (t.probeStart (knd.hash k)) q).j=.live i:=by rw[q1];show Bl T.ris hip rfl
    have hqn:q<n:=by
     rcases Nat.lt_trichotomy q n with z|z|z
     .show z
     .subst z;rw[hql]at hemp;cases hemp
     .show absurd hemp (q2 n z)
    by_cases hq0:q<n0
    .show hsofar q hq0 i hql (by rw[qh hi,ei,<-hxk];rfl)
    .let:=g2 (q-n0) ∅ i (by rw[<-Ae,show n0+(q-n0)=q by lia];show hql);apply this;rw[hent,qh hi,ei,<-hxk];rfl
   split
   .rename_i met heq;let h3:t.probe (λi=>(es[i]?.map (·.1)).getD 0) (knd.hash k) (aD t (t.probeStart (knd.hash k)) n0)=⇑met:=heq;rw[e]at h3;cases h3;show qb (h2 none_hit)
   .rename_i heq;show absurd e (heq _)
  .have e:t.probe (λi=>(es[i]?.map (·.1)).getD 0) (knd.hash k) (aD t (t.probeStart (knd.hash k)) n0)=⇑(.candidate (aD t (t.probeStart (knd.hash k)) (n0+m)).j i (aD t (t.probeStart (knd.hash k)) (n0+m+1))):=by unfold probe;rw[g4,<-Ae,<-Ae];rfl
   rw[<-Ae]at g2;let hip:∃hi:i<t.place.size,t.place[i]=(aD t (t.probeStart (knd.hash k)) (n0+m)).j:=by
    rcases Ao T.ris T.dum (aD t (t.probeStart (knd.hash k)) (n0+m)).j with⟨h,_⟩|⟨i',hi',ei',hl'⟩
    .rw[h]at g2;cases g2
    .rw[hl']at g2;cases g2;show#[hi',ei']
   let#[hip,_]:=hip;let hix:i<xs.length:=by rw[T.size]at hip;simp at hip;lia
   let hei:es[i]?=⇑(knd.hash xs[i].1,Value.ref xs[i].2):=by rw[hent,qh hix];rfl
   have hxi:=his xs[i] (getElem_mem hix);let body:wpAny (model prog w) A (match es[i]? with
     |some (_,y)=>do
      let equal<-holding [y] (eqBool y (Value.ref b))
      let __x<-setState a
      if(true&&equal)=true then pure (SetFound.there none)
       else
        match __x.2.snd.sameMemory t.moves t.mask with
        |some same=>
         match if same=true then __x.2.snd.slot (aD t (t.probeStart (knd.hash k)) (n0+m)).j else Slot.empty with
         |Slot.live i'=>
          match __x.fst[i']? with
          |some (_,y')=>do
           let __do_lift<-isSame y' y
           let still<-pure (if __do_lift=true then ⇑i' else none)
           match still with
            |none=>do
             rule "set.search.anew"
             setSearchFrom a (Value.ref b) (knd.hash k) true r none
            |some i'=>
             if equal=true then pure (SetFound.there ⇑i')
             else setSearchFrom a (Value.ref b) (knd.hash k) true r ⇑(aD t (t.probeStart (knd.hash k)) (n0+m+1))
          |none=>do
           let still<-pure none
           match still with
            |none=>do
             rule "set.search.anew"
             setSearchFrom a (Value.ref b) (knd.hash k) true r none
            |some i'=>
             if equal=true then pure (SetFound.there ⇑i')
             else setSearchFrom a (Value.ref b) (knd.hash k) true r ⇑(aD t (t.probeStart (knd.hash k)) (n0+m+1))
         |x=>do
          let still<-pure none
          match still with
           |none=>do
            rule "set.search.anew"
            setSearchFrom a (Value.ref b) (knd.hash k) true r none
           |some i'=>
            if equal=true then pure (SetFound.there ⇑i')
            else setSearchFrom a (Value.ref b) (knd.hash k) true r ⇑(aD t (t.probeStart (knd.hash k)) (n0+m+1))
        |x=>unsupported "set.changed-during-lookup:is-the-new-block-at-the-old-address"
     |x=>unsupported "internal:set-entry") Q E s:=by
    rw[hei];show qa (zp (knd.eqBool hu hxi hk ?_));show qa (wpAny_setState_of ho hd hsz ?_);by_cases hkk:xs[i].1=k
    .rw[qQ hkk];show qb (h1 (qJ.mpr #[xs[i],getElem_mem hix,hkk]))
    .rw[qR hkk];let hsm:t.sameMemory t.moves t.mask=⇑true:=by unfold sameMemory;simp
     rw[hsm];dsimp only;rw[qZ rfl,g2];dsimp only;rw[hei];show qa (wpAny_isSame_ref_self ?_);rw[qZ rfl];show qa (qb ?_);show ih (n0+m+1) _ ∅ ∅ rfl λq hq i' hl'=>?_;rcases lt_or_ge q n0 with z|z
     .show hsofar q z i' hl'
     .rcases lt_or_ge q (n0+m)with z2|z2
      .intro hc;show g5 (q-n0) ∅ i' (by rw[<-Ae,show n0+(q-n0)=q by lia];show hl') ?_;rw[hent];cases hx:xs[i']? with
       |none=>rw[hx]at hc;cases hc
       |some x=>rw[hx]at hc;let:x.1=k:=qf hc;rw[<-this];rfl
      .let:q=n0+m:=by lia
       subst this;rw[g2]at hl';cases hl';rw[qh hix];show λz=>hkk (qf z)
   split
   .rename_i met heq;let h3:t.probe (λi=>(es[i]?.map (·.1)).getD 0) (knd.hash k) (aD t (t.probeStart (knd.hash k)) n0)=⇑met:=heq;rw[e]at h3;cases h3;dsimp only;split
    .refine qa (ED hcl hk (λv hv=>?_) ?_)
     .obtain⟨p,hp,rfl⟩:=qJ.mp hv;let hp2:p∈es.toList:=by let:=mem_toList_iff.mp hp;exact mem_toList_iff.mpr (Array.mem_filter.mp this).1
      rw[he]at hp2;let#[x,hx,rfl]:=qJ.mp hp2;show#[x.1,x.2,rfl,his x hx]
     .simp;show body
    .show body
   .rename_i heq;show absurd e (heq _)
def eD(t:SetTable)(n:Nat):Prop:=n*5<t.mask*3
@[inline]def TSet(ld:Bool)(knd:HeapKind prog w K)(h:Heap)(a:Addr)(xs:List (K×Addr)):Prop:=∃o es ep t,h.get? a=some o/\o.ExactSet/\o.data=.set es ep t/\t.led=ld/\gG t (es.toList.map (·.1))/\eD t es.size/\es.toList=dX knd xs/\(∀x∈xs,knd.is h x.1 x.2)/\(xs.map (·.1)).Nodup
def Cu(T:gG t hs):gG {t with plain:=p} hs:=by let J:∀n q,aD {t with plain:=p} q n=aD t q n:=Ap rfl;let G:∀b,SetTable.probeStart {t with plain:=p} b=t.probeStart b:=An rfl;let F:∀j,SetTable.slot {t with plain:=p} j=t.slot j:=λj=>rfl;show#[T.ris,T.dum,T.mask,T.size,T.le,T.few,λi hi h B=>?_];let#[n,a,b]:=T.reach i hi h B;grind
def BB(h:n<=1000):n<=sizeLine:=by rw[zm];lia
def Az{h:Heap}(F:h.get? a=⇑o)(B:o.data=.set es ep t):(h.update a (Obj.putSet es' t')).get? a=some {o with data:=.set es' (ep+1) t'}:=by let:=zi (Obj.putSet es' t') F (by rw[putSet_of es' t' B];rfl);rw[putSet_of es' t' B]at this;show this
def Da(Y:s.heap.get? a=⇑o)(hd:o.data=.set es ep t)(T:gG t (es.toList.map (·.1)))(hn:es.size=n)(L:bH (sizeAbove F-1))(hr:n*5<(sizeAbove F-1)*3)
  (h:∀es' t',es'.toList.Perm es.toList->gG t' (es'.toList.map (·.1))->t'.mask=sizeAbove F-1->t'.led=t.led->Q () {s with heap:=s.heap.update a (Obj.putSet es' t')}):wpAny (model prog w) A (setRelay a F) Q E s:=by
 let hm:sizeAbove F-1<=511:=by rcases L with z|z|z|z|z|z|z<;>lia
 let M:es.size<=sizeAbove F-1:=∅
 let#[t',B,e1,e2,e3,e4,e5,e6]:=Dk (finger:=t.finger) (moves:=t.movedTo (sizeAbove F-1)) (led:=t.led) (plain:=t.plain) L M;let J:(B.filterMap (es[·]?)).size=es.size:=by rw[<-qU,e2.length_eq,qU]
 show qa (wpAny_setState_of Y hd (T.fits (by simp)) ?_);dsimp only;let G:¬(sizeAbove F>sizeLine):=by rw[zm];lia
 rw[q8 G];let O:t.relaid (es.map (·.1)) F=⇑(t',B):=e1;rw[O];show qa ?_;show wpAny (model prog w) A (if((B.filterMap (es[·]?)).size !=es.size)=true then _ else _) _ E s;rw[J];simp;show qb ?_;show wpAny_storeSet_of Y hd (h _ t' e2 e3 e4 e5) (BB (by rw[J];lia))
def DH(h:bH m):7<=m/\m<=511:=by rcases h with z|z|z|z|z|z|z<;>lia
def CB(h:l.Perm (dX knd xs)):∃ys,ys.Perm xs/\l=dX knd ys:=by
 unfold dX at h;induction l generalizing xs with
 |nil=>
  let:=h.length_eq;let B:xs=[]:=↑this.symm
  subst B;show#[[],.refl _,rfl]
 |cons e l J=>
  let L:e∈xs.map λp=>(knd.hash p.1,Value.ref p.2):=h.mem_iff.mp (by simp);let#[x,B,rfl]:=qJ.mp L;let#[G,F,rfl]:=append_of_mem B;let h2:l.Perm ((G++F).map λp=>(knd.hash p.1,Value.ref p.2)):=by grind
  let#[ys,p,rfl]:=J h2;show#[x::ys,(List.Perm.cons x p).trans perm_middle.symm,rfl]
theorem EH(hcl:∀{k:K}{b:Addr}{Q:Bool->Shared->Prop},knd.is s.heap k b->Q false s->wpAny (model prog w) A (ofAClassStatement 8 (.ref b)) Q E s)(hbv:∀{k:K}{b:Addr}{Q:Bool->Shared->Prop},knd.is s.heap k b->(∀r,Q r s)->wpAny (model prog w) A (hashByValue 8 (.ref b)) Q E s)
  (hkp:∀{h h':Heap}{k:K}{c:Addr}{o:Obj}{es:Array (Int×Value)}{ep:Nat}{t:SetTable},knd.is h k c->h.get? a=⇑o->o.data=.set es ep t->Heap.SameBut a h h'->knd.is h' k c)
  (hu:knd.room A)(hk:knd.is s.heap k b)(hS:TSet ld knd s.heap a xs)(hroom:xs.length<=150)
  (h1:k∈xs.map (·.1)->Q false s)(h2:k∉xs.map (·.1)->∀h' ys,Heap.SameBut a s.heap h'->ys.Perm ((k,b)::xs)->TSet ld knd h' a ys->Q true {s with heap:=h'}):
  wpAny (model prog w) A (setAddHashed a (.ref b) (knd.hash k)) Q E s:=by
 let#[o,es,ep,t,ho,hex,hd,hld,T,hrm,he,his,hnd]:=hS;let hsz:t.fits es.size=true:=T.fits (by simp);let zW:es.size=xs.length:=by rw[<-qU,he];simp[dX]
 let#[n,hf,hemp,hne]:=T.free (knd.hash k);let hmk:t.mask<=511:=by rcases T.mask with z|z|z|z|z|z|z<;>lia
 show zp (qa (wpAny_setState_of ho hd hsz ?_));dsimp only;let hbs:byScan (.ref b) es=false:=by simp[byScan,Value.scannable]
 rw[hbs];show qa ?_;show BC hcl hu hk ho hd he his T hf hemp hne (λhm=>?_) (λhm=>?_) 100000 0 none (zero_le _) (by unfold turns at hf;lia) rfl (λm hm=>by lia)
 .show qb (h1 hm)
 .dsimp only;show qa (wpAny_setState_of ho hd hsz ?_);let hjm:=Bu (t:=t) (h:=knd.hash k) T.mask n;let hfew:(es.toList.map (·.1)).length+1<=t.mask:=by grind[length_map,length_toList,DH,eD]
  let TP:=T.put hemp hne hjm hfew;generalize hj:(aD t (t.probeStart (knd.hash k)) n).j=j at*;let#[e1,e2,e3,e4]:=AK (t:=t) (j:=j) T.dum;let epl:(t.put j).1.led=t.led:=by unfold SetTable.put;first|rfl|(split<;>rfl)
  generalize hp:t.put j=tp at*;let#[t1,p]:=tp
  --the things behind it
  let hel:(insertAt es p (knd.hash k,Value.ref b)).toList=es.toList.take p++(knd.hash k,Value.ref b)::es.toList.drop p:=toList_insertAt ..;let TP':gG t1 ((insertAt es p (knd.hash k,Value.ref b)).toList.map (·.1)):=by simp_all
  let hys:(insertAt es p (knd.hash k,Value.ref b)).toList=dX knd (xs.take p++(k,b)::xs.drop p):=by rw[hel,he];unfold dX;simp_all
  let hyp:(xs.take p++(k,b)::xs.drop p).Perm ((k,b)::xs):=by grind[perm_middle.trans,take_append_drop]
  let hsz1:(insertAt es p (knd.hash k,Value.ref b)).size=es.size+1:=by rw[<-qU,hys];grind
  let all:∀{h':Heap}{ys:List (K×Addr)},Heap.SameBut a s.heap h'->ys.Perm ((k,b)::xs)->(∀x∈ys,knd.is h' x.1 x.2)/\(ys.map (·.1)).Nodup:=λ{h' ys} sb pm=>by grind
  have tail:∀t2:SetTable,gG t2 ((insertAt es p (knd.hash k,Value.ref b)).toList.map (·.1))->t2.mask=t.mask->t2.led=t.led->wpAny (model prog w) A (do
    storeSet a (insertAt es p (knd.hash k,Value.ref b)) t2
    if(!false&&t2.tooFull)=true then do
       setRelay a (grown (es.size+1))
       pure true
     else pure true) Q E s:=λt2 T2 em el=>by
   show qa (wpAny_storeSet_of ho hd ?_ (BB ∅));let ho1:=Az (es':=insertAt es p (knd.hash k,Value.ref b)) (t':=t2) ho hd;let hsb1:=Heap.SameBut.update s.heap a (Obj.putSet (insertAt es p (knd.hash k,Value.ref b)) t2);let hfill:t2.fill=es.size+1:=by unfold fill;rw[T2.size,T2.dum,qo,qU,hsz1];rfl
   by_cases hfull:t2.tooFull=true
   .rw[hfull];let hn5:bH (sizeAbove (grown (es.size+1))-1)/\(es.size+1)*5<(sizeAbove (grown (es.size+1))-1)*3:=by
     unfold tooFull at hfull;unfold eD at hrm;rcases T.mask with z|z|z|z|z|z|z
     .rw[show es.size+1=5 by lia];show#[.inr (.inr (.inl ⋯)),⋯]
     .rw[show es.size+1=9 by lia];show#[.inr (.inr (.inr (.inl ⋯))),⋯]
     .rw[show es.size+1=19 by lia];show#[.inr (.inr (.inr (.inr (.inl ⋯)))),⋯]
     .rw[show es.size+1=38 by lia];show#[.inr (.inr (.inr (.inr (.inr (.inl ⋯))))),⋯]
     .rw[show es.size+1=77 by lia];show#[.inr (.inr (.inr (.inr (.inr (.inr ⋯))))),⋯]
     .lia
     .lia
    show qa (Da (s:={s with heap:=s.heap.update a (Obj.putSet (insertAt es p (knd.hash k,Value.ref b)) t2)}) ho1 rfl T2 hsz1 hn5.1 hn5.2 λes' t' pm T' rm rl=>qb ?_);rw[hys]at pm;let#[ys,pm2,ey]:=CB pm;let sb2:=hsb1.trans (Heap.SameBut.update (s.heap.update a (Obj.putSet (insertAt es p (knd.hash k,Value.ref b)) t2)) a (Obj.putSet es' t'));let hz':es'.size=es.size+1:=by rw[<-qU,ey];let:=(pm2.trans hyp).length_eq;grind[dX,length_map,length_cons]
    let#[i1,i2]:=all sb2 (pm2.trans hyp);show h2 hm _ ys sb2 (pm2.trans hyp) #[_,es',_,t',Az ho1 rfl,hex,rfl,rl.trans (el.trans hld),T',by unfold eD;rw[hz',rm];show hn5.2,ey,i1,i2]
   .rw[Bool.not_eq_true]at hfull;rw[hfull];let#[i1,i2]:=all hsb1 hyp;show qb (h2 hm _ _ hsb1 hyp #[_,_,_,t2,ho1,hex,rfl,el.trans hld,T2,?_,hys,i1,i2]);unfold tooFull at hfull;grind[eD]
  split
  .show qa (hbv hk λr=>?_);cases r with
   |true=>show tail t1 TP' e2 epl
   |false=>show tail {t1 with plain:=false} (Cu TP') e2 epl
  grind
end
end ST
namespace ST
open PySem
section
variable{prog:Program}{w:World}{K:Type}[DecidableEq K]{knd:KeyKind prog w K}{A:Around}{E:zu}{s:Shared}{ks:List K}{b:Addr}
def CD(h:carriedByValue v=true):ofAClassStatement n v=pure false:=by
 cases v with
 |ref a=>simp[carriedByValue]at h
 |_=>first|rfl|simp|(unfold ofAClassStatement;rfl)
def Dn(h:carriedByValue v=true):∃r,hashByValue n v=pure r:=by
 cases v with
 |ref a=>simp[carriedByValue]at h
 |float bits t=>show#[(Float64.hash? bits).isSome,by rw[hashByValue]]
 |none|bool _|int _ _=>show#[true,by rw[hashByValue]]
 |_=>show#[false,by rw[hashByValue]]
def Ct(G:IsTupleKey knd s.heap ks b)(h:Q false s):wpAny (model prog w) A (ofAClassStatement 8 (.ref b)) Q E s:=by
 let O:=G.typeIs;let#[o,items,n,L,_,M,hi]:=G;unfold ofAClassStatement;show qa (wpAny_typeOf O ?_);dsimp only;show qa (qb ?_);show qa (wpAny_seqItems L M ?_);show qa ?_;rw[<-forIn_toList];show wpAny_forIn_list _ (λrest r s'=>r.1=none/\s'=s/\∀v∈rest,carriedByValue v=true) _ ?_ ?_ _ _ #[rfl,rfl,hi.byValue]
 .rintro v rest r s' ⟨F,rfl,B⟩;rw[CD (B v qm)];show qa (qb ?_);show qb #[rfl,rfl,λx J=>B x (qk _ J)]
 .rintro r s' ⟨F,rfl,_⟩;rw[F];show qb h
def CT(G:IsTupleKey knd s.heap ks b)(h:∀r,Q r s):wpAny (model prog w) A (hashByValue 8 (.ref b)) Q E s:=by
 let O:=G.typeIs;let#[o,items,n,L,_,M,hi]:=G;show qa (wpAny_specialOf O F.slot_tuple_hash.lookup ?_);dsimp only;show qa (wpAny_seqItems L M ?_);show qa ?_;rw[<-forIn_toList];show wpAny_forIn_list _ (λrest r s'=>s'=s/\∀v∈rest,carriedByValue v=true) _ ?_ ?_ _ _ #[rfl,hi.byValue]
 .rintro v rest r s' ⟨rfl,B⟩;let#[c,e]:=Dn (n:=7) (B v qm);rw[e];show qa (qb ?_);cases c
  .show qb (qb (h _))
  .show qb #[rfl,λx J=>B x (qk _ J)]
 .rintro r s' ⟨rfl,_⟩;cases r.1<;>show qb (h _)
def Cs(x:IsTupleKey knd h ks b)(L:h.get? a=⇑o)(M:o.data=.set es ep t)(hs:Heap.SameBut a h h'):IsTupleKey knd h' ks b:=by
 let#[o',items,n,B,J,G,hi]:=x;let F:b≠a:=by grind
 show#[o',items,n,(hs.2 b F).trans B,J,G,hi]
end
def Ca(hn:n≠0)(h:∀i,i<n->∀d,Q i {s with drawn:=d}):wpAny (model prog w) A (choose .order n) Q E s:=
 λ_ _ _=>#[hn,h _ (mod_lt _ (Nat.pos_of_ne_zero hn)) _]
def BK:∀(n:Nat){xs:List α}{s:Shared}{Q:List α->Shared->Prop},xs.length=n->(∀ys d,ys.Perm xs->Q ys {s with drawn:=d})->wpAny (model prog w) A (drawOrder n xs) Q E s
 |0,xs,s,Q,e,h=>by
  cases xs with
  |nil=>show qb (h [] s.drawn .nil)
  |cons _ _=>cases e
 |n+1,xs,s,Q,e,h=>by
  cases xs with
  |nil=>cases e
  |cons x xs=>show qa (Ca (by simp) λi hi d=>?_);rw[qh hi];show qa (BK n (by rw[List.length_eraseIdx,qZ hi,e];rfl) λys F B=>?_);show qb (h _ F ((B.cons _).trans ?_));rw[List.eraseIdx_eq_take_drop_succ];show perm_middle.symm.trans ?_;rw[List.getElem_cons_drop,take_append_drop]
def Av(h:Q (w.params.followText "set-order") s):wpAny (model prog w) A setsByText Q E s:=qa (wpAny_askSetting (qb h))
theorem slot_next:Slot "set_iterator" "__next__" "set_iterator.__next__":=
 .of (owner:="set_iterator") (n:="__next__") (by rw[typeLookup_type];kernel_rfl) (by decide+kernel) (by decide+kernel) (by decide+kernel)
  (by first|show .inl (by decide+kernel)|show .inr (by decide+kernel)) (by rw[isSubtype_type];kernel_rfl)
def Au:entryFor table "set_iterator.__next__"=⇑Builtin.«set_iterator.__next__»:=entryFor_of_tree (by kernel_rfl)
def AC(a:Value):argsOk "set_iterator.__next__" #[[a],[]]:=by unfold argsOk;kernel_rfl
def Bk:Slot "set_iterator" "__iter__" "set_iterator.__iter__":=
 .of (owner:="set_iterator") (n:="__iter__") (by rw[typeLookup_type];kernel_rfl) (by decide+kernel) (by decide+kernel) (by decide+kernel)
  (by first|show .inl (by decide+kernel)|show .inr (by decide+kernel)) (by rw[isSubtype_type];kernel_rfl)
def BY:entryFor table "set_iterator.__iter__"=⇑Builtin.«dict_keyiterator.__iter__»:=
 entryFor_alias (id':="dict_keyiterator.__iter__") (by kernel_rfl) rfl (by decide+kernel) (by kernel_rfl)
def CF(a:Value):argsOk "set_iterator.__iter__" #[[a],[]]:=by unfold argsOk;kernel_rfl
def kW(h:Heap)(I a:Addr)(f:Value)(i n ep:Nat):Prop:=∃o,h.get? I=⇑o/\o.cls=.type "set_iterator"/\o.data=.fields [f,.int i 0,.ref a,.int n 0,.int ep 0].toArray
@[inline]def SetAt(h:Heap)(a:Addr)(es:Array (Int×Value))(ep:Nat)(t:SetTable):Prop:=∃o,h.get? a=some o/\o.data=.set es ep t/\t.fits es.size=true
@[inline]def TupAt(h:Heap)(p:Addr)(ys:List Nat):Prop:=∃o c,h.get? p=some o/\o.data=.seq (ys.map λi:Nat=>rawInt (i:Int)).toArray c
def kW.typeIs{s:Shared}(x:kW s.heap I a f i n ep):s.TypeIs (.ref I) "set_iterator":=let⟨o,ho,hc,_⟩:=x;#[o,ho,hc]
def BU(hit:kW s.heap I a (.ref p) i es.size ep)(hs:SetAt s.heap a es ep t)(ht:TupAt s.heap p ys)(hj:ys[i]?=⇑j)(he:es[j]?=⇑e)
  (hQ:∀h',kW h' I a (.ref p) (i+1) es.size ep->Heap.SameBut I s.heap h'->Q ⇑e.2 {s with heap:=h'}):wpAny (model prog w) A (pyNext (.ref I)) Q E s:=by
 obtain⟨o,M,hc,L⟩:=id hit;let#[o',F,J,O]:=hs;let#[Y,c,B,G]:=ht;refine qa (wpAny_attempt (wpAny_callSpecial?_slot (name:=Str.ofString "__next__") hit.typeIs slot_next
  (zl slot_next hit.typeIs Au ?_ (AC _))))
 show wpAny _ _ (fieldsOf (.ref I)>>=_) _ _ s;show qa (wpAny_fieldsOf M L ?_);show qa (qa (wpAny_setState_of F J O (qb ?_)));rw[q8 (by simp)];show qa (wpAny_seqItems B G ?_);dsimp only;rw[qV,getElem?_toArray,qE,hj];dsimp only[map_some,rawInt];show qa (qa (wpAny_setState_of F J O ?_));dsimp only;rw[q8 (by simp),qV,he];show qb (qa (wpAny_setField M L (by simp) (qb #[_,rfl,qb (hQ _ ?_ (Heap.SameBut.update ..))])));show#[_,zi _ M (Obj.isFreed_of_fields (Obj.data_mapFields L _)),(Obj.cls_mapFields ..).trans hc,by rw[Obj.data_mapFields L];simp]
def CC(hh:A.handled=none)(hit:kW s.heap I a (.ref p) i es.size ep)(hs:SetAt s.heap a es ep t)(Y:TupAt s.heap p ys)(hj:ys[i]?=none)
  (hQ:∀h',Heap.ExtBut I s.heap h'->Q none {s with heap:=h'}):wpAny (model prog w) A (pyNext (.ref I)) Q E s:=by
 obtain⟨o,L,hc,G⟩:=id hit;let#[o',J,M,hf]:=hs;let#[O,c,B,F]:=Y;refine qa (wpAny_attempt (wpAny_callSpecial?_slot (name:=Str.ofString "__next__") hit.typeIs slot_next
  (zl slot_next hit.typeIs Au ?_ (AC _))))
 show wpAny _ _ (fieldsOf (.ref I)>>=_) _ _ s;show qa (wpAny_fieldsOf L G ?_);show qa (qa (wpAny_setState_of J M hf (qb ?_)));rw[q8 (by simp)];show qa (wpAny_seqItems B F ?_);dsimp only;rw[qV,getElem?_toArray,qE,hj];show qa (wpAny_setField L G (by simp) ?_);show qa (wpAny_setField (zi _ L (Obj.isFreed_of_fields (Obj.data_mapFields G _))) (Obj.data_mapFields G _) (by simp) ?_);show qa ?_;show qa (zk ?_ (by size_fits));show qa (m:=firstArgMember _ _) (zr (a:=Value.none) (by first|rfl|(simp;rfl)) ?_);show zk ?_ (by size_fits);show qa (wpAny_handled ?_);rw[show A.in1.handled=none from hh];show qa (qb (wpAny_throw ?_));show qa (wpAny_isInstance (T:="StopIteration") (b:=true) ⟨_,qd _ rfl,rfl⟩ isSubtype_stop ?_);show qb (hQ _ ((((Heap.SameBut.update ..).trans (Heap.SameBut.update ..)).extBut.push _).push _))
def BH{slot slot':Nat}(hit:kW s.heap I a (.int slot 0) i es.size ep)(hs:SetAt s.heap a es ep t)
  (hn:∀(A:Around)(E:zu)(R:Option (Value×Nat)->Shared->Prop),R ⇑(v,slot') s->wpAny (model prog w) A (setNext a slot i ep) R E s)
  (O:∀h',kW h' I a (.int slot' 0) (i+1) es.size ep->Heap.SameBut I s.heap h'->Q ⇑v {s with heap:=h'}):wpAny (model prog w) A (pyNext (.ref I)) Q E s:=by
 obtain⟨o,F,M,B⟩:=id hit;let#[o',G,J,L]:=hs;refine qa (wpAny_attempt (wpAny_callSpecial?_slot (name:=Str.ofString "__next__") hit.typeIs slot_next
  (zl slot_next hit.typeIs Au ?_ (AC _))))
 show wpAny _ _ (fieldsOf (.ref I)>>=_) _ _ s;show qa (wpAny_fieldsOf F B ?_);dsimp only;show qa (qa (wpAny_setState_of G J L (qb ?_)));rw[q8 (by simp)];show qa (hn _ _ _ ?_);show qa (wpAny_setField F B (by simp) ?_);show qa (wpAny_setField (zi _ F (Obj.isFreed_of_fields (Obj.data_mapFields B _))) (Obj.data_mapFields B _) (by simp) ?_);show qb #[_,rfl,qb (O _ ?_ ((Heap.SameBut.update ..).trans (Heap.SameBut.update ..)))];show#[_,zi _ (zi _ F (Obj.isFreed_of_fields (Obj.data_mapFields B _))) (Obj.isFreed_of_fields (Obj.data_mapFields (Obj.data_mapFields B _) _)),(Obj.cls_mapFields ..).trans ((Obj.cls_mapFields ..).trans M),by rw[Obj.data_mapFields (Obj.data_mapFields B _)];simp[rawInt]]
def Cp{slot:Nat}(L:A.handled=none)(hit:kW s.heap I a (.int slot 0) i es.size ep)(hs:SetAt s.heap a es ep t)
  (hn:∀(A:Around)(E:zu)(R:Option (Value×Nat)->Shared->Prop),R none s->wpAny (model prog w) A (setNext a slot i ep) R E s)
  (O:∀h',Heap.ExtBut I s.heap h'->Q none {s with heap:=h'}):wpAny (model prog w) A (pyNext (.ref I)) Q E s:=by
 obtain⟨o,G,Y,J⟩:=id hit;let#[o',B,F,M]:=hs;refine qa (wpAny_attempt (wpAny_callSpecial?_slot (name:=Str.ofString "__next__") hit.typeIs slot_next
  (zl slot_next hit.typeIs Au ?_ (AC _))))
 show wpAny _ _ (fieldsOf (.ref I)>>=_) _ _ s;show qa (wpAny_fieldsOf G J ?_);dsimp only;show qa (qa (wpAny_setState_of B F M (qb ?_)));rw[q8 (by simp)];show qa (hn _ _ _ ?_);show qa (wpAny_setField G J (by simp) ?_);show qa ?_;show qa (zk ?_ (by size_fits));show qa (m:=firstArgMember _ _) (zr (a:=Value.none) (by first|rfl|(simp;rfl)) ?_);show zk ?_ (by size_fits);show qa (wpAny_handled ?_);rw[show A.in1.handled=none from L];show qa (qb (wpAny_throw ?_));show qa (wpAny_isInstance (T:="StopIteration") (b:=true) ⟨_,qd _ rfl,rfl⟩ isSubtype_stop ?_);show qb (O _ (((Heap.SameBut.update ..).extBut.push _).push _))
def AV(hit:kW s.heap I a f i n ep)(h:Q (.ref I) s):wpAny (model prog w) A (pyIter (.ref I)) Q E s:=by show wpAny_pyIter_slot hit.typeIs Bk (zl Bk hit.typeIs BY ?_ (CF _));show qb #[_,rfl,"set_iterator",_,hit.typeIs,slot_next.lookup,h]
end ST
namespace ST
open PySem PySem.SetTable
section
variable{prog:Program}{w:World}{A:Around}{E:zu}{s:Shared}{I a p:Addr}{es:Array (Int×Value)}{ep i slot:Nat}{t:SetTable}{ys:List Nat}
def AD(hs:SetAt s.heap a es ep t)(O:w.params.followText "set-order"=false)(F:¬(!t.plain&&↥(es.size>1))=true)(J:t.led=true)
  (h:R (match es[below t.place slot]?,t.place[below t.place slot]? with|some (_,x),some j=>⇑(x,j+1)|_,_=>none) s):wpAny (model prog w) A (setNext a slot i ep) R E s:=by
 let#[o',B,G,L]:=hs;show qa (wpAny_setState_of B G L ?_);show qa (Av ?_);rw[O,q8 ⋯];split
 .rename_i M;show absurd M F
 .show qa ?_;show wpAny _ _ (if(!t.led&& !es.isEmpty)=true then _ else _) _ _ _;rw[J];show qb ?_;show qb h
def AJ(hs:SetAt s.heap a es ep t)(J:w.params.followText "set-order"=true)
  (h:R (((pickOrder (w.params.setOrder a ep) es)[i]?).map λe=>(e.2,slot)) s):wpAny (model prog w) A (setNext a slot i ep) R E s:=by
 let#[o',B,F,G]:=hs;show qa (wpAny_setState_of B F G ?_);show qa (Av ?_);rw[J,qZ rfl,q8 (by simp)];show qa ?_;show qa (wpAny_setState_of B F G ?_);show qa (Av ?_);rw[J];show qa (wpAny_askSetting ?_);show qb (qb h)
def Cb(B:Rising xs):below xs 0=0:=by
 let#[h1,h2,F]:=Ar (j:=0) B;rcases Nat.eq_zero_or_pos (below xs 0)with z|z
 .show z
 .show absurd (h2 0 ∅ z) (Nat.not_lt_zero _)
def Cc(B:Rising xs)(hi:i<xs.size):below xs (xs[i]+1)=i+1:=by
 let#[h1,h2,F]:=Ar (j:=xs[i]+1) B;let a:i<below xs (xs[i]+1):=Nat.lt_of_not_le λz=>absurd (F i hi z) ∅;rcases lt_or_ge (i+1) (below xs (xs[i]+1))with z|z
 .let b:=h2 (i+1) ∅ z;let c:=B i (i+1) hi ∅ ∅;lia
 .lia
end
def Cj(f:Nat->Nat):∀(n k:Nat)(left:List α)(B:Array α),left.length=n->((pickOrder.go f n k left B).toList).Perm (B.toList++left)
 |0,k,left,B,e=>by
  cases left with
  |nil=>unfold pickOrder.go;simp
  |cons _ _=>cases e
 |n+1,k,left,B,e=>by let hi:f k %left.length<left.length:=mod_lt _ ∅;unfold pickOrder.go;rw[qh hi];show(Cj f n (k+1) _ _ (by rw[List.length_eraseIdx,qZ hi,e];rfl)).trans ?_;rw[toList_push,qp];show List.Perm.append_left _ ?_;show(left[f k %left.length]::left.eraseIdx (f k %left.length)).Perm left;rw[List.eraseIdx_eq_take_drop_succ];show perm_middle.symm.trans ?_;rw[List.getElem_cons_drop,take_append_drop]
def AL(f:Nat->Nat)(xs:Array α):((pickOrder f xs).toList).Perm xs.toList:=by let:=Cj f xs.size 0 xs.toList #[] (by simp);first|rfl|assumption|(simp_all;done)
def SetAt.same(x:SetAt h a es ep t)(hs:Heap.SameBut I h h')(B:a≠I):SetAt h' a es ep t:=let⟨o,ho,r⟩:=x;#[o,(hs.2 a B).trans ho,r]
def TupAt.same(x:TupAt h p ys)(hs:Heap.SameBut I h h')(B:p≠I):TupAt h' p ys:=let⟨o,c,ho,r⟩:=x;#[o,c,(hs.2 p B).trans ho,r]
def fR(ord:List (Int×Value))(i:Nat)(v:Value):Prop:=∃e,ord[i]?=⇑e/\v=e.2
def By(hh:A.handled=none){ord:List (Int×Value)}(ho:ord.length=es.size)(hy:ys.length=es.size)(hor:∀(i j:Nat),ys[i]?=⇑j->es[j]?=ord[i]?/\j<es.size)(ha:a≠I)(hp:p≠I):
  Walks prog w A I [I,a,p] [I] es.size (fR ord) (λi h=>kW h I a (.ref p) i es.size ep/\SetAt h a es ep t/\TupAt h p ys) where
 sub:=λb hb=>by rw[qu.mp hb];simp
 frame:=λi h h' st hk=>by let#[#[o,h1,h2],#[o',h3,h4],#[o'',c,h5,h6]]:=st;show#[#[o,hk I (by simp) o h1,h2],#[o',hk a (by simp) o' h3,h4],#[o'',c,hk p (by simp) o'' h5,h6]]
 item:=λi s Q E hi st hQ=>by let hj:ys[i]?=⇑(ys[i]'∅):=qh ∅;let#[he,hlt]:=hor i _ hj;let hoi:ord[i]?=⇑(ord[i]'∅):=qh ∅;show BU st.1 st.2.1 st.2.2 hj (he.trans hoi) λh' hit' hs'=>?_;show hQ _ h' s.toks #[_,hoi,rfl] #[hit',st.2.1.same hs' ha,st.2.2.same hs' hp] λb o hb e=>hs'.extBut b o (λz=>hb (by simp[z])) e
 done:=λs Q E st hQ=>CC hh st.1 st.2.1 st.2.2 (qP ∅) λh' he'=>hQ h' s.toks λb o hb e=>he' b o (λz=>hb (by simp[z])) e
 self:=λ_ _ _ _ st hQ=>AV st.1 hQ
def BO(hh:A.handled=none)(hb:w.params.followText "set-order"=true)(ha:a≠I):
  Walks prog w A I [I,a] [I] es.size (fR (pickOrder (w.params.setOrder a ep) es).toList) (λi h=>kW h I a (.int ((0:Nat):Int) 0) i es.size ep/\SetAt h a es ep t) where
 sub:=λb hb=>by rw[qu.mp hb];simp
 frame:=λi h h' st hk=>by let#[#[o,h1,h2],#[o',h3,h4]]:=st;show#[#[o,hk I (by simp) o h1,h2],#[o',hk a (by simp) o' h3,h4]]
 item:=λi s Q E hi st hQ=>by let hl:=(AL (w.params.setOrder a ep) es).length_eq;rw[qU,qU]at hl;let hoi:(pickOrder (w.params.setOrder a ep) es)[i]?=⇑((pickOrder (w.params.setOrder a ep) es)[i]'∅):=getElem?_eq_getElem ∅;show BH (slot':=0) st.1 st.2 (λA E R hR=>AJ st.2 hb (by rw[hoi];show hR)) λh' hit' hs'=>?_;show hQ _ h' s.toks #[_,by rw[qY];show hoi,rfl] #[hit',st.2.same hs' ha] λb o hb e=>hs'.extBut b o (λz=>hb (by simp[z])) e
 done:=λs Q E st hQ=>by let hl:=(AL (w.params.setOrder a ep) es).length_eq;rw[qU,qU]at hl;show Cp hh st.1 st.2 (λA E R hR=>AJ st.2 hb (by rw[Array.getElem?_eq_none ∅];show hR)) λh' he'=>hQ h' s.toks λb o hb e=>he' b o (λz=>hb (by simp[z])) e
 self:=λ_ _ _ _ st hQ=>AV st.1 hQ
def Bx(hh:A.handled=none)(hb:w.params.followText "set-order"=false)(hnd:¬(!t.plain&&↥(es.size>1))=true)(hl:t.led=true)(hr:Rising t.place)(hz:t.place.size=es.size)(ha:a≠I):
  Walks prog w A I [I,a] [I] es.size (fR es.toList) (λi h=>∃slot:Nat,kW h I a (.int slot 0) i es.size ep/\below t.place slot=i/\SetAt h a es ep t) where
 sub:=λb hb=>by rw[qu.mp hb];simp
 frame:=λi h h' st hk=>by let#[sl,#[o,h1,h2],hbl,#[o',h3,h4]]:=st;show#[sl,#[o,hk I (by simp) o h1,h2],hbl,#[o',hk a (by simp) o' h3,h4]]
 item:=λi s Q E hi st hQ=>by
  let#[sl,hit,hbl,hs]:=st;let hi':i<t.place.size:=∅
  show BH (slot':=t.place[i]+1) (v:=es[i].2) hit hs (λA E R hR=>AD hs hb hnd hl (by rw[hbl,getElem?_eq_getElem hi,getElem?_eq_getElem hi'];show hR)) λh' hit' hs'=>?_;show hQ _ h' s.toks #[es[i],by rw[qY];show getElem?_eq_getElem hi,rfl] #[_,hit',Cc hr hi',hs.same hs' ha] λb o hb e=>hs'.extBut b o (λz=>hb (by simp[z])) e
 done:=λs Q E st hQ=>by let#[sl,hit,hbl,hs]:=st;show Cp hh hit hs (λA E R hR=>AD hs hb hnd hl (by rw[hbl,Array.getElem?_eq_none (q9 _)];show hR)) λh' he'=>hQ h' s.toks λb o hb e=>he' b o (λz=>hb (by simp[z])) e
 self:=λ_ _ _ _ st hQ=>by let#[sl,hit,_]:=st;show AV hit hQ
def BZ:entryFor table "set.__iter__"=⇑Builtin.«frozenset.__iter__»:=
 entryFor_alias (id':="frozenset.__iter__") (by kernel_rfl) rfl (by decide+kernel) (by kernel_rfl)
theorem lt_of_get{h:Heap}(e:h.get? b=⇑o):b<h.objs.size:=Nat.lt_of_not_le λz=>by
 let:h.get? b=none:=by unfold Heap.get?;rw[Array.getElem?_eq_none z]
 rw[this]at e;cases e
def hV(es:Array (Int×Value))(j:Nat):Int×Value:=(es[j]?).getD (0,.none)
def Cw(es:Array (Int×Value)):(List.range es.size).map (hV es)=es.toList:=by show List.ext_getElem (by simp) λi h1 h2=>?_;simp at h1;rw[List.getElem_map,List.getElem_range];unfold hV;rw[getElem?_eq_getElem h1];rfl
def Dm(hT:s.TypeIs (.ref a) "set")(hs:SetAt s.heap a es ep t)(hr:Rising t.place)(hz:t.place.size=es.size)(h3:w.params.followText "set-order"=false->t.led=true)(hn:es.size<=300)
  (hQ:∀(I:Addr)(h':Heap)(d:Drawn)(ord:List (Int×Value))(fp:List Addr)(St:Nat->Heap->Prop),ord.Perm es.toList->(∀A':Around,A'.handled=none->Walks prog w A' I fp [I] es.size (fR ord) St)->St 0 h'->I∈fp->
   (∀b∈fp,(b=a\/s.heap.objs.size<=b)/\b<h'.objs.size)->(∀b o,s.heap.get? b=⇑o->h'.get? b=⇑o)->s.heap.objs.size<=I->Q (.ref I) {s with heap:=h',drawn:=d}):wpAny (model prog w) A (pyIter (.ref a)) Q E s:=by
 let#[o',B,G,hf]:=id hs;let J:=lt_of_get B;show wpAny_pyIter_slot hT F.slot_set_iter (zl F.slot_set_iter hT BZ ?_ (F.args_set_iter_1 _));unfold Builtin.«frozenset.__iter__» Builtin.Frozenset.slot0 slotArgs;simp only[List.isEmpty_nil,Bool.not_true,↓reduceIte,bind_assoc,qv,bne_self_eq_false];show qa (qb ?_);show qa (qb ?_);show qa (qa (wpAny_setEntries_of B G hf (qb ?_)));show qa (qa (wpAny_setState_of B G hf ?_));show qa (Av (qb ?_));let M:∀(h:Heap)(o:Obj)(b:Addr)(o2:Obj),h.get? b=⇑o2->(h.push o).get? b=⇑o2:=λh o b o2 e=>qc _ e;show wpAny _ _ (if(!w.params.followText "set-order"&&(!t.plain&&↥(es.size>1)))=true then _ else _) _ _ _;by_cases hc:(!w.params.followText "set-order"&&(!t.plain&&↥(es.size>1)))=true
 .rw[qZ hc];show qa (BK es.size (by simp) λys d hp=>?_);let Y:ys.length=es.size:=by rw[hp.length_eq];simp
  let O:∀j∈ys,j<es.size:=λj hj=>qI.mp (hp.mem_iff.mp hj);show qa (wpAny_newTuple ?_ (by rw[qo,Y];show le_trans hn ⋯));show qa (qa (wpAny_setState_of (M _ _ _ _ B) G hf (qb ?_)));show qa (zk (qb #[_,rfl,"set_iterator",_,#[_,qd _ rfl,rfl],slot_next.lookup,?_]) (by size_fits));let g1:∀j,j<es.size->es[j]?=⇑(hV es j):=λj hj=>by unfold hV;rw[getElem?_eq_getElem hj];rfl
  let h5:(s.heap.push {cls:=.type "tuple",data:=.seq (ys.map λi:Nat=>rawInt (i:Int)).toArray}).get? s.heap.objs.size=some {cls:=.type "tuple",data:=.seq (ys.map λi:Nat=>rawInt (i:Int)).toArray}:=qd _ rfl;show hQ _ _ d (ys.map (hV es)) [_,a,s.heap.objs.size] _ ((hp.map _).trans (by rw[Cw])) (λA' hA=>By (ep:=ep) (t:=t) (ys:=ys) hA (by rw[qo,Y]) Y (λi j hj=>#[?_,O j (qL hj)]) ?_ ?_) #[#[_,qd _ rfl,rfl,rfl],#[_,M _ _ _ _ (M _ _ _ _ B),G,hf],#[_,_,M _ _ _ _ h5,rfl]] (by simp) (λb L=>?_) (λb o e=>M _ _ _ _ (M _ _ _ _ e)) ?_
  .rw[qE,hj];show g1 j (O j (qL hj))
  .rw[Heap.size_push];show ne_of_lt (lt_succ_of_lt J)
  .rw[Heap.size_push];show ne_of_lt (lt_succ_self _)
  .rw[Heap.size_push,Heap.size_push];rw[Heap.size_push]at L;rcases qA.mp L with rfl|L
   .show#[.inr (le_succ _),lt_succ_self _]
   .rcases qA.mp L with rfl|L
    .show#[.inl rfl,lt_succ_of_lt (lt_succ_of_lt J)]
    .rw[qu.mp L];show#[.inr (q9 _),lt_succ_of_lt (lt_succ_self _)]
  .rw[Heap.size_push];show le_succ _
 .rw[q8 hc];show qa (qb ?_);show qa (qa (wpAny_setState_of B G hf (qb ?_)));show qa (zk (qb #[_,rfl,"set_iterator",_,#[_,qd _ rfl,rfl],slot_next.lookup,?_]) (by size_fits));let h2:a≠s.heap.objs.size:=ne_of_lt J;let h4:∀(o:Obj),∀b∈[s.heap.objs.size,a],(b=a\/s.heap.objs.size<=b)/\b<(s.heap.push o).objs.size:=λo b L=>by
   rw[Heap.size_push];rcases qA.mp L with rfl|L
   .show#[.inr (q9 _),lt_succ_self _]
   .rw[qu.mp L];show#[.inl rfl,lt_succ_of_lt J]
  by_cases L:w.params.followText "set-order"=true
  .show hQ _ _ s.drawn _ [_,a] _ (AL (w.params.setOrder a ep) es) (λA' hA=>BO (ep:=ep) (t:=t) hA L h2) #[#[_,qd _ rfl,rfl,rfl],#[_,M _ _ _ _ B,G,hf]] (by simp) (h4 _) (λb o e=>M _ _ _ _ e) (q9 _)
  .let h1:w.params.followText "set-order"=false:=by simpa using L
   show hQ _ _ s.drawn _ [_,a] _ (.refl _) (λA' hA=>Bx (ep:=ep) (t:=t) hA h1 (λz=>hc (by rw[h1,z];rfl)) (h3 h1) hr hz h2) #[0,#[_,qd _ rfl,rfl,rfl],Cb hr,#[_,M _ _ _ _ B,G,hf]] (by simp) (h4 _) (λb o e=>M _ _ _ _ e) (q9 _)
def Cy(hn:ord.length=n)(h:ItemsOf (fR ord) B n):B.toList=ord.map (·.2):=by
 show ext_getElem? λi=>?_;rw[qY,qE];rcases lt_or_ge i n with hi|hi
 .let h1:B[i]?=⇑(B[i]'(by rw[h.1];show hi)):=getElem?_eq_getElem _;let#[e,G,F]:=h.2 i _ h1;rw[h1,G,F];rfl
 .rw[Array.getElem?_eq_none (by rw[h.1];show hi),qP (by rw[hn];show hi)];rfl
def BL(hh:A.handled=none)(hT:s.TypeIs (.ref a) "set")(hs:SetAt s.heap a es ep t)(hr:Rising t.place)(hz:t.place.size=es.size)(h6:w.params.followText "set-order"=false->t.led=true)(hn:es.size<=300)
  (hQ:∀(s':Shared)(ord:List (Int×Value)),ord.Perm es.toList->(∀b o,s.heap.get? b=⇑o->s'.heap.get? b=⇑o)->s'.gens=s.gens->s'.os=s.os->s.toks<=s'.toks->Q (ord.map (·.2)) s'):wpAny (model prog w) A (collect (.ref a)) Q E s:=by
 let#[o',h5,hc,hf]:=id hs;let M:=lt_of_get h5;show qa (wpAny_runValue (codeAny_builtin F.entry_proto_collect ?_));show qa (zk ?_);show qb #[plainId_quiet F.plain_list_iadd _,codeAny_builtin F.entry_list_iadd ?_];let h3:(s.heap.push {cls:=.type "list",data:=.seq ([]:List Value).toArray}).get? s.heap.objs.size=some {cls:=.type "list",data:=.seq ([]:List Value).toArray}:=qd _ rfl;let h1:Builtin.List.listSameRef (.ref s.heap.objs.size) (.ref a)=false:=by simp[Builtin.List.listSameRef];show(ne_of_gt M)
 let hk:SetAt (s.heap.push {cls:=.type "list",data:=.seq ([]:List Value).toArray}) a es ep t:=#[o',qc _ h5,hc,hf]
 let Y:Shared.TypeIs {s with heap:=s.heap.push {cls:=.type "list",data:=.seq ([]:List Value).toArray}} (.ref a) "set":=by let#[o2,e1,e2]:=hT;show#[o2,qc _ e1,e2]
 show wpAny _ A.in1 (Builtin.List.listExtendWith (.ref s.heap.objs.size) (.ref a) (.ref s.heap.objs.size)) _ _ _;show qa (wpAny_typeOf Y ?_);rw[q8 (by rw[h1];decide)];show qa (Dm Y hk hr hz h6 hn λI h' d ord fp St hp W e3 hI hi B h9=>?_);let O:Shared.TypeIs {s with heap:=h',drawn:=d} (.ref a) "set":=by let#[o2,e1,e2]:=Y;show#[o2,B _ _ e1,e2]
 show qa (zp ?_);show qa (wpAny_specialOf O F.slot_set_len.lookup ?_);generalize hx:("set.__len__":String)=hq
 wp_delta
 subst hx;show qa (wpAny_isInstance (b:=true) O (by rw[isSubtype_type];kernel_rfl) ?_);show qa (wpAny_typeOf O ?_);show qb ?_;let J:=B _ _ h3;let WS:=(W A.in1 hh).toS;show qa (wpAny_rule ?_);show qa ?_;show qa (wpAny_updateSeq J rfl ?_);let G:=zi (Obj.mapSeq (·.push Value.none)) J rfl;show wpAny_updateSeq (hz:=by seq_fits) G rfl ?_;let h2:=zi (Obj.mapSeq (·.pop)) G rfl;let h4:∀b o,b≠s.heap.objs.size->h'.get? b=⇑o->((h'.update s.heap.objs.size (Obj.mapSeq (·.push Value.none))).update s.heap.objs.size (Obj.mapSeq (·.pop))).get? b=⇑o:=
  λb o L e=>(zc _ _ (Ne.symm L)).trans ((zc _ _ (Ne.symm L)).trans e)
 have h8:s.heap.objs.size∉fp:=λhm=>by
  rcases(hi _ hm).1 with z|z
  .show ne_of_gt M z
  .rw[Heap.size_push]at z;show Nat.not_succ_le_self _ z
 let e4:es.size<=sizeLine:=le_trans hn ⋯;show qb #[plainId_quiet F.plain_extend_loop _,codeAny_extend_loopS WS e4 _ h8 _ es.size 0 _ _ _ rfl (zero_le _) ((W A.in1 hh).frame 0 _ _ e3 λb L o e=>h4 b o (λz=>h8 (z▸L)) e) h2 (ItemsOf.nil _) λs' hd c' hm hl h7=>?_];show qa (wpAny_load hl ?_);show qb ?_;rw[Cy (by rw[hp.length_eq,qU]) h7];show hQ s' ord hp (λb o e=>?_) hm.gens hm.os hm.toks;let L:=lt_of_get e;show hm.heap b o (λz=>?_) (h4 b o (ne_of_lt L) (B _ _ (qc _ e)));rcases qA.mp z with z|z
 .show ne_of_lt L z
 .rw[qu.mp z]at L;rw[Heap.size_push]at h9;show lt_irrefl _ (lt_of_lt_of_le L (le_trans (le_succ _) h9))
end ST
namespace ST
open PySem PySem.SetTable PyProof.Rows
section
variable{prog:Program}{w:World}{A:Around}{E:zu}{s:Shared}{I a p:Addr}{es:Array (Int×Value)}{ep i slot:Nat}{t:SetTable}{ys:List Nat}{h h':Heap}
theorem sorted_set(hh:A.handled=none)(hT:s.TypeIs (.ref a) "set")(hs:SetAt s.heap a es ep t)(hr:Rising t.place)(hz:t.place.size=es.size)(F:w.params.followText "set-order"=false->t.led=true)(hn:es.size<=300)
  (k:∀(B:Shared)(ord:List (Int×Value)),ord.Perm es.toList->(∀b o,s.heap.get? b=⇑o->B.heap.get? b=⇑o)->B.gens=s.gens->B.os=s.os->s.toks<=B.toks->
   (B.heap.push (seqObj "list" (ord.map (·.2)).toArray 0)).get? B.heap.objs.size=⇑(seqObj "list" (ord.map (·.2)).toArray 0)->
   wpAny (model prog w) A.in1.in1 (Builtin.«list.sort» #[[.ref B.heap.objs.size],[]]) (λG L=>∃r,G=.done (.ret r)/\Q (.ref B.heap.objs.size) L) E {B with heap:=B.heap.push (seqObj "list" (ord.map (·.2)).toArray 0)}):
  wpAny (model prog w) A (call (.builtin "sorted") [.ref a]) Q E s:=by
 show Calls.call_function_entry kind_sorted plain_sorted entry_sorted (args_sorted1 _) (?_:wpAny _ _ _ _ _ _);show qa (m:=checkCount "sorted" 1 1 _) (qb (qa (BL hh hT hs hr hz F hn λB ord M O hg ho Y=>?_)));let J:ord.length<=sizeLine:=by rw[M.length_eq];show le_trans hn ⋯
 show qa (wpAny_newList ?_ (by rw[qo];show J));let new:(B.heap.push (seqObj "list" (ord.map (·.2)).toArray 0)).get? B.heap.objs.size=⇑(seqObj "list" (ord.map (·.2)).toArray 0):=qd _ rfl;show qa (zp (zl slot_list_sort #[_,new,rfl] entry_list_sort (zt (k B ord M O hg ho Y new) ?_ λe s' z=>z) (args_list_sort _)));rintro G L ⟨r,rfl,q⟩;show#[_,rfl,qb #[_,rfl,q]]
end
def pV:Value->Int
 |.int n _=>n
 |_=>0
theorem ints_map(h:IntsAre vs ns):ns=vs.map pV/\∀v∈vs,∃n t,v=.int n t:=by
 induction h with
 |nil=>show#[rfl,λv B=>nomatch B]
 |cons n t _ F=>show#[by rw[qy,<-F.1];rfl,λv B=>?_];grind
def Cn:∀{vs:List Value},(∀v∈vs,∃n t,v=.int n t)->IntsAre vs (vs.map pV)
 |[],_=>.nil
 |v::vs,h=>by let#[n,t,rfl]:=h v qm;show .cons n t (Cn λu B=>h u (qk _ B))
def Cz(h:IntsAre vs ns)(B:us.Perm vs):∃ms,IntsAre us ms/\ms.Perm ns:=by let#[rfl,h2]:=ints_map h;show#[_,Cn λv F=>h2 v (B.mem_iff.mp F),B.map _]
theorem sortedHeap_at(F:h.get? a=⇑(seqObj "list" vs.toArray n))(B:Array Value):∃e,(sortedHeap h a vs B).get? a=⇑(seqObj "list" B e):=
 #[_,get?_update_seq (qc _ (qc _ (get?_update_seq F _))) _]
theorem sortedHeap_old(B:b≠a)(G:h.get? b=⇑o)(F:Array Value):(sortedHeap h a vs F).get? b=⇑o:=
 (zc _ _ (Ne.symm B)).trans (qc _ (qc _ ((zc _ _ (Ne.symm B)).trans G)))
section
variable{prog:Program}{w:World}{A:Around}{E:zu}{s:Shared}{a:Addr}{es:Array (Int×Value)}{ep:Nat}{t:SetTable}
theorem sorted_set_ints(hh:A.handled=none)(hT:s.TypeIs (.ref a) "set")(hs:SetAt s.heap a es ep t)(hr:Rising t.place)(hz:t.place.size=es.size)(J:w.params.followText "set-order"=false->t.led=true)(hn:es.size<64)
  (hI:IntsAre (es.toList.map (·.2)) ns)
  (k:∀(G:Shared)(D:Addr)(B:Array Value)(e:Nat)(F:List Int),IntsAre B.toList F->F.Perm ns->F.Pairwise (·<=·)->G.heap.get? D=⇑(seqObj "list" B e)->s.heap.get? D=none->(∀b o,s.heap.get? b=⇑o->G.heap.get? b=⇑o)->
   G.gens=s.gens->G.os=s.os->s.toks<=G.toks->Q (.ref D) G):wpAny (model prog w) A (call (.builtin "sorted") [.ref a]) Q E s:=by
 show sorted_set hh hT hs hr hz J ∅ λY ord hp L hg ho ht new=>?_;let#[ms,hm,M]:=Cz hI (hp.map _);let hl:(ord.map (·.2)).length<64:=by rw[qo,hp.length_eq];show hn
 show list_sort_tree new hm hl λB F a1 a2 a3=>#[_,rfl,?_]
 obtain⟨e,he⟩:=sortedHeap_at new B;let O:s.heap.get? Y.heap.objs.size=none:=by
  cases q:s.heap.get? Y.heap.objs.size with
  |none=>rfl
  |some o=>show absurd (lt_of_get (L _ _ q)) (lt_irrefl _)
 show k _ _ B e F a1 (a2.trans M) a3 he O (λb o q=>sortedHeap_old (ne_of_lt (lt_of_get (L b o q))) (qc _ (L b o q)) B) hg ho ht
end
def textOf:Value->Str
 |.str x _=>x
 |_=>Str.empty
theorem strs_map(h:StrsAre vs ss):ss=vs.map textOf/\∀v∈vs,∃x t,v=.str x t:=by
 induction h with
 |nil=>show#[rfl,λv B=>nomatch B]
 |cons n t _ F=>show#[by rw[qy,<-F.1];rfl,λv B=>?_];grind
def Ce:∀{vs:List Value},(∀v∈vs,∃x t,v=.str x t)->StrsAre vs (vs.map textOf)
 |[],_=>.nil
 |v::vs,h=>by let#[n,t,rfl]:=h v qm;show .cons n t (Ce λu B=>h u (qk _ B))
def Cv(h:StrsAre vs ss)(B:us.Perm vs):∃ms,StrsAre us ms/\ms.Perm ss:=by let#[rfl,h2]:=strs_map h;show#[_,Ce λv F=>h2 v (B.mem_iff.mp F),B.map _]
section
variable{prog:Program}{w:World}{A:Around}{E:zu}{s:Shared}{a:Addr}{es:Array (Int×Value)}{ep:Nat}{t:SetTable}
theorem sorted_set_strs(hh:A.handled=none)(hT:s.TypeIs (.ref a) "set")(hs:SetAt s.heap a es ep t)(hr:Rising t.place)(hz:t.place.size=es.size)(J:w.params.followText "set-order"=false->t.led=true)(hn:es.size<64)
  (hI:StrsAre (es.toList.map (·.2)) ss)
  (k:∀(F:Shared)(D:Addr)(G:Array Value)(e:Nat)(B:List Str),StrsAre G.toList B->B.Perm ss->sortedS B=true->F.heap.get? D=⇑(seqObj "list" G e)->s.heap.get? D=none->(∀b o,s.heap.get? b=⇑o->F.heap.get? b=⇑o)->
   F.gens=s.gens->F.os=s.os->s.toks<=F.toks->Q (.ref D) F):wpAny (model prog w) A (call (.builtin "sorted") [.ref a]) Q E s:=by
 show sorted_set hh hT hs hr hz J ∅ λs1 ord hp M hg ho ht new=>?_;let#[ms,Y,O]:=Cv hI (hp.map _);let hl:(ord.map (·.2)).length<64:=by rw[qo,hp.length_eq];show hn
 show list_sort_treeK strKind_oneLt new Y.keysOf (λh3 h2 rest e=>keyKind_strs (by rw[<-e];show Y)) hl λL a1 a2=>#[_,rfl,?_]
 obtain⟨B,b1,b2,b3⟩:=sorted_out_str Y a1 a2;let#[e,he]:=sortedHeap_at new ((arrOf L).map (·.2));let h1:s.heap.get? s1.heap.objs.size=none:=by
  cases q:s.heap.get? s1.heap.objs.size with
  |none=>rfl
  |some o=>show absurd (lt_of_get (M _ _ q)) (lt_irrefl _)
 show k _ _ _ e B b1 (b2.trans O) b3 he h1 (λb o q=>sortedHeap_old (ne_of_lt (lt_of_get (M b o q))) (qc _ (M b o q)) _) hg ho ht
def TSet.at{K:Type}[DecidableEq K]{knd:HeapKind prog w K}{ld:Bool}{h:Heap}{xs:List (K×Addr)}(x:TSet ld knd h a xs):∃es ep t,SetAt h a es ep t/\Rising t.place/\t.place.size=es.size/\t.led=ld/\es.toList.map (·.2)=xs.map λp=>Value.ref p.2:=by
 let#[o,es,ep,t,G,hex,O,B,T,F,M,L,J]:=x;show#[es,ep,t,#[o,G,O,T.fits (by simp)],T.ris,?_,B,?_]
 .rw[T.size];simp
 .rw[M];unfold dX;rw[qD];rfl
end
end ST
namespace ST
open PySem PySem.SetTable
def AA(n:Nat):Rising (Array.range n):=by rw[ris_list];simp[List.pairwise_lt_range]
def Co(G:Rising t.place)(J:t.dummies=#[]):∀(B:Nat)(p:Probe){j:Nat}{d:Option Nat},p.dummy=none->probe.go t hashAt h B p=⇑(.empty j d)->d=none/\t.slot j=.empty
 |0,_,_,_,_,e=>by cases e
 |B+1,p,j,d,hp,e=>by
  rw[probe.go]at e;let F:(t.advance p).dummy=none:=by
   unfold advance;split
   .show hp
   .show hp
  rcases Ao G J p.j with⟨z,_⟩|⟨i,hi,_,z⟩
  .rw[z]at e;cases e;show#[hp,z]
  .rw[z]at e;dsimp only at e;split at e
   .cases e
   .show Co G J B _ F e
def Dl{mask finger moves:Nat}{led plain:Bool}(e:laid mask finger moves led plain hs=⇑(t',order)):Rising t'.place/\t'.dummies=#[]/\t'.led=led:=by
 unfold laid at e;cases q:layClean mask hs with
 |none=>rw[q]at e;cases e
 |some B=>rw[q]at e;cases e;show#[?_,rfl,rfl];rw[ris_list];rw[pairwise_map,List.pairwise_filterMap];show List.Pairwise.imp (λ{a b} F x J y G=>?_) List.pairwise_lt_range;let#[_,_,rfl]:=qX.mp J;let#[_,_,rfl]:=qX.mp G;show F
structure WTab(t:SetTable)(n:Nat)(ld:Bool):Prop where
 ris:Rising t.place
 dum:t.dummies=#[]
 fit:t.fits n=true
 ldd:t.led=ld
def Di(T:WTab t es.size ld):WTab (layNew t es h x).2.1 (layNew t es h x).1.size ld:=by
 refine#[?_,?_,layNew_fits t es h x,?_];all_goals
  unfold layNew;split
 .rename_i slot B e;dsimp only;unfold orStandIn;split
  .unfold freeSlot at e;split at e
   .rename_i j d q;cases e;let#[rfl,z]:=Co T.ris T.dum _ (t.probeStart h) rfl q;rcases Ao T.ris T.dum j with⟨_,y⟩|⟨i,hi,_,y⟩
    .show Bc T.ris y
    .rw[z]at y;cases y
   .cases e
  .show AA _
 .show AA _
 .dsimp only;unfold orStandIn;split
  .show(AK T.dum).2.2.1
  .rfl
 .rfl
 .dsimp only;unfold orStandIn;split
  .show T.ldd
  .show T.ldd
 .show T.ldd
def BP(T:WTab t m ld):WTab (relayAll t es n).2.1 (relayAll t es n).1.size ld:=by
 refine#[?_,?_,relayAll_fits t es n,?_];all_goals
  unfold relayAll;split
 all_goals first
  |(rename_i F B e;dsimp only;let#[a,b,c]:=Dl e;split
    .first|show a|show b|show c.trans T.ldd
    .first|show AA _|rfl|show T.ldd)
  |show AA _
  |rfl
  |show T.ldd
def BQ(T:WTab t n ld):WTab {t with plain:=p} n ld:=⟨T.ris,T.dum,by let:=T.fit;cases t;show this,T.ldd⟩
section
variable{prog:Program}{w:World}{A:Around}{E:zu}{s:Shared}{a:Addr}{K:Type}[DecidableEq K]{knd:KeyKind prog w K}{xs:List (K×Value)}
def eG(knd:KeyKind prog w K)(xs:List (K×Value)):List (Int×Value):=xs.map λp=>(knd.hash p.1,p.2)
@[inline]def VSet(ld:Bool)(knd:KeyKind prog w K)(h:Heap)(a:Addr)(xs:List (K×Value)):Prop:=∃o es ep t,h.get? a=some o/\o.ExactSet/\o.data=.set es ep t/\WTab t es.size ld/\es.toList=eG knd xs/\(∀p∈xs,knd.is p.1 p.2=true/\p.2.scannable=true)/\(xs.map (·.1)).Nodup
def Bs(h:l.Perm (eG knd xs)):∃ys,ys.Perm xs/\l=eG knd ys:=by
 unfold eG at h;induction l generalizing xs with
 |nil=>
  let B:xs=[]:=↑h.length_eq.symm
  subst B;show#[[],.refl _,rfl]
 |cons e l J=>let#[x,B,rfl]:=qJ.mp (h.mem_iff.mp qm);let#[G,F,rfl]:=append_of_mem B;rw[map_append]at h;let#[ys,p,rfl]:=J (xs:=G++F) (by rw[map_append];show(h.trans perm_middle).cons_inv);show#[x::ys,(List.Perm.cons x p).trans perm_middle.symm,rfl]
def Cq{es:Array (Int×Value)}(J:es.toList=eG knd xs)(G:∀p∈xs,knd.is p.1 p.2=true/\p.2.scannable=true):ElemsOf knd es.toList:=λe F=>by rw[J]at F;let#[p,B,rfl]:=qJ.mp F;show#[#[p.1,(G p B).1,rfl],(G p B).2]
theorem BM{g:Bool->Sem Unit}(hg:∀(b:Bool)(s₁:Shared)(Q':Unit->Shared->Prop),Q' () s₁->wpAny (model prog w) A (g b) Q' E s₁)(ho:s.heap.get? a=⇑o)(hex:o.ExactSet)(hd:o.data=.set es ep t)
  (T:WTab t2 es1.size ld)(he:es1.toList=eG knd ys)(hk:∀p∈ys,knd.is p.1 p.2=true/\p.2.scannable=true)(hnd:(ys.map (·.1)).Nodup)(hz:ys.length<=1000)
  (h:∀h' zs,Heap.SameBut a s.heap h'->zs.Perm ys->VSet ld knd h' a zs->R ⇑true {s with heap:=h'}):
  wpAny (model prog w) A (do
    storeSet a es1 t2
    if(!wd&&t2.tooFull)=true then do
       g (relayAll t2 es1 (grown es1.size)).2.2
       storeSet a (relayAll t2 es1 (grown es1.size)).1 (relayAll t2 es1 (grown es1.size)).2.1
       pure ⇑true
     else pure ⇑true) R E s:=by
 let hz1:es1.size<=sizeLine:=by rw[<-qU,he];unfold eG;rw[qo,zm];lia
 show qa (wpAny_storeSet_of ho hd ?_ hz1);let ho1:=Az (es':=es1) (t':=t2) ho hd;let sb1:=Heap.SameBut.update s.heap a (Obj.putSet es1 t2);split
 .let hp:=relayAll_perm t2 es1 (grown es1.size);let T2:=BP (es:=es1) (n:=grown es1.size) T;generalize relayAll t2 es1 (grown es1.size)=R3 at hp T2⊢;let#[es2,t3,gave]:=R3;rw[he]at hp;let#[zs,pz,ez]:=Bs hp;let hz2:es2.size<=sizeLine:=by rw[<-qU,ez];unfold eG;rw[qo,pz.length_eq,zm];lia
  show qa (hg _ _ _ (qa (wpAny_storeSet_of ho1 rfl (qb ?_) hz2)));show h _ zs (sb1.trans (Heap.SameBut.update _ a _)) pz #[_,es2,_,t3,Az ho1 rfl,hex,rfl,T2,ez,λp hp=>hk p (pz.mem_iff.mp hp),(pz.map _).nodup_iff.mpr hnd]
 .show qb (h _ ys sb1 (.refl _) #[_,es1,_,t2,ho1,hex,rfl,T,he,hk,hnd])
def IY(M:knd.is k x=true)(O:x.scannable=true)(hS:VSet ld knd s.heap a xs)(e2:xs.length<=150)
  (h1:k∈xs.map (·.1)->Q false s)(h2:k∉xs.map (·.1)->∀h' ys,Heap.SameBut a s.heap h'->ys.Perm ((k,x)::xs)->VSet ld knd h' a ys->Q true {s with heap:=h'}):
  wpAny (model prog w) A (setAddHashed a x (knd.hash k)) Q E s:=by
 let#[o,es,ep,t,ho,hex,hd,T,he,hk,e3]:=hS;let h8:=Cq he hk;let e4:es.size=xs.length:=by rw[<-qU,he];simp[eG]
 let hb:es.size<scanBound:=by show es.size<4096;lia
 show zp (qa (wpAny_setState_of ho hd T.fit ?_));dsimp only;rw[byScan_of O hb h8];show qa (qa (wpAny_rule (qa (wpAny_setScan_of M ho hd T.fit h8 ?_))));let h3:∀p∈xs,knd.is k p.2=true↔p.1=k:=λp G=>#[λz=>(knd.inj p.2 k p.1 z (hk p G).1).symm,λz=>z▸(hk p G).1]
 cases hr:List.findIdx? (λe=>knd.is k e.2) es.toList with
 |some j=>let#[hj,h5,_]:=List.findIdx?_eq_some_iff_getElem.mp hr;let hm:=getElem_mem hj;generalize es.toList[j]=e at hm h5;rw[he]at hm;let#[p,G,rfl]:=qJ.mp hm;show qb (qb (h1 (qJ.mpr #[p,G,(h3 p G).mp h5])))
 |none=>
  let hn:k∉xs.map (·.1):=λz=>by let#[p,G,e]:=qJ.mp z;let q:=List.findIdx?_eq_none_iff.mp hr (knd.hash p.1,p.2) (by rw[he];show qJ.mpr #[p,G,rfl]);rw[(h3 p G).mpr e]at q;cases q
  have B:=layNew_perm t es (knd.hash k) x;let T1:=Di (es:=es) (h:=knd.hash k) (x:=x) T;generalize layNew t es (knd.hash k) x=L at B T1⊢;let#[es1,t1,wd,h9]:=L;rw[toList_push,he]at B;let#[ys,py,ey]:=Bs (knd:=knd) (xs:=(k,x)::xs) (B.trans (qM.trans (by unfold eG;show .refl _)));let h7:∀p∈ys,knd.is p.1 p.2=true/\p.2.scannable=true:=λp G=>by
   rcases qA.mp (py.mem_iff.mp G)with rfl|z
   .show#[M,O]
   .show hk p z
  let h6:(ys.map (·.1)).Nodup:=(py.map _).nodup_iff.mpr (qK.mpr #[hn,e3]);let h4:ys.length<=1000:=by rw[py.length_eq,qt];lia
  have gw:∀(b:Bool)(F:Shared)(Q':Unit->Shared->Prop),Q' () F->wpAny (model prog w) A (match b with|true=>rule "set.scan.the-table-gave-way"|false=>pure ()) Q' E F:=λb F Q' q=>by
   cases b
   .show qb q
   .show wpAny_rule q
  let e1:∀h' J,Heap.SameBut a s.heap h'->J.Perm ys->VSet ld knd h' a J->Q true {s with heap:=h'}:=λh' J Y pz V=>h2 hn h' J Y (pz.trans py) V;show qa (gw h9 _ _ ?_);split
  .show qa ?_;rw[hashByValue_scannable 8 O];show qb (BM gw ho hex hd (es1:=es1) (t2:=_) ?_ ey h7 h6 h4 λh' J Y pz V=>qb (e1 h' J Y pz V));split
   .show T1
   .show BQ T1
  .show qa (qb ?_);show BM gw ho hex hd T1 ey h7 h6 h4 λh' J Y pz V=>qb (e1 h' J Y pz V)
theorem setAddV(B:knd.is k x=true)(G:x.scannable=true)(O:VSet ld knd s.heap a xs)(F:xs.length<=150)
  (h1:k∈xs.map (·.1)->∀r,Q r {s with toks:=s.toks+1})(h2:k∉xs.map (·.1)->∀h' ys,Heap.SameBut a s.heap h'->ys.Perm ((k,x)::xs)->VSet ld knd h' a ys->∀r,Q r {s with heap:=h',toks:=s.toks+1}):
  wpAny (model prog w) A (setAdd a x) Q E s:=by
 show zp (qa (knd.pyHash B ?_));show IY (s:={s with toks:=s.toks+1}) B G O F (λJ=>h1 J _) λJ h' ys L M T=>h2 J h' ys L M T _
def VSet.at(x:VSet ld knd h a xs):∃es ep t,SetAt h a es ep t/\Rising t.place/\t.place.size=es.size/\t.led=ld/\es.toList.map (·.2)=xs.map (·.2):=by
 let#[o,es,ep,t,B,hex,G,T,F,_]:=x;show#[es,ep,t,#[o,B,G,T.fit],T.ris,?_,T.ldd,?_]
 .let:=T.fit;unfold fits at this;grind
 .rw[F];unfold eG;rw[qD];rfl
end
end ST
namespace ST
open PySem PySem.SetTable PyProof.Rows
def freshSet(ld:Bool):Obj:={cls:=.type "set",dict:=none,data:=.set #[] 0 (.fresh 0 0 ld)}
def ldOf(w:World):Bool:=!w.params.followText "set-order"
def Bj(ld:Bool):gG (.fresh 0 0 ld) []:=by
 let B:∀{i:Nat},i<(SetTable.fresh 0 0 ld).place.size->False:=λh=>by simp[SetTable.fresh]at h
 show#[λi j hi _ _=>(B hi).elim,rfl,.inl rfl,rfl,λi hi=>(B hi).elim,by simp,λi hi=>(B hi).elim]
theorem vset_new{K:Type}[DecidableEq K]{knd:KeyKind prog w K}{ld:Bool}{h:Heap}{a:Addr}(e:h.get? a=⇑(freshSet ld)):VSet ld knd h a []:=
 #[_,#[],0,_,e,#[rfl,rfl,rfl],rfl,#[(Bj ld).ris,rfl,rfl,rfl],rfl,λ_ z=>(nomatch z),.nil]
theorem tset_new{K:Type}[DecidableEq K]{knd:HeapKind prog w K}{ld:Bool}{h:Heap}{a:Addr}(e:h.get? a=⇑(freshSet ld)):TSet ld knd h a []:=
 #[_,#[],0,_,e,#[rfl,rfl,rfl],rfl,rfl,Bj ld,(by show 0*5<7*3;decide),rfl,λ_ z=>(nomatch z),.nil]
def CS{St:Nat->Shared->Prop}(W:WalksS prog w A.in1 I fp wr G n P St)(S:Addr)(h3:S∉fp){J:Nat->Heap->Prop}
  (stay:∀i h h',i<=n->J i h->(∀b o,b∉wr->h.get? b=⇑o->h'.get? b=⇑o)->J i h')
  (step:∀i v(s:Shared)(Q:Bool->Shared->Prop)(E:zu),i<n->P i v->J i s.heap->(∀h' tk r,s.toks<=tk->Heap.SameBut S s.heap h'->J (i+1) h'->Q r {s with heap:=h',toks:=tk})->wpAny (model prog w) A.in1 (setAdd S v) Q E s):
  ∀(k i:Nat)(s:Shared),n-i=k->i<=n->St i s->J i s.heap->(∀s',Moved (S::wr) G s s'->J n s'.heap->R (.ok (.ret .none)) s')->
   codeAny (model prog w) A (.builtin "set.update.loop" #[[.ref S,.ref I],[]]) R s:=by
 intro k;induction k with
 |zero=>
  intro i s hk hi st hJ hR;let e:i=n:=∅
  subst e;show codeAny_builtin F.entry_set_update_loop ?_;show qa (W.done s _ _ st λs' O=>?_);show qb (hR s' (O.mono λb L=>qk _ L) (stay _ _ _ (q9 _) hJ O.heap))
 |succ k ih=>
  intro i s hk hi st hJ hR;let B:i<n:=∅
  show codeAny_builtin F.entry_set_update_loop ?_;show qa (W.item i s _ _ B st λv s' hP h1 O=>?_);show qa (zp (step i v s' _ _ B hP (stay _ _ _ hi hJ O.heap) λh' tk r ht sb h4=>?_));show qb #[plainId_quiet F.plain_set_update_loop _,ih (i+1) _ ∅ B (W.frame _ s' _ _ h1 ht λb L o e=>?_) h4 λh2 M Y=>?_]
  .rw[sb.2 b (λz=>h3 (z▸L))];show e
  .show hR h2 (Moved.trans W.gtrans ((O.mono λb L=>qk _ L).then_heap ht λb o L e=>?_) M) Y;rw[sb.2 b (λz=>L (z▸qm))];show e
def CV(x:Value)(h:Q (.ref s.heap.objs.size) {s with heap:=s.heap.push (freshSet (ldOf w))}):
  codeAny (model prog w) A (.call (.builtin "set.__new__") #[[.type "set",x],[]]) (wants Q E) s:=by
 show codeAny_of_tree ?_;show qa (zr (F.newCall_set_1 x) (qb #[plainId_quiet F.plain_set_new _,codeAny_builtin F.entry_set_new ?_]));unfold Builtin.«set.__new__» Builtin.Frozenset.newClass;let B:=sub_set_self
 wp_walk
 show wpAny_askSetting (qb ?_);show qa (wpAny_alloc (qb ?_));show qb h
@[inline]def WalkOk(prog:Program)(w:World)(s:Shared)(x:Value)(n:Nat)(P:Nat->Value->Prop):Prop:=∀(A:Around)(E:zu)(B:Shared)(Q:zu),(∀b o,s.heap.get? b=some o->B.heap.get? b=some o)->
 (∀(o:Obj)(fp:List Addr)(St:Nat->Heap->Prop),(∀A:Around,A.handled=none->Walks prog w A B.heap.objs.size fp [B.heap.objs.size] n P St)->St 0 (B.heap.push o)->(∀b∈fp,b=B.heap.objs.size\/b<s.heap.objs.size)->Q (.ref B.heap.objs.size) {B with heap:=B.heap.push o})->
 wpAny (model prog w) A (pyIter x) Q E B
def FY(G:s.TypeIs x T)(F:isSubtype (.type T) (.type "set")=pure false)(B:isSubtype (.type T) (.type "frozenset")=pure false)(h:Q false s):wpAny (model prog w) A (Builtin.Frozenset.isAnySet x) Q E s:=by show qa (wpAny_isInstance G F ?_);show wpAny_isInstance G B h
set_option maxHeartbeats 3200000 in
theorem call_set{J:Nat->Heap->Prop}(hh:A.handled=none)(hT:s.TypeIs x T)(e2:isSubtype (.type T) (.type "set")=pure false)(e1:isSubtype (.type T) (.type "frozenset")=pure false)(e3:(Value.type T==Value.type "dict")=false)
  (W:WalkOk prog w s x n P)(h0:∀h,h.get? s.heap.objs.size=⇑(freshSet (ldOf w))->(∀b o,s.heap.get? b=⇑o->h.get? b=⇑o)->J 0 h)
  (stay:∀i h h',i<=n->J i h->(∀b o,b≠s.heap.objs.size+1->h.get? b=⇑o->h'.get? b=⇑o)->J i h')
  (step:∀(A:Around) i v(s':Shared)(Q:Bool->Shared->Prop)(E:zu),i<n->P i v->J i s'.heap->(∀h' tk r,s'.toks<=tk->Heap.SameBut s.heap.objs.size s'.heap h'->J (i+1) h'->Q r {s' with heap:=h',toks:=tk})->A.units<=B->wpAny (model prog w) A (setAdd s.heap.objs.size v) Q E s')
  (hB:A.units+20<=B)
  (h:∀(h':Heap)(tk:Nat),J n h'->(∀b o,s.heap.get? b=⇑o->h'.get? b=⇑o)->s.toks<=tk->Q (.ref s.heap.objs.size) {s with heap:=h',toks:=tk}):
  wpAny (model prog w) A (call (.type "set") [x]) Q E s:=by
 let#[c,tl,hl]:=F.called_set.mro;let e4:=F.called_set.made;let hs:=F.called_set.sub;show wpAny_call (codeAny_of_tree ?_);show wpAny _ _ (callAny (.type "set") _) _ _ _;show qb #[Code.quiet_builtin _ (by decide+kernel),codeAny_builtin F.entry_type_call ?_];rw[Around.under_plain (weight_type_call_type "set" [x] []) rfl];let h1:=F.called_set.notType;let h2:=F.called_set.canCreate;let hq:=F.typeCall_set_1 x
 repeat (any_goals (first|assumption|wp_step))
 show codeAny_mono (CV x (E:=E) (Q:=λh5 M=>h5=.ref s.heap.objs.size/\M={s with heap:=s.heap.push (freshSet (ldOf w))}) #[rfl,rfl]) λr M hr=>?_;cases r with
 |error e=>show hr
 |ok fl=>
  cases fl with
  |ret h5=>
   let#[rfl,rfl]:=hr;let hS:(s.heap.push (freshSet (ldOf w))).get? s.heap.objs.size=⇑(freshSet (ldOf w)):=qd _ rfl;let h6:Shared.TypeIs {s with heap:=s.heap.push (freshSet (ldOf w))} (.ref s.heap.objs.size) "set":=⟨_,hS,rfl⟩
   let hd:=F.called_set.init.lookup;let ha:=F.called_set.init.bind (.ref s.heap.objs.size)
   repeat (any_goals (first|assumption|wp_step))
   show codeAny_mono (codeAny_call_builtin (R:=wants (λr L=>r=.none/\∃h' tk,L={s with heap:=h',toks:=tk}/\J n h'/\(∀b o,s.heap.get? b=⇑o->h'.get? b=⇑o)/\s.toks<=tk) E) F.called_set.init.plain F.entry_set_init (check_set_init_1 h6 ?_)) λh4 L G=>?_
   .have O:Shared.TypeIs {s with heap:=s.heap.push (freshSet (ldOf w))} x T:=by
     cases x with
     |ref l=>let#[o,e,q]:=hT;show#[o,qc _ e,q]
     |_=>show hT
    unfold Builtin.«set.__init__» noKeywords;generalize hp:Builtin.Frozenset.updateFrom=UF;unfold freshSet at hS h6 O⊢
    wp_walk
    subst hp;unfold Builtin.Frozenset.updateFrom;show qa (FY O e2 e1 ?_);simp only[false_eq_true,if_false];show qa (wpAny_typeOf O ?_);rw[e3];simp only[false_eq_true,if_false];show qa (W _ _ _ _ (λb o e=>qc _ e) λo fp St wk h8 hx=>?_);let hz:(s.heap.push (freshSet (ldOf w))).objs.size=s.heap.objs.size+1:=Heap.size_push ..;let hc:s.heap.objs.size∉fp:=λz=>by
     rcases hx _ z with y|y
     .rw[show s.heap.objs.size=(s.heap.push (freshSet (ldOf w))).objs.size from y]at hz;show absurd hz (ne_of_lt (lt_succ_self _))
     .show lt_irrefl _ y
    refine qa (wpAny_runValue ?_);refine CS (wk A.in1.in1.in1 hh).toS s.heap.objs.size hc (J:=J) (λi h h' hi Y hk=>stay i h h' hi Y λb o hb e=>hk b o (λz=>hb (by rw[<-hz];show qu.mp z)) e)
     (λi v s' Q E hi hP Y hk=>step _ i v s' Q E hi hP Y hk (by show A.units+1+1+1<=B;lia)) (n-0) 0 _ rfl (zero_le _) h8 (h0 _ (qc _ hS) λb o e=>qc _ (qc _ e)) λs' hm Y=>?_
    let#[h',g',d',h7,h9]:=s';let eg:g'=s.gens:=hm.gens;let ed:d'=s.drawn:=hm.drawn;let eo:h9=s.os:=hm.os;subst eg ed eo;show qb ?_;show wpAny _ _ (ret Value.none) _ _ _;show qb #[rfl,h',h7,rfl,Y,λb o e=>?_,hm.toks];let hb:=lt_of_get e;show hm.heap b o (λz=>?_) (qc _ (qc _ e));rcases qA.mp z with z|z
    .show ne_of_lt hb z
    .let:=qu.mp z;rw[this]at hb;show absurd hb (by show¬(s.heap.push (freshSet (ldOf w))).objs.size<_;rw[hz];show not_lt.mpr (le_succ _))
   .cases h4 with
    |error e=>show G
    |ok h3=>
     cases h3 with
     |ret r=>
      let#[rfl,h',tk,rfl,Y,hk,ht]:=G
      repeat (any_goals (first|assumption|wp_step))
      show h _ _ Y hk ht
     |_=>show G.elim
  |_=>show hr.elim
theorem walk_list(M:s.heap.IsList l items):WalkOk prog w s (.ref l) items.size (λi v=>items[i]?=⇑v):=λA E J Q L h=>by
 let#[o,e,r]:=M;let F:J.heap.IsList l items:=#[o,L _ _ e,r]
 have G:=lt_of_get e;let B:=lt_of_get (L _ _ e);exact wpAny_pyIter_list F (h _ [J.heap.objs.size,l] _ (λA Y=>Walks.list Y _ l (ne_of_lt B) items) #[#[_,qd _ rfl,rfl,rfl],F.push _] λb O=>by
  rcases qA.mp O with z|z
  .show .inl z
  .show .inr (by rw[qu.mp z];show G))
theorem walk_tuple(M:s.heap.IsTuple l items):WalkOk prog w s (.ref l) items.size (λi v=>items[i]?=⇑v):=λA E J Q L h=>by
 let#[o,e,r]:=M;let F:J.heap.IsTuple l items:=#[o,L _ _ e,r]
 have G:=lt_of_get e;let B:=lt_of_get (L _ _ e);exact wpAny_pyIter_tuple F (h _ [J.heap.objs.size,l] _ (λA Y=>Walks.tuple Y _ l (ne_of_lt B) items) #[#[_,qd _ rfl,rfl,rfl],let#[o,e,r]:=F;#[o,qc _ e,r]] λb O=>by
  rcases qA.mp O with z|z
  .show .inl z
  .show .inr (by rw[qu.mp z];show G))
end ST
theorem m1{α:Type}{a:α}{l:List α}:a∈a::l:=.head _
theorem m2{α:Type}{a b:α}{l:List α}:b∈a::b::l:=.tail _ m1
def Em(i:Int)(n:Nat):max 0 (min (if i<0 then i+(n:Int)else i) (n:Int))=(((if i<0 then(i+(n:Int)).toNat else min i.toNat n):Nat):Int):=by
 by_cases h:i<0
 .rw[qZ h,qZ h,Int.min_eq_left ∅,Int.ofNat_toNat,Int.max_comm]
 .rw[q8 h,q8 h];let#[k,rfl]:=Int.eq_ofNat_of_zero_le (Int.not_lt.mp h);rw[qV];rcases Nat.le_total k n with q|q
  .rw[Nat.min_eq_left q,Int.min_eq_left (Int.ofNat_le.mpr q),Int.max_eq_right (Int.natCast_nonneg k)]
  .rw[Nat.min_eq_right q,Int.min_eq_right (Int.ofNat_le.mpr q),Int.max_eq_right (Int.natCast_nonneg n)]
theorem cps{A:Prop}(h:∀G:Prop,(A->G)->G):A:=h A id
namespace ST
open PySem PySem.SetTable
section
variable{prog:Program}{w:World}{A:Around}{E:zu}{s:Shared}{a b:Addr}{K:Type}[DecidableEq K]{knd:KeyKind prog w K}{ks:List K}{ld:Bool}{xs:List (List K×Addr)}
theorem setAddT(J:A.units<cLine)(B:IsTupleKey knd s.heap ks b)(hS:TSet ld (tupleKind knd) s.heap a xs)(F:xs.length<=150)
  (h1:ks∈xs.map (·.1)->∀tk r,s.toks<=tk->Q r {s with toks:=tk})
  (h2:ks∉xs.map (·.1)->∀h' ys tk r,Heap.SameBut a s.heap h'->ys.Perm ((ks,b)::xs)->TSet ld (tupleKind knd) h' a ys->s.toks<=tk->Q r {s with heap:=h',toks:=tk}):
  wpAny (model prog w) A (setAdd a (.ref b)) Q E s:=by
 show zp (qa ((tupleKind knd).pyHash J B ?_));show EH (s:={s with toks:=s.toks+(tupleKind knd).draws ks}) (knd:=tupleKind knd) (λB q=>Ct B q) (λB q=>CT B q) (λB Y hd O=>Cs B Y hd O) J B hS F (λG=>h1 G _ _ (Nat.le_add_right _ _)) λG h' ys L M T=>h2 G h' ys _ _ L M T (Nat.le_add_right _ _)
theorem call_add_of(B:s.TypeIs (.ref a) "set")(h:wpAny (model prog w) A.in1 (setAdd a v) (λ_ s'=>Q .none s') E s):wpAny (model prog w) A (call (.builtin "set.add") [.ref a,v]) Q E s:=by show zl F.slot_set_add B F.entry_set_add ?_ (F.args_set_add_2 _ _);unfold Builtin.«set.add» Builtin.Frozenset.oneOther;simp only[List.isEmpty_nil,bind_assoc];show qa (qb ?_);show qa (qb ?_);show qa (zt h (λr s' q=>qb #[_,rfl,q]) λ_ _ z=>z)
@[inline]def TRaw(ld:Bool)(knd:HeapKind prog w K)(h:Heap)(a:Addr)(xs:List (K×Addr)):Prop:=∃o es ep t,h.get? a=some o/\o.ExactSet/\o.data=.set es ep t/\t.led=ld/\gG t (es.toList.map (·.1))/\eD t es.size/\es.toList=dX knd xs/\(xs.map (·.1)).Nodup
def TRaw.full{knd:HeapKind prog w K}{xs:List (K×Addr)}(x:TRaw ld knd h a xs)(k:∀x∈xs,knd.is h x.1 x.2):TSet ld knd h a xs:=by let#[o,es,ep,t,h1,h2,M,L,J,G,F,B]:=x;show#[o,es,ep,t,h1,h2,M,L,J,G,F,k,B]
def TSet.raw{knd:HeapKind prog w K}{xs:List (K×Addr)}(x:TSet ld knd h a xs):TRaw ld knd h a xs:=by let#[o,es,ep,t,h1,h2,M,L,J,G,F,k,B]:=x;show#[o,es,ep,t,h1,h2,M,L,J,G,F,B]
def VSet.len{xs:List (K×Value)}(x:VSet ld knd s.heap a xs)(hz:xs.length<=1000)(h:Q (.int xs.length (s.toks+1)) {s with toks:=s.toks+1+1}):wpAny (model prog w) A (call (.builtin "len") [.ref a]) Q E s:=by
 let#[o,es,ep,t,F,hex,J,T,G,_]:=x;let B:es.size=xs.length:=by rw[<-qU,G];simp[eG]
 show call_len_set F hex J T.fit (by rw[B];lia) (by rw[B];show h)
def TRaw.len{knd:HeapKind prog w K}{xs:List (K×Addr)}(x:TRaw ld knd s.heap a xs)(hz:xs.length<=1000)(h:Q (.int xs.length (s.toks+1)) {s with toks:=s.toks+1+1}):wpAny (model prog w) A (call (.builtin "len") [.ref a]) Q E s:=by
 let#[o,es,ep,t,F,hex,J,_,T,_,G,_]:=x;let B:es.size=xs.length:=by rw[<-qU,G];simp[dX]
 show call_len_set F hex J (T.fits (by simp)) (by rw[B];lia) (by rw[B];show h)
end
instance okDec(m:Nat):Decidable (bH m):=by unfold bH;infer_instance
end ST
namespace ST
open PySem PySem.W
abbrev tup2(k v:Value):Obj:={cls:=.type "tuple",data:=.seq [k,v].toArray}
abbrev lstO(B:Array Value)(c:Nat):Obj:={cls:=.type "list",dict:=none,data:=.seq B c,slots:=#[]}
end ST
namespace L2
open PySem PySem.Spec PyProof.Rows
abbrev aP:=Sum Int Str
def fL:aP->Value->Bool
 |.inl k,v=>Value.isInt k v
 |.inr x,v=>Value.isStrOf x v
def fv(w:World):aP->Int
 |.inl k=>hashInt k
 |.inr x=>hashStr w x
def Dv:∀{k:aP}{v:Value},fL k v=true->(∃i t,k=Sum.inl i/\v=Value.int i t)\/(∃x t,k=Sum.inr x/\v=Value.str x t)
 |.inl i,v,h=>by let#[t,e]:=Value.isInt_shape (k:=i) (v:=v) h;show .inl #[i,t,rfl,e]
 |.inr x,v,h=>by let#[t,e]:=Value.isStrOf_shape (x:=x) (v:=v) h;show .inr #[x,t,rfl,e]
def SU(i:Int)(t:Tok):fL (.inl i) (.int i t)=true:=by simp[fL,Value.isInt]
def RS(x:Str)(t:Tok):fL (.inr x) (.str x t)=true:=by simp[fL,Value.isStrOf]
def NF(a b:Int):↥((Sum.inl a:aP)=Sum.inl b)=(a==b):=by grind
def Os(a b:Str):↥((Sum.inr a:aP)=Sum.inr b)=↥(a=b):=by grind
def NL(a:Int)(b:Str):↥((Sum.inl a:aP)=Sum.inr b)=false:=qR (λq=>nomatch q)
def NM(a:Str)(b:Int):↥((Sum.inr a:aP)=Sum.inl b)=false:=qR (λq=>nomatch q)
def aG(prog:Program)(w:World):PySem.KeyKind prog w aP where
 is:=fL
 hash:=fv w
 inj:=λv a b ha hb=>by
  rcases Dv ha with⟨i,t,rfl,rfl⟩|⟨x,t,rfl,rfl⟩
  .rcases Dv hb with⟨j,u,rfl,e⟩|⟨y,u,rfl,e⟩
   .injection e with e1 _;rw[e1]
   .show nomatch e
  .rcases Dv hb with⟨j,u,rfl,e⟩|⟨y,u,rfl,e⟩
   .show nomatch e
   .injection e with e1 _;rw[e1]
 byValue:=λk v h=>by rcases Dv h with⟨i,t,rfl,rfl⟩|⟨x,t,rfl,rfl⟩<;>rfl
 pyHash:=λhv h=>by
  rcases Dv hv with⟨i,t,rfl,rfl⟩|⟨x,t,rfl,rfl⟩
  .show wpAny_pyHash_int h
  .show wpAny_pyHash_str h
 eqBool:=λhu hv h=>by
  rcases Dv hu with⟨i,t,rfl,rfl⟩|⟨x,t,rfl,rfl⟩
  .rcases Dv hv with⟨j,u,rfl,rfl⟩|⟨y,u,rfl,rfl⟩
   .rw[NF]at h;show wpAny_eqBool_int h
   .rw[NL]at h;show SeqAt.EqAt.int_str i t y u _ _ _ _ h
  .rcases Dv hv with⟨j,u,rfl,rfl⟩|⟨y,u,rfl,rfl⟩
   .rw[NM]at h;show SeqAt.EqAt.str_int x t j u _ _ _ _ h
   .rw[Os]at h;show wpAny_eqBool_str h
 «strs»:=λk x t v h=>by
  rcases Dv h with⟨i,u,rfl,e⟩|⟨y,u,rfl,e⟩
  .show nomatch e
  .injection e with e1 _
   subst e1;cases v<;>rfl
def Uk(prog:Program)(w:World)(i:Int)(t:Tok):(aG prog w).is (.inl i) (.int i t)=true:=SU i t
def Uq(prog:Program)(w:World)(x:Str)(t:Tok):(aG prog w).is (.inr x) (.str x t)=true:=RS x t
inductive V where
 |non|bl(b:Bool)|int(i:Int)|str(x:Str)|byt(b:Array UInt8)|flt(b:UInt64)|ref(a:Addr)|ty(n:String)
 deriving DecidableEq
def zJ:V->Value->Prop
 |.non,u=>u=Value.none
 |.bl b,u=>u=Value.bool b
 |.int i,u=>∃t,u=Value.int i t
 |.str x,u=>∃t,u=Value.str x t
 |.byt b,u=>∃t,u=Value.bytes b t
 |.flt b,u=>∃t,u=Value.float b t
 |.ref a,u=>u=Value.ref a
 |.ty n,u=>u=Value.type n
abbrev zQ:List V->List Value->Prop:=Paired zJ
def zQ.length(r:zQ xs us):xs.length=us.length:=Paired.length r
def zQ.get:∀{xs:List V}{us:List Value}{i:Nat}{x:V},zQ xs us->xs[i]?=⇑x->∃u,us[i]?=⇑u/\zJ x u
 |_,_,_,_,.nil,e=>by simp at e
 |_,_,0,_,.cons r _,e=>by simp at e;subst e;show#[_,rfl,r]
 |_,_,i+1,x,.cons _ t,e=>by let#[u,h1,h2]:=zQ.get (i:=i) (x:=x) t ↑e;show#[u,↑h1,h2]
def zQ.set(r:zJ x u):∀{xs:List V}{us:List Value}(i:Nat),zQ xs us->zQ (xs.set i x) (us.set i u)
 |_,_,_,.nil=>.nil
 |_,_,0,.cons _ t=>.cons r t
 |_,_,i+1,.cons q t=>.cons q (zQ.set r i t)
def zQ.append:∀{xs ys:List V}{us B:List Value},zQ xs us->zQ ys B->zQ (xs++ys) (us++B):=by
 intro xs ys us B r s;induction r with
 |nil=>show s
 |cons r _ F=>show .cons r F
def zQ.take:∀{xs:List V}{us:List Value}(n:Nat),zQ xs us->zQ (xs.take n) (us.take n)
 |_,_,0,_=>.nil
 |_,_,_+1,.nil=>.nil
 |_,_,n+1,.cons r t=>.cons r (zQ.take n t)
def zQ.drop:∀{xs:List V}{us:List Value}(n:Nat),zQ xs us->zQ (xs.drop n) (us.drop n)
 |_,_,0,r=>r
 |_,_,_+1,.nil=>.nil
 |_,_,n+1,.cons _ t=>zQ.drop n t
def zQ.none_of:∀{xs:List V}{us:List Value}{i:Nat},zQ xs us->xs[i]?=none->us[i]?=none:=λ{xs us i} r e=>by let h1:=r.length;let h2:xs.length<=i:=List.getElem?_eq_none_iff.mp e;show List.getElem?_eq_none_iff.mpr ∅
def fQ:Option V->Option Value->Prop
 |some v,some u=>zJ v u
 |none,none=>True
 |_,_=>False
@[inline]def KV{κ:Type}:List (κ×V)->List (κ×Value)->Prop:=Paired λ(p:κ×V)(q:κ×Value)=>p.1=q.1/\zJ p.2 q.2
def kV:aP->V
 |.inl i=>.int i
 |.inr x=>.str x
inductive HO where
 |lst(xs:List V)
 |tup(xs:List V)
 |dK(zU:List (aP×V))|dT(zU:List (List aP×V))
 |set(vs:List V)
 |ins(C dx:Addr)(fs:List (Str×V))
 |own(x:Addr)
 |xd(fs:List (Str×V))
 |met(f x:Addr)
 |rng(lo hi:Int)
 |frz(o:Obj)(u:HO)
 |tbl(ps:Array Value)
 |ext(φ:Heap->Prop)
abbrev Hp:=Addr->Option HO
def upd(H:Hp)(a:Addr)(o:HO):Hp:=λb=>if b=a then ⇑o else H b
def AI:upd H a o a=⇑o:=by unfold upd;rw[qZ rfl]
def Aj(h:b≠a):upd H a o b=H b:=by unfold upd;rw[q8 h]
def MQ{H:Hp}(h:H a=⇑o)(h':H b=⇑u)(d:o≠u):a≠b:=by grind
def CM{H:Hp}(h:H a=⇑o)(h':H b=none):a≠b:=by intro e;subst e;rw[h]at h';cases h'
section
variable(P:Program)(w:World)
def iY(h:Heap)(a:Addr):Prop:=∀o,h.get? a=⇑o->o.dict=none
def iY.new{h:Heap}{c:Value}{x:Data}{n:Addr}(e:n=h.objs.size)(B:(h.push {cls:=c,data:=x}).get? h.objs.size=some {cls:=c,data:=x}):iY (h.push {cls:=c,data:=x}) n:=λo q=>by subst e;rw[B]at q;cases q;rfl
def zS(H:Hp)(h:Heap)(a:Addr):HO->Prop
 |.lst xs=>xs.length<=sizeLine/\∃(B:List Value)(n:Nat),zQ xs B/\h.get? a=some {cls:=.type "list",data:=.seq B.toArray n}
 |.tup xs=>(xs.length<=sizeLine/\iY h a)/\∃B:List Value,zQ xs B/\IsTup h a B.toArray
 |.dK zU=>zU.length<=sizeLine/\(a==sysModules)=false/\∃vs,KV zU vs/\h.DictOf (aG P w) a vs
 |.dT zU=>zU.length<=sizeLine/\(a==sysModules)=false/\∃xs:List (List aP×Addr×Value),
  Paired (λ(p:List aP×V)(q:List aP×Addr×Value)=>p.1=q.1/\H q.2.1=⇑(.tup (p.1.map kV))/\zJ p.2 q.2.2) zU xs/\
  ∃o es ep,h.get? a=⇑o/\o.ExactDict/\o.data=.dict es ep/\es.toList=xs.map (entryOfKey (tupleKind (aG P w)))/\(xs.map (·.1)).Nodup
 |.set vs=>vs.length<=151/\((vs=[]/\h.get? a=⇑(ST.freshSet (ST.ldOf w)))\/(vs≠[]/\∃xs:List (aP×Value),vs.Perm (xs.map λp=>kV p.1)/\ST.VSet (ST.ldOf w) (aG P w) h a xs)\/vs≠[]/\∃xs:List (List aP×Addr),vs.Perm (xs.map λp=>V.ref p.2)/\(∀p∈xs,H p.2=⇑(.tup (p.1.map kV)))/\ST.TRaw (ST.ldOf w) (tupleKind (aG P w)) h a xs)
 |.ins C dx fs=>H dx=⇑(.own a)/\fs.length<=1000/\dx≠a/\h.get? a=⇑(W.instObj C dx)/\
  ∃F,h.Ns1 dx F/\(∀f,fQ (fs.lookup f) (F f))/\PySem.Within F (fs.map (·.1))
 |.own _=>∃o,h.get? a=⇑o
 |.xd fs=>∃F,h.Ns1 a F/\∀f,fQ (fs.lookup f) (F f)
 |.rng lo hi=>∃t u v,h.get? a=some {cls:=.type "range",data:=.fields [.int lo t,.int hi u,.int 1 v].toArray}
 |.frz o u=>h.get? a=⇑o/\zS H h a u
 |.tbl ps=>h.get? a=some {cls:=.none,data:=.fields ps}
 |.met f x=>h.get? a=⇑(W.methodObj (.ref f) (.ref x))
 |.ext φ=>φ h/\(∃o,h.get? a=⇑o)/\∀h1 h2:Heap,φ h1->(∀o,h1.get? a=⇑o->h2.get? a=⇑o)->φ h2
def dI(H:Hp)(h:Heap):Prop:=∀a o,H a=⇑o->zS P w H h a o
end
section
variable{P:Program}{w:World}{H H':Hp}{h h':Heap}{a:Addr}{o:HO}
def zS.lt(x:zS P w H h a o):a<h.objs.size:=by
 cases o with
 |lst xs=>let#[_,_,_,_,e]:=x;show qe e
 |tup xs=>let#[_,_,_,p]:=x;show p.lt
 |dK B=>let#[_,_,_,_,o,_,_,e,_]:=x;show qe e
 |dT B=>let#[_,_,_,_,o,_,_,e,_]:=x;show qe e
 |set vs=>
  rcases x with⟨_,⟨_,e⟩|⟨_,_,_,_,_,_,_,e,_⟩|⟨_,_,_,_,_,_,_,_,e,_⟩⟩
  .show qe e
  .show qe e
  .show qe e
 |ins C dx fs=>let#[_,_,_,e,_]:=x;show qe e
 |own y=>let#[_,e]:=x;show qe e
 |xd fs=>let#[_,#[_,_,_,e,_],_]:=x;show qe e
 |rng lo hi=>let#[_,_,_,e]:=x;show qe e
 |frz F u=>let#[e,_]:=x;show qe e
 |tbl ps=>show qe (show h.get? a=⇑_ from x)
 |met f y=>show qe (show h.get? a=⇑_ from x)
 |ext φ=>let#[_,#[_,e],_]:=x;show qe e
def Paired.mapP:∀{l₁:List α}{l₂:List β},Paired F l₁ l₂->(∀a b,F a b->G a b)->Paired G l₁ l₂
 |_,_,.nil,_=>.nil
 |_,_,.cons r t,f=>.cons (f _ _ r) (Paired.mapP t f)
def zS.stay(x:zS P w H h a o)(k:∀b u,(b=a\/H b=⇑(.own a))->h.get? b=⇑u->h'.get? b=⇑u)
  (ho:∀b,H b=⇑(.own a)->H' b=⇑(.own a))(M:∀b xs,H b=⇑(.tup xs)->H' b=⇑(.tup xs)):zS P w H' h' a o:=by
 induction o with
 |lst xs=>let#[z,F,n,r,e]:=x;show#[z,F,n,r,k _ _ (.inl rfl) e]
 |tup xs=>let#[#[z,Y],F,r,B,e,c]:=x;show#[#[z,λo q=>by rw[k _ _ (.inl rfl) e]at q;cases q;show Y _ e],F,r,B,k _ _ (.inl rfl) e,c]
 |dK L=>let#[z,y,vs,r,B,es,ep,e,c]:=x;show#[z,y,vs,r,B,es,ep,k _ _ (.inl rfl) e,c]
 |dT L=>let#[z,y,xs,r,B,es,ep,e,c]:=x;show#[z,y,xs,Paired.mapP r λp q z=>#[z.1,M _ _ z.2.1,z.2.2],B,es,ep,k _ _ (.inl rfl) e,c]
 |set vs=>
  rcases x with⟨z,⟨n,e⟩|⟨n,xs,p,B,es,ep,t,e,c⟩|⟨n,xs,p,hx,B,es,ep,t,e,c⟩⟩
  .show#[z,.inl #[n,k _ _ (.inl rfl) e]]
  .show#[z,.inr (.inl #[n,xs,p,B,es,ep,t,k _ _ (.inl rfl) e,c])]
  .show#[z,.inr (.inr #[n,xs,p,λq hq=>M _ _ (hx q hq),B,es,ep,t,k _ _ (.inl rfl) e,c])]
 |ins C dx fs=>let#[d,z,O,e,J,#[G,es,ep,e2,c],r]:=x;show#[ho _ d,z,O,k _ _ (.inl rfl) e,J,#[G,es,ep,k _ _ (.inr d) e2,c],r]
 |own y=>let#[B,e]:=x;show#[B,k _ _ (.inl rfl) e]
 |xd fs=>let#[J,#[G,es,ep,e,c],r]:=x;show#[J,#[G,es,ep,k _ _ (.inl rfl) e,c],r]
 |rng lo hi=>let#[t,u,v,e]:=x;show#[t,u,v,k _ _ (.inl rfl) e]
 |frz B u ih=>let#[e,q]:=x;show#[k _ _ (.inl rfl) e,ih q]
 |tbl ps=>have e:h.get? a=some {cls:=.none,data:=.fields ps}:=x;show h'.get? a=some {cls:=.none,data:=.fields ps};show k a _ (.inl rfl) e
 |met f y=>have e:h.get? a=⇑(W.methodObj (.ref f) (.ref y)):=x;show h'.get? a=⇑(W.methodObj (.ref f) (.ref y));show k a _ (.inl rfl) e
 |ext φ=>let#[p,#[o,e],st]:=x;show#[st _ _ p λo q=>k _ _ (.inl rfl) q,#[o,k _ _ (.inl rfl) e],st]
def dI.lt(x:dI P w H h)(e:H a=⇑o):a<h.objs.size:=(x a o e).lt
def dI.fresh(x:dI P w H h)(e:h.objs.size<=a):H a=none:=by
 cases q:H a with
 |none=>rfl
 |some u=>show absurd (lt_of_lt_of_le (x.lt q) e) (lt_irrefl _)
def dI.kept(x:dI P w H h)(k:∀b u,h.get? b=⇑u->h'.get? b=⇑u):dI P w H h':=λa o e=>(x a o e).stay (λb u _ q=>k b u q) (λ_ q=>q) λ_ _ q=>q
def dI.laid(x:dI P w H h)(k:∀b u,h.get? b=⇑u->h'.get? b=⇑u)(G:h.objs.size<=a)(new:zS P w (upd H a o) h' a o):dI P w (upd H a o) h':=λb u e=>by
 let B:=x.fresh G;by_cases F:b=a
 .subst F;rw[AI]at e;cases e;show new
 .rw[Aj F]at e;show(x b u e).stay (λc v _ q=>k c v q) (λc q=>by rw[Aj (CM q B)];show q) λc xs q=>by rw[Aj (CM q B)];show q
end
@[inline]def Rd(H:Hp)(a:Addr)(u:HO):Prop:=H a=some u\/∃o,H a=some (.frz o u)
def Rd.of(h:H a=⇑u):Rd H a u:=.inl h
def Rd.ok(r:Rd H a u)(x:dI P w H h):zS P w H h a u:=by
 rcases r with r|⟨o,r⟩
 .show x a u r
 .obtain⟨_,q⟩:=x a _ r;show q
def xY:Option HO->Prop
 |some (.lst _)=>True
 |some (.dK _)=>True
 |some (.dT _)=>True
 |some (.set _)=>True
 |some (.ins _ _ _)=>True
 |some (.ext _)=>True
 |_=>False
section
variable{P:Program}{w:World}{H:Hp}{h h':Heap}{x e:Addr}{o':HO}
def dI.write(ok:dI P w H h)(G:xY (H x))(he:e=x\/H e=⇑(.own x))(k:∀b u,b≠e->h.get? b=⇑u->h'.get? b=⇑u)(J:∃u,h'.get? e=⇑u)
  (new:zS P w (upd H x o') h' x o'):dI P w (upd H x o') h':=λb u q=>by
 let F:∀c y,H c=⇑(.own y)->c≠x:=λc y r z=>by subst z;rw[r]at G;show G
 let B:∀c xs,H c=⇑(.tup xs)->c≠x:=λc xs r z=>by subst z;rw[r]at G;show G
 by_cases O:b=x
 .subst O;rw[AI]at q;cases q;show new
 .rw[Aj O]at q;by_cases L:b=e
  .let M:H b=⇑(.own x):=by grind
   rw[q]at M;cases M;let#[v,Y]:=J;show#[v,by rw[L];show Y]
  .show(ok b u q).stay (λc v hc r=>k c v ?_ r) (λc r=>by rw[Aj (F c b r)];show r) λc xs r=>by rw[Aj (B c xs r)];exact r
   grind
end
structure Un(fs ex:List Addr)(H H':Hp)(h h':Heap):Prop where
 keep:∀b o,h.get? b=⇑o->H b=none->b∉fs->b∉ex->h'.get? b=⇑o
 slot:∀b o,h.get? b=⇑o->H b=none->b∈fs->b∉ex->∃sl,h'.get? b=some {o with slots:=sl}
 free:∀b o,h.get? b=⇑o->H b=none->b∉ex->H' b=none
 there:∀b o,h.get? b=⇑o->b∉ex->∃o',h'.get? b=⇑o'
 tups:∀b xs,H b=⇑(.tup xs)->H' b=⇑(.tup xs)
 frzs:∀b o u,H b=⇑(.frz o u)->H' b=⇑(.frz o u)
 tbls:∀b ps,H b=⇑(.tbl ps)->∃more,H' b=⇑(.tbl (ps++more))
section
variable{fs fs' ex ex':List Addr}{H H1 H2:Hp}{h h1 h2 h':Heap}{a x e:Addr}{o:HO}
def Un.any(u:Un fs ex H H1 h h1)(q:h.get? b=⇑B)(n:H b=none)(F:b∉ex):∃J,h1.get? b=some {B with slots:=J}:=by
 by_cases G:b∈fs
 .show u.slot b B q n G F
 .show#[B.slots,u.keep b B q n G F]
def Un.kept(k:∀b u,h.get? b=⇑u->h'.get? b=⇑u):Un fs ex H H h h':=
 #[λb B q _ _ _=>k b B q,λb B q _ _ _=>#[B.slots,k b B q],λ_ _ _ n _=>n,λb B q _=>#[B,k b B q],λ_ _ q=>q,λ_ _ _ q=>q,λ_ ps q=>#[#[],by rw[q];simp]]
def Un.refl:Un fs ex H H h h:=Un.kept λ_ _ q=>q
def Un.laid(k:∀b u,h.get? b=⇑u->h'.get? b=⇑u)(hp:h.objs.size<=a)(hn:H a=none):Un fs ex H (upd H a o) h h' where
 keep:=λb u q _ _ _=>k b u q
 slot:=λb u q _ _ _=>#[u.slots,k b u q]
 free:=λb u q n _=>by rw[Aj (ne_of_lt (lt_of_lt_of_le (qe q) hp))];show n
 there:=λb u q _=>#[u,k b u q]
 tups:=λb xs q=>by rw[Aj (CM q hn)];show q
 frzs:=λb u xs q=>by rw[Aj (CM q hn)];show q
 tbls:=λb ps q=>#[#[],by rw[Aj (CM q hn),q];simp]
def Un.write(B:xY (H x))(M:e=x\/H e=⇑(.own x))(k:∀b u,b≠e->h.get? b=⇑u->h'.get? b=⇑u)(L:∃u,h'.get? e=⇑u):Un fs ex H (upd H x o) h h':=by
 let J:∀b,H b=none->b≠x:=λb n z=>by subst z;rw[n]at B;show B
 let G:∀b,H b=none->b≠e:=λb n z=>by grind
 let F:∀b u,H b=⇑u->¬xY ⇑u->b≠x:=λb u q nm z=>by subst z;rw[q]at B;show nm B
 refine⟨λb u q n _ _=>k b u (G b n) q,λb u q n _ _=>#[u.slots,k b u (G b n) q],λb u q n _=>by rw[Aj (J b n)];exact n,λb u q _=>?_,
  λb xs q=>by rw[Aj (F b _ q λz=>z)];show q,λb u xs q=>by rw[Aj (F b _ q λz=>z)];show q,λb ps q=>#[#[],by rw[Aj (F b _ q λz=>z),q];simp]⟩
 grind
end
def ay(h:Heap)(H:Hp):List Addr:=(List.range h.objs.size).filter λa=>(H a).isSome
def gT(h:Heap)(H:Hp):Heap:=W.hideAll h (ay h H)
def SK(h:Heap)(H:Hp):(gT h H).objs.size=h.objs.size:=W.hideAll_size _ _
def Ql(e:h.get? b=⇑o)(n:H b=none):(gT h H).get? b=⇑o:=
 W.hideAll_get _ e λB=>by let q:(H b).isSome=true:=(mem_filter.mp B).2;rw[n]at q;simp at q
def Pg(e:(gT h H).get? b=⇑o):h.get? b=⇑o/\H b=none:=by
 let B:h.get? b=⇑o:=W.of_hideAll (ay h H) e;show#[B,?_];cases q:H b with
 |none=>rfl
 |some x=>grind[ay,mem_filter,mem_range,Heap.lt_size,gT,W.hideAll_none]
def kE(g h:Heap)(L:Addr):List (Addr×Obj):=(List.range h.objs.size).filterMap λa=>if a=L\/(g.get? a).isSome=true then none else(h.get? a).map λo=>(a,o)
def Ul(h1:a≠L)(h2:g.get? a=none)(B:h.get? a=⇑o):(a,o)∈kE g h L:=
 mem_filterMap.mpr #[a,qI.mpr (qe B),by simp[h1,h2,B]]
def rest(g h:Heap)(L d:Addr):List (Addr×Obj):=(kE g h L).filter λp=>↥(p.1≠d)
theorem zbM(h1:a≠L)(h2:g.get? a=none)(F:h.get? a=⇑o)(B:a≠d):(a,o)∈rest g h L d:=
 mem_filter.mpr #[Ul h1 h2 F,qQ B]
structure Mod(K:W.Frag)(mg:Str->Option Value)(base:Heap):Prop where
 kin:K.In base
 glob:base.Ns mainGlobals mg
 blt:∃mb,base.Ns builtinsNs mb/\∀x:Str,x≠"__name__"->mb x=bootBuiltins x
 nolimit:base.NoLimit
structure Cx where
 prog:Program
 w:World
 K:W.Frag
 mg:Str->Option Value
 base:Heap
 A:Around
 N:List Str
 s₀:Shared
 H₀:Hp
 env:Env
 outer:List Env
 stack:List Env
 ex:List Addr
 fn:Str->Bool
 calm:Bool
 pn:List (Addr×Obj)
 xe:zu
def gZ(l:List Env):List Addr:=l.filterMap (·.frame)
abbrev Cx.fs(X:Cx):List Addr:=gZ X.outer
def uQ(B:Scope)(x:Str):Prop:=B.names.lookup x=⇑.local\/B.names.lookup x=⇑.cell\/B.names.lookup x=⇑.free
@[inline]def Loc(B:Scope)(x:Str):Prop:=B.names.lookup x=some .local\/B.names.lookup x=some .cell
@[inline]def Look(env:Env)(h:Heap)(m:Str->Option Value)(x:Str)(u:Value):Prop:=
 (env.kindOf x=⇑.local/\m x=⇑u)\/((env.kindOf x=⇑.cell\/env.kindOf x=⇑.free)/\∃c,env.cells.lookup x=⇑c/\h.IsCell c ⇑u)
structure Cx.Ok(X:Cx):Prop where
 mod:Mod X.K X.mg X.base
 kind:X.env.scope.kind=.function
 glob:X.env.globals=mainGlobals
 blt:X.env.builtins=builtinsNs
 above:X.s₀.heap.objs.size<=X.env.locals
 inj:∀x y c,X.env.cells.lookup x=⇑c->X.env.cells.lookup y=⇑c->x=y
 has:∀x,(X.env.kindOf x=⇑.cell\/X.env.kindOf x=⇑.free)->∃c,X.env.cells.lookup x=⇑c
 cab:∀x c,X.fn x=true->X.env.cells.lookup x=⇑c->X.s₀.heap.objs.size<=c
 hd:X.calm=true->X.A.handled=none
 frames:X.A.frames=⇑X.stack
 stk:X.stack=X.outer\/(X.stack=X.env::X.outer/\X.env.frame=⇑X.env.locals)
 exf:∀b∈X.ex,b≠X.env.locals/\∀x c,X.env.cells.lookup x=⇑c->c≠b
 bs:∀b o,X.base.get? b=⇑o->X.s₀.heap.get? b=⇑o/\X.H₀ b=none
 bsz:X.base.objs.size<=X.s₀.heap.objs.size
 noex:∀b o,X.base.get? b=⇑o->b∉X.ex
 exfs:∀b∈X.ex,b∉X.fs
 funs:X.s₀.heap.FunFrames X.base X.outer
 frf:∀b∈X.fs,X.H₀ b=none
structure Inv(X:Cx)(zT:List (Addr×Obj))(Z:List (Option V))(H:Hp)(s:Shared):Prop where
 ok:X.Ok
 os:s.os=X.s₀.os
 bare:AllBare s.gens
 base:Un X.fs X.ex X.H₀ H X.s₀.heap s.heap
 loc:∃m,s.heap.Ns X.env.locals m/\∀(i:Nat)(x:Str)(v:V),X.N[i]?=⇑x->Z[i]?=⇑⇑v->uQ X.env.scope x->∃u,zJ v u/\Look X.env s.heap m x u
 cell:∀x c,X.env.cells.lookup x=⇑c->∃v,s.heap.IsCell c v
 free:H X.env.locals=none
 freeC:∀x c,X.env.cells.lookup x=⇑c->H c=none
 pin:∀p∈X.pn++zT,s.heap.get? p.1=⇑p.2/\H p.1=none/\p.1≠X.env.locals/\p.1∉X.fs/\∀v,p.2.data≠.cell v
 hok:dI X.prog X.w H s.heap
 len:Z.length=X.N.length
section
variable{X:Cx}{zT:List (Addr×Obj)}{Z:List (Option V)}{H H':Hp}{s:Shared}{h':Heap}
def Cx.Ok.nofr(ok:X.Ok)(e:X.base.get? b=⇑o):b∉X.fs:=λB=>by let:=(ok.funs.mem B).1;rw[e]at this;cases this
def Inv.bs(I:Inv X zT Z H s):∀b o,X.base.get? b=⇑o->s.heap.get? b=⇑o/\H b=none:=λb o e=>#[I.base.keep b o (I.ok.bs b o e).1 (I.ok.bs b o e).2 (I.ok.nofr e) (I.ok.noex b o e),I.base.free b o (I.ok.bs b o e).1 (I.ok.bs b o e).2 (I.ok.noex b o e)]
def Inv.bk(I:Inv X zT Z H s):∀b o,X.base.get? b=⇑o->s.heap.get? b=⇑o:=λb o e=>(I.bs b o e).1
def Inv.mod(I:Inv X zT Z H s):Mod X.K X.mg X.base:=I.ok.mod
def Inv.kIn(I:Inv X zT Z H s):X.K.In s.heap:=I.ok.mod.kin.keeps I.bk
def Inv.fr(I:Inv X zT Z H s):∃m,Fr X.base X.env.locals s.heap m:=
 let⟨m,hn,_⟩:=I.loc
 #[m,hn,I.bk,le_trans I.ok.bsz I.ok.above]
def Inv.lt(I:Inv X zT Z H s):X.env.locals<s.heap.objs.size:=let⟨_,hn,_⟩:=I.loc;hn.lt
def Inv.sz(I:Inv X zT Z H s):X.s₀.heap.objs.size<=s.heap.objs.size:=le_trans I.ok.above (le_of_lt I.lt)
def Inv.nofs(I:Inv X zT Z H s)(h:s.heap.objs.size<=a):a∉X.fs:=λF=>by let#[_,o,B,_]:=I.ok.funs.mem F;show absurd (lt_of_lt_of_le (qe B) (le_trans I.sz h)) (lt_irrefl _)
def Inv.cne(I:Inv X zT Z H s):∀x c,X.env.cells.lookup x=⇑c->c≠X.env.locals:=λx c e z=>by let#[v,o,G,J]:=I.cell x c e;let#[m,#[o',es,ep,B,F,_],_]:=I.loc;rw[z,B]at G;cases G;rw[F]at J;cases J
def Inv.funs(I:Inv X zT Z H s):s.heap.FunFrames X.base X.outer:=by
 have all:∀(l:List Env),(∀b∈gZ l,b∈X.fs)->X.s₀.heap.FunFrames X.base l->s.heap.FunFrames X.base l:=by
  intro l;induction l with
  |nil=>intro _ _;trivial
  |cons h1 r M=>intro J hl;let#[hk,#[L,o,B,hn,Y,hd],O]:=hl;let G:L∈X.fs:=J L (by unfold gZ;rw[filterMap_cons,B];show qm);let#[sl,e]:=I.base.slot L o Y (I.ok.frf L G) G λz=>I.ok.exfs L z G;show#[hk,#[L,_,B,hn,e,hd],M (λb F=>J b (by unfold gZ;rw[filterMap_cons,B];show qk _ F)) O]
 show all X.outer (λ_ F=>F) I.ok.funs
def Inv.stack(I:Inv X zT Z H s):s.heap.FunFrames X.base X.stack:=by
 rcases I.ok.stk with e|⟨e,F⟩
 .rw[e];show I.funs
 .rw[e];let#[m,B,_]:=I.loc;show .cons (by rw[I.ok.kind];decide) F B ?_ I.funs;show Heap.get?_none_of_le (le_trans I.ok.bsz I.ok.above)
def Inv.stkSub(I:Inv X zT Z H s):∀b∈gZ X.stack,b∈X.env.locals::X.fs:=λb B=>by
 rcases I.ok.stk with e|⟨e,F⟩
 .rw[e]at B;show qk _ B
 .rw[e]at B;unfold gZ at B;rw[filterMap_cons,F]at B;show B
def Inv.stkFree(I:Inv X zT Z H s):∀b∈gZ X.stack,H b=none:=λb B=>by
 rcases qA.mp (I.stkSub b B)with e|B
 .rw[e];show I.free
 .obtain⟨_,o,F,_⟩:=I.ok.funs.mem B;show I.base.free b o F (I.ok.frf b B) λz=>I.ok.exfs b z B
def Inv.step{ch:List Addr}(I:Inv X zT Z H s)
  (G:∀b∈ch,(b∈X.ex\/X.s₀.heap.get? b=none)/\b≠X.env.locals/\(∀x c,X.env.cells.lookup x=⇑c->c≠b)/\∀p∈X.pn++zT,p.1≠b)
  (keep:∀b o,b≠X.env.locals->b∉X.fs->b∉ch->s.heap.get? b=⇑o->H b=none->h'.get? b=⇑o)
  (slot:∀b o,b≠X.env.locals->b∈X.fs->b∉ch->s.heap.get? b=⇑o->H b=none->∃sl,h'.get? b=some {o with slots:=sl})(free:∀b o,b∉ch->s.heap.get? b=⇑o->H b=none->H' b=none)
  (there:∀b o,b∉ch->s.heap.get? b=⇑o->∃o',h'.get? b=⇑o')
  (h1:∀b xs,H b=⇑(.tup xs)->H' b=⇑(.tup xs))(h4:∀b o u,H b=⇑(.frz o u)->H' b=⇑(.frz o u))(h2:∀b ps,H b=⇑(.tbl ps)->∃more,H' b=⇑(.tbl (ps++more)))
  (ns:∀m,s.heap.Ns X.env.locals m->h'.Ns X.env.locals m)(h6:dI X.prog X.w H' h')(hg:AllBare g'):
  Inv X zT Z H' {s with heap:=h',gens:=g',drawn:=d',toks:=t'}:=by
 have h3:∀b o,X.s₀.heap.get? b=⇑o->b≠X.env.locals:=λb o e=>ne_of_lt (lt_of_lt_of_le (qe e) I.ok.above);let L:∀b o,X.s₀.heap.get? b=⇑o->b∉X.ex->b∉ch:=λb o e B O=>by
  rcases(G b O).1 with z|z
  .show B z
  .rw[z]at e;cases e
 have J:∀x c,X.env.cells.lookup x=⇑c->∀v,s.heap.IsCell c v->h'.IsCell c v:=λx c e v⟨o,Y,hd⟩=>by
  let F:c∉ch:=λz=>(G c z).2.2.1 x c e rfl;by_cases hc:c∈X.fs
  .obtain⟨sl,q⟩:=slot c o (I.cne x c e) hc F Y (I.freeC x c e);show#[_,q,hd]
  .show#[o,keep c o (I.cne x c e) hc F Y (I.freeC x c e),hd]
 show#[I.ok,I.os,hg,#[λb o e n O B=>?_,λb o e n O B=>?_,λb o e n B=>?_,λb o e B=>?_,λb xs e=>h1 b xs (I.base.tups b xs e),λb o xs e=>h4 b o xs (I.base.frzs b o xs e),λb ps e=>?_],?_,λx c e=>?_,?_,λx c e=>?_,λp hp=>?_,h6,I.len]
 .show keep b o (h3 b o e) O (L b o e B) (I.base.keep b o e n O B) (I.base.free b o e n B)
 .obtain⟨sl,M⟩:=I.base.slot b o e n O B;let#[h5,e2]:=slot b _ (h3 b o e) O (L b o e B) M (I.base.free b o e n B);show#[h5,e2]
 .obtain⟨o',M⟩:=I.base.there b o e B;show free b o' (L b o e B) M (I.base.free b o e n B)
 .obtain⟨o',M⟩:=I.base.there b o e B;show there b o' (L b o e B) M
 .obtain⟨m1,M⟩:=I.base.tbls b ps e;let#[m2,e2]:=h2 b _ M;show#[m1++m2,by rw[e2,Array.append_assoc]]
 .obtain⟨m,hn,hl⟩:=I.loc;show#[m,ns m hn,λi x v M e2 e3=>?_];let#[u,r,l]:=hl i x v M e2 e3;show#[u,r,?_];rcases l with l|⟨k,c,e,z⟩
  .show .inl l
  .show .inr #[k,c,e,J x c e _ z]
 .obtain⟨v,z⟩:=I.cell x c e;show#[v,J x c e v z]
 .obtain⟨m,⟨o,_,_,Y,_⟩,_⟩:=I.loc;show free _ o (λz=>(G _ z).2.1 rfl) Y I.free
 .obtain⟨v,o,Y,hd⟩:=I.cell x c e;show free c o (λz=>(G c z).2.2.1 x c e rfl) Y (I.freeC x c e)
 .obtain⟨e,n,ne,nf,d⟩:=I.pin p hp;let F:p.1∉ch:=λz=>(G p.1 z).2.2.2 p hp rfl;show#[keep p.1 p.2 ne nf F e n,free p.1 p.2 F e n,ne,nf,d]
def Inv.un(I:Inv X zT Z H s)(u:Un X.fs [] H H' s.heap h')(F:dI X.prog X.w H' h'):Inv X zT Z H' {s with heap:=h',toks:=t'}:=by let#[m,#[o,es,ep,M,r],_]:=id I.loc;let#[sl,hL]:=u.any M I.free (by simp);show I.step (g':=s.gens) (d':=s.drawn) (ch:=[]) (λ_ z=>nomatch z) (λb o _ G _ e n=>u.keep b o e n G (by simp)) (λb o _ G _ e n=>u.slot b o e n G (by simp)) (λb o _ e n=>u.free b o e n (by simp)) (λb o _ e=>u.there b o e (by simp)) u.tups u.frzs u.tbls (λm' Y=>by let#[o',J,L,B,O]:=Y;rw[M]at B;cases B;show#[_,J,L,hL,O]) F I.bare
def Inv.call(I:Inv X zT Z H s)(u:Un (gZ X.stack) ch H H' s.heap h')(J:dI X.prog X.w H' h')(hg:AllBare g')
  (G:∀b∈ch,(b∈X.ex\/X.s₀.heap.get? b=none)/\b≠X.env.locals/\(∀x c,X.env.cells.lookup x=⇑c->c≠b)/\∀p∈X.pn++zT,p.1≠b):
  Inv X zT Z H' {s with heap:=h',gens:=g',drawn:=d',toks:=t'}:=by
 let#[m,#[o,es,ep,Y,r],_]:=id I.loc;let#[sl,L]:=u.any Y I.free λz=>(G _ z).2.1 rfl;show I.step (ch:=ch) G (λb o L hb B e n=>u.keep b o e n (λz=>(qA.mp (I.stkSub b z)).elim L hb) B) (λb o _ _ B e n=>u.any e n B) (λb o B e n=>u.free b o e n B) (λb o B e=>u.there b o e B) u.tups u.frzs u.tbls (λm' hm=>by let#[o',M,O,F,r']:=hm;rw[Y]at F;cases F;show#[_,M,O,L,r']) J hg
def Inv.turned(I:Inv X zT Z H s)(k:∀b o,b≠it->s.heap.get? b=⇑o->h'.get? b=⇑o)(hn:H it=none)(G:it≠X.env.locals)
  (h1:it∈X.ex\/X.s₀.heap.get? it=none)(h2:∀x c,X.env.cells.lookup x=⇑c->c≠it)(O:∀p∈X.pn++zT,p.1≠it):Inv X zT Z H {s with heap:=h',toks:=t'}:=by
 let F:∀b u,H b=⇑u->b≠it:=λb u e z=>by rw[z,hn]at e;cases e
 refine I.step (g':=s.gens) (d':=s.drawn) (ch:=[it]) (λb M=>?_) (λb o _ _ B e _=>k b o (λz=>B (by simp[z])) e) (λb o _ _ B e _=>#[o.slots,k b o (λz=>B (by simp[z])) e]) (λ_ _ _ _ n=>n)
  (λb o B e=>#[o,k b o (λz=>B (by simp[z])) e]) (λ_ _ e=>e) (λ_ _ _ e=>e) (λb ps e=>#[#[],by rw[e];simp]) (λm L=>?_) (λb u e=>?_) I.bare
 .let e:b=it:=by simpa using M
  subst e;show#[h1,G,h2,O]
 .obtain⟨o,es,ep,J,r⟩:=L;show#[o,es,ep,k _ o (Ne.symm G) J,r]
 .show(I.hok b u e).stay (λc v B q=>k c v ?_ q) (λ_ q=>q) λ_ _ q=>q;rcases B with z|z
  .rw[z];show F b u e
  .show F c _ z
def Inv.tok(I:Inv X zT Z H s)(t:Nat):Inv X zT Z H {s with toks:=t}:=I.un (h':=s.heap) (t':=t) Un.refl I.hok
def Inv.kept(I:Inv X zT Z H s)(k:∀b u,s.heap.get? b=⇑u->h'.get? b=⇑u):Inv X zT Z H {s with heap:=h',toks:=t'}:=I.un (Un.kept k) (I.hok.kept k)
def Inv.laid(I:Inv X zT Z H s)(k:∀b u,s.heap.get? b=⇑u->h'.get? b=⇑u)(B:s.heap.objs.size<=a)(new:zS X.prog X.w (upd H a o) h' a o):
  Inv X zT Z (upd H a o) {s with heap:=h',toks:=t'}:=I.un (Un.laid k B (I.hok.fresh B)) (I.hok.laid k B new)
def Inv.write(I:Inv X zT Z H s)(F:xY (H x))(G:e=x\/H e=⇑(.own x))(k:∀b u,b≠e->s.heap.get? b=⇑u->h'.get? b=⇑u)(B:∃u,h'.get? e=⇑u)
  (new:zS X.prog X.w (upd H x o) h' x o):Inv X zT Z (upd H x o) {s with heap:=h',toks:=t'}:=I.un (Un.write F G k B) (I.hok.write F G k B new)
def Inv.pins_of(I:Inv X zT Z H s)(h:∀p∈pins',s.heap.get? p.1=⇑p.2/\H p.1=none/\p.1≠X.env.locals/\p.1∉X.fs/\∀v,p.2.data≠.cell v):Inv X pins' Z H s:=
 #[I.ok,I.os,I.bare,I.base,I.loc,I.cell,I.free,I.freeC,λp B=>(qx.mp B).elim (λz=>I.pin p (qj _ z)) (h p),I.hok,I.len]
def GE{N:List Str}(B:N.Nodup){i j:Nat}(a:N[i]?=⇑x)(b:N[j]?=⇑x):i=j:=by let#[h1,G]:=qg.mp a;let#[h2,F]:=qg.mp b;show(List.getElem_inj B).mp (G.trans F.symm)
def RR(I:Inv X zT Z H s)(hN:X.N.Nodup)(hi:X.N[i]?=⇑x)(L:Loc X.env.scope x)(r:zJ v u)
  (h:∀s',Inv X zT (Z.set i ⇑v) H s'->(∃a,Heap.SameBut a s.heap s'.heap/\(a=X.env.locals\/X.env.cells.lookup x=⇑a))->Q () s')(hf:X.fn x=true\/X.env.scope.names.lookup x=⇑.local:=by first|show .inl rfl|show .inr rfl|assumption):wpAny M A (storeName X.env x u) Q E s:=by
 let#[m,hn,hl]:=id I.loc;let h5:(X.env.scope.kind==.class||(X.env.scope.kind==.module&&X.env.locals !=X.env.globals))=false:=by rw[I.ok.kind];rfl
 let h1:i<Z.length:=by rw[I.len];show(qg.mp hi).1
 have cne:=I.cne;let F:∀{a:Addr}{h':Heap},(∃o,s.heap.get? a=⇑o/\H a=none)->Heap.SameBut a s.heap h'->dI X.prog X.w H h':=λ{a h'} ha B b ob e=>by
  let#[_,_,O]:=ha;show(I.hok b ob e).stay (λc w' J q=>(B.2 c ?_).trans q) (λ_ q=>q) λ_ _ q=>q;rintro rfl;rcases J with rfl|J
  .rw[O]at e;cases e
  .rw[O]at J;cases J
 rcases L with hk|hk
 .refine wpAny_storeName_local hk hn (λh' h9 B=>?_) h5;let#[oL,_,_,h8,_]:=id hn;refine h _ #[I.ok,I.os,I.bare,#[λb o e n hb L=>?_,λb o e n hb L=>?_,I.base.free,λb o e L=>?_,I.base.tups,I.base.frzs,I.base.tbls],#[_,h9,λj y v' G Y e3=>?_],λy c e=>?_,I.free,I.freeC,λp hp=>?_,F #[oL,h8,I.free] B,↑I.len] #[_,B,.inl rfl]
  .show(B.2 b (ne_of_lt (lt_of_lt_of_le (qe e) I.ok.above))).trans (I.base.keep b o e n hb L)
  .obtain⟨sl,G⟩:=I.base.slot b o e n hb L;show#[sl,(B.2 b (ne_of_lt (lt_of_lt_of_le (qe e) I.ok.above))).trans G]
  .obtain⟨o',G⟩:=I.base.there b o e L;show#[o',(B.2 b (ne_of_lt (lt_of_lt_of_le (qe e) I.ok.above))).trans G]
  .by_cases hj:j=i
   .subst hj;rw[hi]at G;cases G;rw[getElem?_set_self h1]at Y;cases Y;show#[u,r,.inl #[hk,by simp]]
   .rw[getElem?_set_ne (Ne.symm hj)]at Y;let#[u',r',q]:=hl j y v' G Y e3;show#[u',r',?_];rcases q with⟨k,e⟩|⟨k,c,e,z⟩
    .show .inl #[k,?_];let:y≠x:=λe=>hj (GE hN G (e▸hi));simp[this,e]
    .show .inr #[k,c,e,z.sameBut B (cne y c e)]
  .obtain⟨w',z⟩:=I.cell y c e;show#[w',z.sameBut B (cne y c e)]
  .obtain⟨e,n,ne,nf,d⟩:=I.pin p hp;show#[(B.2 p.1 ne).trans e,n,ne,nf,d]
 .have h2:X.fn x=true:=by
   rcases hf with z|z
   .show z
   .rw[z]at hk;cases hk
  let#[c,J]:=I.ok.has x (.inl hk);let#[w',z]:=I.cell x c J;show wpAny_storeName_cell I.ok.kind hk J z (λh' h7 B=>?_);let#[oc,h4,h3]:=id z;show h {s with heap:=h'} ⟨I.ok,I.os,I.bare,⟨λb o e n hb L=>?_,λb o e n hb L=>?_,I.base.free,λb o e L=>?_,I.base.tups,I.base.frzs,I.base.tbls⟩,⟨m,hn.sameBut B (Ne.symm (cne x c J)),λj y v' G Y e3=>?_⟩,λy c' e=>?_,I.free,I.freeC,λp hp=>?_,F ⟨oc,h4,I.freeC x c J⟩ B,↑I.len⟩ #[c,B,.inr J]
  .show(B.2 b (ne_of_lt (lt_of_lt_of_le (qe e) (I.ok.cab x c h2 J)))).trans (I.base.keep b o e n hb L)
  .obtain⟨sl,G⟩:=I.base.slot b o e n hb L;show#[sl,(B.2 b (ne_of_lt (lt_of_lt_of_le (qe e) (I.ok.cab x c h2 J)))).trans G]
  .obtain⟨o',G⟩:=I.base.there b o e L;show#[o',(B.2 b (ne_of_lt (lt_of_lt_of_le (qe e) (I.ok.cab x c h2 J)))).trans G]
  .by_cases hj:j=i
   .subst hj;rw[hi]at G;cases G;rw[getElem?_set_self h1]at Y;cases Y;show#[u,r,.inr #[.inl hk,c,J,h7]]
   .rw[getElem?_set_ne (Ne.symm hj)]at Y;let#[u',r',q]:=hl j y v' G Y e3;show#[u',r',?_];rcases q with q|⟨k,c',e,z'⟩
    .show .inl q
    .show .inr #[k,c',e,z'.sameBut B ?_];rintro rfl;show hj (GE hN G (I.ok.inj _ _ _ e J▸hi))
  .by_cases h6:c'=c
   .subst h6;show#[_,h7]
   .obtain⟨w2,z2⟩:=I.cell y c' e;show#[w2,z2.sameBut B h6]
  .obtain⟨e,n,ne,nf,d⟩:=I.pin p hp;show#[(B.2 p.1 ?_).trans e,n,ne,nf,d];intro q;rw[q,h4]at e;let q':oc=p.2:=qf e;show d w' (by rw[<-q'];show h3)
def KC(I:Inv X zT Z H s)(G:X.N.Nodup)(hi:X.N[i]?=⇑x)(B:Loc X.env.scope x)(r:zJ v u)
  (h:∀s',Inv X zT (Z.set i ⇑v) H s'->Q () s')(F:X.fn x=true\/X.env.scope.names.lookup x=⇑.local:=by first|show .inl rfl|show .inr rfl|assumption):wpAny M A (storeName X.env x u) Q E s:=
 RR I G hi B r (λs' J _=>h s' J) F
def Inv.call'(I:Inv X zT Z H s)(G:s'.os=s.os)(u:Un (gZ X.stack) ch H H' s.heap s'.heap)(B:dI X.prog X.w H' s'.heap)(J:AllBare s'.gens)
  (F:∀b∈ch,(b∈X.ex\/X.s₀.heap.get? b=none)/\b≠X.env.locals/\(∀x c,X.env.cells.lookup x=⇑c->c≠b)/\∀p∈X.pn++zT,p.1≠b):Inv X zT Z H' s':=by
 let#[h',g',d',t',o']:=s';let e:o'=s.os:=G;subst e;show I.call (g':=g') (t':=t') (d':=d') u B J F
end
abbrev XK:=Value->Option Addr->Hp->Prop
abbrev St:=List (Option V)
abbrev VK:=V->Hp->Prop
abbrev TE:=St->Hp->VK->Prop
abbrev TT:=St->Hp->(Bool->Hp->Prop)->Prop
abbrev TA:=St->Hp->(List V->Hp->Prop)->Prop
structure Ends where
 nx:St->Hp->Prop
 rt:VK
 bk:St->Hp->Prop:=λ_ _=>False
 ct:St->Hp->Prop:=λ_ _=>False
abbrev TS:=Ends->St->Hp->Prop
inductive EP(X:Cx)(zT:List (Addr×Obj))(Z:St)(Q:VK)(u:Value)(s':Shared):Prop
 |mk (v:V) (H':Hp):Inv X zT Z H' s'->zJ v u->Q v H'->EP X zT Z Q u s'
inductive TP(X:Cx)(zT:List (Addr×Obj))(Z:St)(Q:Bool->Hp->Prop)(b:Bool)(s':Shared):Prop
 |mk (H':Hp):Inv X zT Z H' s'->Q b H'->TP X zT Z Q b s'
inductive AP(X:Cx)(zT:List (Addr×Obj))(Z:St)(Q:List V->Hp->Prop)(us:List Value)(s':Shared):Prop
 |mk (vs:List V) (H':Hp):Inv X zT Z H' s'->zQ vs us->Q vs H'->AP X zT Z Q us s'
@[inline]def SP(X:Cx)(zT:List (Addr×Obj))(D:Ends)(f:Flow)(s':Shared):Prop:=
 match f with
 |.next=>∃Z' H',Inv X zT Z' H' s'/\D.nx Z' H'
 |.brk=>∃Z' H',Inv X zT Z' H' s'/\D.bk Z' H'
 |.cont=>∃Z' H',Inv X zT Z' H' s'/\D.ct Z' H'
 |.ret u=>∃v Z' H',Inv X zT Z' H' s'/\zJ v u/\D.rt v H'
@[inline]def PE(X:Cx)(e:Expr)(t:TE):Prop:=
 ∀(zT:List (Addr×Obj))(s:Shared)(Z:St)(H:Hp)(Q:VK),Inv X zT Z H s->t Z H Q->wpAny (model X.prog X.w) X.A (eval e X.env) (EP X zT Z Q) X.xe s
@[inline]def PT(X:Cx)(e:Expr)(t:TT):Prop:=
 ∀(zT:List (Addr×Obj))(s:Shared)(Z:St)(H:Hp)(Q:Bool->Hp->Prop),Inv X zT Z H s->t Z H Q->wpAny (model X.prog X.w) X.A (isTrue e X.env (eval e X.env)) (TP X zT Z Q) X.xe s
@[inline]def PW(X:Cx)(e:Expr)(t:TT):Prop:=
 ∀(B:Sem Value)(zT:List (Addr×Obj))(s:Shared)(Z:St)(H:Hp)(Q:Bool->Hp->Prop),Inv X zT Z H s->t Z H Q->wpAny (model X.prog X.w) X.A (isTrue e X.env B) (TP X zT Z Q) X.xe s
def PW.pt(h:PW X e t):PT X e t:=h _
@[inline]def PA(X:Cx)(es:List Expr)(t:TA):Prop:=
 ∀(pos:Pos)(zT:List (Addr×Obj))(s:Shared)(Z:St)(H:Hp)(Q:List V->Hp->Prop),Inv X zT Z H s->t Z H Q->wpAny (model X.prog X.w) X.A (spliced (backTo pos (starEach es X.env))) (AP X zT Z Q) X.xe s
@[inline]def PS(X:Cx)(st:Stmt)(t:TS):Prop:=
 ∀(zT:List (Addr×Obj))(s:Shared)(Z:St)(H:Hp)(D:Ends),Inv X zT Z H s->t D Z H->wpAny (model X.prog X.w) X.A (exec st X.env) (SP X zT D) X.xe s
def iJ(X:Cx)(st:List Stmt)(t:TS):Prop:=
 ∀(zT:List (Addr×Obj))(s:Shared)(Z:St)(H:Hp)(D:Ends),Inv X zT Z H s->t D Z H->wpAny (model X.prog X.w) X.A (execs st X.env) (SP X zT D) X.xe s
def Af(h:wpAny M A t Q E s)(B:∀a s,Q a s->Q' a s):wpAny M A t Q' E s:=zt h B λ_ _ x=>x
section
variable{X:Cx}
def az(i:Nat):TE:=λZ H Q=>∃v,Z[i]?=⇑⇑v/\Q v H
def tC(v:V):TE:=λ_ H Q=>Q v H
def Hc(hN:X.N[i]?=⇑x)(O:uQ X.env.scope x)(J:autoParam ((x==("__debug__":Str))=false) dZ9)(L:autoParam ((x==("__classdict__":Str))=false) dZ9):PE X (.Name x pos) (az i):=by
 intro zT s Z H Q I h;let#[v,e,h]:=h;let#[m,Y,hl]:=I.loc;let#[u,r,l]:=hl i x v hN e O;let G:EP X zT Z Q u s:=#[v,H,I,r,h]
 rcases l with⟨F,hm⟩|⟨F,c,M,B⟩
 .show wpAny_Name (wpAny_loadName_local I.ok.kind F Y hm G) J
 .rcases F with F|F
  .show wpAny_Name (wpAny_loadName_cell I.ok.kind F M B G) J
  .show wpAny_Name (wpAny_loadName_free I.ok.kind F M B G L) J
def MU:PE X (.Constant (.int i) j pos) (tC (.int i)):=λ_ _ _ H _ I h=>wpAny_Constant_int #[.int i,H,I.tok _,#[_,rfl],h]
def MC:PE X (.Constant (.bool b) j pos) (tC (.bl b)):=λ_ _ _ H _ I h=>Constant_bool #[.bl b,H,I,rfl,h]
def NK:PE X (.Constant .none j pos) (tC .non):=λ_ _ _ H _ I h=>Constant_none #[.non,H,I,rfl,h]
def OC:PE X (.Constant (.str x) j pos) (tC (.str x)):=λ_ _ _ H _ I h=>Calls.Constant_str #[.str x,H,I.tok _,#[_,rfl],h]
@[inline]def Gl(X:Cx)(x:Str):Prop:=X.env.kindOf x=some .globalImplicit
def Gw(I:Inv X zT Z H s)(F:Gl X x)(B:X.mg x=⇑u)(h:Q u s)
  (G:autoParam ((x==("__debug__":Str))=false) dZ9):wpAny (model X.prog X.w) X.A (eval (.Name x pos) X.env) Q E s:=
 Calls.Name_function_global I.ok.kind F (Calls.loadGlobal_global (by rw[I.ok.glob];show I.mod.glob.keeps I.bk) B h) G
def Dz(I:Inv X zT Z H s)(G:Gl X x)(F:X.mg x=none)(B:bootBuiltins x=⇑u)(h:Q u s)
  (hn:autoParam (x≠"__name__") dZ9)(J:autoParam ((x==("__debug__":Str))=false) dZ9):wpAny (model X.prog X.w) X.A (eval (.Name x pos) X.env) Q E s:=by
 let#[L,h1,h2]:=I.mod.blt;show Calls.Name_function_global I.ok.kind G (Calls.loadGlobal_builtin (by rw[I.ok.glob];show I.mod.glob.keeps I.bk) F (by rw[I.ok.blt];show h1.keeps I.bk) ((h2 x hn).trans B) h) J
def JF(F:Gl X x)(B:X.mg x=⇑u)(r:zJ v u)(G:autoParam ((x==("__debug__":Str))=false) dZ9):PE X (.Name x pos) (tC v):=
 λ_ _ _ H _ I h=>Gw I F B #[v,H,I,r,h] G
variable{a b:Expr}{ta tb:TE}{pos:Pos}
def Dh(b:Expr)(h:op≠.In)(h2:op≠.NotIn):behindInMarks op b=false:=by
 let F:(op==CmpOp.In)=false:=by cases op<;>first|rfl|show absurd rfl h
 let B:(op==CmpOp.NotIn)=false:=by cases op<;>first|rfl|show absurd rfl h2
 cases b<;>first|rfl|(show(_&&(op==.In||op==.NotIn)&&_)=false;rw[F,B,Bool.or_false,Bool.and_false];rfl)
variable{tA tB':TT}{rest:List Expr}
def bx(t u:TT):TT:=λZ H Q=>t Z H λc H1=>if c=true then u Z H1 Q else Q false H1
def jx(t u:TT):TT:=λZ H Q=>t Z H λc H1=>if c=true then Q true H1 else u Z H1 Q
def bh(t:TT):TT:=λZ H Q=>t Z H λc H1=>Q (!c) H1
def OY(B:PT X a tA):PW X (.BoolOp .And [a] pos) tA:=by
 intro F zT s Z H Q I h;show isTrue_and (Af (B zT s Z H Q I h) λc G e=>?_);cases c with
 |true=>show isTrue_and_nil e
 |false=>show e
def Nn(B:PT X a tA):PW X (.BoolOp .Or [a] pos) tA:=by
 intro F zT s Z H Q I h;show isTrue_or (Af (B zT s Z H Q I h) λc G e=>?_);cases c with
 |false=>show isTrue_or_nil e
 |true=>show e
def Nq(O:PT X a tA)(M:PW X (.BoolOp .And (b::rest) pos) tB'):PW X (.BoolOp .And (a::b::rest) pos) (bx tA tB'):=by
 intro J zT s Z H Q I h;show isTrue_and (Af (O zT s Z H _ I h) λc L G=>?_);let#[H1,F,B]:=G;cases c with
 |true=>show M J zT L Z H1 Q F B
 |false=>show#[H1,F,B]
def ME(O:PT X a tA)(M:PW X (.BoolOp .Or (b::rest) pos) tB'):PW X (.BoolOp .Or (a::b::rest) pos) (jx tA tB'):=by
 intro J zT s Z H Q I h;show isTrue_or (Af (O zT s Z H _ I h) λc L G=>?_);let#[H1,F,B]:=G;cases c with
 |true=>show#[H1,F,B]
 |false=>show M J zT L Z H1 Q F B
def NA(F:PT X a tA):PT X (.UnaryOp .Not a pos) (bh tA):=by intro zT s Z H Q I h;show isTrue_not (Af (F zT s Z H (λc H1=>Q (!c) H1) I h) λc J z=>by let#[H1,G,B]:=z;show#[H1,G,B])
def vU(ta tb:TE):TE:=λZ H Q=>ta Z H λx H1=>∃c,x=.bl c/\if c=true then tb Z H1 Q else Q (.bl false) H1
def bg(ta tb:TE):TE:=λZ H Q=>ta Z H λx H1=>∃c,x=.bl c/\if c=true then Q (.bl true) H1 else tb Z H1 Q
def NT(h:PE X a t):PE X (.BoolOp op [a] pos) t:=by first|rfl|assumption|(simp_all;done)
def MT(O:PE X a ta)(M:PE X (.BoolOp .And (b::rest) pos) tb):PE X (.BoolOp .And (a::b::rest) pos) (vU ta tb):=by
 intro zT s Z H Q I h;show BoolOp_and (Af (O zT s Z H _ I h) λv J G=>?_);let#[x,H1,F,L,B]:=G;let#[c,rfl,B]:=B;cases L;show wpAny_truthy_bool ?_;cases c with
 |true=>show M zT J Z H1 Q F B
 |false=>show#[.bl false,H1,F,rfl,B]
def MG(O:PE X a ta)(M:PE X (.BoolOp .Or (b::rest) pos) tb):PE X (.BoolOp .Or (a::b::rest) pos) (bg ta tb):=by
 intro zT s Z H Q I h;show BoolOp_or (Af (O zT s Z H _ I h) λv J G=>?_);let#[x,H1,F,L,B]:=G;let#[c,rfl,B]:=B;cases L;show wpAny_truthy_bool ?_;cases c with
 |false=>show M zT J Z H1 Q F B
 |true=>show#[.bl true,H1,F,rfl,B]
def jy(t:TT)(ta tb:TE):TE:=λZ H Q=>t Z H λc H1=>if c=true then ta Z H1 Q else tb Z H1 Q
def Rr(L:PT X c tA)(O:PE X a ta)(M:PE X b tb):PE X (.IfExp c a b pos) (jy tA ta tb):=by
 intro zT s Z H Q I h;show wpAny_IfExp (Af (L zT s Z H _ I h) λd B J=>?_);let#[H1,G,F]:=J;cases d with
 |true=>show O zT B Z H1 Q G F
 |false=>show M zT B Z H1 Q G F
end
def bM(K:W.Frag)(H:Hp)(a:Addr)(xs:List V):Prop:=
 Rd H a (.lst xs)\/
  ∃(o:Obj)(B:Array Value)(n:Nat),K.lookup a=⇑o/\o.cls=.type "list"/\o.dict=none/\o.data=.seq B n/\B.size<=sizeLine/\zQ xs B.toList
def bA(K:W.Frag)(H:Hp)(a:Addr)(xs:List V):Prop:=
 Rd H a (.tup xs)\/
  ∃(o:Obj)(B:Array Value)(n:Nat),K.lookup a=⇑o/\o.cls=.type "tuple"/\o.data=.seq B n/\B.size<=sizeLine/\zQ xs B.toList
def xQ:Value->Option V
 |.none=>⇑.non
 |.bool b=>⇑(.bl b)
 |.int i _=>⇑(.int i)
 |.str x _=>⇑(.str x)
 |.bytes b _=>⇑(.byt b)
 |.float b _=>⇑(.flt b)
 |.ref a=>⇑(.ref a)
 |.type n=>⇑(.ty n)
 |_=>none
def zJ.abs(r:zJ x u):xQ u=⇑x:=by
 cases x with
 |non=>cases r;rfl
 |bl _=>cases r;rfl
 |int _=>let#[t,rfl]:=r;rfl
 |str _=>let#[t,rfl]:=r;rfl
 |byt _=>let#[t,rfl]:=r;rfl
 |flt _=>let#[t,rfl]:=r;rfl
 |ref _=>cases r;rfl
 |ty _=>cases r;rfl
def zJ.inj(r:zJ x u)(q:zJ y u):x=y:=qf (r.abs.symm.trans q.abs)
def zQ.inj:∀{xs ys:List V}{us:List Value},zQ xs us->zQ ys us->xs=ys:=by
 intro xs ys us r q;induction r generalizing ys with
 |nil=>cases q;rfl
 |cons r _ G=>cases q with
  |cons F B=>rw[r.inj F,G B]
inductive yB(xs:List V)(h:Heap)(a:Addr):Prop
 |mk (zX:List Value):zQ xs zX->PlainL h a zX.toArray->xs.length<=sizeLine->yB xs h a
inductive yA(xs:List V)(h:Heap)(a:Addr):Prop
 |mk (zX:List Value):zQ xs zX->IsTup h a zX.toArray->xs.length<=sizeLine->yA xs h a
section
variable{X:Cx}{zT:List (Addr×Obj)}{Z:St}{H:Hp}{s:Shared}{a:Addr}{xs ys:List V}
def bM.of{K:W.Frag}(h:H a=⇑(.lst xs)):bM K H a xs:=.inl (.inl h)
def bA.of{K:W.Frag}(h:H a=⇑(.tup xs)):bA K H a xs:=.inl (.inl h)
def Inv.list(I:Inv X zT Z H s)(h:bM X.K H a xs):yB xs s.heap a:=by
 rcases h with h|⟨o,B,n,G,L,J,F,M,r⟩
 .obtain⟨z,B,n,r,e⟩:=h.ok I.hok;show#[B,r,#[_,n,e,rfl,rfl,rfl],z]
 .show#[B.toList,r,#[o,n,I.kIn a o G,L,J,↑F],?_];let e:=r.length;simp only[qU]at e;lia
def Inv.tuple(I:Inv X zT Z H s)(h:bA X.K H a xs):yA xs s.heap a:=by
 rcases h with h|⟨o,B,n,G,J,F,L,r⟩
 .obtain⟨z,B,r,p⟩:=h.ok I.hok;show#[B,r,p,z.1]
 .show#[B.toList,r,#[o,I.kIn a o G,J,n,↑F],?_];let e:=r.length;simp only[qU]at e;lia
def Inv.list_inj(I:Inv X zT Z H s)(h:bM X.K H a xs)(h':bM X.K H a ys):xs=ys:=by
 let#[F,r,#[o,n,e,_,_,d],_]:=I.list h;let#[B,L,#[o',M,G,_,_,J],_]:=I.list h';rw[e]at G;cases G;rw[d]at J;injection J with d1 _
 let:F=B:=by simpa using congrArg Array.toList d1
 subst this;show r.inj L
def Inv.tuple_inj(I:Inv X zT Z H s)(h:bA X.K H a xs)(h':bA X.K H a ys):xs=ys:=by
 let#[F,r,#[o,e,_,n,d],_]:=I.tuple h;let#[B,L,#[o',G,_,M,J],_]:=I.tuple h';rw[e]at G;cases G;rw[d]at J;injection J with d1 _
 let:F=B:=by simpa using congrArg Array.toList d1
 subst this;show r.inj L
end
section
variable{X:Cx}{st:Stmt}{rest:List Stmt}{t u:TS}{e:Expr}{te:TE}{pos:Pos}
def vR:TS:=λD Z H=>D.nx Z H
def bb(t u:TS):TS:=λD Z H=>t {D with nx:=u D} Z H
def JJ:iJ X [] vR:=λ_ _ Z H _ I h=>wpAny_execs_nil #[Z,H,I,h]
def Qg(h1:PS X st t)(h2:iJ X rest u):iJ X (st::rest) (bb t u):=by
 intro zT s Z H D I h;show wpAny_execs_cons (Af (h1 zT s Z H {D with nx:=u D} I h) λf F q=>?_);cases f with
 |next=>let#[B,H',G,q]:=q;show h2 zT F B H' D G q
 |ret v=>show q
 |brk=>show q
 |cont=>show q
def Kl(h1:PS X st t):iJ X [st] t:=by
 intro zT s Z H D I h;show wpAny_execs_cons (Af (h1 zT s Z H D I h) λf B q=>?_);cases f with
 |next=>show wpAny_execs_nil q
 |ret v=>show q
 |brk=>show q
 |cont=>show q
def Inv.quiet(I:Inv X zT Z H s):interactive X.env=false:=by simp[interactive,I.ok.kind]
def vS(te:TE):TS:=λD Z H=>te Z H λ_ H1=>D.nx Z H1
def OE(F:PE X e te)(hs:autoParam (swapsWith e none pos.line X.env=pure false) rZ9):PS X (.Expr e pos) (vS te):=by intro zT s Z H D I h;show wpAny_Expr_any (Af (F zT s Z H _ I h) λv J⟨x,H1,G,L,B⟩=>#[Z,H1,G,B]) I.quiet hs
def bc(te:TE):TS:=λD Z H=>te Z H D.rt
def NR(G:PE X e te):PS X (.Return ⇑e pos) (bc te):=by intro zT s Z H D I h;show wpAny_Return_some (Af (G zT s Z H _ I h) λv L⟨x,H1,J,B,F⟩=>#[x,Z,H1,J,B,F])
def bp(c:TT)(t u:TS):TS:=λD Z H=>c Z H λb H1=>if b=true then t D Z H1 else u D Z H1
def MJ(L:PT X c tc)(O:iJ X a t)(M:iJ X b u):PS X (.If c a b pos) (bp tc t u):=by
 intro zT s Z H D I h;show wpAny_If (Af (L zT s Z H _ I h) λd B J=>?_);let#[H1,G,F]:=J;cases d with
 |true=>show O zT B Z H1 D G F
 |false=>show M zT B Z H1 D G F
end
abbrev TG:=V->St->Hp->(St->Hp->Prop)->Prop
abbrev xS:=List V->St->Hp->(St->Hp->Prop)->Prop
@[inline]def PG(X:Cx)(B:Expr)(t:TG):Prop:=
 ∀(zT:List (Addr×Obj))(s:Shared)(Z:St)(H:Hp)(v:V)(u:Value)(Q:St->Hp->Prop),Inv X zT Z H s->zJ v u->t v Z H Q->
  wpAny (model X.prog X.w) X.A (assign B X.env u) (λ_ s'=>∃Z' H',Inv X zT Z' H' s'/\Q Z' H') X.xe s
def xX(X:Cx)(B:List Expr)(t:xS):Prop:=
 ∀(zT:List (Addr×Obj))(s:Shared)(Z:St)(H:Hp)(vs:List V)(us:List Value)(Q:St->Hp->Prop),Inv X zT Z H s->zQ vs us->t vs Z H Q->
  wpAny (model X.prog X.w) X.A (assignInOrder ((assignEach B X.env).map (·.2)) us) (λ_ s'=>∃Z' H',Inv X zT Z' H' s'/\Q Z' H') X.xe s
abbrev TSet:=V->V->V->Hp->(Hp->Prop)->Prop
def xV(X:Cx)(t:TSet):Prop:=
 ∀(zT:List (Addr×Obj))(s:Shared)(Z:St)(H:Hp)(o i v:V)(B F u:Value)(Q:Hp->Prop),Inv X zT Z H s->zJ o B->zJ i F->zJ v u->t o i v H Q->
  wpAny (model X.prog X.w) X.A (setItem B F u) (λ_ s'=>∃H',Inv X zT Z H' s'/\Q H') X.xe s
section
variable{X:Cx}{pos:Pos}
def gp:xS:=λvs Z H Q=>vs=[]/\Q Z H
def xG(t:TG)(u:xS):xS:=λvs Z H Q=>∃v r,vs=v::r/\t v Z H λB H'=>u r B H' Q
def Qr:xX X [] gp:=by intro zT s Z H vs B Q I r h;let#[e,h]:=h;subst e;cases r;show assignInOrder_nil #[Z,H,I,h]
def QZ(h1:PG X e t)(h2:xX X es u)
  (hs:autoParam ((assignEach (e::es) X.env).map (·.2)=assign e X.env::(assignEach es X.env).map (·.2)) rZ9):xX X (e::es) (xG t u):=by
 intro zT s Z H vs us Q I r h;let#[v,Y,M,h]:=h;subst M;cases r with
 |cons r J=>rw[hs];show assignInOrder_cons (Af (h1 zT s Z H _ _ _ I r h) λ_ G F=>?_);let#[B,H1,O,L]:=F;show h2 zT G B H1 _ _ Q O J L
def cK(K:W.Frag)(n:Nat)(t:xS):TG:=λv Z H Q=>∃a xs,v=.ref a/\bA K H a xs/\xs.length=n/\t xs Z H Q
def NJ(hc:X.calm=true)(h:xX X es t)
  (hn:autoParam ((assignEach es X.env).length=n) rZ9)(F:autoParam ((assignEach es X.env).findIdx? (·.1)=none) rZ9):PG X (.Tuple es k pos) (cK X.K n t):=by
 intro zT s Z H v u Q I r B;let#[a,xs,e1,O,Y,B]:=B;subst e1;cases r;let#[J,G,M,hz]:=I.tuple O;show assign_Tuple_tuple (I.ok.hd hc) M (by simp[hn,<-Y,G.length]) F λh' L=>?_;let I1:Inv X zT Z H {s with heap:=h'}:=I.kept (t':=s.toks) λb o e=>L b o (ne_of_lt (qe e)) e;show h zT _ Z H xs _ Q I1 ↑G B
def gn(B F:TE)(t:TSet):TG:=λv Z H Q=>B Z H λo H1=>F Z H1 λi H2=>t o i v H2 λG=>Q Z G
def Nj(ho:PE X o to)(hi:PE X i ti)(hs:xV X t)
  (ha:∀v,assign (.Subscript o i pos) X.env v=(do
   let ov<-holding [v] (eval o X.env)
   let iv<-holding [v,ov] (eval i X.env)
   standAt pos
   holding [v,ov,iv] (setItem ov iv v)
   release [v,ov,iv] []):=by intro _;rfl):PG X (.Subscript o i pos) (gn to ti t):=by
 intro zT s Z H v u Q I r h;rw[ha];show qa (zp (Af (ho zT s Z H _ I h) λov s1 zq=>?_));let#[x,H1,I1,r1,q1]:=zq;show qa (zp (Af (hi zT s1 Z H1 _ I1 q1) λiv s2 zq=>?_));let#[y,H2,I2,r2,q2]:=zq;show qa (wpAny_standAt (qa (zp (Af (hs zT s2 Z H2 x y v ov iv u _ I2 r1 r2 r q2) λ_ s3 zq=>?_))));let#[H3,I3,q3]:=zq;show wpAny_release #[Z,H3,I3,q3]
def bw(te:TE)(g:TG):TS:=λD Z H=>te Z H λx H1=>g x Z H1 D.nx
def Jg(O:PE X e te)(M:PG X tg g)(hs:autoParam (swapsWithSole [tg] e pos.line X.env=pure false) rZ9)(L:autoParam (swappedStores [tg] e X.env=pure none) rZ9)
  (h1:autoParam ((assignEach [tg] X.env).map (·.2)=[assign tg X.env]) rZ9):PS X (.Assign [tg] e pos) (bw te g):=by
 intro zT s Z H D I h;show wpAny_Assign_stores (Af (O zT s Z H _ I h) λv F B=>?_) hs L;let#[x,H1,Y,G,J]:=B;rw[h1];show Af (M zT F Z H1 x v _ Y G J) λ_ s2 q=>q
def bf(i j:Nat)(ta:TA):TS:=λD Z H=>ta Z H λvs H1=>∃v w,vs=[v,w]/\D.nx ((Z.set i ⇑v).set j ⇑w) H1
def Nf(hc:X.calm=true)(hN:X.N.Nodup)(hi:X.N[i]?=⇑x)(hj:X.N[j]?=⇑y)(hij:i≠j)
  (hx:X.env.scope.names.lookup x=⇑.local)(hy:X.env.scope.names.lookup y=⇑.local)(ha:PA X [a,b] ta)
  (hw:swappedStores [.Tuple [.Name x px,.Name y py] kt pt] (.Tuple [a,b] k2 pt2) X.env=pure ⇑[x,y])
  (hs:autoParam (swapsWithSole [.Tuple [.Name x px,.Name y py] kt pt] (.Tuple [a,b] k2 pt2) pos.line X.env=pure false) rZ9):
  PS X (.Assign [.Tuple [.Name x px,.Name y py] kt pt] (.Tuple [a,b] k2 pt2) pos) (bf i j ta):=by
 intro zT s Z H D I h;rw[exec_Assign_arm];show qa (wpAny_standAt ?_);rw[hs];show qa (qb ?_);rw[q8 ⋯];show qa (Tuple_ (Af (ha _ zT s Z H _ I h) λus s1 zq=>?_));let#[vs,H1,I1,r1,q1]:=zq;let#[v,w,e1,q1]:=q1;subst e1;obtain⟨u1,u2,rfl,rv,rw'⟩:∃u1 u2,us=[u1,u2]/\zJ v u1/\zJ w u2:=by
  cases r1 with
  |cons p q=>
   cases q with
   |cons p' q'=>cases q';show#[_,_,rfl,p,p']
 show zk ?_ (by show 2<=sizeLine;decide);let I2:Inv X zT Z H1 {s1 with heap:=s1.heap.push {cls:=.type "tuple",data:=.seq [u1,u2].toArray}}:=I1.kept (t':=s1.toks) λb o e=>qc _ e;rw[hw];show qa (qb ?_);show wpAny (model X.prog X.w) X.A (do rule "assign.swapped-stores";let items<-unpackItems (.ref s1.heap.objs.size) 2 none;assignInOrder [λv=>bindName X.env y v,λv=>bindName X.env x v] items.reverse;pure Flow.next) _ _ _;show qa (wpAny_rule (qa (unpackItems_tuple (items:=[u1,u2].toArray) (I.ok.hd hc) (IsTup.new s1.heap _) λh' hx'=>?_)));let I3:=I2.kept (h':=h') (t':=s1.toks) λb o e=>hx' b o (ne_of_lt (qe e)) e;show wpAny _ _ (assignInOrder [λv=>bindName X.env y v,λv=>bindName X.env x v] [u2,u1]>>=λ_=>pure Flow.next) _ _ _;show qa (assignInOrder_cons (wpAny_bindName (KC I3 hN hj (.inl hy) rw' (λs2 I4=>?_) (.inr hy))));show assignInOrder_cons (wpAny_bindName (KC I4 hN hi (.inl hx) rv (λs3 I5=>assignInOrder_nil (qb ?_)) (.inr hx)));rw[set_comm _ _ (Ne.symm hij)]at I5;show#[_,H1,I5,q1]
def rO(c:TT)(tb:TS):TS:=λD Z H=>∃W:Nat->St->Hp->Prop,(∃m,W m Z H)/\∀m Z H,W m Z H->
 c Z H λb H1=>if b=true then∃N:St->Hp->Prop,(∀Z' H',N Z' H'->∃m',m'<m/\W m' Z' H')/\tb {D with nx:=N,ct:=N,bk:=D.nx} Z H1 else D.nx Z H1
def QM(hp:PassesOwn (model X.prog X.w) X.A X.env X.xe)(hc:PT X c tc)(hb:iJ X body tb):PS X (.While c body [] pos) (rO tc tb):=by
 intro zT s Z H D I h;let#[W,#[m0,w0],G]:=h;show wpAny_While (codeAny_whileLoop (λn s'=>∃Z' H',Inv X zT Z' H' s'/\W n Z' H') ?_ m0 #[Z,H,I,w0]);rintro n s1 ⟨F,H1,I1,w1⟩;show wpAny_passesOwn hp (Af (hc zT s1 F H1 _ I1 (G n F H1 w1)) λb s2 zq=>?_);let#[H2,I2,M]:=zq;cases b with
 |true=>
  let#[N,hN,M]:=M;rw[qZ rfl];show wpAny_passesOwn hp (Af (hb zT s2 F H2 _ I2 M) λf s3 L=>?_);cases f with
  |next=>let#[B,J,I3,Y]:=L;let#[m',hm,O]:=hN B J Y;show#[m',hm,B,J,I3,O]
  |cont=>let#[B,J,I3,Y]:=L;let#[m',hm,O]:=hN B J Y;show#[m',hm,B,J,I3,O]
  |brk=>show L
  |ret v=>show L
 |false=>rw[q8 qW];show wpAny_execs_nil #[F,H2,I2,M]
end
structure It where
 go:Nat->Hp->Prop
 yld:Nat->Hp->V->Hp->Prop
 stop:Nat->Hp->Prop
def bK(X:Cx)(zT:List (Addr×Obj))(H:Hp)(b:Addr):Prop:=
 H b=none/\b≠X.env.locals/\b∉X.fs/\(b∈X.ex\/X.s₀.heap.get? b=none)/\(∀x c,X.env.cells.lookup x=⇑c->c≠b)/\∀p∈X.pn++zT,p.1≠b
def Inv.fpOk(I:Inv X zT Z H s)(B:s.heap.objs.size<=b)(hn:H' b=none):bK X zT H' b:=by
 show#[hn,ne_of_gt (lt_of_lt_of_le I.lt B),I.nofs B,.inr (Heap.get?_none_of_le (le_trans I.sz B)),λx c e z=>?_,λp F z=>?_]
 .obtain⟨v,q⟩:=I.cell x c e;show absurd (lt_of_lt_of_le q.lt (by rw[z];show B)) (lt_irrefl _)
 .show absurd (lt_of_lt_of_le (qe (I.pin p F).1) (by rw[z];show B)) (lt_irrefl _)
structure iI(P:Program)(w:World)(K:W.Frag)(tg:Expr)(J:It)(fp:List Addr)(it:Addr)(tn:Nat->Heap->Prop):Prop where
 mem:it∈fp
 obj:∀i h,tn i h->∀b∈fp,∃o,h.get? b=⇑o/\∀v,o.data≠.cell v
 keep:∀i h h',tn i h->(∀b∈fp,∀o,h.get? b=⇑o->h'.get? b=⇑o)->tn i h'
 item:∀(X:Cx),X.prog=P->X.w=w->X.K=K->X.calm=true->∀(i:Nat)(zT:List (Addr×Obj))(s:Shared)(Z:St)(H:Hp)(E:zu),Inv X zT Z H s->(∀b∈fp,bK X zT H b)->tn i s.heap->J.go i H->
  wpAny (model P w) X.A (pyNext (.ref it)) (λr s1=>∃u,r=⇑u/\
   wpAny (model P w) X.A (letOwnedTupleGo tg (.ref it) u) (λ_ s2=>∃x H',Inv X zT Z H' s2/\zJ x u/\J.yld i H x H'/\tn (i+1) s2.heap/\∀b∈fp,H' b=none) E s1) E s
 done:∀(X:Cx),X.prog=P->X.w=w->X.K=K->X.calm=true->∀(i:Nat)(zT:List (Addr×Obj))(s:Shared)(Z:St)(H:Hp)(E:zu),Inv X zT Z H s->(∀b∈fp,bK X zT H b)->tn i s.heap->J.stop i H->
  wpAny (model P w) X.A (pyNext (.ref it)) (λr s1=>r=none/\Inv X zT Z H s1) E s
 self:∀(A:Around)(i:Nat)(s:Shared)(Q:zu)(E:zu),tn i s.heap->Q (.ref it) s->wpAny (model P w) A (pyIter (.ref it)) Q E s
abbrev TI:=St->Hp->(It->Hp->Prop)->Prop
inductive xW(X:Cx)(zT:List (Addr×Obj))(Z:St)(tg:Expr)(R:It->Hp->Prop)(itv:Value)(s2:Shared):Prop
 |mk (it:Addr) (fp:List Addr) (tn:Nat->Heap->Prop) (J:It) (H':Hp):itv=.ref it->Inv X zT Z H' s2->iI X.prog X.w X.K tg J fp it tn->tn 0 s2.heap->(∀b∈fp,bK X zT H' b)->R J H'->xW X zT Z tg R itv s2
@[inline]def PI(X:Cx)(tg iter:Expr)(B:TI):Prop:=
 ∀(zT:List (Addr×Obj))(s:Shared)(Z:St)(H:Hp)(R:It->Hp->Prop),Inv X zT Z H s->B Z H R->
  wpAny (model X.prog X.w) X.A (eval iter X.env) (λv F=>wpAny (model X.prog X.w) X.A (pyIter v) (xW X zT Z tg R) X.xe F) X.xe s
def Gg(F:s.heap.get? it=⇑o)(J:o.cls=.type n)(G:o.data=.fields vs)
  (hn:["enumerate","zip","dict_itemiterator","dict_reverseitemiterator","odict_iterator","itertools.zip_longest","itertools.pairwise"].contains n=false)(B:Q () s):wpAny M A (letOwnedTupleGo tg (.ref it) u) Q E s:=by
 unfold letOwnedTupleGo;cases tg<;>first
  |show qb B
  |(cases u<;>first
   |show qb B
   |(show qa (wpAny_load F ?_);rw[J,G];show wpAny M A (if(["enumerate","zip","dict_itemiterator","dict_reverseitemiterator","odict_iterator","itertools.zip_longest","itertools.pairwise"].contains n&&vs[0]?==some (rawInt _))=true then _ else _) Q E s;rw[q8 (by intro h;rw[hn,Bool.false_and]at h;cases h)];show qb B))
def yC(K:W.Frag)(a:Addr):It:=
 #[λi H=>∃xs x,bM K H a xs/\xs[i]?=⇑x,λi H x H'=>H'=H/\∀xs,bM K H a xs->xs[i]?=⇑x,λi H=>∃xs,bM K H a xs/\xs.length<=i]
def ig(K:W.Frag)(a:Addr):It:=
 #[λi H=>∃xs x,bA K H a xs/\xs[i]?=⇑x,λi H x H'=>H'=H/\∀xs,bA K H a xs->xs[i]?=⇑x,λi H=>∃xs,bA K H a xs/\xs.length<=i]
def zZ(lo:Int)(n:Nat):It:=#[λi _=>i<n,λi H x H'=>H'=H/\x=.int (lo+i),λi _=>n<=i]
def Sm{P:Program}{w:World}{K:W.Frag}{tg:Expr}(a it:Addr):iI P w K tg (yC K a) [it] it (λi h=>h.IsListIter it a i) where
 mem:=by simp
 obj:=λi h st b hb=>by
  let e:b=it:=↑hb
  subst e;let#[o,e,c,d]:=st;show#[o,e,λv z=>by rw[d]at z;cases z]
 keep:=λi h h' st k=>st.at λo e=>k it (by simp) o e
 item:=by intro X hP hw hK hc i zT s Z H E I hf st hg;subst hP hw hK;let#[xs,x,hq,hx]:=hg;let#[zX,rv,p,hz]:=I.list hq;let#[u,hu,ru]:=rv.get hx;let#[f0,f1,f2,f3,f4,f5]:=hf it (by simp);show wpAny_pyNext_list_item st p.isList (x:=u) ↑hu λh' st' sb=>?_;let I1:Inv X zT Z H {s with heap:=h'}:=I.turned (t':=s.toks) (λb o hb e=>(sb.2 b hb).trans e) f0 f1 f3 f4 f5;let#[o,e,c,d]:=id st';show#[u,rfl,Gg (s:={s with heap:=h'}) e c d ⋯ #[x,H,I1,ru,#[rfl,λys hy=>by rw[I.list_inj hy hq];show hx],st',λb hb=>(hf b hb).1]]
 done:=by intro X hP hw hK hc i zT s Z H E I hf st hg;subst hP hw hK;let#[xs,hq,hx]:=hg;let#[zX,rv,p,hz]:=I.list hq;let#[f0,f1,f2,f3,f4,f5]:=hf it (by simp);let hl:=rv.length;show wpAny_pyNext_list_end (I.ok.hd hc) st p.isList (by simp;lia -verbose) λh' eb=>#[rfl,I.turned (t':=s.toks) (λb o hb e=>eb b o hb e) f0 f1 f3 f4 f5]
 self:=λ_ _ _ _ _ st h=>wpAny_pyIter_listiter st h
def To{P:Program}{w:World}{K:W.Frag}{tg:Expr}(a it:Addr):iI P w K tg (ig K a) [it] it (λi h=>h.IsTupleIter it a i) where
 mem:=by simp
 obj:=λi h st b hb=>by
  let e:b=it:=↑hb
  subst e;let#[o,e,c,d]:=st;show#[o,e,λv z=>by rw[d]at z;cases z]
 keep:=λi h h' st k=>st.at λo e=>k it (by simp) o e
 item:=by intro X hP hw hK hc i zT s Z H E I hf st hg;subst hP hw hK;let#[xs,x,hq,hx]:=hg;let#[zX,rv,p,hz]:=I.tuple hq;let#[u,hu,ru]:=rv.get hx;let#[f0,f1,f2,f3,f4,f5]:=hf it (by simp);show wpAny_pyNext_tuple_item st (show s.heap.IsTuple a zX.toArray from p) (x:=u) ↑hu λh' st' sb=>?_;let I1:Inv X zT Z H {s with heap:=h'}:=I.turned (t':=s.toks) (λb o hb e=>(sb.2 b hb).trans e) f0 f1 f3 f4 f5;let#[o,e,c,d]:=id st';show#[u,rfl,Gg (s:={s with heap:=h'}) e c d ⋯ #[x,H,I1,ru,#[rfl,λys hy=>by rw[I.tuple_inj hy hq];show hx],st',λb hb=>(hf b hb).1]]
 done:=by intro X hP hw hK hc i zT s Z H E I hf st hg;subst hP hw hK;let#[xs,hq,hx]:=hg;let#[zX,rv,p,hz]:=I.tuple hq;let#[f0,f1,f2,f3,f4,f5]:=hf it (by simp);let hl:=rv.length;show wpAny_pyNext_tuple_end (I.ok.hd hc) st (show s.heap.IsTuple a zX.toArray from p) (by simp;lia -verbose) λh' eb=>#[rfl,I.turned (t':=s.toks) (λb o hb e=>eb b o hb e) f0 f1 f3 f4 f5]
 self:=λ_ _ _ _ _ st h=>wpAny_pyIter_tupleiter st h
def Tj{P:Program}{w:World}{K:W.Frag}{tg:Expr}(it:Addr)(lo:Int)(n:Nat):iI P w K tg (zZ lo n) [it] it (λi h=>IsRangeIter h it (lo+(i:Nat)*1) ((n:Int)-(i:Nat)) 1) where
 mem:=by simp
 obj:=λi h st b hb=>by
  let e:b=it:=↑hb
  subst e;show#[_,st,λv z=>by let z':Data.fields _=Data.cell v:=z;cases z']
 keep:=λi h h' st k=>k it (by simp) _ st
 item:=by intro X hP hw hK hc i zT s Z H E I hf st hg;subst hP hw hK;let#[f0,f1,f2,f3,f4,f5]:=hf it (by simp);let W:=Walks.range (prog:=X.prog) (w:=X.w) (I.ok.hd hc) it lo 1 n;show W.item i s _ _ hg st λv h' tk hv st' kk=>?_;let#[t,rfl]:=hv;let I1:Inv X zT Z H {s with heap:=h',toks:=tk}:=I.turned (λb o hb e=>kk b o ↑hb e) f0 f1 f3 f4 f5;show#[_,rfl,Gg (s:={s with heap:=h',toks:=tk}) (n:="range_iterator") st' rfl rfl ⋯ #[.int (lo+i),H,I1,#[t,?_],#[rfl,rfl],st',λb hb=>(hf b hb).1]];rw[mul_one]
 done:=by intro X hP hw hK hc i zT s Z H E I hf st hg;subst hP hw hK;let#[f0,f1,f2,f3,f4,f5]:=hf it (by simp);show wpAny_pyNext_range_end (I.ok.hd hc) st (by let:n<=i:=hg;lia) λh' eb=>#[rfl,I.turned (t':=s.toks) (λb o hb e=>eb b o hb e) f0 f1 f3 f4 f5]
 self:=λ_ _ _ _ _ st h=>wpAny_pyIter_rangeiter st h
section
variable{X:Cx}{tg:Expr}
def Qc{lo hi:Int}(I:Inv X zT Z H s)(h1:-(2^62)<=lo)(h2:lo<2^62)(J:-(2^62)<=hi)(G:hi<2^62)
  (q:R (zZ lo (hi-lo).toNat) H):wpAny (model X.prog X.w) X.A (pyIter (.ref s.heap.objs.size)) (xW X zT Z tg R) E {s with heap:=s.heap.push {cls:=.type "range",data:=.fields [.int lo t,.int hi u,.int 1 v].toArray},toks:=tk}:=by
 refine wpAny_pyIter_range (IsRange.new ..) (small_one h1 h2 J G) ?_;let B:Inv X zT Z H {s with heap:=s.heap.push {cls:=.type "range",data:=.fields [.int lo t,.int hi u,.int 1 v].toArray},toks:=tk}:=I.kept λb o e=>qc _ e;refine⟨(s.heap.push {cls:=.type "range",data:=.fields [.int lo t,.int hi u,.int 1 v].toArray}).objs.size,[(s.heap.push {cls:=.type "range",data:=.fields [.int lo t,.int hi u,.int 1 v].toArray}).objs.size],_,_,H,rfl,
  B.kept (t':=tk) λb o e=>qc _ e,Tj _ lo (hi-lo).toNat,?_,λb F=>?_,q⟩
 .let M:lo+((0:Nat):Int)*1=lo:=by simp
  let L:(((hi-lo).toNat:Nat):Int)-((0:Nat):Int)=Builtin.Range.rangeSize lo hi 1:=by rw[rangeSize_one];split<;>lia
  show IsRangeIter _ _ (lo+((0:Nat):Int)*1) ((((hi-lo).toNat:Nat):Int)-((0:Nat):Int)) 1;rw[M,L];show qd _ rfl
 .let e:b=(s.heap.push {cls:=.type "range",data:=.fields [.int lo t,.int hi u,.int 1 v].toArray}).objs.size:=by simpa using F
  subst e;show B.fpOk (q9 _) (B.hok.fresh (q9 _))
def xE(ta:TA):TI:=λZ H R=>ta Z H λvs H1=>∃j:Int,vs=[.int j]/\-(2^62)<=j/\j<2^62/\R (zZ 0 j.toNat) H1
def RP(O:Gl X "range")(M:X.mg "range"=none)(Y:PA X [a] ta)(hs:autoParam (starEach [a] X.env=[(false,eval a X.env)]) rZ9):PI X tg (.Call (.Name "range" p) [a] [] pos) (xE ta):=by
 intro zT s Z H R I h;show Call_ (Dz I O M boot_range (PyProof.Rows.callWith_type1 (Af (Y pos zT s Z H _ I h) λus s1 F=>?_) hs rfl));let#[vs,H1,I1,J,B]:=F;let#[j,e,B,L,q]:=B;subst e;cases J with
 |cons r G=>cases G;let#[t,rfl]:=r;show call_range_1 (Qc I1 ∅ ∅ B L ↑q)
def bq(F:TI)(g:TG)(tb:TS):TS:=λD Z H=>F Z H λJ H1=>∃W:Nat->Nat->St->Hp->Prop,(∃m,W 0 m Z H1)/\∀i m Z H,W i m Z H->
 (J.stop i H/\D.nx Z H)\/(J.go i H/\∃N:St->Hp->Prop,(∀Z' H',N Z' H'->∃m',m'<m/\W (i+1) m' Z' H')/\∀x H',J.yld i H x H'->g x Z H' λB H2=>tb {D with nx:=N,ct:=N,bk:=D.nx} B H2)
def fH(fp:List Addr)(h:Heap):List (Addr×Obj):=fp.filterMap λb=>(h.get? b).map λo=>(b,o)
def GK(B:b∈fp)(e:h.get? b=⇑o):(b,o)∈fH fp h:=mem_filterMap.mpr #[b,B,by rw[e];rfl]
def Sa(B:p∈fH fp h):p.1∈fp/\h.get? p.1=⇑p.2:=by
 let#[b,F,e]:=mem_filterMap.mp B;cases q:h.get? b with
 |none=>rw[q]at e;cases e
 |some o=>grind
def Inv.pinned(I:Inv X zT Z H s)(L:∀b∈fp,bK X zT H b)(J:∀b∈fp,∃o,s.heap.get? b=⇑o/\∀v,o.data≠.cell v):Inv X (zT++fH fp s.heap) Z H s:=
 I.pins_of λp G=>(qx.mp G).elim (λz=>I.pin p (qi _ z)) λz=>by let#[B,e]:=Sa z;let#[Y,O,M,_]:=L p.1 B;let#[o,F,d]:=J p.1 B;rw[e]at F;cases F;show#[e,Y,O,M,d]
def Inv.unpinned(I:Inv X (zT++F) Z H s):Inv X zT Z H s:=I.pins_of λp B=>I.pin p (qi _ (qj _ B))
def Oo(hp:PassesOwn (model X.prog X.w) X.A X.env X.xe)(hc:X.calm=true)(hi:PI X tg iter wi)(hg:PG X tg g)(L:iJ X body tb)
  (hs:∀x,foldedSetIterable iter X.env x=pure x:=by intro _;rfl):PS X (.For tg iter body [] pos) (bq wi g tb):=by
 intro zT s Z H D I h;show wpAny_For (Af (hi zT s Z H _ I h) λv s1 h1=>Af h1 λe4 s2 h2=>?_) hs;let#[it,fp,tn,J,H2,e,I2,T,e1,f2,W,#[m0,w0],h5]:=h2;subst e
 --what stays true of the iterator's objects through the loop
 let G:∀{H':Hp},(∀b∈fp,H' b=none)->∀b∈fp,bK X zT H' b:=λhn b L=>#[hn b L,(f2 b L).2]
 show codeAny_forLoop_any (λn s'=>∃i Z' H',Inv X zT Z' H' s'/\tn i s'.heap/\(∀b∈fp,H' b=none)/\W i n Z' H') ?_ m0 #[0,Z,H2,I2,e1,λb L=>(f2 b L).1,w0];rintro n s3 ⟨i,F,H3,I3,h7,h8,w3⟩;rcases h5 i n F H3 w3 with⟨h6,qn⟩|⟨go,N,hN,step⟩
 .show wpAny_passesOwn hp (Af (T.done X rfl rfl rfl hc i zT s3 F H3 X.xe I3 (G h8) h7 h6) λr s4⟨hr,I4⟩=>?_);subst hr;show wpAny_execs_nil #[F,H3,I4,qn]
 .show wpAny_passesOwn hp (Af (T.item X rfl rfl rfl hc i zT s3 F H3 X.xe I3 (G h8) h7 go) λr s4 zq=>?_);let#[u,hr,h4]:=zq;subst hr;show wpAny_passesOwn hp (Af h4 λ_ s5 zq=>?_);let#[x,H5,I5,r5,y5,h3,e2]:=zq;let e3:=I5.pinned (G e2) (T.obj _ _ h3);show wpAny_passesOwn hp (Af (hg _ s5 F H5 x u _ e3 r5 (step x H5 y5)) λ_ s6 zq=>?_);let#[h9,H6,I6,q6]:=zq;show wpAny_passesOwn hp (Af (L _ s6 h9 H6 _ I6 q6) λf s7 Y=>?_);let again:∀{B:St}{O:Hp},Inv X (zT++fH fp s5.heap) B O s7->N B O->∃m,m<n/\∃i Z' H',Inv X zT Z' H' s7/\tn i s7.heap/\(∀b∈fp,H' b=none)/\W i m Z' H':=λ{B O} M n7=>by let#[m',hm,w7]:=hN B O n7;show#[m',hm,i+1,B,O,M.unpinned,T.keep _ _ _ h3 λb L o e=>(M.pin (b,o) (qi _ (qi _ (GK L e)))).1,λb L=>?_,w7];let#[o,e,d]:=T.obj _ _ h3 b L;exact(M.pin (b,o) (qi _ (qi _ (GK L e)))).2.1
  cases f with
  |next=>let#[B,O,M,n7]:=Y;show again M n7
  |cont=>let#[B,O,M,n7]:=Y;show again M n7
  |brk=>let#[B,O,M,Y]:=Y;show#[B,O,M.unpinned,Y]
  |ret v=>let#[x7,B,O,M,r7,Y]:=Y;show#[x7,B,O,M.unpinned,r7,Y]
end
abbrev R2:=V->V->Hp->VK->Prop
@[inline]def OpR(X:Cx)(f:Value->Value->Sem Value)(r:R2):Prop:=
 ∀(zT:List (Addr×Obj))(s:Shared)(Z:St)(H:Hp)(x y:V)(v u:Value)(Q:VK),Inv X zT Z H s->zJ x v->zJ y u->r x y H Q->
  wpAny (model X.prog X.w) X.A (f v u) (EP X zT Z Q) X.xe s
def gz(X:Cx)(f:Value->Sem Value)(r:V->Hp->VK->Prop):Prop:=
 ∀(zT:List (Addr×Obj))(s:Shared)(Z:St)(H:Hp)(x:V)(v:Value)(Q:VK),Inv X zT Z H s->zJ x v->r x H Q->
  wpAny (model X.prog X.w) X.A (f v) (EP X zT Z Q) X.xe s
def aR(X:Cx)(f:Value)(r:List V->Hp->VK->Prop):Prop:=
 ∀(zT:List (Addr×Obj))(s:Shared)(Z:St)(H:Hp)(xs:List V)(us:List Value)(Q:VK),Inv X zT Z H s->zQ xs us->r xs H Q->
  wpAny (model X.prog X.w) X.A (call f us) (EP X zT Z Q) X.xe s
def ib(X:Cx)(r:V->Hp->(Bool->Hp->Prop)->Prop):Prop:=
 ∀(zT:List (Addr×Obj))(s:Shared)(Z:St)(H:Hp)(x:V)(v:Value)(Q:Bool->Hp->Prop),Inv X zT Z H s->zJ x v->r x H Q->
  wpAny (model X.prog X.w) X.A (truthy v) (TP X zT Z Q) X.xe s
def yR(r:R2)(ta tb:TE):TE:=λZ H Q=>ta Z H λx H1=>tb Z H1 λy H2=>r x y H2 Q
def jv(r:V->Hp->VK->Prop)(ta:TE):TE:=λZ H Q=>ta Z H λx H1=>r x H1 Q
def rI(C:Int->Int->Prop)(g:Int->Int->V):R2:=λx y H Q=>∃i j,x=.int i/\y=.int j/\C i j/\Q (g i j) H
def pM(g:Int->Int->V):R2:=λx y H Q=>∃i j,x=.int i/\y=.int j/\Q (g i j) H
def rU(g:Int->V):V->Hp->VK->Prop:=λx H Q=>∃i,x=.int i/\Q (g i) H
section
variable{X:Cx}{a b c:Expr}{ta tb tc:TE}{pos:Pos}
def EG(ha:PE X a ta)(hb:PE X b tb){R:V->V->Hp->Prop}(I:Inv X zT Z H s)
  (h:ta Z H λx H1=>tb Z H1 λy H2=>R x y H2){f:Value->Value->Sem Value}
  (hf:∀v u G x y H2,Inv X zT Z H2 G->zJ x v->zJ y u->R x y H2->wpAny (model X.prog X.w) X.A (f v u) Q X.xe G):
  wpAny (model X.prog X.w) X.A (eval a X.env) (λv F=>wpAny (model X.prog X.w) X.A (eval b X.env) (λu B=>wpAny (model X.prog X.w) X.A (f v u) Q X.xe B) X.xe F) X.xe s:=by
 show Af (ha zT s Z H _ I h) λv L J=>?_;let#[x,H1,I1,O,q1]:=J;show Af (hb zT L Z H1 _ I1 q1) λu G J=>?_;let#[y,H2,I2,M,Y]:=J;show hf v u G x y H2 I2 O M Y
def MM(J:OpR X (binaryOp op) r)(M:PE X a ta)(L:PE X b tb):PE X (.BinOp a op b pos) (yR r ta tb):=by intro zT s Z H Q I h;show wpAny_BinOp (EG M L I h λv u B x y H2 O G F q=>J zT B Z H2 x y v u Q O G F q)
def MP(J:gz X (unaryOp op) r)(L:PE X a ta):PE X (.UnaryOp op a pos) (jv r ta):=by intro zT s Z H Q I h;show UnaryOp_ (Af (L zT s Z H _ I h) λv B⟨x,H1,M,F,G⟩=>J zT B Z H1 x v Q M F G)
def FF{g:Int->Int->Int}
  (rule:∀(i j:Int)(t u:Tok)(s:Shared)(Q:zu)(E:zu),C i j->Q (.int (g i j) s.toks) {s with toks:=s.toks+1}->wpAny (model X.prog X.w) X.A (f (.int i t) (.int j u)) Q E s):
  OpR X f (rI C λi j=>.int (g i j)):=by
 intro zT s Z H x y v u Q I G F h;let#[i,j,rfl,rfl,J,q]:=h;let#[t,rfl]:=G;let#[B,rfl]:=F;show rule i j t B s _ _ J #[.int (g i j),H,I.tok _,#[_,rfl],q]
def II{g:Int->Int->Int}
  (rule:∀(i j:Int)(t u:Tok)(s:Shared)(Q:zu)(E:zu),Q (.int (g i j) s.toks) {s with toks:=s.toks+1}->wpAny (model X.prog X.w) X.A (f (.int i t) (.int j u)) Q E s):
  OpR X f (pM λi j=>.int (g i j)):=by
 intro zT s Z H x y v u Q I G F h;let#[i,j,rfl,rfl,q]:=h;let#[t,rfl]:=G;let#[B,rfl]:=F;show rule i j t B s _ _ #[.int (g i j),H,I.tok _,#[_,rfl],q]
def DF{g:Int->Int->Bool}
  (rule:∀(i j:Int)(t u:Tok)(s:Shared)(Q:zu)(E:zu),Q (.bool (g i j)) s->wpAny (model X.prog X.w) X.A (f (.int i t) (.int j u)) Q E s):
  OpR X f (pM λi j=>.bl (g i j)):=by
 intro zT s Z H x y v u Q I G F h;let#[i,j,rfl,rfl,q]:=h;let#[t,rfl]:=G;let#[B,rfl]:=F;show rule i j t B s _ _ #[.bl (g i j),H,I,rfl,q]
def yI(i j:Int):Prop:=0<=j/\j<=1000000/\i.natAbs<2^64
def mY(i j:Int):Prop:=(-(2^64)<i/\i<2^64)\/(-(2^64)<j/\j<2^64)
def mY.ok(h:mY i j):IntMulOk i j:=by
 rcases h with⟨h1,h2⟩|⟨h1,h2⟩
 .show .of_left (intBits_le_64 h1 h2)
 .show .of_right (intBits_le_64 h1 h2)
def MZ:OpR X (binaryOp .Add) (pM λi j=>.int (i+j)):=II λ_ _ _ _ _ _ _ q=>add_int q
def Ni:OpR X (binaryOp .Mult) (rI mY λi j=>.int (i*j)):=FF λ_ _ _ _ _ _ _ B q=>mul_int q B.ok
def MS:OpR X (binaryOp .Mod) (rI (λ_ j=>0<j) λi j=>.int (i %j)):=FF λi j _ _ _ _ _ B q=>by let h1:(0:Int)<j:=B;show mod_int' ∅ (by rw[Int.fmod_eq_emod_of_nonneg i ∅];show q)
def NB:OpR X (binaryOp .Pow) (rI yI λi j=>.int (i^j.toNat)):=FF λ_ _ _ _ _ _ _ B q=>pow_int_small B.1 B.2.1 B.2.2 q
def US{g:Int->Int}
  (rule:∀(i:Int)(t:Tok)(s:Shared)(Q:zu)(E:zu),Q (.int (g i) s.toks) {s with toks:=s.toks+1}->wpAny (model X.prog X.w) X.A (f (.int i t)) Q E s):
  gz X f (rU λi=>.int (g i)):=by
 intro zT s Z H x v Q I B h;let#[i,rfl,q]:=h;let#[t,rfl]:=B;show rule i t s _ _ #[.int (g i),H,I.tok _,#[_,rfl],q]
def Nt:gz X (unaryOp .USub) (rU λi=>.int (-i)):=US λ_ _ _ _ _ q=>neg_int q
end
def vV:V->V->Bool
 |.non,.non=>true|.non,.int _=>true|.int _,.non=>true|.non,.bl _=>true|.bl _,.non=>true|.non,.str _=>true|.str _,.non=>true
 |.int _,.int _=>true|.bl _,.bl _=>true|.str _,.str _=>true|.byt _,.byt _=>true
 |.int _,.str _=>true|.str _,.int _=>true|.bl _,.str _=>true|.str _,.bl _=>true
 |_,_=>false
def kb:R2:=λx y H Q=>vV x y=true/\Q (.bl (!decide (x=y))) H
def OZ:↥(V.int i=V.int j)=(i==j):=by rw[Bool.eq_iff_iff];simp
def Nu:↥(V.bl i=V.bl j)=(i==j):=by rw[Bool.eq_iff_iff];simp
def Pd:↥(V.str i=V.str j)=(i==j):=by rw[Bool.eq_iff_iff];simp
def Og:↥(V.byt i=V.byt j)=(i.toList==j.toList):=by rw[Bool.eq_iff_iff];cases i;cases j;simp
section
variable{X:Cx}{a b c:Expr}{ta tb tc:TE}{pos:Pos}
def BN(I:Inv X zT Z H s)(q:Q (.bl k) H)(e:k=B):EP X zT Z Q (.bool B) s:=by subst e;show#[.bl k,H,I,rfl,q]
def MD:OpR X (compareOp .NotEq) kb:=by
 intro zT s Z H x y v u Q I J B h;let#[G,q]:=h;cases x with
 |non=>
  cases J;cases y with
  |non=>cases B;show PySem.EqNone.ne_none_none (BN I q (by simp))
  |bl j=>cases B;show PySem.EqNone.ne_none_bool (BN I q (by simp))
  |int j=>let#[F,rfl]:=B;show PySem.EqNone.ne_none_int (BN I q (by simp))
  |str j=>let#[F,rfl]:=B;show PySem.EqNone.ne_none_str (BN I q (by simp))
  |_=>show absurd (show false=true from G) qW
 |bl i=>
  cases J;cases y with
  |non=>cases B;show PySem.EqNone.ne_bool_none (BN I q (by simp))
  |bl j=>cases B;show ne_bool (BN I q (congrArg not Nu))
  |str j=>let#[F,rfl]:=B;show PySem.EqMixed.ne_bool_str (BN I q (by simp))
  |_=>show absurd (show false=true from G) qW
 |int i=>
  let#[t,rfl]:=J;cases y with
  |non=>cases B;show PySem.EqNone.ne_int_none (BN I q (by simp))
  |int j=>let#[F,rfl]:=B;show ne_int (BN I q (congrArg not OZ))
  |str j=>let#[F,rfl]:=B;show PySem.EqMixed.ne_int_str (BN I q (by simp))
  |_=>show absurd (show false=true from G) qW
 |str i=>
  let#[t,rfl]:=J;cases y with
  |non=>cases B;show PySem.EqNone.ne_str_none (BN I q (by simp))
  |bl j=>cases B;show PySem.EqMixed.ne_str_bool (BN I q (by simp))
  |int j=>let#[F,rfl]:=B;show PySem.EqMixed.ne_str_int (BN I q (by simp))
  |str j=>let#[F,rfl]:=B;show ne_str (BN I q (congrArg not Pd))
  |_=>show absurd (show false=true from G) qW
 |byt i=>
  let#[t,rfl]:=J;cases y with
  |byt j=>let#[F,rfl]:=B;show W.ne_bytes (BN I q (congrArg not Og))
  |_=>show absurd (show false=true from G) qW
 |_=>cases y<;>show absurd (show false=true from G) qW
def MK:OpR X (compareOp .Lt) (pM λi j=>.bl ↥(i<j)):=DF λ_ _ _ _ _ _ _ q=>lt_int q
def MR:OpR X (compareOp .LtE) (pM λi j=>.bl ↥(i<=j)):=DF λ_ _ _ _ _ _ _ q=>le_int q
def Mx:OpR X (compareOp .Gt) (pM λi j=>.bl ↥(j<i)):=DF λ_ _ _ _ _ _ _ q=>gt_int q
def MH:OpR X (compareOp .GtE) (pM λi j=>.bl ↥(j<=i)):=DF λ_ _ _ _ _ _ _ q=>ge_int q
def NQ:OpR X (compareOp .Is) (λx y H Q=>y=.non/\Q (.bl ↥(x=.non)) H):=by
 intro zT s Z H x y v u Q I B F h;let#[rfl,q]:=h;cases F;show is_none_gen (BN I q ?_);cases x<;>first
  |(cases B;rfl)
  |(let#[t,rfl]:=B;rfl)
def Ac(b:Expr)(h:autoParam (op≠.In) dZ9)(h2:autoParam (op≠.NotIn) dZ9):behindInMarks op b=false:=Dh b h h2
def NY(J:OpR X (compareOp op) r)(O:PE X a ta)(M:PE X b tb)(L:behindInMarks op b=false):PE X (.Compare a [op] [b] pos) (yR r ta tb):=by intro zT s Z H Q I h;show wpAny_Compare1 (EG O M I h λv u B x y H2 Y G F q=>J zT B Z H2 x y v u Q Y G F q) L
def pF(t:TE):TT:=λZ H Q=>t Z H λx H'=>∃k,x=.bl k/\Q k H'
def OQ(ho:OpR X (compareOp op) r)(ha:PE X a ta)(hb:PE X b tb)(hm:behindInMarks op b=false):PT X (.Compare a [op] [b] pos) (pF (yR r ta tb)):=by
 intro zT s Z H Q I h;show wpAny_isTrue_Compare1 (Af (ha zT s Z H _ I h) λv F⟨x,H1,I1,L,Y⟩=>Af (hb zT F Z H1 _ I1 Y) λu B⟨y,H2,I2,J,O⟩=>Af (ho zT B Z H2 x y v u _ I2 L J O) λc s3⟨z,H3,I3,G,k,e,M⟩=>?_) hm
 subst e;cases G;show wpAny_truthy_bool #[H3,I3,M]
def iN(r G:R2)(ta tb tc:TE):TE:=λZ H Q=>ta Z H λx H1=>tb Z H1 λy H2=>r x y H2 λz B=>∃k,z=.bl k/\
 (if k=true then tc Z B λF J=>G y F J Q else Q (.bl false) B)
def QH(ho:OpR X (compareOp op) r)(F:OpR X (compareOp B) r')(ha:PE X a ta)(hb:PE X b tb)(hc:PE X c tc)
  (hm:lastMarks [op,B] [b,c]=false:=by with_unfolding_all rfl):PE X (.Compare a [op,B] [b,c] pos) (iN r r' ta tb tc):=by
 intro zT s Z H Q I h;show Compare_chain (Af (ha zT s Z H _ I h) λv s1⟨x,H1,I1,r1,q1⟩=>chain_link (Af (hb zT s1 Z H1 _ I1 q1) λu s2⟨y,H2,I2,G,q2⟩=>Af (ho zT s2 Z H2 x y v u _ I2 r1 G q2) λd s3⟨z,M,L,r3,k,e,J⟩=>?_)) hm
 subst e;cases r3;show wpAny_truthy_bool ?_;cases k with
 |false=>show ite_ff #[.bl false,M,L,rfl,J]
 |true=>show ite_tt (chain_last (Af (hc zT s3 Z M _ L J) λY s4⟨O,H4,I4,r4,q4⟩=>F zT s4 Z H4 y O u Y Q I4 G r4 q4))
def PC(ho:OpR X (compareOp op) r)(F:OpR X (compareOp B) r')(ha:PE X a ta)(hb:PE X b tb)(hc:PE X c tc)
  (hm:lastMarks [op,B] [b,c]=false:=by with_unfolding_all rfl):PT X (.Compare a [op,B] [b,c] pos) (pF (iN r r' ta tb tc)):=by
 intro zT s Z H Q I h;show isTrue_chain (Af (ha zT s Z H _ I h) λv s1⟨x,H1,I1,r1,q1⟩=>test_link (Af (hb zT s1 Z H1 _ I1 q1) λu s2⟨y,H2,I2,G,q2⟩=>Af (ho zT s2 Z H2 x y v u _ I2 r1 G q2) λd s3⟨z,M,L,r3,k,e,J⟩=>?_)) hm
 subst e;cases r3;show wpAny_truthy_bool ?_;cases k with
 |false=>let#[k',e',q']:=J;cases e';show ite_ff #[M,L,q']
 |true=>show ite_tt (test_last (Af (hc zT s3 Z M _ L J) λw' s4⟨Y,H4,I4,r4,q4⟩=>Af (F zT s4 Z H4 y Y u w' _ I4 G r4 q4) λd' s5 O=>?_));let#[z2,H5,I5,r5,k2,e2,q5]:=O;subst e2;cases r5;show wpAny_truthy_bool #[H5,I5,q5]
def uT(K:W.Frag)(x:V)(H:Hp)(k:Bool):Prop:=
 match x with
 |.non=>k=false
 |.bl b=>k=b
 |.int i=>k=(i !=0)
 |.str y=>y.length<=sizeLine/\k=((y.length:Int) !=0)
 |.byt y=>y.size<=sizeLine/\k=((y.size:Int) !=0)
 |.ref p=>(∃xs,bM K H p xs/\k=!xs.isEmpty)\/(∃xs,bA K H p xs/\k=!xs.isEmpty)\/∃B,H p=⇑(.dK B)/\k=!B.isEmpty
 |_=>False
def TU(r:KV B vs):(!vs.isEmpty)=!B.isEmpty:=by cases r<;>rfl
def Mm(r:zQ xs B):(!B.toArray.isEmpty)=!xs.isEmpty:=by cases r<;>simp
def AF:(sizeLine:Nat)<2^63:=by rw[zm];decide
def NN:ib X (λx H Q=>∃k,uT X.K x H k/\Q k H):=by
 intro zT s Z H x v Q I J h;let#[k,e,q]:=h;let hl:=AF;let hs:sizeLine=16777216:=zm;cases x with
 |non=>cases J;let B:k=false:=e;subst B;show truthy_none #[H,I,q]
 |bl b=>cases J;let B:k=b:=e;subst B;show wpAny_truthy_bool #[H,I,q]
 |int i=>let#[t,rfl]:=J;let B:k=(i !=0):=e;subst B;show PySem.P.truthy_int #[H,I,q]
 |str y=>let#[t,rfl]:=J;obtain⟨hy,B⟩:y.length<=sizeLine/\k=((y.length:Int) !=0):=e;subst B;show PySem.P.truthy_str ∅ #[H,I.tok _,q]
 |byt y=>let#[t,rfl]:=J;obtain⟨hy,B⟩:y.size<=sizeLine/\k=((y.size:Int) !=0):=e;subst B;show W.truthy_bytes ∅ #[H,I.tok _,q]
 |ref p=>
  cases J;let B:(∃xs,bM X.K H p xs/\k=!xs.isEmpty)\/(∃xs,bA X.K H p xs/\k=!xs.isEmpty)\/∃F,H p=⇑(.dK F)/\k=!F.isEmpty:=e;rcases B with⟨xs,L,B⟩|⟨xs,L,B⟩|⟨F,L,B⟩
  .subst B;let#[O,r,M,Y]:=I.list L;let G:=r.length;show wpAny_truthy_list M.isList (by simp only[qr];lia) #[H,I.tok _,by rw[Mm r];show q]
  .subst B;let#[O,r,M,Y]:=I.tuple L;let G:=r.length;show truthy_tuple M (by simp only[qr];lia) #[H,I.tok _,by rw[Mm r];show q]
  .subst B;obtain⟨Y,hS,vs,r,m⟩:F.length<=sizeLine/\(p==sysModules)=false/\∃vs,KV F vs/\s.heap.DictOf (aG X.prog X.w) p vs:=I.hok p _ L;let G:F.length=vs.length:=Paired.length r;show wpAny_truthy_dict hS m ∅ #[H,I.tok _,by rw[TU r];show q]
 |_=>show(show False from e).elim
def PR(ha:PE X a ta)(he:∀whole,isTrue a X.env whole=(do let v<-whole;standAt a.pos;holding [v] (truthy v))):
  PT X a (λZ H Q=>ta Z H λx H'=>∃k,uT X.K x H' k/\Q k H'):=by
 intro zT s Z H Q I h;show isTrue_plain (Af (ha zT s Z H _ I h) λv s1⟨x,H1,I1,r1,q1⟩=>NN zT s1 Z H1 x v Q I1 r1 q1) (he _)
def TC:OpR X (binaryOp .Add) (λx y H Q=>∃i j,x=.str i/\y=.str j/\i.length+j.length<=sizeLine/\Q (.str (i++j)) H):=by intro zT s Z H x y v u Q I G F h;let#[i,j,rfl,rfl,J,q]:=h;let#[t,rfl]:=G;let#[B,rfl]:=F;show add_str (λB tk=>#[.str (i++j),H,I.tok _,#[_,rfl],q]) J
theorem vals1(r:zQ [x] us):∃u,us=[u]/\zJ x u:=by
 cases r with
 |cons F B=>cases B;show#[_,rfl,F]
theorem vals2(r:zQ [x,y] us):∃u B,us=[u,B]/\zJ x u/\zJ y B:=by
 cases r with
 |cons L J=>
  cases J with
  |cons G F=>cases F;show#[_,_,rfl,L,G]
def RE(F:X.calm=true):aR X (.builtin "max") (λxs H Q=>∃i j,xs=[.int i,.int j]/\Q (.int (if j>i then j else i)) H):=by
 intro zT s Z H xs J Q I r h;let#[i,j,rfl,q]:=h;let#[u,G,rfl,#[t,rfl],#[L,rfl]]:=vals2 r;show max_two_ints (I.ok.hd F) λh' tk k=>#[_,H,I.kept k,?_,q]
 by_cases B:j>i
 .rw[qZ B,qZ B];show#[_,rfl]
 .rw[q8 B,q8 B];show#[_,rfl]
def RW(F:X.calm=true):aR X (.builtin "min") (λxs H Q=>∃i j,xs=[.int i,.int j]/\Q (.int (if j<i then j else i)) H):=by
 intro zT s Z H xs J Q I r h;let#[i,j,rfl,q]:=h;let#[u,G,rfl,#[t,rfl],#[L,rfl]]:=vals2 r;show min_two_ints (I.ok.hd F) λh' tk k=>#[_,H,I.kept k,?_,q]
 by_cases B:j<i
 .rw[qZ B,qZ B];show#[_,rfl]
 .rw[q8 B,q8 B];show#[_,rfl]
def Lz:aR X (.type "int") (λxs H Q=>(∃i,xs=[.int i]/\Q (.int i) H)\/∃k,xs=[.bl k]/\Q (.int (if k then 1 else 0)) H):=by
 intro zT s Z H xs F Q I r h;rcases h with⟨i,rfl,q⟩|⟨k,rfl,q⟩
 .obtain⟨u,rfl,t,rfl⟩:=vals1 r;show call_int_int #[.int i,H,I,#[_,rfl],q]
 .obtain⟨u,rfl,B⟩:=vals1 r;cases B;show call_int_bool #[.int (if k then 1 else 0),H,I.tok _,#[_,rfl],q]
end
structure uW(h:Heap)(x dx C:Addr)(mA:Str->Option Value):Prop where
 obj:h.get? x=⇑(W.instObj C dx)
 ns:h.Ns1 dx mA
 ne:dx≠x
def RH{h:Heap}(n:h.Ns1 dx G):∃F,h.get? dx=⇑F/\∀name,W.lookIn name F=⇑(G name):=by
 let#[o,es,ep,L,Y,O,_,M]:=n;show#[o,L,λname=>?_];let e:=M name;unfold nsFind findBy at e;rw[<-Array.find?_toList]at e;unfold W.lookIn;rw[Y];dsimp only;split
 .rename_i y q;rw[q]at e;show congrArg some e
 .rename_i q;rw[q]at e;let a:es.toList.any (·.refKey)=false:=by rw[List.any_eq_false];intro y J;let#[z,t,B]:=O y (mem_toList_iff.mp J);simp[DictEntry.refKey,B]
  grind
def uW.look(I:uW h x dx C F):∃B,W.InstAt h x (W.instObj C dx) C ⇑B/\∀name,W.lookIn name B=⇑(F name):=
 let⟨B,ho,hl⟩:=RH I.ns
 #[B,#[I.obj,rfl,rfl,ho],hl]
def fQ.none_of(r:fQ none o):o=none:=by
 cases o with
 |none=>rfl
 |some u=>show(show False from r).elim
section
variable{P:Program}{w:World}{H H':Hp}{h h':Heap}{a C dx:Addr}{fs fs':List (Str×V)}
def OI(F:dI P w H h)(e:H a=⇑(.ins C dx fs)):∃B,uW h a dx C B/\(∀f,fQ (fs.lookup f) (B f))/\PySem.Within B (fs.map (·.1))/\fs.length<=1000/\H dx=⇑(.own a):=by
 let#[d,z,J,G,B,n,r,q]:=(show zS P w H h a (.ins C dx fs) from F a _ e)
 show#[B,#[G,n,J],r,q,z,d]
end
structure ij(K:W.Frag)(C:Addr):Prop where
 pg:W.plainGet K C Str.empty=true
 hd:W.hasDictIn K C=true
 po:W.plainOver K C=true
 sa:W.findIn K (.ref C) "__setattr__"=⇑⇑(.builtin "object.__setattr__")
def ij.get{K:W.Frag}(c:ij K C)(f:Str):W.plainGet K C f=true:=c.pg
section
variable{X:Cx}{zT:List (Addr×Obj)}{Z:St}{H:Hp}{s:Shared}{A:Around}{E:zu}{Q:zu}{c:Value}{b:Bool}
inductive eX(K:W.Frag)(H:Hp):V->Value->Prop where
 |non:eX K H .non (.type "NoneType")
 |bl (x:Bool):eX K H (.bl x) (.type "bool")
 |int (i:Int):eX K H (.int i) (.type "int")
 |str (x:Str):eX K H (.str x) (.type "str")
 |flt (x:UInt64):eX K H (.flt x) (.type "float")
 |lst {a:Addr} {xs:List V} (e:H a=some (.lst xs)):eX K H (.ref a) (.type "list")
 |frz {a:Addr} {o:Obj} {xs:List V} (e:H a=some (.frz o (.lst xs))):eX K H (.ref a) (.type "list")
 |tup {a:Addr} {xs:List V} (e:H a=some (.tup xs)):eX K H (.ref a) (.type "tuple")
 |dK {a:Addr} {zU:List (aP×V)} (e:H a=some (.dK zU)):eX K H (.ref a) (.type "dict")
 |dT {a:Addr} {zU:List (List aP×V)} (e:H a=some (.dT zU)):eX K H (.ref a) (.type "dict")
 |ins {a C dx:Addr} {fs:List (Str×V)} (e:H a=some (.ins C dx fs)) (cl:ij K C) (ha:W.findIn K (.ref C) "__class__"=some (some (.builtin "object.__class__")))
  (hn:W.specialIn K (.builtin "object.__class__") "__get__"=⇑⇑(.builtin "getset_descriptor.__get__")) (htk:W.takesIn K (.builtin "object.__class__")=⇑true)
  (hm:W.mroIn K C (.type "object")=⇑true):eX K H (.ref a) (.ref C)
def Ex(I:Inv X zT Z H s)(B:zJ x u)(Y:eX X.K H x t)(e:W.kitOne X.K t c=⇑b)(h:∀tk,Q (.bool b) {s with toks:=tk}):
  wpAny (model X.prog X.w) A (call (.builtin "isinstance") [u,c]) Q E s:=by
 cases Y with
 |non=>cases(show u=Value.none from B);show W.kia_one W.kitx_none I.kIn True.intro e (λz=>nomatch z) h
 |bl y=>cases(show u=Value.bool y from B);show W.kia_one W.kitx_bool I.kIn True.intro e (λz=>nomatch z) h
 |int i=>let#[t,q]:=(show∃t,u=Value.int i t from B);cases q;show W.kia_one W.kitx_int I.kIn True.intro e (λz=>nomatch z) h
 |str y=>let#[t,q]:=(show∃t,u=Value.str y t from B);cases q;show W.kia_one W.kitx_str I.kIn True.intro e (λz=>nomatch z) h
 |flt y=>let#[t,q]:=(show∃t,u=Value.float y t from B);cases q;show W.kia_one W.kitx_float I.kIn True.intro e (λz=>nomatch z) h
 |@lst a xs F=>
  cases(show u=Value.ref a from B);let#[_,_,n,_,h1]:=(show zS X.prog X.w H s.heap a (.lst xs) from I.hok a _ F)
  show W.kia_one W.kitx_list I.kIn #[_,h1,rfl] e (λz=>nomatch z) h
 |@frz a ob xs F=>
  cases(show u=Value.ref a from B);let#[_,_,_,n,_,h1]:=(show zS X.prog X.w H s.heap a (.frz ob (.lst xs)) from I.hok a _ F)
  show W.kia_one W.kitx_list I.kIn #[_,h1,rfl] e (λz=>nomatch z) h
 |@tup a xs F=>
  cases(show u=Value.ref a from B);let#[_,_,_,p]:=(show zS X.prog X.w H s.heap a (.tup xs) from I.hok a _ F)
  let#[o,h1,h2,_]:=p;show W.kia_one W.kitx_tuple I.kIn #[o,h1,h2] e (λz=>nomatch z) h
 |@dK a G F=>
  cases(show u=Value.ref a from B);let#[_,_,vs,_,p]:=(show zS X.prog X.w H s.heap a (.dK G) from I.hok a _ F)
  let#[o,es,ep,h1,h2,_]:=p;show W.kia_one W.kitx_dict I.kIn #[o,h1,h2.1] e (λz=>nomatch z) h
 |@dT a G F=>
  cases(show u=Value.ref a from B);let#[_,_,xs,_,o,es,ep,h1,h2,_]:=(show zS X.prog X.w H s.heap a (.dT G) from I.hok a _ F)
  show W.kia_one W.kitx_dict I.kIn #[o,h1,h2.1] e (λz=>nomatch z) h
 |@ins a C dx fs F M ha hn L hm=>cases(show u=Value.ref a from B);let#[mA,O,_]:=OI I.hok F;let#[od,J,_]:=O.look;show W.kia_one (W.kitx_own (M.get _) M.hd ha hn L hm) I.kIn J e (λz=>nomatch z) h
end
structure bD(k:Nat)(A:Around):Prop where
 hd:A.handled=none
 dp:A.depth+3*k+5<recursionLimit
 un:A.units+16*k+200<cLine
 gd:A.guards=⇑[]
def bD.mono(r:bD k A)(h:j<=k):bD j A:=#[r.hd,by let:=r.dp;lia,by let:=r.un;lia,r.gd]
def bD.deeper(r:bD (k+1) A)(env:Env):bD k (A.deeper env):=
 #[r.hd,by let:=r.dp;show A.depth+1+3*k+5<_;lia,by let:=r.un;show A.units+3+16*k+200<_;lia,r.gd]
def TN{A:Around}:(A.under (.builtin "type.__call__" #[.ref C::us,B])).depth=A.depth+1:=by first|rfl|assumption|(simp_all;done)
def Tr{A:Around}:(A.under (.builtin "type.__call__" #[.ref C::us,B])).units=A.units+1:=by first|rfl|assumption|(simp_all;done)
def bD.make(r:bD (k+1) A)(C:Addr)(us:List Value)(B:List (Str×Value)):bD k (A.under (.builtin "type.__call__" #[.ref C::us,B])):=
 #[r.hd,by let:=r.dp;rw[TN];lia,by let:=r.un;rw[Tr];lia,by first|show r.gd|(have:=r.gd;simp[Around.under,Code.isGuard,guardIds,this])]
def bD.depth(r:bD k A):A.depth<recursionLimit:=by let:=r.dp;lia
def bD.units(r:bD k A):A.units+64<cLine:=by let:=r.un;lia
def bj:TA:=λ_ H Q=>Q [] H
def vT(ta:TE)(B:TA):TA:=λZ H Q=>ta Z H λx H1=>B Z H1 λxs H2=>Q (x::xs) H2
section
variable{X:Cx}{e:Expr}{es:List Expr}{te:TE}{t:TA}{pos:Pos}
def MX:PA X [] bj:=λ_ _ _ _ H Q I h=>Calls.spliced_nil #[[],H,I,.nil,h]
def NZ(Y:PE X e te)(O:PA X es t)(hs:autoParam (starEach (e::es) X.env=(false,eval e X.env)::starEach es X.env) rZ9):PA X (e::es) (vT te t):=by intro pos zT s Z H Q I h;rw[hs];show wpAny _ _ (spliced ((false,eval e X.env)::backTo pos (starEach es X.env))) _ _ s;show Calls.spliced_cons (Af (Y zT s Z H _ I h) λu F B=>?_);let#[x,H1,I1,J,M]:=B;show Af (O pos zT F Z H1 _ I1 M) λus s2⟨xs,H2,I2,G,L⟩=>#[x::xs,H2,I2,.cons J G,L]
def ba(t:TA):TE:=λZ H Q=>t Z H λxs H1=>xs.length<=sizeLine/\∀p,H1 p=none->Q (.ref p) (upd H1 p (.tup xs))
def bo(t:TA):TE:=λZ H Q=>t Z H λxs H1=>xs.length<=sizeLine/\∀p,H1 p=none->Q (.ref p) (upd H1 p (.lst xs))
def Ou(h:PA X es t):PE X (.Tuple es M pos) (ba t):=by intro zT s Z H Q I J;show wpAny_Tuple_spliced (Af (h pos zT s Z H _ I J) λG B⟨xs,H1,F,r,z,q⟩=>#[by rw[<-r.length];show z,?_]);let L:H1 B.heap.objs.size=none:=F.hok.fresh (q9 _);show#[.ref B.heap.objs.size,upd H1 B.heap.objs.size (.tup xs),F.laid (t':=B.toks) (λb u e=>qc _ e) (q9 _) ?_,rfl,q _ L];show#[#[z,iY.new rfl (qd _ rfl)],G,r,#[_,qd _ rfl,rfl,_,rfl]]
def NO(h:PA X es t):PE X (.List es pos) (bo t):=by intro zT s Z H Q I J;show wpAny_List_spliced (Af (h pos zT s Z H _ I J) λG B⟨xs,H1,F,r,z,q⟩=>#[by rw[<-r.length];show z,?_]);let L:H1 B.heap.objs.size=none:=F.hok.fresh (q9 _);show#[.ref B.heap.objs.size,upd H1 B.heap.objs.size (.lst xs),F.laid (t':=B.toks) (λb u e=>qc _ e) (q9 _) ?_,rfl,q _ L];show#[z,G,0,r,qd _ rfl]
end
abbrev Sp:=List V->Hp->VK->XK->Prop
abbrev yH:=List Env->Hp->Shared->XK->Value->Shared->Prop
structure jB(P:Program)(w:World)(K:W.Frag)(mg:Str->Option Value)(base:Heap)(A:Around)(outer:List Env)(s:Shared)(H:Hp):Prop where
 frames:A.frames=⇑outer
 mod:Mod K mg base
 bs:∀b o,base.get? b=⇑o->s.heap.get? b=⇑o/\H b=none
 bsz:base.objs.size<=s.heap.objs.size
 funs:s.heap.FunFrames base outer
 frf:∀b∈gZ outer,H b=none
 hok:dI P w H s.heap
 bare:AllBare s.gens
@[inline]def CE(B:List Env)(P:Program)(w:World)(H:Hp)(s:Shared)(Q:VK)(u:Value)(s':Shared):Prop:=
 ∃v H',s'.os=s.os/\AllBare s'.gens/\Un (gZ B) [] H H' s.heap s'.heap/\dI P w H' s'.heap/\zJ v u/\Q v H'
@[inline]def CR(CX:yH)(B:List Env)(P:Program)(w:World)(H:Hp)(s:Shared)(Q:VK)(E:XK)(r:Result)(s':Shared):Prop:=
 match r with
 |.ok (.ret u)=>CE B P w H s Q u s'
 |.ok _=>False
 |.error e=>CX B H s E e s'
structure dH(P:Program)(w:World)(K:W.Frag)(mg:Str->Option Value)(base:Heap)(CX:yH)(k:Nat)(f:Addr)(fd:FuncData)(ps:List Str)(sp:Sp):Prop where
 len:∀vs H Q E,sp vs H Q E->vs.length=ps.length
 run:∀(A:Around)(outer:List Env)(s:Shared)(H:Hp)(args:Args)(us:List Value)(vs:List V)(Q:VK)(E:XK),bD k A->jB P w K mg base A outer s H->BindsTo s fd args (ps.zip us)->zQ vs us->sp vs H Q E->
  codeAny (model P w) A (.call (.ref f) args) (CR CX outer P w H s Q E) s
def jB.make{K:W.Frag}(e:jB P w K mg base A outer s H)(C:Addr)(us:List Value)(B:List (Str×Value)):
  jB P w K mg base (A.under (.builtin "type.__call__" #[.ref C::us,B])) outer s H:=#[by first|show e.frames|(simpa[Around.under,Code.envs,Code.isFrame,pushEnvs] using e.frames),e.mod,e.bs,e.bsz,e.funs,e.frf,e.hok,e.bare]
section
variable{X:Cx}{zT:List (Addr×Obj)}{Z:St}{H:Hp}{s s':Shared}
def Inv.env0(I:Inv X zT Z H s):jB X.prog X.w X.K X.mg X.base X.A X.stack s H:=
 #[I.ok.frames,I.ok.mod,I.bs,le_trans I.ok.bsz I.sz,I.stack,I.stkFree,I.hok,I.bare]
def Inv.after(I:Inv X zT Z H s)(h:CE X.stack X.prog X.w H s Q u s'):EP X zT Z Q u s':=by let#[v,H',os,bare,un,F,r,q]:=h;let#[G,g,d,t,B]:=s';obtain rfl:B=s.os:=os;show#[v,H',I.call (h':=G) (g':=g) (d':=d) (t':=t) (ch:=[]) un F bare (λb z=>absurd z (by simp)),r,q]
end
@[inline]def Binds(K:W.Frag)(fd:FuncData)(ps:List Str)(ds:List Value):Prop:=
 ∀(s:Shared)(us:List Value),K.In s.heap->(us++ds).length=ps.length->BindsTo s fd #[us,[]] (ps.zip (us++ds))
def Binds.all{K:W.Frag}(h:∀us:List Value,us.length=ps.length->bindArgs fd #[us,[]]=pure (ps.zip us)):Binds K fd ps []:=λs us _ B=>by rw[qz]at B⊢;show .of_eq (h us B)
structure aC(N P:List Str)(sc:Scope):Prop where
 kind:sc.kind=.function
 co:sc.isCoroutine=false
 gen:sc.isGenerator=false
 nd:N.Nodup
 pre:N.take P.length=P
 par:∀x∈P,sc.names.lookup x=⇑.local\/sc.names.lookup x=⇑.cell
 nofree:∀y∈sc.names,y.2≠.free
def Lp{kindOf:Str->Option NameKind}:∀{binds:List (Str×Value)}{m:Str->Option Value},(∀v,(x,v)∉binds)->bindL kindOf binds m x=m x
 |[],_,_=>rfl
 |(n,v)::r,m,h=>by
  unfold bindL;rw[Lp λw B=>h w (qk _ B)];split
  .let:x≠n:=by rintro rfl;exact h v qm
   simp[this]
  .rfl
def Lr{kindOf:Str->Option NameKind}:∀{binds:List (Str×Value)}{m:Str->Option Value},(∀v,(x,v)∉binds)->bindC kindOf binds m x=m x
 |[],_,_=>rfl
 |(n,v)::r,m,h=>by
  unfold bindC;rw[Lr λw B=>h w (qk _ B)];split
  .rfl
  .let:x≠n:=by rintro rfl;exact h v qm
   simp[this]
def Ll{kindOf:Str->Option NameKind}:∀{P:List Str}{vs:List Value}{i:Nat}{m:Str->Option Value},P.Nodup->P[i]?=⇑x->vs[i]?=⇑v->kindOf x=⇑.local->
  bindL kindOf (P.zip vs) m x=⇑v
 |[],_,_,_,_,h,_,_=>by simp at h
 |_::_,[],_,_,_,_,h,_=>by simp at h
 |p::P,w::vs,0,m,nd,h1,h2,hk=>by simp at h1 h2;subst h1;subst h2;show bindL kindOf ((p,w)::P.zip vs) m p=_;unfold bindL;rw[Lp λv B=>(qK.mp nd).1 (of_mem_zip B).1,qZ hk];simp
 |p::P,w::vs,i+1,m,nd,h1,h2,hk=>by show bindL kindOf ((p,w)::P.zip vs) m x=_;unfold bindL;show Ll (i:=i) (qK.mp nd).2 ↑h1 ↑h2 hk
def LU{kindOf:Str->Option NameKind}:∀{P:List Str}{vs:List Value}{i:Nat}{m:Str->Option Value},P.Nodup->P[i]?=⇑x->vs[i]?=⇑v->kindOf x≠⇑.local->
  bindC kindOf (P.zip vs) m x=⇑v
 |[],_,_,_,_,h,_,_=>by simp at h
 |_::_,[],_,_,_,_,h,_=>by simp at h
 |p::P,w::vs,0,m,nd,h1,h2,hk=>by simp at h1 h2;subst h1;subst h2;show bindC kindOf ((p,w)::P.zip vs) m p=_;unfold bindC;rw[Lr λv B=>(qK.mp nd).1 (of_mem_zip B).1,q8 hk];simp
 |p::P,w::vs,i+1,m,nd,h1,h2,hk=>by show bindC kindOf ((p,w)::P.zip vs) m x=_;unfold bindC;show LU (i:=i) (qK.mp nd).2 ↑h1 ↑h2 hk
def start(N:List Str)(vs:List V):St:=vs.map some++List.replicate (N.length-vs.length) none
def dY(CX:yH)(P:Program)(w:World)(K:W.Frag)(mg:Str->Option Value)(base:Heap)(N:List Str)(qual:Str)(scope:Scope)(f:Addr)(cd:Value)(A:Around)(outer:List Env)(s:Shared)(H:Hp)(E:XK):Cx where
 prog:=P
 w:=w
 K:=K
 mg:=mg
 base:=base
 A:=A.deeper (envOfC qual scope s.heap.objs.size f cd)
 N:=N
 s₀:=s
 H₀:=H
 env:=envOfC qual scope s.heap.objs.size f cd
 outer:=outer
 stack:=envOfC qual scope s.heap.objs.size f cd::outer
 ex:=[]
 calm:=true
 fn:=λ_=>true
 pn:=[]
 xe:=λe s'=>wpAny (model P w) (A.deeper (envOfC qual scope s.heap.objs.size f cd)) (leaving (envOfC qual scope s.heap.objs.size f cd) e) (λ_ s''=>CX outer H s E e s'') (λe' s''=>CX outer H s E e' s'') s'
def KR{B:Scope}(h:B.names.lookup x=⇑.cell):∃c,(cellsFrom n B.names []).lookup x=⇑c:=by let q:=W.cellsFrom_some B.names n [] (.inl h);show isSome_iff_exists.mp q
def RU{K:W.Frag}
  (S:aC N ps scope)(hd:A.handled=none)(B:jB P w K mg base A outer s H)(hl:vs.length=ps.length)(r:zQ vs us)
  (x:InCallC s s.heap.objs.size (bindL (envOfC qual scope s.heap.objs.size f M).kindOf (ps.zip us) λ_=>none) (cellsFrom (s.heap.objs.size+1) scope.names []) (bindC (envOfC qual scope s.heap.objs.size f M).kindOf (ps.zip us) λ_=>none) s1):
  Inv (dY CX P w K mg base N qual scope f M A outer s H E) [] (start N vs) H s1:=by
 let h4:ps.length<=N.length:=by let:=congrArg List.length S.pre;rw[qG]at this;lia
 obtain⟨h1,tk,rfl,Y⟩:=x.done;let F:∀b:Addr,b∉(dY CX P w K mg base N qual scope f M A outer s H E).ex:=λb z=>absurd (show b∈([]:List Addr) from z) (by simp);refine⟨#[B.mod,S.kind,rfl,rfl,q9 _,λy z c h1 h2=>?_,λy G=>?_,λy c _ h=>?_,λ_=>hd,Around.frames_deeper B.frames,.inr #[rfl,rfl],λb z=>absurd z (F b),B.bs,B.bsz,λb _ _=>F b,λb z=>absurd z (F b),B.funs,B.frf],
  rfl,B.bare,Un.kept Y,#[_,x.toInCall.ns,λi y v h1 h2 h3=>?_],λy c h=>#[_,x.cell y c h],B.hok.fresh (q9 _),λy c h=>?_,λp L=>absurd (show p∈([]:List (Addr×Obj)) from L) (by simp),B.hok.kept Y,?_⟩
 .show name_of_addr x.apart (PySem.mem_of_lookup h1) (PySem.mem_of_lookup h2)
 .let G:scope.names.lookup y=⇑.cell\/scope.names.lookup y=⇑.free:=G;rcases G with G|G
  .show KR G
  .show absurd rfl (S.nofree _ (PySem.mem_of_lookup G))
 .show le_of_lt (x.above y c (PySem.mem_of_lookup h))
 .have hi:i<vs.length:=by
   unfold start at h2;by_cases hi:i<vs.length
   .show hi
   .rw[getElem?_append_right ↑hi]at h2;rw[List.getElem?_replicate]at h2;split at h2<;>cases h2
  have ha:vs[i]?=⇑v:=by
   unfold start at h2;rw[getElem?_append_left ↑hi,qE]at h2;cases e:vs[i]? with
   |none=>rw[e]at h2;cases h2
   |some a=>rw[e]at h2;cases h2;rfl
  let#[u,O,rv]:=r.get ha;let L:ps[i]?=⇑y:=by rw[<-S.pre,List.getElem?_take_of_lt ∅];show h1
  let J:ps.Nodup:=by rw[<-S.pre];show S.nd.sublist (List.take_sublist _ _)
  show#[u,rv,?_];rcases S.par y (qL L)with k|k
  .show .inl #[k,Ll J L O k]
  .obtain⟨c,e⟩:=KR (n:=s.heap.objs.size+1) k;show .inr #[.inl k,c,e,?_];let q:=x.cell y c e;rw[LU J L O (by show scope.names.lookup y≠_;rw[k];decide)]at q;show q
 .show B.hok.fresh (le_of_lt (x.above y c (PySem.mem_of_lookup h)))
 .unfold start;show _=N.length;rw[qq,qo,List.length_replicate];lia
def My{K:W.Frag}{dV kV h1 pm F ct oc:Value}(lk:K.lookup f=⇑#[oc,od,.func (W.fnOf name qual params body scope dV kV h1 pm an F ct),h4])(h3:W.codeIn K F qual=true)(S:aC N ps scope)
  (len:∀vs H Q E,sp vs H Q E->vs.length=ps.length)
  (L:∀(A:Around)(B:List Env)(s:Shared)(H:Hp)(vs:List V)(Q:VK)(E:XK),bD k (A.deeper (envOfC qual scope s.heap.objs.size f F))->sp vs H Q E->
   ∃t,iJ (dY CX P w K mg base N qual scope f F A B s H E) body t/\t {nx:=λ_ H'=>Q .non H',rt:=Q} (start N vs) H):
  dH P w K mg base CX (k+1) f (W.fnOf name qual params body scope dV kV h1 pm an F ct) ps sp:=by
 refine#[len,λA B s H args us vs Q E hr e0 hb r O=>?_];let hl:=len _ _ _ _ O;let KX:K.In s.heap:=e0.mod.kin.keeps λb o e=>(e0.bs b o e).1;let h2:s.heap.NoLimit:=e0.mod.nolimit.keeps λb o e=>(e0.bs b o e).1;let G:∀y∈ps.zip us,scope.names.lookup y.1=⇑.local\/(scope.names.lookup y.1=⇑.cell/\((cellsFrom (s.heap.objs.size+1) scope.names []).lookup y.1).isSome=true):=λ⟨n,v⟩ hy=>by
  rcases S.par n (of_mem_zip hy).1 with q|q
  .show .inl q
  .show .inr #[q,W.cellsFrom_some _ _ _ (.inl q)]
 refine codeAny_call_function hr.depth (KX _ _ lk) rfl S.co S.gen rfl (W.codeRec_of KX h3) (hb _ _ _ _ ?_);show wpAny_newFunctionEnv_cells S.kind G λh5 he s1 x=>?_;subst he;show#[h2.keeps x.toInCall.keep,codeAny_func ?_];let#[t,ht,hq]:=L A B s H vs Q E (hr.deeper _) O;let I:Inv (dY CX P w K mg base N qual scope f F A B s H E) [] (start N vs) H s1:=RU S hr.hd e0 hl r x;show zt (ht [] s1 (start N vs) H _ I hq) (λfl s' M=>?_) λe s' M=>M;let Y:∀{Z':St}{H':Hp}{v:V}{u:Value},Inv (dY CX P w K mg base N qual scope f F A B s H E) [] Z' H' s'->zJ v u->Q v H'->CE B P w H s Q u s':=
  λ{Z' H' v u} J rv q=>#[v,H',J.os,J.bare,J.base,J.hok,rv,q]
 cases fl with
 |ret u=>let#[v,Z',H',J,rv,q]:=M;show Y J rv q
 |next=>let#[Z',H',J,q]:=M;show Y (v:=V.non) (u:=Value.none) J rfl q
 |brk=>let#[_,_,_,q]:=M;show False.elim q
 |cont=>let#[_,_,_,q]:=M;show False.elim q
section
variable{X:Cx}{x:Str}{p pos:Pos}{e:Expr}{es:List Expr}{t:TA}{id T:String}{r:List V->Hp->VK->Prop}
def br(r:List V->Hp->VK->Prop)(t:TA):TE:=λZ H Q=>t Z H λvs H1=>r vs H1 Q
def PN(hc:aR X (.builtin id) r)(hg:Gl X x)(Y:X.mg x=none)(O:bootBuiltins x=⇑(.builtin id))(ha:PA X (e::es) t)(hn:autoParam (x≠"__name__") dZ9)(F:autoParam ((x==("__debug__":Str))=false) dZ9)
  (he:autoParam (starEach (e::es) X.env=(false,eval e X.env)::starEach es X.env) rZ9)(B:autoParam ((backTo pos (starEach es X.env)).any (·.1)=false) rZ9):PE X (.Call (.Name x p) (e::es) [] pos) (br r t):=by
 intro zT s Z H Q I h;show wpAny_Call_Name_kw (Dz I hg Y O ?_ hn F);show PyProof.Rows.callWith_builtin1 (Af (ha pos zT s Z H _ I h) λG J⟨vs,H1,I1,L,M⟩=>hc zT J Z H1 vs G Q I1 L M) he B
def Sh(hc:aR X (.type T) r)(hg:Gl X x)(Y:X.mg x=none)(O:bootBuiltins x=⇑(.type T))(ha:PA X (e::es) t)(hn:autoParam (x≠"__name__") dZ9)(F:autoParam ((x==("__debug__":Str))=false) dZ9)
  (he:autoParam (starEach (e::es) X.env=(false,eval e X.env)::starEach es X.env) rZ9)(B:autoParam ((backTo pos (starEach es X.env)).any (·.1)=false) rZ9):PE X (.Call (.Name x p) (e::es) [] pos) (br r t):=by
 intro zT s Z H Q I h;show wpAny_Call_Name_kw (Dz I hg Y O ?_ hn F);show PyProof.Rows.callWith_type1 (Af (ha pos zT s Z H _ I h) λG J⟨vs,H1,I1,L,M⟩=>hc zT J Z H1 vs G Q I1 L M) he B
end
section
variable{κ:Type}[DecidableEq κ]
def eC(B:List (κ×V))(k:κ):Option V:=(B.find? λF=>↥(F.1=k)).map (·.2)
def GF{p:κ×V}{r:List (κ×V)}{k:κ}(e:p.1=k):eC (p::r) k=⇑p.2:=by simp[eC,find?_cons,e]
def GA{p:κ×V}{r:List (κ×V)}{k:κ}(e:¬p.1=k):eC (p::r) k=eC r k:=by simp[eC,find?_cons,e]
def fQ.isSome_eq(r:fQ o u):o.isSome=u.isSome:=by
 cases o with
 |none=>cases u with
  |none=>rfl
  |some _=>show(show False from r).elim
 |some _=>cases u with
  |none=>show(show False from r).elim
  |some _=>rfl
def KV.val{B:List (κ×V)}{vs:List (κ×Value)}(r:KV B vs)(k:κ):fQ (eC B k) (valueAt vs k):=by
 induction r with
 |nil=>show True.intro
 |@cons p q ps F h t J=>
  let#[h1,h2]:=h;by_cases e:p.1=k
  .let G:q.1=k:=h1.symm.trans e;let b:valueAt (q::F) k=⇑q.2:=by simp[valueAt,G]
   rw[GF e,b];show h2
  .let G:¬q.1=k:=λz=>e (h1.trans z);let b:valueAt (q::F) k=valueAt F k:=by simp[valueAt,G]
   rw[GA e,b];show J
end
def Fc(r:zJ (kV k) u):(aG P w).is k u=true:=by
 cases k with
 |inl i=>let#[t,e]:=(show∃t,u=Value.int i t from r);subst e;show Uk P w i t
 |inr x=>let#[t,e]:=(show∃t,u=Value.str x t from r);subst e;show Uq P w x t
def Gp(e:kV a=kV b):a=b:=by
 cases a with
 |inl i=>cases b with
  |inl j=>have B:V.int i=V.int j:=e;injection B with B;rw[B]
  |inr y=>show nomatch (show V.int i=V.str y from e)
 |inr x=>cases b with
  |inl j=>show nomatch (show V.str x=V.int j from e)
  |inr y=>have B:V.str x=V.str y:=e;injection B with B;rw[B]
def Gu:∀{a b:List aP},a.map kV=b.map kV->a=b
 |[],[],_=>rfl
 |[],_::_,e=>by simp at e
 |_::_,[],e=>by simp at e
 |x::xs,y::ys,e=>by
  injection e with e1 e2
  rw[Gp e1,Gu e2]
def LI:∀{ks:List aP}{us:List Value},zQ (ks.map kV) us->ItemsAre (aG P w) ks us
 |[],_,r=>by rw[map_nil]at r;cases r;show .nil
 |k::ks,_,r=>by
  cases r with
  |cons h t=>show .cons (Fc h) (LI t)
abbrev KT(H:Hp):List (List aP×V)->List (List aP×Addr×Value)->Prop:=Paired λp q=>p.1=q.1/\H q.2.1=⇑(.tup (p.1.map kV))/\zJ p.2 q.2.2
def KT.val{H:Hp}{B:List (List aP×V)}{xs:List (List aP×Addr×Value)}(r:KT H B xs)(k:List aP):fQ (eC B k) ((atKey xs k).map (·.2)):=by
 induction r with
 |nil=>show True.intro
 |@cons p q ps F h t J=>
  let#[h1,_,h2]:=h;by_cases e:p.1=k
  .let G:q.1=k:=h1.symm.trans e;let b:atKey (q::F) k=⇑q.2:=by simp[atKey,G]
   rw[GF e,b];show h2
  .let G:¬q.1=k:=λz=>e (h1.trans z);let b:atKey (q::F) k=atKey F k:=by simp[atKey,G]
   rw[GA e,b];show J
def Jb(ok:dI P w H h)(e:Rd H a u):zS P w H h a u:=e.ok ok
def Mz(ok:dI P w H h)(e:Rd H a (.dK B)):B.length<=sizeLine/\(a==sysModules)=false/\∃vs,KV B vs/\h.DictOf (aG P w) a vs:=
 show zS P w H h a (.dK B) from Jb ok e
def EL(ok:dI P w H h)(e:H a=⇑(.tup (ks.map kV))):(tupleKind (aG P w)).is h ks a:=by
 let#[_,B,r,o,h1,h2,n,F]:=(show zS P w H h a (.tup (ks.map kV)) from ok a _ e)
 show#[o,B.toArray,n,h1,h2,F,LI r]
def MN(ok:dI P w H h)(e:Rd H a (.dT B)):B.length<=sizeLine/\(a==sysModules)=false/\
  ∃xs,KT H B xs/\h.DictOfH (tupleKind (aG P w)) a xs:=by
 let#[z,y,xs,r,o,es,ep,h1,h2,O,M,L]:=(show zS P w H h a (.dT B) from Jb ok e)
 refine#[z,y,xs,r,o,es,ep,h1,h2,O,M,λx F=>?_,L];let all:∀{l:List (List aP×V)}{m:List (List aP×Addr×Value)},KT H l m->∀x∈m,(tupleKind (aG P w)).is h x.1 x.2.1:=by
  intro l m q;induction q with
  |nil=>intro x F;show nomatch F
  |@cons p q ps Y G t J=>
   intro x F;rcases qA.mp F with e|F
   .subst e;show EL ok (by rw[<-G.1];show G.2.1)
   .show J x F
 show all r x F
def uZ(H:Hp)(a:Addr)(y:V)(r:Option V):Prop:=
 (∃B k,Rd H a (.dK B)/\y=kV k/\r=eC B k)\/∃B k b,Rd H a (.dT B)/\y=.ref b/\H b=⇑(.tup (k.map kV))/\r=eC B k
def Inv.big(I:Inv X zT Z H s):sysModules<s.heap.objs.size:=by let h:mainGlobals<s.heap.objs.size:=(I.mod.glob.keeps I.bk).lt;show lt_trans ⋯ h
def Py(O:A.units+1<cLine)(I:Inv X zT Z H s)(g:uZ H a y o)(M:zJ y u)(h:∀s',Inv X zT Z H s'->Q (.bool (!o.isSome)) s'):
  wpAny (model X.prog X.w) A (compareOp .NotIn u (.ref a)) Q E s:=by
 rcases g with⟨F,k,e,J,l⟩|⟨F,k,b,e,J,Y,l⟩
 .subst J;let#[z,G,vs,B,L]:=Mz I.hok e;show wpAny_notIn_of (Fc M) G L.mapOf ?_;rw[<-(B.val k).isSome_eq,<-l];show h _ (I.tok _)
 .subst J;cases(show u=Value.ref b from M);let#[z,G,xs,B,L]:=MN I.hok e;show wpAny_notIn_heap (tupleKind_room_in1 O) (EL I.hok Y) G L ?_;let q:=(B.val k).isSome_eq;rw[Option.isSome_map]at q;rw[<-q,<-l];show h _ (I.tok _)
def JD(I:Inv X zT Z H s)(F:xY (H a))(hs:Heap.SameBut a s.heap h')(G:∃q,h'.get? a=⇑q)(new:zS X.prog X.w (upd H a B) h' a B):
  Inv X zT Z (upd H a B) {s with heap:=h',toks:=t'}:=
 I.write (x:=a) (e:=a) F (.inl rfl) (λb q J z=>(hs.2 b J).trans z) G new
end L2
namespace HT
open PySem PyProof.Rows
theorem cat_tup(ht:IsTup s.heap t vs.toArray)(hb:IsTup s.heap b B.toArray)(hv:vs≠[])
  (h1:B=[]->Q (.ref t) s)(h2:B≠[]->Q (.ref s.heap.objs.size) {s with heap:=s.heap.push {cls:=.type "tuple",data:=.seq (vs++B).toArray}})
  (O:vs.length+B.length<=sizeLine):wpAny (model prog w) A (binaryOp .Add (.ref t) (.ref b)) Q E s:=by
 let#[#[cls,dd,data,sl],M,hc,n,hd]:=id ht;let#[#[h4,J,data2,G],F,h3,n2,Y]:=id hb;subst hc hd h3 Y;let e:vs.toArray++B.toArray=(vs++B).toArray:=by simp
 by_cases L:B=[]
 .exact concat_meets #[_,M,rfl] #[_,F,rfl] noFill_tuple_add seq_tuple_add PySem.F.slot_tuple_add PySem.F.entry_tuple_add (PySem.F.args_tuple_add_2 _ _)
   (tuple_addW1 t b vs.toArray B.toArray n n2 dd J sl G ↑hv (by simp[L])) #[M,F,h1 L]
 .refine concat_meets #[_,M,rfl] #[_,F,rfl] noFill_tuple_add seq_tuple_add PySem.F.slot_tuple_add PySem.F.entry_tuple_add (PySem.F.args_tuple_add_2 _ _)
   (tuple_addW2 t b vs.toArray B.toArray n n2 dd J sl G ↑hv ↑L (by rw[qr];show O)) #[M,F,?_]
  rw[e];show h2 L
def sIx(n d:Nat):Option Int->Nat
 |none=>d
 |some v=>if v<0 then(v+(n:Int)).toNat else min v.toNat n
theorem sIx_le(n d:Nat)(F:d<=n)(o:Option Int):sIx n d o<=n:=by
 cases o with
 |none=>show F
 |some v=>
  show(if v<0 then(v+(n:Int)).toNat else min v.toNat n)<=n;by_cases B:v<0
  .rw[qZ B];lia
  .rw[q8 B];show min_le_right _ _
def JU(v:Int)(n d:Nat):(if v<0 then max (v+(n:Int)) 0 else min v (n:Int))=((sIx n d ⇑v:Nat):Int):=by show(if v<0 then max (v+(n:Int)) 0 else min v (n:Int))=(((if v<0 then(v+(n:Int)).toNat else min v.toNat n):Nat):Int);grind
def Ss(lo hi:Option Int)(n:Nat):Builtin.Slice.sliceAdjust lo hi 1 (n:Int)=(((sIx n 0 lo:Nat):Int),((sIx n n hi:Nat):Int)):=by
 let h1:¬((1:Int)<0):=∅
 unfold Builtin.Slice.sliceAdjust;show Prod.ext ?_ ?_
 .cases lo with
  |none=>rfl
  |some v=>show JU v n 0
 .cases hi with
  |none=>rfl
  |some v=>show JU v n n
def Tb(i j:Nat):Builtin.Slice.slicePlaces (i:Int) (j:Int) 1=j-i:=by
 unfold Builtin.Slice.slicePlaces;let h1:(1:Int)>0:=∅
 split<;>lia
def Md(p:IsPart v o)(h:Q o s):wpAny (model prog w) A (Builtin.Slice.slicePartIndex v) Q E s:=by
 cases p with
 |none=>show slicePart_none h
 |int i t=>show slicePart_int h
theorem sliceApplied_gen{lo hi:Option Int}{n:Nat}(hs:s.heap.IsSliceOf J vl G .none)(M:IsPart vl lo)(L:IsPart G hi)
  (h:Q (((sIx n 0 lo:Nat):Int),1,sIx n n hi-sIx n 0 lo) s):wpAny (model prog w) A (Builtin.Slice.sliceApplied (.ref J) (pure (n:Int))) Q E s:=by
 let#[os,B,O,F]:=id hs;show qa (qa (zj B F (x:=vl) rfl (qa (zj B F (x:=G) rfl (qa (zj B F (x:=.none) rfl (qb ?_)))))));show qa (slicePart_none ?_);show qa (Md M (qa (Md L (qa (qb ?_)))));show wpAny _ _ (match Builtin.Slice.sliceAdjust lo hi 1 (n:Int)with|(lo,hi)=>pure (lo,(1:Int),Builtin.Slice.slicePlaces lo hi 1)) _ _ s;rw[Ss lo hi n];show wpAny _ _ (pure (((sIx n 0 lo:Nat):Int),(1:Int),Builtin.Slice.slicePlaces ((sIx n 0 lo:Nat):Int) ((sIx n n hi:Nat):Int) 1)) _ _ s;rw[Tb];show qb h
def PF(xs:Array Value)(i k:Nat):((List.range k).filterMap λ(m:Nat)=>xs[((i:Int)+(m:Int)*1).toNat]?).toArray=((xs.toList.drop i).take k).toArray:=by
 have e:(λ(m:Nat)=>xs[((i:Int)+(m:Int)*1).toNat]?)=λm=>xs[i+m]?:=by
  funext m
  let:((i:Int)+(m:Int)*1).toNat=i+m:=∅
  rw[this]
 rw[e];let:=pick_run xs i k;rw[List.filterMap_map]at this;let B:((λx=>xs[x]?)∘λx=>i+x)=λm=>xs[i+m]?:=rfl;rw[B]at this;rw[this]
theorem getItem_tuple_cut{lo hi:Option Int}(F:IsTup s.heap t items)(hs:s.heap.IsSliceOf Y vl vu .none)(pl:IsPart vl lo)(pu:IsPart vu hi)
  (hw:¬(sIx items.size 0 lo=0/\sIx items.size items.size hi=items.size))
  (h:Q (.ref s.heap.objs.size) {s with heap:=s.heap.push {cls:=.type "tuple",data:=.seq ((items.toList.drop (sIx items.size 0 lo)).take (sIx items.size items.size hi-sIx items.size 0 lo)).toArray}})
  (G:items.size<=sizeLine):wpAny (model prog w) A (getItem (.ref t) (.ref Y)) Q E s:=by
 let B:sizeOk (.seq ((items.toList.drop (sIx items.size 0 lo)).take (sIx items.size items.size hi-sIx items.size 0 lo)).toArray):=by show((items.toList.drop (sIx items.size 0 lo)).take (sIx items.size items.size hi-sIx items.size 0 lo)).toArray.size<=sizeLine;rw[qr,qG,qF];show le_trans (min_le_right ..) (le_trans (sub_le ..) G)
 let#[os,J,M,h1]:=id hs;let O:s.TypeIs (.ref Y) "slice":=#[os,J,M]
 unfold getItem;try with_reducible show zp ?_
 first|show qa (qb ?_)|skip
 refine qa (wpAny_sequenceKey F.typeIs ⋯ ?_);refine qa (wpAny_callSpecial?_slot (name:=Str.ofString "__getitem__") F.typeIs PyProof.Rows.slot_tuple_getitem
  (zl PyProof.Rows.slot_tuple_getitem F.typeIs entry_tuple_getitem ?_ (args_tuple_getitem _ _)))
 show wpAny _ _ (Builtin.Tuple.tupleItemsOf (.ref t)>>=_) _ _ s;show qa (tupleItemsOf_ F ?_);show qa (wpAny_typeOf O ?_);show qa (sliceApplied_gen hs pl pu ?_);let L:¬((((sIx items.size 0 lo:Nat):Int)==0&&(1:Int)==1&&(sIx items.size items.size hi-sIx items.size 0 lo)==items.size)=true):=by grind
 show wpAny _ _ (if(((sIx items.size 0 lo:Nat):Int)==0&&(1:Int)==1&&(sIx items.size items.size hi-sIx items.size 0 lo)==items.size)=true then _ else _) _ _ s;rw[q8 L,PF];first
  |show qa (m:=Builtin.Tuple.tupleExact _) (zk (qb ⟨_,rfl,qb h⟩) B)
  |show qa (m:=Builtin.Tuple.tupleExact _) (zk (qa (qb (qb ⟨_,rfl,qb h⟩))) B)
  |show qa (qa (m:=Builtin.Tuple.tupleExact _) (zk (qb (qb ⟨_,rfl,qb h⟩)) B))
  |show qa (qa (m:=Builtin.Tuple.tupleExact _) (zk (qb ⟨_,rfl,qb h⟩) B))
end HT
namespace L2
open PySem PySem.Spec PyProof.Rows
abbrev TO:=St->Hp->(Option Int->Hp->Prop)->Prop
@[inline]def PO(X:Cx)(e:Option Expr)(t:TO):Prop:=
 ∀(zT:List (Addr×Obj))(s:Shared)(Z:St)(H:Hp)(Q:Option Int->Hp->Prop),Inv X zT Z H s->t Z H Q->
  wpAny (model X.prog X.w) X.A (evalPart e X.env) (λu s'=>∃o H',Inv X zT Z H' s'/\IsPart u o/\Q o H') X.xe s
def nV:TO:=λ_ H Q=>Q none H
def vQ(t:TE):TO:=λZ H Q=>t Z H λx H1=>∃i,x=.int i/\Q ⇑i H1
def Iw:∀{us:List Value},zQ (ns.map V.int) us->IntsAre us ns:=by
 induction ns with
 |nil=>intro us r;rw[map_nil]at r;cases r;show .nil
 |cons n ns G=>
  intro us r;cases r with
  |cons F B=>let#[t,e]:=F;subst e;show .cons n t (G B)
section
variable{lo hi:Option Expr}
def Kj:PO X none nV:=by intro zT s Z H Q I h;show qb #[none,H,I,.none,h]
def Kk(h:PE X e te):PO X ⇑e (vQ te):=by intro zT s Z H Q I J;show Af (h zT s Z H _ I J) λu M B=>?_;let#[x,H1,L,F,G]:=B;let#[i,rfl,q]:=G;let#[t,rfl]:=F;show#[⇑i,H1,L,.int i t,q]
def kR(X:Cx)(r:V->Option Int->Option Int->Hp->VK->Prop):Prop:=
 ∀(zT:List (Addr×Obj))(s:Shared)(Z:St)(H:Hp)(x:V)(v vl B:Value)(lo hi:Option Int)(F:Addr)(Q:VK),Inv X zT Z H s->zJ x v->s.heap.IsSliceOf F vl B .none->IsPart vl lo->IsPart B hi->r x lo hi H Q->
  ∃T id,typeLookup (.type T) "__getitem__"=pure ⇑(.builtin id)/\s.TypeIs v T/\wpAny (model X.prog X.w) X.A (getItem v (.ref F)) (EP X zT Z Q) X.xe s
def kR.or(h:kR X r)(h':kR X O):kR X (λx lo hi H Q=>r x lo hi H Q\/O x lo hi H Q):=by
 intro zT s Z H x v vl B lo hi F Q I G M L J q;rcases q with q|q
 .show h zT s Z H x v vl B lo hi F Q I G M L J q
 .show h' zT s Z H x v vl B lo hi F Q I G M L J q
def jw(r:V->Option Int->Option Int->Hp->VK->Prop)(te:TE)(B F:TO):TE:=λZ H Q=>te Z H λx H1=>B Z H1 λl H2=>F Z H2 λu G=>r x l u G Q
def Le(hr:kR X r)(he:PE X e te)(hl:PO X lo L)(hu:PO X hi M):PE X (.Subscript e (.Slice lo hi none p2) pos) (jw r te L M):=by intro zT s Z H Q I h;show Subscript_ (Af (he zT s Z H _ I h) λv Y F=>?_);let#[x,H1,I1,r1,q1]:=F;show wpAny_Slice (Af (hl zT Y Z H1 _ I1 q1) λvl O⟨l,H2,I2,pl,q2⟩=>Af (hu zT O Z H2 _ I2 q2) λG B F=>?_);let#[u,J,I3,pu,q3]:=F;show qb ?_;let I4:Inv X zT Z J {B with heap:=B.heap.push {cls:=.type "slice",data:=.fields [vl,G,.none].toArray}}:=I3.kept (t':=B.toks) λb ob q=>qc _ q;let#[T,id,hT,ht,hg]:=hr zT {B with heap:=B.heap.push {cls:=.type "slice",data:=.fields [vl,G,.none].toArray}} Z J x v vl G l u B.heap.objs.size Q I4 r1 (Heap.IsSliceOf.new ..) pl pu q3;show tail_any (ops:=[.ref B.heap.objs.size,v]) ht hT hg (by with_unfolding_all rfl)
def iF(xs:List V)(lo hi:Option Int):List V:=(xs.drop (HT.sIx xs.length 0 lo)).take (HT.sIx xs.length xs.length hi-HT.sIx xs.length 0 lo)
def Mg(xs:List V)(lo hi:Option Int):(iF xs lo hi).length<=xs.length:=by unfold iF;rw[qG,qF];show le_trans (min_le_right ..) (sub_le ..)
def vY(K:W.Frag):V->Option Int->Option Int->Hp->VK->Prop:=λx lo hi H Q=>∃a xs,x=.ref a/\bA K H a xs/\
 ¬(HT.sIx xs.length 0 lo=0/\HT.sIx xs.length xs.length hi=xs.length)/\∀p,H p=none->Q (.ref p) (upd H p (.tup (iF xs lo hi)))
def Nr:kR X (vY X.K):=by
 intro zT s Z H x v vl vu lo hi sl Q I L hs O M h;let#[a,xs,rfl,Y,hw,q]:=h;cases L;let#[F,r,J,G]:=I.tuple Y;let B:F.toArray.size=xs.length:=by rw[qr];show r.length.symm
 show#["tuple",_,PyProof.Rows.slot_tuple_getitem.lookup,J.typeIs,?_];show HT.getItem_tuple_cut J hs O M (by rw[B];show hw) ?_ (by rw[B];show G);rw[B];show#[.ref s.heap.objs.size,_,I.laid (t':=s.toks) (o:=.tup (iF xs lo hi)) (λb ob q=>qc _ q) (q9 _) ?_,rfl,q _ (I.hok.fresh (q9 _))];show#[#[le_trans (Mg xs lo hi) G,iY.new rfl (qd _ rfl)],_,(r.drop (HT.sIx xs.length 0 lo)).take (HT.sIx xs.length xs.length hi-HT.sIx xs.length 0 lo),IsTup.new _ _]
def wN(K:W.Frag):R2:=λx y H Q=>∃a b xs ys,x=.ref a/\y=.ref b/\bA K H a xs/\bA K H b ys/\xs≠[]/\xs.length+ys.length<=sizeLine/\
 (ys=[]->Q (.ref a) H)/\(ys≠[]->∀p,H p=none->Q (.ref p) (upd H p (.tup (xs++ys))))
def zQ.nil_iff(r:zQ xs us):us=[]↔xs=[]:=by
 cases r with
 |nil=>simp
 |cons _ _=>simp
def Pt:OpR X (binaryOp .Add) (wN X.K):=by intro zT s Z H x y v u Q I M L h;let#[a,b,xs,ys,rfl,rfl,ha,hb,hx,J,Y,O]:=h;cases M;cases L;let#[h1,F,p1,_]:=I.tuple ha;let#[G,B,p2,_]:=I.tuple hb;show HT.cat_tup p1 p2 (λz=>hx (F.nil_iff.mp z)) (λz=>#[.ref a,H,I,rfl,Y (B.nil_iff.mp z)]) (λz=>?_) (by rw[<-F.length,<-B.length];show J);show#[.ref s.heap.objs.size,_,I.laid (t':=s.toks) (o:=.tup (xs++ys)) (λb ob q=>qc _ q) (q9 _) ?_,rfl,O (λw=>z (B.nil_iff.mpr w)) _ (I.hok.fresh (q9 _))];show#[#[by rw[qq];show J,iY.new rfl (qd _ rfl)],_,F.append B,IsTup.new _ _]
end
def ixN(n:Nat)(i:Int):Option Nat:=if 0<=i then(if i<n then ⇑i.toNat else none)else if -(n:Int)<=i then ⇑(i+n).toNat else none
def atI{α:Type}(xs:List α)(i:Int):Option α:=(ixN xs.length i).bind λj=>xs[j]?
def Ht(h:ixN n i=⇑j):seqIndex? i n=⇑j/\j<n/\-(n:Int)<=i/\i<n:=by
 unfold ixN at h;by_cases B:0<=i
 .rw[qZ B]at h;by_cases h1:i<n
  .rw[qZ h1]at h;let e:i.toNat=j:=qf h;show#[by rw[seqIndex_of B h1,e],∅,∅,h1]
  .rw[q8 h1]at h;cases h
 .rw[q8 B]at h;by_cases h1:-(n:Int)<=i
  .rw[qZ h1]at h;let e:(i+n).toNat=j:=qf h;show#[by rw[seqIndex_neg ∅ h1,e],∅,h1,∅]
  .rw[q8 h1]at h;cases h
def HH(h:atI xs i=⇑v):∃j,seqIndex? i xs.length=⇑j/\xs[j]?=⇑v/\j<xs.length/\-(xs.length:Int)<=i/\i<xs.length:=by
 unfold atI at h;cases e:ixN xs.length i with
 |none=>rw[e]at h;cases h
 |some j=>rw[e]at h;let#[h1,h2,F,B]:=Ht e;show#[j,h1,h,h2,F,B]
def Lg(xs:List α)(v:α):atI (xs++[v]) (-1)=⇑v:=by
 let B:(xs++[v]).length=xs.length+1:=by simp
 let e:ixN (xs++[v]).length (-1)=⇑xs.length:=by unfold ixN;rw[B,q8 ⋯,qZ ∅];congr 1;lia
 unfold atI;rw[e];simp
def kH(b:Expr):Prop:=∀o i,subscripted b false o i=operate [o,i] (getItem o i)
def pC(X:Cx)(r:R2):Prop:=
 ∀(F B:Expr)(zT:List (Addr×Obj))(s:Shared)(Z:St)(H:Hp)(x y:V)(v u:Value)(Q:VK),Inv X zT Z H s->zJ x v->zJ y u->r x y H Q->
  subscripted B false v u=operate [v,u] (getItem v u)->wpAny (model X.prog X.w) X.A (subscriptTail F B v u) (EP X zT Z Q) X.xe s
def jm(X:Cx)(id:String)(r:V->List V->Hp->VK->Prop):Prop:=
 ∀(zT:List (Addr×Obj))(s:Shared)(Z:St)(H:Hp)(x:V)(xs:List V)(v:Value)(us:List Value)(Q:VK),Inv X zT Z H s->zJ x v->zQ xs us->r x xs H Q->
  wpAny (model X.prog X.w) X.A (call (.builtin id) (v::us)) (EP X zT Z Q) X.xe s
section
def pC.or(h:pC X r)(h':pC X M):pC X (λx y H Q=>r x y H Q\/M x y H Q):=by
 intro B F zT s Z H x y v u Q I J G q L;rcases q with q|q
 .show h B F zT s Z H x y v u Q I J G q L
 .show h' B F zT s Z H x y v u Q I J G q L
def Np(J:pC X r)(M:PE X a ta)(L:PE X b tb)(hs:kH b):PE X (.Subscript a b pos) (yR r ta tb):=by intro zT s Z H Q I h;show Subscript_ (EG M L I h λv u B x y H2 O G F q=>J a b zT B Z H2 x y v u Q O G F q (hs _ _))
def wI(K:W.Frag):R2:=λx y H Q=>∃p xs i v,x=.ref p/\y=.int i/\bM K H p xs/\atI xs i=⇑v/\Q v H
def wG(K:W.Frag):R2:=λx y H Q=>∃p xs i v,x=.ref p/\y=.int i/\bA K H p xs/\atI xs i=⇑v/\Q v H
def wH:R2:=λx y H Q=>∃z i c,x=.str z/\y=.int i/\z.length<=sizeLine/\atI z.cps.toList i=⇑c/\Q (.str #[[c].toArray]) H
theorem zk5:pC X (wI X.K):=by
 intro F G zT s Z H x y v u Q I rx ry h Y;let#[p,xs,i,z,rfl,rfl,hq,he,q]:=h;cases rx;let#[t,rfl]:=ry;let#[M,r,L,hz]:=I.list hq;let#[j,h1,h2,h3,h4,h5]:=HH he;let#[w,ew,J]:=r.get h2;let hl:=r.length;let hn:=AF;let B:EP X zT Z Q w s:=#[z,H,I,J,q]
 by_cases h0:0<=i
 .let O:i.toNat=j:=by rw[seqIndex_of h0 h5]at h1;exact qf h1
  show item_listR L.isList h0 ∅ (by rw[O];simpa using ew) B Y
 .have O:(i+(M.toArray.size:Int)).toNat=j:=by rw[seqIndex_neg ∅ h4]at h1;rw[qr,<-hl];exact qf h1
  exact subscriptTail_builtinR (x:=w) L.isList.typeIs slot_list_getitem.lookup
   (wpAny_getItem_list_neg (Q:=λr s'=>r=w/\EP X zT Z Q r s') L.isList ∅ (by rw[qr]<;>lia) ∅ (by rw[O];simpa using ew) #[rfl,B]) Y
theorem zmB:pC X (wG X.K):=by
 intro B F zT s Z H x y v u Q I O M h hs;let#[p,xs,i,z,rfl,rfl,hq,he,q]:=h;cases O;let#[t,rfl]:=M;let#[Y,r,L,hz]:=I.tuple hq;let#[j,h1,h2,h3,h4,h5]:=HH he;let#[w,ew,G]:=r.get h2;let hl:=r.length;let hn:=AF;let J:EP X zT Z Q w s:=#[z,H,I,G,q]
 exact subscriptTail_builtinR (x:=w) L.typeIs slot_tuple_getitem.lookup
  (getItem_tuple (j:=j) (Q:=λr s'=>r=w/\EP X zT Z Q r s') L ∅ ∅ (by rw[qr,<-hl];show h1) ↑ew #[rfl,J]) hs
def Ny:pC X wH:=by
 intro B F zT s Z H x y v u Q I J G h L;let#[z,i,c,rfl,rfl,hz,O,q]:=h;let#[t,rfl]:=J;let#[t',rfl]:=G;let#[j,h1,h2,h3,h4,Y]:=HH O;let M:z.cps.toList.length=z.length:=by simp[Str.length]
 rw[M]at h1 h4 Y;let hn:=AF;show tail_any (typeIs_str s z t) slot_str_getitem.lookup (getItem_str (c:=c) (by let e1:↥(i< -(2^63:Int))=false:=qR ∅;let e2:↥(i≥2^63)=false:=qR ∅;rw[e1,e2,Bool.or_false]) (by rw[h1];simpa using h2) #[.str #[[c].toArray],H,I.tok _,#[_,rfl],q]) L
def yS(K:W.Frag):R2:=λx y H Q=>wI K x y H Q\/wG K x y H Q\/wH x y H Q
def Nw:pC X (yS X.K):=zk5.or (zmB.or Ny)
def Su(B:List Value)(n j:Nat)(u:Value):Obj.mapSeq (·.setIfInBounds j u) {cls:=.type "list",data:=.seq B.toArray n}={cls:=.type "list",data:=.seq (B.set j u).toArray n}:=by simp[Obj.mapSeq]
def Inv.lst(I:Inv X zT Z H s)(h:H p=⇑(.lst xs)):
  ∃(B:List Value)(n:Nat),zQ xs B/\s.heap.get? p=some {cls:=.type "list",data:=.seq B.toArray n}/\xs.length<=sizeLine:=by
 let#[z,B,n,r,e]:=I.hok p _ h;show#[B,n,r,e,z]
def Inv.lstUpd{B its':List Value}(I:Inv X zT Z H s)(h:H p=⇑(.lst xs))
  (J:s.heap.get? p=some {cls:=.type "list",data:=.seq B.toArray n})(G:f {cls:=.type "list",data:=.seq B.toArray n}={cls:=.type "list",data:=.seq its'.toArray F})(r:zQ ys its')(hz:ys.length<=sizeLine)(t:Nat):
  Inv X zT Z (upd H p (.lst ys)) {s with heap:=s.heap.update p f,toks:=t}:=by
 let e:(s.heap.update p f).get? p=some {cls:=.type "list",data:=.seq its'.toArray F}:=by rw[zi f J (by rw[G]<;>rfl),G]
 show I.write (x:=p) (e:=p) (by rw[h];trivial) (.inl rfl) (λb u L q=>(zc _ _ (Ne.symm L)).trans q) #[_,e] ?_;show#[hz,its',F,r,e]
def wD:V->V->V->Hp->(Hp->Prop)->Prop:=λo i v H Q=>∃p xs k j,o=.ref p/\i=.int k/\H p=⇑(.lst xs)/\ixN xs.length k=⇑j/\Q (upd H p (.lst (xs.set j v)))
def QN:xV X wD:=by
 intro zT s Z H o i v ov iv u Q I ro ri rv h;let#[p,xs,k,j,rfl,rfl,L,hj,q]:=h;cases ro;let#[t,rfl]:=ri;let#[B,n,r,F,hz]:=I.lst L;let#[h1,h2,O,M]:=Ht hj;let G:=r.length;let hn:=AF;let I':Inv X zT Z (upd H p (.lst (xs.set j v))) {s with heap:=s.heap.update p (Obj.mapSeq (·.setIfInBounds j u))}:=
  I.lstUpd L F (Su B n j u) (r.set rv j) (by rw[List.length_set];show hz) s.toks
 by_cases Y:0<=k
 .let J:k.toNat=j:=by rw[seqIndex_of Y M]at h1;exact qf h1
  show W.ki_setAt F Y ∅ (by rw[qr,<-G];show M) (by rw[J];show#[_,I',q])
 .let J:(k+(B.toArray.size:Int)).toNat=j:=by rw[seqIndex_neg ∅ O]at h1;rw[qr,<-G];exact qf h1
  show W.ki_setBack F ∅ (by rw[qr,<-G];show O) ∅ (by rw[J];show#[_,I',q])
def UM(lo hi:Option Int)(n:Nat):(sliceBounds lo hi none n).1=((HT.sIx n 0 lo:Nat):Int)/\(sliceBounds lo hi none n).2.1=((HT.sIx n n hi:Nat):Int)/\(sliceBounds lo hi none n).2.2=1:=by
 let B:∀(i:Int)(n d:Nat),max 0 (min (if i<0 then i+(n:Int)else i) (n:Int))=((HT.sIx n d ⇑i:Nat):Int):=λi n _=>Em i n;show#[?_,?_,rfl]
 .cases lo with
  |none=>rfl
  |some i=>show B i n 0
 .cases hi with
  |none=>rfl
  |some i=>show B i n n
def UD(B:List Value)(lo hi:Option Int):slicePick B.toArray lo hi none=((B.drop (HT.sIx B.length 0 lo)).take (HT.sIx B.length B.length hi-HT.sIx B.length 0 lo)).toArray:=by let#[h1,h2,F]:=UM lo hi B.toArray.size;unfold slicePick;rw[h1,h2,F];simp only[sliceRange_one,pick_run]<;>rfl
def wA(K:W.Frag):V->Option Int->Option Int->Hp->VK->Prop:=λx lo hi H Q=>∃a xs,x=.ref a/\bM K H a xs/\∀p,H p=none->Q (.ref p) (upd H p (.lst (iF xs lo hi)))
def Pm:kR X (wA X.K):=by intro zT s Z H x v vl vu lo hi sl Q I G hs L J h;let#[a,xs,rfl,Y,q]:=h;cases G;let#[M,r,F,O]:=I.list Y;let B:=r.length;show#["list",_,slot_list_getitem.lookup,F.isList.typeIs,?_];show wpAny_getItem_list_slice F.isList hs L J .none (by simp) ?_ (by rw[qr]<;>lia);rw[UD,<-B];show#[.ref s.heap.objs.size,_,I.laid (t':=s.toks) (o:=.lst (iF xs lo hi)) (λb ob q=>qc _ q) (q9 _) ?_,rfl,q _ (I.hok.fresh (q9 _))];show#[le_trans (Mg xs lo hi) O,_,0,(r.drop (HT.sIx xs.length 0 lo)).take (HT.sIx xs.length xs.length hi-HT.sIx xs.length 0 lo),qd _ rfl]
def UJ:aR X (.builtin "len") (λxs H Q=>∃p ys,xs=[.ref p]/\(bM X.K H p ys\/bA X.K H p ys)/\Q (.int ys.length) H):=by
 intro zT s Z H xs Y Q I r h;let#[p,ys,rfl,F,q]:=h;let#[u,rfl,M]:=vals1 r;cases M;let hn:=AF;rcases F with F|F
 .obtain⟨L,G,J,O⟩:=I.list F;let B:=G.length;show Calls.call_len_list J.isList (by simp<;>lia) #[.int ys.length,H,I.tok _,#[s.toks+1,by rw[qr,B]],q]
 .obtain⟨L,G,J,O⟩:=I.tuple F;let B:=G.length;show len_tuple J (by simp<;>lia) #[.int ys.length,H,I.tok _,#[s.toks+1,by rw[qr,B]],q]
def UN:aR X (.builtin "len") (λxs H Q=>∃z,xs=[.str z]/\z.length<=sizeLine/\Q (.int z.length) H):=by intro zT s Z H xs B Q I r h;let#[z,rfl,F,q]:=h;let#[u,rfl,t,rfl]:=vals1 r;let G:=AF;show len_str ∅ #[.int z.length,H,I.tok _,#[_,rfl],q]
def UC:aR X (.type "list") (λxs H Q=>∃p ys,xs=[.ref p]/\(bM X.K H p ys\/bA X.K H p ys)/\∀l,H l=none->Q (.ref l) (upd H l (.lst ys))):=by
 intro zT s Z H xs us Q I r h;let#[p,ys,rfl,M,q]:=h;let#[u,rfl,rx]:=vals1 r;cases rx;let Y:∀(B:List Value),zQ ys B->ys.length<=sizeLine->∀(h':Heap)(G:Nat),(∀b o',s.heap.get? b=⇑o'->h'.get? b=⇑o')->
   h'.get? s.heap.objs.size=some {cls:=.type "list",dict:=none,data:=.seq B.toArray G,slots:=#[]}->EP X zT Z Q (.ref s.heap.objs.size) {s with heap:=h'}:=λB F L h' G J e=>
  #[.ref s.heap.objs.size,_,I.laid (t':=s.toks) J (q9 _) (show zS X.prog X.w _ h' _ (.lst ys) from#[L,B,G,F,e]),rfl,q _ (I.hok.fresh (q9 _))]
 rcases M with M|M
 .obtain⟨B,F,pl,L⟩:=I.list M;let O:=F.length;let#[o,ho,hc,n,hd]:=pl.isList;show call_list_seq p (.inl rfl) ho hc hd (λh' G J e=>Y B F L h' G J e) (by simp<;>lia)
 .obtain⟨B,F,pl,L⟩:=I.tuple M;let O:=F.length;let#[o,ho,hc,n,hd]:=pl;show call_list_seq p (.inr rfl) ho hc hd (λh' G J e=>Y B F L h' G J e) (by simp<;>lia)
def UG:aR X (.type "tuple") (λxs H Q=>∃p ys,xs=[.ref p]/\((bM X.K H p ys/\∀l,H l=none->Q (.ref l) (upd H l (.tup ys)))\/(bA X.K H p ys/\Q (.ref p) H))):=by
 intro zT s Z H xs us Q I r h;let#[p,ys,rfl,h]:=h;let#[u,rfl,Y]:=vals1 r;cases Y;rcases h with⟨J,q⟩|⟨J,q⟩
 .obtain⟨B,F,G,L⟩:=I.list J;let M:=F.length;show call_tuple_list G.isList (λh' kp=>?_) (by simp<;>lia);let O:Inv X zT Z H {s with heap:=h'}:=I.kept (t':=s.toks) kp;let I2:Inv X zT Z (upd H h'.objs.size (.tup ys)) {s with heap:=h'.push {cls:=.type "tuple",data:=.seq B.toArray}}:=
   O.laid (t':=s.toks) (λb o e=>qc _ e) (q9 _) (show zS X.prog X.w _ _ _ (.tup ys) from#[#[L,iY.new rfl (qd _ rfl)],B,F,IsTup.new _ _])
  show#[.ref h'.objs.size,_,I2,rfl,q _ (O.hok.fresh (q9 _))]
 .obtain⟨B,F,G,L⟩:=I.tuple J;show call_tuple_same G #[.ref p,H,I,rfl,q]
def ax(K:W.Frag)(T:String)(x:V)(H:Hp):Prop:=match x with
 |.str _=>T="str"
 |.int _=>T="int"
 |.ref p=>(T="list"/\∃xs,bM K H p xs)\/(T="tuple"/\∃o,K.lookup p=⇑o/\o.cls=.type "tuple"/\o.dict=none)\/
  (T="dict"/\((∃B,H p=⇑(.dK B))\/∃B,H p=⇑(.dT B)))
 |_=>False
def Js(I:Inv X zT Z H s)(r:zJ x v)(F:ax X.K T x H):
  s.TypeIs v T/\∀a,v=.ref a->∃M,s.heap.get? a=⇑M/\M.dict=none:=by
 cases x with
 |str z=>let#[t,rfl]:=r;cases(show T="str" from F);show#[typeIs_str s z t,λ_ e=>nomatch e]
 |int i=>let#[t,rfl]:=r;cases(show T="int" from F);show#[typeIs_int s i t,λ_ e=>nomatch e]
 |ref p=>
  cases r;rcases F with⟨rfl,xs,Y⟩|⟨rfl,o,B,hc,J⟩|⟨rfl,B⟩
  .obtain⟨O,_,L,_⟩:=I.list Y;show#[L.isList.typeIs,λa e=>?_];cases e;let#[o,n,e,c,J,_]:=L;show#[o,e,J]
  .show#[#[o,I.kIn p o B,hc],λa e=>?_];cases e;show#[o,I.kIn _ o B,J]
  .have z:∃o,s.heap.get? p=⇑o/\o.ExactDict:=by
    rcases B with⟨G,B⟩|⟨G,B⟩
    .obtain⟨_,_,_,_,o,_,_,e,ex,_⟩:=I.hok p _ B;show#[o,e,ex]
    .obtain⟨_,_,_,_,o,_,_,e,ex,_⟩:=I.hok p _ B;show#[o,e,ex]
   let#[o,e,ex]:=z;show#[#[o,e,ex.1],λa e2=>?_];cases e2;show#[o,e,ex.2.1]
 |_=>show False.elim F
def bu(K:W.Frag)(T:String)(r:V->List V->Hp->VK->Prop)(B:TE):TE:=λZ H Q=>B Z H λx H1=>ax K T x H1/\r x [] H1 Q
def jz(K:W.Frag)(T:String)(r:V->List V->Hp->VK->Prop)(B:TE)(t:TA):TE:=λZ H Q=>B Z H λx H1=>ax K T x H1/\t Z H1 λxs H2=>r x xs H2 Q
variable{T id:String}
def OB(pa:PlainAttrs T)(slot:Slot T name id)(G:typeOf (.builtin id)=pure (.type "method_descriptor"))(hm:jm X id r)(ho:PE X o Y)
  (F:autoParam (attributeBase o name X.env (eval o X.env)=eval o X.env) rZ9)(B:autoParam ((apos.endLine==cpos.line)=true) rZ9):PE X (.Call (.Attribute o name apos) [] [] cpos) (bu X.K T r Y):=by
 intro zT s Z H Q I h;show wpAny_Call_method0_late F B (Af (ho zT s Z H _ I h) λv s1 M=>?_);let#[x,H1,L,J,O,q1]:=M;let#[h1,h2]:=Js L J O;show#[T,id,pa,slot,G,h1,h2,Calls.callWith_builtin rfl (PySem.evalArgs_none (hm zT s1 Z H1 x [] v [] Q L J .nil q1))]
def Gi(pa:PlainAttrs T)(slot:Slot T name id)(L:typeOf (.builtin id)=pure (.type "method_descriptor"))(hm:jm X id r)(ho:PE X o to)(ha:PA X (e::es) t)
  (G:autoParam (attributeBase o name X.env (eval o X.env)=eval o X.env) rZ9)
  (J:autoParam (((backTo cpos (starEach (e::es) X.env)).all (λx=>!x.1)&&(backToKw cpos (keywordEach [] X.env)).all (λx=>x.1.isSome)
   &&↥((e::es).length+([]:List Keyword).length+(if([]:List Keyword).isEmpty then 0 else 1)<30))=true) rZ9)
  (F:autoParam ((apos.endLine==cpos.line)=true) rZ9)(hs:autoParam (starEach (e::es) X.env=(false,eval e X.env)::starEach es X.env) rZ9)(B:autoParam ((backTo cpos (starEach es X.env)).any (·.1)=false) rZ9):
  PE X (.Call (.Attribute o name apos) (e::es) [] cpos) (jz X.K T r to t):=by
 intro zT s Z H Q I h;show wpAny_Call_method_late G J F rfl (Af (ho zT s Z H _ I h) λv s1 zq=>?_);let#[x,H1,Y,M,ty,q1]:=zq;let#[h1,h2]:=Js Y M ty;show#[T,id,pa,slot,L,h1,h2,?_];let O:=ha cpos zT s1 Z H1 _ Y q1;rw[hs]at O⊢;show Calls.callWith_builtin (by show(false||(backTo cpos (starEach es X.env)).any (·.1))=false;rw[B]<;>rfl) (Calls.evalArgs_plain ?_);show Af O λus s2⟨vs,H2,I2,r2,q2⟩=>hm zT s2 Z H2 x vs v us Q I2 M r2 q2
end
def uX(X:Cx)(id:String)(r:V->List V->Hp->VK->Prop):Prop:=
 ∀(zT:List (Addr×Obj))(s:Shared)(Z:St)(H:Hp)(x:V)(xs:List V)(v:Value)(us:List Value)(Q:VK),Inv X zT Z H s->zJ x v->zQ xs us->r x xs H Q->
  wpAny (model X.prog X.w) X.A (call (.builtin id) (v::us)) (EP X zT Z Q) X.xe s
def zQ.one:∀{x:V}{us:List Value},zQ [x] us->∃u,us=[u]/\zJ x u:=by
 intro x us h;cases h with
 |cons r t=>cases t;show#[_,rfl,r]
def zQ.zero:∀{us:List Value},zQ [] us->us=[]
 |_,.nil=>rfl
def zQ.dropLast(h:zQ xs us):zQ xs.dropLast us.dropLast:=by
 induction h with
 |nil=>show .nil
 |cons r t B=>
  cases t with
  |nil=>show .nil
  |cons q F=>show .cons r B
def zQ.eraseIdx:∀{xs:List V}{us:List Value}(i:Nat),zQ xs us->zQ (xs.eraseIdx i) (us.eraseIdx i)
 |_,_,_,.nil=>.nil
 |_,_,0,.cons _ t=>t
 |_,_,i+1,.cons r t=>.cons r (zQ.eraseIdx i t)
def Iu{α:Type}(l:List α):l.eraseIdx (l.length-1)=l.dropLast:=by
 induction l with
 |nil=>rfl
 |cons a r B=>
  cases r with
  |nil=>rfl
  |cons b r=>grind
def LH{α:Type}:∀(l:List α)(i:Nat),(l.eraseIdx i).length<=l.length
 |[],_=>q9 _
 |_::_,0=>le_succ _
 |_::r,i+1=>Nat.succ_le_succ (LH r i)
def Inv.lset{B its':List Value}(I:Inv X zT Z H s)(M:H l=⇑(.lst xs))
  (e:s.heap.get? l=some {cls:=.type "list",data:=.seq B.toArray n})(J:f B.toArray=its'.toArray)(F:zQ ys its')(hz:ys.length<=sizeLine):
  Inv X zT Z (upd H l (.lst ys)) {s with heap:=s.heap.update l (Obj.mapSeq f),toks:=t'}:=by
 let q:=PySem.IsL.update e f;rw[J]at q;show I.write (x:=l) (e:=l) (by rw[M];show trivial) (.inl rfl) (λO u L G=>(zc s.heap (Obj.mapSeq f) (Ne.symm L)).trans G) #[_,q] ?_;show#[hz,its',_,F,q]
def Inv.lnew(I:Inv X zT Z H s)(F:zQ ys B)(hz:ys.length<=sizeLine):
  Inv X zT Z (upd H s.heap.objs.size (.lst ys)) {s with heap:=s.heap.push {cls:=.type "list",data:=.seq B.toArray},toks:=t'}:=
 I.laid (λ_ _ q=>qc _ q) (q9 _) #[hz,B,0,F,qd _ rfl]
def Inv.fresh(I:Inv X zT Z H s):H s.heap.objs.size=none:=I.hok.fresh (q9 _)
def Inv.lstM(I:Inv X zT Z H s)(F:H l=⇑(.lst xs)):xs.length<=sizeLine/\∃(B:List Value)(n:Nat),zQ xs B/\xs.length=B.length/\s.heap.get? l=some {cls:=.type "list",data:=.seq B.toArray n}:=by let#[z,B,n,r,e]:=I.hok l _ F;show#[z,B,n,r,r.length,e]
def Dg(h:n<=sizeLine):Builtin.List.listTooLong n=false:=by grind[Builtin.List.listTooLong]
def nZ:V->List V->Hp->VK->Prop:=λx vs H Q=>∃l xs y,x=.ref l/\vs=[y]/\H l=⇑(.lst xs)/\xs.length<sizeLine/\Q .non (upd H l (.lst (xs++[y])))
def LP:uX X "list.append" nZ:=by intro zT s Z H x vs v O Q I J L h;let#[l,xs,y,rfl,rfl,G,Y,q]:=h;cases J;let#[u,rfl,M]:=L.one;let#[z,B,n,r,hl,e]:=I.lstM G;show call_meets F.slot_list_append #[_,e,rfl] F.entry_list_append (F.args_list_append_2 _ _) (PySem.list_append l B.toArray n u (by rw[qr];lia)) #[e,?_];show#[.non,_,I.lset (its':=B++[u]) G e (by simp) (r.append (.cons M .nil)) ?_,rfl,q];rw[qq,qB];lia
def nY:V->List V->Hp->VK->Prop:=λx vs H Q=>∃l b xs B,x=.ref l/\vs=[.ref b]/\H l=⇑(.lst xs)/\H b=⇑(.lst B)/\xs.length+B.length<=sizeLine/\Q .non (upd H l (.lst (xs++B)))
def Ta:uX X "list.extend" nY:=by
 intro zT s Z H x vs v us Q I M O h;let#[l,b,xs,zs,rfl,rfl,L,hB,hz,q]:=h;cases M;let#[u,rfl,Y]:=O.one;cases Y;let#[z,G,n,r,hl,e]:=I.lstM L;let#[z2,B,n2,r2,h2,e2]:=I.lstM hB;let h1:G.toArray.size+B.toArray.size<=sizeLine:=by rw[qr,qr];lia
 let J:¬(!G.toArray.isEmpty&&Builtin.List.listTooLong (G.toArray.size+B.toArray.size))=true:=by grind[Dg]
 refine call_meets F.slot_list_extend #[_,e,rfl] F.entry_list_extend (F.args_list_extend_2 _ _)
  (AutoSeq1.list_extend_list_list_0 l G.toArray n b B.toArray n2 J (by rw[qr];lia) ∅) #[e,e2,?_]
 show#[.non,_,I.lset (its':=G++B) L e (by simp) (r.append r2) ?_,rfl,q];rw[qq];lia
def cy:V->List V->Hp->VK->Prop:=λx vs H Q=>∃l xs y,x=.ref l/\vs=[]/\H l=⇑(.lst xs)/\xs[xs.length-1]?=⇑y/\Q y (upd H l (.lst xs.dropLast))
def Oz:uX X "list.pop" cy:=by
 intro zT s Z H x vs v us Q I M O h;let#[l,xs,y,rfl,rfl,L,hy,q]:=h;cases M;let J:=O.zero;subst J;let#[z,B,n,r,hl,e]:=I.lstM L;let#[u,hu,Y]:=r.get hy;let G:B.toArray[B.toArray.size-1]?=⇑u:=by show B.toArray[B.length-1]?=⇑u;rw[<-qY,<-hl];show hu
 show call_meets F.slot_list_pop #[_,e,rfl] F.entry_list_pop (F.args_list_pop_1 _) (MeetsSeq.list_pop_last l B.toArray n u G (by rw[qr];lia)) #[e,?_];show#[y,_,I.lset (its':=B.dropLast) L e ?_ r.dropLast ?_,Y,q]
 .show B.toArray.eraseIdxIfInBounds (B.toArray.size-1)=B.dropLast.toArray;rw[qr,List.eraseIdxIfInBounds_toArray,Iu]
 .rw[List.length_dropLast];lia
def sM:V->List V->Hp->VK->Prop:=λx vs H Q=>∃l xs i k y,x=.ref l/\vs=[.int i]/\H l=⇑(.lst xs)/\-(2^63)<=i/\i<2^63/\seqIndex? i xs.length=⇑k/\xs[k]?=⇑y/\Q y (upd H l (.lst (xs.eraseIdx k)))
def PV:uX X "list.pop" sM:=by
 intro zT s Z H x vs v us Q I L M h;let#[l,xs,i,k,y,rfl,rfl,J,h1,h2,hk,Y,q]:=h;cases L;let#[u,rfl,O]:=M.one;let#[t,rfl]:=O;let#[z,B,n,r,hl,e]:=I.lstM J;let#[w,hw,G]:=r.get Y;refine call_meets F.slot_list_pop #[_,e,rfl] F.entry_list_pop (F.args_list_pop_2 _ _)
  (MeetsSeq.list_pop_at l B.toArray n i t k w (fitsIndex_both h1 h2) (by rw[qr,<-hl];show hk) (by rw[<-qY];show hw) (by rw[qr];lia)) #[e,?_]
 show#[y,_,I.lset (its':=B.eraseIdx k) J e ?_ (r.eraseIdx k) ?_,G,q]
 .show B.toArray.eraseIdxIfInBounds k=(B.eraseIdx k).toArray;rw[List.eraseIdxIfInBounds_toArray]
 .let:=LH xs k;lia
end L2
namespace Att
open PySem PySem.W PySem.Calls PyProof.Rows
def UQ:∀(ns:List Int)(vs:List Value),WellAll P h vs (ns.map WData.int)->IntsAre vs ns:=by
 intro ns;induction ns with
 |nil=>intro vs w;cases w;show .nil
 |cons n ns B=>
  intro vs w;cases w with
  |cons a b=>cases a;show .cons _ _ (B _ b)
def RX{l:OpenLaw}(hn:l.most=⇑n)
  (B:l.row.toRowW.claim.pre args=true)(L:WellAll P h vals args):
  ∃a vs ns,vals=[Value.ref a]/\args=[WData.list (ns.map WData.int)]/\h.get? a=some {cls:=.type "list",data:=.seq vs.toArray}/\IntsAre vs ns/\ns.length<=n:=by
 have M:WShape.hasAll [] args [.list .int]=true:=(pre_splitW B).1;let hc:l.pre.holds [] {args:=args}=true:=(pre_splitW B).2;let#[d,r,rfl,h1,h2]:=hasAllW_cons M;obtain rfl:=hasAllW_nil h2;let#[xs,rfl,h3]:=hasW_list h1;let#[ns,rfl]:=items_int h3;let F:ns.length<=n:=by
  let J:(WTm.not (.lt (.lit (.int (n:Int))) (.len (.arg 0)))).holds [] {args:=[.list (ns.map .int)]}=true:=by let J:=(holds_andW hc).1;rw[hn]at J;show J
  let h5:=condW_of J (w_not (w_lt w_lit (w_len_list (w_arg rfl))));grind
 cases L with
 |cons Y O=>
  cases O;cases Y with
  |list ho G=>show#[_,_,ns,rfl,rfl,ho,UQ ns _ G,F]
def SY(l:OpenLaw)(args:List WData):l.row.toRowW.claim.post args (.bool true) args=true:=
 postW_of (r:=l.row.toRowW) (X:=(true==true))
  (show WShape.has [] (.bool true) .bool=true by first|rfl|decide|simp)
  (show(WTm.eq .res (.lit (.bool true))).value [] {args:=args,res:=⇑(.bool true),after:=args}=⇑(.bool (true==true)) from w_eq_bool (w_res rfl) w_lit) rfl
theorem attach_call{l:OpenLaw}
  (hn:l.most=⇑n)(h7:d.params.defaults=[])
  (call:∀(w:World)(F B:Shared)(mg mb:Str->Option Value)(fa:Addr)(o:Obj)(pm cd L:Value)(a:Addr)(vs:List Value)(ns:List Int),
   Ground q loose [] XP w F mg mb B.heap->YP w B.heap->
   B.heap.get? fa=⇑o->o.data=.func (docDef d.name d.params d.body d.scope pm cd L)->B.heap.CodeRec cd d.name->mg d.name=⇑(.ref fa)->
   B.heap.get? a=some {cls:=.type "list",data:=.seq vs.toArray}->IntsAre vs ns->ns.length<=n->B.gens=#[]->
   codeAny (model l.prog w) callerA (.call (.ref fa) #[[.ref a],[]]) (λr s'=>r=.ok (.ret (.bool true))/\OldK B.heap s'.heap/\s'.os=B.os/\AllBare s'.gens) B):
  WalkO q loose XP YP l.row.toRowW d [] (λf vs=>PySem.call f vs):=by
 intro w F B mg mb G Y fa o pm cd L dV kV ho hd h8 hD h6 hg args h9 as M e1 e2 h5 e3;obtain rfl:dV=.none:=Dflts.none hD h7;obtain rfl:kV=.none:=Dflts.noKw hD;let#[a,vs,ns,rfl,rfl,O,J,h1]:=RX hn M h5;show enter_call (codeAny_mono (call w F B mg mb fa o pm cd L a vs ns G Y ho (fd_plain hd) h8 h6 O J h1 hg) λr s' hq=>?_);let#[rfl,h2,h3,h4]:=hq;show#[.inl #[.bool true,.bool true,[],rfl,λ_=>rfl,.bool true,SY l _,λ_=>#[List.Pairwise.nil,λ_ hm=>(nomatch hm)]],h2,h3,h4]
end Att
namespace L2
open PySem PySem.Spec PyProof.Rows
def EW:∀{vs:List Value}{ns:List Int},IntsAre vs ns->zQ (ns.map V.int) vs
 |_,_,.nil=>.nil
 |_,_,.cons n t h=>.cons #[t,rfl] (EW h)
def uV(H:Hp):Prop:=∀b,H b=none\/∃o xs,H b=⇑(.frz o (.lst xs))
def Rf{K:W.Frag}
  (KX:K.In B.heap)(h5:B.heap.Ns mainGlobals mg)(O:B.heap.Ns builtinsNs mb)(e3:∀x:Str,x≠"__name__"->mb x=bootBuiltins x)(h6:B.heap.NoLimit)(hg:B.gens=#[])
  (ha:B.heap.get? a=some {cls:=.type "list",data:=.seq vs.toArray})(hi:IntsAre vs ns)(hl:ns.length<=sizeLine)(hr:bD k callerA)
  (F:∀base:Heap,K.In base->base.Ns mainGlobals mg->dH P w K mg base CX k fa fd [x] sp)(M:∀(s:Shared)(u:Value),BindsTo s fd #[[u],[]] [(x,u)])
  (h9:∀H:Hp,uV H->bM K H a (ns.map V.int)->sp [.ref a] H (λv _=>v=.bl true) λ_ _ _=>False)
  (e4:∀H e s',CX [] H B (λ_ _ _=>False) e s'->False):
  codeAny (model P w) callerA (.call (.ref fa) #[[.ref a],[]]) (λr s'=>r=.ok (.ret (.bool true))/\OldK B.heap s'.heap/\s'.os=B.os/\AllBare s'.gens) B:=by
 let rv:=EW hi;let Y:=hi.length
 --from an abstract heap in which nothing but the script may be tracked
 have L:∀H:Hp,uV H->bM K H a (ns.map V.int)->dI P w H B.heap->(∀b,H b≠none->b=a)->(H a≠none->K.lookup a=none)->
   codeAny (model P w) callerA (.call (.ref fa) #[[.ref a],[]]) (λr s'=>r=.ok (.ret (.bool true))/\OldK B.heap s'.heap/\s'.os=B.os/\AllBare s'.gens) B:=by
  intro H hO hS h4 hA hK;let G:∀{b:Addr}{o:Obj},B.heap.get? b=⇑o->H b=none->(gT B.heap H).get? b=⇑o:=λe n=>Ql e n;let h8:∀{b:Addr}{o:Obj}{es:Array DictEntry}{ep:Nat},B.heap.get? b=⇑o->o.data=.dict es ep->H b=none:=λ{b o es ep} e d=>by
   cases q:H b with
   |none=>rfl
   |some u=>grind
  let J:∀{b:Addr}{m:Str->Option Value},B.heap.Ns b m->(gT B.heap H).Ns b m:=λ{b m}⟨o,es,ep,e,d,r⟩=>#[o,es,ep,G e (h8 e d),d,r]
  have h7:K.In (gT B.heap H):=λb o e=>G (KX b o e) (by
   cases q:H b with
   |none=>rfl
   |some u=>have e':b=a:=hA b (by rw[q];simp);subst e';rw[hK (by rw[q];simp)]at e;cases e)
  let hM:Mod K mg (gT B.heap H):=#[h7,J h5,#[mb,J O,e3],let#[mc,h1,h2]:=h6;#[mc,J h1,h2]]
  let e0:jB P w K mg (gT B.heap H) callerA [] B H:=#[rfl,hM,λb o e=>Pg e,Nat.le_of_eq (SK _ _),trivial,λb O=>absurd (show b∈([]:List Addr) from O) (by simp),h4,.of_eq hg]
  show codeAny_mono ((F _ h7 (J h5)).run callerA [] B H #[[.ref a],[]] [.ref a] [.ref a] _ _ hr e0 (M B (.ref a)) (.cons rfl .nil) (h9 H hO hS)) λr s' h=>?_;cases r with
  |error e=>show(e4 H e s' h).elim
  |ok fl=>
   cases fl with
   |next=>show False.elim h
   |brk=>show False.elim h
   |cont=>show False.elim h
   |ret u=>
    let#[v,H',os,bare,un,h3,r',q]:=h;let q':v=.bl true:=q;subst q';obtain rfl:u=Value.bool true:=r';show#[rfl,OldK.of_keep λb o e=>?_,os,bare];cases q:H b with
    |none=>show un.keep b o e q (by intro z;show absurd (show b∈([]:List Addr) from z) (by simp)) (by simp)
    |some u=>
     rcases hO b with z|⟨ob,xs,z⟩
     .rw[q]at z;cases z
     .let z2:=un.frzs b ob _ z;let#[e1,_]:=h4 b _ z;let#[e2,_]:=h3 b _ z2;rw[e]at e1;cases e1;show e2
 cases hk:K.lookup a with
 |some o=>
  --the script is one of the module's own objects
  let e:=KX a o hk;rw[ha]at e;cases e;show L (λ_=>none) (λ_=>.inl rfl) (.inr #[_,vs.toArray,_,hk,rfl,rfl,rfl,by rw[qr,Y];show hl,rv]) (λb u z=>by let z':(none:Option HO)=⇑u:=z;cases z') (λb z=>absurd rfl z) λz=>absurd rfl z
 |none=>
  show L (λb=>if b=a then ⇑(.frz {cls:=.type "list",data:=.seq vs.toArray} (.lst (ns.map V.int)))else none) (λb=>?_) (.inl (.inr #[{cls:=.type "list",data:=.seq vs.toArray},qZ rfl])) (λb u z=>?_) (λb z=>?_) λ_=>hk
  .grind
  .by_cases O:b=a
   .let z':=(qZ O).symm.trans z;cases z';subst O;show#[ha,by rw[qo];show hl,vs,_,rv,ha]
   grind
  grind
theorem walk_of{l:W.OpenLaw}{K:Params->W.Frag}{CX:World->yH}{sp:World->Sp}
  (hn:l.most=⇑n)(h2:n<=sizeLine)(h4:d.params.defaults=[])(hr:bD k callerA)
  (hY:∀(w:World)(h:Heap),YP w h->(K w.params).In h)
  (F:∀(w:World)(mg:Str->Option Value)(O:Addr)(h:Heap),(K w.params).In h->h.Ns mainGlobals mg->mg d.name=⇑(.ref O)->
   ∃fd:FuncData,(∀(s:Shared)(u:Value),BindsTo s fd #[[u],[]] [(x,u)])/\
    ∀base:Heap,(K w.params).In base->base.Ns mainGlobals mg->dH l.prog w (K w.params) mg base (CX w) k O fd [x] (sp w))
  (h1:∀(w:World)(H:Hp)(a:Addr)(ns:List Int),ns.length<=n->uV H->bM (K w.params) H a (ns.map V.int)->sp w [.ref a] H (λv _=>v=.bl true) λ_ _ _=>False)
  (h5:∀(w:World)(H:Hp)(s:Shared)(e:Value)(s':Shared),CX w [] H s (λ_ _ _=>False) e s'->False):
  W.WalkO q loose XP YP l.row.toRowW d [] (λf vs=>PySem.call f vs):=by
 show Att.attach_call hn h4 λw h6 L mg mb O o pm cd h8 a vs ns G Y ho hd h7 h3 M J B hg=>?_;let KX:=hY w _ Y;let#[fd,hb,hF]:=F w mg O _ KX G.T.g h3;show Rf KX G.T.g G.T.b G.T.builtins G.T.nolimit hg M J (le_trans B h2) hr hF hb (λH hO hS=>h1 w H a ns B hO hS) λH e s'=>h5 w H L e s'
def cF(s:Stmt):Arguments:=match s with
 |.FunctionDef _ a _ _ _ _ _ _ _ _=>a
 |_=>{posonlyargs:=[],args:=[],vararg:=none,kwonlyargs:=[],kw_defaults:=[],kwarg:=none,defaults:=[]}
def bB(s:Stmt):List Stmt:=match s with
 |.FunctionDef _ _ b _ _ _ _ _ _ _=>b
 |_=>[]
def aA(s:Stmt):Scope:=match s with
 |.FunctionDef _ _ _ _ _ _ sc _ _ _=>sc
 |_=>{kind:=.function,names:=[],isGenerator:=false,isCoroutine:=false}
structure pD(K:W.Frag)(x qual:Str)(st:Stmt)(f:Addr)(fd:FuncData):Prop where
 ex:∃(oc:Value)(od:Option Addr)(kV doc pm:Value)(an:Option Addr)(cdv ct:Value)(osl:Array (Option Value)),
  fd=W.fnOf x qual (cF st) (bB st) (aA st) .none kV doc pm an cdv ct/\K.lookup f=⇑#[oc,od,.func fd,osl]/\W.codeIn K cdv qual=true
 kp:W.keepIn K (.ref f)=true
section
variable{K:W.Frag}
def pD.binds{st:Stmt}(F:pD K x qual st f fd)
  (h:∀(kV B J:Value)(L:Option Addr)(G ct:Value)(us:List Value),us.length=ps.length->bindArgs (W.fnOf x qual (cF st) (bB st) (aA st) .none kV B J L G ct) #[us,[]]=pure (ps.zip us)):Binds K fd ps []:=by
 let#[oc,Y,kV,B,J,L,G,ct,M,rfl,lk,O]:=F.ex;show .all (h kV B J L G ct)
def Jf{st:Stmt}{kV F G B ct:Value}(l:K.lookup f=⇑#[O,M,.func (W.fnOf x qual (cF st) (bB st) (aA st) .none kV F G L B ct),J])
  (c:W.codeIn K B qual=true)(k:W.keepIn K (.ref f)=true):pD K x qual st f (W.fnOf x qual (cF st) (bB st) (aA st) .none kV F G L B ct):=#[#[O,M,kV,F,G,L,B,ct,J,rfl,l,c],k]
end
def Mv(B:bD k A):A.units+1<cLine:=Nat.lt_of_le_of_lt (Nat.add_le_add_left (by decide:1<=64) _) B.units
def zF(H H':Hp):Prop:=∀b o,H b=⇑o->H' b=⇑o
def zF.refl(H:Hp):zF H H:=λ_ _ h=>h
def zF.trans(a:zF H H1)(b:zF H1 H2):zF H H2:=λc o h=>b c o (a c o h)
structure ic(fs:List Addr)(e:Addr)(cls:Value)(dx:Option Addr)(a0:Option Value)(T:Addr)(h h':Heap):Prop where
 new:h.objs.size<=T
 keep:∀b o,b∉fs->b≠e->h.get? b=⇑o->h'.get? b=⇑o
 slot:∀b o,b∈fs->b≠e->h.get? b=⇑o->∃sl,h'.get? b=some {o with slots:=sl}
 rcd:∃oe vs,h'.get? e=⇑oe/\oe.cls=cls/\oe.dict=dx/\oe.data=.fields vs/\vs[0]?=a0/\vs[1]?=⇑(.ref T)
 trc:∃oT ts,h'.get? T=⇑oT/\oT.data=.fields ts/\ts[3]?=⇑.none
def Obj.dict_mapFields(o:Obj)(f:Array Value->Array Value):(o.mapFields f).dict=o.dict:=by unfold Obj.mapFields;split<;>rfl
def LV{base:Heap}{env:Env}{outer:List Env}{L e:Addr}{oe:Obj}{vs:Array Value}{head:Value}{hadNext:Bool}{Q:Unit->Shared->Prop}
  (hfr:A.frames=⇑(env::outer))(hl:s.heap.FunFrames base (env::outer))(hf:env.frame=⇑L)(he:s.heap.get? e=⇑oe)(hd:oe.data=.fields vs)(hsz:1<vs.size)
  (h:∀h' T,ic (gZ (env::outer)) e oe.cls oe.dict vs[0]? T s.heap h'->Q () {s with heap:=h'}):
  wpAny M A (do let a<-frameOf env;let pl<-entryPlaceOf L hadNext;let b<-EntryCells.newEntry head a .none (rawInt L) .none pl;setField (.ref e) 1 b) (λ_ s'=>wpAny M A (setFlight (.ref e) none) Q E s') E s:=by
 let hene:e∉gZ (env::outer):=λhm=>by let#[_,o,ho,hnf]:=hl.mem hm;rw[he]at ho;injection ho with ho;subst ho;show hnf vs hd
 refine qa (wpAny_frameOf_fun hfr hl hf λh₁ hs₁=>?_);show qa (wpAny_entryPlaceOf λpl hpl=>?_);show qa (zk ?_ (hpl.sizeOk5 _ _ _ _ _));let he₁:h₁.get? e=⇑oe:=(hs₁.2.1 e hene).trans he;let he₂:=qc (h:=h₁) {cls:=.type "traceback",dict:=none,data:=.fields ([head,.ref L,.none,rawInt L,.none]++(if pl.isEmpty then List.replicate 6 Value.none else pl)).toArray} he₁;show wpAny_setField he₂ hd hsz ?_;let hTe:h₁.objs.size≠e:=ne_of_gt (qe he₁);let hd₃:=Obj.data_mapFields hd (·.setIfInBounds 1 (Value.ref h₁.objs.size));let he₃:=zi (Obj.mapFields (·.setIfInBounds 1 (Value.ref h₁.objs.size))) he₂ (Obj.isFreed_of_fields hd₃);let hT₃:=(zc (h₁.push {cls:=.type "traceback",dict:=none,data:=.fields ([head,.ref L,.none,rawInt L,.none]++(if pl.isEmpty then List.replicate 6 Value.none else pl)).toArray})
  (Obj.mapFields (·.setIfInBounds 1 (Value.ref h₁.objs.size))) (Ne.symm hTe)).trans (qd h₁ rfl)
 refine qa (zj he₃ hd₃ (x:=.ref h₁.objs.size) (by simp[hsz]) ?_);show wpAny_setField hT₃ rfl (by simp<;>omega) (h _ h₁.objs.size ?_);let keep:∀b o,b≠e->h₁.get? b=⇑o->
   (((h₁.push {cls:=.type "traceback",dict:=none,data:=.fields ([head,.ref L,.none,rawInt L,.none]++(if pl.isEmpty then List.replicate 6 Value.none else pl)).toArray}).update e (Obj.mapFields (·.setIfInBounds 1 (Value.ref h₁.objs.size)))).update h₁.objs.size
     (Obj.mapFields (·.setIfInBounds 3 ((none:Option Addr).elim Value.none λf=>rawInt f)))).get? b=⇑o:=λb o hbe hb=>by
  let hbT:h₁.objs.size≠b:=ne_of_gt (qe hb);rw[zc _ _ hbT,zc _ _ (Ne.symm hbe)];show qc _ hb
 show#[by rw[hs₁.1];show q9 _,λb o hb hbe q=>keep b o hbe ((hs₁.2.1 b hb).trans q),λb o _ hbe q=>?_,?_,?_]
 .obtain⟨sl,hs⟩:=hs₁.2.2 b o q;show#[sl,keep b _ hbe hs]
 .show#[_,_,?_,Obj.cls_mapFields _ _,Obj.dict_mapFields _ _,hd₃,by rw[Array.getElem?_setIfInBounds_ne ⋯],by simp[hsz]];rw[zc _ _ hTe];show he₃
 .show#[_,_,zi _ hT₃ (Obj.isFreed_of_fields (Obj.data_mapFields rfl _)),Obj.data_mapFields rfl _,by first|(simp;done)|(rcases hpl with rfl|⟨_,_,_,_,_,_,_,rfl⟩<;>simp)]
def zS.there(x:zS P w H h a o):∃u,h.get? a=⇑u:=by
 cases o with
 |lst xs=>let#[_,_,_,_,e]:=x;show#[_,e]
 |tup xs=>let#[_,_,_,u,e,_]:=x;show#[_,e]
 |dK B=>let#[_,_,_,_,o,_,_,e,_]:=x;show#[_,e]
 |dT B=>let#[_,_,_,_,o,_,_,e,_]:=x;show#[_,e]
 |set vs=>
  rcases x with⟨_,⟨_,e⟩|⟨_,_,_,_,_,_,_,e,_⟩|⟨_,_,_,_,_,_,_,_,e,_⟩⟩
  .show#[_,e]
  .show#[_,e]
  .show#[_,e]
 |ins C dx fs=>let#[_,_,_,e,_]:=x;show#[_,e]
 |own y=>show x
 |xd fs=>let#[_,#[_,_,_,e,_],_]:=x;show#[_,e]
 |rng lo hi=>let#[_,_,_,e]:=x;show#[_,e]
 |frz F u=>show#[_,x.1]
 |tbl ps=>show#[_,(show h.get? a=⇑_ from x)]
 |met f y=>show#[_,(show h.get? a=⇑_ from x)]
 |ext φ=>show x.2.1
def hH(X:Cx)(zT:List (Addr×Obj))(H:Hp)(h:Heap)(e:Addr)(cls:Value)(dx:Option Addr):Prop:=bK X zT H e/\∃B vs,h.get? e=⇑B/\B.cls=cls/\B.dict=dx/\B.data=.fields vs/\
 (vs[1]?=⇑.none\/∃T G F,vs[1]?=⇑(.ref T)/\T≠e/\bK X zT H T/\h.get? T=⇑G/\G.data=.fields F/\F[3]?=⇑.none)
def Ik{ch:List Addr}{h':Heap}(I:Inv X zT Z H s)(F:∀b∈ch,bK X zT H b)(keep:∀b o,b∉gZ X.stack->b∉ch->s.heap.get? b=⇑o->h'.get? b=⇑o)(slot:∀b o,b∈gZ X.stack->b∉ch->s.heap.get? b=⇑o->∃M,h'.get? b=some {o with slots:=M}):
  Inv X zT Z H {s with heap:=h'}:=by
 let G:∀b u,H b=⇑u->b∉gZ X.stack/\b∉ch:=λb u z=>#[λq=>(by rw[I.stkFree b q]at z;cases z),λq=>(by rw[(F b q).1]at z;cases z)]
 show I.call (ch:=ch) (t':=s.toks) (d':=s.drawn) (g':=s.gens) #[λb o q _ L J=>keep b o L J q,λb o q _ L J=>slot b o L J q,λ_ _ _ z _=>z,λb o q n=>?_,λ_ _ z=>z,λ_ _ _ z=>z,λb ps z=>#[#[],by rw[z];simp]] (λa o q=>?_) I.bare λb B=>?_
 .by_cases B:b∈gZ X.stack
  .obtain⟨M,z⟩:=slot b o B n q;show#[_,z]
  .show#[o,keep b o B n q]
 .show(I.hok a o q).stay (λb u B z=>?_) (λ_ z=>z) λ_ _ z=>z;rcases B with rfl|B
  .show keep _ _ (G _ _ q).1 (G _ _ q).2 z
  .show keep _ _ (G _ _ B).1 (G _ _ B).2 z
 .obtain⟨_,f1,_,f3,Y,O⟩:=F b B;show#[f3,f1,Y,O]
def Kz{Q:Unit->Shared->Prop}(O:X.stack=X.env::X.outer)(hf:X.env.frame=⇑X.env.locals)(I:Inv X zT Z H s)(F:hH X zT H s.heap e cls dx)
  (k:∀h',Inv X zT Z H {s with heap:=h'}->hH X zT H h' e cls dx->Q () {s with heap:=h'}):wpAny (model X.prog X.w) X.A (noteFrame (.ref e) X.env) (λ_ s'=>wpAny (model X.prog X.w) X.A (setFlight (.ref e) none) Q E s') E s:=by
 let#[fe,oe,vs,he,rfl,rfl,hd,ht]:=F;let h6:X.A.frames=⇑(X.env::X.outer):=O▸I.ok.frames;let hl:s.heap.FunFrames X.base (X.env::X.outer):=O▸I.stack;unfold noteFrame;simp only[hf];rcases ht with h1|⟨T,oT,ts,h1,h8,fT,hT,h5,h3⟩
 .show qa (zj he hd h1 ?_);show LV h6 hl hf he hd (Array.getElem?_eq_some_iff.mp h1).1 λh' T' L=>?_;rw[<-O]at L;let I':Inv X zT Z H {s with heap:=h'}:=Ik (ch:=[e]) I (λb G=>by rw[qu.mp G];show fe) (λb o n1 M q=>L.keep b o n1 (λz=>M (by simp[z])) q) λb o n1 M q=>L.slot b o n1 (λz=>M (by simp[z])) q;let#[h2,Y,r1,r2,rd,r3,_,r5]:=L.rcd;let#[oT,ts,t1,t2,t3]:=L.trc;show k h' I' #[fe,h2,Y,r1,r2,rd,r3,.inr #[T',oT,ts,r5,λz=>absurd (qe he) (by let:=L.new;rw[z]at this;lia),I.fpOk L.new (I.hok.fresh L.new),t1,t2,t3]]
 .refine qa (zj he hd h1 ?_);show qa (zj hT h5 h3 ?_);show qa (wpAny_setField hT h5 (Array.getElem?_eq_some_iff.mp h3).1 ?_);let B:∀b,b≠T->(s.heap.update T (Obj.mapFields (·.setIfInBounds 3 Value.none))).get? b=s.heap.get? b:=λb G=>zc _ _ (Ne.symm G);let J:∀b o,s.heap.get? b=⇑o->(∀vs,o.data≠.fields vs)->b≠T:=λb o G h4 q=>by rw[q,hT]at G;injection G with G;subst G;exact h4 ts h5
  refine LV h6 (hl.of_keeps λb o G h4=>#[o,(B b (J b o G h4)).trans G,rfl]) hf ((B e (Ne.symm h8)).trans he) hd (Array.getElem?_eq_some_iff.mp h1).1 λh' T' L=>?_;rw[<-O]at L;let h7:(s.heap.update T (Obj.mapFields (·.setIfInBounds 3 Value.none))).objs.size=s.heap.objs.size:=Heap.size_update ..;let I':Inv X zT Z H {s with heap:=h'}:=Ik (ch:=[e,T]) I (λb G=>by
   rcases qA.mp G with rfl|G
   .show fe
   .rw[qu.mp G];show fT) (λb o n1 M q=>L.keep b o n1 (λz=>M (by simp[z])) ((B b λz=>M (by simp[z])).trans q)) λb o n1 M q=>L.slot b o n1 (λz=>M (by simp[z])) ((B b λz=>M (by simp[z])).trans q)
  let#[h2,Y,r1,r2,rd,r3,_,r5]:=L.rcd;let#[oT,ts,t1,t2,t3]:=L.trc;let hn:s.heap.objs.size<=T':=h7▸L.new;show k h' I' #[fe,h2,Y,r1,r2,rd,r3,.inr #[T',oT,ts,r5,λz=>absurd (qe he) (by rw[z]at hn;lia),I.fpOk hn (I.hok.fresh hn),t1,t2,t3]]
def QL{Q:Unit->Shared->Prop}(B:X.stack=X.env::X.outer)(G:X.env.frame=⇑X.env.locals)(I:Inv X zT Z H s)(F:hH X zT H s.heap e cls dx)
  (k:∀h',Inv X zT Z H {s with heap:=h'}->hH X zT H h' e cls dx->Q () {s with heap:=h'}):wpAny (model X.prog X.w) X.A (leaving X.env (.ref e)) Q E s:=by
 show qa (Kz B G I F k)
def TM{Q:Unit->Shared->Prop}(I:Inv X zT Z H s)(F:hH X zT H s.heap e cls dx)
  (k:∀h',Inv X zT Z H {s with heap:=h'}->hH X zT H h' e cls dx->Q () {s with heap:=h'}):wpAny (model X.prog X.w) A (setFlight (.ref e) none) Q E s:=by
 let#[fe,oe,vs,M,rfl,rfl,O,ht]:=F;rcases ht with h1|⟨T,oT,ts,h1,L,fT,hT,G,h3⟩
 .show qa (zj M O h1 ?_);show qb (k s.heap I #[fe,oe,vs,M,rfl,rfl,O,.inl h1])
 .refine qa (zj M O h1 ?_);let J:=(Array.getElem?_eq_some_iff.mp h3).1;show wpAny_setField hT G J ?_;let B:∀b,b≠T->(s.heap.update T (Obj.mapFields (·.setIfInBounds 3 ((none:Option Addr).elim Value.none λf=>rawInt f)))).get? b=s.heap.get? b:=λb hb=>zc _ _ (Ne.symm hb);refine k _ (Ik (ch:=[T]) I (λb hb=>by rw[qu.mp hb];show fT) (λb o n1 Y q=>(B b λz=>Y (by simp[z])).trans q) λb o n1 Y q=>#[o.slots,(B b λz=>Y (by simp[z])).trans q])
   #[fe,oe,vs,(B e (Ne.symm L)).trans M,rfl,rfl,O,.inr #[T,_,_,h1,L,fT,zi _ hT (Obj.isFreed_of_fields (Obj.data_mapFields G _)),Obj.data_mapFields G _,by simp[J]]]
def Inv.fpNew(I:Inv X zT Z H s)(J:s.heap.get? b=none)(hn:H' b=none):bK X zT H' b:=by
 let no:∀o,s.heap.get? b=⇑o->False:=λo z=>by rw[J]at z;cases z
 show#[hn,λz=>?_,λz=>?_,?_,λx c q z=>?_,λp G z=>?_]
 .obtain⟨m,⟨o,_,_,B,_⟩,_⟩:=I.loc;rw[<-z]at B;show no o B
 .obtain⟨_,o,B,_⟩:=I.funs.mem z;show no o B
 .by_cases F:b∈X.ex
  .show .inl F
  .show .inr ?_;cases q:X.s₀.heap.get? b with
   |none=>rfl
   |some o=>let#[o',z]:=I.base.there b o q F;show(no o' z).elim
 .obtain⟨v,o,B,_⟩:=I.cell x c q;rw[z]at B;show no o B
 .let:=(I.pin p G).1;rw[z]at this;show no _ this
def bK.few(f:bK X zT H b):bK X [] H b:=#[f.1,f.2.1,f.2.2.1,f.2.2.2.1,f.2.2.2.2.1,λp B=>f.2.2.2.2.2 p (qj _ ↑B)]
def hH.few(F:hH X zT H h e cls dx):hH X [] H h e cls dx:=by let#[f,G,vs,h1,h2,L,O,M]:=F;show#[f.few,G,vs,h1,h2,L,O,M.imp id ?_];rintro⟨T,J,B,a1,a2,a3,Y⟩;show#[T,J,B,a1,a2,a3.few,Y]
def Inv.few(I:Inv X zT Z H s):Inv X [] Z H s:=I.pins_of λp B=>I.pin p (qj _ ↑B)
def fU(P:Program)(w:World):yH:=λB H s E e s'=>∃a cls dx H',e=.ref a/\s'.os=s.os/\AllBare s'.gens/\Un (gZ B) [] H H' s.heap s'.heap/\dI P w H' s'.heap/\E cls dx H'/\s.heap.get? a=none/\H' a=none/\
 ∃F vs,s'.heap.get? a=⇑F/\F.cls=cls/\F.dict=dx/\F.data=.fields vs/\(vs[1]?=⇑.none\/∃T J G,vs[1]?=⇑(.ref T)/\T≠a/\s.heap.get? T=none/\H' T=none/\s'.heap.get? T=⇑J/\J.data=.fields G/\G[3]?=⇑.none)
section
variable{K:W.Frag}
def Rt(I:Inv (dY (fU P w) P w K mg base N qual scope f B A outer s H E) [] Z H' s')(F:hH (dY (fU P w) P w K mg base N qual scope f B A outer s H E) [] H' s'.heap e cls dx)(q:E cls dx H'):
  (dY (fU P w) P w K mg base N qual scope f B A outer s H E).xe (.ref e) s':=by
 show QL (X:=dY (fU P w) P w K mg base N qual scope f B A outer s H E) rfl rfl I F λh' G F'=>?_;let#[L,Y,vs,h1,h2,hd,h3,h4]:=F';let J:∀{b},bK (dY (fU P w) P w K mg base N qual scope f B A outer s H E) [] H' b->s.heap.get? b=none:=λ{b} z=>z.2.2.2.1.resolve_left λz=>by cases z
 show#[e,cls,dx,H',rfl,G.os,G.bare,G.base,G.hok,q,J L,L.1,Y,vs,h1,h2,hd,h3,h4.imp id ?_];rintro⟨T,oT,O,a1,a2,M,a4⟩;show#[T,oT,O,a1,a2,J M,M.1,a4]
end
def Pp(I:Inv X zT Z H s)(h:fU X.prog X.w X.stack H s E u s'):∃a cls dx H',u=.ref a/\Inv X zT Z H' s'/\hH X zT H' s'.heap a cls dx/\E cls dx H':=by let#[a,cls,dx,H',rfl,O,Y,un,B,q,M,L,G,vs,h1,h2,hd,h3,h4]:=h;show#[a,cls,dx,H',rfl,I.call' O un B Y (λb z=>absurd z (by simp)),#[I.fpNew M L,G,vs,h1,h2,hd,h3,h4.imp id ?_],q];rintro⟨T,J,F,a1,a2,a3,a4,a5⟩;show#[T,J,F,a1,a2,I.fpNew a3 a4,a5]
@[inline]def XW(X:Cx)(Z:St):XK:=λcls dx H'=>∀(a:Addr)(s':Shared),Inv X [] Z H' s'->hH X [] H' s'.heap a cls dx->X.xe (.ref a) s'
def rR(X:Cx)(sp:Sp)(t:TA):TE:=λZ H Q=>t Z H λvs H1=>sp vs H1 Q (XW X Z)
def Rx(F:dH X.prog X.w X.K X.mg X.base (fU X.prog X.w) k f fd ps sp)(hr:bD k X.A)(hg:Gl X x)(hm:X.mg x=⇑(.ref f))(hk:W.keepIn X.K (.ref f)=true)(hb:Binds X.K fd ps [])
  (ha:PA X (e::es) t)(M:autoParam ((x==("__debug__":Str))=false) dZ9)(he:autoParam (starEach (e::es) X.env=(false,eval e X.env)::starEach es X.env) rZ9)(L:autoParam ((backTo pos (starEach es X.env)).any (·.1)=false) rZ9):
  PE X (.Call (.Name x p) (e::es) [] pos) (rR X sp t):=by
 intro zT s Z H Q I h;show wpAny_Call_Name_kw (Gw I hg hm ?_ M);show W.callWith_K (h₀:=X.base) I.ok.mod.kin hk (Af (ha pos zT s Z H _ I h) λJ O Y=>?_) he L;let#[vs,H1,G,r,q]:=Y;show#[G.kIn,?_];let hl:(J++[]).length=ps.length:=by rw[qz,<-r.length];show F.len _ _ _ _ q
 show wpAny_call (codeAny_mono (F.run X.A X.stack O H1 #[J,[]] J vs Q (XW X Z) hr G.env0 (by let:=hb O J G.kIn hl;rwa[qz]at this) r q) λr s' B=>?_);cases r with
 |error e=>let#[a,cls,dx,H',rfl,I',F',q']:=Pp G B;show q' a s' I'.few F'.few
 |ok fl=>
  cases fl with
  |ret u=>show G.after B
  |next=>show False.elim B
  |brk=>show False.elim B
  |cont=>show False.elim B
section
variable{K:W.Frag}
def pD.okX{st:Stmt}(F:pD K x qual st f fd)(S:aC N ps (aA st))(len:∀vs H Q E,sp vs H Q E->vs.length=ps.length)
  (J:∀(G:Value)(A:Around)(B:List Env)(s:Shared)(H:Hp)(vs:List V)(Q:VK)(E:XK),bD k (A.deeper (envOfC qual (aA st) s.heap.objs.size f G))->sp vs H Q E->
   ∃t,iJ (dY (fU P w) P w K mg base N qual (aA st) f G A B s H E) (bB st) t/\t {nx:=λ_ H'=>Q .non H',rt:=Q} (start N vs) H):dH P w K mg base (fU P w) (k+1) f fd ps sp:=by
 let#[oc,od,kV,h1,pm,an,G,ct,O,rfl,lk,M]:=F.ex;show My lk M S len λA B s H vs Q E Y L=>J G A B s H vs Q E Y L
end
end L2
namespace FL
open PySem
inductive D where
 |non
 |bl(b:Bool)
 |int(i:Int)
 |str(l:List Nat)
 |tup(l:List D)
 |lst(l:List D)
 |dct(t:Bool)(ks vs:List D)
 |set(l:List D)
 |exc(c:List Nat)(fs:List (List Nat))(vs:List D)
 deriving Inhabited
inductive S where
 |sh(d:D)
 |lst(l:List S)
 |dct(t:Bool)(ks:List D)(vs:List S)
 |set(l:List D)
 deriving Inhabited
mutual
@[inline]def S.toD:S->D
 |.sh d=>d
 |.lst l=>.lst (S.toDs l)
 |.dct t ks vs=>.dct t ks (S.toDs vs)
 |.set l=>.set l
@[inline]def S.toDs:List S->List D
 |[]=>[]
 |s::r=>S.toD s::S.toDs r
end
@[simp] theorem S.toDs_map:∀l:List S,S.toDs l=l.map S.toD
  |[]=>rfl
  |s::r=>by rw[S.toDs,S.toDs_map r,qy]
@[simp] theorem S.toD_sh(d:D):(S.sh d).toD=d:=rfl
@[simp] theorem S.toD_lst(l:List S):(S.lst l).toD=.lst (l.map S.toD):=by rw[<-S.toDs_map];rfl
@[simp] theorem S.toD_dct(t:Bool)(ks:List D)(l:List S):(S.dct t ks l).toD=.dct t ks (l.map S.toD):=by rw[<-S.toDs_map];rfl
@[simp] theorem S.toD_set(l:List D):(S.set l).toD=.set l:=rfl
@[inline]def S.isSh:S->Bool
 |.sh _=>true
 |_=>false
@[inline]def S.flat:S->Bool
 |.sh _=>true
 |.lst l=>l.all S.isSh
 |.dct _ _ vs=>vs.all S.isSh
 |.set _=>false
inductive R where
 |v(s:S)
 |loc(i:Nat)
abbrev Env:=List (Option S)
abbrev WQ:=R->Env->Prop
abbrev WX:=D->Env->Prop
@[inline]def NX:WX:=λ_ _=>False
abbrev WE:=Env->WQ->WX->Prop
abbrev WT:=Env->(Bool->Env->Prop)->WX->Prop
abbrev WA:=Env->(List R->Env->Prop)->WX->Prop
structure Ends where
 nx:Env->Prop
 rt:WQ
 bk:Env->Prop
 ct:Env->Prop
 ex:WX
abbrev WS:=Ends->Env->Prop
def slot(U:Env)(i:Nat):Option S:=match U,i with
 |[],_=>none
 |s::_,0=>s
 |_::r,i+1=>slot r i
@[simp] theorem Vb(s:Option S)(r:Env):slot (s::r) 0=s:=rfl
@[simp] theorem UX(s:Option S)(r:Env)(i:Nat):slot (s::r) (i+1)=slot r i:=rfl
def view(r:R)(U:Env):Option D:=match r with
 |.v s=>⇑s.toD
 |.loc i=>(slot U i).map S.toD
def zP(r:R)(U:Env):Option D:=match r with
 |.v s=>⇑s.toD
 |.loc i=>match slot U i with
  |some s=>if s.flat then ⇑s.toD else none
  |none=>none
def give(r:R)(U:Env):Option (S×Env):=match r with
 |.v s=>⇑(s,U)
 |.loc i=>match slot U i with
  |some s=>⇑(.sh s.toD,U.set i ⇑(.sh s.toD))
  |none=>none
def aF:List R->Env->Option (List S×Env)
 |[],U=>⇑([],U)
 |r::rs,U=>match give r U with
  |some (s,U1)=>match aF rs U1 with
   |some (ss,U2)=>⇑(s::ss,U2)
   |none=>none
  |none=>none
def ixN(n:Nat)(i:Int):Option Nat:=if 0<=i then(if i<n then ⇑i.toNat else none)else if -(n:Int)<=i then ⇑(i+n).toNat else none
def atI{α:Type}(xs:List α)(i:Int):Option α:=(ixN xs.length i).bind λj=>xs[j]?
def sIx(n d:Nat):Option Int->Nat
 |none=>d
 |some i=>if i<0 then(i+n).toNat else min i.toNat n
def bI{α:Type}(xs:List α)(lo hi:Option Int):List α:=(xs.drop (sIx xs.length 0 lo)).take (sIx xs.length xs.length hi-sIx xs.length 0 lo)
def big:Nat:=1000000
def zz{α:Type}(o:Option α)(k:α->Prop):Prop:=match o with
 |some a=>k a
 |none=>False
@[simp] theorem LK{α:Type}(a:α)(k:α->Prop):zz (some a) k=k a:=rfl
@[simp] theorem Va{α:Type}(k:α->Prop):zz (none:Option α) k=False:=rfl
@[simp] theorem UY{α:Type}{c:Prop}[Decidable c](a:α)(k:α->Prop):zz (if c then some a else none) k=(c/\k a):=by by_cases h:c<;>simp[h]
def zv(i:Nat):WE:=λU Q _=>match slot U i with
 |some (.sh d)=>Q (.v (.sh d)) U
 |some _=>Q (.loc i) U
 |none=>False
def wC(d:D):WE:=λU Q _=>Q (.v (.sh d)) U
def zL(op:D->D->Option S)(a b:WE):WE:=λU Q E=>a U (λx F=>b F (λy B=>zz (zP x B) λp=>zz (zP y B) λq=>zz (op p q) λs=>Q (.v s) B) E) E
def yL(op:D->Option S)(a:WE):WE:=λU Q E=>a U (λx B=>zz (zP x B) λp=>zz (op p) λs=>Q (.v s) B) E
def aW:D->D->Option S
 |.int i,.int j=>⇑(.sh (.int (i+j)))
 |.str x,.str y=>if x.length+y.length<=big then ⇑(.sh (.str (x++y)))else none
 |.lst x,.lst y=>if x.length+y.length<=big then ⇑(.lst ((x++y).map .sh))else none
 |.tup x,.tup y=>if x.length+y.length<=big then ⇑(.sh (.tup (x++y)))else none
 |_,_=>none
def lT:D->D->Option S
 |.int i,.int j=>⇑(.sh (.int (i-j)))
 |_,_=>none
def jR(i j:Int):Bool:=(↥(-(2^64)<i)&&↥(i<2^64))||(↥(-(2^64)<j)&&↥(j<2^64))
def lW:D->D->Option S
 |.int i,.int j=>if jR i j then ⇑(.sh (.int (i*j)))else none
 |_,_=>none
def gB:D->D->Option S
 |.int i,.int j=>if 0<j/\j<18446744073709551616 then ⇑(.sh (.int (i/j)))else none
 |_,_=>none
def dS:D->D->Option S
 |.int i,.int j=>if 0<j then ⇑(.sh (.int (i %j)))else none
 |_,_=>none
def lU:D->D->Option S
 |.int i,.int j=>if 0<=j/\j<=1000/\i.natAbs<2^64 then ⇑(.sh (.int (i^j.toNat)))else none
 |_,_=>none
def lV:D->Option S
 |.int i=>⇑(.sh (.int (-i)))
 |_=>none
mutual
def aQ:D->D->Bool
 |.tup l,.tup m=>bO l m
 |.lst l,.lst m=>bO l m
 |.int _,.int _=>false
 |.int _,.str _=>false
 |.int _,.non=>false
 |.str _,.int _=>false
 |.str _,.str _=>false
 |.str _,.non=>false
 |.str _,.bl _=>false
 |.bl _,.bl _=>false
 |.bl _,.str _=>false
 |.bl _,.non=>false
 |.non,.int _=>false
 |.non,.str _=>false
 |.non,.bl _=>false
 |.non,.non=>false
 |_,_=>true
def bO:List D->List D->Bool
 |a::l,b::m=>aQ a b||bO l m
 |_,_=>false
end
mutual
def fW:D->Nat
 |.tup l=>cE l+1
 |.lst l=>cE l+1
 |_=>0
def cE:List D->Nat
 |[]=>0
 |a::l=>max (fW a) (cE l)
end
open Classical in
def fY(a b:D):Option Bool:=if aQ a b||↥(30<fW a)then none else ⇑↥(a=b)
def fX(a b:D):Option Bool:=(fY a b).map (!·)
def yU:D->D->Option Bool
 |.int i,.int j=>⇑↥(i<j)
 |.str x,.str y=>⇑↥(x<y)
 |_,_=>none
def vJ(a b:D):Option Bool:=yU a b
def mM(a b:D):Option Bool:=yU b a
def kU:D->D->Option Bool
 |.int i,.int j=>⇑↥(i<=j)
 |.str x,.str y=>⇑(!decide (y<x))
 |_,_=>none
def yY:D->D->Option Bool
 |.int i,.int j=>⇑↥(j<=i)
 |.str x,.str y=>⇑(!decide (x<y))
 |_,_=>none
def bC:D->Bool
 |.int _=>true
 |.str _=>true
 |_=>false
def dC:Bool->D->Bool
 |true,.tup l=>l.all bC
 |false,d=>bC d
 |_,_=>false
open Classical in
def xN(a:D):D->Option Bool
 |.lst l=>if l.any (λx=>aQ x a||↥(30<fW x))then none else ⇑↥(a∈l)
 |.tup l=>if l.any (λx=>aQ x a||↥(30<fW x))then none else ⇑↥(a∈l)
 |.dct t ks _=>if dC t a then ⇑↥(a∈ks)else none
 |_=>none
open Classical in
def mL(a:D):D->Option Bool
 |.non=>⇑↥(a=.non)
 |.bl b=>⇑↥(a=.bl b)
 |_=>none
def fG:D->Option Bool
 |.non=>⇑false
 |.bl b=>⇑b
 |.int i=>⇑↥(i≠0)
 |.str l=>⇑(!l.isEmpty)
 |.tup l=>⇑(!l.isEmpty)
 |.lst l=>⇑(!l.isEmpty)
 |_=>none
def aS(op:D->D->Option Bool)(a b:WE):WT:=λU Q E=>a U (λx F=>b F (λy B=>zz (view x B) λp=>zz (view y B) λq=>zz (op p q) λc=>Q c B) E) E
def cM(op J:D->D->Option Bool)(a b c:WE):WT:=λU Q E=>a U (λx G=>b G (λy B=>zz (view x B) λp=>zz (view y B) λq=>zz (op p q) λk=>if k then c B (λz F=>zz (view y F) λq=>zz (view z F) λr=>zz (J q r) λL=>Q L F) E else Q false B) E) E
def cN(a:WE):WT:=λU Q E=>a U (λx B=>zz (view x B) λp=>zz (fG p) λc=>Q c B) E
def gA(a b:WT):WT:=λU Q E=>a U (λc B=>if c then b B Q E else Q false B) E
def eQ(a b:WT):WT:=λU Q E=>a U (λc B=>if c then Q true B else b B Q E) E
def cZ(a:WT):WT:=λU Q E=>a U (λc B=>Q (!c) B) E
def dM(t:WT):WE:=λU Q E=>t U (λc B=>Q (.v (.sh (.bl c))) B) E
def nG(c:WT)(a b:WE):WE:=λU Q E=>c U (λk B=>if k then a B Q E else b B Q E) E
def jO(a b:WE):WE:=λU Q E=>a U (λx B=>match view x B with
 |some (.bl c)=>if c then b B Q E else Q (.v (.sh (.bl false))) B
 |_=>False) E
def rH(a b:WE):WE:=λU Q E=>a U (λx B=>match view x B with
 |some (.bl c)=>if c then Q (.v (.sh (.bl true))) B else b B Q E
 |_=>False) E
def zx:WA:=λU Q _=>Q [] U
def zw(a:WE)(b:WA):WA:=λU Q E=>a U (λr F=>b F (λG B=>Q (r::G) B) E) E
def eA(a:WA):WE:=λU Q E=>a U (λF B=>zz (if F.length<=big then aF F B else none) λp=>Q (.v (.sh (.tup (p.1.map S.toD)))) p.2) E
def cY(a:WA):WE:=λU Q E=>a U (λF B=>zz (if F.length<=big then aF F B else none) λp=>Q (.v (.lst p.1)) p.2) E
open Classical in
def lk{α:Type}:List D->List α->D->Option α
 |k'::ks,v::vs,k=>if k'=k then ⇑v else lk ks vs k
 |_,_,_=>none
def iU:S->D->Option S
 |.sh (.tup l),.int i=>(atI l i).map .sh
 |.sh (.lst l),.int i=>(atI l i).map .sh
 |.sh (.str l),.int i=>(atI l i).map λc=>.sh (.str [c])
 |.lst l,.int i=>atI l i
 |_,_=>none
def cP(a b:WE):WE:=λU Q E=>a U (λx F=>b F (λy B=>zz (view y B) λq=>match x with
 |.v s=>zz (iU s q) λt=>Q (.v t) B
 |.loc i=>match slot B i with
  |some s=>match iU s q with
   |some (.sh d)=>Q (.v (.sh d)) B
   |_=>False
  |none=>False) E) E
def eJ(a:Option WE):Env->(Option Int->Env->Prop)->WX->Prop:=match a with
 |none=>λU Q _=>Q none U
 |some a=>λU Q E=>a U (λx B=>match view x B with
  |some (.int i)=>Q ⇑i B
  |_=>False) E
def lM(d:D)(lo hi:Option Int):Option S:=match d with
 |.str l=>⇑(.sh (.str (bI l lo hi)))
 |.tup l=>⇑(.sh (.tup (bI l lo hi)))
 |.lst l=>⇑(.lst ((bI l lo hi).map .sh))
 |_=>none
def pE(a:WE)(lo hi:Option WE):WE:=λU Q E=>a U (λx G=>eJ lo G (λl F=>eJ hi F (λh B=>zz (zP x B) λd=>zz (lM d l h) λs=>Q (.v s) B) E) E) E
abbrev WF:=List S->(S->List S->Prop)->(D->List S->Prop)->Prop
def cA:List Bool->List R->Env->Option (List S×Env)
 |_,[],U=>⇑([],U)
 |ms,.v s::rs,U=>match cA ms.tail rs U with
  |some (ss,U1)=>⇑(s::ss,U1)
  |none=>none
 |ms,.loc i::rs,U=>match slot U i with
  |some s=>if ms.headD false then(match cA ms.tail rs (U.set i none)with
   |some (ss,U1)=>⇑(s::ss,U1)
   |none=>none)
   else(match cA ms.tail rs (U.set i ⇑(.sh s.toD))with
    |some (ss,U1)=>⇑(.sh s.toD::ss,U1)
    |none=>none)
  |none=>none
def back:List Bool->List R->List S->Env->Env
 |ms,.v _::rs,_::ss,U=>back ms.tail rs ss U
 |ms,.loc i::rs,s::ss,U=>if ms.headD false then back ms.tail rs ss (U.set i ⇑s)else back ms.tail rs ss U
 |_,_,_,U=>U
def zN(f:WF)(ms:List Bool)(a:WA):WE:=λU Q E=>a U (λG B=>zz (cA ms G B) λp=>f p.1 (λs F=>Q (.v s) (back ms G F p.2)) (λx F=>E x (back ms G F p.2))) E
def wB(f:List D->Option S)(a:WA):WE:=λU Q E=>a U (λF B=>zz (F.mapM λr=>zP r B) λG=>zz (f G) λs=>Q (.v s) B) E
def bQ(j:Nat)(e:WE):WE:=λU Q E=>match slot U j with
 |some (.lst _)=>e U (λr B=>zz (give r B) λp=>match slot p.2 j with
  |some (.lst l)=>l.length<big/\Q (.v (.sh .non)) (p.2.set j ⇑(.lst (l++[p.1])))
  |_=>False) E
 |_=>False
def bE:List D->Option S
 |[.str l]=>⇑(.sh (.int l.length))
 |[.tup l]=>⇑(.sh (.int l.length))
 |[.lst l]=>⇑(.sh (.int l.length))
 |_=>none
def gX:List D->Option S
 |[.int i]=>⇑(.sh (.int i))
 |[.bl b]=>⇑(.sh (.int (if b then 1 else 0)))
 |_=>none
def cU:List D->Option S
 |[.tup l]=>⇑(.sh (.tup l))
 |[.lst l]=>⇑(.sh (.tup l))
 |_=>none
def xO:List D->Option S
 |[.tup l]=>⇑(.lst (l.map .sh))
 |[.lst l]=>⇑(.lst (l.map .sh))
 |_=>none
def oY:List D->Option S
 |[.int i,.int j]=>⇑(.sh (.int (if j>i then j else i)))
 |_=>none
def oX:List D->Option S
 |[.int i,.int j]=>⇑(.sh (.int (if j<i then j else i)))
 |_=>none
def aZ:WS:=λD U=>D.nx U
def zM(a b:WS):WS:=λD U=>a {D with nx:=b D} U
def eS(c:WT)(a b:WS):WS:=λD U=>c U (λk B=>if k then a D B else b D B) D.ex
def aV(a:WE):WS:=λD U=>a U D.rt D.ex
def wExpr(a:WE):WS:=λD U=>a U (λ_ B=>D.nx B) D.ex
abbrev WG:=S->Env->(Env->Prop)->Prop
def zy(i:Nat):WG:=λs U Q=>Q (U.set i ⇑s)
def dD:List WG->List D->Env->(Env->Prop)->Prop
 |[],[],U,Q=>Q U
 |g::gs,d::ds,U,Q=>g (.sh d) U λB=>dD gs ds B Q
 |_,_,_,_=>False
def cK(B:List WG):WG:=λs U Q=>match s.toD with
 |.tup ds=>ds.length=B.length/\dD B ds U Q
 |_=>False
def fD(j:Nat)(i e:WE):WS:=λD U=>e U (λr G=>zv j G (λx F=>i F (λy B=>zz (view y B) λq=>zz (give r B) λp=>match x,q,slot p.2 j with
 |.loc k,.int n,some (.lst l)=>k=j/\zz (ixN l.length n) λm=>D.nx (p.2.set j ⇑(.lst (l.set m p.1)))
 |_,_,_=>False) D.ex) D.ex) D.ex
def zO(g:WG)(a:WE):WS:=λD U=>a U (λr B=>zz (give r B) λp=>g p.1 p.2 D.nx) D.ex
abbrev WI:=Env->(List D->Env->Prop)->WX->Prop
def items:D->Option (List D)
 |.lst l=>⇑l
 |.tup l=>⇑l
 |.str l=>⇑(l.map λc=>.str [c])
 |_=>none
def dA(a:WE):WI:=λU Q E=>a U (λr B=>zz (give r B) λp=>zz (items p.1.toD) λl=>Q l p.2) E
def fromTo(lo:Int)(n:Nat):List D:=(List.range n).map λ(k:Nat)=>.int (lo+(k:Int))
def bY(a:WE):WI:=λU Q E=>a U (λr B=>match view r B with
 |some (.int j)=>(-big<=j/\j<=big)/\Q (fromTo 0 j.toNat) B
 |_=>False) E
def bS(g:WG)(B:WS):List D->WS
 |[],D,U=>D.nx U
 |x::xs,D,U=>g (.sh x) U λF=>B {D with nx:=bS g B xs D,ct:=bS g B xs D,bk:=D.nx} F
def fV(it:WI)(g:WG)(B:WS):WS:=λD U=>it U (λl F=>bS g B l D F) D.ex
def fC(c:WT)(G:WS):WS:=λD U=>∃J:Nat->Env->Prop,(∃m,J m U)/\∀m U,J m U->c U (λk F=>if k then
 G {D with nx:=λB=>∃m',m'<m/\J m' B,ct:=λB=>∃m',m'<m/\J m' B,bk:=D.nx} F else D.nx F) D.ex
abbrev WB:=Env->(Env->Prop)->WX->Prop
def eR:WT:=λU Q _=>Q true U
def aT(g:WG)(c:WT)(b:WB):List D->WB
 |[],U,Q,_=>Q U
 |x::xs,U,Q,E=>g (.sh x) U λG=>c G (λk B=>if k then b B (λF=>aT g c b xs F Q E) E else aT g c b xs B Q E) E
def cG(n:Nat)(a:WE):WB:=λU Q E=>a U (λr B=>zz (give r B) λp=>match slot p.2 n with
 |some (.lst l)=>l.length<big/\Q (p.2.set n ⇑(.lst (l++[p.1])))
 |_=>False) E
def lI(n k:Nat)(it:WI)(g:WG)(c:WT)(b:WB):WE:=λU Q E=>it U (λl F=>aT g c b l (F++⇑(.lst [])::List.replicate k none) (λB=>zz (slot B n) λs=>Q (.v s) (B.take n)) NX) E
def aB:List S->Env->Option (List S)
 |[],_=>⇑[]
 |.sh d::ss,_::U=>(aB ss U).map (.sh d::·)
 |_::ss,some s::U=>(aB ss U).map (s::·)
 |_,_=>none
def eK(n m:Nat)(ks:List Nat)(F:WS):WF:=λB P PX=>B.length=n/\(∀i s,B[i]?=⇑s->i∈ks\/s.isSh=true)/\
 F {nx:=λU=>zz (aB B U) λfs=>P (.sh .non) fs
    rt:=λr U=>match r with
     |.v s=>zz (aB B U) λfs=>P s fs
     |.loc i=>zz (slot U i) λs=>if i<n then zz (aB B (U.set i ⇑(.sh s.toD))) λfs=>P (.sh s.toD) fs else zz (aB B U) λfs=>P s fs
    bk:=λ_=>False
    ct:=λ_=>False
    ex:=λx U=>zz (aB B U) λfs=>PX x fs} (B.map some++List.replicate (m-n) none)
def yV(c f:List Nat)(B:Ends)(U:Env):Option D->Prop
 |some (.int i)=>B.ex (.exc c [f] [.int i]) U
 |_=>False
def dJ(c f:List Nat)(a:WE):WS:=λD U=>a U (λr B=>yV c f D B (view r B)) D.ex
def jn(cs:List (List Nat))(d:D):Prop:=∃c∈cs,∃fs vs,d=.exc c fs vs
def nE(cs:List (List Nat))(G F:WS):WS:=λD U=>G {D with ex:=λd B=>jn cs d/\F {D with ex:=NX} B} U
end FL
namespace FL
open PySem L2
def aY:aP->D
 |.inl i=>.int i
 |.inr x=>.str x.cps.toList
def gu(a C:Addr)(dx:Option Addr)(h:Heap):Prop:=∃o vs,h.get? a=⇑o/\o.cls=.ref C/\o.dict=dx/\o.data=.fields vs
def dU:HO->Bool
 |.tup _=>false
 |_=>true
def mN(F:Hp)(dx:Option Addr)(fs:List (List Nat))(vs:List D):Prop:=(dx=none/\fs=[]/\vs=[])\/∃p f i,dx=⇑p/\fs=[f]/\vs=[.int i]/\F p=⇑(.xd [((#[f.toArray]:Str),.int i)])
mutual
inductive aK(K:W.Frag)(F:Hp):V->D->Prop
 |non:aK K F .non .non
 |bl (b:Bool):aK K F (.bl b) (.bl b)
 |int (i:Int):aK K F (.int i) (.int i)
 |str {x:Str} {l:List Nat}:x.cps.toList=l->l.length<=16777216->aK K F (.str x) (.str l)
 |tup {a:Addr} {xs:List V} {ds:List D}:F a=some (.tup xs)->zR K F xs ds->aK K F (.ref a) (.tup ds)
 |lst {a:Addr} {xs:List V} {ds:List D}:bM K F a xs->zR K F xs ds->aK K F (.ref a) (.lst ds)
 |dK {a:Addr} {zU:List (aP×V)} {ks vs:List D}:Rd F a (.dK zU)->ks=zU.map (λp=>aY p.1)->zR K F (zU.map (·.2)) vs->aK K F (.ref a) (.dct false ks vs)
 |dT {a:Addr} {zU:List (List aP×V)} {ks vs:List D}:Rd F a (.dT zU)->ks=zU.map (λp=>D.tup (p.1.map aY))->zR K F (zU.map (·.2)) vs->aK K F (.ref a) (.dct true ks vs)
 |st {a:Addr} {xs:List V} {ds:List D}:F a=some (.set xs)->zR K F xs ds->aK K F (.ref a) (.set ds)
 |exc {a C:Addr} {dx:Option Addr} {c:List Nat} {fs:List (List Nat)} {vs:List D}:F a=some (.ext (gu a C dx))->W.nsIn K mainGlobals (⟨c.toArray⟩:Str)=some (some (.ref C))->mN F dx fs vs->aK K F (.ref a) (.exc c fs vs)
inductive zR(K:W.Frag)(F:Hp):List V->List D->Prop
 |nil:zR K F [] []
 |cons {x:V} {d:D} {xs:List V} {ds:List D}:aK K F x d->zR K F xs ds->zR K F (x::xs) (d::ds)
end
mutual
inductive aN(K:W.Frag)(F H:Hp):V->S->List Addr->Prop
 |sh {v:V} {d:D}:aK K F v d->aN K F H v (.sh d) []
 |lst {a:Addr} {xs:List V} {l:List S} {fp:List Addr}:H a=some (.lst xs)->zI K F H xs l fp->aN K F H (.ref a) (.lst l) (a::fp)
 |dK {a:Addr} {zU:List (aP×V)} {ks:List D} {l:List S} {fp:List Addr}:H a=some (.dK zU)->ks=zU.map (λp=>aY p.1)->zI K F H (zU.map (·.2)) l fp->aN K F H (.ref a) (.dct false ks l) (a::fp)
 |dT {a:Addr} {zU:List (List aP×V)} {ks:List D} {l:List S} {fp:List Addr}:H a=some (.dT zU)->ks=zU.map (λp=>D.tup (p.1.map aY))->zI K F H (zU.map (·.2)) l fp->aN K F H (.ref a) (.dct true ks l) (a::fp)
 |st {a:Addr} {xs:List V} {ds:List D}:H a=some (.set xs)->zR K F xs ds->aN K F H (.ref a) (.set ds) [a]
inductive zI(K:W.Frag)(F H:Hp):List V->List S->List Addr->Prop
 |nil:zI K F H [] [] []
 |cons {x:V} {s:S} {xs:List V} {l:List S} {fp fq:List Addr}:aN K F H x s fp->zI K F H xs l fq->zI K F H (x::xs) (s::l) (fp++fq)
end
def Rd.mono(h:zF F F')(r:Rd F a u):Rd F' a u:=by
 rcases r with r|⟨o,r⟩
 .show .inl (h _ _ r)
 .show .inr #[o,h _ _ r]
def bM.mono(h:zF F F')(r:bM K F a xs):bM K F' a xs:=r.elim (λr=>.inl (Rd.mono h r)) .inr
def bA.mono(h:zF F F')(r:bA K F a xs):bA K F' a xs:=r.elim (λr=>.inl (Rd.mono h r)) .inr
def zR.ind{P:List V->List D->Prop}(hn:P [] [])(G:∀{x:V}{d:D}{xs:List V}{ds:List D},aK K F x d->zR K F xs ds->P xs ds->P (x::xs) (d::ds))(r:zR K F xs ds):P xs ds:=
 zR.rec (motive_1:=λ_ _ _=>True) (motive_2:=λxs ds _=>P xs ds) trivial (λ_=>trivial) (λ_=>trivial) (λ_ _=>trivial) (λ_ _ _=>trivial) (λ_ _ _=>trivial) (λ_ _ _ _=>trivial) (λ_ _ _ _=>trivial) (λ_ _ _=>trivial) (λ_ _ _=>trivial) hn (λa b _ B=>G a b B) r
def zI.ind{P:List V->List S->List Addr->Prop}(hn:P [] [] [])(G:∀{x:V}{s:S}{xs:List V}{l:List S}{fp fq:List Addr},aN K F H x s fp->zI K F H xs l fq->P xs l fq->P (x::xs) (s::l) (fp++fq))(r:zI K F H xs l fp):P xs l fp:=
 zI.rec (motive_1:=λ_ _ _ _=>True) (motive_2:=λxs l fp _=>P xs l fp) (λ_=>trivial) (λ_ _ _=>trivial) (λ_ _ _ _=>trivial) (λ_ _ _ _=>trivial) (λ_ _=>trivial) hn (λa b _ B=>G a b B) r
def mN.mono(h:zF F F')(x:mN F dx fs vs):mN F' dx fs vs:=x.imp id λ⟨p,f,i,L,J,G,B⟩=>#[p,f,i,L,J,G,h _ _ B]
def aK.mono(h:zF F F')(r:aK K F v d):aK K F' v d:=
 aK.rec (motive_1:=λv d _=>aK K F' v d) (motive_2:=λv d _=>zR K F' v d) .non .bl .int (λe z=>.str e z) (λe _ B=>.tup (h _ _ e) B) (λe _ B=>.lst (bM.mono h e) B) (λe k _ B=>.dK (Rd.mono h e) k B) (λe k _ B=>.dT (Rd.mono h e) k B) (λe _ B=>.st (h _ _ e) B) (λe k x=>.exc (h _ _ e) k (x.mono h)) .nil (λ_ _ a b=>.cons a b) r
def zR.mono(h:zF F F')(r:zR K F v d):zR K F' v d:=zR.ind .nil (λa _ B=>.cons (aK.mono h a) B) r
def aN.mono(h:zF F F')(r:aN K F H v s fp):(∀a∈fp,H' a=H a)->aN K F' H' v s fp:=
 aN.rec (motive_1:=λv s fp _=>(∀a∈fp,H' a=H a)->aN K F' H' v s fp) (motive_2:=λv s fp _=>(∀a∈fp,H' a=H a)->zI K F' H' v s fp)
  (λr _=>.sh (aK.mono h r)) (λe _ B k=>.lst ((k _ qm).trans e) (B λa G=>k a (qk _ G)))
  (λe q _ B k=>.dK ((k _ qm).trans e) q (B λa G=>k a (qk _ G))) (λe q _ B k=>.dT ((k _ qm).trans e) q (B λa G=>k a (qk _ G)))
  (λe r k=>.st ((k _ qm).trans e) (zR.mono h r)) (λ_=>.nil) (λ_ _ a b k=>.cons (a λc J=>k c (qj _ J)) (b λc J=>k c (qi _ J))) r
def zI.mono(h:zF F F')(r:zI K F H v s fp):(∀a∈fp,H' a=H a)->zI K F' H' v s fp:=
 zI.ind (P:=λv s fp=>(∀a∈fp,H' a=H a)->zI K F' H' v s fp) (λ_=>.nil) (λa _ b k=>.cons (aN.mono h a λc B=>k c (qj _ B)) (b λc B=>k c (qi _ B))) r
def aN.frz(h:zF F F')(r:aN K F H v s fp):(∀a∈fp,F' a=H a)->aK K F' v s.toD:=
 aN.rec (motive_1:=λv s fp _=>(∀a∈fp,F' a=H a)->aK K F' v s.toD) (motive_2:=λv s fp _=>(∀a∈fp,F' a=H a)->zR K F' v (S.toDs s))
  (λr _=>aK.mono h r) (λe _ B k=>.lst (bM.of ((k _ qm).trans e)) (B λa G=>k a (qk _ G)))
  (λe q _ B k=>.dK (.of ((k _ qm).trans e)) q (B λa G=>k a (qk _ G))) (λe q _ B k=>.dT (.of ((k _ qm).trans e)) q (B λa G=>k a (qk _ G)))
  (λe r k=>.st ((k _ qm).trans e) (zR.mono h r)) (λ_=>.nil) (λ_ _ a b k=>.cons (a λc J=>k c (qj _ J)) (b λc J=>k c (qi _ J))) r
def zI.frz(h:zF F F')(r:zI K F H v s fp):(∀a∈fp,F' a=H a)->zR K F' v (S.toDs s):=
 zI.ind (P:=λv s fp=>(∀a∈fp,F' a=H a)->zR K F' v (S.toDs s)) (λ_=>.nil) (λa _ b k=>.cons (aN.frz h a λc B=>k c (qj _ B)) (b λc B=>k c (qi _ B))) r
def aN.view(h:zF F H)(r:aN K F H v s fp):aK K H v s.toD:=aN.frz h r λ_ _=>rfl
def aN.in_:∀{v:V}{s:S}{fp:List Addr},aN K F H v s fp->∀a∈fp,∃o,H a=⇑o/\dU o=true:=by
 intro v s fp r;show aN.rec (motive_1:=λv s fp _=>∀a∈fp,∃o,H a=⇑o/\dU o=true) (motive_2:=λv s fp _=>∀a∈fp,∃o,H a=⇑o/\dU o=true) ?_ ?_ ?_ ?_ ?_ ?_ ?_ r
 .intro v d r a B;cases B
 .grind[dU]
 .grind[dU]
 .grind[dU]
 .grind[dU]
 .intro a B;cases B
 grind
inductive zH(K:W.Frag)(F H:Hp):Env->St->List Addr->Prop
 |nil:zH K F H [] [] []
 |no {U:Env} {Z:St} {o:Option V} {fp:List Addr}:zH K F H U Z fp->zH K F H (none::U) (o::Z) fp
 |so {U:Env} {Z:St} {v:V} {s:S} {fp fq:List Addr}:aN K F H v s fp->zH K F H U Z fq->zH K F H (some s::U) (some v::Z) (fp++fq)
def zH.len(r:zH K F H U Z fp):U.length=Z.length:=by
 induction r with
 |nil=>rfl
 |no _ B=>show congrArg (·+1) B
 |so _ _ B=>show congrArg (·+1) B
def zH.mono(h:zF F F')(r:zH K F H U Z fp)(k:∀a∈fp,H' a=H a):zH K F' H' U Z fp:=by
 induction r with
 |nil=>show .nil
 |no _ B=>show .no (B k)
 |so a _ B=>show .so (aN.mono h a λc G=>k c (qj _ G)) (B λc G=>k c (qi _ G))
def zH.in_(r:zH K F H U Z fp):∀a∈fp,∃o,H a=⇑o/\dU o=true:=by
 induction r with
 |nil=>show λa G=>nomatch G
 |no _ B=>show B
 |so q _ B=>show λa G=>(qx.mp G).elim (λz=>aN.in_ q a z) λz=>B a z
def zH.app(r:zH K F H U Z fp)(G:zH K F H U' Z' fq):zH K F H (U++U') (Z++Z') (fp++fq):=by
 induction r with
 |nil=>show G
 |no _ B=>show .no B
 |so a _ B=>rw[qp];show .so a B
inductive yF(K:W.Frag)(F H:Hp)(U:Env)(Z:St)(U':Env)(Z':St)(fp:List Addr):Prop
 |mk (f1 f2:List Addr):fp=f1++f2->zH K F H U Z f1->zH K F H U' Z' f2->yF K F H U Z U' Z' fp
def zH.cut(e:U.length=Z.length)(r:zH K F H (U++U') (Z++Z') fp):yF K F H U Z U' Z' fp:=by
 induction U generalizing Z fp with
 |nil=>cases Z with
  |nil=>show#[[],fp,rfl,.nil,r]
  |cons _ _=>show absurd e.symm (Nat.succ_ne_zero _)
 |cons x U G=>cases Z with
  |nil=>show absurd e (Nat.succ_ne_zero _)
  |cons y Z=>cases r with
   |no r=>let#[J,B,rfl,a,b]:=G (Nat.succ.inj e) r;show#[J,B,rfl,.no a,b]
   |so q r=>let#[J,B,rfl,a,b]:=G (Nat.succ.inj e) r;show#[_,B,(qp ..).symm,.so q a,b]
def jq(K:W.Frag)(F H:Hp)(U:Env)(Z:St)(i:Nat)(G B:List Addr):Prop:=∀{F' H':Hp}{o:Option S}{u:Option V}{fi':List Addr},zF F F'->(∀a∈G++B,H' a=H a)->(zH K F' H' [o] [u] fi')->zH K F' H' (U.set i o) (Z.set i u) (G++(fi'++B))
inductive jr(K:W.Frag)(F H:Hp)(U:Env)(Z:St)(fp:List Addr)(i:Nat)(s:S):Prop
 |mk (v:V) (fa fi fb:List Addr):Z[i]?=some (some v)->fp=fa++(fi++fb)->aN K F H v s fi->jq K F H U Z i fa fb->jr K F H U Z fp i s
inductive yE(K:W.Frag)(F H:Hp)(U:Env)(Z:St)(fp:List Addr)(i:Nat):Prop
 |mk (fa fi fb:List Addr):fp=fa++(fi++fb)->jq K F H U Z i fa fb->yE K F H U Z fp i
def zH.at:∀{U:Env}{Z:St}{fp:List Addr}{i:Nat}{s:S},zH K F H U Z fp->slot U i=⇑s->jr K F H U Z fp i s
 |_,_,_,_,_,.nil,e=>by simp[slot]at e
 |_,_,_,0,_,.no r,e=>by simp at e
 |_,_,_,0,s,.so (fp:=fp) (fq:=fq) q r,e=>by simp at e;subst e;show#[_,[],fp,fq,rfl,rfl,q,λ{F' H' o u J} h k x=>?_];let r':=zH.mono (H':=H') h r λa B=>k a B;show x.app r'
 |_,_,_,i+1,s,.no r,e=>by let#[v,O,L,M,Y,rfl,q,G]:=zH.at r e;show#[v,O,L,M,Y,rfl,q,λh k x=>.no (G h k x)]
 |_,_,_,i+1,s,.so (fp:=fp) (fq:=fq) p r,e=>by let#[v,O,L,M,Y,rfl,q,G]:=zH.at r e;show#[v,fp++O,L,M,Y,(qp ..).symm,q,λ{F' H' o u J} h k x=>?_];rw[qp];show .so (aN.mono h p λa B=>k a (qj _ (qj _ B))) (G h (λa B=>k a ((qx.mp B).elim (λz=>qj _ (qi _ z)) λz=>qi _ z)) x)
def zH.put:∀{U:Env}{Z:St}{fp:List Addr}{i:Nat},zH K F H U Z fp->i<U.length->yE K F H U Z fp i
 |_,_,_,_,.nil,e=>by simp at e
 |_,_,fp,0,.no r,e=>#[[],[],fp,rfl,λ{Y H' o u G} h k x=>x.app (zH.mono (H':=H') h r λa B=>k a B)]
 |_,_,_,0,.so (fp:=fp) (fq:=fq) q r,e=>#[[],fp,fq,rfl,λ{Y H' o u G} h k x=>x.app (zH.mono (H':=H') h r λa B=>k a B)]
 |_,_,_,i+1,.no r,e=>by let#[O,L,M,rfl,J]:=zH.put (i:=i) r ↑e;show#[O,L,M,rfl,λh k x=>.no (J h k x)]
 |_,_,_,i+1,.so (fp:=fp) (fq:=fq) p r,e=>by let#[O,L,M,rfl,J]:=zH.put (i:=i) r ↑e;show#[fp++O,L,M,(qp ..).symm,λ{Y H' o u G} h k x=>?_];rw[qp];show .so (aN.mono h p λa B=>k a (qj _ (qj _ B))) (J h (λa B=>k a ((qx.mp B).elim (λz=>qj _ (qi _ z)) λz=>qi _ z)) x)
inductive mT(K:W.Frag)(U:Env)(Z:St)(F G H:Hp):Prop
 |mk (fp:List Addr):zH K F H U Z fp->fp.Nodup->(∀a∈fp,F a=none/\G a=none)->mT K U Z F G H
structure Rel(K:W.Frag)(U:Env)(Z:St)(F G H:Hp):Prop where
 fr:zF F H
 gr:∀a o,G a=⇑o->(H a=⇑o/\dU o=true)/\F a=none
 en:mT K U Z F G H
def Rel.len(r:Rel K U Z F G H):U.length=Z.length:=let⟨_,e,_,_⟩:=r.en;e.len
def Rel.free(r:Rel K U Z F G H)(h:H p=none):F p=none/\G p=none/\∀fp,zH K F H U Z fp->p∉fp:=by
 show#[?_,?_,λfp e B=>?_]
 .cases q:F p with
  |none=>rfl
  |some o=>rw[r.fr p o q]at h;cases h
 .cases q:G p with
  |none=>rfl
  |some o=>rw[(r.gr p o q).1.1]at h;cases h
 .obtain⟨o,q,_⟩:=e.in_ p B;rw[h]at q;cases q
def zF.upd(h:F p=none):zF F (upd F p o):=λb u e=>by rw[Aj (λz=>by rw[z,h]at e;cases e)];show e
def zF.upd2(h:zF F H):zF (L2.upd F p o) (L2.upd H p o):=λb u e=>by
 by_cases q:b=p
 .subst q;rw[AI]at e⊢;show e
 .rw[Aj q]at e⊢;show h b u e
def zF.updR(h:zF F H)(n:F p=none):zF F (L2.upd H p o):=λb u e=>by rw[Aj (λz=>by rw[z,n]at e;cases e)];show h b u e
def Rel.newF(r:Rel K U Z F G H)(h:H p=none):Rel K U Z (upd F p o) G (upd H p o):=by
 let#[f0,Y,O]:=r.free h;let#[fp,e,M,ap]:=r.en;let J:∀a∈fp,a≠p:=λa B z=>O fp e (z▸B);show#[zF.upd2 r.fr,λa u q=>?_,fp,e.mono (zF.upd f0) λa B=>Aj (J a B),M,λa B=>?_]
 .let L:a≠p:=λz=>by rw[z,Y]at q;cases q
  rw[Aj L,Aj L];show r.gr a u q
 .rw[Aj (J a B)];show ap a B
def Rel.newO(r:Rel K U Z F G H)(h:H p=none)(q:aN K F (upd H p o) (.ref p) s [p]):Rel K (U++[⇑s]) (Z++[⇑(.ref p)]) F G (upd H p o):=by
 let#[Y,O,L]:=r.free h;let#[fp,e,nd,ap]:=r.en;let J:∀a∈fp,a≠p:=λa B z=>L fp e (z▸B);show#[zF.updR r.fr Y,λa u q=>?_,fp++([p]++[]),(e.mono (zF.refl F) λa B=>Aj (J a B)).app (.so q .nil),?_,λa B=>?_]
 .let M:a≠p:=λz=>by rw[z,O]at q;cases q
  rw[Aj M];show r.gr a u q
 .grind
 grind
def Rel.drop(r:Rel K (U++U') (Z++Z') F G H)(h:U.length=Z.length):Rel K U Z F G H:=by let#[M,e,B,ap]:=r.en;let#[L,O,rfl,a,b]:=e.cut h;show#[r.fr,r.gr,L,a,(qw.mp B).1,λc J=>ap c (qj _ J)]
def Rel.hide(r:Rel K (U++U') (Z++Z') F G H)(h:U.length=Z.length):∃Y,Rel K U Z F Y H/\zF G Y/\
  ∀{U2:Env}{Z2:St}{M H2:Hp},zF F M->Rel K U2 Z2 M Y H2->Rel K (U2++U') (Z2++Z') M G H2:=by
 classical
 let#[fp,e,nd,ap]:=r.en;let#[f1,L,rfl,a,b]:=e.cut h;let#[n1,n2,h2]:=qw.mp nd;show#[λx=>if x∈L then H x else G x,#[r.fr,λx o q=>?_,f1,a,n1,λx B=>?_],λx o q=>?_,λ{U2 Z2 M H2} sm O=>?_]
 .by_cases z:x∈L
  .let:=b.in_ x z;grind
  .simp only[z]at q;show r.gr x o q
 .grind
 .grind
 .obtain⟨J,e2,h1,h3⟩:=O.en;let hk:∀x∈L,H2 x=H x/\M x=none/\x∉J:=λx B=>by let#[o,q,_]:=b.in_ x B;let w:=O.gr x o (by simp only[B];show q);grind
  show#[O.fr,λx o q=>?_,J++L,e2.app (b.mono sm λx B=>(hk x B).1),?_,λx B=>?_]
  .let z:x∉L:=λz=>by grind
   show O.gr x o (by simp only[z];show q)
  .grind
  grind
def Rel.weakG(r:Rel K U Z F G' H)(h:zF G G'):Rel K U Z F G H:=by
 let#[L,e,J,ap]:=r.en;show#[r.fr,λa o q=>r.gr a o (h a o q),L,e,J,λa B=>#[(ap a B).1,?_]];cases q:G a with
 |none=>rfl
 |some o=>have:=(ap a B).2;rw[h a o q]at this;cases this
def Rel.swap(h:U.length=Z.length)(h1:U1.length=Z1.length)(r:Rel K (U++(U1++U2)) (Z++(Z1++Z2)) F G H):Rel K (U++(U2++U1)) (Z++(Z2++Z1)) F G H:=by let#[fp,e,M,ap]:=r.en;let#[L,Y,rfl,a,b]:=e.cut h;let#[J,B,rfl,b1,c]:=b.cut h1;let p:(L++(B++J)).Perm (L++(J++B)):=List.Perm.append_left _ qM;show#[r.fr,r.gr,_,a.app (c.app b1),p.nodup_iff.mpr M,λx O=>ap x (p.mem_iff.mp O)]
def Rel.push(r:Rel K U Z F G H)(h:aK K F v d):Rel K (U++[⇑(.sh d)]) (Z++[⇑v]) F G H:=by
 let#[L,e,B,ap]:=r.en;show#[r.fr,r.gr,L++([]++[]),e.app (.so (.sh h) .nil),?_,λx J=>ap x ?_]
 .simpa using B
 .simpa using J
def Rel.pushN(r:Rel K U Z F G H):Rel K (U++[none]) (Z++[u]) F G H:=by
 let#[L,e,B,ap]:=r.en;show#[r.fr,r.gr,L++[],e.app (.no .nil),?_,λx J=>ap x ?_]
 .simpa using B
 .simpa using J
def IC(h:slot U i=⇑s):U[i]?=⇑⇑s:=by
 induction U generalizing i with
 |nil=>simp[slot]at h
 |cons a r B=>cases i with
  |zero=>simp at h;simp[h]
  |succ i=>simp at h;simpa using B h
def Fh(h:slot U i=⇑s):i<U.length:=(qg.mp (IC h)).1
def GD(h:i<U.length):slot (U++U') i=slot U i:=by
 induction U generalizing i with
 |nil=>simp at h
 |cons a r B=>cases i with
  |zero=>rfl
  |succ i=>simpa using B ↑h
def EY:slot (U++o::U') U.length=o:=by
 induction U with
 |nil=>rfl
 |cons a r B=>simpa using B
inductive jl(K:W.Frag)(F H:Hp)(Z:St)(i:Nat)(s:S):Prop
 |mk (v:V) (fp:List Addr):Z[i]?=some (some v)->aN K F H v s fp->jl K F H Z i s
def Rel.at(r:Rel K U Z F G H)(h:slot U i=⇑s):jl K F H Z i s:=by let#[M,e,L,ap]:=r.en;let#[v,Y,B,O,J,_,q,_]:=e.at h;show#[v,B,J,q]
def Rel.give(r:Rel K U Z F G H)(h:slot U i=⇑s):∃v F',Z[i]?=⇑⇑v/\zF F F'/\aK K F' v s.toD/\Rel K (U.set i ⇑(.sh s.toD)) Z F' G H:=by
 classical
 let#[fp,e,nd,ap]:=r.en;let#[v,fa,B,fb,e1,rfl,q,O]:=e.at h;let#[na,Y,h1]:=qw.mp nd;let J:zF F (λx=>if x∈B then H x else F x):=λx o w=>by grind
 let L:aK K (λx=>if x∈B then H x else F x) v s.toD:=q.frz J λx M=>by simp[M,if_true]
 let e2:Z.set i ⇑v=Z:=by apply ext_getElem?;grind
 show#[v,_,e1,J,L,λx o w=>?_,λx o w=>?_,fa++([]++fb),?_,?_,λx M=>?_]
 .by_cases z:x∈B
  .simp only[z]at w;show w
  .simp only[z]at w;show r.fr x o w
 .let w2:=r.gr x o w;grind
 .let:=O (F':=λx=>if x∈B then H x else F x) (H':=H) (o:=⇑(.sh s.toD)) (u:=⇑v) (fi':=[]) J (λ_ _=>rfl) (.so (.sh L) .nil);rw[e2]at this;show this
 .grind
 grind
def Rel.store(r:Rel K (U++[o]) (Z++[u]) F G H)(h:U.length=Z.length)(hi:i<U.length):Rel K (U.set i o) (Z.set i u) F G H:=by
 let#[fp,e,L,ap]:=r.en;let#[f1,f2,rfl,a,b]:=e.cut h;let#[fa,fi,fb,rfl,B]:=a.put hi;let#[Y,n2,O]:=qw.mp L;let#[na,J,M]:=qw.mp Y;show#[r.fr,r.gr,fa++(f2++fb),B (zF.refl F) (λ_ _=>rfl) b,?_,λx hx=>?_]
 .grind
 grind
end FL
namespace FL
open PySem PySem.Spec PyProof.Rows L2
abbrev St:=L2.St
abbrev wp(X:Cx)(pn:List (Addr×Obj))(xe:zu):Cx:={X with pn:=pn,xe:=xe}
def zG:R->Option S
 |.v s=>⇑s
 |.loc _=>none
@[inline]def RV(Z:St)(v:V):R->Prop
 |.v _=>True
 |.loc i=>Z[i]?=⇑⇑v
def nB(Z:St):List V->List R->Prop
 |[],[]=>True
 |v::vs,r::rs=>RV Z v r/\nB Z vs rs
 |_,_=>False
def xM(K:W.Frag)(F:Hp)(d:D)(C:Addr)(dx:Option Addr):Prop:=∃c fs vs,d=.exc c fs vs/\W.nsIn K mainGlobals (#[c.toArray]:Str)=⇑⇑(.ref C)/\mN F dx fs vs
def gy(X:Cx)(F H:Hp)(h:Heap)(u:Value)(d:D):Prop:=∃e C dx,u=.ref e/\xM X.K F d C dx/\hH X [] H h e (.ref C) dx
@[inline]def KP(ks:List Nat)(Z Z':St):Prop:=∀i∈ks,Z'[i]?=Z[i]?
@[inline]def XC(X:Cx)(T:St->Prop)(F G:Hp)(PX:WX):Prop:=∀(d:D)(U':Env)(Z':St)(F' H':Hp)(u:Value)(s':Shared),PX d U'->T Z'->zF F F'->Rel X.K U' Z' F' G H'->Inv X [] Z' H' s'->gy X F' H' s'.heap u d->X.xe u s'
def XC.mono(h:XC X T F G PX)(t:∀Z,T' Z->T Z)(f:zF F F')(g:zF G G'):XC X T' F' G' PX:=
 λd J B M H2 u s' p q L r I x=>h d J B M H2 u s' p (t _ q) (f.trans L) (r.weakG g) I x
def XC.grow(h:XC X T F G PX)(f:zF F F'):XC X T F' G PX:=h.mono (λ_ z=>z) f (zF.refl G)
inductive tW(X:Cx)(w:WE)(Z:St)(H:Hp)(Q:VK):Prop
 |mk (F G:Hp) (U:Env) (P:WQ) (PX:WX) (zV:Rel X.K U Z F G H) (hw:w U P PX) (hok:∀r U' v F' H',P r U'->zF F F'->Rel X.K (U'++[zG r]) (Z++[some v]) F' G H'->RV Z v r->Q v H') (hx:XC X (·=Z) F G PX):tW X w Z H Q
@[inline]def FE(X:Cx)(e:Expr)(w:WE):Prop:=∀(pn:List (Addr×Obj))(xe:zu),PassesOwn (model X.prog X.w) X.A X.env xe->PE (wp X pn xe) e (tW (wp X pn xe) w)
inductive lL(X:Cx)(w:WT)(Z:St)(H:Hp)(Q:Bool->Hp->Prop):Prop
 |mk (F G:Hp) (U:Env) (P:Bool->Env->Prop) (PX:WX) (zV:Rel X.K U Z F G H) (hw:w U P PX) (hok:∀b U' F' H',P b U'->zF F F'->Rel X.K U' Z F' G H'->Q b H') (hx:XC X (·=Z) F G PX):lL X w Z H Q
@[inline]def FT(X:Cx)(e:Expr)(w:WT):Prop:=∀(pn:List (Addr×Obj))(xe:zu),PassesOwn (model X.prog X.w) X.A X.env xe->PT (wp X pn xe) e (lL (wp X pn xe) w)
@[inline]def FW(X:Cx)(e:Expr)(w:WT):Prop:=∀(pn:List (Addr×Obj))(xe:zu),PassesOwn (model X.prog X.w) X.A X.env xe->PW (wp X pn xe) e (lL (wp X pn xe) w)
inductive rP(X:Cx)(w:WA)(Z:St)(H:Hp)(Q:List V->Hp->Prop):Prop
 |mk (F G:Hp) (U:Env) (P:List R->Env->Prop) (PX:WX) (zV:Rel X.K U Z F G H) (hw:w U P PX) (hok:∀rs U' vs F' H',P rs U'->zF F F'->Rel X.K (U'++rs.map zG) (Z++vs.map some) F' G H'->U'.length=Z.length->nB Z vs rs->Q vs H') (hx:XC X (·=Z) F G PX):rP X w Z H Q
@[inline]def FA(X:Cx)(es:List Expr)(w:WA):Prop:=∀(pn:List (Addr×Obj))(xe:zu),PassesOwn (model X.prog X.w) X.A X.env xe->PA (wp X pn xe) es (rP (wp X pn xe) w)
def PE.imp(h:PE X e t)(k:∀Z H Q,t' Z H Q->t Z H Q):PE X e t':=λzT s Z H Q I q=>h zT s Z H Q I (k Z H Q q)
def PT.imp(h:PT X e t)(k:∀Z H Q,t' Z H Q->t Z H Q):PT X e t':=λzT s Z H Q I q=>h zT s Z H Q I (k Z H Q q)
def PW.imp(h:PW X e t)(k:∀Z H Q,t' Z H Q->t Z H Q):PW X e t':=λB zT s Z H Q I q=>h B zT s Z H Q I (k Z H Q q)
def PA.imp(h:PA X e t)(k:∀Z H Q,t' Z H Q->t Z H Q):PA X e t':=λp zT s Z H Q I q=>h p zT s Z H Q I (k Z H Q q)
section
variable{K:W.Frag}
def Rel.mid(r:Rel K (U++o::U') (Z++w::Z') F G H)(h:U.length=Z.length):Rel K (U++U') (Z++Z') F G H:=by let#[fp,e,J,ap]:=r.en;let#[f1,f2,rfl,a,b]:=e.cut h;let#[f2,f3,rfl,b,c]:=zH.cut (U:=[o]) (Z:=[w]) rfl b;let#[Y,O,M]:=qw.mp J;let#[n4,L,n6]:=qw.mp O;show#[r.fr,r.gr,f1++f3,a.app c,qw.mpr #[Y,L,λx B y hy=>M x B y (qi _ hy)],λx B=>ap x ?_];grind
def Ag(r:Rel K (U++[o]) (Z++[w]) F G H):U.length=Z.length:=by let:=r.len;simpa using this
def Mk:(U++o::U').set U.length o'=U++o'::U':=by
 induction U with
 |nil=>rfl
 |cons a r B=>simpa using B
inductive Nd{α:Type}(o:Option α)(k:α->Prop):Prop
 |mk (a:α):o=some a->k a->Nd o k
def Ak(h:zz o k):Nd o k:=by
 cases o with
 |none=>show h.elim
 |some a=>show#[a,rfl,h]
def bF(K:W.Frag)(F H:Hp)(v:V)(d:D):Prop:=aK K F v d\/
 (∃a xs ds,v=.ref a/\d=.lst ds/\H a=⇑(.lst xs)/\zR K F xs ds)\/
 (∃a B ks vs,v=.ref a/\d=.dct false ks vs/\H a=⇑(.dK B)/\ks=B.map (λp=>aY p.1)/\zR K F (B.map (·.2)) vs)\/
 (∃a B ks vs,v=.ref a/\d=.dct true ks vs/\H a=⇑(.dT B)/\ks=B.map (λp=>D.tup (p.1.map aY))/\zR K F (B.map (·.2)) vs)
def bF.mono(h:zF F F')(r:bF K F H v d):bF K F' H v d:=by
 rcases r with r|⟨a,xs,O,L,J,G,r⟩|⟨a,B,ks,vs,L,J,G,M,r⟩|⟨a,B,ks,vs,L,J,G,M,r⟩
 .show .inl (r.mono h)
 .show .inr (.inl #[a,xs,O,L,J,G,r.mono h])
 .show .inr (.inr (.inl #[a,B,ks,vs,L,J,G,M,r.mono h]))
 .show .inr (.inr (.inr #[a,B,ks,vs,L,J,G,M,r.mono h]))
def zI.sh(r:zI K F H xs l fp):l.all S.isSh=true->zR K F xs (l.map S.toD)/\fp=[]:=
 zI.ind (P:=λxs l fp=>l.all S.isSh=true->zR K F xs (l.map S.toD)/\fp=[]) (λ_=>#[.nil,rfl]) (λa _ B h=>by
  rw[all_cons,and_eq_true]at h;let#[q,e]:=B h.2;cases a with
  |sh r=>show#[.cons r q,e]
  |_=>show absurd h.1 (by simp[S.isSh])) r
theorem look(r:Rel K (U++(zG x::U')) (Z++(⇑v::Z')) F G H)(h:U.length=Z.length)(Y:RV Z v x)(e:view x U=⇑d):aK K H v d:=by
 cases x with
 |v s=>
  let#[u,fp,B,q]:=r.at (i:=U.length) (s:=s) EY;rw[h,getElem?_append_right (q9 _)]at B;let O:v=u:=↑B
  subst O;let M:s.toD=d:=qf e;rw[<-M];show q.view r.fr
 |loc i=>
  let J:(slot U i).map S.toD=⇑d:=e;cases q:slot U i with
  |none=>rw[q]at J;cases J
  |some s=>
   rw[q]at J;let M:s.toD=d:=qf J;let hi:=Fh q;let#[u,fp,B,w]:=r.at (i:=i) (s:=s) (by rw[GD hi];show q);rw[getElem?_append_left (h▸hi)]at B;let L:Z[i]?=⇑⇑v:=Y;rw[L]at B;let O:v=u:=↑B
   subst O;rw[<-M];show w.view r.fr
inductive jk(K:W.Frag)(U:Env)(Z:St)(F G H:Hp)(v:V)(d:D):Prop
 |mk (F':Hp):zF F F'->bF K F' H v d->Rel K U Z F' G H->jk K U Z F G H v d
def BA(r:Rel K (U++(zG x::U')) (Z++(⇑v::Z')) F G H)(h:U.length=Z.length)(rv:RV Z v x)(e:zP x U=⇑d):
  jk K (U++U') (Z++Z') F G H v d:=by
 cases x with
 |v s=>
  let#[u,F',B,sm,rp,r']:=r.give (i:=U.length) (s:=s) EY;rw[h,getElem?_append_right (q9 _)]at B;let e2:v=u:=↑B
  subst e2;let e3:s.toD=d:=qf e;rw[show(U++zG (.v s)::U').set U.length ⇑(S.sh s.toD)=U++⇑(S.sh s.toD)::U' from Mk]at r';show#[F',sm,.inl (e3▸rp),r'.mid h]
 |loc i=>
  let e':(match slot U i with|some s=>if s.flat then ⇑s.toD else none|none=>none)=⇑d:=e;cases q:slot U i with
  |none=>rw[q]at e';cases e'
  |some s=>
   let hi:=Fh q;let#[u,fp,B,w]:=r.at (i:=i) (s:=s) (by rw[GD hi];show q);rw[getElem?_append_left (h▸hi)]at B;let Y:Z[i]?=⇑⇑v:=rv;rw[Y]at B;let e2:v=u:=↑B
   subst e2;show#[F,zF.refl F,?_,r.mid h];by_cases O:s.flat=true
   .let e3:s.toD=d:=by grind
    subst e3;cases w with
    |sh r=>show .inl r
    |lst M L=>let#[J,_]:=L.sh O;show .inr (.inl #[_,_,_,rfl,by simp,M,J])
    |dK M k0 L=>let#[J,_]:=L.sh O;show .inr (.inr (.inl #[_,_,_,_,rfl,by simp,M,k0,J]))
    |dT M k0 L=>let#[J,_]:=L.sh O;show .inr (.inr (.inr #[_,_,_,_,rfl,by simp,M,k0,J]))
    |st _ _=>show absurd O (by simp[S.flat])
   grind
inductive jo(K:W.Frag)(L:Prop)(U:Env)(Z:St)(F G H:Hp):Prop
 |mk (F':Hp):zF F F'->L->Rel K U Z F' G H->jo K L U Z F G H
def Ax(r:Rel K (U++(zG x::U')) (Z++(⇑v::Z')) F G H)(h:U.length=Z.length)(rv:RV Z v x)(e:give x U=⇑(s,U1)):
  jo K (U1.length=U.length) (U1++(⇑s::U')) (Z++(⇑v::Z')) F G H:=by
 cases x with
 |v t=>have B:⇑(t,U)=⇑(s,U1):=e;cases B;show#[F,zF.refl F,rfl,r]
 |loc i=>
  let B:(match slot U i with|some s=>⇑(S.sh s.toD,U.set i ⇑(.sh s.toD))|none=>none)=⇑(s,U1):=e;cases q:slot U i with
  |none=>rw[q]at B;cases B
  |some t=>
   rw[q]at B;cases B;let hi:=Fh q;let#[u,Y,M,sm,rp,J]:=r.give (i:=i) (s:=t) (by rw[GD hi];show q);rw[getElem?_append_left (h▸hi)]at M;let L:Z[i]?=⇑⇑v:=rv;rw[L]at M;let e2:v=u:=↑M
   subst e2;rw[List.set_append_left _ _ hi]at J;show#[Y,sm,by simp,?_];let#[fp,en,nd,ap]:=J.en;let hl:(U.set i ⇑(S.sh t.toD)).length=Z.length:=↑h
   let#[f1,O,rfl,a,b]:=en.cut hl;let b':zH K Y H (none::U') (⇑v::Z') O:=b;cases b' with
   |no b=>show#[J.fr,J.gr,f1++([]++O),a.app (.so (.sh rp) b),↑nd,λx hx=>ap x hx]
end
def tW.mono(h:tW X w Z H Q)(k:∀v H',Q v H'->Q' v H'):tW X w Z H Q':=by let#[F,G,U,P,PX,J,O,L,M]:=h;show#[F,G,U,P,PX,J,O,λr B v Y H' a b c d=>k _ _ (L r B v Y H' a b c d),M]
inductive ia(X:Cx)(Z:St)(k:R->R->Env->WQ->WX->Prop)(Q:VK)(v u:V)(H:Hp):Prop
 |mk (F G:Hp) (U:Env) (x y:R) (P:WQ) (PX:WX) (zV:Rel X.K (U++[zG x,zG y]) (Z++[some v,some u]) F G H) (hl:U.length=Z.length) (rx:RV Z v x) (ry:RV Z u y) (hk:k x y U P PX) (hok:∀r U' v F' H',P r U'->zF F F'->Rel X.K (U'++[zG r]) (Z++[some v]) F' G H'->RV Z v r->Q v H') (hx:XC X (·=Z) F G PX):ia X Z k Q v u H
def Fb(h:tW X (λU Q E=>wa U (λx U1=>wb U1 (λy U2=>k x y U2 Q E) E) E) Z H Q):
  tW X wa Z H λv H1=>tW X wb Z H1 λu H2=>ia X Z k Q v u H2:=by
 let#[F,G,U,P,PX,h3,hw,h6,hx]:=h;show#[F,G,U,_,PX,h3,hw,λx U1 v F1 H1 h5 M r1 Y=>?_,hx];let h1:=Ag r1;let#[G1,B,gg,back]:=r1.hide h1;show#[F1,G1,U1,_,PX,B,h5,λy U2 u F2 H2 h4 L r2 O=>?_,hx.mono (λ_ z=>z) M gg];let h2:=Ag r2;let r3:=back L r2;rw[qp,qp]at r3;show#[F2,G,U2,x,y,P,PX,Rel.swap (U1:=[zG y]) (Z1:=[⇑u]) (U2:=[zG x]) (Z2:=[⇑v]) h2 rfl r3,h2,Y,O,h4,λr J v F' H' a b c d=>h6 r J v F' H' a (M.trans (L.trans b)) c d,hx.grow (M.trans L)]
inductive One(X:Cx)(Z:St)(k:R->Env->WQ->WX->Prop)(Q:VK)(v:V)(H:Hp):Prop
 |mk (F G:Hp) (U:Env) (x:R) (P:WQ) (PX:WX) (zV:Rel X.K (U++[zG x]) (Z++[some v]) F G H) (hl:U.length=Z.length) (rx:RV Z v x) (hk:k x U P PX) (hok:∀r U' v F' H',P r U'->zF F F'->Rel X.K (U'++[zG r]) (Z++[some v]) F' G H'->RV Z v r->Q v H') (hx:XC X (·=Z) F G PX):One X Z k Q v H
theorem one(h:tW X (λU Q E=>wa U (λx U1=>k x U1 Q E) E) Z H Q):tW X wa Z H λv H1=>One X Z k Q v H1:=by let#[F,G,U,P,PX,L,hw,O,hx]:=h;show#[F,G,U,_,PX,L,hw,λx U1 v F1 H1 M Y r1 J=>#[F1,G,U1,x,P,PX,r1,Ag r1,J,M,λr B v F' H' a b c d=>O r B v F' H' a (Y.trans b) c d,hx.grow Y],hx]
def OA(hN:X.N[i]?=⇑x)(hv:uQ X.env.scope x)(hd:autoParam ((x==("__debug__":Str))=false) dZ9)(O:autoParam ((x==("__classdict__":Str))=false) dZ9):FE X (.Name x pos) (zv i):=by
 intro pn xe hp;show PE.imp (Hc (X:=wp X pn xe) hN hv hd O) λZ H Q h=>?_;let#[F,G,U,P,PX,B,L,J,hx]:=h;unfold zv at L;cases q:slot U i with
 |none=>rw[q]at L;show L.elim
 |some s=>
  let#[v,fp,M,Y]:=B.at q;rw[q]at L;cases s with
  |sh d=>
   cases Y with
   |sh r=>show#[v,M,J _ _ v F H L (zF.refl F) (B.push r) trivial]
  |lst l=>show#[v,M,J _ _ v F H L (zF.refl F) B.pushN M]
  |dct t a b=>show#[v,M,J _ _ v F H L (zF.refl F) B.pushN M]
  |set l=>show#[v,M,J _ _ v F H L (zF.refl F) B.pushN M]
def DK(h:∀X:Cx,PE X e (tC v))(r:∀K F,aK K F v d):FE X e (wC d):=by intro pn xe O;show PE.imp (h _) λZ H Q h=>?_;let#[F,G,U,P,PX,B,L,J,M]:=h;show J _ _ v F H L (zF.refl F) (B.push (r _ _)) trivial
def Ad:FE X (.Constant (.int i) j pos) (wC (.int i)):=DK (λ_=>MU) λ_ _=>.int i
def En:FE X (.Constant (.bool b) j pos) (wC (.bl b)):=DK (λ_=>MC) λ_ _=>.bl b
def CJ:FE X (.Constant .none j pos) (wC .non):=DK (λ_=>NK) λ_ _=>.non
def AQ(e:x.cps.toList=l)(z:l.length<=16777216):FE X (.Constant (.str x) j pos) (wC (.str l)):=DK (λ_=>OC) λ_ _=>.str e z
def OpR.or(h:OpR X f r)(h':OpR X f G):OpR X f (λx y H Q=>r x y H Q\/G x y H Q):=λzT s Z H x y v u Q I F B q=>q.elim (λz=>h zT s Z H x y v u Q I F B z) λz=>h' zT s Z H x y v u Q I F B z
def gY(K:W.Frag)(r:R2)(op:D->D->Option S):Prop:=∀(Z:St)(U:Env)(F G H:Hp)(x y:V)(p q:D)(s:S)(Q:VK),Rel K U Z F G H->bF K F H x p->bF K F H y q->op p q=⇑s->
 (∀v F' H',zF F F'->Rel K (U++[⇑s]) (Z++[⇑v]) F' G H'->Q v H')->r x y H Q
def EM(ho:∀pn xe,OpR (wp X pn xe) (binaryOp op) r)(hd:gY X.K r o)(ha:FE X a wa)(hb:FE X b wb):FE X (.BinOp a op b pos) (zL o wa wb):=by intro pn xe hp;show PE.imp (MM (ho pn xe) (ha pn xe hp) (hb pn xe hp)) λZ H Q h=>?_;show(Fb (k:=λx y J Q E=>zz (zP x J) λp=>zz (zP y J) λq=>zz (o p q) λs=>Q (.v s) J) h).mono λv H1 h1=>h1.mono λu H2 h2=>?_;let#[F,G,U,x,y,P,PX,O,hl,rx,ry,L,h4,hx]:=h2;let#[p,ep,L]:=Ak L;let#[q,eq,L]:=Ak L;let#[t,et,L]:=Ak L;let#[F1,s1,h3,M]:=BA O hl rx ep;let#[F2,s2,Y,B]:=BA (U':=[]) (Z':=[]) M hl ry eq;rw[qz,qz]at B;show hd Z U F2 G H2 v u p q t Q B (h3.mono s2) Y et λv' F' H' sm r'=>h4 (.v t) U v' F' H' L (s1.trans (s2.trans sm)) r' trivial
def rP.mono(h:rP X w Z H Q)(k:∀v H',Q v H'->Q' v H'):rP X w Z H Q':=by let#[F,G,U,P,PX,J,O,L,M]:=h;show#[F,G,U,P,PX,J,O,λr B v Y H' a b c d e=>k _ _ (L r B v Y H' a b c d e),M]
inductive xR(X:Cx)(Z:St)(k:R->R->Env->(Bool->Env->Prop)->WX->Prop)(Q:Bool->Hp->Prop)(v u:V)(H:Hp):Prop
 |mk (F G:Hp) (U:Env) (x y:R) (P:Bool->Env->Prop) (PX:WX) (zV:Rel X.K (U++[zG x,zG y]) (Z++[some v,some u]) F G H) (hl:U.length=Z.length) (rx:RV Z v x) (ry:RV Z u y) (hk:k x y U P PX) (hok:∀r U' F' H',P r U'->zF F F'->Rel X.K U' Z F' G H'->Q r H') (hx:XC X (·=Z) F G PX):xR X Z k Q v u H
def IE(h:lL X (λU Q E=>wa U (λx U1=>wb U1 (λy U2=>k x y U2 Q E) E) E) Z H Q):
  tW X wa Z H λv H1=>tW X wb Z H1 λu H2=>xR X Z k Q v u H2:=by
 let#[F,G,U,P,PX,h3,hw,h6,hx]:=h;show#[F,G,U,_,PX,h3,hw,λx U1 v F1 H1 h5 M r1 Y=>?_,hx];let h1:=Ag r1;let#[G1,B,gg,back]:=r1.hide h1;show#[F1,G1,U1,_,PX,B,h5,λy U2 u F2 H2 h4 L r2 O=>?_,hx.mono (λ_ z=>z) M gg];let h2:=Ag r2;let r3:=back L r2;rw[qp,qp]at r3;show#[F2,G,U2,x,y,P,PX,Rel.swap (U1:=[zG y]) (Z1:=[⇑u]) (U2:=[zG x]) (Z2:=[⇑v]) h2 rfl r3,h2,Y,O,h4,λr J F' H' a b c=>h6 r J F' H' a (M.trans (L.trans b)) c,hx.grow (M.trans L)]
def bL(K:W.Frag)(r:R2)(op:D->D->Option Bool):Prop:=∀(H:Hp)(x y:V)(p q:D)(k:Bool)(Q:VK),aK K H x p->aK K H y q->op p q=⇑k->Q (.bl k) H->r x y H Q
def Cm{K:W.Frag}(J:Rel K (U++[zG x,zG y]) (Z++[⇑v,⇑u]) F G H)(L:U.length=Z.length)(O:RV Z v x)(M:RV Z u y)(ep:view x U=⇑p)(Y:view y U=⇑q):
  aK K H v p/\aK K H u q/\Rel K U Z F G H:=by
 let B:Rel K (U++[zG y]) (Z++[⇑u]) F G H:=J.mid L;show#[look J L O ep,look (U':=[]) (Z':=[]) B L M Y,B.drop L]
def AO(ho:∀pn xe,OpR (wp X pn xe) (compareOp op) r)(hd:bL X.K r o)(ha:FE X a wa)(hb:FE X b wb)(hm:behindInMarks op b=false):FT X (.Compare a [op] [b] pos) (aS o wa wb):=by intro pn xe Y;show PT.imp (OQ (ho pn xe) (ha pn xe Y) (hb pn xe Y) hm) λZ H Q h=>?_;show(IE (k:=λx y B Q E=>zz (view x B) λp=>zz (view y B) λq=>zz (o p q) λc=>Q c B) h).mono λv H1 h1=>h1.mono λu H2 h2=>?_;let#[F,G,U,x,y,P,PX,M,hl,rx,ry,J,O,hx]:=h2;let#[p,ep,J]:=Ak J;let#[q,eq,J]:=Ak J;let#[t,et,J]:=Ak J;let#[r1,r2,L]:=Cm M hl rx ry ep eq;show hd H2 v u p q t _ r1 r2 et #[t,rfl,O t U F H2 J (zF.refl F) L]
def DS(ho:∀pn xe,OpR (wp X pn xe) (compareOp op) r)(hd:bL X.K r o)(ha:FE X a wa)(hb:FE X b wb)(hm:behindInMarks op b=false):FE X (.Compare a [op] [b] pos) (dM (aS o wa wb)):=by intro pn xe Y;show PE.imp (NY (ho pn xe) (ha pn xe Y) (hb pn xe Y) hm) λZ H Q h=>?_;show(Fb (k:=λx y B Q E=>zz (view x B) λp=>zz (view y B) λq=>zz (o p q) λc=>Q (.v (.sh (.bl c))) B) h).mono λv H1 h1=>h1.mono λu H2 h2=>?_;let#[F,G,U,x,y,P,PX,M,hl,rx,ry,J,O,hx]:=h2;let#[p,ep,J]:=Ak J;let#[q,eq,J]:=Ak J;let#[t,et,J]:=Ak J;let#[r1,r2,L]:=Cm M hl rx ry ep eq;show hd H2 v u p q t _ r1 r2 et (O _ U (.bl t) F H2 J (zF.refl F) (L.push (.bl t)) trivial)
def Pu{K:W.Frag}(r:aK K H v d)(e:fG d=⇑k):uT K v H k:=by
 cases r with
 |non=>show(qf e).symm
 |bl b=>show(qf e).symm
 |int i=>have B:=(qf e).symm;rw[B];show ↥(i≠0)=(i !=0);by_cases h:i=0<;>simp[h]
 |str G z=>
  rename_i x l;let B:=(qf e).symm;let F:x.length=l.length:=by rw[<-G];rfl
  show#[by rw[F];show z,?_];rw[B,F];cases l with
  |nil=>rfl
  |cons a r=>simp;lia
 |tup h r=>show .inr (.inl #[_,bA.of h,?_]);let B:=(qf e).symm;rw[B];cases r<;>rfl
 |lst h r=>show .inl #[_,h,?_];let B:=(qf e).symm;rw[B];cases r<;>rfl
 |dK h k r=>cases e
 |dT h k r=>cases e
 |st h r=>cases e
 |exc h k=>cases e
def Dt(ha:FE X a wa)(he:∀whole,isTrue a X.env whole=(do let v<-whole;standAt a.pos;holding [v] (truthy v)):=by intro _;rfl):FT X a (cN wa):=by intro pn xe hp;show PT.imp (PR (ha pn xe hp) he) λZ H Q h=>?_;let#[F,G,U,P,PX,zV,hw,hok,hx]:=h;show#[F,G,U,_,PX,zV,hw,λx U1 v F1 H1 hk s1 r1 rv1=>?_,hx];let#[p,ep,hk]:=Ak hk;let#[t,et,hk]:=Ak hk;let hl:=Ag r1;show#[t,Pu (look (U':=[]) (Z':=[]) r1 hl rv1 ep) et,hok t U1 F1 H1 hk s1 (r1.drop hl)]
def CU{k:Bool->Env->(Bool->Env->Prop)->WX->Prop}(h:lL X (λU Q E=>ta U (λc U1=>k c U1 Q E) E) Z H Q)
  (hk:∀(c:Bool)(F G:Hp)(U:Env)(P:Bool->Env->Prop)(PX:WX)(H1:Hp),Rel X.K U Z F G H1->k c U P PX->(∀r U' F' H',P r U'->zF F F'->Rel X.K U' Z F' G H'->Q r H')->XC X (·=Z) F G PX->Q' c H1):lL X ta Z H Q':=by
 let#[F,G,U,P,PX,B,Y,J,M]:=h;show#[F,G,U,_,PX,B,Y,λc U1 F1 H1 hp L O=>hk c F1 G U1 P PX H1 O hp (λr U' F' H' a b c=>J r U' F' H' a (L.trans b) c) (M.grow L),M]
def CG(h:FW X a ta):FT X a ta:=λpn xe B=>(h pn xe B).pt
def Hs(h:FT X a ta):FW X (.BoolOp .And [a] pos) ta:=λpn xe B=>OY (h pn xe B)
def Dx(h:FT X a ta):FW X (.BoolOp .Or [a] pos) ta:=λpn xe B=>Nn (h pn xe B)
def Gr{rest:List Expr}(h:FT X a ta)(h':FW X (.BoolOp .And (b::rest) pos) tb):FW X (.BoolOp .And (a::b::rest) pos) (gA ta tb):=λpn xe M=>by
 show PW.imp (Nq (h pn xe M) (h' pn xe M)) λZ H Q q=>?_;show CU (k:=λc B Q E=>if c then tb B Q E else Q false B) q λc F G U P PX H1 J O L Y=>?_;cases c with
 |true=>show#[F,G,U,P,PX,J,O,L,Y]
 |false=>show L false U F H1 O (zF.refl F) J
def Dr{rest:List Expr}(h:FT X a ta)(h':FW X (.BoolOp .Or (b::rest) pos) tb):FW X (.BoolOp .Or (a::b::rest) pos) (eQ ta tb):=λpn xe M=>by
 show PW.imp (ME (h pn xe M) (h' pn xe M)) λZ H Q q=>?_;show CU (k:=λc B Q E=>if c then Q true B else tb B Q E) q λc F G U P PX H1 J O L Y=>?_;cases c with
 |false=>show#[F,G,U,P,PX,J,O,L,Y]
 |true=>show L true U F H1 O (zF.refl F) J
def DV(h:FT X a ta):FT X (.UnaryOp .Not a pos) (cZ ta):=λpn xe M=>by show PT.imp (NA (h pn xe M)) λZ H Q q=>?_;show CU (k:=λc B Q E=>Q (!c) B) q λc F G U P PX H1 J O L Y=>L _ U F H1 O (zF.refl F) J
def Kw(hc:FT X c tc)(ha:FE X a wa)(hb:FE X b wb):FE X (.IfExp c a b pos) (nG tc wa wb):=λpn xe hp=>by
 show PE.imp (Rr (hc pn xe hp) (ha pn xe hp) (hb pn xe hp)) λZ H Q q=>?_;let#[F,G,U,P,PX,O,hw,L,Y]:=q;show#[F,G,U,_,PX,O,hw,λc J F1 H1 hk M r1=>?_,Y];cases c with
 |true=>show#[F1,G,J,P,PX,r1,hk,λr B v F' H' a b c d=>L r B v F' H' a (M.trans b) c d,Y.grow M]
 |false=>show#[F1,G,J,P,PX,r1,hk,λr B v F' H' a b c d=>L r B v F' H' a (M.trans b) c d,Y.grow M]
def Ha{K:W.Frag}{c:Bool}(r:aK K H v (.bl c)):v=.bl c:=by cases r;rfl
def Hm(h:FE X a B):FE X (.BoolOp op [a] pos) B:=λpn xe F=>NT (h pn xe F)
def JB{rest:List Expr}(ha:FE X a wa)(hb:FE X (.BoolOp .And (b::rest) pos) Y):FE X (.BoolOp .And (a::b::rest) pos) (jO wa Y):=λpn xe hp=>by
 show PE.imp (MT (ha pn xe hp) (hb pn xe hp)) λZ H Q q=>?_;show(one (k:=λx B Q E=>match view x B with|some (.bl c)=>if c then Y B Q E else Q (.v (.sh (.bl false))) B|_=>False) q).mono λv H1 h1=>?_;let#[F,G,U,x,P,PX,J,O,rx,M,L,hx]:=h1;split at M
 .rename_i c e;show#[c,Ha (look (U':=[]) (Z':=[]) J O rx e),?_];cases c with
  |true=>show#[F,G,U,P,PX,J.drop O,M,L,hx]
  |false=>show L _ U (.bl false) F H1 M (zF.refl F) ((J.drop O).push (.bl false)) trivial
 .show M.elim
def MB{rest:List Expr}(ha:FE X a wa)(hb:FE X (.BoolOp .Or (b::rest) pos) Y):FE X (.BoolOp .Or (a::b::rest) pos) (rH wa Y):=λpn xe hp=>by
 show PE.imp (MG (ha pn xe hp) (hb pn xe hp)) λZ H Q q=>?_;show(one (k:=λx B Q E=>match view x B with|some (.bl c)=>if c then Q (.v (.sh (.bl true))) B else Y B Q E|_=>False) q).mono λv H1 h1=>?_;let#[F,G,U,x,P,PX,J,O,rx,M,L,hx]:=h1;split at M
 .rename_i c e;show#[c,Ha (look (U':=[]) (Z':=[]) J O rx e),?_];cases c with
  |false=>show#[F,G,U,P,PX,J.drop O,M,L,hx]
  |true=>show L _ U (.bl true) F H1 M (zF.refl F) ((J.drop O).push (.bl true)) trivial
 .show M.elim
def Ab:FA X [] zx:=λpn xe O=>PA.imp MX λZ H Q q=>by let#[F,G,U,P,PX,B,L,J,M]:=q;show J [] U [] F H L (zF.refl F) ↑B B.len trivial
def Aa(ha:FE X e wa)(hb:FA X es wb)(hs:autoParam (starEach (e::es) X.env=(false,eval e X.env)::starEach es X.env) rZ9):FA X (e::es) (zw wa wb):=λpn xe hp=>by
 show PA.imp (NZ (ha pn xe hp) (hb pn xe hp) hs) λZ H Q q=>?_;let#[F,G,U,P,PX,O,hw,h4,hx]:=q;show#[F,G,U,_,PX,O,hw,λx U1 v F1 H1 h3 s1 r1 L=>?_,hx];let h1:=Ag r1;let#[G1,B,gg,back]:=r1.hide h1;show#[F1,G1,U1,_,PX,B,h3,λM U2 vs F2 H2 Y s2 r2 h2 J=>?_,hx.mono (λ_ z=>z) s1 gg];let r3:=back s2 r2;rw[qp,qp]at r3;let hl:(M.map zG).length=(vs.map some).length:=by let:=r2.len;grind
 show h4 (x::M) U2 (v::vs) F2 H2 Y (s1.trans s2) (Rel.swap (U1:=M.map zG) (Z1:=vs.map some) (U2:=[zG x]) (Z2:=[⇑v]) h2 hl r3) h2 #[L,J]
section
variable{K:W.Frag}
def nB.len:∀{vs:List V}{rs:List R},nB Z vs rs->vs.length=rs.length
 |[],[],_=>rfl
 |[],_::_,h=>h.elim
 |_::_,[],h=>h.elim
 |_::vs,_::rs,h=>by simp[nB.len h.2]
def Fz:∀{rs:List R}{vs:List V}{U U' U1:Env}{ss:List S}{F:Hp}{Z':St},Rel K (U++(rs.map zG++U')) (Z++(vs.map some++Z')) F G H->U.length=Z.length->nB Z vs rs->aF rs U=⇑(ss,U1)->
  ∃F',zF F F'/\U1.length=U.length/\ss.length=rs.length/\Rel K (U1++(ss.map some++U')) (Z++(vs.map some++Z')) F' G H
 |[],[],U,U',U1,ss,F,Z',r,h,_,e=>by let B:⇑(([]:List S),U)=⇑(ss,U1):=e;cases B;show#[F,zF.refl F,rfl,rfl,r]
 |[],_::_,_,_,_,_,_,_,_,_,h,_=>h.elim
 |_::_,[],_,_,_,_,_,_,_,_,h,_=>h.elim
 |x::rs,v::vs,U,U',U1,ss,F,Z',r,h,rv,e=>by
  let B:(match give x U with|some (s,U1)=>(match aF rs U1 with|some (ss,U2)=>⇑(s::ss,U2)|none=>none)|none=>none)=⇑(ss,U1):=e;cases q:give x U with
  |none=>rw[q]at B;cases B
  |some p=>
   let#[s,U2]:=p;rw[q]at B;cases J:aF rs U2 with
   |none=>simp only[J]at B;cases B
   |some p2=>
    let#[M,h1]:=p2;simp only[J]at B;cases B;let#[F1,s1,l1,r1]:=Ax (U':=rs.map zG++U') (Z':=vs.map some++Z') r h rv.1 q;let h2:U2.length=Z.length:=l1.trans h;let hl:(rs.map zG++U').length=(vs.map some++Z').length:=by let:=r1.len;rw[qq,qq,qt,qt]at this;lia
    let L:U'.length=Z'.length:=by let:=rv.2.len;simp at hl;lia
    let Y:=Rel.swap (U1:=[⇑s]) (Z1:=[⇑v]) (U2:=rs.map zG++U') (Z2:=vs.map some++Z') h2 rfl r1;rw[qp,qp]at Y;let#[F2,s2,l2,l3,O]:=Fz (rs:=rs) (vs:=vs) Y h2 rv.2 J;let h3:U1.length=Z.length:=l2.trans h2;rw[<-qp (M.map some),<-qp (vs.map some)]at O;let r4:=Rel.swap (U1:=M.map some++U') (Z1:=vs.map some++Z') (U2:=[⇑s]) (Z2:=[⇑v]) h3 (by simp[l3,rv.2.len,L]) O;show#[F2,s1.trans s2,l2.trans l1,by simp[l3],r4]
def Bv:∀{vs:List V}{ss:List S}{fp:List Addr},zH K F H (ss.map some) (vs.map some) fp->zI K F H vs ss fp
 |[],[],_,.nil=>.nil
 |[],_::_,_,h=>nomatch h
 |_::_,[],_,h=>nomatch h
 |v::vs,s::ss,_,.so a b=>.cons a (Bv b)
def Rel.newL(r:Rel K (U++ss.map some) (Z++vs.map some) F G H)(h:U.length=Z.length)(J:H p=none):
  Rel K (U++[⇑(.lst ss)]) (Z++[⇑(.ref p)]) F G (upd H p (.lst vs)):=by
 let#[f0,g0,Y]:=r.free J;let#[fp,e,nd,ap]:=r.en;let L:∀a∈fp,a≠p:=λa B z=>Y fp e (z▸B);let#[f1,f2,rfl,O,M]:=(e.mono (H':=upd H p (.lst vs)) (zF.refl F) λa B=>Aj (L a B)).cut h;show#[zF.updR r.fr f0,λa u q=>?_,f1++((p::f2)++[]),O.app (.so (.lst AI (Bv M)) .nil),?_,λa B=>?_]
 .let J:a≠p:=λz=>by rw[z,g0]at q;cases q
  rw[Aj J];show r.gr a u q
 .grind
 grind
def Rel.giveD{ss:List S}(r:Rel K (U++ss.map some) (Z++vs.map some) F G H)(h:U.length=Z.length):∃F',zF F F'/\zR K F' vs (ss.map S.toD)/\Rel K U Z F' G H:=by
 classical
 let#[fp,e,O,ap]:=r.en;let#[f1,M,rfl,a,b]:=e.cut h;let#[Y,n2,n3]:=qw.mp O;let B:zF F (λx=>if x∈M then H x else F x):=λx o w=>by grind
 let J:=(Bv b).frz B λx L=>by simp[L,if_true]
 rw[S.toDs_map]at J;show#[_,B,J,λx o w=>?_,λx o w=>?_,f1,a.mono B λ_ _=>rfl,Y,λx L=>?_]
 .by_cases z:x∈M
  .simp only[z]at w;show w
  .simp only[z]at w;show r.fr x o w
 .let w2:=r.gr x o w;grind
 grind
end
inductive xZ(X:Cx)(Z:St)(k:List R->Env->WQ->WX->Prop)(Q:VK)(vs:List V)(H:Hp):Prop
 |mk (F G:Hp) (U:Env) (rs:List R) (P:WQ) (PX:WX) (zV:Rel X.K (U++rs.map zG) (Z++vs.map some) F G H) (hl:U.length=Z.length) (rv:nB Z vs rs) (hk:k rs U P PX) (hok:∀r U' v F' H',P r U'->zF F F'->Rel X.K (U'++[zG r]) (Z++[some v]) F' G H'->RV Z v r->Q v H') (hx:XC X (·=Z) F G PX):xZ X Z k Q vs H
theorem many(h:tW X (λU Q E=>wa U (λrs U1=>k rs U1 Q E) E) Z H Q):rP X wa Z H λvs H1=>xZ X Z k Q vs H1:=by let#[F,G,U,P,PX,L,hw,O,hx]:=h;show#[F,G,U,_,PX,L,hw,λrs U1 vs F1 H1 M Y r1 h1 J=>#[F1,G,U1,rs,P,PX,r1,h1,J,M,λr B v F' H' a b c d=>O r B v F' H' a (Y.trans b) c d,hx.grow Y],hx]
def Cr(h:FA X es wa):FE X (.List es pos) (cY wa):=λpn xe O=>by
 show PE.imp (NO (h pn xe O)) λZ H Q q=>?_;show(many (k:=λJ B Q E=>zz (if J.length<=big then aF J B else none) λp=>Q (.v (.lst p.1)) p.2) q).mono λvs H1 h1=>?_;let#[F,G,U,J,P,PX,L,hl,rv,hk,Y,hx]:=h1;let#[#[ss,B],ep,hk]:=Ak hk;by_cases M:J.length<=big
 .rw[qZ M]at ep;let#[F1,s1,l1,l2,r1]:=Fz (U':=[]) (Z':=[]) ↑L hl rv ep;show#[by rw[rv.len];show le_trans M ⋯,λp O=>Y _ B (.ref p) F1 _ hk s1 (Rel.newL ↑r1 (l1.trans hl) O) trivial]
 .rw[q8 M]at ep;cases ep
def Ds(h:FA X es wa):FE X (.Tuple es k pos) (eA wa):=λpn xe L=>by
 show PE.imp (Ou (h pn xe L)) λZ H Q q=>?_;show(many (k:=λJ B Q E=>zz (if J.length<=big then aF J B else none) λp=>Q (.v (.sh (.tup (p.1.map S.toD)))) p.2) q).mono λvs H1 h1=>?_;let#[F,G,U,J,P,PX,M,hl,rv,hk,Y,hx]:=h1;let#[#[ss,B],ep,hk]:=Ak hk;by_cases O:J.length<=big
 .rw[qZ O]at ep;let#[F1,s1,l1,l2,r1]:=Fz (U':=[]) (Z':=[]) ↑M hl rv ep;let#[F2,s2,rp,r2]:=Rel.giveD (U:=B) ↑r1 (l1.trans hl);show#[by rw[rv.len];show le_trans O ⋯,λp L=>?_];let n2:=(r2.free L).1;show Y _ B (.ref p) _ _ hk (s1.trans (s2.trans (zF.upd n2))) ((r2.newF L).push (.tup AI (rp.mono (zF.upd n2)))) trivial
 .rw[q8 O]at ep;cases ep
def KP.refl:KP ks Z Z:=λ_ _=>rfl
def KP.trans(a:KP ks Z Z1)(b:KP ks Z1 Z2):KP ks Z Z2:=λi h=>(b i h).trans (a i h)
inductive yO(X:Cx)(ks:List Nat)(w:WS)(D:L2.Ends)(Z:St)(H:Hp):Prop
 |mk (F G:Hp) (U:Env) (E:Ends) (zV:Rel X.K U Z F G H) (hw:w E U) (n:∀U' Z' F' H',E.nx U'->KP ks Z Z'->zF F F'->Rel X.K U' Z' F' G H'->D.nx Z' H') (b:∀U' Z' F' H',E.bk U'->KP ks Z Z'->zF F F'->Rel X.K U' Z' F' G H'->D.bk Z' H') (c:∀U' Z' F' H',E.ct U'->KP ks Z Z'->zF F F'->Rel X.K U' Z' F' G H'->D.ct Z' H') (r:∀r U' Z' v F' H',E.rt r U'->KP ks Z Z'->zF F F'->Rel X.K (U'++[zG r]) (Z'++[some v]) F' G H'->RV Z' v r->D.rt v H') (hx:XC X (KP ks Z) F G E.ex):yO X ks w D Z H
@[inline]def FS(X:Cx)(ks:List Nat)(st:Stmt)(w:WS):Prop:=∀(pn:List (Addr×Obj))(xe:zu),PassesOwn (model X.prog X.w) X.A X.env xe->PS (wp X pn xe) st (yO (wp X pn xe) ks w)
def kI(X:Cx)(ks:List Nat)(st:List Stmt)(w:WS):Prop:=∀(pn:List (Addr×Obj))(xe:zu),PassesOwn (model X.prog X.w) X.A X.env xe->iJ (wp X pn xe) st (yO (wp X pn xe) ks w)
def PS.imp(h:PS X e t)(k:∀D Z H,t' D Z H->t D Z H):PS X e t':=λzT s Z H D I q=>h zT s Z H D I (k D Z H q)
def iJ.imp(h:iJ X e t)(k:∀D Z H,t' D Z H->t D Z H):iJ X e t':=λzT s Z H D I q=>h zT s Z H D I (k D Z H q)
inductive yP(X:Cx)(ks:List Nat)(g:WG)(v:V)(Z:St)(H:Hp)(Q:St->Hp->Prop):Prop
 |mk (F G:Hp) (U:Env) (s:S) (P:Env->Prop) (zV:Rel X.K (U++[some s]) (Z++[some v]) F G H) (hw:g s U P) (n:∀U' Z' F' H',P U'->KP ks Z Z'->zF F F'->Rel X.K U' Z' F' G H'->Q Z' H'):yP X ks g v Z H Q
@[inline]def FG(X:Cx)(ks:List Nat)(tg:Expr)(g:WG):Prop:=∀(pn:List (Addr×Obj))(xe:zu),PassesOwn (model X.prog X.w) X.A X.env xe->PG (wp X pn xe) tg (yP (wp X pn xe) ks g)
def PG.imp(h:PG X e t)(k:∀v Z H Q,t' v Z H Q->t v Z H Q):PG X e t':=λzT s Z H v u Q I r q=>h zT s Z H v u Q I r (k v Z H Q q)
section
variable{st:Stmt}{rest:List Stmt}
def Bw:kI X ks [] aZ:=λpn xe L=>iJ.imp JJ λD Z H q=>by let#[F,G,U,E,B,J,n,b,c,r,x]:=q;show n U Z F H J KP.refl (zF.refl F) B
def Ai(h1:FS X ks st w1)(h2:kI X ks rest w2):kI X ks (st::rest) (zM w1 w2):=λpn xe Y=>iJ.imp (Qg (h1 pn xe Y) (h2 pn xe Y)) λD Z H q=>by
 obtain⟨F,G,U,E,h4,hw,n,b,c,r,x⟩:=q;show#[F,G,U,{E with nx:=w2 E},h4,hw,λh3 h6 F1 H1 Y k O r1=>?_,b,c,r,x];exact⟨F1,G,h3,E,r1,Y,λJ B M H' h L s r=>n J B M H' h (k.trans L) (O.trans s) r,λJ B M H' h L s r=>b J B M H' h (k.trans L) (O.trans s) r,
  λJ B M H' h L s r=>c J B M H' h (k.trans L) (O.trans s) r,λa J B v M H' h L s q rv=>r a J B v M H' h (k.trans L) (O.trans s) q rv,x.mono (λh5 L=>k.trans L) O (zF.refl G)⟩
def Al(h1:FS X ks st B):kI X ks [st] B:=λpn xe F=>Kl (h1 pn xe F)
def Dw(h:FE X e Y)(hs:autoParam (swapsWith e none pos.line X.env=pure false) rZ9):FS X ks (.Expr e pos) (wExpr Y):=λpn xe L=>PS.imp (OE (h pn xe L) hs) λD Z H q=>by let#[F,G,U,E,J,hw,n,b,c,r,x]:=q;show#[F,G,U,_,_,J,hw,λa B v F1 H1 L s1 M rv=>n B Z F1 H1 L KP.refl s1 (M.drop (Ag M)),x.mono (λO z=>by rw[z];show KP.refl) (zF.refl F) (zF.refl G)]
def Aw(h:FE X e O):FS X ks (.Return ⇑e pos) (aV O):=λpn xe L=>PS.imp (NR (h pn xe L)) λD Z H q=>by let#[F,G,U,E,J,hw,n,b,c,r,x]:=q;show#[F,G,U,_,_,J,hw,λa B v F1 H1 L Y r1 rv=>r a B Z v F1 H1 L KP.refl Y r1 rv,x.mono (λM z=>by rw[z];show KP.refl) (zF.refl F) (zF.refl G)]
def Bg(hc:FT X c tc)(ha:kI X ks a w1)(hb:kI X ks b w2):FS X ks (.If c a b pos) (eS tc w1 w2):=λpn xe O=>PS.imp (MJ (hc pn xe O) (ha pn xe O) (hb pn xe O)) λD Z H q=>by
 obtain⟨F,G,U,E,h1,hw,n,b,c,r,x⟩:=q;show#[F,G,U,_,_,h1,hw,λk Y F1 H1 O s1 r1=>?_,x.mono (λh2 z=>by rw[z];show KP.refl) (zF.refl F) (zF.refl G)];let go:∀w:WS,w E Y->yO (wp X pn xe) ks w D Z H1:=λw hw=>⟨F1,G,Y,E,r1,hw,λJ B M H' h L s r=>n J B M H' h L (s1.trans s) r,λJ B M H' h L s r=>b J B M H' h L (s1.trans s) r,
  λJ B M H' h L s r=>c J B M H' h L (s1.trans s) r,λa J B v M H' h L s q rv=>r a J B v M H' h L (s1.trans s) q rv,x.grow s1⟩
 cases k with
 |true=>show go _ O
 |false=>show go _ O
def As(he:FE X e we)(hg:FG X ks tg g)(hs:autoParam (swapsWithSole [tg] e pos.line X.env=pure false) rZ9)(M:autoParam (swappedStores [tg] e X.env=pure none) rZ9)
  (h1:autoParam ((assignEach [tg] X.env).map (·.2)=[assign tg X.env]) rZ9):FS X ks (.Assign [tg] e pos) (zO g we):=λpn xe B=>PS.imp (Jg (he pn xe B) (hg pn xe B) hs M h1) λD Z H q=>by
 let#[F,G,U,E,L,M,n,b,c,r,x]:=q;show#[F,G,U,_,_,L,M,λa h2 v F1 H1 B s1 O rv=>?_,x.mono (λY z=>by rw[z];show KP.refl) (zF.refl F) (zF.refl G)];let#[#[s,J],eg,hk]:=Ak B;let#[F2,s2,l2,r2]:=Ax (U':=[]) (Z':=[]) O (Ag O) rv eg;show#[F2,G,J,s,_,r2,hk,λU' Z' F' H' h k' s r=>n U' Z' F' H' h k' (s1.trans (s2.trans s)) r]
end
def LD(I:Inv X zT Z H s)(hN:∀j,X.N[j]?=⇑x->j=i)(hi:X.N[i]?=⇑x)(L:Loc X.env.scope x)(r:zJ v u)
  (h:∀s',Inv X zT (Z.set i ⇑v) H s'->(∃a,Heap.SameBut a s.heap s'.heap/\(a=X.env.locals\/X.env.cells.lookup x=⇑a))->Q () s')(hf:X.fn x=true\/X.env.scope.names.lookup x=⇑.local):wpAny M A (storeName X.env x u) Q E s:=by
 let#[m,hn,hl]:=id I.loc;let h5:(X.env.scope.kind==.class||(X.env.scope.kind==.module&&X.env.locals !=X.env.globals))=false:=by rw[I.ok.kind];rfl
 let h1:i<Z.length:=by rw[I.len];show(qg.mp hi).1
 have cne:=I.cne;let F:∀{a:Addr}{h':Heap},(∃o,s.heap.get? a=⇑o/\H a=none)->Heap.SameBut a s.heap h'->dI X.prog X.w H h':=λ{a h'} ha B b ob e=>by
  let#[_,_,O]:=ha;show(I.hok b ob e).stay (λc w' J q=>(B.2 c ?_).trans q) (λ_ q=>q) λ_ _ q=>q;rintro rfl;rcases J with rfl|J
  .rw[O]at e;cases e
  .rw[O]at J;cases J
 rcases L with hk|hk
 .refine wpAny_storeName_local hk hn (λh' h9 B=>?_) h5;let#[oL,_,_,h8,_]:=id hn;refine h _ #[I.ok,I.os,I.bare,#[λb o e n hb L=>?_,λb o e n hb L=>?_,I.base.free,λb o e L=>?_,I.base.tups,I.base.frzs,I.base.tbls],#[_,h9,λj y v' G Y e3=>?_],λy c e=>?_,I.free,I.freeC,λp hp=>?_,F #[oL,h8,I.free] B,↑I.len] #[_,B,.inl rfl]
  .show(B.2 b (ne_of_lt (lt_of_lt_of_le (qe e) I.ok.above))).trans (I.base.keep b o e n hb L)
  .obtain⟨sl,G⟩:=I.base.slot b o e n hb L;show#[sl,(B.2 b (ne_of_lt (lt_of_lt_of_le (qe e) I.ok.above))).trans G]
  .obtain⟨o',G⟩:=I.base.there b o e L;show#[o',(B.2 b (ne_of_lt (lt_of_lt_of_le (qe e) I.ok.above))).trans G]
  .by_cases hj:j=i
   .subst hj;rw[hi]at G;cases G;rw[getElem?_set_self h1]at Y;cases Y;show#[u,r,.inl #[hk,by simp]]
   .rw[getElem?_set_ne (Ne.symm hj)]at Y;let#[u',r',q]:=hl j y v' G Y e3;show#[u',r',?_];rcases q with⟨k,e⟩|⟨k,c,e,z⟩
    .show .inl #[k,?_];let:y≠x:=λe=>hj (hN j (e▸G));simp[this,e]
    .show .inr #[k,c,e,z.sameBut B (cne y c e)]
  .obtain⟨w',z⟩:=I.cell y c e;show#[w',z.sameBut B (cne y c e)]
  .obtain⟨e,n,ne,nf,d⟩:=I.pin p hp;show#[(B.2 p.1 ne).trans e,n,ne,nf,d]
 .have h2:X.fn x=true:=by
   rcases hf with z|z
   .show z
   .rw[z]at hk;cases hk
  let#[c,J]:=I.ok.has x (.inl hk);let#[w',z]:=I.cell x c J;show wpAny_storeName_cell I.ok.kind hk J z (λh' h7 B=>?_);let#[oc,h4,h3]:=id z;show h {s with heap:=h'} ⟨I.ok,I.os,I.bare,⟨λb o e n hb L=>?_,λb o e n hb L=>?_,I.base.free,λb o e L=>?_,I.base.tups,I.base.frzs,I.base.tbls⟩,⟨m,hn.sameBut B (Ne.symm (cne x c J)),λj y v' G Y e3=>?_⟩,λy c' e=>?_,I.free,I.freeC,λp hp=>?_,F ⟨oc,h4,I.freeC x c J⟩ B,↑I.len⟩ #[c,B,.inr J]
  .show(B.2 b (ne_of_lt (lt_of_lt_of_le (qe e) (I.ok.cab x c h2 J)))).trans (I.base.keep b o e n hb L)
  .obtain⟨sl,G⟩:=I.base.slot b o e n hb L;show#[sl,(B.2 b (ne_of_lt (lt_of_lt_of_le (qe e) (I.ok.cab x c h2 J)))).trans G]
  .obtain⟨o',G⟩:=I.base.there b o e L;show#[o',(B.2 b (ne_of_lt (lt_of_lt_of_le (qe e) (I.ok.cab x c h2 J)))).trans G]
  .by_cases hj:j=i
   .subst hj;rw[hi]at G;cases G;rw[getElem?_set_self h1]at Y;cases Y;show#[u,r,.inr #[.inl hk,c,J,h7]]
   .rw[getElem?_set_ne (Ne.symm hj)]at Y;let#[u',r',q]:=hl j y v' G Y e3;show#[u',r',?_];rcases q with q|⟨k,c',e,z'⟩
    .show .inl q
    .show .inr #[k,c',e,z'.sameBut B ?_];rintro rfl;show hj (hN j (I.ok.inj _ _ _ e J▸G))
  .by_cases h6:c'=c
   .subst h6;show#[_,h7]
   .obtain⟨w2,z2⟩:=I.cell y c' e;show#[w2,z2.sameBut B h6]
  .obtain⟨e,n,ne,nf,d⟩:=I.pin p hp;show#[(B.2 p.1 ?_).trans e,n,ne,nf,d];intro q;rw[q,h4]at e;let q':oc=p.2:=qf e;show d w' (by rw[<-q'];show h3)
def KP.set(h:i∉ks):KP ks Z (Z.set i u):=λj B=>getElem?_set_ne (λ(z:i=j)=>h (z▸B))
def Kn(hk:i∉ks)(hN:∀j,X.N[j]?=⇑x->j=i)(hi:X.N[i]?=⇑x)(O:Loc X.env.scope x)(hf:X.fn x=true\/X.env.scope.names.lookup x=⇑.local):FG X ks (.Name x pos) (zy i):=by
 intro pn xe hp zT s Z H v u Q I M q;let#[F,G,U,t,P,B,Y,n]:=q;let L:=Ag B;let J:i<U.length:=by rw[L,I.len];show(qg.mp hi).1
 show wpAny_assign_Name (LD (X:=wp X pn xe) I hN hi O M (λs' I' _=>#[_,H,I',n _ _ F H Y (KP.set hk) (zF.refl F) (B.store L J)]) hf)
inductive vP(X:Cx)(ks:List Nat)(gs:List WG)(vs:List V)(Z:St)(H:Hp)(Q:St->Hp->Prop):Prop
 |mk (F G:Hp) (U:Env) (ds:List D) (P:Env->Prop) (zV:Rel X.K U Z F G H) (rp:zR X.K F vs ds) (hw:dD gs ds U P) (n:∀U' Z' F' H',P U'->KP ks Z Z'->zF F F'->Rel X.K U' Z' F' G H'->Q Z' H'):vP X ks gs vs Z H Q
def aa(X:Cx)(ks:List Nat)(tg:List Expr)(g:List WG):Prop:=∀(pn:List (Addr×Obj))(xe:zu),PassesOwn (model X.prog X.w) X.A X.env xe->xX (wp X pn xe) tg (vP (wp X pn xe) ks g)
def DR:aa X ks [] []:=λpn xe O zT s Z H vs L Q I r q=>by
 let#[F,G,U,Y,P,B,M,J,n]:=q;show Qr zT s Z H vs L Q I r ?_;cases M with
 |nil=>show#[rfl,n U Z F H J KP.refl (zF.refl F) B]
 |cons a b=>show J.elim
def Bh(h1:FG X ks e g)(h2:aa X ks es gs)
  (hs:autoParam ((assignEach (e::es) X.env).map (·.2)=assign e X.env::(assignEach es X.env).map (·.2)) rZ9):aa X ks (e::es) (g::gs):=λpn xe B zT s Z H vs us Q I r q=>by
 let#[F,G,U,ds,P,O,rp,hw,n]:=q;show QZ (X:=wp X pn xe) (h1 pn xe B) (h2 pn xe B) hs zT s Z H vs us Q I r ?_;cases rp with
 |nil=>show hw.elim
 |cons a b=>show#[_,_,rfl,F,G,U,_,_,O.push a,hw,λL h3 F1 H1 B k Y r1=>#[F1,G,L,_,P,r1,b.mono Y,B,λM J F' H' h k' s r=>n M J F' H' h (k.trans k') (Y.trans s) r]]
def zR.len{K:W.Frag}(r:zR K F xs ds):xs.length=ds.length:=zR.ind (P:=λxs ds=>xs.length=ds.length) rfl (λ_ _ B=>congrArg (·+1) B) r
def DY(hc:X.calm=true)(h:aa X ks es L)(hn:autoParam ((assignEach es X.env).length=L.length) rZ9)(Y:autoParam ((assignEach es X.env).findIdx? (·.1)=none) rZ9):FG X ks (.Tuple es k pos) (cK L):=λpn xe hp=>by
 show PG.imp (NJ (X:=wp X pn xe) hc (h pn xe hp) hn Y) λv Z H Q q=>?_;let#[F,G,U,s,P,J,hw,n]:=q;let#[F1,s1,rp,r1]:=Rel.giveD (U:=U) (vs:=[v]) (ss:=[s]) J (Ag J);cases rp with
 |cons a b=>
  let B:(match s.toD with|.tup ds=>ds.length=L.length/\dD L ds U P|_=>False):=hw;generalize s.toD=d at a B;cases a with
  |tup e r=>show#[_,_,rfl,bA.of (r1.fr _ _ e),by rw[r.len];show B.1,F1,G,U,_,P,r1,r,B.2,λO M F' H' h k' s r=>n O M F' H' h k' (s1.trans s) r]
  |_=>show B.elim
def fZ(K:W.Frag)(J:It)(l:List D)(B:Hp):Prop:=∀(i:Nat)(U:Env)(Z:St)(F G H:Hp),zF B F->Rel K U Z F G H->
 (∀d,l[i]?=⇑d->J.go i H/\∀x H',J.yld i H x H'->∃F',zF F F'/\Rel K U Z F' G H'/\aK K F' x d)/\(l.length<=i->J.stop i H)
inductive ip(X:Cx)(wi:WI)(Z:St)(H:Hp)(R:It->Hp->Prop):Prop
 |mk (F G:Hp) (U:Env) (P:List D->Env->Prop) (PX:WX) (zV:Rel X.K U Z F G H) (hw:wi U P PX) (hok:∀l U' F' H' J,P l U'->zF F F'->Rel X.K U' Z F' G H'->fZ X.K J l F'->R J H') (hx:XC X (·=Z) F G PX):ip X wi Z H R
@[inline]def FI(X:Cx)(tg iter:Expr)(B:WI):Prop:=∀(pn:List (Addr×Obj))(xe:zu),PassesOwn (model X.prog X.w) X.A X.env xe->PI (wp X pn xe) tg iter (ip (wp X pn xe) B)
def PI.imp(h:PI X tg e t)(k:∀Z H R,t' Z H R->t Z H R):PI X tg e t':=λzT s Z H R I q=>h zT s Z H R I (k Z H R q)
def zR.get{K:W.Frag}{i:Nat}(r:zR K F xs ds)(h:ds[i]?=⇑d):∃x,xs[i]?=⇑x/\aK K F x d:=
 zR.ind (P:=λxs ds=>∀i d,ds[i]?=⇑d->∃x,xs[i]?=⇑x/\aK K F x d) (λ_ _ e=>by cases e) (λa _ B i d e=>by
  cases i with
  |zero=>cases e;show#[_,rfl,a]
  |succ i=>show B i d e) r i d h
section
variable{K:W.Frag}
def Ls(e:bM K F0 a xs)(r:zR K F0 xs l):fZ K (yC K a) l F0:=λi U Z F G H M B=>by let L:bM K H a xs:=bM.mono (M.trans B.fr) e;show#[λd hd=>?_,λh=>#[xs,L,by rw[r.len];show h]];let#[x,O,Y]:=r.get hd;show#[#[xs,x,L,O],λy H' J=>?_];let#[rfl,J]:=J;let:x=y:=qf (O.symm.trans (J xs L));subst this;show#[F,zF.refl F,B,Y.mono M]
def Rm(e:bA K F0 a xs)(r:zR K F0 xs l):fZ K (ig K a) l F0:=λi U Z F G H M B=>by let L:bA K H a xs:=bA.mono (M.trans B.fr) e;show#[λd hd=>?_,λh=>#[xs,L,by rw[r.len];show h]];let#[x,O,Y]:=r.get hd;show#[#[xs,x,L,O],λy H' J=>?_];let#[rfl,J]:=J;let:x=y:=qf (O.symm.trans (J xs L));subst this;show#[F,zF.refl F,B,Y.mono M]
def TK{lo:Int}(h:(fromTo lo n)[i]?=⇑d):i<n/\d=.int (lo+i):=by
 unfold fromTo at h;rw[qE]at h;by_cases hi:i<n
 .rw[List.getElem?_range hi]at h;show#[hi,(qf h).symm]
 .rw[qP ↑hi]at h;cases h
def Te{lo:Int}:fZ K (zZ lo n) (fromTo lo n) F0:=λi U Z F G H M B=>by
 show#[λd L=>?_,λh=>?_]
 .obtain⟨hi,rfl⟩:=TK L;show#[hi,λx H' J=>?_];let#[rfl,rfl]:=J;show#[F,zF.refl F,B,.int _]
 .let:n<=i:=by simpa[fromTo] using h
  show this
end
def vK(x:Str):It:=#[λi _=>i<x.cps.size,λi H v H'=>H'=H/\∃c,x.cps[i]?=⇑c/\v=.str #[[c].toArray],λi _=>x.cps.size<=i]
def QG{P:Program}{w:World}{K:W.Frag}{tg:Expr}(it:Addr)(x:Str)(t:Tok)(ty:String)(hty:ty="str_ascii_iterator"\/ty="str_iterator"):iI P w K tg (vK x) [it] it (λi h=>h.IsStrIter it ty x t i) where
 mem:=m1
 obj:=λi h st b hb=>by
  let e:b=it:=↑hb
  subst e;let#[o,e,c,d]:=st;show#[o,e,λv z=>by rw[d]at z;cases z]
 keep:=λi h h' st k=>by let#[o,e,r]:=st;show#[o,k it (m1) o e,r]
 item:=by
  intro X hP hw hK hc i zT s Z H E I hf st hg;subst hP hw hK;let#[f0,f1,f2,f3,f4,f5]:=hf it (m1);let W:Walks X.prog X.w X.A it [it] [it] x.cps.size (SignAt x) (λi h=>h.IsStrIter it ty x t i):=by
   rcases hty with rfl|rfl
   .show Walks.strAscii (I.ok.hd hc) it x t
   .show Walks.strWide (I.ok.hd hc) it x t
  show W.item i s _ _ hg st λv h' tk hv st' kk=>?_;let#[c,u,e1,rfl]:=hv;let I1:Inv X zT Z H {s with heap:=h',toks:=tk}:=I.turned (λb o hb e=>kk b o ↑hb e) f0 f1 f3 f4 f5;let#[o,e,cl,d]:=id st';show#[_,rfl,Gg (s:={s with heap:=h',toks:=tk}) e cl d (by rcases hty with rfl|rfl<;>decide) ⟨.str ⟨[c].toArray⟩,H,I1,⟨u,rfl⟩,⟨rfl,c,e1,rfl⟩,st',λb hb=>(hf b hb).1⟩]
 done:=by
  intro X hP hw hK hc i zT s Z H E I hf st hg;let#[f0,f1,f2,f3,f4,f5]:=hf it (m1);let hn:x.cps[i]?=none:=by let:x.cps.size<=i:=hg;simp[this]
  rcases hty with rfl|rfl
  .show wpAny_pyNext_ascii_end (I.ok.hd hc) st hn λh' eb=>#[rfl,I.turned (t':=s.toks) (λb o hb e=>eb b o hb e) f0 f1 f3 f4 f5]
  .show wpAny_pyNext_wide_end (I.ok.hd hc) st hn λh' eb=>#[rfl,I.turned (t':=s.toks) (λb o hb e=>eb b o hb e) f0 f1 f3 f4 f5]
 self:=λA i s Q E st h=>by
  rcases hty with rfl|rfl
  .show wpAny_pyIter_striter_ascii st h
  .show wpAny_pyIter_striter_wide st h
def gm(K:W.Frag)(B:TE):TI:=λZ H R=>B Z H λv H1=>(∃a,v=.ref a/\(∃xs,bM K H1 a xs)/\R (yC K a) H1)\/(∃a,v=.ref a/\(∃xs,bA K H1 a xs)/\R (ig K a) H1)\/∃x,v=.str x/\R (vK x) H1
def Ow(hl:PE X l tl):PI X tg l (gm X.K tl):=by
 intro zT s Z H R I h;show Af (hl zT s Z H _ I h) λv B zq=>?_;let#[y,H1,F,O,q1]:=zq;rcases q1 with⟨a,e,⟨xs,hq⟩,q⟩|⟨a,e,⟨xs,hq⟩,q⟩|⟨x,e,q⟩
 .subst e;cases O;let#[J,rv,p,hz]:=F.list hq;show wpAny_pyIter_list p.isList ?_;show#[B.heap.objs.size,[B.heap.objs.size],_,_,H1,rfl,F.kept (t':=B.toks) λb o e=>qc _ e,Sm a _,#[_,qd _ rfl,rfl,rfl],λb L=>?_,q];let e:b=B.heap.objs.size:=by simpa using L
  subst e;show F.fpOk (q9 _) (F.hok.fresh (q9 _))
 .subst e;cases O;let#[J,rv,p,hz]:=F.tuple hq;show wpAny_pyIter_tuple (show B.heap.IsTuple a J.toArray from p) ?_;show#[B.heap.objs.size,[B.heap.objs.size],_,_,H1,rfl,F.kept (t':=B.toks) λb o e=>qc _ e,To a _,#[_,qd _ rfl,rfl,rfl],λb L=>?_,q];let e:b=B.heap.objs.size:=by simpa using L
  subst e;show F.fpOk (q9 _) (F.hok.fresh (q9 _))
 .subst e;let#[t,rfl]:=O;let M:∀(G:String)(o:Obj),(G="str_ascii_iterator"\/G="str_iterator")->o.cls=.type G->o.data=.fields [.str x t,.int 0 0].toArray->o.isFreed=false->xW X zT Z tg R (.ref B.heap.objs.size) {B with heap:=B.heap.push o}:=λG o Y hc hd hf=>by
   show#[B.heap.objs.size,[B.heap.objs.size],_,_,H1,rfl,F.kept (t':=B.toks) λb o e=>qc _ e,QG _ x t G Y,#[_,qd _ hf,hc,hd],λb L=>?_,q];let e:b=B.heap.objs.size:=↑L
   subst e;show F.fpOk (q9 _) (F.hok.fresh (q9 _))
  cases ha:x.cps.all (·<128)
  .show wpAny_pyIter_wide ha (M "str_iterator" _ (.inr rfl) rfl rfl rfl)
  .show wpAny_pyIter_ascii ha (M "str_ascii_iterator" _ (.inl rfl) rfl rfl rfl)
section
variable{K:W.Frag}
def Kv(e:x.cps.toList=l):fZ K (vK x) (l.map λc=>.str [c]) F0:=λi U Z F G H sm J=>by
 let M:x.cps.size=l.length:=by rw[<-e];simp
 show#[λd B=>?_,λh=>by show x.cps.size<=i;rw[M];simpa using h];rw[qE]at B;cases q:l[i]? with
 |none=>rw[q]at B;cases B
 |some c=>
  rw[q]at B;let L:D.str [c]=d:=qf B;let hi:i<l.length:=(qg.mp q).1;let hx:x.cps[i]?=⇑c:=by rw[<-qY,e];show q
  show#[by show i<x.cps.size;rw[M];show hi,λy H' Y=>?_];let#[rfl,c',O,rfl]:=Y;rw[hx]at O;let:c=c':=qf O;subst this;rw[<-L];show#[F,zF.refl F,J,.str rfl (by show 1<=_;decide)]
def DZ(h:FE X e we):FI X tg e (dA we):=λpn xe hp=>by
 show PI.imp (Ow (h pn xe hp)) λZ H R q=>?_;let#[F,G,U,P,PX,h1,hw,L,hx]:=q;show#[F,G,U,_,PX,h1,hw,λr h2 v F1 H1 M s1 r1 rv=>?_,hx];let#[#[s,J],eg,M]:=Ak M;let#[l,el,M]:=Ak M;let#[F2,s2,l2,r2]:=Ax (U':=[]) (Z':=[]) r1 (Ag r1) rv eg;let#[F3,s3,rp,O]:=Rel.giveD (U:=J) (vs:=[v]) (ss:=[s]) r2 (Ag r2);let Y:=s1.trans (s2.trans s3);cases rp with
 |cons a b=>
  let B:items s.toD=⇑l:=el;generalize s.toD=d at a B;cases a with
  |lst e r=>have:l=_:=(qf B).symm;subst this;show .inl #[_,rfl,#[_,bM.mono O.fr e],L _ J F3 H1 _ M Y O (Ls e r)]
  |tup e r=>have:l=_:=(qf B).symm;subst this;show .inr (.inl #[_,rfl,#[_,bA.of (O.fr _ _ e)],L _ J F3 H1 _ M Y O (Rm (bA.of e) r)])
  |str e z=>have:l=_:=(qf B).symm;subst this;show .inr (.inr #[_,rfl,L _ J F3 H1 _ M Y O (Kv e)])
  |_=>cases B
def Ey(hg:Gl X "range")(hm:X.mg "range"=none)(ha:FE X a we)(hs:autoParam (starEach [a] X.env=[(false,eval a X.env)]) rZ9):FI X tg (.Call (.Name "range" p) [a] [] pos) (bY we):=λpn xe hp=>by
 show PI.imp (RP (X:=wp X pn xe) hg hm (Aa ha Ab hs pn xe hp) hs) λZ H R q=>?_;let#[F,G,U,P,PX,Y,hw,h3,hx]:=q;show#[F,G,U,λO J=>match O with|[r]=>(match view r J with|some (.int j)=>(-big<=j/\j<=big)/\P (fromTo 0 j.toNat) J|_=>False)|_=>False,PX,Y,hw,λO J vs F1 H1 B s1 M hl L=>?_,hx];match O,vs,L,M,B with
 |[r],[v],L,M,B=>
  dsimp only at B;split at B
  .rename_i j ej;let rp:=look (U':=[]) (Z':=[]) M hl L.1 ej;cases rp;let#[#[h1,h2],B]:=B;let eb:(big:Int)=1000000:=rfl;show#[j,rfl,∅,∅,h3 _ J F1 H1 _ B s1 ((show Rel X.K (J++[zG r]) (Z++[⇑(.int j)]) F1 G H1 from M).drop hl) Te]
  .show B.elim
 |[],_,_,_,B=>show B.elim
 |[_],[],L,_,_=>show L.elim
 |[_],_::_::_,L,_,_=>show L.2.elim
 |_::_::_,_,_,_,B=>show B.elim
end
def DW(hc:X.calm=true)(hi:FI X tg iter wi)(hg:FG X ks tg g)(hb:kI X ks body wb)(hs:∀x,foldedSetIterable iter X.env x=pure x:=by intro _;rfl):FS X ks (.For tg iter body [] pos) (fV wi g wb):=λpn xe hp=>by
 show PS.imp (Oo (X:=wp X pn xe) hp hc (hi pn xe hp) (hg pn xe hp) (hb pn xe hp) hs) λD Z H q=>?_;let#[F,G,U,E,h9,hw,n,b,c,r,x]:=q;show#[F,G,U,_,_,h9,hw,λl h7 F1 H1 J hk s1 r1 it=>?_,x.mono (λL z=>by rw[z];show KP.refl) (zF.refl F) (zF.refl G)];show#[λi m L H2=>m=l.length-i/\i<=l.length/\∃F2 U2,KP ks Z L/\zF F1 F2/\Rel X.K U2 L F2 G H2/\bS g wb (l.drop i) E U2,#[l.length,rfl,zero_le _,F1,h7,KP.refl,zF.refl F1,r1,hk],?_];rintro i m L H2 ⟨rfl,hi,F2,U2,kp,s2,r2,h1⟩;let#[e2,e1]:=it i U2 L F2 G H2 s2 r2;by_cases h2:i<l.length
 .obtain⟨go,h8⟩:=e2 l[i] (by simp);show .inr #[go,λh3 H3=>i+1<=l.length/\∃F3 h5,KP ks Z h3/\zF F1 F3/\Rel X.K h5 h3 F3 G H3/\bS g wb (l.drop (i+1)) E h5,λh3 H3 h=>#[l.length-(i+1),∅,rfl,h],λy H3 hy=>?_];let#[F3,s3,r3,rp]:=h8 y H3 hy;rw[List.drop_eq_getElem_cons h2]at h1;show#[F3,G,U2,_,_,r3.push rp,h1,λh6 hx F4 H4 e3 k4 s4 r4=>?_];let O:=kp.trans k4;let h4:=s1.trans (s2.trans (s3.trans s4));exact⟨F4,G,h6,_,r4,e3,λB M F' H' h Y s r=>#[h2,F',B,O.trans Y,s2.trans (s3.trans (s4.trans s)),r,h],λB M F' H' h Y s r=>n B M F' H' h (O.trans Y) (h4.trans s) r,
   λB M F' H' h Y s r=>#[h2,F',B,O.trans Y,s2.trans (s3.trans (s4.trans s)),r,h],λa B M v F' H' h Y s q rv=>r a B M v F' H' h (O.trans Y) (h4.trans s) q rv,x.mono (λe4 Y=>O.trans Y) h4 (zF.refl G)⟩
 .let e:i=l.length:=Nat.le_antisymm hi (not_lt.mp h2);subst e;rw[List.drop_length]at h1;show .inl #[e1 (q9 _),n U2 L F2 H2 h1 kp (s1.trans s2) r2]
def Lh(hc:FT X c wc)(hb:kI X ks body wb):FS X ks (.While c body [] pos) (fC wc wb):=λpn xe hp=>by
 show PS.imp (QM (X:=wp X pn xe) hp (hc pn xe hp) (hb pn xe hp)) λD Z H q=>?_;let#[F,G,U,E,h4,#[J,#[m0,j0],step],n,b,c,r,x]:=q;show#[λm O H2=>∃F2 U2,KP ks Z O/\zF F F2/\Rel X.K U2 O F2 G H2/\J m U2,#[m0,F,U,KP.refl,zF.refl F,h4,j0],?_];rintro m O H2 ⟨F2,U2,kp,s2,r2,j2⟩;show#[F2,G,U2,_,_,r2,step m U2 j2,λk h2 F3 H3 hk s3 r3=>?_,x.mono (λh3 z=>by rw[z];show kp) s2 (zF.refl G)];let L:=s2.trans s3;cases k with
 |true=>
  refine#[λh1 H4=>∃m',m'<m/\∃F2 U2,KP ks Z h1/\zF F F2/\Rel X.K U2 h1 F2 G H4/\J m' U2,λh1 H4 h=>h,?_];exact⟨F3,G,h2,_,r3,hk,λB M F' H'⟨m',hm,h⟩ Y s r=>#[m',hm,F',B,kp.trans Y,L.trans s,r,h],λB M F' H' h Y s r=>n B M F' H' h (kp.trans Y) (L.trans s) r,
   λB M F' H'⟨m',hm,h⟩ Y s r=>#[m',hm,F',B,kp.trans Y,L.trans s,r,h],λa B M v F' H' h Y s q rv=>r a B M v F' H' h (kp.trans Y) (L.trans s) q rv,x.mono (λh3 Y=>kp.trans Y) L (zF.refl G)⟩
 |false=>show n h2 O F3 H3 hk kp L r3
inductive dB(K:W.Frag)(f:WF)(n:Nat)(vs:List V)(H:Hp)(Q:VK)(Zq:XK):Prop
 |mk (F G:Hp) (ss:List S) (P:S->List S->Prop) (PX:D->List S->Prop) (hn:vs.length=n) (zV:Rel K (ss.map some) (vs.map some) F G H) (hw:f ss P PX) (hok:∀s ss' v F' H',P s ss'->zF F F'->ss'.length=ss.length->Rel K (ss'.map some++[some s]) (vs.map some++[some v]) F' G H'->Q v H') (hex:∀d ss' F' H' C dx,PX d ss'->zF F F'->ss'.length=ss.length->Rel K (ss'.map some) (vs.map some) F' G H'->xM K F' d C dx->Zq (.ref C) dx H'):dB K f n vs H Q Zq
section
variable{K:W.Frag}
def Rel.comm(h:U.length=Z.length)(r:Rel K (U++U') (Z++Z') F G H):Rel K (U'++U) (Z'++Z) F G H:=by let:=Rel.swap (U:=[]) (Z:=[]) (U1:=U) (Z1:=Z) (U2:=U') (Z2:=Z') rfl h r;simpa using this
def Rel.lend(r:Rel K (U++(none::U')) (Z++(⇑v::Z')) F G H)(h:U.length=Z.length)(hs:slot U i=⇑s)(B:Z[i]?=⇑⇑v):
  Rel K (U.set i none++(⇑s::U')) (Z++(⇑v::Z')) F G H:=by
 let#[fp,e,nd,ap]:=r.en;let#[f1,Y,rfl,a,b]:=e.cut h;let#[v',O,J,M,e1,rfl,q,up]:=a.at hs;rw[B]at e1;let e2:v=v':=↑e1
 subst e2;let a2:=up (F':=F) (H':=H) (o:=none) (u:=⇑v) (fi':=[]) (zF.refl F) (λ_ _=>rfl) (.no .nil);let es:Z.set i ⇑v=Z:=by
  apply ext_getElem?;intro j;by_cases L:i=j
  .subst L;rw[getElem?_set_self (qg.mp B).1,B]
  .rw[getElem?_set_ne L]
 rw[es]at a2;cases b with
 |no b=>
  let p:((O++([]++M))++(J++Y)).Perm ((O++(J++M))++Y):=by simp;show List.Perm.append_left _ ?_;rw[<-qp,<-qp J];show List.Perm.append_right _ qM
  show#[r.fr,r.gr,_,a2.app (.so q b),p.nodup_iff.mpr nd,λx hx=>ap x (p.mem_iff.mp hx)]
def Rel.back1(r:Rel K (U++(⇑s::U')) (Z++(⇑v::Z')) F G H)(h:U.length=Z.length)(J:Z[i]?=⇑⇑v):Rel K (U.set i ⇑s++U') (Z++Z') F G H:=by
 let hi:i<Z.length:=(qg.mp J).1;let es:Z.set i ⇑v=Z:=by apply ext_getElem?;grind
 let L:U'.length=Z'.length:=by let:=r.len;grind
 let B:=Rel.swap (U1:=[⇑s]) (Z1:=[⇑v]) (U2:=U') (Z2:=Z') h rfl r;rw[<-qp,<-qp]at B;let M:=Rel.store (i:=i) B (by simp[h,L]) (by simp;lia -verbose);grind
theorem JO:∀{rs:List R}{vs:List V}{ms:List Bool}{U U' U1:Env}{ss:List S}{F:Hp}{Z':St},Rel K (U++(rs.map zG++U')) (Z++(vs.map some++Z')) F G H->U.length=Z.length->nB Z vs rs->cA ms rs U=⇑(ss,U1)->
  ∃F',zF F F'/\U1.length=U.length/\ss.length=rs.length/\Rel K (U1++(ss.map some++U')) (Z++(vs.map some++Z')) F' G H
 |[],[],ms,U,U',U1,ss,F,Z',r,h,_,e=>by
  let B:⇑(([]:List S),U)=⇑(ss,U1):=by cases ms<;>show e
  cases B;show#[F,zF.refl F,rfl,rfl,r]
 |[],_::_,_,_,_,_,_,_,_,_,_,h,_=>h.elim
 |_::_,[],_,_,_,_,_,_,_,_,_,h,_=>h.elim
 |x::rs,v::vs,ms,U,U',U1,ss,F,Z',r,h,rv,e=>by
  --the first one,as it is handed on
  have first:∃s U2 J O,cA ms.tail rs U2=⇑(J,U1)/\ss=s::J/\zF F O/\U2.length=U.length/\Rel K (U2++(⇑s::(rs.map zG++U'))) (Z++(⇑v::(vs.map some++Z'))) O G H:=by
   cases x with
   |v s=>
    let B:(match cA ms.tail rs U with|some (ss,U1)=>⇑(s::ss,U1)|none=>none)=⇑(ss,U1):=by cases ms<;>show e
    cases q:cA ms.tail rs U with
    |none=>rw[q]at B;cases B
    |some p=>let#[J,M]:=p;rw[q]at B;cases B;show#[s,U,J,F,q,rfl,zF.refl F,rfl,r]
   |loc i=>
    have B:(match slot U i with
     |some s=>if ms.headD false then(match cA ms.tail rs (U.set i none)with
      |some (ss,U1)=>⇑(s::ss,U1)
      |none=>none)
      else(match cA ms.tail rs (U.set i ⇑(.sh s.toD))with
       |some (ss,U1)=>⇑(.sh s.toD::ss,U1)
       |none=>none)
     |none=>none)=⇑(ss,U1):=by cases ms<;>show e
    cases q:slot U i with
    |none=>rw[q]at B;cases B
    |some s=>
     rw[q]at B;dsimp only at B;by_cases hm:ms.headD false=true
     .rw[qZ hm]at B;cases L:cA ms.tail rs (U.set i none)with
      |none=>rw[L]at B;cases B
      |some p=>let#[J,M]:=p;rw[L]at B;cases B;show#[s,U.set i none,J,F,L,rfl,zF.refl F,by simp,Rel.lend r h q rv.1]
     .rw[q8 hm]at B;cases L:cA ms.tail rs (U.set i ⇑(.sh s.toD))with
      |none=>rw[L]at B;cases B
      |some p=>let#[J,M]:=p;rw[L]at B;cases B;let#[O,s1,l1,Y]:=Ax (x:=.loc i) (s:=.sh s.toD) (U1:=U.set i ⇑(.sh s.toD)) r h rv.1 (by show(match slot U i with|some s=>⇑(S.sh s.toD,U.set i ⇑(.sh s.toD))|none=>none)=_;rw[q]);show#[_,_,J,O,L,rfl,s1,by simp,Y]
  let#[s,U2,J,O,L,rfl,s1,l1,Y]:=first
  let h2:U2.length=Z.length:=l1.trans h;let hl:(rs.map zG++U').length=(vs.map some++Z').length:=by let:=Y.len;rw[qq,qq,qt,qt]at this;lia
  let h1:U'.length=Z'.length:=by let:=rv.2.len;simp at hl;lia
  let r2:=Rel.swap (U1:=[⇑s]) (Z1:=[⇑v]) (U2:=rs.map zG++U') (Z2:=vs.map some++Z') h2 rfl Y;rw[qp,qp]at r2;let#[F2,s2,l2,l3,r3]:=JO (rs:=rs) (vs:=vs) r2 h2 rv.2 L;let h3:U1.length=Z.length:=l2.trans h2;rw[<-qp (J.map some),<-qp (vs.map some)]at r3;let r4:=Rel.swap (U1:=J.map some++U') (Z1:=vs.map some++Z') (U2:=[⇑s]) (Z2:=[⇑v]) h3 (by simp[l3,rv.2.len,h1]) r3;show#[F2,s1.trans s2,l2.trans l1,by simp[l3],r4]
def Fq:∀{rs:List R}{vs:List V}{ms:List Bool}{U U':Env}{ss:List S}{Z':St},Rel K (U++(ss.map some++U')) (Z++(vs.map some++Z')) F G H->U.length=Z.length->ss.length=rs.length->nB Z vs rs->
  (back ms rs ss U).length=U.length/\Rel K (back ms rs ss U++U') (Z++Z') F G H
 |[],[],ms,U,U',[],Z',r,h,_,_=>by
  let e:back ms [] [] U=U:=by cases ms<;>rfl
  show#[rfl,r]
 |[],_,_,_,_,_::_,_,_,_,hl,_=>by simp at hl
 |_::_,_,_,_,_,[],_,_,_,hl,_=>by simp at hl
 |[],_::_,_,_,_,_,_,_,_,_,h=>h.elim
 |_::_,[],_,_,_,_,_,_,_,_,h=>h.elim
 |x::rs,v::vs,ms,U,U',s::ss,Z',r,h,hl,rv=>by
  cases x with
  |v t=>
   let e:back ms (.v t::rs) (s::ss) U=back ms.tail rs ss U:=by cases ms<;>rfl
   show Fq (rs:=rs) (vs:=vs) (r.mid h) h ↑hl rv.2
  |loc i=>
   let e:back ms (.loc i::rs) (s::ss) U=if ms.headD false then back ms.tail rs ss (U.set i ⇑s)else back ms.tail rs ss U:=by cases ms<;>rfl
   rw[e];by_cases B:ms.headD false=true
   .rw[qZ B];let q:=Fq (rs:=rs) (vs:=vs) (ms:=ms.tail) (U:=U.set i ⇑s) (Rel.back1 r h rv.1) ↑h ↑hl rv.2;show#[q.1.trans (by simp),q.2]
   .rw[q8 B];show Fq (rs:=rs) (vs:=vs) (r.mid h) h ↑hl rv.2
end
def Pn(Fk:dH X.prog X.w X.K X.mg X.base (fU X.prog X.w) k f fd ps (dB X.K wf n))(hr:bD k X.A)(hg:Gl X x)(hm:X.mg x=⇑(.ref f))(Y:W.keepIn X.K (.ref f)=true)(hb:Binds X.K fd ps [])
  (ha:FA X (e::es) wa)(h2:∀ss P PX,wf ss P PX->ss.length=n)(h7:autoParam ((x==("__debug__":Str))=false) dZ9)(he:autoParam (starEach (e::es) X.env=(false,eval e X.env)::starEach es X.env) rZ9)(h5:autoParam ((backTo pos (starEach es X.env)).any (·.1)=false) rZ9):
  FE X (.Call (.Name x p) (e::es) [] pos) (zN wf ms wa):=λpn xe hp=>by
 show PE.imp (Rx (X:=wp X pn xe) Fk hr hg hm Y hb (ha pn xe hp) h7 he h5) λZ H Q q=>?_;show(many (k:=λrs J Q E=>zz (cA ms rs J) λp=>wf p.1 (λs ss=>Q (.v s) (back ms rs ss p.2)) (λx ss=>E x (back ms rs ss p.2))) q).mono λvs H1 h1=>?_;let#[F,G,U,rs,P,PX,h3,hl,M,Y,h6,hx]:=h1;let#[#[ss,J],ep,Y]:=Ak Y;let#[F1,s1,l1,O,r1]:=JO (U':=[]) (Z':=[]) ↑h3 hl M ep;let h1:J.length=Z.length:=l1.trans hl;let r2:=Rel.comm (U':=ss.map some) (Z':=vs.map some) h1 ↑r1;let h4:(ss.map some).length=(vs.map some).length:=by simp[O,M.len]
 let#[G',r3,gg,bk]:=r2.hide h4;let hn:=h2 _ _ _ Y;show#[F1,G',ss,_,_,by rw[M.len,<-O];show hn,r3,Y,λs L v F2 H2 hp s2 l3 r4=>?_,λd L F2 H2 C dx hp s2 l3 r4 cd a s' I Fl=>?_]
 .let r5:=bk s2 r4;let B:(L.map some++[⇑s]).length=(vs.map some++[⇑v]).length:=by simp[l3,O,M.len]
  let r6:=Rel.comm B r5;let#[l7,r7]:=Fq (ms:=ms) (rs:=rs) (vs:=vs) (U':=[⇑s]) (Z':=[⇑v]) r6 h1 (l3.trans O) M;show h6 _ _ v F2 H2 hp (s1.trans s2) r7 trivial
 .let r5:=bk s2 r4;let B:(L.map some).length=(vs.map some).length:=by simp[l3,O,M.len]
  let r6:=Rel.comm B r5;let#[l7,r7]:=Fq (ms:=ms) (rs:=rs) (vs:=vs) (U':=[]) (Z':=[]) ↑r6 h1 (l3.trans O) M;show hx d _ Z F2 H2 (.ref a) s' hp rfl (s1.trans s2) ↑r7 I #[a,C,dx,rfl,cd,Fl]
section
variable{K:W.Frag}
def Rel.pushNs(r:Rel K U Z F G H):∀m:Nat,Rel K (U++List.replicate m none) (Z++List.replicate m none) F G H
 |0=>↑r
 |m+1=>by let:=(Rel.pushNs r m).pushN (u:=none);rw[qp,qp,<-List.replicate_succ',<-List.replicate_succ']at this;show this
@[inline]def Args(K:W.Frag)(F:Hp):List S->List V->St->Prop
 |[],[],_=>True
 |s::ss,v::vs,u::Z=>((∃d,s=.sh d/\aK K F v d)\/(s.isSh=false/\u=⇑v))/\Args K F ss vs Z
 |_,_,_=>False
def GR:∀{ss:List S}{vs:List V}{fs:List S}{U U' Ua:Env}{Z Z' Za:St},aB ss U=⇑fs->Rel K (Ua++(U++U')) (Za++(Z++Z')) F G H->Ua.length=Za.length->U.length=Z.length->Args K F ss vs Z->
  fs.length=ss.length/\vs.length=ss.length/\Rel K (Ua++(fs.map some++U')) (Za++(vs.map some++Z')) F G H
 |[],[],fs,U,U',Ua,Z,Z',Za,e,r,h,h2,_=>by
  let B:⇑([]:List S)=⇑fs:=by cases U<;>show e
  cases B;show#[rfl,rfl,?_];let L:=Rel.swap (U1:=U) (Z1:=Z) (U2:=U') (Z2:=Z') h h2 r;rw[<-qp,<-qp]at L;let hl:(Ua++U').length=(Za++Z').length:=by let:=r.len;simp at this;simp;lia
  simpa using L.drop hl
 |[],_::_,_,_,_,_,_,_,_,_,_,_,_,h=>by cases h
 |_::_,[],_,_,_,_,_,_,_,_,_,_,_,h=>by cases h
 |_::_,_::_,_,_,_,_,[],_,_,_,_,_,_,h=>by cases h
 |_::_,_::_,_,[],_,_,_::_,_,_,_,_,_,h2,_=>by simp at h2
 |s::ss,v::vs,fs,o::U,U',Ua,u::Z,Z',Za,e,r,h,h2,ha=>by
  let O:U.length=Z.length:=↑h2
  let#[h1,M]:=ha;rcases h1 with⟨d,rfl,rp⟩|⟨hs,hu⟩
  .have B:(aB ss U).map (S.sh d::·)=⇑fs:=e;cases q:aB ss U with
   |none=>rw[q]at B;cases B
   |some J=>
    rw[q]at B;let h3:S.sh d::J=fs:=qf B;subst h3;let L:Rel K (Ua++(U++U')) (Za++(Z++Z')) F G H:=Rel.mid (U:=Ua) (Z:=Za) r h;let#[l1,l2,Y]:=GR q L h O M;let hl:(J.map some++U').length=(vs.map some++Z').length:=by let:=Y.len;simp at this;simp;lia
    let r3:=Y.push rp;rw[qp Ua,qp Za]at r3;let r4:=Rel.swap (U1:=J.map some++U') (Z1:=vs.map some++Z') (U2:=[⇑(.sh d)]) (Z2:=[⇑v]) h hl r3;show#[by simp[l1],by simp[l2],r4]
  .subst hu;let B:∃t J,o=⇑t/\aB ss U=⇑J/\fs=t::J:=by
    cases s with
    |sh d=>cases hs
    |_=>
     cases o with
     |none=>cases e
     |some t=>
      let B:(aB ss U).map (t::·)=⇑fs:=e;cases q:aB ss U with
      |none=>rw[q]at B;cases B
      |some J=>rw[q]at B;show#[t,J,rfl,rfl,(qf B).symm]
   let#[t,J,rfl,q,rfl]:=B;let L:Rel K ((Ua++[⇑t])++(U++U')) ((Za++[⇑v])++(Z++Z')) F G H:=↑r
   let#[l1,l2,Y]:=GR q L (by simp[h]) O M;show#[by simp[l1],by simp[l2],↑Y]
def JN{ks:List Nat}:∀{ss:List S}{vs:List V}{Z:St}{j:Nat}{fp:List Addr},zH K F0 H (ss.map some) (vs.map some) fp->zF F0 F->(∀i s,ss[i]?=⇑s->(j+i)∈ks\/s.isSh=true)->
  (∀i v,vs[i]?=⇑v->(j+i)∈ks->Z[i]?=⇑⇑v)->vs.length<=Z.length->Args K F ss vs Z
 |[],[],_,_,_,_,_,_,_,_=>trivial
 |[],_::_,_,_,_,r,_,_,_,_=>by cases r
 |_::_,[],_,_,_,r,_,_,_,_=>by cases r
 |_::_,_::_,[],_,_,_,_,_,_,h=>by simp at h
 |s::ss,v::vs,u::Z,j,_,.so a b,sm,hk,hv,hl=>by
  show#[?_,JN (j:=j+1) b sm (λi t e=>by let:=hk (i+1) t e;rwa[show j+(i+1)=j+1+i by lia]at this) (λi t e z=>by simpa using hv (i+1) t ↑e (by rwa[show j+(i+1)=j+1+i by lia])) ↑hl];cases B:s.isSh with
  |true=>
   cases s with
   |sh d=>cases a with
    |sh r=>show .inl #[d,rfl,r.mono sm]
   |_=>cases B
  |false=>show .inr #[rfl,?_];let:=hk 0 s rfl;rw[B]at this;let z:(j+0)∈ks:=this.resolve_right (by simp);simpa using hv 0 v rfl z
theorem IV{st:Stmt}(Fn:pD K x qual st f fd)(Sc:aC N ps (aA st))(hn:ps.length=n)(hm:N.length=m)
  (hb:∀(O:Value)(A:Around)(B:List PySem.Env)(s:Shared)(H:Hp)(E:XK),bD k (A.deeper (envOfC qual (aA st) s.heap.objs.size f O))->kI (dY (fU P w) P w K mg base N qual (aA st) f O A B s H E) ks (bB st) wb):
  dH P w K mg base (fU P w) (k+1) f fd ps (dB K (eK n m ks wb) n):=by
 show Fn.okX Sc (λvs H Q E h=>?_) (λO A B s H vs Q E hr h=>?_)
 .obtain⟨F,G,ss,P',PX,hl,_⟩:=h;rw[hl,hn]
 .obtain⟨F,G,ss,P',PX,h5,h2,⟨e2,e1,h1⟩,h8,hex⟩:=h;show#[_,hb O A B s H E hr [] (dY (fU P w) P w K mg base N qual (aA st) f O A B s H E).xe PassesOwn.leaving,?_];let h9:N.length-vs.length=m-n:=by rw[h5,hm]
  let h7:Rel K (ss.map some++List.replicate (m-n) none) (L2.start N vs) F G H:=by unfold L2.start;rw[h9];show h2.pushNs (m-n)
  let h6:∀i v,vs[i]?=⇑v->(L2.start N vs)[i]?=⇑⇑v:=λi v e=>by unfold L2.start;let hi:i<vs.length:=(qg.mp e).1;rw[getElem?_append_left ↑hi,qE,e];rfl
  --how the arguments are at an end
  have h3:∀{U':Env}{Z':St}{F':Hp}{fs:List S},KP ks (L2.start N vs) Z'->zF F F'->U'.length=Z'.length->aB ss U'=⇑fs->Args K F' ss vs Z':=by
   intro U' Z' F' fs L J M e;let#[fp,en,_]:=h2.en;let h4:vs.length<=Z'.length:=by
    --aB reads as many slots as there are arguments
    have:∀(ss:List S)(U:Env)(fs:List S),aB ss U=⇑fs->ss.length<=U.length:=by
     intro ss;induction ss with
     |nil=>intro U fs _;simp
     |cons s ss ih=>
      intro U fs e;cases U with
      |nil=>cases s<;>cases e
      |cons o U=>
       have:∃gs,aB ss U=⇑gs:=by
        cases q:aB ss U with
        |some gs=>show#[gs,rfl]
        |none=>
         cases s with
         |sh d=>have e':(aB ss U).map (S.sh d::·)=⇑fs:=e;rw[q]at e';cases e'
         |_=>
          cases o with
          |none=>cases e
          |some t=>have e':(aB ss U).map (t::·)=⇑fs:=e;rw[q]at e';cases e'
       let#[gs,q]:=this;let:=ih U gs q;simp;show this
    let:=this ss U' fs e;lia
   show JN (ks:=ks) (F:=F') (Z:=Z') (j:=0) en J (λi s e=>by simpa using e1 i s e) (λi v e z=>by rw[L i ↑z];show h6 i v e) h4
  let Y:∀{U':Env}{Z':St}{F' H':Hp}{t:S}{v:V}{fs:List S},KP ks (L2.start N vs) Z'->zF F F'->Rel K (U'++[⇑t]) (Z'++[⇑v]) F' G H'->aB ss U'=⇑fs->P' t fs->Q v H':=by intro U' Z' F' H' t v fs L J r e hp;let M:U'.length=Z'.length:=Ag r;let#[l1,l2,r1]:=GR (Ua:=[]) (Za:=[]) (U':=[⇑t]) (Z':=[⇑v]) e r rfl M (h3 L J M e);show h8 t fs v F' H' hp J l1 r1
  show#[F,G,_,_,h7,h1,λU' Z' F' H' h L J r=>?_,λU' Z' F' H' h=>h.elim,λU' Z' F' H' h=>h.elim,λa U' Z' v F' H' h L J r rv=>?_,λd U' Z' F' H' u s' h L J r I xr=>?_]
  .obtain⟨fs,e,h⟩:=Ak h;show Y L J (r.push .non) e h
  .cases a with
   |v t=>let#[fs,e,h]:=Ak h;show Y L J r e h
   |loc i=>
    let#[t,et,h]:=Ak h;let hl:=Ag r;by_cases hi:i<n
    .rw[qZ hi]at h;let#[fs,e,h]:=Ak h;let#[F2,s2,_,r2]:=Ax (x:=.loc i) (s:=.sh t.toD) (U1:=U'.set i ⇑(.sh t.toD)) (U':=[]) (Z':=[]) r hl rv (by show(match slot U' i with|some s=>⇑(S.sh s.toD,U'.set i ⇑(.sh s.toD))|none=>none)=_;rw[et]);show Y L (J.trans s2) r2 e h
    .rw[q8 hi]at h;let#[fs,e,h]:=Ak h;let r2:=Rel.lend (U':=[]) (Z':=[]) r hl et rv;refine Y L J r2 ?_ h
     --the slot lies behind the parameters
     have:∀(ss:List S)(U:Env)(i:Nat),ss.length<=i->aB ss (U.set i none)=aB ss U:=by
      intro ss;induction ss with
      |nil=>intro U i _;cases U<;>cases i<;>rfl
      |cons s ss ih=>
       intro U i hi;cases U with
       |nil=>rfl
       |cons o U=>
        cases i with
        |zero=>simp at hi
        |succ i=>
         let e:=ih U i ↑hi;cases s with
         |sh d=>show(aB ss (U.set i none)).map _=(aB ss U).map _;rw[e]
         |_=>
          cases o with
          |none=>rfl
          |some t=>show(aB ss (U.set i none)).map _=(aB ss U).map _;rw[e]
     rw[this ss U' i ∅];show e
  .obtain⟨fs,e,h⟩:=Ak h;let#[a,C,dx,rfl,cd,Fl]:=xr;let#[l1,l2,r1]:=GR (K:=K) (Ua:=[]) (Za:=[]) (U':=[]) (Z':=[]) e (by simpa using(show Rel K U' Z' F' G H' from r)) rfl r.len (h3 L J r.len e);show Rt I Fl (hex d fs F' H' C dx h J l1 ↑r1 cd)
end
@[inline]def ClsAt(h:Heap)(C:Addr)(bm:List Value):Prop:=∃nm q N bs hdct sn sub ab col dd k0 k1 k2 k3 k5 newId,h.get? C=some (excClassObj nm q C N bs bm hdct sn sub ab col dd k0 k1 k2 k3 k5 newId)/\bm.contains (.type "BaseException")=true
def ClsAt.keeps(k:∀b o,h.get? b=⇑o->h'.get? b=⇑o)(c:ClsAt h C bm):ClsAt h' C bm:=by let#[nm,q,N,bs,F,J,sub,ab,G,dd,k0,Y,O,M,L,B,hC,hb]:=c;show#[nm,q,N,bs,F,J,sub,ab,G,dd,k0,Y,O,M,L,B,k _ _ hC,hb]
def Uy{M:Model}{A:Around}{E:zu}{s:Shared}{e C B:Addr}{oe:Obj}{bm G:List Value}{Q:Bool->Shared->Prop}(hC:ClsAt s.heap C bm)(L:ClsAt s.heap B G)(he:s.heap.get? e=⇑oe)(F:oe.cls=.ref C)
  (hm:(Value.ref C::bm).contains (.ref B)=true)(hq:Q true s):wpAny M A (excMatches (.ref e) (.ref B)) Q E s:=by
 let#[nm,q,N,bs,h4,sn,sub,ab,hk,dd,k0,k1,k2,k3,k5,O,hC,hb]:=hC;let#[h7,q',N',hx,Y,h6,h3,hp,h5,e4,e3,e2,e1,h9,h8,J,L,h2]:=L;let h1:(Value.ref B::G).contains (.type "BaseException")=true:=by rw[List.contains_cons,h2,Bool.or_true]
 let f:=tc_notTuple
 repeat (first|(with_reducible show wpAny_loadPart_at he ?_;rw[F])|with_reducible show wpAny_loadPart_at L ?_|(with_reducible show wpAny_isSubtype_exc hC ?_;rw[hm])|(with_reducible show wpAny_isSubtype_exc L ?_;rw[h1])|wp_step)
 show hq
abbrev hX(X:Cx)(e:Addr):Cx:={X with A:=X.A.mark ⇑(.ref e),calm:=false}
def Inv.wp'(I:Inv (wp X pn xe) zT Z H s)(h:∀p∈B++pins',p∈pn++zT):Inv (wp X B F) pins' Z H s:=
 ⟨⟨I.ok.mod,I.ok.kind,I.ok.glob,I.ok.blt,I.ok.above,I.ok.inj,I.ok.has,I.ok.cab,I.ok.hd,I.ok.frames,I.ok.stk,I.ok.exf,I.ok.bs,I.ok.bsz,I.ok.noex,I.ok.exfs,I.ok.funs,I.ok.frf⟩,
   I.os,I.bare,I.base,I.loc,I.cell,I.free,I.freeC,λp G=>I.pin p (h p G),I.hok,I.len⟩
def Inv.held(I:Inv (wp X pn xe) zT Z H s)(h:∀p∈B++pins',p∈pn++zT):Inv (wp (hX X e) B F) pins' Z H s:=
 ⟨⟨I.ok.mod,I.ok.kind,I.ok.glob,I.ok.blt,I.ok.above,I.ok.inj,I.ok.has,I.ok.cab,λz=>(by cases z),I.ok.frames,I.ok.stk,I.ok.exf,I.ok.bs,I.ok.bsz,I.ok.noex,I.ok.exfs,I.ok.funs,I.ok.frf⟩,
   I.os,I.bare,I.base,I.loc,I.cell,I.free,I.freeC,λp G=>I.pin p (h p G),I.hok,I.len⟩
def Inv.let(I:Inv (wp (hX X e) B F) pins' Z H s)(J:X.calm=true->X.A.handled=none)(h:∀p∈pn++zT,p∈B++pins'):Inv (wp X pn xe) zT Z H s:=
 ⟨⟨I.ok.mod,I.ok.kind,I.ok.glob,I.ok.blt,I.ok.above,I.ok.inj,I.ok.has,I.ok.cab,J,I.ok.frames,I.ok.stk,I.ok.exf,I.ok.bs,I.ok.bsz,I.ok.noex,I.ok.exfs,I.ok.funs,I.ok.frf⟩,
   I.os,I.bare,I.base,I.loc,I.cell,I.free,I.freeC,λp G=>I.pin p (h p G),I.hok,I.len⟩
def hH.wp'{H:Hp}(F:hH (wp X pn xe) zT H h e cls dx)(hs:∀p∈B++pins',p∈pn++zT):hH (wp X B G) pins' H h e cls dx:=by
 let g:∀{b},bK (wp X pn xe) zT H b->bK (wp X B G) pins' H b:=λf=>#[f.1,f.2.1,f.2.2.1,f.2.2.2.1,f.2.2.2.2.1,λp O=>f.2.2.2.2.2 p (hs p O)]
 let#[f,L,vs,h1,h2,Y,h3,h4]:=F;show#[g f,L,vs,h1,h2,Y,h3,h4.imp id ?_];rintro⟨T,M,J,a1,a2,a3,a4⟩;show#[T,M,J,a1,a2,g a3,a4]
def SP.let{D:L2.Ends}(F:X.calm=true->X.A.handled=none)(h:∀p∈pn++zT,p∈G++pins')(z:SP (wp (hX X e) G J) pins' D f s):SP (wp X pn xe) zT D f s:=by
 cases f with
 |next=>let#[B,H',I,q]:=z;show#[B,H',Inv.let I F h,q]
 |brk=>let#[B,H',I,q]:=z;show#[B,H',Inv.let I F h,q]
 |cont=>let#[B,H',I,q]:=z;show#[B,H',Inv.let I F h,q]
 |ret u=>let#[v,B,H',I,r,q]:=z;show#[v,B,H',Inv.let I F h,r,q]
def SP.wp'{D:L2.Ends}(h:∀p∈pn++zT,p∈F++pins')(z:SP (wp X F G) pins' D f s):SP (wp X pn xe) zT D f s:=by
 cases f with
 |next=>let#[B,H',I,q]:=z;show#[B,H',Inv.wp' I h,q]
 |brk=>let#[B,H',I,q]:=z;show#[B,H',Inv.wp' I h,q]
 |cont=>let#[B,H',I,q]:=z;show#[B,H',Inv.wp' I h,q]
 |ret u=>let#[v,B,H',I,r,q]:=z;show#[v,B,H',Inv.wp' I h,r,q]
def mX(X:Cx)(cs:List (List Nat))(B:Addr):Prop:=∀c∈cs,∃C bm,W.nsIn X.K mainGlobals (#[c.toArray]:Str)=⇑⇑(.ref C)/\ClsAt X.base C bm/\(Value.ref C::bm).contains (.ref B)=true
def NI(e4:X.stack=X.env::X.outer)(hf:X.env.frame=⇑X.env.locals)(hg:Gl X x)(hB:X.mg x=⇑(.ref B))(cB:ClsAt X.base B r2)(hi:mX X cs B)(hb:kI X ks body wb)(hs:∀e,kI (hX X e) ks (b0::suite) ws)
  (hk:autoParam ((x==("__debug__":Str))=false) dZ9):FS X ks (.Try body [.ExceptHandler ⇑(.Name x np) none (b0::suite) hpos] [] [] pos) (nE cs wb ws):=by
 intro pn xe O zT s Z H D I q;let#[F,G,U,E,e2,hw,n,b,c,r,hx]:=q;let hd:X.calm=true->X.A.handled=none:=I.ok.hd;show wpAny_Try_except (Af (hb (pn++zT) (λe h6=>wpAny (model X.prog X.w) X.A (noteFrame e X.env) (λ_ h5=>wpAny (model X.prog X.w) X.A (setFlight e none) (λ_ h4=>wpAny (model X.prog X.w) X.A (handleBy e X.env [.ExceptHandler ⇑(.Name x np) none (b0::suite) hpos]) (SP (wp X pn xe) zT D) xe h4) xe h5) xe h6) PassesOwn.looking [] s Z H D (Inv.wp' I λp O=>by simpa using O) ?_) λf s1 z=>?_)
 .refine#[F,G,U,_,e2,hw,n,b,c,r,λd e1 Y F' H' u s' O h3 sm h7 I' xr=>?_];let#[#[c0,hl,r1,hr,rfl],e3]:=O;let#[e,C,dx,rfl,#[c',fs',hq,ec,h9,ha],Fl]:=xr;cases ec;let#[C',bm,h8,hC,hm]:=hi c0 hl;rw[h8]at h9;cases h9;let J:Inv (wp X pn xe) zT Y H' s':=Inv.wp' I' λp O=>by simpa using O
  refine Kz (X:=wp X pn xe) (zT:=zT) e4 hf J (hH.wp' Fl λp O=>by simpa using O) λh1 J1 F1=>?_;show wpAny_handleBy_cons (codeAny_handlers_test ?_) (by intro q;cases q);let J2:Inv (wp (hX X e) pn (λ_ _=>False)) zT Y H' {s' with heap:=h1}:=Inv.held J1 λ_ z=>z;show Gw (X:=wp (hX X e) pn (λ_ _=>False)) J2 hg hB ?_ hk;let#[_,oe,vs,he,hc,_]:=id F1;show Uy (hC.keeps J2.bk) (cB.keeps J2.bk) he hc hm ?_;show codeAny_handlers_suite (TM (X:=wp X pn xe) J1 F1 λh2 J3 F3=>?_);show zt (hs e (pn++zT) (λ_ _=>False) PassesOwn.never [] _ Y H' D (Inv.held J3 λp O=>by simpa using O) ?_) (λf s2 z=>SP.let hd (λp O=>by simpa using O) z) λ_ _ z=>z.elim;exact⟨F',G,e1,_,h7,e3,λM L F2 H2 h k s r=>n M L F2 H2 h (h3.trans k) (sm.trans s) r,λM L F2 H2 h k s r=>b M L F2 H2 h (h3.trans k) (sm.trans s) r,λM L F2 H2 h k s r=>c M L F2 H2 h (h3.trans k) (sm.trans s) r,
   λa M L v F2 H2 h k s q rv=>r a M L v F2 H2 h (h3.trans k) (sm.trans s) q rv,λd M L F2 H2 u s2 p=>p.elim⟩
 .let z':SP (wp X pn xe) zT D f s1:=SP.wp' (λp O=>by simpa using O) z;cases f with
  |next=>let#[Y,H',I',q]:=z';show JJ (X:=wp X pn xe) zT s1 Y H' D I' q
  |brk=>show z'
  |cont=>show z'
  |ret u=>show z'
end FL
namespace FL
open PySem PySem.Spec PyProof.Rows L2
open PySem.W (nsIn excIn mroIn clsIn isNs_of_in nsMap_none_of_in tail_of_in)
abbrev eV:List Value:=[.type "ValueError",.type "Exception",.type "BaseException",.type "object"]
abbrev hW:String:="ValueError.__new__"
def ae(K:W.Frag)(C:Addr):Prop:=∀h,K.In h->∃bm,ClsAt h C bm/\∀B,mroIn K C (.ref B)=⇑true->(Value.ref C::bm).contains (.ref B)=true
def cW(K:W.Frag)(cs:List (List Nat))(B:Addr):Prop:=∀c∈cs,∃C,nsIn K mainGlobals (#[c.toArray]:Str)=⇑⇑(.ref C)/\ae K C/\mroIn K C (.ref B)=⇑true
def cW.at{h:Heap}(L:X.K.In X.base)(k:cW X.K cs B):mX X cs B:=λc F=>by let#[C,h1,h2,G]:=k c F;let#[J,a,b]:=h2 _ L;show#[C,J,h1,a,b B G]
def Pw(hB:X.mg x=⇑(.ref B))(eB:ae X.K B)(J:cW X.K cs B)(hb:kI X ks body M)(hs:∀e,kI (hX X e) ks (b0::suite) L)
  (F:autoParam (X.stack=X.env::X.outer) rZ9)(hf:autoParam (X.env.frame=⇑X.env.locals) rZ9)(Y:autoParam (Gl X x) rZ9)(G:autoParam ((x==("__debug__":Str))=false) dZ9):FS X ks (.Try body [.ExceptHandler ⇑(.Name x np) none (b0::suite) hpos] [] [] pos) (nE cs M L):=λpn xe O zT s Z H D I q=>by
 let#[bm,cB,_]:=eB _ I.ok.mod.kin;show NI F hf Y hB cB (J.at (h:=X.base) I.ok.mod.kin) hb hs G pn xe O zT s Z H D I q
section
variable{K:W.Frag}
def Gj(h:x.cps.toList=c)(e:nsIn K mainGlobals x=r):nsIn K mainGlobals (#[c.toArray]:Str)=r:=by subst h;simpa using e
def Tc:cW K [] B:=λ_ h=>nomatch h
def Uz(h1:nsIn K mainGlobals (#[c.toArray]:Str)=⇑⇑(.ref C))(h2:ae K C)(G:mroIn K C (.ref B)=⇑true)(r:cW K cs B):cW K (c::cs) B:=λd F=>by
 rcases qA.mp F with rfl|F
 .show#[C,h1,h2,G]
 .show r d F
end
end FL
namespace FL
open PySem PySem.Spec PySem.Calls PyProof.Rows PySem.W L2
section
variable{os:OsState}
variable{sub:List Value}{K:Frag}{rest:List Value}
def Sv{Q:Fin->Shared->Prop}(F:ExcBaseFacts B newId initId h1)(T:OwnTail h h1 bm)(M:h.get? C=⇑(excClassObj nm q C N bs bm hdct sn sub ab col dd k0 k1 k2 k3 k5 newId))(X:K.In h)
  (hi:findIn K (.ref C) "__init__"=⇑⇑(.ref fI))(hf:typeIn K (.ref fI)=⇑(.type "function"))
  (hq:∀h' e,Heap.MadeExcOf h h' e (.ref C) rest->wpAny (model prog w) A (call (.ref fI) (.ref e::rest)) (λr s'=>r=.none/\Q (.done (.ret (.ref e))) s') E #[h',g,d,t,os])(J:rest.length<=sizeLine):
  wpAny (model prog w) A (Builtin.«type.__call__» #[.ref C::rest,[]]) Q E #[h,g,d,t,os]:=by
 repeat (first|with_reducible show wpAny_loadPart_at M ?_|with_reducible show wpAny_madeBy_exc M ?_|wp_step)
 refine codeAny_call_builtin_code (Code.quiet_builtin _ F.quiet) (wpAny_check_new_subT F T M ?_);show codeAny_exc_new_subT F T M ?_ J;let O:∀b o,h.get? b=⇑o->((h.push {cls:=.type "tuple",data:=.seq rest.toArray}).push {cls:=.ref C,data:=.fields [.ref h.objs.size,.none,.none,.none,.bool false,.none].toArray}).get? b=⇑o:=λb o e=>qc _ (qc _ e);let L:=O _ _ M;let G:((h.push {cls:=.type "tuple",data:=.seq rest.toArray}).push {cls:=.ref C,data:=.fields [.ref h.objs.size,.none,.none,.none,.bool false,.none].toArray}).get? (h.objs.size+1)=some
   {cls:=.ref C,data:=.fields [.ref h.objs.size,.none,.none,.none,.bool false,.none].toArray}:=by heap_get
 let Y:(Value.ref C::bm).contains (.ref C)=true:=by simp
 repeat (first|with_reducible show wpAny_loadPart_at G ?_|(with_reducible show wpAny_isSubtype_exc L ?_;rw[Y])|wp_step)
 show(looks_findIn (X.keeps O) hi).at ?_;show zp (qa ((bind_fn (X.keeps O) _ hf).at ?_));show qa (zt (hq _ (h.objs.size+1) #[O,Heap.get?_none_of_le (le_succ _),h.objs.size,G,Heap.get?_none_of_le (q9 _),qc _ (Heap.get?_push_at rfl rfl)]) (λr s' hr=>?_) λ_ _ x=>x);let#[rfl,hQ]:=hr
 wp_walk
 show hQ
def Sd{Q:zu}(F:ExcBaseFacts B newId initId L)(T:OwnTail h L bm)(J:h.get? C=⇑(excClassObj nm q C N bs bm hdct sn sub ab col dd k0 k1 k2 k3 k5 newId))(X:K.In h)
  (hi:findIn K (.ref C) "__init__"=⇑⇑(.ref M))(hf:typeIn K (.ref M)=⇑(.type "function"))
  (O:∀h' e,Heap.MadeExcOf h h' e (.ref C) rest->wpAny (model prog w) (A.under (.builtin "type.__call__" #[.ref C::rest,[]])) (call (.ref M) (.ref e::rest)) (λr s'=>r=.none/\Q (.ref e) s') E #[h',g,d,t,os])(G:rest.length<=sizeLine):
  wpAny (model prog w) A (call (.ref C) rest) Q E #[h,g,d,t,os]:=by
 let f1:=tc_lookup;let f2:=tc_bind (.ref C);show wpAny_call (codeAny_of_tree ?_)
 repeat (any_goals (first|assumption|with_reducible show wpAny_loadPart_at J ?_|wp_step))
 show#[rfl,?_];show codeAny_call_builtin_at (Code.quiet_builtin _ (by decide+kernel)) entry_typeCall (wpAny_check_type_call_sub J (Sv F T J X hi hf (λh' e Y=>O h' e Y) G))
end
def eU(e C:Addr)(dx:Option Addr)(h:Heap):Prop:=∃t B,h.get? e=⇑#[.ref C,dx,.fields [.ref t,.none,.none,.none,.bool false,.none].toArray,B]
section
variable{sub:List Value}{K:Frag}
def TR{x:Sem Value}{Q:Flow->Shared->Prop}(F:bm.contains (.type "BaseException")=true)(Y:A.handled=none)
  (h:wpAny M A x (λv B=>∃e L,v=.ref e/\B.heap.get? C=⇑(excClassObj nm q C N bs bm hdct sn sub ab col dd k0 k1 k2 k3 k5 newId)/\
   eU e C L B.heap/\E (.ref e) B) E s):
  wpAny M A (raiseStmt env ⇑x none) Q E s:=by
 let J:(Value.ref C::bm).contains (.type "BaseException")=true:=by rw[List.contains_cons,F,Bool.or_true]
 show qa (zt h (λv B G=>?_) λ_ _ x=>x);let#[e,L,rfl,O,#[t,sl,he],hE]:=G
 repeat (first|with_reducible show wpAny_loadPart_at he ?_|with_reducible show wpAny_loadPart_at O ?_|(with_reducible show wpAny_isSubtype_exc O ?_;rw[J])|wp_step)
 show wpAny_raiseNew_none Y hE
def Th(F:ExcBaseFacts B newId initId h5){x:Str}{np M pos:Pos}{args:List Expr}{Q:Flow->Shared->Prop}
  (hi:findIn K (.ref C) "__init__"=⇑⇑(.ref fI))(hf:typeIn K (.ref fI)=⇑(.type "function"))(h1:bm.contains (.type "BaseException")=true)(hh:A.handled=none)(O:(backTo M (starEach args env)).any (·.1)=false)
  (h:wpAny (model prog w) A (eval (.Name x np) env) (λf Y=>f=.ref C/\wpAny (model prog w) A (evalArgs (.ref C) true (backTo M (starEach args env)) [])
   (λa G=>a.kw=[]/\a.pos.length<=sizeLine/\G.heap.get? C=⇑(excClassObj nm q C N bs bm hdct sn sub ab col dd k0 k1 k2 k3 k5 newId)/\K.In G.heap/\OwnTail G.heap h5 bm/\
    ∀h' e,Heap.MadeExcOf G.heap h' e (.ref C) a.pos->wpAny (model prog w) (A.under (.builtin "type.__call__" #[.ref C::a.pos,[]])) (call (.ref fI) (.ref e::a.pos)) (λr s'=>r=.none/\s'.heap.get? C=⇑(excClassObj nm q C N bs bm hdct sn sub ab col dd k0 k1 k2 k3 k5 newId)/\∃od,eU e C od s'.heap/\E (.ref e) s') E {G with heap:=h'}) E Y) E s):
  wpAny (model prog w) A (exec (.Raise ⇑(.Call (.Name x np) args [] M) none pos) env) Q E s:=by
 rw[arm_exec_Raise];show qa (wpAny_standAt (TR (C:=C) (nm:=nm) (q:=q) (N:=N) (bs:=bs) (bm:=bm) (hdct:=hdct) (sn:=sn) (sub:=sub) (ab:=ab) (col:=col) (dd:=dd) (k0:=k0) (k1:=k1) (k2:=k2) (k3:=k3) (k5:=k5) (newId:=newId) h1 hh (qa (zt (wpAny_Call_ofName (zt h (λf Y L=>?_) λ_ _ x=>x)) (λv h7 h2=>qa (wpAny_standAt (qb h2))) λ_ _ x=>x))));let#[rfl,L]:=L;show qa (zp (zt L (λa G J=>qa (wpAny_standAt ?_)) λ_ _ x=>x));let#[apos,h6]:=a;let#[h4,h3,hC,X,T,J]:=J;obtain rfl:h6=[]:=h4;simp only[O];show qa (wpAny_keeperOf_exc hC ?_);show qa (Sd F T hC X hi hf (λh' e hm=>zt (J h' e hm) (λr s' z=>?_) λ_ _ z=>z) h3);let#[z1,z2,od,z3,z4]:=z;show#[z1,qa (zp (wpAny_point (qb #[e,od,rfl,z2,z3,z4])))]
end
end FL
namespace FL
open PySem PySem.Spec PySem.Calls PyProof.Rows PySem.W L2
open Builtin Builtin.ObjectAttr
structure mW(K:Frag)(C Wb fI:Addr)(n:Str):Prop where
 lk:∃dd nm bs ns qn sn sub ab col k0 k1 k2 k3 k5,K.lookup C=⇑(excClassObj nm qn C ns bs (.ref Wb::eV) true sn sub ab col dd k0 k1 k2 k3 k5 hW)
 eW:excIn K Wb eV hW=true
 hi:findIn K (.ref C) "__init__"=⇑⇑(.ref fI)
 hf:typeIn K (.ref fI)=⇑(.type "function")
 hs:findIn K (.ref C) "__setattr__"=⇑⇑(.builtin "object.__setattr__")
 hn:findIn K (.ref C) n=⇑none
section
variable{K:Frag}
def mW.tail(k:mW K C Wb O name)(X:K.In h):OwnTail h eV (.ref Wb::eV):=by
 let q:=k.eW;unfold excIn at q;split at q
 .rename_i Y cd L J;split at q
  .simp at q;let#[#[#[#[#[rfl,rfl],G],M],B],F]:=q;show .own (X _ _ J) (.of_isNs (isNs_of_in X B)) (nsMap_none_of_in X B F) .base
  .cases q
 .cases q
def OW(X:K.In s.heap)(k:mW K C Wb fI name)(he:eU x C none s.heap)
  (h:∀h' dx tk,s.heap.get? dx=none->eU x C ⇑dx h'->h'.Ns1 dx (λy=>if y=name then ⇑v else none)->(∀b o,b≠x->s.heap.get? b=⇑o->h'.get? b=⇑o)->Q () {s with heap:=h',toks:=tk}):
  wpAny (model prog w) A (setAttr (.ref x) name v) Q E s:=by
 let#[tt,sl,O]:=he;let#[dd,nm,bs,ns,qn,sn,sub,ab,L,k0,k1,k2,k3,k5,lk]:=k.lk;let I:InstAt s.heap x #[.ref C,none,.fields [.ref tt,.none,.none,.none,.bool false,.none].toArray,sl] C none:=#[O,rfl,rfl,True.intro]
 show set_plain X I k.hs ?_;let M:=PySem.F.store_object;let hc:clsIn K C=⇑#[nm,bs,.ref C::.ref Wb::eV,ns,qn,true,sn,sub,ab,L,false]:=by unfold clsIn;rw[lk]
 have sb:Looks (model prog w) s.heap (isInstance (.ref x) (.type "object")) true:=I.type.andThen (looks_mroIn X (by unfold mroIn;rw[hc,bind_some];simp));show codeAny_call_builtin M.slot.plain M.entry (@check_slot (model prog w) _ _ _ "object.__setattr__" "object" "__setattr__" (.ref x) [.str name s.toks,v] [] _ M.kind M.split sb (M.args (.ref x) (.str name s.toks) v) ?_);let hm:Looks (model prog w) s.heap (mroOf (.ref C)) (.ref C::.ref Wb::eV):=(looks_clsIn X hc).andThen .now;rw[osa_eq,refuse_eq];show qa (qa (I.type.at (qa (hm.at ?_))));show qb (qa (I.type.at (qa ((looks_findIn X k.hn).at (qa (qb ?_))))));show qa (qb (qa ?_));let#[B,Y,dr,tk,os]:=s;let G:x≠B.objs.size:=ne_of_lt (qe O);let F:=qc {cls:=.type "dict",data:=.dict #[]} O;let hC:B.get? C=⇑(excClassObj nm qn C ns bs (.ref Wb::eV) true sn sub ab L dd k0 k1 k2 k3 k5 hW):=X _ _ lk;let h3:∀{A:Around}{Q':Option Addr->Shared->Prop}{E':zu}{Y dr tk os},Q' ⇑B.objs.size #[(B.push {cls:=.type "dict",data:=.dict #[]}).update x λo=>{o with dict:=⇑B.objs.size},Y,dr,tk,os]->wpAny (model prog w) A (instanceDict x true) Q' E' #[B,Y,dr,tk,os]:=λ{A Q' E' Y dr tk os} q=>by
  repeat (first|with_reducible show wpAny_loadPart_at O ?_|with_reducible show wpAny_loadPart_at hC ?_|wp_step)
  show q
 refine h3 ?_;let h4:((B.push {cls:=.type "dict",data:=.dict #[]}).update x λo=>{o with dict:=⇑B.objs.size}).get? B.objs.size=some {cls:=.type "dict",data:=.dict #[]}:=
  (Heap.get?_update_ne _ _ _ _ G.symm).trans (Heap.get?_push_at rfl rfl)
 have h2:((B.push {cls:=.type "dict",data:=.dict #[]}).update x λo=>{o with dict:=⇑B.objs.size}).Ns B.objs.size (λ_=>none):=
  #[_,#[],_,h4,rfl,λe he=>absurd he (by simp),λ_=>rfl]
 show qa (qb (qa (wpAny_nsSet1 (Heap.Ns1.of_empty h2) λh' J hs=>?_)));let#[oD,h8,h9,h1,h5,h6]:=J.count (Within.cons name v Within.nil);show qa (wpAny_lookBehind h1 (by rw[h5];show pastItsLine_dict (le_trans h6 (by rw[qt,qv];omega))) ?_);show qb ?_;show h h' B.objs.size _ (Heap.get?_none_of_le (q9 _)) #[tt,sl,?_] ?_ λb ob h7 hb=>?_
 .show(hs.2 x G).trans (zi _ F rfl)
 .obtain⟨o',es,ep,e1,e2,e3,eu,e4⟩:=J;show#[o',es,ep,e1,e2,e3,eu,λy=>by rw[e4 y]]
 .show(hs.2 b (ne_of_lt (qe hb))).trans ((Heap.get?_update_ne _ _ _ _ h7).trans (qc _ hb))
end
end FL
namespace FL
open PySem PySem.Spec PyProof.Rows L2
open PySem.W (Frag nsIn findIn findObj)
def iO(K:Frag)(n:Str):Sp:=λvs H Q _=>∃e C F B i,vs=[.ref e,.int i]/\mW K C F B n/\H e=⇑(.ext (eU e C none))/\∀d,H d=none->d≠e->Q .non (upd (upd H e (.ext (eU e C ⇑d))) d (.xd [(n,.int i)]))
def ka(K:Frag)(ta B:TE)(n:Str):TS:=λD Z H=>B Z H λy H1=>ta Z H1 λx H2=>∃e C G F,x=.ref e/\mW K C G F n/\H2 e=⇑(.ext (eU e C none))/\∀d,H2 d=none->d≠e->D.nx Z (upd (upd H2 e (.ext (eU e C ⇑d))) d (.xd [(n,y)]))
def Je(z:eU e C dx h):zS P w H h e (.ext (eU e C dx)):=#[z,let#[_,_,q]:=z;#[_,q],λ_ _⟨t,B,q⟩ k=>#[t,B,k _ q]]
def Inv.noH(I:Inv X zT Z H s)(h:s.heap.get? d=none):H d=none:=by
 cases z:H d with
 |none=>rfl
 |some o=>let#[v,z]:=zS.there (I.hok d o z);rw[h]at z;cases z
def Ub(I:Inv X zT Z H s)(F:H e=⇑(.ext (eU e C none)))(k:mW X.K C Wb fI n)(ry:zJ y u)
  (h:∀s' d,H d=none->d≠e->Inv X zT Z (upd (upd H e (.ext (eU e C ⇑d))) d (.xd [(n,y)])) s'->Q () s'):wpAny (model X.prog X.w) A (setAttr (.ref e) n u) Q E s:=by
 let#[hm,#[oe,he],_]:=(show zS X.prog X.w H s.heap e (.ext (eU e C none)) from I.hok e _ F)
 show OW I.kIn k hm λh' dx tk M L h1 keep=>?_;let hd:H dx=none:=Inv.noH I M;let h2:dx≠e:=λz=>by rw[z,he]at M;cases M
 let G:∀b,H b=none->b≠e:=λb q z=>by rw[z,F]at q;cases q
 let J:∀b o u,s.heap.get? b=⇑u->b≠e->H b=o->(upd (upd H e (.ext (eU e C ⇑dx))) dx (.xd [(n,y)])) b=o:=λb o u q z r=>by rw[Aj (λz=>by rw[z,M]at q;cases q),Aj z];show r
 let B:∀b o,b≠e->H b=⇑o->(upd (upd H e (.ext (eU e C ⇑dx))) dx (.xd [(n,y)])) b=⇑o:=λb o z r=>by let#[u,q]:=zS.there (I.hok b o r);show J b _ u q z r
 refine h _ dx hd h2 (I.call (ch:=[]) (g':=s.gens) (d':=s.drawn) (t':=tk) ⟨λb o q r _ _=>keep b o (G b r) q,λb o q r _ _=>#[o.slots,keep b o (G b r) q],λb o q r _=>J b _ o q (G b r) r,λb o q _=>?_,
  λb xs q=>B b _ (λz=>by rw[z,F]at q;cases q) q,λb o u q=>B b _ (λz=>by rw[z,F]at q;cases q) q,λb ps q=>#[#[],by rw[B b _ (λz=>by rw[z,F]at q;cases q) q];simp]⟩ (λb o q=>?_) I.bare λb hb=>absurd hb (by simp))
 .by_cases z:b=e
  .subst z;let#[_,_,z]:=L;show#[_,z]
  .show#[o,keep b o z q]
 .by_cases z:b=dx
  .subst z;rw[AI]at q;cases q;show#[_,h1,λf=>?_];by_cases hf:f=n
   .subst hf;simp[fQ,ry]
   .let:(f==n)=false:=beq_eq_false_iff_ne.mpr hf;simp[fQ,List.lookup,hf,this]
  .rw[Aj z]at q;by_cases Y:b=e
   .subst Y;rw[AI]at q;cases q;show Je L
   .rw[Aj Y]at q;show(I.hok b o q).stay (λc u O r=>keep c u ?_ r) (λc r=>B c _ (λz=>by rw[z,F]at r;cases r) r) λc xs r=>B c _ (λz=>by rw[z,F]at r;cases r) r;rcases O with rfl|O
    .show Y
    .show λz=>by rw[z,F]at O;cases O
def MI(ha:PE X o ta)(Y:PE X value F)(hs:swapsWith value ⇑(.Attribute o n pos') pos.line X.env=pure false):PS X (.Assign [.Attribute o n pos'] value pos) (ka X.K ta F n):=by intro zT s Z H D I h;show plainObj_wpAny_Assign_Attribute (Af (Y zT s Z H _ I h) λu G B=>?_) hs;let#[y,H1,I1,J,q]:=B;show Af (ha zT G Z H1 _ I1 q) λO s2 B=>?_;let#[x,H2,I2,L,e,C,Wb,fI,ex,k,ee,M]:=B;subst ex;obtain rfl:O=Value.ref e:=L;show Ub I2 ee k J λs3 d h1 h2 I3=>#[Z,_,I3,M d h1 h2]
@[inline]def eF:Stmt->Stmt
 |.ClassDef _ _ _ b _ _ _ _ _ _ _=>(b.find? λ|.FunctionDef ..=>true|_=>false).getD (.Pass #[0,0,0,0])
 |s=>s
section
variable{K:Frag}{st:Stmt}
def Hr(Fn:pD K x qual st f fd)(Sc:aC [a,b] [a,b] (aA st))(M:bB st=[.Assign [.Attribute (.Name a p1) n p2] (.Name b p3) p4])(L:uQ (aA st) a:=by first|show Or.inl rfl|show Or.inr (Or.inl rfl)|show Or.inr (Or.inr rfl))(J:uQ (aA st) b:=by first|show Or.inl rfl|show Or.inr (Or.inl rfl)|show Or.inr (Or.inr rfl))
  (da:autoParam ((a==("__debug__":Str))=false) dZ9)(Y:autoParam ((b==("__debug__":Str))=false) dZ9)(ca:autoParam ((a==("__classdict__":Str))=false) dZ9)(cb:autoParam ((b==("__classdict__":Str))=false) dZ9):
  dH P w K mg base (fU P w) 1 f fd [a,b] (iO K n):=by
 show Fn.okX Sc (λvs H Q E h=>?_) λh3 A B s H vs Q E hr h=>?_
 .obtain⟨e,C,G,F,i,rfl,_⟩:=h;rfl
 .obtain⟨e,C,G,F,i,rfl,k,O,q⟩:=h;show#[_,by rw[M];show Kl (MI (Hc (i:=0) rfl L da ca) (Hc (i:=1) rfl J Y cb) rfl),?_];show#[_,rfl,_,rfl,e,C,G,F,rfl,k,O,λd h1 h2=>q d h1 h2]
end
def Inv.adoptM(I:Inv X zT Z H s)(F:bK X zT H e)(z:eU e C none s.heap):Inv X zT Z (upd H e (.ext (eU e C none))) s:=by
 let#[Y,O,f2,M,L,J]:=F;let B:∀b o,H b=⇑o->b≠e:=λb o q z=>by rw[z,Y]at q;cases q
 show I.call' (ch:=[e]) rfl #[λb o q _ _ _=>q,λb o q _ _ _=>#[o.slots,q],λb o _ n x=>(Aj λz=>x (by simp[z])).trans n,λb o q _=>#[o,q],λb xs q=>(Aj (B _ _ q)).trans q,λb o u q=>(Aj (B _ _ q)).trans q,λb ps q=>#[#[],by rw[Aj (B _ _ q),q];simp]] (λb o q=>?_) I.bare λb G=>?_
 .by_cases G:b=e
  .subst G;rw[AI]at q;cases q;show Je z
  .rw[Aj G]at q;show(I.hok b o q).stay (λ_ _ _ z=>z) (λc z=>(Aj (B _ _ z)).trans z) λc xs z=>(Aj (B _ _ z)).trans z
 .rw[qu.mp G];show#[M,O,L,J]
def Inv.unadopt{H':Hp}(I:Inv X zT Z H' s)(hn:H e=none)(F:bK X zT H e)(B:∀b,b≠e->H' b=H b)(L:∀o,H' e=⇑o->∃φ,o=.ext φ):Inv X zT Z H s:=by
 obtain⟨f0,f1,f2,Y,O,M⟩:=F;let J:∀b o,H' b=⇑o->(∀φ,o≠.ext φ)->H b=⇑o:=λb o q z=>by
  by_cases G:b=e
  .subst G;let#[φ,r]:=L o q;show absurd r (z φ)
  .rw[<-B b G];show q
 show I.call' (ch:=[e]) rfl #[λb o q _ _ _=>q,λb o q _ _ _=>#[o.slots,q],λb o _ n x=>by rw[<-B b λz=>x (by simp[z])];show n,λb o q _=>#[o,q],λb xs q=>J _ _ q (λφ z=>by cases z),λb o u q=>J _ _ q (λφ z=>by cases z),λb ps q=>#[#[],by rw[J _ _ q (λφ z=>by cases z)];simp]] (λb o q=>?_) I.bare λb G=>?_
 .let G:b≠e:=λz=>by rw[z,hn]at q;cases q
  rw[<-B b G]at q;show(I.hok b o q).stay (λ_ _ _ z=>z) (λc z=>J _ _ z (λφ z=>by cases z)) λc xs z=>J _ _ z (λφ z=>by cases z)
 .rw[qu.mp G];show#[Y,f1,O,M]
def Sq(k:mW X.K C Wb fI n)(Fk:dH X.prog X.w X.K X.mg X.base (fU X.prog X.w) kk fI fd ps (iO X.K n))(hb:Binds X.K fd ps [])(hr:bD (kk+1) X.A)(L:X.mg x=⇑(.ref C))(hc:X.calm=true)(hg:Gl X x)(ha:PE X a ta)
  (hd:(x==("__debug__":Str))=false)(he:starEach [a] X.env=[(false,eval a X.env)]):
  PS X (.Raise ⇑(.Call (.Name x np) [a] [] cpos) none pos) (λ_ Z H=>ta Z H λv H1=>∃i,v=.int i/\∀d,H1 d=none->XW X Z (.ref C) ⇑d (upd H1 d (.xd [(n,.int i)]))):=by
 intro zT s Z H D I h;let#[dd,nm,bs,ns,qn,sn,sub,ab,col,k0,k1,k2,k3,k5,lk]:=k.lk;show Th (C:=C) (nm:=nm) (q:=qn) (N:=ns) (bs:=bs) (bm:=.ref Wb::eV) (hdct:=true) (sn:=sn) (sub:=sub) (ab:=ab) (col:=col) (dd:=dd) (k0:=k0) (k1:=k1) (k2:=k2) (k3:=k3) (k5:=k5) F.excBase_ValueError k.hi k.hf (by simp) (I.ok.hd hc) (by rw[he];rfl) (Gw I hg L #[rfl,?_] hd);rw[he];show Calls.evalArgs_plain ?_;show Calls.spliced_cons (Af (ha zT s Z H _ I h) λu s1 zq=>Calls.spliced_nil ?_);let#[v,H1,G,M,i,rfl,q]:=zq;let#[t,rfl]:=(show∃t,u=Value.int i t from M)
 show#[rfl,by rw[zm];show 1<=_;omega,G.kIn _ _ lk,G.kIn,k.tail G.kIn,λh' e m=>?_];let hn:=Inv.noH G m.new;let#[tt,Y,_,_]:=m.there;let I2:Inv X zT Z (upd H1 e (.ext (eU e C none))) {s1 with heap:=h'}:=Inv.adoptM (G.kept (t':=s1.toks) m.keeps) (G.fpNew m.new hn) ⟨tt,_,Y⟩;let r2:zQ [V.ref e,V.int i] [Value.ref e,Value.int i t]:=.cons rfl (.cons #[t,rfl] .nil);let hl:([Value.ref e,Value.int i t]++[]).length=ps.length:=(Fk.len [.ref e,.int i] (upd H1 e (.ext (eU e C none))) (λ_ _=>True) (λ_ _ _=>False) #[e,C,Wb,fI,i,rfl,k,AI,λ_ _ _=>trivial])
 show wpAny_call (codeAny_mono (Fk.run _ X.stack _ _ #[[Value.ref e,Value.int i t],[]] [Value.ref e,Value.int i t] [.ref e,.int i] (λv H'=>v=.non/\∃d,H1 d=none/\d≠e/\H'=upd (upd (upd H1 e (.ext (eU e C none))) e (.ext (eU e C ⇑d))) d (.xd [(n,.int i)])) (λ_ _ _=>False) (hr.make C _ []) (I2.env0.make C _ []) (hb _ [Value.ref e,Value.int i t] I2.kIn hl) r2 #[e,C,Wb,fI,i,rfl,k,AI,λd h1 h2=>#[rfl,d,by rw[Aj h2]at h1;show h1,h2,rfl]]) λr s' B=>?_);cases r with
 |error u=>let#[_,_,_,_,_,_,_,_,_,z,_]:=B;show z.elim
 |ok fl=>
  cases fl with
  |ret u=>
   let#[v,H',I3,M,rfl,d,h1,h2,rfl]:=I2.after B;let eH:(upd (upd (upd H1 e (.ext (eU e C none))) e (.ext (eU e C ⇑d))) d (.xd [(n,.int i)])) e=⇑(.ext (eU e C ⇑d)):=by rw[Aj (Ne.symm h2),AI]
   let#[L,_,_]:=(show zS X.prog X.w _ s'.heap e (.ext (eU e C ⇑d)) from I3.hok e _ eH)
   let J:(upd H1 d (.xd [(n,.int i)])) e=none:=by rw[Aj (Ne.symm h2)];show hn
   have fp:bK X zT (upd H1 d (.xd [(n,.int i)])) e:=G.fpNew m.new J;let I4:Inv X zT Z (upd H1 d (.xd [(n,.int i)])) s':=Inv.unadopt I3 J fp (λb hb=>by
    unfold upd;by_cases z:b=d
    .simp[z]
    .simp[z,hb]) λo z=>by rw[eH]at z;cases z;show#[_,rfl]
   let#[t1,h3,O]:=id L;show#[M,I3.kIn _ _ lk,⇑d,L,q d h1 e s' I4.few (hH.few #[fp,_,_,O,rfl,rfl,rfl,.inl rfl])]
  |next=>show False.elim B
  |brk=>show False.elim B
  |cont=>show False.elim B
def mW.ck{K:Frag}(k:mW K C Wb fI n):ae K C:=λh X=>by let#[dd,nm,bs,L,J,G,sub,ab,F,k0,k1,Y,O,M,lk]:=k.lk;show#[_,#[nm,J,L,bs,true,G,sub,ab,F,dd,k0,k1,Y,O,M,hW,X _ _ lk,by simp],λB e=>?_];unfold W.mroIn W.clsIn at e;rw[lk]at e;simpa using e
def Ia(hf:(#[f.toArray]:Str)=n)(k:mW X.K C Wb fI n)(Fk:dH X.prog X.w X.K X.mg X.base (fU X.prog X.w) kk fI fd ps (iO X.K n))(hb:Binds X.K fd ps [])(hm:X.mg x=⇑(.ref C))(h1:nsIn X.K mainGlobals (#[c.toArray]:Str)=⇑⇑(.ref C))(hr:bD j X.A)(ha:FE X a wa)
  (hj:autoParam (kk+1<=j) dZ9)(hc:autoParam (X.calm=true) rZ9)(hg:autoParam (Gl X x) rZ9)(M:autoParam ((x==("__debug__":Str))=false) dZ9)(he:autoParam (starEach [a] X.env=[(false,eval a X.env)]) rZ9):
  FS X ks (.Raise ⇑(.Call (.Name x np) [a] [] cpos) none pos) (dJ c f wa):=λpn xe B=>PS.imp (Sq (X:=wp X pn xe) k Fk hb (hr.mono hj) hm hc hg (ha pn xe B) M he) λD Z H q=>by
 subst hf;let#[F,G,U,E,O,hw,n,b,c,r,hx]:=q;show#[F,G,U,_,_,O,hw,λr J v F1 H1 B s1 L rv=>?_,hx.mono (λh2 z=>by rw[z];show KP.refl) (zF.refl F) (zF.refl G)];let hl:=Ag L;cases Y:view r J with
 |none=>rw[Y]at B;show B.elim
 |some d=>
  rw[Y]at B;let rp:=look (U':=[]) (Z':=[]) L hl rv Y;cases rp with
  |int i=>show#[i,rfl,λd M a s' I Fl=>?_];show hx _ J Z (upd F1 d (.xd [((#[f.toArray]:Str),.int i)])) (upd H1 d (.xd [((#[f.toArray]:Str),.int i)])) (.ref a) s' B KP.refl (s1.trans (zF.upd (L.free M).1)) ((L.drop hl).newF M) I #[a,C,⇑d,rfl,#[_,_,_,rfl,h1,.inr #[d,f,i,rfl,rfl,rfl,AI]],Fl]
  |_=>show B.elim
end FL
namespace L2
open PySem PySem.Spec PyProof.Rows
def cC(cells:List (Str×Addr)):List (Str×NameKind)->List (Str×Addr)->List (Str×Addr)
 |[],zY=>zY
 |(n,k)::r,zY=>if k==.free then(match cells.lookup n with|some c=>cC cells r ((n,c)::zY)|none=>cC cells r zY)else cC cells r zY
def Iv(f:Str×NameKind->List (Str×Addr)->Sem (ForInStep (List (Str×Addr))))
  (hf:∀n k cs,f (n,k) cs=if k==.free then(do let a<-cellOf env n;pure (.yield ((n,a)::cs)))else pure (.yield cs)):
  ∀(names:List (Str×NameKind))(zY:List (Str×Addr)),(∀x∈names,x.2=.free->∃c,env.cells.lookup x.1=⇑c)->(forIn names zY f:Sem _)=pure (cC env.cells names zY)
 |[],zY,_=>by rw[forIn_nil];rfl
 |(n,k)::r,zY,h=>by
  rw[forIn_cons,hf];let hr:∀x∈r,x.2=.free->∃c,env.cells.lookup x.1=⇑c:=λx hx=>h x (qk _ hx);by_cases hk:(k==.free)=true
  .obtain⟨c,hc⟩:=h (n,k) qm ↑hk;let hc':env.cells.lookup n=⇑c:=hc;let e:cellOf env n=pure c:=by unfold cellOf;rw[hc']
   rw[qZ hk,e];let ih:=Iv f hf r ((n,c)::zY) hr;unfold cC;rw[qZ hk,hc'];rw[<-ih];simp
  .rw[q8 hk];let ih:=Iv f hf r zY hr;unfold cC;rw[q8 hk,<-ih];simp
def UE(h:∀x∈scope.names,x.2=.free->∃c,env.cells.lookup x.1=⇑c):closureFor scope env=pure (cC env.cells scope.names []):=by show(forIn scope.names ([]:List (Str×Addr)) _>>=λcs=>pure cs)=_;rw[Iv (env:=env) _ (λn k cs=>rfl) scope.names [] h];rfl
def GQ:∀{names:List (Str×NameKind)}{B:List (Str×Addr)},(n,c)∈cC cells names B->(n,c)∈B\/((n,NameKind.free)∈names/\cells.lookup n=⇑c)
 |[],_,h=>.inl h
 |(m,k)::r,B,h=>by
  unfold cC at h;by_cases G:(k==.free)=true
  .rw[qZ G]at h;let F:k=.free:=by simpa using G
   cases q:cells.lookup m with
   |none=>
    rw[q]at h;rcases GQ h with z|⟨z,w⟩
    .show .inl z
    .show .inr #[qk _ z,w]
   |some d=>
    rw[q]at h;rcases GQ h with z|⟨z,w⟩
    .rcases qA.mp z with e|z
     .cases e;show .inr #[by rw[<-F];show qm,q]
     .show .inl z
    .show .inr #[qk _ z,w]
  .rw[q8 G]at h;rcases GQ h with z|⟨z,w⟩
   .show .inl z
   .show .inr #[qk _ z,w]
def Fs(F:cells.lookup n=⇑c):∀{names:List (Str×NameKind)}{B:List (Str×Addr)},((n,c)∈B\/(n,NameKind.free)∈names)->(n,c)∈cC cells names B
 |[],_,h=>h.elim id λz=>by simp at z
 |(m,k)::r,B,h=>by
  unfold cC;by_cases G:(k==.free)=true
  .rw[qZ G];cases q:cells.lookup m with
   |none=>
    show Fs F ?_;rcases h with z|z
    .show .inl z
    .rcases qA.mp z with e|z
     .cases e;rw[F]at q;cases q
     .show .inr z
   |some d=>
    show Fs F ?_;rcases h with z|z
    .show .inl (qk _ z)
    .rcases qA.mp z with e|z
     .cases e;rw[F]at q;cases q;show .inl qm
     .show .inr z
  .rw[q8 G];show Fs F ?_;rcases h with z|z
   .show .inl z
   .rcases qA.mp z with e|z
    .cases e;show(G ⋯).elim
    .show .inr z
def Ms{α:Type}:∀{l:List (Str×α)}{n:Str}{c:α},(n,c)∈l->(∀B,(n,B)∈l->B=c)->l.lookup n=⇑c
 |[],_,_,h,_=>by simp at h
 |(m,d)::r,n,c,h,u=>by
  rw[lookup_cons];cases F:n==m with
  |true=>
   let e:n=m:=↑F
   subst e;show congrArg some (u d qm)
  |false=>
   show Ms (l:=r) ?_ λB G=>u B (qk _ G);rcases qA.mp h with e|h
   .cases e;simp at F
   .show h
def IB:∀{names:List (Str×NameKind)}{n:Nat}{B:List (Str×Addr)}{x:Str}{c:Addr},(x,c)∈cellsFrom n names B->(x,c)∈B\/((x,NameKind.cell)∈names/\n<=c)
 |[],_,_,_,_,h=>.inl h
 |(m,k)::r,n,B,x,c,h=>by
  unfold cellsFrom at h;by_cases G:(k==.cell)=true
  .rw[qZ G]at h;let F:k=.cell:=by simpa using G
   rcases IB h with z|⟨z,w⟩
   .rcases qA.mp z with e|z
    .cases e;show .inr #[by rw[<-F];show qm,q9 _]
    .show .inl z
   .show .inr #[qk _ z,∅]
  .rw[q8 G]at h;rcases IB h with z|⟨z,w⟩
   .show .inl z
   .show .inr #[qk _ z,w]
def Fy:∀{names:List (Str×NameKind)}{n:Nat}{B:List (Str×Addr)}{x:Str},((x,NameKind.cell)∈names\/∃c,(x,c)∈B)->∃c,(x,c)∈cellsFrom n names B
 |[],_,_,_,h=>h.elim (λz=>by simp at z) id
 |(m,k)::r,n,B,x,h=>by
  unfold cellsFrom;by_cases F:(k==.cell)=true
  .rw[qZ F];show Fy ?_;rcases h with z|⟨c,z⟩
   .rcases qA.mp z with e|z
    .cases e;show .inr #[n,qm]
    .show .inl z
   .show .inr #[c,qk _ z]
  .rw[q8 F];show Fy ?_;rcases h with z|z
   .rcases qA.mp z with e|z
    .cases e;show(F ⋯).elim
    .show .inl z
   .show .inr z
def GU{α:Type}:∀{l:List (Str×α)}{x:Str},(∃c,(x,c)∈l)->∃c,l.lookup x=⇑c
 |[],_,⟨_,h⟩=>by simp at h
 |(m,d)::r,x,⟨c,h⟩=>by
  rw[lookup_cons];cases B:x==m with
  |true=>show#[d,rfl]
  |false=>
   show GU (l:=r) #[c,?_];rcases qA.mp h with e|h
   .cases e;simp at B
   .show h
def IA:∀{names:List (Str×NameKind)}{n:Nat}{B:List (Str×Addr)},(∀p∈B,p.2<n)->(∀p∈B,∀q∈B,p.2=q.2->p.1=q.1)->
  ∀p∈cellsFrom n names B,∀q∈cellsFrom n names B,p.2=q.2->p.1=q.1
 |[],_,_,_,h=>h
 |(m,k)::r,n,B,hb,h=>by
  unfold cellsFrom;by_cases L:(k==.cell)=true
  .rw[qZ L];refine IA (λp F=>?_) λp F q G e=>?_
   .rcases qA.mp F with rfl|F
    .show lt_succ_self _
    .show lt_succ_of_lt (hb p F)
   .rcases qA.mp F with rfl|F<;>rcases qA.mp G with rfl|G
    .rfl
    .let h1:=hb q G;let J:n=q.2:=e;show absurd h1 (by rw[<-J];show lt_irrefl _)
    .let h1:=hb p F;let J:p.2=n:=e;show absurd h1 (by rw[J];show lt_irrefl _)
    .show h p F q G e
  .rw[q8 L];show IA hb h
def Uc
  (hQ:∀h':Heap,(∀b o,s.heap.get? b=⇑o->h'.get? b=⇑o)->h'.Ns s.heap.objs.size (λ_=>none)->(∀x c,(x,c)∈cellsFrom (s.heap.objs.size+1) scope.names G->(x,c)∈G\/h'.IsCell c none)->
   Q {scope:=scope,locals:=s.heap.objs.size,globals:=globals,cells:=cellsFrom (s.heap.objs.size+1) scope.names G,qual:=qual,func:=none,code:=env.code,frame:=env.frame,builtins:=env.builtins} {s with heap:=h'}):
  wpAny M A (newFunctionEnv scope globals G [] qual none .none ⇑env) Q E s:=by
 simp only[newFunctionEnv,Option.isSome_some,if_true];show qa (wpAny_alloc ?_);show qa (wpAny_layCells _ (λL kind cells=>by cases h1:kind==NameKind.cell<;>simp) _ _ _ _ ?_);rw[show({s with heap:=s.heap.push {cls:=.type "dict",data:=.dict #[]}}:Shared).heap.objs.size=s.heap.objs.size+1 from Heap.size_push ..];show qb (hQ _ (λb o e=>pushCells_keeps _ _ b o (qc _ e)) ((Heap.Ns.new s.heap (.type "dict")).keeps (pushCells_keeps _ _)) λx c h=>?_)
 --the new cells are empty
 have all:∀(names:List (Str×NameKind))(h:Heap)(F:List (Str×Addr)),(∀p∈F,p∈G\/h.IsCell p.2 none)->∀p∈cellsFrom h.objs.size names F,p∈G\/(pushCells h names).IsCell p.2 none:=by
  intro names;induction names with
  |nil=>intro h F J p B;show J p B
  |cons q r O=>
   intro h F J p B;let#[m,k]:=q;unfold cellsFrom at B;unfold pushCells;by_cases Y:(k==.cell)=true
   .rw[qZ Y]at B⊢;let e:(h.push {cls:=.type "cell",data:=.cell none}).objs.size=h.objs.size+1:=Heap.size_push ..;rw[<-e]at B;show O _ _ (λp B=>?_) p B;rcases qA.mp B with rfl|B
    .show .inr #[_,qd _ rfl,rfl]
    .rcases J p B with z|z
     .show .inl z
     .show .inr (z.keeps λb o e=>qc _ e)
   .rw[q8 Y]at B⊢;show O h F J p B
 let:=all scope.names (s.heap.push {cls:=.type "dict",data:=.dict #[]}) G (λp B=>.inl B) (x,c) (by rw[Heap.size_push];show h);show this
def fO(N vars:List Str):List Str:=N.map (λx=>if x∈vars then Str.empty else x)++Str.empty::vars
def aO(X:Cx)(scope:Scope)(vars:List Str)(s:Shared)(H:Hp)(ex:List Addr):Cx where
 prog:=X.prog
 w:=X.w
 K:=X.K
 mg:=X.mg
 base:=X.base
 A:=X.A
 N:=fO X.N vars
 s₀:=s
 H₀:=H
 env:=compEnvC scope (cellsFrom (s.heap.objs.size+1) scope.names (cC X.env.cells scope.names [])) s.heap.objs.size X.env
 outer:=X.stack
 stack:=X.stack
 ex:=ex
 fn:=λx=>↥((x,NameKind.cell)∈scope.names)
 calm:=X.calm
 pn:=[]
 xe:=λ_ _=>False
structure cL(outer scope:Scope)(N vars:List Str):Prop where
 kind:scope.kind=.function
 fr:∀x∈scope.names,x.2=.free->outer.names.lookup x.1=⇑.cell\/outer.names.lookup x.1=⇑.free
 nd:(scope.names.map (·.1)).Nodup
 own:∀x∈N,x∉vars->(x,NameKind.local)∉scope.names/\(x,NameKind.cell)∉scope.names
 emp:scope.names.lookup Str.empty=none
def GX{α:Type}{l:List (Str×α)}{c:α}(B:(l.map (·.1)).Nodup):l.lookup n=⇑c↔(n,c)∈l:=by
 show#[mem_of_lookup,λh=>Ms h λG h'=>?_];induction l with
 |nil=>simp at h
 |cons p r F=>grind
theorem Mo{α β:Type}(g:Str->α->β):∀(l:List (Str×α))(n:Str),(l.map λp=>(p.1,g p.1 p.2)).lookup n=(l.lookup n).map (g n)
 |[],_=>rfl
 |(m,d)::r,n=>by
  rw[qy,lookup_cons,lookup_cons];cases B:n==m with
  |true=>have e:n=m:=by simpa using B
         subst e;rfl
  |false=>show Mo g r n
def rl(env:PySem.Env)(n:Str)(k:NameKind):NameKind:=if(k==NameKind.free&&env.scope.kind==.function&&env.kindOf n==⇑.cell)then NameKind.cell else k
def UI(scope:Scope)(env:PySem.Env):(relabel scope env).names=scope.names.map λp=>(p.1,rl env p.1 p.2):=by
 show map_congr_left λp _=>?_;let#[n,k]:=p;show(if(k==NameKind.free&&env.scope.kind==.function&&env.kindOf n==⇑.cell)=true then(n,NameKind.cell)else(n,k))=(n,rl env n k);unfold rl;by_cases h:(k==NameKind.free&&env.scope.kind==.function&&env.kindOf n==⇑.cell)=true
 .rw[qZ h,qZ h]
 .rw[q8 h,q8 h]
def GW(scope:Scope)(env:PySem.Env)(x:Str):(relabel scope env).names.lookup x=(scope.names.lookup x).map (rl env x):=by rw[UI,Mo]
def Fe(h:k≠.free):rl env x k=k:=by unfold rl;rw[q8];intro z;simp at z;show h z.1.1
def Po:rl env x .free=.cell\/rl env x .free=.free:=by
 unfold rl;split
 .show .inl rfl
 .show .inr rfl
def Si(h:(fO N vars)[i]?=⇑x)(hi:i<N.length):(N[i]?=⇑x/\x∉vars)\/x=Str.empty:=by
 unfold fO at h;rw[getElem?_append_left ↑hi,qE]at h;cases q:N[i]? with
 |none=>rw[q]at h;cases h
 |some y=>grind
def Inv.comp(I:Inv X zT Z H s)(S:cL X.env.scope scope X.N vars)(hex:∀b∈ex,bK X zT H b/\b<s.heap.objs.size)(kept:∀b o,s.heap.get? b=⇑o->h'.get? b=⇑o)(h7:h'.Ns s.heap.objs.size (λ_=>none))
  (h9:∀x c,(x,c)∈cellsFrom (s.heap.objs.size+1) scope.names (cC X.env.cells scope.names [])->(x,c)∈cC X.env.cells scope.names []\/h'.IsCell c none)(hk:vars.length=k)(w0:Option V):
  Inv (aO X scope vars s H ex) [] (Z++w0::List.replicate k none) H {s with heap:=h'}:=by
 have cm:∀{x:Str}{c:Addr},(x,c)∈cC X.env.cells scope.names []->(x,NameKind.free)∈scope.names/\X.env.cells.lookup x=⇑c:=λ{x c} h=>by
  rcases GQ h with z|z
  .simp at z
  .show z
 let lt:∀{x:Str}{c:Addr},X.env.cells.lookup x=⇑c->c<s.heap.objs.size:=λ{x c} h=>by let#[v,z]:=I.cell x c h;show z.lt
 have look:∀{x:Str}{c:Addr},(aO X scope vars s H ex).env.cells.lookup x=⇑c->(X.env.cells.lookup x=⇑c/\(x,NameKind.free)∈scope.names)\/((x,NameKind.cell)∈scope.names/\s.heap.objs.size+1<=c):=λ{x c} h=>by
  rcases IB (mem_of_lookup h)with z|z
  .show .inl #[(cm z).2,(cm z).1]
  .show .inr z
 let uniq:∀{x:Str}{a b:NameKind},(x,a)∈scope.names->(x,b)∈scope.names->a=b:=λ{x a b} h1 h2=>by let e1:=(GX S.nd).mpr h1;let e2:=(GX S.nd).mpr h2;rw[e1]at e2;show qf e2
 --what a visible name is,seen from around
 have h4:∀{x:Str},((relabel scope X.env).names.lookup x=⇑.cell\/(relabel scope X.env).names.lookup x=⇑.free)->(x,NameKind.cell)∈scope.names\/(x,NameKind.free)∈scope.names:=λ{x} h=>by
  rw[GW]at h;cases q:scope.names.lookup x with
  |none=>rw[q]at h;rcases h with h|h<;>cases h
  |some k=>
   let L:=mem_of_lookup q;rw[q]at h;let h0:⇑(rl X.env x k)=⇑.cell\/⇑(rl X.env x k)=⇑.free:=h;cases k with
   |cell=>show .inl L
   |free=>show .inr L
   |«local»=>rw[Fe ⋯]at h0;rcases h0 with h|h<;>cases h
   |globalImplicit=>rw[Fe ⋯]at h0;rcases h0 with h|h<;>cases h
   |globalExplicit=>rw[Fe ⋯]at h0;rcases h0 with h|h<;>cases h
 have ok:(aO X scope vars s H ex).Ok:=by
  show#[I.ok.mod,S.kind,I.ok.glob,I.ok.blt,q9 _,λx y c h1 h2=>?_,λx h=>?_,λx c hf h=>?_,I.ok.hd,I.ok.frames,.inl rfl,λb M=>#[?_,λx c h z=>?_],I.bs,le_trans I.ok.bsz I.sz,λb o e M=>?_,λb M z=>?_,I.stack,I.stkFree]
  .refine IA (λp hp=>?_) (λp hp q hq e=>?_) (x,c) (mem_of_lookup h1) (y,c) (mem_of_lookup h2) rfl
   .show lt_succ_of_lt (lt (cm (x:=p.1) (c:=p.2) hp).2)
   .show I.ok.inj _ _ _ (cm (x:=p.1) (c:=p.2) hp).2 (e▸(cm (x:=q.1) (c:=q.2) hq).2)
  .rcases h4 h with z|z
   .show GU (Fy (.inl z))
   .obtain⟨c,hc⟩:=I.ok.has x (S.fr (x,.free) z rfl);show GU (Fy (.inr #[c,Fs hc (.inr z)]))
  .let h8:(x,NameKind.cell)∈scope.names:=qT hf;rcases look h with⟨_,z⟩|⟨_,z⟩
   .cases uniq h8 z
   .show Nat.le_of_succ_le z
  .show ne_of_lt (hex b M).2
  .rcases look h with⟨w,_⟩|⟨_,w⟩
   .show(hex b M).1.2.2.2.2.1 x c w z
   .let h1:=(hex b M).2;rw[<-z]at h1;show absurd (lt_of_lt_of_le h1 (Nat.le_of_succ_le w)) (lt_irrefl _)
  .obtain⟨_,_,_,h1,_⟩:=(hex b M).1;rcases h1 with z|z
   .show I.ok.noex b o e z
   .rw[(I.ok.bs b o e).1]at z;cases z
  .obtain⟨_,h2,O,_⟩:=(hex b M).1;rcases qA.mp (I.stkSub b z)with w|w
   .show h2 w
   .show O w
 let F:∀{c:Addr}{v:Option Value},s.heap.IsCell c v->h'.IsCell c v:=λz=>z.keeps kept;show#[ok,rfl,I.bare,Un.kept kept,#[_,h7,λi x v h1 h2 O=>?_],λx c h=>?_,I.hok.fresh (q9 _),λx c h=>?_,λp hp=>absurd (show p∈([]:List (Addr×Obj)) from hp) (by simp),I.hok.kept kept,?_]
 ·--a slot of the context
  let h5:¬uQ (aO X scope vars s H ex).env.scope Str.empty:=λO=>by let G:(relabel scope X.env).names.lookup Str.empty=⇑.local\/(relabel scope X.env).names.lookup Str.empty=⇑.cell\/(relabel scope X.env).names.lookup Str.empty=⇑.free:=O;rw[GW,S.emp]at G;rcases G with z|z|z<;>cases z
  have hi:i<Z.length:=by
   by_cases hi:i<Z.length
   .show hi
   .exfalso;rw[getElem?_append_right (not_lt.mp hi)]at h2;cases q:i-Z.length with
    |zero=>
     let e:i=X.N.length:=by let:=I.len;lia
     rw[e]at h1;let Y:(fO X.N vars)[X.N.length]?=⇑x:=h1;unfold fO at Y;simp at Y;subst Y;show h5 O
    |succ j=>rw[q,List.getElem?_cons_succ,List.getElem?_replicate]at h2;split at h2<;>cases h2
  rw[getElem?_append_left hi]at h2;rcases Si h1 (by rw[<-I.len];show hi)with⟨h1,hx⟩|rfl
  .have own:=S.own x (qL h1) hx;let B:(x,NameKind.free)∈scope.names:=by
    let G:(relabel scope X.env).names.lookup x=⇑.local\/(relabel scope X.env).names.lookup x=⇑.cell\/(relabel scope X.env).names.lookup x=⇑.free:=O;rcases G with z|z
    .rw[GW]at z;cases q:scope.names.lookup x with
     |none=>rw[q]at z;cases z
     |some kk=>
      rw[q]at z;let z0:⇑(rl X.env x kk)=⇑.local:=z;let L:=mem_of_lookup q;cases kk with
      |«local»=>show absurd L own.1
      |cell=>show absurd L own.2
      |free=>show L
      |globalImplicit=>rw[Fe ⋯]at z0;cases z0
      |globalExplicit=>rw[Fe ⋯]at z0;cases z0
    .rcases h4 z with w|w
     .show absurd w own.2
     .show w
   let J:=S.fr (x,.free) B rfl;let#[m,L,hl]:=I.loc;let#[u,r,l]:=hl i x v h1 h2 (J.elim (λz=>.inr (.inl z)) λz=>.inr (.inr z));show#[u,r,.inr #[?_,?_]]
   .show(relabel scope X.env).names.lookup x=⇑.cell\/(relabel scope X.env).names.lookup x=⇑.free;rw[GW,(GX S.nd).mpr B];show ⇑(rl X.env x .free)=_\/⇑(rl X.env x .free)=_;rcases Po (env:=X.env) (x:=x)with e|e<;>rw[e]
    .show .inl rfl
    .show .inr rfl
   .rcases l with⟨z,_⟩|⟨_,c,hc,z⟩
    .let z':X.env.scope.names.lookup x=⇑.local:=z;rcases J with w|w<;>(have w':X.env.scope.names.lookup x=_:=w;rw[w']at z';cases z')
    .show#[c,?_,F z];let#[c',h6]:=GU (Fy (n:=s.heap.objs.size+1) (names:=scope.names) (.inr #[c,Fs hc (.inr B)]));rcases look h6 with⟨w,_⟩|⟨w,_⟩
     .rw[hc]at w;cases w;show h6
     .cases uniq B w
  .show absurd O h5
 .rcases h9 x c (mem_of_lookup h)with z|z
  .obtain⟨v,w⟩:=I.cell x c (cm z).2;show#[v,F w]
  .show#[none,z]
 .rcases look h with⟨w,_⟩|⟨_,w⟩
  .show I.freeC x c w
  .show I.hok.fresh (Nat.le_of_succ_le w)
 .show _=(fO X.N vars).length;unfold fO;simp[I.len,hk]
abbrev TB:=St->Hp->(St->Hp->Prop)->Prop
def mQ(X:Cx)(m:Sem Unit)(t:TB):Prop:=∀(zT:List (Addr×Obj))(s:Shared)(Z:St)(H:Hp)(Q:St->Hp->Prop),Inv X zT Z H s->t Z H Q->
 wpAny (model X.prog X.w) X.A m (λ_ s'=>∃Z' H',Inv X zT Z' H' s'/\Q Z' H') (λ_ _=>False) s
def mS(X:Cx)(ifs:List Expr)(t:TT):Prop:=∀(zT:List (Addr×Obj))(s:Shared)(Z:St)(H:Hp)(Q:Bool->Hp->Prop),Inv X zT Z H s->t Z H Q->
 wpAny (model X.prog X.w) X.A (forIn ifs true λc r=>if r=true then do let ok<-isTrue c X.env (eval c X.env);pure (ForInStep.yield ok)else pure (ForInStep.yield r)) (TP X zT Z Q) X.xe s
def Qu:mS X [] (λ_ H Q=>Q true H):=λzT s Z H Q I q=>wpAny_tests_nil #[H,I,q]
def iM(g:TG)(tc:TT)(tb:TB)(J:It):TB:=λZ H Q=>∃W:Nat->Nat->St->Hp->Prop,(∃m,W 0 m Z H)/\∀i m Z H,W i m Z H->
 (J.stop i H/\Q Z H)\/(J.go i H/\∃N:St->Hp->Prop,(∀Z' H',N Z' H'->∃m',m'<m/\W (i+1) m' Z' H')/\∀x H',J.yld i H x H'->g x Z H' λB H2=>tc B H2 λb F=>if b=true then tb B F N else N B F)
def mR(X:Cx)(e:Expr)(d:Nat)(B:Value)(tg:Expr)(G:It->TB):Prop:=∀(zT:List (Addr×Obj))(s:Shared)(Z:St)(H:Hp)(J:It)(fp:List Addr)(it:Addr)(F:Nat->Heap->Prop)(Q:St->Hp->Prop),Inv X zT Z H s->
 iI X.prog X.w X.K tg J fp it F->F 0 s.heap->(∀b∈fp,bK X zT H b)->G J Z H Q->
 codeAny (model X.prog X.w) X.A (.compLoop e d (.ref it) B X.env) (λr s'=>∃Z' H',r=.ok .next/\Inv X zT Z' H' s'/\Q Z' H') s
def mP(X:Cx)(m:Sem Fin)(c:Code)(t:TB):Prop:=∀(zT:List (Addr×Obj))(s:Shared)(Z:St)(H:Hp)(Q:St->Hp->Prop),Inv X zT Z H s->t Z H Q->
 wpAny (model X.prog X.w) X.A m (λf s'=>f=.again c/\∃Z' H',Inv X zT Z' H' s'/\Q Z' H') (λ_ _=>False) s
def mQ.f(h:mQ X m t):mP X (m>>=λ_=>again c) c t:=λzT s Z H Q I q=>qa (zt (h zT s Z H Q I q) (λ_ s' z=>qb #[rfl,z]) λ_ _ z=>z)
def LL{inner:Addr->Sem Fin}(hc:X.calm=true)(hxe:X.xe=λ_ _=>False)(hg:PG X tg g)(ht:mS X ifs tc)(hr:∀it,mP X (inner it) (.compLoop e d (.ref it) zY X.env) tb)
  (hq:∀it,(Code.compLoop e d (.ref it) zY X.env).quiet=true)(hun:∀it,X.A.under (.compLoop e d (.ref it) zY X.env)=X.A)
  (hden:∀it,(model X.prog X.w).den (.compLoop e d (.ref it) zY X.env)=(compTurn e d (.ref it) zY X.env).onRaise (λx=>do noteFrame x X.env;theTreesLotGoes x))
  (heq:∀it,compTurn e d (.ref it) zY X.env=(standAt ipos>>=λ_=>pyNext (.ref it)>>=λr=>match r with
   |none=>pure (.done .next)
   |some v=>letOwnedTupleGo tg (.ref it) v>>=λ_=>assign tg X.env v>>=λ_=>(forIn ifs true λc r=>if r=true then do let ok<-isTrue c X.env (eval c X.env);pure (ForInStep.yield ok)else pure (ForInStep.yield r))>>=λok=>if ok=true then inner it else again (.compLoop e d (.ref it) zY X.env))):
  mR X e d zY tg (iM g tc tb):=by
 intro zT s Z H J fp it tn Q I T st f ⟨W,⟨m0,w0⟩,turn⟩;let stat:∀{H':Hp},(∀b∈fp,H' b=none)->∀b∈fp,bK X zT H' b:=λhn b hb=>#[hn b hb,(f b hb).2]
 let nox:∀{α:Type}{m:Sem α}{Q:α->Shared->Prop}{E:zu}{s:Shared},wpAny (model X.prog X.w) X.A m Q X.xe s->wpAny (model X.prog X.w) X.A m Q E s:=λh=>zt h (λ_ _ q=>q) λ_ _ x=>by rw[hxe]at x;show x.elim
 show codeAny_loop (hq it) (λn s'=>∃i Z' H',Inv X zT Z' H' s'/\tn i s'.heap/\(∀b∈fp,H' b=none)/\W i n Z' H') ?_ m0 #[0,Z,H,I,st,λb hb=>(f b hb).1,w0];rintro n s3 ⟨i,Z3,H3,I3,st3,fr3,w3⟩;rw[hun,hden];show wpAny_noted ?_;rw[heq];show qa (wpAny_standAt (qa ?_));rcases turn i n Z3 H3 w3 with⟨stop,qn⟩|⟨go,N,hN,step⟩
 .show Af (T.done X rfl rfl rfl hc i zT s3 Z3 H3 _ I3 (stat fr3) st3 stop) λr s4⟨hr,I4⟩=>?_;subst hr;show qb #[Z3,H3,rfl,I4,qn]
 .show Af (T.item X rfl rfl rfl hc i zT s3 Z3 H3 _ I3 (stat fr3) st3 go) λr s4 zq=>?_;let#[u,hr',h4]:=zq;subst hr';show qa (Af h4 λ_ s5 zq=>?_);show cps λ_ kk=>?_;let#[x,H5,I5,r5,y5,st5,fr5]:=zq;show kk ?_;let I5':=I5.pinned (stat fr5) (T.obj _ _ st5);show qa (nox (Af (hg _ s5 Z3 H5 x u _ I5' r5 (step x H5 y5)) λ_ s6 zq=>?_));let#[Z6,H6,I6,q6]:=zq;let again:∀{Z7:St}{H7:Hp}{s7:Shared},Inv X (zT++fH fp s5.heap) Z7 H7 s7->N Z7 H7->∃m,m<n/\∃i Z' H',Inv X zT Z' H' s7/\tn i s7.heap/\(∀b∈fp,H' b=none)/\W i m Z' H':=λ{Z7 H7 s7} I7 n7=>by let#[m',hm,w7]:=hN Z7 H7 n7;show#[m',hm,i+1,Z7,H7,I7.unpinned,T.keep _ _ _ st5 λb hb o e=>(I7.pin (b,o) (qi _ (qi _ (GK hb e)))).1,λb hb=>?_,w7];let#[o,e,d]:=T.obj _ _ st5 b hb;exact(I7.pin (b,o) (qi _ (qi _ (GK hb e)))).2.1
  show qa (nox (Af (ht _ s6 Z6 H6 _ I6 q6) λb s7 zq=>?_));let#[H7,I7,q7]:=zq;cases b with
  |true=>show zt (hr it _ s7 Z6 H7 _ I7 q7) (λf s8 zq=>?_) λ_ _ z=>z.elim;let#[ef,Z8,H8,I8,n8]:=zq;subst ef;show#[rfl,again I8 n8]
  |false=>show qb #[rfl,again I7 q7]
def SC(hl:mR X e d zY tg tl)
  (hq:∀it,(Code.compLoop e d (.ref it) zY X.env).quiet=true)(hun:∀it,X.A.under (.compStart e d (.ref it) zY X.env)=X.A)
  (hden:∀it,(model X.prog X.w).den (.compStart e d (.ref it) zY X.env)=(compStart e d (.ref it) zY X.env).onRaise (λx=>do noteFrame x X.env;standAt theWindowsPlace))
  (heq:∀it,∃p,compStart e d (.ref it) zY X.env=(ask>>=λc=>if c.params.followText "comprehension-iter-twice"=true then again (.compLoop e d (.ref it) zY X.env)else
   rule "comprehension.iter-twice">>=λ_=>standAt p>>=λ_=>pyIter (.ref it)>>=λit'=>again (.compLoop e d it' zY X.env)))(I:Inv X zT Z H s)
  (T:iI X.prog X.w X.K tg J fp it tn)(st:tn 0 s.heap)(f:∀b∈fp,bK X zT H b)(q:tl J Z H Q):
  codeAny (model X.prog X.w) X.A (.compStart e d (.ref it) zY X.env) (λr s'=>∃Z' H',r=.ok .next/\Inv X zT Z' H' s'/\Q Z' H') s:=by
 let h0:=hl zT s Z H J fp it tn Q I T st f q;show codeAny_of_tree ?_;rw[hun,hden];show wpAny_notedAt ?_;let#[p,e]:=heq it;rw[e];show qa (wpAny_askSetting (wpAny_ite ?_));split
 .show qb #[hq it,h0]
 .show qa (wpAny_rule (qa (wpAny_standAt (qa (T.self X.A 0 s _ _ st (qb #[hq it,h0]))))))
end L2
namespace FL
open PySem PySem.Spec PyProof.Rows L2
inductive yQ(X:Cx)(n:Nat)(D:Addr)(b:WB)(Z:St)(H:Hp)(Q:St->Hp->Prop):Prop
 |mk (F G:Hp) (U:Env) (P:Env->Prop) (zV:Rel X.K U Z F G H) (hs:Z[n]?=some (some (.ref D))) (hw:b U P NX) (hn:∀U' Z' F' H',P U'->KP (List.range (n+1)) Z Z'->zF F F'->Rel X.K U' Z' F' G H'->Q Z' H'):yQ X n D b Z H Q
def Mt:XC X T F G NX:=λ_ _ _ _ _ _ _ z=>z.elim
section
variable{K:W.Frag}
def zI.snoc(b:zI K F H xs l fp)(r:aN K F H v s fq):zI K F H (xs++[v]) (l++[s]) (fp++fq):=
 zI.ind (P:=λxs l fp=>zI K F H (xs++[v]) (l++[s]) (fp++fq)) (by let:=zI.cons r .nil;rwa[qz]at this) (λa _ B=>by rw[qp];show .cons a B) b
def zI.len(r:zI K F H xs l fp):xs.length=l.length:=zI.ind (P:=λxs l _=>xs.length=l.length) rfl (λ_ _ B=>congrArg (·+1) B) r
def Rel.append{D:Addr}(r:Rel K (U++[⇑s]) (Z++[⇑v]) F G H)(hs:slot U n=⇑(.lst l))(J:Z[n]?=⇑⇑(.ref D)):
  ∃xs,H D=⇑(.lst xs)/\xs.length=l.length/\Rel K (U.set n ⇑(.lst (l++[s]))) Z F G (upd H D (.lst (xs++[v]))):=by
 let hl:=Ag r;let#[fp,e,nd,ap]:=r.en;let#[f1,f2,rfl,a,b]:=e.cut hl;let#[v',fa,fi,fb,e1,rfl,q,up]:=a.at hs;rw[J]at e1;let e2:V.ref D=v':=↑e1
 subst e2;cases q with
 |lst hD rl=>
  rename_i xs fl;cases b with
  |so sr nl=>
   cases nl;rename_i fs;show#[xs,hD,rl.len,?_];let es:Z.set n ⇑(.ref D)=Z:=by
    apply ext_getElem?;intro j;by_cases hj:n=j
    .subst hj;rw[getElem?_set_self (qg.mp J).1,J]
    .rw[getElem?_set_ne hj]
   --D is nobody else's
   let#[n1,n2,Y]:=qw.mp nd;let#[na,B,O]:=qw.mp n1;let#[ni,nb,B]:=qw.mp B;let#[nD,h4]:=qK.mp ni;let h3:D∉fa:=λz=>O D z D (qj _ qm) rfl;let h2:D∉fb:=λz=>B D qm D z rfl;let h1:D∉fs:=λz=>Y D (qi _ (qj _ qm)) D ↑z rfl;let M:=ap D (qj _ (qi _ (qj _ qm)));let ne:∀{l:List Addr},D∉l->∀x∈l,upd H D (.lst (xs++[v])) x=H x:=λh x L=>Aj λz=>h (z▸L);let new:aN K F (upd H D (.lst (xs++[v]))) (.ref D) (.lst (l++[s])) (D::(fl++fs)):=.lst AI (zI.snoc (rl.mono (zF.refl F) (ne nD)) (sr.mono (zF.refl F) (ne h1)));let a2:=up (F':=F) (H':=upd H D (.lst (xs++[v]))) (o:=⇑(.lst (l++[s]))) (u:=⇑(.ref D)) (zF.refl F) (λx L=>Aj λz=>(qx.mp L).elim (λw=>h3 (z▸w)) λw=>h2 (z▸w)) (.so new .nil);rw[es]at a2;let p:(fa++((D::(fl++fs))++[]++fb)).Perm (fa++((D::fl)++fb)++(fs++[])):=by simp;show List.Perm.append_left _ (List.Perm.cons _ (List.Perm.append_left _ qM))
   show#[zF.updR r.fr M.1,λx o w=>?_,_,a2,p.nodup_iff.mpr nd,λx L=>ap x (by simpa using p.mem_iff.mp L)];let L:x≠D:=λz=>by rw[z,M.2]at w;cases w
   rw[Aj L];show r.gr x o w
end
section
variable{D:Addr}
def LO(L:X.xe=λ_ _=>False)(h:FE X h5 we):mQ X (eval h5 X.env>>=λx=>call (.builtin "list.append") [.ref D,x]>>=λ_=>pure ()) (yQ X n D (cG n we)):=by
 intro zT s Z H Q I q;let#[F,G,U,P,h2,h3,hw,h4]:=q;let hp:PassesOwn (model X.prog X.w) X.A X.env X.xe:=by rw[L];show PassesOwn.never
 have he:=h X.pn X.xe hp zT s Z H (λv H1=>∃O U1 t l,zF F O/\Rel X.K (U1++[⇑t]) (Z++[⇑v]) O G H1/\slot U1 n=⇑(.lst l)/\l.length<big/\P (U1.set n ⇑(.lst (l++[t])))) I
  #[F,G,U,_,NX,h2,hw,λr U1 v O H1 B s1 Y rv=>?_,Mt]
 .let J:∀e s',X.xe e s'->False:=λe s' z=>by rw[L]at z;exact z
  show qa (zt he (λu s1 zq=>?_) λe s' z=>J e s' z);show cps λ_ kk=>?_;let#[v,H1,I1,rv,O,U1,t,l,sm,Y,hs,hz,hP]:=zq;let#[xs,hD,M,r2]:=Rel.append Y hs h3;show kk ?_;show qa (zt (LP zT s1 Z H1 (.ref D) [v] (.ref D) [u] (λw H'=>w=.non/\H'=upd H1 D (.lst (xs++[v]))) I1 rfl (.cons rv .nil) #[D,xs,v,rfl,rfl,hD,by rw[M];show lt_trans hz ⋯,rfl,rfl]) (λw s2 zq=>?_) λe s' z=>J e s' z);let#[w',H2,I2,_,_,e2]:=zq;subst e2;show qb #[Z,_,I2,h4 _ Z O _ hP KP.refl sm r2]
 .obtain⟨⟨t,h1⟩,eg,B⟩:=Ak B;let#[F2,s2,l2,r2]:=Ax (U':=[]) (Z':=[]) Y (Ag Y) rv eg;split at B
  .rename_i l e;show#[F2,h1,t,l,s1.trans s2,r2,e,B.1,B.2]
  .show B.elim
def DO:mS X [] (lL X eR):=λzT s Z H Q I q=>Qu zT s Z H Q I (by let#[F,G,U,P,PX,B,L,J,M]:=q;show J true U F H L (zF.refl F) B)
def Rw(it:fZ X.K J l F)(h8:Rel X.K U Z F G H)(e2:Z[n]?=⇑⇑(.ref D))
  (hw:aT g wc b l U P NX)(e4:∀U' Z' F' H',P U'->KP (List.range (n+1)) Z Z'->zF F F'->Rel X.K U' Z' F' G H'->Q Z' H'):
  iM (yP X (List.range (n+1)) g) (lL X wc) (yQ X n D b) J Z H Q:=by
 let h4:∀{Z':St},KP (List.range (n+1)) Z Z'->Z'[n]?=⇑⇑(.ref D):=λk=>by rw[k n (by simp)];show e2
 show#[λi m B H2=>m=l.length-i/\i<=l.length/\∃F2 U2,KP (List.range (n+1)) Z B/\zF F F2/\Rel X.K U2 B F2 G H2/\aT g wc b (l.drop i) U2 P NX,#[l.length,by simp,zero_le _,F,U,KP.refl,zF.refl F,h8,hw],?_];rintro i m B H2 ⟨rfl,hi,F2,U2,kp,s2,r2,L⟩;let#[e1,h9]:=it i U2 B F2 G H2 s2 r2;by_cases M:i<l.length
 .obtain⟨go,h7⟩:=e1 l[i] (by simp);show .inr #[go,λO H3=>i+1<=l.length/\∃F3 h2,KP (List.range (n+1)) Z O/\zF F F3/\Rel X.K h2 O F3 G H3/\aT g wc b (l.drop (i+1)) h2 P NX,λO H3 h=>#[l.length-(i+1),∅,rfl,h],λy H3 hy=>?_];let#[F3,s3,r3,rp]:=h7 y H3 hy;rw[List.drop_eq_getElem_cons M]at L;show#[F3,G,U2,_,_,r3.push rp,L,λh6 hk F4 H4 e3 k4 s4 r4=>?_];let Y:=kp.trans k4;let h3:=s2.trans (s3.trans s4);show#[F4,G,h6,_,_,r4,e3,λk h1 F5 H5 h5 s5 r5=>?_,Mt];cases k with
  |true=>show#[F5,G,h1,_,r5,h4 Y,h5,λU' Z' F' H' h k' s r=>#[M,F',U',Y.trans k',h3.trans (s5.trans s),r,h]]
  |false=>show#[M,F5,h1,Y,h3.trans s5,r5,h5]
 .let e:i=l.length:=Nat.le_antisymm hi (not_lt.mp M);subst e;rw[List.drop_length]at L;show .inl #[h9 (q9 _),e4 U2 B F2 H2 L kp s2 r2]
end
def Mh{α:Type}{l:List α}{a:α}(h:l[n]?=⇑a):l=l.take n++a::l.drop (n+1):=by let#[B,e]:=qg.mp h;rw[<-e,<-List.drop_eq_getElem_cons B,take_append_drop]
section
variable{X:Cx}
def Kb(hmk:∀(A:Around)(E:zu)(s:Shared)(Q:zu),Q (.ref s.heap.objs.size) {s with heap:=s.heap.push {cls:=.type ty,dict:=none,data:=dat}}->wpAny (model X.prog X.w) A mk Q E s)(ho:∀(H:Hp)(h:Heap),sysModules<h.objs.size->zS X.prog X.w H (h.push {cls:=.type ty,dict:=none,data:=dat}) h.objs.size o0)(hs0:∀(F H:Hp)(p:Addr),H p=⇑o0->aN X.K F H (.ref p) s0 [p])(hcl:clausesOf e=⟨tg,iter,ifs,0⟩::gs)(hs:∀x,foldedSetIterable iter X.env x=pure x)
  (Sc:cL X.env.scope scope X.N vars)(hk:vars.length=k)(hi:FI X tg iter wi)
  (hb:∀(s:Shared)(H:Hp)(ex:List Addr)(D:Addr),mR (aO X scope vars s H ex) e 0 (.ref D) tg (iM (yP (aO X scope vars s H ex) (List.range (X.N.length+1)) g) (lL (aO X scope vars s H ex) wc) (yQ (aO X scope vars s H ex) X.N.length D b)))
  (hq:∀it zY env,(Code.compLoop e 0 (.ref it) zY env).quiet=true)(hun:∀it zY env,X.A.under (.compStart e 0 (.ref it) zY env)=X.A)
  (hden:∀it zY env,(model X.prog X.w).den (.compStart e 0 (.ref it) zY env)=(compStart e 0 (.ref it) zY env).onRaise (λx=>do noteFrame x env;standAt theWindowsPlace))
  (heq:∀it zY env,∃p,compStart e 0 (.ref it) zY env=(ask>>=λc=>if c.params.followText "comprehension-iter-twice"=true then again (.compLoop e 0 (.ref it) zY env)else
   rule "comprehension.iter-twice">>=λ_=>standAt p>>=λ_=>pyIter (.ref it)>>=λit'=>again (.compLoop e 0 it' zY env)))(hp:PassesOwn (model X.prog X.w) X.A X.env xe){P:WQ}(I:Inv (wp X pn xe) zT Z H s)
  (zV:Rel X.K U Z F G H)(hw:wi U (λl U1=>aT g wc b l (U1++⇑s0::List.replicate k none) (λU2=>zz (slot U2 X.N.length) λs=>P (.v s) (U2.take X.N.length)) NX) PX)(hx:XC (wp X pn xe) (·=Z) F G PX)
  (fin:∀(D C:Addr)(s4:Shared)(H4 F4:Hp)(m:Str->Option Value)(t:S)(U4:Env),s4.heap.Ns C m->Inv (wp X pn xe) zT Z H4 s4->H4 C=none->C≠X.env.locals->X.s₀.heap.objs.size<=C->(∀x c,X.env.cells.lookup x=⇑c->c≠C)->(∀p∈pn++zT,p.1≠C)->
   P (.v t) U4->zF F F4->Rel X.K (U4++[⇑t]) (Z++[⇑(.ref D)]) F4 G H4->compPost (model X.prog X.w) X.A xe use Q' (.ref D) C (.ok .next) s4):
  wpAny (model X.prog X.w) X.A (comprehension e scope X.env cpos mk false (eval iter X.env) use) Q' xe s:=by
 have hi':=hi pn xe hp zT s Z H (λJ H1=>∃F1 U1 l,zF F F1/\Rel X.K U1 Z F1 G H1/\fZ X.K J l F1/\
   aT g wc b l (U1++⇑s0::List.replicate k none) (λU2=>zz (slot U2 X.N.length) λs=>P (.v s) (U2.take X.N.length)) NX) I
  #[F,G,U,_,PX,zV,hw,λl U1 F1 H1 J hk s1 r1 it=>#[F1,U1,l,s1,r1,it,hk],hx]
 let hfree:∀x∈scope.names,x.2=.free->∃c,X.env.cells.lookup x.1=⇑c:=λx hx hf=>I.ok.has x.1 (Sc.fr x hx hf);show wpAny_comprehension_free (use:=use) hcl hs (UE hfree) Sc.kind (λx hx hl=>(GX Sc.nd).mpr (by let#[a,b]:=x;let hl':b=.local:=hl;subst hl';show hx)) (zt hi' (λv s1 h1=>zt h1 (λitv s2 h2=>?_) λ_ _ z=>z) λ_ _ z=>z);show cps λ_ kk=>?_;let#[it,fp,tn,J,H2,e1,I2,T,st,f,F1,U1,l,s1',r1,ito,hk2]:=h2;show kk ?_;subst e1
 --the zY
 show hmk _ _ _ _ ?_;generalize hs3:({s2 with heap:=s2.heap.push {cls:=.type ty,dict:=none,data:=dat}}:Shared)=s3;let k23:∀b o,s2.heap.get? b=⇑o->s3.heap.get? b=⇑o:=λb o e=>by rw[<-hs3];show qc _ e
 let sz3:s3.heap.objs.size=s2.heap.objs.size+1:=by rw[<-hs3];show Heap.size_push ..
 let hD:H2 s2.heap.objs.size=none:=I2.hok.fresh (q9 _);let I3:Inv (wp X pn xe) zT Z (upd H2 s2.heap.objs.size o0) s3:=by rw[<-hs3];show I2.laid (t':=s2.toks) (λb o e=>qc _ e) (q9 _) (ho _ _ I2.big)
 let r3:Rel X.K (U1++[⇑s0]) (Z++[⇑(.ref s2.heap.objs.size)]) F1 G (upd H2 s2.heap.objs.size o0):=r1.newO hD (hs0 _ _ _ AI);let fplt:∀b∈fp,b<s2.heap.objs.size:=λb hb=>by let#[o,e,_]:=T.obj _ _ st b hb;show qe e
 let fne:∀b∈fp,b≠s2.heap.objs.size:=λb hb=>ne_of_lt (fplt b hb);let f3:∀b∈fp,bK (wp X pn xe) zT (upd H2 s2.heap.objs.size o0) b:=λb hb=>by let#[h1,h2]:=f b hb;show#[by rw[Aj (fne b hb)];show h1,h2]
 show Uc λh' kept hns hcl'=>?_;let I4:=Inv.comp (X:=wp X pn xe) (ex:=fp) I3 Sc (λb hb=>#[f3 b hb,by rw[sz3];show lt_succ_of_lt (fplt b hb)]) kept hns hcl' hk ⇑(.ref s2.heap.objs.size);let hZn:(Z++⇑(.ref s2.heap.objs.size)::List.replicate k none)[X.N.length]?=⇑⇑(.ref s2.heap.objs.size):=by let hl:X.N.length=Z.length:=I2.len.symm;rw[hl,getElem?_append_right (q9 _),sub_self];rfl
 let r4:Rel X.K (U1++⇑s0::List.replicate k none) (Z++⇑(.ref s2.heap.objs.size)::List.replicate k none) F1 G (upd H2 s2.heap.objs.size o0):=by let:=r3.pushNs k;simpa using this
 let st4:tn 0 h':=T.keep _ _ _ st λb hb o e=>kept b o (k23 b o e);let f4:∀b∈fp,bK (aO X scope vars s3 (upd H2 s2.heap.objs.size o0) fp) [] (upd H2 s2.heap.objs.size o0) b:=λb hb=>by let#[h1,h2,h3,h4,h5,h6]:=f3 b hb;let e:=I4.ok.exf b hb;show#[h1,e.1,I4.ok.exfs b hb,.inl hb,e.2,λp hp=>absurd (show p∈([]:List (Addr×Obj)) from hp) (by simp)]
 have go:=SC (hb s3 (upd H2 s2.heap.objs.size o0) fp s2.heap.objs.size) (λit=>hq it _ _) (λit=>hun it _ _) (λit=>hden it _ _) (λit=>heq it _ _) I4 T st4 f4
  (Q:=λZ' H'=>∃F' U',zz (slot U' X.N.length) (λs=>P (.v s) (U'.take X.N.length))/\KP (List.range (X.N.length+1)) (Z++⇑(.ref s2.heap.objs.size)::List.replicate k none) Z'/\zF F1 F'/\Rel X.K U' Z' F' G H')
  (Rw ito r4 hZn hk2 λU' Z' F' H' a kp sm r=>#[F',U',a,kp,sm,r])
 show codeAny_mono go λr s4 zq=>?_;show cps λ_ kk=>?_;let#[Z4,H4,er,I5,F4,U4,hn4,kp4,sm4,r5]:=zq;subst er;let#[m,hm,_]:=id I5.loc;show kk ?_;let I6:Inv (wp X pn xe) zT Z H4 s4:=Inv.call' (ch:=fp) I3 I5.os I5.base I5.hok I5.bare λb hb=>by let#[h1,h2,h3,h4,h5,h6]:=f3 b hb;show#[h4,h2,h5,h6]
 --the block's names go
 let#[t,et,hP]:=Ak hn4;let hl:X.N.length=Z.length:=I2.len.symm;let hZ4:Z4[X.N.length]?=⇑⇑(.ref s2.heap.objs.size):=by rw[kp4 X.N.length (by simp)];show hZn
 have eZ:Z4.take X.N.length=Z:=by
  apply ext_getElem?;intro j;by_cases hj:j<X.N.length
  .rw[List.getElem?_take_of_lt hj,kp4 j (by simp;lia -verbose),getElem?_append_left ∅]
  .rw[List.getElem?_take_eq_none (not_lt.mp hj),qP ∅]
 let e1:=Mh (IC et);let e2:=Mh hZ4;rw[e1,e2,eZ]at r5;let r6:Rel X.K ((U4.take X.N.length++[⇑t])++U4.drop (X.N.length+1)) ((Z++[⇑(.ref s2.heap.objs.size)])++Z4.drop (X.N.length+1)) F4 G H4:=↑r5
 let hlt:X.N.length<U4.length:=Fh et;let ltC:∀{b:Addr}{o:Obj},s3.heap.get? b=⇑o->b≠s3.heap.objs.size:=λe=>ne_of_lt (qe e);show fin s2.heap.objs.size s3.heap.objs.size s4 H4 F4 m t (U4.take X.N.length) hm I6 I5.free (Ne.symm (ne_of_lt I3.lt)) I3.sz (λx c e z=>?_) (λp hp z=>?_) hP (s1'.trans sm4) (r6.drop (by simp;lia -verbose))
 .obtain⟨v,o,ho,_⟩:=I3.cell x c e;show ltC ho z
 .show ltC (I3.pin p hp).1 z
def Oa{P:WQ}(O:∀r U' v F' H',P r U'->zF F F'->Rel X.K (U'++[zG r]) (Z++[⇑v]) F' G H'->RV Z v r->Q v H'):
  ∀(D C:Addr)(L:Shared)(J M:Hp)(m:Str->Option Value)(t:S)(B:Env),L.heap.Ns C m->Inv (wp X pn xe) zT Z J L->J C=none->C≠X.env.locals->X.s₀.heap.objs.size<=C->(∀x c,X.env.cells.lookup x=⇑c->c≠C)->(∀p∈pn++zT,p.1≠C)->
   P (.v t) B->zF F M->Rel X.K (B++[⇑t]) (Z++[⇑(.ref D)]) M G J->compPost (model X.prog X.w) X.A xe none (EP (wp X pn xe) zT Z Q) (.ref D) C (.ok .next) L:=
 λD C L J M m t B hm I n1 n2 n3 n4 n5 hP Y r=>#[m,hm,λh1 sb=>#[.ref D,J,I.turned (t':=L.toks) (λb o hb e=>(sb.2 b hb).trans e) n1 n2 (.inr (Heap.get?_none_of_le n3)) n4 n5,rfl,O (.v t) B _ M J hP Y r trivial]]
def Om{P:WQ}{Nx:Env->Prop}(hk:i∉ks)(hN:∀j,X.N[j]?=⇑y->j=i)(hi:X.N[i]?=⇑y)(hy:X.env.scope.names.lookup y=⇑.local)
  (hP:∀s U,P (.v s) U->Nx (U.set i ⇑s))(h1:∀U' Z' F' H',Nx U'->KP ks Z Z'->zF F F'->Rel X.K U' Z' F' G H'->DD.nx Z' H'):
  ∀(D C:Addr)(M:Shared)(J O:Hp)(m:Str->Option Value)(t:S)(B:Env),M.heap.Ns C m->Inv (wp X pn xe) zT Z J M->J C=none->C≠X.env.locals->X.s₀.heap.objs.size<=C->(∀x c,X.env.cells.lookup x=⇑c->c≠C)->(∀p∈pn++zT,p.1≠C)->
   P (.v t) B->zF F O->Rel X.K (B++[⇑t]) (Z++[⇑(.ref D)]) O G J->compPost (model X.prog X.w) X.A xe ⇑(assign (.Name y py) X.env) (λ_ s'=>SP (wp X pn xe) zT DD .next s') (.ref D) C (.ok .next) M:=
 λD C M J O m t B hm I n1 n2 n3 n4 n5 hp sm r=>by
  let hl:=Ag r;let L:i<B.length:=by rw[hl,I.len];show(qg.mp hi).1
  refine wpAny_assign_Name (LD (X:=wp X pn xe) (v:=.ref D) I hN hi (.inl hy) rfl (λs5 I5 zq=>?_) (.inr hy));let#[a,sb,ha]:=zq;let h2:C≠a:=by
   rcases ha with e|e
   .rw[e];show n2
   .show Ne.symm (n4 y a e)
  show#[m,hm.sameBut sb h2,λh3 Y=>#[_,J,I5.turned (t':=s5.toks) (λb o hb e=>(Y.2 b hb).trans e) n1 n2 (.inr (Heap.get?_none_of_le n3)) n4 n5,?_]];show h1 _ _ O J (hP t B hp) (KP.set hk) sm (r.store hl L)
def Ka(A:Around)(E:zu)(s:Shared)(Q:zu)(h:Q (.ref s.heap.objs.size) {s with heap:=s.heap.push {cls:=.type F,dict:=none,data:=B}})(hz:sizeOk B:=by size_fits):wpAny (model X.prog X.w) A (newObj (.type F) B) Q E s:=zk h hz
def JV(H:Hp)(h:Heap)(_:sysModules<h.objs.size):zS X.prog X.w H (h.push {cls:=.type "list",dict:=none,data:=.seq ([]:List Value).toArray}) h.objs.size (.lst []):=#[zero_le _,[],0,.nil,qd _ rfl]
def Ju(F H:Hp)(p:Addr)(e:H p=⇑(.lst [])):aN X.K F H (.ref p) (.lst []) [p]:=.lst e .nil
def Ep(hn:X.N.length=n)(hc:X.calm=true)(Sc:cL X.env.scope scope X.N vars)(hk:vars.length=k)(hi:FI X tg iter O)
  (hg:∀s H ex,FG (aO X scope vars s H ex) (List.range (n+1)) tg g)(ht:∀s H ex,mS (aO X scope vars s H ex) J (lL (aO X scope vars s H ex) wc))(he:∀s H ex,FE (aO X scope vars s H ex) M Y)
  (hs:∀x,foldedSetIterable iter X.env x=pure x:=by intro _;rfl):FE X (.ListComp M [#[tg,iter,J,0]] scope pos) (lI n k O g wc (cG n Y)):=by
 subst hn;intro pn xe hp zT s Z H Q I q;let#[F,G,U,P,PX,B,hw,L,hx]:=q;show Kb (λA E s Q h=>Ka A E s Q h) (s0:=.lst []) JV Ju rfl hs Sc hk hi (λs H ex D=>?_) (λ_ _ _=>rfl) (λ_ _ _=>rfl) (λ_ _ _=>rfl) (λ_ _ _=>#[_,rfl]) hp I B hw hx (Oa L);show LL (X:=aO X scope vars s H ex) hc rfl (hg s H ex [] (λ_ _=>False) PassesOwn.never) (ht s H ex) (λ_=>(LO (X:=aO X scope vars s H ex) rfl (he s H ex)).f) (λ_=>rfl) (λ_=>rfl) (λ_=>rfl) (λ_=>rfl)
def RD(Y:i∉ks)(hN:∀j,X.N[j]?=⇑y->j=i)(h1:X.N[i]?=⇑y)(hy:X.env.scope.names.lookup y=⇑.local)
  (O:swapsWith (.ListComp L [#[tg,iter,J,0]] scope pos) ⇑(.Name y py) spos.line X.env=pure true)
  (hn:X.N.length=n)(hc:X.calm=true)(Sc:cL X.env.scope scope X.N vars)(hk:vars.length=k)(hi:FI X tg iter wi)
  (hg:∀s H ex,FG (aO X scope vars s H ex) (List.range (n+1)) tg g)(ht:∀s H ex,mS (aO X scope vars s H ex) J (lL (aO X scope vars s H ex) wc))(he:∀s H ex,FE (aO X scope vars s H ex) L we)
  (hs:∀x,foldedSetIterable iter X.env x=pure x:=by intro _;rfl):FS X ks (.Assign [.Name y py] (.ListComp L [#[tg,iter,J,0]] scope pos) spos) (zO (zy i) (lI n k wi g wc (cG n we))):=by
 subst hn;intro pn xe hp zT s Z H D I q;rw[exec_Assign_Name_used _ _ _ _ O];show qa (wpAny_standAt (qa ?_));let#[F,G,U,E,M,hw,n,b,c,r,x]:=q;refine qa (zt (Kb (λA E s Q h=>Ka A E s Q h) (s0:=.lst []) (P:=λr B=>zz (give r B) λp=>zy i p.1 p.2 E.nx) (PX:=E.ex) (g:=g) (wc:=wc) (b:=cG X.N.length we) (Q':=λ_ s'=>SP (wp X pn xe) zT D .next s') JV Ju rfl hs Sc hk hi (λs H ex D=>?_) (λ_ _ _=>rfl) (λ_ _ _=>rfl) (λ_ _ _=>rfl) (λ_ _ _=>#[_,rfl]) hp I M hw (x.mono (λh2 z=>by rw[z];show KP.refl) (zF.refl F) (zF.refl G))
  (Om (P:=λr B=>zz (give r B) λp=>zy i p.1 p.2 E.nx) (Nx:=E.nx) Y hN h1 hy (λs U h=>h) n)) (λ_ s' hq=>qb (qb hq)) λ_ _ e=>e)
 show LL (X:=aO X scope vars s H ex) hc rfl (hg s H ex [] (λ_ _=>False) PassesOwn.never) (ht s H ex) (λ_=>(LO (X:=aO X scope vars s H ex) rfl (he s H ex)).f) (λ_=>rfl) (λ_=>rfl) (λ_=>rfl) (λ_=>rfl)
end
section
variable{K:W.Frag}
def Cd{x:Str}(e:x.cps.toList=l):x.length=l.length:=by rw[<-e];rfl
def Qp{x y:Str}(e:x.cps.toList=l)(B:y.cps.toList=m):(x++y).cps.toList=l++m:=by show(x.cps++y.cps).toList=_;rw[toList_append,e,B]
def bF.int(h:bF K F H v (.int i)):v=.int i:=by
 rcases h with h|⟨_,_,_,_,h,_⟩|⟨_,_,_,_,_,h,_⟩|⟨_,_,_,_,_,h,_⟩
 .cases h;rfl
 .cases h
 .cases h
 .cases h
def bF.str(h:bF K F H v (.str l)):∃x,v=.str x/\x.cps.toList=l/\l.length<=16777216:=by
 rcases h with h|⟨_,_,_,_,h,_⟩|⟨_,_,_,_,_,h,_⟩|⟨_,_,_,_,_,h,_⟩
 .cases h with
  |str e z=>show#[_,rfl,e,z]
 .cases h
 .cases h
 .cases h
def bF.tup(h:bF K F H v (.tup l)):∃a xs,v=.ref a/\F a=⇑(.tup xs)/\zR K F xs l:=by
 rcases h with h|⟨_,_,_,_,h,_⟩|⟨_,_,_,_,_,h,_⟩|⟨_,_,_,_,_,h,_⟩
 .cases h with
  |tup e r=>show#[_,_,rfl,e,r]
 .cases h
 .cases h
 .cases h
def bF.lst(B:zF F H)(h:bF K F H v (.lst l)):∃a xs,v=.ref a/\bM K H a xs/\zR K F xs l:=by
 rcases h with h|⟨a,xs,L,J,h,G,r⟩|⟨_,_,_,_,_,h,_⟩|⟨_,_,_,_,_,h,_⟩
 .cases h with
  |lst e r=>show#[_,_,rfl,bM.mono B e,r]
 .cases h;show#[a,xs,J,bM.of G,r]
 .cases h
 .cases h
def zR.append(a:zR K F xs l)(r:zR K F ys m):zR K F (xs++ys) (l++m):=zR.ind (P:=λxs l=>zR K F (xs++ys) (l++m)) r (λa _ B=>.cons a B) a
def Rel.newLD(r:Rel K U Z F G H)(M:H p=none)(J:zR K F xs l):Rel K (U++[⇑(.lst (l.map .sh))]) (Z++[⇑(.ref p)]) F G (upd H p (.lst xs)):=by
 have B:∀{xs:List V}{l:List D},zR K F xs l->zI K F (upd H p (.lst xs)) xs (l.map .sh) []:=by
  intro xs l h;generalize upd H p (.lst xs)=H';induction xs generalizing l with
  |nil=>cases h;show .nil
  |cons x xs L=>cases h with
   |cons a b=>have:=zI.cons (aN.sh (H:=H') a) (L b);show this
 show r.newO M (.lst AI ?_);let:=B J;show this
def pN(K:W.Frag):R2:=λx y H Q=>∃l b xs B,x=.ref l/\y=.ref b/\bM K H l xs/\bM K H b B/\xs.length+B.length<=sizeLine/\∀p,H p=none->Q (.ref p) (upd H p (.lst (xs++B)))
def OR:OpR X (binaryOp .Add) (pN X.K):=by
 intro zT s Z H x y v u Q I rx ry h;let#[l,b,xs,zs,rfl,rfl,hl,hb,hz,q]:=h;cases rx;cases ry;let#[F,r1,#[#[cls,dd,data,sl],n,ho,hc,O,hd],_]:=I.list hl;let#[B,r2,#[#[h1,h2,data2,L],n2,G,Y,J,M],_]:=I.list hb;subst hc O hd Y J M;show concat_meets #[_,ho,rfl] #[_,G,rfl] noFill_list_add seq_list_add PySem.F.slot_list_add PySem.F.entry_list_add (PySem.F.args_list_add_2 _ _) (list_addW l b F.toArray B.toArray n n2 none none sl L (by rw[qr,qr,<-r1.length,<-r2.length];show hz)) #[ho,G,?_];let ea:F.toArray++B.toArray=(F++B).toArray:=by simp
 rw[ea];show#[.ref _,_,I.lnew (t':=s.toks) (r1.append r2) (by rw[qq];show hz),rfl,q _ I.fresh]
def lS(K:W.Frag):R2:=λx y H Q=>∃a b xs ys,x=.ref a/\y=.ref b/\bA K H a xs/\bA K H b ys/\xs.length+ys.length<=sizeLine/\
 (xs=[]->Q (.ref b) H)/\(xs≠[]->ys=[]->Q (.ref a) H)/\(xs≠[]->ys≠[]->∀p,H p=none->Q (.ref p) (upd H p (.tup (xs++ys))))
def PP:OpR X (binaryOp .Add) (lS X.K):=by
 intro zT s Z H x y v u Q I rx ry h;let#[a,b,xs,ys,rfl,rfl,ha,hb,hz,q0,q1,q2]:=h;by_cases G:xs=[]
 .cases rx;cases ry;let#[F,r1,p1,_]:=I.tuple ha;let#[B,r2,p2,_]:=I.tuple hb;let#[#[cls,dd,data,sl],ho,hc,n,hd]:=id p1;let#[#[h1,Y,data2,L],J,O,n2,M]:=id p2;subst hc hd O M;let hi:F=[]:=r1.nil_iff.mpr G;exact concat_meets #[_,ho,rfl] #[_,J,rfl] noFill_tuple_add seq_tuple_add PySem.F.slot_tuple_add PySem.F.entry_tuple_add (PySem.F.args_tuple_add_2 _ _)
   (tuple_addW0 a b F.toArray B.toArray n n2 dd Y sl L (by simp[hi])) #[ho,J,.ref b,H,I,rfl,q0 G]
 .show Pt zT s Z H _ _ v u Q I rx ry #[a,b,xs,ys,rfl,rfl,ha,hb,G,hz,q1 G,q2 G]
def nW:R2:=λx y H Q=>∃i j,x=.str i/\y=.str j/\i.length+j.length<=sizeLine/\Q (.str (i++j)) H
def jQ(K:W.Frag):R2:=λx y H Q=>pM (λi j=>.int (i+j)) x y H Q\/(nW x y H Q\/(pN K x y H Q\/lS K x y H Q))
def SJ:OpR X (binaryOp .Add) (jQ X.K):=OpR.or MZ (OpR.or TC (OpR.or OR PP))
def GG(h:n<=big):n<=sizeLine:=by rw[zm];show le_trans h ⋯
def Qx:gY K (jQ K) aW:=by
 intro Z U F G H x y p q s Q B ex ey e M;unfold aW at e;split at e
 .cases e;let h1:=ex.int;let h2:=ey.int;subst h1 h2;show .inl #[_,_,rfl,rfl,M _ F H (zF.refl F) (B.push (.int _))]
 .rename_i a b;split at e
  .rename_i O;cases e;let#[x,rfl,e1,z1]:=ex.str;let#[y,rfl,e2,z2]:=ey.str;show .inr (.inl #[_,_,rfl,rfl,by rw[Cd e1,Cd e2];show GG O,M _ F H (zF.refl F) (B.push (.str (Qp e1 e2) (by rw[qq];show le_trans O ⋯)))])
  .cases e
 .rename_i a b;split at e
  .rename_i O;cases e;let#[l,xs,rfl,h1,L]:=ex.lst B.fr;let#[m,ys,rfl,h2,J]:=ey.lst B.fr;show .inr (.inr (.inl #[l,m,xs,ys,rfl,rfl,h1,h2,by rw[L.len,J.len];show GG O,λp Y=>?_]));show M _ F _ (zF.refl F) (B.newLD Y (L.append J))
  .cases e
 .rename_i a b;split at e
  .rename_i O;cases e;let#[l,xs,rfl,h1,L]:=ex.tup;let#[m,ys,rfl,h2,J]:=ey.tup;refine .inr (.inr (.inr #[l,m,xs,ys,rfl,rfl,bA.of (B.fr _ _ h1),bA.of (B.fr _ _ h2),by rw[L.len,J.len];show GG O,λhx=>?_,λ_ hy=>?_,λ_ _ p Y=>?_]))
   .subst hx;cases L;show M _ F H (zF.refl F) (B.push (.tup h2 J))
   .subst hy;cases J;rw[qz]at M;show M _ F H (zF.refl F) (B.push (.tup h1 L))
   .let n2:=(B.free Y).1;show M _ _ _ (zF.upd n2) ((B.newF Y).push (.tup AI ((L.append J).mono (zF.upd n2))))
  .cases e
 .cases e
def Fw{g:Int->Int->Int}(L:∀p q s,o p q=⇑s->∃i j,p=.int i/\q=.int j/\C i j/\s=.sh (.int (g i j))):gY K (rI C λi j=>.int (g i j)) o:=by intro Z U F G H x y p q s Q B ex O e J;let#[i,j,rfl,rfl,M,rfl]:=L p q s e;let h1:=ex.int;let h2:=O.int;subst h1 h2;show#[i,j,rfl,rfl,M,J _ F H (zF.refl F) (B.push (.int _))]
def Rh:gY K (rI (λ_ _=>True) λi j=>.int (i-j)) lT:=Fw λp q s e=>by
 unfold lT at e;split at e
 .cases e;show#[_,_,rfl,rfl,trivial,rfl]
 .cases e
def Od:OpR X (binaryOp .Sub) (rI (λ_ _=>True) λi j=>.int (i-j)):=FF λ_ _ _ _ _ _ _ _ q=>sub_int q
def Ry:gY K (rI mY λi j=>.int (i*j)) lW:=Fw λp q s e=>by
 unfold lW at e;split at e
 .rename_i i j;split at e
  .rename_i h;cases e;show#[_,_,rfl,rfl,?_,rfl];simp[jR,or_eq_true,and_eq_true,qS]at h;show h
  .cases e
 .cases e
def Qa:gY K (rI (λ_ j=>0<j) λi j=>.int (i %j)) dS:=Fw λp q s e=>by
 unfold dS at e;split at e
 .split at e
  .rename_i h;cases e;show#[_,_,rfl,rfl,h,rfl]
  .cases e
 .cases e
def RB:gY K (rI yI λi j=>.int (i^j.toNat)) lU:=Fw λp q s e=>by
 unfold lU at e;split at e
 .split at e
  .rename_i h;cases e;show#[_,_,rfl,rfl,#[h.1,∅,h.2.2],rfl]
  .cases e
 .cases e
def pZ(i j:Int):Prop:=0<j/\j<18446744073709551616
def Rc:OpR X (binaryOp .FloorDiv) (rI pZ λi j=>.int (i/j)):=FF λi j _ _ _ _ _ B q=>by
 let h1:(0:Int)<j:=B.1;let h2:j<18446744073709551616:=B.2;show floordiv_int ∅ ?_ (.inl (PyProof.noPylong_of_log2 ?_))
 .rw[Int.fdiv_eq_ediv_of_nonneg _ ∅];show q
 .let F:j.natAbs≠0:=by lia
  let:j.natAbs.log2<64:=(log2_lt F).mpr ∅;lia
def RQ:gY K (rI pZ λi j=>.int (i/j)) gB:=Fw λp q s e=>by
 unfold gB at e;split at e
 .split at e
  .rename_i h;cases e;show#[_,_,rfl,rfl,h,rfl]
  .cases e
 .cases e
end
def AH(J:FE X a F)(G:FE X b B):FE X (.BinOp a .Add b pos) (zL aW F B):=EM (λ_ _=>SJ) Qx J G
def Nv(J:FE X a F)(G:FE X b B):FE X (.BinOp a .Sub b pos) (zL lT F B):=EM (λ_ _=>Od) Rh J G
def DU(J:FE X a F)(G:FE X b B):FE X (.BinOp a .Mod b pos) (zL dS F B):=EM (λ_ _=>MS) Qa J G
def JY(J:FE X a F)(G:FE X b B):FE X (.BinOp a .FloorDiv b pos) (zL gB F B):=EM (λ_ _=>Rc) RQ J G
def Nh(J:FE X a F)(G:FE X b B):FE X (.BinOp a .Pow b pos) (zL lU F B):=EM (λ_ _=>NB) RB J G
section
open PySem.SeqAt
def SG(h:aQ (.tup l) (.tup m)=false):bO l m=false:=h
def GP:∀{l m:List D}{j:Nat}{a b:D},bO l m=false->l[j]?=⇑a->m[j]?=⇑b->aQ a b=false
 |[],_,_,_,_,_,h,_=>by simp at h
 |_::_,[],_,_,_,_,_,h=>by simp at h
 |x::l,y::m,0,a,b,h,h1,h2=>by simp at h1 h2;subst h1 h2;let h':(aQ x y||bO l m)=false:=h;rw[Bool.or_eq_false_iff]at h';show h'.1
 |x::l,y::m,j+1,a,b,h,h1,h2=>by let h':(aQ x y||bO l m)=false:=h;rw[Bool.or_eq_false_iff]at h';show GP h'.2 h1 ↑h2
def Gs:∀{l:List D}{j:Nat}{a:D},l[j]?=⇑a->fW a<=cE l
 |[],_,_,h=>by simp at h
 |x::l,0,a,h=>by simp at h;subst h;show fW x<=max (fW x) (cE l);lia
 |x::l,j+1,a,h=>by let:=Gs (l:=l) (j:=j) (a:=a) h;show fW a<=max (fW x) (cE l);lia
open Classical in
def Gq{l m:List D}(n:Nat)(hn:n=min l.length m.length):((List.range n).all (λj=>↥(l[j]?=m[j]?))&&(l.length==m.length))=↥(l=m):=by
 by_cases h:l=m
 .subst h;simp
 .rw[qR h];by_cases B:l.length=m.length
  .have:(List.range n).all (λj=>↥(l[j]?=m[j]?))=false:=by
    cases q:(List.range n).all (λj=>↥(l[j]?=m[j]?))with
    |false=>rfl
    |true=>
     exfalso;apply h;apply ext_getElem?;intro j;by_cases F:j<n
     .show qT (qH.mp q j ↑F)
     .rw[qP ∅,qP ∅]
   rw[this];rfl
  .let:(l.length==m.length)=false:=by simpa using B
   rw[this,Bool.and_false]
inductive Sc:V->D->Prop
 |non:Sc .non .non
 |bl (b:Bool):Sc (.bl b) (.bl b)
 |int (i:Int):Sc (.int i) (.int i)
 |str {x:Str} {l:List Nat}:x.cps.toList=l->Sc (.str x) (.str l)
def IZ{K:W.Frag}(r:aK K H v d)(B:aQ d e=false)(h1:∀l,d≠.tup l)(h2:∀l,d≠.lst l):Sc v d:=by
 cases r with
 |tup=>show absurd rfl (h1 _)
 |lst=>show absurd rfl (h2 _)
 |dK=>cases e<;>cases B
 |dT=>cases e<;>cases B
 |st=>cases e<;>cases B
 |exc=>cases e<;>cases B
 |non=>show .non
 |bl=>show .bl _
 |int=>show .int _
 |str e _=>show .str e
def Jv{K:W.Frag}(r:aK K H u e)(s:Sc v d)(B:aQ d e=false):Sc u e:=by
 cases r with
 |non=>show .non
 |bl=>show .bl _
 |int=>show .int _
 |str e _=>show .str e
 |_=>cases s<;>cases B
open Classical in
def Kq{K:W.Frag}(r1:aK K H v d)(r2:aK K H u e)(G:zJ v M)(B:zJ u O)(J:aQ d e=false)(h1:∀l,d≠.tup l)(h2:∀l,d≠.lst l):
  EqAt A s M O ↥(d=e)/\RcAt A s M O ↥(d=e):=by
 let Y:=IZ r1 J h1 h2;let F:=Jv r2 Y J
 clear r1 r2 h1 h2
 cases Y with
 |non=>
  cases G;cases F with
  |non=>cases B;simp;show#[EqAt.same _,RcAt.none_none]
  |bl b=>cases B;simp;show#[EqAt.none_bool _,RcAt.none_bool _]
  |int i=>let#[t,rfl]:=B;simp;show#[EqAt.none_int _ _,RcAt.none_int _ _]
  |str e=>let#[t,rfl]:=B;simp;show#[EqAt.none_str _ _,RcAt.none_str _ _]
 |bl a=>
  cases G;cases F with
  |non=>cases B;simp;show#[EqAt.bool_none _,RcAt.bool_none _]
  |bl b=>
   cases B;let e:↥(D.bl a=D.bl b)=(a==b):=by cases a<;>cases b<;>simp
   rw[e];show#[EqAt.bool_bool _ _,RcAt.bool_bool _ _]
  |str e=>let#[t,rfl]:=B;simp;show#[EqAt.bool_str _ _ _,RcAt.bool_str _ _ _]
  |int=>cases J
 |int i=>
  let#[t,rfl]:=G;cases F with
  |non=>cases B;simp;show#[EqAt.int_none _ _,RcAt.int_none _ _]
  |int j=>
   let#[L,rfl]:=B;let e:↥(D.int i=D.int j)=(i==j):=by by_cases h:i=j<;>simp[h]
   rw[e];show#[EqAt.int_int _ _ _ _,RcAt.int_int _ _ _ _]
  |str e=>let#[L,rfl]:=B;simp;show#[EqAt.int_str _ _ _ _,RcAt.int_str _ _ _ _]
  |bl=>cases J
 |str e1=>
  let#[t,rfl]:=G;cases F with
  |non=>cases B;simp;show#[EqAt.str_none _ _,RcAt.str_none _ _]
  |bl b=>cases B;simp;show#[EqAt.str_bool _ _ _,RcAt.str_bool _ _ _]
  |int j=>let#[L,rfl]:=B;simp;show#[EqAt.str_int _ _ _ _,RcAt.str_int _ _ _ _]
  |str e2=>
   obtain⟨L,rfl⟩:=B;rename_i x l y m;let e:↥(D.str l=D.str m)=(x==y):=by
    by_cases h:x=y
    .subst h;rw[<-e1,<-e2];simp
    .let hb:(x==y)=false:=by simpa using h
     rw[hb];show qR λq=>h ?_;let#[#[a]]:=x;let#[#[b]]:=y;let a1:a=l:=e1;let b1:b=m:=e2;rw[a1,b1,D.str.inj q]
   rw[e];show#[EqAt.str_str _ _ _ _,RcAt.str_str _ _ _ _]
def Ew(r:zQ xs us)(h:j<us.toArray.size):∃x,xs[j]?=⇑x/\zJ x us.toArray[j]:=by
 let J:=r.length;let L:j<us.length:=h;let G:j<xs.length:=∅
 let#[u,F,B]:=r.get (i:=j) (x:=xs[j]) (by simp);show#[xs[j],by simp,?_];let:us.toArray[j]=u:=by let:=qg.mp F;simpa using this.2
 rw[this];show B
mutual
theorem aK.uniq(I:Inv X zT Z H s)(r:aK X.K H v d)(q:aK X.K H v e)(B:aQ d e=false):d=e:=by
 cases r with
 |non=>cases q;rfl
 |bl _=>cases q;rfl
 |int _=>cases q;rfl
 |str G _=>cases q with|str F _=>rw[<-G,<-F]
 |tup G L=>cases q with
  |tup F J=>cases I.tuple_inj (bA.of G) (bA.of F);rw[zR.uniq I L J B]
  |_=>cases B
 |lst G L=>cases q with
  |lst F J=>cases I.list_inj G F;rw[zR.uniq I L J B]
  |_=>cases B
 |dK=>cases e<;>cases B
 |dT=>cases e<;>cases B
 |st=>cases e<;>cases B
 |exc=>cases e<;>cases B
theorem zR.uniq(I:Inv X zT Z H s)(r:zR X.K H v d)(q:zR X.K H v e)(B:bO d e=false):d=e:=by
 cases r with
 |nil=>cases q;rfl
 |@cons _ a _ l a1 G=>cases q with
  |@cons _ b _ m a2 F=>have h':(aQ a b||bO l m)=false:=B;rw[Bool.or_eq_false_iff]at h';rw[aK.uniq I a1 a2 h'.1,zR.uniq I G F h'.2]
end
open Classical in
def Gh:∀(n:Nat){A:Around}{v u:V}{vv uu:Value}{d e:D},fW d<=n->Inv X zT Z H s->aK X.K H v d->aK X.K H u e->zJ v vv->zJ u uu->aQ d e=false->A.units+n<cLine->
  EqAt A s vv uu ↥(d=e)/\RcAt A s vv uu ↥(d=e):=by
 intro n;induction n with
 |zero=>intro A v u vv uu d e hd I r1 r2 rv ru hc hu;show Kq r1 r2 rv ru hc (λl z=>by subst z;show absurd hd (by show¬cE l+1<=0;lia)) (λl z=>by subst z;show absurd hd (by show¬cE l+1<=0;lia))
 |succ n ih=>
  intro A v u vv uu d e hd I r1 r2 rv ru hc hu;let e4:A.in1.units+n<cLine:=by show A.units+1+n<cLine;lia
  cases r1 with
  |tup e1 q1=>
   cases r2 with
   |tup e2 q2=>
    rename_i a xs l b ys m;cases rv;cases ru;let#[G,w1,p1,_]:=I.tuple (bA.of e1);let#[B,w2,p2,_]:=I.tuple (bA.of e2);let h8:cE l<=n:=by let:cE l+1<=n+1:=hd;lia
    let h4:G.toArray.size=l.length:=by rw[qr,<-w1.length,q1.len]
    let h9:B.toArray.size=m.length:=by rw[qr,<-w2.length,q2.len]
    have items:∀j(h1:j<G.toArray.size)(h2:j<B.toArray.size),EqAt A.in1 s G.toArray[j] B.toArray[j] ↥(l[j]?=m[j]?):=λj h1 h2=>by
     let#[x,hx,rx]:=Ew w1 h1;let#[y,hy,ry]:=Ew w2 h2;let F:j<l.length:=∅
     let J:j<m.length:=∅
     let#[x',M,h6]:=q1.get (i:=j) (d:=l[j]) (by simp[F]);let#[y',L,h5]:=q2.get (i:=j) (d:=m[j]) (by simp[J]);rw[hx]at M;cases M;rw[hy]at L;cases L;let:=(ih (A:=A.in1) (le_trans (Gs (l:=l) (j:=j) (by simp[F])) h8) I h6 h5 rx ry (GP (j:=j) (a:=l[j]) (b:=m[j]) (SG hc) (by simp[F]) (by simp[J])) e4).1;let e:↥(l[j]?=m[j]?)=↥(l[j]=m[j]):=by simp[F,J]
     rw[e];show this
    have O:RcAt A s (.ref a) (.ref b) ↥(D.tup l=D.tup m):=by
     let:=RcAt.tuples (s:=s) (show s.heap.IsTuple a G.toArray from p1) (show s.heap.IsTuple b B.toArray from p2) ∅ items;rw[h4,h9,Gq (l:=l) (m:=m) _ rfl]at this;let e:↥(D.tup l=D.tup m)=↥(l=m):=by by_cases h:l=m<;>simp[h]
     rw[e];show this
    show#[?_,O];by_cases h3:a=b
    .subst h3;let h7:l=m:=by let z:=aK.uniq I (.tup e1 q1) (.tup e2 q2) hc;cases z;rfl
     subst h7;simp;show EqAt.same _
    .show EqAt.of_refs h3 O
   |_=>cases hc
  |lst e1 q1=>
   cases r2 with
   |lst e2 q2=>
    rename_i a xs l b ys m;cases rv;cases ru;let#[G,w1,p1,_]:=I.list e1;let#[B,w2,p2,_]:=I.list e2;let h8:cE l<=n:=by let:cE l+1<=n+1:=hd;lia
    let h4:G.toArray.size=l.length:=by rw[qr,<-w1.length,q1.len]
    let h9:B.toArray.size=m.length:=by rw[qr,<-w2.length,q2.len]
    have items:∀j(h1:j<G.toArray.size)(h2:j<B.toArray.size),EqAt A.in1 s G.toArray[j] B.toArray[j] ↥(l[j]?=m[j]?):=λj h1 h2=>by
     let#[x,hx,rx]:=Ew w1 h1;let#[y,hy,ry]:=Ew w2 h2;let F:j<l.length:=∅
     let J:j<m.length:=∅
     let#[x',M,h6]:=q1.get (i:=j) (d:=l[j]) (by simp[F]);let#[y',L,h5]:=q2.get (i:=j) (d:=m[j]) (by simp[J]);rw[hx]at M;cases M;rw[hy]at L;cases L;let hk:bO l m=false:=hc;let:=(ih (A:=A.in1) (le_trans (Gs (l:=l) (j:=j) (by simp[F])) h8) I h6 h5 rx ry (GP (j:=j) (a:=l[j]) (b:=m[j]) hk (by simp[F]) (by simp[J])) e4).1;let e:↥(l[j]?=m[j]?)=↥(l[j]=m[j]):=by simp[F,J]
     rw[e];show this
    have O:RcAt A s (.ref a) (.ref b) ↥(D.lst l=D.lst m):=by
     let e:↥(D.lst l=D.lst m)=↥(l=m):=by by_cases h:l=m<;>simp[h]
     rw[e];by_cases Y:l.length=m.length
     .let:=RcAt.lists (s:=s) p1.isList p2.isList ∅ ∅ items;rw[h4]at this;let e2:=Gq (l:=l) (m:=m) l.length ∅;let e3:(l.length==m.length)=true:=by simpa using Y
      rw[e3,Bool.and_true]at e2;rw[<-e2];show this
     .let:=RcAt.lists_lengths (A:=A) (s:=s) p1.isList p2.isList (by simp only[h4,h9];simpa using Y) ∅;let e2:↥(l=m)=false:=qR λz=>Y (by rw[z]);rw[e2];show this
    show#[?_,O];by_cases h3:a=b
    .subst h3;let h7:l=m:=by let z:=aK.uniq I (.lst e1 q1) (.lst e2 q2) hc;cases z;rfl
     subst h7;simp;show EqAt.same _
    .show EqAt.of_refs h3 O
   |_=>cases hc
  |_=>show Kq (by first|show .non|show .bl _|show .int _|(rename_i e z;show .str e z)|(rename_i e k r;show .dK e k r)|(rename_i e k r;show .dT e k r)|(rename_i e r;show .st e r)|(rename_i e k z;show .exc e k z)) r2 rv ru hc (λl z=>by cases z) (λl z=>by cases z)
end
section
variable{K:W.Frag}
open PySem.SeqAt
open Classical in
def wM(K:W.Frag):R2:=λx y H Q=>∃p q,aK K H x p/\aK K H y q/\aQ p q=false/\fW p<=30/\Q (.bl ↥(p=q)) H
def Er(Y:X.A.units+31<cLine):OpR X (compareOp .Eq) (wM X.K):=by intro zT s Z H x y v u Q I F B h;let#[p,q,J,G,O,M,L]:=h;show(Gh 30 M I J G F B O ∅).2 X.prog X.w X.xe _ #[.bl _,H,I,rfl,L]
def Jr(h:fY p q=⇑k):aQ p q=false/\fW p<=30:=by grind[fY]
open Classical in
def Ke(h:fY p q=⇑k):k=↥(p=q):=by
 unfold fY at h;split at h
 .cases h
 .show(qf h).symm
def Es:bL K (wM K) fY:=by intro H x y p q k Q F B e G;let#[h1,h2]:=Jr e;let:=Ke e;subst this;show#[p,q,F,B,h1,h2,G]
open Classical in
def wF(K:W.Frag):R2:=λx y H Q=>∃p q,aK K H x p/\aK K H y q/\aQ p q=false/\fW p<=30/\Q (.bl (!decide (p=q))) H
def KS(I:Inv X zT Z H s)(q1:zR X.K H xs l)(q2:zR X.K H ys m)(w1:zQ xs us)(Y:zQ ys L)(hc:bO l m=false)(hd:cE l<=30)(hu:A.units+30<cLine):
  ∀j(h1:j<us.toArray.size)(h2:j<L.toArray.size),EqAt A s us.toArray[j] L.toArray[j] (open Classical in ↥(l[j]?=m[j]?)):=λj h1 h2=>by
 let#[x,hx,rx]:=Ew w1 h1;let#[y,hy,ry]:=Ew Y h2;let h4:us.toArray.size=l.length:=by rw[qr,<-w1.length,q1.len]
 let h3:L.toArray.size=m.length:=by rw[qr,<-Y.length,q2.len]
 let J:j<l.length:=∅
 let G:j<m.length:=∅
 let#[x',F,O]:=q1.get (i:=j) (d:=l[j]) (by simp);let#[y',B,M]:=q2.get (i:=j) (d:=m[j]) (by simp);rw[hx]at F;cases F;rw[hy]at B;cases B;let:=(Gh 30 (A:=A) (le_trans (Gs (l:=l) (j:=j) (by simp)) hd) I O M rx ry (GP (j:=j) (a:=l[j]) (b:=m[j]) hc (by simp[J]) (by simp[G])) hu).1;let e:(open Classical in ↥(l[j]?=m[j]?))=(open Classical in ↥(l[j]=m[j])):=by simp[J,G]
 rw[e];show this
def Gb(p:D):(∃l,p=.tup l)\/(∃l,p=.lst l)\/((∀l,p≠.tup l)/\∀l,p≠.lst l):=by
 cases p with
 |tup l=>show .inl #[l,rfl]
 |lst l=>show .inr (.inl #[l,rfl])
 |_=>show .inr (.inr #[λl z=>D.noConfusion z,λl z=>D.noConfusion z])
def Of(h:aQ (.tup l) q=false):∃m,q=.tup m:=by
 cases q with
 |tup m=>show#[m,rfl]
 |_=>cases h
def OG(h:aQ (.lst l) q=false):∃m,q=.lst m:=by
 cases q with
 |lst m=>show#[m,rfl]
 |_=>cases h
def Oc(L:aK K H x p)(J:aK K H y q)(B:aQ p q=false)(h1:∀l,p≠.tup l)(h2:∀l,p≠.lst l):vV x y=true/\(p=q↔x=y):=by
 let G:=IZ L B h1 h2;let F:=Jv J G B;cases G with
 |str O=>
  cases F with
  |str M=>
   rename_i x l y m;show#[rfl,λz=>?_,λz=>?_]
   .obtain⟨⟨a⟩⟩:=x;let#[#[b]]:=y;grind
   .cases z;rw[<-O,<-M]
  |_=>show#[rfl,λz=>D.noConfusion z,λz=>V.noConfusion z]
 |_=>cases F<;>first|show⟨rfl,λz=>D.noConfusion z,λz=>V.noConfusion z⟩|show⟨rfl,λz=>by cases z;rfl,λz=>by cases z;rfl⟩|cases B
def CL(hu:X.A.units+32<cLine):OpR X (compareOp .NotEq) (wF X.K):=by
 classical
 intro zT s Z H x y v u Q I rx ry h;let#[p,q,r1,r2,hc,hd,hq]:=h;let B:EP X zT Z Q (.bool (!decide (p=q))) s:=#[.bl _,H,I,rfl,hq]
 let h3:X.A.in1.units+30<cLine:=by show X.A.units+1+30<cLine;lia
 rcases Gb p with⟨l,rfl⟩|⟨l,rfl⟩|⟨n1,n2⟩
 .obtain⟨m,rfl⟩:=Of hc;cases r1 with
  |tup e1 q1=>
  cases r2 with
  |tup M q2=>
   rename_i a xs b ys;cases rx;cases ry;let#[J,w1,p1,_]:=I.tuple (bA.of e1);let#[F,w2,p2,_]:=I.tuple (bA.of M);let O:cE l<=30:=by let:cE l+1<=30:=hd;lia
   let L:J.toArray.size=l.length:=by rw[qr,<-w1.length,q1.len]
   let Y:F.toArray.size=m.length:=by rw[qr,<-w2.length,q2.len]
   let:=RcNeAt.tuples (A:=X.A) (s:=s) (show s.heap.IsTuple a J.toArray from p1) (show s.heap.IsTuple b F.toArray from p2) ∅ (KS I q1 q2 w1 w2 hc O h3);rw[L,Y,Gq (l:=l) (m:=m) _ rfl]at this;let e:↥(D.tup l=D.tup m)=↥(l=m):=by by_cases h:l=m<;>simp
   rw[e]at B;show this X.prog X.w X.xe _ B
 .obtain⟨m,rfl⟩:=OG hc;cases r1 with
  |lst e1 q1=>
  cases r2 with
  |lst M q2=>
   cases rx;cases ry;let#[J,w1,p1,_]:=I.list e1;let#[F,w2,p2,_]:=I.list M;let O:cE l<=30:=by let:cE l+1<=30:=hd;lia
   let L:J.toArray.size=l.length:=by rw[qr,<-w1.length,q1.len]
   let Y:F.toArray.size=m.length:=by rw[qr,<-w2.length,q2.len]
   let e:↥(D.lst l=D.lst m)=↥(l=m):=by by_cases h:l=m<;>simp
   rw[e]at B;by_cases G:l.length=m.length
   .let:=RcNeAt.lists (A:=X.A) (s:=s) p1.isList p2.isList ∅ ∅ (KS I q1 q2 w1 w2 hc O h3);rw[L]at this;let M:=Gq (l:=l) (m:=m) l.length ∅;let e3:(l.length==m.length)=true:=by simpa using G
    rw[e3,Bool.and_true]at M;rw[<-M]at B;show this X.prog X.w X.xe _ B
   .let:=RcNeAt.lists_lengths (A:=X.A) (s:=s) p1.isList p2.isList (by simp[L,Y];simpa using G) ∅;let M:↥(l=m)=false:=qR λz=>G (by rw[z]);rw[M]at B;show this X.prog X.w X.xe _ B
 .obtain⟨h1,h2⟩:=Oc r1 r2 hc n1 n2;rw[decide_eq_decide.mpr h2]at hq;show MD zT s Z H x y v u Q I rx ry #[h1,hq]
def CN:bL K (wF K) fX:=by
 intro H x y p q k Q G F e J;unfold fX at e;cases B:fY p q with
 |none=>rw[B]at e;cases e
 |some b=>rw[B]at e;let L:(!b)=k:=qf e;let#[h1,h2]:=Jr B;let:=Ke B;subst this;subst L;show#[p,q,G,F,h1,h2,J]
def gQ(f:Int->Int->Bool)(g:List Nat->List Nat->Bool):R2:=λx y H Q=>(∃i j,x=.int i/\y=.int j/\Q (.bl (f i j)) H)\/∃i j,x=.str i/\y=.str j/\Q (.bl (g i.cps.toList j.cps.toList)) H
def Gx{g:List Nat->List Nat->Bool}(rule:∀(i j:Str)(t u:Tok)(s:Shared)(Q:zu)(E:zu),Q (.bool (g i.cps.toList j.cps.toList)) s->wpAny (model X.prog X.w) X.A (compareOp op (.str i t) (.str j u)) Q E s):
  OpR X (compareOp op) (λx y H Q=>∃i j,x=.str i/\y=.str j/\Q (.bl (g i.cps.toList j.cps.toList)) H):=by
 intro zT s Z H x y v u Q I G F h;let#[i,j,rfl,rfl,q]:=h;let#[t,rfl]:=G;let#[B,rfl]:=F;show rule i j t B s _ _ #[.bl _,H,I,rfl,q]
def Hq:OpR X (compareOp .Lt) (gQ (λi j=>↥(i<j)) λl m=>↥(l<m)):=FL.OpR.or MK (Gx (g:=λl m=>↥(l<m)) λ_ _ _ _ _ _ _ q=>PyProof.Rows.lt_str q)
def DT:OpR X (compareOp .LtE) (gQ (λi j=>↥(i<=j)) λl m=>!decide (m<l)):=FL.OpR.or MR (Gx (g:=λl m=>!decide (m<l)) λ_ _ _ _ _ _ _ q=>PySem.P.le_str q)
def EJ:OpR X (compareOp .Gt) (gQ (λi j=>↥(j<i)) λl m=>↥(m<l)):=FL.OpR.or Mx (Gx (g:=λl m=>↥(m<l)) λ_ _ _ _ _ _ _ q=>PySem.P.gt_str q)
def NC:OpR X (compareOp .GtE) (gQ (λi j=>↥(j<=i)) λl m=>!decide (l<m)):=FL.OpR.or MH (Gx (g:=λl m=>!decide (l<m)) λ_ _ _ _ _ _ _ q=>PySem.P.ge_str q)
def GS(h:∀p q k,o p q=⇑k->(∃i j,p=.int i/\q=.int j/\k=f i j)\/∃l m,p=.str l/\q=.str m/\k=g l m):bL K (gQ f g) o:=by
 intro H x y p q k Q F B e G;rcases h p q k e with⟨i,j,rfl,rfl,rfl⟩|⟨l,m,rfl,rfl,rfl⟩
 .cases F;cases B;show .inl #[i,j,rfl,rfl,G]
 .cases F with
  |str L O=>cases B with
   |str J M=>subst L J;show .inr #[_,_,rfl,rfl,G]
def HI:bL K (gQ (λi j=>↥(i<j)) λl m=>↥(l<m)) vJ:=GS λp q k e=>by
 unfold vJ yU at e;split at e
 .show .inl #[_,_,rfl,rfl,(qf e).symm]
 .show .inr #[_,_,rfl,rfl,(qf e).symm]
 .cases e
def ER:bL K (gQ (λi j=>↥(j<i)) λl m=>↥(m<l)) mM:=GS λp q k e=>by
 unfold mM yU at e;split at e
 .show .inl #[_,_,rfl,rfl,(qf e).symm]
 .show .inr #[_,_,rfl,rfl,(qf e).symm]
 .cases e
def DP:bL K (gQ (λi j=>↥(i<=j)) λl m=>!decide (m<l)) kU:=GS λp q k e=>by
 unfold kU at e;split at e
 .show .inl #[_,_,rfl,rfl,(qf e).symm]
 .show .inr #[_,_,rfl,rfl,(qf e).symm]
 .cases e
def Pi:bL K (gQ (λi j=>↥(j<=i)) λl m=>!decide (l<m)) yY:=GS λp q k e=>by
 unfold yY at e;split at e
 .show .inl #[_,_,rfl,rfl,(qf e).symm]
 .show .inr #[_,_,rfl,rfl,(qf e).symm]
 .cases e
end
section
open PySem.SeqAt
open Classical in
def wL(K:W.Frag)(neg:Bool):R2:=λx y H Q=>∃p l,aK K H x p/\(aK K H y (.lst l)\/aK K H y (.tup l))/\(∀d∈l,aQ d p=false/\fW d<=30)/\Q (.bl (if neg then !decide (p∈l)else ↥(p∈l))) H
def KB(I:Inv X zT Z H s)(rx:zJ x v)(r1:aK X.K H x p)(q1:zR X.K H xs l)(w1:zQ xs us)(hc:∀d∈l,aQ d p=false/\fW d<=30)(hu:A.units+30<cLine):
  ∃e:Value->Bool,(∀y,y∈us.toArray->EqAt A s y v (e y))/\us.toArray.any e=(open Classical in ↥(p∈l)):=by
 classical
 have item:∀{y:Value},y∈us->∃z d,zJ z y/\aK X.K H z d/\d∈l:=λ{y} O=>by
  let#[j,hj,e]:=getElem_of_mem O;let#[z,hz,G]:=Ew (j:=j) w1 hj;let hl:j<l.length:=by rw[<-q1.len,w1.length];show hj
  let#[Y,M,B]:=q1.get (i:=j) (d:=l[j]) (by simp);rw[hz]at M;cases M;show#[z,l[j],?_,B,by simp];let:us.toArray[j]=y:=e;rw[<-this];show G
 show#[λy=>↥(∃z,zJ z y/\aK X.K H z p),λy O=>?_,?_]
 .have h1:y∈us:=by simpa using O
  obtain⟨z,d,G,B,hd⟩:=item h1;let L:=hc d hd;let:=(Gh 30 (A:=A) L.2 I B r1 G rx L.1 hu).1;let e:↥(d=p)=↥(∃z,zJ z y/\aK X.K H z p):=by
   by_cases h:d=p
   .subst h;rw[qQ rfl,qQ #[z,G,B]]
   .rw[qR h];show(qR ?_).symm;rintro⟨Y,F,J⟩;let:z=Y:=G.inj F;subst this;show h (aK.uniq I B J L.1)
  show EqAt A s y v ↥(∃z,zJ z y/\aK X.K H z p);rw[<-e];show this
 .by_cases h:p∈l
  .rw[qQ h];let#[j,hj,e]:=getElem_of_mem h;let#[z,hz,B]:=q1.get (i:=j) (d:=l[j]) (by simp);let#[u,h2,ru]:=w1.get hz;rw[Array.any_eq_true'];show#[u,by simpa using qL h2,qQ #[z,ru,e▸B]]
  .rw[qR h];rw[Array.any_eq_false'];intro y O z;let#[Y,F,J]:=qT z;let#[z2,d,G,B,hd]:=item (y:=y) ↑O;let:z2=Y:=G.inj F;subst this;show h (aK.uniq I B J (hc d hd).1▸hd)
def RF(hu:X.A.units+32<cLine):OpR X (compareOp .NotIn) (wL X.K true):=by
 intro zT s Z H x y v u Q I rx Y h;let#[p,l,r1,B,hc,hq]:=h;let G:X.A.in1.units+30<cLine:=by show X.A.units+1+30<cLine;lia
 rcases B with B|B
 .cases B with
  |lst e q=>cases Y;let#[F,J,L,_]:=I.list e;let#[f,M,O]:=KB (A:=X.A.in1) I rx r1 q J hc G;show notIn_listAt f L.isList M #[.bl _,H,I,rfl,by rw[O];show hq]
 .cases B with
  |tup e q=>cases Y;let#[F,J,L,_]:=I.tuple (bA.of e);let#[f,M,O]:=KB (A:=X.A.in1) I rx r1 q J hc G;show notIn_tupleAt f (show s.heap.IsTuple _ F.toArray from L) M #[.bl _,H,I,rfl,by rw[O];show hq]
end
section
variable{K:W.Frag}
def Hf(F:xs.length=l.length)(h:atI l i=⇑d):∃j,ixN l.length i=⇑j/\l[j]?=⇑d/\∀x,xs[j]?=⇑x->L2.atI xs i=⇑x:=by
 unfold atI at h;cases q:ixN l.length i with
 |none=>rw[q]at h;cases h
 |some j=>
  rw[q]at h;show#[j,rfl,h,λx B=>?_];let e:L2.ixN xs.length i=⇑j:=by rw[F];show q
  unfold L2.atI;rw[e];show B
def zR.atI(r:zR K F xs l)(h:FL.atI l i=⇑d):∃x,L2.atI xs i=⇑x/\aK K F x d:=by let#[j,_,h1,h2]:=Hf (xs:=xs) r.len h;let#[x,G,B]:=r.get h1;show#[x,h2 x G,B]
def zI.get{j:Nat}(r:zI K F H xs l fp)(h:l[j]?=⇑t):∃x J B G,xs[j]?=⇑x/\aN K F H x t B/\fp=J++(B++G):=
 zI.ind (P:=λxs l fp=>∀j t,l[j]?=⇑t->∃x J B G,xs[j]?=⇑x/\aN K F H x t B/\fp=J++(B++G)) (λ_ _ e=>by cases e) (λa _ L j t e=>by
  cases j with
  |zero=>cases e;show#[_,[],_,_,rfl,a,rfl]
  |succ j=>let#[x,J,B,G,h1,h2,rfl]:=L j t e;show#[x,_++J,B,G,h1,h2,(qp ..).symm]) r j t h
def Rel.item{j:Nat}(r:Rel K (U++[⇑(.lst l)]) (Z++[⇑(.ref a)]) F G H)(h:l[j]?=⇑t):∃xs x,H a=⇑(.lst xs)/\xs.length=l.length/\xs[j]?=⇑x/\Rel K (U++[⇑t]) (Z++[⇑x]) F G H:=by
 let#[fp,e,nd,ap]:=r.en;let#[J,f2,rfl,en,b]:=e.cut (Ag r);cases b with
 |so O Y=>
  cases Y;cases O with
  |lst hD rl=>
   rename_i xs fl;let#[x,M,B,L,h1,h2,rfl]:=rl.get h;show#[xs,x,hD,rl.len,h1,r.fr,r.gr,J++(B++[]),en.app (.so h2 .nil),?_,λy hy=>ap y ?_]
   .let sub:List.Sublist (J++(B++[])) (J++(a::(M++(B++L))++[])):=by show List.Sublist.append (List.Sublist.refl _) ?_;simp;exact(List.Sublist.cons _ ((List.sublist_append_left B L).trans (List.sublist_append_right M _)))
    show sub.nodup nd
   .rcases qx.mp hy with z|z
    .show qj _ z
    .show qi _ ?_;simp only[qz]at z⊢;show qk _ (qi _ (qj _ z))
end
def OX{K:W.Frag}(e:bA K H c xs)(r:zR K F xs l)(h:atI l i=⇑d)(J:∀x,aK K F x d->Q x H):yS K (.ref c) (.int i) H Q:=by let#[x,G,B]:=r.atI h;show .inr (.inl #[c,xs,i,x,rfl,rfl,e,G,J x B])
def OT{K:W.Frag}(e:bM K H c xs)(r:zR K F xs l)(h:atI l i=⇑d)(J:∀x,aK K F x d->Q x H):yS K (.ref c) (.int i) H Q:=by let#[x,G,B]:=r.atI h;show .inl #[c,xs,i,x,rfl,rfl,e,G,J x B]
def OO(h:iU s q=⇑t):(∃l i d,s=.sh (.tup l)/\q=.int i/\atI l i=⇑d/\t=.sh d)\/(∃l i d,s=.sh (.lst l)/\q=.int i/\atI l i=⇑d/\t=.sh d)\/
  (∃l i c,s=.sh (.str l)/\q=.int i/\atI l i=⇑c/\t=.sh (.str [c]))\/∃l i,s=.lst l/\q=.int i/\atI l i=⇑t:=by
 show cps λ_ kk=>?_;rcases s with d|l|_|_
 .rcases d with _|_|_|l|l|l|_|_|_;case str|tup|lst=>
   rcases q with _|_|i|_|_|_|_|_|_;case int=>let#[d,e,e']:=qX.mp h;first|show kk (.inl ⟨_,_,d,rfl,rfl,e,e'.symm⟩)|show kk (.inr (.inl ⟨_,_,d,rfl,rfl,e,e'.symm⟩))|show kk (.inr (.inr (.inl ⟨_,_,d,rfl,rfl,e,e'.symm⟩)))
   all_goals cases h
  all_goals cases h
 .rcases q with _|_|i|_|_|_|_|_|_;case int=>exact kk (.inr (.inr (.inr #[_,_,rfl,rfl,h])))
  all_goals cases h
 all_goals cases h
def Hv{K:W.Frag}(h:aN K F H v (.sh d) fp):aK K F v d:=by cases h;assumption
def KH{K:W.Frag}(h:aN K F H v (.lst l) fp):∃a xs fq,v=.ref a/\H a=⇑(.lst xs)/\zI K F H xs l fq:=by
 cases h with
 |lst h1 h2=>show#[_,_,_,rfl,h1,h2]
def Jm{K:W.Frag}(fr:zF F H)(r:aK K F v d)(L:aK K F2 u q)(Y:iU (.sh d) q=⇑t)(G:∀e x,t=.sh e->aK K F x e->Q x H):yS K v u H Q:=by
 rcases OO Y with⟨l,i,e,B,rfl,O,rfl⟩|⟨l,i,e,B,rfl,O,rfl⟩|⟨l,i,c,B,rfl,ec,rfl⟩|⟨l,i,B,_⟩
 .injection B with B
  subst B;obtain rfl:=bF.int (H:=H) (.inl L);let#[a,xs,rfl,h1,M]:=bF.tup (H:=H) (.inl r);show OX (bA.of (fr _ _ h1)) M O λx J=>G _ x rfl J
 .injection B with B
  subst B;obtain rfl:=bF.int (H:=H) (.inl L);let#[a,xs,rfl,h1,M]:=bF.lst (H:=H) fr (.inl r);show OT h1 M O λx J=>G _ x rfl J
 .injection B with B
  subst B;obtain rfl:=bF.int (H:=H) (.inl L);let#[x,rfl,h1,z]:=bF.str (H:=H) (.inl r);show .inr (.inr #[_,i,c,rfl,rfl,by rw[Cd h1];show z,by rw[h1];show ec,G _ _ rfl (.str rfl (by show 1<=_;decide))])
 .cases B
def JM(h:iU (.lst l) q=⇑t):∃i,q=.int i/\atI l i=⇑t:=by
 cases q with
 |int i=>show#[i,rfl,h]
 |_=>cases h
def AG(ha:FE X a wa)(hb:FE X b wb)(hs:kH b:=by intro _ _;rfl):FE X (.Subscript a b pos) (cP wa wb):=λpn xe hp=>by
 refine PE.imp (Np (Nw (X:=wp X pn xe)) (ha pn xe hp) (hb pn xe hp) hs) λZ H Q q=>?_;refine(Fb (k:=λx y U2 Q E=>zz (view y U2) λq=>match x with
  |.v s=>zz (iU s q) λt=>Q (.v t) U2
  |.loc i=>match slot U2 i with
   |some s=>match iU s q with
    |some (.sh d)=>Q (.v (.sh d)) U2
    |_=>False
   |none=>False) q).mono λv H1 h1=>h1.mono λu H2 h2=>?_
 let#[F,G,U,x,y,P,PX,h5,Y,rx,ry,J,h6,hx]:=h2;let#[q,eq,J]:=Ak J;let B:Rel X.K (U++[zG x]) (Z++[⇑v]) F G H2:=by let:=Rel.swap (U1:=[zG x]) (Z1:=[⇑v]) (U2:=[zG y]) (Z2:=[⇑u]) Y rfl h5;show Rel.mid (U:=U) (Z:=Z) this Y
 let h4:Rel X.K (U++[zG y]) (Z++[⇑u]) F G H2:=h5.mid Y;let ru:=look (U':=[]) (Z':=[]) h4 Y ry eq;let M:∀{d:D}{x:V},P (.v (.sh d)) U->aK X.K F x d->Q x H2:=λhP r=>h6 _ U _ F H2 hP (zF.refl F) ((B.drop Y).push r) trivial;cases x with
 |v s=>
  let#[t,L,hP]:=Ak J;let#[w,fp,e1,sr]:=B.at (i:=U.length) (s:=s) EY;rw[Y,getElem?_append_right (q9 _)]at e1;let e2:v=w:=↑e1
  subst e2;cases s with
  |sh d=>show Jm B.fr (Hv sr) ru L λe x z rx=>M (by rw[<-z];show hP) rx
  |lst l=>let#[i,rfl,L]:=JM L;obtain rfl:=bF.int (H:=H2) (.inl ru);let#[a,ys,fq,rfl,hD,rl]:=KH sr;let#[j,_,hj,h3]:=Hf rl.len L;let#[xs,x,h7,h9,O,r2]:=Rel.item B hj;rw[hD]at h7;cases h7;show .inl #[_,_,i,x,rfl,rfl,bM.of hD,h3 x O,h6 _ U _ F H2 hP (zF.refl F) r2 trivial]
  |_=>cases q<;>cases L
 |loc k=>
  dsimp only at J;cases qs:slot U k with
  |none=>rw[qs]at J;show J.elim
  |some s=>
   rw[qs]at J;dsimp only at J;split at J
   .rename_i d L;let#[w,fp,e1,sr]:=(B.drop Y).at qs;let h8:Z[k]?=⇑⇑v:=rx;rw[h8]at e1;let e2:v=w:=by simpa using e1
    subst e2;cases s with
    |sh d'=>show Jm B.fr (Hv sr) ru L λe x z rx=>M (by injection z with z;rw[<-z];show J) rx
    |lst l=>let#[i,rfl,L]:=JM L;obtain rfl:=bF.int (H:=H2) (.inl ru);let#[a,ys,fq,rfl,hD,rl]:=KH sr;let#[j,_,hj,h3]:=Hf rl.len L;let#[x,fa,fi,fb,O,sx,_]:=rl.get hj;show .inl #[_,_,i,x,rfl,rfl,bM.of hD,h3 x O,M J (Hv sx)]
    |_=>cases q<;>cases L
   .show J.elim
section
variable{K:W.Frag}{Z:St}
def zI.set:∀{xs:List V}{l:List S}{fp:List Addr}{m:Nat},zI K F H xs l fp->m<l.length->∃J M G,fp=J++(M++G)/\
  ∀{H':Hp}{v:V}{s:S}{fq:List Addr},(∀a∈J++G,H' a=H a)->aN K F H' v s fq->zI K F H' (xs.set m v) (l.set m s) (J++(fq++G))
 |_,_,_,_,.nil,h=>by simp at h
 |_,_,_,0,.cons (fp:=fp) (fq:=fq) a b,h=>#[[],fp,fq,rfl,λL r=>by rw[nil_append];show .cons r (b.mono (zF.refl F) λc B=>L c B)]
 |_,_,_,m+1,.cons (fp:=fp) (fq:=fq) a b,h=>by let#[J,M,G,rfl,O]:=zI.set (m:=m) b ↑h;show#[fp++J,M,G,(qp ..).symm,λL r=>?_];rw[qp];show .cons (a.mono (zF.refl F) λc B=>L c (qj _ (qj _ B))) (O (λc B=>L c ((qx.mp B).elim (λz=>qj _ (qi _ z)) λz=>qi _ z)) r)
def GH(h:Z[n]?=⇑⇑v):Z.set n ⇑v=Z:=by
 apply ext_getElem?;intro j;by_cases B:n=j
 .subst B;rw[getElem?_set_self (qg.mp h).1,h]
 .rw[getElem?_set_ne B]
def Rel.setItem{D:Addr}(r:Rel K (U++[⇑s]) (Z++[⇑v]) F G H)(hs:slot U n=⇑(.lst l))(L:Z[n]?=⇑⇑(.ref D))(hm:m<l.length):
  ∃xs,H D=⇑(.lst xs)/\xs.length=l.length/\Rel K (U.set n ⇑(.lst (l.set m s))) Z F G (upd H D (.lst (xs.set m v))):=by
 let hl:=Ag r;let#[fp,e,nd,ap]:=r.en;let#[f1,f2,rfl,a,b]:=e.cut hl;let#[v',fa,fi,fb,e1,rfl,q,up]:=a.at hs;rw[L]at e1;let e2:V.ref D=v':=↑e1
 subst e2;cases q with
 |lst hD rl=>
  rename_i xs fl;cases b with
  |so sr nl=>
   cases nl;rename_i fs;let#[O,gi,M,rfl,h1]:=rl.set hm;show#[xs,hD,rl.len,?_];let#[n1,n2,h3]:=qw.mp nd;let#[na,B,h2]:=qw.mp n1;let#[ni,nb,B]:=qw.mp B;let#[nD,h8]:=qK.mp ni;let h7:D∉fa:=λz=>h2 D z D (qj _ qm) rfl;let h6:D∉fb:=λz=>B D qm D z rfl;let h4:D∉fs:=λz=>h3 D (qi _ (qj _ qm)) D ↑z rfl;let Y:=ap D (qj _ (qi _ (qj _ qm)));let ne:∀{l:List Addr},D∉l->∀x∈l,upd H D (.lst (xs.set m v)) x=H x:=λh x J=>Aj λz=>h (z▸J);let h5:D∉O++M:=λz=>nD ((qx.mp z).elim (λw=>qj _ w) λw=>qi _ (qi _ w));let new:aN K F (upd H D (.lst (xs.set m v))) (.ref D) (.lst (l.set m s)) (D::(O++(fs++M))):=.lst AI (h1 (ne h5) (sr.mono (zF.refl F) (ne h4)));let a2:=up (F':=F) (H':=upd H D (.lst (xs.set m v))) (o:=⇑(.lst (l.set m s))) (u:=⇑(.ref D)) (zF.refl F) (λx J=>Aj λz=>(qx.mp J).elim (λw=>h7 (z▸w)) λw=>h6 (z▸w)) (.so new .nil);rw[GH L]at a2;let sub:∃l2,l2.Perm (fa++((D::(O++(gi++M)))++fb)++(fs++[]))/\List.Sublist (fa++((D::(O++(fs++M)))++[]++fb)) l2:=by
    show#[fa++((D::(O++(fs++(gi++M))))++[]++fb),?_,?_]
    .simp;show List.Perm.append_left _ (List.Perm.cons _ (List.Perm.append_left _ ?_));show qM.trans (by simp)
    simp_all
   let#[l2,p,sb]:=sub;show#[zF.updR r.fr Y.1,λx o w=>?_,_,a2,sb.nodup (p.nodup_iff.mpr nd),λx J=>ap x (p.mem_iff.mp (sb.subset J))];let J:x≠D:=λz=>by rw[z,Y.2]at w;cases w
   rw[Aj J];show r.gr x o w
end
theorem Lj(ho:FE X o (zv j))(hi:FE X i wi)(he:FE X e we)(hs:autoParam (swapsWithSole [.Subscript o i tpos] e pos.line X.env=pure false) rZ9)(hw:autoParam (swappedStores [.Subscript o i tpos] e X.env=pure none) rZ9)
  (h1:autoParam ((assignEach [.Subscript o i tpos] X.env).map (·.2)=[assign (.Subscript o i tpos) X.env]) rZ9)
  (ha:∀v,assign (.Subscript o i tpos) X.env v=(do
   let ov<-holding [v] (eval o X.env)
   let iv<-holding [v,ov] (eval i X.env)
   standAt tpos
   holding [v,ov,iv] (setItem ov iv v)
   release [v,ov,iv] []):=by intro _;rfl):FS X ks (.Assign [.Subscript o i tpos] e pos) (fD j wi we):=λpn xe hp=>by
 show PS.imp (Jg (X:=wp X pn xe) (he pn xe hp) (Nj (X:=wp X pn xe) (ho pn xe hp) (hi pn xe hp) QN ha) hs hw h1) λD Z H q=>?_;let#[F,G,U,E,zV,hw,n,b,c,r,x]:=q;let x0:XC (wp X pn xe) (·=Z) F G E.ex:=x.mono (λZ2 z=>by rw[z];show KP.refl) (zF.refl F) (zF.refl G);show#[F,G,U,_,_,zV,hw,λr U1 v F1 H1 hk s1 r1 rv=>?_,x0];let l1:=Ag r1;let#[G1,rel1,gg,back]:=r1.hide l1;show#[F1,G1,U1,_,_,rel1,hk,λy U2 o' F2 H2 hk2 s2 r2 rv2=>?_,x0.mono (λ_ z=>z) s1 gg];let l2:=Ag r2;let#[G2,rel2,gg2,back2]:=r2.hide l2;show#[F2,G2,U2,_,_,rel2,hk2,λz U3 i' F3 H3 hk3 s3 r3 rv3=>?_,x0.mono (λ_ z=>z) (s1.trans s2) (gg.trans gg2)];let l3:=Ag r3;let#[q,eq,hk3]:=Ak hk3;let#[#[t,U4],eg,hk4]:=Ak hk3
 --all three stand at the end
 let r4:=back (s2.trans s3) (back2 s3 r3);simp only[qp,cons_append,nil_append]at r4;let ri:=look (U':=[zG y,zG r]) (Z':=[⇑o',⇑v]) r4 l3 rv3 eq;let r5:Rel X.K (U3++[zG r]) (Z++[⇑v]) F3 G H3:=Rel.mid (U:=U3) (Z:=Z) (Rel.mid (U:=U3) (Z:=Z) r4 l3) l3;let#[F4,s4,l4,r6]:=Ax (U':=[]) (Z':=[]) r5 l3 rv eg;cases y with
 |v y0=>show hk4.elim
 |loc k=>
  cases q with
  |int m=>
   cases qs:slot U4 j with
   |none=>simp only[qs]at hk4
   |some sj=>
    cases sj with
    |lst l=>
     simp only[qs]at hk4;let#[rfl,hk4]:=hk4;let#[w,ew,hnx]:=Ak hk4;let hZ:Z[k]?=⇑⇑o':=rv2;let#[v',fp,e1,sr]:=r6.at (i:=k) (s:=.lst l) (by rw[GD (Fh qs)];show qs);let hkl:k<Z.length:=(qg.mp hZ).1;rw[getElem?_append_left hkl,hZ]at e1;let e2:o'=v':=↑e1
     subst e2;let hw:w<l.length:=by
      unfold ixN at ew;split at ew
      .split at ew
       .let e:=qf ew;lia
       .cases ew
      .split at ew
       .let e:=qf ew;lia
       .cases ew
     cases sr with
     |lst hD rl=>rename_i a xs fl;let#[xs',hD',zW,r7]:=Rel.setItem r6 qs hZ hw;rw[hD]at hD';cases hD';cases ri;show#[a,xs,m,w,rfl,rfl,hD,by rw[zW];show ew,n _ Z F4 _ hnx KP.refl (s1.trans (s2.trans (s3.trans s4))) r7]
    |_=>simp[qs]at hk4
  |_=>show hk4.elim
def ET(ho:FE X o (zv j))(he:FE X e we)
  (h1:autoParam (attributeBase o "append" X.env (eval o X.env)=eval o X.env) rZ9)
  (h4:autoParam (((backTo cpos (starEach [e] X.env)).all (λx=>!x.1)&&(backToKw cpos (keywordEach [] X.env)).all (λx=>x.1.isSome)
   &&↥([e].length+([]:List Keyword).length+(if([]:List Keyword).isEmpty then 0 else 1)<30))=true) rZ9)
  (Y:autoParam ((apos.endLine==cpos.line)=true) rZ9)(hs:autoParam (starEach [e] X.env=[(false,eval e X.env)]) rZ9):FE X (.Call (.Attribute o "append" apos) [e] [] cpos) (bQ j we):=λpn xe hp=>by
 refine PE.imp (Gi (X:=wp X pn xe) PySem.F.plainAttrs_list PySem.F.slot_list_append PySem.F.type_list_append LP (ho pn xe hp) (Aa he Ab hs pn xe hp) h1 h4 Y hs rfl) λZ H Q q=>?_;let#[F,G,U,P,PX,h5,hw,h6,hx]:=q;let L:(match slot U j with
  |some (.lst _)=>we U (λr M=>zz (give r M) λp=>(match slot p.2 j with
   |some (.lst l)=>l.length<big/\P (.v (.sh .non)) (p.2.set j ⇑(.lst (l++[p.1])))
   |_=>False)) PX
  |_=>False):=hw
 cases qs:slot U j with
 |none=>rw[qs]at L;show L.elim
 |some s0=>
  cases s0 with
  |lst l0=>
   rw[qs]at L;show#[F,G,U,λy O=>y=.loc j/\O=U,PX,h5,by unfold zv;rw[qs];show#[rfl,rfl],λy O o' F1 H1 J s1 r1 rv=>?_,hx];let#[rfl,rfl]:=J;let l1:=Ag r1;let h2:Z[j]?=⇑⇑o':=rv;let r2:=r1.drop l1;let#[v',fp,e1,sr]:=r2.at qs;rw[h2]at e1;let e2:o'=v':=↑e1
   subst e2;cases sr with
   |lst hD rl=>
    rename_i a xs fl;show#[.inl #[rfl,_,bM.of hD],F1,G,O,λrs M=>match rs with|[r]=>(zz (give r M) λp=>match slot p.2 j with|some (.lst l)=>l.length<big/\P (.v (.sh .non)) (p.2.set j ⇑(.lst (l++[p.1])))|_=>False)|_=>False,PX,r2,L,λrs M vs F2 H2 J s2 r3 hl B=>?_,hx.grow s1];match rs,vs,B,r3,J with
    |[r],[v],B,r3,J=>
     let#[#[t,h8],eg,J]:=Ak J;let#[F3,s3,l3,r4]:=Ax (U':=[]) (Z':=[]) r3 hl B.1 eg;split at J
     .rename_i l ql;let#[ys,h7,h3,r5]:=Rel.append r4 ql h2;show#[a,ys,v,rfl,rfl,h7,by rw[h3];show lt_trans J.1 ⋯,h6 _ _ .non F3 _ J.2 (s1.trans (s2.trans s3)) (r5.push .non) trivial]
     .show J.elim
    |[],_,_,_,J=>show J.elim
    |[_],[],B,_,_=>show B.elim
    |[_],_::_::_,B,_,_=>show B.2.elim
    |_::_::_,_,_,_,J=>show J.elim
  |_=>rw[qs]at L;show L.elim
section
variable{K:W.Frag}
def gH(K:W.Frag)(F H:Hp):List V->List D->Prop
 |[],[]=>True
 |v::vs,d::ds=>bF K F H v d/\gH K F H vs ds
 |_,_=>False
def AN{b:List D->Option S}(h2:∀x y r,b (x::y::r)=none)(G:b []=none)(B:gH K F H vs ds)(e:b ds=⇑s):∃d v,ds=[d]/\vs=[v]:=by
 cases ds with
 |nil=>rw[G]at e;cases e
 |cons x ds=>
  cases ds with
  |cons y r=>rw[h2]at e;cases e
  |nil=>
   cases vs with
   |nil=>show B.elim
   |cons v vs=>
    cases vs with
    |nil=>show#[x,v,rfl,rfl]
    |cons u vs=>show B.2.elim
def Gf{b:List D->Option S}(h1:∀x,b [x]=none)(G:∀x y z r,b (x::y::z::r)=none)(J:b []=none)(B:gH K F H vs ds)(e:b ds=⇑s):∃d L v u,ds=[d,L]/\vs=[v,u]:=by
 cases ds with
 |nil=>rw[J]at e;cases e
 |cons x ds=>
  cases ds with
  |nil=>rw[h1]at e;cases e
  |cons y ds=>
   cases ds with
   |cons z r=>rw[G]at e;cases e
   |nil=>
    cases vs with
    |nil=>show B.elim
    |cons v vs=>
     cases vs with
     |nil=>show B.2.elim
     |cons u vs=>
      cases vs with
      |nil=>show#[x,y,v,u,rfl,rfl]
      |cons u vs=>show B.2.2.elim
def Bt:∀{rs:List R}{vs:List V}{ds:List D}{U U':Env}{F:Hp}{Z':St},Rel K (U++(rs.map zG++U')) (Z++(vs.map some++Z')) F G H->U.length=Z.length->nB Z vs rs->(rs.mapM λr=>zP r U)=⇑ds->
  ∃F',zF F F'/\gH K F' H vs ds/\Rel K (U++U') (Z++Z') F' G H
 |[],[],ds,U,U',F,Z',r,h,_,e=>by
  let J:ds=[]:=↑e.symm
  subst J;show#[F,zF.refl F,trivial,r]
 |[],_::_,_,_,_,_,_,_,_,h,_=>h.elim
 |_::_,[],_,_,_,_,_,_,_,h,_=>h.elim
 |x::rs,v::vs,ds,U,U',F,Z',r,h,rv,e=>by
  rw[List.mapM_cons]at e;cases q:zP x U with
  |none=>rw[q]at e;cases e
  |some d=>
   rw[q]at e;cases B:(rs.mapM λr=>zP r U)with
   |none=>rw[B]at e;cases e
   |some es=>rw[B]at e;let J:d::es=ds:=qf e;subst J;let#[F1,M,O,r1]:=BA (U':=rs.map zG++U') (Z':=vs.map some++Z') r h rv.1 q;let#[F2,L,res,Y]:=Bt (rs:=rs) (vs:=vs) r1 h rv.2 B;show#[F2,M.trans L,#[O.mono L,res],Y]
def bX(K:W.Frag)(r:List V->Hp->VK->Prop)(f:List D->Option S):Prop:=∀(Z:St)(U:Env)(F G H:Hp)(vs:List V)(ds:List D)(s:S)(Q:VK),Rel K U Z F G H->gH K F H vs ds->f ds=⇑s->
 (∀v F' H',zF F F'->Rel K (U++[⇑s]) (Z++[⇑v]) F' G H'->Q v H')->r vs H Q
end
section
variable{id T:String}
def KA(hd:bX X.K r f)(Z:St)(H:Hp)(Q:VK)(q:tW (wp X pn xe) (wB f wa) Z H Q):br r (rP (wp X pn xe) wa) Z H Q:=by show(many (k:=λY B Q E=>zz (Y.mapM λr=>zP r B) λO=>zz (f O) λs=>Q (.v s) B) q).mono λvs H1 h1=>?_;let#[F,G,U,Y,P,PX,L,hl,rv,J,M,hx]:=h1;let#[O,ed,J]:=Ak J;let#[s,es,J]:=Ak J;let#[F1,s1,re,r1]:=Bt (U':=[]) (Z':=[]) ↑L hl rv ed;show hd Z U F1 G H1 vs O s Q ↑r1 re es λv F' H' sm r'=>M _ U v F' H' J (s1.trans sm) r' trivial
def EN(hc:∀pn xe,aR (wp X pn xe) (.builtin id) r)(hd:bX X.K r f)(O:Gl X x)(M:X.mg x=none)(J:bootBuiltins x=⇑(.builtin id))(ha:FA X (e::es) G)(hn:autoParam (x≠"__name__") dZ9)(F:autoParam ((x==("__debug__":Str))=false) dZ9)
  (Y:autoParam (starEach (e::es) X.env=(false,eval e X.env)::starEach es X.env) rZ9)(B:autoParam ((backTo pos (starEach es X.env)).any (·.1)=false) rZ9):FE X (.Call (.Name x p) (e::es) [] pos) (wB f G):=λpn xe L=>
 PE.imp (PN (X:=wp X pn xe) (hc pn xe) O M J (ha pn xe L) hn F Y B) (KA hd)
def EV(hc:∀pn xe,aR (wp X pn xe) (.type T) r)(hd:bX X.K r f)(O:Gl X x)(M:X.mg x=none)(J:bootBuiltins x=⇑(.type T))(ha:FA X (e::es) G)(hn:autoParam (x≠"__name__") dZ9)(F:autoParam ((x==("__debug__":Str))=false) dZ9)
  (Y:autoParam (starEach (e::es) X.env=(false,eval e X.env)::starEach es X.env) rZ9)(B:autoParam ((backTo pos (starEach es X.env)).any (·.1)=false) rZ9):FE X (.Call (.Name x p) (e::es) [] pos) (wB f G):=λpn xe L=>
 PE.imp (Sh (X:=wp X pn xe) (hc pn xe) O M J (ha pn xe L) hn F Y B) (KA hd)
def sO(K:W.Frag):List V->Hp->VK->Prop:=λxs H Q=>(∃p ys,xs=[.ref p]/\(bM K H p ys\/bA K H p ys)/\Q (.int ys.length) H)\/∃z,xs=[.str z]/\z.length<=sizeLine/\Q (.int z.length) H
def aR.or'{f:Value}(h:aR X f r)(h':aR X f G):aR X f (λx H Q=>r x H Q\/G x H Q):=λzT s Z H xs B Q I F q=>q.elim (h zT s Z H xs B Q I F) (h' zT s Z H xs B Q I F)
def LQ:aR X (.builtin "len") (sO X.K):=aR.or' UJ UN
def Li{K:W.Frag}:bX K (sO K) bE:=by
 intro Z U F G H vs Y s Q B J e M;let#[d,v,rfl,rfl]:=AN (λx y r=>by cases x<;>rfl) rfl J e;cases d with
 |str l=>cases e;let#[x,rfl,O,z]:=J.1.str;show .inr #[x,rfl,by rw[Cd O];show z,by rw[Cd O];show M _ F H (zF.refl F) (B.push (.int _))]
 |tup l=>cases e;let#[a,xs,rfl,h1,L]:=J.1.tup;show .inl #[a,xs,rfl,.inr (bA.of (B.fr _ _ h1)),by rw[L.len];show M _ F H (zF.refl F) (B.push (.int _))]
 |lst l=>cases e;let#[a,xs,rfl,h1,L]:=J.1.lst B.fr;show .inl #[a,xs,rfl,.inl h1,by rw[L.len];show M _ F H (zF.refl F) (B.push (.int _))]
 |_=>cases e
def Bf(J:Gl X "len")(G:X.mg "len"=none)(M:FA X (e::es) F)(L:autoParam (starEach (e::es) X.env=(false,eval e X.env)::starEach es X.env) rZ9)(B:autoParam ((backTo pos (starEach es X.env)).any (·.1)=false) rZ9):FE X (.Call (.Name "len" p) (e::es) [] pos) (wB bE F):=
 EN (λ_ _=>LQ) Li J G PySem.boot_len M ⋯ ⋯ L B
end
section
variable{K:W.Frag}
def wJ:List V->Hp->VK->Prop:=λxs H Q=>(∃i,xs=[.int i]/\Q (.int i) H)\/∃k,xs=[.bl k]/\Q (.int (if k then 1 else 0)) H
def bF.bl(h:bF K F H v (.bl b)):v=.bl b:=by
 rcases h with h|⟨_,_,_,_,h,_⟩|⟨_,_,_,_,_,h,_⟩|⟨_,_,_,_,_,h,_⟩
 .cases h;rfl
 .cases h
 .cases h
 .cases h
def HW:bX K wJ gX:=by
 intro Z U F G H vs M s Q B J e L;let#[d,v,rfl,rfl]:=AN (λx y r=>by cases x<;>rfl) rfl J e;cases d with
 |int i=>cases e;let:=J.1.int;subst this;show .inl #[i,rfl,L _ F H (zF.refl F) (B.push (.int _))]
 |bl b=>cases e;let:=J.1.bl;subst this;show .inr #[b,rfl,L _ F H (zF.refl F) (B.push (.int _))]
 |_=>cases e
def Fi(L:Gl X "int")(J:X.mg "int"=none)(G:bootBuiltins "int"=⇑(.type "int"))(O:FA X (e::es) F)(M:autoParam (starEach (e::es) X.env=(false,eval e X.env)::starEach es X.env) rZ9)(B:autoParam ((backTo pos (starEach es X.env)).any (·.1)=false) rZ9):FE X (.Call (.Name "int" p) (e::es) [] pos) (wB gX F):=
 EV (λ_ _=>Lz) HW L J G O ⋯ ⋯ M B
def sI(K:W.Frag):List V->Hp->VK->Prop:=λxs H Q=>∃p ys,xs=[.ref p]/\((bM K H p ys/\∀l,H l=none->Q (.ref l) (upd H l (.tup ys)))\/(bA K H p ys/\Q (.ref p) H))
def Tw:bX K (sI K) cU:=by
 intro Z U F G H vs ds s Q B J e O;let#[d,v,rfl,rfl]:=AN (λx y r=>by cases x<;>rfl) rfl J e;cases d with
 |tup l=>cases e;let#[a,xs,rfl,h1,L]:=J.1.tup;show#[a,xs,rfl,.inr #[bA.of (B.fr _ _ h1),O _ F H (zF.refl F) (B.push (.tup h1 L))]]
 |lst l=>cases e;let#[a,xs,rfl,h1,L]:=J.1.lst B.fr;show#[a,xs,rfl,.inl #[h1,λp Y=>?_]];let M:=(B.free Y).1;show O _ _ _ (zF.upd M) ((B.newF Y).push (.tup AI (L.mono (zF.upd M))))
 |_=>cases e
def Ft(L:Gl X "tuple")(J:X.mg "tuple"=none)(G:bootBuiltins "tuple"=⇑(.type "tuple"))(O:FA X (e::es) F)(M:autoParam (starEach (e::es) X.env=(false,eval e X.env)::starEach es X.env) rZ9)(B:autoParam ((backTo pos (starEach es X.env)).any (·.1)=false) rZ9):FE X (.Call (.Name "tuple" p) (e::es) [] pos) (wB cU F):=
 EV (λ_ _=>UG) Tw L J G O ⋯ ⋯ M B
def pI(K:W.Frag):List V->Hp->VK->Prop:=λxs H Q=>∃p ys,xs=[.ref p]/\(bM K H p ys\/bA K H p ys)/\∀l,H l=none->Q (.ref l) (upd H l (.lst ys))
def Ld:bX K (pI K) xO:=by
 intro Z U F G H vs Y s Q B J e O;let#[d,v,rfl,rfl]:=AN (λx y r=>by cases x<;>rfl) rfl J e;cases d with
 |tup l=>cases e;let#[a,xs,rfl,h1,L]:=J.1.tup;show#[a,xs,rfl,.inr (bA.of (B.fr _ _ h1)),λp M=>O _ F _ (zF.refl F) (B.newLD M L)]
 |lst l=>cases e;let#[a,xs,rfl,h1,L]:=J.1.lst B.fr;show#[a,xs,rfl,.inl h1,λp M=>O _ F _ (zF.refl F) (B.newLD M L)]
 |_=>cases e
end
def EC(h:aY a=aY b):a=b:=by
 cases a with
 |inl i=>cases b with
  |inl j=>have h':D.int i=D.int j:=h;cases h';rfl
  |inr y=>have h':D.int i=D.str y.cps.toList:=h;cases h'
 |inr x=>cases b with
  |inl j=>have h':D.str x.cps.toList=D.int j:=h;cases h'
  |inr y=>have h':D.str x.cps.toList=D.str y.cps.toList:=h;let#[#[a]]:=x;first|rfl|assumption|(simp_all;done)
def Ih:∀{a b:List aP},a.map aY=b.map aY->a=b
 |[],[],_=>rfl
 |[],_::_,h=>by simp at h
 |_::_,[],h=>by simp at h
 |x::a,y::b,h=>by
  injection h with h1 h2
  rw[EC h1,Ih h2]
section
variable{K:W.Frag}
def Gv(r:aK K H x d)(h:bC d=true):∃k:aP,x=kV k/\d=aY k:=by
 cases r with
 |int i=>show#[.inl i,rfl,rfl]
 |str e z=>show#[.inr _,rfl,by rw[<-e];rfl]
 |_=>cases h
def Fp(r:zR K H xs l):l.all bC=true->∃ks:List aP,xs=ks.map kV/\l=ks.map aY:=
 zR.ind (P:=λxs l=>l.all bC=true->∃ks:List aP,xs=ks.map kV/\l=ks.map aY) (λ_=>#[[],rfl,rfl]) (λa _ B h=>by rw[all_cons,and_eq_true]at h;let#[k,rfl,rfl]:=Gv a h.1;let#[ks,rfl,rfl]:=B h.2;show#[k::ks,rfl,rfl]) r
open Classical in
def HZ{κ:Type}[DecidableEq κ](g:κ->D)(F:∀a b,g a=g b->a=b):∀(B:List (κ×V))(k:κ),(eC B k).isSome=↥(g k∈B.map λp=>g p.1)
 |[],k=>by simp[eC]
 |p::r,k=>by
  by_cases e:p.1=k
  .rw[GF e];let:g k∈(p::r).map λp=>g p.1:=by rw[qy,e];exact qm
   show(qQ this).symm
  .rw[GA e,HZ g F r k];let:(g k∈(p::r).map λp=>g p.1)↔(g k∈r.map λp=>g p.1):=by rw[qy,qA];exact#[λz=>z.elim (λw=>absurd (F _ _ w).symm e) id,.inr]
   show(decide_eq_decide.2 this).symm
open Classical in
def HC{κ:Type}[DecidableEq κ](g:κ->D)(G:∀a b,g a=g b->a=b){α:Type}:∀(B:List (κ×V))(vs:List α)(k:κ)(P:V->α->Prop),B.length=vs.length->(∀(i:Nat) x y,(B.map (·.2))[i]?=⇑x->vs[i]?=⇑y->P x y)->
  (lk (B.map λp=>g p.1) vs (g k)=none/\eC B k=none)\/∃x y,eC B k=⇑x/\lk (B.map λp=>g p.1) vs (g k)=⇑y/\P x y
 |[],[],k,P,_,_=>.inl #[rfl,rfl]
 |[],_::_,_,_,h,_=>by simp at h
 |_::_,[],_,_,h,_=>by simp at h
 |p::r,v::vs,k,P,hl,h=>by
  by_cases e:p.1=k
  .show .inr #[p.2,v,GF e,?_,h 0 p.2 v rfl rfl];show(if g p.1=g k then ⇑v else lk (r.map λp=>g p.1) vs (g k))=⇑v;rw[qZ (by rw[e])]
  .let F:¬g p.1=g k:=λz=>e (G _ _ z);rw[GA e];let J:lk ((p::r).map λp=>g p.1) (v::vs) (g k)=lk (r.map λp=>g p.1) vs (g k):=by show(if g p.1=g k then ⇑v else lk (r.map λp=>g p.1) vs (g k))=_;rw[q8 F]
   rw[J];show HC g G r vs k P ↑hl λi x y h1 h2=>h (i+1) x y ↑h1 ↑h2
def Pz(O:aK K H x d)(r2:aK K H (.ref a) (.dct t ks vs))(M:dC t d=true):∃o,uZ H a x o/\o.isSome=(open Classical in ↥(d∈ks))/\
  ((lk ks vs d=none/\o=none)\/∃v e,o=⇑v/\lk ks vs d=⇑e/\aK K H v e):=by
 cases r2 with
 |dK e k r=>
  rename_i B;let#[J,rfl,rfl]:=Gv O M;show#[_,.inl #[B,J,e,rfl,rfl],?_,?_]
  .rw[k];show HZ aY (λ_ _=>EC) B J
  .rw[k];rcases HC aY (λ_ _=>EC) B vs J (λv e=>aK K H v e) (by let:=r.len;simpa using this) (λi x y h1 h2=>by let#[Y,G,L]:=r.get h2;rw[h1]at G;cases G;show L)with⟨h1,h2⟩|⟨v,e,h1,h2,h3⟩
   .show .inl #[h1,h2]
   .show .inr #[v,e,h1,h2,h3]
 |dT e k r=>
  rename_i B;cases O with
  |tup e1 q=>
   let#[F,rfl,rfl]:=Fp q M;let inj:∀a b:List aP,D.tup (a.map aY)=D.tup (b.map aY)->a=b:=λa b z=>Ih (D.tup.inj z);show#[_,.inr #[B,F,_,e,rfl,e1,rfl],?_,?_]
   .rw[k];show HZ (λl=>D.tup (l.map aY)) inj B F
   .rw[k];rcases HC (λl=>D.tup (l.map aY)) inj B vs F (λv e=>aK K H v e) (by let:=r.len;simpa using this) (λi x y h1 h2=>by let#[Y,G,L]:=r.get h2;rw[h1]at G;cases G;show L)with⟨h1,h2⟩|⟨v,e,h1,h2,h3⟩
    .show .inl #[h1,h2]
    .show .inr #[v,e,h1,h2,h3]
  |_=>cases M
def jP(neg:Bool):R2:=λx y H Q=>∃a o,y=.ref a/\uZ H a x o/\Q (.bl (if neg then !o.isSome else o.isSome)) H
def UO(G:X.A.units+1<cLine):OpR X (compareOp .NotIn) (jP true):=by intro zT s Z H x y v u Q I F B h;let#[a,o,rfl,g,q]:=h;cases B;show Py G I g F λs' J=>#[.bl _,H,J,rfl,q]
def iQ(K:W.Frag)(neg:Bool):R2:=λx y H Q=>wL K neg x y H Q\/jP neg x y H Q
def Uh(B:X.A.units+32<cLine):OpR X (compareOp .NotIn) (iQ X.K true):=FL.OpR.or (RF B) (UO ∅)
open Classical in
def Pb(G:aK K H x p)(F:aK K H y q)(e:xN p q=⇑k)(J:Q (.bl (if neg then !k else k)) H):iQ K neg x y H Q:=by
 unfold xN at e;split at e
 .rename_i l;split at e
  .cases e
  .rename_i h;let B:=qf e;subst B;show .inl #[p,l,G,.inl F,λd M=>?_,J];grind
 .rename_i l;split at e
  .cases e
  .rename_i h;let B:=qf e;subst B;show .inl #[p,l,G,.inr F,λd M=>?_,J];grind
 .rename_i t ks vs;split at e
  .rename_i h;let B:=qf e;cases y with
   |ref a=>let#[o,g,L,_]:=Pz G F h;show .inr #[a,o,rfl,g,?_];rw[L,B];show J
   |_=>cases F
  .cases e
 .cases e
end
open PySem.Builtin.Str (strSliceIndices)
def Gz(n d:Nat)(o:Option Int):HT.sIx n d o=FL.sIx n d o:=by cases o<;>rfl
def JE(n d:Nat)(B:d<=n)(o:Option Int):FL.sIx n d o<=n:=by rw[<-Gz];show HT.sIx_le n d B o
def uM(z:Str)(lo hi:Option Int):Str:=#[(bI z.cps.toList lo hi).toArray]
def SE(lo hi:Option Int)(n:Nat):strSliceIndices lo hi 1 n=(List.range (FL.sIx n n hi-FL.sIx n 0 lo)).map (FL.sIx n 0 lo+·):=by rw[<-sliceRange_one];unfold strSliceIndices;cases lo<;>cases hi<;>simp only[if_true,FL.sIx,Em]<;>rfl
def RG(x:Str)(lo hi:Option Int):Txt.slice x lo hi=uM x lo hi:=by
 let B:x.length=x.cps.toList.length:=by show x.cps.size=_;rw[qU]
 unfold Txt.slice uM bI;rw[SE,pick_run,<-B];split
 .rename_i h;simp at h;let h1:=JE x.length x.length (q9 _) hi;let h2:FL.sIx x.length 0 lo=0\/x.length=0:=by lia
  let F:FL.sIx x.length 0 lo=0:=h2.elim id λz=>by let:=JE x.length 0 (zero_le _) lo;lia
  rw[h,F,drop_zero,List.take_of_length_le (by rw[B];show q9 _)]
 .rfl
def vZ:V->Option Int->Option Int->Hp->VK->Prop:=λx lo hi H Q=>∃z,x=.str z/\z.length<=sizeLine/\Q (.str (uM z lo hi)) H
def Kt(p:IsPart v o):∃l:Option (Int×Tok),v=partValue l/\o=l.map (·.1):=by
 cases p with
 |none=>show#[none,rfl,rfl]
 |int i t=>show#[⇑(i,t),rfl,rfl]
def ND:kR X vZ:=by
 intro zT s Z H x v vl O lo hi sl Q I B M J G h;let#[z,rfl,L,q]:=h;let#[t,rfl]:=B;let#[l,rfl,rfl]:=Kt J;let#[u,rfl,rfl]:=Kt G;rw[<-RG]at q;exact⟨"str",_,F.slot_str_getitem.lookup,typeIs_str _ _ _,wpAny_getItem_str_slice (l:=l) (u:=u) (st:=none) M rfl
  (post_val_or_str #[le_trans (Txt.slice_le z _ _) L,λY k=>#[.str (Txt.slice z (l.map (·.1)) (u.map (·.1))),H,I.tok _,#[_,rfl],q]])⟩
def vX(K:W.Frag):V->Option Int->Option Int->Hp->VK->Prop:=λx lo hi H Q=>∃a xs,x=.ref a/\bA K H a xs/\
 (HT.sIx xs.length 0 lo=0/\HT.sIx xs.length xs.length hi=xs.length)/\Q (.ref a) H
def UR{items:Array Value}{lo hi:Option Int}(F:IsTup s.heap t items)(hs:s.heap.IsSliceOf M vl Y .none)(pl:IsPart vl lo)(pu:IsPart Y hi)
  (O:HT.sIx items.size 0 lo=0/\HT.sIx items.size items.size hi=items.size)(h:Q (.ref t) s):wpAny (model prog w) A (getItem (.ref t) (.ref M)) Q E s:=by
 let#[os,G,J,h1]:=id hs;let L:s.TypeIs (.ref M) "slice":=#[os,G,J]
 unfold getItem;try with_reducible show zp ?_
 first|show qa (qb ?_)|skip
 refine qa (wpAny_sequenceKey F.typeIs ⋯ ?_);refine qa (wpAny_callSpecial?_slot (name:=Str.ofString "__getitem__") F.typeIs PyProof.Rows.slot_tuple_getitem
  (zl PyProof.Rows.slot_tuple_getitem F.typeIs entry_tuple_getitem ?_ (args_tuple_getitem _ _)))
 show wpAny _ _ (Builtin.Tuple.tupleItemsOf (.ref t)>>=_) _ _ s;show qa (tupleItemsOf_ F ?_);show qa (wpAny_typeOf L ?_);show qa (HT.sliceApplied_gen hs pl pu ?_);let B:(((HT.sIx items.size 0 lo:Nat):Int)==0&&(1:Int)==1&&(HT.sIx items.size items.size hi-HT.sIx items.size 0 lo)==items.size)=true:=by rw[O.1,O.2];simp
 show wpAny _ _ (if(((HT.sIx items.size 0 lo:Nat):Int)==0&&(1:Int)==1&&(HT.sIx items.size items.size hi-HT.sIx items.size 0 lo)==items.size)=true then _ else _) _ _ s;rw[qZ B];show qa (qa (wpAny_typeOf F.typeIs (qb ?_)));first
  |show qa (wpAny_rule (qb ⟨_,rfl,qb h⟩))
  |show qa (qb (qb ⟨_,rfl,qb h⟩))
  |show qb ⟨_,rfl,qb h⟩
def QO:kR X (vX X.K):=by
 intro zT s Z H x v vl vu lo hi sl Q I J hs M L h;let#[a,xs,rfl,O,Y,q]:=h;cases J;let#[F,r,G,hz]:=I.tuple O;let B:F.toArray.size=xs.length:=by rw[qr];show r.length.symm
 show#["tuple",_,PyProof.Rows.slot_tuple_getitem.lookup,G.typeIs,?_];show UR G hs M L (by rw[B];show Y) #[.ref a,H,I,rfl,q]
section
variable{K:W.Frag}
def zR.drop:∀{xs:List V}{l:List D}(n:Nat),zR K F xs l->zR K F (xs.drop n) (l.drop n)
 |_,_,0,r=>by rw[drop_zero];show r
 |_,_,n+1,.nil=>by rw[List.drop_nil];show .nil
 |_,_,n+1,.cons a b=>by rw[List.drop_succ_cons];show zR.drop n b
def zR.take:∀{xs:List V}{l:List D}(n:Nat),zR K F xs l->zR K F (xs.take n) (l.take n)
 |_,_,0,r=>by rw[List.take_zero];show .nil
 |_,_,n+1,.nil=>by rw[List.take_nil];show .nil
 |_,_,n+1,.cons a b=>by rw[List.take_succ_cons];show .cons a (zR.take n b)
def zR.cut{lo hi:Option Int}(r:zR K F xs l):zR K F (iF xs lo hi) (bI l lo hi):=by unfold iF bI;rw[Gz,r.len];show(r.drop _).take _
def cx(K:W.Frag):V->Option Int->Option Int->Hp->VK->Prop:=λx lo hi H Q=>wA K x lo hi H Q\/vY K x lo hi H Q\/vX K x lo hi H Q\/vZ x lo hi H Q
def Jl:kR X (cx X.K):=kR.or Pm (kR.or Nr (kR.or QO ND))
def OP{lo hi:Option Int}(B:Rel K U Z F G H)(Y:bF K F H v d)(e:lM d lo hi=⇑s)
  (M:∀v F' H',zF F F'->Rel K (U++[⇑s]) (Z++[⇑v]) F' G H'->Q v H'):cx K v lo hi H Q:=by
 cases d with
 |str l=>
  cases e;let#[x,rfl,h1,h2]:=Y.str;subst h1;show .inr (.inr (.inr #[x,rfl,?_,M _ F H (zF.refl F) (B.push (.str rfl ?_))]))
  .let:x.length=x.cps.toList.length:=by show x.cps.size=_;rw[qU]
   rw[this];show h2
  .show le_trans ?_ h2;unfold bI;rw[qG,qF];lia
 |tup l=>
  cases e;let#[a,xs,rfl,h1,J]:=Y.tup;by_cases L:HT.sIx xs.length 0 lo=0/\HT.sIx xs.length xs.length hi=xs.length
  .show .inr (.inr (.inl #[a,xs,rfl,bA.of (B.fr _ _ h1),L,M _ F H (zF.refl F) (B.push ?_)]));let:bI l lo hi=l:=by unfold bI;rw[<-J.len,<-Gz,<-Gz,L.1,L.2,drop_zero,List.take_of_length_le (by rw[<-J.len];lia)]
   rw[this];show .tup h1 J
  .show .inr (.inl #[a,xs,rfl,bA.of (B.fr _ _ h1),L,λp O=>?_]);let n2:=(B.free O).1;show M _ _ _ (zF.upd n2) ((B.newF O).push (.tup AI (J.cut.mono (zF.upd n2))))
 |lst l=>cases e;let#[a,xs,rfl,h1,J]:=Y.lst B.fr;show .inl #[a,xs,rfl,h1,λp O=>M _ F _ (zF.refl F) (B.newLD O J.cut)]
 |_=>cases e
end
theorem nextOf(r1:Rel X.K (U1++[zG x]) (Z++[⇑v]) F G H1)(M:RV Z v x)(Y:wb U1 (λy U2=>k x y U2 P PX) PX)
  (h3:∀r U' v F' H',P r U'->zF F F'->Rel X.K (U'++[zG r]) (Z++[⇑v]) F' G H'->RV Z v r->Q v H')(hx:XC X (·=Z) F G PX):tW X wb Z H1 λu H2=>ia X Z k Q v u H2:=by
 let h1:=Ag r1;let#[G1,B,gg,back]:=r1.hide h1;show#[F,G1,U1,_,PX,B,Y,λy U2 u F2 H2 O J r2 L=>?_,hx.mono (λ_ z=>z) (zF.refl F) gg];let h2:=Ag r2;let r3:=back J r2;rw[qp,qp]at r3;show#[F2,G,U2,x,y,P,PX,Rel.swap (U1:=[zG y]) (Z1:=[⇑u]) (U2:=[zG x]) (Z2:=[⇑v]) h2 rfl r3,h2,M,L,O,λr U' v F' H' a b c d=>h3 r U' v F' H' a (J.trans b) c d,hx.grow J]
def Bq{U:Env}{o:Option D}{k:Int->Prop}(h:(match o with|some (.int i)=>k i|_=>False)):∃i,o=⇑(.int i)/\k i:=by
 split at h
 .show#[_,rfl,h]
 .show h.elim
def Jw{K:W.Frag}{U:Env}{Z:St}{F G H:Hp}{x y:R}{v u:V}{lo hi:Option Int}{P:WQ}{Q:VK}{q:D}(L:Rel K (U++[zG x,zG y]) (Z++[⇑v,⇑u]) F G H)(O:U.length=Z.length)(rx:RV Z v x)
  (J:zz (zP x U) λd=>zz (lM d lo hi) λs=>P (.v s) U)
  (M:∀r U' v F' H',P r U'->zF F F'->Rel K (U'++[zG r]) (Z++[⇑v]) F' G H'->RV Z v r->Q v H'):cx K v lo hi H Q:=by
 let#[d,ed,J]:=Ak J;let#[s,es,J]:=Ak J;let B:Rel K (U++[zG x]) (Z++[⇑v]) F G H:=by let:=Rel.swap (U1:=[zG x]) (Z1:=[⇑v]) (U2:=[zG y]) (Z2:=[⇑u]) O rfl L;show Rel.mid (U:=U) (Z:=Z) this O
 let#[F1,s1,re,r1]:=BA (U':=[]) (Z':=[]) B O rx ed;show OP (U:=U) (Z:=Z) ↑r1 re es λv F' H' Y r'=>M _ U v F' H' J (s1.trans Y) r' trivial
def Jo(ha:FE X a wa)(hb:FE X b wb):FE X (.Subscript a (.Slice ⇑b none none p2) pos) (pE wa ⇑wb none):=λpn xe Y=>by
 refine PE.imp (Le (Jl (X:=wp X pn xe)) (ha pn xe Y) (Kk (hb pn xe Y)) Kj) λZ H Q q=>?_;refine(Fb (k:=λx y B Q E=>match view y B with
  |some (.int i)=>zz (zP x B) λd=>zz (lM d ⇑i none) λs=>Q (.v s) B
  |_=>False) q).mono λv H1 h1=>h1.mono λu H2 h2=>?_
 let#[F,G,U,x,y,P,PX,J,M,rx,ry,O,L,hx]:=h2;let#[i,ei,O]:=Bq (U:=U) (k:=λi=>zz (zP x U) λd=>zz (lM d ⇑i none) λs=>P (.v s) U) O;let ru:=look (U':=[]) (Z':=[]) (J.mid M) M ry ei;cases ru;show#[i,rfl,Jw (q:=.non) J M rx O L]
def Hk(ha:FE X a wa)(hb:FE X b wb):FE X (.Subscript a (.Slice none ⇑b none p2) pos) (pE wa none ⇑wb):=λpn xe Y=>by
 refine PE.imp (Le (Jl (X:=wp X pn xe)) (ha pn xe Y) Kj (Kk (hb pn xe Y))) λZ H Q q=>?_;refine(Fb (k:=λx y B Q E=>match view y B with
  |some (.int i)=>zz (zP x B) λd=>zz (lM d none ⇑i) λs=>Q (.v s) B
  |_=>False) q).mono λv H1 h1=>h1.mono λu H2 h2=>?_
 let#[F,G,U,x,y,P,PX,J,M,rx,ry,O,L,hx]:=h2;let#[i,ei,O]:=Bq (U:=U) (k:=λi=>zz (zP x U) λd=>zz (lM d none ⇑i) λs=>P (.v s) U) O;let ru:=look (U':=[]) (Z':=[]) (J.mid M) M ry ei;cases ru;show#[i,rfl,Jw (q:=.non) J M rx O L]
end FL
namespace FL
open PySem
def iK(f:List Nat->List D->Option S)(o:WE)(a:WA):WE:=λU Q E=>o U (λx F=>match x with
 |.v (.sh (.str l))=>a F (λG B=>zz (G.mapM λr=>zP r B) λJ=>zz (f l J) λs=>Q (.v s) B) E
 |_=>False) E
def cO:List D->Option (List (List Nat))
 |[]=>⇑[]
 |.str x::r=>(cO r).map (x::·)
 |_::_=>none
@[simp] theorem SL(l:List (List Nat)):cO (l.map .str)=some l:=by
  induction l with
  |nil=>rfl
  |cons a r B=>rw[qy,cO,B];rfl
def aM(B:List Nat):List (List Nat)->List Nat
 |[]=>[]
 |[x]=>x
 |x::r=>x++B++aM B r
def Ip(B:List Nat):∀ys:List (List Nat),(aM B ys).length<=(ys.map List.length).sum+ys.length*B.length
 |[]=>zero_le _
 |[x]=>by simp[aM]
 |x::y::r=>by
  let:=Ip B (y::r);rw[aM,qq,qq,qy,sum_cons,qt (a:=x),succ_mul]
  .lia
  .intro h;cases h
def RN(ys:List (List Nat)):aM [] ys=ys.flatten:=by
 induction ys with
 |nil=>rfl
 |cons x r B=>
  cases r with
  |nil=>simp[aM]
  |cons y r=>rw[aM,B];simp;intro h;cases h
def fM(B:List Nat)(l:List D):Option S:=(cO l).bind λys=>if(ys.map List.length).sum+ys.length*B.length<=big then ⇑(.sh (.str (aM B ys)))else none
def cJ(B:List Nat):List D->Option S
 |[.lst l]=>fM B l
 |[.tup l]=>fM B l
 |_=>none
def fE(j:Nat)(e:WE):WE:=λU Q E=>match slot U j with
 |some (.lst _)=>e U (λr B=>match view r B,slot B j with
  |some (.int i),some (.lst l)=>zz (if l.length<=big then ixN l.length i else none) λk=>zz l[k]? λs=>Q (.v s) (B.set j ⇑(.lst (l.eraseIdx k)))
  |_,_=>False) E
 |_=>False
def gF:List D->Option (List Bool)
 |[]=>⇑[]
 |.bl x::r=>(gF r).map (x::·)
 |_::_=>none
@[simp] theorem SI(l:List Bool):gF (l.map .bl)=some l:=by
  induction l with
  |nil=>rfl
  |cons a r B=>rw[qy,gF,B];rfl
def kQ:List D->Option S
 |[.lst l]=>(gF l).map λbs=>.sh (.bl (bs.all id))
 |_=>none
end FL
namespace FL
open PySem PySem.Spec PyProof.Rows L2
section
variable{id:String}
def jC(K:W.Frag)(r:V->List V->Hp->VK->Prop)(f:List Nat->List D->Option S):Prop:=∀(Z:St)(U:Env)(F G H:Hp)(x:Str)(vs:List V)(ds:List D)(s:S)(Q:VK),Rel K U Z F G H->x.cps.toList.length<=16777216->gH K F H vs ds->f x.cps.toList ds=⇑s->
 (∀v F' H',zF F F'->Rel K (U++[⇑s]) (Z++[⇑v]) F' G H'->Q v H')->r (.str x) vs H Q
def Ja(hm:∀pn xe,uX (wp X pn xe) id r)(hd:jC X.K r f)(slot:Slot "str" name id)(h5:typeOf (.builtin id)=pure (.type "method_descriptor"))(ho:FE X o wo)(ha:FA X (e::es) wa)
  (O:autoParam (attributeBase o name X.env (eval o X.env)=eval o X.env) rZ9)
  (h2:autoParam (((backTo cpos (starEach (e::es) X.env)).all (λx=>!x.1)&&(backToKw cpos (keywordEach [] X.env)).all (λx=>x.1.isSome)
   &&↥((e::es).length+([]:List Keyword).length+(if([]:List Keyword).isEmpty then 0 else 1)<30))=true) rZ9)
  (M:autoParam ((apos.endLine==cpos.line)=true) rZ9)(hs:autoParam (starEach (e::es) X.env=(false,eval e X.env)::starEach es X.env) rZ9)(L:autoParam ((backTo cpos (starEach es X.env)).any (·.1)=false) rZ9):
  FE X (.Call (.Attribute o name apos) (e::es) [] cpos) (iK f wo wa):=λpn xe hp=>by
 refine PE.imp (Gi (X:=wp X pn xe) PySem.F.plainAttrs_str slot h5 (hm pn xe) (ho pn xe hp) (ha pn xe hp) O h2 M hs L) λZ H Q q=>?_;refine(one (k:=λx h3 Q E=>match x with
  |.v (.sh (.str l))=>wa h3 (λrs B=>zz (rs.mapM λr=>zP r B) λds=>zz (f l ds) λs=>Q (.v s) B) E
  |_=>False) q).mono λv H1 h1=>?_
 let#[F,G,U,x,P,PX,Y,hl,rx,hk,h6,hx]:=h1;split at hk
 .rename_i l;let rp:=look (U':=[]) (Z':=[]) (x:=.v (.sh (.str l))) Y hl rx rfl;cases rp with
  |str e1 z=>rename_i y;subst e1;show#[rfl,F,G,U,_,PX,Y.drop hl,hk,λrs B vs F2 H2 J s2 r2 h7 h4=>?_,hx];let#[ds,ed,J]:=Ak J;let#[s,es,J]:=Ak J;let#[F3,s3,re,r3]:=Bt (U':=[]) (Z':=[]) ↑r2 h7 h4 ed;show hd Z B F3 G H2 y vs ds s Q ↑r3 z re es λv F' H' sm r'=>h6 _ B v F' H' J (s2.trans (s3.trans sm)) r' trivial
 .show hk.elim
end
section
variable{K:W.Frag}
def Ku(r:zR K F xs l)(h:cO l=⇑ys):∃B:List Str,xs=B.map V.str/\ys=B.map λz=>z.cps.toList:=
 zR.ind (P:=λxs l=>∀ys,cO l=⇑ys->∃B:List Str,xs=B.map V.str/\ys=B.map λz=>z.cps.toList) (λys h=>by cases h;show#[[],rfl,rfl]) (λa _ J ys h=>by
  cases a with
  |@str x _ e z=>let#[G,h1,rfl]:=qX.mp h;let#[B,rfl,rfl]:=J _ h1;show#[x::B,rfl,by rw[qy,e]]
  |_=>cases h) r ys h
def KE(B:Str):∀F:List Str,(Str.join B F).cps.toList=aM B.cps.toList (F.map λz=>z.cps.toList)
 |[]=>rfl
 |[x]=>rfl
 |x::y::r=>by show((x++B++Str.join B (y::r):Str)).cps.toList=x.cps.toList++B.cps.toList++aM B.cps.toList ((y::r).map λz=>z.cps.toList);rw[<-KE B (y::r)];show(x.cps++B.cps++(Str.join B (y::r)).cps).toList=_;rw[toList_append,toList_append]
def GL:∀{us:List Value},zQ (ys.map V.str) us->StrsAre us ys:=by
 induction ys with
 |nil=>intro us r;rw[map_nil]at r;cases r;show .nil
 |cons n J G=>
  intro us r;cases r with
  |cons F B=>let#[t,e]:=F;subst e;show .cons n t (G B)
def lQ(K:W.Frag):V->List V->Hp->VK->Prop:=λx vs H Q=>∃z a ys,x=.str z/\vs=[.ref a]/\(bM K H a (ys.map V.str)\/bA K H a (ys.map V.str))/\(ys.map (·.length)).sum+ys.length*z.length<=16777216/\Q (.str (Str.join z ys)) H
def OL:uX X "str.join" (lQ X.K):=by
 intro zT s Z H x vs v us Q I M O h;let#[z,a,ys,rfl,rfl,B,J,q]:=h;let#[t,rfl]:=M;cases O with
 |cons r1 Y=>
  cases Y;cases r1;let e:Txt.join z ys=Str.join z ys:=StrLaws.glued_eq_join z ys;rcases B with B|B
  .obtain⟨G,r,F,_⟩:=I.list B;show join_list F.isList (GL r) J λL k=>#[.str (Str.join z ys),H,I.tok _,#[_,by rw[e]],q]
  .obtain⟨G,r,F,_⟩:=I.tuple B;show join_tuple F (GL r) J λL k=>#[.str (Str.join z ys),H,I.tok _,#[_,by rw[e]],q]
def LN(J:Rel K U Z F G H)(Y:bM K H a xs\/bA K H a xs)(r:zR K F xs l)(e:fM x.cps.toList l=⇑s)
  (k:∀v F' H',zF F F'->Rel K (U++[⇑s]) (Z++[⇑v]) F' G H'->Q v H'):lQ K (.str x) [.ref a] H Q:=by
 let#[ys,e1,O]:=Option.bind_eq_some_iff.mp e;let#[B,rfl,rfl]:=Ku r e1;split at O
 .rename_i M;cases O;let hl:∀z:Str,z.cps.toList.length=z.length:=λz=>by rw[qU];rfl
  let e3:((B.map λz=>z.cps.toList).map List.length)=B.map (·.length):=by rw[qD];show map_congr_left λz _=>hl z
  let L:=M;rw[e3,qo]at M;show#[x,a,B,rfl,rfl,Y,le_trans M ⋯,k _ F H (zF.refl F) (J.push (.str (KE x B) ?_))];show le_trans (Ip _ _) (le_trans L ⋯)
 .cases O
def RK:jC K (lQ K) cJ:=by
 intro Z U F G H x vs Y s Q B O J e M;let#[d,v,rfl,rfl]:=AN (λx y r=>by cases x<;>rfl) rfl J e;cases d with
 |tup l=>let#[a,xs,rfl,h1,L]:=J.1.tup;show LN B (.inr (bA.of (B.fr _ _ h1))) L e M
 |lst l=>let#[a,xs,rfl,h1,L]:=J.1.lst B.fr;show LN B (.inl h1) L e M
 |_=>cases e
end
def ES(O:FE X o L)(Y:FA X [e] M)
  (G:autoParam (attributeBase o "join" X.env (eval o X.env)=eval o X.env) rZ9)
  (J:autoParam (((backTo cpos (starEach [e] X.env)).all (λx=>!x.1)&&(backToKw cpos (keywordEach [] X.env)).all (λx=>x.1.isSome)
   &&↥([e].length+([]:List Keyword).length+(if([]:List Keyword).isEmpty then 0 else 1)<30))=true) rZ9)
  (F:autoParam ((apos.endLine==cpos.line)=true) rZ9)(hs:autoParam (starEach [e] X.env=(false,eval e X.env)::starEach [] X.env) rZ9)(B:autoParam ((backTo cpos (starEach [] X.env)).any (·.1)=false) rZ9):
  FE X (.Call (.Attribute o "join" apos) [e] [] cpos) (iK cJ L M):=Ja (λ_ _=>OL) RK PySem.F.slot_str_join PySem.F.type_str_join O Y G J F hs B
section
variable{K:W.Frag}
def zI.erase:∀{xs:List V}{l:List S}{fp:List Addr}{m:Nat}{s:S},zI K F H xs l fp->l[m]?=⇑s->∃y J B G,fp=J++(B++G)/\xs[m]?=⇑y/\aN K F H y s B/\zI K F H (xs.eraseIdx m) (l.eraseIdx m) (J++G)
 |_,_,_,_,_,.nil,h=>by simp at h
 |_,_,_,0,s,.cons (x:=x) (fp:=fp) (fq:=fq) a b,h=>by let e:=qf h;subst e;show#[x,[],fp,fq,rfl,rfl,a,b]
 |_,_,_,m+1,s,.cons (fp:=fp) (fq:=fq) a b,h=>by let#[y,J,B,G,rfl,h1,h2,L]:=zI.erase (m:=m) b h;show#[y,fp++J,B,G,(qp ..).symm,h1,h2,?_];rw[qp];show .cons a L
def Rel.popItem{D:Addr}(r:Rel K U Z F G H)(hs:slot U n=⇑(.lst l))(Y:Z[n]?=⇑⇑(.ref D))(hm:l[m]?=⇑s):
  ∃xs y,H D=⇑(.lst xs)/\xs.length=l.length/\xs[m]?=⇑y/\Rel K (U.set n ⇑(.lst (l.eraseIdx m))++[⇑s]) (Z++[⇑y]) F G (upd H D (.lst (xs.eraseIdx m))):=by
 let#[fp,e,nd,ap]:=r.en;let#[v',fa,fi,O,e1,rfl,q,up]:=e.at hs;rw[Y]at e1;let e2:V.ref D=v':=↑e1
 subst e2;cases q with
 |lst hD rl=>
  rename_i xs fl;let#[y,ga,M,L,rfl,hy,sr,h2]:=rl.erase hm;show#[xs,y,hD,rl.len,hy,?_];let#[na,B,h3]:=qw.mp nd;let#[ni,nb,B]:=qw.mp B;let#[nD,h8]:=qK.mp ni;let h7:D∉fa:=λz=>h3 D z D (qj _ qm) rfl;let h6:D∉O:=λz=>B D qm D z rfl;let h1:=ap D (qi _ (qj _ qm));let ne:∀{l:List Addr},D∉l->∀x∈l,upd H D (.lst (xs.eraseIdx m)) x=H x:=λh x J=>Aj λz=>h (z▸J);let h5:D∉ga++L:=λz=>nD ((qx.mp z).elim (λw=>qj _ w) λw=>qi _ (qi _ w));let h4:D∉M:=λz=>nD (qi _ (qj _ z));let new:aN K F (upd H D (.lst (xs.eraseIdx m))) (.ref D) (.lst (l.eraseIdx m)) (D::(ga++L)):=.lst AI (h2.mono (zF.refl F) (ne h5));let a2:=up (F':=F) (H':=upd H D (.lst (xs.eraseIdx m))) (o:=⇑(.lst (l.eraseIdx m))) (u:=⇑(.ref D)) (zF.refl F) (λx J=>Aj λz=>(qx.mp J).elim (λw=>h7 (z▸w)) λw=>h6 (z▸w)) (.so new .nil);rw[GH Y]at a2;let a3:=a2.app (.so (sr.mono (zF.refl F) (ne h4)) .nil);let pm:(fa++((D::(ga++L))++[]++O)++(M++[])).Perm (fa++((D::(ga++(M++L)))++O)):=by simp;show List.Perm.append_left _ (List.Perm.cons _ (List.Perm.append_left _ ?_));rw[<-qp M L O,<-qp L O M];show(qM (l₁:=L++O) (l₂:=M)).trans ?_;rw[qp]
  show#[zF.updR r.fr h1.1,λx o w=>?_,_,a3,pm.nodup_iff.mpr nd,λx J=>ap x (pm.mem_iff.mp J)];let J:x≠D:=λz=>by rw[z,h1.2]at w;cases w
  rw[Aj J];show r.gr x o w
end
def KI(ho:FE X o (zv j))(he:FE X e we)
  (h1:autoParam (attributeBase o "pop" X.env (eval o X.env)=eval o X.env) rZ9)
  (h4:autoParam (((backTo cpos (starEach [e] X.env)).all (λx=>!x.1)&&(backToKw cpos (keywordEach [] X.env)).all (λx=>x.1.isSome)
   &&↥([e].length+([]:List Keyword).length+(if([]:List Keyword).isEmpty then 0 else 1)<30))=true) rZ9)
  (Y:autoParam ((apos.endLine==cpos.line)=true) rZ9)(hs:autoParam (starEach [e] X.env=[(false,eval e X.env)]) rZ9):FE X (.Call (.Attribute o "pop" apos) [e] [] cpos) (fE j we):=λpn xe hp=>by
 refine PE.imp (Gi (X:=wp X pn xe) PySem.F.plainAttrs_list PySem.F.slot_list_pop PySem.F.type_list_pop PV (ho pn xe hp) (Aa he Ab hs pn xe hp) h1 h4 Y hs rfl) λZ H Q q=>?_;let#[F,G,U,P,PX,h5,hw,h6,hx]:=q;let M:(match slot U j with
  |some (.lst _)=>we U (λr B=>match view r B,slot B j with
   |some (.int i),some (.lst l)=>zz (if l.length<=big then ixN l.length i else none) λk=>zz l[k]? λs=>P (.v s) (B.set j ⇑(.lst (l.eraseIdx k)))
   |_,_=>False) PX
  |_=>False):=hw
 cases qs:slot U j with
 |none=>rw[qs]at M;show M.elim
 |some s0=>
  cases s0 with
  |lst l0=>
   rw[qs]at M;show#[F,G,U,λy O=>y=.loc j/\O=U,PX,h5,by unfold zv;rw[qs];show#[rfl,rfl],λy O o' F1 H1 J s1 r1 rv=>?_,hx];let#[rfl,rfl]:=J;let l1:=Ag r1;let h2:Z[j]?=⇑⇑o':=rv;let r2:=r1.drop l1;let#[v',fp,e1,sr]:=r2.at qs;rw[h2]at e1;let e2:o'=v':=↑e1
   subst e2;cases sr with
   |lst hD rl=>
    rename_i a xs fl;show#[.inl #[rfl,_,bM.of hD],F1,G,O,λrs B=>match rs with|[r]=>(match view r B,slot B j with|some (.int i),some (.lst l)=>zz (if l.length<=big then ixN l.length i else none) λk=>zz l[k]? λs=>P (.v s) (B.set j ⇑(.lst (l.eraseIdx k)))|_,_=>False)|_=>False,PX,r2,M,λrs B vs F2 H2 J s2 r3 hl L=>?_,hx.grow s1];match rs,vs,L,r3,J with
    |[r],[v],L,r3,J=>
     dsimp only at J;split at J
     .rename_i i l ei ql;let#[m,em,J]:=Ak J;let#[s,es,J]:=Ak J;let rp:=look (U':=[]) (Z':=[]) r3 hl L.1 ei;cases rp;split at em
      .rename_i hz;let r4:=r3.drop hl;let#[ys,y,h7,h3,hy,r5]:=Rel.popItem r4 ql h2 es;rw[<-h3]at em hz;let#[b1,b2,b3,b4]:=Ht em;let hb:ys.length<=1000000:=hz;show#[a,ys,i,m,y,rfl,rfl,h7,∅,∅,b1,hy,h6 _ _ y F2 _ J (s1.trans s2) r5 trivial]
      .cases em
     .show J.elim
    |[],_,_,_,J=>show J.elim
    |[_],[],L,_,_=>show L.elim
    |[_],_::_::_,L,_,_=>show L.2.elim
    |_::_::_,_,_,_,J=>show J.elim
  |_=>rw[qs]at M;show M.elim
section
variable{K:W.Frag}
def PZ:bX K (λxs H Q=>∃i j,xs=[.int i,.int j]/\Q (.int (if j>i then j else i)) H) oY:=by
 intro Z U F G H vs O s Q B J e L;let#[d,M,v,u,rfl,rfl]:=Gf (λx=>by cases x<;>rfl) (λx y z r=>by cases x<;>first|rfl|(cases y<;>rfl)) rfl J e;cases d with
 |int i=>
  cases M with
  |int j=>cases e;let h1:=J.1.int;let h2:=J.2.1.int;subst h1;subst h2;show#[i,j,rfl,L _ F H (zF.refl F) (B.push (.int _))]
  |_=>cases e
 |_=>cases e
def Rj:bX K (λxs H Q=>∃i j,xs=[.int i,.int j]/\Q (.int (if j<i then j else i)) H) oX:=by
 intro Z U F G H vs O s Q B J e L;let#[d,M,v,u,rfl,rfl]:=Gf (λx=>by cases x<;>rfl) (λx y z r=>by cases x<;>first|rfl|(cases y<;>rfl)) rfl J e;cases d with
 |int i=>
  cases M with
  |int j=>cases e;let h1:=J.1.int;let h2:=J.2.1.int;subst h1;subst h2;show#[i,j,rfl,L _ F H (zF.refl F) (B.push (.int _))]
  |_=>cases e
 |_=>cases e
def Nz(O:X.calm=true)(L:Gl X "max")(J:X.mg "max"=none)(G:bootBuiltins "max"=⇑(.builtin "max"))(Y:FA X (e::es) F)(M:autoParam (starEach (e::es) X.env=(false,eval e X.env)::starEach es X.env) rZ9)(B:autoParam ((backTo pos (starEach es X.env)).any (·.1)=false) rZ9):FE X (.Call (.Name "max" p) (e::es) [] pos) (wB oY F):=
 EN (λ_ _=>RE O) PZ L J G Y ⋯ ⋯ M B
def Ot(O:X.calm=true)(L:Gl X "min")(J:X.mg "min"=none)(G:bootBuiltins "min"=⇑(.builtin "min"))(Y:FA X (e::es) F)(M:autoParam (starEach (e::es) X.env=(false,eval e X.env)::starEach es X.env) rZ9)(B:autoParam ((backTo pos (starEach es X.env)).any (·.1)=false) rZ9):FE X (.Call (.Name "min" p) (e::es) [] pos) (wB oX F):=
 EN (λ_ _=>RW O) Rj L J G Y ⋯ ⋯ M B
def KD:∀{xs:List V}{l:List D}{ys:List Bool},zR K F xs l->gF l=⇑ys->xs=ys.map V.bl
 |_,_,ys,.nil,h=>by cases h;rfl
 |_,d::l,ys,.cons a b,h=>by
  cases a with
  |bl c=>let#[B,h1,rfl]:=qX.mp h;rw[KD b h1];rfl
  |_=>cases h
def Uo:∀{us:List Value},zQ (ys.map V.bl) us->LSm.BoolsAre us ys:=by
 induction ys with
 |nil=>intro us r;rw[map_nil]at r;cases r;show .nil
 |cons n J G=>
  intro us r;cases r with
  |cons F B=>cases F;show .cons n (G B)
end
def TH(M:A.handled=none)(F:s.heap.IsList l vs.toArray)(G:LSm.BoolsAre vs bs)(h:∀h' tk,(∀b x,s.heap.get? b=⇑x->h'.get? b=⇑x)->Q (.bool (bs.all id)) {s with heap:=h',toks:=tk}):
  wpAny (model prog w) A (call (.builtin "all") [.ref l]) Q E s:=by
 let B:l<s.heap.objs.size:=by let#[_,e,_]:=F;show qe e
 refine call_all_walk (wpAny_pyIter_list F ?_);refine⟨s.heap.objs.size,[s.heap.objs.size,l],[s.heap.objs.size],vs.toArray.size,_,_,λi=>(bs[i]?).getD true,rfl,Walks.list (A:=A.in1) M _ l (ne_of_lt B) vs.toArray,
  #[#[_,qd _ rfl,rfl,rfl],F.push _],λi v s' Y E' O J=>?_,λh' tk L=>?_⟩
 .obtain⟨b,e,rfl⟩:=G.get i v ↑O;simp only[e]at J;show wpAny_truthy_bool J
 .let e:((List.range vs.toArray.size).all λi=>(bs[i]?).getD true)=bs.all id:=by rw[qr,G.length];exact LSm.range_all bs
  rw[e];show h h' tk (LSm.kept_iter L)
section
variable{K:W.Frag}
def wO(K:W.Frag):List V->Hp->VK->Prop:=λxs H Q=>∃(a:Addr)(bs:List Bool),xs=[.ref a]/\bM K H a (bs.map V.bl)/\Q (.bl (bs.all id)) H
def SN(M:X.calm=true):aR X (.builtin "all") (wO X.K):=by
 intro zT s Z H xs O Q I r h;let#[a,bs,rfl,L,q]:=h;cases r with
 |cons F B=>cases B;cases F;let#[J,r,G,_]:=I.list L;show TH (I.ok.hd M) G.isList (Uo r) λh' tk k=>#[.bl _,H,I.kept k,rfl,q]
def QK:bX K (wO K) kQ:=by
 intro Z U F G H vs Y s Q B J e M;let#[d,v,rfl,rfl]:=AN (λx y r=>by cases x<;>rfl) rfl J e;cases d with
 |lst l=>let#[bs,O,rfl]:=qX.mp e;let#[a,xs,rfl,h1,L]:=J.1.lst B.fr;let:=KD L O;subst this;show#[a,bs,rfl,h1,M _ F H (zF.refl F) (B.push (.bl _))]
 |_=>cases e
def Hd(O:X.calm=true)(L:Gl X "all")(J:X.mg "all"=none)(G:bootBuiltins "all"=⇑(.builtin "all"))(Y:FA X (e::es) F)(M:autoParam (starEach (e::es) X.env=(false,eval e X.env)::starEach es X.env) rZ9)(B:autoParam ((backTo pos (starEach es X.env)).any (·.1)=false) rZ9):FE X (.Call (.Name "all" p) (e::es) [] pos) (wB kQ F):=
 EN (λpn xe=>SN (X:=wp X pn xe) O) QK L J G Y ⋯ ⋯ M B
end
end FL
namespace FL
open PySem
mutual
def bJ:D->D->Ordering
 |.int i,.int j=>if i<j then .lt else if j<i then .gt else .eq
 |.str x,.str y=>if x<y then .lt else if y<x then .gt else .eq
 |.tup l,.tup m=>aE l m
 |_,_=>.eq
def aE:List D->List D->Ordering
 |[],[]=>.eq
 |[],_::_=>.lt
 |_::_,[]=>.gt
 |a::l,b::m=>match bJ a b with
  |.eq=>aE l m
  |o=>o
end
def cV(a b:D):Bool:=match bJ a b with
 |.gt=>false
 |_=>true
@[simp] theorem NV(i j:Int):cV (.int i) (.int j)=decide (i<=j):=by
  show(match(if i<j then Ordering.lt else if j<i then .gt else .eq)with|.gt=>false|_=>true)=_;by_cases h:i<j
  .rw[qZ h,qQ ∅]
  .rw[q8 h];by_cases h2:j<i
   .rw[qZ h2,qR ∅]
   .rw[q8 h2,qQ ∅]
@[simp] theorem Kh(x y:List Nat):cV (.str x) (.str y)=!decide (y<x):=by
  show(match(if x<y then Ordering.lt else if y<x then .gt else .eq)with|.gt=>false|_=>true)=_;by_cases h:x<y
  .rw[qZ h,qR (λh'=>lt_asymm h h')];rfl
  .rw[q8 h];by_cases h2:y<x
   .rw[qZ h2,qQ h2];rfl
   .rw[q8 h2,qR h2];rfl
def kL(x:D):List D->List D
 |[]=>[x]
 |y::r=>if cV x y then x::y::r else y::kL x r
def eL:List D->List D
 |[]=>[]
 |x::r=>kL x (eL r)
def HS(x:D):∀l:List D,(kL x l).Perm (x::l)
 |[]=>.refl _
 |y::r=>by
  unfold kL;split
  .show .refl _
  .show(List.Perm.cons y (HS x r)).trans (.swap x y r)
def EX:∀l:List D,(eL l).Perm l
 |[]=>.refl _
 |x::r=>(HS x _).trans (.cons x (EX r))
structure eP(P:D->Prop):Prop where
 tot:∀a b,P a->P b->cV a b=true\/cV b a=true
 tr:∀a b c,P a->P b->P c->cV a b=true->cV b c=true->cV a c=true
 anti:∀a b,P a->P b->cV a b=true->cV b a=true->a=b
def LY(o:eP P)(x:D)(F:P x):∀l:List D,(∀d∈l,P d)->l.Pairwise (cV · ·=true)->(kL x l).Pairwise (cV · ·=true)
 |[],_,_=>List.pairwise_singleton _ _
 |y::r,hp,h=>by
  let#[h1,h2]:=pairwise_cons.mp h;let G:=hp y qm;let J:∀d∈r,P d:=λd B=>hp d (qk _ B);unfold kL;split
  .rename_i c;show pairwise_cons.mpr #[λd B=>?_,h];rcases qA.mp B with rfl|B
   .show c
   .show o.tr x y d F G (J d B) c (h1 d B)
  .rename_i c;show pairwise_cons.mpr #[λd B=>?_,LY o x F r J h2];rcases qA.mp ((HS x r).mem_iff.mp B)with rfl|B
   .show(o.tot d y F G).resolve_left c
   .show h1 d B
def GV(o:eP P):∀l:List D,(∀d∈l,P d)->(eL l).Pairwise (cV · ·=true)
 |[],_=>.nil
 |x::r,hp=>LY o x (hp x qm) _ (λd B=>hp d (qk _ ((EX r).mem_iff.mp B))) (GV o r λd B=>hp d (qk _ B))
def Mq(o:eP P):∀l m:List D,(∀d∈l,P d)->l.Perm m->l.Pairwise (cV · ·=true)->m.Pairwise (cV · ·=true)->l=m
 |[],m,_,p,_,_=>(List.nil_perm.mp p).symm
 |x::r,[],_,p,_,_=>absurd p.length_eq (by simp)
 |x::r,y::t,hp,p,h1,h2=>by
  obtain⟨a1,a2⟩:=pairwise_cons.mp h1;let#[L,J]:=pairwise_cons.mp h2;let F:=hp x qm;let B:P y:=hp y (p.mem_iff.mpr qm);let e:x=y:=by
   let m1:x∈y::t:=p.mem_iff.mp qm;let m2:y∈x::r:=p.mem_iff.mpr qm;rcases qA.mp m1 with e|m1
   .show e
   .rcases qA.mp m2 with e|m2
    .show e.symm
    .show o.anti x y F B (a1 y m2) (L x m1)
  subst e;rw[Mq o r t (λd G=>hp d (qk _ G)) (List.Perm.cons_inv p) a2 J]
def Ij(o:eP P)(B:∀d∈l,P d)(p:m.Perm l)(h:m.Pairwise (cV · ·=true)):eL l=m:=
 Mq o _ _ (λd F=>B d ((EX l).mem_iff.mp F)) ((EX l).trans p.symm) (GV o l B) h
def yD:D->Prop
 |.int _=>True
 |_=>False
def mV:D->Prop
 |.str _=>True
 |_=>False
def OF:eP yD where
 tot
  |.int a,.int b,_,_=>by simp;lia
 tr
  |.int a,.int b,.int c,_,_,_=>by simp;lia
 anti
  |.int a,.int b,_,_=>by simp;intro h1 h2;rw[Int.le_antisymm h1 h2]
def HE:eP mV where
 tot
  |.str a,.str b,_,_=>by
   simp;by_cases h:b<a
   .show .inr λh'=>lt_asymm h h'
   .show .inl h
 tr
  |.str a,.str b,.str c,_,_,_=>by simp;intro h1 h2;show λh=>(List.le_trans (l₁:=a) (l₂:=b) (l₃:=c) h1 h2) h
 anti
  |.str a,.str b,_,_=>by simp;intro h1 h2;let:a=b:=List.le_antisymm (as:=a) (bs:=b) h1 h2;rw[this]
def gE:List D->Option (List Int)
 |[]=>⇑[]
 |.int x::r=>(gE r).map (x::·)
 |_::_=>none
@[simp] theorem UZ(l:List Int):gE (l.map .int)=some l:=by
  induction l with
  |nil=>rfl
  |cons a r B=>rw[qy,gE,B];rfl
end FL
namespace FL
open PySem PySem.Spec PyProof.Rows L2
section
variable{K:W.Frag}
def Qq(r:zR K F xs l)(h:gE l=⇑ys):xs=ys.map V.int/\l=ys.map D.int:=
 zR.ind (P:=λxs l=>∀ys,gE l=⇑ys->xs=ys.map V.int/\l=ys.map D.int) (λys h=>by cases h;show#[rfl,rfl]) (λa _ G ys h=>by
  cases a with
  |int c=>let#[B,h1,rfl]:=qX.mp h;let#[L,J]:=G _ h1;rw[L,J];show#[rfl,rfl]
  |_=>cases h) r ys h
def EW:∀{us:List Value}{ns:List Int},IntsAre us ns->zQ (ns.map V.int) us
 |_,_,.nil=>.nil
 |_,_,.cons i t r=>.cons #[t,rfl] (EW r)
def Ib:∀{us:List Value}{ns:List Str},StrsAre us ns->zQ (ns.map V.str) us
 |_,_,.nil=>.nil
 |_,_,.cons i t r=>.cons #[t,rfl] (Ib r)
def nX(K:W.Frag):List V->Hp->VK->Prop:=λxs H Q=>∃a,xs=[.ref a]/\
 ((∃ns:List Int,ns.length<64/\bM K H a (ns.map V.int)/\∀F:List Int,F.Perm ns->F.Pairwise (·<=·)->∀q,H q=none->Q (.ref q) (upd H q (.lst (F.map V.int))))\/
  (∃G:List Str,G.length<64/\bM K H a (G.map V.str)/\∀B:List Str,B.Perm G->sortedS B=true->∀q,H q=none->Q (.ref q) (upd H q (.lst (B.map V.str)))))
def Mr:aR X (.builtin "sorted") (nX X.K):=by
 intro zT s Z H xs us Q I r h;let#[a,rfl,h]:=h;cases r with
 |cons r1 r2=>
  cases r2;cases r1;rcases h with⟨ns,L,Y,q⟩|⟨zs,L,Y,q⟩
  .obtain⟨G,r,M,_⟩:=I.list Y;let J:G.length=ns.length:=by let:=r.length;rw[qo]at this;exact this.symm
   show sorted_ints M.isList (Iw r) (by rw[J];show L) λF B a1 a2 a3=>?_;let#[e,he]:=sortedAll_at s.heap G F;let O:B.length<=sizeLine:=by rw[a2.length_eq,zm];lia
   show#[.ref (s.heap.objs.size+1),_,I.laid (t':=s.toks) (o:=.lst (B.map V.int)) (λb ob w=>sortedAll_old w) (le_succ _) ?_,rfl,q B a2 a3 _ (I.hok.fresh (le_succ _))];show#[by rw[qo];show O,F.toList,e,EW a1,by rw[toArray_toList];show he]
  .obtain⟨G,r,M,_⟩:=I.list Y;let J:G.length=zs.length:=by let:=r.length;rw[qo]at this;exact this.symm
   show sorted_strs M.isList (GL r) (by rw[J];show L) λF B a1 a2 a3=>?_;let#[e,he]:=sortedAll_at s.heap G F;let O:B.length<=sizeLine:=by rw[a2.length_eq,zm];lia
   show#[.ref (s.heap.objs.size+1),_,I.laid (t':=s.toks) (o:=.lst (B.map V.str)) (λb ob w=>sortedAll_old w) (le_succ _) ?_,rfl,q B a2 a3 _ (I.hok.fresh (le_succ _))];show#[by rw[qo];show O,F.toList,e,Ib a1,by rw[toArray_toList];show he]
def HX:∀ns:List Int,zR K F (ns.map V.int) (ns.map D.int)
 |[]=>.nil
 |n::ns=>.cons (.int n) (HX ns)
def Lw:∀B:List Str,(∀z∈B,z.cps.toList.length<=16777216)->zR K F (B.map V.str) (B.map λz=>D.str z.cps.toList)
 |[],_=>.nil
 |z::B,h=>.cons (.str rfl (h z qm)) (Lw B λy G=>h y (qk _ G))
def Mb:∀{xs:List V}{l:List D}{B:List Str},zR K F xs l->xs=B.map V.str->l=(B.map λz=>D.str z.cps.toList)/\∀z∈B,z.cps.toList.length<=16777216
 |_,_,[],.nil,_=>#[rfl,λ_ h=>by cases h]
 |_,_,_::_,.nil,h=>by simp at h
 |_,_,[],.cons _ _,h=>by simp at h
 |_,_,z::B,.cons a b,h=>by
  injection h with h1 h2
  subst h1;let#[e,k]:=Mb b h2;cases a with
  |str L J=>
   subst L;show#[by rw[e];rfl,λy G=>?_];rcases qA.mp G with rfl|G
   .show J
   .show k y G
def KZ:∀(r:List Str)(p:Str),risingS p r=true->((p::r).map λz=>D.str z.cps.toList).Pairwise (cV · ·=true)
 |[],p,_=>List.pairwise_singleton _ _
 |x::r,p,h=>by
  let h':(!ltCps x.cps.toList p.cps.toList&&risingS x r)=true:=h;rw[and_eq_true,ltCps_eq]at h';let G:=KZ r x h'.2;let F:cV (.str p.cps.toList) (.str x.cps.toList)=true:=by rw[Kh];show h'.1
  show pairwise_cons.mpr #[λd B=>?_,G];rcases qA.mp B with rfl|B
  .show F
  .obtain⟨z,_,rfl⟩:=qJ.mp B;show HE.tr _ (.str x.cps.toList) _ trivial trivial trivial F ((pairwise_cons.mp G).1 _ B)
def TV:∀r:List Str,sortedS r=true->(r.map λz=>D.str z.cps.toList).Pairwise (cV · ·=true)
 |[],_=>.nil
 |x::r,h=>KZ r x h
end
def Ud(B:∀id,v≠.builtin id)(h:Q (.bool (v==.bool d)) s):wpAny M A (compareOp .Is v (.bool d)) Q E s:=by cases v<;>first|show qb h|show absurd rfl (B _)
section
variable{K:W.Frag}
def zJ.bool_iff(r:zJ x v)(d:Bool):(v==Value.bool d)=↥(x=.bl d):=by
 cases x with
 |bl b=>cases r;cases b<;>cases d<;>rfl
 |_=>first
  |(cases r;rfl)
  |(let#[t,rfl]:=r;rfl)
def zJ.noBuiltin(r:zJ x v):∀id,v≠.builtin id:=by
 intro id e;subst e;cases x<;>first
  |(cases r;done)
  |(let#[t,h]:=r;cases h)
def cz(neg:Bool):R2:=λx y H Q=>(y=.non/\Q (.bl (if neg then !decide (x=.non)else ↥(x=.non))) H)\/∃b,y=.bl b/\Q (.bl (if neg then !decide (x=.bl b)else ↥(x=.bl b))) H
def Fg:OpR X (compareOp .Is) (cz false):=by
 intro zT s Z H x y v u Q I B F h;rcases h with⟨rfl,q⟩|⟨b,rfl,q⟩
 .show NQ zT s Z H x .non v u Q I B F #[rfl,q]
 .cases F;show Ud (zJ.noBuiltin B) #[.bl _,H,I,by rw[zJ.bool_iff B];rfl,q]
open Classical in
def Pc(G:aK K H x p)(F:aK K H y q)(e:mL p q=⇑k)(J:Q (.bl (if neg then !k else k)) H):cz neg x y H Q:=by
 cases q with
 |non=>
  cases F;let B:↥(p=.non)=k:=qf e;let:↥(x=V.non)=k:=by rw[<-B];cases G<;>simp
  show .inl #[rfl,by rw[this];show J]
 |bl b=>
  cases F;let B:↥(p=.bl b)=k:=qf e;let:↥(x=V.bl b)=k:=by rw[<-B];cases G<;>simp
  show .inr #[b,rfl,by rw[this];show J]
 |_=>cases e
def Fo:bL K (cz false) mL:=λH x y p q k Q F B e G=>Pc F B e G
end
mutual
def dP:D->PyData
 |.non=>.none
 |.bl b=>.bool b
 |.int i=>.int i
 |.str l=>.str #[l.toArray]
 |.tup l=>.tuple (cI l)
 |.lst l=>.list (cI l)
 |_=>.none
def cI:List D->List PyData
 |[]=>[]
 |d::r=>dP d::cI r
end
mutual
def lN:D->Bool
 |.non=>true
 |.bl _=>true
 |.int i=>↥(i.natAbs.log2<1920)
 |.str _=>true
 |.tup l=>dE l
 |.lst l=>dE l
 |_=>false
def dE:List D->Bool
 |[]=>true
 |d::r=>lN d&&dE r
end
mutual
theorem Ut:∀d:D,lN d=true->(dP d).showable=true
 |.non,_=>rfl
 |.bl _,_=>rfl
 |.int i,h=>h
 |.str _,_=>rfl
 |.tup l,h=>Im l h
 |.lst l,h=>Im l h
 |.dct _ _ _,h=>by cases h
 |.set _,h=>by cases h
 |.exc _ _ _,h=>by cases h
theorem Im:∀l:List D,dE l=true->PyData.showableAll (cI l)=true
 |[],_=>rfl
 |d::r,h=>by rw[dE,and_eq_true]at h;rw[cI,PyData.showableAll,Ut d h.1,Im r h.2];rfl
end
mutual
theorem RJ:∀d:D,(dP d).hasDict=false
 |.non=>rfl
 |.bl _=>rfl
 |.int i=>rfl
 |.str _=>rfl
 |.tup l=>Iq l
 |.lst l=>Iq l
 |.dct _ _ _=>rfl
 |.set _=>rfl
 |.exc _ _ _=>rfl
theorem Iq:∀l:List D,PyData.hasDictAll (cI l)=false
 |[]=>rfl
 |d::r=>by rw[cI,PyData.hasDictAll,RJ d,Iq r];rfl
end
mutual
theorem RA:∀d:D,(dP d).depth<=fW d
 |.non=>q9 _
 |.bl _=>q9 _
 |.int i=>q9 _
 |.str _=>q9 _
 |.tup l=>Nat.succ_le_succ (HV l)
 |.lst l=>Nat.succ_le_succ (HV l)
 |.dct _ _ _=>q9 _
 |.set _=>q9 _
 |.exc _ _ _=>q9 _
theorem HV:∀l:List D,PyData.depthAll (cI l)<=cE l
 |[]=>q9 _
 |d::r=>by let h1:=RA d;let h2:=HV r;simp only[cI,PyData.depthAll,cE];lia
end
end FL
namespace FL
open PySem
def xP(l m:List Nat)(i:Nat):Bool:=↥(i+m.length<=l.length)&&↥((l.drop i).take m.length=m)
def fN(l m:List Nat):Option Nat:=(List.range (l.length+1)).find? (xP l m)
def gW:List D->Option S
 |[.tup l]=>⇑(.lst (l.map .sh))
 |[.lst l]=>⇑(.lst (l.map .sh))
 |[.str l]=>if l.length<=big then ⇑(.lst (l.map λc=>.sh (.str [c])))else none
 |_=>none
def yM:D->String
 |.non=>"NoneType"
 |.bl _=>"bool"
 |.int _=>"int"
 |.str _=>"str"
 |.tup _=>"tuple"
 |.lst _=>"list"
 |.dct _ _ _=>"dict"
 |.set _=>"set"
 |.exc _ _ _=>"?"
def dW(T:String)(d:D):Bool:=yM d==T||(yM d=="bool"&&T=="int")
def eM:D->Bool
 |.exc _ _ _=>false
 |_=>true
def gN(T:String)(a:WE):WE:=λU Q E=>a U (λx B=>zz (view x B) λd=>eM d=true/\Q (.v (.sh (.bl (dW T d)))) B) E
theorem find?_first(h:i<n)(B:p i=true)(hn:∀k,k<i->p k=false):(List.range n).find? p=⇑i:=by first|rfl|assumption|(simp_all;done)
theorem find?_not(hn:∀k,p k=false):(List.range n).find? p=none:=by grind
end FL
namespace FL
open PySem PySem.Spec PyProof.Rows L2
section
variable{K:W.Frag}
theorem zjS:StrLaws.At x y x.length i↔xP x.cps.toList y.cps.toList i=true:=by
 let h1:x.length=x.cps.toList.length:=by show x.cps.size=_;rw[qU]
 let h2:y.length=y.cps.toList.length:=by show y.cps.size=_;rw[qU]
 unfold StrLaws.At xP Builtin.Str.subAt;rw[and_eq_true,qS,qS,h2,beq_iff_eq];show and_congr_right λ_=>?_;rw[<-Array.toList_inj,Array.toList_extract,List.extract_eq_take_drop];let:i+y.cps.toList.length-i=y.cps.toList.length:=∅
 rw[this]
def OJ(x y:Str):Txt.find x y=(match fN x.cps.toList y.cps.toList with|some i=>(i:Int)|none=>-1):=by
 have B:∀{i},¬StrLaws.At x y x.length i->xP x.cps.toList y.cps.toList i=false:=λ{i} h=>by
  cases q:xP x.cps.toList y.cps.toList i with
  |false=>rfl
  |true=>show absurd (zjS.mpr q) h
 rcases find_whole x y with⟨e,h⟩|⟨i,e,hi,h⟩
 .rw[e];unfold fN;rw[find?_not λk=>B (h k)]
 .rw[e];unfold fN;let G:=hi.1;let h1:x.length=x.cps.toList.length:=by show x.cps.size=_;rw[qU]
  rw[find?_first (i:=i) (by rw[<-h1];lia) (zjS.mp hi) λk F=>B (h k F)]
def lP:List V->Hp->VK->Prop:=λxs H Q=>∃x:Str,xs=[.str x]/\x.length<=sizeLine/\∀l,H l=none->Q (.ref l) (upd H l (.lst (x.cps.toList.map λc=>.str #[[c].toArray])))
def Iz:∀{xs:List V}{us:List Value},xs.length=us.length->(∀(j:Nat) x u,xs[j]?=⇑x->us[j]?=⇑u->zJ x u)->zQ xs us
 |[],[],_,_=>.nil
 |[],_::_,h,_=>by simp at h
 |_::_,[],h,_=>by simp at h
 |x::xs,u::us,h,k=>.cons (k 0 x u rfl rfl) (Iz ↑h λj B F h1 h2=>k (j+1) B F h1 ↑h2)
def UP(G:X.calm=true):aR X (.type "list") lP:=by
 intro zT s Z H xs us Q I r h;let#[x,rfl,L,q]:=h;let#[u,rfl,M]:=vals1 r;let#[t,rfl]:=M;show call_list_str (I.ok.hd G) x t (hn:=L) λh' tk F c' Y J B=>?_;let O:zQ (x.cps.toList.map λc=>V.str #[[c].toArray]) F.toList:=Iz (by rw[qo,qU,qU,B.1]) λj y v h1 h2=>by let#[c,u,G,rfl]:=B.2 j v (by rw[<-qY];show h2);rw[qE,qY,G]at h1;cases h1;show#[u,rfl]
 show#[.ref s.heap.objs.size,_,I.laid (t':=tk) Y (q9 _) (show zS X.prog X.w _ h' _ (.lst (x.cps.toList.map λc=>V.str #[[c].toArray])) from#[?_,F.toList,c',O,J]),rfl,q _ (I.hok.fresh (q9 _))];rw[qo];show L
def sN(K:W.Frag):List V->Hp->VK->Prop:=λxs H Q=>pI K xs H Q\/lP xs H Q
def Me:∀l:List Nat,zR K F (l.map λc=>V.str #[[c].toArray]) (l.map λc=>D.str [c])
 |[]=>.nil
 |c::l=>.cons (.str rfl (by show 1<=16777216;decide)) (Me l)
def Tg:bX K (sN K) gW:=by
 intro Z U F G H vs ds s Q B J e L;let#[d,v,rfl,rfl]:=AN (λx y r=>by cases x<;>rfl) rfl J e;cases d with
 |tup l=>show .inl (Ld Z U F G H [v] [.tup l] s Q B J e L)
 |lst l=>show .inl (Ld Z U F G H [v] [.lst l] s Q B J e L)
 |str l=>
  let#[x,rfl,M,z]:=J.1.str;let e:(if l.length<=big then ⇑(S.lst (l.map λc=>S.sh (.str [c])))else none)=⇑s:=e;split at e
  .rename_i Y;cases e;show .inr #[x,rfl,by rw[Cd M];show GG Y,λp O=>?_];rw[M];let h:=B.newLD O (Me l);rw[qD]at h;show L (.ref p) F (upd H p (.lst (l.map λc=>V.str #[[c].toArray]))) (zF.refl F) h
  .cases e
 |_=>cases e
def Qt(O:X.calm=true)(L:Gl X "list")(J:X.mg "list"=none)(G:bootBuiltins "list"=⇑(.type "list"))(Y:FA X (e::es) F)(M:autoParam (starEach (e::es) X.env=(false,eval e X.env)::starEach es X.env) rZ9)(B:autoParam ((backTo pos (starEach es X.env)).any (·.1)=false) rZ9):FE X (.Call (.Name "list" p) (e::es) [] pos) (wB gW F):=
 EV (λpn xe=>aR.or' UC (UP (X:=wp X pn xe) O)) Tg L J G Y ⋯ ⋯ M B
end
def rN(T:String):Bool:=T=="bool"||T=="int"||T=="str"||T=="tuple"||T=="list"
def MO(K:W.Frag):∀(T:String),rN T=true->∀d:D,eM d=true->W.kitOne K (.type (yM d)) (.type T)=⇑(dW T d):=by intro T B d h2;simp[rN,or_eq_true,beq_iff_eq]at B;rcases B with(((rfl|rfl)|rfl)|rfl)|rfl<;>cases d<;>first|show absurd h2 qW|kernel_rfl
def QD(I:Inv X zT Z H s)(F:zJ x u)(L:aK X.K H x d)(hd:eM d=true)(e:W.kitOne X.K (.type (yM d)) c=⇑b)(h:∀tk,Q (.bool b) {s with toks:=tk}):
  wpAny (model X.prog X.w) A (call (.builtin "isinstance") [u,c]) Q E s:=by
 cases L with
 |non=>show Ex I F .non e h
 |bl y=>show Ex I F (.bl y) e h
 |int i=>show Ex I F (.int i) e h
 |str e1 z=>show Ex I F (.str _) e h
 |tup B r=>show Ex I F (.tup B) e h
 |lst B r=>cases F;let#[O,r,M,_]:=I.list B;let#[o,Y,hc,_]:=M.isList;show W.kia_one W.kitx_list I.kIn #[o,Y,hc] e (λz=>nomatch z) h
 |@dK a G ks vs B k r=>
  cases F;rcases B with B|⟨J,B⟩
  .show Ex (x:=.ref a) I rfl (.dK B) e h
  .obtain⟨_,_,_,_,p⟩:=(show zS X.prog X.w H s.heap a (.frz J (.dK G)) from I.hok a _ B)
   let#[_,o,es,ep,h1,h2,_]:=p;show W.kia_one W.kitx_dict I.kIn #[o,h1,h2.1] e (λz=>nomatch z) h
 |@dT a G ks vs B k r=>
  cases F;rcases B with B|⟨J,B⟩
  .show Ex (x:=.ref a) I rfl (.dT B) e h
  .obtain⟨_,_,_,_,p⟩:=(show zS X.prog X.w H s.heap a (.frz J (.dT G)) from I.hok a _ B)
   let#[_,o,es,ep,h1,h2,_]:=p;show W.kia_one W.kitx_dict I.kIn #[o,h1,h2.1] e (λz=>nomatch z) h
 |@st a xs ds B r=>
  cases F;let t:∃o,s.heap.get? a=⇑o/\o.cls=.type "set":=by
   rcases I.hok a _ B with⟨_,⟨_,h1⟩|⟨_,_,_,o,_,_,_,h1,h2,_⟩|⟨_,_,_,_,o,_,_,_,h1,h2,_⟩⟩
   .show#[_,h1,rfl]
   .show#[o,h1,h2.1]
   .show#[o,h1,h2.1]
  show W.kia_one W.kitx_set I.kIn t e (λz=>nomatch z) h
 |exc _ _=>cases hd
section
variable{TS:String}
def Eo(hg:Gl X "isinstance")(hm:X.mg "isinstance"=none)(hv:bootBuiltins "isinstance"=⇑(.builtin "isinstance"))(h2:Gl X T)(h1:X.mg T=none)(L:bootBuiltins T=⇑(.type TS))(hT:rN TS=true)(ha:FE X a wa)
  (Y:autoParam (T≠"__name__") dZ9)(h3:autoParam ((T==("__debug__":Str))=false) dZ9)
  (he:autoParam (starEach [a,.Name T pt] X.env=(false,eval a X.env)::starEach [.Name T pt] X.env) rZ9)(h4:autoParam (starEach [.Name T pt] X.env=[(false,eval (.Name T pt) X.env)]) rZ9)(M:autoParam ((backTo pos (starEach [.Name T pt] X.env)).any (·.1)=false) rZ9):
  FE X (.Call (.Name "isinstance" p) [a,.Name T pt] [] pos) (gN TS wa):=λpn xe hp=>by
 intro zT s Z H Q I h;show wpAny_Call_Name_kw (Dz (X:=wp X pn xe) I hg hm hv ?_ ⋯ ⋯);show PyProof.Rows.callWith_builtin1 ?_ he M;rw[he];show Calls.spliced_cons (Af (ha pn xe hp zT s Z H _ I (one (k:=λx B Q E=>zz (view x B) λd=>eM d=true/\Q (.v (.sh (.bl (dW TS d)))) B) h)) λu s1 zq=>?_);let#[x,H1,I1,r1,q1]:=zq;show Calls.spliced_cons (Dz (X:=wp X pn xe) I1 h2 h1 L (Calls.spliced_nil ?_) Y h3);let#[F,G,U,y,P,PX,J,hl,ry,hk,O,hx]:=q1;let#[d,ed,hd,hk]:=Ak hk;let rp:=look (U':=[]) (Z':=[]) J hl ry ed;show QD I1 r1 rp hd (MO _ TS hT d hd) λtk=>#[.bl _,H1,I1.kept λ_ _ z=>z,rfl,?_]
 show O _ U _ F H1 hk (zF.refl F) ((J.drop hl).push (.bl _)) trivial
end
def DX:bootBuiltins "int"=⇑(.type "int"):=by decide+kernel
def Ea:bootBuiltins "tuple"=⇑(.type "tuple"):=by decide+kernel
def Km:bootBuiltins "list"=⇑(.type "list"):=by decide+kernel
def Kc:bootBuiltins "bool"=⇑(.type "bool"):=by decide+kernel
def Ho:bootBuiltins "str"=⇑(.type "str"):=by decide+kernel
def MV:bootBuiltins "max"=⇑(.builtin "max"):=by decide+kernel
def Ov:bootBuiltins "min"=⇑(.builtin "min"):=by decide+kernel
def Hg:bootBuiltins "all"=⇑(.builtin "all"):=by decide+kernel
def Ln:bootBuiltins "sorted"=⇑(.builtin "sorted"):=by decide+kernel
def Eu:bootBuiltins "isinstance"=⇑(.builtin "isinstance"):=by decide+kernel
def CK(B:bD k A):A.units+32<cLine:=by let:=B.units;lia
def Ed(B:bD k A):A.units+31<cLine:=by let:=B.units;lia
theorem uq{N:List Str}(h:(N.zipIdx.all λp=>!(p.1==x)||p.2==i)=true):∀j,N[j]?=⇑x->j=i:=by intro j B;let:=qH.mp h (x,j) (by rw[List.mem_zipIdx_iff_getElem?];simpa using B);simpa using this
instance(outer scope:Scope)(N vars:List Str):Decidable (scope.kind=.function/\(∀x∈scope.names,x.2=.free->outer.names.lookup x.1=⇑.cell\/outer.names.lookup x.1=⇑.free)/\(scope.names.map (·.1)).Nodup/\
  (∀x∈N,x∉vars->(x,NameKind.local)∉scope.names/\(x,NameKind.cell)∉scope.names)/\scope.names.lookup Str.empty=none):=inferInstance
def uN(B scope:Scope)(N vars:List Str):Bool:=decide (scope.kind=.function/\(∀x∈scope.names,x.2=.free->B.names.lookup x.1=⇑.cell\/B.names.lookup x.1=⇑.free)/\(scope.names.map (·.1)).Nodup/\
    (∀x∈N,x∉vars->(x,NameKind.local)∉scope.names/\(x,NameKind.cell)∉scope.names)/\scope.names.lookup Str.empty=none)
def Ay(h:uN outer scope N vars=true):cL outer scope N vars:=
 let⟨a,b,c,d,e⟩:=qT h
 #[a,b,c,d,e]
def PH{K:W.Frag}(r:aN K F H v (.sh (.bl true)) fp):v=.bl true:=by
 cases r with
 |sh r=>cases r;rfl
def Na{K:W.Frag}(h:∀ns:List Int,ns.length<=63->L [.sh (.lst (ns.map .int))] (λs _=>s=.sh (.bl true)) λ_ _=>False)(H:Hp)(a:Addr)(ns:List Int)(O:ns.length<=63)(Y:bM K H a (ns.map V.int)):
  dB K L 1 [.ref a] H (λv _=>v=.bl true) λ_ _ _=>False:=by
 show#[H,λ_=>none,[.sh (.lst (ns.map .int))],_,_,rfl,#[zF.refl H,λ_ _ z=>(nomatch z),[]++[],.so (.sh (.lst Y (HX ns))) .nil,List.nodup_nil,λ_ z=>(nomatch z)],h ns O,λs B v F' H' M sm F r=>?_,λ_ _ _ _ _ _ z=>z.elim];subst M;let#[u,fp,J,q]:=r.at (i:=B.length) (s:=.sh (.bl true)) (by let:=EY (U:=B.map some) (o:=⇑(.sh (.bl true))) (U':=[]);simpa using this)
 let G:B.length=1:=F;rw[G]at J;let:u=v:=↑J.symm
 rw[<-this];show PH q
end FL
namespace FL
def fB(j:Nat)(e:WE):WE:=λU Q E=>match slot U j with
 |some (.lst _)=>e U (λr B=>match r,slot B j with
  |.v (.lst m),some (.lst l)=>l.length+m.length<=big/\Q (.v (.sh .non)) (B.set j ⇑(.lst (l++m)))
  |_,_=>False) E
 |_=>False
end FL
namespace FL
open PySem PySem.Spec PyProof.Rows L2
def Jj(ha:FE X a Y):FE X (.UnaryOp .USub a pos) (yL lV Y):=λpn xe hp=>by
 show PE.imp (MP Nt (ha pn xe hp)) λZ H Q q=>?_;show(one (k:=λx B Q E=>zz (zP x B) λp=>zz (lV p) λs=>Q (.v s) B) q).mono λv H1 h1=>?_;let#[F,G,U,x,P,PX,L,hl,rx,J,M,hx]:=h1;let#[p,ep,J]:=Ak J;let#[s,es,J]:=Ak J;let#[O,s1,re,r1]:=BA (U':=[]) (Z':=[]) L hl rx ep;cases p with
 |int i=>have e:=re.int;subst e;show#[i,rfl,M _ U _ O H1 J s1 ((show Rel _ U Z O G H1 by simpa using r1).push (.int _)) trivial]
 |_=>cases es
def Mn(hd:bL X.K r o)(h3:bL X.K r' o')(Z:St)(H:Hp)(Q:VK)(h:tW X (dM (cM o o' wa wb wc)) Z H Q):iN r r' (tW X wa) (tW X wb) (tW X wc) Z H Q:=by
 show(Fb (k:=λx y M Q E=>zz (view x M) λp=>zz (view y M) λq=>zz (o p q) λk=>if k then wc M (λz J=>zz (view y J) λq=>zz (view z J) λr=>zz (o' q r) λk'=>Q (.v (.sh (.bl k'))) J) E else Q (.v (.sh (.bl false))) M) h).mono λv H1 h1=>h1.mono λu H2 h2=>?_;let#[F,G,U,x,y,P,PX,O,hl,rx,ry,B,Y,hx]:=h2;let#[p,ep,B]:=Ak B;let#[q,eq,B]:=Ak B;let#[t,et,B]:=Ak B;let#[r1,r2,L]:=Cm O hl rx ry ep eq;show hd H2 v u p q t _ r1 r2 et #[t,rfl,?_];cases t with
 |false=>show Y (.v (.sh (.bl false))) U (.bl false) F H2 B (zF.refl F) (L.push (.bl false)) trivial
 |true=>show(nextOf (k:=λy z J Q E=>zz (view y J) λq=>zz (view z J) λr=>zz (o' q r) λk'=>Q (.v (.sh (.bl k'))) J) (O.mid hl) ry B Y hx).mono λw H4 h4=>?_;let#[F,G,U,y,z,P,PX,O,hl,ry,rz,B,Y,hx]:=h4;let#[q,eq,B]:=Ak B;let#[r,er,B]:=Ak B;let#[t,et,B]:=Ak B;let#[r1,r2,L]:=Cm O hl ry rz eq er;show h3 H4 u w q r t _ r1 r2 et (Y _ U (.bl t) F H4 B (zF.refl F) (L.push (.bl t)) trivial)
def KN(Y:∀pn xe,OpR (wp X pn xe) (compareOp op) r)(hd:bL X.K r o)(G:∀pn xe,OpR (wp X pn xe) (compareOp B) O)(J:bL X.K O o')(ha:FE X a M)(hb:FE X b L)(hc:FE X c wc)
  (hm:lastMarks [op,B] [b,c]=false:=by with_unfolding_all rfl):FE X (.Compare a [op,B] [b,c] pos) (dM (cM o o' M L wc)):=λpn xe F=>
 PE.imp (QH (Y pn xe) (G pn xe) (ha pn xe F) (hb pn xe F) (hc pn xe F) hm) λZ H Q h=>Mn (X:=wp X pn xe) hd J Z H Q h
def HN(ho:∀pn xe,OpR (wp X pn xe) (compareOp op) r)(hd:bL X.K r o)(Y:∀pn xe,OpR (wp X pn xe) (compareOp J) r')(h1:bL X.K r' o')(ha:FE X a wa)(hb:FE X b wb)(hc:FE X c wc)
  (hm:lastMarks [op,J] [b,c]=false:=by with_unfolding_all rfl):FT X (.Compare a [op,J] [b,c] pos) (cM o o' wa wb wc):=λpn xe B=>
 PT.imp (PC (ho pn xe) (Y pn xe) (ha pn xe B) (hb pn xe B) (hc pn xe B) hm) λZ H Q h=>by
  let#[F,G,U,P,PX,L,hw,O,hx]:=h;show Mn (X:=wp X pn xe) hd h1 Z H _ #[F,G,U,λr U'=>match r with|.v (.sh (.bl c))=>P c U'|_=>False,PX,L,hw,λr U' v F' H' B s1 M rv=>?_,hx]
  skip
  split at B
  .rename_i c;let hl:=Ag M;let rp:=look (U':=[]) (Z':=[]) M hl rv (d:=.bl c) rfl;show#[c,Ha rp,O c U' F' H' B s1 (M.drop hl)]
  .show B.elim
section
variable{K:W.Frag}
def zI.app:∀{xs ys:List V}{l m:List S}{fp fq:List Addr},zI K F H xs l fp->zI K F H ys m fq->zI K F H (xs++ys) (l++m) (fp++fq)
 |_,_,_,_,_,_,.nil,r=>r
 |_,_,_,_,_,_,.cons a b,r=>by rw[qp];show .cons a (zI.app b r)
def Rel.extend{D B:Addr}(r:Rel K (U++[⇑(.lst m)]) (Z++[⇑(.ref B)]) F G H)(hs:slot U n=⇑(.lst l))(h2:Z[n]?=⇑⇑(.ref D)):
  ∃xs ys,H D=⇑(.lst xs)/\H B=⇑(.lst ys)/\xs.length=l.length/\ys.length=m.length/\Rel K (U.set n ⇑(.lst (l++m))) Z F G (upd H D (.lst (xs++ys))):=by
 let hl:=Ag r;let#[fp,e,nd,ap]:=r.en;let#[f1,f2,rfl,a,b]:=e.cut hl;let#[v',Y,fi,O,e1,rfl,q,up]:=a.at hs;rw[h2]at e1;let e2:V.ref D=v':=↑e1
 subst e2;cases q with
 |lst hD rl=>
  rename_i xs M;cases b with
  |so sr nl=>
   cases nl;cases sr with
   |lst hB rm=>
    rename_i ys fs;show#[xs,ys,hD,hB,rl.len,rm.len,?_];let es:Z.set n ⇑(.ref D)=Z:=GH h2;let#[n1,n2,h6]:=qw.mp nd;let#[na,J,h5]:=qw.mp n1;let#[ni,nb,J]:=qw.mp J;let#[nD,e3]:=qK.mp ni;let h9:D∉Y:=λz=>h5 D z D (qj _ qm) rfl;let h8:D∉O:=λz=>J D qm D z rfl;let h7:D∉fs:=λz=>h6 D (qi _ (qj _ qm)) D (by simpa using .inr z) rfl;let h3:=ap D (qj _ (qi _ (qj _ qm)));let ne:∀{l:List Addr},D∉l->∀x∈l,upd H D (.lst (xs++ys)) x=H x:=λh x L=>Aj λz=>h (z▸L);let new:aN K F (upd H D (.lst (xs++ys))) (.ref D) (.lst (l++m)) (D::(M++fs)):=.lst AI (zI.app (rl.mono (zF.refl F) (ne nD)) (rm.mono (zF.refl F) (ne h7)));let a2:=up (F':=F) (H':=upd H D (.lst (xs++ys))) (o:=⇑(.lst (l++m))) (u:=⇑(.ref D)) (zF.refl F) (λx L=>Aj λz=>(qx.mp L).elim (λw=>h9 (z▸w)) λw=>h8 (z▸w)) (.so new .nil);rw[es]at a2;let p:(B::(Y++((D::(M++fs))++[]++O))).Perm (Y++((D::M)++O)++(B::fs++[])):=by
     simp;show(List.Perm.cons _ (List.Perm.append_left _ (List.Perm.cons _ (List.Perm.append_left _ qM)))).trans ?_;let h1:(Y++D::(M++(O++B::fs))).Perm (B::(Y++D::(M++(O++fs)))):=by let:=perm_middle (a:=B) (l₁:=Y++D::(M++O)) (l₂:=fs);simpa using this
     show h1.symm
    let h4:=p.nodup_iff.mpr nd;show#[zF.updR r.fr h3.1,λx o w=>?_,_,a2,(qK.mp h4).2,λx L=>ap x (p.mem_iff.mp (qk _ L))];let L:x≠D:=λz=>by rw[z,h3.2]at w;cases w
    rw[Aj L];show r.gr x o w
end
def SO(ho:FE X o (zv j))(he:FE X e we)
  (h3:autoParam (attributeBase o "extend" X.env (eval o X.env)=eval o X.env) rZ9)
  (h6:autoParam (((backTo cpos (starEach [e] X.env)).all (λx=>!x.1)&&(backToKw cpos (keywordEach [] X.env)).all (λx=>x.1.isSome)
   &&↥([e].length+([]:List Keyword).length+(if([]:List Keyword).isEmpty then 0 else 1)<30))=true) rZ9)
  (h1:autoParam ((apos.endLine==cpos.line)=true) rZ9)(hs:autoParam (starEach [e] X.env=[(false,eval e X.env)]) rZ9):FE X (.Call (.Attribute o "extend" apos) [e] [] cpos) (fB j we):=λpn xe hp=>by
 refine PE.imp (Gi (X:=wp X pn xe) PySem.F.plainAttrs_list PySem.F.slot_list_extend PySem.F.type_list_extend Ta (ho pn xe hp) (Aa he Ab hs pn xe hp) h3 h6 h1 hs rfl) λZ H Q q=>?_;let#[F,G,U,P,PX,h8,hw,h9,hx]:=q;let M:(match slot U j with
  |some (.lst _)=>we U (λr J=>match r,slot J j with
   |.v (.lst m),some (.lst l)=>l.length+m.length<=big/\P (.v (.sh .non)) (J.set j ⇑(.lst (l++m)))
   |_,_=>False) PX
  |_=>False):=hw
 cases qs:slot U j with
 |none=>rw[qs]at M;show M.elim
 |some s0=>
  cases s0 with
  |lst l0=>
   rw[qs]at M;show#[F,G,U,λy Y=>y=.loc j/\Y=U,PX,h8,by unfold zv;rw[qs];show#[rfl,rfl],λy Y o' F1 H1 O s1 r1 rv=>?_,hx];let#[rfl,rfl]:=O;let l1:=Ag r1;let h4:Z[j]?=⇑⇑o':=rv;let r2:=r1.drop l1;let#[v',fp,e1,sr]:=r2.at qs;rw[h4]at e1;let e2:o'=v':=↑e1
   subst e2;cases sr with
   |lst hD rl=>
    rename_i a xs fl;show#[.inl #[rfl,_,bM.of hD],F1,G,Y,λrs J=>match rs with|[r]=>(match r,slot J j with|.v (.lst m),some (.lst l)=>l.length+m.length<=big/\P (.v (.sh .non)) (J.set j ⇑(.lst (l++m)))|_,_=>False)|_=>False,PX,r2,M,λrs J vs F2 H2 O s2 r3 hl L=>?_,hx.grow s1];match rs,vs,L,r3,O with
    |[r],[v],L,r3,O=>
     dsimp only at O;split at O
     .rename_i m l ql;let#[u,fq,eu,su]:=r3.at (i:=J.length) (s:=.lst m) EY;rw[hl,getElem?_append_right (q9 _)]at eu;let e3:v=u:=by simpa using eu
      subst e3;cases su with
      |@lst b zs _ _ hB rb=>let#[ys,h7,e4,hi,h5,h2,r5]:=Rel.extend (B:=b) r3 ql h4;show#[a,b,ys,h7,rfl,rfl,e4,hi,by rw[h5,h2];show le_trans O.1 ⋯,h9 _ _ .non F2 _ O.2 (s1.trans s2) (r5.push .non) trivial]
     .show O.elim
    |[],_,_,_,O=>show O.elim
    |[_],[],L,_,_=>show L.elim
    |[_],_::_::_,L,_,_=>show L.2.elim
    |_::_::_,_,_,_,O=>show O.elim
  |_=>rw[qs]at M;show M.elim
open AutoSeq1 (wpAny_loadPart')
def NS(J:s.heap.IsTupleIter u z n)(hz:s.heap.IsTuple z xs)(L:xs[n]?=⇑v)(k:∀h',h'.IsTupleIter u z (n+1)->Heap.SameBut u s.heap h'->Q v {s with heap:=h'}):
  wpAny (model prog w) A (Builtin.SmallTypes.nextOf (.ref u)) Q E s:=by
 let#[ob,G,Y,B]:=id J;let#[zb,O,_,zn,M]:=hz;apply qa;show wpAny_callSpecial?_slot (name:=Str.ofString "__next__") J.typeIs F.slot_tuple_iterator_next (zl F.slot_tuple_iterator_next J.typeIs F.entry_tuple_iterator_next ?_ (F.args_tuple_iterator_next_1 _));show wpAny _ _ (field (.ref u) 0>>=_) _ _ _;apply qa;show zj G B (x:=.ref z) rfl ?_;apply qa;show zj G B (x:=.int n 0) rfl ?_;apply qa;show wpAny_seqItems O M ?_;simp[qV,L];apply qa;show wpAny_setField G B (by simp) (qb #[v,rfl,qb (k _ #[_,zi _ G (Obj.isFreed_of_fields (Obj.data_mapFields B _)),(Obj.cls_mapFields ..).trans Y,?_] (Heap.SameBut.update ..))]);rw[Obj.data_mapFields B];simp[rawInt]
def GM(L:A.handled=none)(B:s.heap.IsTupleIter u z n)(hz:s.heap.IsTuple z xs)(M:xs[n]?=none)
  (k:∀h' e,Heap.ExtBut u s.heap h'->(∃o,h'.get? e=⇑o/\o.cls=.type "StopIteration")->E (.ref e) {s with heap:=h'}):wpAny (model prog w) A (Builtin.SmallTypes.nextOf (.ref u)) Q E s:=by
 let#[ob,J,e1,G]:=id B;let#[zb,Y,_,zn,O]:=hz;apply qa;show wpAny_callSpecial?_slot (name:=Str.ofString "__next__") B.typeIs F.slot_tuple_iterator_next (zl F.slot_tuple_iterator_next B.typeIs F.entry_tuple_iterator_next ?_ (F.args_tuple_iterator_next_1 _));show wpAny _ _ (field (.ref u) 0>>=_) _ _ _;apply qa;show zj J G (x:=.ref z) rfl ?_;apply qa;show zj J G (x:=.int n 0) rfl ?_;apply qa;show wpAny_seqItems Y O ?_;simp[qV,M];apply qa;apply wpAny_rule;apply qa;show wpAny_setField J G (by simp) ?_;apply qa;apply qa;show zk ?_ (by size_fits);show qa (m:=firstArgMember _ _) (zr (a:=Value.none) (by first|rfl|(simp;rfl)) (zk ?_ (by size_fits)));apply qa;show wpAny_handled ?_;first|rw[show A.in1.handled=none from L]|rw[L]
 show qa (qb (wpAny_throw (k _ _ (((Heap.SameBut.update ..).extBut.push _).push _) #[_,qd _ rfl,rfl])))
def HU{prog:Program}{w:World}{A:Around}(hh:A.handled=none)(u z:Addr)(hne:z≠u)(xs:Array Value):
  Draws prog w A u [u,z] xs.size (λi v=>xs[i]?=⇑v) (λi h=>h.IsTupleIter u z i/\h.IsTuple z xs) where
 live:=λ_ _ st=>let#[o,e,_]:=st.1;#[o,e]
 frame:=λ_ _ _ st k=>#[st.1.at λo e=>k u (by simp) o e,by let#[o,e,r]:=st.2;show#[o,k z (by simp) o e,r]]
 item:=λi s Q E hi st k=>NS st.1 st.2 (v:=xs[i]) (by simp) λh' a b=>k _ h' s.toks (by simp[hi]) #[a,by let#[o,e,r]:=st.2;show#[o,b.extBut _ _ hne e,r]] b
 done:=λs Q E st k=>GM hh st.1 st.2 (by simp) k
inductive SrcI(P:Program)(w:World)(A:Around)(it:Addr)(J:It)(tn:Nat->Heap->Prop)(i:Nat)(s:Shared)(H:Hp):Prop
 |mk (fp:List Addr) (n:Nat) (Pr:Nat->Value->Prop) (Sx:Nat->Heap->Prop):Draws P w A it fp n Pr Sx->Sx i s.heap->i<n->it∈fp->(∀b∈fp,b=it\/(H b≠none/\∃o,s.heap.get? b=some o/\o.cls=.type "tuple")\/∃o,s.heap.get? b=some o/\o.cls=.type "list")->(∀v,Pr i v->∃x,zJ x v/\J.yld i H x H)->(∀h',Sx (i+1) h'->tn (i+1) h')->SrcI P w A it J tn i s H
structure xT(P:Program)(w:World)(K:W.Frag)(J:It)(it:Addr)(tn:Nat->Heap->Prop):Prop where
 live:∀i h,tn i h->∃o,h.get? it=⇑o/\(∀v,o.data≠.cell v)/\o.cls≠.type "enumerate"/\o.cls≠.type "zip"/\o.cls≠.type "tuple"/\o.cls≠.type "list"
 keep:∀i h h',tn i h->(∀o,h.get? it=⇑o->h'.get? it=⇑o)->tn i h'
 yl:∀i H x H',J.yld i H x H'->H'=H
 item:∀(X:Cx),X.prog=P->X.w=w->X.K=K->∀(i:Nat)(zT:List (Addr×Obj))(s:Shared)(Z:St)(H:Hp)(A:Around),A.handled=none->Inv X zT Z H s->tn i s.heap->H it=none->J.go i H->
  SrcI P w A it J tn i s H
 done:∀(X:Cx),X.prog=P->X.w=w->X.K=K->∀(i:Nat)(zT:List (Addr×Obj))(s:Shared)(Z:St)(H:Hp)(A:Around),A.handled=none->Inv X zT Z H s->tn i s.heap->J.stop i H->∀(Q:zu)(E:zu),
  (∀h' e,Heap.ExtBut it s.heap h'->(∃o,h'.get? e=⇑o/\o.cls=.type "StopIteration")->E (.ref e) {s with heap:=h'})->wpAny (model P w) A (Builtin.SmallTypes.nextOf (.ref it)) Q E s
def Qz{P:Program}{w:World}{K:W.Frag}(a it:Addr):xT P w K (yC K a) it (λi h=>h.IsListIter it a i) where
 live:=λi h st=>by let#[o,e,c,d]:=st;show#[o,e,λv z=>by(rw[d]at z;cases z),by rw[c];decide,by rw[c];decide,by rw[c];decide,by rw[c];decide]
 keep:=λi h h' st k=>st.at k
 yl:=λi H x H' h=>h.1
 item:=by
  intro X hP hw hK i zT s Z H A hh I st hn hg;subst hP hw hK;let#[xs,x,hq,hx]:=hg;let#[zX,rv,p,hz]:=I.list hq;let#[lo,l1,l2,l3]:=id p.isList;let hne:a≠it:=λz=>by let#[o,e,c,d]:=id st;rw[<-z,l1]at e;cases e;rw[l2]at c;show absurd c ⋯
  let hl:=rv.length;let hi:i<zX.toArray.size:=by let:=(qg.mp hx).1;rw[qr];lia
  show#[_,_,_,_,Draws.list hh it a hne zX.toArray,#[st,p.isList],hi,m1,λb hb=>?_,λv hv=>?_,λh' z=>z.1]
  .simp at hb;rcases hb with rfl|rfl
   .show .inl rfl
   .show .inr (.inr #[lo,l1,l2])
  .obtain⟨u,hu,ru⟩:=rv.get hx;let:u=v:=by
    let hv':zX[i]?=⇑v:=↑hv
    rw[hu]at hv';show qf hv'
   subst this;show#[x,ru,rfl,λys hy=>by rw[I.list_inj hy hq];show hx]
 done:=by intro X hP hw hK i zT s Z H A hh I st hg Q E k;subst hP hw hK;let#[xs,hq,hx]:=hg;let#[zX,rv,p,hz]:=I.list hq;let hl:=rv.length;show wpAny_nextOf_list_end hh st p.isList (by simp;lia -verbose) k
def ie(a:Addr):It:=#[λi H=>∃xs x,H a=⇑(.tup xs)/\xs[i]?=⇑x,λi H x H'=>H'=H/\∀xs,H a=⇑(.tup xs)->xs[i]?=⇑x,λi H=>∃xs,H a=⇑(.tup xs)/\xs.length<=i]
def Pv{P:Program}{w:World}{K:W.Frag}(a it:Addr):xT P w K (ie a) it (λi h=>h.IsTupleIter it a i) where
 live:=λi h st=>by let#[o,e,c,d]:=st;show#[o,e,λv z=>by(rw[d]at z;cases z),by rw[c];decide,by rw[c];decide,by rw[c];decide,by rw[c];decide]
 keep:=λi h h' st k=>st.at k
 yl:=λi H x H' h=>h.1
 item:=by
  intro X hP hw hK i zT s Z H A hh I st hn hg;let#[xs,x,hq,hx]:=hg;let#[zX,rv,p,hz]:=I.tuple (bA.of hq);let#[lo,l1,l2,l3]:=id p;let hne:a≠it:=λz=>by rw[z,hn]at hq;cases hq
  let hl:=rv.length;let hi:i<zX.toArray.size:=by grind
  show#[_,_,_,_,HU hh it a hne zX.toArray,#[st,p],hi,m1,λb hb=>?_,λv hv=>?_,λh' z=>z.1]
  .grind
  .obtain⟨u,hu,ru⟩:=rv.get hx;let:u=v:=by grind
   subst this;show#[x,ru,rfl,λys hy=>by rw[hq]at hy;cases hy;show hx]
 done:=by intro X hP hw hK i zT s Z H A hh I st hg Q E k;let#[xs,hq,hx]:=hg;let#[zX,rv,p,hz]:=I.tuple (bA.of hq);let hl:=rv.length;show GM hh st p (by simp;lia -verbose) k
def Ph{P:Program}{w:World}{K:W.Frag}(it:Addr)(x:Str)(t:Tok):xT P w K (vK x) it (λi h=>h.IsStrIter it (strIterType x) x t i) where
 live:=λi h st=>by
  obtain⟨o,e,c,d⟩:=st;let hc:o.cls=.type "str_ascii_iterator"\/o.cls=.type "str_iterator":=by
   rw[c];unfold strIterType;split
   .show .inl rfl
   .show .inr rfl
  grind
 keep:=λi h h' st k=>by let#[o,e,r]:=st;show#[o,k o e,r]
 yl:=λi H x H' h=>h.1
 item:=by
  intro X hP hw hK i zT s Z H A hh I st hn hg;let fin:∀v:Value,(∃c u,x.cps[i]?=⇑c/\v=.str #[[c].toArray] u)->∃y,zJ y v/\(vK x).yld i H y H:=λv⟨c,u,e,ev⟩=>#[.str #[[c].toArray],by rw[ev];show#[u,rfl],rfl,c,e,rfl]
  cases ha:x.cps.all (·<128)
  .let e:strIterType x="str_iterator":=by unfold strIterType;rw[ha];rfl
   rw[e]at st⊢;show#[_,_,_,_,Draws.strWide hh it x t,st,hg,m1,λb hb=>.inl ↑hb,fin,λ_ z=>z]
  .let e:strIterType x="str_ascii_iterator":=by unfold strIterType;rw[ha];rfl
   rw[e]at st⊢;show#[_,_,_,_,Draws.strAscii hh it x t,st,hg,m1,λb hb=>.inl ↑hb,fin,λ_ z=>z]
 done:=by
  intro X hP hw hK i zT s Z H A hh I st hg Q E k;let hn:x.cps[i]?=none:=by let:x.cps.size<=i:=hg;simp[this]
  cases ha:x.cps.all (·<128)
  .let e:strIterType x="str_iterator":=by unfold strIterType;rw[ha];rfl
   rw[e]at st;show wpAny_nextOf_wide_end hh st hn k
  .let e:strIterType x="str_ascii_iterator":=by unfold strIterType;rw[ha];rfl
   rw[e]at st;show wpAny_nextOf_ascii_end hh st hn k
end FL
namespace FL
def bW(k:Nat):List D->List D
 |[]=>[]
 |d::l=>.tup [.int k,d]::bW (k+1) l
def lJ(a:WE):WI:=λU Q E=>a U (λr B=>zz (give r B) λp=>zz (items p.1.toD) λl=>Q (bW 0 l) p.2) E
def gI:List D->List D->List D
 |d::l,e::m=>.tup [d,e]::gI l m
 |_,_=>[]
def LB:∀(l:List D)(k i:Nat)(d:D),(bW k l)[i]?=⇑d->∃e,l[i]?=⇑e/\d=.tup [.int ((k+i:Nat):Int),e]
 |[],_,_,_,h=>by simp[bW]at h
 |e::l,k,0,d,h=>by simp[bW]at h;show#[e,rfl,↑h.symm]
 |e::l,k,i+1,d,h=>by let#[B,h1,h2]:=LB l (k+1) i d (by simpa[bW] using h);show#[B,↑h1,by rw[h2];congr 4;lia]
def Lb:∀(l:List D)(k:Nat),(bW k l).length=l.length
 |[],_=>rfl
 |_::l,k=>by simp[bW,Lb l]
end FL
namespace FL
open PySem PySem.Spec PyProof.Rows L2
open AutoSeq1 (wpAny_loadPart')
def LF{ch:List Addr}(I:Inv X zT Z H s)(F:∀b∈ch,bK X zT H b)(k:∀b o,b∉ch->s.heap.get? b=⇑o->h'.get? b=⇑o):Inv X zT Z H {s with heap:=h',toks:=t'}:=by
 let G:∀b u,H b=⇑u->b∉ch:=λb u e z=>by rw[(F b z).1]at e;cases e
 refine I.step (g':=s.gens) (d':=s.drawn) (ch:=ch) (λb M=>?_) (λb o _ _ B e _=>k b o B e) (λb o _ _ B e _=>#[o.slots,k b o B e]) (λ_ _ _ _ n=>n)
  (λb o B e=>#[o,k b o B e]) (λ_ _ e=>e) (λ_ _ _ e=>e) (λb ps e=>#[#[],by rw[e];simp]) (λm L=>?_) (λb u e=>?_) I.bare
 .obtain⟨f0,f1,f2,f3,Y,O⟩:=F b M;show#[f3,f1,Y,O]
 .obtain⟨o,es,ep,J,r⟩:=L;show#[o,es,ep,k _ o (λz=>(F _ z).2.1 rfl) J,r]
 .show(I.hok b u e).stay (λc v B q=>k c v ?_ q) (λ_ q=>q) λ_ _ q=>q;grind
def Ro(f:bK X zT H b)(h:b≠T):bK X zT (L2.upd H T o) b:=#[by rw[Aj h];show f.1,f.2]
def Ue{ch:List Addr}(I:Inv X zT Z H s)(Y:∀b∈ch,bK X zT H b)(O:∀b∈ch,b<s.heap.objs.size)(hz:xs.length<=sizeLine)(J:zQ xs us)
  (hT:∃o,h'.get? s.heap.objs.size=⇑o/\o.cls=.type "tuple"/\o.dict=none/\∃n,o.data=.seq us.toArray n)(k:∀b o,b∉ch->s.heap.get? b=⇑o->h'.get? b=⇑o):
  Inv X zT Z (L2.upd H s.heap.objs.size (.tup xs)) {s with heap:=h',toks:=t'}:=by
 let#[o,e,c,M,n,d]:=hT;let B:o.isFreed=false:=by let#[oc,od,G,L]:=o;let d':G=.seq us.toArray n:=d;subst d';rfl
 have I1:Inv X zT Z (L2.upd H s.heap.objs.size (.tup xs)) {s with heap:=s.heap.push o}:=I.laid (t':=s.toks) (λb u q=>qc _ q) (q9 _) #[#[hz,λo' q=>by rw[qd _ B]at q;cases q;show M],us,J,#[o,qd _ B,c,n,d]];let I2:=LF I1 (h':=h') (t':=t') (ch:=ch) (λb F=>Ro (Y b F) (ne_of_lt (O b F))) λb u F q=>by
  rcases Heap.get?_push_cases q with⟨rfl,rfl⟩|q
  .show e
  .show k b u F q
 show I2
def vL(J:It):It:=#[J.go,λi H x H'=>∃p y,H p=none/\J.yld i H y H/\x=.ref p/\H'=upd H p (.tup [.int i,y]),J.stop]
def Rv(L:IsEnum s.heap e it i M)(Y:∀(Q:zu)(E:zu),(∀h' x,Heap.ExtBut it s.heap h'->(∃o,h'.get? x=⇑o/\o.cls=.type "StopIteration")->E (.ref x) {s with heap:=h'})->wpAny (model prog w) A.in1 (Builtin.SmallTypes.nextOf (.ref it)) Q E s)
  (hQ:∀h',Heap.ExtBut it s.heap h'->Q none {s with heap:=h'}):wpAny (model prog w) A (pyNext (.ref e)) Q E s:=by
 let J:s.TypeIs (.ref e) "enumerate":=#[_,L,rfl]
 apply qa;apply wpAny_attempt;show wpAny_callSpecial?_slot (name:=Str.ofString "__next__") J F.slot_enumerate_next (zl F.slot_enumerate_next J F.entry_enumerate_next ?_ (F.args_enumerate_next_1 _));show wpAny _ _ (field (.ref e) 2>>=_) _ _ _;apply qa;show zj L rfl (x:=.ref it) rfl (qa (Y _ _ λh' x G B=>?_));let#[o,O,hc]:=B;show qa (wpAny_isInstance (T:="StopIteration") (b:=true) #[o,O,hc] isSubtype_stop (qb (hQ _ G)))
def RM{P:Program}{w:World}{K:W.Frag}{J:It}{it e:Addr}{tn:Nat->Heap->Prop}{elts:List Expr}{k:Nat}{pos:Pos}(S:xT P w K J it tn)(hei:e≠it):
  iI P w K (.Tuple elts k pos) (vL J) [e,it] e (λi h=>(∃old,IsEnum h e it i old)/\tn i h) where
 mem:=m1
 obj:=λi h st b hb=>by
  simp at hb;rcases hb with rfl|rfl
  .obtain⟨old,q⟩:=st.1;show#[_,q,λv z=>by cases z]
  .obtain⟨o,h1,h2,_⟩:=S.live i h st.2;show#[o,h1,h2]
 keep:=λi h h' st kk=>by let#[#[old,q],t]:=st;show#[#[old,kk e (m1) _ q],S.keep i h h' t λo q=>kk it (m2) o q]
 item:=by
  intro X hP hw hK hc i zT s Z H E I hf st hg;let#[#[old,he],ht]:=st;let hh:X.A.in1.handled=none:=I.ok.hd hc;let#[fp,n,Pr,Sx,D,hS,hin,hif,hfp,hv,hs]:=S.item X hP hw hK i zT s Z H X.A.in1 hh I ht (hf it (m2)).1 hg;let hef:e∉fp:=λz=>by grind
  have hel:e<s.heap.objs.size:=qe he;let#[oi,hoi,_]:=S.live i _ ht;let hil:it<s.heap.objs.size:=qe hoi;show wpAny_pyNext_enum_itemD (A:=X.A) D he hS hin hei hef λx h1 tk hPx ho hS1 hT hsz hk=>?_;let#[y,ry,hy]:=hv x hPx;show#[_,rfl,wpAny_letOwnedTupleGo_enum ho λh2 he2 sb=>?_];let ne:s.heap.objs.size≠e:=ne_of_gt hel;let I2:Inv X zT Z (upd H s.heap.objs.size (.tup [.int i,y])) {s with heap:=h2,toks:=tk+1}:=Ue I (ch:=[e,it]) (us:=[.int i tk,x]) hf (λb hb=>by
    simp at hb;rcases hb with rfl|rfl
    .show hel
    .show hil) (by show 2<=_;decide) (.cons #[_,rfl] (.cons ry .nil)) #[_,sb.extBut _ _ ne hT,rfl,rfl,_,rfl] λb o hb q=>by
   simp at hb;show sb.extBut _ _ hb.1 (hk b o hb.1 hb.2 q)
  show#[.ref s.heap.objs.size,_,I2,rfl,#[s.heap.objs.size,y,I.hok.fresh (q9 _),hy,rfl,rfl],#[#[x,he2],S.keep _ _ _ (hs _ hS1) λo q=>sb.extBut _ _ (Ne.symm hei) q],λb hb=>?_];simp at hb;rcases hb with rfl|rfl
  .rw[Aj (ne_of_lt hel)];show(hf _ (m1)).1
  .rw[Aj (ne_of_lt hil)];show(hf _ (m2)).1
 done:=by intro X hP hw hK hc i zT s Z H E I hf st hg;let#[#[old,he],ht]:=st;let hh:X.A.in1.handled=none:=I.ok.hd hc;show Rv he (S.done X hP hw hK i zT s Z H X.A.in1 hh I ht hg) λh' hx=>#[rfl,LF I (t':=s.toks) (ch:=[it]) (λb hb=>hf b (by simp at hb;simp[hb])) λb o hb q=>hx b o ↑hb q]
 self:=λA i s Q E st h=>by let#[#[old,he],_]:=st;show wpAny_pyIter_enum he h
abbrev mK(h:Heap)(z:Addr):Heap:=(h.push {cls:=.type "tuple_iterator",data:=.fields [.ref z,.int 0 0].toArray}).push {cls:=.type "enumerate",data:=.fields [.none,.bool false,.ref h.objs.size,rawInt 0,.none,.none].toArray}
set_option maxHeartbeats 1000000 in
def Sn(z:Addr)(xs:Array Value)(n:Nat)(dd:Option Addr)(M:Array (Option Value)):Meets (Builtin.«enumerate.__new__» #[[.type "enumerate",.ref z],[]]) (λ_ R s=>s.heap.get? z=some {cls:=.type "tuple",dict:=dd,data:=.seq xs n,slots:=M}/\
  R (.ok (.ret (.ref (s.heap.objs.size+1)))) {s with heap:=mK s.heap z}):=
 .of_wp λprog w A R s J=>by
  let#[F,g,d,tk,os]:=s;let#[G,Y]:=J;let ss:=sub_enumerate;let O:(F.push {cls:=.type "tuple_iterator",data:=.fields [.ref z,.int 0 0].toArray}).objs.size=F.objs.size+1:=Heap.size_push ..;let B:R (.ok (.ret (.ref (F.push {cls:=.type "tuple_iterator",data:=.fields [.ref z,.int 0 0].toArray}).objs.size))) {heap:=mK F z,gens:=g,drawn:=d,toks:=tk,os:=os}:=by rw[O];show Y
  let L:Heap.IsTuple (Shared.heap #[F,g,d,tk,os]) z xs:=#[_,G,rfl,n,rfl]
  wp_walk using wpAny_loadPart' G
  show wpAny_stack_any λst=>qb ?_;split
  .rename_i c _ _ _ _ _;cases(c==Value.type "enumerate")<;>(wp_walk using wpAny_loadPart' G,wpAny_pyIter_tuple L;show#[_,rfl,B])
  .wp_walk using wpAny_loadPart' G,wpAny_pyIter_tuple L
   show#[_,rfl,B]
def QJ(hT:s.heap.IsTuple z xs)
  (k:∀h',IsEnum h' (s.heap.objs.size+1) s.heap.objs.size 0 .none->h'.IsTupleIter s.heap.objs.size z 0->(∀b o,s.heap.get? b=⇑o->h'.get? b=⇑o)->Q (.ref (s.heap.objs.size+1)) {s with heap:=h'}):
  wpAny (model prog w) A (call (.type "enumerate") [.ref z]) Q E s:=by
 let#[#[c,dd,dt,J],M,Y,n,O]:=hT;let e1:c=.type "tuple":=Y;let e2:dt=.seq xs n:=O;subst e1 e2;show callType_new F.called_enumerate ⋯ (F.typeCall_enumerate_1 _) (F.newCall_enumerate_1 _) (λB=>F.args_object_init_2 B _) F.entry_enumerate_new (Sn z xs n dd J) #[M,?_];let L:(s.heap.push {cls:=.type "tuple_iterator",data:=.fields [.ref z,.int 0 0].toArray}).objs.size=s.heap.objs.size+1:=Heap.size_push ..;let G:IsEnum (mK s.heap z) (s.heap.objs.size+1) s.heap.objs.size 0 .none:=by let:=qd (s.heap.push {cls:=.type "tuple_iterator",data:=.fields [.ref z,.int 0 0].toArray}) (o:={cls:=.type "enumerate",data:=.fields [.none,.bool false,.ref s.heap.objs.size,rawInt 0,.none,.none].toArray}) rfl;rw[L]at this;show this
 show#[#[_,G,rfl],k _ G #[_,qc _ (qd _ rfl),rfl,rfl] λb o x=>qc _ (qc _ x)]
def xF(K:W.Frag)(B:TA):TI:=λZ H R=>B Z H λvs H1=>(∃a,vs=[.ref a]/\(∃xs,bM K H1 a xs)/\R (vL (yC K a)) H1)\/(∃a,vs=[.ref a]/\(∃xs,H1 a=⇑(.tup xs))/\R (vL (ie a)) H1)\/∃x,vs=[.str x]/\R (vL (vK x)) H1
def PB(hc:X.calm=true)(hg:Gl X "enumerate")(hm:X.mg "enumerate"=none)(hv:bootBuiltins "enumerate"=⇑(.type "enumerate"))(hl:PA X [a] tl)
  (hs:autoParam (starEach [a] X.env=[(false,eval a X.env)]) rZ9):PI X (.Tuple elts kk tpos) (.Call (.Name "enumerate" p) [a] [] pos) (xF X.K tl):=by
 intro zT s Z H R I h;show wpAny_Call_Name_kw (Dz I hg hm hv ?_ ⋯ ⋯);show PyProof.Rows.callWith_type1 (Af (hl pos zT s Z H _ I h) λus B zq=>?_) hs rfl;let#[vs,H1,M,r1,q1]:=zq;let L:∀{J:It}{Y:Nat->Heap->Prop}{h':Heap},xT X.prog X.w X.K J B.heap.objs.size Y->R (vL J) H1->IsEnum h' (B.heap.objs.size+1) B.heap.objs.size 0 .none->Y 0 h'->(∀b o,B.heap.get? b=⇑o->h'.get? b=⇑o)->
   wpAny (model X.prog X.w) X.A (pyIter (.ref (B.heap.objs.size+1))) (xW X zT Z (.Tuple elts kk tpos) R) X.xe {B with heap:=h'}:=λ{J Y h'} S hR F ht G=>by
  show wpAny_pyIter_enum (s:={B with heap:=h'}) F ?_;show#[B.heap.objs.size+1,[B.heap.objs.size+1,B.heap.objs.size],_,_,H1,rfl,M.kept (t':=B.toks) G,RM S (Nat.succ_ne_self _),#[#[_,F],ht],λb hb=>?_,hR];simp at hb;rcases hb with rfl|rfl
  .show M.fpOk (le_succ _) (M.hok.fresh (le_succ _))
  .show M.fpOk (q9 _) (M.hok.fresh (q9 _))
 rcases q1 with⟨b,e,⟨xs,hq⟩,q⟩|⟨b,e,⟨xs,hq⟩,q⟩|⟨x,e,q⟩
 .subst e;let#[u,rfl,O]:=vals1 r1;cases O;let#[h1,rv,pl,hz]:=M.list hq;show call_enumerate_list pl.isList λh' F hi _ G=>L (Qz b _) q F hi G
 .subst e;let#[u,rfl,O]:=vals1 r1;cases O;let#[h1,rv,pl,hz]:=M.tuple (bA.of hq);show QJ pl λh' F hi G=>L (Pv b _) q F hi G
 .subst e;let#[u,rfl,O]:=vals1 r1;let#[t,rfl]:=O;show call_enumerate_str λh' F hi _ G=>L (Ph _ x t) q F hi G
def Ic{K:W.Frag}(hy:∀i H x H',J.yld i H x H'->H'=H)(h:fZ K J l F0):fZ K (vL J) (bW 0 l) F0:=λi U Z F G H sm B=>by let#[h1,h2]:=h i U Z F G H sm B;show#[λd hd=>?_,λY=>h2 (by rw[Lb]at Y;show Y)];let#[e,he,rfl]:=LB l 0 i d hd;let#[g1,g2]:=h1 e he;show#[g1,λx H' zq=>?_];let#[p,y,O,L,ex,eH]:=zq;subst ex eH;let#[F',s1,M,rp]:=g2 y H L;let#[f0,_,_]:=M.free O;show#[upd F' p (.tup [.int i,y]),s1.trans (zF.upd f0),M.newF O,?_];let:=aK.tup (K:=K) (F:=upd F' p (.tup [.int i,y])) (a:=p) (xs:=[.int i,y]) (ds:=[.int i,e]) AI (.cons (.int i) (.cons (rp.mono (zF.upd f0)) .nil));simpa using this
def Ru{K:W.Frag}{a:Addr}(e:F0 a=⇑(.tup xs))(r:zR K F0 xs l):fZ K (ie a) l F0:=λi U Z F G H M B=>by let L:H a=⇑(.tup xs):=(M.trans B.fr) _ _ e;show#[λd hd=>?_,λh=>#[xs,L,by rw[r.len];show h]];let#[x,O,Y]:=r.get hd;show#[#[xs,x,L,O],λy H' J=>?_];let#[rfl,J]:=J;let:x=y:=qf (O.symm.trans (J xs L));subst this;show#[F,zF.refl F,B,Y.mono M]
def UK:bootBuiltins "enumerate"=⇑(.type "enumerate"):=by decide+kernel
def Oe(hc:X.calm=true)(hg:Gl X "enumerate")(hm:X.mg "enumerate"=none)(hv:bootBuiltins "enumerate"=⇑(.type "enumerate"))(ha:FE X a we)(hs:autoParam (starEach [a] X.env=[(false,eval a X.env)]) rZ9):
  FI X (.Tuple elts kk tpos) (.Call (.Name "enumerate" p) [a] [] pos) (lJ we):=λpn xe hp=>by
 show PI.imp (PB (X:=wp X pn xe) hc hg hm hv (Aa ha Ab hs pn xe hp) hs) λZ H R q=>?_;let#[F,G,U,P,PX,h2,hw,O,hx]:=q;show#[F,G,U,λrs h1=>match rs with|[r]=>(zz (give r h1) λp=>zz (items p.1.toD) λl=>P (bW 0 l) p.2)|_=>False,PX,h2,hw,λrs h1 vs F1 H1 B s1 r1 hl M=>?_,hx];match rs,vs,M,r1,B with
 |[r],[v],M,r1,B=>
  let#[#[s,L],eg,B]:=Ak B;let#[l,el,B]:=Ak B;let#[F2,s2,l2,r2]:=Ax (U':=[]) (Z':=[]) r1 hl M.1 eg;let#[F3,s3,rp,r3]:=Rel.giveD (U:=L) (vs:=[v]) (ss:=[s]) r2 (l2.trans hl);let sm:=s1.trans (s2.trans s3);cases rp with
  |cons a0 b0=>
   let J:items s.toD=⇑l:=el;generalize s.toD=d at a0 J;cases a0 with
   |lst Y r0=>cases J;show .inl #[_,rfl,#[_,bM.mono r3.fr Y],O _ L F3 H1 _ B sm r3 (Ic (λ_ _ _ _ z=>z.1) (Ls Y r0))]
   |tup Y r0=>cases J;show .inr (.inl #[_,rfl,#[_,r3.fr _ _ Y],O _ L F3 H1 _ B sm r3 (Ic (λ_ _ _ _ z=>z.1) (Ru Y r0))])
   |str Y z0=>cases J;show .inr (.inr #[_,rfl,O _ L F3 H1 _ B sm r3 (Ic (λ_ _ _ _ z=>z.1) (Kv Y))])
   |_=>cases J
 |[],_,_,_,B=>show B.elim
 |[_],[],M,_,_=>show M.elim
 |[_],_::_::_,M,_,_=>show M.2.elim
 |_::_::_,_,_,_,B=>show B.elim
end FL
namespace FL
open PySem PySem.Spec PyProof.Rows L2
structure gx(z TI TO i1 i2:Addr)(f1 f2:List Addr):Prop where
 a1:TI≠z
 a2:TO≠z
 a3:TI≠TO
 a4:TI≠i1
 a5:TI≠i2
 m1:i1∈f1
 m2:i2∈f2
 z1:z∉f1
 z2:z∉f2
 o1:TO∉f1
 o2:TO∉f2
 c1:i1∉f2
 c2:i2∉f1
section
variable{z TI TO i1 i2:Addr}
def Bi{f:List Addr}(F:a∈f)(B:b∉f):a≠b:=λq=>B (q▸F)
def NU{Q:zu}(Zq:gx z TI TO i1 i2 f1 f2)(D1:Draws prog w A i1 f1 n1 P1 S1)(D2:Draws prog w A i2 f2 n2 P2 S2)
  (hz:IsZip s.heap z TI TO .none)(hI:IsPair s.heap TI (.ref i1) (.ref i2))(hO:IsPair s.heap TO a b)(t1:S1 k1 s.heap)(t2:S2 k2 s.heap)(l1:k1<n1)(l2:k2<n2)
  (k:∀x y h' tk,P1 k1 x->P2 k2 y->IsZip h' z TI TO (rawInt s.heap.objs.size)->(∃c d,IsPair h' TO c d)->S1 (k1+1) h'->S2 (k2+1) h'->IsPair h' s.heap.objs.size x y->
   (∀c o,c≠z->c≠TO->c≠i1->c≠i2->s.heap.get? c=⇑o->h'.get? c=⇑o)->Q (.ref s.heap.objs.size) {s with heap:=h',toks:=tk}):
  wpAny (model prog w) A (Builtin.«zip.__next__» #[[.ref z],[]]) (λhr s'=>∃v,hr=.done (.ret v)/\Q v s') E s:=by
 let hi:=Bi Zq.m1 Zq.z1;let hx:=Bi Zq.m2 Zq.z2;let hs:=Bi Zq.m1 Zq.o1;let hp:=Bi Zq.m2 Zq.o2;show wpAny _ _ (field (.ref z) 2>>=_) _ _ _;apply qa;show zj hz rfl (x:=.bool false) rfl ?_;apply qa;show zj hz rfl (x:=.ref TI) rfl ?_;apply qa;show wpAny_seqItems hI rfl ?_;apply qa;apply qa;show zj hz rfl (x:=.none) rfl (qb ?_);apply qa;apply wpAny_rule;apply qa;show zj hz rfl (x:=.ref TO) rfl ?_;apply qa;show zo hz (by simp) λha za sa=>?_;let h6:IsZip ha z TI TO .ellipsis:=za;apply qa;apply qa;apply qa;apply wpAny_onRaise;apply qa;let e4:S1 k1 ha:=D1.frame _ _ _ t1 λc L o q=>sa.extBut _ _ (Bi L Zq.z1) q;let e1:S2 k2 ha:=D2.frame _ _ _ t2 λc L o q=>sa.extBut _ _ (Bi L Zq.z2) q;show D1.item k1 _ _ _ l1 e4 λx hb tb px e3 sb=>qb ?_;let h4:IsPair hb TO a b:=sb.extBut _ _ (Ne.symm hs) (sa.extBut _ _ Zq.a2 hO);apply qa;show wpAny_seqItems h4 rfl ?_;apply qa;show wpAny_updateSeq_pair h4 λL hm sc=>?_;let h3:IsPair L TO x b:=hm;show qa (wpAny_letGo (qb ?_));apply qa;apply qa;apply wpAny_onRaise;apply qa;let h9:S2 k2 L:=D2.frame _ _ _ e1 λc B o q=>sc.extBut _ _ (Bi B Zq.o2) (sb.extBut _ _ (Bi B Zq.c1) q);show D2.item k2 _ _ _ l2 h9 λy hd td py h8 sd=>qb ?_;let h2:IsPair hd TO x b:=sd.extBut _ _ (Ne.symm hp) h3;apply qa;show wpAny_seqItems h2 rfl ?_;apply qa;show wpAny_updateSeq_pair h2 λF hl Y=>?_;let G:IsPair F TO x y:=hl;show qa (wpAny_letGo (qb (qb ?_)));apply qa;show wpAny_seqItems G rfl ?_;apply qa;show wpAny_newTuple ?_;let h1:F.objs.size=s.heap.objs.size:=by rw[Y.1,sd.1,sc.1,sb.1,sa.1]
 let ze:IsZip F z TI TO .ellipsis:=Y.extBut _ _ (Ne.symm Zq.a2) (sd.extBut _ _ (Ne.symm hx) (sc.extBut _ _ (Ne.symm Zq.a2) (sb.extBut _ _ (Ne.symm hi) h6)));let e2:S1 (k1+1) F:=D1.frame _ _ _ e3 λc B o q=>Y.extBut _ _ (Bi B Zq.o1) (sd.extBut _ _ (Bi B Zq.c2) (sc.extBut _ _ (Bi B Zq.o1) q));let h7:S2 (k2+1) F:=D2.frame _ _ _ h8 λc B o q=>Y.extBut _ _ (Bi B Zq.o2) q;let hk:∀c o,c≠z->c≠TO->c≠i1->c≠i2->s.heap.get? c=⇑o->F.get? c=⇑o:=λc o J q2 q3 q4 q=>Y.extBut _ _ q2 (sd.extBut _ _ q4 (sc.extBut _ _ q2 (sb.extBut _ _ q3 (sa.extBut _ _ J q))));let M:z<F.objs.size:=qe ze;apply qa;let zf:IsZip (F.push {cls:=.type "tuple",data:=.seq [x,y].toArray}) z TI TO .ellipsis:=qc _ ze;apply qa;show zo zf (by simp) λhg zg sg=>?_;let h5:IsZip hg z TI TO (rawInt F.objs.size):=zg;show zo h5 (by simp) λhh zh sh=>?_;let O:IsZip hh z TI TO (rawInt F.objs.size):=zh;let up:∀c o,c≠z->F.get? c=⇑o->hh.get? c=⇑o:=λc o J q=>sh.extBut _ _ J (sg.extBut _ _ J (qc _ q));let pT:IsPair hh F.objs.size x y:=sh.extBut _ _ (ne_of_gt M) (sg.extBut _ _ (ne_of_gt M) (qd _ rfl));rw[h1]at O pT;show qb #[_,rfl,?_];rw[h1];show k x y hh _ px py O #[_,_,up _ _ Zq.a2 G] (D1.frame _ _ _ e2 λc B o q=>up c o (Bi B Zq.z1) q) (D2.frame _ _ _ h7 λc B o q=>up c o (Bi B Zq.z2) q) pT λc o J q2 q3 q4 q=>up c o J (hk c o J q2 q3 q4 q)
def Qw(J:i1≠z)(hz:IsZip s.heap z TI TO .none)(hI:IsPair s.heap TI (.ref i1) (.ref i2))
  (d:∀B,Heap.SameBut z s.heap B->∀(Q:zu)(E:zu),(∀h' e,Heap.ExtBut i1 B h'->(∃o,h'.get? e=⇑o/\o.cls=.type "StopIteration")->E (.ref e) {s with heap:=h'})->wpAny (model prog w) A (Builtin.SmallTypes.nextOf (.ref i1)) Q E {s with heap:=B})
  (k:∀h' e,(∀c o,c≠z->c≠i1->s.heap.get? c=⇑o->h'.get? c=⇑o)->(∃o,h'.get? e=⇑o/\o.cls=.type "StopIteration")->E (.ref e) {s with heap:=h'}):
  wpAny (model prog w) A (Builtin.«zip.__next__» #[[.ref z],[]]) Q E s:=by
 show wpAny _ _ (field (.ref z) 2>>=_) _ _ _;apply qa;show zj hz rfl (x:=.bool false) rfl ?_;apply qa;show zj hz rfl (x:=.ref TI) rfl ?_;apply qa;show wpAny_seqItems hI rfl ?_;apply qa;apply qa;show zj hz rfl (x:=.none) rfl (qb ?_);apply qa;apply wpAny_rule;apply qa;show zj hz rfl (x:=.ref TO) rfl ?_;apply qa;show zo hz (by simp) λB za Y=>?_;let F:IsZip B z TI TO .ellipsis:=za;apply qa;apply qa;apply qa;apply wpAny_onRaise;apply qa;show d B Y _ _ λhb e M st=>?_;let#[oe,G,q2]:=st;let L:IsZip hb z TI TO .ellipsis:=M _ _ (Ne.symm J) F;let ez:e≠z:=λq=>by subst q;rw[L]at G;cases G;simp at q2
 show zo L (by simp) λhc _ O=>k hc e (λc o c1 c2 q=>O.extBut _ _ c1 (M _ _ c2 (Y.extBut _ _ c1 q))) #[oe,O.extBut _ _ ez G,q2]
end
def pB(v:Value)(o:Obj)(s:Shared):Prop:=∀(prog:Program)(w:World)(A:Around)(Q:zu)(E:zu),Q (.ref s.heap.objs.size) {s with heap:=s.heap.push o}->wpAny (model prog w) A (pyIter v) Q E s
abbrev zA(h:Heap)(o1:Obj):Heap:=h.push o1
abbrev zB(h:Heap)(o1 o2:Obj):Heap:=(zA h o1).push o2
abbrev zC(h:Heap)(o1 o2:Obj):Heap:=(zB h o1 o2).push {cls:=.type "tuple",data:=.seq [.ref h.objs.size,.ref (zA h o1).objs.size].toArray}
abbrev zD(h:Heap)(o1 o2:Obj):Heap:=(zC h o1 o2).push {cls:=.type "tuple",data:=.seq [.none,.none].toArray}
abbrev zE(h:Heap)(o1 o2:Obj):Heap:=(zD h o1 o2).push {cls:=.type "zip",data:=.fields [.none,.bool false,.bool false,.ref (zB h o1 o2).objs.size,.ref (zC h o1 o2).objs.size].toArray}
def Pq(L J:Value)(o1 o2:Obj):Meets (Builtin.«zip.__new__» #[[.type "zip",L,J],[]]) (λ_ R s=>pB L o1 s/\pB J o2 {s with heap:=zA s.heap o1}/\R (.ok (.ret (.ref (zD s.heap o1 o2).objs.size))) {s with heap:=zE s.heap o1 o2}):=
 .of_wp λprog w A R s G=>by
  let#[hp,g,d,tk,os]:=s;let#[O,M,Y]:=G;let ss:=sub_zip;let F:=λ(A:Around)(Q:zu)(E:zu)=>O prog w A Q E;let B:=λ(A:Around)(Q:zu)(E:zu)=>M prog w A Q E
  wp_walk using F,B
  show#[_,rfl,Y]
def Oy(m1:pB Y o1 s)(m2:pB O o2 {s with heap:=zA s.heap o1})(f1:o1.isFreed=false)(f2:o2.isFreed=false)
  (k:∀h',IsZip h' (s.heap.objs.size+4) (s.heap.objs.size+2) (s.heap.objs.size+3) .none->IsPair h' (s.heap.objs.size+2) (.ref s.heap.objs.size) (.ref (s.heap.objs.size+1))->IsPair h' (s.heap.objs.size+3) .none .none->
   h'.get? s.heap.objs.size=⇑o1->h'.get? (s.heap.objs.size+1)=⇑o2->(∀c o,s.heap.get? c=⇑o->h'.get? c=⇑o)->Q (.ref (s.heap.objs.size+4)) {s with heap:=h'}):
  wpAny (model prog w) A (call (.type "zip") [Y,O]) Q E s:=by
 show callType_new F.called_zip ⋯ (F.typeCall_zip_2 _ _) (F.newCall_zip_2 _ _) (λL=>F.args_object_init_3 L _ _) F.entry_zip_new (Pq Y O o1 o2) #[m1,m2,?_];let J:(zA s.heap o1).objs.size=s.heap.objs.size+1:=Heap.size_push ..;let G:(zB s.heap o1 o2).objs.size=s.heap.objs.size+2:=by rw[Heap.size_push,J]
 let B:(zC s.heap o1 o2).objs.size=s.heap.objs.size+3:=by rw[Heap.size_push,G]
 let q4:(zD s.heap o1 o2).objs.size=s.heap.objs.size+4:=by rw[Heap.size_push,B]
 let M:(zE s.heap o1 o2).get? (zD s.heap o1 o2).objs.size=⇑_:=qd _ rfl;let g4:(zE s.heap o1 o2).get? (zC s.heap o1 o2).objs.size=⇑_:=qc _ (qd _ rfl);let g3:(zE s.heap o1 o2).get? (zB s.heap o1 o2).objs.size=⇑_:=qc _ (qc _ (qd _ rfl));let g2:(zE s.heap o1 o2).get? (zA s.heap o1).objs.size=⇑o2:=qc _ (qc _ (qc _ (qd _ f2)));let g1:(zE s.heap o1 o2).get? s.heap.objs.size=⇑o1:=qc _ (qc _ (qc _ (qc _ (qd _ f1))));rw[G,B,q4]at M;rw[J,G]at g3;rw[B]at g4;rw[J]at g2;rw[q4];show#[#[_,M,rfl],k _ M g3 g4 g1 g2 λc o x=>qc _ (qc _ (qc _ (qc _ (qc _ x))))]
def Nb:bootBuiltins "zip"=⇑(.type "zip"):=by decide+kernel
section
variable{κ:Type}[DecidableEq κ]{kd:κ->D}(inj:∀a b,kd a=kd b->a=b)
include inj
end
section
variable{K:W.Frag}
def Iw:∀{us:List Value},zQ (ns.map V.int) us->IntsAre us ns:=by
 induction ns with
 |nil=>intro us r;cases r;show .nil
 |cons n ns G=>
  intro us r;cases r with
  |cons F B=>let#[t,rfl]:=F;show .cons _ t (G B)
end
end FL
namespace FL
def lG(i j:Nat)(a:WA):WS:=λD U=>a U (λF B=>match F with
 |[r,t]=>zz (give r B) λp=>zz (give t p.2) λq=>D.nx ((q.2.set i ⇑p.1).set j ⇑q.1)
 |_=>False) D.ex
end FL
namespace FL
open PySem PySem.Spec PyProof.Rows L2
def KQ{α:Type}{l:List α}{r:List α}{v:α}(h:n<l.length):(l++r).set n v=l.set n v++r:=by rw[List.set_append_left _ _ h]
def Jt(hc:X.calm=true)(hN:X.N.Nodup)(hi:X.N[i]?=⇑x)(hj:X.N[j]?=⇑y)(h1:i≠j)(h6:i∉ks)(h5:j∉ks)
  (hx:X.env.scope.names.lookup x=⇑.local)(hy:X.env.scope.names.lookup y=⇑.local)(ha:FA X [a,b] wa)
  (hw:autoParam (swappedStores [.Tuple [.Name x px,.Name y py] kt pt] (.Tuple [a,b] k2 h2) X.env=pure ⇑[x,y]) rZ9)
  (hs:autoParam (swapsWithSole [.Tuple [.Name x px,.Name y py] kt pt] (.Tuple [a,b] k2 h2) pos.line X.env=pure false) rZ9):
  FS X ks (.Assign [.Tuple [.Name x px,.Name y py] kt pt] (.Tuple [a,b] k2 h2) pos) (lG i j wa):=λpn xe hp zT s Z H D I q=>by
 let M:Z.length=X.N.length:=I.len;let h9:i<Z.length:=by rw[M];show(qg.mp hi).1
 let h8:j<Z.length:=by rw[M];show(qg.mp hj).1
 show Nf (X:=wp X pn xe) hc hN hi hj h1 hx hy (ha pn xe hp) hw hs zT s Z H D I ?_;let#[F,G,U,E,h3,h4,n,b2,c,r,x2]:=q;let x0:XC (wp X pn xe) (·=Z) F G E.ex:=x2.mono (λe1 z=>by rw[z];show KP.refl) (zF.refl F) (zF.refl G);show#[F,G,U,_,_,h3,h4,λrs J vs F1 H1 B s1 r1 hl O=>?_,x0];match rs,vs,O,r1,B with
 |[r,t],[v,u],O,r1,B=>
  dsimp only at B;let#[#[s',L],eg,B]:=Ak B;let#[#[t',Y],h7,B]:=Ak B;let e:aF [r,t] J=⇑([s',t'],Y):=by show(match give r J with|some (s,J)=>(match aF [t] J with|some (ss,L)=>⇑(s::ss,L)|none=>none)|none=>none)=_;rw[eg];show(match(match give t L with|some (s,J)=>⇑([s],J)|none=>none)with|some (ss,L)=>⇑(s'::ss,L)|none=>none)=_;rw[h7]
  let#[F2,s2,l2,z2,r2]:=Fz (rs:=[r,t]) (vs:=[v,u]) (U':=[]) (Z':=[]) r1 hl O e;let l3:Y.length=Z.length:=l2.trans hl;let r3:Rel X.K ((Y++[⇑s'])++[⇑t']) ((Z++[⇑v])++[⇑u]) F2 G H1:=↑r2
  let r4:=r3.store (i:=j) (by simp[l3]) (by simp;lia -verbose);rw[KQ ∅,KQ ∅]at r4;let r5:=r4.store (i:=i) (by simp[l3]) (by simp;lia -verbose);rw[set_comm _ _ (Ne.symm h1),set_comm (α:=Option V) _ _ (Ne.symm h1)]at r5;show#[v,u,rfl,n _ _ F2 H1 B (KP.trans (KP.set h6) (KP.set h5)) (s1.trans s2) r5]
 |[],_,_,_,B=>show B.elim
 |[_],_,_,_,B=>show B.elim
 |[_,_],[],O,_,_=>show O.elim
 |[_,_],[_],O,_,_=>show O.2.elim
 |[_,_],_::_::_::_,O,_,_=>show O.2.2.elim
 |_::_::_::_,_,_,_,B=>show B.elim
end FL
namespace FL
open PySem PySem.W PyProof.Rows
def cH(n:Nat)(rk:Nat->Int){α:Type}:KasT α->(α->Prop)->Prop
 |.ret a,P=>P a
 |.ask i j k,P=>i<n/\j<n/\cH n rk (k ↥(rk i<rk j)) P
def EO:∀{t:KasT α},cH n rk t (λa=>cH n rk (f a) P)->cH n rk (t.bind f) P
 |.ret _,h=>h
 |.ask _ _ _,h=>#[h.1,h.2.1,EO h.2.2]
def kA(rk:Nat->Int)(p:Array Nat)(k:Nat):Int:=rk ((p[k]?).getD 0)
def Dq(p:Array Nat)(k:Nat):rk (p.getD k 0)=kA rk p k:=by unfold kA;rw[Array.getD_eq_getD_getElem?]
def jA(n:Nat)(p:Array Nat):Prop:=p.size=n/\∀k,p.getD k 0<n
def mO(rk:Nat->Int)(p:Array Nat)(m:Nat):Prop:=∀a b,a<=b->b<m->kA rk p a<=kA rk p b
def yG(rk:Nat->Int)(p:Array Nat)(m:Nat):Prop:=∀a b,a<=b->b<m->kA rk p b<=kA rk p a
def Fv(h:jA n q)(B:p.Perm q)(hn:0<n):jA n p:=by
 show#[B.size_eq.trans h.1,λk=>?_];rw[Array.getD_eq_getD_getElem?];cases e:p[k]? with
 |none=>show hn
 |some x=>have F:x∈q:=B.mem_iff.mp (Array.mem_of_getElem? e);let#[j,G,J]:=Array.getElem_of_mem F;let:=h.2 j;simp_all
def HB(B:jA n p):∀(f m:Nat),1<=m->mO rk p m->(∀m',m<=m'->m'<=m+f->mO rk p m'->(m'<m+f->kA rk p m'<kA rk p (m'-1))->P m')->cH n rk (kas_asc p f m) P
 |0,m,_,hs,h=>h m (q9 _) (q9 _) hs λz=>absurd z ∅
 |f+1,m,h1,hs,h=>by
  show#[B.2 m,B.2 (m-1),?_];rw[Dq (rk:=rk),Dq (rk:=rk)];by_cases F:kA rk p m<kA rk p (m-1)
  .rw[qQ F];show h m (q9 _) ∅ hs λ_=>F
  .rw[qR F];show HB B f (m+1) ∅ (λa b J Y=>?_) λm' h2 h3 O M=>h m' ∅ ∅ O λz=>M ∅;by_cases G:b<m
   .show hs a b J G
   .let:b=m:=by lia
    by_cases L:a=b
    .rw[L];show Int.le_refl _
    .let:=hs a (b-1) ∅ ∅;lia
def Ig(F:jA n p)(hs:mO rk p k):∀(f l r:Nat),l<=r->r<=k->r-l<=f->(∀a,a<l->kA rk p a<=kA rk p k)->(∀a,r<=a->a<k->kA rk p k<kA rk p a)->
  (∀B,B<=k->(∀a,a<B->kA rk p a<=kA rk p k)->(∀a,B<=a->a<k->kA rk p k<kA rk p a)->P B)->cH n rk (kas_place p k f l r) P
 |0,l,r,h1,h2,h3,h4,h5,h=>by
  let:l=r:=∅
  subst this;show h l h2 h4 h5
 |f+1,l,r,h1,h2,h3,h4,h5,h=>by
  unfold kas_place;by_cases G:l≥r
  .rw[qZ G];let:l=r:=by lia
   subst this;show h l h2 h4 h5
  .rw[q8 G];show#[F.2 k,F.2 _,?_];rw[Dq (rk:=rk),Dq (rk:=rk)];by_cases J:kA rk p k<kA rk p ((l+r)/2)
   .rw[qQ J];show Ig F hs f l ((l+r)/2) ∅ ∅ ∅ h4 (λa L M=>?_) h;let:=hs _ a L M;lia
   .rw[qR J];show Ig F hs f ((l+r)/2+1) r ∅ h2 ∅ (λa L=>?_) h5 h;let:=hs a ((l+r)/2) ∅ ∅;lia
def LJ(B:k<p.size)(F:d<=k)(j:Nat):kA rk (bubble p k d) j=if j=k-d then kA rk p k else if k-d<j/\j<=k then kA rk p (j-1)else kA rk p j:=by unfold kA;rw[getElem?_bubble B d F j];grind
def JH(hn:0<n):∀(f:Nat)(p:Array Nat)(k:Nat),jA n p->mO rk p k->k+f<=n->(∀F,F.Perm p->jA n F->mO rk F (k+f)->P F)->cH n rk (kas_bin f p k) P
 |0,p,k,hr,hs,_,h=>h p (Array.Perm.refl _) hr hs
 |f+1,p,k,hr,hs,hk,h=>by
  show EO (Ig hr hs k 0 k (zero_le _) (q9 _) ∅ (λa z=>absurd z ∅) (λa z1 z2=>absurd z1 ∅) λl hl h1 h2=>?_);let G:k<p.size:=by rw[hr.1];lia
  let hp:=bubble_perm p k (k-l);show JH hn f _ (k+1) (Fv hr hp hn) (λa b O hb=>?_) ∅ λF q1 q2 q3=>h F (q1.trans hp) q2 (by rw[show k+(f+1)=k+1+f by lia];show q3);rw[LJ G ∅,LJ G ∅];let Y:k-(k-l)=l:=∅
  rw[Y];by_cases ha:a=l
  .rw[qZ ha];by_cases B:b=l
   .rw[qZ B];show Int.le_refl _
   .rw[q8 B];let:=h2 (b-1) ∅ ∅;lia
  .rw[q8 ha];by_cases L:l<a/\a<=k
   .rw[qZ L,q8 ∅,qZ #[∅,∅]];show hs (a-1) (b-1) ∅ ∅
   .rw[q8 L];let M:a<l:=by lia
    by_cases B:b=l
    .rw[qZ B];show h1 a M
    .rw[q8 B];by_cases J:l<b/\b<=k
     .rw[qZ J];show hs a (b-1) ∅ ∅
     .rw[q8 J];show hs a b O ∅
def Fd(B:j<=p.size)(k:Nat):kA rk (kas_rev p i j) k=if i<=k/\k<j then kA rk p (i+j-1-k)else kA rk p k:=by
 unfold kA kas_rev;rw[getElem?_mirror_all B];by_cases h:i<=k/\k<j
 .rw[qZ h,qZ h]
 .rw[q8 h,q8 h]
def EB(p:Array Nat)(i j:Nat):(kas_rev p i j).Perm p:=mirror_perm ..
def Ii(hn:0<n):∀(f:Nat)(p:Array Nat)(m q:Nat),jA n p->yG rk p m->m+f<=n->q+1<=m->(∀a,m-(q+1)<=a->a<m->kA rk p a=kA rk p (m-1))->
  (∀B m' F,B.Perm p->jA n B->yG rk B m'->m'<=m+f->m<=m'->F+1<=m'->(∀a,m'-(F+1)<=a->a<m'->kA rk B a=kA rk B (m'-1))->P (B,m',F))->cH n rk (kas_desc f p m q) P
 |0,p,m,q,hr,hd,_,hq,he,h=>h p m q (Array.Perm.refl _) hr hd (q9 _) (q9 _) hq he
 |f+1,p,m,q,hr,hd,hm,hq,he,h=>by
  unfold kas_desc;show#[hr.2 m,hr.2 (m-1),?_];rw[Dq (rk:=rk),Dq (rk:=rk)];by_cases hc:kA rk p m<kA rk p (m-1)
  ·(rw[qQ hc];dsimp only;rw[qZ rfl])
   have go:∀M:Array Nat,M.Perm p->(∀k,kA rk M k=kA rk p k)->cH n rk (kas_desc f M (m+1) 0) P:=by
    intro M hp G;show Ii hn f M (m+1) 0 (Fv hr hp hn) (λa b L hb=>?_) ∅ ∅ (λa h1 h2=>?_) λB m' F g1 g2 g3 g4 g5 g6 g7=>h B m' F (g1.trans hp) g2 g3 ∅ ∅ g6 g7
    .rw[G,G];by_cases J:b<m
     .show hd a b L J
     .let:b=m:=by lia
      by_cases ha:a=b
      .rw[ha];show Int.le_refl _
      .let:=hd a (b-1) ∅ ∅;lia
    .let:a=m+1-1:=by lia
     rw[this]
   by_cases O:q>0
   .rw[qZ O];show go _ (EB ..) λk=>?_;rw[Fd (by rw[hr.1];lia)];by_cases G:m-(q+1)<=k/\k<m
    .rw[qZ G,he k G.1 G.2,he _ ∅ ∅]
    .rw[q8 G]
   .rw[q8 O];show go p (Array.Perm.refl _) λ_=>rfl
  ·(rw[qR hc];dsimp only;rw[q8 qW])
   show#[hr.2 (m-1),hr.2 m,?_];rw[Dq (rk:=rk),Dq (rk:=rk)];by_cases Y:kA rk p (m-1)<kA rk p m
   ·(rw[qQ Y];dsimp only;rw[qZ rfl])
    show h p m q (Array.Perm.refl _) hr hd ∅ (q9 _) hq he
   ·(rw[qR Y];dsimp only;rw[q8 qW])
    let h3:kA rk p m=kA rk p (m-1):=∅
    show Ii hn f p (m+1) (q+1) hr (λa b L hb=>?_) ∅ ∅ (λa h1 h2=>?_) λB m' F g1 g2 g3 g4 g5 g6 g7=>h B m' F g1 g2 g3 ∅ ∅ g6 g7
    .by_cases J:b<m
     .show hd a b L J
     .let:b=m:=by lia
      by_cases ha:a=b
      .rw[ha];show Int.le_refl _
      .let:=hd a (b-1) ∅ ∅;lia
    .show kA rk p a=kA rk p m;by_cases ha:a=m
     .rw[ha]
     .rw[h3];show he a ∅ ∅
def OU(B:m<=p.size)(F:yG rk p m):mO rk (kas_rev p 0 m) m:=λa b J G=>by rw[Fd B,Fd B,qZ #[zero_le _,∅],qZ #[zero_le _,G]];show F _ _ ∅ ∅
def KM(hn:0<n)(G:jA n p)(M:yG rk p m)(h1:1<=m)(L:m<=n)
  (h:∀m' F,F.Perm p->jA n F->m<=m'->m'<=n->mO rk F m'->P (m',F)):cH n rk (kas_tail3 m n p) P:=by
 let J:=OU (by rw[G.1];show L) M;let B:=Fv G (EB p 0 m) hn;show EO (HB B (n-m) m h1 J λm' Y g2 O _=>h m' _ (EB ..) B Y ∅ O)
def LG(hn:0<n)(hr:jA n p)(hd:yG rk p (m+1))(h1:1<=m)(hm:m+1<=n)
  (h:∀m' B,B.Perm p->jA n B->1<=m'->m'<=n->mO rk B m'->P (m',B)):cH n rk (kas_descPart m n p) P:=by
 show EO (Ii hn (n-(m+1)) p (m+1) 0 hr hd ∅ ∅ (λa O G=>by rw[show a=m+1-1 by lia]) λB m' J O G g3 g4 g5 g6 g7=>?_);by_cases hq:J>0
 .rw[qZ hq];let F:∀k,kA rk (kas_rev B (m'-(J+1)) m') k=kA rk B k:=λk=>by
   rw[Fd (by rw[G.1];lia)];by_cases F:m'-(J+1)<=k/\k<m'
   .rw[qZ F,g7 k F.1 F.2,g7 _ ∅ ∅]
   .rw[q8 F]
  show KM hn (Fv G (EB ..) hn) (λa b M hb=>by rw[F,F];show g3 a b M hb) ∅ ∅ λm2 L e1 e2 e3 e4 Y=>h m2 L (e1.trans ((EB ..).trans O)) e2 ∅ e4 Y
 .rw[q8 hq];show KM hn G g3 ∅ ∅ λm2 L e1 e2 e3 e4 Y=>h m2 L (e1.trans O) e2 ∅ e4 Y
def SR(hn:2<=n)(B:jA n p)(h:∀m' J,J.Perm p->jA n J->1<=m'->m'<=n->mO rk J m'->P (m',J)):cH n rk (kas_count n p) P:=by
 show EO (HB B (n-1) 1 (q9 _) (λa b G hb=>by rw[show a=b by lia];show Int.le_refl _) λm M g2 L g4=>?_);by_cases O:(m==n)=true
 .rw[qZ O];show h m p (Array.Perm.refl _) B M ∅ L
 .rw[q8 O];by_cases F:m>1
  .rw[qZ F];show#[B.2 0,B.2 (m-1),?_];rw[Dq (rk:=rk),Dq (rk:=rk)];by_cases Y:kA rk p 0<kA rk p (m-1)
   ·(rw[qQ Y];dsimp only;rw[qZ rfl])
    show h m p (Array.Perm.refl _) B M ∅ L
   ·(rw[qR Y];dsimp only;rw[q8 qW])
    let h1:∀a,a<m->kA rk p a=kA rk p (m-1):=λa ha=>by let e1:=L 0 a (zero_le _) ha;let e2:=L a (m-1) ∅ ∅;lia
    let hk:∀k,kA rk (kas_rev p 0 m) k=kA rk p k:=λk=>by rw[Fd (by rw[B.1];lia)];grind
    show LG ∅ (Fv B (EB ..) ∅) (λa b G hb=>?_) M ∅ λm2 p2 e1 e2 e3 e4 e5=>h m2 p2 (e1.trans (EB ..)) e2 e3 e4 e5;grind
  .rw[q8 F];let:m=1:=by lia
   subst this;show LG ∅ B (λa b G hb=>?_) (q9 _) ∅ h;grind
def RT(hn:0<n):jA n (List.range n).toArray:=by
 show#[by simp,λk=>?_];by_cases B:k<n
 .simp[B]
 .simp[B];show hn
def Qd(hn:2<=n)(h:∀p,p.Perm (List.range n).toArray->mO rk p n->P p):cH n rk (kas_sort n) P:=by
 show EO (SR hn (RT ∅) λm p J O g3 g4 G=>?_);let B:max m 1=m:=∅
 rw[B];by_cases F:m<n
 .rw[qZ F];show JH ∅ (n-m) p m O G ∅ λM Y e2 L=>h M (Y.trans J) (by rw[show m+(n-m)=n by lia]at L;show L)
 .rw[q8 F];let:m=n:=by lia
  subst this;show h p J G
end FL
namespace FL
open PySem PySem.Spec PyProof.Rows L2
def Jp{h:Heap}(x:h.Ns a m)(y:h.Ns a m'):m=m':=by let#[o,es,ep,e,d,_,f]:=x;let#[o',B,F,J,L,_,G]:=y;grind
section
open PySem.W HT
def Ml{P:α->Prop}{R:α->Shared->Prop}(B:∀i j(C:Bool->Shared->Prop),i<n->j<n->C ↥(rk i<rk j) s->kas_ask prog w A κ vs i j C s):
  ∀(t:KasT α),cH n rk t P->(∀a,P a->R a s)->t.kasWp (kas_ask prog w A κ vs) R s
 |.ret a,h,q=>q a h
 |.ask i j k,h,q=>B i j _ h.1 h.2.1 (Ml B (k _) h.2.2 q)
def rest(h₀:Heap)(L:Addr)(h:Heap):List (Addr×Obj):=(List.range h.objs.size).filterMap λb=>if b=L then none else if(h₀.get? b).isSome then none else(h.get? b).map λo=>(b,o)
theorem zbM:p∈rest h₀ L h↔h.get? p.1=⇑p.2/\p.1≠L/\h₀.get? p.1=none:=by
 unfold rest;rw[mem_filterMap];constructor
 .rintro⟨b,_,e⟩;by_cases h1:b=L
  .rw[qZ h1]at e;cases e
  .rw[q8 h1]at e;cases h2:h₀.get? b with
   |some o=>rw[h2]at e;cases e
   |none=>rw[h2]at e;let#[o,B,F]:=qX.mp e;cases F;show#[B,h1,h2]
 .rintro⟨B,F,G⟩;show#[p.1,qI.mpr (qe B),?_];rw[q8 F,G,B];rfl
end
end FL
namespace FL
open PySem PySem.Spec PyProof.Rows L2
open HT
section
variable{K:W.Frag}
def TQ{α:Type}(d:α):∀l:List α,(List.range l.length).map (λi=>l.getD i d)=l:=λl=>by show List.ext_getElem (by simp) λi h1 h2=>?_;simp[h2]
end
end FL
namespace FL
open PySem PySem.Spec PyProof.Rows L2
def Qm{vs:List Value}(few:vs.length<2):(vs.toArray.zip vs.toArray).map (·.2)=vs.toArray:=by rw[List.zip_toArray,List.map_toArray,List.map_snd_zip (q9 _)]
def KY(G:s.heap.get? a=⇑(seqObj "list" vs.toArray n))(few:vs.length<2)
  (k:P (.done (.ret .none)) {s with heap:=sortedHeap s.heap a vs vs.toArray}):wpAny (model prog w) A (Builtin.«list.sort» ⟨[.ref a],[]⟩) P E s:=by
 rw[list_sort_plain];let B:vs.toArray.size<2:=few;let J:∃e,(s.heap.update a (Obj.mapSeq λ_=>#[])).get? a=⇑(seqObj "list" #[] e):=#[_,get?_update_seq G _]
 obtain⟨e,mid⟩:=J;let F:(((s.heap.update a (Obj.mapSeq λ_=>#[])).push (seqObj "tuple" vs.toArray 0)).push (seqObj "list" #[] 0)).get? a=⇑(seqObj "list" #[] e):=
  qc _ (qc _ mid)
 show qa (listItems_at G rfl (qa (listUpdate_at G rfl (qa (seqEpoch_at mid rfl (qa (wpAny_newTuple (qa (wpAny_newList (zp ?_))))))))));dsimp only;rw[qZ B,qZ B];show qa (qb (?_:wpAny _ _ _ _ _ _));let L:(arrOf (SortSt.mk' general' (vs.toArray.zip vs.toArray) #[] 7 none)).map (·.2)=vs.toArray:=by show Qm few
 show qa (qb (?_:wpAny _ _ _ _ _ _));rw[L];show qa (seqEpoch_at F rfl (qa (listUpdate_at F rfl ?_ (hsz2:=by rw[zm];lia))));simp;show qb k
def Tn(F:s.heap.IsList l vs.toArray)(few:vs.length<2)
  (k:Q (.ref (s.heap.objs.size+1)) {s with heap:=sortedAll s.heap vs vs.toArray}):wpAny (model prog w) A (call (.builtin "sorted") [.ref l]) Q E s:=by
 show Calls.call_function_entry kind_sorted plain_sorted entry_sorted (args_sorted1 _) (?_:wpAny _ _ _ _ _ _);show qa (m:=checkCount "sorted" 1 1 _) (qb (qa (collect_list F (qa (wpAny_newList ?_)))));generalize B:((s.heap.push (seqObj "list" #[] 0)).update s.heap.objs.size (Obj.mapSeq (·++vs.toArray)))=h1;let z:h1.objs.size=s.heap.objs.size+1:=by rw[<-B,Heap.size_update,size_push']
 let new:(h1.push (seqObj "list" vs.toArray 0)).get? (s.heap.objs.size+1)=⇑(seqObj "list" vs.toArray 0):=z▸qd _ rfl;rw[z];show qa (zp (zl slot_list_sort #[_,new,rfl] entry_list_sort (KY new few #[_,rfl,?_]) (args_list_sort _)));subst B;show qb #[_,rfl,k]
section
variable{K:W.Frag}
def sJ(K:W.Frag):List V->Hp->VK->Prop:=λxs H Q=>∃a ys,xs=[.ref a]/\bM K H a ys/\ys.length<2/\∀q,H q=none->Q (.ref q) (upd H q (.lst ys))
def Uj:aR X (.builtin "sorted") (sJ X.K):=by
 intro zT s Z H xs O Q I r h;let#[a,ys,rfl,L,h2,q]:=h;cases r with
 |cons G F=>cases F;cases G;let#[B,r,J,_]:=I.list L;show Tn J.isList (by rw[<-r.length];show h2) ?_;let#[e,M]:=sortedAll_at s.heap B B.toArray;show#[.ref (s.heap.objs.size+1),_,I.laid (t':=s.toks) (o:=.lst ys) (λb Y w=>sortedAll_old w) (le_succ _) ?_,rfl,q _ (I.hok.fresh (le_succ _))];show#[by rw[zm];lia,B,e,r,M]
end
end FL
namespace FL
def kM(a b:D):Option Bool:=match b with
 |.str l=>match a with
  |.str x=>⇑(fN l x).isSome
  |_=>none
 |d=>xN a d
def dZ(a b:D):Option Bool:=(kM a b).map (!·)
def dN(a:WE):WE:=λU Q E=>a U (λr B=>zz (give r B) λp=>Q (.v (.sh p.1.toD)) p.2) E
def aw(i:Nat)(w:WS):WS:=λD U=>w {D with nx:=λB=>zz (slot B i) λs=>D.nx (B.set i ⇑(.sh s.toD))} U
mutual
def oB:D->Bool
 |.non=>true
 |.bl _=>true
 |.int i=>↥(-1000000000000<i)&&↥(i<1000000000000)
 |.str l=>l.all λc=>↥(c<1114112)
 |.tup l=>dR l
 |.lst l=>dR l
 |_=>false
def dR:List D->Bool
 |[]=>true
 |d::r=>oB d&&dR r
end
mutual
def vD:D->Nat
 |.int _=>41
 |.str l=>l.length
 |.tup l=>kY l
 |.lst l=>kY l
 |_=>0
def kY:List D->Nat
 |[]=>0
 |d::r=>vD d+1+kY r
end
def bU(p q:D):Option S:=match p,q with
 |.str x,.int n=>if 0<=n/\n<=1000/\x.length<=500 then ⇑(.sh (.str (List.replicate n.toNat x).flatten))else none
 |p,q=>lW p q
end FL
namespace FL
open PySem PySem.Spec PyProof.Rows L2
section
variable{K:W.Frag}
def TZ(x y:Str):Txt.contains x y=(fN x.cps.toList y.cps.toList).isSome:=by
 let h:=OJ x y;unfold Txt.find at h;unfold Txt.contains;cases q:Builtin.Str.occurrences x y 0 x.length 1 with
 |nil=>
  rw[q]at h;cases e:fN x.cps.toList y.cps.toList with
  |none=>rfl
  |some i=>rw[e]at h;let h':(-1:Int)=(i:Int):=h;lia
 |cons i r=>
  rw[q]at h;cases e:fN x.cps.toList y.cps.toList with
  |none=>rw[e]at h;let h':((i:Nat):Int)=-1:=h;lia
  |some i=>rfl
def wK(neg:Bool):R2:=λx y H Q=>∃z u,x=.str z/\y=.str u/\Q (.bl (if neg then !(Txt.contains u z)else Txt.contains u z)) H
def Sj:OpR X (compareOp .NotIn) (wK true):=by intro zT s Z H x y v u Q I F B h;let#[z,t,rfl,rfl,q]:=h;let#[J,rfl]:=F;let#[G,rfl]:=B;show SB.notContains #[.bl _,H,I,rfl,q]
def sQ(K:W.Frag)(neg:Bool):R2:=λx y H Q=>iQ K neg x y H Q\/wK neg x y H Q
def SS(B:X.A.units+32<cLine):OpR X (compareOp .NotIn) (sQ X.K true):=FL.OpR.or (Uh B) Sj
def PU(F:aK K H x p)(B:aK K H y q)(e:kM p q=⇑k)(G:Q (.bl (if neg then !k else k)) H):sQ K neg x y H Q:=by
 unfold kM at e;split at e
 .split at e
  .cases F with
   |str L O=>cases B with
    |str J M=>show .inr #[_,_,rfl,rfl,?_];rw[TZ,L,J,qf e];show G
  .cases e
 .show .inl (Pb F B e G)
def Um:bL K (sQ K true) dZ:=λH x y p q k Q G F e J=>by
 unfold dZ at e;cases B:kM p q with
 |none=>rw[B]at e;cases e
 |some b=>rw[B]at e;let L:(!b)=k:=qf e;subst L;show PU G F B J
def Rel.frzEnd(r:Rel K (U++[⇑s]) (Z++[⇑v]) F G H)(h:U.length=Z.length):∃F',zF F F'/\Rel K (U++[⇑(.sh s.toD)]) (Z++[⇑v]) F' G H:=by let#[u,F',M,J,L,B]:=r.give (i:=U.length) (s:=s) EY;rw[show(U++[⇑s]).set U.length ⇑(S.sh s.toD)=U++[⇑(S.sh s.toD)] from Mk]at B;show#[F',J,B]
end
section
variable{st:Stmt}
def CI(he:FE X e we):FE X e (dN we):=λpn xe hp=>by show PE.imp (he pn xe hp) λZ H Q q=>?_;let#[F,G,U,P,PX,J,hw,L,hx]:=q;show#[F,G,U,_,PX,J,hw,λr h1 v F1 H1 M s1 Y rv=>?_,hx];let#[#[s,B],eg,M]:=Ak M;let#[F2,s2,l2,O]:=Ax (U':=[]) (Z':=[]) Y (Ag Y) rv eg;let#[F3,s3,r3]:=Rel.frzEnd O (Ag O);show L _ B v F3 H1 M (s1.trans (s2.trans s3)) r3 trivial
def ML(h:FS X ks st w):FS X ks st (aw i w):=λpn xe hp=>by show PS.imp (h pn xe hp) λD Z H q=>?_;let#[F,G,U,E,L,hw,n,b,c,r,x]:=q;show#[F,G,U,_,L,hw,λO J F' H' M kp Y B=>?_,b,c,r,x];let#[s,es,M]:=Ak M;let#[v,F2,_,s2,_,r2]:=B.give es;show n _ J F2 H' M kp (Y.trans s2) r2
end
def JG(h1:-1000000000000<i)(h2:i<1000000000000):i.natAbs.log2<40:=by
 let:i.natAbs<2^40:=∅
 by_cases B:i.natAbs=0
 .rw[B];decide
 .show(log2_lt B).mpr this
mutual
theorem RY:∀d:D,oB d=true->lN d=true
 |.non,_=>rfl
 |.bl _,_=>rfl
 |.int i,h=>by let h':(↥(-1000000000000<i)&&↥(i<1000000000000))=true:=h;rw[and_eq_true,qS,qS]at h';let:=JG h'.1 h'.2;show ↥(i.natAbs.log2<1920)=true;rw[qS];lia
 |.str _,_=>rfl
 |.tup l,h=>Ir l h
 |.lst l,h=>Ir l h
 |.dct _ _ _,h=>by cases h
 |.set _,h=>by cases h
 |.exc _ _ _,h=>by cases h
theorem Ir:∀l:List D,dR l=true->dE l=true
 |[],_=>rfl
 |d::r,h=>by rw[dR,and_eq_true]at h;rw[dE,RY d h.1,Ir r h.2];rfl
end
mutual
theorem Uu:∀d:D,oB d=true->(dP d).leavesShort 13=true
 |.non,_=>rfl
 |.bl _,_=>rfl
 |.int i,h=>by let h':(↥(-1000000000000<i)&&↥(i<1000000000000))=true:=h;rw[and_eq_true,qS,qS]at h';let:=int_text_length_le10 (a:=i) (k:=12) ⋯ ∅;simp only[dP,PyData.leavesShort,qS];show(Str.ofString (toString i)).length<=13;rw[PySem.ofString_length];show this
 |.str l,h=>by let h':(l.all λc=>↥(c<1114112))=true:=h;simp only[dP,PyData.leavesShort,qH,qS]at h'⊢;intro c B;let:=h' c ↑B;lia
 |.tup l,h=>by simp only[dP,PyData.leavesShort];show Il l h
 |.lst l,h=>by simp only[dP,PyData.leavesShort];show Il l h
 |.dct _ _ _,h=>by cases h
 |.set _,h=>by cases h
 |.exc _ _ _,h=>by cases h
theorem Il:∀l:List D,dR l=true->PyData.leavesShortAll 13 (cI l)=true
 |[],_=>rfl
 |d::r,h=>by rw[dR,and_eq_true]at h;simp only[cI,PyData.leavesShortAll,and_eq_true];show#[Uu d h.1,Il r h.2]
end
mutual
theorem Us:∀d:D,oB d=true->(dP d).weight<=vD d
 |.non,_=>q9 _
 |.bl _,_=>q9 _
 |.int i,h=>by let h':(↥(-1000000000000<i)&&↥(i<1000000000000))=true:=h;rw[and_eq_true,qS,qS]at h';let:=JG h'.1 h'.2;simp only[dP,PyData.weight,vD];split<;>lia
 |.str l,h=>by simp[dP,PyData.weight,vD]
 |.tup l,h=>by simp only[dP,PyData.weight,vD];show Io l h
 |.lst l,h=>by simp only[dP,PyData.weight,vD];show Io l h
 |.dct _ _ _,h=>by cases h
 |.set _,h=>by cases h
 |.exc _ _ _,h=>by cases h
theorem Io:∀l:List D,dR l=true->PyData.weightAll (cI l)<=kY l
 |[],_=>q9 _
 |d::r,h=>by rw[dR,and_eq_true]at h;let h1:=Us d h.1;let h2:=Io r h.2;simp only[cI,PyData.weightAll,kY];lia
end
section
variable{K:W.Frag}
def Ly(a:Array Nat):∀(n:Nat)(b:Array Nat),((List.replicate n a).foldl (·++·) b).toList=b.toList++(List.replicate n a.toList).flatten
 |0,b=>by simp
 |n+1,b=>by rw[List.replicate_succ,foldl_cons,Ly a n,List.replicate_succ,List.flatten_cons,toList_append,qp]
def Nc(B:0<=n):(Txt.mul x n).cps.toList=(List.replicate n.toNat x.cps.toList).flatten:=by
 unfold Txt.mul;by_cases h1:n<1
 .rw[show n=0 by lia];rfl
 .rw[q8 h1];by_cases h2:(n==1||x.length==0)=true
  .rw[qZ h2];rw[or_eq_true,beq_iff_eq,beq_iff_eq]at h2;rcases h2 with h2|h2
   .subst h2;simp
   .let:x.cps.toList=[]:=by let e:x.cps.size=0:=h2;rw[<-List.length_eq_zero_iff];exact e
    rw[this];simp
  .rw[q8 h2];rw[Ly];simp
def pH:R2:=λx y H Q=>∃z n,x=.str z/\y=.int n/\0<=n/\n<=1000/\z.length<=500/\Q (.str (Txt.mul z n)) H
def Pa:OpR X (binaryOp .Mult) pH:=by
 intro zT s Z H x y v u Q I F B h;let#[z,n,rfl,rfl,Y,h1,G,q]:=h;let#[t,rfl]:=F;let#[L,rfl]:=B;show SB.mul #[?_,λh _=>?_,λh _=>?_] λJ k=>#[.str _,H,I.kept λ_ _ z=>z,#[_,rfl],q]
 .grind
 .let O:(9223372036854775807:Int)/1000<=(2^63-1)/n:=by rw[Int.le_ediv_iff_mul_le ∅];grind
  grind
 .let M:z.length*n.toNat<=500*1000:=mul_le_mul G ∅;simp only[Builtin.Str.tooLong,zm];lia
def SX:gY K (λx y H Q=>(rI mY λi j=>.int (i*j)) x y H Q\/pH x y H Q) bU:=by
 intro Z U F G H x y p q s Q B L J e M;unfold bU at e;split at e
 .rename_i l n;split at e
  .rename_i hc;cases e;let#[O,h1,hz]:=hc;let#[z,rfl,Y,_]:=L.str;let ey:y=.int n:=by
    rcases J with J|⟨_,_,_,_,e,_⟩|⟨_,_,_,_,_,e,_⟩|⟨_,_,_,_,_,e,_⟩
    .cases J;rfl
    .cases e
    .cases e
    .cases e
   subst ey;let h2:z.length=l.length:=by rw[<-Y];rfl
   show .inr #[z,n,rfl,rfl,O,h1,∅,?_];show M _ F H (zF.refl F) (B.push (.str ?_ ?_))
   .rw[Nc O,Y]
   .let h4:n.toNat*l.length<=1000*500:=mul_le_mul ∅ hz;let e5:∀m,((List.replicate m l).flatten).length=m*l.length:=λm=>by simp
    rw[e5];lia
  .cases e
 .show .inl (Ry Z U F G H x y _ _ s Q B L J e M)
def CO(J:FE X a F)(G:FE X b B):FE X (.BinOp a .Mult b pos) (zL bU F B):=EM (λ_ _=>OpR.or Ni Pa) SX J G
end
def dO(K:W.Frag)(f:Addr):FuncData:=match K.lookup f with
 |some ⟨_,_,.func d,_⟩=>d
 |_=>default
def Hb{K:W.Frag}(l:K.lookup f=⇑#[G,F,.func d,B]):dO K f=d:=by unfold dO;rw[l]
inductive Lk(K:W.Frag)(n:Str)(st:Stmt)(f:Addr):Prop
 |mk {oc kV dc pm cd ct:Value} {od an:Option Addr} {sl:Array (Option Value)} (a:W.nsIn K mainGlobals n=some (some (.ref f))) (l:K.lookup f=some ⟨oc,od,.func (W.fnOf n n (cF st) (bB st) (aA st) .none kV dc pm an cd ct),sl⟩)
  (c:W.codeIn K cd n=true) (k:W.keepIn K (.ref f)=true):Lk K n st f
structure Tx(K:W.Frag)(mg:Str->Option Value)(f:Addr)(n:Str)(st:Stmt)(ps:List Str):Prop where
 F:pD K n n st f (dO K f)
 m:mg n=⇑(.ref f)
 k:W.keepIn K (.ref f)=true
 b:Binds K (dO K f) ps []
def js(n:Str)(st:Stmt)(ps:List Str):Prop:=∀(kV B G:Value)(J:Option Addr)(F ct:Value)(us:List Value),us.length=ps.length->bindArgs (W.fnOf n n (cF st) (bB st) (aA st) .none kV B G J F ct) #[us,[]]=pure (ps.zip us)
section
variable{K:W.Frag}{st:Stmt}
def Lk.mm(t:Lk K n st f)(X:K.In h)(G:h.Ns mainGlobals mg):mg n=⇑(.ref f):=by let#[a,l,c,k]:=t;show W.mg_of X G a
def Lk.tx(t:Lk K n st f)(X:K.In h)(G:h.Ns mainGlobals mg)(b:js n st ps:=by intro _ _ _ _ _ _ us B;first|(let#[_,rfl]:=CQ (l:=us) B;rfl)|(let#[_,_,rfl]:=CP (l:=us) B;rfl)|(let#[_,_,_,rfl]:=Ec (l:=us) B;rfl)|(let#[_,_,_,_,rfl]:=Eb (l:=us) B;rfl)|(let#[_,_,_,_,_,rfl]:=FB (l:=us) B;rfl)):Tx K mg f n st ps:=by
 let#[a,l,c,k]:=t;let e:=Hb l;let F:=Jf l c k;show#[?_,W.mg_of X G a,k,?_]
 .rw[e];show F
 .rw[e];show F.binds b
def Lk.bt(t:Lk K n st f)(s:Shared)(v:Value)(b:js n st [x]:=by intro _ _ _ _ _ _ us B;let#[_,rfl]:=CQ (l:=us) B;rfl):BindsTo s (dO K f) #[[v],[]] [(x,v)]:=by let#[a,l,c,k]:=t;let e:=Hb l;rw[e];show .of_eq (b _ _ _ _ _ _ [v] rfl)
end
def AR{N P:List Str}{B:Scope}(a:autoParam (B.kind=.function) rZ9)(b:autoParam (B.isCoroutine=false) rZ9)(c:autoParam (B.isGenerator=false) rZ9)(d:N.Nodup:=by decide+kernel)(e:autoParam (N.take P.length=P) rZ9)(f:∀x∈P,B.names.lookup x=⇑.local\/B.names.lookup x=⇑.cell:=by decide+kernel)(g:∀y∈B.names,y.2≠.free:=by decide+kernel):aC N P B:=#[a,b,c,d,e,f,g]
abbrev fS(P:Program)(w:World)(K:W.Frag)(mg:Str->Option Value)(base:Heap)(af:Nat->Addr)(k i:Nat)(ps:List Str)(sp:Sp):Prop:=dH P w K mg base (fU P w) k (af i) (dO K (af i)) ps sp
def Be{K:W.Frag}{st:Stmt}(t:Tx K mg f x st ps)(Sc:aC N ps (aA st))
  (L:∀(F:Value)(A:Around)(B:List PySem.Env)(s:Shared)(H:Hp)(E:XK),bD k (A.deeper (envOfC x (aA st) s.heap.objs.size f F))->kI (dY (fU P w) P w K mg base N x (aA st) f F A B s H E) ks (bB st) G)(hn:autoParam (ps.length=n) rZ9)(J:autoParam (N.length=m) rZ9):
  dH P w K mg base (fU P w) (k+1) f (dO K f) ps (dB K (eK n m ks G) n):=IV t.F Sc hn J L
section
theorem fw(i:Nat)(J:autoParam (X.N[i]?=⇑x) rZ9)(F:uQ X.env.scope x:=by first|show Or.inl rfl|show Or.inr (Or.inl rfl)|show Or.inr (Or.inr rfl))(G:autoParam ((x==("__debug__":Str))=false) dZ9)
  (B:autoParam ((x==("__classdict__":Str))=false) dZ9):FE X (.Name x pos) (zv i):=OA J F G B
def Am(i:Nat)(B:X.N.Nodup)(G:autoParam (i∉ks) dZ9)(hi:autoParam (X.N[i]?=⇑x) rZ9)(F:Loc X.env.scope x:=by first|show Or.inl rfl|show Or.inr rfl)(L:X.fn x=true\/X.env.scope.names.lookup x=some .local:=by show Or.inl rfl):FG X ks (.Name x pos) (FL.zy i):=Kn G (λj J=>GE B J hi) hi F L
def BX(i:Nat)(G:autoParam (i∉ks) dZ9)(F:(X.N.zipIdx.all λp=>!(p.1==x)||p.2==i)=true:=by kernel_rfl)(hi:autoParam (X.N[i]?=⇑x) rZ9)(B:Loc X.env.scope x:=by first|show Or.inl rfl|show Or.inr rfl)(J:X.fn x=true\/X.env.scope.names.lookup x=some .local:=by first|show Or.inr rfl|show Or.inl rfl):FG X ks (.Name x pos) (FL.zy i):=Kn G (uq F) hi B J
variable{st:Stmt}
def Aq(ms:List Bool)(t:Tx X.K X.mg f x st ps)(Fk:dH X.prog X.w X.K X.mg X.base (fU X.prog X.w) k f (dO X.K f) ps (dB X.K J n))(M:bD j X.A)(ha:FA X (e::es) L)(O:autoParam (k<=j) dZ9)(Y:autoParam (Gl X x) rZ9)(B:∀ss P PX,J ss P PX->ss.length=n:=by show λ_ _ _ h=>h.1)
  (G:autoParam ((x==("__debug__":Str))=false) dZ9)(he:autoParam (starEach (e::es) X.env=(false,eval e X.env)::starEach es X.env) rZ9)(F:autoParam ((backTo pos (starEach es X.env)).any (·.1)=false) rZ9):
  FE X (.Call (.Name x p) (e::es) [] pos) (zN J ms L):=Pn Fk (M.mono O) Y t.m t.k t.b ha B G he F
end
inductive Ci(K:W.Frag)(C Wb f:Addr)(q n:Str)(st:Stmt):Prop
 |mk {dd od an:Option Addr} {nm qn:Str} {bs sub:List Value} {ns:Addr} {sn:List Str} {ab:Bool} {col:Option Bool} {k0 k1 k2 k3 k5:Option Value} {oc kV dc pm cd ct:Value} {sl:Array (Option Value)}
  (a:K.lookup C=⇑(excClassObj nm qn C ns bs (.ref Wb::eV) true sn sub ab col dd k0 k1 k2 k3 k5 hW))
  (i:W.findIn K (.ref C) "__init__"=⇑⇑(.ref f))
  (l:K.lookup f=⇑#[oc,od,.func (W.fnOf "__init__" q (cF st) (bB st) (aA st) .none kV dc pm an cd ct),sl])
  (c:W.codeIn K cd q=true) (k:W.keepIn K (.ref f)=true) (t:W.typeIn K (.ref f)=⇑(.type "function"))
  (s:W.findIn K (.ref C) "__setattr__"=⇑⇑(.builtin "object.__setattr__")) (z:W.findIn K (.ref C) n=⇑none):Ci K C Wb f q n st
structure Ix(K:W.Frag)(C Wb f:Addr)(q n:Str)(st:Stmt)(ps:List Str):Prop where
 e:mW K C Wb f n
 F:pD K "__init__" q st f (dO K f)
 b:Binds K (dO K f) ps []
def Ci.ix{K:W.Frag}{C J f:Addr}{q n:Str}{st:Stmt}{ps:List Str}(t:Ci K C J f q n st)(w:W.excIn K J eV hW=true)
  (b:∀(kV B L:Value)(O:Option Addr)(G ct:Value)(us:List Value),us.length=ps.length->bindArgs (W.fnOf "__init__" q (cF st) (bB st) (aA st) .none kV B L O G ct) #[us,[]]=pure (ps.zip us):=by intro _ _ _ _ _ _ us M;(let#[_,_,rfl]:=CP (l:=us) M;rfl)):Ix K C J f q n st ps:=by
 let#[a,i,l,c,k,t,s,z]:=t;let e:=Hb l;let F:=Jf l c k;show#[#[#[_,_,_,_,_,_,_,_,_,_,_,_,_,_,a],w,i,t,s,z],?_,?_]
 .rw[e];show F
 .rw[e];show F.binds b
end FL
namespace FL
def bT(l:List D):Bool:=l.all bC||l.all (dC true)
open Classical in
def bZ(l:List D)(d:D):List D:=if d∈l then l else l++[d]
def bV(l:List D):List D:=l.foldl bZ []
def newS(l:List D):Option S:=if bT l=true/\l.length<=150 then ⇑(.set (bV l))else none
def kP:List D->Option S
 |[.lst l]=>newS l
 |[.tup l]=>newS l
 |_=>none
def iH:List D->Option S
 |[.set l]=>⇑(.sh (.int l.length))
 |ds=>bE ds
def eY:List Bool->List D->Prop
 |[],[]=>True
 |false::sh,.int _::r=>eY sh r
 |true::sh,.str _::r=>eY sh r
 |_,_=>False
def kG(sh:List Bool):D->Prop
 |.tup l=>eY sh l
 |_=>False
open Classical in
def cQ(l:List D):Option S:=if l.length<64/\(l.length<2\/(gE l).isSome=true\/(cO l).isSome=true\/∃sh,sh≠[]/\∀d∈l,kG sh d)then ⇑(.lst ((eL l).map .sh))else none
def eI:List D->Option S
 |[.lst l]=>cQ l
 |[.set l]=>cQ l
 |_=>none
@[inline]def Kd:D->D->Prop:=λa b=>(∃i j,a=.int i/\b=.int j)\/∃x y,a=.str x/\b=.str y
def DQ(i j:Int):bJ (.int i) (.int j)=if i<j then .lt else if j<i then .gt else .eq:=by rw[bJ]
def DN(x y:List Nat):bJ (.str x) (.str y)=if x<y then .lt else if y<x then .gt else .eq:=by rw[bJ]
def GO(x y:List Nat):x<y\/y<x\/x=y:=by grind
def GN(h:Kd a b):(bJ a b=.lt/\bJ b a=.gt)\/(bJ a b=.gt/\bJ b a=.lt)\/(a=b/\bJ a b=.eq):=by
 rcases h with⟨i,j,rfl,rfl⟩|⟨x,y,rfl,rfl⟩
 .grind[DQ]
 .rw[DN,DN];grind
def Nm(h:Kd a b)(h':Kd b c)(e:bJ a b=.lt)(G:bJ b c=.lt):bJ a c=.lt:=by
 rcases h with⟨i,j,rfl,rfl⟩|⟨x,y,rfl,rfl⟩
 .rcases h' with⟨B,k,h1,rfl⟩|⟨x,y,h1,rfl⟩
  .grind[DQ,Int.lt_trans]
  .cases h1
 .rcases h' with⟨B,k,h1,rfl⟩|⟨F,z,h1,rfl⟩
  .cases h1
  grind[DN,List.lt_trans]
def GT(h:eY sh (a::l))(h':eY sh (b::m)):Kd a b/\∃B,eY B l/\eY B m:=by
 cases sh with
 |nil=>show h.elim
 |cons t sh=>
  cases t
  .cases a<;>first|exact h.elim|skip
   cases b<;>first|show h'.elim|skip
   show#[.inl #[_,_,rfl,rfl],sh,h,h']
  .cases a<;>first|exact h.elim|skip
   cases b<;>first|show h'.elim|skip
   show#[.inr #[_,_,rfl,rfl],sh,h,h']
def Et(h:eY sh [])(h':eY sh m):m=[]:=by
 cases sh with
 |nil=>cases m with
  |nil=>rfl
  |cons _ _=>show h'.elim
 |cons t _=>cases t<;>show h.elim
def QX{sh B:List Bool}{l m:List D}(h:eY sh l)(h':eY B l):sh=B:=by
 induction l generalizing sh B with
 |nil=>
  cases sh with
  |nil=>cases B with
   |nil=>rfl
   |cons t _=>cases t<;>show h'.elim
  |cons t _=>cases t<;>show h.elim
 |cons a l G=>
  cases sh with
  |nil=>show h.elim
  |cons t sh=>cases B with
   |nil=>show h'.elim
   |cons F B=>cases t<;>cases F<;>cases a<;>first|show h.elim|show h'.elim|rw[G h h']
def EZ(a b:D)(l m:List D):aE (a::l) (b::m)=match bJ a b with|.eq=>aE l m|o=>o:=by rw[aE];first|done|(cases bJ a b<;>rfl)
def Ez:∀{sh:List Bool}{l m:List D},eY sh l->eY sh m->(aE l m=.lt/\aE m l=.gt)\/(aE l m=.gt/\aE m l=.lt)\/(l=m/\aE l m=.eq)
 |sh,[],m,h,h'=>by rw[Et h h'];show .inr (.inr #[rfl,by rw[aE]])
 |sh,a::l,[],h,h'=>by cases Et h' h
 |sh,a::l,b::m,h,h'=>by
  let#[k,L,O,M]:=GT h h';rw[EZ,EZ];rcases GN k with⟨F,J⟩|⟨F,J⟩|⟨rfl,F⟩
  .rw[F,J];show .inl #[rfl,rfl]
  .rw[F,J];show .inr (.inl #[rfl,rfl])
  .rw[F];rcases Ez O M with⟨B,G⟩|⟨B,G⟩|⟨rfl,B⟩
   .show .inl #[B,G]
   .show .inr (.inl #[B,G])
   .show .inr (.inr #[rfl,B])
def JR:∀{sh:List Bool}{l m n:List D},eY sh l->eY sh m->eY sh n->aE l m=.lt->aE m n=.lt->aE l n=.lt
 |sh,[],m,n,h,h',h'',e,_=>by rw[Et h h']at e;cases e
 |sh,a::l,[],n,h,h',h'',e,_=>by cases Et h' h
 |sh,a::l,b::m,[],h,h',h'',e,_=>by cases Et h'' h
 |sh,a::l,b::m,c::n,h,h',h'',e,e'=>by
  let#[k,J,k1,Y]:=GT h h';let#[L,G,M,O]:=GT h' h'';let es:J=G:=QX (m:=[]) Y M;subst es;rw[EZ]at e e'⊢;rcases GN k with⟨F,_⟩|⟨F,_⟩|⟨rfl,F⟩
  .rw[F]at e;rcases GN L with⟨B,_⟩|⟨B,_⟩|⟨rfl,B⟩
   .rw[Nm k L F B]
   .rw[B]at e';cases e'
   .rw[F]
  .rw[F]at e;cases e
  .rw[F]at e;rcases GN L with⟨B,_⟩|⟨B,_⟩|⟨rfl,B⟩
   .rw[B]
   .rw[B]at e';cases e'
   .rw[F]at e';rw[F];show JR k1 M O e e'
def DA(h:eY sh l)(h':eY sh m):cV (.tup l) (.tup m)=!(aE m l==.lt):=by
 unfold cV;rw[show bJ (.tup l) (.tup m)=aE l m by rw[bJ]];rcases Ez h h' with⟨B,F⟩|⟨B,F⟩|⟨rfl,B⟩
 .rw[B,F];rfl
 .rw[B,F];rfl
 .rw[B];rfl
def Gk(sh:List Bool):eP (kG sh) where
 tot a b ha hb:=by
  cases a<;>first|show ha.elim|skip
  cases b<;>first|show hb.elim|skip
  rw[DA ha hb,DA hb ha];rcases Ez ha hb with⟨f1,f2⟩|⟨f1,f2⟩|⟨_,f1⟩
  .show .inl (by rw[f2];rfl)
  .show .inr (by rw[f1];rfl)
  .show .inr (by rw[f1];rfl)
 tr a b c ha hb hc:=by
  cases a<;>first|show ha.elim|skip
  cases b<;>first|show hb.elim|skip
  cases c<;>first|show hc.elim|skip
  rw[DA ha hb,DA hb hc,DA ha hc];intro h1 h2;rcases Ez ha hb with⟨f1,f2⟩|⟨f1,f2⟩|⟨rfl,f1⟩
  .rcases Ez hb hc with⟨g1,g2⟩|⟨g1,g2⟩|⟨rfl,g1⟩
   .rcases Ez ha hc with⟨k1,k2⟩|⟨k1,k2⟩|⟨rfl,k1⟩
    .rw[k2];rfl
    .rw[JR ha hb hc f1 g1]at k1;cases k1
    .rw[k1];rfl
   .rw[g2]at h2;cases h2
   .show h1
  .rw[f2]at h1;cases h1
  .show h2
 anti a b ha hb:=by
  cases a<;>first|show ha.elim|skip
  cases b<;>first|show hb.elim|skip
  rw[DA ha hb,DA hb ha];intro h1 h2;rcases Ez ha hb with⟨f1,f2⟩|⟨f1,f2⟩|⟨rfl,f1⟩
  .rw[f1]at h2;cases h2
  .rw[f2]at h1;cases h1
  .rfl
section
variable{ι κ:Type}[DecidableEq κ](g:ι->κ)
def bP(l:List ι)(i:ι):List ι:=if g i∈l.map g then l else l++[i]
def iA(l:List ι):List ι:=l.foldl (bP g) []
def Rk{f:ι->D}(h:∀i j,f i=f j↔g i=g j)(l:List ι)(i:ι):bZ (l.map f) (f i)=(bP g l i).map f:=by unfold bZ bP;grind
def JQ{f:ι->D}(h:∀i j,f i=f j↔g i=g j)(l:List ι):bV (l.map f)=(iA g l).map f:=by
 suffices ∀B:List ι,(l.map f).foldl bZ (B.map f)=(l.foldl (bP g) B).map f from this []
 induction l with
 |nil=>show λ_=>rfl
 |cons i l F=>intro B;rw[qy,foldl_cons,Rk g h];show F _
def Lf{l:List ι}{k:Nat}(h:k<l.length):iA g (l.take (k+1))=bP g (iA g (l.take k)) l[k]:=by unfold iA;rw[List.take_add_one,qh h,List.foldl_append];rfl
def Fj:∀{l B:List ι}{i:ι},i∈l.foldl (bP g) B->i∈B\/i∈l
 |[],_,_,h=>.inl h
 |j::l,B,i,h=>by
  rw[foldl_cons]at h;rcases Fj h with z|z
  .unfold bP at z;split at z
   .show .inl z
   .rcases qx.mp z with z|z
    .show .inl z
    .show .inr (qA.mpr (.inl (qu.mp z)))
  .show .inr (qk _ z)
def Fm:∀(l B:List ι),(l.foldl (bP g) B).length<=B.length+l.length
 |[],_=>q9 _
 |j::l,B=>by
  rw[foldl_cons];let h1:=Fm l (bP g B j);let h2:(bP g B j).length<=B.length+1:=by
   unfold bP;split
   .lia
   .rw[qq];show q9 _
  rw[qt];lia
end
def QS:x∈bZ l d↔x∈l\/x=d:=by
 unfold bZ;split
 .rename_i h;show#[.inl,λz=>z.elim id λe=>e▸h]
 .rw[qx,qu]
theorem zhN:x∈bV l↔x∈l:=by
 suffices ∀B:List D,x∈l.foldl bZ B↔x∈B\/x∈l from(this []).trans (by simp)
 induction l with
 |nil=>show λ_=>by simp
 |cons i l F=>intro B;rw[foldl_cons,F,QS,qA,or_assoc]
def Ts(h:l.Nodup):(bZ l d).Nodup:=by
 unfold bZ;split
 .show h
 .rename_i z;show qw.mpr #[h,by simp,λa F b B=>by rw[qu.mp B];show λe=>z (e▸F)]
def Ux(l:List D):(bV l).Nodup:=by
 suffices ∀B:List D,B.Nodup->(l.foldl bZ B).Nodup from this [] .nil
 induction l with
 |nil=>show λ_ h=>h
 |cons i l F=>show λB h=>F _ (Ts h)
def PL(l:List D)(d:D):(bZ l d).length<=l.length+1:=by
 unfold bZ;split
 .lia
 .rw[qq];show q9 _
def Sk(l:List D):(bV l).length<=l.length:=by
 unfold bV
 suffices ∀B:List D,(l.foldl bZ B).length<=B.length+l.length by simpa using this []
 induction l with
 |nil=>show λ_=>q9 _
 |cons i l F=>grind[foldl_cons,length_cons,bZ,PL]
end FL
namespace FL
open PySem PySem.Spec PyProof.Rows L2
def Gp(h:kV a=kV b):a=b:=by cases a<;>cases b<;>cases h<;>rfl
def Gu:∀{a b:List aP},a.map kV=b.map kV->a=b
 |[],[],_=>rfl
 |[],_::_,h=>by cases h
 |_::_,[],h=>by cases h
 |x::a,y::b,h=>by
  injection h with h1 h2
  rw[Gp h1,Gu h2]
def Hy(h:zJ (kV k) u):u.scannable=true:=by
 cases k with
 |inl i=>let#[t,rfl]:=h;rfl
 |inr x=>let#[t,rfl]:=h;rfl
def Mi{α β:Type}{f:α->β}(F:∀a b,f a=f b->a=b){l m:List α}(h:(l.map f).Perm (m.map f)):l.Perm m:=by
 induction l generalizing m with
 |nil=>simp_all
 |cons a l B=>let#[b,G,e]:=qJ.mp (h.mem_iff.mp (by simp:f a∈(a::l).map f));let:=F _ _ e;subst this;let#[m1,m2,rfl]:=append_of_mem G;show(List.Perm.cons b (B ?_)).trans perm_middle.symm;rw[map_append];rw[map_append,qy]at h;show(h.trans perm_middle).cons_inv
def uU(H:Hp)(vs:List V)(y:V)(b:Bool):Prop:=
 (∃(ks:List aP)(k:aP),vs=ks.map kV/\y=kV k/\(b=true↔k∈ks))\/
 ∃(ps:List (List aP×Addr))(k:List aP)(c:Addr),vs=ps.map (λp=>V.ref p.2)/\(∀p∈ps,H p.2=⇑(.tup (p.1.map kV)))/\y=.ref c/\H c=⇑(.tup (k.map kV))/\(b=true↔k∈ps.map (·.1))
def EU(I:Inv X zT Z H s)(e:H a=⇑(.set vs)):s.TypeIs (.ref a) "set":=by
 rcases I.hok a _ e with⟨_,⟨_,h1⟩|⟨_,_,_,o,_,_,_,h1,h2,_⟩|⟨_,_,_,_,o,_,_,_,h1,h2,_⟩⟩
 .show#[_,h1,rfl]
 .show#[o,h1,h2.1]
 .show#[o,h1,h2.1]
def JS(I:Inv X zT Z H s){ks:List aP}(e:H a=⇑(.set vs))(F:vs=ks.map kV):∃xs:List (aP×Value),ks.Perm (xs.map (·.1))/\ST.VSet (ST.ldOf X.w) (aG X.prog X.w) s.heap a xs:=by
 rcases I.hok a _ e with⟨_,⟨G,h1⟩|⟨_,xs,p,V⟩|⟨B,xs,p,_,_⟩⟩
 .let:ks=[]:=by rw[G]at F;simpa using F.symm
  subst this;show#[[],.refl _,ST.vset_new h1]
 .show#[xs,Mi (λ_ _=>Gp) ?_,V];rw[F]at p;rw[qD];show p
 .exfalso;cases vs with
  |nil=>show B rfl
  |cons v vs=>grind[mem_map,mem_cons_self,kV]
def ON(I:Inv X zT Z H s){ps:List (List aP×Addr)}(e:H a=⇑(.set vs))(F:vs=ps.map (λp=>V.ref p.2))(J:∀p∈ps,H p.2=⇑(.tup (p.1.map kV))):∃xs,ps.Perm xs/\ST.TSet (ST.ldOf X.w) (tupleKind (aG X.prog X.w)) s.heap a xs:=by
 rcases I.hok a _ e with⟨_,⟨h0,h1⟩|⟨L,xs,p,_⟩|⟨_,xs,p,M,T⟩⟩
 .let:ps=[]:=by rw[h0]at F;simpa using F.symm
  subst this;show#[[],.refl _,ST.tset_new h1]
 .exfalso;cases vs with
  |nil=>show L rfl
  |cons v vs=>
   let#[q,_,Y]:=qJ.mp (p.mem_iff.mp qm);let h1:v∈ps.map (λp=>V.ref p.2):=by rw[<-F];show qm
   let#[k,_,O]:=qJ.mp h1;rw[<-Y]at O;cases q with
   |mk q _=>cases q<;>cases O
 .show#[xs,?_,T.full λx G=>EL I.hok (M x G)];rw[F]at p
  --an address tells zX tuple
  let q:(ps.map (·.2)).Perm (xs.map (·.2)):=Mi (f:=V.ref) (λ_ _ h=>by cases h;rfl) (by rw[qD,qD];show p)
  letI f:Addr->List aP×Addr:=λb=>(Classical.epsilon λks:List aP=>H b=⇑(HO.tup (ks.map kV)),b)
  let hf:∀p:List aP×Addr,H p.2=⇑(.tup (p.1.map kV))->f p.2=p:=λp h=>by let e:H p.2=⇑(.tup ((Classical.epsilon λks:List aP=>H p.2=⇑(HO.tup (ks.map kV))).map kV)):=Classical.epsilon_spec (p:=λks:List aP=>H p.2=⇑(HO.tup (ks.map kV))) #[p.1,h];grind[Prod.ext,Gu]
  let B:∀l:List (List aP×Addr),(∀p∈l,H p.2=⇑(.tup (p.1.map kV)))->(l.map (·.2)).map f=l:=λl h=>by rw[qD];show(map_congr_left λp J=>hf p (h p J)).trans (map_id _)
  let:=q.map f;rwa[B ps J,B xs M]at this
def MF(hu:A.units<cLine)(I:Inv X zT Z H s)(e:H a=⇑(.set vs))(hz:vs.length<=150)(g:uU H vs y b)(ry:zJ y u)
  (h:∀s' r,Inv X zT Z (if b then H else upd H a (.set (vs++[y]))) s'->Q r s'):wpAny (model X.prog X.w) A (setAdd a u) Q E s:=by
 rcases g with⟨ks,k,G,rfl,L⟩|⟨ps,k,c,G,hp,rfl,hc,L⟩
 .obtain⟨xs,B,S⟩:=JS I e G;let hl:xs.length<=150:=by let:=B.length_eq;rw[qo]at this;rw[G,qo]at hz;lia
  show ST.setAddV (Fc ry) (Hy ry) S hl (λF r=>h _ r ?_) λF h' ys Y O M r=>h _ r ?_
  .rw[qZ (L.mpr (B.mem_iff.mpr F))];show I.kept λ_ _ z=>z
  .rw[q8 λz=>F (B.mem_iff.mp (L.mp z))];show JD I (by rw[e];show True.intro) Y (let⟨o,_,_,_,ho,_⟩:=M;#[o,ho]) #[by rw[qq];show Nat.add_le_add_right hz 1,.inr (.inl #[by simp,ys,?_,M])];rw[G];let p1:=O.map (λp:aP×Value=>kV p.1);show(qM.trans ?_).trans p1.symm;show List.Perm.cons _ ?_;let:=B.map kV;rw[qD]at this;show this
 .cases(show u=Value.ref c from ry);let#[xs,B,S]:=ON I e G hp;let hl:xs.length<=150:=by let:=B.length_eq;rw[G,qo]at hz;lia
  show ST.setAddT hu (EL I.hok hc) S hl (λF tk r _=>h _ r ?_) λF h' ys tk r Y O M _=>h _ r ?_
  .rw[qZ (L.mpr ((B.map _).mem_iff.mpr F))];show I.kept λ_ _ z=>z
  .rw[q8 λz=>F ((B.map _).mem_iff.mp (L.mp z))];let J:∀d xs,H d=⇑(.tup xs)->upd H a (.set (vs++[V.ref c])) d=⇑(.tup xs):=λd xs z=>by rw[Aj (MQ z e (λw=>nomatch w))];exact z
   show JD I (by rw[e];show True.intro) Y (let⟨o,_,_,_,ho,_⟩:=M;#[o,ho]) #[by rw[qq];show Nat.add_le_add_right hz 1,.inr (.inr #[by simp,ys,?_,λp h1=>?_,M.raw])]
   .rw[G];let p1:=O.map (λp:List aP×Addr=>V.ref p.2);show(qM.trans ?_).trans p1.symm;show List.Perm.cons _ (B.map _)
   .rcases qA.mp (O.mem_iff.mp h1)with rfl|z
    .show J _ _ hc
    .show J _ _ (hp p (B.mem_iff.mpr z))
section
variable{K:W.Frag}
def tK(p:List aP×Addr):D:=.tup (p.1.map aY)
theorem zcr{a b:List aP}:D.tup (a.map aY)=D.tup (b.map aY)↔a=b:=#[λh=>by injection h with h;show Ih h,λh=>by rw[h]]
def Kp(r:aK K F x d)(h:dC true d=true):∃p:List aP×Addr,x=.ref p.2/\d=tK p/\F p.2=⇑(.tup (p.1.map kV)):=by
 cases r with
 |tup e r=>let#[ks,rfl,rfl]:=Fp r h;show#[(ks,_),rfl,rfl,e]
 |_=>cases h
def HL(r:zR K F xs l):l.all (dC true)=true->∃ps:List (List aP×Addr),xs=ps.map (λp=>V.ref p.2)/\l=ps.map tK/\∀p∈ps,F p.2=⇑(.tup (p.1.map kV)):=
 zR.ind (P:=λxs l=>l.all (dC true)=true->∃ps:List (List aP×Addr),xs=ps.map (λp=>V.ref p.2)/\l=ps.map tK/\∀p∈ps,F p.2=⇑(.tup (p.1.map kV))) (λ_=>#[[],rfl,rfl,λ_ z=>nomatch z]) (λa _ B h=>by
  rw[all_cons,and_eq_true]at h;let#[p,rfl,rfl,e]:=Kp a h.1;let#[ps,rfl,rfl,es]:=B h.2;show#[p::ps,rfl,rfl,λq G=>?_];rcases qA.mp G with rfl|z
  .show e
  .show es q z) r
def Rq(h:slot U n=⇑s):U.set n ⇑s=U:=by
 let h':=IC h;apply ext_getElem?;intro j;by_cases B:n=j
 .subst B;rw[getElem?_set_self (qg.mp h').1,h']
 .rw[getElem?_set_ne B]
def Oh(O:zF F H)(r:zR K F vs l)(Y:aK K F v d)(J:bT (d::l)=true):∃b,uU H vs v b/\bZ l d=if b then l else l++[d]:=by
 unfold bT at J;rw[or_eq_true,all_cons,all_cons,and_eq_true,and_eq_true]at J;let B:∀p:Prop,(d∈l↔p)->∃b,(b=true↔p)/\bZ l d=if b then l else l++[d]:=λp h=>by
  unfold bZ;by_cases q:p
  .simp_all
  simp_all
 rcases J with⟨h1,h2⟩|⟨h1,h2⟩
 .obtain⟨k,rfl,rfl⟩:=Gv Y h1;let#[ks,rfl,rfl]:=Fp r h2;let#[b,L,e]:=B (k∈ks) (by rw[qJ];show#[λ⟨j,G,z⟩=>EC z▸G,λz=>#[k,z,rfl]])
  show#[b,.inl #[ks,k,rfl,rfl,L],e]
 .obtain⟨p,rfl,rfl,ep⟩:=Kp Y h1;let#[ps,rfl,rfl,M]:=HL r h2;let#[b,L,e]:=B (p.1∈ps.map (·.1)) (by rw[qJ,qJ];show#[λ⟨j,G,z⟩=>#[j,G,zcr.mp z],λ⟨j,G,z⟩=>#[j,G,zcr.mpr z]])
  show#[b,.inr #[ps,p.1,p.2,rfl,λq hq=>O _ _ (M q hq),rfl,O _ _ ep,L],e]
def Rel.sadd{D:Addr}(r:Rel K (U++[⇑s]) (Z++[⇑v]) F G H)(hs:slot U n=⇑(.set l))(J:Z[n]?=⇑⇑(.ref D))(M:bT (s.toD::l)=true):
  ∃vs b,H D=⇑(.set vs)/\vs.length=l.length/\uU H vs v b/\Rel K (U.set n ⇑(.set (bZ l s.toD))) Z F G (if b then H else upd H D (.set (vs++[v]))):=by
 let hl:=Ag r;let rd:=r.drop hl;let#[fp,e,nd,ap]:=r.en;let#[f1,f2,rfl,a,b]:=e.cut hl;let#[v',fa,fi,fb,e1,rfl,q,up]:=a.at hs;rw[J]at e1;let e2:V.ref D=v':=↑e1
 subst e2;let sh:∃d,s=.sh d:=by
  cases s with
  |sh d=>show#[d,rfl]
  |lst l=>simp[bT,bC,dC]at M
  |dct t ks vs=>simp[bT,bC,dC]at M
  |set l=>simp[bT,bC,dC]at M
 let#[d,rfl]:=sh;rw[S.toD_sh]at M⊢;cases q with
 |st hD rl=>
  rename_i xs;cases b with
  |so sr nl=>
   cases nl;cases sr with
   |sh rv=>
    let#[b,sa,ea]:=Oh r.fr rl rv M;show#[xs,b,hD,rl.len,sa,?_];rw[ea];cases b with
    |true=>simp;rw[Rq hs];show rd
    |false=>
     simp;let B:(fa++([D]++fb)).Nodup:=↑nd
     let#[na,Y,h1]:=qw.mp B;let#[nD,nb]:=qK.mp Y;let h2:D∉fa:=λz=>h1 D z D qm rfl;let O:=ap D (by simp);let new:aN K F (upd H D (.set (xs++[v]))) (.ref D) (.set (l++[d])) [D]:=.st AI (rl.append (.cons rv .nil));let a2:=up (F':=F) (H':=upd H D (.set (xs++[v]))) (o:=⇑(.set (l++[d]))) (u:=⇑(.ref D)) (zF.refl F) (λx L=>Aj λz=>(qx.mp L).elim (λw=>h2 (z▸w)) λw=>nD (z▸w)) (.so new .nil);rw[GH J]at a2;show#[zF.updR r.fr O.1,λx o w=>?_,_,a2,B,λx L=>ap x ↑L];let L:x≠D:=λz=>by rw[z,O.2]at w;cases w
     rw[Aj L];show r.gr x o w
end
section
variable{X:Cx}
def Qs(H:Hp)(h:Heap)(_:sysModules<h.objs.size):zS X.prog X.w H (h.push (ST.freshSet (ST.ldOf X.w))) h.objs.size (.set []):=#[zero_le _,.inl #[rfl,qd _ rfl]]
end
def kf(p:List aP×Addr):List aP:=p.1
section
variable(X:Cx)(s:Shared)
@[inline]def JK(ks:List aP)(i:Nat)(h:Heap):Prop:=(∀b o,s.heap.get? b=some o->h.get? b=some o)/\∃xs:List (aP×Value),(iA id (ks.take i)).Perm (xs.map (·.1))/\ST.VSet (ST.ldOf X.w) (aG X.prog X.w) h s.heap.objs.size xs/\(i=0->h.get? s.heap.objs.size=some (ST.freshSet (ST.ldOf X.w)))
@[inline]def JT(ps:List (List aP×Addr))(i:Nat)(h:Heap):Prop:=(∀b o,s.heap.get? b=some o->h.get? b=some o)/\∃xs:List (List aP×Addr),(iA kf (ps.take i)).Perm xs/\ST.TRaw (ST.ldOf X.w) (tupleKind (aG X.prog X.w)) h s.heap.objs.size xs/\(i=0->h.get? s.heap.objs.size=some (ST.freshSet (ST.ldOf X.w)))
def JK.stay{ks:List aP}{i:Nat}{h h':Heap}(x:JK X s ks i h)(B:∀b o,b≠s.heap.objs.size+1->h.get? b=⇑o->h'.get? b=⇑o):JK X s ks i h':=by let#[k,xs,p,#[o,es,ep,t,J,r],z]:=x;let F:s.heap.objs.size≠s.heap.objs.size+1:=ne_of_lt (lt_succ_self _);show#[λb o e=>B b o (ne_of_lt (lt_succ_of_lt (ST.lt_of_get e))) (k b o e),xs,p,#[o,es,ep,t,B _ _ F J,r],λG=>B _ _ F (z G)]
def JT.stay{ps:List (List aP×Addr)}{i:Nat}{h h':Heap}(x:JT X s ps i h)(B:∀b o,b≠s.heap.objs.size+1->h.get? b=⇑o->h'.get? b=⇑o):JT X s ps i h':=by let#[k,xs,p,#[o,es,ep,t,J,r],z]:=x;let F:s.heap.objs.size≠s.heap.objs.size+1:=ne_of_lt (lt_succ_self _);show#[λb o e=>B b o (ne_of_lt (lt_succ_of_lt (ST.lt_of_get e))) (k b o e),xs,p,#[o,es,ep,t,B _ _ F J,r],λG=>B _ _ F (z G)]
end
def Hh:bootBuiltins "set"=⇑(.type "set"):=by decide+kernel
def Up:isSubtype (.type "tuple") (.type "set")=pure false:=by rw[isSubtype_type];kernel_rfl
def Ug:isSubtype (.type "tuple") (.type "frozenset")=pure false:=by rw[isSubtype_type];kernel_rfl
theorem RI(hh:A.handled=none)(hu:A.units+20<cLine)(I:Inv X zT Z H s)(hT:s.TypeIs x T)(h3:isSubtype (.type T) (.type "set")=pure false)(h2:isSubtype (.type T) (.type "frozenset")=pure false)(h4:(Value.type T==Value.type "dict")=false)
  (W:ST.WalkOk X.prog X.w s x F.toArray.size (λi v=>F.toArray[i]?=⇑v))(rv:zQ (ks.map kV) F)(hz:ks.length<=150)
  (h:∀s',Inv X zT Z (upd H s.heap.objs.size (.set ((iA id ks).map kV))) s'->Q (.ref s.heap.objs.size) s'):wpAny (model X.prog X.w) A (call (.type "set") [x]) Q E s:=by
 let hl:F.toArray.size=ks.length:=by rw[qr,<-rv.length,qo]
 refine ST.call_set (B:=A.units+20) (J:=JK X s ks) hh hT h3 h2 h4 W (λh e k=>#[k,[],.refl _,ST.vset_new e,λ_=>e]) (λi h h' hi x hk=>JK.stay X s x hk)
  (λA i v s' Q E hi hP⟨O,xs,p,S,z⟩ hQ hA=>?_) (q9 _) λh' tk⟨O,xs,p,S,z⟩ _ ht=>h _ ?_
 .rw[hl]at hi;let#[u,h6,ru]:=rv.get (i:=i) (x:=kV ks[i]) (by rw[qE,qh hi];rfl);let hv:v=u:=by grind
  subst hv;let h5:xs.length<=150:=by let h1:=p.length_eq;grind[Fm,length_map,iA,bP,length_take,length_nil]
  let Y:∀{h':Heap},Heap.SameBut s.heap.objs.size s'.heap h'->∀b o,s.heap.get? b=⇑o->h'.get? b=⇑o:=λM b o e=>(M.2 b (ne_of_lt (ST.lt_of_get e))).trans (O b o e);let L:=Lf (id:aP->aP) hi;show ST.setAddV (Fc ru) (Hy ru) S h5 (λhm r=>hQ s'.heap _ r (le_succ _) (Heap.SameBut.refl _ _) #[O,xs,?_,S,λz=>nomatch z]) λhm h' ys M pm S' r=>hQ h' _ r (le_succ _) M #[Y M,ys,?_,S',λz=>nomatch z]
  .rw[L];unfold bP;grind
  .rw[L];unfold bP;rw[map_id,q8 (show¬id ks[i]∈iA id (ks.take i) from λz=>hm (p.mem_iff.mp z))];show(qM.trans (List.Perm.cons _ p)).trans (pm.map (·.1)).symm
 .rw[hl,List.take_length]at p;refine I.laid (t':=tk) O (q9 _) #[?_,?_]
  .grind[length_map,Fm,iA,bP,length_nil]
  .cases ks with
   |nil=>show .inl #[rfl,z hl]
   |cons y ks=>
    show .inr (.inl #[λe=>?_,xs,?_,S])
    .have h1:∀(l G:List aP),G≠[]->l.foldl (bP id) G≠[]:=λl=>by
      induction l with
      |nil=>show λ_ h=>h
      |cons i l ih=>
       show λG h=>ih _ ?_;unfold bP;split
       .show h
       .simp
     show h1 ks (bP id [] y) (by unfold bP;simp) (List.map_eq_nil_iff.mp e)
    .let:=p.map kV;rw[qD]at this;show this
theorem Se(hh:A.handled=none)(hu:A.units+20<cLine)(I:Inv X zT Z H s)(hT:s.TypeIs x T)(h9:isSubtype (.type T) (.type "set")=pure false)(h8:isSubtype (.type T) (.type "frozenset")=pure false)(e1:(Value.type T==Value.type "dict")=false)
  (W:ST.WalkOk X.prog X.w s x F.toArray.size (λi v=>F.toArray[i]?=⇑v))(rv:zQ (ps.map λp=>V.ref p.2) F)(hp:∀p∈ps,H p.2=⇑(.tup (p.1.map kV)))(hz:ps.length<=150)
  (h:∀s',Inv X zT Z (upd H s.heap.objs.size (.set ((iA kf ps).map λp=>V.ref p.2))) s'->Q (.ref s.heap.objs.size) s'):wpAny (model X.prog X.w) A (call (.type "set") [x]) Q E s:=by
 let hl:F.toArray.size=ps.length:=by rw[qr,<-rv.length,qo]
 let M:∀{h:Heap},(∀b o,s.heap.get? b=⇑o->h.get? b=⇑o)->∀p∈ps,IsTupleKey (aG X.prog X.w) h p.1 p.2:=λk p O=>by let#[o,F,n,h1,r]:=EL I.hok (hp p O);show#[o,F,n,k _ _ h1,r]
 have h6:∀{h:Heap}{i:Nat}{xs:List (List aP×Addr)},(∀b o,s.heap.get? b=⇑o->h.get? b=⇑o)->(iA kf (ps.take i)).Perm xs->∀p∈xs,IsTupleKey (aG X.prog X.w) h p.1 p.2:=λk pm p O=>by
  rcases Fj kf (pm.mem_iff.mpr O)with z|z
  .cases z
  .show M k p (List.mem_of_mem_take z)
 refine ST.call_set (B:=A.units+20) (J:=JT X s ps) hh hT h9 h8 e1 W (λh e k=>#[k,[],.refl _,(ST.tset_new e).raw,λ_=>e]) (λi h h' hi x hk=>JT.stay X s x hk)
  (λA i v s' Q E hi hP⟨L,xs,p,S,z⟩ hQ hA=>?_) (q9 _) λh' tk⟨L,xs,p,S,z⟩ _ ht=>h _ ?_
 .rw[hl]at hi;let#[u,h7,ru]:=rv.get (i:=i) (x:=V.ref ps[i].2) (by rw[qE,qh hi];rfl);let hv:v=u:=by rw[getElem?_toArray,h7]at hP;exact(qf hP).symm
  subst hv;cases(show v=Value.ref ps[i].2 from ru);let e2:xs.length<=150:=by let h1:=p.length_eq;let h2:=Fm kf (ps.take i) [];let h3:(iA kf (ps.take i)).length=((ps.take i).foldl (bP kf) []).length:=rfl;rw[qG,qv]at h2;lia
  let h5:∀{h':Heap},Heap.SameBut s.heap.objs.size s'.heap h'->∀b o,s.heap.get? b=⇑o->h'.get? b=⇑o:=λsb b o e=>(sb.2 b (ne_of_lt (ST.lt_of_get e))).trans (L b o e);let h4:=Lf kf hi;show ST.setAddT ∅ (M L ps[i] (getElem_mem hi)) (S.full (h6 L p)) e2 (λhm tk r ht=>hQ s'.heap _ r ht (Heap.SameBut.refl _ _) #[L,xs,?_,S,λz=>nomatch z]) λhm h' ys tk r sb pm S' ht=>hQ h' _ r ht sb #[h5 sb,ys,?_,S'.raw,λz=>nomatch z]
  .rw[h4];unfold bP;rw[qZ (show kf ps[i]∈_ from(p.map kf).mem_iff.mpr hm)];show p
  .rw[h4];unfold bP;rw[q8 (show¬kf ps[i]∈_ from λz=>hm ((p.map kf).mem_iff.mp z))];show(qM.trans (List.Perm.cons _ p)).trans pm.symm
 .rw[hl,List.take_length]at p;let Y:∀d xs,H d=⇑(HO.tup xs)->upd H s.heap.objs.size (.set ((iA kf ps).map λp=>V.ref p.2)) d=⇑(.tup xs):=λd xs z=>by rw[Aj (CM z I.fresh)];exact z
  show I.laid (t':=tk) L (q9 _) #[?_,?_]
  .rw[qo];let:=Fm kf ps [];let h3:(iA kf ps).length=(ps.foldl (bP kf) []).length:=rfl;rw[qv]at this;lia
  .cases ps with
   |nil=>show .inl #[rfl,z hl]
   |cons y ps=>
    show .inr (.inr #[λe=>?_,xs,p.map _,λq O=>?_,S])
    .have h1:∀(l G:List (List aP×Addr)),G≠[]->l.foldl (bP kf) G≠[]:=λl=>by
      induction l with
      |nil=>show λ_ h=>h
      |cons i l ih=>
       show λG h=>ih _ ?_;unfold bP;split
       .show h
       .simp
     show h1 ps (bP kf [] y) (by unfold bP;simp) (List.map_eq_nil_iff.mp e)
    .rcases Fj kf (p.mem_iff.mpr O)with z|z
     .cases z
     .show Y _ _ (hp q z)
def sL(K:W.Frag):List V->Hp->VK->Prop:=λxs H Q=>∃a vs,xs=[.ref a]/\(bM K H a vs\/bA K H a vs)/\vs.length<=150/\
 ((∃ks:List aP,vs=ks.map kV/\∀p,H p=none->Q (.ref p) (upd H p (.set ((iA id ks).map kV))))\/
  ∃ps:List (List aP×Addr),vs=ps.map (λp=>V.ref p.2)/\(∀p∈ps,H p.2=⇑(.tup (p.1.map kV)))/\∀p,H p=none->Q (.ref p) (upd H p (.set ((iA kf ps).map λp=>V.ref p.2))))
def SM(L:bD k X.A):aR X (.type "set") (sL X.K):=by
 intro zT s Z H xs us Q I r h;let#[a,vs,rfl,J,Y,h]:=h;let hu:X.A.units+20<cLine:=by let:=L.units;lia
 cases r with
 |cons r1 r2=>
  cases r2;cases r1;let go:∀{T:String}{B:List Value},s.TypeIs (.ref a) T->isSubtype (.type T) (.type "set")=pure false->isSubtype (.type T) (.type "frozenset")=pure false->(Value.type T==Value.type "dict")=false->ST.WalkOk X.prog X.w s (.ref a) B.toArray.size (λi v=>B.toArray[i]?=⇑v)->zQ vs B->
    wpAny (model X.prog X.w) X.A (call (.type "set") [.ref a]) (EP X zT Z Q) X.xe s:=λ{T B} hT h1 h2 h3 W G=>by
   rcases h with⟨ks,rfl,q⟩|⟨ps,rfl,hp,q⟩
   .show RI L.hd hu I hT h1 h2 h3 W G ↑Y λs' M=>#[.ref _,_,M,rfl,q _ I.fresh]
   .show Se L.hd hu I hT h1 h2 h3 W G hp ↑Y λs' M=>#[.ref _,_,M,rfl,q _ I.fresh]
  rcases J with J|J
  .obtain⟨B,G,O,_⟩:=I.list J;show go O.isList.typeIs F.sub_list_set F.sub_list_frozenset ⋯ (ST.walk_list O.isList) G
  .obtain⟨B,G,⟨o,e,c,n,d⟩,_⟩:=I.tuple J;let ht:s.heap.IsTuple a B.toArray:=#[o,e,c,n,d]
   show go #[o,e,c] Up Ug ⋯ (ST.walk_tuple ht) G
section
variable{K:W.Frag}
def zR.of_all{ι:Type}{B:ι->V}{G:ι->D}:∀{l:List ι},(∀i∈l,aK K F (B i) (G i))->zR K F (l.map B) (l.map G)
 |[],_=>.nil
 |i::l,h=>.cons (h i qm) (zR.of_all λj J=>h j (qk _ J))
def zR.to_all{ι:Type}{B:ι->V}{G:ι->D}:∀{l:List ι},zR K F (l.map B) (l.map G)->∀i∈l,aK K F (B i) (G i)
 |[],_,_,h=>nomatch h
 |j::l,.cons a b,i,h=>by
  rcases qA.mp h with rfl|z
  .show a
  .show zR.to_all b i z
def Rel.newS{p:Addr}(B:Rel K U Z F G H)(J:H p=none)(r:zR K F vs l):Rel K (U++[⇑(.set l)]) (Z++[⇑(.ref p)]) F G (upd H p (.set vs)):=B.newO J (.st AI r)
def PM:bX K (sL K) kP:=by
 intro Z U F G H vs ds s Q B Y e O;let#[d,v,rfl,rfl]:=AN (λx y r=>by cases x<;>rfl) rfl Y e;let J:∀{a:Addr}{xs:List V}{l:List D},(bM K H a xs\/bA K H a xs)->zR K F xs l->newS l=⇑s->sL K [.ref a] H Q:=λ{a xs l} h2 r e=>by
  unfold newS at e;split at e
  .rename_i hc;cases e;show#[a,xs,rfl,h2,by rw[r.len];show hc.2,?_];let L:=hc.1;unfold bT at L;rw[or_eq_true]at L;rcases L with L|L
   .obtain⟨ks,rfl,rfl⟩:=Fp r L;show .inl #[ks,rfl,λp M=>?_];rw[JQ id (f:=aY) λi j=>#[EC,λz=>by rw[show i=j from z]]]at O;show O _ F _ (zF.refl F) (B.newS M (zR.of_all λi hi=>zR.to_all r i ?_));rcases Fj id hi with z|z
    .cases z
    .show z
   .obtain⟨ps,rfl,rfl,hf⟩:=HL r L;show .inr #[ps,rfl,λp M=>B.fr _ _ (hf p M),λp M=>?_];rw[JQ kf (f:=tK) λi j=>zcr]at O;show O _ F _ (zF.refl F) (B.newS M (zR.of_all λi hi=>zR.to_all r i ?_));rcases Fj kf hi with z|z
    .cases z
    .show z
  .cases e
 cases d with
 |lst l=>let#[a,xs,rfl,h1,r1]:=Y.1.lst B.fr;show J (.inl h1) r1 e
 |tup l=>let#[a,xs,rfl,h1,r1]:=Y.1.tup;show J (.inr (bA.of (B.fr _ _ h1))) r1 e
 |_=>cases e
def JL(J:bD k X.A)(M:Gl X "set")(L:X.mg "set"=none)(G:bootBuiltins "set"=⇑(.type "set"))(Y:FA X (e::es) F)(O:autoParam (starEach (e::es) X.env=(false,eval e X.env)::starEach es X.env) rZ9)(B:autoParam ((backTo pos (starEach es X.env)).any (·.1)=false) rZ9):FE X (.Call (.Name "set" p) (e::es) [] pos) (wB kP F):=
 EV (λpn xe=>SM (X:=wp X pn xe) J) PM M L G Y ⋯ ⋯ O B
def pJ(K:W.Frag):List V->Hp->VK->Prop:=λxs H Q=>(∃a vs,xs=[.ref a]/\H a=⇑(.set vs)/\Q (.int vs.length) H)\/sO K xs H Q
def SH:aR X (.builtin "len") (pJ X.K):=λzT s Z H xs G Q I r h=>by
 rcases h with⟨a,vs,rfl,e,q⟩|h
 .cases r with
  |cons L J=>
   cases J;cases L;let B:∀n:Nat,n=vs.length->∀t,EP X zT Z Q (.int n t) {s with toks:=s.toks+1+1}:=λn M t=>#[.int n,H,I.kept λ_ _ z=>z,#[t,rfl],by rw[M];show q]
   rcases I.hok a _ e with⟨Y,⟨O,h1⟩|⟨_,xs,p,S⟩|⟨_,xs,p,_,S⟩⟩
   .show ST.VSet.len (K:=aP) (knd:=aG X.prog X.w) (ST.vset_new h1) (zero_le _) (B 0 (by rw[O];rfl) _)
   .let F:=p.length_eq;rw[qo]at F;show ST.VSet.len S ∅ (B _ F.symm _)
   .let F:=p.length_eq;rw[qo]at F;show ST.TRaw.len S ∅ (B _ F.symm _)
 .show LQ zT s Z H xs G Q I r h
def bF.set(r:bF K F H v (.set l)):∃a xs,v=.ref a/\F a=⇑(.set xs)/\zR K F xs l:=by
 rcases r with r|⟨_,_,_,_,e,_⟩|⟨_,_,_,_,_,e,_⟩|⟨_,_,_,_,_,e,_⟩
 .cases r with
  |st e r=>show#[_,_,rfl,e,r]
 .cases e
 .cases e
 .cases e
def Sr:bX K (pJ K) iH:=by
 intro Z U F G H vs O s Q B J e L;let#[d,v,rfl,rfl]:=AN (λx y r=>by cases x<;>rfl) rfl J e;cases d with
 |set l=>cases e;let#[a,xs,rfl,h1,M]:=bF.set J.1;show .inl #[a,xs,rfl,B.fr _ _ h1,by rw[M.len];show L _ F H (zF.refl F) (B.push (.int _))]
 |_=>show .inr (Li Z U F G H [v] _ s Q B J e L)
def OV(J:Gl X "len")(G:X.mg "len"=none)(M:FA X (e::es) F)(L:autoParam (starEach (e::es) X.env=(false,eval e X.env)::starEach es X.env) rZ9)(B:autoParam ((backTo pos (starEach es X.env)).any (·.1)=false) rZ9):FE X (.Call (.Name "len" p) (e::es) [] pos) (wB iH F):=
 EN (λ_ _=>SH) Sr J G PySem.boot_len M ⋯ ⋯ L B
end
def HF:∀l:List Nat,(∀x∈l,p x=true->q x=true)->l.countP p<=l.countP q
 |[],_=>q9 _
 |a::l,h=>by
  rw[countP_cons,countP_cons];let:=HF l λx B=>h x (qk _ B);cases e:p a with
  |true=>rw[h a qm e];lia
  |false=>simp;lia
def JI:∀l:List Nat,(∀x∈l,p x=true->q x=true)->(∃x,x∈l/\q x=true/\p x=false)->l.countP p<l.countP q
 |[],_,z=>by let#[_,z,_]:=z;cases z
 |a::l,h,z=>by
  rw[countP_cons,countP_cons];let#[x,B,F,G]:=z;by_cases e:x=a
  .subst e;let:=HF l λx B=>h x (qk _ B);rw[F];lia
  .let:=JI l (λx B=>h x (qk _ B)) #[x,(qA.mp B).resolve_left e,F,G];cases e:p a with
   |true=>rw[h a qm e];lia
   |false=>simp;lia
def sH(l:List D)(i:Nat):Int:=((List.range l.length).countP λj=>!cV (l.getD i .non) (l.getD j .non):Nat)
def Jq(o:eP P)(Y:∀d∈l,P d)(hi:i<l.length)(O:j<l.length):↥(sH l i<sH l j)=!cV (l.getD j .non) (l.getD i .non):=by
 let B:∀k,k<l.length->P (l.getD k .non):=λk J=>by grind
 let F:=B i hi;let M:=B j O;unfold sH;cases e:cV (l.getD j .non) (l.getD i .non)with
 |false=>
  show qQ (Int.ofNat_lt.mpr (JI _ (λk J h=>?_) #[i,qI.mpr hi,by rw[e];rfl,?_]))
  .have L:=B k (qI.mp J);cases q:cV (l.getD j .non) (l.getD k .non)with
   |false=>rfl
   |true=>
    let G:cV (l.getD i .non) (l.getD k .non)=false:=↑h
    rcases o.tot _ _ F M with z|z
    .rw[o.tr _ _ _ F M L z q]at G;cases G
    .rw[z]at e;cases e
  .rcases o.tot _ _ F F with z|z<;>rw[z]<;>rfl
 |true=>
  refine qR λh=>?_;let:=HF (p:=λk=>!cV (l.getD j .non) (l.getD k .non)) (q:=λk=>!cV (l.getD i .non) (l.getD k .non)) (List.range l.length) λk J h=>by
   let L:=B k (qI.mp J);cases q:cV (l.getD i .non) (l.getD k .non)with
   |false=>rfl
   |true=>rw[o.tr _ _ _ M F L e q]at h;cases h
  lia
section
open PySem.W HT
theorem Uv{ks F:List aP}(i:Nat)(r:zQ (ks.map kV) us)(L:zQ (F.map kV) vs)(h:eY sh (ks.map aY))(h':eY sh (F.map aY))(B:Q (aE (ks.map aY) (F.map aY)==.lt) s):KatLex prog w A b ↥(ks.length<F.length) Q (us.zip vs) i s:=by
 induction ks generalizing us vs F i sh with
 |nil=>
  let e:F=[]:=by simpa using Et h h'
  subst e;cases r;show kat_nil B
 |cons k ks O=>cases F with
  |nil=>have e:=Et (m:=(k::ks).map aY) h' h;cases e
  |cons j F=>
   rw[qy,qy]at B;let#[kd,h3,h1,h2]:=GT h h';let e:↥((k::ks).length<(j::F).length)=↥(ks.length<F.length):=decide_eq_decide.2 Nat.succ_lt_succ_iff;rw[e];cases r with
   |@cons _ u _ us M r=>
    cases L with
    |@cons _ v _ vs J L=>
     cases k with
     |inl n=>
      let#[t,rfl]:=M;cases j with
      |inr y=>rcases kd with⟨_,_,_,z⟩|⟨_,_,z,_⟩<;>cases z
      |inl m=>
       let#[Y,rfl]:=J;show kat_cons (wpAny_eqBool_int ?_);let B:Q ((match bJ (D.int n) (D.int m)with|.eq=>aE (ks.map aY) (F.map aY)|o=>o)==.lt) s:=B;rw[DQ]at B;by_cases nm:n=m
       .subst nm;rw[q8 (Int.lt_irrefl n),q8 (Int.lt_irrefl n)]at B;rw[show(n==n)=true by simp];show kat_yes (O (i+1) r L h1 h2 B)
       .rw[show(n==m)=false by simp[nm]];let G:Q ↥(n<m) s:=by
         by_cases z:n<m
         .rw[qZ z]at B;rw[qQ z];show B
         .rw[q8 z,qZ ∅]at B;rw[qR z];show B
        show kat_no ?_;cases(b&&i==0)with
        |true=>show oneLt_int G
        |false=>show kat_one _ _ (PyProof.Rows.lt_int G)
     |inr x=>
      let#[t,rfl]:=M;cases j with
      |inl y=>rcases kd with⟨_,_,z,_⟩|⟨_,_,_,z⟩<;>cases z
      |inr y=>
       let#[Y,rfl]:=J;show kat_cons (wpAny_eqBool_str ?_);let B:Q ((match bJ (D.str x.cps.toList) (D.str y.cps.toList)with|.eq=>aE (ks.map aY) (F.map aY)|o=>o)==.lt) s:=B;rw[DN]at B;by_cases nm:x=y
       .subst nm;rw[q8 (List.lt_irrefl _),q8 (List.lt_irrefl _)]at B;rw[qQ rfl];show kat_yes (O (i+1) r L h1 h2 B)
       .rw[qR nm];let G:Q ↥(x.cps.toList<y.cps.toList) s:=by
         rcases GO x.cps.toList y.cps.toList with z|z|z
         .rw[qZ z]at B;rw[qQ z];show B
         .rw[q8 (lt_asymm z),qZ z]at B;rw[qR (lt_asymm z)];show B
         .show absurd (EC (a:=.inr x) (b:=.inr y) (by show D.str _=D.str _;rw[z])) (λe=>nm (by cases e;rfl))
        show kat_no ?_;cases(b&&i==0)with
        |true=>show oneLt_str G
        |false=>show kat_one _ _ (PyProof.Rows.lt_str G)
def uR(h:Heap)(b:Addr)(ks:List aP):Prop:=∃us,zQ (ks.map kV) us/\IsTup h b us.toArray
def BJ:∀{ps:List (List aP×Addr)},(∀p∈ps,uR h p.2 p.1/\eY (t::sh) (p.1.map aY))->∃fs:List Value,KatTups h (ps.map λp=>Value.ref p.2) fs/\fs.length=ps.length/\∀v∈fs,if t then∃z u,v=Value.str z u else∃z u,v=Value.int z u
 |[],_=>#[[],.nil,rfl,λ_ z=>nomatch z]
 |(ks,b)::ps,hp=>by
  let#[fs,M,L,J]:=BJ (ps:=ps) λp Y=>hp p (qk _ Y);let#[#[G,r,o,e,c,n,d],B]:=hp (ks,b) qm;cases ks with
  |nil=>cases t<;>show B.elim
  |cons k ks=>
   cases r with
   |@cons _ u _ G F r=>
    show#[u::fs,.cons e c d rfl M,by simp[L],λv O=>?_];rcases qA.mp O with z|z
    .subst z;cases t
     .cases k with
      |inl i=>let#[tk,rfl]:=F;show#[_,_,rfl]
      |inr x=>show B.elim
     .cases k with
      |inl i=>show B.elim
      |inr x=>let#[tk,rfl]:=F;show#[_,_,rfl]
    .show J v z
def Lc{L D:Addr}{Q:Shared->Prop}(F':Fr h₀ L s.heap m)(N':News h₀ L s.heap ((D,seqObj "list" #[] e1)::news))(hD:∀q∈news,q.1<D)
  (O:∀p∈ps,uR s.heap p.2 p.1/\eY sh (p.1.map aY))(h5:sh≠[])(h2:2<=ps.length)
  (h9:∀qs:List (List aP×Addr),qs.Perm ps->(qs.map tK).Pairwise (cV · ·=true)->∀J c,Fr h₀ L J m->News h₀ L J ((D,seqObj "list" (qs.map λp=>Value.ref p.2).toArray c)::news)->Q {s with heap:=J}):
  wpAny (model prog w) A (keyKind' (ps.map λp=>Value.ref p.2).toArray) (λκ s'=>(kas_sort (ps.map λp=>Value.ref p.2).length).kasWp (kas_ask prog w A κ (ps.map λp=>Value.ref p.2)) (λp B=>KasFin h₀ L m D e1 (p.toList.map λi=>(ps.map λp=>Value.ref p.2).getD i Value.none) Q B) s') (λ_ _=>False) s:=by
 cases sh with
 |nil=>show absurd rfl h5
 |cons t sh=>
  let#[fs,t1,t2,t3]:=BJ O;let hk:∀d∈ps.map tK,kG (t::sh) d:=λd hd=>by let#[p,hp,rfl]:=qJ.mp hd;show(O p hp).2
  have hl:(ps.map tK).length=ps.length:=qo ..;let go:∀b,(kas_sort (ps.map λp=>Value.ref p.2).length).kasWp (kas_ask prog w A (tuples' b) (ps.map λp=>Value.ref p.2)) (λp B=>KasFin h₀ L m D e1 (p.toList.map λi=>(ps.map λp=>Value.ref p.2).getD i Value.none) Q B) s:=λb=>by
   show Ml (n:=ps.length) (rk:=sH (ps.map tK)) (P:=λp=>p.Perm (List.range ps.length).toArray/\mO (sH (ps.map tK)) p ps.length) (λi j C hi F Y=>?_) _ (by rw[qo];show Qd h2 λp a b=>#[a,b]) λp⟨p1,p2⟩=>?_
   .rw[Jq (Gk (t::sh)) hk ∅ ∅]at Y;let M:∀i,i<ps.length->(ps.map tK).getD i .non=tK (ps.getD i ([],0)):=λi hi=>by simp[hi]
    let gV:∀i,i<ps.length->(ps.map λp=>Value.ref p.2).getD i Value.none=.ref (ps.getD i ([],0)).2:=λi hi=>by simp[hi]
    have gP:∀i,i<ps.length->ps.getD i ([],0)∈ps:=λi hi=>by
     let e:ps.getD i ([],0)=ps[i]:=by simp[hi]
     rw[e];show getElem_mem hi
    rw[M i hi,M j F]at Y;let#[#[us,r,o,e,c,n,d],ki]:=O _ (gP i hi);let#[#[h1,r',o',e',c',n',d'],kj]:=O _ (gP j F);rw[show cV (tK (ps.getD j ([],0))) (tK (ps.getD i ([],0)))=_ from DA kj ki,Bool.not_not]at Y;unfold kas_ask;rw[gV i hi,gV j F];show kat_lt e d e' d' ?_;let l1:us.toArray.size=(ps.getD i ([],0)).1.length:=by rw[qr,<-r.length,qo]
    let l2:h1.toArray.size=(ps.getD j ([],0)).1.length:=by rw[qr,<-r'.length,qo]
    rw[l1,l2];show Uv 0 r r' ki kj Y
   .have G:∀i∈p.toList,i<ps.length:=λi hi=>by let:=p1.mem_iff.mp (mem_toList_iff.mp hi);simpa using this
    let h4:p.size=ps.length:=by let:=p1.size_eq;simpa using this
    let pp:p.toList.Perm (List.range ps.length):=Array.perm_iff_toList_perm.mp p1;show KasFin.intro F' N' (.head λp hp=>ne_of_lt (hD p hp)) λJ c F3 N3=>h9 (p.toList.map λi=>ps.getD i ([],0)) ((pp.map _).trans (by rw[TQ])) ?_ J c F3 ?_
    .rw[qD,pairwise_map];show List.pairwise_iff_getElem.mpr λi j hi F e2=>?_;let h6:j<ps.length:=by rw[<-h4];simpa using F
     let k:=p2 i j ∅ h6;let gi:∀i(h:i<p.toList.length),kA (sH (ps.map tK)) p i=sH (ps.map tK) p.toList[i]:=λi h=>by unfold kA;rw[getElem?_eq_getElem h];simp
     rw[gi i hi,gi j F]at k;let h8:=G _ (getElem_mem hi);let h7:=G _ (getElem_mem F);let:=Jq (Gk (t::sh)) hk (i:=p.toList[j]) (j:=p.toList[i]) ∅ ∅;rw[qR ∅]at this;let e:cV ((ps.map tK).getD p.toList[i] .non) ((ps.map tK).getD p.toList[j] .non)=true:=↑this.symm
     let M:∀i,i<ps.length->(ps.map tK).getD i .non=tK (ps.getD i ([],0)):=λi hi=>by simp[hi]
     rw[M _ h8,M _ h7]at e;show e
    .let eo:(p.toList.map λi=>(ps.map λp=>Value.ref p.2).getD i Value.none)=(p.toList.map λi=>ps.getD i ([],0)).map λp=>Value.ref p.2:=by rw[qD];show map_congr_left λi hi=>?_;simp[G i hi]
     rw[<-eo];show N3
  cases t
  .show kat_kind (T:=.type "int") t1 ∅ (λv hv=>?_) (by rfl) (go _);let#[z,u,rfl]:=t3 v hv;show Looks.of_pure rfl
  .show kat_kind (T:=.type "str") t1 ∅ (λv hv=>?_) (by rfl) (go _);let#[z,u,rfl]:=t3 v hv;show Looks.of_pure rfl
end
def Inv.laidD(I:Inv X zT Z H s)(hn:∀m,s.heap.Ns X.env.locals m->h'.Ns X.env.locals m)(k:∀b u,b≠X.env.locals->s.heap.get? b=⇑u->h'.get? b=⇑u)
  (L:s.heap.get? a=none)(new:zS X.prog X.w (upd H a o) h' a o):Inv X zT Z (upd H a o) {s with heap:=h',toks:=t',drawn:=d'}:=by
 have F:H a=none:=by
  cases e:H a with
  |none=>rfl
  |some u=>let#[v,z]:=zS.there (I.hok a u e);rw[L]at z;cases z
 refine I.step (g':=s.gens) (d':=d') (ch:=[]) (λ_ z=>nomatch z) (λb B J _ _ e _=>k b B J e) (λb B J _ _ e _=>#[B.slots,k b B J e]) (λb B _ e n=>by rw[Aj (λz=>by rw[z,L]at e;cases e)];show n)
  (λb B _ e=>?_) (λb xs q=>by rw[Aj (CM q F)];show q) (λb u xs q=>by rw[Aj (CM q F)];show q) (λb ps q=>#[#[],by rw[Aj (CM q F),q];simp]) hn (λb B e=>?_) I.bare
 .by_cases G:b=X.env.locals
  .obtain⟨m,x,_⟩:=I.loc;let#[o',_,_,O,_]:=hn m x;show#[o',by rw[G];show O]
  .show#[B,k b B G e]
 .by_cases G:b=a
  .grind[AI]
  .rw[Aj G]at e;show(I.hok b B e).stay (λc v M q=>k c v (λz=>?_) q) (λc q=>by rw[Aj (CM q F)];show q) λc xs q=>by rw[Aj (CM q F)];exact q
   rw[z]at M;rcases M with r|r
   .rw[<-r,I.free]at e;cases e
   .rw[I.free]at r;cases r
def OM(h:fL k v=true):zJ (kV k) v:=by
 rcases Dv h with⟨i,t,rfl,rfl⟩|⟨x,t,rfl,rfl⟩
 .show#[t,rfl]
 .show#[t,rfl]
def Lq(r:zQ xs ys)(p:F.Perm ys):∃us,us.Perm xs/\zQ us F:=by
 induction p generalizing xs with
 |nil=>cases r;show#[[],.refl _,.nil]
 |cons x _ M=>
  cases r with
  |cons B r=>let#[us,p,q]:=M r;show#[_::us,.cons _ p,.cons B q]
 |swap x y l=>
  cases r with
  |cons B r=>
   cases r with
   |cons G r=>show#[_,.swap _ _ _,.cons G (.cons B r)]
 |trans _ _ L J=>grind
def xU(X:Cx)(s:Shared)(a:Addr)(vs:List V):Prop:=∃es ep t us,ST.SetAt s.heap a es ep t/\ST.Rising t.place/\t.place.size=es.size/\(X.w.params.followText "set-order"=false->t.led=true)/\us.Perm vs/\zQ us (es.toList.map (·.2))/\es.size=vs.length
def MW(I:Inv X zT Z H s)(e:H a=⇑(.set vs)):xU X s a vs:=by
 let led:∀{t:SetTable},t.led=ST.ldOf X.w->X.w.params.followText "set-order"=false->t.led=true:=λe h=>by rw[e];unfold ST.ldOf;rw[h];rfl
 have O:∀{xs:List (aP×Value)},ST.VSet (ST.ldOf X.w) (aG X.prog X.w) s.heap a xs->vs.Perm (xs.map λp=>kV p.1)->xU X s a vs:=λ{xs} S p=>by
  let#[es,ep,t,h1,h2,M,L,B]:=S.at;let F:∀p∈xs,(aG X.prog X.w).is p.1 p.2=true/\p.2.scannable=true:=let⟨_,_,_,_,_,_,_,_,_,F,_⟩:=S;F
  have hv:zQ (xs.map λp=>kV p.1) (es.toList.map (·.2)):=by
   rw[B]
   clear B p S
   induction xs with
   |nil=>show .nil
   |cons x xs G=>show .cons (OM (F x qm).1) (G λq hq=>F q (qk _ hq))
  let hl:es.size=vs.length:=by let:=congrArg List.length B;rw[qo,qo,qU]at this;rw[p.length_eq,qo,this]
  show#[es,ep,t,_,h1,h2,M,led L,p.symm,hv,hl]
 rcases I.hok a _ e with⟨hz,⟨h0,h1⟩|⟨_,xs,p,S⟩|⟨_,xs,p,Y,S⟩⟩
 .show O (xs:=[]) (ST.vset_new h1) (by rw[h0];show .refl _)
 .show O S p
 .obtain⟨es,ep,t,h1,h2,M,L,B⟩:=(S.full λx J=>EL I.hok (Y x J)).at;refine#[es,ep,t,xs.map λp=>V.ref p.2,h1,h2,M,led L,p.symm,?_,?_]
  .rw[B]
   clear B p S Y
   induction xs with
   |nil=>show .nil
   |cons x xs G=>show .cons rfl G
  .let:=congrArg List.length B;rw[qo,qo,qU]at this;rw[p.length_eq,qo,this]
def Qf{α:Type}{l m:List α}(p:l.Perm m)(h:m.length<2):l=m:=by
 match m,h with
 |[],_=>show p.eq_nil
 |[a],_=>show p.eq_singleton
def HP{ι β:Type}{f:ι->β}{us:List β}{ns:List ι}(p:us.Perm (ns.map f)):∃ms:List ι,us=ms.map f/\ms.Perm ns:=by
 induction us generalizing ns with
 |nil=>simp_all
 |cons u us G=>let#[n,J,rfl]:=qJ.mp (p.mem_iff.mp qm);let#[F,B,rfl]:=append_of_mem J;rw[map_append]at p;let#[ms,rfl,q]:=G (ns:=F++B) (by rw[map_append];show(p.trans perm_middle).cons_inv);show#[n::ms,rfl,(List.Perm.cons n q).trans perm_middle.symm]
def Hw:∀{ps:List (List aP×Addr)}{B:List Value},zQ (ps.map λp=>V.ref p.2) B->B=ps.map λp=>Value.ref p.2
 |[],_,.nil=>rfl
 |p::ps,_,.cons r t=>by let e:_=Value.ref p.2:=r;rw[e,Hw t];rfl
def HG:∀ps:List (List aP×Addr),zQ (ps.map λp=>V.ref p.2) (ps.map λp=>Value.ref p.2)
 |[]=>.nil
 |_::ps=>.cons rfl (HG ps)
section
variable{K:W.Frag}
def sP(vs:List V)(H:Hp)(Q:VK):Prop:=
 (vs.length<2/\∀q,H q=none->Q (.ref q) (upd H q (.lst vs)))\/
 (∃ns:List Int,vs=ns.map V.int/\ns.length<64/\∀F:List Int,F.Perm ns->F.Pairwise (·<=·)->∀q,H q=none->Q (.ref q) (upd H q (.lst (F.map V.int))))\/
 (∃G:List Str,vs=G.map V.str/\G.length<64/\∀B:List Str,B.Perm G->sortedS B=true->∀q,H q=none->Q (.ref q) (upd H q (.lst (B.map V.str))))\/
 ∃(ps:List (List aP×Addr))(sh:List Bool),vs=ps.map (λp=>V.ref p.2)/\2<=ps.length/\ps.length<64/\(∀p∈ps,H p.2=⇑(.tup (p.1.map kV))/\eY sh (p.1.map aY))/\sh≠[]/\∀J:List (List aP×Addr),J.Perm ps->(J.map tK).Pairwise (cV · ·=true)->∀q,H q=none->Q (.ref q) (upd H q (.lst (J.map λp=>V.ref p.2)))
def iP(K:W.Frag):List V->Hp->VK->Prop:=λxs H Q=>∃a vs,xs=[.ref a]/\(bM K H a vs\/H a=⇑(.set vs))/\sP vs H Q
def GI{s:Shared}(F:Fr h₀ L s.heap m)(F':Fr h₀ L h' m)(J:News h₀ L h' (rest h₀ L s.heap)):∀b u,b≠L->s.heap.get? b=⇑u->h'.get? b=⇑u:=λb u G e=>by
 cases B:h₀.get? b with
 |some o=>rw[F.keep b o B]at e;rw[<-e];show F'.keep b o B
 |none=>show(J (b,u) (zbM.mpr #[e,G,B])).1
def Kg(I:Inv X zT Z H s)(k:∀b u,b≠X.env.locals->s.heap.get? b=⇑u->h'.get? b=⇑u){p:List aP×Addr}(e:H p.2=⇑(.tup (p.1.map kV))):uR h' p.2 p.1:=by let#[B,r,#[o,e,c,n,d],_]:=I.tuple (bA.of e);show#[B,r,o,k p.2 o (λz=>?_) e,c,n,d];let#[m,#[o',es,ep,F,G,_],_]:=I.loc;grind
def SD(hh:X.A.handled=none):aR X (.builtin "sorted") (iP X.K):=by
 intro zT s Z H xs us Q I r h;let#[a,vs,rfl,O,h]:=h;cases r with
 |cons r1 r2=>
  cases r2;cases r1;rcases O with O|O
  .rcases h with⟨h2,q⟩|⟨ns,rfl,G,q⟩|⟨zs,rfl,G,q⟩|⟨ps,sh,rfl,h2,G,J,h9,q⟩
   .show Uj zT s Z H [.ref a] [.ref a] Q I (.cons rfl .nil) #[a,vs,rfl,O,h2,q]
   .show Mr zT s Z H [.ref a] [.ref a] Q I (.cons rfl .nil) #[a,rfl,.inl #[ns,G,O,q]]
   .show Mr zT s Z H [.ref a] [.ref a] Q I (.cons rfl .nil) #[a,rfl,.inr #[zs,G,O,q]]
   .obtain⟨hm,rv,pl,_⟩:=I.list O;let hv:=Hw rv;subst hv;let#[m,F]:=I.fr;let N:News X.base X.env.locals s.heap (rest X.base X.env.locals s.heap):=λp J=>zbM.mp J;show W.kat_sorted F N pl.isList (by rw[qo];show h2) (by rw[qo];show G) λD e1 h' F' N' hD=>?_;let tl:∀{h':Heap}{d o news},News X.base X.env.locals h' ((d,o)::news)->News X.base X.env.locals h' news:=λN p J=>N p (qk _ J);let B:s.heap.get? D=none:=by
     cases e:s.heap.get? D with
     |none=>rfl
     |some u=>let#[_,n1,n2]:=N' (D,seqObj "list" #[] e1) qm;show absurd (hD (D,u) (zbM.mpr #[e,n1,n2])) (lt_irrefl _)
    show Lc (s:={s with heap:=h'}) F' N' hD (λp Y=>#[Kg I (GI F F' (tl N')) (J p Y).1,(J p Y).2]) h9 h2 λqs pq pw h3 c F3 N3=>?_;show#[.ref D,_,Inv.laidD (s:=s) (t':=s.toks) (d':=s.drawn) (o:=.lst (qs.map λp=>V.ref p.2)) I (λm' x=>by rw[Jp x F.ns];show F3.ns) (GI F F3 (tl N3)) B ?_,rfl,q qs pq pw D ?_]
    .show#[by rw[qo,pq.length_eq,zm];lia,_,c,HG qs,(N3 (D,_) qm).1]
    .cases e:H D with
     |none=>rfl
     |some u=>let#[v,z]:=zS.there (I.hok D u e);rw[B]at z;cases z
  .obtain⟨es,ep,t,us,h1,h2,h3,h4,pu,hv,hl⟩:=MW I O
   --the end:a new list
   have e2:∀{s2:Shared}{D:Addr}{M:Array Value}{e:Nat}{ws:List V},zQ ws M.toList->ws.length<=1000->s2.heap.get? D=⇑(seqObj "list" M e)->s.heap.get? D=none->(∀b o,s.heap.get? b=⇑o->s2.heap.get? b=⇑o)->s2.gens=s.gens->s2.os=s.os->(∀q,H q=none->Q (.ref q) (upd H q (.lst ws)))->EP X zT Z Q (.ref D) s2:=λ{s2 D M e ws} rv hw hD B hk hg ho q=>by
    let#[h2,g2,d2,t2,o2]:=s2;subst hg ho;show#[.ref D,_,Inv.laidD (s:=s) (t':=t2) (d':=d2) (o:=.lst ws) I (λm x=>x.at' λo e=>hk _ o e) (λb u _ e=>hk b u e) B ?_,rfl,q D ?_]
    .show#[by rw[zm];lia,M.toList,e,rv,by rw[toArray_toList];show hD]
    .cases e:H D with
     |none=>rfl
     |some u=>let#[v,z]:=zS.there (I.hok D u e);rw[B]at z;cases z
   have none_of:∀{L:Shared},(∀b o,s.heap.get? b=⇑o->L.heap.get? b=⇑o)->s.heap.get? L.heap.objs.size=none:=λ{L} hx=>by
    cases q:s.heap.get? L.heap.objs.size with
    |none=>rfl
    |some o=>show absurd (ST.lt_of_get (hx _ _ q)) (lt_irrefl _)
   rcases h with⟨h5,q⟩|⟨ns,rfl,G,q⟩|⟨zs,rfl,G,q⟩|⟨ps,sh,rfl,h5,G,J,h9,q⟩
   .show ST.sorted_set hh (EU I O) h1 h2 h3 h4 ∅ λL ord h8 hx hg ho ht new=>?_;let#[ws,pw,h6]:=Lq hv (h8.map (·.2));let ew:ws=vs:=Qf (pw.trans pu) h5;subst ew;let hc:(ord.map (·.2)).length<2:=by rw[<-h6.length];exact h5
    show KY new hc #[_,rfl,?_];let#[e,he]:=ST.sortedHeap_at new (ord.map (·.2)).toArray;show e2 h6 ∅ he (none_of hx) (λb o e=>ST.sortedHeap_old (ne_of_lt (ST.lt_of_get (hx b o e))) (qc _ (hx b o e)) _) hg ho q
   .obtain⟨ms,rfl,pm⟩:=HP pu;rw[qo]at hl;show ST.sorted_set_ints hh (EU I O) h1 h2 h3 h4 ∅ (Iw hv) λs2 D M e h7 a1 a2 a3 hD B hk hg ho ht=>e2 (EW a1) (by rw[qo,a2.length_eq,pm.length_eq];lia) hD B hk hg ho (q h7 (a2.trans pm) a3)
   .obtain⟨ms,rfl,pm⟩:=HP pu;rw[qo]at hl;show ST.sorted_set_strs hh (EU I O) h1 h2 h3 h4 ∅ (GL hv) λs2 D M e h7 a1 a2 a3 hD B hk hg ho ht=>e2 (Ib a1) (by rw[qo,a2.length_eq,pm.length_eq];lia) hD B hk hg ho (q h7 (a2.trans pm) a3)
   .rw[qo]at hl;show ST.sorted_set hh (EU I O) h1 h2 h3 h4 ∅ λL ord h8 hx hg ho ht new=>?_;let#[ws,pw,h6]:=Lq hv (h8.map (·.2));let#[e3,rfl,pp]:=HP (pw.trans pu);let hb:=Hw h6;rw[hb]at new⊢;let#[m,F]:=I.fr;let N:News X.base X.env.locals s.heap (rest X.base X.env.locals s.heap):=λp J=>zbM.mp J;let keep:∀b o,s.heap.get? b=⇑o->(L.heap.push (seqObj "list" (e3.map λp=>Value.ref p.2).toArray 0)).get? b=⇑o:=λb o e=>qc _ (hx b o e);let hL:X.env.locals<L.heap.objs.size:=by let#[o',_,_,e',_]:=F.ns;exact ST.lt_of_get (hx _ _ e')
    have B:=none_of hx;let hd:X.base.get? L.heap.objs.size=none:=by
     cases q:X.base.get? L.heap.objs.size with
     |none=>rfl
     |some o=>rw[F.keep _ _ q]at B;cases B
    let e4:∀p∈rest X.base X.env.locals s.heap,p.1<L.heap.objs.size:=λp J=>ST.lt_of_get (hx _ _ (N p J).1);let tl:∀{h':Heap}{d o news},News X.base X.env.locals h' ((d,o)::news)->News X.base X.env.locals h' news:=λN p J=>N p (qk _ J);show W.kat_list_sort (s:={L with heap:=L.heap.push (seqObj "list" (e3.map λp=>Value.ref p.2).toArray 0)}) (news:=rest X.base X.env.locals s.heap) (F.kept keep) (N.grown keep) new (ne_of_gt hL) hd (λp J=>ne_of_lt (e4 p J)) (by rw[qo,pp.length_eq];show h5) (by rw[qo,pp.length_eq];show G) λe1 h' F' N'=>?_;show Lc (s:={L with heap:=h'}) F' N' e4 (λp Y=>#[Kg I (GI F F' (tl N')) (J p (pp.mem_iff.mp Y)).1,(J p (pp.mem_iff.mp Y)).2]) h9 (by rw[pp.length_eq];show h5) λqs pq hi h3 c F3 N3=>#[_,rfl,?_]
    let#[hs,g1,d1,t1,o1]:=L;subst hg ho;show#[.ref _,_,Inv.laidD (s:=s) (t':=t1) (d':=d1) (o:=.lst (qs.map λp=>V.ref p.2)) I (λm' x=>by rw[Jp x F.ns];show F3.ns) (GI F F3 (tl N3)) B ?_,rfl,q qs (pq.trans pp) hi _ ?_]
    .show#[by rw[qo,pq.length_eq,pp.length_eq,zm];lia,_,c,HG qs,(N3 (_,_) qm).1]
    .cases e:H hs.objs.size with
     |none=>rfl
     |some u=>let#[v,z]:=zS.there (I.hok _ u e);rw[B]at z;cases z
def LM(h:l.length<2):eL l=l:=by
 match l,h with
 |[],_=>rfl
 |[_],_=>rfl
def Ko:∀{sh:List Bool}{l:List D},eY sh l->l.all bC=true
 |[],[],_=>rfl
 |[],_::_,h=>h.elim
 |t::_,[],h=>by cases t<;>show h.elim
 |t::sh,a::l,h=>by cases t<;>cases a<;>first|show h.elim|show Ko (sh:=sh) (l:=l) h
def Sz:bX K (iP K) eI:=by
 intro Z U F G H vs ds s Q B re e J;let#[d,v,rfl,rfl]:=AN (λx y r=>by cases x<;>rfl) rfl re e;let O:∀{a:Addr}{xs:List V}{l:List D},(bM K H a xs\/H a=⇑(.set xs))->zR K F xs l->cQ l=⇑s->iP K [.ref a] H Q:=λ{a xs l} h6 r e=>by
  unfold cQ at e;split at e
  .rename_i hc;cases e;show#[a,xs,rfl,h6,?_];let#[M,hc]:=hc;let h8:=r.len;rcases hc with h2|hi|hs|⟨sh,h7,h3⟩
   .show .inl #[∅,λq L=>?_];rw[LM h2]at J;show J _ F _ (zF.refl F) (B.newLD L r)
   .obtain⟨ns,q1⟩:=isSome_iff_exists.mp hi;let#[e1,e2]:=Qq r q1;subst e1 e2;show .inr (.inl #[ns,rfl,by rwa[qo]at M,λh4 p pw q L=>?_]);rw[Ij OF (m:=h4.map D.int) (λd hd=>by let#[z,_,rfl]:=qJ.mp hd;trivial) (p.map _) (pairwise_map.mpr (pw.imp λ{a b} h=>by rw[NV];show qQ h))]at J;show J _ F _ (zF.refl F) (B.newLD L (HX h4))
   .obtain⟨ys,q2⟩:=isSome_iff_exists.mp hs;let#[zs,e1,e2]:=Ku r q2;subst e1;let#[e3,sm]:=Mb r rfl;subst e3;show .inr (.inr (.inl #[zs,rfl,by rwa[qo]at M,λY p pw q L=>?_]));rw[Ij HE (m:=Y.map λz=>D.str z.cps.toList) (λd hd=>by let#[z,_,rfl]:=qJ.mp hd;trivial) (p.map _) (TV Y pw)]at J;show J _ F _ (zF.refl F) (B.newLD L (Lw Y λz hz=>sm z (p.mem_iff.mp hz)))
   .by_cases h2:l.length<2
    .show .inl #[∅,λq L=>?_];rw[LM h2]at J;show J _ F _ (zF.refl F) (B.newLD L r)
    .let h5:l.all (dC true)=true:=qH.mpr λd hd=>by let:=h3 d hd;cases d<;>first|exact this.elim|exact Ko this
     let#[ps,rfl,rfl,hf]:=HL r h5;rw[qo]at M h2;show .inr (.inr (.inr #[ps,sh,rfl,∅,M,λp hp=>#[B.fr _ _ (hf p hp),h3 (tK p) (qJ.mpr #[p,hp,rfl])],h7,λqs pq pw q L=>?_]));rw[Ij (Gk sh) h3 (pq.map tK) pw]at J;show J _ F _ (zF.refl F) (B.newLD L (zR.of_all λi hi=>zR.to_all r i (pq.mem_iff.mp hi)))
  .cases e
 cases d with
 |lst l=>let#[a,xs,rfl,h1,r1]:=re.1.lst B.fr;show O (.inl h1) r1 e
 |set l=>let#[a,xs,rfl,h1,r1]:=bF.set re.1;show O (.inr (B.fr _ _ h1)) r1 e
 |_=>cases e
def Ky(J:bD k X.A)(M:Gl X "sorted")(L:X.mg "sorted"=none)(G:bootBuiltins "sorted"=⇑(.builtin "sorted"))(Y:FA X (e::es) F)(O:autoParam (starEach (e::es) X.env=(false,eval e X.env)::starEach es X.env) rZ9)(B:autoParam ((backTo pos (starEach es X.env)).any (·.1)=false) rZ9):FE X (.Call (.Name "sorted" p) (e::es) [] pos) (wB eI F):=
 EN (λpn xe=>SD (X:=wp X pn xe) J.hd) Sz M L G Y ⋯ ⋯ O B
def Hu:∀{xs:List V}{us:List Value},zQ xs us->∀{j:Nat}{u:Value},us[j]?=⇑u->∃v,xs[j]?=⇑v/\zJ v u
 |_,_,.nil,j,u,h=>by simp at h
 |_,_,.cons a b,0,u,h=>by cases h;show#[_,rfl,a]
 |_,_,.cons a b,j+1,u,h=>Hu b (j:=j) h
end
end FL
namespace TS
open PySem PyProof.Rows
def GC:∀vs:List Value,vs.zip vs=vs.map λv=>(v,v)
 |[]=>rfl
 |v::r=>by show(v,v)::r.zip r=_;rw[GC r];rfl
end TS
namespace ST
open PySem
section
def CW(h:Q (.ref s.heap.objs.size) {s with heap:=s.heap.push (freshSet (ldOf w))}):
  codeAny (model prog w) A (.call (.builtin "set.__new__") #[[.type "set"],[]]) (wants Q E) s:=by
 show codeAny_of_tree ?_;show qa (zr F.newCall_set_0 (qb #[plainId_quiet F.plain_set_new _,codeAny_builtin F.entry_set_new ?_]));unfold Builtin.«set.__new__» Builtin.Frozenset.newClass;let B:=sub_set_self
 wp_walk
 show wpAny_askSetting (qb ?_);show qa (wpAny_alloc (qb ?_));show qb h
set_option maxHeartbeats 1000000 in
theorem call_set0(h:Q (.ref s.heap.objs.size) {s with heap:=s.heap.push (freshSet (ldOf w))}):wpAny (model prog w) A (call (.type "set") []) Q E s:=by
 let#[c,tl,h5]:=F.called_set.mro;let h3:=F.called_set.made;let h4:=F.called_set.sub;show wpAny_call (codeAny_of_tree ?_);show wpAny _ _ (callAny (.type "set") _) _ _ _;show qb #[Code.quiet_builtin _ (by decide+kernel),codeAny_builtin F.entry_type_call ?_];rw[Around.under_plain (weight_type_call_type "set" [] []) rfl];let h1:=F.called_set.notType;let h2:=F.called_set.canCreate;let h7:=F.typeCall_set_0
 repeat (any_goals (first|assumption|wp_step))
 show codeAny_mono (CW (E:=E) (Q:=λO J=>O=.ref s.heap.objs.size/\J={s with heap:=s.heap.push (freshSet (ldOf w))}) #[rfl,rfl]) λr J Y=>?_;cases r with
 |error e=>show Y
 |ok fl=>
  cases fl with
  |ret O=>
   let#[rfl,rfl]:=Y;let hT:Shared.TypeIs {s with heap:=s.heap.push (freshSet (ldOf w))} (.ref s.heap.objs.size) "set":=⟨_,qd _ rfl,rfl⟩
   let h6:=F.called_set.init.lookup;let h8:=F.called_set.init.bind (.ref s.heap.objs.size)
   repeat (any_goals (first|assumption|wp_step))
   show codeAny_mono (codeAny_call_builtin (R:=wants (λr G=>r=.none/\Q (.ref s.heap.objs.size) G) E) F.called_set.init.plain F.entry_set_init (check_set_init hT ?_)) λM G B=>?_
   .unfold Builtin.«set.__init__» noKeywords
    wp_walk
    show#[rfl,h]
   .cases M with
    |error e=>show B
    |ok L=>
     cases L with
     |ret r=>
      let#[rfl,hq]:=B
      repeat (any_goals (first|assumption|wp_step))
     |_=>show B.elim
  |_=>show Y.elim
variable{K:Type}[DecidableEq K]{knd:KeyKind prog w K}{a:Addr}{xs:List (K×Value)}{ld:Bool}
def VSet.setOf(x:VSet ld knd h a xs)(hz:xs.length<=151):h.SetOf knd a (λk=>↥(k∈xs.map (·.1))) xs.length:=by
 let#[o,es,ep,t,L,hex,Y,T,J,G,M]:=x;let F:es.size=xs.length:=by rw[<-qU,J];simp[eG]
 show#[o,es,ep,t,L,hex,Y,Cq J G,λk=>?_,by show es.size<4096;lia,T.fit,F];rw[J,decide_eq_true_iff,qJ];constructor
 .rintro⟨p,B,rfl⟩;show#[_,qJ.mpr #[p,B,rfl],(G p B).1]
 .rintro⟨e,O,q⟩;let#[p,B,rfl]:=qJ.mp O;show#[p,B,(knd.inj p.2 k p.1 q (G p B).1).symm]
end
end ST
namespace FL
open PySem PySem.Spec PyProof.Rows L2
def lF:WE:=λU Q _=>Q (.v (.set [])) U
def hU(j:Nat)(e:WE):WE:=λU Q E=>match slot U j with
 |some (.set _)=>e U (λr B=>zz (give r B) λp=>match slot p.2 j with
  |some (.set l)=>bT (p.1.toD::l)=true/\l.length<=150/\Q (.v (.sh .non)) (p.2.set j ⇑(.set (bZ l p.1.toD)))
  |_=>False) E
 |_=>False
open Classical in
def gU(a:D):D->Option Bool
 |.set l=>if bC a&&l.all bC then ⇑↥(a∈l)else none
 |_=>none
def Oi(Y:Gl X "set")(O:X.mg "set"=none):FE X (.Call (.Name "set" np) [] [] pos) lF:=λpn xe hp=>by intro zT s Z H Q I q;let#[F,G,U,P,PX,B,L,J,hx]:=q;show wpAny_Call_Name_kw (Dz (X:=wp X pn xe) I Y O Hh ?_ ⋯ ⋯);show PyProof.Rows.callWith_type0 (ST.call_set0 ?_);let M:=I.hok.fresh (q9 s.heap.objs.size);let I1:=I.laid (a:=s.heap.objs.size) (o:=.set []) (h':=s.heap.push (ST.freshSet (ST.ldOf X.w))) (t':=s.toks) (λ_ _ q=>qc _ q) (q9 _) (Qs (X:=X) _ s.heap I.big);show#[.ref s.heap.objs.size,_,I1,rfl,J _ U _ F _ L (zF.refl F) (B.newO M (.st AI .nil)) trivial]
def TL{zT:List (Addr×Obj)}{Z:St}{H:Hp}{s:Shared}{a:Addr}(I:Inv X zT Z H s)(h:H a=⇑(.set vs)):∃B,s.heap.get? a=⇑B/\B.dict=none:=by
 rcases I.hok a _ h with⟨_,⟨_,h1⟩|⟨_,_,_,o,_,_,_,h1,h2,_⟩|⟨_,_,_,_,o,_,_,_,h1,h2,_⟩⟩
 .show#[_,h1,rfl]
 .show#[o,h1,h2.2.1]
 .show#[o,h1,h2.2.1]
def Ob(hu:X.A.units+1<cLine)(ho:FE X o (zv j))(he:FE X e we)
  (Y:autoParam (attributeBase o "add" X.env (eval o X.env)=eval o X.env) rZ9)
  (h3:autoParam (((backTo cpos (starEach [e] X.env)).all (λx=>!x.1)&&(backToKw cpos (keywordEach [] X.env)).all (λx=>x.1.isSome)
   &&↥([e].length+([]:List Keyword).length+(if([]:List Keyword).isEmpty then 0 else 1)<30))=true) rZ9)
  (O:autoParam ((apos.endLine==cpos.line)=true) rZ9)(hs:autoParam (starEach [e] X.env=[(false,eval e X.env)]) rZ9):FE X (.Call (.Attribute o "add" apos) [e] [] cpos) (hU j we):=λpn xe hp=>by
 intro zT s Z H Q I q;let#[F,G,U,P,PX,h7,M,h9,hx]:=q;unfold hU at M;cases qs:slot U j with
 |none=>rw[qs]at M;show M.elim
 |some s0=>
  cases s0 with
  |set l0=>
   rw[qs]at M;show wpAny_Call_method_late Y h3 O rfl (Af (ho pn xe hp zT s Z H (λo' H1=>∃a F1,o'=.ref a/\zF F F1/\Rel X.K U Z F1 G H1/\Z[j]?=⇑⇑(.ref a)/\∃vs,H1 a=⇑(.set vs)) I #[F,G,U,λy h1=>y=.loc j/\h1=U,PX,h7,by unfold zv;rw[qs];show#[rfl,rfl],λy h1 o' F1 H1 B s1 r1 rv=>?_,hx]) λv s1 zq=>?_)
   .obtain⟨rfl,rfl⟩:=B;let l1:=Ag r1;let J:Z[j]?=⇑⇑o':=rv;let L:=r1.drop l1;let#[v',fp,e1,sr]:=L.at qs;rw[J]at e1;let e2:o'=v':=by simpa using e1
    subst e2;cases sr with
    |st hD rl=>show#[_,F1,rfl,s1,L,J,_,hD]
   .obtain⟨x,H1,I1,r1,a,F1,rfl,sm,h2,J,e4,h4⟩:=zq;obtain rfl:v=Value.ref a:=r1;show#["set","set.add",PySem.F.plainAttrs_set,PySem.F.slot_set_add,PySem.F.type_set_add,EU I1 h4,λb z=>by cases z;show TL I1 h4,?_];rw[hs];refine Calls.callWith_builtin rfl (Calls.evalArgs_plain (Calls.spliced_cons (Af (he pn xe hp zT s1 Z H1 (λv H2=>∃F2 U2 t l,zF F F2/\Rel X.K (U2++[⇑t]) (Z++[⇑v]) F2 G H2/\slot U2 j=⇑(.set l)/\bT (t.toD::l)=true/\l.length<=150/\P (.v (.sh .non)) (U2.set j ⇑(.set (bZ l t.toD)))) I1 #[F1,G,U,_,PX,h2,M,λr U2 v F2 H2 B s2 L rv=>?_,hx.grow sm]) λu s2 zq=>Calls.spliced_nil ?_)))
    .obtain⟨⟨t,h5⟩,eg,B⟩:=Ak B;let#[F3,s3,l3,r3]:=Ax (U':=[]) (Z':=[]) L (Ag L) rv eg;split at B
     .rename_i l e;show#[F3,h5,t,l,sm.trans (s2.trans s3),r3,e,B.1,B.2.1,B.2.2]
     .show B.elim
    .obtain⟨v,H2,I2,rv,F2,U2,t,l,h6,L,h8,B,hz,hP⟩:=zq;let#[vs,b,hD,e3,sa,r3]:=Rel.sadd L h8 J B;show ST.call_add_of (EU I2 hD) (MF hu I2 hD ∅ sa rv λs' _ I'=>?_);show#[.non,_,I',rfl,h9 _ _ .non F2 _ hP h6 (r3.push .non) trivial]
  |_=>rw[qs]at M;show M.elim
def lR:R2:=λx y H Q=>∃(a:Addr)(ks:List aP)(k:aP)(b:Bool),y=.ref a/\H a=⇑(.set (ks.map kV))/\x=kV k/\(b=true↔k∈ks)/\Q (.bl b) H
def QP:OpR X (compareOp .In) lR:=λzT s Z H x y v u Q I F L q=>by
 let#[a,ks,k,b,rfl,J,rfl,G,q]:=q;cases(show u=Value.ref a from L);let#[xs,B,S]:=JS I J rfl;let M:=(show zS X.prog X.w H s.heap a (.set (ks.map kV)) from I.hok a _ J).1;show wpAny_inSet_of (Fc F) (Hy F) (S.setOf (by let:=B.length_eq;rw[qo]at this M;lia)) #[.bl _,H,I.tok _,?_,q];congr 1;show Bool.eq_iff_iff.mpr #[λz=>G.mpr (B.mem_iff.mpr ?_),λz=>?_]
 .simpa only[qS] using z
 .simpa only[qS] using B.mem_iff.mp (G.mp z)
def Tf{K:W.Frag}:bL K lR gU:=λH x y p q k Q L J e M=>by
 cases J with
 |st Y G=>
  unfold gU at e;split at e
  .rename_i B;cases B;split at e
   .rename_i F;rw[and_eq_true]at F;let#[c,rfl,rfl]:=Gv L F.1;let#[ks,rfl,rfl]:=Fp G F.2;show#[_,ks,c,k,rfl,Y,rfl,?_,M];rw[<-qf e];simp only[qS];show qJ.trans #[λ⟨d,O,z⟩=>EC z▸O,λz=>#[c,z,rfl]]
   .show absurd e (by simp)
  .rename_i B;show(B _ rfl).elim
 |_=>cases e
end FL
namespace FL
def nF(j:Nat):WE:=λU Q _=>match slot U j with
 |some (.lst l)=>zz l[l.length-1]? λs=>Q (.v s) (U.set j ⇑(.lst l.dropLast))
 |_=>False
end FL
namespace FL
open PySem PySem.Spec PyProof.Rows L2
def On{j:Nat}{o:Expr}{apos L:Pos}(ho:FE X o (zv j))(O:autoParam (attributeBase o "pop" X.env (eval o X.env)=eval o X.env) rZ9)(M:autoParam ((apos.endLine==L.line)=true) rZ9):
  FE X (.Call (.Attribute o "pop" apos) [] [] L) (nF j):=λpn xe hp=>by
 refine PE.imp (OB (X:=wp X pn xe) PySem.F.plainAttrs_list PySem.F.slot_list_pop PySem.F.type_list_pop Oz (ho pn xe hp) O M) λZ H Q q=>?_;let#[F,G,U,P,PX,h4,hw,h5,hx]:=q;let B:(match slot U j with
  |some (.lst l)=>zz l[l.length-1]? λs=>P (.v s) (U.set j ⇑(.lst l.dropLast))
  |_=>False):=hw
 cases Y:slot U j with
 |none=>rw[Y]at B;show B.elim
 |some s0=>
  cases s0 with
  |lst l0=>
   rw[Y]at B;let#[s,es,hk]:=Ak B;show#[F,G,U,λy h1=>y=.loc j/\h1=U,PX,h4,by unfold zv;rw[Y];show#[rfl,rfl],λy h1 o' F1 H1 h6 s1 r1 rv=>?_,hx];let#[rfl,rfl]:=h6;let l1:=Ag r1;let h2:Z[j]?=⇑⇑o':=rv;let r2:=r1.drop l1;let#[v',fp,e1,sr]:=r2.at Y;rw[h2]at e1;let e2:o'=v':=↑e1
   subst e2;cases sr with
   |lst hD rl=>rename_i a xs fl;let#[ys,y,h3,J,hy,r5]:=Rel.popItem r2 Y h2 es;rw[hD]at h3;cases h3;rw[Iu,<-J,Iu]at r5;show#[.inl #[rfl,_,bM.of hD],a,xs,y,rfl,rfl,hD,by rw[J];show hy,h5 _ _ y F1 _ hk s1 r5 trivial]
  |_=>rw[Y]at B;show B.elim
end FL
namespace FL
mutual
def oC:D->D->Bool
 |.int _,.int _=>true
 |.tup l,.tup m=>eN l m
 |_,_=>false
def eN:List D->List D->Bool
 |a::l,b::m=>oC a b&&eN l m
 |_,_=>true
end
end FL
namespace FL
open PySem PySem.Spec PyProof.Rows L2
def cD(H N:Hp):Hp:=λa=>(N a).or (H a)
section
variable{K:W.Frag}
def EA(B:∀a o,N a=⇑o->H a=none)(e:H b=⇑o):cD H N b=⇑o:=by
 unfold cD;cases q:N b with
 |none=>show e
 |some u=>rw[B b u q]at e;cases e
def Inv.many(I:Inv X zT Z H s)(k:∀b u,s.heap.get? b=⇑u->h'.get? b=⇑u)(G:∀a o,N a=⇑o->s.heap.objs.size<=a)(new:∀a o,N a=⇑o->zS X.prog X.w (cD H N) h' a o):
  Inv X zT Z (cD H N) {s with heap:=h',toks:=t'}:=by
 let B:∀a o,N a=⇑o->H a=none:=λa o e=>I.hok.fresh (G a o e);show I.un #[λb u q _ _ _=>k b u q,λb u q _ _ _=>#[u.slots,k b u q],λb u q n _=>?_,λb u q _=>#[u,k b u q],λb xs q=>EA B q,λb u xs q=>EA B q,λb ps q=>#[#[],by rw[EA B q];simp]] λb u e=>?_
 .unfold cD;cases e:N b with
  |none=>show n
  |some v=>show absurd (G b v e) (Nat.not_le.mpr (qe q))
 .cases q:N b with
  |some v=>
   let F:cD H N b=⇑v:=by unfold cD;rw[q];rfl
   rw[F]at e;cases e;show new b _ q
  |none=>
   let F:H b=⇑u:=by unfold cD at e;rw[q]at e;show e
   show(I.hok b u F).stay (λc v _ z=>k c v z) (λc z=>EA B z) λc xs z=>EA B z
def Rel.many(r:Rel K U Z F G H)(L:∀a o,N a=⇑o->H a=none):zF F (cD F N)/\Rel K U Z (cD F N) G (cD H N):=by
 have Y:∀a o,N a=⇑o->F a=none:=λa o e=>(r.free (L a o e)).1;let M:zF F (cD F N):=λa o e=>EA Y e;let#[fp,e,O,ap]:=r.en;let B:∀a,(∃o,H a=⇑o)->N a=none:=λa⟨o,h⟩=>by
  cases q:N a with
  |none=>rfl
  |some u=>rw[L a u q]at h;cases h
 show#[M,λa o q=>?_,λa o q=>?_,fp,e.mono M λa J=>?_,O,λa J=>#[?_,(ap a J).2]]
 .unfold cD at q⊢;cases z:N a with
  |some u=>rw[z]at q;show q
  |none=>rw[z]at q;show r.fr a o q
 .obtain⟨⟨h1,h2⟩,h3⟩:=r.gr a o q;show#[#[EA L h1,h2],by unfold cD;rw[B a #[o,h1]];show h3]
 .obtain⟨o,h,_⟩:=e.in_ a J;unfold cD;rw[B a #[o,h]];rfl
 .obtain⟨o,h,_⟩:=e.in_ a J;unfold cD;rw[B a #[o,h]];show(ap a J).1
def kS(as:List Addr)(h:Heap):Hp:=λa=>if a∈as then(match h.get? a with
 |some o=>match o.data with
  |.seq zX _=>(zX.toList.mapM xQ).map .tup
  |_=>none
 |none=>none)else none
def NH{as:List Addr}{h:Heap}(G:a∈as)(e:h.get? a=⇑(ST.tup2 u v))(F:zJ x u)(B:zJ y v):kS as h a=⇑(.tup [x,y]):=by unfold kS;rw[qZ G,e];simp[F.abs,B.abs]
end
open PySem.SeqAt AutoSeq1
def xK:bJ (.int i) (.int j)=if i<j then .lt else if j<i then .gt else .eq:=rfl
mutual
theorem QF:∀(d:D),oC d d=true->bJ d d=.eq
 |.int i,_=>by rw[xK,q8 (Int.lt_irrefl i),q8 (Int.lt_irrefl i)]
 |.tup l,h=>La l h
 |.non,h|.bl _,h|.str _,h|.lst _,h|.dct ..,h|.set _,h|.exc ..,h=>by cases h
theorem La:∀(l:List D),eN l l=true->aE l l=.eq
 |[],_=>by rw[aE]
 |d::l,h=>by rw[eN,and_eq_true]at h;rw[aE,QF d h.1];show La l h.2
end
mutual
theorem MY:∀(d e:D),oC d e=true->bJ d e=.eq->d=e
 |.int i,e,h,c=>by
  cases e with
  |int j=>
   rw[xK]at c;split at c
   .cases c
   .split at c
    .cases c
    .rw[show i=j by lia]
  |_=>cases h
 |.tup l,e,h,c=>by
  cases e with
  |tup m=>rw[JP l m h c]
  |_=>cases h
 |.non,_,h,_|.bl _,_,h,_|.str _,_,h,_|.lst _,_,h,_|.dct ..,_,h,_|.set _,_,h,_|.exc ..,_,h,_=>by cases h
theorem JP:∀(l m:List D),eN l m=true->aE l m=.eq->l=m
 |[],[],_,_=>rfl
 |[],_::_,_,c=>by rw[aE]at c;cases c
 |_::_,[],_,c=>by rw[aE]at c;cases c
 |d::l,e::m,h,c=>by
  rw[eN,and_eq_true]at h;rw[aE]at c;cases q:bJ d e with
  |eq=>rw[q]at c;rw[MY d e h.1 q,JP l m h.2 c]
  |lt=>rw[q]at c;cases c
  |gt=>rw[q]at c;cases c
end
mutual
theorem Sw:∀(d e:D),oC d e=true->aQ d e=false
 |.int i,e,h=>by cases e<;>first|rfl|cases h
 |.tup l,e,h=>by
  cases e with
  |tup m=>show LW l m h
  |_=>cases h
 |.non,_,h|.bl _,_,h|.str _,_,h|.lst _,_,h|.dct ..,_,h|.set _,_,h|.exc ..,_,h=>by cases h
theorem LW:∀(l m:List D),eN l m=true->bO l m=false
 |[],[],_=>rfl
 |[],_::_,_=>rfl
 |_::_,[],_=>rfl
 |d::l,e::m,h=>by rw[eN,and_eq_true]at h;show(aQ d e||bO l m)=false;rw[Sw d e h.1,LW l m h.2];rfl
end
end FL
namespace FL
def fo(g:Bool)(o:Ordering):Bool:=g !=(o==.lt)
def fK:D->D->Bool
 |.int _,.int _=>true
 |.str _,.str _=>true
 |_,_=>false
def eE:List D->List D->Bool
 |a::l,b::m=>fK a b&&eE l m
 |_,_=>true
def iG(g:Bool):D->D->Option Bool
 |.tup l,.tup m=>if eE l m=true then ⇑(fo g (aE l m))else none
 |_,_=>none
end FL
namespace FL
open PySem PySem.Spec PyProof.Rows L2
def SW:∀(d:D),fK d d=true->bJ d d=.eq
 |.int i,_=>by rw[DQ,q8 (Int.lt_irrefl i),q8 (Int.lt_irrefl i)]
 |.str l,h=>by rw[DN,q8 (List.lt_irrefl _),q8 (List.lt_irrefl _)]
def Pe:∀(d e:D),fK d e=true->bJ d e=.eq->d=e
 |.int i,.int j,h,c=>by
  rw[DQ]at c;split at c
  .cases c
  .split at c
   .cases c
   .rw[show i=j by lia]
 |.str x,.str y,h,c=>by
  rw[DN]at c;rcases GO x y with z|z|z
  .rw[qZ z]at c;cases c
  .rw[q8 (lt_asymm z),qZ z]at c;cases c
  .rw[z]
open PySem.SeqAt AutoSeq1
def vF:Bool->CmpOp
 |false=>.Lt
 |true=>.GtE
def ik(g:Bool)(A:Around)(s:Shared)(y x:Value)(b:Bool):Prop:=
 ∀(prog:Program)(w:World)(E:zu)(Q:zu),Q (.bool b) s->wpAny (model prog w) A (richCompare (vF g) y x) Q E s
open Classical in
def iZ(g:Bool)(A:Around)(s:Shared):List Value->List Value->List D->List D->Prop
 |v::vs,w::ws,d::ds,e::es=>(fK d e=true/\EqAt A s v w ↥(d=e)/\ik g A s v w (fo g (bJ d e)))/\iZ g A s vs ws ds es
 |[],ws,[],es=>ws.length=es.length
 |_::_,[],_::_,[]=>True
 |_,_,_,_=>False
def bG:Bool->Builtin
 |false=>Builtin.«tuple.__lt__»
 |true=>Builtin.«tuple.__ge__»
open Classical in
set_option maxHeartbeats 4000000 in
def Sy(gg:Bool)(l b:Addr)(items items2:Array Value)(n n2:Nat)(dd dd2:Option Addr)(sl sl2:Array (Option Value))(ds es:List D)(z1:items.size=ds.length)(z2:items2.size=es.length):
  Meets (bG gg #[[.ref l,.ref b],[]])
   (λA R s=>s.heap.get? l=some {cls:=.type "tuple",dict:=dd,data:=.seq items n,slots:=sl}/\s.heap.get? b=some {cls:=.type "tuple",dict:=dd2,data:=.seq items2 n2,slots:=sl2}/\
    iZ gg A.in1 s items.toList items2.toList ds es/\R (.ok (.ret (.bool (fo gg (aE ds es))))) s):=by
 have fin:∀{A:Around}{s:Shared}{vs ws:List Value}{ds' es':List D},vs.zip ws=[]->iZ gg A s vs ws ds' es'->ds'.length+items2.size=es'.length+items.size->Value.bool (fo gg (aE ds' es'))=Builtin.Tuple.tupleCompareSizes (vF gg) items.size items2.size:=by
  intro A s vs ws ds' es' hz hL zW;let key:aE ds' es'=if items.size<items2.size then .lt else if items2.size<items.size then .gt else .eq:=by
   rcases vs with _|⟨v,vs⟩
   .rcases ds' with _|⟨d1,ds'⟩
    .let hL:ws.length=es'.length:=hL;rcases es' with _|⟨e1,es'⟩
     .simp at zW;rw[aE,zW];simp
     .rw[aE,qZ (by simp at zW;lia)]
    .cases ws<;>show hL.elim
   .rcases ws with _|⟨w',ws⟩
    .rcases ds' with _|⟨d1,ds'⟩
     .show hL.elim
     .rcases es' with _|⟨e1,es'⟩
      .simp at zW;rw[aE,q8 ∅,qZ ∅]
      .show hL.elim
    .rw[List.zip_cons_cons]at hz;cases hz
  rw[key];cases gg<;>simp[Builtin.Tuple.tupleCompareSizes,vF,fo]<;>grind
 have turn:∀{A:Around}{s:Shared}{v w:Value}{vs ws:List Value}{ds' es':List D},iZ gg A s (v::vs) (w::ws) ds' es'->∃d1 ds e1 es,ds'=d1::ds/\es'=e1::es/\EqAt A s v w ↥(d1=e1)/\iZ gg A s vs ws ds es/\(d1=e1->aE ds' es'=aE ds es)/\(d1≠e1->ik gg A s v w (fo gg (aE ds' es'))):=by
  intro A s v w vs ws ds' es' hL;rcases ds' with _|⟨d1,ds'⟩
  .show hL.elim
  rcases es' with _|⟨e1,es'⟩
  .show hL.elim
  let#[#[hk,he,ht],hL]:=hL;show#[d1,ds',e1,es',rfl,rfl,he,hL,λe=>?_,λe=>?_]
  .subst e;rw[aE,SW d1 hk]
  .rw[aE];cases q2:bJ d1 e1 with
   |eq=>show absurd (Pe d1 e1 hk q2) e
   |lt=>rw[q2]at ht;show ht
   |gt=>rw[q2]at ht;show ht
 show .of_wp λprog w A R s h=>?_;let#[hp,g,d,tk,os]:=s;let#[hl,hb,hL,h]:=h;let f2:=AutoSeq1.sub_tuple_tuple;generalize iZ gg=LX at fin turn hL;generalize fo gg=ff at fin turn h;cases gg<;>simp only[bG,vF]at fin⊢<;>
 .wp_walk using wpAny_loadPart' hl,wpAny_loadPart' hb,wpAny_forIn_list _ (λrest b s'=>b.1=none/\s'=#[hp,g,d,tk,os]/\∃(vs ws:List Value)(ds' es':List D),rest=vs.zip ws/\
   LX A.in1 #[hp,g,d,tk,os] vs ws ds' es'/\ds'.length+items2.size=es'.length+items.size/\R (.ok (.ret (.bool (ff (aE ds' es'))))) #[hp,g,d,tk,os]) _
  case turn=>
   rintro⟨y,x⟩ rest b s' ⟨hb',rfl,vs,ws,ds',es',hz,hL,zW,hR⟩;rcases vs with _|⟨v,vs⟩
   .rw[List.zip_nil_left]at hz;cases hz
   .rcases ws with _|⟨w',ws⟩
    .rw[List.zip_nil_right]at hz;cases hz
    rw[List.zip_cons_cons]at hz;injection hz with hyx hrest
    injection hyx with hy hx
    subst hy hx;let#[d1,ds2,e1,es2,rfl,rfl,he,hL,k1,k2]:=turn hL;simp only[qt]at zW;show qa (he prog w _ _ ?_);by_cases q:d1=e1
    .rw[k1 q]at hR;simp only[qQ q]
     wp_walk
     show#[rfl,rfl,_,_,_,_,hrest,hL,∅,hR]
    .simp only[qR q];let hri:=k2 q prog w;simp only[vF]at hri
     wp_walk using hri
     show#[_,rfl,hR]
  case fin=>
   rintro⟨b1,b2⟩ s' ⟨hb',rfl,vs,ws,ds',es',hz,hL,zW,hR⟩;simp only at hb';subst hb';rw[fin hz.symm hL zW]at hR
   wp_walk
   show#[_,rfl,hR]
  case h=>show#[rfl,rfl,items.toList,items2.toList,ds,es,rfl,hL,∅,h]
end FL
namespace FL
open PySem PySem.Spec PyProof.Rows L2
open PySem.SeqAt AutoSeq1
section
variable{X:Cx}
def PQ{A:Around}{v u:V}{F G:Value}{d e:D}(g:Bool)(O:aK X.K H v d)(M:aK X.K H u e)(J:zJ v F)(L:zJ u G)(B:fK d e=true):ik g A s F G (fo g (bJ d e)):=by
 intro prog w E Q Y;cases d with
 |int i=>
  cases e with
  |int j=>
   cases O;cases M;let#[t,rfl]:=J;let#[t',rfl]:=L;rw[DQ]at Y;cases g with
   |false=>show PyProof.Rows.lt_int (by grind[fo])
   |true=>show PyProof.Rows.ge_int (by grind[fo])
  |_=>cases B
 |str x=>
  cases e with
  |str y=>
   cases O with
   |str e1 z1=>
    cases M with
    |str e2 z2=>
     let#[t,rfl]:=J;let#[t',rfl]:=L;subst e1 e2;rw[DN]at Y;cases g with
     |false=>show PyProof.Rows.lt_str (by grind[fo])
     |true=>show PySem.P.ge_str (by grind[fo])
  |_=>cases B
 |_=>cases B
def TY:∀(d e:D),fK d e=true->aQ d e=false
 |.int _,.int _,_=>rfl
 |.str _,.str _,_=>rfl
def Sl:∀(d e:D),fK d e=true->fW d<=0
 |.int _,.int _,_=>q9 _
 |.str _,.str _,_=>q9 _
def OH(g:Bool){A:Around}(I:Inv X zT Z H s)(hu:A.units<cLine):∀{xs ys:List V}{us F:List Value}{l m:List D},zR X.K H xs l->zR X.K H ys m->zQ xs us->zQ ys F->eE l m=true->iZ g A s us F l m:=by
 intro xs;induction xs with
 |nil=>intro ys us F l m M L J G _;cases M;cases J;show G.length.symm.trans L.len
 |cons x xs ih=>
  intro ys us F l m M L J G B;cases M with
  |cons a1 b1=>
   cases J with
   |cons Y d1=>
    cases L with
    |nil=>cases G;show trivial
    |cons a2 b2=>
     cases G with
     |cons O d2=>rw[eE,and_eq_true]at B;show#[#[B.1,(Gh 0 (Sl _ _ B.1) I a1 a2 Y O (TY _ _ B.1) hu).1,PQ g a1 a2 Y O B.1],ih b1 b2 d1 d2 B.2]
def pG(K:W.Frag)(g:Bool):R2:=λx y H Q=>∃l m,aK K H x (.tup l)/\aK K H y (.tup m)/\eE l m=true/\Q (.bl (fo g (aE l m))) H
def OS(g:Bool)(hu:X.A.units+31<cLine):OpR X (compareOp (vF g)) (pG X.K g):=by
 intro zT s Z H x y v u Q I rx ry h;let#[l,m,r1,r2,hc,hq]:=h;cases r1 with
 |tup e1 q1=>
  rename_i a1 x1;cases r2 with
  |tup e2 q2=>
   rename_i a2 x2;cases rx;cases ry;let#[M,w1,#[#[c1,d1,h2,L],G,rfl,k1,rfl],_]:=I.tuple (bA.of e1);let#[B,Y,#[#[c2,d2,h1,J],F,rfl,k2,rfl],_]:=I.tuple (bA.of e2);let O:X.A.in1.units<cLine:=by show X.A.units+1<cLine;lia
   let go:=Sy g a1 a2 M.toArray B.toArray k1 k2 d1 d2 L J l m (by rw[qr,<-w1.length,q1.len]) (by rw[qr,<-Y.length,q2.len]);let sp:=OH g I O q1 q2 w1 Y hc;cases g with
   |false=>show richCompare_meets_room (op:=.Lt) #[_,G,rfl] #[_,F,rfl] PySem.F.slot_tuple_lt PySem.F.entry_tuple_lt (PySem.F.args_tuple_lt_2 _ _) go #[G,F,sp,(λx=>nomatch x),#[.bl _,H,I,rfl,hq]] ∅
   |true=>show richCompare_meets_room (op:=.GtE) #[_,G,rfl] #[_,F,rfl] PySem.F.slot_tuple_ge PySem.F.entry_tuple_ge (PySem.F.args_tuple_ge_2 _ _) go #[G,F,sp,(λx=>nomatch x),#[.bl _,H,I,rfl,hq]] ∅
def So{K:W.Frag}:bL K (pG K g) (iG g):=by
 intro H x y p q k Q F B e G;unfold iG at e;split at e
 .split at e
  .rename_i h;cases e;show#[_,_,F,B,h,G]
  .cases e
 .cases e
end
end FL
namespace FL
open PySem
def aJ(c:Nat):List Nat->List (List Nat)
 |[]=>[[]]
 |a::r=>if a=c then[]::aJ c r else match aJ c r with
  |[]=>[[a]]
  |p::ps=>(a::p)::ps
def dF(l:List Nat):List D->Option S
 |[.str [c]]=>if l.length<=big then ⇑(.lst ((aJ c l).map λp=>S.sh (.str p)))else none
 |_=>none
def aH(i:Int):List Nat:=(Str.ofString (toString i)).cps.toList
def kO:List D->Option S
 |[.int i]=>if -1000000000000<i/\i<1000000000000 then ⇑(.sh (.str (aH i)))else none
 |[.str l]=>⇑(.sh (.str l))
 |_=>none
def lK(l:List Nat):Nat:=l.foldl (λa c=>a*10+(c-48)) 0
def iV(l:List Nat):Bool:=l !=[]&&(↥(l.length<=640)&&l.all λc=>↥(48<=c)&&↥(c<=57))
def kD:List D->Option S
 |[.str l]=>if iV l=true then ⇑(.sh (.int (lK l:Nat)))else none
 |ds=>gX ds
def uL:D->Option (List Nat)
 |.int i=>if -1000000000000<i/\i<1000000000000 then ⇑(aH i)else none
 |.str l=>⇑l
 |_=>none
inductive FP where
 |tx(l:List Nat)
 |vl(w:WE)
def jN:List FP->List Nat->WE
 |[],a=>λU Q _=>a.length<=big/\Q (.v (.sh (.str a))) U
 |.tx l::r,a=>λU Q E=>(a++l).length<=big/\jN r (a++l) U Q E
 |.vl w::r,a=>λU Q E=>w U (λx B=>zz (view x B) λd=>zz (uL d) λl=>(a++l).length<=big/\jN r (a++l) B Q E) E
def lH:WS:=λ_ _=>False
def HJ{c:Nat}:∀{p:List Nat},c∉p->aJ c p=[p]
 |[],_=>rfl
 |a::p,h=>by unfold aJ;rw[q8 (by simp at h;show λe=>h.1 e.symm),HJ λz=>h (qk _ z)]
def Ie{c:Nat}{r:List Nat}:∀{p:List Nat},c∉p->aJ c (p++c::r)=p::aJ c r
 |[],_=>by show aJ c (c::r)=_;rw[aJ,qZ rfl]
 |a::p,h=>by rw[cons_append,aJ,q8 (by simp at h;show λe=>h.1 e.symm),Ie λz=>h (qk _ z)]
def kX:D->D->Option (List D)
 |.tup l,.tup m=>if l.length=m.length/\l.length<=big then ⇑(gI l m)else none
 |_,_=>none
def iL(a b:WE):WE:=λU Q E=>a U (λr F=>b F (λt B=>zz (give r B) λp=>zz (give t p.2) λq=>zz (kX p.1.toD q.1.toD) λl=>Q (.v (.lst (l.map .sh))) q.2) E) E
end FL
namespace FL
open PySem PySem.Spec PyProof.Rows L2
open Builtin Builtin.Str in
def RL{prog:Program}{w:World}{A:Around}{E:zu}{s:Shared}{x y:Str}{t u:Tok}{Q:zu}(J:(y.length==0)=false)(hz:x.length+2<=sizeLine)
  (G:∀(l:List (Str×Tok)) tk,l.map (·.1)=Txt.split x y->Q (.ref s.heap.objs.size) {s with heap:=s.heap.push {cls:=.type "list",data:=.seq (strValues l).toArray},toks:=tk}):
  wpAny (model prog w) A (call (.builtin "str.split") [.str x t,.str y u]) Q E s:=by
 cases h1:(↥(x.length<y.length)||↥(strKind x<strKind y))
 .cases B:(occurrences x y 0 x.length (x.length+1)).isEmpty
  .let L:(partsBetween x (occurrences x y 0 x.length (x.length+1)) y.length).length<=sizeLine:=by let:=split_le x y;unfold Txt.split at this;rw[h1,B]at this;simp at this;omega
   show call_meets F.slot_str_split (typeIs_str _ _ _) F.entry_str_split (F.args_str_split_2 _ _) (meets_str_split_sep x y t u h1 J B (by omega) L) ?_;show wants Q E _ {s with toks:=_,heap:=s.heap.push {cls:=.type "list",data:=.seq (strsFrom s.toks (partsBetween x (occurrences x y 0 x.length (x.length+1)) y.length)).toArray}};rw[strsFrom_eq];show G (numbered s.toks _) _ ((numbered_texts _ _).trans ((q8 (ne_true_of_eq_false h1)).trans (q8 (ne_true_of_eq_false B))).symm)
  .exact call_meets F.slot_str_split (typeIs_str _ _ _) F.entry_str_split (F.args_str_split_2 _ _) (meets_str_split_not_found x y t u h1 J B)
    (G [(x,t)] _ ((q8 (ne_true_of_eq_false h1)).trans (qZ B)).symm)
 .exact call_meets F.slot_str_split (typeIs_str _ _ _) F.entry_str_split (F.args_str_split_2 _ _) (meets_str_split_cannot_occur x y t u h1)
   (G [(x,t)] _ (qZ h1).symm)
def Mp{c:Nat}:∀{ps:List Str},ps≠[]->(∀p∈ps,c∉p.cps.toList)->aJ c (Str.join #[[c].toArray] ps).cps.toList=ps.map λp=>p.cps.toList
 |[],h,_=>absurd rfl h
 |[p],_,h=>HJ (h p (by simp))
 |p::q::r,_,h=>by
  let B:=Mp (ps:=q::r) (by simp) λx F=>h x (qk _ F);show aJ c (p++#[[c].toArray]++Str.join #[[c].toArray] (q::r)).cps.toList=_;let e:(p++#[[c].toArray]++Str.join #[[c].toArray] (q::r)).cps.toList=p.cps.toList++c::(Str.join #[[c].toArray] (q::r)).cps.toList:=by show(p.cps++ [c].toArray++(Str.join #[[c].toArray] (q::r)).cps).toList=_;simp
  rw[e,Ie (h p (by simp)),B];rfl
def QB(x:Str)(c:Nat):(Txt.split x #[[c].toArray]).map (λp=>p.cps.toList)=aJ c x.cps.toList:=by
 let B:Txt.split x #[[c].toArray]≠[]:=λz=>by let:=split_pos x #[[c].toArray];rw[z]at this;show absurd this ⋯
 rw[<-Mp B (StrLaws.split_free x c),StrLaws.join_split]
section
variable{K:W.Frag}
def lO:V->List V->Hp->VK->Prop:=λx vs H Q=>∃(z:Str)(c:Nat),x=.str z/\vs=[.str #[[c].toArray]]/\z.length+2<=sizeLine/\∀l,H l=none->Q (.ref l) (upd H l (.lst ((Txt.split z #[[c].toArray]).map V.str)))
def Lx:∀{l:List (Str×Tok)}{ps:List Str},l.map (·.1)=ps->zQ (ps.map V.str) (strValues l)
 |[],_,h=>by subst h;show .nil
 |(x,t)::l,_,h=>by subst h;show .cons #[t,rfl] (Lx (l:=l) rfl)
def Rl:uX X "str.split" lO:=by intro zT s Z H x vs v O Q I F G h;let#[z,c,rfl,rfl,L,q]:=h;let#[u,rfl,J]:=G.one;let#[t,rfl]:=F;let#[t',rfl]:=J;show RL (by rfl) L λl tk M=>?_;let B:=split_le z #[[c].toArray];show#[.ref s.heap.objs.size,_,I.laid (t':=tk) (λb o e=>qc _ e) (q9 _) (show zS X.prog X.w _ (s.heap.push _) _ (.lst ((Txt.split z #[[c].toArray]).map V.str)) from#[by rw[qo];omega,_,0,Lx M,qd _ rfl]),rfl,q _ (I.hok.fresh (q9 _))]
def Lo:∀{ps:List Str}{ls:List (List Nat)},ps.map (λp=>p.cps.toList)=ls->(∀p∈ps,p.length<=16777216)->zR K F (ps.map V.str) (ls.map D.str)
 |[],_,h,_=>by subst h;show .nil
 |p::ps,_,h,hz=>by subst h;show .cons (.str rfl (hz p (by simp))) (Lo rfl λx B=>hz x (qk _ B))
def Tv:jC K lO dF:=by
 intro Z U F G H x vs ds s Q B hz M e O;let#[d,v,rfl,rfl]:=AN (λx y r=>by cases x with
  |str l=>cases l with
   |nil=>rfl
   |cons a l=>cases l<;>rfl
  |_=>rfl) rfl M e
 cases d with
 |str m=>
  let#[y,rfl,L,z]:=M.1.str;match m,L,e with
  |[c],L,e=>
   let e:(if x.cps.toList.length<=big then ⇑(S.lst ((aJ c x.cps.toList).map λp=>S.sh (.str p)))else none)=⇑s:=e;split at e
   .rename_i hb;cases e;let#[#[y]]:=y;obtain rfl:y=[c]:=L;let Y:x.cps.toList.length<=1000000:=hb;show#[x,c,rfl,rfl,by rw[Cd rfl,zm];omega,λp J=>?_];let h:=B.newLD J (Lo (K:=K) (F:=F) (QB x c) λp J=>by let:=part_short J;rw[Cd (x:=x) rfl]at this;omega)
    rw[qD]at h;show O (.ref p) F _ (zF.refl F) h
   .cases e
  |[],_,e=>cases e
  |_::_::_,_,e=>cases e
 |_=>cases e
end
def GB(O:FE X o L)(Y:FA X [e] M)
  (G:autoParam (attributeBase o "split" X.env (eval o X.env)=eval o X.env) rZ9)
  (J:autoParam (((backTo cpos (starEach [e] X.env)).all (λx=>!x.1)&&(backToKw cpos (keywordEach [] X.env)).all (λx=>x.1.isSome)
   &&↥([e].length+([]:List Keyword).length+(if([]:List Keyword).isEmpty then 0 else 1)<30))=true) rZ9)
  (F:autoParam ((apos.endLine==cpos.line)=true) rZ9)(hs:autoParam (starEach [e] X.env=(false,eval e X.env)::starEach [] X.env) rZ9)(B:autoParam ((backTo cpos (starEach [] X.env)).any (·.1)=false) rZ9):
  FE X (.Call (.Attribute o "split" apos) [e] [] cpos) (iK dF L M):=Ja (λ_ _=>Rl) Tv PySem.F.slot_str_split PySem.F.type_str_split O Y G J F hs B
def HR{i:Int}(h:-1000000000000<i/\i<1000000000000):i.natAbs.log2<1920:=by
 by_cases z:i.natAbs=0
 .rw[z];decide
 .show lt_of_lt_of_le ((log2_lt z).mpr (show i.natAbs<2^40 by omega)) ⋯
section
variable{K:W.Frag}
def vW:List V->Hp->VK->Prop:=λxs H Q=>(∃i,xs=[.int i]/\(-1000000000000<i/\i<1000000000000)/\Q (.str (toString i)) H)\/∃x,xs=[.str x]/\Q (.str x) H
def SZ:aR X (.type "str") vW:=by
 intro zT s Z H xs B Q I r h;rcases h with⟨i,rfl,hi,q⟩|⟨x,rfl,q⟩
 .obtain⟨u,rfl,t,rfl⟩:=vals1 r;show P.str_of_int (HR hi) #[.str _,H,I.tok _,#[_,rfl],q]
 .obtain⟨u,rfl,t,rfl⟩:=vals1 r;show P.str_of_str #[.str x,H,I,#[_,rfl],q]
def NW{i:Int}(h:-1000000000000<i/\i<1000000000000):aK K F (.str (toString i)) (.str (aH i)):=.str rfl (by let:=int_text_fits (a:=i) (HR h);rw[Cd rfl,zm]at this;show this)
def PK:bX K vW kO:=by
 intro Z U F G H vs O s Q B J e L;let#[d,v,rfl,rfl]:=AN (λx y r=>by cases x<;>rfl) rfl J e;cases d with
 |int i=>
  let e:(if -1000000000000<i/\i<1000000000000 then ⇑(S.sh (.str (aH i)))else none)=⇑s:=e;split at e
  .rename_i hi;cases e;let:=J.1.int;subst this;show .inl #[i,rfl,hi,L _ F H (zF.refl F) (B.push (NW hi))]
  .cases e
 |str l=>cases e;let#[x,rfl,M,z]:=J.1.str;show .inr #[x,rfl,L _ F H (zF.refl F) (B.push (.str M z))]
 |_=>cases e
def pK:List V->Hp->VK->Prop:=λxs H Q=>wJ xs H Q\/∃x:Str,∃n,xs=[.str x]/\x.length<=640/\PySem.intText? x=⇑n/\Q (.int n) H
def SF:aR X (.type "int") pK:=by
 intro zT s Z H xs B Q I r h;rcases h with h|⟨x,n,rfl,G,F,q⟩
 .show Lz zT s Z H xs B Q I r h
 .obtain⟨u,rfl,t,rfl⟩:=vals1 r;show W.KIN.call_text F G #[.int n,H,I.tok _,#[_,rfl],q]
def RO:bX K pK kD:=by
 intro Z U F G H vs ds s Q B J e M;let#[d,v,rfl,rfl]:=AN (λx y r=>by cases x<;>rfl) rfl J e;cases d with
 |str l=>
  let#[x,rfl,L,z]:=J.1.str;let e:(if iV l=true then ⇑(S.sh (.int (lK l:Nat)))else none)=⇑s:=e;split at e
  .rename_i O;cases e;unfold iV at O;simp only[and_eq_true,bne_iff_ne,qS,qH]at O;let#[h1,h2,h3]:=O;let Y:x.length<=640:=by rw[Cd L];exact h2
   show .inr #[x,_,rfl,Y,intText_digits (x:=x) (λc hc=>h3 c (by rw[<-L];show hc)) (by rw[L];show h1) (by omega),?_];rw[L];show M _ F H (zF.refl F) (B.push (.int _))
  .cases e
 |int i=>show .inl (HW Z U F G H [v] [.int i] s Q B J e M)
 |bl b=>show .inl (HW Z U F G H [v] [.bl b] s Q B J e M)
 |_=>cases e
end
def Hz(L:Gl X "str")(J:X.mg "str"=none)(G:bootBuiltins "str"=⇑(.type "str"))(O:FA X (e::es) F)(M:autoParam (starEach (e::es) X.env=(false,eval e X.env)::starEach es X.env) rZ9)(B:autoParam ((backTo pos (starEach es X.env)).any (·.1)=false) rZ9):FE X (.Call (.Name "str" p) (e::es) [] pos) (wB kO F):=
 EV (λ_ _=>SZ) PK L J G O ⋯ ⋯ M B
def Pf(L:Gl X "int")(J:X.mg "int"=none)(G:bootBuiltins "int"=⇑(.type "int"))(O:FA X (e::es) F)(M:autoParam (starEach (e::es) X.env=(false,eval e X.env)::starEach es X.env) rZ9)(B:autoParam ((backTo pos (starEach es X.env)).any (·.1)=false) rZ9):FE X (.Call (.Name "int" p) (e::es) [] pos) (wB kD F):=
 EV (λ_ _=>SF) RO L J G O ⋯ ⋯ M B
def KU{x z:Str}(O:Gl X x)(L:∃t,X.mg x=⇑(.str z t))(hz:autoParam ((↥(z.cps.toList=l)&&↥(l.length<=16777216))=true) rZ9)(Y:autoParam ((x==("__debug__":Str))=false) dZ9):FE X (.Name x pos) (wC (.str l)):=λpn xe hp=>by let#[t,L]:=L;show PE.imp (JF (X:=wp X pn xe) O L (v:=.str z) #[t,rfl] Y) λZ H Q h=>?_;let#[F,G,U,P,PX,B,M,J,hx]:=h;rw[and_eq_true,qS,qS]at hz;show J _ U _ F H M (zF.refl F) (B.push (.str hz.1 hz.2)) trivial
def Qb{x:Str}{i:Int}(O:Gl X x)(L:∃t,X.mg x=⇑(.int i t))(Y:autoParam ((x==("__debug__":Str))=false) dZ9):FE X (.Name x pos) (wC (.int i)):=λpn xe hp=>by let#[t,L]:=L;show PE.imp (JF (X:=wp X pn xe) O L (v:=.int i) #[t,rfl] Y) λZ H Q h=>?_;let#[F,G,U,P,PX,B,M,J,hx]:=h;show J _ U _ F H M (zF.refl F) (B.push (.int _)) trivial
inductive FJ(X:Cx):List Expr->List FP->Prop
 |nil:FJ X [] []
 |tx {x:Str} {l:List Nat} {es:List Expr} {fs:List FP} {k pos}:x.cps.toList=l->FJ X es fs->FJ X (.Constant (.str x) k pos::es) (.tx l::fs)
 |vl {e:Expr} {w:WE} {es:List Expr} {fs:List FP} {pos}:FE X e w->FJ X es fs->FJ X (.FormattedValue e (-1) none pos::es) (.vl w::fs)
def NP(hp:PassesOwn (model X.prog X.w) X.A X.env xe)(h:FJ X es fs):∀(B:Str)(zT:List (Addr×Obj))(s:Shared)(Z:St)(H:Hp)(Q:VK),Inv (wp X pn xe) zT Z H s->tW (wp X pn xe) (jN fs B.cps.toList) Z H Q->
  Joins (model X.prog X.w) X.A xe (evalEach es X.env) B (λM J=>M.length<=sizeLine/\EP (wp X pn xe) zT Z Q (.str M J.toks) {J with toks:=J.toks+1}) s:=by
 induction h with
 |nil=>intro B zT s Z H Q I q;let#[F,G,U,P,PX,L,hw,O,hx]:=q;let#[h1,h2]:=hw;let hb:B.cps.toList.length<=1000000:=h1;show#[by rw[Cd rfl,zm];omega,.str B,H,I.tok _,#[_,rfl],O _ U _ F H h2 (zF.refl F) (L.push (.str rfl (by omega))) trivial]
 |@tx x l es fs k pos hl _ ih=>
  intro B zT s Z H Q I q;let#[F,G,U,P,PX,L,hw,O,hx]:=q;let#[h1,h2]:=hw;let hb:(B.cps.toList++l).length<=1000000:=h1;let e:(B++x).cps.toList=B.cps.toList++l:=by show(B.cps++x.cps).toList=_;rw[toList_append,hl]
  show wpAny_Constant_str #[x,_,rfl,by rw[Cd e,zm];omega,ih (B++x) zT _ Z H Q (I.tok _) ?_];rw[e];show#[F,G,U,P,PX,L,h2,O,hx]
 |@vl e w es fs pos he _ ih=>
  intro B zT s Z H Q I q;show wpAny_FormattedValue_plain (Af (he pn xe hp zT s Z H _ I (one (k:=λx h3 Q E=>zz (view x h3) λd=>zz (uL d) λl=>(B.cps.toList++l).length<=big/\jN fs (B.cps.toList++l) h3 Q E) q)) λu s1 zq=>?_);let#[v,H1,I1,r1,q1]:=zq;let#[F,G,U,y,P,PX,L,hl,ry,hk,O,hx]:=q1;let#[d,ed,hk]:=Ak hk;let#[l,Y,hb,hk]:=Ak hk;let rp:=look (U':=[]) (Z':=[]) L hl ry ed;let hb:(B.cps.toList++l).length<=1000000:=hb;let r2:Rel X.K U Z F G H1:=L.drop hl;let go:∀(z:Str)(tk:Tok),z.cps.toList=l->(B++z).length<=sizeLine/\Joins (model X.prog X.w) X.A xe (evalEach es X.env) (B++z) (λM J=>M.length<=sizeLine/\EP (wp X pn xe) zT Z Q (.str M J.toks) {J with toks:=J.toks+1}) {s1 with toks:=tk}:=λz tk ez=>by
   let e:(B++z).cps.toList=B.cps.toList++l:=by show(B.cps++z.cps).toList=_;rw[toList_append,ez]
   show#[by rw[Cd e,zm];omega,ih (B++z) zT {s1 with toks:=tk} Z H1 Q (I1.kept (t':=tk) λ_ _ z=>z) ?_];rw[e];show#[F,G,U,P,PX,r2,hk,O,hx]
  cases d with
  |int i=>
   let Y:(if -1000000000000<i/\i<1000000000000 then ⇑(aH i)else none)=⇑l:=Y;split at Y
   .rename_i hi;cases Y;cases rp;let#[t,rfl]:=r1;show wpAny_formatField_int (HR hi) #[_,_,rfl,go _ _ rfl]
   .cases Y
  |str m=>
   cases Y;cases rp with
   |@str x _ e1 z=>let#[t,rfl]:=r1;show wpAny_formatField_str #[_,_,rfl,go _ _ e1] #[_,_,rfl,go _ _ e1] (by rw[Cd e1,zm];show z)
  |_=>cases Y
def Rp{B:Stmt}:FS X ks B lH:=λpn xe M zT s Z H D I q=>by let#[F,G,U,E,J,L,n]:=q;show L.elim
def JW(h:FJ X (G::F::es) fs):FE X (.JoinedStr (G::F::es) pos) (jN fs []):=λpn xe B=>by intro zT s Z H Q I q;show wpAny_JoinedStr (NP B h Str.empty zT s Z H Q I q)
abbrev iW(h:Heap)(z TI TO:Addr)(x:Value)(f:Bool):Prop:=h.get? z=some {cls:=.type "zip",dict:=none,data:=.fields [x,.bool f,.bool false,.ref TI,.ref TO].toArray,slots:=#[]}
section
variable{z TI TO i1 i2:Addr}
def Mj{Q:Bool->Shared->Prop}(hz:iW s.heap z TI TO (rawInt (a:Nat)) f)(J:s.heap.get? a=⇑L)(h:∀B,iW B z TI TO (rawInt (a:Nat)) true->Heap.SameBut z s.heap B->Q false {s with heap:=B}):
  wpAny (model prog w) A (Builtin.SmallTypes.ownedTupleIsFree (.ref z)) Q E s:=by
 unfold Builtin.SmallTypes.ownedTupleIsFree;apply qa;show zj hz rfl (x:=rawInt (a:Nat)) rfl ?_;show wpAny _ _ (loadIfAlive ((a:Int).toNat)>>=_) _ _ _;apply qa;show W.kdx_alive J ?_;apply qa;show zj hz rfl (x:=.bool f) rfl ?_;cases f with
 |true=>show qb (h s.heap hz (Heap.SameBut.refl _ _))
 |false=>apply qa;show zo hz (by simp) λB F G=>?_;show qb (h B F G)
def Qv{Q:zu}(Zq:gx z TI TO i1 i2 f1 f2)(D1:Draws prog w A i1 f1 n1 P1 S1)(D2:Draws prog w A i2 f2 n2 P2 S2)
  (hz:iW s.heap z TI TO (rawInt (a:Nat)) f)(ha:s.heap.get? a=⇑oa)(hI:IsPair s.heap TI (.ref i1) (.ref i2))(t1:S1 k1 s.heap)(t2:S2 k2 s.heap)(l1:k1<n1)(l2:k2<n2)
  (k:∀x y h' tk,P1 k1 x->P2 k2 y->iW h' z TI TO (rawInt (a:Nat)) true->S1 (k1+1) h'->S2 (k2+1) h'->IsPair h' s.heap.objs.size x y->
   (∀c o,c≠z->c≠i1->c≠i2->s.heap.get? c=⇑o->h'.get? c=⇑o)->Q (.ref s.heap.objs.size) {s with heap:=h',toks:=tk}):
  wpAny (model prog w) A (Builtin.«zip.__next__» #[[.ref z],[]]) (λh9 s'=>∃v,h9=.done (.ret v)/\Q v s') E s:=by
 let h8:=Bi Zq.m1 Zq.z1;let h7:=Bi Zq.m2 Zq.z2;show wpAny _ _ (field (.ref z) 2>>=_) _ _ _;apply qa;show zj hz rfl (x:=.bool false) rfl ?_;apply qa;show zj hz rfl (x:=.ref TI) rfl ?_;apply qa;show wpAny_seqItems hI rfl ?_;apply qa;show Mj hz ha λhb zb Y=>?_;let h6:S1 k1 hb:=D1.frame _ _ _ t1 λc J o q=>Y.extBut _ _ (Bi J Zq.z1) q;let h3:S2 k2 hb:=D2.frame _ _ _ t2 λc J o q=>Y.extBut _ _ (Bi J Zq.z2) q;apply qa;rw[<-forIn_toList];simp only[forIn_cons,forIn_nil];apply qa;apply qa;show zp ?_;apply qa;show D1.item k1 _ _ _ l1 h6 λx J tc px h5 O=>qb ?_;show qb ?_;let h2:S2 k2 J:=D2.frame _ _ _ h3 λc B o q=>O.extBut _ _ (Bi B Zq.c1) q;apply qa;apply qa;show zp ?_;apply qa;show D2.item k2 _ _ _ l2 h2 λy G td py h1 M=>qb ?_;show qb (qb ?_);apply qa;show wpAny_newTuple ?_ (by show 2<=sizeLine;rw[zm];decide);let F:G.objs.size=s.heap.objs.size:=by rw[M.1,O.1,Y.1]
 let zd:iW G z TI TO (rawInt (a:Nat)) true:=M.extBut _ _ (Ne.symm h7) (O.extBut _ _ (Ne.symm h8) zb);let h4:S1 (k1+1) G:=D1.frame _ _ _ h5 λc B o q=>M.extBut _ _ (Bi B Zq.c2) q;let L:∀c o,G.get? c=⇑o->(G.push {cls:=.type "tuple",data:=.seq [x,y].toArray}).get? c=⇑o:=λc o q=>qc _ q;show qb #[_,rfl,?_];rw[F];show k x y _ _ px py (L _ _ zd) (D1.frame _ _ _ h4 λc _ o q=>L c o q) (D2.frame _ _ _ h1 λc _ o q=>L c o q) (by rw[<-F];show qd _ rfl) λc o q1 q2 q3 q=>L c o (M.extBut _ _ q3 (O.extBut _ _ q2 (Y.extBut _ _ q1 q)))
def Ui(G:i1≠z)(hz:iW s.heap z TI TO (rawInt (a:Nat)) f)(J:s.heap.get? a=⇑oa)(L:IsPair s.heap TI (.ref i1) (.ref i2))
  (d:∀B,Heap.SameBut z s.heap B->∀(Q:zu)(E:zu),(∀h' e,Heap.ExtBut i1 B h'->(∃o,h'.get? e=⇑o/\o.cls=.type "StopIteration")->E (.ref e) {s with heap:=h'})->wpAny (model prog w) A (Builtin.SmallTypes.nextOf (.ref i1)) Q E {s with heap:=B})
  (k:∀h' e,(∀c o,c≠z->c≠i1->s.heap.get? c=⇑o->h'.get? c=⇑o)->(∃o,h'.get? e=⇑o/\o.cls=.type "StopIteration")->E (.ref e) {s with heap:=h'}):
  wpAny (model prog w) A (Builtin.«zip.__next__» #[[.ref z],[]]) Q E s:=by
 show wpAny _ _ (field (.ref z) 2>>=_) _ _ _;apply qa;show zj hz rfl (x:=.bool false) rfl ?_;apply qa;show zj hz rfl (x:=.ref TI) rfl ?_;apply qa;show wpAny_seqItems L rfl ?_;apply qa;show Mj hz J λB Y F=>?_;apply qa;rw[<-forIn_toList];simp only[forIn_cons,forIn_nil];apply qa;apply qa;show zp ?_;apply qa;show d B F _ _ λh' e x st=>k h' e (λc o O M q=>x _ _ M (F.extBut _ _ O q)) st
end
section
variable{z TI TO i1 i2 a1 a2 lo:Addr}{xs ys:Array Value}
inductive uY(h:Heap)(z TI TO lo:Addr):Prop
 |no {a b}:IsZip h z TI TO .none->IsPair h TO a b->uY h z TI TO lo
 |yes {a:Nat} {f oa}:lo<=a->iW h z TI TO (rawInt a) f->h.get? a=some oa->uY h z TI TO lo
structure pX(h:Heap)(z TI TO i1 i2 a1 a2 lo:Addr)(xs ys:Array Value)(i:Nat):Prop where
 hd:uY h z TI TO lo
 pr:IsPair h TI (.ref i1) (.ref i2)
 s1:h.IsTupleIter i1 a1 i
 s2:h.IsTupleIter i2 a2 i
 t1:h.IsTuple a1 xs
 t2:h.IsTuple a2 ys
structure pY(z TI TO i1 i2 a1 a2 lo:Addr):Prop where
 nd:[z,TI,TO,i1,i2].Nodup
 x1:a1∉[z,TI,TO,i1,i2]
 x2:a2∉[z,TI,TO,i1,i2]
 lt:∀b∈[z,TI,TO,i1,i2],b<lo
def pY.ap(N:pY z TI TO i1 i2 a1 a2 lo):gx z TI TO i1 i2 [i1,a1] [i2,a2]:=by let#[G,F,B,_]:=N;simp only[qK,qA,not_mem_nil,or_false,not_or]at G F B;constructor<;>grind
def Jn{Q:Option Value->Shared->Prop}(hh:A.handled=none)(N:pY z TI TO i1 i2 a1 a2 lo)(hl:xs.size=ys.size)(hlo:lo<=s.heap.objs.size)(st:pX s.heap z TI TO i1 i2 a1 a2 lo xs ys i)
  (hQ:∀(h1:i<xs.size)(h2:i<ys.size) h' tk,pX h' z TI TO i1 i2 a1 a2 lo xs ys (i+1)->IsPair h' s.heap.objs.size xs[i] ys[i]->(∀c o,c∉[z,TO,i1,i2]->s.heap.get? c=⇑o->h'.get? c=⇑o)->Q ⇑(.ref s.heap.objs.size) {s with heap:=h',toks:=tk})
  (hE:xs.size<=i->∀h',(∀c o,c∉[z,TO,i1,i2]->s.heap.get? c=⇑o->h'.get? c=⇑o)->Q none {s with heap:=h'}):wpAny (model prog w) A (pyNext (.ref z)) Q E s:=by
 obtain⟨hd,pr,s1,s2,t1,t2⟩:=st;let ap:=N.ap;let nd:=N.nd;simp only[qK,qA,not_mem_nil,or_false,not_or]at nd;let i1z:i1≠z:=Ne.symm nd.1.2.2.1;let hT:s.TypeIs (.ref z) "zip":=by
  cases hd with
  |no hz _=>show#[_,hz,rfl]
  |yes _ hz _=>show#[_,hz,rfl]
 let out:∀{c},c∉[z,TO,i1,i2]->c≠z/\c≠TO/\c≠i1/\c≠i2:=λh=>↑h
 let tup:∀{h h':Heap}{c:Addr}{vs:Array Value},(∀o,h.get? c=⇑o->h'.get? c=⇑o)->h.IsTuple c vs->h'.IsTuple c vs:=λk⟨o,e,r⟩=>#[o,k o e,r]
 let x1:=N.x1;let x2:=N.x2;simp only[qA,not_mem_nil,or_false,not_or]at x1 x2;let D1:=HU (prog:=prog) (w:=w) (A:=A.in1) hh i1 a1 (λe=>N.x1 (by simp[e])) xs;let D2:=HU (prog:=prog) (w:=w) (A:=A.in1) hh i2 a2 (λe=>N.x2 (by simp[e])) ys;unfold pyNext;by_cases hi:i<xs.size
 .let hi2:i<ys.size:=hl▸hi;show qa (wpAny_attempt (wpAny_callSpecial?_slot (name:=Str.ofString "__next__") hT F.slot_zip_next (zl F.slot_zip_next hT F.entry_zip_next ?_ (F.args_zip_next_1 _))));cases hd with
  |no hz hO=>show NU ap D1 D2 hz pr hO #[s1,t1] #[s2,t2] hi hi2 λx y h1 tk px py hz1 hO1 q1 q2 hT1 hk=>qb ?_;rw[getElem?_eq_getElem hi]at px;rw[getElem?_eq_getElem hi2]at py;cases px;cases py;show hQ hi hi2 h1 tk #[.yes hlo hz1 hT1,hk _ _ (Ne.symm nd.1.1) nd.2.1.1 nd.2.1.2.1 nd.2.1.2.2 pr,q1.1,q2.1,q1.2,q2.2] hT1 λc o hc e=>?_;let#[e1,e2,e3,e4]:=out hc;show hk c o e1 e2 e3 e4 e
  |@yes b f oa hb hz ha=>show Qv ap D1 D2 hz ha pr #[s1,t1] #[s2,t2] hi hi2 λx y h1 tk px py hz1 q1 q2 hT1 hk=>qb ?_;rw[getElem?_eq_getElem hi]at px;rw[getElem?_eq_getElem hi2]at py;cases px;cases py;let lb:∀c∈[z,TI,TO,i1,i2],b≠c:=λc hc=>ne_of_gt (lt_of_lt_of_le (N.lt c hc) hb);show hQ hi hi2 h1 tk #[.yes hb hz1 (hk _ _ (lb z (by simp)) (lb i1 (by simp)) (lb i2 (by simp)) ha),hk _ _ (Ne.symm nd.1.1) nd.2.1.2.1 nd.2.1.2.2 pr,q1.1,q2.1,q1.2,q2.2] hT1 λc o hc e=>?_;let#[e1,e2,e3,e4]:=out hc;show hk c o e1 e3 e4 e
 .let hn:xs[i]?=none:=Array.getElem?_eq_none (Nat.le_of_not_lt hi);show qa (wpAny_attempt (wpAny_callSpecial?_slot (name:=Str.ofString "__next__") hT F.slot_zip_next (zl F.slot_zip_next hT F.entry_zip_next ?_ (F.args_zip_next_1 _))));let fin:∀h' e,(∀c o,c≠z->c≠i1->s.heap.get? c=⇑o->h'.get? c=⇑o)->(∃o,h'.get? e=⇑o/\o.cls=.type "StopIteration")->wpAny (model prog w) A (do if<-isInstance (.ref e) (.type "StopIteration")then pure (Option.none:Option Value)else throw (.ref e)) Q E {s with heap:=h'}:=λh' e hk he=>by let#[o,ho,hc]:=he;show qa (wpAny_isInstance (T:="StopIteration") (b:=true) #[o,ho,hc] isSubtype_stop ?_);exact qb (hE (Nat.le_of_not_lt hi) h' λc o hc e=>hk c o (out hc).1 (out hc).2.2.1 e)
  cases hd with
  |no hz hO=>show Qw i1z hz pr (λha sa Q E k=>GM hh (s1.extBut sa.extBut i1z) (tup (λo e=>sa.extBut _ _ x1.1 e) t1) hn k) λh' e hk st=>?_;show fin h' e hk st
  |@yes b f oa hb hz ha=>show Ui i1z hz ha pr (λha sa Q E k=>GM hh (s1.extBut sa.extBut i1z) (tup (λo e=>sa.extBut _ _ x1.1 e) t1) hn k) λh' e hk st=>?_;show fin h' e hk st
variable{S:Addr}{s:Shared}
def FZ{c:Addr}(q:c∈[z,TO,i1,i2]):c∈[z,TI,TO,i1,i2]:=by simp only[qA,not_mem_nil,or_false]at q⊢;grind
def pX.keep(N:pY z TI TO i1 i2 a1 a2 (S+1))(G:S∉[z,TI,TO,i1,i2])(h1:a1≠S)(h2:a2≠S)(k:∀c o,c≠S->h.get? c=⇑o->h'.get? c=⇑o)(st:pX h z TI TO i1 i2 a1 a2 (S+1) xs ys i):pX h' z TI TO i1 i2 a1 a2 (S+1) xs ys i:=by
 let#[hd,pr,Y,O,M,L]:=st;simp only[qA,not_mem_nil,or_false,not_or]at G;let#[J,e2,e3,e4,e5]:=G;show#[?_,k _ _ (Ne.symm e2) pr,?_,?_,?_,?_]
 .cases hd with
  |no B hO=>show .no (k _ _ (Ne.symm J) B) (k _ _ (Ne.symm e3) hO)
  |yes F B ha=>show .yes F (k _ _ (Ne.symm J) B) (k _ _ (ne_of_gt F) ha)
 .obtain⟨o,e,r⟩:=Y;show#[o,k _ _ (Ne.symm e4) e,r]
 .obtain⟨o,e,r⟩:=O;show#[o,k _ _ (Ne.symm e5) e,r]
 .obtain⟨o,e,r⟩:=M;show#[o,k _ _ h1 e,r]
 .obtain⟨o,e,r⟩:=L;show#[o,k _ _ h2 e,r]
structure ZG(xs ys:Array Value)(S:Addr)(h:Heap)(as:List Addr):Prop where
 ab:∀a∈as,S<a
 pr:∀(j:Nat)(a:Addr),as[j]?=⇑a->∃(hx:j<xs.size)(hy:j<ys.size),IsPair h a xs[j] ys[j]
def Ra{R:Result->Shared->Prop}{h₁:Heap}(hh:A.handled=none)(N:pY z TI TO i1 i2 a1 a2 (S+1))(h5:S∉[z,TI,TO,i1,i2])(n1:a1≠S)(n2:a2≠S)(hl:xs.size=ys.size)(hn:xs.size<=sizeLine)(res:Value)
  (hR:∀h' tk B c as,(∀b o,b≠S->b∉[z,TO,i1,i2]->h₁.get? b=⇑o->h'.get? b=⇑o)->h'.get? S=⇑(ST.lstO B c)->as.length=xs.size->ZG xs ys S h' as->B.toList=as.map Value.ref->R (.ok (.ret res)) {s with heap:=h',toks:=tk}):
  ∀(k i:Nat)(h:Heap)(tk c:Nat)(B:Array Value)(as:List Addr),xs.size-i=k->i<=xs.size->pX h z TI TO i1 i2 a1 a2 (S+1) xs ys i->
   (∀b o,b≠S->b∉[z,TO,i1,i2]->h₁.get? b=⇑o->h.get? b=⇑o)->h.get? S=⇑(ST.lstO B c)->B.toList=as.map Value.ref->as.length=i->ZG xs ys S h as->
   codeAny (model prog w) A (.builtin "list.extend.loop" #[[.ref S,.ref z,res],[]]) R {s with heap:=h,toks:=tk}:=by
 let h4:S∉[z,TO,i1,i2]:=λq=>h5 (FZ q);let ge:∀a,S<a->a∉[z,TO,i1,i2]:=λa Y q=>lt_irrefl _ (lt_of_lt_of_le (N.lt a (FZ q)) Y);intro k;induction k with
 |zero=>intro i h tk c B as hk hi st F hS G O hG;let J:S<h.objs.size:=qe hS;show codeAny_builtin PySem.F.entry_extend_loop ?_;show qa (Jn (s:={s with heap:=h,toks:=tk}) (A:=A.in1) hh N hl J st (λz=>by omega) λ_ h' he=>?_);show qb (hR h' tk B c as (λb o h1 h2 e=>he b o h2 (F b o h1 h2 e)) (he S _ h4 hS) (by omega) #[hG.ab,λj a L=>?_] G);let#[q1,q2,e]:=hG.pr j a L;show#[q1,q2,he a _ (ge a (hG.ab a (qL L))) e]
 |succ k ih=>
  intro i h tk c B as hk hi st F hS G O hG;let h3:i<xs.size:=by omega
  let h9:B.size=i:=by rw[<-qU,G,qo,O]
  have J:S<h.objs.size:=qe hS;show codeAny_builtin PySem.F.entry_extend_loop ?_;show qa (Jn (s:={s with heap:=h,toks:=tk}) (A:=A.in1) hh N hl J st (λ_ e2 h' h7 h8 ht M=>?_) λz=>by omega);let h6:=M S _ h4 hS;let up:∀b o,b≠S->h'.get? b=⇑o->(h'.update S (Obj.mapSeq (·.push (Value.ref h.objs.size)))).get? b=⇑o:=λb o hb e=>(zc _ _ (Ne.symm hb)).trans e;show qa ?_;refine wpAny_updateSeq h6 rfl (qb ⟨plainId_quiet PySem.F.plain_extend_loop _,ih (i+1) _ h7 _ (B.push (Value.ref h.objs.size)) (as++[h.objs.size]) (by omega) h3 (h8.keep N h5 n1 n2 up)
   (λb o h1 h2 e=>up b o h1 (M b o h2 (F b o h1 h2 e))) (zi _ h6 rfl) (by rw[toList_push,G,map_append];rfl) (by rw[qq,O];rfl) #[?_,?_]⟩) (by rw[h9];omega) (by show(B.push (Value.ref h.objs.size)).size<=sizeLine+1;rw[Array.size_push];omega)
  .intro a Y;rcases qx.mp Y with Y|Y
   .show hG.ab a Y
   .rw[qu.mp Y];show J
  .intro j b L;rcases lt_or_ge j as.length with h1|h1
   .rw[getElem?_append_left h1]at L;let#[q1,q2,e]:=hG.pr j b L;let hb:=hG.ab b (qL L);show#[q1,q2,up b _ (ne_of_gt hb) (M b _ (ge b hb) e)]
   .rw[getElem?_append_right h1,List.getElem?_singleton]at L;split at L
    .let e1:j=i:=by omega
     subst e1;cases L;show#[h3,e2,up _ _ (ne_of_gt J) ht]
    .cases L
def Sb:typeLookup (.type "zip") "__len__"=pure none:=by rw[typeLookup_type,builtinLookup_eq_fast];kernel_rfl
def TJ:typeLookup (.type "zip") "__length_hint__"=pure none:=by rw[typeLookup_type,builtinLookup_eq_fast];kernel_rfl
def TF{R:Result->Shared->Prop}(hh:A.handled=none)(N:pY z TI TO i1 i2 a1 a2 (S+1))(Y:S∉[z,TI,TO,i1,i2])(n1:a1≠S)(n2:a2≠S)(hl:xs.size=ys.size)(hn:xs.size<=sizeLine)(res:Value)(J:Nat)
  (st:pX s.heap z TI TO i1 i2 a1 a2 (S+1) xs ys 0)(hz:IsZip s.heap z TI TO .none)(hS:s.heap.get? S=some {cls:=.type "list",data:=.seq #[] J})
  (hR:∀h' tk L c as,(∀b o,b≠S->b∉[z,TO,i1,i2]->s.heap.get? b=⇑o->h'.get? b=⇑o)->h'.get? S=⇑(ST.lstO L c)->as.length=xs.size->ZG xs ys S h' as->L.toList=as.map Value.ref->R (.ok (.ret res)) {s with heap:=h',toks:=tk}):
  wpAny (model prog w) A.in1 (Builtin.List.listExtendWith (.ref S) (.ref z) res)
   (λh4 s'=>match h4 with|.done f=>R (.ok f) s'|.again c'=>c'.quiet=true/\codeAny (model prog w) A c' R s') (λe s'=>R (.error e) s') s:=by
 let M:s.TypeIs (.ref z) "zip":=#[_,hz,rfl]
 let O:S≠z:=λe=>Y (by rw[e];show qm);unfold Builtin.List.listExtendWith;show qa (wpAny_typeOf (T:="zip") M ?_);let h1:Builtin.List.listSameRef (.ref S) (.ref z)=false:=by simp[Builtin.List.listSameRef,O]
 let h2:(Value.type "zip"==Value.type "list")=false:=⋯
 let h3:(Value.type "zip"==Value.type "tuple")=false:=⋯
 simp only[h1,h2,h3,Bool.or_false,false_eq_true,if_false];show qa (wpAny_pyIter_zip hz ?_);show qa (zp ?_);unfold Builtin.List.listLengthHint;show qa (wpAny_specialOf M Sb ?_);show wpAny _ A.in1 (specialOf (Value.ref z) (Str.ofString "__length_hint__")>>=_) _ _ _;show qa (wpAny_specialOf M TJ ?_);show qb ?_;show wpAny _ A.in1 (rule "list.extend.makes-room">>=λ_=>Builtin.List.listTouch (.ref S)>>=λ_=>again (.builtin "list.extend.loop" #[[.ref S,.ref z,res],[]])) _ _ _
 refine qa (wpAny_rule ?_);show qa ?_;show wpAny _ A.in1 (updateSeq S (·.push .none)>>=λ_=>updateSeq S (·.pop)) _ _ _;show qa (wpAny_updateSeq hS rfl ?_);let B:=zi (Obj.mapSeq (·.push Value.none)) hS rfl;show wpAny_updateSeq (hz:=by seq_fits) B rfl ?_;let F:=zi (Obj.mapSeq (·.pop)) B rfl;let G:∀b o,b≠S->s.heap.get? b=⇑o->((s.heap.update S (Obj.mapSeq (·.push Value.none))).update S (Obj.mapSeq (·.pop))).get? b=⇑o:=
  λb o hb e=>(zc _ _ (Ne.symm hb)).trans ((zc _ _ (Ne.symm hb)).trans e)
 exact qb ⟨plainId_quiet PySem.F.plain_extend_loop _,Ra (s:=s) (h₁:=s.heap) hh N Y n1 n2 hl hn res hR xs.size 0 _ s.toks _ #[] [] (sub_zero _) (zero_le _) (st.keep N Y n1 n2 G) (λb o h1 _ e=>G b o h1 e) F rfl rfl
  #[(λ_ ha=>nomatch ha),(λj a hj=>by simp at hj)]⟩
def Qj{Q:zu}(hh:A.handled=none)(N:pY z TI TO i1 i2 a1 a2 s.heap.objs.size)(l1:a1<s.heap.objs.size)(l2:a2<s.heap.objs.size)(hl:xs.size=ys.size)(hn:xs.size<=sizeLine)
  (hz:IsZip s.heap z TI TO .none)(hI:IsPair s.heap TI (.ref i1) (.ref i2))(hO:IsPair s.heap TO o1 o2)(s1:s.heap.IsTupleIter i1 a1 0)(s2:s.heap.IsTupleIter i2 a2 0)(t1:s.heap.IsTuple a1 xs)(t2:s.heap.IsTuple a2 ys)
  (hQ:∀h' tk F c as,(∀b o,b∉[z,TO,i1,i2]->s.heap.get? b=⇑o->h'.get? b=⇑o)->h'.get? s.heap.objs.size=⇑(ST.lstO F c)->as.length=xs.size->ZG xs ys s.heap.objs.size h' as->F.toList=as.map Value.ref->Q (.ref s.heap.objs.size) {s with heap:=h',toks:=tk}):
  wpAny (model prog w) A (call (.type "list") [.ref z]) Q E s:=by
 show callType_codes (Q₁:=λO G=>O=.ref s.heap.objs.size/\G={s with heap:=s.heap.push {cls:=.type "list",data:=.seq #[]}}) PySem.F.called_list (PySem.F.typeCall_list_1 _) PySem.F.entry_list_init (code_list_new _ #[rfl,rfl]) λO G Y=>?_;let#[rfl,rfl]:=Y;let hS:(s.heap.push {cls:=.type "list",data:=.seq #[]}).get? s.heap.objs.size=some {cls:=.type "list",data:=.seq #[]}:=qd _ rfl;show#[#[_,hS,rfl],PySem.F.args_list_init_2 _ _,?_];generalize h3:s.heap.objs.size=S at hS N l1 l2 hQ;let h5:S∉[z,TI,TO,i1,i2]:=λq=>lt_irrefl _ (N.lt S q);let N':pY z TI TO i1 i2 a1 a2 (S+1):=#[N.nd,N.x1,N.x2,λb L=>lt_succ_of_lt (N.lt b L)]
 let st:pX s.heap z TI TO i1 i2 a1 a2 (S+1) xs ys 0:=#[.no hz hO,hI,s1,s2,t1,t2]
 let h4:∀b o,b≠S->s.heap.get? b=⇑o->(s.heap.push {cls:=.type "list",data:=.seq #[]}).get? b=⇑o:=λb o _ e=>qc _ e;show qa ?_;show qa (wpAny_seqItems hS rfl (qb ?_));show qa (wpAny_updateSeq hS rfl ?_);let B:=zi (Obj.mapSeq (λ_=>(#[]:Array Value))) hS rfl;show qa (wpAny_letGo ?_);generalize h6:(s.heap.push {cls:=.type "list",data:=.seq #[]}).update S (Obj.mapSeq (λ_=>(#[]:Array Value)))=h1 at B;let J:∀b o,b≠S->s.heap.get? b=⇑o->h1.get? b=⇑o:=λb o L e=>by rw[<-h6];show(zc _ _ (Ne.symm L)).trans (h4 b o L e)
 let h8:z≠S:=λe=>h5 (by rw[<-e];show qm);show TF (A:=A.in1) (R:=wants (λr M=>r=Value.none/\Q (Value.ref S) M) E) (s:={s with heap:=h1}) hh N' h5 (ne_of_lt l1) (ne_of_lt l2) hl hn .none _ (st.keep N' h5 (ne_of_lt l1) (ne_of_lt l2) J) (J _ _ h8 hz) B λh' tk F c as hk h9 h7 hG h2=>?_;show#[rfl,hQ h' tk F c as (λb o L e=>hk b o (ne_of_lt (h3▸qe e)) L (J b o (ne_of_lt (h3▸qe e)) e)) h9 h7 hG h2]
end
def Ks{n a:Nat}(h:a<n):a∉[n+4,n+2,n+3,n,n+1]:=by simp;omega
def OK{n a:Nat}(h:a<n):a∉[n+4,n+3,n,n+1]:=by simp;omega
def Pj{n m:Nat}(h:n+4<m):∀b∈[n+4,n+2,n+3,n,n+1],b<m:=by simp;omega
def Oj{n:Nat}:[n+4,n+2,n+3,n,n+1].Nodup:=by simp
def rQ(B:TA):TE:=λZ H Q=>B Z H λvs H1=>∃a b xs ys,vs=[.ref a,.ref b]/\H1 a=⇑(.tup xs)/\H1 b=⇑(.tup ys)/\xs.length=ys.length/\∀(as:List Addr)(N:Hp),as.length=xs.length->(∀a o,N a=⇑o->H1 a=none)->
 (∀(i:Nat)(c:Addr)(x y:V),as[i]?=⇑c->xs[i]?=⇑x->ys[i]?=⇑y->N c=⇑(.tup [x,y]))->∀p,cD H1 N p=none->Q (.ref p) (upd (cD H1 N) p (.lst (as.map .ref)))
section
variable{X:Cx}
def PY(hc:X.calm=true)(hgl:Gl X "list")(k3:X.mg "list"=none)(r3:bootBuiltins "list"=⇑(.type "list"))(hg:Gl X "zip")(hm:X.mg "zip"=none)(hv:bootBuiltins "zip"=⇑(.type "zip"))(hl:PA X [a,b] tl)
  (hs:autoParam (starEach [a,b] X.env=[(false,eval a X.env),(false,eval b X.env)]) rZ9)(h9:autoParam (starEach [b] X.env=[(false,eval b X.env)]) rZ9)
  (h8:autoParam (starEach [.Call (.Name "zip" p1) [a,b] [] pos1] X.env=[(false,eval (.Call (.Name "zip" p1) [a,b] [] pos1) X.env)]) rZ9):PE X (.Call (.Name "list" p) [.Call (.Name "zip" p1) [a,b] [] pos1] [] pos) (rQ tl):=by
 intro zT s Z H Q I h;show wpAny_Call_Name_kw (Dz I hgl k3 r3 ?_ ⋯ ⋯);show PyProof.Rows.callWith_type1 ?_ h8 rfl;rw[h8];show Calls.spliced_cons ?_;show wpAny_Call_Name_kw (Dz I hg hm hv ?_ ⋯ ⋯);show PyProof.Rows.callWith_type1 (Af (hl pos1 zT s Z H _ I h) λus F zq=>?_) (by rw[hs,h9]) (by rw[h9];rfl);let#[vs,H1,I1,r1,q1]:=zq;let#[a1,a2,vx,vy,rfl,k1,k2,he,q]:=q1;let#[u1,u2,rfl,ra,rb]:=vals2 r1;cases(show u1=Value.ref a1 from ra);cases(show u2=Value.ref a2 from rb);let#[xs,h5,h3,hzx]:=I1.tuple (bA.of k1);let#[ys,h4,h1,hzy]:=I1.tuple (bA.of k2);let hd:a1<F.heap.objs.size:=let⟨_,e,_⟩:=h3;qe e
 let hi:a2<F.heap.objs.size:=let⟨_,e,_⟩:=h1;qe e
 show Oy (o1:={cls:=.type "tuple_iterator",data:=.fields [.ref a1,.int 0 0].toArray}) (o2:={cls:=.type "tuple_iterator",data:=.fields [.ref a2,.int 0 0].toArray}) (λprog w A Q E k=>wpAny_pyIter_tuple h3 k) (λprog w A Q E k=>wpAny_pyIter_tuple (let#[o,e,r]:=h1;#[o,qc _ e,r]) k) rfl rfl λh' hz hI hO J Y kp=>?_;show Calls.spliced_nil ?_;let s2:F.heap.objs.size+4<h'.objs.size:=qe hz;let r2:=h5.length;let hyl:=h4.length;let e4:xs.toArray.size=ys.toArray.size:=by rw[qr,qr];omega
 let h7:xs.toArray.size<=sizeLine:=by rw[qr];omega
 show Qj (s:={F with heap:=h'}) (z:=F.heap.objs.size+4) (TI:=F.heap.objs.size+2) (TO:=F.heap.objs.size+3) (i1:=F.heap.objs.size) (i2:=F.heap.objs.size+1) (I1.ok.hd hc) ⟨?_,?_,?_,?_⟩ (lt_trans hd (by show F.heap.objs.size<h'.objs.size;omega)) (lt_trans hi (by show F.heap.objs.size<h'.objs.size;omega)) e4 h7 hz hI hO #[_,J,rfl,rfl] #[_,Y,rfl,rfl] (let⟨o,e,r⟩:=h3;#[o,kp _ _ e,r]) (let⟨o,e,r⟩:=h1;#[o,kp _ _ e,r]) λh2 tk zY c B hk ha hr hG hq=>?_
 .show Oj
 .show Ks hd
 .show Ks hi
 .show Pj s2
 let G:F.heap.objs.size<h'.objs.size:=by omega
 let hk2:∀b o,F.heap.get? b=⇑o->h2.get? b=⇑o:=λb o e=>hk b o (OK (qe e)) (kp b o e);let h6:∀(j:Nat)(b:Addr),B[j]?=⇑b->∃x y u v,vx[j]?=⇑x/\vy[j]?=⇑y/\kS B h2 b=⇑(.tup [x,y])/\h2.get? b=⇑(ST.tup2 u v)/\zJ x u/\zJ y v:=λj b hj=>by let#[hx,hy,e]:=hG.pr j b hj;let#[x,ex,rx]:=Hu h5 (show xs[j]?=⇑(xs.toArray[j]'hx) by rw[<-getElem?_toArray,getElem?_eq_getElem hx]);let#[y,ey,ry]:=Hu h4 (show ys[j]?=⇑(ys.toArray[j]'hy) by rw[<-getElem?_toArray,getElem?_eq_getElem hy]);show#[x,y,_,_,ex,ey,NH (qL hj) e rx ry,e,rx,ry]
 have M:∀b o,kS B h2 b=⇑o->b∈B:=λb o e=>by
  unfold kS at e;split at e
  .assumption
  .cases e
 generalize hS0:h'.objs.size=L at G hG ha⊢;let hp:kS B h2 L=none:=by
  cases e:kS B h2 L with
  |none=>rfl
  |some o=>show absurd (hG.ab _ (M _ _ e)) (lt_irrefl _)
 have hx:upd (cD H1 (kS B h2)) L (.lst (B.map .ref))=cD H1 (upd (kS B h2) L (.lst (B.map .ref))):=by
  funext b
  unfold cD;by_cases O:b=L
  .subst O;rw[AI,AI];rfl
  .rw[Aj O,Aj O]
 have hge:∀b o,upd (kS B h2) L (.lst (B.map .ref)) b=⇑o->F.heap.objs.size<=b:=λb o e=>by
  by_cases O:b=L
  .rw[O];show le_of_lt G
  .rw[Aj O]at e;show le_of_lt (lt_trans G (hG.ab b (M b o e)))
 show#[.ref L,_,Inv.many (s:=F) (N:=upd (kS B h2) L (.lst (B.map .ref))) (h':=h2) I1 hk2 hge λb o e=>?_,rfl,hx▸q B (kS B h2) (by rw[hr,r2,qr]) (λb o e=>I1.hok.fresh (le_of_lt (lt_trans G (hG.ab b (M b o e))))) (λi c x y g1 g2 g3=>?_) _ ?_]
 .by_cases O:b=L
  .subst O;rw[AI]at e;cases e;show#[by rw[qo,hr];show h7,zY.toList,c,?_,ha];rw[hq];show Iz (by simp) λj y v J Y=>?_;rw[qE]at J Y;cases e3:B[j]? with
   |none=>rw[e3]at J;cases J
   |some b=>rw[e3]at J Y;cases J;cases Y;rfl
  .rw[Aj O]at e;let#[j,hj]:=List.mem_iff_getElem?.mp (M b o e);let#[x,y,u,v,_,_,J,Y,rx,ry]:=h6 j b hj;rw[e]at J;cases J;show#[#[by show 2<=sizeLine;rw[zm];decide,λo' e'=>by rw[Y]at e';cases e';rfl],[_,_],.cons rx (.cons ry .nil),_,Y,rfl,_,rfl]
 .obtain⟨x',y',u,v,f1,f2,f3,_⟩:=h6 i c g1;rw[f1]at g2;rw[f2]at g3;cases g2;cases g3;show f3
 .unfold cD;rw[hp];show I1.hok.fresh (le_of_lt G)
end
def Lm{K:W.Frag}{F:Hp}:∀{xs ys:List V}{l m:List D}{as:List Addr},zR K F xs l->zR K F ys m->xs.length=ys.length->as.length=xs.length->(∀(i:Nat)(c:Addr)(x y:V),as[i]?=⇑c->xs[i]?=⇑x->ys[i]?=⇑y->F c=⇑(.tup [x,y]))->zR K F (as.map V.ref) (gI l m)
 |_,_,_,_,[],.nil,.nil,_,_,_=>.nil
 |_,_,_,_,_::_,.cons r1 t1,.cons r2 t2,h1,h2,h3=>.cons (.tup (h3 0 _ _ _ rfl rfl rfl) (.cons r1 (.cons r2 .nil))) (Lm t1 t2 (Nat.succ.inj h1) (Nat.succ.inj h2) λi c x y J G B=>h3 (i+1) c x y J G B)
def HM{K:W.Frag}{F:Hp}:∀{xs:List V}{l:List D},zR K F xs l->xs.length=l.length
 |_,_,.nil=>rfl
 |_,_,.cons _ t=>congrArg (·+1) (HM t)
section
variable{X:Cx}
theorem QW(hc:X.calm=true)(hr:Gl X "list")(hd:X.mg "list"=none)(h8:bootBuiltins "list"=⇑(.type "list"))(hg:Gl X "zip")(hm:X.mg "zip"=none)(hv:bootBuiltins "zip"=⇑(.type "zip"))(ha:FE X a wa)(hb:FE X b wb)
  (hs:autoParam (starEach [a,b] X.env=[(false,eval a X.env),(false,eval b X.env)]) rZ9)(h3:autoParam (starEach [b] X.env=[(false,eval b X.env)]) rZ9)
  (h9:autoParam (starEach [.Call (.Name "zip" p1) [a,b] [] pos1] X.env=[(false,eval (.Call (.Name "zip" p1) [a,b] [] pos1) X.env)]) rZ9):
  FE X (.Call (.Name "list" p) [.Call (.Name "zip" p1) [a,b] [] pos1] [] pos) (iL wa wb):=λpn xe hp=>by
 show PE.imp (PY (X:=wp X pn xe) hc hr hd h8 hg hm hv (Aa ha (Aa hb Ab h3) (by rw[hs,h3]) pn xe hp) hs h3 h9) λZ H R q=>?_;let#[F,G,U,P,PX,h7,hw,hi,hx]:=q;show#[F,G,U,λrs B=>match rs with|[r,t]=>(zz (give r B) λp=>zz (give t p.2) λq=>zz (kX p.1.toD q.1.toD) λl=>P (.v (.lst (l.map .sh))) q.2)|_=>False,PX,h7,hw,λrs B vs F1 H1 J s1 r1 hl Y=>?_,hx];match rs,vs,Y,r1,J with
 |[r,t],[v,u],Y,r1,J=>
  dsimp only at J;show cps λ_ kk=>?_;let#[#[s,L],eg,J]:=Ak J;let#[#[s',O],k1,J]:=Ak J;let#[lz,M,J]:=Ak J;obtain⟨F2,s2,ss,e3,l3,r3⟩:∃F2,zF F1 F2/\∃ss,ss=[s,s']/\O.length=B.length/\Rel X.K (O++ss.map some) (Z++[v,u].map some) F2 G H1:=by
   let e:aF [r,t] B=⇑([s,s'],O):=by show(match give r B with|some (s,B)=>(match aF [t] B with|some (ss,L)=>⇑(s::ss,L)|none=>none)|none=>none)=_;rw[eg];show(match(match give t L with|some (s,B)=>⇑([s],B)|none=>none)with|some (ss,L)=>⇑(s::ss,L)|none=>none)=_;rw[k1]
   let#[F2,s2,l2,z,r2]:=Fz (rs:=[r,t]) (vs:=[v,u]) (U':=[]) (Z':=[]) r1 hl Y e;show#[F2,s2,_,rfl,l2,↑r2]
  subst e3;let#[F3,s3,rp,r4]:=Rel.giveD (U:=O) (vs:=[v,u]) (ss:=[s,s']) r3 (l3.trans hl);let sm:=s1.trans (s2.trans s3);show kk ?_
  replace rp:zR X.K F3 [v,u] [s.toD,s'.toD]:=rp
  generalize s.toD=d1 at M rp;generalize s'.toD=d2 at M rp;match d1,d2,M with
  |.tup l,.tup m,M=>
   let M:(if l.length=m.length/\l.length<=big then ⇑(gI l m)else none)=⇑lz:=M;by_cases h4:l.length=m.length/\l.length<=big
   .rw[qZ h4]at M;cases M;cases rp with
    |cons a0 b0=>
     cases b0 with
     |cons b0 n0=>
      cases a0 with
      |tup f1 q1=>
       cases b0 with
       |tup f2 q2=>
        let h5:=(HM q1).trans (h4.1.trans (HM q2).symm);show#[_,_,_,_,rfl,r4.fr _ _ f1,r4.fr _ _ f2,h5,λas N h1 hN hq p e4=>?_];let#[h2,r5]:=r4.many hN;let h6:=Lm (q1.mono h2) (q2.mono h2) h5 h1 λi c x y e1 e2 e3=>by unfold cD;rw[hq i c x y e1 e2 e3];rfl
        show hi _ _ _ _ _ J (sm.trans h2) (r5.newLD e4 h6) trivial
   .rw[q8 h4]at M;cases M
 |[],_,_,_,J=>show J.elim
 |[_],_,_,_,J=>show J.elim
 |[_,_],[],Y,_,_=>show Y.elim
 |[_,_],[_],Y,_,_=>show Y.2.elim
 |[_,_],_::_::_::_,Y,_,_=>show Y.2.2.elim
 |_::_::_::_,_,_,_,J=>show J.elim
end
end FL
namespace FL
def e_C:wC d U Q E=Q (.v (.sh d)) U:=rfl
def kV(o:Option S)(Q:WQ)(U:Env):Prop:=zz o λs=>Q (.v s) U
def e_V:kV ⇑s Q U=Q (.v s) U:=rfl
def iD(o:D->D->Option S)(x y:Option D)(Q:WQ)(U:Env):Prop:=zz x λp=>zz y λq=>kV (o p q) Q U
def gD(o:D->D->Option S)(x:R)(Q:WQ):WQ:=λy B=>iD o (zP x B) (zP y B) Q B
def pR(o:D->D->Option S)(b:WE)(Q:WQ)(E:WX):WQ:=λx B=>b B (gD o x Q) E
def zp4:zL o a b U Q E=a U (pR o b Q E) E:=rfl
def zl8:pR o b Q E x U=b U (gD o x Q) E:=rfl
def zmi:iD o ⇑p ⇑q Q U=kV (o p q) Q U:=rfl
def tJ(o:D->Option S)(x:Option D)(Q:WQ)(U:Env):Prop:=zz x λp=>kV (o p) Q U
def ir(o:D->Option S)(Q:WQ):WQ:=λx U=>tJ o (zP x U) Q U
def e_Un{o:D->Option S}:yL o a U Q E=a U (ir o Q) E:=rfl
def zoT{o:D->Option S}:ir o Q x U=tJ o (zP x U) Q U:=rfl
def zpc{o:D->Option S}:tJ o ⇑p Q U=kV (o p) Q U:=rfl
def kC(o:Option Bool)(Q:Bool->Env->Prop)(U:Env):Prop:=zz o λc=>Q c U
def e_Ck{c:Bool}:kC ⇑c QT U=QT c U:=rfl
def eO(o:D->D->Option Bool)(x y:Option D)(Q:Bool->Env->Prop)(U:Env):Prop:=zz x λp=>zz y λq=>kC (o p q) Q U
def iC(o:D->D->Option Bool)(x:R)(Q:Bool->Env->Prop):WQ:=λy B=>eO o (view x B) (view y B) Q B
def pP(o:D->D->Option Bool)(b:WE)(Q:Bool->Env->Prop)(E:WX):WQ:=λx B=>b B (iC o x Q) E
def zpV:aS B a b U QT E=a U (pP B b QT E) E:=rfl
def znT:pP B b QT E x U=b U (iC B x QT) E:=rfl
def zlQ:eO B ⇑p ⇑q QT U=kC (B p q) QT U:=rfl
def uH(o':D->D->Option Bool)(y:R)(Q:Bool->Env->Prop):WQ:=λz B=>eO o' (view y B) (view z B) Q B
def oR(o':D->D->Option Bool)(y:R)(c:WE)(Q:Bool->Env->Prop)(E:WX):Bool->Env->Prop:=λk B=>if k then c B (uH o' y Q) E else Q false B
def uI(o o':D->D->Option Bool)(x:R)(c:WE)(Q:Bool->Env->Prop)(E:WX):WQ:=λy B=>eO o (view x B) (view y B) (oR o' y c Q E) B
def xB(o o':D->D->Option Bool)(b c:WE)(Q:Bool->Env->Prop)(E:WX):WQ:=λx B=>b B (uI o o' x c Q E) E
def e_Ch:cM F B a b c U QT E=a U (xB F B b c QT E) E:=rfl
def zo1:xB F B b c QT E x U=b U (uI F B x c QT E) E:=rfl
def zqX:uI F B x c QT E y U=eO F (view x U) (view y U) (oR B y c QT E) U:=rfl
def zmM:oR B y c QT E true U=c U (uH B y QT) E:=rfl
def zmE:oR B y c QT E false U=QT false U:=rfl
def zpG:uH B y QT x U=eO B (view y U) (view x U) QT U:=rfl
def iR(x:Option D)(Q:Bool->Env->Prop)(U:Env):Prop:=zz x λp=>kC (fG p) Q U
def pO(Q:Bool->Env->Prop):WQ:=λx U=>iR (view x U) Q U
def zmy:cN a U QT E=a U (pO QT) E:=rfl
def zkd:pO QT x U=iR (view x U) QT U:=rfl
def zj7:iR ⇑p QT U=kC (fG p) QT U:=rfl
def uK(b:WT)(Q:Bool->Env->Prop)(E:WX):Bool->Env->Prop:=λc B=>if c then b B Q E else Q false B
def zqw:gA t u U QT E=t U (uK u QT E) E:=rfl
def zmH:uK u QT E true U=u U QT E:=rfl
def zmv:uK u QT E false U=QT false U:=rfl
def gf(b:WT)(Q:Bool->Env->Prop)(E:WX):Bool->Env->Prop:=λc B=>if c then Q true B else b B Q E
def e_Or:eQ t u U QT E=t U (gf u QT E) E:=rfl
def zpZ:gf u QT E true U=QT true U:=rfl
def zpv:gf u QT E false U=u U QT E:=rfl
def wW(Q:Bool->Env->Prop):Bool->Env->Prop:=λc B=>Q (!c) B
def zoL:cZ t U QT E=t U (wW QT) E:=rfl
def znp{c:Bool}:wW QT c U=QT (!c) U:=rfl
def wV(Q:WQ):Bool->Env->Prop:=λc B=>Q (.v (.sh (.bl c))) B
def zpA:dM t U Q E=t U (wV Q) E:=rfl
def zm0{c:Bool}:wV Q c U=Q (.v (.sh (.bl c))) U:=rfl
def uD(a b:WE)(Q:WQ)(E:WX):Bool->Env->Prop:=λk B=>if k then a B Q E else b B Q E
def zos:nG t a b U Q E=t U (uD a b Q E) E:=rfl
def zlT:uD a b Q E true U=a U Q E:=rfl
def znC:uD a b Q E false U=b U Q E:=rfl
def gS(x:Option D)(b:WE)(Q:WQ)(E:WX)(U:Env):Prop:=match x with|some (.bl c)=>if c then b U Q E else Q (.v (.sh (.bl false))) U|_=>False
def pS(b:WE)(Q:WQ)(E:WX):WQ:=λx U=>gS (view x U) b Q E U
def zmb:jO a b U Q E=a U (pS b Q E) E:=rfl
def zkh:pS b Q E x U=gS (view x U) b Q E U:=rfl
def zkC:gS ⇑(.bl true) b Q E U=b U Q E:=rfl
def zkI:gS ⇑(.bl false) b Q E U=Q (.v (.sh (.bl false))) U:=rfl
def jY(x:Option D)(b:WE)(Q:WQ)(E:WX)(U:Env):Prop:=match x with|some (.bl c)=>if c then Q (.v (.sh (.bl true))) U else b U Q E|_=>False
def wU(b:WE)(Q:WQ)(E:WX):WQ:=λx U=>jY (view x U) b Q E U
def zqY:rH a b U Q E=a U (wU b Q E) E:=rfl
def zn2:wU b Q E x U=jY (view x U) b Q E U:=rfl
def zl9:jY ⇑(.bl true) b Q E U=Q (.v (.sh (.bl true))) U:=rfl
def zl7:jY ⇑(.bl false) b Q E U=b U Q E:=rfl
def zoP:zx U QA E=QA [] U:=rfl
def iS(r:R)(Q:List R->Env->Prop):List R->Env->Prop:=λB U=>Q (r::B) U
def mG(b:WA)(Q:List R->Env->Prop)(E:WX):WQ:=λr B=>b B (iS r Q) E
def znB:zw a B U QA E=a U (mG B QA E) E:=rfl
def zkL:mG B QA E r U=B U (iS r QA) E:=rfl
def zkQ:iS r QA rs U=QA (r::rs) U:=rfl
def xH(s:S):Option (List S×Env)->Option (List S×Env)
 |some (ss,U)=>⇑(s::ss,U)
 |none=>none
def gq(rs:List R):Option (S×Env)->Option (List S×Env)
 |some (s,U)=>xH s (aF rs U)
 |none=>none
def zqm:aF [] U=⇑([],U):=rfl
theorem e_gA:aF (r::rs) U=gq rs (give r U):=by
 rw[aF];unfold gq;cases give r U with
 |none=>rfl
 |some z=>let#[s,B]:=z;show(match aF rs B with|some (ss,U2)=>⇑(s::ss,U2)|none=>none)=xH s (aF rs B);unfold xH;rfl
def zqV:gq rs ⇑(s,U)=xH s (aF rs U):=rfl
def zoJ:xH s ⇑(ss,U)=⇑(s::ss,U):=rfl
def e_gv:give (.v s) U=⇑(s,U):=rfl
def jS(l:Bool)(x:Option (List S×Env))(Q:WQ):Prop:=zz (if l then x else none) λp=>Q (.v (.sh (.tup (p.1.map S.toD)))) p.2
def jZ(l:Bool)(x:Option (List S×Env))(Q:WQ):Prop:=zz (if l then x else none) λp=>Q (.v (.lst p.1)) p.2
def cS(rs:List R):Bool:=↥(rs.length<=big)
def tL(Q:WQ):List R->Env->Prop:=λB U=>jS (cS B) (aF B U) Q
def tS(Q:WQ):List R->Env->Prop:=λB U=>jZ (cS B) (aF B U) Q
theorem zp6:eA B U Q E=B U (tL Q) E:=by unfold eA tL jS cS;simp
def zmd:tL Q rs U=jS (cS rs) (aF rs U) Q:=rfl
def zmI:jS true ⇑(ss,U) Q=Q (.v (.sh (.tup (ss.map S.toD)))) U:=rfl
theorem zoE:cY B U Q E=B U (tS Q) E:=by unfold cY tS jZ cS;simp
def znb:tS Q rs U=jZ (cS rs) (aF rs U) Q:=rfl
def znD:jZ true ⇑(ss,U) Q=Q (.v (.lst ss)) U:=rfl
def e_l0:cS []=true:=rfl
def e_l1:cS [B]=true:=rfl
def e_l2:cS [F,B]=true:=rfl
def e_l3:cS [G,F,B]=true:=rfl
def e_l5:cS [L,J,G,F,B]=true:=rfl
def e_vv:view (.v s) U=⇑s.toD:=rfl
def e_vl:view (.loc i) U=(slot U i).map S.toD:=rfl
def e_cv:zP (.v s) U=⇑s.toD:=rfl
def vC:Option S->Option D
 |some s=>if s.flat then ⇑s.toD else none
 |none=>none
theorem e_cl:zP (.loc i) U=vC (slot U i):=by unfold zP vC;rfl
theorem znt(h:l.all S.isSh=true):vC ⇑(.lst l)=⇑(.lst (l.map S.toD)):=by show(if l.all S.isSh=true then ⇑(S.toD (.lst l))else none)=_;rw[qZ h,S.toD_lst]
theorem e_sh{l:List D}:(l.map S.sh).all S.isSh=true:=by simp[S.isSh]
theorem zay{l:List D}:(l.map S.sh).map S.toD=l:=by rw[qD];show map_id l
theorem znm:vC ⇑(.lst (l.map S.sh))=⇑(.lst l):=by rw[znt e_sh,zay]
def znj{a b:D}:vC ⇑(.lst [.sh a,.sh b])=⇑(.lst [a,b]):=rfl
def znd{a b c:D}:vC ⇑(.lst [.sh a,.sh b,.sh c])=⇑(.lst [a,b,c]):=rfl
def oK(o:Option S)(Q:WQ)(U:Env):Prop:=match o with|some (.sh d)=>Q (.v (.sh d)) U|_=>False
def oM(o:Option S)(q:D)(Q:WQ)(U:Env):Prop:=match o with|some s=>oK (iU s q) Q U|none=>False
def mD(x:R)(o:Option D)(Q:WQ)(U:Env):Prop:=zz o λq=>match x with|.v s=>kV (iU s q) Q U|.loc i=>oM (slot U i) q Q U
def oN(x:R)(Q:WQ):WQ:=λy B=>mD x (view y B) Q B
def tZ(b:WE)(Q:WQ)(E:WX):WQ:=λx B=>b B (oN x Q) E
theorem e_Ix:cP a b U Q E=a U (tZ b Q E) E:=by unfold cP tZ oN mD oM oK kV;rfl
def zqd:tZ b Q E x U=b U (oN x Q) E:=rfl
def zpM:oN x Q y U=mD x (view y U) Q U:=rfl
def znV:mD (.v s) ⇑q Q U=kV (iU s q) Q U:=rfl
def zly:mD (.loc i) ⇑q Q U=oM (slot U i) q Q U:=rfl
def zoH:oM ⇑s q Q U=oK (iU s q) Q U:=rfl
def zoR:oK ⇑(.sh d) Q U=Q (.v (.sh d)) U:=rfl
def zoM:iU (.sh (.tup l)) (.int z)=(atI l z).map S.sh:=rfl
def zoo:iU (.sh (.lst l)) (.int z)=(atI l z).map S.sh:=rfl
def zqq:iU (.sh (.str l)) (.int z)=(atI l z).map λc=>S.sh (.str [c]):=rfl
def zqJ:iU (.lst l) (.int z)=atI l z:=rfl
def Dy(B:0<=z)(h:l[z.toNat]?=⇑v):atI l z=⇑v:=by let:z.toNat<l.length:=(qg.mp h).1;unfold atI ixN;rw[qZ B,qZ ∅];show h
theorem zqk:atI (v::l) 0=⇑v:=Dy ⋯ rfl
theorem zpd:atI (B::v::l) 1=⇑v:=Dy ⋯ rfl
theorem zo3:atI (F::B::v::l) 2=⇑v:=Dy ⋯ rfl
theorem zqQ:atI (G::F::B::v::l) 3=⇑v:=Dy ⋯ rfl
theorem zoX:atI (J::G::F::B::v::l) 4=⇑v:=Dy ⋯ rfl
def pA(s:S):Option (List S×Env)->Option (List S×Env)
 |some (ss,U)=>⇑(s::ss,U)
 |none=>none
theorem e_p0:cA ms [] U=⇑([],U):=by cases ms<;>rfl
theorem e_pv:cA (h::ms) (.v s::rs) U=pA s (cA ms rs U):=by rw[cA];unfold pA;rfl
def pL(i:Nat)(o:Option S)(ms:List Bool)(rs:List R)(U:Env):Option (List S×Env):=match o with
 |some s=>pA s (cA ms rs (U.set i none))
 |none=>none
theorem e_pl:cA (true::ms) (.loc i::rs) U=pL i (slot U i) ms rs U:=by rw[cA];unfold pL pA;cases slot U i<;>rfl
def zqC:pL i ⇑s ms rs U=pA s (cA ms rs (U.set i none)):=rfl
def e_pA:pA s ⇑(ss,U)=⇑(s::ss,U):=rfl
def e_b0:back ms [] ss U=U:=rfl
def e_bv{s t:S}:back (h::ms) (.v s::rs) (t::ss) U=back ms rs ss U:=rfl
def e_bl{t:S}:back (true::ms) (.loc i::rs) (t::ss) U=back ms rs ss (U.set i ⇑t):=rfl
def mF(ms:List Bool)(rs:List R)(U:Env)(Q:WQ):S->List S->Prop:=λs B=>Q (.v s) (back ms rs B U)
def xC(ms:List Bool)(rs:List R)(U:Env)(E:WX):D->List S->Prop:=λx B=>E x (back ms rs B U)
def iT(f:WF)(ms:List Bool)(rs:List R)(o:Option (List S×Env))(Q:WQ)(E:WX):Prop:=zz o λp=>f p.1 (mF ms rs p.2 Q) (xC ms rs p.2 E)
def pQ(f:WF)(ms:List Bool)(Q:WQ)(E:WX):List R->Env->Prop:=λB U=>iT f ms B (cA ms B U) Q E
def znU:zN f ms B U Q E=B U (pQ f ms Q E) E:=rfl
def zk8:pQ f ms Q E rs U=iT f ms rs (cA ms rs U) Q E:=rfl
def zki:iT f ms rs ⇑(ss,U) Q E=f ss (mF ms rs U Q) (xC ms rs U E):=rfl
def zmg:mF ms rs U Q s ss=Q (.v s) (back ms rs ss U):=rfl
def vA:Option D->Option (List D)->Option (List D)
 |some d,some ds=>⇑(d::ds)
 |_,_=>none
def fF(rs:List R)(U:Env):Option (List D):=match rs with
 |[]=>⇑[]
 |r::rs=>vA (zP r U) (fF rs U)
def Hx:∀rs:List R,(rs.mapM λr=>zP r U)=fF rs U
 |[]=>rfl
 |r::rs=>by
  rw[List.mapM_cons,Hx rs,fF];cases zP r U with
  |none=>rfl
  |some d=>cases fF rs U<;>rfl
def zoe:fF [] U=⇑[]:=rfl
def e_vA:fF (r::rs) U=vA (zP r U) (fF rs U):=rfl
def zpC:vA ⇑d ⇑ds=⇑(d::ds):=rfl
def uJ(f:List D->Option S)(o:Option (List D))(Q:WQ)(U:Env):Prop:=zz o λB=>kV (f B) Q U
def kB(f:List D->Option S)(Q:WQ):List R->Env->Prop:=λB U=>uJ f (fF B U) Q U
theorem e_B:wB f B U Q E=B U (kB f Q) E:=by unfold wB kB uJ kV;simp only[Hx]
def e_B1:kB f Q rs U=uJ f (fF rs U) Q U:=rfl
def e_B2:uJ f ⇑ds Q U=kV (f ds) Q U:=rfl
def oJ(f:List Nat->List D->Option S)(l:List Nat)(Q:WQ):List R->Env->Prop:=λB U=>uJ (f l) (fF B U) Q U
def gh(f:List Nat->List D->Option S)(B:WA)(Q:WQ)(E:WX):WQ:=λx U=>match x with
 |.v (.sh (.str l))=>B U (oJ f l Q) E
 |_=>False
theorem e_MS:iK f a B U Q E=a U (gh f B Q E) E:=by unfold iK gh oJ uJ kV;simp only[Hx];all_goals rfl
def zpF:gh f B Q E (.v (.sh (.str l))) U=B U (oJ f l Q) E:=rfl
def zqs:oJ f l Q rs U=uJ (f l) (fF rs U) Q U:=rfl
def oS(j:Nat)(s:S)(o:Option S)(U:Env)(Q:WQ):Prop:=match o with
 |some (.lst l)=>l.length<big/\Q (.v (.sh .non)) (U.set j ⇑(.lst (l++[s])))
 |_=>False
def oU(j:Nat)(o:Option (S×Env))(Q:WQ):Prop:=zz o λp=>oS j p.1 (slot p.2 j) p.2 Q
def oV(j:Nat)(Q:WQ):WQ:=λr U=>oU j (give r U) Q
def gk(j:Nat)(o:Option S)(a:WE)(U:Env)(Q:WQ)(E:WX):Prop:=match o with
 |some (.lst _)=>a U (oV j Q) E
 |_=>False
theorem e_Ap:bQ j a U Q E=gk j (slot U j) a U Q E:=by unfold bQ gk oV oU oS;rfl
def zo8:gk j ⇑(.lst l) a U Q E=a U (oV j Q) E:=rfl
def zpP:oV j Q r U=oU j (give r U) Q:=rfl
def zpR:oU j ⇑(s,U) Q=oS j s (slot U j) U Q:=rfl
def zqv:oS j s ⇑(.lst l) U Q=(l.length<big/\Q (.v (.sh .non)) (U.set j ⇑(.lst (l++[s])))):=rfl
def jW(j:Nat)(o:Option D)(p:Option S)(U:Env)(Q:WQ):Prop:=match o,p with
 |some (.int i),some (.lst l)=>zz (if l.length<=big then ixN l.length i else none) λk=>zz l[k]? λs=>Q (.v s) (U.set j ⇑(.lst (l.eraseIdx k)))
 |_,_=>False
def jX(j:Nat)(Q:WQ):WQ:=λr U=>jW j (view r U) (slot U j) U Q
def tR(j:Nat)(o:Option S)(a:WE)(U:Env)(Q:WQ)(E:WX):Prop:=match o with
 |some (.lst _)=>a U (jX j Q) E
 |_=>False
theorem zoO:fE j a U Q E=tR j (slot U j) a U Q E:=by unfold fE tR jX jW;rfl
def zny:tR j ⇑(.lst l) a U Q E=a U (jX j Q) E:=rfl
def zmN:jX j Q r U=jW j (view r U) (slot U j) U Q:=rfl
def Jx(G:0<=z)(F:l.length<=big)(h:l[z.toNat]?=⇑s)(B:Q (.v s) (U.set j ⇑(.lst (l.eraseIdx z.toNat)))):jW j ⇑(.int z) ⇑(.lst l) U Q:=by
 let:z.toNat<l.length:=(qg.mp h).1;let e:(if l.length<=big then ixN l.length z else none)=⇑z.toNat:=by unfold ixN;rw[qZ F,qZ G,qZ ∅]
 show zz (if l.length<=big then ixN l.length z else none) _;rw[e,LK,h];show B
def iB(T:String)(o:Option D)(Q:WQ)(U:Env):Prop:=zz o λd=>eM d=true/\Q (.v (.sh (.bl (dW T d)))) U
def wY(T:String)(Q:WQ):WQ:=λx U=>iB T (view x U) Q U
def zqU:gN T a U Q E=a U (wY T Q) E:=rfl
def zlz:wY T Q x U=iB T (view x U) Q U:=rfl
theorem zkR{l:List D}:iB T ⇑(.tup l) Q U=Q (.v (.sh (.bl (dW T (.tup l))))) U:=by show(_/\_)=_;simp[eM]
theorem zkS{z:Int}:iB T ⇑(.int z) Q U=Q (.v (.sh (.bl (dW T (.int z))))) U:=by show(_/\_)=_;simp[eM]
theorem zlh{z:List Nat}:iB T ⇑(.str z) Q U=Q (.v (.sh (.bl (dW T (.str z))))) U:=by show(_/\_)=_;simp[eM]
def oF(j:Nat)(r:R)(o:Option S)(U:Env)(Q:WQ):Prop:=match r,o with
 |.v (.lst m),some (.lst l)=>l.length+m.length<=big/\Q (.v (.sh .non)) (U.set j ⇑(.lst (l++m)))
 |_,_=>False
def oG(j:Nat)(Q:WQ):WQ:=λr U=>oF j r (slot U j) U Q
def fx(j:Nat)(o:Option S)(a:WE)(U:Env)(Q:WQ)(E:WX):Prop:=match o with
 |some (.lst _)=>a U (oG j Q) E
 |_=>False
theorem e_Xt:fB j a U Q E=fx j (slot U j) a U Q E:=by unfold fB fx oG oF;rfl
def zpi:fx j ⇑(.lst l) a U Q E=a U (oG j Q) E:=rfl
def zpg:oG j Q r U=oF j r (slot U j) U Q:=rfl
def zn8{l m:List S}:oF j (.v (.lst m)) ⇑(.lst l) U Q=(l.length+m.length<=big/\Q (.v (.sh .non)) (U.set j ⇑(.lst (l++m)))):=rfl
def tQ(o:Option D)(Q:Option Int->Env->Prop)(U:Env):Prop:=match o with|some (.int i)=>Q ⇑i U|_=>False
def iy(Q:Option Int->Env->Prop):WQ:=λx U=>tQ (view x U) Q U
def zoy{Q:Option Int->Env->Prop}:eJ none U Q E=Q none U:=rfl
def e_Pt{Q:Option Int->Env->Prop}:eJ ⇑a U Q E=a U (iy Q) E:=rfl
def zqW{Q:Option Int->Env->Prop}:iy Q x U=tQ (view x U) Q U:=rfl
def zpN{Q:Option Int->Env->Prop}:tQ ⇑(.int z) Q U=Q ⇑z U:=rfl
def tM(o:Option D)(l h:Option Int)(Q:WQ)(U:Env):Prop:=zz o λd=>kV (lM d l h) Q U
def tN(x:R)(l:Option Int)(Q:WQ):Option Int->Env->Prop:=λh U=>tM (zP x U) l h Q U
def tO(x:R)(hi:Option WE)(Q:WQ)(E:WX):Option Int->Env->Prop:=λl U=>eJ hi U (tN x l Q) E
def iu(lo hi:Option WE)(Q:WQ)(E:WX):WQ:=λx U=>eJ lo U (tO x hi Q E) E
def e_Sl:pE a lo hi U Q E=a U (iu lo hi Q E) E:=rfl
def zqO:iu lo hi Q E x U=eJ lo U (tO x hi Q E) E:=rfl
def zqp:tO x hi Q E l U=eJ hi U (tN x l Q) E:=rfl
def zoY:tN x l Q h U=tM (zP x U) l h Q U:=rfl
def zqt:tM ⇑d l h Q U=kV (lM d l h) Q U:=rfl
def vE(D:Ends)(k:Env->Prop):Ends:={D with nx:=k}
def e_nx:(vE D' K).nx=K:=rfl
def e_rt:(vE D' K).rt=D'.rt:=rfl
def e_ex:(vE D' K).ex=D'.ex:=rfl
def zm7:aZ D' U=D'.nx U:=rfl
def zoC:zM v w D' U=v (vE D' (w D')) U:=rfl
def yX(a b:WS)(D:Ends):Bool->Env->Prop:=λk U=>if k then a D U else b D U
def e_If:eS t v w D' U=t U (yX v w D') D'.ex:=rfl
def zpQ:yX v w D' true U=v D' U:=rfl
def zp9:yX v w D' false U=w D' U:=rfl
def zor:aV a D' U=a U D'.rt D'.ex:=rfl
def jg(D:Ends):WQ:=λ_ U=>D.nx U
def zmF:wExpr a D' U=a U (jg D') D'.ex:=rfl
def zkx:jg D' r U=D'.nx U:=rfl
def mH(g:WG)(D:Ends)(o:Option (S×Env)):Prop:=zz o λp=>g p.1 p.2 D.nx
def xD(g:WG)(D:Ends):WQ:=λr U=>mH g D (give r U)
def zpx:zO g a D' U=a U (xD g D') D'.ex:=rfl
def zmj:xD g D' r U=mH g D' (give r U):=rfl
def zmK:mH g D' ⇑(s,U)=g s U D'.nx:=rfl
def lZ(i j:Nat)(D:Ends)(s:S)(o:Option (S×Env)):Prop:=zz o λq=>D.nx ((q.2.set i ⇑s).set j ⇑q.1)
def mB(i j:Nat)(D:Ends)(t:R)(o:Option (S×Env)):Prop:=zz o λp=>lZ i j D p.1 (give t p.2)
def wR(i j:Nat)(D:Ends):List R->Env->Prop:=λB U=>match B with
 |[r,t]=>mB i j D t (give r U)
 |_=>False
theorem zpu:lG i j B D' U=B U (wR i j D') D'.ex:=by unfold lG;congr 1
def zm6:wR i j D' [r,x] U=mB i j D' x (give r U):=rfl
def zmX:mB i j D' x ⇑(s,U)=lZ i j D' s (give x U):=rfl
def zl2:lZ i j D' s ⇑(s',U)=D'.nx ((U.set i ⇑s).set j ⇑s'):=rfl
def e_gN:zy i s U K=K (U.set i ⇑s):=rfl
def jd(B:List WG)(d:D)(U:Env)(Q:Env->Prop):Prop:=match d with|.tup ds=>ds.length=B.length/\dD B ds U Q|_=>False
def e_gT:cK B s U K=jd B s.toD U K:=rfl
def zok:jd B (.tup ds) U K=(ds.length=B.length/\dD B ds U K):=rfl
def wZ(B:List WG)(ds:List D)(Q:Env->Prop):Env->Prop:=λU=>dD B ds U Q
def zpr:dD [] [] U K=K U:=rfl
def zoS:dD (g::B) (d::ds) U K=g (.sh d) U (wZ B ds K):=rfl
def zoF:wZ B ds K U=dD B ds U K:=rfl
def gC(j:Nat)(D:Ends)(x:R)(q:FL.D)(s:S)(o:Option S)(U:Env):Prop:=match x,q,o with
 |.loc k,.int n,some (.lst l)=>k=j/\zz (ixN l.length n) λm=>D.nx (U.set j ⇑(.lst (l.set m s)))
 |_,_,_=>False
def jT(j:Nat)(D:Ends)(x:R)(o:Option FL.D)(p:Option (S×Env)):Prop:=zz o λq=>zz p λp=>gC j D x q p.1 (slot p.2 j) p.2
def jU(j:Nat)(D:Ends)(r x:R):WQ:=λy U=>jT j D x (view y U) (give r U)
def jV(j:Nat)(i:WE)(D:Ends)(r:R):WQ:=λx U=>i U (jU j D r x) D.ex
def lX(j:Nat)(i:WE)(D:Ends):WQ:=λr U=>zv j U (jV j i D r) D.ex
theorem zqD:fD j a b D' U=b U (lX j a D') D'.ex:=by unfold fD lX jV jU jT gC;rfl
def znF:lX j a D' r U=zv j U (jV j a D' r) D'.ex:=rfl
def zlE:jV j a D' r x U=a U (jU j D' r x) D'.ex:=rfl
def zm5:jU j D' r x y U=jT j D' x (view y U) (give r U):=rfl
def zmx:jT j D' x ⇑q ⇑(s,U)=gC j D' x q s (slot U j) U:=rfl
def JA(B:0<=z)(h1:z<l.length):gC j D' (.loc j) (.int z) s ⇑(.lst l) U=D'.nx (U.set j ⇑(.lst (l.set z.toNat s))):=by show(j=j/\zz (ixN l.length z) _)=_;unfold ixN;rw[qZ B,qZ h1,LK];simp
theorem zlr:gC j D' (.loc j) (.int 0) s ⇑(.lst [s0,B]) U=D'.nx (U.set j ⇑(.lst [s,B])):=JA ⋯ (by show(0:Int)<2;decide)
theorem zld:gC j D' (.loc j) (.int 1) s ⇑(.lst [s0,B]) U=D'.nx (U.set j ⇑(.lst [s0,s])):=JA ⋯ (by show(1:Int)<2;decide)
def uA(o:Option (List D))(U:Env)(Q:List D->Env->Prop):Prop:=zz o λl=>Q l U
def uC(o:Option (S×Env))(Q:List D->Env->Prop):Prop:=zz o λp=>uA (items p.1.toD) p.2 Q
def jc(Q:List D->Env->Prop):WQ:=λr U=>uC (give r U) Q
def e_It:dA a U QI E=a U (jc QI) E:=rfl
def zqR:jc QI r U=uC (give r U) QI:=rfl
def zpl:uC ⇑(s,U) QI=uA (items s.toD) U QI:=rfl
def zol:uA ⇑l U QI=QI l U:=rfl
def zod:items (.lst l)=⇑l:=rfl
def zpX:items (.tup l)=⇑l:=rfl
def zpy:items (.str l)=⇑(l.map λc=>.str [c]):=rfl
def uF(o:Option (List D))(U:Env)(Q:List D->Env->Prop):Prop:=zz o λl=>Q (bW 0 l) U
def uG(o:Option (S×Env))(Q:List D->Env->Prop):Prop:=zz o λp=>uF (items p.1.toD) p.2 Q
def jh(Q:List D->Env->Prop):WQ:=λr U=>uG (give r U) Q
def e_En:lJ a U QI E=a U (jh QI) E:=rfl
def zqb:jh QI r U=uG (give r U) QI:=rfl
def zog:uG ⇑(s,U) QI=uF (items s.toD) U QI:=rfl
def zot:uF ⇑l U QI=QI (bW 0 l) U:=rfl
def tP(o:Option D)(Q:List D->Env->Prop)(U:Env):Prop:=match o with|some (.int j)=>(-big<=j/\j<=big)/\Q (fromTo 0 j.toNat) U|_=>False
def iw(Q:List D->Env->Prop):WQ:=λr U=>tP (view r U) Q U
def e_R1:bY a U QI E=a U (iw QI) E:=rfl
def zp3:iw QI r U=tP (view r U) QI U:=rfl
def zpB:tP ⇑(.int z) QI U=((-big<=z/\z<=big)/\QI (fromTo 0 z.toNat) U):=rfl
def kFor(g:WG)(b:WS)(D:Ends):List FL.D->Env->Prop:=λl U=>bS g b l D U
def zqr:fV it g v D' U=it U (kFor g v D') D'.ex:=rfl
def zlM:kFor g v D' l U=bS g v l D' U:=rfl
def vH(g:WG)(b:WS)(xs:List FL.D)(D:Ends):Ends:={D with nx:=bS g b xs D,ct:=bS g b xs D,bk:=D.nx}
def iz(g:WG)(b:WS)(xs:List FL.D)(D:Ends):Env->Prop:=λU=>b (vH g b xs D) U
def xJ:bS g v (d::xs) D' U=g (.sh d) U (iz g v xs D'):=rfl
def zpW:iz g v xs D' U=v (vH g v xs D') U:=rfl
def zqa:(vH g v xs D').nx=bS g v xs D':=rfl
def zov:(vH g v xs D').ex=D'.ex:=rfl
def mC(n:Nat)(o:Option S)(U:Env)(Q:WQ):Prop:=zz o λs=>Q (.v s) (U.take n)
def tY(n:Nat)(Q:WQ):Env->Prop:=λU=>mC n (slot U n) U Q
def wX(n:Nat)(E:WX):WX:=NX
def jb(n k:Nat)(g:WG)(c:WT)(b:WB)(Q:WQ)(E:WX):List D->Env->Prop:=λl U=>aT g c b l (U++⇑(.lst [])::List.replicate k none) (tY n Q) (wX n E)
def e_LC:lI n m it g c B U Q E=it U (jb n m g c B Q E) E:=rfl
def zpT:jb n m g c B Q E l U=aT g c B l (U++⇑(.lst [])::List.replicate m none) (tY n Q) (wX n E):=rfl
def zpk:tY n Q U=mC n (slot U n) U Q:=rfl
def zl1:mC n ⇑s U Q=Q (.v s) (U.take n):=rfl
def oE(g:WG)(c:WT)(b:WB)(xs:List D)(Q:Env->Prop)(E:WX):Env->Prop:=λU=>aT g c b xs U Q E
def tI(g:WG)(c:WT)(b:WB)(xs:List D)(Q:Env->Prop)(E:WX):Bool->Env->Prop:=λk U=>if k then b U (oE g c b xs Q E) E else aT g c b xs U Q E
def iq(g:WG)(c:WT)(b:WB)(xs:List D)(Q:Env->Prop)(E:WX):Env->Prop:=λU=>c U (tI g c b xs Q E) E
def xI:aT g c B (d::xs) U QE E=g (.sh d) U (iq g c B xs QE E):=rfl
def zoQ:iq g c B xs QE E U=c U (tI g c B xs QE E) E:=rfl
def zlD:tI g c B xs QE E true U=B U (oE g c B xs QE E) E:=rfl
def zpo:oE g c B xs QE E U=aT g c B xs U QE E:=rfl
def oP(n:Nat)(s:S)(o:Option S)(U:Env)(Q:Env->Prop):Prop:=match o with
 |some (.lst l)=>l.length<big/\Q (U.set n ⇑(.lst (l++[s])))
 |_=>False
def oQ(n:Nat)(o:Option (S×Env))(Q:Env->Prop):Prop:=zz o λp=>oP n p.1 (slot p.2 n) p.2 Q
def gj(n:Nat)(Q:Env->Prop):WQ:=λr U=>oQ n (give r U) Q
theorem e_Em:cG n a U QE E=a U (gj n QE) E:=by unfold cG gj oQ oP;rfl
def zox:gj n QE r U=oQ n (give r U) QE:=rfl
def zpt:oQ n ⇑(s,U) QE=oP n s (slot U n) U QE:=rfl
def zp2:oP n s ⇑(.lst l) U QE=(l.length<big/\QE (U.set n ⇑(.lst (l++[s])))):=rfl
def zoa:eR U QT E=QT true U:=rfl
def vI(o:Option (List S))(P:S->List S->Prop)(s:S):Prop:=zz o λfs=>P s fs
def gb(n:Nat)(ss:List S)(P:S->List S->Prop)(i:Nat)(o:Option S)(U:Env):Prop:=zz o λs=>if i<n then vI (aB ss (U.set i ⇑(.sh s.toD))) P (.sh s.toD)else vI (aB ss U) P s
def gc(n:Nat)(ss:List S)(P:S->List S->Prop):WQ:=λr U=>match r with
 |.v s=>vI (aB ss U) P s
 |.loc i=>gb n ss P i (slot U i) U
def ji(n:Nat)(ss:List S)(P:S->List S->Prop)(PX:D->List S->Prop):Ends where
 nx:=λU=>vI (aB ss U) P (.sh .non)
 rt:=gc n ss P
 bk:=λ_=>False
 ct:=λ_=>False
 ex:=λx U=>zz (aB ss U) λfs=>PX x fs
def AU(B:ss.length=n)(F:((List.range ss.length).all λi=>↥(i∈ks))=true)(h:v (ji n ss P PX) (ss.map some++List.replicate (m-n) none)):eK n m ks v ss P PX:=by show#[B,λi s hi=>?_,h];let:=(qg.mp hi).1;show .inl (by simpa using qH.mp F i ↑this)
def zpI:(ji n ss P PX).rt=gc n ss P:=rfl
def e_Rt:gc n ss P (.v s) U=vI (aB ss U) P s:=rfl
def e_Fn:vI ⇑fs P s=P s fs:=rfl
def fA(s:S):Option (List S)->Option (List S)
 |some fs=>⇑(s::fs)
 |none=>none
theorem e_f0:aB [] U=⇑[]:=by cases U<;>rfl
theorem e_fs:aB (.sh d::ss) (o::U)=fA (.sh d) (aB ss U):=by show(aB ss U).map _=_;cases aB ss U<;>rfl
theorem e_fl:aB (.lst l::ss) (⇑s::U)=fA s (aB ss U):=by show(aB ss U).map _=_;cases aB ss U<;>rfl
def e_fA:fA s ⇑fs=⇑(s::fs):=rfl
def zo9:aW (.int i) (.int j)=⇑(.sh (.int (i+j))):=rfl
theorem zm1(h:x.length+y.length<=big):aW (.str x) (.str y)=⇑(.sh (.str (x++y))):=qZ h
theorem zns(h:l.length+m.length<=big):aW (.lst l) (.lst m)=⇑(.lst ((l++m).map .sh)):=qZ h
def zpj:lT (.int i) (.int j)=⇑(.sh (.int (i-j))):=rfl
theorem zl3(h:-(2^64)<i/\i<2^64):lW (.int i) (.int j)=⇑(.sh (.int (i*j))):=by show(if jR i j=true then _ else none)=_;rw[qZ (by simp only[jR,h.1,h.2,decide_true,Bool.and_self,Bool.true_or])]
theorem zon(h:0<j):dS (.int i) (.int j)=⇑(.sh (.int (i %j))):=qZ h
theorem zme(h:0<j)(h2:j<18446744073709551616):gB (.int i) (.int j)=⇑(.sh (.int (i/j))):=qZ #[h,h2]
theorem zo5(h:0<=j/\j<=1000/\i.natAbs<2^64):lU (.int i) (.int j)=⇑(.sh (.int (i^j.toNat))):=qZ h
def zn9:lV (.int i)=⇑(.sh (.int (-i))):=rfl
def e_lt:vJ (.int i) (.int j)=⇑↥(i<j):=rfl
def e_gt:mM (.int i) (.int j)=⇑↥(j<i):=rfl
def e_le:kU (.int i) (.int j)=⇑↥(i<=j):=rfl
def e_ge:yY (.int i) (.int j)=⇑↥(j<=i):=rfl
theorem znR:fY (.int i) (.int j)=⇑↥(i=j):=by unfold fY;rw[q8 (by show λz=>Bool.noConfusion (show false=true from z))];simp
theorem zn7:fX (.int i) (.int j)=⇑(!decide (i=j)):=by unfold fX;rw[znR];rfl
theorem zm8:fY (.str x) (.str y)=⇑↥(x=y):=by unfold fY;rw[q8 (by show λz=>Bool.noConfusion (show false=true from z))];simp
theorem zqP:fX (.str x) (.str y)=⇑(!decide (x=y)):=by unfold fX;rw[zm8];rfl
theorem zlR:fY (.bl b) (.bl c)=⇑↥(b=c):=by unfold fY;rw[q8 (by show λz=>Bool.noConfusion (show false=true from z))];simp
theorem zps:fX (.bl b) (.bl c)=⇑(!decide (b=c)):=by unfold fX;rw[zlR];rfl
def zqT:fG (.bl b)=⇑b:=rfl
def zlB:bE [.str x]=⇑(.sh (.int x.length)):=rfl
def zng:bE [.tup l]=⇑(.sh (.int l.length)):=rfl
def zlS:bE [.lst l]=⇑(.sh (.int l.length)):=rfl
def zlv:gX [.bl b]=⇑(.sh (.int (if b then 1 else 0))):=rfl
def zl0:cU [.lst l]=⇑(.sh (.tup l)):=rfl
theorem znQ(h:x.length<=big):gW [.str x]=⇑(.lst (x.map λc=>.sh (.str [c]))):=qZ h
def zph:oY [.int i,.int j]=⇑(.sh (.int (if j>i then j else i))):=rfl
def zoi:oX [.int i,.int j]=⇑(.sh (.int (if j<i then j else i))):=rfl
def zpD:lM (.str x) a b=⇑(.sh (.str (bI x a b))):=rfl
def zqF:lM (.lst l) a b=⇑(.lst ((bI l a b).map .sh)):=rfl
def zpb:zv 0 (⇑(.sh d)::U) Q E=Q (.v (.sh d)) (⇑(.sh d)::U):=rfl
def zpL:zv 0 (⇑(.lst l)::U) Q E=Q (.loc 0) (⇑(.lst l)::U):=rfl
def zpw:slot (v::U) 0=v:=rfl
def zoA:List.set (u::U) 0 v=v::U:=rfl
def zqe:zv 1 (s0::⇑(.sh d)::U) Q E=Q (.v (.sh d)) (s0::⇑(.sh d)::U):=rfl
def zob:zv 1 (s0::⇑(.lst l)::U) Q E=Q (.loc 1) (s0::⇑(.lst l)::U):=rfl
def zp7:slot (s0::v::U) 1=v:=rfl
def zo6:List.set (s0::u::U) 1 v=s0::v::U:=rfl
def zpY:zv 2 (s0::B::⇑(.sh d)::U) Q E=Q (.v (.sh d)) (s0::B::⇑(.sh d)::U):=rfl
def zoN:zv 2 (s0::B::⇑(.lst l)::U) Q E=Q (.loc 2) (s0::B::⇑(.lst l)::U):=rfl
def zpf:slot (s0::B::v::U) 2=v:=rfl
def zqh:List.set (s0::B::u::U) 2 v=s0::B::v::U:=rfl
def zoG:zv 3 (s0::F::B::⇑(.sh d)::U) Q E=Q (.v (.sh d)) (s0::F::B::⇑(.sh d)::U):=rfl
def zqz:zv 3 (s0::F::B::⇑(.lst l)::U) Q E=Q (.loc 3) (s0::F::B::⇑(.lst l)::U):=rfl
def zqN:slot (s0::F::B::v::U) 3=v:=rfl
def zqg:List.set (s0::F::B::u::U) 3 v=s0::F::B::v::U:=rfl
def zoI:zv 4 (s0::G::F::B::⇑(.sh d)::U) Q E=Q (.v (.sh d)) (s0::G::F::B::⇑(.sh d)::U):=rfl
def zoz:zv 4 (s0::G::F::B::⇑(.lst l)::U) Q E=Q (.loc 4) (s0::G::F::B::⇑(.lst l)::U):=rfl
def zqi:slot (s0::G::F::B::v::U) 4=v:=rfl
def zpm:List.set (s0::G::F::B::u::U) 4 v=s0::G::F::B::v::U:=rfl
def zo7:zv 5 (s0::J::G::F::B::⇑(.sh d)::U) Q E=Q (.v (.sh d)) (s0::J::G::F::B::⇑(.sh d)::U):=rfl
def zpE:slot (s0::J::G::F::B::v::U) 5=v:=rfl
def zqI:List.set (s0::J::G::F::B::u::U) 5 v=s0::J::G::F::B::v::U:=rfl
def zqc:zv 6 (s0::L::J::G::F::B::⇑(.sh d)::U) Q E=Q (.v (.sh d)) (s0::L::J::G::F::B::⇑(.sh d)::U):=rfl
def zqG:zv 6 (s0::L::J::G::F::B::⇑(.lst l)::U) Q E=Q (.loc 6) (s0::L::J::G::F::B::⇑(.lst l)::U):=rfl
def zoc:slot (s0::L::J::G::F::B::v::U) 6=v:=rfl
def zpK:List.set (s0::L::J::G::F::B::u::U) 6 v=s0::L::J::G::F::B::v::U:=rfl
def zn6:zv 7 (s0::M::L::J::G::F::B::⇑(.sh d)::U) Q E=Q (.v (.sh d)) (s0::M::L::J::G::F::B::⇑(.sh d)::U):=rfl
def zqx:List.set (s0::M::L::J::G::F::B::u::U) 7 v=s0::M::L::J::G::F::B::v::U:=rfl
def zqu:zv 8 (s0::O::M::L::J::G::F::B::⇑(.sh d)::U) Q E=Q (.v (.sh d)) (s0::O::M::L::J::G::F::B::⇑(.sh d)::U):=rfl
def zpH:List.set (s0::O::M::L::J::G::F::B::u::U) 8 v=s0::O::M::L::J::G::F::B::v::U:=rfl
def zqL:zv 9 (s0::Y::O::M::L::J::G::F::B::⇑(.sh d)::U) Q E=Q (.v (.sh d)) (s0::Y::O::M::L::J::G::F::B::⇑(.sh d)::U):=rfl
def zoK:List.set (s0::Y::O::M::L::J::G::F::B::u::U) 9 v=s0::Y::O::M::L::J::G::F::B::v::U:=rfl
def zlO:zv 10 (s0::s1::Y::O::M::L::J::G::F::B::⇑(.sh d)::U) Q E=Q (.v (.sh d)) (s0::s1::Y::O::M::L::J::G::F::B::⇑(.sh d)::U):=rfl
def zl5:List.set (s0::s1::Y::O::M::L::J::G::F::B::u::U) 10 v=s0::s1::Y::O::M::L::J::G::F::B::v::U:=rfl
def znM:List.set (s0::s1::s2::Y::O::M::L::J::G::F::B::u::U) 11 v=s0::s1::s2::Y::O::M::L::J::G::F::B::v::U:=rfl
def zmf:gD o (.v (.sh p)) Q (.v (.sh q)) U=kV (o p q) Q U:=rfl
def znP:iC B (.v (.sh p)) QT (.v (.sh q)) U=kC (B p q) QT U:=rfl
def zmG:gD o (.v (.sh p)) Q (.v (.lst m)) U=iD o ⇑p ⇑(S.lst m).toD Q U:=rfl
def znc:iC B (.v (.sh p)) QT (.loc k) U=eO B ⇑p (view (.loc k) U) QT U:=rfl
def zlF:gD o (.v (.lst l)) Q (.v (.sh q)) U=iD o ⇑(S.lst l).toD ⇑q Q U:=rfl
def znY:gD o (.loc j) Q (.v (.lst m)) U=iD o (zP (.loc j) U) ⇑(S.lst m).toD Q U:=rfl
def znA:iC B (.loc j) QT (.v (.lst m)) U=eO B (view (.loc j) U) ⇑(S.lst m).toD QT U:=rfl
def zpz:kM d (.lst l)=xN d (.lst l):=rfl
def znv:dZ p q=(kM p q).map (!·):=rfl
def uE(Q:WQ)(o:Option (S×Env)):Prop:=zz o λp=>Q (.v (.sh p.1.toD)) p.2
def je(Q:WQ):WQ:=λr U=>uE Q (give r U)
def zpq:dN a U Q E=a U (je Q) E:=rfl
def znJ:je Q r U=uE Q (give r U):=rfl
def zmo:uE Q ⇑(s,U)=Q (.v (.sh s.toD)) U:=rfl
def mE(i:Nat)(D:Ends)(o:Option S)(U:Env):Prop:=zz o λs=>D.nx (U.set i ⇑(.sh s.toD))
def xA(i:Nat)(D:Ends):Env->Prop:=λU=>mE i D (slot U i) U
def zqM:aw i v D' U=v (vE D' (xA i D')) U:=rfl
def zm9:xA i D' U=mE i D' (slot U i) U:=rfl
def zm3:mE i D' ⇑s U=D'.nx (U.set i ⇑(.sh s.toD)):=rfl
theorem zmn{z:Int}(h:0<=z/\z<=1000/\u.length<=500):bU (.str u) (.int z)=⇑(.sh (.str (List.replicate z.toNat u).flatten)):=qZ h
def znS{z B:Int}:bU (.int z) (.int B)=lW (.int z) (.int B):=rfl
theorem uB{w v:WB}(h:w=v)(U:Env)(Q:Env->Prop)(E:WX):w U Q E=v U Q E:=by rw[h]
theorem uS{w v:WS}(h:w=v)(D':Ends)(U:Env):w D' U=v D' U:=by rw[h]
section
variable{U:Env}{Q:WQ}{QE:Env->Prop}{E:WX}{a b:WE}{x y r:R}{s:S}{q d:D}{n m j:Nat}{l:List D}
def znZ:(S.set l).toD=.set l:=rfl
def zmT:iH [.set l]=⇑(.sh (.int l.length)):=rfl
def zlN:eI [.lst l]=cQ l:=rfl
def zmU:eI [.set l]=cQ l:=rfl
def zqj:kP [.lst l]=newS l:=rfl
def Kr(h:bT l=true/\l.length<=150):newS l=⇑(.set (bV l)):=qZ h
variable{fr:D->Option S}
variable{c:WE}{QI:List D->Env->Prop}
end
section
variable{U:Env}{Q:WQ}{E:WX}{D':Ends}{a:WE}{v w:WS}{x:R}{j:Nat}{c:List Nat}{cs kn yes fs:List (List Nat)}{vs:List D}{d:D}
def wQ(c f:List Nat)(D:Ends):WQ:=λr U=>yV c f D U (view r U)
def e_Rz{f:List Nat}:dJ c f a D' U=a U (wQ c f D') D'.ex:=rfl
def zoU{f:List Nat}:wQ c f D' x U=yV c f D' U (view x U):=rfl
def zqS{f:List Nat}{i:Int}:yV c f D' U ⇑(.int i)=D'.ex (.exc c [f] [.int i]) U:=rfl
def vO(cs:List (List Nat))(w:WS)(D:Ends):Ends:={D with ex:=λd U=>jn cs d/\w {D with ex:=NX} U}
def zqB:nE cs v w D' U=v (vO cs w D') U:=rfl
def zmL:(vO cs w D').nx=D'.nx:=rfl
end
section
variable{U:Env}{Q:WQ}{E:WX}{a:WE}{r:R}{j:Nat}{d:D}{l:List D}{x:List Nat}{s:S}{o:Option S}
def e_S0:lF U Q E=Q (.v (.set [])) U:=rfl
def lY(j:Nat)(t:S)(Q:WQ)(U:Env):Option S->Prop
 |some (.set l)=>bT (t.toD::l)=true/\l.length<=150/\Q (.v (.sh .non)) (U.set j ⇑(.set (bZ l t.toD)))
 |_=>False
def oH(j:Nat)(Q:WQ):Option (S×Env)->Prop
 |some p=>lY j p.1 Q p.2 (slot p.2 j)
 |none=>False
def oI(j:Nat)(Q:WQ):WQ:=λr U=>oH j Q (give r U)
def fz(j:Nat)(o:Option S)(e:WE)(U:Env)(Q:WQ)(E:WX):Prop:=match o with
 |some (.set _)=>e U (oI j Q) E
 |_=>False
theorem e_Sa:hU j a U Q E=fz j (slot U j) a U Q E:=by
 unfold hU fz;cases slot U j with
 |none=>rfl
 |some s=>
  cases s with
  |set l=>
   show a U _ E=a U _ E;congr 1
   funext r U2
   unfold oI oH;cases give r U2 with
   |none=>rfl
   |some p=>show(match slot p.2 j with|some (.set l)=>_|_=>_)=lY j p.1 Q p.2 (slot p.2 j);unfold lY;rfl
  |_=>rfl
def zqy:fz j ⇑(.set l) a U Q E=a U (oI j Q) E:=rfl
def zpn:oI j Q r U=oH j Q (give r U):=rfl
def zof:oH j Q ⇑(s,U)=lY j s Q U (slot U j):=rfl
def zoj:lY j s Q U ⇑(.set l)=(bT (s.toD::l)=true/\l.length<=150/\Q (.v (.sh .non)) (U.set j ⇑(.set (bZ l s.toD)))):=rfl
def yW(j:Nat)(o:Option S)(U:Env)(Q:WQ):Prop:=match o with
 |some (.lst l)=>zz l[l.length-1]? λs=>Q (.v s) (U.set j ⇑(.lst l.dropLast))
 |_=>False
theorem e_Pp{U:Env}{Q:WQ}{E:WX}{j:Nat}:nF j U Q E=yW j (slot U j) U Q:=by unfold nF yW;rfl
theorem zoV{U:Env}{Q:WQ}{j:Nat}{l:List S}{s:S}:yW j ⇑(.lst (l++[s])) U Q=Q (.v s) (U.set j ⇑(.lst l)):=by simp[yW,zz]
def tT(o:Option (List FL.D))(U:Env)(Q:WQ):Prop:=zz o λl=>Q (.v (.lst (l.map .sh))) U
def tU(s:S)(o:Option (S×Env))(Q:WQ):Prop:=zz o λq=>tT (kX s.toD q.1.toD) q.2 Q
def tV(t:R)(o:Option (S×Env))(Q:WQ):Prop:=zz o λp=>tU p.1 (give t p.2) Q
def tX(r:R)(Q:WQ):WQ:=λt U=>tV t (give r U) Q
def ja(b:WE)(Q:WQ)(E:WX):WQ:=λr U=>b U (tX r Q) E
def e_LZ{a b:WE}{U:Env}{Q:WQ}{E:WX}:iL a b U Q E=a U (ja b Q E) E:=rfl
def zqf{b:WE}{r:R}{U:Env}{Q:WQ}{E:WX}:ja b Q E r U=b U (tX r Q) E:=rfl
def zpp{r x:R}{U:Env}{Q:WQ}:tX r Q x U=tV x (give r U) Q:=rfl
def zpJ{x:R}{s:S}{U:Env}{Q:WQ}:tV x ⇑(s,U) Q=tU s (give x U) Q:=rfl
def zoZ{s s':S}{U:Env}{Q:WQ}:tU s' ⇑(s,U) Q=tT (kX s'.toD s.toD) U Q:=rfl
theorem zo0{l m:List FL.D}{U:Env}{Q:WQ}:tT (kX (.tup l) (.tup m)) U Q=((l.length=m.length/\l.length<=big)/\Q (.v (.lst ((gI l m).map .sh))) U):=by
 show(zz (if l.length=m.length/\l.length<=big then ⇑(gI l m)else none) λl=>Q (.v (.lst (l.map .sh))) U)=_;by_cases h:l.length=m.length/\l.length<=big
 .rw[qZ h];show propext #[λq=>#[h,q],λq=>q.2]
 .rw[q8 h];show propext #[λq=>False.elim q,λq=>(h q.1).elim]
end
theorem zjX(h:eE l m=true):iG g (.tup l) (.tup m)=⇑(fo g (aE l m)):=qZ h
theorem zlo{x:List Nat}{c:Nat}(h:x.length<=big):dF x [.str [c]]=⇑(.lst ((aJ c x).map λp=>S.sh (.str p))):=qZ h
theorem zmW{i:Int}(h1:-1000000000000<i)(h2:i<1000000000000):kO [.int i]=⇑(.sh (.str (aH i))):=qZ #[h1,h2]
def zoD{a:List Nat}{U:Env}{Q:WQ}{E:WX}:jN [] a U Q E=(a.length<=big/\Q (.v (.sh (.str a))) U):=rfl
def zoq{l a:List Nat}{r:List FP}{U:Env}{Q:WQ}{E:WX}:jN (.tx l::r) a U Q E=((a++l).length<=big/\jN r (a++l) U Q E):=rfl
def oO(o:Option D)(r:List FP)(a:List Nat)(Q:WQ)(E:WX)(U:Env):Prop:=zz o λd=>zz (uL d) λl=>(a++l).length<=big/\jN r (a++l) U Q E
def jf(r:List FP)(a:List Nat)(Q:WQ)(E:WX):WQ:=λx U=>oO (view x U) r a Q E U
def zp0{w:WE}{a:List Nat}{r:List FP}{U:Env}{Q:WQ}{E:WX}:jN (.vl w::r) a U Q E=w U (jf r a Q E) E:=rfl
def zop{x:R}{a:List Nat}{r:List FP}{U:Env}{Q:WQ}{E:WX}:jf r a Q E x U=oO (view x U) r a Q E U:=rfl
theorem znX{i:Int}{a:List Nat}{r:List FP}{U:Env}{Q:WQ}{E:WX}(h1:-1000000000000<i)(h2:i<1000000000000):oO ⇑(.int i) r a Q E U=((a++aH i).length<=big/\jN r (a++aH i) U Q E):=by show zz (if -1000000000000<i/\i<1000000000000 then ⇑(aH i)else none) _=_;rw[qZ #[h1,h2]];rfl
def zlP{l a:List Nat}{r:List FP}{U:Env}{Q:WQ}{E:WX}:oO ⇑(.str l) r a Q E U=((a++l).length<=big/\jN r (a++l) U Q E):=rfl
def sg(c:Nat):D:=.str [c]
def jt:items (.str l)=⇑(l.map sg):=rfl
def JX(l:List Nat):cO (l.map sg)=⇑(l.map λc=>[c]):=by let:=SL (l.map λc=>[c]);rw[qD]at this;show this
def Kx:∀l:List Nat,((l.map λc=>[c]).map List.length).sum=l.length
 |[]=>rfl
 |c::l=>by let:=Kx l;simp at this⊢;lia
def LS:∀l:List Nat,(l.map λc=>[c]).flatten=l
 |[]=>rfl
 |c::l=>by let:=LS l;simp;rw[this]
def JZ(h:l.length<=big):cJ [] [.lst (l.map sg)]=⇑(.sh (.str l)):=by show(cO (l.map sg)).bind _=_;grind[JX,List.length,big,aM,Kx,RN,LS]
def nH:D->Nat
 |.str [c]=>c
 |_=>0
def Px(h:l.Perm (A.map sg)):∃B:List Nat,B.Perm A/\l=B.map sg:=by
 show#[l.map nH,?_,?_]
 .let:=h.map nH;rw[qD]at this;let e:(nH∘sg)=id:=funext λc=>rfl;rw[e,map_id]at this;show this
 .rw[qD];let:∀d∈l,(sg∘nH) d=id d:=λd F=>by let#[c,_,rfl]:=qJ.mp (h.mem_iff.mp F);rfl
  rw[map_congr_left this,map_id]
def cX:big=1000000:=rfl
def Du:(fromTo lo n).length=n:=by simp[fromTo]
def Mc{l:List D}{k:Nat}(h:l[k]?=⇑d):(l.map S.sh)[k]?=⇑(.sh d):=by rw[qE,h];rfl
def Gy{α β:Type}{f:α->β}{l:List α}{z:Int}(F:0<=z)(h1:z<l.length):∃v,v∈l/\l[z.toNat]?=⇑v/\atI (l.map f) z=⇑(f v):=by
 let B:z.toNat<l.length:=∅
 show#[l[z.toNat],getElem_mem B,qh B,Dy F (by rw[qE,qh B];rfl)]
def Ff(F:0<=z)(h1:z<l.length):∃v,v∈l/\l[z.toNat]?=⇑v/\atI l z=⇑v:=by
 let B:z.toNat<l.length:=∅
 show#[l[z.toNat],getElem_mem B,qh B,Dy F (qh B)]
def Fu{α β:Type}{f:α->β}:∀(l:List α)(k:Nat),(l.map f).eraseIdx k=(l.eraseIdx k).map f
 |[],_=>rfl
 |_::_,0=>rfl
 |x::l,k+1=>by show f x::(l.map f).eraseIdx k=f x::(l.eraseIdx k).map f;rw[Fu l k]
def PD(f:α->β)(l:List α)(a b:Option Int):bI (l.map f) a b=(bI l a b).map f:=by unfold bI;simp_all
def KL(l:List α)(a b:Option Int):(bI l a b).length<=l.length:=by unfold bI;rw[qG,qF];show le_trans (min_le_right ..) (sub_le ..)
def KO(h:x∈bI l a b):x∈l:=by show List.mem_of_mem_drop (List.mem_of_mem_take h)
def Pk(l:List α){k:Int}(B:0<=k)(h1:k<=l.length):bI l none ⇑k=l.take k.toNat:=by unfold bI sIx;grind
def Lv(l:List α)(B:0<=k):bI l ⇑k none=l.drop k.toNat:=by
 unfold bI sIx;let:¬k<0:=∅
 simp[q8 this];by_cases h:k.toNat<=l.length
 .rw[Nat.min_eq_left h,List.take_of_length_le];rw[qF];lia
 .let h2:l.length<=k.toNat:=by lia
  rw[Nat.min_eq_right h2,List.drop_of_length_le (q9 _),List.drop_of_length_le h2,List.take_nil]
def He(l:List Bool):kQ [.lst (l.map D.bl)]=⇑(.sh (.bl (l.all id))):=by show(gF (l.map D.bl)).map _=_;rw[SI];rfl
def Mf{α:Type}:∀(l:List α)(i:Nat)(h:i<l.length),(l[i]::l.eraseIdx i).Perm l
 |x::l,0,_=>List.Perm.refl _
 |x::l,i+1,h=>by
  let hi:i<l.length:=↑h
  show(List.Perm.swap x l[i] _).trans (List.Perm.cons x (Mf l i hi))
def tH(b:WB)(K:Env->Prop)(E:WX):Bool->Env->Prop:=λk U=>if k then b U K E else K U
def nA(c:WT)(b:WB)(K:Env->Prop)(E:WX):Env->Prop:=λU=>c U (tH b K E) E
def kJ:nA c b K E U=c U (tH b K E) E:=rfl
def vB:tH b K E true U=b U K E:=rfl
def Ng{α:Type}{toD:α->D}(I:List α->Env->Prop)(xs:List α)
  (step:∀(F:List α)(x:α)(B:List α)(K:Env->Prop)(U:Env),F++x::B=xs->I F U->(∀U',I (F++[x]) U'->K U')->g (.sh (toD x)) U (nA c b K E))
  (J:∀U,I xs U->Q U)(M:I [] U):aT g c b (xs.map toD) U Q E:=by
 have G:∀(B F:List α)(U:Env),F++B=xs->I F U->aT g c b (B.map toD) U Q E:=by
  intro B;induction B with
  |nil=>intro F U e h;rw[qz]at e;subst e;show J U h
  |cons x B L=>intro F U e h;show step F x B (oE g c b (B.map toD) Q E) U e h λU' h'=>L (F++[x]) U' (by rw[<-e];simp) h'
 show G xs [] U rfl M
def Hj{α:Type}{toD:α->D}(I:List α->Env->Prop)(xs:List α)
  (step:∀(F:List α)(x:α)(B:List α)(G:Ends)(U:Env),F++x::B=xs->I F U->(∀U',I (F++[x]) U'->G.nx U')->(∀U',I (F++[x]) U'->G.ct U')->G.rt=D'.rt->G.bk=D'.nx->g (.sh (toD x)) U (λU=>b G U))
  (L:∀U,I xs U->D'.nx U)(O:I [] U):bS g b (xs.map toD) D' U:=by
 have J:∀(B F:List α)(U:Env),F++B=xs->I F U->bS g b (B.map toD) D' U:=by
  intro B;induction B with
  |nil=>intro F U e h;rw[qz]at e;subst e;show L U h
  |cons x B M=>intro F U e h;let k:=λU' h'=>M (F++[x]) U' (by rw[<-e];simp) h';show step F x B (vH g b (B.map toD) D') U e h k k rfl rfl
 show J xs [] U rfl O
def Oq{α:Type}{toD:α->D}(I:List α->List S->Env->Prop)(xs:List α)
  (step:∀(F:List α)(x:α)(G:List α)(l:List S)(U:Env)(vs:List (Option S))(K:Env->Prop),F++x::G=xs->vs.length=k->I F l U->(∀L U1 B,B.length=k->I (F++[x]) L U1->K (U1++⇑(.lst L)::B))->g (.sh (toD x)) (U++⇑(.lst l)::vs) (nA c b K E))
  (h5:∀l U vs,vs.length=k->I xs l U->Q (U++⇑(.lst l)::vs))(hv:vs.length=k)(h0:I [] [] U):aT g c b (xs.map toD) (U++⇑(.lst [])::vs) Q E:=by
 show Ng (λF J=>∃l U1 B,B.length=k/\I F l U1/\J=U1++⇑(.lst l)::B) xs (λF x G K J e Y hK=>?_) (λJ Y=>?_) #[[],U,vs,hv,h0,rfl]
 .obtain⟨l,U1,B,h1,h2,rfl⟩:=Y;show step F x G l U1 B K e h1 h2 λL M O h3 h4=>hK _ #[L,M,O,h3,h4,rfl]
 .obtain⟨l,U1,B,h1,h2,rfl⟩:=Y;show h5 l U1 B h1 h2
def Hi{α:Type}{toD:α->D}(xs:List α)(h:α->Option S)
  (step:∀x∈xs,∀(l:List S)(vs:List (Option S))(K:Env->Prop),vs.length=k->l.length<xs.length->(∀B,B.length=k->K (U++⇑(.lst (l++(h x).toList))::B))->g (.sh (toD x)) (U++⇑(.lst l)::vs) (nA c b K E))
  (J:∀vs,vs.length=k->Q (U++⇑(.lst (xs.filterMap h))::vs))(M:vs.length=k):aT g c b (xs.map toD) (U++⇑(.lst [])::vs) Q E:=by
 show Oq (λF l G=>G=U/\l=F.filterMap h) xs (λF x L l G vs K e h1 h2 Y=>?_) (λl G vs h1 h2=>?_) M #[rfl,rfl]
 .obtain⟨rfl,rfl⟩:=h2;let O:(F.filterMap h).length<xs.length:=by let:=List.length_filterMap_le h F;rw[<-e];simp;lia
  show step x (by rw[<-e];simp) _ vs K h1 O λB h3=>Y _ _ B h3 #[rfl,?_];cases q:h x<;>simp[q]
 .obtain⟨rfl,rfl⟩:=h2;show J vs h1
def El{vs:List (Option S)}(h:vs.length=1):∃a,vs=[a]:=by
 match vs,h with
 |[a],_=>show#[a,rfl]
def Ek{vs:List (Option S)}(h:vs.length=2):∃a b,vs=[a,b]:=by
 match vs,h with
 |[a,b],_=>show#[a,b,rfl]
def Ej{vs:List (Option S)}(h:vs.length=3):∃a b c,vs=[a,b,c]:=by
 match vs,h with
 |[a,b,c],_=>show#[a,b,c,rfl]
section
variable{α:Type}
def UW(xs:List α)(h:α->Option S)
  (step:∀x∈xs,∀(l:List S)(o:Option S)(K:Env->Prop),l.length<xs.length->(∀o,K (U.take n++[⇑(.lst (l++(h x).toList)),o]))->zy (n+1) (.sh (toD x)) (U.take n++[⇑(.lst l),o]) (nA c b K E))
  (F:∀o,Q (U.take n++[⇑(.lst (xs.filterMap h)),o]))(e:autoParam (U=U.take n++[⇑(.lst []),M]) rZ9):aT (zy (n+1)) c b (xs.map toD) U Q E:=by
 rw[e];show Hi (k:=1) xs h (λx G l vs K B J L=>?_) (λvs B=>?_) rfl
 .obtain⟨a,rfl⟩:=El B;show step x G l a K J λo=>L [o] rfl
 .obtain⟨a,rfl⟩:=El B;show F a
def UV(xs:List α)(h:α->Option S)
  (step:∀x∈xs,∀(l:List S)(o o':Option S)(K:Env->Prop),l.length<xs.length->(∀o o',K (U.take n++[⇑(.lst (l++(h x).toList)),o,o']))->cK [zy (n+1),zy (n+2)] (.sh (toD x)) (U.take n++[⇑(.lst l),o,o']) (nA c b K E))
  (F:∀o o',Q (U.take n++[⇑(.lst (xs.filterMap h)),o,o']))(e:autoParam (U=U.take n++[⇑(.lst []),O,o1]) rZ9):aT (cK [zy (n+1),zy (n+2)]) c b (xs.map toD) U Q E:=by
 rw[e];show Hi (k:=2) xs h (λx J l vs K B L M=>?_) (λvs B=>?_) rfl
 .obtain⟨a,G,rfl⟩:=Ek B;show step x J l a G K L λo o'=>M [o,o'] rfl
 .obtain⟨a,G,rfl⟩:=Ek B;show F a G
def UU(xs:List α)(h:α->Option S)
  (step:∀x∈xs,∀(l:List S)(o o' B:Option S)(K:Env->Prop),l.length<xs.length->(∀o o' B,K (U.take n++[⇑(.lst (l++(h x).toList)),o,o',B]))->cK [zy (n+1),zy (n+2),zy (n+3)] (.sh (toD x)) (U.take n++[⇑(.lst l),o,o',B]) (nA c b K E))
  (J:∀o o' B,Q (U.take n++[⇑(.lst (xs.filterMap h)),o,o',B]))(e:autoParam (U=U.take n++[⇑(.lst []),o0,o1,o2]) rZ9):aT (cK [zy (n+1),zy (n+2),zy (n+3)]) c b (xs.map toD) U Q E:=by
 rw[e];show Hi (k:=3) xs h (λx M l vs K G O Y=>?_) (λvs G=>?_) rfl
 .obtain⟨a,L,F,rfl⟩:=Ej G;show step x M l a L F K O λo o' B=>Y [o,o',B] rfl
 .obtain⟨a,L,F,rfl⟩:=Ej G;show J a L F
def Mu(xs:List α)(h:α->S)
  (step:∀x∈xs,∀(l:List S)(o:Option S)(K:Env->Prop),l.length<xs.length->(∀o,K (U.take n++[⇑(.lst (l++[h x])),o]))->zy (n+1) (.sh (toD x)) (U.take n++[⇑(.lst l),o]) (nA c b K E))
  (B:∀o,Q (U.take n++[⇑(.lst (xs.map h)),o]))(e:autoParam (U=U.take n++[⇑(.lst []),F]) rZ9):aT (zy (n+1)) c b (xs.map toD) U Q E:=
 UW xs (λx=>⇑(h x)) step (λo=>by rw[show(xs.filterMap λx=>⇑(h x))=xs.map h from List.filterMap_eq_map▸rfl];show B o) e
def UT(xs:List α)(h:α->S)
  (step:∀x∈xs,∀(l:List S)(o o':Option S)(K:Env->Prop),l.length<xs.length->(∀o o',K (U.take n++[⇑(.lst (l++[h x])),o,o']))->cK [zy (n+1),zy (n+2)] (.sh (toD x)) (U.take n++[⇑(.lst l),o,o']) (nA c b K E))
  (B:∀o o',Q (U.take n++[⇑(.lst (xs.map h)),o,o']))(e:autoParam (U=U.take n++[⇑(.lst []),F,o1]) rZ9):aT (cK [zy (n+1),zy (n+2)]) c b (xs.map toD) U Q E:=
 UV xs (λx=>⇑(h x)) step (λo o'=>by rw[show(xs.filterMap λx=>⇑(h x))=xs.map h from List.filterMap_eq_map▸rfl];show B o o') e
def IX(xs:List α)(h:α->S)
  (step:∀x∈xs,∀(l:List S)(o o' B:Option S)(K:Env->Prop),l.length<xs.length->(∀o o' B,K (U.take n++[⇑(.lst (l++[h x])),o,o',B]))->cK [zy (n+1),zy (n+2),zy (n+3)] (.sh (toD x)) (U.take n++[⇑(.lst l),o,o',B]) (nA c b K E))
  (F:∀o o' B,Q (U.take n++[⇑(.lst (xs.map h)),o,o',B]))(e:autoParam (U=U.take n++[⇑(.lst []),G,o1,o2]) rZ9):aT (cK [zy (n+1),zy (n+2),zy (n+3)]) c b (xs.map toD) U Q E:=
 UU xs (λx=>⇑(h x)) step (λo o' B=>by rw[show(xs.filterMap λx=>⇑(h x))=xs.map h from List.filterMap_eq_map▸rfl];show F o o' B) e
end
def GY(I:Nat->Env->Prop)(xs:List D)
  (step:∀(k:Nat)(x:D),xs[k]?=⇑x->∀(F:Ends)(U:Env),I k U->(∀U',I (k+1) U'->F.nx U')->(∀U',I (k+1) U'->F.ct U')->F.rt=D'.rt->F.bk=D'.nx->g (.sh x) U (λU=>b F U))
  (O:∀U,I xs.length U->D'.nx U)(h0:I 0 U):bS g b xs D' U:=by
 let:=Hj (toD:=λx:D=>x) (g:=g) (b:=b) (D':=D') (λB U=>I B.length U) xs (λB x Y F U e hI J L G M=>step B.length x (by rw[<-e];simp) F U hI (λU' h=>J U' ↑h) (λU' h=>L U' ↑h) G M) O h0;rwa[List.map_id']at this
def KF:∀l:List (List Nat),∀d∈l.map D.str,mV d:=λl d B=>by let#[x,_,rfl]:=qJ.mp B;trivial
def JC:([a]:List Nat)<[b]↔a<b:=by simp[List.cons_lt_cons_iff]
def SQ{l:List Nat}(h:l.Pairwise (·<=·))(hn:l.Nodup):l.Pairwise (·<·):=by let:=h.and hn;show this.imp λ⟨h1,h2⟩=>∅
def Nl(h:mV x):(aQ x (.str z)||↥(30<fW x))=false:=by
 cases x with
 |str i=>rfl
 |_=>show h.elim
def Uw{ns:List (List Nat)}:(if(ns.map D.str).any (λx=>aQ x (.str z)||↥(30<fW x))then none else ⇑(open Classical in ↥(D.str z∈ns.map D.str)))=⇑↥(z∈ns):=by grind[mem_map,List.any_eq_true.mp,Nl,KF]
def Qk{ns:List (List Nat)}:xN (.str z) (.lst (ns.map D.str))=⇑↥(z∈ns):=Uw
def LA:∀l:List (List Nat),cE (l.map D.str)=0
 |[]=>rfl
 |z::l=>by show max (fW (.str z)) (cE (l.map D.str))=0;rw[LA l];rfl
def Rn:fX (.lst (l.map D.str)) (.lst [])=⇑(!decide (l=[])):=by
 unfold fX fY;rw[q8 (by
  let:fW (.lst (l.map D.str))=1:=by show cE (l.map D.str)+1=1;rw[LA]
  rw[this];cases l<;>show λz=>Bool.noConfusion (show false=true from z))]
 simp
def Bz{α:Type}{l:List α}(h:l.length=n+1):∃a r,l=a::r/\r.length=n:=by
 cases l with
 |nil=>cases h
 |cons a r=>show#[a,r,rfl,Nat.succ.inj h]
def ID{α:Type}{l:List α}(h:l.length=0):l=[]:=List.length_eq_zero_iff.mp h
def CQ{α:Type}{l:List α}(h:l.length=1):∃a,l=[a]:=by let#[a,r,rfl,k]:=Bz h;obtain rfl:=ID k;show#[a,rfl]
def CP{α:Type}{l:List α}(h:l.length=2):∃B a1,l=[B,a1]:=by let#[B,r,rfl,k]:=Bz h;let#[a1,rfl]:=CQ k;show#[B,a1,rfl]
def Ec{α:Type}{l:List α}(h:l.length=3):∃B a1 a2,l=[B,a1,a2]:=by let#[B,r,rfl,k]:=Bz h;let#[a1,a2,rfl]:=CP k;show#[B,a1,a2,rfl]
def Eb{α:Type}{l:List α}(h:l.length=4):∃F a1 a2 B,l=[F,a1,a2,B]:=by let#[F,r,rfl,k]:=Bz h;let#[a1,a2,B,rfl]:=Ec k;show#[F,a1,a2,B,rfl]
def FB{α:Type}{l:List α}(h:l.length=5):∃G a1 a2 F B,l=[G,a1,a2,F,B]:=by let#[G,r,rfl,k]:=Bz h;let#[a1,a2,F,B,rfl]:=Eb k;show#[G,a1,a2,F,B,rfl]
abbrev Wd:=List Nat
def KG{α:Type}(f:α->D):∀(B:List α)(k:Nat),bW k (B.map f)=(List.range B.length).map λi=>D.tup [.int ((k+i:Nat):Int),(B[i]?).elim .non f]
 |[],k=>rfl
 |b::B,k=>by rw[qy,bW,KG f B (k+1),qt,List.range_succ_eq_map,qy,qD];congr 1;show map_congr_left λi _=>?_;rw[show k+1+i=k+(i+1) by lia];rfl
def Gc{z:Int}{n:Nat}(h:z=n):fromTo 0 z.toNat=(List.range n).map λ(k:Nat)=>D.int (k:Int):=by subst h;show map_congr_left λk _=>?_;rw[Int.zero_add]
def Lu(h:B++i::post=List.range n):B.length=i/\i<n:=by
 let h1:(List.range n)[B.length]?=⇑i:=by rw[<-h];simp
 let#[h2,F]:=qg.mp h1;rw[List.getElem_range]at F;rw[qC]at h2;lia
def Nk(l:List (List Nat)):cO (l.map D.str)=⇑l:=by
 induction l with
 |nil=>rfl
 |cons a l B=>show(cO (l.map D.str)).map (a::·)=_;rw[B];rfl
def ag(D':Ends)(m:Nat)(J:Nat->Env->Prop):Ends:={D' with nx:=λB=>∃m',m'<m/\J m' B,ct:=λB=>∃m',m'<m/\J m' B,bk:=D'.nx}
def fy(b:WS)(D':Ends)(m:Nat)(J:Nat->Env->Prop)(k:Bool)(U:Env):Prop:=if k then b (ag D' m J) U else D'.nx U
def vM:fy b D' m J true U=b (ag D' m J) U:=rfl
def vN:fy b D' m J false U=D'.nx U:=rfl
def GZ(B:m'<m)(h:J m' U):(ag D' m J).nx U:=#[m',B,h]
def Jc(J:Nat->Env->Prop)(m:Nat)(F:J m U)(h:∀m U,J m U->c U (fy b D' m J) D'.ex):fC c b D' U:=#[J,#[m,F],λm U B=>h m U B]
def Lg{l:List α}(h:0<l.length):∃v,v∈l/\l.getLast?=⇑v/\atI l (-1)=⇑v:=by show#[l.getLast (qO.mp h),List.getLast_mem _,List.getLast?_eq_some_getLast (qO.mp h),?_];unfold atI ixN;rw[q8 ⋯,qZ ∅];show l[((-1:Int)+(l.length:Int)).toNat]?=_;rw[show((-1:Int)+(l.length:Int)).toNat=l.length-1 by lia,qh ∅,List.getLast_eq_getElem]
def OD:atI (l++[x]) (-1)=⇑x:=by let#[v,_,h1,h2]:=Lg (l:=l++[x]) (by simp);grind
end FL
namespace Law
open FL
abbrev il:List Nat:=[66,97,100,84,101,120,116]
abbrev yJ:List Nat:=[78,111,66,111,97,114,100]
def lE:WB:=cG 1 (dM (cM kU kU (wC (.str [97])) (zv 2) (wC (.str [122]))))
def rM:=uB lE.eq_1
def yK:WF:=eK 1 1 [0]
 (aV (wB kQ (zw (lI 1 1 (dA (zv 0)) (zy 2) eR lE) zx)))
def aq:WF:=eK 1 1 [0]
 (aV (nG (cN (zv 0)) (iK cJ (wC (.str [32])) (zw (zv 0) zx)) (wC (.str [45]))))
def lA:WB:=cG 4 (jN [.vl (zv 5),.tx [32],.vl (zv 6),.tx [32],.vl (zv 7)] [])
def rK:=uB lA.eq_1
def ak:WF:=eK 1 4 [0]
 (zM (zO (cK [zy 1,zy 2]) (zv 0))
  (zM (aw 3 (zO (zy 3) (lI 4 3 (dA (zv 2)) (cK [zy 5,zy 6,zy 7]) eR lA)))
  (aV (iK cJ (wC (.str [10])) (zw (zL aW (cY (zw (jN [.tx [114,111,111,109,115,32],.vl (zv 1)] []) zx)) (zv 3)) zx)))))
def jM:WB:=cG 1 (dM (cM kU kU (wC (.str [48])) (zv 2) (wC (.str [57]))))
def nU:=uB jM.eq_1
def lD:WF:=eK 1 1 [0]
 (zM (eS (eQ (cZ (cM kU kU (wC (.int 1)) (wB bE (zw (zv 0) zx)) (wC (.int 3)))) (cZ (cN (wB kQ (zw (lI 1 1 (dA (zv 0)) (zy 2) eR jM) zx))))) (aV (wC .non)) aZ)
  (zM (eS (gA (aS mM (wB bE (zw (zv 0) zx)) (wC (.int 1))) (aS fY (cP (zv 0) (wC (.int 0))) (wC (.str [48])))) (aV (wC .non)) aZ)
  (aV (wB kD (zw (zv 0) zx)))))
def rG:WF:=eK 2 4 [0,1]
 (zM (zO (zy 2) (zL aW (zL bU (wC (.int 7919)) (zv 1)) (wC (.int 11))))
  (zM (eS (aS vJ (zv 1) (wB bE (zw (zv 0) zx))) (zO (zy 2) (cP (zv 0) (zv 1))) (eS (aS mM (wB bE (zw (zv 0) zx)) (wC (.int 0))) (zO (zy 2) (zL aW (zv 2) (zL bU (zL dS (cP (zv 0) (zL dS (zv 1) (wB bE (zw (zv 0) zx)))) (wC (.int 2147483629))) (wC (.int 69623))))) aZ))
  (zM (zO (zy 3) (zL aW (zL dS (zL aW (zL bU (zL dS (zv 2) (wC (.int 2147483629))) (wC (.int 48271))) (zL bU (wC (.int 40692)) (zv 1))) (wC (.int 2147483629))) (wC (.int 1))))
  (aV (cY (zw (cP (cY (zw (wC (.int 0)) (zw (zv 2) zx))) (wB gX (zw (dM (aS yY (zv 2) (zL lU (wC (.int 10)) (wC (.int 18))))) zx))) (zw (zv 3) zx)))))))
def bR:WF:=eK 2 4 [0,1]
 (zM (eS (aS mM (cP (zv 0) (wC (.int 0))) (wC (.int 0))) (zM (zO (zy 2) (zL dS (cP (zv 0) (wC (.int 0))) (zv 1)))
  (zM (fD 0 (wC (.int 0)) (zL gB (cP (zv 0) (wC (.int 0))) (zv 1)))
  (aV (zv 2)))) aZ)
  (zM (zO (zy 3) (zL dS (zL bU (cP (zv 0) (wC (.int 1))) (wC (.int 69623))) (wC (.int 2147483647))))
  (zM (fD 0 (wC (.int 1)) (zL aW (zL dS (zL aW (zL bU (zv 3) (wC (.int 48271))) (wC (.int 30103))) (wC (.int 2147483629))) (wC (.int 1))))
  (aV (zL dS (zL gB (zL aW (zL bU (zv 3) (wC (.int 2147483647))) (cP (zv 0) (wC (.int 1)))) (wC (.int 8191))) (zv 1))))))
def jI:WS:=zM (zO (cK [zy 3,zy 4]) (nF 2))
  (eS (cN (gN "tuple" (zv 4))) (zM (eS (eQ (cZ (cN (gN "tuple" (zv 3)))) (aS fX (wB bE (zw (zv 3) zx)) (wB bE (zw (zv 4) zx)))) (aV (wC (.bl false))) aZ)
  (wExpr (fB 2 (iL (zv 3) (zv 4))))) (eS (eQ (aS fX (gN "bool" (zv 3)) (gN "bool" (zv 4))) (aS fX (gN "int" (zv 3)) (gN "int" (zv 4)))) (aV (wC (.bl false))) (eS (eQ (cN (gN "tuple" (zv 3))) (aS fX (zv 3) (zv 4))) (aV (wC (.bl false))) aZ)))
def gO:=uS jI.eq_1
def kK:WF:=eK 2 5 [0,1]
 (zM (zO (zy 2) (cY (zw (eA (zw (zv 0) (zw (zv 1) zx))) zx)))
  (zM (fC (aS mM (wB bE (zw (zv 2) zx)) (wC (.int 0))) jI)
  (aV (wC (.bl true)))))
def jH:WB:=cG 2 (zL aW (zL aW (zL aW (zL aW (wB kO (zw (zv 3) zx)) (wC (.str [32]))) (zv 4)) (wC (.str [32]))) (wB kO (zw (zv 5) zx)))
def nM:=uB jH.eq_1
def rB:WF:=eK 1 2 [0]
 (zM (zO (zy 1) (dN (cY (zw (zL aW (wC (.str [114,111,111,109,115,32])) (wB kO (zw (cP (zv 0) (wC (.int 0))) zx))) zx))))
  (aV (iK cJ (wC (.str [10])) (zw (zL aW (zv 1) (lI 2 3 (dA (cP (zv 0) (wC (.int 1)))) (cK [zy 3,zy 4,zy 5]) eR jH)) zx))))
def av:WF:=eK 1 1 [0]
 (aV (jO (dM (aS fY (wB bE (zw (zv 0) zx)) (wC (.int 1)))) (zN yK [true] (zw (zv 0) zx))))
def ai:WF:=eK 1 3 [0]
 (zM (zO (zy 1) (iK dF (zv 0) (zw (wC (.str [32])) zx)))
  (zM (eS (eQ (aS fX (wB bE (zw (zv 1) zx)) (wC (.int 2))) (aS fX (cP (zv 1) (wC (.int 0))) (wC (.str [114,111,111,109,115])))) (aV (wC .non)) aZ)
  (zM (zO (zy 2) (dN (zN lD [true] (zw (cP (zv 1) (wC (.int 1))) zx))))
  (aV (nG (aS fY (zv 2) (wC (.int 0))) (wC .non) (zv 2))))))
def ah:WF:=eK 1 4 [0]
 (zM (zO (zy 1) (iK dF (zv 0) (zw (wC (.str [32])) zx)))
  (zM (eS (aS fX (wB bE (zw (zv 1) zx)) (wC (.int 3))) (aV (wC .non)) aZ)
  (zM (lG 2 3 (zw (zN lD [true] (zw (cP (zv 1) (wC (.int 0))) zx)) (zw (zN lD [true] (zw (cP (zv 1) (wC (.int 2))) zx)) zx)))
  (zM (eS (eQ (aS mL (zv 2) (wC .non)) (aS mL (zv 3) (wC .non))) (aV (wC .non)) aZ)
  (aV (eA (zw (zv 2) (zw (cP (zv 1) (wC (.int 1))) (zw (zv 3) zx)))))))))
def gM:WB:=cG 3 (dN (fE 2 (zN bR [true,true] (zw (zv 0) (zw (wB bE (zw (zv 2) zx)) zx)))))
def nT:=uB gM.eq_1
def rF:WF:=eK 2 3 [0,1]
 (zM (zO (zy 2) (wB gW (zw (wC (.str [97,98,99,100,101,102,103,104,105,106,107,108,109,110,111,112,113,114,115,116,117,118,119,120,121,122])) zx)))
  (aV (iK cJ (wC (.str [])) (zw (wB eI (zw (lI 3 1 (bY (zv 1)) (zy 4) eR gM) zx)) zx))))
def gL:WB:=cG 4 (cP (zv 1) (zN bR [true,true] (zw (zv 0) (zw (wB bE (zw (zv 1) zx)) zx))))
def nS:=uB gL.eq_1
def nC:WF:=eK 3 4 [0,1,2]
 (zM (zO (zy 3) (zL bU (zN bR [true,true] (zw (zv 0) (zw (zL aW (zv 2) (wC (.int 1))) zx))) (wB gX (zw (dM (aS fX (zv 1) (wC (.str [])))) zx))))
  (aV (iK cJ (wC (.str [])) (zw (lI 4 1 (bY (zv 3)) (zy 5) eR gL) zx))))
def rE:WF:=eK 3 7 [0,1,2]
 (zM (zO (zy 3) (cP (zv 2) (zN bR [true,true] (zw (zv 0) (zw (wB bE (zw (zv 2) zx)) zx)))))
  (zM (zO (zy 4) (zN bR [true,true] (zw (zv 0) (zw (wC (.int 5)) zx))))
  (zM (zO (zy 5) (cP (zv 1) (zN bR [true,true] (zw (zv 0) (zw (wB bE (zw (zv 1) zx)) zx)))))
  (zM (zO (zy 6) (zN bR [true,true] (zw (zv 0) (zw (wB bE (zw (zv 3) zx)) zx))))
  (aV (cP (cY (zw (pE (zv 3) none ⇑(zL aW (zv 6) (wC (.int 1)))) (zw (pE (zv 3) ⇑(zv 6) none) (zw (zL aW (zv 5) (zv 3)) (zw (zL aW (zv 3) (zv 5)) (zw (zL aW (zv 3) (zv 3)) zx)))))) (zv 4)))))))
def gK:WS:=zM (zO (zy 10) (zN bR [true,true] (zw (zv 0) (zw (zv 5) zx))))
  (zM (wExpr (bQ 6 (eA (zw (zv 8) (zw (zv 9) (zw (zv 10) zx))))))
  (zO (zy 8) (zv 10)))
def nQ:=uS gK.eq_1
def jK:WS:=zM (zO (zy 8) (zN bR [true,true] (zw (zv 0) (zw (zv 5) zx))))
  (fV (dA (zv 2)) (zy 9) gK)
def nP:=uS jK.eq_1
def jJ:WS:=zM (lG 8 10 (zw (zN bR [true,true] (zw (zv 0) (zw (zv 5) zx))) (zw (zN bR [true,true] (zw (zv 0) (zw (zv 5) zx))) zx)))
  (wExpr (bQ 6 (eA (zw (zv 8) (zw (cP (zv 1) (zN bR [true,true] (zw (zv 0) (zw (wB bE (zw (zv 1) zx)) zx)))) (zw (zv 10) zx))))))
def nO:=uS jJ.eq_1
def gJ:WS:=wExpr (fE 6 (zN bR [true,true] (zw (zv 0) (zw (wB bE (zw (zv 6) zx)) zx))))
def nN:=uS gJ.eq_1
def rC:WF:=eK 5 12 [0,1,2,3,4]
 (zM (zO (zy 5) (zL aW (wC (.int 1)) (zN bR [true,true] (zw (zv 0) (zw (zv 3) zx)))))
  (zM (zO (zy 6) (cY zx))
  (zM (fV (bY (zN bR [true,true] (zw (zv 0) (zw (wC (.int 4)) zx)))) (zy 7) jK)
  (zM (fV (bY (zL bU (zN bR [true,true] (zw (zv 0) (zw (zL aW (zv 4) (wC (.int 1))) zx))) (wB gX (zw (dM (aS fX (zv 1) (wC (.str [])))) zx)))) (zy 11) jJ)
  (zM (fC (aS mM (wB iH (zw (wB kP (zw (zv 6) zx)) zx)) (zv 4)) gJ)
  (aV (eA (zw (zv 5) (zw (wB cU (zw (wB eI (zw (wB kP (zw (zv 6) zx)) zx)) zx)) zx)))))))))
def jG:WS:=wExpr (bQ 2 (zL aW (zL aW (cP (zv 2) (yL lV (wC (.int 1)))) (wC (.int 1))) (zN bR [true,true] (zw (zv 0) (zw (wC (.int 120)) zx)))))
def nL:=uS jG.eq_1
def jF:WB:=cG 5 (eA (zw (cP (zv 2) (zv 6)) (zw (zv 7) (zw (cP (zv 2) (zv 8)) zx))))
def nK:=uB jF.eq_1
def rA:WF:=eK 2 5 [0,1]
 (zM (eS (aS mM (zN bR [true,true] (zw (zv 0) (zw (wC (.int 4)) zx))) (wC (.int 0))) (aV (zv 1)) aZ)
  (zM (zO (zy 2) (cY (zw (zN bR [true,true] (zw (zv 0) (zw (wC (.int 12)) zx))) zx)))
  (zM (fV (bY (cP (zv 1) (wC (.int 0)))) (zy 3) jG)
  (zM (zO (zy 4) (wB cU (zw (lI 5 3 (dA (cP (zv 1) (wC (.int 1)))) (cK [zy 6,zy 7,zy 8]) eR jF) zx)))
  (aV (eA (zw (cP (cY (zw (zL aW (cP (zv 2) (yL lV (wC (.int 1)))) (wC (.int 1))) (zw (wC (.int 999)) zx))) (zN bR [true,true] (zw (zv 0) (zw (wC (.int 2)) zx)))) (zw (zv 4) zx))))))))
def lB:WS:=zM (eS (eQ (aS fY (zv 3) (wC (.str []))) (eQ (cZ (cN (zN yK [true] (zw (zv 3) zx)))) (aS gU (zv 3) (zv 1)))) (dJ yJ [97,116] (zv 2)) aZ)
  (wExpr (hU 1 (zv 3)))
def rL:=uS lB.eq_1
def au:WF:=eK 1 4 [0]
 (zM (zO (zy 1) lF)
  (zM (fV (lJ (zv 0)) (cK [zy 2,zy 3]) lB)
  (aV (wC (.bl true)))))
def ar:WF:=eK 3 6 [0,1,2]
 (zM (zO (cK [zy 3,zy 4,zy 5]) (zv 2))
  (zM (eS (cZ (gA (cM kU vJ (wC (.int 0)) (zv 3) (zv 0)) (gA (cM kU vJ (wC (.int 0)) (zv 5) (zv 0)) (cN (zN av [true] (zw (zv 4) zx)))))) (aV (wC (.bl false))) aZ)
  (aV (rH (dM (aS mL (zv 1) (wC .non))) (dM (aS (iG false) (zv 1) (zv 2)))))))
def jL:WS:=zM (zO (zy 6) (zL aW (cP (zv 1) (zN bR [true,true] (zw (zv 0) (zw (wB bE (zw (zv 1) zx)) zx)))) (zN nC [true,true,true] (zw (zv 0) (zw (zv 1) (zw (zL lT (zv 3) (wC (.int 1))) zx))))))
  (zM (eS (gA (aS fX (zv 4) (cY zx)) (aS fY (zN bR [true,true] (zw (zv 0) (zw (wC (.int 2)) zx))) (wC (.int 0)))) (zO (zy 6) (pE (zN rE [true,true,true] (zw (zv 0) (zw (zv 1) (zw (zv 4) zx)))) none ⇑(zv 3))) aZ)
  (eS (aS dZ (zv 6) (zv 4)) (wExpr (bQ 4 (zv 6))) aZ))
def nR:=uS jL.eq_1
def rD:WF:=eK 4 7 [0,1,2,3]
 (zM (zO (zy 4) (cY zx))
  (zM (fV (bY (zL bU (zN bR [true,true] (zw (zv 0) (zw (zL aW (zv 2) (wC (.int 1))) zx))) (wB gX (zw (dM (aS fX (zv 1) (wC (.str [])))) zx)))) (zy 5) jL)
  (aV (wB cU (zw (zv 4) zx)))))
def ao:WF:=eK 1 2 [0]
 (zM (eS (aS fY (zv 0) (wC (.str [45]))) (aV (eA zx)) aZ)
  (zM (zO (zy 1) (wB cU (zw (iK dF (zv 0) (zw (wC (.str [32])) zx)) zx)))
  (zM (nE [yJ] (wExpr (zN au [true] (zw (zv 1) zx))) lH)
  (aV (zv 1)))))
def kZ:WS:=zM (zO (zy 6) (dN (zN ah [true] (zw (zv 5) zx))))
  (zM (eS (eQ (aS mL (zv 6) (wC .non)) (cZ (cN (zN ar [true,true,true] (zw (zv 2) (zw (zv 4) (zw (zv 6) zx))))))) (dJ il [114,111,119] (zL aW (wB bE (zw (zv 3) zx)) (wC (.int 1)))) aZ)
  (zM (wExpr (bQ 3 (zv 6)))
  (zO (zy 4) (zv 6))))
def rJ:=uS kZ.eq_1
def aj:WF:=eK 1 7 [0]
 (zM (zO (zy 1) (iK dF (zv 0) (zw (wC (.str [10])) zx)))
  (zM (zO (zy 2) (dN (zN ai [true] (zw (cP (zv 1) (wC (.int 0))) zx))))
  (zM (eS (aS mL (zv 2) (wC .non)) (dJ il [114,111,119] (wC (.int 0))) aZ)
  (zM (zO (zy 3) (cY zx))
  (zM (zO (zy 4) (wC .non))
  (zM (fV (dA (pE (zv 1) ⇑(wC (.int 1)) none)) (zy 5) kZ)
  (aV (eA (zw (zv 2) (zw (wB cU (zw (zv 3) zx)) zx))))))))))
def qN:WF:=eK 2 3 [0,1]
 (zM (zO (zy 2) (zL aW (iK cJ (wC (.str [32])) (zw (zv 0) zx)) (zL bU (wC (.str [45])) (wB gX (zw (dM (aS fY (wB bE (zw (zv 0) zx)) (wC (.int 0)))) zx)))))
  (zM (eS (eQ (cZ (cN (zN kK [true,true] (zw (dN (zN aq [true] (zw (zv 0) zx))) (zw (zv 2) zx))))) (cZ (cN (zN kK [true,true] (zw (dN (zN ao [true] (zw (zv 2) zx))) (zw (zv 0) zx)))))) (aV (wC (.bl false))) aZ)
  (zM (zO (zy 2) (dN (zN rB [true] (zw (zv 1) zx))))
  (aV (jO (zN kK [true,true] (zw (dN (zN ak [true] (zw (zv 1) zx))) (zw (zv 2) zx))) (zN kK [true,true] (zw (dN (zN aj [true] (zw (zv 2) zx))) (zw (zv 1) zx))))))))
def jE:WS:=zM (zO (zy 3) (zN rG [true,true] (zw (zv 0) (zw (zv 2) zx))))
  (zM (zO (zy 4) (zN rF [true,true] (zw (zv 3) (zw (zL aW (wC (.int 1)) (zN bR [true,true] (zw (zv 3) (zw (wC (.int 4)) zx)))) zx))))
  (zM (zO (zy 5) (dN (zN rC [true,true,true,true,true] (zw (zv 3) (zw (zv 4) (zw (zN nC [true,true,true] (zw (zv 3) (zw (zv 4) (zw (wC (.int 6)) zx)))) (zw (wC (.int 8)) (zw (wC (.int 24)) zx))))))))
  (wExpr (bQ 1 (eA (zw (zN rD [true,true,true,true] (zw (zv 3) (zw (zv 4) (zw (wC (.int 6)) (zw (wC (.int 6)) zx))))) (zw (zN rA [true,true] (zw (zv 3) (zw (zv 5) zx))) zx)))))))
def nJ:=uS jE.eq_1
def jD:WB:=cG 6 (dN (zN qN [true,true] (zw (zv 7) (zw (zv 8) zx))))
def nI:=uB jD.eq_1
def lC:WF:=eK 1 6 [0]
 (zM (zO (zy 1) (cY zx))
  (zM (fV (bY (wB oY (zw (wC (.int 1)) (zw (wB oX (zw (wC (.int 3)) (zw (wB bE (zw (zv 0) zx)) zx))) zx)))) (zy 2) jE)
  (aV (wB kQ (zw (lI 6 2 (dA (zL aW (zv 1) (pE (zv 1) none ⇑(wC (.int 1))))) (cK [zy 7,zy 8]) eR jD) zx)))))
end Law
end
namespace Law
open FL
variable{P:S->List S->Prop}{PX:D->List S->Prop}
set_option hygiene false in
local macro_rules
 |`(tactic|simp! [$xs,*] $[$l:location]?)=>do
  let ls<-("e_C e_V zp4 zl8 zmi e_Un zoT zpc e_Ck zpV znT zlQ e_Ch zo1 zqX zmM zmE zpG zmy zkd zj7 zqw zmH zmv e_Or zpZ zpv zoL znp zpA zm0 zos zlT znC zmb zkh zkC zkI zqY zn2 zl9 zl7 zoP znB zkL zkQ zqm e_gA zqV zoJ e_gv zp6 zmd zmI zoE znb znD e_l0 e_l1 e_l2 e_l3 e_l5 e_vv e_vl e_cv e_cl znt e_sh zay znm znj znd e_Ix zqd zpM znV zly zoH zoR zoM zoo zqq zqJ zqk zpd zo3 zqQ zoX e_p0 e_pv e_pl zqC e_pA e_b0 e_bv e_bl znU zk8 zki zmg zoe e_vA zpC e_B e_B1 e_B2 e_MS zpF zqs e_Ap zo8 zpP zpR zqv zoO zny zmN zqU zlz zkR zkS zlh e_Xt zpi zpg zn8 zoy e_Pt zqW zpN e_Sl zqO zqp zoY zqt e_nx e_rt e_ex zm7 zoC e_If zpQ zp9 zor zmF zkx zpx zmj zmK zpu zm6 zmX zl2 e_gN e_gT zok zpr zoS zoF zqD znF zlE zm5 zmx zlr zld e_It zqR zpl zol zod zpX zpy e_En zqb zog zot e_R1 zp3 zpB zqr zlM zpW zqa zov e_LC zpT zpk zl1 zoQ zlD zpo e_Em zox zpt zp2 zoa zpI e_Rt e_Fn e_f0 e_fs e_fl e_fA zo9 zm1 zns zpj zl3 zon zme zo5 zn9 e_lt e_gt e_le e_ge znR zn7 zm8 zqP zlR zps zqT zlB zng zlS zlv zl0 znQ zph zoi zpD zqF zpb zpL zpw zoA zqe zob zp7 zo6 zpY zoN zpf zqh zoG zqz zqN zqg zoI zoz zqi zpm zo7 zpE zqI zqc zqG zoc zpK zn6 zqx zqu zpH zqL zoK zlO zl5 znM zmf znP zmG znc zlF znY znA zpz znv zpq znJ zmo zqM zm9 zm3 zmn znS znZ zmT zlN zmU zqj e_Rz zoU zqS zqB zmL e_S0 e_Sa zqy zpn zof zoj e_Pp zoV e_LZ zqf zpp zpJ zoZ zo0 zjX zlo zmW zoD zoq zp0 zop znX zlP map_some S.toD_sh S.toD_lst qy map_nil cons_append nil_append List.replicate_succ List.replicate_zero Nat.reduceSub Nat.reduceAdd qz List.take_succ_cons List.take_zero true_and S.toDs_map S.toD_dct Int.reduceEq Int.reduceLT Int.reduceLE decide_true decide_false Bool.not_true Bool.not_false".splitOn " ").toArray.mapM λn=>`(Lean.Parser.Tactic.simpLemma|$(Lean.mkIdent n.toName):ident)
  let ls:=ls++xs.getElems
  `(tactic|simp -implicitDefEqProofs (disch:=first|omega|decide|rfl|(simp only[qo,qq,qt,qv,qC,cX];omega)|(simp only[qo,qq,qt,qv,qC,cX];done)) only[$ls,*] $[$l:location]?)
local macro_rules|`(tactic|lia)=>`(tactic|lia -verbose)
noncomputable section pu
def aI(a s:Int):S:=.lst [.sh (.int a),.sh (.int s)]
def AS{a s m:Int}(G:0<=a)(hs:1<=s)(B:s<=2147483629)(F:0<m)(L:m<18446744073709551616)
  (h:∀r J s',0<=r->r<m->0<=J->1<=s'->s'<=2147483629->P (.sh (.int r)) [aI J s',.sh (.int m)]):bR [aI a s,.sh (.int m)] P PX:=by
 show AU rfl rfl ?_;simp! [aI];cases M:↥(0<a)
 .simp! [e_C];show h _ _ _ (Int.emod_nonneg _ ∅) (Int.emod_lt_of_pos _ F) G ∅ ∅
 .simp! [e_C];show h _ _ _ (Int.emod_nonneg _ ∅) (Int.emod_lt_of_pos _ F) (Int.ediv_nonneg G ∅) hs B
def Qe{T:Env->Prop}{E:Ends}{ns:List Int}{k:Int}(F:0<=k)(h:∀c,T [⇑(.sh (.lst (ns.map .int))),⇑(.sh (.int k)),⇑(.sh (.int c)),none]):yX (zO (zy 2) (cP (zv 0) (zv 1))) (eS (aS mM (wB bE (zw (zv 0) zx)) (wC (.int 0))) (zO (zy 2) (zL aW (zv 2) (zL bU (zL dS (cP (zv 0) (zL dS (zv 1) (wB bE (zw (zv 0) zx)))) (wC (.int 2147483629))) (wC (.int 69623))))) aZ) (vE E T) ↥(k<ns.length) [⇑(.sh (.lst (ns.map .int))),⇑(.sh (.int k)),⇑(.sh (.int (7919*k+11))),none]:=by
 by_cases h1:k<ns.length
 .obtain⟨v,_,_,e⟩:=Gy (f:=D.int) F h1;simp! [h1,decide_true,e];show h _
 .by_cases h2:0<ns.length
  .let B:(0:Int)<ns.length:=by lia
   let#[v,_,_,e]:=Gy (f:=D.int) (l:=ns) (z:=k %ns.length) (Int.emod_nonneg _ ∅) (Int.emod_lt_of_pos _ B);simp! [length_map,h1,B,decide_true,decide_false,e];show h _
  .let B:¬(0:Int)<ns.length:=by lia
   simp! [length_map,h1,B,decide_false];show h _
def Re{ns:List Int}{k:Int}(F:0<=k)
  (h:∀a s,0<=a->1<=s->s<=2147483629->P (aI a s) [.sh (.lst (ns.map .int)),.sh (.int k)]):rG [.sh (.lst (ns.map .int)),.sh (.int k)] P PX:=by
 show AU rfl rfl ?_;simp! [length_map];show Qe F λB=>?_;simp! [e_C];cases G:↥((10:Int)^(18:Int).toNat<=B)
 .simp! [if_true,false_eq_true,if_false];show h _ _ ⋯ ∅ ∅
 .simp! [if_true];let:(0:Int)<=B:=by
   let:=qT G;let e:(10:Int)^(18:Int).toNat=1000000000000000000:=⋯
   lia
  show h _ _ this ∅ ∅
def QU{l:List D}(h:(cO l).isSome=true)(B:l.length<64):cQ l=⇑(.lst ((eL l).map .sh)):=by unfold cQ;rw[qZ #[B,.inr (.inr (.inl h))]]
def Ri{A:List Nat}(h:A.length<64):∃B:List Nat,B.Perm A/\B.Pairwise (·<=·)/\cQ (A.map sg)=⇑(.lst ((B.map sg).map .sh)):=by
 let e:A.map sg=(A.map λc=>[c]).map D.str:=by rw[qD];rfl
 let#[B,J,G]:=Px (EX (A.map sg));show#[B,J,?_,?_]
 .let F:=GV HE (A.map sg) (by rw[e];show KF _);rw[G,pairwise_map]at F;show F.imp λ{a b} h=>?_;let h':(!decide (([b]:List Nat)<[a]))=true:=by rw[<-Kh];exact h
  let h2:¬([b]:List Nat)<[a]:=↑h'
  rw[JC]at h2;lia
 .rw[QU (by rw[JX];rfl) ↑h,G]
def letters:List Nat:=[97,98,99,100,101,102,103,104,105,106,107,108,109,110,111,112,113,114,115,116,117,118,119,120,121,122]
def QV{Q:Env->Prop}{E:WX}{m:Int}:∀(xs:List D)(a s:Int)(L A:List Nat)(o:Option S),xs.length<=L.length->0<=a->1<=s->s<=2147483629->(A++L).Perm letters->
  (∀a' s'(L' Y:List Nat) o',0<=a'->1<=s'->s'<=2147483629->Y.length=A.length+xs.length->(Y++L').Perm letters->Q [⇑(aI a' s'),⇑(.sh (.int m)),⇑(.lst ((L'.map sg).map .sh)),⇑(.lst ((Y.map sg).map .sh)),o'])->
  aT (zy 4) eR gM xs [⇑(aI a s),⇑(.sh (.int m)),⇑(.lst ((L.map sg).map .sh)),⇑(.lst ((A.map sg).map .sh)),o] Q E:=by
 intro xs;induction xs with
 |nil=>intro a s L A o h1 ha hs F B h;show h a s L A o ha hs F (by simp) B
 |cons x xs ih=>
  intro a s L A o h1 ha hs F B h;let O:=B.length_eq;let h6:letters.length=26:=rfl;simp only[qt,qq]at h1 h O;rw[xI];simp! [nT,e_sh,zay,aI,length_map];show AS ha hs F ?_ ?_ λr a' s' hr h3 h5 h2 M=>?_
  .lia
  .lia
  simp! [e_sh,zay,aI,length_map];let#[c,hc,hg,_]:=Ff (l:=L) hr h3;show Jx hr (by simp only[qo,cX];lia) (Mc (d:=sg c) (by rw[qE,hg];rfl)) ?_;simp! [e_sh,zay,aI,length_map];show#[by simp only[cX];lia,?_];let e1:((L.map sg).map S.sh).eraseIdx r.toNat=((L.eraseIdx r.toNat).map sg).map S.sh:=by rw[Fu,Fu]
  let e2:((A.map sg).map S.sh)++[S.sh (sg c)]=(((A++[c]).map sg).map S.sh):=by simp
  rw[e1,e2];let J:r.toNat<L.length:=∅
  let hl:(L.eraseIdx r.toNat).length=L.length-1:=List.length_eraseIdx_of_lt J;let h4:L[r.toNat]=c:=by rw[qh J]at hg;show qf hg
  let G:(A++[c]++L.eraseIdx r.toNat).Perm (A++L):=by rw[qp];show List.Perm.append_left A ?_;let:=Mf L r.toNat J;rw[h4]at this;show this
  show ih a' s' _ _ _ ∅ h5 h2 M (G.trans B) λa2 s2 L' Y o' x1 x2 x3 x4 x5=>h a2 s2 L' Y o' x1 x2 x3 (by rw[x4];simp only[qq,qB];lia) x5
def UL{a s m:Int}(ha:0<=a)(hs:1<=s)(M:s<=2147483629)(hm:0<=m)(h5:m<=26)
  (h:∀(l:List Nat) J s',l.length=m.toNat->l.Pairwise (·<·)->(∀c∈l,97<=c/\c<=122)->0<=J->1<=s'->s'<=2147483629->P (.sh (.str l)) [aI J s',.sh (.int m)]):rF [aI a s,.sh (.int m)] P PX:=by
 refine AU rfl rfl ?_;simp! [aI,e_sh,zay];show#[by simp only[cX];lia,?_];let hf:(fromTo 0 m.toNat).length=m.toNat:=Du;let h4:letters.length=26:=rfl;refine QV (fromTo 0 m.toNat) a s letters [] none (by rw[hf,h4];lia) ha hs M (List.Perm.refl _)
  λJ s' L' A' o' h3 O B hA F=>?_
 rw[hf,qv,zero_add]at hA;let h1:A'.Nodup:=(qw.mp (F.nodup_iff.mpr ⋯)).1;let h2:∀c∈A',97<=c/\c<=122:=λc hc=>by
  let:c∈letters:=F.mem_iff.mp (qj _ hc);let G:∀c∈letters,97<=c/\c<=122:=⋯
  show G c this
 let#[A2,Y,L,e]:=Ri (A:=A') ∅;let hl:A2.length=m.toNat:=Y.length_eq.trans hA;simp! [aI,e_sh,zay,e,JZ (show A2.length<=big by simp only[cX];lia)];show h A2 J s' hl (SQ L (Y.nodup_iff.mpr h1)) (λc hc=>h2 c (Y.mem_iff.mp hc)) h3 O B
def Sf{Q:Env->Prop}{E:WX}{m many:Int}{col:List Nat}(hc:0<col.length)(h4:col.length<=26):∀(xs:List D)(a s:Int)(A:List Nat)(o:Option S),0<=a->1<=s->s<=2147483629->A.length+xs.length<=1000->
  (∀J s'(G:List Nat) o',0<=J->1<=s'->s'<=2147483629->G.length=A.length+xs.length->(∀z∈G,z∈A\/z∈col)->Q [⇑(aI J s'),⇑(.sh (.str col)),⇑(.sh (.int m)),⇑(.sh (.int many)),⇑(.lst ((G.map sg).map .sh)),o'])->
  aT (zy 5) eR gL xs [⇑(aI a s),⇑(.sh (.str col)),⇑(.sh (.int m)),⇑(.sh (.int many)),⇑(.lst ((A.map sg).map .sh)),o] Q E:=by
 intro xs;induction xs with
 |nil=>intro a s A o ha O B h3 h;show h a s A o ha O B (by simp) λz L=>.inl L
 |cons x xs ih=>
  intro a s A o ha O B h3 h;simp only[qt]at h3 h;rw[xI];simp! [nS,e_sh,zay,aI,length_map];show AS ha O B ∅ ∅ λr J s' hr Y h2 M F=>?_;let#[c,h1,_,e]:=Ff (l:=col) hr Y;simp! [e,e_sh,zay,aI,length_map];show#[by simp only[cX];lia,?_];let e2:((A.map sg).map S.sh)++[S.sh (.str [c])]=(((A++[c]).map sg).map S.sh):=by simp[sg]
  rw[e2];show ih J s' _ _ h2 M F (by simp only[qq,qB];lia) λa2 s2 G o' x1 x2 x3 x4 x5=>h a2 s2 G o' x1 x2 x3 (by rw[x4];simp only[qq,qB];lia) λz L=>?_;rcases x5 z L with q|q
  .rcases qx.mp q with q|q
   .show .inl q
   .rw[qu.mp q];show .inr h1
  .show .inr q
def LC{a s m:Int}{col:List Nat}(ha:0<=a)(hs:1<=s)(J:s<=2147483629)(hm:0<=m)(h4:m<=900)(hc:0<col.length)(Y:col.length<=26)
  (h:∀(l:List Nat) G s',l.length<=m.toNat->(∀z∈l,z∈col)->0<=G->1<=s'->s'<=2147483629->P (.sh (.str l)) [aI G s',.sh (.str col),.sh (.int m)]):nC [aI a s,.sh (.str col),.sh (.int m)] P PX:=by
 show AU rfl rfl ?_;simp! [aI,e_sh,zay];show AS ha hs J ∅ ∅ λr a1 s1 hr h3 h1 L B=>?_;let O:↥(col=[])=false:=by simp;intro z;rw[z]at hc;simp at hc
 simp! [aI,e_sh,zay,O,Bool.not_false,if_true,mul_one];show#[by simp only[cX];lia,?_];let hf:(fromTo 0 r.toNat).length=r.toNat:=Du;show Sf (A:=[]) hc Y _ a1 s1 none h1 L B (by rw[hf];simp only[qv];lia) λG s' A' o' h2 M F hA hg=>?_;rw[hf,qv,zero_add]at hA;simp! [aI,e_sh,zay];rw[JZ (by simp only[cX];lia)];simp! [aI,e_sh,zay];show h A' G s' ∅ (λz hz=>(hg z hz).resolve_left (by simp)) h2 M F
def QQ{a s:Int}{col:List Nat}{B:List Wd}(ha:0<=a)(hs:1<=s)(O:s<=2147483629)(hc:0<col.length)(hq:col.length<=26)(hB:0<B.length)(r1:B.length<=1000)(hw:∀w∈B,w≠[]/\w.length<=1000/\∀c∈w,c∈col)
  (h:∀(w:Wd) a' s',w≠[]->w.length<=2000->(∀c∈w,c∈col)->0<=a'->1<=s'->s'<=2147483629->P (.sh (.str w)) [aI a' s',.sh (.str col),.lst ((B.map D.str).map .sh)]):rE [aI a s,.sh (.str col),.lst ((B.map D.str).map .sh)] P PX:=by
 show AU rfl rfl ?_;simp! [aI,e_sh,zay,length_map];show AS ha hs O ∅ ∅ λr a1 s1 hr e1 hp h8 h3=>?_;let#[w,h6,_,e]:=Gy (f:=λz=>S.sh (D.str z)) (l:=B) hr e1;let e':atI ((B.map D.str).map S.sh) r=⇑(S.sh (.str w)):=by rw[qD];show e
 let#[Y,hb,J]:=hw w h6;let hi:0<w.length:=qO.mpr Y;simp! [aI,e'];show AS hp h8 h3 ⋯ ⋯ λkd a2 s2 hm hd hk O h2=>?_;simp! [aI];show AS hk O h2 ∅ ∅ λr3 a3 s3 h9 h4 e4 h7 h1=>?_;let#[c,h5,_,ec]:=Ff (l:=col) h9 h4;simp! [aI,ec];show AS e4 h7 h1 ∅ ∅ λp a4 s4 e2 hl M L F=>?_;simp! [aI];rw[Pk w ∅ ∅,Lv w e2];let e3:kd=0\/kd=1\/kd=2\/kd=3\/kd=4:=∅
 rcases e3 with rfl|rfl|rfl|rfl|rfl
 .simp! [aI];refine h _ _ _ ?_ ?_ (λc hc=>J c (List.mem_of_mem_take hc)) M L F
  .intro z;let:=congrArg List.length z;rw[qG,qv]at this;lia
  .rw[qG];lia
 .simp! [aI];refine h _ _ _ ?_ ?_ (λc hc=>J c (List.mem_of_mem_drop hc)) M L F
  .intro z;let:=congrArg List.length z;rw[qF,qv]at this;lia
  .rw[qF];lia
 .simp! [aI];show h _ _ _ (by simp) (by simp;lia -verbose) (λx G=>?_) M L F;rcases qA.mp G with rfl|G
  .show h5
  .show J x G
 .simp! [aI];show h _ _ _ (by simp) (by simp;lia -verbose) (λx G=>?_) M L F;rcases qx.mp G with G|G
  .show J x G
  .rw[qu.mp G];show h5
 .simp! [aI];show h _ _ _ (by simp[Y]) (by simp;lia -verbose) (λx G=>?_) M L F;rcases qx.mp G with G|G<;>show J x G
def mI(col:List Nat)(many F:Nat)(B:List Wd):Prop:=B.length<=many/\B.Nodup/\∀w∈B,w≠[]/\w.length<=F/\∀c∈w,c∈col
def zK(B:List Wd):D:=.tup (B.map D.str)
def Tq{a s many F:Int}{col:List Nat}(Y:0<=a)(hs:1<=s)(J:s<=2147483629)(hc:0<col.length)(e2:col.length<=26)(hm:0<=many)(hm2:many<=500)(ho:1<=F)(ho2:F<=500)
  (h:∀(B:List Wd) a' s',mI col many.toNat F.toNat B->0<=a'->1<=s'->s'<=2147483629->P (.sh (zK B)) [aI a' s',.sh (.str col),.sh (.int many),.sh (.int F)]):rD [aI a s,.sh (.str col),.sh (.int many),.sh (.int F)] P PX:=by
 show AU rfl rfl ?_;simp! [aI];show AS Y hs J ∅ ∅ λr a1 s1 hr hr2 ha1 hd h8=>?_;let r1:↥(col=[])=false:=by simp;intro z;rw[z]at hc;simp at hc
 simp! [aI,r1,if_true,mul_one];show#[by simp only[cX];lia,?_];show GY (λk U=>∃(a s:Int)(B:List Wd)(o5 o6:Option S),0<=a/\1<=s/\s<=2147483629/\mI col k F.toNat B/\U=[⇑(aI a s),⇑(.sh (.str col)),⇑(.sh (.int many)),⇑(.sh (.int F)),⇑(.lst ((B.map D.str).map .sh)),o5,o6]) _ (λk x hk D2 U hI e1 hct hrt hbk=>?_) (λU hI=>?_) #[a1,s1,[],none,none,ha1,hd,h8,#[by simp,by simp,by simp],rfl]
 .obtain⟨a,s,B,o5,o6,Y,hs,J,hB,rfl⟩:=hI;let k1:=(qg.mp hk).1;rw[Du]at k1;let#[hB1,hp,L]:=hB;simp! [aI,nR];show AS Y hs J ∅ ∅ λr3 a2 s2 hq h9 ha2 J h7=>?_;let#[c,k2,_,ec]:=Ff (l:=col) hq h9;simp! [aI,ec];refine LC ha2 J h7 ∅ ∅ hc e2 λw a3 s3 hw1 hi e4 h5 O=>?_
  --what is done with a word
  have put:∀(w:Wd)(a s:Int),0<=a->1<=s->s<=2147483629->w≠[]->w.length<=F.toNat->(∀c∈w,c∈col)->
    (eS (aS dZ (zv 6) (zv 4)) (wExpr (bQ 4 (zv 6))) aZ) D2 [⇑(aI a s),⇑(.sh (.str col)),⇑(.sh (.int many)),⇑(.sh (.int F)),⇑(.lst ((B.map D.str).map .sh)),⇑(.sh x),⇑(.sh (.str w))]:=λw a s Y hs J h1 h2 h3=>by
   simp! [aI,zay,Qk];cases q:↥(w∈B)
   .simp! [length_map];rw[show((B.map D.str).map S.sh)++[S.sh (.str w)]=((B++[w]).map D.str).map S.sh by simp];refine#[by simp only[cX];lia,e1 _ #[a,s,_,_,_,Y,hs,J,#[by simp only[qq,qB];lia,?_,λx hx=>?_],rfl]]
    .show qw.mpr #[hp,by simp,λx hx y hy e=>?_];rw[qu.mp hy]at e;subst e;let:=of_decide_eq_false q;show this hx
    .rcases qx.mp hx with z|z
     .show L x z
     .rw[qu.mp z];show#[h1,h2,h3]
   .simp! [e_C];show e1 _ #[a,s,B,_,_,Y,hs,J,#[∅,hp,L],rfl]
  have G:([c]++w)≠[]/\([c]++w).length<=F.toNat/\∀x∈[c]++w,x∈col:=by
   show#[by simp,by simp;lia,λx hx=>?_];rcases qx.mp hx with z|z
   .rw[qu.mp z];show k2
   .show hi x z
  simp! [aI,zay,Rn,length_cons,length_nil];cases q:↥(B=[])
  .simp! [aI];show AS e4 h5 O ⋯ ⋯ λr4 a4 s4 hr4 hr42 e3 h4 M=>?_;simp! [aI];cases q2:↥(r4=0)
   .simp! [e_C];let:=put _ a4 s4 e3 h4 M G.1 G.2.1 G.2.2;simp! [aI]at this;show this
   .simp! [aI];show QQ e3 h4 M hc e2 (qO.mpr (of_decide_eq_false q)) ∅ (λw hw=>#[(L w hw).1,by let:=(L w hw).2.1;lia,(L w hw).2.2]) λw2 a5 s5 hn hl r2 k3 hb h6=>?_;simp! [aI];let hw2l:0<w2.length:=qO.mpr hn;let:=put (bI w2 none ⇑F) a5 s5 k3 hb h6 (λz=>?_) ?_ λc hc=>r2 c (KO hc)
    .simp! [aI]at this;show this
    .let z2:=congrArg List.length z;unfold bI sIx at z2;let:¬F<0:=by lia
     simp only[q8 this,drop_zero,sub_zero,qG,qv]at z2;lia
    .unfold bI sIx;let:¬F<0:=by lia
     simp only[q8 this,drop_zero,sub_zero,qG];lia
  .simp! [e_C];let:=put _ a3 s3 e4 h5 O G.1 G.2.1 G.2.2;simp! [aI]at this;show this
 .obtain⟨a,s,B,o5,o6,Y,hs,J,hB,rfl⟩:=hI;rw[Du]at hB;simp! [aI,zay];show h B a s #[by let:=hB.1;lia,hB.2] Y hs J
abbrev St:=Int×Nat×Int
def dQ(t:St):D:=.tup [.int t.1,.str [t.2.1],.int t.2.2]
def bz:List Bool:=[false,true,false]
def Jz(L:List St):bT (L.map dQ)=true:=by unfold bT;rw[or_eq_true];show .inr (qH.mpr λd B=>?_);let#[t,_,rfl]:=qJ.mp B;rfl
def Jh{P:St->Prop}:∀{l:List D},(∀d∈l,∃t,d=dQ t/\P t)->∃B:List St,l=B.map dQ/\∀t∈B,P t
 |[],_=>#[[],rfl,λ_ z=>nomatch z]
 |d::l,h=>by
  let#[t,rfl,G]:=h d qm;let#[B,rfl,J]:=Jh (l:=l) λe L=>h e (qk _ L);show#[t::B,rfl,λu F=>?_];rcases qA.mp F with rfl|z
  .show G
  .show J u z
def Rb{P:St->Prop}{L:List St}(hL:∀t∈L,P t)(M:(bV (L.map dQ)).length<64):∃B:List St,cQ (bV (L.map dQ))=⇑(.lst ((B.map dQ).map .sh))/\B.length=(bV (L.map dQ)).length/\(∀t∈B,P t)/\(B.map dQ).Pairwise (cV · ·=true)/\(B.map dQ).Nodup:=by
 let O:∀d∈bV (L.map dQ),∃t,d=dQ t/\P t:=λd G=>by let#[t,Y,rfl]:=qJ.mp (zhN.mp G);show#[t,rfl,hL t Y]
 let J:=EX (bV (L.map dQ));let#[B,e,hs]:=Jh (P:=P) (l:=eL (bV (L.map dQ))) λd G=>O d (J.mem_iff.mp G);let F:∀d∈bV (L.map dQ),kG bz d:=λd G=>by let#[t,rfl,_]:=O d G;trivial
 show#[B,?_,?_,hs,?_,?_]
 .unfold cQ;rw[qZ #[M,.inr (.inr (.inr #[bz,λz=>(nomatch z),F]))],e]
 .let:=J.length_eq;rw[e,qo]at this;show this
 .rw[<-e];show GV (Gk bz) _ F
 .rw[<-e];show J.nodup_iff.mpr (Ux _)
def gv(many:Int)(B:List St):D:=.tup [.int many,.tup (B.map dQ)]
def gR(many:Int)(col B:List Nat)(t:St):Prop:=(0<=t.1/\t.1<many)/\(0<=t.2.2/\t.2.2<many)/\(t.2.1∈col\/t.2.1∈B)
def kT(L:List St):S:=.lst ((L.map dQ).map .sh)
def Jy(L:List St)(t:St):(L.map dQ).map S.sh++[S.sh (.tup [.int t.1,.str [t.2.1],.int t.2.2])]=((L++[t]).map dQ).map S.sh:=by simp[dQ]
def QR{D':Ends}{many:Int}{col J:List Nat}{s3 s4 s7 M:Option S}(hm:1<=many)(h9:many<=1000):∀(xs:List Nat)(a s x:Int)(L:List St)(F B:Option S),0<=a->1<=s->s<=2147483629->0<=x->x<many->(∀c∈xs,c∈J)->L.length+xs.length<=1000->(∀t∈L,gR many col J t)->
  (∀a' s' x'(L':List St) F B,0<=a'->1<=s'->s'<=2147483629->L'.length=L.length+xs.length->(∀t∈L',gR many col J t)->D'.nx [⇑(aI a' s'),⇑(.sh (.str col)),⇑(.sh (.str J)),s3,s4,⇑(.sh (.int many)),⇑(kT L'),s7,⇑(.sh (.int x')),F,B,M])->
  bS (zy 9) gK (xs.map sg) D' [⇑(aI a s),⇑(.sh (.str col)),⇑(.sh (.str J)),s3,s4,⇑(.sh (.int many)),⇑(kT L),s7,⇑(.sh (.int x)),F,B,M]:=by
 intro xs;induction xs with
 |nil=>intro a s x L F B ha hs G hx O hc hl hL h;show h a s x L F B ha hs G (by simp) hL
 |cons c xs ih=>
  intro a s x L F B ha hs G hx O hc hl hL h;rw[qy,xJ];simp only[qt]at hl h;simp! [nQ,aI,kT,sg];show AS ha hs G ∅ ∅ λr a' s' hr h6 h8 h7 Y=>?_;simp! [aI,kT,length_map];show#[by simp only[cX];lia,?_];rw[Jy L (x,c,r)];show ih a' s' r (L++[(x,c,r)]) _ _ h8 h7 Y hr h6 (λd hd=>hc d (qk _ hd)) (by rw[qq,qB];lia) (λt ht=>?_) λa2 s2 x2 L' F B h1 h2 h3 h4 h5=>h a2 s2 x2 L' F B h1 h2 h3 (by rw[h4,qq,qB];lia) h5;rcases qx.mp ht with z|z
  .show hL t z
  .rw[qu.mp z];show#[#[hx,O],#[hr,h6],.inr (hc c qm)]
def Qh{D':Ends}{many M:Int}{col J:List Nat}{s3 s7 s8 s9 G F:Option S}(hM:0<=M)(h6:M<=60){a s:Int}{L:List St}(ha:0<=a)(hs:1<=s)(B:s<=2147483629)(hl:L.length<=150)(hL:∀t∈L,gR many col J t)
  (h:∀a' s'(L':List St),0<=a'->1<=s'->s'<=2147483629->L'.length<=150->((bV (L'.map dQ)).length:Int)<=M->(∀t∈L',gR many col J t)->D'.nx [⇑(aI a' s'),⇑(.sh (.str col)),⇑(.sh (.str J)),s3,⇑(.sh (.int M)),⇑(.sh (.int many)),⇑(kT L'),s7,s8,s9,G,F]):
  fC (aS mM (wB iH (zw (wB kP (zw (zv 6) zx)) zx)) (zv 4)) gJ D' [⇑(aI a s),⇑(.sh (.str col)),⇑(.sh (.str J)),s3,⇑(.sh (.int M)),⇑(.sh (.int many)),⇑(kT L),s7,s8,s9,G,F]:=by
 show Jc (λm U=>∃(a s:Int)(L:List St),0<=a/\1<=s/\s<=2147483629/\L.length<=150/\m=L.length/\(∀t∈L,gR many col J t)/\U=[⇑(aI a s),⇑(.sh (.str col)),⇑(.sh (.str J)),s3,⇑(.sh (.int M)),⇑(.sh (.int many)),⇑(kT L),s7,s8,s9,G,F]) _ #[a,s,L,ha,hs,B,hl,rfl,hL,rfl] λm U hJ=>?_;let#[a,s,L,ha,hs,B,hl,rfl,hL,rfl]:=hJ;simp! [kT,zay,length_map,Kr (l:=L.map dQ) #[Jz L,by rw[length_map];show hl]];let h2:=Sk (L.map dQ);rw[qo]at h2;cases q:↥(M<((bV (L.map dQ)).length:Int))
 .simp! [vN];show h a s L ha hs B hl (by let:=of_decide_eq_false q;lia) hL
 .let q':=qT q;simp! [vM,nN,aI,length_map];show AS ha hs B ∅ ∅ λr a' s' hr h5 h3 h1 O=>?_;simp! [aI,length_map];let Y:r.toNat<L.length:=by lia
  show Jx hr (by simp only[qo,cX];lia) (Mc (d:=dQ L[r.toNat]) (by rw[qE,qh Y];rfl)) ?_;simp! [aI];let h4:(L.eraseIdx r.toNat).length=L.length-1:=List.length_eraseIdx_of_lt Y;show#[L.length-1,∅,a',s',L.eraseIdx r.toNat,h3,h1,O,∅,∅,λt ht=>hL t (List.mem_of_mem_eraseIdx ht),?_];rw[Fu,Fu]
def Td{a s R M:Int}{col O:List Nat}(ha:0<=a)(hs:1<=s)(B:s<=2147483629)(hR:0<R)(hR2:R<=900)(hM:0<=M)(hM2:M<=60)(hc:0<col.length)(hc2:col.length<=26)(hw:O.length<=25)
  (h:∀(many:Int)(G:List St) a' s',1<=many->many<=R->(G.length:Int)<=M->(∀t∈G,gR many col O t)->(G.map dQ).Pairwise (cV · ·=true)->(G.map dQ).Nodup->0<=a'->1<=s'->s'<=2147483629->P (.sh (gv many G)) [aI a' s',.sh (.str col),.sh (.str O),.sh (.int R),.sh (.int M)]):
  rC [aI a s,.sh (.str col),.sh (.str O),.sh (.int R),.sh (.int M)] P PX:=by
 show AU rfl rfl ?_;simp! [aI];show AS ha hs B hR ∅ λr a1 s1 hr hr2 k1 hl h8=>?_;simp! [aI];show AS k1 hl h8 ⋯ ⋯ λr2 a2 s2 hr20 hr22 r1 hs2' h7=>?_;simp! [aI];show#[by simp only[cX];lia,?_];let hne:↥(col=[])=false:=by simp;intro z;rw[z]at hc;simp at hc
 show GY (λk U=>∃(a s:Int)(L:List St)(o7 o8 o9 F:Option S),0<=a/\1<=s/\s<=2147483629/\L.length=k*O.length/\(∀t∈L,gR (1+r) col O t)/\U=[⇑(aI a s),⇑(.sh (.str col)),⇑(.sh (.str O)),⇑(.sh (.int R)),⇑(.sh (.int M)),⇑(.sh (.int (1+r))),⇑(kT L),o7,o8,o9,F,none]) _ (λk x hx D2 U hI hm hct hrt hbk=>?_) (λU hI=>?_) #[a2,s2,[],none,none,none,none,r1,hs2',h7,by simp,λ_ z=>(nomatch z),rfl]
 .obtain⟨a,s,L,o7,o8,o9,F,ha,hs,B,hL,J,rfl⟩:=hI;let hk:k<4:=by let:=(qg.mp hx).1;rw[Du]at this;lia
  let hb:k*O.length<=3*25:=mul_le_mul ∅ hw;simp! [nP,aI];show AS ha hs B ∅ ∅ λr3 a3 s3 hd h9 hq hi Y=>?_;simp! [aI,jt];show QR ∅ ∅ O a3 s3 r3 L _ _ hq hi Y hd h9 (λc hc=>hc) ∅ J λa' s' x' L' o9 F h1 h2 h3 h4 h5=>hm _ #[a',s',L',_,_,o9,F,h1,h2,h3,?_,h5,rfl];rw[h4,hL,succ_mul]
 .obtain⟨a,s,L,o7,o8,o9,F,ha,hs,B,hL,J,rfl⟩:=hI;rw[Du]at hL;let hb:r2.toNat*O.length<=3*25:=mul_le_mul ∅ hw;simp! [aI];show AS ha hs B ∅ ∅ λr4 a4 s4 hr4 hr42 ha4 hs4 hs24=>?_;simp! [aI,hne,Bool.not_false,if_true,mul_one];show#[by simp only[cX];lia,?_];refine GY (λk U=>∃(a s:Int)(L:List St)(o7 o8 o9 F hp:Option S),0<=a/\1<=s/\s<=2147483629/\L.length<=75+k/\(∀t∈L,gR (1+r) col O t)/\U=[⇑(aI a s),⇑(.sh (.str col)),⇑(.sh (.str O)),⇑(.sh (.int R)),⇑(.sh (.int M)),⇑(.sh (.int (1+r))),⇑(kT L),o7,o8,o9,F,hp]) _ (λk x hx D2 U hI hm hct hrt hbk=>?_) (λU hI=>?_) #[a4,s4,L,o7,o8,o9,F,none,ha4,hs4,hs24,∅,J,rfl]
  .obtain⟨a,s,L,o7,o8,o9,F,hp,ha,hs,B,hL,J,rfl⟩:=hI;let hk:k<61:=by let:=(qg.mp hx).1;rw[Du]at this;lia
   simp! [nO,aI];show AS ha hs B ∅ ∅ λx1 a1 s1 hx1 k3 k1 hl h8=>?_;simp! [aI];show AS k1 hl h8 ∅ ∅ λy1 a2 s2 hy1 k2 r1 B h7=>?_;simp! [aI,kT];show AS r1 B h7 ∅ ∅ λr3 a3 s3 hd h9 hq hi Y=>?_;let#[c,hcm,_,e]:=Ff (l:=col) hd h9;simp! [aI,e,length_map];show#[by simp only[cX];lia,?_];rw[Jy L (x1,c,y1)];show hm _ #[a3,s3,L++[(x1,c,y1)],_,_,_,_,_,hq,hi,Y,by rw[qq,qB];lia,λt ht=>?_,rfl];rcases qx.mp ht with z|z
   .show J t z
   .rw[qu.mp z];show#[#[hx1,k3],#[hy1,k2],.inl hcm]
  .obtain⟨a,s,L,o7,o8,o9,F,hp,ha,hs,B,hL,J,rfl⟩:=hI;rw[Du]at hL;simp! [e_C];show Qh (L:=L) hM hM2 ha hs B ∅ J λa' s' L' h1 h2 h3 h4 h5 h6=>?_;let#[G,e1,e2,e3,e4,e5]:=Rb h6 ∅;simp! [kT,zay,length_map,Kr (l:=L'.map dQ) #[Jz L',by rw[length_map];show h4],e1];show h (1+r) G a' s' ∅ ∅ ∅ e3 e4 e5 h1 h2 h3
def pU(w:Wd):Bool:=w.all λc=>↥(97<=c)&&↥(c<=122)
def Hl{a b:Nat}:kU (.str [a]) (.str [b])=⇑↥(a<=b):=by show ⇑(!decide ([b]<[a]))=_;congr 1;let:([b]:List Nat)<[a]↔b<a:=JC;simp only[this];rw[<-decide_not,decide_eq_decide];lia
def LZ{w:Wd}(L:w.length<=1000)(h:P (.sh (.bl (pU w))) [.sh (.str w)]):yK [.sh (.str w)] P PX:=by
 show AU rfl rfl ?_;simp! [e_C];show Mu (n:=1) w (λc=>.sh (.bl (↥(97<=c)&&↥(c<=122)))) (λc M l o K G B=>?_) λo=>?_
 .simp! [kJ,vB,rM,Hl];let F:l.length<big:=by simp only[cX];lia
  cases q:↥(97<=c)
  .simp! [e_C];rw[q]at B;show#[F,B _]
  .rw[q]at B;simp! [Hl];show#[F,B _]
 .let e:(w.map λc=>S.sh (D.bl (↥(97<=c)&&↥(c<=122)))).map S.toD=(w.map λc=>(↥(97<=c)&&↥(c<=122))).map D.bl:=by rw[qD,qD];rfl
  simp! [e,He];let J:(w.map λc=>(↥(97<=c)&&↥(c<=122))).all id=pU w:=by rw[all_map];rfl
  rw[J];show h
def kN(B:List Wd)(k:Nat)(w:Wd):Bool:=↥(w=[])||(!pU w||↥(w∈B.take k))
def iE(B:List Wd):D:=match(List.range B.length).find? λk=>kN B k (B.getD k [])with
 |some k=>.tup [.str [114,101,102,117,115,101,100],.int (k:Int)]
 |none=>.bl true
structure AB(B:List Wd):Prop where
 len:B.length<=100
 sh:∀w∈B,w.length<=100
 pl:∀w∈B,∀c∈w,c<128
def Ox(l:List D):bW 0 l=(List.range l.length).map λ(k:Nat)=>D.tup [.int (k:Int),(l[k]?).getD .non]:=by let:=KG (λd:D=>d) l 0;rw[List.map_id']at this;rw[this];show map_congr_left λi _=>?_;rw[zero_add];cases l[i]?<;>rfl
def Gd(B:List Wd):bW 0 (B.map D.str)=(List.range B.length).map λk:Nat=>D.tup [.int (k:Int),.str (B.getD k [])]:=by rw[Ox,qo];show map_congr_left λk F=>?_;let F:=qI.mp F;rw[qE,qh F];simp[List.getD,qh F]
def QY{p:Nat->Bool}{B F:List Nat}{k:Nat}(G:∀j∈B,p j=false)(J:p k=true):(B++k::F).find? p=⇑k:=by rw[List.find?_append,List.find?_eq_none.mpr λj L=>by simp[G j L],find?_cons,J];rfl
def Qn{α:Type}{toD:α->D}{D':Ends}{g:WG}{b:WS}{U:Env}(I:List α->Env->Prop)(xs:List α)
  (step:∀(F:List α)(x:α)(B:List α)(G:Ends)(U:Env),F++x::B=xs->I F U->(∀U',I (F++[x]) U'->G.nx U')->G.rt=D'.rt->G.ex=D'.ex->g (.sh (toD x)) U (λU=>b G U))
  (L:∀U,I xs U->D'.nx U)(O:I [] U):bS g b (xs.map toD) D' U:=by
 have J:∀(B F:List α)(U:Env),F++B=xs->I F U->bS g b (B.map toD) D' U:=by
  intro B;induction B with
  |nil=>intro F U e h;rw[qz]at e;subst e;show L U h
  |cons x B M=>intro F U e h;rw[qy,xJ];show step F x B (vH g b (B.map toD) D') U e h (λU' h'=>M (F++[x]) U' (by rw[<-e];simp) h') rfl rfl
 show J xs [] U rfl O
def Qy{l:List Wd}{w:Wd}(h:w∉l):bZ (l.map D.str) (.str w)=(l++[w]).map D.str:=by
 unfold bZ;rw[q8]
 .simp
 .intro z;let#[x,B,e]:=qJ.mp z;cases e;show h B
def KJ(l:List Wd):(l.map D.str).all bC=true:=by rw[all_map];show qH.mpr λ_ _=>rfl
def NG{l:List Wd}{w:Wd}:gU (.str w) (.set (l.map D.str))=⇑↥(w∈l):=by show(if(bC (D.str w)&&(l.map D.str).all bC)=true then ⇑(open Classical in ↥(D.str w∈l.map D.str))else none)=_;rw[qZ (by rw[KJ];rfl)];congr 1;rw[decide_eq_decide,qJ];show#[λ⟨x,B,e⟩=>by cases e;show B,λh=>#[w,h,rfl]]
def ju{s0:Option S}{l:List D}{U:Env}{Q:WQ}{E:WX}:zv 1 (s0::⇑(.set l)::U) Q E=Q (.loc 1) (s0::⇑(.set l)::U):=rfl
def SV{B:List Wd}(hB:AB B)(h:iE B=.bl true->P (.sh (.bl true)) [.sh (zK B)])(hx:∀k:Nat,iE B=.tup [.str [114,101,102,117,115,101,100],.int (k:Int)]->k<1000->PX (.exc yJ [[97,116]] [.int (k:Int)]) [.sh (zK B)]):au [.sh (zK B)] P PX:=by
 let hl:=hB.len;show AU rfl rfl ?_;simp! [zK];rw[Gd];show Qn (λJ U=>(∀j∈J,kN B j (B.getD j [])=false)/\∃o2 o3:Option S,U=[⇑(.sh (zK B)),⇑(.set ((B.take J.length).map D.str)),o2,o3]) (List.range B.length) (λJ k h3 D2 U e hI h2 h5 hex=>?_) (λU hI=>?_) #[by simp,none,none,rfl]
 .obtain⟨Y,o2,o3,rfl⟩:=hI;let L:=Lu e;let hw:B.getD k []∈B:=by rw[getD_eq_getElem?_getD,qh L.2];exact getElem_mem L.2
  let O:kN B k (B.getD k [])=(↥(B.getD k []=[])||(!pU (B.getD k [])||↥(B.getD k []∈B.take k))):=rfl;let G:kN B k (B.getD k [])=true->iE B=.tup [.str [114,101,102,117,115,101,100],.int (k:Int)]:=λz=>by unfold iE;rw[<-e,QY Y z]
  let M:B.take (k+1)=B.take k++[B.getD k []]:=by rw[List.take_succ,qh L.2,getD_eq_getElem?_getD,qh L.2];rfl
  generalize hg:B.getD k []=w at hw O G M⊢;let h4:=hB.sh w hw;let F:kN B k w=true->PX (.exc yJ [[97,116]] [.int (k:Int)]) [S.sh (D.tup (List.map D.str B))]:=λz=>hx k (G z) ∅;rw[L.1];simp! [rL,length_cons,length_nil,hex];cases q1:↥(w=[])
  .simp! [e_C];show LZ ∅ ?_;simp! [e_C];cases q2:pU w
   .simp! [hex];show F (by rw[O,q2];simp)
   .simp! [ju,S.toD_set,NG];cases q3:↥(w∈B.take k)
    .let hn:=of_decide_eq_false q3;let hz:((B.take k).map D.str).length<=150:=by rw[qo,qG];lia
     let h1:bT (D.str w::(B.take k).map D.str)=true:=by unfold bT;rw[all_cons,KJ];rfl
     simp! [Qy hn,hz,h1];show h2 _ #[λj hj=>(qx.mp hj).elim (Y j) λz=>by rw[qu.mp z,hg];rw[O,q1,q2,q3];rfl,⇑(.sh (.int (k:Int))),⇑(.sh (.str w)),?_];rw[qq,qB,L.1,M]
    .simp! [hex];show F (by rw[O,q3];simp)
  .simp! [hex];show F (by rw[O,q1];simp)
 .obtain⟨Y,o1,o2,rfl⟩:=hI;simp! [e_C];let:iE B=.bl true:=by unfold iE;rw[List.find?_eq_none.mpr λj hj=>by rw[Y j hj];decide]
  show h this
def oW(w:Wd):Bool:=↥((w.length:Int)=1)&&pU w
def UH{w:Wd}(B:w.length<=1000)(h:P (.sh (.bl (oW w))) [.sh (.str w)]):av [.sh (.str w)] P PX:=by
 show AU rfl rfl ?_;unfold oW at h;simp! [e_C];cases q:↥((w.length:Int)=1)
 .rw[q]at h;simp! [e_C];show h
 .rw[q]at h;simp! [e_C];show LZ B ?_;simp! [e_C];show h
abbrev Sg:=Int×Wd×Int
def cR(t:Sg):D:=.tup [.int t.1,.str t.2.1,.int t.2.2]
def fP(many:Int)(L:List Sg):D:=.tup [.int many,.tup (L.map cR)]
def mZ(t u:Sg):Bool:=aE [.int t.1,.str t.2.1,.int t.2.2] [.int u.1,.str u.2.1,.int u.2.2]==.lt
def pW(many x:Int):Bool:=↥(0<=x)&&↥(x<many)
def tG(many:Int)(t:Sg):Bool:=pW many t.1&&(pW many t.2.2&&oW t.2.1)
def MA(g:Bool)(t u:Sg):iG g (cR t) (cR u)=⇑(fo g (aE [.int t.1,.str t.2.1,.int t.2.2] [.int u.1,.str u.2.1,.int u.2.2])):=zjX rfl
def IU(t u:Sg):fo false (aE [.int t.1,.str t.2.1,.int t.2.2] [.int u.1,.str u.2.1,.int u.2.2])=mZ t u:=by unfold fo mZ;simp
def uP(o:Option Sg):D:=match o with
 |some t=>cR t
 |none=>.non
def jj(o:Option Sg)(t:Sg):Bool:=match o with
 |some u=>mZ u t
 |none=>true
def mJ(many:Int)(o:Option Sg)(t:Sg):Bool:=tG many t&&jj o t
def Ji(t:Sg):mL (cR t) .non=⇑false:=by show ⇑(open Classical in ↥(cR t=D.non))=_;simp[cR]
def Mw:mL .non .non=⇑true:=by show ⇑(open Classical in ↥(D.non=D.non))=_;simp
def QC{many:Int}{o:Option Sg}{t:Sg}(Y:t.2.1.length<=1000)(h:P (.sh (.bl (mJ many o t))) [.sh (.int many),.sh (uP o),.sh (cR t)]):ar [.sh (.int many),.sh (uP o),.sh (cR t)] P PX:=by
 show AU rfl rfl ?_;let B:tG many t=true->P (.sh (.bl (jj o t))) [.sh (.int many),.sh (uP o),.sh (cR t)]:=λF=>by unfold mJ at h;rw[F]at h;show h
 let no:tG many t=false->P (.sh (.bl false)) [.sh (.int many),.sh (uP o),.sh (cR t)]:=λF=>by unfold mJ at h;rw[F]at h;show h
 unfold tG pW at B no;rw[show cR t=D.tup [.int t.1,.str t.2.1,.int t.2.2] from rfl];simp! [length_cons,length_nil];cases O:↥(0<=t.1)
 .simp! [e_C];show no (by rw[O];rfl)
 .simp! [e_C];cases M:↥(t.1<many)
  .simp! [e_C];show no (by rw[M];simp)
  .simp! [e_C];cases L:↥(0<=t.2.2)
   .simp! [e_C];show no (by rw[L];simp)
   .simp! [e_C];cases J:↥(t.2.2<many)
    .simp! [e_C];show no (by rw[J];simp)
    .simp! [e_C];show UH Y ?_;cases G:oW t.2.1
     .simp! [e_C];show no (by rw[G];simp)
     .simp! [e_C];let:=B (by rw[O,M,L,J,G];rfl);cases o with
      |none=>simp! [uP,Mw];show this
      |some u=>simp! [uP,Ji];rw[show D.tup [.int t.1,.str t.2.1,.int t.2.2]=cR t from rfl,MA,IU];simp! [e_C];show this
def uO(a b:D):atI [a,b] 0=⇑a:=rfl
def oZ(a b:D):atI [a,b] 1=⇑b:=rfl
def yT(ps:List Int):S:=.lst ((ps.map D.int).map .sh)
def Jd{ps:List Int}{z:Int}(F:0<=z)(h:z<ps.length):atI ((ps.map D.int).map S.sh) z=⇑(.sh (.int (ps.getD z.toNat 0))):=by
 let#[v,_,B,G]:=Gy (f:=S.sh) (l:=ps.map D.int) (z:=z) F ↑h;rw[G];rw[qE]at B;cases q:ps[z.toNat]? with
 |none=>rw[q]at B;cases B
 |some x=>rw[q]at B;cases B;rw[getD_eq_getElem?_getD,q];rfl
def yN(t:St):Sg:=(t.1,[t.2.1],t.2.2)
def IW(many:Int)(B:List St):gv many B=fP many (B.map yN):=by unfold gv fP;rw[qD];rfl
def HD(n:Nat):aH (n:Int)=(Nat.toDigits 10 n).map Char.toNat:=PySem.W.KIN.signs_num n
def Qo(n:Nat):lK (aH (n:Int))=n:=by rw[HD];show PySem.W.KIN.val_back n
def LR:∀n<1000,1<=((Nat.toDigits 10 n).map Char.toNat).length/\((Nat.toDigits 10 n).map Char.toNat).length<=3/\(∀c∈(Nat.toDigits 10 n).map Char.toNat,48<=c/\c<=57)/\(((Nat.toDigits 10 n).map Char.toNat).length>1->((Nat.toDigits 10 n).map Char.toNat).head?≠some 48):=by decide+kernel
def Rz{n:Nat}(h:n<1000):iV (aH (n:Int))=true:=by let#[h1,h2,B,_]:=LR n h;rw[<-HD]at h1 h2 B;unfold iV;rw[and_eq_true,and_eq_true,bne_iff_ne,qS,qH];show#[λz=>by rw[z]at h1;simp at h1,∅,λc F=>?_];let:=B c F;rw[and_eq_true,qS,qS];show this
def Fx{c:Nat}:∀{ps:List Wd},ps≠[]->(∀p∈ps,c∉p)->aJ c (aM [c] ps)=ps
 |[],h,_=>absurd rfl h
 |[p],_,h=>HJ (h p (by simp))
 |p::q::r,_,h=>by let B:=Fx (ps:=q::r) (by simp) λx F=>h x (qk _ F);rw[show aM [c] (p::q::r)=p++c::aM [c] (q::r) by show p++[c]++aM [c] (q::r)=_;simp,Ie (h p (by simp)),B]
def Ki{c:Nat}{ls:List Wd}{n m:Nat}(hn:ls.length<=n)(B:∀l∈ls,l.length<=m)(L:n*m+n<=1000000):fM [c] (ls.map D.str)=⇑(.sh (.str (aM [c] ls)))/\(aM [c] ls).length<=n*m+n:=by
 have M:(ls.map List.length).sum<=ls.length*m:=by
  clear hn L
  induction ls with
  |nil=>simp
  |cons l ls F=>have h1:=B l (by simp);let h2:=F λx G=>B x (qk _ G);rw[qy,sum_cons,qt,succ_mul];lia
 let O:ls.length*m<=n*m:=Nat.mul_le_mul_right _ hn;let J:=Ip [c] ls;rw[qB,Nat.mul_one]at J;show#[?_,∅];unfold fM;rw[Nk,bind_some,qZ];rw[qB,Nat.mul_one,cX];lia
def eT:Nat->D->Nat
 |0,_=>1
 |n+1,.tup l=>1+(l.map (eT n)).sum
 |_+1,_=>1
def kF:Nat->D->Bool
 |0,_=>false
 |n+1,.tup l=>l.all (kF n)
 |_+1,.str _=>true
 |_+1,.int _=>true
 |_+1,_=>false
def GC:∀l:List D,gI l l=l.map λx=>D.tup [x,x]
 |[]=>rfl
 |x::l=>by show D.tup [x,x]::gI l l=_;rw[GC l];rfl
def EK:∀(n:Nat)(d:D),1<=eT n d
 |0,_=>q9 _
 |n+1,d=>by cases d<;>simp[eT]
def HA{α:Type}{f:α->Nat}:∀{l:List α},(∀x∈l,1<=f x)->l.length<=(l.map f).sum
 |[],_=>q9 _
 |x::l,h=>by let h1:=h x (by simp);let h2:=HA (l:=l) λy B=>h y (qk _ B);rw[qy,sum_cons,qt];lia
def oA(x:Nat×D):D:=.tup [x.2,x.2]
def GJ{n:Nat}{d:D}(h:kF n d=true)(hz:eT n d<=1000)(k:P (.sh (.bl true)) [.sh d,.sh d]):kK [.sh d,.sh d] P PX:=by
 show AU rfl rfl ?_;simp! [e_C];show Jc (λm U=>∃(L:List (Nat×D))(o3 o4:Option S),m=(L.map λx=>eT x.1 x.2).sum/\m<=1000/\(∀x∈L,kF x.1 x.2=true)/\U=[⇑(.sh d),⇑(.sh d),⇑(.lst ((L.map oA).map .sh)),o3,o4]) (eT n d) #[[(n,d)],none,none,by simp,hz,↑h,rfl] λm U hJ=>?_;let#[L,o3,o4,M,h4,hL,rfl]:=hJ;let J:L.length<=m:=by rw[M];show HA λx _=>EK _ _
 rcases List.eq_nil_or_concat L with rfl|⟨L,x,rfl⟩
 .simp! [vN,zay,length_nil];show k
 .rw[List.concat_eq_append]at M hL J⊢;let Y:=hL x (by simp);let F:∀y∈L,kF y.1 y.2=true:=λy B=>hL y (qj _ B);rw[map_append,sum_append,List.map_singleton,List.sum_singleton]at M;rw[qq,qB]at J;let h2:↥(((((L++[x]).map oA).length:Nat):Int)>0)=true:=qQ (by simp);let e1:((L++[x]).map oA).map S.sh=(L.map oA).map S.sh++[S.sh (oA x)]:=by simp
  simp! [vM,zay,h2];rw[e1];let#[a,d0]:=x;let O:∀{l:List D},dW "tuple" (.tup l)=true:=rfl;cases a with
  |zero=>cases Y
  |succ a=>
   cases d0 with
   |tup l=>
    let G:l.all (kF a)=true:=Y;rw[qH]at G;let h5:m=(L.map λx=>eT x.1 x.2).sum+(1+(l.map (eT a)).sum):=M;let h3:l.length<=(l.map (eT a)).sum:=HA λy _=>EK a y;let e2:(gI l l).map S.sh=((l.map λy=>(a,y)).map oA).map S.sh:=by rw[GC,qD,qD,qD];rfl
    simp! [gO,oA,length_cons,length_nil,O,decide_true];rw[e2,<-map_append,<-map_append];show#[by simp only[cX];lia,by simp only[qo,cX];lia,GZ (m':=((L++l.map λy=>(a,y)).map λx=>eT x.1 x.2).sum) ?_ #[L++l.map λy=>(a,y),_,_,rfl,?_,λy B=>?_,rfl]]
    .rw[map_append,sum_append,qD];show _+(l.map (eT a)).sum<m;lia
    .rw[map_append,sum_append,qD];show _+(l.map (eT a)).sum<=1000;lia
    .rcases qx.mp B with B|B
     .show F y B
     .obtain⟨z,hz,rfl⟩:=qJ.mp B;show G z hz
   |str w=>simp! [gO,oA,length_cons,length_nil,show dW "tuple" (D.str w)=false from rfl,show dW "bool" (D.str w)=false from rfl,show dW "int" (D.str w)=false from rfl];show GZ (m':=(L.map λx=>eT x.1 x.2).sum) (by let h1:=EK (a+1) (.str w);lia) #[L,_,_,rfl,by let h1:=EK (a+1) (.str w);lia,F,rfl]
   |int z=>simp! [gO,oA,length_cons,length_nil,show dW "tuple" (D.int z)=false from rfl,show dW "bool" (D.int z)=false from rfl,show dW "int" (D.int z)=true from rfl];show GZ (m':=(L.map λx=>eT x.1 x.2).sum) (by let h1:=EK (a+1) (.int z);lia) #[L,_,_,rfl,by let h1:=EK (a+1) (.int z);lia,F,rfl]
   |_=>cases Y
def Ol{p:Nat->Bool}{l:List Nat}(h:∀j∈l,p j=false):l.find? p=none:=List.find?_eq_none.mpr λj B=>by simp[h j B]
structure mU(B:List Wd):Prop where
 len:B.length<=6
 nd:B.Nodup
 ne:∀w∈B,w≠[]
 le:∀w∈B,w.length<=6
 lt:∀w∈B,∀c∈w,97<=c/\c<=122
def dG(B:List Wd):Wd:=if B=[]then[45]else aM [32] B
def Iy{B:List Wd}(h:mU B):fM [32] (B.map D.str)=⇑(.sh (.str (aM [32] B)))/\(aM [32] B).length<=42:=by let:=Ki (c:=32) h.len h.le ⋯;show#[this.1,this.2]
def mU.ab(h:mU B):AB B:=#[by let:=h.len;lia,λw F=>by let:=h.le w F;lia,λw F c G=>by let:=h.lt w F c G;lia]
def mU.due{B:List Wd}(h:mU B):iE B=.bl true:=by
 unfold iE;rw[Ol λk F=>?_];let F:=qI.mp F;let e:B.getD k []=B[k]:=by rw[getD_eq_getElem?_getD,qh F];rfl
 let G:B[k]∈B:=getElem_mem F;unfold kN;rw[e,qR (h.ne _ G),show pU B[k]=true from qH.mpr λc L=>by let:=h.lt _ G c L;simp;lia,Bool.not_true,Bool.false_or,Bool.false_or,decide_eq_false_iff_not];intro z;let#[i,hi,J]:=List.mem_iff_getElem.mp z;rw[qG]at hi;rw[List.getElem_take]at J;let:=(List.getElem_inj h.nd).mp J;lia
def Tp{B:List Wd}(G:mU B)(h:P (.sh (.str (dG B))) [.sh (zK B)]):aq [.sh (zK B)] P PX:=by
 let F:=Iy G;show AU rfl rfl ?_;unfold dG at h;cases B with
 |nil=>simp! [zK,map_nil,show fG (.tup [])=⇑false from rfl];show h
 |cons w B=>have e:cJ [32] [.tup ((w::B).map D.str)]=⇑(.sh (.str (aM [32] (w::B)))):=F.1;rw[qy]at e;simp! [zK,show fG (.tup (.str w::B.map D.str))=⇑true from rfl,e];show h
def Tt{B:List Wd}(F:mU B)(h:P (.sh (zK B)) [.sh (.str (dG B))]):ao [.sh (.str (dG B))] P PX:=by
 let hj:=Iy F;show AU rfl rfl ?_;unfold dG at h⊢;cases B with
 |nil=>simp! [if_true,decide_true];show h
 |cons w B=>
  rw[q8 (by simp)]at h⊢;let J:↥(aM [32] (w::B)=[45])=false:=by
   let M:=F.ne w (by simp);cases w with
   |nil=>show absurd rfl M
   |cons c w=>
    let hc:=(F.lt (c::w) (by simp) c (by simp)).1;let:∃r,aM [32] ((c::w)::B)=c::r:=by cases B<;>show#[_,rfl]
    let#[r,e]:=this;rw[e,decide_eq_false_iff_not];intro z;cases z;lia
  let O:aJ 32 (aM [32] (w::B))=w::B:=Fx (by simp) λp Y z=>by let:=(F.lt p Y 32 z).1;lia
  let hl:(aM [32] (w::B)).length<=42:=hj.2;let G:(aJ 32 (aM [32] (w::B))).map (λp=>S.sh (D.str p))=((w::B).map D.str).map S.sh:=by rw[O,qD];rfl
  simp! [J,G,zay];show SV (B:=w::B) F.ab (λ_=>?_) λk L _=>?_
  .simp! [zK,map_cons];show h
  .rw[F.due]at L;cases L
structure iX(m:Int)(L:List Sg):Prop where
 lo:1<=m
 hi:m<=999
 len:L.length<=24
 ok:∀t∈L,tG m t=true
 lt:L.Pairwise λt u=>mZ t u=true
def iX.st(h:iX m L){t:Sg}(G:t∈L):(0<=t.1/\t.1<m)/\(0<=t.2.2/\t.2.2<m)/\∃c,t.2.1=[c]/\97<=c/\c<=122:=by
 let:=h.ok t G;unfold tG pW oW pU at this;simp only[and_eq_true,qS,qH]at this;let#[h1,h2,B,F]:=this;show#[h1,h2,?_];match q:t.2.1,B,F with
 |[c],_,F=>show#[c,rfl,F c (by simp)]
 |[],B,_=>simp at B
 |_::_::_,B,_=>simp at B;lia
def bN(t:Sg):Wd:=aM [32] [aH t.1,t.2.1,aH t.2.2]
def aL(m:Int):Wd:=[114,111,111,109,115,32]++aH m
def fJ(m:Int)(L:List Sg):Wd:=aM [10] (aL m::L.map bN)
def Gn(t:Sg):bN t=aH t.1++[32]++t.2.1++[32]++aH t.2.2:=by show aH t.1++[32]++(t.2.1++[32]++aH t.2.2)=_;simp
def CH{z:Int}(F:0<=z)(h1:z<1000):1<=(aH z).length/\(aH z).length<=3/\(∀c∈aH z,48<=c/\c<=57)/\((aH z).length>1->(aH z).head?≠some 48)/\iV (aH z)=true/\((lK (aH z):Nat):Int)=z:=by
 let#[n,rfl]:=Int.eq_ofNat_of_zero_le F;let B:n<1000:=∅
 let#[a,b,c,d]:=LR n B;rw[<-HD]at a b c d;show#[a,b,c,d,Rz B,by rw[Qo]]
def Kf{m:Int}{L:List Sg}(h:iX m L):∀r∈aL m::L.map bN,r.length<=9:=λr B=>by
 let G:=h.lo;let J:=h.hi;rcases qA.mp B with rfl|B
 .let:=CH (z:=m) ∅ ∅;unfold aL;simp;lia
 .obtain⟨t,F,rfl⟩:=qJ.mp B;let#[h1,h2,c,M,_]:=h.st F;let Y:=CH (z:=t.1) ∅ ∅;let O:=CH (z:=t.2.2) ∅ ∅;rw[Gn,M];simp;lia
def HQ{m:Int}{L:List Sg}(h:iX m L):fM [10] ((aL m::L.map bN).map D.str)=⇑(.sh (.str (fJ m L)))/\(fJ m L).length<=250:=by let B:=h.len;let:=Ki (c:=10) (ls:=aL m::L.map bN) (n:=25) (m:=9) (by simp;lia -verbose) (Kf h) ⋯;show#[this.1,this.2]
def Tu{m:Int}{L:List Sg}(B:iX m L)(h:P (.sh (.str (fJ m L))) [.sh (fP m L)]):ak [.sh (fP m L)] P PX:=by
 let Y:=B.lo;let h5:=B.hi;let hl:=B.len;show AU rfl rfl ?_;simp! [fP,length_cons,length_nil];show IX (n:=4) L (λt=>.sh (.str (bN t))) (λt O l M J G K h4 F=>?_) λM J G=>?_
 .obtain⟨h1,h2,c,h3,_⟩:=B.st O;let d1:=CH (z:=t.1) ∅ ∅;let d2:=CH (z:=t.2.2) ∅ ∅;rw[show cR t=D.tup [.int t.1,.str t.2.1,.int t.2.2] from rfl];rw[Gn]at F;simp! [kJ,vB,rK,length_cons,length_nil,length_append];let h6:t.2.1.length=1:=by rw[h3];rfl
  let b:∀x,x<=30->x<=big:=λx h=>by simp only[cX];lia
  show#[b _ ∅,b _ ∅,b _ ∅,b _ ∅,b _ ∅,b _ ∅,by simp only[cX];lia,F _ _ _]
 .let hj:=(HQ B).1;let d:=CH (z:=m) ∅ ∅;let e:cJ [10] [.lst ((aL m::L.map bN).map D.str)]=⇑(.sh (.str (fJ m L))):=hj;let b:∀x,x<=30->x<=big:=λx h=>by simp only[cX];lia
  rw[show(L.map λt=>S.sh (.str (bN t)))=((L.map bN).map D.str).map S.sh by rw[qD,qD];rfl];rw[qy]at e;simp! [zay,length_cons,length_nil,length_append,length_map];show#[b _ ∅,b _ ∅,b _ ∅,?_];rw[show(114::111::111::109::115::32::aH m)=aL m from rfl,e];simp! [e_C];show h
def RZ{m:Int}{L:List Sg}(B:iX m L)(h:P (.sh (.str (fJ m L))) [.sh (fP m L)]):rB [.sh (fP m L)] P PX:=by
 let h4:=B.lo;let h6:=B.hi;let hl:=B.len;let d:=CH (z:=m) ∅ ∅;let b:∀x,x<=30->x<=big:=λx h=>by simp only[cX];lia
 show AU rfl rfl ?_;simp! [fP,uO,oZ,zay,length_cons,length_nil,length_append];show IX (n:=2) L (λt=>.sh (.str (bN t))) (λt Y l O M J K h5 G=>?_) λO M J=>?_
 .obtain⟨h1,h2,c,h3,_⟩:=B.st Y;let d1:=CH (z:=t.1) ∅ ∅;let d2:=CH (z:=t.2.2) ∅ ∅;rw[show cR t=D.tup [.int t.1,.str t.2.1,.int t.2.2] from rfl];rw[Gn]at G;let F:t.2.1.length=1:=by rw[h3];rfl
  let h8:=d1.2.1;let h7:=d2.2.1;simp! [kJ,vB,nM,length_cons,length_nil,length_append,F];show#[by simp only[cX];lia,G _ _ _]
 .let e:cJ [10] [.lst ((aL m::L.map bN).map D.str)]=⇑(.sh (.str (fJ m L))):=(HQ B).1;rw[show(L.map λt=>S.sh (.str (bN t)))=((L.map bN).map D.str).map S.sh by rw[qD,qD];rfl];rw[qy,show aL m=114::111::111::109::115::32::aH m from rfl]at e;simp! [zay,length_cons,length_nil,length_append,length_map,e];show h
def HK{z:Int}(h0:0<=z)(h1:z<1000)(h:P (.sh (.int z)) [.sh (.str (aH z))]):lD [.sh (.str (aH z))] P PX:=by
 let#[L,d2,d3,J,d5,d6]:=CH h0 h1;show AU rfl rfl ?_;let e1:↥((1:Int)<=((aH z).length:Int))=true:=qQ ∅;let e2:↥(((aH z).length:Int)<=3)=true:=qQ ∅;simp! [e1,e2];show Mu (n:=1) (aH z) (λc=>.sh (.bl true)) (λc Y l o K O hK=>?_) λo=>?_
 .let B:=d3 c Y;let f1:↥(48<=c)=true:=qQ B.1;let f2:↥(c<=57)=true:=qQ B.2;simp! [kJ,vB,nU,Hl,f1,f2];show#[by simp only[cX];lia,hK _]
 .have e:((aH z).map λc=>S.sh (D.bl true)).map S.toD=((aH z).map λ_=>true).map D.bl:=by rw[qD,qD];rfl
  let e3:((aH z).map λ_=>true).all id=true:=by rw[all_map];simp
  let G:kD [.str (aH z)]=⇑(.sh (.int z)):=by show(if iV (aH z)=true then ⇑(S.sh (.int (lK (aH z):Nat)))else none)=_;rw[qZ d5,d6]
  simp! [e,He,e3];cases q:↥((1:Int)<((aH z).length:Int))
  .simp! [G];show h
  .let M:=qT q;cases B:aH z with
   |nil=>rw[B]at L;simp at L
   |cons a r=>rw[B]at J h G M;let ha:↥([a]=[48])=false:=qR λe=>J ∅ (by rw[List.cons.inj e|>.1];rfl);let F:atI (a::r) (0:Int)=some a:=Dy ⋯ rfl;simp! [F,ha,G];show h
def EI{z:Int}(F:0<=z)(h1:z<1000):32∉aH z/\10∉aH z:=by let#[_,_,B,_]:=CH F h1;show#[λz=>by let:=B _ z;lia,λz=>by let:=B _ z;lia]
def Ur{m:Int}(F:0<=m)(h1:m<1000):aJ 32 (aL m)=[[114,111,111,109,115],aH m]:=by
 have:=Fx (c:=32) (ps:=[[114,111,111,109,115],aH m]) (by simp) λp B=>by
  simp only[qA,not_mem_nil,or_false]at B;rcases B with rfl|rfl
  .decide
  .show(EI F h1).1
 show this
def TX{m:Int}(L:1<=m)(h1:m<1000)(h:P (.sh (.int m)) [.sh (.str (aL m))]):ai [.sh (.str (aL m))] P PX:=by
 let J:(aL m).length<=9:=by let:=(CH (z:=m) ∅ h1).2.1;unfold aL;simp;lia
 let F:(aJ 32 (aL m)).map (λp=>S.sh (D.str p))=[.sh (.str [114,111,111,109,115]),.sh (.str (aH m))]:=by rw[Ur ∅ h1];rfl
 let B:↥(m=0)=false:=qR ∅;show AU rfl rfl ?_;let G:↥(((2:Nat):Int)=2)=true:=rfl;simp! [F,length_cons,length_nil,G,decide_true];show HK ∅ h1 ?_;simp! [B];show h
def UB{m:Int}{L:List Sg}{t:Sg}(F:iX m L)(J:t∈L)(h:P (.sh (cR t)) [.sh (.str (bN t))]):ah [.sh (.str (bN t))] P PX:=by
 obtain⟨h1,h2,c,h3,h5,h4⟩:=F.st J;let Y:=F.hi;let O:(aJ 32 (bN t)).map (λp=>S.sh (D.str p))=[.sh (.str (aH t.1)),.sh (.str t.2.1),.sh (.str (aH t.2.2))]:=by
  have:=Fx (c:=32) (ps:=[aH t.1,t.2.1,aH t.2.2]) (by simp) λp M=>by
   simp only[qA,not_mem_nil,or_false]at M;rcases M with rfl|rfl|rfl
   .show(EI h1.1 ∅).1
   .rw[h3];simp;lia
   .show(EI h2.1 ∅).1
  rw[show aJ 32 (bN t)=[aH t.1,t.2.1,aH t.2.2] from this];rfl
 let hl:(bN t).length<=9:=Kf F _ (qk _ (List.mem_map_of_mem J));show AU rfl rfl ?_;let c3:↥(((3:Nat):Int)=3)=true:=rfl;let G:atI [S.sh (D.str (aH t.1)),S.sh (D.str t.2.1),S.sh (D.str (aH t.2.2))] 2=⇑(S.sh (D.str (aH t.2.2))):=Dy ⋯ rfl;let B:∀z:Int,mL (.int z) .non=⇑false:=λz=>by show ⇑(open Classical in ↥(D.int z=D.non))=_;simp
 simp! [O,length_cons,length_nil,c3];show HK h1.1 ∅ ?_;simp! [G];show HK h2.1 ∅ ?_;simp! [B];show h
def SA{m:Int}{L:List Sg}(F:iX m L)(h:P (.sh (fP m L)) [.sh (.str (fJ m L))]):aj [.sh (.str (fJ m L))] P PX:=by
 have h6:=F.lo;let e2:=F.hi;let h8:=F.len;let hl:=(HQ F).2;let O:(aJ 10 (fJ m L)).map (λp=>S.sh (D.str p))=((aL m::L.map bN).map D.str).map S.sh:=by
  have:=Fx (c:=10) (ps:=aL m::L.map bN) (by simp) λp hp z=>by
   rcases qA.mp hp with rfl|hp
   .unfold aL at z;let:=(EI (z:=m) ∅ ∅).2;simp at z;show this z
   .obtain⟨t,G,rfl⟩:=qJ.mp hp;let#[h1,h2,c,h3,hc]:=F.st G;rw[Gn,h3]at z;let n1:=(EI (z:=t.1) h1.1 ∅).2;let n2:=(EI (z:=t.2.2) h2.1 ∅).2;simp at z;rcases z with z|z|z
    .show n1 z
    .lia
    .show n2 z
  rw[show aJ 10 (fJ m L)=aL m::L.map bN from this,qD];rfl
 show AU rfl rfl ?_;simp! [O];show TX h6 ∅ ?_;let h4:mL (.int m) .non=⇑false:=by show ⇑(open Classical in ↥(D.int m=D.non))=_;simp
 let M:bI (D.str (aL m)::(L.map bN).map D.str) (some 1) none=L.map λt=>D.str (bN t):=by rw[Lv _ ⋯,qD];rfl
 let ev:vC ⇑(S.lst (S.sh (D.str (aL m))::((L.map bN).map D.str).map S.sh))=⇑(.lst (D.str (aL m)::(L.map bN).map D.str)):=znm (l:=D.str (aL m)::(L.map bN).map D.str);simp! [h4,ev,M];show Hj (toD:=λt=>D.str (bN t)) (λB U=>∃o1 o5 Y:Option S,U=[⇑(.sh (.str (fJ m L))),o1,⇑(.sh (.int m)),⇑(.lst ((B.map cR).map .sh)),⇑(.sh (uP B.getLast?)),o5,Y]) L (λB t h7 D2 U e hI h5 e3 h9 e4=>?_) (λU hI=>?_) #[_,_,_,rfl]
 .obtain⟨o1,o5,Y,rfl⟩:=hI;let G:t∈L:=by rw[<-e];simp
  let e1:B.length<=24:=by let:=congrArg List.length e;rw[qq]at this;lia
  have J:mJ m B.getLast? t=true:=by
   unfold mJ;rw[F.ok t G,Bool.true_and];cases q:B.getLast? with
   |none=>rfl
   |some u=>have O:=F.lt;rw[<-e,pairwise_append]at O;show O.2.2 u (List.mem_of_getLast? q) t (by simp)
  simp! [rJ];show UB F G ?_;simp! [zay,Ji];let#[_,_,c,h3,_]:=F.st G;show QC (by rw[h3];simp) ?_;simp! [J,length_map];show#[by simp only[cX];lia,h5 _ #[o1,⇑(.sh (.str (bN t))),⇑(.sh (cR t)),?_]];rw[map_append,map_append,List.getLast?_concat];rfl
 .obtain⟨o1,o5,Y,rfl⟩:=hI;simp! [e_C];show h
def Gm(w:Wd):kF 9 (.str w)=true/\eT 9 (.str w)<=1000:=#[rfl,by show 1<=1000;decide]
def HY{α:Type}{f:α->Nat}{k:Nat}:∀{l:List α},(∀x∈l,f x<=k)->(l.map f).sum<=l.length*k
 |[],_=>by simp
 |x::l,h=>by let h1:=h x (by simp);let h2:=HY (l:=l) λy B=>h y (qk _ B);rw[qy,sum_cons,qt,succ_mul];lia
def KW{B:List Wd}(h:mU B):kF 9 (zK B)=true/\eT 9 (zK B)<=1000:=by
 let G:=h.len;show#[?_,?_]
 .show(B.map D.str).all (kF 8)=true;rw[all_map];show qH.mpr λw _=>rfl
 .show 1+((B.map D.str).map (eT 8)).sum<=1000;let:=HY (f:=eT 8) (k:=1) (l:=B.map D.str) λd F=>by let#[w,_,rfl]:=qJ.mp F;exact q9 _
  rw[qo]at this;lia
def Jk{m:Int}{L:List Sg}(h:L.length<=24):kF 9 (fP m L)=true/\eT 9 (fP m L)<=1000:=by
 show#[?_,?_]
 .show(kF 8 (.int m)&&(kF 8 (.tup (L.map cR))&&true))=true;rw[Bool.and_true,show kF 8 (.tup (L.map cR))=(L.map cR).all (kF 7) from rfl,all_map];rw[show(L.all (kF 7∘cR))=true from qH.mpr λt _=>rfl];rfl
 .show 1+(eT 8 (.int m)+(eT 8 (.tup (L.map cR))+0))<=1000;rw[show eT 8 (.tup (L.map cR))=1+((L.map cR).map (eT 7)).sum from rfl,show eT 8 (.int m)=1 from rfl];let:=HY (f:=eT 7) (k:=4) (l:=L.map cR) λd B=>by let#[t,_,rfl]:=qJ.mp B;exact q9 4
  rw[qo]at this;lia
def Tz{B:List Wd}{m:Int}{L:List Sg}(F:mU B)(J:iX m L)(h:P (.sh (.bl true)) [.sh (zK B),.sh (fP m L)]):qN [.sh (zK B),.sh (fP m L)] P PX:=by
 have O:=Iy F;let h1:=O.2;let h2:=F.len;show AU rfl rfl ?_;let e:cJ [32] [.tup (B.map D.str)]=⇑(.sh (.str (aM [32] B))):=O.1;obtain⟨G,hf,Y,hT⟩:∃G:List Nat,(List.replicate (if decide ((B.length:Int)=0)=true then(1:Int)else 0).toNat [45]).flatten=G/\G.length<=1/\aM [32] B++G=dG B:=by
  unfold dG;cases B with
  |nil=>show#[[45],rfl,by simp,rfl]
  |cons w B=>have:↥(((w::B).length:Int)=0)=false:=qR (by simp;lia -verbose);show#[[],by rw[this];rfl,by simp,by simp]
 let M:(aM [32] B).length+G.length<=1000000:=∅
 simp! [zK,e,length_map,hf,M,hT];show Tp F ?_;simp! [e_C];show GJ (Gm _).1 (Gm _).2 ?_;simp! [e_C];show Tt F ?_;simp! [e_C];show GJ (KW F).1 (KW F).2 ?_;simp! [e_C];show RZ J ?_;simp! [e_C];show Tu J ?_;simp! [e_C];show GJ (Gm _).1 (Gm _).2 ?_;simp! [e_C];show SA J ?_;simp! [e_C];show GJ (Jk J.len).1 (Jk J.len).2 ?_;simp! [e_C];show h
def Hn{t u:Sg}:mZ t u=true↔t.1<u.1\/t.1=u.1/\(t.2.1<u.2.1\/t.2.1=u.2.1/\t.2.2<u.2.2):=by
 unfold mZ;rw[beq_iff_eq,EZ,DQ];by_cases h1:t.1<u.1
 .simp[h1]
 .rw[q8 h1];by_cases h2:u.1<t.1
  .rw[qZ h2];show#[λz=>(nomatch z),λz=>∅]
  .rw[q8 h2];show aE [.str t.2.1,.int t.2.2] [.str u.2.1,.int u.2.2]=.lt↔_;rw[EZ,DN];let e:t.1=u.1:=by lia
   rcases GO t.2.1 u.2.1 with B|B|B
   .rw[qZ B];show#[λ_=>.inr #[e,.inl B],λ_=>rfl]
   .rw[q8 (lt_asymm B),qZ B];show#[λz=>(nomatch z),λz=>?_];rcases z with z|⟨_,z|⟨z,_⟩⟩
    .lia
    .show(lt_asymm B z).elim
    .rw[z]at B;show(List.lt_irrefl _ B).elim
   .rw[B,q8 (List.lt_irrefl _),q8 (List.lt_irrefl _)];show aE [.int t.2.2] [.int u.2.2]=.lt↔_;rw[EZ,DQ];by_cases F:t.2.2<u.2.2
    .simp[F,e]
    .rw[q8 F];by_cases G:u.2.2<t.2.2
     .rw[qZ G];show#[λz=>(nomatch z),λz=>?_];rcases z with z|⟨_,z|⟨_,z⟩⟩
      .lia
      .show(List.lt_irrefl _ z).elim
      .show(F z).elim
     .rw[q8 G];show#[λz=>(nomatch z),λz=>?_];rcases z with z|⟨_,z|⟨_,z⟩⟩
      .lia
      .show(List.lt_irrefl _ z).elim
      .show(F z).elim
def Qi{t u:Sg}(h:cV (cR t) (cR u)=true)(hn:cR t≠cR u):mZ t u=true:=by
 let k:∀t:Sg,eY [false,true,false] [.int t.1,.str t.2.1,.int t.2.2]:=λ_=>trivial;let h1:mZ u t=false:=by let:cV (.tup [.int t.1,.str t.2.1,.int t.2.2]) (.tup [.int u.1,.str u.2.1,.int u.2.2])=true:=h;rw[DA (k t) (k u)]at this;unfold mZ;simpa using this
 let h2:¬mZ u t=true:=by rw[h1];simp
 rw[Hn]at h2;rw[Hn];show Classical.byContradiction λG=>hn ?_;let B:t.1=u.1:=∅
 have F:t.2.1=u.2.1:=by
  rcases GO t.2.1 u.2.1 with z|z|z
  .show(G (.inr #[B,.inl z])).elim
  .show(h2 (.inr #[B.symm,.inl z])).elim
  .show z
 have J:t.2.2=u.2.2:=by
  rcases Int.lt_trichotomy t.2.2 u.2.2 with z|z|z
  .show(G (.inr #[B,.inr #[F,z]])).elim
  .show z
  .show(h2 (.inr #[B.symm,.inr #[F.symm,z]])).elim
 unfold cR;rw[B,F,J]
def PJ{many:Int}{col wd:Wd}{sts:List St}(h1:1<=many)(h2:many<=8)(h3:(sts.length:Int)<=24)(hc:∀c∈col,97<=c/\c<=122)(hw:∀c∈wd,c∈col)(h4:∀t∈sts,gR many col wd t)(h5:(sts.map dQ).Pairwise (cV · ·=true))(h6:(sts.map dQ).Nodup):iX many (sts.map yN) where
 lo:=h1
 hi:=∅
 len:=by rw[qo];lia
 ok:=λt ht=>by let#[u,hu,rfl]:=qJ.mp ht;let#[a,b,c]:=h4 u hu;let hl:97<=u.2.1/\u.2.1<=122:=hc _ (c.elim id (hw _));unfold tG pW oW pU yN;simp[a,b,hl]
 lt:=by rw[pairwise_map]at h5;let h6:=pairwise_map.mp h6;rw[pairwise_map];show(h5.and h6).imp λ{a b} z=>Qi z.1 z.2
structure Pl(k:Nat)(ps:List Int)(v:Int):Prop where
 last:∃q,ps=q++[v]
 len:ps.length=k+1
 up:ps.Pairwise (·<·)
 lo:∀p∈ps,0<=p
 hi:v<=11+120*k
def Pl.one{r:Int}(B:0<=r)(h1:r<12):Pl 0 [r] r:=#[#[[],rfl],rfl,by simp,↑B,∅]
def Pl.le(h:Pl k ps v){p:Int}(B:p∈ps):p<=v:=by
 let#[q,rfl]:=h.last;let:=h.up;rw[pairwise_append]at this;rcases qx.mp B with z|z
 .show Int.le_of_lt (this.2.2 p z v (by simp))
 .rw[qu.mp z];show Int.le_refl _
def Pl.next(h:Pl k ps v){r:Int}(h0:0<=r)(h1:r<120):Pl (k+1) (ps++[v+1+r]) (v+1+r) where
 last:=#[ps,rfl]
 len:=by rw[qq,h.len];rfl
 up:=pairwise_append.mpr #[h.up,by simp,λa ha b hb=>by let:=h.le ha;rw[qu.mp hb];lia]
 lo:=λp hp=>by
  rcases qx.mp hp with z|z
  .show h.lo p z
  .obtain⟨q,e⟩:=h.last;let:=h.lo v (by rw[e];simp);rw[qu.mp z];lia
 hi:=by let:=h.hi;lia
def Pl.end(h:Pl k ps v):atI ((ps.map D.int).map S.sh) (-1)=⇑(.sh (.int v)):=by let#[q,rfl]:=h.last;rw[map_append,map_append];show OD
def vG(ps:List Int)(t:Sg):Sg:=(ps.getD t.1.toNat 0,t.2.1,ps.getD t.2.2.toNat 0)
def Pl.mono(h:Pl k ps v){a b:Int}(F:0<=a)(h1:a<b)(h2:b<k+1):ps.getD a.toNat 0<ps.getD b.toNat 0:=by let B:=h.len;rw[getD_eq_getElem?_getD,getD_eq_getElem?_getD,qh ∅,qh ∅];show List.pairwise_iff_getElem.mp h.up _ _ ∅ ∅ ∅
def Pl.get(h:Pl k ps v){a:Int}(G:0<=a)(h2:a<k+1):0<=ps.getD a.toNat 0/\ps.getD a.toNat 0<=v:=by
 let F:=h.len;let B:ps.getD a.toNat 0∈ps:=by rw[getD_eq_getElem?_getD,qh ∅];show getElem_mem _
 show#[h.lo _ B,h.le B]
def RC{k:Nat}{ps:List Int}{v m':Int}{L:List Sg}(h:Pl k ps v)(hk:k<=8)(hM:iX (k:Int) L)(h1:v<m')(h2:m'<=999):iX m' (L.map (vG ps)) where
 lo:=by let:=h.get (a:=0) ∅ ∅;lia
 hi:=h2
 len:=by rw[qo];show hM.len
 ok:=λt ht=>by
  let#[u,hu,rfl]:=qJ.mp ht;let#[a,b,c,e,hc]:=hM.st hu;let g1:=h.get a.1 ∅;let g2:=h.get b.1 ∅;let h3:oW u.2.1=true:=by rw[e];unfold oW pU;simp[hc]
  show(pW m' (ps.getD u.1.toNat 0)&&(pW m' (ps.getD u.2.2.toNat 0)&&oW u.2.1))=true;unfold pW;rw[h3,qQ g1.1,qQ g2.1,qQ (show ps.getD u.1.toNat 0<m' by lia),qQ (show ps.getD u.2.2.toNat 0<m' by lia)];rfl
 lt:=by
  rw[pairwise_map];show hM.lt.imp_of_mem λ{t u} ht hu z=>?_;let#[a,b,_]:=hM.st ht;let#[a',b',_]:=hM.st hu;rw[Hn]at z⊢;unfold vG;rcases z with z|⟨z1,z|⟨z2,z3⟩⟩
  .show .inl (h.mono a.1 z ∅)
  .show .inr #[by rw[z1],.inl z]
  .show .inr #[by rw[z1],.inr #[z2,h.mono b.1 z3 ∅]]
def Ti{a s:Int}{m:Int}{L:List Sg}(ha:0<=a)(hs:1<=s)(F:s<=2147483629)(e3:m<=8)(hM:iX m L)
  (h:∀(m':Int)(L':List Sg) a' s',iX m' L'->0<=a'->1<=s'->s'<=2147483629->P (.sh (fP m' L')) [aI a' s',.sh (fP m L)]):rA [aI a s,.sh (fP m L)] P PX:=by
 let hm:=hM.lo;let#[n,rfl]:=Int.eq_ofNat_of_zero_le (show 0<=m by lia);let hn:n<=8:=∅
 show AU rfl rfl ?_;simp! [aI];show AS ha hs F ⋯ ⋯ λr a1 s1 r0 r1 h7 h6 J=>?_;simp! [aI];cases q:↥(0<r)
 .simp! [aI];show AS h7 h6 J ⋯ ⋯ λr2 a2 s2 p0 p1 e1 h5 h4=>?_;simp! [aI,fP,uO,oZ];show#[by simp only[cX];lia,?_];refine GY (λk U=>∃(a s:Int)(ps:List Int)(v:Int)(o3 o4:Option S),0<=a/\1<=s/\s<=2147483629/\Pl k ps v/\U=[⇑(aI a s),⇑(.sh (fP (n:Int) L)),⇑(yT ps),o3,o4]) _ (λk x hx D2 U hI h9 hb e2 hc=>?_) (λU hI=>?_) #[a2,s2,[r2],r2,_,_,e1,h5,h4,Pl.one p0 p1,rfl]
  .obtain⟨a,s,ps,v,o3,o4,ha,hs,F,G,rfl⟩:=hI;let hk:k<8:=by let:=(qg.mp hx).1;rw[Du]at this;lia
   let hl:=G.len;let ev:=G.end;simp! [nL,aI,yT,zay,ev];show AS ha hs F ⋯ ⋯ λr3 a3 s3 h3 Y O M B=>?_;simp! [aI,length_map];show#[by simp only[cX];lia,h9 _ #[a3,s3,ps++[v+1+r3],_,⇑(.sh x),o4,O,M,B,G.next h3 Y,?_]];simp[yT,aI]
  .obtain⟨a,s,ps,v,o3,o4,ha,hs,F,G,rfl⟩:=hI;rw[Du,qV]at G;let hl:=G.len;let hi:=G.hi;simp! [aI,fP,oZ,yT];let hd:=hM.len;refine IX (n:=5) L (λt=>.sh (cR (vG ps t))) (λt ht l o o' h8 K e4 hK=>?_) λo o' h8=>?_
   .obtain⟨i1,i2,_⟩:=hM.st ht;rw[show cR t=D.tup [.int t.1,.str t.2.1,.int t.2.2] from rfl];simp! [kJ,vB,nK,length_cons,length_nil,Jd i1.1 (show t.1<ps.length by lia),Jd i2.1 (show t.2.2<ps.length by lia)];show#[by simp only[cX];lia,hK _ _ _]
   .let ev:=G.end;rw[show(L.map λt=>S.sh (cR (vG ps t)))=((L.map (vG ps)).map cR).map S.sh by rw[qD,qD];rfl];simp! [aI,zay,e_sh,ev];show AS ha hs F ⋯ ⋯ λr3 a3 s3 h3 Y O M B=>?_;let f:∀m',v<m'->m'<=999->P (.sh (fP m' (L.map (vG ps)))) [aI a3 s3,.sh (fP (n:Int) L)]:=λm' h1 h2=>h m' _ a3 s3 (RC G hn hM h1 h2) O M B;rcases(by lia:r3=0\/r3=1)with rfl|rfl
    .simp! [aI,uO];show f _ ∅ ∅
    .simp! [aI,oZ];show f _ ∅ ⋯
 .simp! [aI];show h n L a1 s1 hM h7 h6 J
abbrev Bm:=List Wd×Int×List Sg
def yZ(c:Bm):D:=.tup [zK c.1,fP c.2.1 c.2.2]
def Rg{col:List Nat}{B:List Wd}(J:∀c∈col,97<=c/\c<=122)(h:mI col 6 6 B):mU B:=#[h.1,h.2.1,λw F=>(h.2.2 w F).1,λw F=>(h.2.2 w F).2.1,λw F c G=>J c ((h.2.2 w F).2.2 c G)]
def Dc:∀ns:List Int,ns.length<=63->lC [.sh (.lst (ns.map .int))] (λs _=>s=.sh (.bl true)) λ_ _=>False:=by
 intro ns hl;show AU rfl rfl ?_;simp! [length_map];obtain⟨n,en,hn1,hn3⟩:∃n:Nat,(if(if(ns.length:Int)<3 then(ns.length:Int)else 3)>1 then if(ns.length:Int)<3 then(ns.length:Int)else 3 else 1)=(n:Int)/\1<=n/\n<=3:=by
  by_cases h6:(ns.length:Int)<3
  .rw[qZ h6];by_cases h3:(ns.length:Int)>1
   .show#[ns.length,qZ h3,∅,∅]
   .show#[1,q8 h3,⋯,⋯]
  .show#[3,by rw[q8 h6];rfl,⋯,⋯]
 rw[en];show#[by simp only[cX];lia,?_];rw[Gc (n:=n) rfl];show Hj (λM U=>∃(A:List Bm)(o2 o3 o4 o5:Option S),A.length=M.length/\(∀c∈A,mU c.1/\iX c.2.1 c.2.2)/\U=[⇑(.sh (.lst (ns.map .int))),⇑(.lst ((A.map yZ).map .sh)),o2,o3,o4,o5]) (List.range n) (λM k r2 D2 U e hI hx hct hrt hbk=>?_) (λU hI=>?_) #[[],_,_,_,_,rfl,λ_ z=>(nomatch z),rfl]
 .obtain⟨A,o2,o3,o4,o5,hA,hO,rfl⟩:=hI;let hk:=Lu e;simp! [nJ];show Re (k:=(k:Int)) ∅ λa s ha hs G=>?_;simp! [aI];show AS ha hs G ⋯ ⋯ λr a1 s1 hr hr2 hq e4 h5=>?_;simp! [aI];show UL hq e4 h5 ∅ ∅ λL a2 s2 k1 k3 h7 hm G h4=>?_;let J:0<L.length:=by lia
  let F:L.length<=26:=∅
  simp! [aI];show LC hm G h4 ⋯ ⋯ J F λwd a3 s3 O h9 hd e3 h2=>?_;simp! [aI];let O:wd.length<=6:=O;show Td hd e3 h2 ⋯ ⋯ ⋯ ⋯ J F ∅ λmany h8 a4 s4 m1 m2 m3 m4 m5 m6 hb e2 h1=>?_;let hM:=PJ m1 m2 m3 h7 h9 m4 m5 m6;rw[IW];simp! [aI];show Tq hb e2 h1 J F ⋯ ⋯ ⋯ ⋯ λB a5 s5 hB hi e1 Y=>?_;simp! [aI];show Ti hi e1 Y m2 hM λm' L' a6 s6 r1 ha6 hs6 r3=>?_;simp! [aI,length_cons,length_nil,length_map];let:=hx _ #[A++[(B,m',L')],⇑(.sh (.int (k:Int))),⇑(aI a6 s6),⇑(.sh (.str L)),⇑(.sh (fP many (h8.map yN))),by rw[qq,qq,hA];rfl,λc hc=>(qx.mp hc).elim (hO c) λz=>by rw[qu.mp z];show#[Rg h7 hB,r1],rfl];rw[map_append,map_append]at this;show#[by simp only[cX];lia,this]
 .obtain⟨A,o2,o3,o4,o5,hA,hO,rfl⟩:=hI;rw[qC]at hA;let hp:=KL (A.map yZ) none (some 1);rw[qo]at hp;simp! [zay,length_map];rw[PD,<-map_append];let k2:=KL A none (some 1);refine UT (n:=6) (toD:=yZ) (A++bI A none (some 1)) (λ_=>.sh (.bl true)) (λc hc l o o' K hl hK=>?_) λo o'=>?_
  .let hf:=(qx.mp hc).elim (hO c) λz=>hO c (KO z);rw[qq]at hl;simp! [kJ,vB,nI,yZ,length_cons,length_nil];show Tz hf.1 hf.2 ?_;simp! [e_C];show#[by simp only[cX];lia,hK _ _]
  .rw[show((A++bI A none (some 1)).map λ_=>S.sh (.bl true))=(((A++bI A none (some 1)).map λ_=>true).map D.bl).map S.sh by rw[qD,qD];rfl];simp! [zay,He,all_map];simp
end pu
end Law
section
set_option maxHeartbeats 4000000
namespace Law
open PySem PySem.Spec PyProof.Rows L2 FL
local macro_rules
 |`(tactic|trivial)=>`(tactic|first|exact Or.inl rfl|exact Or.inr rfl)
@[inline]def top(i:Nat):Stmt:=PySem.Challenge.pw_walktold_k04_texts_there_and_back.main.body.getD i (.Pass #[0,0,0,0])
@[reducible]def cw:Stmt:=top 5
def ku:List Str:=["text"]
abbrev dq:List Str:=["text"]
def IH:aC ku dq (aA cw):=AR
@[reducible]def cv:Stmt:=top 6
def kr:List Str:=["text"]
abbrev dn:List Str:=["text"]
def IG:aC kr dn (aA cv):=AR
@[reducible]def cu:Stmt:=top 7
def kq:List Str:=["board","seen","at","word"]
abbrev dm:List Str:=["board"]
def DE:aC kq dm (aA cu):=AR
@[reducible]def cq:Stmt:=top 9
def ko:List Str:=["many","ahead","street","begin","colour","end"]
abbrev dk:List Str:=["many","ahead","street"]
def DC:aC ko dk (aA cq):=AR
@[reducible]def cp:Stmt:=top 13
def km:List Str:=["board"]
abbrev dj:List Str:=["board"]
def IF:aC km dj (aA cp):=AR
@[reducible]def cn:Stmt:=top 14
def kl:List Str:=["text","board"]
abbrev di:List Str:=["text"]
def FC:aC kl di (aA cn):=AR
@[reducible]def cj:Stmt:=top 15
def kh:List Str:=["chart","many","streets","rows"]
abbrev dh:List Str:=["chart"]
def DB:aC kh dh (aA cj):=AR
@[reducible]def cg:Stmt:=top 16
def kg:List Str:=["text","rows","many","streets","ahead","row","street"]
abbrev dg:List Str:=["text"]
def BD:aC kg dg (aA cg):=AR
@[reducible]def cf:Stmt:=top 17
def ke:List Str:=["row","parts","many"]
abbrev df:List Str:=["row"]
def EF:aC ke df (aA cf):=AR
@[reducible]def cc:Stmt:=top 18
def kc:List Str:=["row","parts","begin","end"]
abbrev de:List Str:=["row"]
def EE:aC kc de (aA cc):=AR
@[reducible]def sG:Stmt:=top 19
def fu:List Str:=["text"]
abbrev tF:List Str:=["text"]
def FD:aC fu tF (aA sG):=AR
@[reducible]def sF:Stmt:=top 21
def ft:List Str:=["_law_script","_law_k","_law_cell","_law_seed"]
abbrev tE:List Str:=["_law_script","_law_k"]
def BG:aC ft tE (aA sF):=AR
@[reducible]def sE:Stmt:=top 22
def fm:List Str:=["_law_box_here","_law_many","_law_digit","_law_one"]
abbrev tD:List Str:=["_law_box_here","_law_many"]
def CZ:aC fm tD (aA sE):=AR
@[reducible]def sD:Stmt:=top 23
def fk:List Str:=["_law_box_here","_law_many","_law_left"]
abbrev tB:List Str:=["_law_box_here","_law_many"]
def Eg:aC fk tB (aA sD):=AR
@[reducible]def sC:Stmt:=top 24
def fj:List Str:=["_law_box_here","_law_colours_here","_law_most","_law_many"]
abbrev sZ:List Str:=["_law_box_here","_law_colours_here","_law_most"]
def Ef:aC fj sZ (aA sC):=AR
@[reducible]def sA:Stmt:=top 25
def fh:List Str:=["_law_box_here","_law_colours_here","_law_board_here","_law_one","_law_kind","_law_colour","_law_at"]
abbrev sY:List Str:=["_law_box_here","_law_colours_here","_law_board_here"]
def BF:aC fh sY (aA sA):=AR
@[reducible]def rZ:Stmt:=top 26
def fg:List Str:=["_law_box_here","_law_colours_here","_law_many","_law_most","_law_found","_law_k","_law_word_here"]
abbrev sX:List Str:=["_law_box_here","_law_colours_here","_law_many","_law_most"]
def BE:aC fg sX (aA rZ):=AR
@[reducible]def rY:Stmt:=top 27
def fc:List Str:=["_law_box_here","_law_colours_here","_law_word_here","_law_rooms","_law_streets","_law_many","_law_found","_law_turn","_law_x","_law_colour","_law_y","_law_k"]
abbrev sW:List Str:=["_law_box_here","_law_colours_here","_law_word_here","_law_rooms","_law_streets"]
def AE:aC fc sW (aA rY):=AR
@[reducible]def rX:Stmt:=top 28
def eh:List Str:=["_law_found","_law_due","_law_left","_law_one","_law_other"]
abbrev sV:List Str:=["_law_found","_law_due"]
def Cg:aC eh sV (aA rX):=AR
@[reducible]def rW:Stmt:=top 29
def dz:List Str:=["_law_chart_here","_law_rows"]
abbrev sU:List Str:=["_law_chart_here"]
def Ee:aC dz sU (aA rW):=AR
@[reducible]def rV:Stmt:=top 30
def dy:List Str:=["_law_box_here","_law_chart_here","_law_places","_law_k","_law_streets"]
abbrev sT:List Str:=["_law_box_here","_law_chart_here"]
def Cf:aC dy sT (aA rV):=AR
@[reducible]def rT:Stmt:=top 31
def dw:List Str:=["_law_board_here","_law_chart_here","_law_text"]
abbrev sS:List Str:=["_law_board_here","_law_chart_here"]
def CY:aC dw sS (aA rT):=AR
@[reducible]def rS:Stmt:=top 32
def dv:List Str:=["_law_script","_law_some","_law_k","_law_box_here","_law_colours_here","_law_chart_here"]
abbrev sR:List Str:=["_law_script"]
def Bo:aC dv sR (aA rS):=AR
def UA:aC ["self","at"] ["self","at"] (aA (eF (top 2))):=AR
def Ma:aC ["self","row"] ["self","row"] (aA (eF (top 3))):=AR
structure Txt(K:W.Frag)(mg:Str->Option Value)(af:Nat->Addr):Prop where
 t_0:Tx K mg (af 0) "is_word" cw dq
 t_1:Tx K mg (af 1) "is_colour" cv dn
 t_2:Tx K mg (af 2) "look_board" cu dm
 t_3:Tx K mg (af 3) "may_follow" cq dk
 t_4:Tx K mg (af 4) "show_board" cp dj
 t_5:Tx K mg (af 5) "read_board" cn di
 t_6:Tx K mg (af 6) "show_map" cj dh
 t_7:Tx K mg (af 7) "read_map" cg dg
 t_8:Tx K mg (af 8) "read_rooms" cf df
 t_9:Tx K mg (af 9) "read_street" cc de
 t_10:Tx K mg (af 10) "read_number" sG tF
 t_11:Tx K mg (af 11) "_law_box" sF tE
 t_12:Tx K mg (af 12) "_law_take" sE tD
 t_13:Tx K mg (af 13) "_law_colours" sD tB
 t_14:Tx K mg (af 14) "_law_word" sC sZ
 t_15:Tx K mg (af 15) "_law_near" sA sY
 t_16:Tx K mg (af 16) "_law_board" rZ sX
 t_17:Tx K mg (af 17) "_law_chart" rY sW
 t_18:Tx K mg (af 18) "_law_alike" rX sV
 t_19:Tx K mg (af 19) "_law_said" rW sU
 t_20:Tx K mg (af 20) "_law_great" rV sT
 t_21:Tx K mg (af 21) "_law_right" rT sS
 t_22:Tx K mg (af 22) "law" rS sR
 n_all:mg "all"=none
 n_bool:mg "bool"=none
 n_enumerate:mg "enumerate"=none
 n_int:mg "int"=none
 n_isinstance:mg "isinstance"=none
 n_len:mg "len"=none
 n_list:mg "list"=none
 n_max:mg "max"=none
 n_min:mg "min"=none
 n_range:mg "range"=none
 n_set:mg "set"=none
 n_sorted:mg "sorted"=none
 n_str:mg "str"=none
 n_tuple:mg "tuple"=none
 n_zip:mg "zip"=none
 v_NO_WORDS:∃t,mg "NO_WORDS"=⇑(.str #[[45].toArray] t)
 v_MOST_FIGURES:∃t,mg "MOST_FIGURES"=⇑(.int 3 t)
 j_NoBoard:Ix K (af 23) (af 24) (af 26) "NoBoard.__init__" "at" (eF (top 2)) ["self","at"]
 j_BadText:Ix K (af 25) (af 24) (af 27) "BadText.__init__" "row" (eF (top 3)) ["self","row"]
 g_NoBoard:mg "NoBoard"=⇑(.ref (af 23))
 g_WalkError:mg "WalkError"=⇑(.ref (af 24))
 g_BadText:mg "BadText"=⇑(.ref (af 25))
 k_NoBoard:W.nsIn K mainGlobals "NoBoard"=⇑⇑(.ref (af 23))
 k_WalkError:W.nsIn K mainGlobals "WalkError"=⇑⇑(.ref (af 24))
 e_WalkError:W.excIn K (af 24) eV hW=true
 m_NoBoard_NoBoard:W.mroIn K (af 23) (.ref (af 23))=⇑true
 k_BadText:W.nsIn K mainGlobals "BadText"=⇑⇑(.ref (af 25))
section
variable{P:Program}{w:World}{K:W.Frag}{mg:Str->Option Value}{base:Heap}{af:Nat->Addr}
def FX(T:Txt K mg af):fS P w K mg base af 1 0 dq (dB K yK 1):=Be T.t_0 IH λ_ _ _ _ _ _ B=>Al (Aw (Hd (by rfl) (by rfl) T.n_all Hg (Aa (Ep (vars:=["sign"]) rfl (by rfl) (Ay (by kernel_rfl)) rfl (DZ (fw 0)) (λ_ _ _=>BX 2) (λ_ _ _=>DO) (λ_ _ _=>KN (λ_ _=>DT) DP (λ_ _=>DT) DP (AQ (by rfl) ⋯) (fw 2) (AQ (by rfl) ⋯))) Ab)))
def IQ(T:Txt K mg af):fS P w K mg base af 1 4 dj (dB K aq 1):=Be T.t_4 IF λ_ _ _ _ _ _ B=>Al (Aw (Kw (Dt (fw 0)) (ES (AQ (by rfl) ⋯) (Aa (fw 0) Ab)) (KU (by rfl) T.v_NO_WORDS)))
def IM(T:Txt K mg af):fS P w K mg base af 1 6 dh (dB K ak 1):=Be T.t_6 DB λ_ _ _ _ _ _ F=>Ai (As (fw 0) (DY (by rfl) (Bh (Am 1 DB.nd) (Bh (Am 2 DB.nd) DR))))
  (Ai (ML (RD (i:=3) ⋯ (λj B=>GE DB.nd B rfl) rfl (by rfl) (by rfl) (vars:=["begin","colour","end"]) rfl (by rfl) (Ay (by kernel_rfl)) rfl (DZ (fw 2)) (λ_ _ _=>DY (by rfl) (Bh (BX 5) (Bh (BX 6) (Bh (BX 7) DR)))) (λ_ _ _=>DO) (λ_ _ _=>JW (.vl (fw 5) (.tx rfl (.vl (fw 6) (.tx rfl (.vl (fw 7) .nil))))))))
  (Al (Aw (ES (AQ (by rfl) ⋯) (Aa (AH (Cr (Aa (JW (.tx rfl (.vl (fw 1) .nil))) Ab)) (fw 3)) Ab)))))
def Df(T:Txt K mg af):fS P w K mg base af 1 10 tF (dB K lD 1):=Be T.t_10 FD λ_ _ _ _ _ _ B=>Ai (Bg (CG (Dr (DV (HN (λ_ _=>DT) DP (λ_ _=>DT) DP Ad (Bf (by rfl) T.n_len (Aa (fw 0) Ab)) (Qb (by rfl) T.v_MOST_FIGURES))) (Dx (DV (Dt (Hd (by rfl) (by rfl) T.n_all Hg (Aa (Ep (vars:=["sign"]) rfl (by rfl) (Ay (by kernel_rfl)) rfl (DZ (fw 0)) (λ_ _ _=>BX 2) (λ_ _ _=>DO) (λ_ _ _=>KN (λ_ _=>DT) DP (λ_ _=>DT) DP (AQ (by rfl) ⋯) (fw 2) (AQ (by rfl) ⋯))) Ab))))))) (Al (Aw CJ)) Bw)
  (Ai (Bg (CG (Gr (AO (λ_ _=>EJ) ER (Bf (by rfl) T.n_len (Aa (fw 0) Ab)) Ad (Ac _)) (Hs (AO (λ_ _=>Er (Ed B)) Es (AG (fw 0) Ad) (AQ (by rfl) ⋯) (Ac _))))) (Al (Aw CJ)) Bw)
  (Al (Aw (Pf (by rfl) T.n_int DX (Aa (fw 0) Ab)))))
def FV(T:Txt K mg af):fS P w K mg base af 1 11 tE (dB K rG 2):=Be T.t_11 BG λ_ _ _ _ _ _ B=>Ai (As (AH (CO Ad (fw 1)) Ad) (Am 2 BG.nd))
  (Ai (Bg (AO (λ_ _=>Hq) HI (fw 1) (Bf (by rfl) T.n_len (Aa (fw 0) Ab)) (Ac _)) (Al (As (AG (fw 0) (fw 1)) (Am 2 BG.nd))) (Al (Bg (AO (λ_ _=>EJ) ER (Bf (by rfl) T.n_len (Aa (fw 0) Ab)) Ad (Ac _)) (Al (As (AH (fw 2) (CO (DU (AG (fw 0) (DU (fw 1) (Bf (by rfl) T.n_len (Aa (fw 0) Ab)))) Ad) Ad)) (Am 2 BG.nd))) Bw)))
  (Ai (As (AH (DU (AH (CO (DU (fw 2) Ad) Ad) (CO Ad (fw 1))) Ad) Ad) (Am 3 BG.nd))
  (Al (Aw (Cr (Aa (AG (Cr (Aa Ad (Aa (fw 2) Ab))) (Fi (by rfl) T.n_int DX (Aa (DS (λ_ _=>NC) Pi (fw 2) (Nh Ad Ad) (Ac _)) Ab))) (Aa (fw 3) Ab)))))))
def Ah(T:Txt K mg af):fS P w K mg base af 1 12 tD (dB K bR 2):=Be T.t_12 CZ λ_ _ _ _ _ _ B=>Ai (Bg (AO (λ_ _=>EJ) ER (AG (fw 0) Ad) Ad (Ac _)) (Ai (As (DU (AG (fw 0) Ad) (fw 1)) (Am 2 CZ.nd))
  (Ai (Lj (j:=0) (fw 0) Ad (JY (AG (fw 0) Ad) (fw 1)))
  (Al (Aw (fw 2))))) Bw)
  (Ai (As (DU (CO (AG (fw 0) Ad) Ad) Ad) (Am 3 CZ.nd))
  (Ai (Lj (j:=0) (fw 0) Ad (AH (DU (AH (CO (fw 3) Ad) Ad) Ad) Ad))
  (Al (Aw (DU (JY (AH (CO (fw 3) Ad) (AG (fw 0) Ad)) Ad) (fw 1))))))
def Ck(T:Txt K mg af):fS P w K mg base af 1 18 sV (dB K kK 2):=Be T.t_18 Cg λ_ _ _ _ _ _ B=>Ai (As (Cr (Aa (Ds (Aa (fw 0) (Aa (fw 1) Ab))) Ab)) (Am 2 Cg.nd))
  (Ai (Lh (AO (λ_ _=>EJ) ER (Bf (by rfl) T.n_len (Aa (fw 2) Ab)) Ad (Ac _)) (Ai (As (On (j:=2) (fw 2)) (DY (by rfl) (Bh (Am 3 Cg.nd) (Bh (Am 4 Cg.nd) DR))))
  (Al (Bg (Dt (Eo (by rfl) T.n_isinstance Eu (by rfl) T.n_tuple Ea ⋯ (fw 4))) (Ai (Bg (CG (Dr (DV (Dt (Eo (by rfl) T.n_isinstance Eu (by rfl) T.n_tuple Ea ⋯ (fw 3)))) (Dx (AO (λ_ _=>CL (CK B)) CN (Bf (by rfl) T.n_len (Aa (fw 3) Ab)) (Bf (by rfl) T.n_len (Aa (fw 4) Ab)) (Ac _))))) (Al (Aw En)) Bw)
  (Al (Dw (SO (j:=2) (fw 2) (QW (by rfl) (by rfl) T.n_list Km (by rfl) T.n_zip Nb (fw 3) (fw 4)))))) (Al (Bg (CG (Dr (AO (λ_ _=>CL (CK B)) CN (Eo (by rfl) T.n_isinstance Eu (by rfl) T.n_bool Kc ⋯ (fw 3)) (Eo (by rfl) T.n_isinstance Eu (by rfl) T.n_bool Kc ⋯ (fw 4)) (Ac _)) (Dx (AO (λ_ _=>CL (CK B)) CN (Eo (by rfl) T.n_isinstance Eu (by rfl) T.n_int DX ⋯ (fw 3)) (Eo (by rfl) T.n_isinstance Eu (by rfl) T.n_int DX ⋯ (fw 4)) (Ac _))))) (Al (Aw En)) (Al (Bg (CG (Dr (Dt (Eo (by rfl) T.n_isinstance Eu (by rfl) T.n_tuple Ea ⋯ (fw 3))) (Dx (AO (λ_ _=>CL (CK B)) CN (fw 3) (fw 4) (Ac _))))) (Al (Aw En)) Bw))))))))
  (Al (Aw En)))
def FN(T:Txt K mg af):fS P w K mg base af 1 19 sU (dB K rB 1):=Be T.t_19 Ee λ_ _ _ _ _ _ B=>Ai (As (CI (Cr (Aa (AH (AQ (by rfl) ⋯) (Hz (by rfl) T.n_str Ho (Aa (AG (fw 0) Ad) Ab))) Ab))) (Am 1 Ee.nd))
  (Al (Aw (ES (AQ (by rfl) ⋯) (Aa (AH (fw 1) (Ep (vars:=["_law_x","_law_colour","_law_y"]) rfl (by rfl) (Ay (by kernel_rfl)) rfl (DZ (AG (fw 0) Ad)) (λ_ _ _=>DY (by rfl) (Bh (BX 3) (Bh (BX 4) (Bh (BX 5) DR)))) (λ_ _ _=>DO) (λ_ _ _=>AH (AH (AH (AH (Hz (by rfl) T.n_str Ho (Aa (fw 3) Ab)) (AQ (by rfl) ⋯)) (fw 4)) (AQ (by rfl) ⋯)) (Hz (by rfl) T.n_str Ho (Aa (fw 5) Ab))))) Ab))))
def IT(T:Txt K mg af):fS P w K mg base af 2 1 dn (dB K av 1):=Be T.t_1 IG λ_ _ _ _ _ _ B=>Al (Aw (JB (DS (λ_ _=>Er (Ed B)) Es (Bf (by rfl) T.n_len (Aa (fw 0) Ab)) Ad (Ac _)) (Hm (Aq [true] T.t_0 (FX T) B (Aa (fw 0) Ab)))))
def IK(T:Txt K mg af):fS P w K mg base af 2 8 df (dB K ai 1):=Be T.t_8 EF λ_ _ _ _ _ _ B=>Ai (As (GB (fw 0) (Aa (AQ (by rfl) ⋯) Ab)) (Am 1 EF.nd))
  (Ai (Bg (CG (Dr (AO (λ_ _=>CL (CK B)) CN (Bf (by rfl) T.n_len (Aa (fw 1) Ab)) Ad (Ac _)) (Dx (AO (λ_ _=>CL (CK B)) CN (AG (fw 1) Ad) (AQ (by rfl) ⋯) (Ac _))))) (Al (Aw CJ)) Bw)
  (Ai (As (CI (Aq [true] T.t_10 (Df T) B (Aa (AG (fw 1) Ad) Ab))) (Am 2 EF.nd))
  (Al (Aw (Kw (AO (λ_ _=>Er (Ed B)) Es (fw 2) Ad (Ac _)) CJ (fw 2))))))
def IJ(T:Txt K mg af):fS P w K mg base af 2 9 de (dB K ah 1):=Be T.t_9 EE λ_ _ _ _ _ _ B=>Ai (As (GB (fw 0) (Aa (AQ (by rfl) ⋯) Ab)) (Am 1 EE.nd))
  (Ai (Bg (AO (λ_ _=>CL (CK B)) CN (Bf (by rfl) T.n_len (Aa (fw 1) Ab)) Ad (Ac _)) (Al (Aw CJ)) Bw)
  (Ai (Jt (i:=2) (j:=3) (by rfl) EE.nd (by rfl) (by rfl) ⋯ ⋯ ⋯ (by rfl) (by rfl) (Aa (Aq [true] T.t_10 (Df T) B (Aa (AG (fw 1) Ad) Ab)) (Aa (Aq [true] T.t_10 (Df T) B (Aa (AG (fw 1) Ad) Ab)) Ab)))
  (Ai (Bg (CG (Dr (AO (λ_ _=>Fg) Fo (fw 2) CJ (Ac _)) (Dx (AO (λ_ _=>Fg) Fo (fw 3) CJ (Ac _))))) (Al (Aw CJ)) Bw)
  (Al (Aw (Ds (Aa (fw 2) (Aa (AG (fw 1) Ad) (Aa (fw 3) Ab)))))))))
def FU(T:Txt K mg af):fS P w K mg base af 2 13 tB (dB K rF 2):=Be T.t_13 Eg λ_ _ _ _ _ _ B=>Ai (As (Qt (by rfl) (by rfl) T.n_list Km (Aa (AQ (by rfl) ⋯) Ab)) (Am 2 Eg.nd))
  (Al (Aw (ES (AQ (by rfl) ⋯) (Aa (Ky B (by rfl) T.n_sorted Ln (Aa (Ep (vars:=["_law_k"]) rfl (by rfl) (Ay (by kernel_rfl)) rfl (Ey (by rfl) T.n_range (fw 1)) (λ_ _ _=>BX 4) (λ_ _ _=>DO) (λ_ _ _=>CI (KI (j:=2) (fw 2) (Aq [true,true] T.t_12 (Ah T) B (Aa (fw 0) (Aa (Bf (by rfl) T.n_len (Aa (fw 2) Ab)) Ab)))))) Ab)) Ab))))
def Eh(T:Txt K mg af):fS P w K mg base af 2 14 sZ (dB K nC 3):=Be T.t_14 Ef λ_ _ _ _ _ _ B=>Ai (As (CO (Aq [true,true] T.t_12 (Ah T) B (Aa (fw 0) (Aa (AH (fw 2) Ad) Ab))) (Fi (by rfl) T.n_int DX (Aa (DS (λ_ _=>CL (CK B)) CN (fw 1) (AQ (by rfl) ⋯) (Ac _)) Ab))) (Am 3 Ef.nd))
  (Al (Aw (ES (AQ (by rfl) ⋯) (Aa (Ep (vars:=["_law_k"]) rfl (by rfl) (Ay (by kernel_rfl)) rfl (Ey (by rfl) T.n_range (fw 3)) (λ_ _ _=>BX 5) (λ_ _ _=>DO) (λ_ _ _=>AG (fw 1) (Aq [true,true] T.t_12 (Ah T) B (Aa (fw 0) (Aa (Bf (by rfl) T.n_len (Aa (fw 1) Ab)) Ab))))) Ab))))
def FR(T:Txt K mg af):fS P w K mg base af 2 15 sY (dB K rE 3):=Be T.t_15 BF λ_ _ _ _ _ _ B=>Ai (As (AG (fw 2) (Aq [true,true] T.t_12 (Ah T) B (Aa (fw 0) (Aa (Bf (by rfl) T.n_len (Aa (fw 2) Ab)) Ab)))) (Am 3 BF.nd))
  (Ai (As (Aq [true,true] T.t_12 (Ah T) B (Aa (fw 0) (Aa Ad Ab))) (Am 4 BF.nd))
  (Ai (As (AG (fw 1) (Aq [true,true] T.t_12 (Ah T) B (Aa (fw 0) (Aa (Bf (by rfl) T.n_len (Aa (fw 1) Ab)) Ab)))) (Am 5 BF.nd))
  (Ai (As (Aq [true,true] T.t_12 (Ah T) B (Aa (fw 0) (Aa (Bf (by rfl) T.n_len (Aa (fw 3) Ab)) Ab))) (Am 6 BF.nd))
  (Al (Aw (AG (Cr (Aa (Hk (fw 3) (AH (fw 6) Ad)) (Aa (Jo (fw 3) (fw 6)) (Aa (AH (fw 5) (fw 3)) (Aa (AH (fw 3) (fw 5)) (Aa (AH (fw 3) (fw 3)) Ab)))))) (fw 4)))))))
def FO(T:Txt K mg af):fS P w K mg base af 2 17 sW (dB K rC 5):=Be T.t_17 AE λ_ _ _ _ _ _ B=>Ai (As (AH Ad (Aq [true,true] T.t_12 (Ah T) B (Aa (fw 0) (Aa (fw 3) Ab)))) (Am 5 AE.nd))
  (Ai (As (Cr Ab) (Am 6 AE.nd))
  (Ai (DW (by rfl) (Ey (by rfl) T.n_range (Aq [true,true] T.t_12 (Ah T) B (Aa (fw 0) (Aa Ad Ab)))) (Am 7 AE.nd) (Ai (As (Aq [true,true] T.t_12 (Ah T) B (Aa (fw 0) (Aa (fw 5) Ab))) (Am 8 AE.nd))
  (Al (DW (by rfl) (DZ (fw 2)) (Am 9 AE.nd) (Ai (As (Aq [true,true] T.t_12 (Ah T) B (Aa (fw 0) (Aa (fw 5) Ab))) (Am 10 AE.nd))
  (Ai (Dw (ET (j:=6) (fw 6) (Ds (Aa (fw 8) (Aa (fw 9) (Aa (fw 10) Ab))))))
  (Al (As (fw 10) (Am 8 AE.nd)))))))))
  (Ai (DW (by rfl) (Ey (by rfl) T.n_range (CO (Aq [true,true] T.t_12 (Ah T) B (Aa (fw 0) (Aa (AH (fw 4) Ad) Ab))) (Fi (by rfl) T.n_int DX (Aa (DS (λ_ _=>CL (CK B)) CN (fw 1) (AQ (by rfl) ⋯) (Ac _)) Ab)))) (Am 11 AE.nd) (Ai (Jt (i:=8) (j:=10) (by rfl) AE.nd (by rfl) (by rfl) ⋯ ⋯ ⋯ (by rfl) (by rfl) (Aa (Aq [true,true] T.t_12 (Ah T) B (Aa (fw 0) (Aa (fw 5) Ab))) (Aa (Aq [true,true] T.t_12 (Ah T) B (Aa (fw 0) (Aa (fw 5) Ab))) Ab)))
  (Al (Dw (ET (j:=6) (fw 6) (Ds (Aa (fw 8) (Aa (AG (fw 1) (Aq [true,true] T.t_12 (Ah T) B (Aa (fw 0) (Aa (Bf (by rfl) T.n_len (Aa (fw 1) Ab)) Ab)))) (Aa (fw 10) Ab)))))))))
  (Ai (Lh (AO (λ_ _=>EJ) ER (OV (by rfl) T.n_len (Aa (JL B (by rfl) T.n_set Hh (Aa (fw 6) Ab)) Ab)) (fw 4) (Ac _)) (Al (Dw (KI (j:=6) (fw 6) (Aq [true,true] T.t_12 (Ah T) B (Aa (fw 0) (Aa (Bf (by rfl) T.n_len (Aa (fw 6) Ab)) Ab)))))))
  (Al (Aw (Ds (Aa (fw 5) (Aa (Ft (by rfl) T.n_tuple Ea (Aa (Ky B (by rfl) T.n_sorted Ln (Aa (JL B (by rfl) T.n_set Hh (Aa (fw 6) Ab)) Ab)) Ab)) Ab)))))))))
def FM(T:Txt K mg af):fS P w K mg base af 2 20 sT (dB K rA 2):=Be T.t_20 Cf λ_ _ _ _ _ _ B=>Ai (Bg (AO (λ_ _=>EJ) ER (Aq [true,true] T.t_12 (Ah T) B (Aa (fw 0) (Aa Ad Ab))) Ad (Ac _)) (Al (Aw (fw 1))) Bw)
  (Ai (As (Cr (Aa (Aq [true,true] T.t_12 (Ah T) B (Aa (fw 0) (Aa Ad Ab))) Ab)) (Am 2 Cf.nd))
  (Ai (DW (by rfl) (Ey (by rfl) T.n_range (AG (fw 1) Ad)) (Am 3 Cf.nd) (Al (Dw (ET (j:=2) (fw 2) (AH (AH (AG (fw 2) (Jj Ad)) Ad) (Aq [true,true] T.t_12 (Ah T) B (Aa (fw 0) (Aa Ad Ab))))))))
  (Ai (As (Ft (by rfl) T.n_tuple Ea (Aa (Ep (vars:=["_law_x","_law_colour","_law_y"]) rfl (by rfl) (Ay (by kernel_rfl)) rfl (DZ (AG (fw 1) Ad)) (λ_ _ _=>DY (by rfl) (Bh (BX 6) (Bh (BX 7) (Bh (BX 8) DR)))) (λ_ _ _=>DO) (λ_ _ _=>Ds (Aa (AG (fw 2) (fw 6)) (Aa (fw 7) (Aa (AG (fw 2) (fw 8)) Ab))))) Ab)) (Am 4 Cf.nd))
  (Al (Aw (Ds (Aa (AG (Cr (Aa (AH (AG (fw 2) (Jj Ad)) Ad) (Aa Ad Ab))) (Aq [true,true] T.t_12 (Ah T) B (Aa (fw 0) (Aa Ad Ab)))) (Aa (fw 4) Ab))))))))
def IS(T:Txt K mg af):fS P w K mg base af 3 2 dm (dB K au 1):=Be T.t_2 DE λ_ _ _ _ _ _ B=>Ai (As (Oi (by rfl) T.n_set) (Am 1 DE.nd))
  (Ai (DW (by rfl) (Oe (by rfl) (by rfl) T.n_enumerate UK (fw 0)) (DY (by rfl) (Bh (Am 2 DE.nd) (Bh (Am 3 DE.nd) DR))) (Ai (Bg (CG (Dr (AO (λ_ _=>Er (Ed B)) Es (fw 3) (AQ (by rfl) ⋯) (Ac _)) (Dr (DV (Dt (Aq [true] T.t_0 (FX T) B (Aa (fw 3) Ab)))) (Dx (AO (λ_ _=>QP) Tf (fw 3) (fw 1) (by with_unfolding_all rfl)))))) (Al (Ia (by decide+kernel) T.j_NoBoard.e (Hr T.j_NoBoard.F UA rfl) T.j_NoBoard.b T.g_NoBoard (Gj (by decide+kernel) T.k_NoBoard) B (fw 2))) Bw)
  (Al (Dw (Ob (j:=1) (Mv B) (fw 1) (fw 3))))))
  (Al (Aw En)))
def IR(T:Txt K mg af):fS P w K mg base af 3 3 dk (dB K ar 3):=Be T.t_3 DC λ_ _ _ _ _ _ B=>Ai (As (fw 2) (DY (by rfl) (Bh (Am 3 DC.nd) (Bh (Am 4 DC.nd) (Bh (Am 5 DC.nd) DR)))))
  (Ai (Bg (DV (CG (Gr (HN (λ_ _=>DT) DP (λ_ _=>Hq) HI Ad (fw 3) (fw 0)) (Gr (HN (λ_ _=>DT) DP (λ_ _=>Hq) HI Ad (fw 5) (fw 0)) (Hs (Dt (Aq [true] T.t_1 (IT T) B (Aa (fw 4) Ab)))))))) (Al (Aw En)) Bw)
  (Al (Aw (MB (DS (λ_ _=>Fg) Fo (fw 1) CJ (Ac _)) (Hm (DS (λ_ _=>OS false (Ed B)) So (fw 1) (fw 2) (Ac _)))))))
def FQ(T:Txt K mg af):fS P w K mg base af 3 16 sX (dB K rD 4):=Be T.t_16 BE λ_ _ _ _ _ _ B=>Ai (As (Cr Ab) (Am 4 BE.nd))
  (Ai (DW (by rfl) (Ey (by rfl) T.n_range (CO (Aq [true,true] T.t_12 (Ah T) B (Aa (fw 0) (Aa (AH (fw 2) Ad) Ab))) (Fi (by rfl) T.n_int DX (Aa (DS (λ_ _=>CL (CK B)) CN (fw 1) (AQ (by rfl) ⋯) (Ac _)) Ab)))) (Am 5 BE.nd) (Ai (As (AH (AG (fw 1) (Aq [true,true] T.t_12 (Ah T) B (Aa (fw 0) (Aa (Bf (by rfl) T.n_len (Aa (fw 1) Ab)) Ab)))) (Aq [true,true,true] T.t_14 (Eh T) B (Aa (fw 0) (Aa (fw 1) (Aa (Nv (fw 3) Ad) Ab))))) (Am 6 BE.nd))
  (Ai (Bg (CG (Gr (AO (λ_ _=>CL (CK B)) CN (fw 4) (Cr Ab) (Ac _)) (Hs (AO (λ_ _=>Er (Ed B)) Es (Aq [true,true] T.t_12 (Ah T) B (Aa (fw 0) (Aa Ad Ab))) Ad (Ac _))))) (Al (As (Hk (Aq [true,true,true] T.t_15 (FR T) B (Aa (fw 0) (Aa (fw 1) (Aa (fw 4) Ab)))) (fw 3)) (Am 6 BE.nd))) Bw)
  (Al (Bg (AO (λ_ _=>SS (CK B)) Um (fw 6) (fw 4) (by with_unfolding_all rfl)) (Al (Dw (ET (j:=4) (fw 4) (fw 6)))) Bw)))))
  (Al (Aw (Ft (by rfl) T.n_tuple Ea (Aa (fw 4) Ab)))))
def IP(T:Txt K mg af):fS P w K mg base af 4 5 di (dB K ao 1):=Be T.t_5 FC λ_ _ _ _ _ _ B=>Ai (Bg (AO (λ_ _=>Er (Ed B)) Es (fw 0) (KU (by rfl) T.v_NO_WORDS) (Ac _)) (Al (Aw (Ds Ab))) Bw)
  (Ai (As (Ft (by rfl) T.n_tuple Ea (Aa (GB (fw 0) (Aa (AQ (by rfl) ⋯) Ab)) Ab)) (Am 1 FC.nd))
  (Ai (Pw T.g_NoBoard T.j_NoBoard.e.ck (Uz (Gj (by decide+kernel) T.k_NoBoard) T.j_NoBoard.e.ck T.m_NoBoard_NoBoard Tc) (Al (Dw (Aq [true] T.t_2 (IS T) B (Aa (fw 1) Ab)))) (λ_=>Al Rp))
  (Al (Aw (fw 1)))))
def IL(T:Txt K mg af):fS P w K mg base af 4 7 dg (dB K aj 1):=Be T.t_7 BD λ_ _ _ _ _ _ B=>Ai (As (GB (fw 0) (Aa (AQ (by rfl) ⋯) Ab)) (Am 1 BD.nd))
  (Ai (As (CI (Aq [true] T.t_8 (IK T) B (Aa (AG (fw 1) Ad) Ab))) (Am 2 BD.nd))
  (Ai (Bg (AO (λ_ _=>Fg) Fo (fw 2) CJ (Ac _)) (Al (Ia (by decide+kernel) T.j_BadText.e (Hr T.j_BadText.F Ma rfl) T.j_BadText.b T.g_BadText (Gj (by decide+kernel) T.k_BadText) B Ad)) Bw)
  (Ai (As (Cr Ab) (Am 3 BD.nd))
  (Ai (As CJ (Am 4 BD.nd))
  (Ai (DW (by rfl) (DZ (Jo (fw 1) Ad)) (Am 5 BD.nd) (Ai (As (CI (Aq [true] T.t_9 (IJ T) B (Aa (fw 5) Ab))) (Am 6 BD.nd))
  (Ai (Bg (CG (Dr (AO (λ_ _=>Fg) Fo (fw 6) CJ (Ac _)) (Dx (DV (Dt (Aq [true,true,true] T.t_3 (IR T) B (Aa (fw 2) (Aa (fw 4) (Aa (fw 6) Ab))))))))) (Al (Ia (by decide+kernel) T.j_BadText.e (Hr T.j_BadText.F Ma rfl) T.j_BadText.b T.g_BadText (Gj (by decide+kernel) T.k_BadText) B (AH (Bf (by rfl) T.n_len (Aa (fw 3) Ab)) Ad))) Bw)
  (Ai (Dw (ET (j:=3) (fw 3) (fw 6)))
  (Al (As (fw 6) (Am 4 BD.nd)))))))
  (Al (Aw (Ds (Aa (fw 2) (Aa (Ft (by rfl) T.n_tuple Ea (Aa (fw 3) Ab)) Ab))))))))))
def FK(T:Txt K mg af):fS P w K mg base af 5 21 sS (dB K qN 2):=Be T.t_21 CY λ_ _ _ _ _ _ B=>Ai (As (AH (ES (AQ (by rfl) ⋯) (Aa (fw 0) Ab)) (CO (AQ (by rfl) ⋯) (Fi (by rfl) T.n_int DX (Aa (DS (λ_ _=>Er (Ed B)) Es (Bf (by rfl) T.n_len (Aa (fw 0) Ab)) Ad (Ac _)) Ab)))) (Am 2 CY.nd))
  (Ai (Bg (CG (Dr (DV (Dt (Aq [true,true] T.t_18 (Ck T) B (Aa (CI (Aq [true] T.t_4 (IQ T) B (Aa (fw 0) Ab))) (Aa (fw 2) Ab))))) (Dx (DV (Dt (Aq [true,true] T.t_18 (Ck T) B (Aa (CI (Aq [true] T.t_5 (IP T) B (Aa (fw 2) Ab))) (Aa (fw 0) Ab)))))))) (Al (Aw En)) Bw)
  (Ai (As (CI (Aq [true] T.t_19 (FN T) B (Aa (fw 1) Ab))) (Am 2 CY.nd))
  (Al (Aw (JB (Aq [true,true] T.t_18 (Ck T) B (Aa (CI (Aq [true] T.t_6 (IM T) B (Aa (fw 1) Ab))) (Aa (fw 2) Ab))) (Hm (Aq [true,true] T.t_18 (Ck T) B (Aa (CI (Aq [true] T.t_7 (IL T) B (Aa (fw 2) Ab))) (Aa (fw 1) Ab)))))))))
def FH(T:Txt K mg af):fS P w K mg base af 6 22 sR (dB K lC 1):=Be T.t_22 Bo λ_ _ _ _ _ _ B=>Ai (As (Cr Ab) (Am 1 Bo.nd))
  (Ai (DW (by rfl) (Ey (by rfl) T.n_range (Nz (by rfl) (by rfl) T.n_max MV (Aa Ad (Aa (Ot (by rfl) (by rfl) T.n_min Ov (Aa Ad (Aa (Bf (by rfl) T.n_len (Aa (fw 0) Ab)) Ab))) Ab)))) (Am 2 Bo.nd) (Ai (As (Aq [true,true] T.t_11 (FV T) B (Aa (fw 0) (Aa (fw 2) Ab))) (Am 3 Bo.nd))
  (Ai (As (Aq [true,true] T.t_13 (FU T) B (Aa (fw 3) (Aa (AH Ad (Aq [true,true] T.t_12 (Ah T) B (Aa (fw 3) (Aa Ad Ab)))) Ab))) (Am 4 Bo.nd))
  (Ai (As (CI (Aq [true,true,true,true,true] T.t_17 (FO T) B (Aa (fw 3) (Aa (fw 4) (Aa (Aq [true,true,true] T.t_14 (Eh T) B (Aa (fw 3) (Aa (fw 4) (Aa Ad Ab)))) (Aa Ad (Aa Ad Ab))))))) (Am 5 Bo.nd))
  (Al (Dw (ET (j:=1) (fw 1) (Ds (Aa (Aq [true,true,true,true] T.t_16 (FQ T) B (Aa (fw 3) (Aa (fw 4) (Aa Ad (Aa Ad Ab))))) (Aa (Aq [true,true] T.t_20 (FM T) B (Aa (fw 3) (Aa (fw 5) Ab))) Ab))))))))))
  (Al (Aw (Hd (by rfl) (by rfl) T.n_all Hg (Aa (Ep (vars:=["_law_board_here","_law_chart_here"]) rfl (by rfl) (Ay (by kernel_rfl)) rfl (DZ (AH (fw 1) (Hk (fw 1) Ad))) (λ_ _ _=>DY (by rfl) (Bh (BX 7) (Bh (BX 8) DR))) (λ_ _ _=>DO) (λ_ _ _=>CI (Aq [true,true] T.t_21 (FK T) B (Aa (fw 7) (Aa (fw 8) Ab))))) Ab)))))
end
theorem all_mk{l:W.OpenLaw}{w:World}{K:W.Frag}{h:Heap}{mg:Str->Option Value}{fa:Addr}(X:K.In h)(G:h.Ns mainGlobals mg)(hfa:mg "law"=⇑(.ref fa))
  {f_0 f_1 f_2 f_3 f_4 f_5 f_6 f_7 f_8 f_9 f_10 f_11 f_12 f_13 f_14 f_15 f_16 f_17 f_18 f_19 f_20 f_21 f_22:Addr}
  (h_0:Lk K "is_word" cw f_0)
  (h_1:Lk K "is_colour" cv f_1)
  (h_2:Lk K "look_board" cu f_2)
  (h_3:Lk K "may_follow" cq f_3)
  (h_4:Lk K "show_board" cp f_4)
  (h_5:Lk K "read_board" cn f_5)
  (h_6:Lk K "show_map" cj f_6)
  (h_7:Lk K "read_map" cg f_7)
  (h_8:Lk K "read_rooms" cf f_8)
  (h_9:Lk K "read_street" cc f_9)
  (h_10:Lk K "read_number" sG f_10)
  (h_11:Lk K "_law_box" sF f_11)
  (h_12:Lk K "_law_take" sE f_12)
  (h_13:Lk K "_law_colours" sD f_13)
  (h_14:Lk K "_law_word" sC f_14)
  (h_15:Lk K "_law_near" sA f_15)
  (h_16:Lk K "_law_board" rZ f_16)
  (h_17:Lk K "_law_chart" rY f_17)
  (h_18:Lk K "_law_alike" rX f_18)
  (h_19:Lk K "_law_said" rW f_19)
  (h_20:Lk K "_law_great" rV f_20)
  (h_21:Lk K "_law_right" rT f_21)
  (h_22:Lk K "law" rS f_22)
  (z_all:W.nsIn K mainGlobals "all"=⇑none)
  (z_bool:W.nsIn K mainGlobals "bool"=⇑none)
  (z_enumerate:W.nsIn K mainGlobals "enumerate"=⇑none)
  (z_int:W.nsIn K mainGlobals "int"=⇑none)
  (z_isinstance:W.nsIn K mainGlobals "isinstance"=⇑none)
  (z_len:W.nsIn K mainGlobals "len"=⇑none)
  (z_list:W.nsIn K mainGlobals "list"=⇑none)
  (z_max:W.nsIn K mainGlobals "max"=⇑none)
  (z_min:W.nsIn K mainGlobals "min"=⇑none)
  (z_range:W.nsIn K mainGlobals "range"=⇑none)
  (z_set:W.nsIn K mainGlobals "set"=⇑none)
  (z_sorted:W.nsIn K mainGlobals "sorted"=⇑none)
  (z_str:W.nsIn K mainGlobals "str"=⇑none)
  (z_tuple:W.nsIn K mainGlobals "tuple"=⇑none)
  (z_zip:W.nsIn K mainGlobals "zip"=⇑none)
  {tk_NO_WORDS:Tok}(v_NO_WORDS:W.nsIn K mainGlobals "NO_WORDS"=⇑⇑(.str #[[45].toArray] tk_NO_WORDS))
  {tk_MOST_FIGURES:Tok}(v_MOST_FIGURES:W.nsIn K mainGlobals "MOST_FIGURES"=⇑⇑(.int 3 tk_MOST_FIGURES))
  {C_NoBoard C_WalkError C_BadText C_i_NoBoard C_i_BadText:Addr}
  (j_NoBoard:Ci K C_NoBoard C_WalkError C_i_NoBoard "NoBoard.__init__" "at" (eF (top 2)))
  (j_BadText:Ci K C_BadText C_WalkError C_i_BadText "BadText.__init__" "row" (eF (top 3)))
  (k_NoBoard:W.nsIn K mainGlobals "NoBoard"=⇑⇑(.ref C_NoBoard))
  (k_WalkError:W.nsIn K mainGlobals "WalkError"=⇑⇑(.ref C_WalkError))
  (e_WalkError:W.excIn K C_WalkError eV hW=true)
  (m_NoBoard_NoBoard:W.mroIn K C_NoBoard (.ref C_NoBoard)=⇑true)
  (k_BadText:W.nsIn K mainGlobals "BadText"=⇑⇑(.ref C_BadText)):
  ∃fd:FuncData,(∀(s:Shared)(v:Value),BindsTo s fd #[[v],[]] [("_law_script",v)])/\∀base:Heap,K.In base->base.Ns mainGlobals mg->dH l.prog w K mg base (fU l.prog w) 6 fa fd ["_law_script"] (dB K lC 1):=by
 let e:=hfa.symm.trans (h_22.mm X G);cases e;let T:Txt K mg (λn=>[f_0,f_1,f_2,f_3,f_4,f_5,f_6,f_7,f_8,f_9,f_10,f_11,f_12,f_13,f_14,f_15,f_16,f_17,f_18,f_19,f_20,f_21,fa,C_NoBoard,C_WalkError,C_BadText,C_i_NoBoard,C_i_BadText].getD n 0):=#[h_0.tx X G,h_1.tx X G,h_2.tx X G,h_3.tx X G,h_4.tx X G,h_5.tx X G,h_6.tx X G,h_7.tx X G,h_8.tx X G,h_9.tx X G,h_10.tx X G,h_11.tx X G,h_12.tx X G,h_13.tx X G,h_14.tx X G,h_15.tx X G,h_16.tx X G,h_17.tx X G,h_18.tx X G,h_19.tx X G,h_20.tx X G,h_21.tx X G,h_22.tx X G,W.mg_none_of X G z_all,W.mg_none_of X G z_bool,W.mg_none_of X G z_enumerate,W.mg_none_of X G z_int,W.mg_none_of X G z_isinstance,W.mg_none_of X G z_len,W.mg_none_of X G z_list,W.mg_none_of X G z_max,W.mg_none_of X G z_min,W.mg_none_of X G z_range,W.mg_none_of X G z_set,W.mg_none_of X G z_sorted,W.mg_none_of X G z_str,W.mg_none_of X G z_tuple,W.mg_none_of X G z_zip,#[_,W.mg_of X G v_NO_WORDS],#[_,W.mg_of X G v_MOST_FIGURES],j_NoBoard.ix e_WalkError,j_BadText.ix e_WalkError,W.mg_of X G k_NoBoard,W.mg_of X G k_WalkError,W.mg_of X G k_BadText,k_NoBoard,k_WalkError,e_WalkError,m_NoBoard_NoBoard,k_BadText]
 show#[_,λs v=>h_22.bt s v,λbase _ _=>FH T]
theorem walk{l:W.OpenLaw}{q:Program}{B:List Str}{XP:(Str->Option Value)->Heap->Prop}{L:World->Heap->Prop}{d:DefRec}{K:Params->W.Frag}(hn:l.most=some 63)(G:d.params.defaults=[])
  (Y:∀(w:World)(h:Heap),L w h->(K w.params).In h)
  (F:∀(w:World)(mg:Str->Option Value)(J:Addr)(h:Heap),(K w.params).In h->h.Ns mainGlobals mg->mg d.name=⇑(.ref J)->
   ∃fd:FuncData,(∀(s:Shared)(u:Value),BindsTo s fd #[[u],[]] [("_law_script",u)])/\∀base:Heap,(K w.params).In base->base.Ns mainGlobals mg->dH l.prog w (K w.params) mg base (fU l.prog w) 6 J fd ["_law_script"] (dB (K w.params) lC 1)):
  W.WalkO q B XP L l.row.toRowW d [] (λf vs=>PySem.call f vs):=
 L2.walk_of (n:=63) (k:=6) (x:="_law_script") (CX:=λw=>fU l.prog w) (sp:=λw=>dB (K w.params) lC 1) hn ⋯ G #[rfl,⋯,⋯,rfl] Y F (λ_ H a M O _ hS=>Na Dc H a M O hS) λ_ _ _ _ _ h=>by let#[_,_,_,_,_,_,_,_,_,q,_]:=h;show q
end Law
end
end
open PySem PySem.W PyProof.Rows
namespace PySem.W.Fast
theorem tw6558243799455017520:True:=⟨⟩
theorem tw12283332034197642372:True:=⟨⟩
theorem tw7564528114203175125:True:=⟨⟩
theorem tw8461939817479025815:True:=⟨⟩
theorem tw1804355203806145754:True:=⟨⟩
theorem tw14850665538534190407:True:=⟨⟩
theorem tw14507609358192036822:True:=⟨⟩
theorem tw8645424965178262161:True:=⟨⟩
theorem tw2524516442153306625:True:=⟨⟩
theorem tw16754617732726588909:True:=⟨⟩
theorem tw13408697897307864632:True:=⟨⟩
theorem tw11826779846995971057:True:=⟨⟩
theorem tw6987159975678614740:True:=⟨⟩
theorem tw99722349994901471:True:=⟨⟩
theorem tw9227734939660216634:True:=⟨⟩
theorem tw17822614706213102739:True:=⟨⟩
theorem tw16964574068771077141:True:=⟨⟩
theorem tw14218504978788866951:True:=⟨⟩
theorem tw13645308263549251033:True:=⟨⟩
theorem tw8251126809820613639:True:=⟨⟩
theorem tw13802119105332652024:True:=⟨⟩
theorem tw3806612535384062326:True:=⟨⟩
theorem tw16960108740739849908:True:=⟨⟩
theorem tw17074198472095277420:True:=⟨⟩
theorem tw12113184714394159293:True:=⟨⟩
theorem tw15605614750015369316:True:=⟨⟩
theorem tw18157481413615437513:True:=⟨⟩
theorem tw5074197006061739964:True:=⟨⟩
theorem tw15654943728985424840:True:=⟨⟩
theorem tw6106964109293815466:True:=⟨⟩
theorem tw4567570906335929096:True:=⟨⟩
theorem tw13395681332954426263:True:=⟨⟩
theorem tw12611697060442584699:True:=⟨⟩
theorem tw6338104412959118009:True:=⟨⟩
theorem tw17132419559018673602:True:=⟨⟩
theorem tw13614024558233826277:True:=⟨⟩
theorem tw7189039197910565692:True:=⟨⟩
theorem tw3311444826548749203:True:=⟨⟩
theorem tw14436427792482145168:True:=⟨⟩
theorem tw15914309055863191278:True:=⟨⟩
theorem tw8437112156556981188:True:=⟨⟩
theorem tw2978529031806931282:True:=⟨⟩
theorem tw8414482146996870068:True:=⟨⟩
theorem tw17702071023690011315:True:=⟨⟩
theorem tw6490557901367354645:True:=⟨⟩
theorem tw12287392834634375197:True:=⟨⟩
theorem tw17982453173145850329:True:=⟨⟩
theorem tw4633161908572921288:True:=⟨⟩
theorem tw6474765190485887318:True:=⟨⟩
theorem tw8731830269689469995:True:=⟨⟩
theorem tw843980815142956904:True:=⟨⟩
theorem tw9290587181796955291:True:=⟨⟩
theorem tw4557405791142317103:True:=⟨⟩
theorem tw7726381212595704177:True:=⟨⟩
theorem tw4068481365173905591:True:=⟨⟩
theorem tw10469960704089152563:True:=⟨⟩
theorem tw4494090114135525556:True:=⟨⟩
theorem tw16280341415962692106:True:=⟨⟩
theorem tw3792206299687808924:True:=⟨⟩
theorem tw8753075121611289744:True:=⟨⟩
theorem tw6220424258131659981:True:=⟨⟩
theorem tw16810046047468115820:True:=⟨⟩
theorem tw12621005553893418915:True:=⟨⟩
theorem tw17501877771472349813:True:=⟨⟩
theorem tw13394555813478426254:True:=⟨⟩
theorem tw14220044531588762584:True:=⟨⟩
theorem tw17572296485233841260:True:=⟨⟩
theorem tw3087524784758366446:True:=⟨⟩
theorem tw238287184175421638:True:=⟨⟩
theorem tw13555317205819581709:True:=⟨⟩
theorem tw7831564572572885632:True:=⟨⟩
theorem tw1559310357272797338:True:=⟨⟩
theorem tw4054871076280235510:True:=⟨⟩
theorem tw18322642489782274497:True:=⟨⟩
theorem tw10090385055980254476:True:=⟨⟩
theorem tw7231057654872183812:True:=⟨⟩
theorem tw7306358361957998009:True:=⟨⟩
theorem tw11795872730759042931:True:=⟨⟩
theorem tw12868488103318274558:True:=⟨⟩
theorem tw3878227825857875632:True:=⟨⟩
theorem tw17639904339041386258:True:=⟨⟩
theorem tw9895756702172827309:True:=⟨⟩
theorem tw5557869603077646595:True:=⟨⟩
theorem tw16743298152439886725:True:=⟨⟩
theorem tw10511671103526942280:True:=⟨⟩
theorem tw18149657810076852416:True:=⟨⟩
theorem tw8474715480062187366:True:=⟨⟩
theorem tw12626536169694571301:True:=⟨⟩
theorem tw1391042905151462873:True:=⟨⟩
theorem tw3011413281714554407:True:=⟨⟩
theorem tw13306759064685505195:True:=⟨⟩
theorem tw12103472163202599101:True:=⟨⟩
theorem tw4071634073146089199:True:=⟨⟩
theorem tw4751438131634588713:True:=⟨⟩
theorem tw11889650365106219971:True:=⟨⟩
theorem tw2349977444531466719:True:=⟨⟩
theorem tw9710343435756860611:True:=⟨⟩
theorem tw5078318249293599928:True:=⟨⟩
theorem tw7881474283890409119:True:=⟨⟩
theorem tw12352093330464623019:True:=⟨⟩
theorem tw12735398739649159272:True:=⟨⟩
theorem tw3532787650591001089:True:=⟨⟩
theorem tw4129150036129250831:True:=⟨⟩
theorem tw268993343957077047:True:=⟨⟩
theorem tw14664516659492139465:True:=⟨⟩
theorem tw360239266988255725:True:=⟨⟩
theorem tw4727612144875151539:True:=⟨⟩
theorem tw10379613837672195350:True:=⟨⟩
theorem tw16509593353624896605:True:=⟨⟩
theorem tw2396020190200969497:True:=⟨⟩
theorem tw15427112316421740144:True:=⟨⟩
theorem tw7986117865161714682:True:=⟨⟩
theorem tw16630340802815095335:True:=⟨⟩
theorem tw2926664906283596626:True:=⟨⟩
theorem tw2407429850850206965:True:=⟨⟩
theorem tw11992306992658638016:True:=⟨⟩
theorem tw14092033350445211309:True:=⟨⟩
theorem tw12618250105850498524:True:=⟨⟩
theorem tw971914344797502605:True:=⟨⟩
theorem tw14273174389898805829:True:=⟨⟩
theorem tw16427894494504346079:True:=⟨⟩
theorem tw744677197494015609:True:=⟨⟩
theorem tw9815389161020515483:True:=⟨⟩
theorem tw2588128420519603610:True:=⟨⟩
theorem tw4758330696729419150:True:=⟨⟩
theorem tw2473987078368460256:True:=⟨⟩
theorem tw158025425917610263:True:=⟨⟩
theorem tw5664277239052138136:True:=⟨⟩
theorem tw17716420719471322956:True:=⟨⟩
theorem tw11134866276149179062:True:=⟨⟩
end PySem.W.Fast
set_option maxRecDepth 100000 in
set_option maxHeartbeats 0 in
theorem PySem.Challenge.cw_walktold_k04_texts_there_and_back_holds : PySem.Challenge.rw_walktold_k04_texts_there_and_back.Holds := by
 w_on; o_law; k_head; (case hw=>w_witness2)
 k_fill
 refine Law.walk (l:=PySem.Challenge.rw_walktold_k04_texts_there_and_back) rfl rfl (fun w h Y=>PySem.W.kIn_of Y) ?F
 case F=>
  intro w mg fa h KX G hmg
  refine' Law.all_mk KX G hmg ..
  all_goals try first | k_is | (refine' ⟨?_,?_,?_,?_⟩ <;> try k_is)
  all_goals try first | k_is | k_exc | kit_is | (refine' ⟨?_,?_,?_,?_,?_,?_,?_,?_⟩ <;> try k_is)
