import PyProof.Rows.All
import Wide.All
import OpenK.AllK
import Wide.FinOn
import PySem.Challenge.RW_walktold_k35_whole_behind_each_step
set_option Elab.async false
set_option linter.all false
set_option maxRecDepth 100000
set_option compiler.extract_closed false
set_option bootstrap.genMatcherCode false
open Array (getElem?_eq_getElem getElem?_toList getElem_extract getElem_mem_toList getElem_toList length_toList mem_toList_iff perm_iff_toList_perm size_extract toArray_toList toList_append toList_extract toList_push)
open Bool (and_eq_true false_eq_true or_eq_true)
open Int (mul_one ofNat_le toNat_natCast)
open List (all_cons all_eq_true any_cons any_eq_true append_assoc append_nil append_of_mem cons_append countP_cons drop_drop drop_eq_getElem_cons drop_of_length_le drop_zero ext_getElem? extract_eq_take_drop filterMap_cons filter_append filter_cons_of_pos findIdx?_eq_none_iff flatMap_append flatMap_def flatten_cons foldl_append foldl_cons getElem?_append_left getElem?_append_right getElem?_eq_none getElem?_map getElem?_range getElem?_set getElem?_set_ne getElem?_set_self getElem_mem getElem_of_mem isEmpty_nil length_append length_cons length_drop length_filter_le length_map length_nil length_pos_iff length_range length_set length_singleton length_take lookup_cons lt_asymm map_append map_congr_left map_cons map_eq_nil_iff map_id map_map map_nil map_set mem_append mem_cons mem_cons_self mem_filter mem_filterMap mem_flatMap mem_map mem_of_getElem? mem_of_mem_take mem_range mem_singleton nil_append nodup_append nodup_cons nodup_range of_mem_zip pairwise_append pairwise_cons pairwise_iff_getElem pairwise_lt_range pairwise_map perm_append_comm perm_middle range_succ reverse_perm set_comm size_toArray sum_cons take_add take_append_drop take_nil take_of_length_le)
open Nat (add_comm le_of_lt le_of_lt_succ le_refl le_succ le_trans lt_irrefl lt_of_le_of_lt lt_of_lt_of_le lt_or_ge lt_succ_of_lt lt_succ_self lt_trans lt_trichotomy min_eq_left min_eq_right min_le_right mod_lt mul_le_mul ne_of_gt ne_of_lt not_lt sub_le sub_self sub_zero succ_mul zero_add zero_le)
open Option (isSome_iff_exists isSome_map isSome_some map_eq_some_iff map_some toList_none)
def qa:=@PySem.wpAny_bind
def qb:=@PySem.wpAny_pure
def qc:=@PySem.Heap.get?_push_of_some
def qd:=@PySem.Heap.get?_push_size
def qe:=@PySem.Heap.lt_size
def qf.{u}:=@Option.some.inj.{u}
def qg.{u}:=@List.getElem?_eq_some_iff.{u}
def qh.{u}:=@List.getElem?_eq_getElem.{u}
def qi.{u}:=@List.mem_append_right.{u}
def qj.{u}:=@List.mem_append_left.{u}
def qk.{u}:=@List.mem_cons_of_mem.{u}
def qm.{u}:=@List.mem_cons_self.{u}
def qo:=@List.length_map
def qp:=@List.append_assoc
def qq:=@List.length_append
def qr:=@List.size_toArray
def qt:=@List.length_cons
def qv:=@List.mem_singleton
def qw:=@List.length_nil
def qx:=@List.nodup_append
def qy:=@List.mem_append
def qz:=@List.map_cons
def qA:=@List.append_nil
def qB:=@List.mem_cons
def qC:=@List.length_singleton
def qD:=@List.length_range
def qE:=@List.map_map
def qF:=@List.getElem?_map
def qG:=@List.length_drop
def qH:=@List.length_take
def qI:=@List.all_eq_true
def qJ:=@List.mem_range
def qK:=@List.mem_map
def qL:=@List.nodup_cons
def qM:=@List.mem_of_getElem?
def qN:=@List.perm_append_comm
def qO:=@List.cons_append
def qP:=@List.length_pos_iff
def qQ:=@List.getElem?_eq_none
def qR:=@decide_eq_true
def qS:=@decide_eq_false
def qT:=@decide_eq_true_eq
def qU:=@of_decide_eq_true
def qV:=@Array.length_toList
def qW:=@Int.toNat_natCast
def qX:=Bool.false_ne_true
def qY:=@Option.map_eq_some_iff
def qZ:=@Array.getElem?_toList
def q4:=@if_pos
def q5:=@if_neg
def q8:=@Nat.le_refl
def q9:=@PySem.Heap.get?_update_other
def za:=@PySem.Heap.get?_update_self
def zc:=@PySem.wpAny_newObj_type
def zd:=@PySem.wpAny_call_entry
def ze:=@PySem.sizeLine_eq
def zf:=@PySem.wpAny_holding
def zg:=@PySem.wpAny_of_eq
def zh:=@PySem.wpAny_mono
abbrev zj:=PySem.Value->PySem.Shared->Prop
theorem aZ8(h:1=1:=by rfl):True:=trivial
theorem aZ9(h:1=1:=by decide):True:=trivial
@[inline]def rZ9:=aZ8._auto_1
@[inline]def dZ9:=aZ9._auto_1
theorem cpsZ9{A:Prop}(h:∀G:Prop,(A->G)->G):A:=h A id
section
set_option hygiene false in
open Lean Parser.Tactic in
local macro_rules
|`($m:declModifiers def $i:declId $s:optDeclSig $v:declVal)=>do
 let a:=m.raw.getArgs
 if !a[4]!.isNone then Macro.throwUnsupported
 match i.raw[0].getId with
 |.str p n=>do
  let f(s:Syntax):=s.rewriteBottomUp (·.setInfo .none)
  let c:=mkNode ``Parser.Command.declaration
  let i:=f i
  let s:=f s
  let v:=f v
  if a[1]!.isNone&&(n.front.isUpper||!p.isAnonymous) then return c #[m,mkNode ``Parser.Command.theorem #[mkAtom "theorem",i,mkNode ``Parser.Command.declSig #[s[0],s[1][0]],v]] else return c #[m.raw.setArg 4 (mkNullNode #[mkNode ``Parser.Command.noncomputable #[mkAtom "noncomputable"]]),mkNode ``Parser.Command.definition #[mkAtom "def",i,s,v,mkNullNode]]
 |_=>Macro.throwUnsupported
|`(#[$x,*])=>if x.getElems.isEmpty then Macro.throwUnsupported else `(⟨$x,*⟩)
|`(∅)=>`((by lia))
|`(⋯)=>`((by decide))
|`(↑$x)=>`((by simpa using $x))
|`(tactic|lia)=>`(tactic|first|assumption|exact Nat.le_refl _|exact Nat.le_of_lt ‹_›|exact Nat.succ_pos _|exact Nat.not_lt.1 ‹_›|exact Nat.lt_of_lt_of_le ‹_› ‹_›|exact Nat.lt_of_le_of_lt ‹_› ‹_›|exact Nat.le_trans ‹_› ‹_›|exact Nat.lt_trans ‹_› ‹_›|exact Nat.ne_of_lt ‹_›|exact Nat.ne_of_gt ‹_›|exact Nat.lt_succ_of_le ‹_›|exact Nat.le_add_right _ _|exact Nat.sub_le _ _|exact Nat.le_of_lt_succ ‹_›|exact absurd ‹_› (Nat.not_lt_zero _)|exact absurd ‹_ < _› (Nat.not_lt.2 ‹_›)|exact Nat.lt_of_le_of_ne ‹_› ‹_›|exact Nat.pos_of_ne_zero ‹_›|exact Nat.le_trans ‹_› (Nat.le_add_right _ _)|exact Nat.le_trans (Nat.sub_le _ _) ‹_›|exact Int.le_of_lt ‹_›|exact Nat.sub_lt ‹_› Nat.one_pos|exact Nat.add_sub_of_le ‹_›|exact Nat.lt_add_of_pos_right ‹_›|exact Nat.lt_of_lt_of_eq ‹_› ‹_›|exact Nat.le_of_eq ‹_›|exact Nat.not_lt_of_le ‹_›|exact Nat.sub_pos_of_lt ‹_›|exact Nat.le_of_eq (Nat.add_sub_of_le ‹_›)|lia -verbose)
|`(tactic|show $e:term)=>`(tactic|first|refine $e|fail)
|`(tactic|let #[$x,*]:=$e)=>do
 let rec go:Nat->Syntax->MacroM (TSyntax ``rcasesPatLo)
  |n+1,t=>do match t with
   |`(#[$y,*])=>let z<-y.getElems.mapM (go n ·.raw);`(rcasesPatLo|⟨$[$z],*⟩)
   |`(_)=>`(rcasesPatLo|_)
   |_=>`(rcasesPatLo|$(⟨t⟩):ident)
  |_,_=>Macro.throwUnsupported
 let z<-x.getElems.mapM (go 9 ·.raw)
 if z.size>3 then `(tactic|(refine _root_.cpsZ9 fun gZ kZ=>?_;rcases $e:term with ⟨$[$z],*⟩;refine kZ ?_;clear kZ gZ)) else `(tactic|obtain ⟨$[$z],*⟩:=$e)
|`(tactic|let $d:letDecl)=>`(tactic|have $d:letDecl)
|`($n:quotedName)=>do
 let some e:=("a ( model X.prog X.w )|b ( model prog w )|c ( zp.refl F )|d ( aB X scope vars s H ex )|e ( wC ( .int 1 ) )|f ( t.probeStart ( knd.hash k ) )|g ( .ref s.heap.objs.size )|h ( starEach es X.env )|i ( .lst l )|j ( q8 _ )|k ( .ref D )|l ( .sh d )|m ( zk 0 )|n ( arrOf st )|o ( fw 0 )|p ( .ref a )|q ( wp X pn xe )|r ( ne_of_lt ( lt_of_lt_of_le ( qe e ) ( I.ok.cab x c h2 J ) ) )|s ( .ref it )|t ( t.probeStart h )|u ( zk 2 )|v ( .v ( .sh .non ) )|w ( .ref p )|x ( aG B w )|y ( fw 2 )|z ( zk 1 )|A ( ne_of_lt ( lt_of_lt_of_le ( qe e ) I.ok.above ) )|B ( fw 1 )|C ( Array Keyed )|D ( arrOf st2 )|E ( wC ( .int 0 ) )|F ( some ( .sh s.toD ) )|G ( .dct false ( dC G ) ( jI G ) )|H ( .lst ( bG B w ) )|I ( some v )|J ( a.toList.drop i )|K ( wB aU ( zl ( zk 5 ) zm ) )|L ( .v s )|M ( give r U )|N ( .lst xs )|O ( .int i )|P ( knd.hash k )|Q ( freshSet ( ldOf w ) )|R ( b.toList.drop j )|S ( fw 3 )|T ( upd H2 s2.heap.objs.size o0 )|U ( fw 4 )|V ( zk 3 )|W ( zk 4 )|X ( .ref s2.heap.objs.size )|Y ( ns.map V.int )|Z ( .str w )|aa ( .tup ( tD m f ) )|ab ( s1.trans ( s2.trans ( s3.trans s4 ) ) )|ac ( w.params.setOrder a ep )|ad ( Aa ( fw 5 ) Ab )|ae ( .lst ( l.map .sh ) )|af ( arrOf st' )|ag ( eB w ( min p q ) ( max p q ) )|ah ( .sh ( .int many ) )|ai ( l.map D.int )|aj ( .sh ( .int l.length ) )|ak ( .ref b )|al ( slot U j )|am ( le_succ _ )|an ( zp.refl G )|ao ( qi _ ( qj _ qm ) )|ap ( .type T )|aq ( .lst ( ns.map .int ) )|ar ( ha pn xe hp )|as ( s1.trans s2 )|at ( eval o X.env )|au ( Aa Ag Ab )|av ( bits h )|aw ( Ad _ )|ax ( .tup xs )|ay ( EP X zG Z Q )|az ( fU CX P w K mg base N qual scope f B A z s H E )|ba ( .tup l )|bb ( ho pn xe hp )|bc ( .dct t ks l )|bd ( zk 5 )|be ( List.Perm.cons _ ( List.Perm.append_left _ qN ) )|bf ( As T )|bg ( some s )|bh ( .int z )|bi ( below t.place j )|bj ( Obj.data_mapFields z _ )|bk ( aE X.prog X.w )|bl ( view y U )|bm ( Option Nat )|bn ( .builtin id )|bo ( s2.trans s3 )|bp ( .int j )|bq ( l.map D.str )|br ( aJ a s )|bs ( List Nat )|bt ( .bl true )|bu ( zl ( zk 6 ) zm )|bv ( envOfC qual scope s.heap.objs.size f cd )|bw ( Aa he Ab hs pn xe hp )|bx ( wC ( .int 2147483629 ) )|by ( some ( .lst ( l.eraseIdx k ) ) )|bz ( bare mask )|ca ( I.ok.hd hc )|cb ( vs.toArray.zip vs.toArray )|cc ( .tup ( tD m g ) )|cd ( lt_irrefl _ )|ce ( give r v )|cf ( view x U )|cg ( .int v )|ch ( w.drop p )|ci ( I.base.keep b o e n hb L )|cj ( List.range m )|ck ( U.set n ( some ( .set ( cS l s.toD ) ) ) )|cl ( fw 5 )|cm ( fw 6 )|cn ( .ref f )|co ( .dK zH )|cp ( zC x U )|cq ( zero_le _ )|cr ( ks.map kV )|cs ( slot U i )|ct ( kE d ( some i ) ( some j ) )|cu ( .sh ( zw B ) )|cv ( l.map zB )|cw ( Value.ref b )|cx ( aE P w )|cy ( ha pos zG s Z H _ I h )|cz ( binaryOp .Add )|da ( tupleKind_room_in1 hu )|db ( hb pn xe hp )|dc ( compareOp .NotIn )|dd ( .sh ( toD x ) )|de ( cC zm )|df ( U.set n ( some ( cG t ks l q s ) ) )|dg ( .lst ( xs.eraseIdx m ) )|dh ( .dct false ( bP L ) vs )|di ( model P w )|dj ( .Name x p )|dk ( aA st )|dl ( L.map eG )|dm ( .ref I )|dn ( fU ( jQ P w ) P w K mg base N qual scope f v A outer s H E )|do ( .int _ )|dp ( .dct t ks vs )|dq ( .sh ( .str l ) )|dr ( .sh ( .str t ) )|ds ( .sh ( .int p ) )|dt ( setNext a slot i ep )|du ( I.tok _ )|dv ( PySem.F.args_tuple_add_2 _ _ )|dw ( .lst ys )|dx ( .bool true )|dy ( .Subscript o i spos )|dz ( .set vs )|ea ( atKey_none_of_get B )|eb ( tZ c b K E )|ec ( xs.map toD )|ed ( Ca v )|ee ( W.fnOf name qual params body scope dV kV h1 pm an B ct )|ef ( lt_succ_self _ )|eg ( grown es1.size )|eh ( g i.cps.toList j.cps.toList )|ei ( zn 3 )".splitOn "|").find? (·.startsWith ((n.raw[0].isNameLit?.getD .anonymous).toString++" "))|Macro.throwUnsupported
 let mut s:List (List Term):=[[]]
 for t in e.splitOn " " do
  if t=="(" then s:=[]::s
  else if t==")" then match s with
   |a::b::r=>s:=((<-match a.reverse with|f::x=>let x:=x.toArray;`(($f $x*))|_=>`(_))::b)::r
   |_=>pure ()
  else match s with
   |a::r=>s:=((<-if t.startsWith "." then let i:=mkIdent (String.ofList t.toList.tail).toName;`(.$i:ident) else if t=="_" then `(_) else if t.front.isDigit then pure (quote t.toNat!) else pure (mkIdent t.toName))::a)::r
   |_=>pure ()
 match s with
 |(x::_)::_=>return x
 |_=>Macro.throwUnsupported
noncomputable section
namespace ST
open PySem PySem.SetTable
@[inline]def Rising(xs:Array Nat):Prop:=∀i j(hi:i<xs.size)(v:j<xs.size),i<j->xs[i]<xs[j]
def Fe{xs:Array Nat}(h:i<xs.size):xs.getD i d=xs[i]:=by simp[Array.getD,h]
def Fd(Y:Rising xs):∀(v lo hi:Nat),hi<=xs.size->lo<=hi->hi-lo<=v->(∀i(h:i<xs.size),i<lo->xs[i]<j)->(∀i(h:i<xs.size),hi<=i->j<=xs[i])->
  below.go xs j v lo hi<=xs.size/\(∀i(h:i<xs.size),i<below.go xs j v lo hi->xs[i]<j)/\∀i(h:i<xs.size),below.go xs j v lo hi<=i->j<=xs[i]:=by
 intro v;induction v with
 |zero=>
  intro lo hi h1 h2 h3 G F;let:lo=hi:=∅
  subst this;show#[by show lo<=_;lia,λi h z=>G i h z,λi h z=>F i h z]
 |succ v O=>
  intro lo hi h1 h2 h3 G F;unfold below.go;by_cases B:lo<hi
  .rw[q4 B];let J:(lo+hi)/2<xs.size:=by lia
   dsimp only;rw[Fe J];by_cases M:xs[(lo+hi)/2]<j
   .rw[q4 M];show O _ _ h1 ∅ ∅ (λi h z=>?_) F;by_cases L:i=(lo+hi)/2
    .subst L;show M
    .let:=Y i ((lo+hi)/2) h J ∅;lia
   .rw[q5 M];show O _ _ ∅ ∅ ∅ G λi h z=>?_;by_cases L:i=(lo+hi)/2
    .subst L;lia
    .let:=Y ((lo+hi)/2) i J h ∅;lia
  .rw[q5 B];let:lo=hi:=by lia
   subst this;show#[∅,λi h z=>G i h z,λi h z=>F i h z]
def AB(v:Rising xs):below xs j<=xs.size/\(∀i(h:i<xs.size),i<below xs j->xs[i]<j)/\∀i(h:i<xs.size),below xs j<=i->j<=xs[i]:=
 Fd v xs.size 0 xs.size `j `cq ∅ (λi h z=>by lia) λi h z=>∅
def Ez(z:Rising xs)(h:i<xs.size)(e:xs[i]=j):below xs j=i:=by
 let#[h1,h2,B]:=AB (j:=j) z;rcases lt_trichotomy (below xs j) i with v|v|v
 .let F:=B (below xs j) ∅ `j;let:=z (below xs j) i ∅ h v;lia
 .show v
 .let:=h2 i h v;lia
def BO{t:SetTable}(v:Rising t.place)(h:i<t.place.size)(e:t.place[i]=j):t.slot j=.live i:=by
 unfold slot;dsimp only;rw[Ez v h e];let:t.place[i]?=some j:=by rw[getElem?_eq_getElem h,e]
 rw[this];simp
def BP{t:SetTable}(z:t.dummies=#[])(h:∀i(hi:i<t.place.size),t.place[i]≠j):t.slot j=.empty:=by
 unfold slot;dsimp only;let h1:(t.place[below t.place j]?==some j)=false:=by
  cases q:t.place[below t.place j]? with
  |none=>rfl
  |some v=>let#[hi,e]:=Array.getElem?_eq_some_iff.mp q;let:=h _ hi;rw[e]at this;simpa using this
 rw[h1,z];rfl
def Ax{t:SetTable}(v:Rising t.place)(z:t.dummies=#[])(j:Nat):(t.slot j=.empty/\∀i(hi:i<t.place.size),t.place[i]≠j)\/∃i,∃hi:i<t.place.size,t.place[i]=j/\t.slot j=.live i:=by
 by_cases h:∃i,∃hi:i<t.place.size,t.place[i]=j
 .obtain⟨i,hi,e⟩:=h;show .inr #[i,hi,e,BO v hi e]
 .let h':∀i(hi:i<t.place.size),t.place[i]≠j:=λi hi e=>h #[i,hi,e];show .inl #[BP z h',h']
def aD(t:SetTable)(p:Probe):Nat->Probe
 |0=>p
 |n+1=>aD t (t.advance p) n
def Be(t:SetTable):∀(n:Nat)(p:Probe),aD t p (n+1)=t.advance (aD t p n)
 |0,_=>rfl
 |n+1,p=>Be t n (t.advance p)
def Ak(t:SetTable):∀(m n:Nat)(p:Probe),aD t p (m+n)=aD t (aD t p m) n
 |0,n,p=>by rw[zero_add];rfl
 |m+1,n,p=>by rw[Nat.add_right_comm];show Ak t m n (t.advance p)
def Ef(hr:Rising t.place)(hd:t.dummies=#[]):∀(v n:Nat)(p:Probe),p.dummy=none->t.slot (aD t p n).j=.empty->(∀m,m<n->t.slot (aD t p m).j≠.empty)->n<v->
  (probe.go t hashAt h v p=some (.empty (aD t p n).j none)/\∀m,m<n->∀i,t.slot (aD t p m).j=.live i->hashAt i≠h)\/
  ∃m i,m<n/\t.slot (aD t p m).j=.live i/\hashAt i=h/\probe.go t hashAt h v p=some (.candidate (aD t p m).j i (aD t p (m+1)))/\∀m',m'<m->∀B,t.slot (aD t p m').j=.live B->hashAt B≠h:=by
 intro v;induction v with
 |zero=>intro n p _ _ _ h;lia
 |succ v ih=>
  intro n p F he J hf;cases n with
  |zero=>show .inl #[?_,λm hm=>∅];unfold probe.go;let h6:t.slot p.j=.empty:=he;rw[h6];rw[F];rfl
  |succ n=>
   rcases Ax hr hd p.j with⟨M,_⟩|⟨i,hi,ei,Y⟩
   .show absurd M (J 0 ∅)
   .by_cases hh:hashAt i=h
    .show .inr #[0,i,∅,Y,hh,?_,λm' h5=>∅];unfold probe.go;rw[Y];show(if(hashAt i==h)=true then _ else _)=_;rw[q4 (by rw[hh];simp)];rfl
    .have L:probe.go t hashAt h (v+1) p=probe.go t hashAt h v (t.advance p):=by
      conv=>lhs;unfold probe.go
      grind
     have O:(t.advance p).dummy=none:=by
      unfold advance;split
      .show F
      .show F
     rcases ih n (t.advance p) O he (λm hm=>J (m+1) ∅) ∅with⟨h1,h2⟩|⟨m,B,hm,h1,h2,h3,h4⟩
     .show .inl #[by rw[L,h1];rfl,λm hm B z=>?_];cases m with
      |zero=>have:t.slot p.j=.live B:=z;rw[Y]at this;cases this;show hh
      |succ m=>show h2 m ∅ B z
     .show .inr #[m+1,B,∅,h1,h2,by rw[L,h3];rfl,λm' h5 G z=>?_];cases m' with
      |zero=>have:t.slot p.j=.live G:=z;rw[Y]at this;cases this;show hh
      |succ m'=>show h4 m' ∅ G z
def bJ(mask:Nat)(b:Nat):Nat->Nat×Nat
 |0=>(b %(mask+1),b)
 |k+1=>leap mask (bJ mask b k).1 (bJ mask b k).2
def bF(mask:Nat)(p:Nat×Nat):Probe:={j:=p.1,more:=runEnd mask p.1-p.1,i:=p.1,perturb:=p.2,dummy:=none}
def EX(mask i:Nat):runEnd mask i-i<=9:=by unfold runEnd;split<;>lia
def Bv:∀m,m<=runEnd t.mask p.1-p.1->aD t (bF t.mask p) m={bF t.mask p with j:=p.1+m,more:=runEnd t.mask p.1-p.1-m}
 |0,_=>rfl
 |m+1,h=>by rw[Be,Bv m ∅];unfold advance;rw[q4 (by show runEnd t.mask p.1-p.1-m>0;lia)];rfl
def BU:aD t (bF t.mask p) (runEnd t.mask p.1-p.1+1)=bF t.mask (leap t.mask p.1 p.2):=by rw[Be,Bv _ `j];unfold advance;rw[q5 (by show¬(runEnd t.mask p.1-p.1-(runEnd t.mask p.1-p.1)>0);lia)];rfl
def Bw:∀k,∃n,n<=10*k/\aD t `t n=bF t.mask (bJ t.mask `av k)
 |0=>#[0,∅,rfl]
 |k+1=>by let#[n,v,e]:=Bw (t:=t) (h:=h) k;let:=EX t.mask (bJ t.mask `av k).1;show#[n+(runEnd t.mask (bJ t.mask `av k).1-(bJ t.mask `av k).1+1),∅,?_];rw[Ak,e,BU];rfl
def Fg(h:Int):bits h<2^64:=by unfold bits;grind
def By(mask b:Nat):∀k,(bJ mask b k).2=b/32^k
 |0=>by simp[bJ]
 |k+1=>by show(bJ mask b k).2/32=_;rw[By mask b k,Nat.div_div_eq_div_mul,Nat.pow_succ]
def CO{mask:Nat}(v:13<=k):(bJ mask `av k).2=0:=by
 rw[By];show Nat.div_eq_of_lt (lt_of_lt_of_le (Fg h) ?_)
 calc 2^64<=32^13:=by decide
  _<=32^k:=Nat.pow_le_pow_right ⋯ v
def ke(M i:Nat):Nat:=(i*5+1) %M
def it(M:Nat):Nat->Nat->Nat
 |0,i=>i
 |k+1,i=>it M k (ke M i)
def BA(M:Nat):∀a b i,it M (a+b) i=it M b (it M a i)
 |0,b,i=>by rw[zero_add];rfl
 |a+1,b,i=>by rw[Nat.add_right_comm];show BA M a b (ke M i)
def Bz{mask:Nat}:∀k,(bJ mask `av (13+k)).1=it (mask+1) k (bJ mask `av 13).1
 |0=>rfl
 |k+1=>by rw[BA (mask+1) k 1,<-Bz k];show(leap mask (bJ mask `av (13+k)).1 (bJ mask `av (13+k)).2).1=_;rw[CO ∅];rfl
def hit(M e:Nat):Nat->Nat->Bool
 |0,_=>false
 |n+1,i=>bif Nat.beq i e then true else hit M e n (ke M i)
def CQ:∀{n i:Nat},hit M e n i=true->∃k,k<n/\it M k i=e
 |0,_,h=>by cases h
 |n+1,i,h=>by
  unfold hit at h;cases q:Nat.beq i e with
  |true=>show#[0,∅,Nat.eq_of_beq_eq_true q]
  |false=>rw[q]at h;let#[k,z,v]:=CQ (n:=n) h;show#[k+1,∅,v]
def bY(mask:Nat):Prop:=mask=7\/mask=15\/mask=31\/mask=63\/mask=127\/mask=255\/mask=511
def Fh{mask:Nat}(h:bY mask):(List.range (mask+1)).all (λe=>hit (mask+1) e (mask+1) 0)=true/\it (mask+1) (mask+1) 0=0:=by rcases h with rfl|rfl|rfl|rfl|rfl|rfl|rfl<;>show⟨by decide+kernel,by decide+kernel⟩
def HY{mask s e:Nat}(h:bY mask)(hs:s<=mask)(F:e<=mask):∃k,k<=mask/\it (mask+1) k s=e:=by
 let#[h1,h2]:=Fh h;rw[qI]at h1;let#[a,J,z]:=CQ (h1 s (qJ.mpr ∅));let#[b,G,v]:=CQ (h1 e (qJ.mpr ∅));by_cases B:a<=b
 .show#[b-a,∅,by rw[<-z,<-BA,show a+(b-a)=b by lia,v]]
 .show#[mask+1-a+b,∅,?_];rw[<-z,<-BA,show a+(mask+1-a+b)=mask+1+b by lia,BA,h2,v]
def CM(z:bY t.mask)(B:e<=t.mask):∃n,n<10*turns t.mask/\(aD t `t n).j=e:=by
 let v:(bJ t.mask `av 13).1<=t.mask:=by let:(bJ t.mask `av 13).1<t.mask+1:=mod_lt _ ∅;lia
 let#[k,L,G]:=HY z v B;let#[n,J,F]:=Bw (t:=t) (h:=h) (13+k);show#[n,by unfold turns;lia,?_];rw[F];show(bJ t.mask `av (13+k)).1=e;rw[Bz,G]
def HV{P:Nat->Prop}[DecidablePred P]:∀n,P n->∃m,m<=n/\P m/\∀k,k<m->¬P k:=by
 intro n;induction n using Nat.strongRecOn with
 |ind n B=>
  intro F;by_cases h:∃k,k<n/\P k
  .obtain⟨k,z,v⟩:=h;let#[m,h1,h2,G]:=B k z v;show#[m,∅,h2,G]
  .show#[n,q8 _,F,λk z v=>h #[k,z,v]]
structure iD(t:SetTable)(hs:List Int):Prop where
 ris:Rising t.place
 dum:t.dummies=#[]
 mask:bY t.mask
 size:t.place.size=hs.length
 le:∀i(hi:i<t.place.size),t.place[i]<=t.mask
 few:hs.length<=t.mask
 reach:∀i(hi:i<t.place.size)(h:Int),hs[i]?=some h->∃n,(aD t `t n).j=t.place[i]/\∀m,m<n->t.slot (aD t `t m).j≠.empty
def FB:∀(l m:List Nat),l.Nodup->(∀x∈l,x∈m)->l.length<=m.length
 |[],m,_,_=>by simp
 |x::l,m,hn,hs=>by
  let#[h1,h2]:=qL.mp hn;let B:x∈m:=hs x (by simp);let:=FB l (m.erase x) h2 λy v=>by show(List.mem_erase_of_ne ?_).mpr (hs y (by simp[v]));intro z;subst z;show h1 v
  rw[List.length_erase_of_mem B]at this;let F:=List.length_pos_of_mem B;rw[qt];lia
def Eg:∀(m:Nat)(l:List Nat),l.Nodup->(∀x∈l,x<m)->l.length<m->∃e,e<m/\e∉l:=by
 intro m l B z F;by_cases h:∃e,e<m/\e∉l
 .show h
 .exfalso;let:∀e∈List.range m,e∈l:=λe v=>by
   by_cases q:e∈l
   .show q
   .show absurd #[e,qJ.mp v,q] h
  let:=FB `cj l nodup_range this;rw[qD]at this;lia
def iD.free(T:iD t hs)(h:Int):∃n,n<10*turns t.mask/\t.slot (aD t `t n).j=.empty/\∀m,m<n->t.slot (aD t `t m).j≠.empty:=by
 obtain⟨e,Y,B⟩:=Eg (t.mask+1) t.place.toList (by
  rw[List.Nodup,pairwise_iff_getElem];intro i j hi J F;let:=T.ris i j hi ↑J F;simp;lia) (λx G=>by
   let#[i,hi,e]:=getElem_of_mem G;let:=T.le i hi;rw[getElem_toList]at e;lia) (by
   let:=T.few;let:=T.size;rw[qV];lia)
 let#[n,O,M]:=CM (h:=h) T.mask (show e<=t.mask by lia);let v:t.slot (aD t `t n).j=.empty:=by rw[M];show BP T.dum λi hi z=>B ?_;rw[<-z];show getElem_mem_toList hi
 let#[m,h1,h2,L]:=HV (P:=λn=>t.slot (aD t `t n).j=.empty) n v;show#[m,∅,h2,L]
theorem ris_list:Rising xs↔xs.toList.Pairwise (·<·):=by rw[pairwise_iff_getElem];first|rfl|assumption|(simp_all;done)
def BB(G:Rising xs)(hn:∀i(hi:i<xs.size),xs[i]≠j):Rising (insertAt xs (below xs j) j):=by
 let#[h1,h2,Y]:=AB (j:=j) G;rw[ris_list,toList_insertAt];let J:=ris_list.mp G;rw[<-take_append_drop (below xs j) xs.toList]at J;let#[O,M,L]:=pairwise_append.mp J;show pairwise_append.mpr #[O,pairwise_cons.mpr #[λy z=>?_,M],λx F y z=>?_]
 .obtain⟨i,hi,e⟩:=getElem_of_mem z;rw[List.getElem_drop,getElem_toList]at e;let v:below xs j+i<xs.size:=by simp at hi;lia
  let a:=Y (below xs j+i) v ∅;let b:=hn (below xs j+i) v;lia
 .have B:x<j:=by
   let#[i,hi,e]:=getElem_of_mem F;rw[List.getElem_take,getElem_toList]at e;let v:i<xs.size/\i<below xs j:=by simp at hi;lia
   let:=h2 i v.1 v.2;lia
  rcases qB.mp z with rfl|z
  .show B
  .show L x F y z
theorem mem_insert:x∈(insertAt xs p j).toList↔x=j\/x∈xs.toList:=by rw[toList_insertAt,qy];grind[take_append_drop,mem_append]
def Ay(h:t'.mask=t.mask):∀(n:Nat)(p:Probe),aD t' p n=aD t p n
 |0,_=>rfl
 |n+1,p=>by
  let e:t'.advance p=t.advance p:=by unfold advance;rw[h]
  show aD t' (t'.advance p) n=aD t (t.advance p) n;rw[e,Ay h n]
def Aw{t t':SetTable}(h:t'.mask=t.mask)(b:Int):t'.probeStart b=t.probeStart b:=by unfold probeStart;rw[h]
def Bx{t:SetTable}(v:Rising t.place)(G:t.dummies=#[])(j:Nat):t.slot j≠.empty↔j∈t.place.toList:=by
 rcases Ax v G j with⟨h,B⟩|⟨i,hi,e,h⟩
 .show#[λz=>absurd h z,λF=>?_];let#[i,hi,e]:=getElem_of_mem F;show absurd e (B i hi)
 .show#[λ_=>?_,λ_=>by rw[h];show nofun];rw[<-e];show getElem_mem_toList hi
def Bc{t:SetTable}(v:t.dummies=#[]):(t.put j).1.place=insertAt t.place `bi j/\(t.put j).1.mask=t.mask/\(t.put j).1.dummies=#[]/\(t.put j).2=below t.place j:=by unfold put;show#[rfl,rfl,?_,rfl];rw[v];rfl
def iD.put(T:iD t hs)(he:t.slot (aD t `t n).j=.empty)(h4:∀m,m<n->t.slot (aD t `t m).j≠.empty)(hj:(aD t `t n).j<=t.mask)(hf:hs.length+1<=t.mask):
  iD (t.put (aD t `t n).j).1 (hs.take (t.put (aD t `t n).j).2++h::hs.drop (t.put (aD t `t n).j).2):=by
 generalize h5:(aD t `t n).j=j at*;let h3:∀i(hi:i<t.place.size),t.place[i]≠j:=by
  rcases Ax T.ris T.dum j with⟨_,hn⟩|⟨i,hi,e,L⟩
  .show hn
  .rw[L]at he;cases he
 let#[Y,J,e3,e4]:=Bc (t:=t) (j:=j) T.dum;let M:=BB T.ris h3;let#[b1,b2,b3]:=AB (j:=j) T.ris;let h2:(insertAt t.place `bi j).size=t.place.size+1:=by rw[<-qV,toList_insertAt,qq,qt,qH,qG,qV];lia
 let more:∀k,t.slot k≠.empty->(t.put j).1.slot k≠.empty:=λk B=>by rw[Bx (by rw[Y];show M) e3,Y,mem_insert];show .inr ((Bx T.ris T.dum k).mp B)
 show#[by rw[Y];show M,e3,by rw[J];show T.mask,?_,λi hi=>?_,?_,λi hi g O=>?_]
 .rw[Y,h2,qq,qt,qH,qG,e4,T.size];let:=T.size;lia
 .let hm:(t.put j).1.place[i]∈(insertAt t.place `bi j).toList:=by rw[<-Y];exact getElem_mem_toList hi
  rw[J];rcases mem_insert.mp hm with z|z
  .rw[z];show hj
  .obtain⟨k,B,e⟩:=getElem_of_mem z;rw[<-e];show T.le k ↑B
 .rw[J,qq,qt,qH,qG];lia
 .rw[e4]at O;let v:(t.put j).1.place[i]?=(t.place.toList.take `bi++j::t.place.toList.drop `bi)[i]?:=by rw[Y,<-qZ,toList_insertAt]
  rw[getElem?_eq_getElem hi]at v;let F:(t.place.toList.take `bi).length=below t.place j:=by rw[qH,qV];lia
  let G:(hs.take `bi).length=below t.place j:=by let:=T.size;rw[qH];lia
  let h1:∀k(B:k<t.place.size),hs[k]?=some g->(t.put j).1.place[i]=t.place[k]->∃n,(aD (t.put j).1 ((t.put j).1.probeStart g) n).j=(t.put j).1.place[i]/\∀m,m<n->(t.put j).1.slot (aD (t.put j).1 ((t.put j).1.probeStart g) m).j≠.empty:=λk B h6 e=>by let#[n',a,b]:=T.reach k B g h6;show#[n',by rw[Ay J,Aw J,a,e],λm hm=>?_];rw[Ay J,Aw J];show more _ (b m hm)
  rcases lt_trichotomy i (below t.place j)with L|L|L
  .rw[getElem?_append_left (by rw[F];show L),List.getElem?_take_of_lt L]at v;rw[getElem?_append_left (by rw[G];show L),List.getElem?_take_of_lt L]at O;let B:i<t.place.size:=by lia
   rw[qZ,getElem?_eq_getElem B]at v;show h1 i B O (qf v)
  .subst L;rw[getElem?_append_right (by rw[F];show q8 _),F,sub_self,List.getElem?_cons_zero]at v;rw[getElem?_append_right (by rw[G];show q8 _),G,sub_self,List.getElem?_cons_zero]at O;let eg:=qf O;subst eg;show#[n,by rw[Ay J,Aw J,h5,qf v],λm hm=>?_];rw[Ay J,Aw J];show more _ (h4 m hm)
  .obtain⟨k,rfl⟩:∃k,i=k+1:=#[i-1,∅]
   rw[getElem?_append_right (by rw[F];lia),F,show k+1-below t.place j=(k-below t.place j)+1 by lia,List.getElem?_cons_succ,List.getElem?_drop,show below t.place j+(k-below t.place j)=k by lia]at v;rw[getElem?_append_right (by rw[G];lia),G,show k+1-below t.place j=(k-below t.place j)+1 by lia,List.getElem?_cons_succ,List.getElem?_drop,show below t.place j+(k-below t.place j)=k by lia]at O;let B:k<t.place.size:=by let:=hi;simp only[Y,h2]at this;lia
   rw[qZ,getElem?_eq_getElem B]at v;show h1 k B O (qf v)
def dR(o:Array `bm)(j:Nat):Bool:=(o.getD j (some 0)).isNone
def bare(mask:Nat):SetTable:={fresh 0 0 true with mask:=mask}
def DG{mask:Nat}:∀(v:Nat)(p:Nat×Nat)(K:Nat),K<v->(∃q,dR o q.1=true/\q=(Nat.repeat (λx:Nat×Nat=>leap mask x.1 x.2) K p))->
  ∃j n,layClean.free mask o v p.1 p.2=some j/\(aD `bz (bF mask p) n).j=j/\dR o j=true/\∀m,m<n->dR o (aD `bz (bF mask p) m).j=false:=by
 intro v;induction v with
 |zero=>intro p K h;lia
 |succ v L=>
  intro p K hK Y;let run:∀m,m<=runEnd mask p.1-p.1->(aD `bz (bF mask p) m).j=p.1+m:=λm B=>by let:=Bv (t:=bare mask) (p:=p) m B;let e:(aD `bz (bF mask p) m).j=({bF mask p with j:=p.1+m,more:=runEnd mask p.1-p.1-m}:Probe).j:=congrArg Probe.j this;show e
  let h4:p.1<=runEnd mask p.1:=by unfold runEnd;split<;>lia
  unfold layClean.free;cases G:(List.range (runEnd mask p.1+1-p.1)).find? (λk=>(o.getD (p.1+k) (some 0)).isNone)with
  |some k=>rw[List.find?_range_eq_some]at G;let#[h1,h2,O]:=G;rw[qJ]at h2;show#[p.1+k,k,rfl,run k ∅,h1,λm B=>?_];rw[run m ∅];let:=O m B;simpa[dR] using this
  |none=>
   rw[List.find?_range_eq_none]at G;let z:∀m,m<=runEnd mask p.1-p.1->dR o (aD `bz (bF mask p) m).j=false:=λm B=>by rw[run m B];let:=G m ∅;simpa[dR] using this
   cases K with
   |zero=>let#[q,h1,h2]:=Y;let O:q=p:=h2;let:=z 0 ∅;let e:(aD `bz (bF mask p) 0).j=p.1:=rfl;rw[e,<-O,h1]at this;cases this
   |succ K=>
    obtain⟨q,h1,h2⟩:=Y;let J:∀(K:Nat)(p:Nat×Nat),Nat.repeat (λx:Nat×Nat=>leap mask x.1 x.2) (K+1) p=Nat.repeat (λx:Nat×Nat=>leap mask x.1 x.2) K (leap mask p.1 p.2):=by
     intro K;induction K with
     |zero=>intro p;rfl
     |succ K L=>intro p;show leap mask (Nat.repeat (λx:Nat×Nat=>leap mask x.1 x.2) (K+1) p).1 (Nat.repeat (λx:Nat×Nat=>leap mask x.1 x.2) (K+1) p).2=leap mask (Nat.repeat (λx:Nat×Nat=>leap mask x.1 x.2) K (leap mask p.1 p.2)).1 (Nat.repeat (λx:Nat×Nat=>leap mask x.1 x.2) K (leap mask p.1 p.2)).2;rw[L p]
    let#[j,n,a1,a2,a3,a4]:=L (leap mask p.1 p.2) K ∅ #[q,h1,by rw[h2,J]];let pl:=BU (t:=bare mask) (p:=p);let F:aD `bz (bF mask p) (runEnd mask p.1-p.1+1)=bF mask (leap mask p.1 p.2):=pl;show#[j,runEnd mask p.1-p.1+1+n,a1,by rw[Ak,F];show a2,a3,λm B=>?_];by_cases M:m<=runEnd mask p.1-p.1
    .show z m M
    .obtain⟨k,rfl⟩:∃k,m=runEnd mask p.1-p.1+1+k:=#[m-(runEnd mask p.1-p.1+1),∅]
     rw[Ak,F];show a4 k ∅
def BV(mask b:Nat):∀k,bJ mask b k=Nat.repeat (λx:Nat×Nat=>leap mask x.1 x.2) k (b %(mask+1),b)
 |0=>rfl
 |k+1=>by show leap mask (bJ mask b k).1 (bJ mask b k).2=_;rw[BV mask b k];rfl
structure pB(mask:Nat)(o:Array (Option Nat))(hs:List Int)(ps:List Nat):Prop where
 size:o.size=mask+1
 len:ps.length=hs.length
 nd:ps.Nodup
 le:∀j∈ps,j<=mask
 own:∀(j i:Nat),o.getD j none=some i↔ps[i]?=some j
 reach:∀(i:Nat)(h:Int)(j:Nat),hs[i]?=some h->ps[i]?=some j->∃n,(aD `bz ((bare mask).probeStart h) n).j=j/\∀m,m<n->(aD `bz ((bare mask).probeStart h) m).j∈ps
def BE{mask:Nat}(O:pB mask o hs ps)(J:j<=mask):dR o j=true↔j∉ps:=by
 let v:j<o.size:=by rw[O.size];lia
 unfold dR;let G:o.getD j (some 0)=o[j]:=by simp[v]
 let z:o.getD j none=o[j]:=by simp[v]
 rw[G];constructor
 .intro h F;let#[i,hi,e]:=getElem_of_mem F;let:=(O.own j i).mpr (by rw[qh hi,e]);rw[z]at this;rw[this]at h;cases h
 .intro B;cases q:o[j]with
  |none=>rfl
  |some i=>have:=(O.own j i).mp (by rw[z,q]);show absurd (qM this) B
def Cc(F:bY t.mask):∀n,(aD t `t n).j<=t.mask:=by
 have v:∀n(p:Probe),(p.j+p.more<=t.mask)->(aD t p n).j+(aD t p n).more<=t.mask:=by
  intro n;induction n with
  |zero=>intro p z;show z
  |succ n B=>
   intro p z;show B (t.advance p) ?_;unfold advance;split
   .show p.j+1+(p.more-1)<=t.mask;lia
   .let hi:(p.i*5+1+p.perturb/32) %(t.mask+1)<=t.mask:=by let:=mod_lt (p.i*5+1+p.perturb/32) (show 0<t.mask+1 by lia);lia
    show(p.i*5+1+p.perturb/32) %(t.mask+1)+(runEnd t.mask ((p.i*5+1+p.perturb/32) %(t.mask+1))-(p.i*5+1+p.perturb/32) %(t.mask+1))<=t.mask;unfold runEnd;split<;>lia
 intro n;let:=v n `t (by
  let hi:bits h %(t.mask+1)<=t.mask:=by let:=mod_lt `av (show 0<t.mask+1 by lia);lia
  show bits h %(t.mask+1)+(runEnd t.mask (bits h %(t.mask+1))-bits h %(t.mask+1))<=t.mask;unfold runEnd;split<;>lia)
 lia
def pB.step{mask:Nat}(B:bY mask)(O:pB mask o hs ps)(hf:hs.length<mask+1):
  ∃j,layClean.free mask o (turns mask) (bits h %(mask+1)) `av=some j/\pB mask (o.setIfInBounds j (some hs.length)) (hs++[h]) (ps++[j]):=by
 let#[e,he,h1]:=Eg (mask+1) ps O.nd (λx v=>by let:=O.le x v;lia) (by rw[O.len];show hf);let Y:(bJ mask `av 13).1<=mask:=by let:(bJ mask `av 13).1<mask+1:=mod_lt _ ∅;lia
 let#[k,hk,ek]:=HY B Y (show e<=mask by lia);let#[j,n,a1,a2,a3,a4]:=DG (o:=o) (turns mask) (bits h %(mask+1),bits h) (13+k) (by unfold turns;lia) #[bJ mask `av (13+k),by rw[Bz,ek];show(BE O ∅).mpr h1,BV _ _ _];let M:bF mask (bits h %(mask+1),bits h)=(bare mask).probeStart h:=rfl;rw[M]at a2 a4;let L:j<=mask:=by rw[<-a2];show Cc (t:=bare mask) B n
 let J:j∉ps:=(BE O L).mp a3;let h3:j<o.size:=by rw[O.size];lia
 show#[j,a1,?_,?_,?_,?_,?_,?_]
 .rw[Array.size_setIfInBounds,O.size]
 .rw[qq,qq,O.len];rfl
 .show qx.mpr #[O.nd,by simp,λa ha b hb e=>?_];rw[qv.mp hb]at e;show J (e▸ha)
 .intro x v;rcases qy.mp v with z|z
  .show O.le x z
  .rw[qv.mp z];show L
 .intro x i;let G:(o.setIfInBounds j (some hs.length)).getD x none=if x=j then some hs.length else o.getD x none:=by
   simp[Array.getD_eq_getD_getElem?,Array.getElem?_setIfInBounds];by_cases v:j=x
   .subst v;simp[h3]
   .rw[q5 v,q5 (Ne.symm v)]
  rw[G];by_cases v:x=j
  .subst v;rw[q4 rfl];constructor
   .intro z;let:=qf z;subst this;rw[<-O.len,getElem?_append_right `j,sub_self];rfl
   .intro z;by_cases hi:i<ps.length
    .rw[getElem?_append_left hi]at z;show absurd (qM z) J
    .let F:=(qg.mp z).1;rw[qq,qC]at F;rw[show i=hs.length by rw[<-O.len];lia]
  .rw[q5 v,O.own x i];by_cases hi:i<ps.length
   .rw[getElem?_append_left hi]
   .rw[qQ ∅];constructor
    .intro z;cases z
    .intro z;rw[getElem?_append_right ∅]at z;let:i-ps.length=0:=by let:=(qg.mp z).1;simp at this;lia
     rw[this]at z;show absurd (qf z).symm v
 .intro i g x G v;by_cases hi:i<ps.length
  .rw[getElem?_append_left hi]at v;rw[getElem?_append_left (by rw[<-O.len];show hi)]at G;let#[n',b1,b2]:=O.reach i g x G v;show#[n',b1,λm hm=>qj _ (b2 m hm)]
  .let F:=(qg.mp v).1;rw[qq,qC]at F;let h4:i=ps.length:=by lia
   subst h4;rw[getElem?_append_right `j,sub_self]at v;rw[getElem?_append_right (by rw[O.len];show q8 _),O.len,sub_self]at G;let e1:j=x:=qf v;let e2:h=g:=qf G;subst e1 e2;show#[n,a2,λm hm=>qj _ ?_];let:=a4 m hm;cases q:decide ((aD (bare mask) ((bare mask).probeStart h) m).j∈ps)with
   |true=>show qU q
   |false=>have h2:=(BE O (Cc (t:=bare mask) B m)).mpr (of_decide_eq_false q);rw[h2]at this;cases this
def Cz{mask:Nat}(hmk:bY mask):∀(hs2 hs1:List Int)(o:Array (Option Nat))(ps:List Nat),pB mask o hs1 ps->(hs1++hs2).length<=mask->
  ∃o' ps',List.foldl (λ(zL:Option (Array (Option Nat)×Nat))(h:Int)=>do
   let(owner,k)<-zL
   let j<-layClean.free mask owner (turns mask) (bits h %(mask+1)) `av
   pure (owner.setIfInBounds j (some k),k+1)) (some (o,hs1.length)) hs2=some (o',(hs1++hs2).length)/\pB mask o' (hs1++hs2) ps'
 |[],hs1,o,ps,O,_=>#[o,ps,by simp,↑O]
 |h::hs2,hs1,o,ps,O,hl=>by
  obtain⟨j,e,O'⟩:=O.step (h:=h) hmk (by rw[qq,qt]at hl;lia);let#[o',ps',e',O'']:=Cz hmk hs2 (hs1++[h]) _ _ O' ↑hl;show#[o',ps',?_,↑O''];rw[foldl_cons];let:(do
   let(owner,k)<-(some (o,hs1.length):Option (Array `bm×Nat))
   let j<-layClean.free mask owner (turns mask) (bits h %(mask+1)) `av
   pure (owner.setIfInBounds j (some k),k+1))=some (o.setIfInBounds j (some hs1.length),(hs1++[h]).length):=by
   show(do
    let j<-layClean.free mask o (turns mask) (bits h %(mask+1)) `av
    pure (o.setIfInBounds j (some hs1.length),hs1.length+1))=_
   rw[e,qq];rfl
  rw[this];simpa using e'
def Eo{mask:Nat}(v:bY mask)(B:hs.size<=mask):∃o ps,layClean mask hs=some o/\pB mask o hs.toList ps:=by
 let G:pB mask (Array.replicate (mask+1) none) [] []:=#[by simp,rfl,by simp,by simp,λj i=>by by_cases h:j<mask+1<;>simp[h],λi h j F=>by simp at F]
 let#[o,ps,e,O]:=Cz v hs.toList [] _ _ G B;show#[o,ps,?_,O];unfold layClean;rw[<-Array.foldl_toList];let z:=e;simp only[qw]at z;rw[z];rfl
def Ey{α β:Type}{f:α->Option β}:∀(l:List α),(∀x∈l,(f x).isSome=true)->∀k:Nat,(l.filterMap f)[k]?=l[k]?.bind f
 |[],_,k=>by simp
 |x::l,h,k=>by
  let#[y,v]:=isSome_iff_exists.mp (h x (by simp));rw[filterMap_cons,v];cases k with
  |zero=>simp[v]
  |succ k=>show Ey l (λz B=>h z (by simp[B])) k
def Ep{α:Type}{mask finger moves:Nat}{led plain:Bool}{es:Array (Int×α)}(h8:bY mask)(hl:es.size<=mask):
  ∃t z,laid mask finger moves led plain (es.map (·.1))=some (t,z)/\(z.filterMap (es[·]?)).toList.Perm es.toList/\iD t ((z.filterMap (es[·]?)).toList.map (·.1))/\t.mask=mask/\t.led=led/\t.plain=plain:=by
 let#[o,ps,e,O]:=Eo h8 (hs:=es.map (·.1)) ↑hl;let hk:ps.length=es.size:=by rw[O.len];simp
 generalize h5:((List.range (mask+1)).filterMap λj=>(o.getD j none).map (j,·))=v;let F:∀x:Nat×Nat,x∈v↔ps[x.2]?=some x.1:=λx=>by
  rw[<-h5,mem_filterMap];constructor
  .rintro⟨j,hj,hx⟩;let#[i,hi,rfl]:=qY.mp hx;show(O.own j i).mp hi
  .intro h;show#[x.1,qJ.mpr (by let:=O.le x.1 (qM h);lia),?_];rw[(O.own x.1 x.2).mpr h];rfl
 let L:(v.map (·.1)).Pairwise (·<·):=by rw[<-h5,pairwise_map,List.pairwise_filterMap];show pairwise_lt_range.imp λ{a b} e2 x hx y hy=>?_;let#[_,_,rfl]:=qY.mp hx;let#[_,_,rfl]:=qY.mp hy;show e2
 have Y:∀j,j∈v.map (·.1)↔j∈ps:=λj=>by
  rw[qK];constructor
  .rintro⟨x,hx,rfl⟩;show qM ((F x).mp hx)
  .intro hj;let#[i,hi,ei]:=getElem_of_mem hj;show#[(j,i),(F (j,i)).mpr (by rw[qh hi,ei]),rfl]
 let h7:(v.map (·.2)).Nodup:=by rw[List.Nodup,pairwise_map];let h2:v.Pairwise λa b=>a.1<b.1:=pairwise_map.mp L;show List.Pairwise.imp_of_mem (λ{a b} ha hb e2 e=>?_) h2;let h3:=(F a).mp ha;let h4:=(F b).mp hb;rw[e,h4]at h3;lia
 have M:∀i,i∈v.map (·.2)↔i<es.size:=λi=>by
  rw[qK];constructor
  .rintro⟨x,hx,rfl⟩;let:=(qg.mp ((F x).mp hx)).1;lia
  simp_all
 let B:(v.map (·.2)).Perm (List.range es.size):=(List.perm_ext_iff_of_nodup h7 nodup_range).mpr λi=>by rw[M,qJ]
 let e4:v.length=es.size:=by let:=B.length_eq;rw[qo,qD]at this;show this
 show#[{mask,place:=(v.map (·.1)).toArray,dummies:=#[],finger,led,moves,plain},(v.map (·.2)).toArray,?_,?_,?_,rfl,rfl,rfl]
 .unfold laid;rw[e];show some _=some _;rw[<-h5]
 .rw[Array.toList_filterMap];let:=B.filterMap (es[·]?);rw[filterMap_getElem?_range]at this;show this
 .have h1:∀i∈v.map (·.2),(es[i]?).isSome=true:=λi hi=>by rw[getElem?_eq_getElem ((M i).mp hi)];rfl
  have e1:∀k:Nat,(((v.map (·.2)).toArray.filterMap (es[·]?)).toList.map (·.1))[k]?=(v[k]?).bind λ(x:Nat×Nat)=>(es.map (·.1)).toList[x.2]?:=λk=>by
   rw[Array.toList_filterMap,qF,Ey _ h1,qF];cases v[k]? with
   |none=>rfl
   |some x=>simp
  let G:Rising (v.map (·.1)).toArray:=by rw[ris_list];show L
  let J:(((v.map (·.2)).toArray.filterMap (es[·]?)).toList.map (·.1)).length=es.size:=by rw[qo];let:=(B.filterMap (es[·]?)).length_eq;rw[filterMap_getElem?_range]at this;rw[Array.toList_filterMap];show this
  let h6:∀n p,aD {mask,place:=(v.map (·.1)).toArray,dummies:=#[],finger,led,moves,plain} p n=aD `bz p n:=Ay rfl;let e3:∀b,SetTable.probeStart {mask,place:=(v.map (·.1)).toArray,dummies:=#[],finger,led,moves,plain} b=(bare mask).probeStart b:=Aw rfl;show#[G,rfl,h8,?_,λi hi=>?_,?_,λi hi h hh=>?_]
  .rw[J,qr,qo,e4]
  .let:(v.map (·.1)).toArray[i]∈v.map (·.1):=getElem_mem_toList hi;show O.le _ ((Y _).mp this)
  .rw[J];show hl
  .let h9:i<v.length:=by simpa using hi
   rw[e1,qh h9]at hh;let#[n,a,b]:=O.reach v[i].2 h v[i].1 hh ((F v[i]).mp (getElem_mem h9));show#[n,?_,λm hm=>?_]
   .rw[h6,e3,a];simp
   .rw[Bx G rfl,h6];show(Y _).mpr (b m hm)
def iD.fits(T:iD t hs)(hn:hs.length=n):t.fits n=true:=by unfold SetTable.fits;rw[T.size,hn,and_eq_true,beq_iff_eq];show#[rfl,?_];unfold fill;rw[T.size,T.dum];let:=T.few;simp;lia
def iD.odd(T:iD t hs):t.gaveWay=false:=by unfold SetTable.gaveWay;rcases T.mask with h|h|h|h|h|h|h<;>rw[h]<;>rfl
def CL(n:Nat):(aD t `t n).dummy=none:=by
 have z:∀n(p:Probe),p.dummy=none->(aD t p n).dummy=none:=by
  intro n;induction n with
  |zero=>intro p v;show v
  |succ n B=>intro p v;show B _ ?_;unfold advance;split<;>show v
 show z n _ rfl
section
variable{prog:Program}{w:World}{K:Type}[DecidableEq K](knd:HeapKind prog w K)
def fC(xs:List (K×Addr)):List (Int×Value):=xs.map λp=>(knd.hash p.1,Value.ref p.2)
variable{knd}
def Gf(B:∀{k:K}{b:Addr}{Q:Bool->Shared->Prop},knd.is s.heap k b->Q false s->wpAny `b A (ofAClassStatement 8 `ak) Q E s){stored:List Value}(L:knd.is s.heap k b)
  (G:∀v∈stored,∃z c,v=.ref c/\knd.is s.heap z c)(h:Q false s):wpAny `b A (searchCouldBeSeen `ak stored) Q E s:=by
 show qa ?_;show wpAny_forIn_list _ (λrest r s'=>s'=s/\r=(none,())/\∀v∈rest,∃z c,v=.ref c/\knd.is s.heap z c) _ ?_ ?_ _ _ #[rfl,rfl,G]
 .rintro x rest r s' ⟨rfl,rfl,J⟩;let#[z,c,rfl,M]:=J x qm;let F:∀v∈rest,∃z c,v=.ref c/\knd.is s'.heap z c:=λv O=>J v (qk _ O);dsimp only;split
  .show qb #[rfl,rfl,F]
  .show qa (knd.quiet L ?_);show qa (knd.quiet M ?_);show qa (B L ?_);show qa (B M ?_);show qb #[rfl,rfl,F]
 .rintro r s' ⟨rfl,rfl,_⟩;show qb h
theorem Cr(hcl:∀{k:K}{b:Addr}{Q:Bool->Shared->Prop},knd.is s.heap k b->Q false s->wpAny `b A (ofAClassStatement 8 `ak) Q E s)
  (hu:knd.room A)(hk:knd.is s.heap k b)(ho:s.heap.get? a=some o)(hd:o.data=.set es ep t)(he:es.toList=fC knd xs)(his:∀x∈xs,knd.is s.heap x.1 x.2)(T:iD t (es.toList.map (·.1)))
  (hf:n<10*turns t.mask)(hemp:t.slot (aD t `f n).j=.empty)(hne:∀m,m<n->t.slot (aD t `f m).j≠.empty)
  (h1:k∈xs.map (·.1)->Q (.there none) s)(h2:k∉xs.map (·.1)->Q (.free (aD t `f n).j false) s):
  ∀(r n0:Nat)(stand:Option Probe),n0<=n->n-n0<r->stand.getD `f=aD t `f n0->
   (∀m,m<n0->∀i,t.slot (aD t `f m).j=.live i->(xs[i]?).map (·.1)≠some k)->wpAny `b A (setSearchFrom a `ak `P true r stand) Q E s:=by
 let hsz:t.fits es.size=true:=T.fits (by simp);let zJ:es.size=xs.length:=by rw[<-qV,he];simp[fC]
 let hent:∀i:Nat,es[i]?=(xs[i]?).map λp=>(knd.hash p.1,Value.ref p.2):=λi=>by rw[<-qZ,he];simp[fC]
 intro r;induction r with
 |zero=>intro n0 stand _ h;lia
 |succ r ih=>
  intro n0 stand hn0 hr hst hsofar;show qa (wpAny_setState_of ho hd hsz ?_);dsimp only;rw[T.odd];simp only[false_eq_true,if_false];let hgo:=Ef (t:=t) (hashAt:=λi=>(es[i]?.map (·.1)).getD 0) (h:=knd.hash k) T.ris T.dum (10*turns t.mask) (n-n0) (aD t `f n0) (CL n0)
   (by rw[<-Ak,show n0+(n-n0)=n by lia];show hemp) (λm hm=>by rw[<-Ak];show hne _ ∅) ∅
  rw[hst];rcases hgo with⟨g1,g2⟩|⟨m,i,g1,g2,g3,g4,g5⟩
  .have e:t.probe (λi=>(es[i]?.map (·.1)).getD 0) `P (aD t `f n0)=some (.empty (aD t `f n).j none):=by unfold probe;rw[g1,<-Ak,show n0+(n-n0)=n by lia]
   have none_hit:k∉xs.map (·.1):=λhmem=>by
    let#[x,hx,hxk]:=qK.mp hmem;let#[i,hi,ei]:=getElem_of_mem hx;let hip:i<t.place.size:=by rw[T.size];simp;lia
    let hh:(es.toList.map (·.1))[i]?=some `P:=by rw[qF,qZ,hent,qh hi,ei,<-hxk];rfl
    let#[q,q1,q2]:=T.reach i hip _ hh;let hql:t.slot (aD t `f q).j=.live i:=by rw[q1];show BO T.ris hip rfl
    have hqn:q<n:=by
     rcases lt_trichotomy q n with z|z|z
     .show z
     .subst z;rw[hql]at hemp;cases hemp
     .show absurd hemp (q2 n z)
    by_cases hq0:q<n0
    .show hsofar q hq0 i hql (by rw[qh hi,ei,<-hxk];rfl)
    .let:=g2 (q-n0) ∅ i (by rw[<-Ak,show n0+(q-n0)=q by lia];show hql);apply this;rw[hent,qh hi,ei,<-hxk];rfl
   split
   .rename_i met heq;let h3:t.probe (λi=>(es[i]?.map (·.1)).getD 0) `P (aD t `f n0)=some met:=heq;rw[e]at h3;cases h3;show qb (h2 none_hit)
   .rename_i heq;show absurd e (heq _)
  .have e:t.probe (λi=>(es[i]?.map (·.1)).getD 0) `P (aD t `f n0)=some (.candidate (aD t `f (n0+m)).j i (aD t `f (n0+m+1))):=by unfold probe;rw[g4,<-Ak,<-Ak];rfl
   rw[<-Ak]at g2;let hip:∃hi:i<t.place.size,t.place[i]=(aD t `f (n0+m)).j:=by
    rcases Ax T.ris T.dum (aD t (t.probeStart (knd.hash k)) (n0+m)).j with⟨h,_⟩|⟨i',hi',ei',hl'⟩
    .rw[h]at g2;cases g2
    .rw[hl']at g2;cases g2;show#[hi',ei']
   let#[hip,_]:=hip;let hix:i<xs.length:=by rw[T.size]at hip;simp at hip;lia
   let hei:es[i]?=some (knd.hash xs[i].1,Value.ref xs[i].2):=by rw[hent,qh hix];rfl
   have hxi:=his xs[i] (getElem_mem hix);let body:wpAny `b A (match es[i]? with
     |some (_,y)=>do
      let equal<-holding [y] (eqBool y `cw)
      let __x<-setState a
      if(true&&equal)=true then pure (SetFound.there none)
       else
        match __x.2.snd.sameMemory t.moves t.mask with
        |some same=>
         match if same=true then __x.2.snd.slot (aD t (t.probeStart (knd.hash k)) (n0+m)).j else Slot.empty with
         |Slot.live i'=>
          match __x.fst[i']? with
          |some (_,y')=>do
           let __do_lift<-isSame y' y
           let still<-pure (if __do_lift=true then some i' else none)
           match still with
            |none=>do
             rule "set.search.anew"
             setSearchFrom a `cw `P true r none
            |some i'=>
             if equal=true then pure (SetFound.there (some i'))
             else setSearchFrom a `cw `P true r (some (aD t `f (n0+m+1)))
          |none=>do
           let still<-pure none
           match still with
            |none=>do
             rule "set.search.anew"
             setSearchFrom a `cw `P true r none
            |some i'=>
             if equal=true then pure (SetFound.there (some i'))
             else setSearchFrom a `cw `P true r (some (aD t `f (n0+m+1)))
         |x=>do
          let still<-pure none
          match still with
           |none=>do
            rule "set.search.anew"
            setSearchFrom a `cw `P true r none
           |some i'=>
            if equal=true then pure (SetFound.there (some i'))
            else setSearchFrom a `cw `P true r (some (aD t `f (n0+m+1)))
        |x=>unsupported "set.changed-during-lookup:is-the-new-block-at-the-old-address"
     |x=>unsupported "internal:set-entry") Q E s:=by
    rw[hei];show qa (zf (knd.eqBool hu hxi hk ?_));show qa (wpAny_setState_of ho hd hsz ?_);by_cases hkk:xs[i].1=k
    .rw[qR hkk];show qb (h1 (qK.mpr #[xs[i],getElem_mem hix,hkk]))
    .rw[qS hkk];let hsm:t.sameMemory t.moves t.mask=some true:=by unfold sameMemory;simp
     rw[hsm];dsimp only;rw[q4 rfl,g2];dsimp only;rw[hei];show qa (wpAny_isSame_ref_self ?_);rw[q4 rfl];show qa (qb ?_);show ih (n0+m+1) _ ∅ ∅ rfl λq hq i' hl'=>?_;rcases lt_or_ge q n0 with z|z
     .show hsofar q z i' hl'
     .rcases lt_or_ge q (n0+m)with z2|z2
      .intro hc;show g5 (q-n0) ∅ i' (by rw[<-Ak,show n0+(q-n0)=q by lia];show hl') ?_;rw[hent];cases hx:xs[i']? with
       |none=>rw[hx]at hc;cases hc
       |some x=>rw[hx]at hc;let:x.1=k:=qf hc;rw[<-this];rfl
      .let:q=n0+m:=by lia
       subst this;rw[g2]at hl';cases hl';rw[qh hix];show λz=>hkk (qf z)
   split
   .rename_i met heq;let h3:t.probe (λi=>(es[i]?.map (·.1)).getD 0) `P (aD t `f n0)=some met:=heq;rw[e]at h3;cases h3;dsimp only;split
    .refine qa (Gf hcl hk (λv hv=>?_) ?_)
     .obtain⟨p,hp,rfl⟩:=qK.mp hv;let hp2:p∈es.toList:=by let:=mem_toList_iff.mp hp;exact mem_toList_iff.mpr (Array.mem_filter.mp this).1
      rw[he]at hp2;let#[x,hx,rfl]:=qK.mp hp2;show#[x.1,x.2,rfl,his x hx]
     .simp;show body
    .show body
   .rename_i heq;show absurd e (heq _)
def fK(t:SetTable)(n:Nat):Prop:=n*5<t.mask*3
@[inline]def TSet(ld:Bool)(knd:HeapKind prog w K)(h:Heap)(a:Addr)(xs:List (K×Addr)):Prop:=∃o es ep t,h.get? a=some o/\o.ExactSet/\o.data=.set es ep t/\t.led=ld/\iD t (es.toList.map (·.1))/\fK t es.size/\es.toList=fC knd xs/\(∀x∈xs,knd.is h x.1 x.2)/\(xs.map (·.1)).Nodup
def Dy(T:iD t hs):iD {t with plain:=p} hs:=by let F:∀n q,aD {t with plain:=p} q n=aD t q n:=Ay rfl;let B:∀b,SetTable.probeStart {t with plain:=p} b=t.probeStart b:=Aw rfl;let z:∀j,SetTable.slot {t with plain:=p} j=t.slot j:=λj=>rfl;show#[T.ris,T.dum,T.mask,T.size,T.le,T.few,λi hi h v=>?_];let#[n,a,b]:=T.reach i hi h v;grind
def Cq(h:n<=1000):n<=sizeLine:=by rw[ze];lia
def AL{h:Heap}(z:h.get? a=some o)(v:o.data=.set es ep t):(h.update a (Obj.putSet es' t')).get? a=some {o with data:=.set es' (ep+1) t'}:=by let:=za (Obj.putSet es' t') z (by rw[putSet_of es' t' v];rfl);rw[putSet_of es' t' v]at this;show this
def Eb(O:s.heap.get? a=some o)(Y:o.data=.set es ep t)(T:iD t (es.toList.map (·.1)))(hn:es.size=n)(J:bY (sizeAbove B-1))(hr:n*5<(sizeAbove B-1)*3)
  (h:∀es' t',es'.toList.Perm es.toList->iD t' (es'.toList.map (·.1))->t'.mask=sizeAbove B-1->t'.led=t.led->Q () {s with heap:=s.heap.update a (Obj.putSet es' t')}):wpAny `b A (setRelay a B) Q E s:=by
 let hm:sizeAbove B-1<=511:=by rcases J with z|z|z|z|z|z|z<;>lia
 let L:es.size<=sizeAbove B-1:=∅
 let#[t',v,e1,e2,e3,e4,e5,e6]:=Ep (finger:=t.finger) (moves:=t.movedTo (sizeAbove B-1)) (led:=t.led) (plain:=t.plain) J L;let G:(v.filterMap (es[·]?)).size=es.size:=by rw[<-qV,e2.length_eq,qV]
 show qa (wpAny_setState_of O Y (T.fits (by simp)) ?_);dsimp only;let F:¬(sizeAbove B>sizeLine):=by rw[ze];lia
 rw[q5 F];let M:t.relaid (es.map (·.1)) B=some (t',v):=e1;rw[M];show qa ?_;show wpAny `b A (if((v.filterMap (es[·]?)).size !=es.size)=true then _ else _) _ E s;rw[G];simp;show qb ?_;show wpAny_storeSet_of O Y (h _ t' e2 e3 e4 e5) (Cq (by rw[G];lia))
def EZ(h:bY m):7<=m/\m<=511:=by rcases h with z|z|z|z|z|z|z<;>lia
def DH(h:l.Perm (fC knd xs)):∃ys,ys.Perm xs/\l=fC knd ys:=by
 unfold fC at h;induction l generalizing xs with
 |nil=>
  let:=h.length_eq;let v:xs=[]:=↑this.symm
  subst v;show#[[],.refl _,rfl]
 |cons e l F=>
  let G:e∈xs.map λp=>(knd.hash p.1,Value.ref p.2):=h.mem_iff.mp (by simp);let#[x,v,rfl]:=qK.mp G;let#[B,z,rfl]:=append_of_mem v;let h2:l.Perm ((B++z).map λp=>(knd.hash p.1,Value.ref p.2)):=by grind
  let#[ys,p,rfl]:=F h2;show#[x::ys,(List.Perm.cons x p).trans perm_middle.symm,rfl]
theorem Gy(hcl:∀{k:K}{b:Addr}{Q:Bool->Shared->Prop},knd.is s.heap k b->Q false s->wpAny `b A (ofAClassStatement 8 `ak) Q E s)(hbv:∀{k:K}{b:Addr}{Q:Bool->Shared->Prop},knd.is s.heap k b->(∀r,Q r s)->wpAny `b A (hashByValue 8 `ak) Q E s)
  (hkp:∀{h h':Heap}{k:K}{c:Addr}{o:Obj}{es:Array (Int×Value)}{ep:Nat}{t:SetTable},knd.is h k c->h.get? a=some o->o.data=.set es ep t->Heap.SameBut a h h'->knd.is h' k c)
  (hu:knd.room A)(hk:knd.is s.heap k b)(hS:TSet ld knd s.heap a xs)(hroom:xs.length<=150)
  (h1:k∈xs.map (·.1)->Q false s)(h2:k∉xs.map (·.1)->∀h' ys,Heap.SameBut a s.heap h'->ys.Perm ((k,b)::xs)->TSet ld knd h' a ys->Q true {s with heap:=h'}):
  wpAny `b A (setAddHashed a `ak `P) Q E s:=by
 let#[o,es,ep,t,ho,hex,hd,hld,T,hrm,he,his,hnd]:=hS;let hsz:t.fits es.size=true:=T.fits (by simp);let zJ:es.size=xs.length:=by rw[<-qV,he];simp[fC]
 let#[n,hf,hemp,hne]:=T.free `P;let hmk:t.mask<=511:=by rcases T.mask with z|z|z|z|z|z|z<;>lia
 show zf (qa (wpAny_setState_of ho hd hsz ?_));dsimp only;let hbs:byScan `ak es=false:=by simp[byScan,Value.scannable]
 rw[hbs];show qa ?_;show Cr hcl hu hk ho hd he his T hf hemp hne (λhm=>?_) (λhm=>?_) 100000 0 none `cq (by unfold turns at hf;lia) rfl (λm hm=>by lia)
 .show qb (h1 hm)
 .dsimp only;show qa (wpAny_setState_of ho hd hsz ?_);let hjm:=Cc (t:=t) (h:=knd.hash k) T.mask n;let hfew:(es.toList.map (·.1)).length+1<=t.mask:=by grind[length_map,length_toList,EZ,fK]
  let TP:=T.put hemp hne hjm hfew;generalize hj:(aD t `f n).j=j at*;let#[e1,e2,e3,e4]:=Bc (t:=t) (j:=j) T.dum;let epl:(t.put j).1.led=t.led:=by unfold SetTable.put;first|rfl|(split<;>rfl)
  generalize hp:t.put j=tp at*;let#[t1,p]:=tp
  --the things behind it
  let hel:(insertAt es p (knd.hash k,Value.ref b)).toList=es.toList.take p++(knd.hash k,Value.ref b)::es.toList.drop p:=toList_insertAt ..;let TP':iD t1 ((insertAt es p (knd.hash k,Value.ref b)).toList.map (·.1)):=by simp_all
  let hys:(insertAt es p (knd.hash k,Value.ref b)).toList=fC knd (xs.take p++(k,b)::xs.drop p):=by rw[hel,he];unfold fC;simp_all
  let hyp:(xs.take p++(k,b)::xs.drop p).Perm ((k,b)::xs):=by grind[perm_middle.trans,take_append_drop]
  let hsz1:(insertAt es p (knd.hash k,Value.ref b)).size=es.size+1:=by rw[<-qV,hys];grind
  let all:∀{h':Heap}{ys:List (K×Addr)},Heap.SameBut a s.heap h'->ys.Perm ((k,b)::xs)->(∀x∈ys,knd.is h' x.1 x.2)/\(ys.map (·.1)).Nodup:=λ{h' ys} sb pm=>by grind
  have tail:∀t2:SetTable,iD t2 ((insertAt es p (knd.hash k,Value.ref b)).toList.map (·.1))->t2.mask=t.mask->t2.led=t.led->wpAny `b A (do
    storeSet a (insertAt es p (knd.hash k,Value.ref b)) t2
    if(!false&&t2.tooFull)=true then do
       setRelay a (grown (es.size+1))
       pure true
     else pure true) Q E s:=λt2 T2 em el=>by
   show qa (wpAny_storeSet_of ho hd ?_ (Cq ∅));let ho1:=AL (es':=insertAt es p (knd.hash k,Value.ref b)) (t':=t2) ho hd;let hsb1:=Heap.SameBut.update s.heap a (Obj.putSet (insertAt es p (knd.hash k,Value.ref b)) t2);let hfill:t2.fill=es.size+1:=by unfold fill;rw[T2.size,T2.dum,qo,qV,hsz1];rfl
   by_cases hfull:t2.tooFull=true
   .rw[hfull];let hn5:bY (sizeAbove (grown (es.size+1))-1)/\(es.size+1)*5<(sizeAbove (grown (es.size+1))-1)*3:=by
     unfold tooFull at hfull;unfold fK at hrm;rcases T.mask with z|z|z|z|z|z|z
     .rw[show es.size+1=5 by lia];show#[.inr (.inr (.inl ⋯)),⋯]
     .rw[show es.size+1=9 by lia];show#[.inr (.inr (.inr (.inl ⋯))),⋯]
     .rw[show es.size+1=19 by lia];show#[.inr (.inr (.inr (.inr (.inl ⋯)))),⋯]
     .rw[show es.size+1=38 by lia];show#[.inr (.inr (.inr (.inr (.inr (.inl ⋯))))),⋯]
     .rw[show es.size+1=77 by lia];show#[.inr (.inr (.inr (.inr (.inr (.inr ⋯))))),⋯]
     .lia
     .lia
    show qa (Eb (s:={s with heap:=s.heap.update a (Obj.putSet (insertAt es p (knd.hash k,Value.ref b)) t2)}) ho1 rfl T2 hsz1 hn5.1 hn5.2 λes' t' pm T' rm rl=>qb ?_);rw[hys]at pm;let#[ys,pm2,ey]:=DH pm;let sb2:=hsb1.trans (Heap.SameBut.update (s.heap.update a (Obj.putSet (insertAt es p (knd.hash k,Value.ref b)) t2)) a (Obj.putSet es' t'));let hz':es'.size=es.size+1:=by rw[<-qV,ey];let:=(pm2.trans hyp).length_eq;grind[fC,length_map,length_cons]
    let#[i1,i2]:=all sb2 (pm2.trans hyp);show h2 hm _ ys sb2 (pm2.trans hyp) #[_,es',_,t',AL ho1 rfl,hex,rfl,rl.trans (el.trans hld),T',by unfold fK;rw[hz',rm];show hn5.2,ey,i1,i2]
   .rw[Bool.not_eq_true]at hfull;rw[hfull];let#[i1,i2]:=all hsb1 hyp;show qb (h2 hm _ _ hsb1 hyp #[_,_,_,t2,ho1,hex,rfl,el.trans hld,T2,?_,hys,i1,i2]);unfold tooFull at hfull;grind[fK]
  split
  .show qa (hbv hk λr=>?_);cases r with
   |true=>show tail t1 TP' e2 epl
   |false=>show tail {t1 with plain:=false} (Dy TP') e2 epl
  grind
end
end ST
namespace ST
open PySem
section
variable{prog:Program}{w:World}{K:Type}[DecidableEq K]{knd:KeyKind prog w K}{A:Around}{E:zj}{s:Shared}{ks:List K}{b:Addr}
def DJ(h:carriedByValue v=true):ofAClassStatement n v=pure false:=by
 cases v with
 |ref a=>simp[carriedByValue]at h
 |_=>first|rfl|simp|(unfold ofAClassStatement;rfl)
def Ex(h:carriedByValue v=true):∃r,hashByValue n v=pure r:=by
 cases v with
 |ref a=>simp[carriedByValue]at h
 |float bits t=>show#[(Float64.hash? bits).isSome,by rw[hashByValue]]
 |none|bool _|int _ _=>show#[true,by rw[hashByValue]]
 |_=>show#[false,by rw[hashByValue]]
def Dx(F:IsTupleKey knd s.heap ks b)(h:Q false s):wpAny `b A (ofAClassStatement 8 `ak) Q E s:=by
 let M:=F.typeIs;let#[o,items,n,J,_,L,hi]:=F;unfold ofAClassStatement;show qa (wpAny_typeOf M ?_);dsimp only;show qa (qb ?_);show qa (wpAny_seqItems J L ?_);show qa ?_;rw[<-Array.forIn_toList];show wpAny_forIn_list _ (λrest r s'=>r.1=none/\s'=s/\∀v∈rest,carriedByValue v=true) _ ?_ ?_ _ _ #[rfl,rfl,hi.byValue]
 .rintro v rest r s' ⟨B,rfl,z⟩;rw[DJ (z v qm)];show qa (qb ?_);show qb #[rfl,rfl,λx G=>z x (qk _ G)]
 .rintro r s' ⟨B,rfl,_⟩;rw[B];show qb h
def DT(B:IsTupleKey knd s.heap ks b)(h:∀r,Q r s):wpAny `b A (hashByValue 8 `ak) Q E s:=by
 let M:=B.typeIs;let#[o,items,n,J,_,L,hi]:=B;show qa (wpAny_specialOf M F.slot_tuple_hash.lookup ?_);dsimp only;show qa (wpAny_seqItems J L ?_);show qa ?_;rw[<-Array.forIn_toList];show wpAny_forIn_list _ (λrest r s'=>s'=s/\∀v∈rest,carriedByValue v=true) _ ?_ ?_ _ _ #[rfl,hi.byValue]
 .rintro v rest r s' ⟨rfl,z⟩;let#[c,e]:=Ex (n:=7) (z v qm);rw[e];show qa (qb ?_);cases c
  .show qb (qb (h _))
  .show qb #[rfl,λx G=>z x (qk _ G)]
 .rintro r s' ⟨rfl,_⟩;cases r.1<;>show qb (h _)
def Dw(x:IsTupleKey knd h ks b)(G:h.get? a=some o)(J:o.data=.set es ep t)(hs:Heap.SameBut a h h'):IsTupleKey knd h' ks b:=by
 let#[o',items,n,v,F,B,hi]:=x;let z:b≠a:=by grind
 show#[o',items,n,(hs.2 b z).trans v,F,B,hi]
end
def CV(hn:n≠0)(h:∀i,i<n->∀d,Q i {s with drawn:=d}):wpAny `b A (choose .order n) Q E s:=
 λ_ _ _=>#[hn,h _ (mod_lt _ (Nat.pos_of_ne_zero hn)) _]
def CB:∀(n:Nat){xs:List α}{s:Shared}{Q:List α->Shared->Prop},xs.length=n->(∀ys d,ys.Perm xs->Q ys {s with drawn:=d})->wpAny `b A (drawOrder n xs) Q E s
 |0,xs,s,Q,e,h=>by
  cases xs with
  |nil=>show qb (h [] s.drawn .nil)
  |cons _ _=>cases e
 |n+1,xs,s,Q,e,h=>by
  cases xs with
  |nil=>cases e
  |cons x xs=>show qa (CV (by simp) λi hi d=>?_);rw[qh hi];show qa (CB n (by rw[List.length_eraseIdx,q4 hi,e];rfl) λys z v=>?_);show qb (h _ z ((v.cons _).trans ?_));rw[List.eraseIdx_eq_take_drop_succ];show perm_middle.symm.trans ?_;rw[List.getElem_cons_drop,take_append_drop]
def AG(h:Q (w.params.followText "set-order") s):wpAny `b A setsByText Q E s:=qa (wpAny_askSetting (qb h))
theorem slot_next:Slot "set_iterator" "__next__" "set_iterator.__next__":=
 .of (owner:="set_iterator") (n:="__next__") (by rw[typeLookup_type];kernel_rfl) (by decide+kernel) (by decide+kernel) (by decide+kernel)
  (by first|show .inl (by decide+kernel)|show .inr (by decide+kernel)) (by rw[isSubtype_type];kernel_rfl)
def AF:entryFor table "set_iterator.__next__"=some Builtin.«set_iterator.__next__»:=entryFor_of_tree (by kernel_rfl)
def AO(a:Value):argsOk "set_iterator.__next__" #[[a],[]]:=by unfold argsOk;kernel_rfl
def BN:Slot "set_iterator" "__iter__" "set_iterator.__iter__":=
 .of (owner:="set_iterator") (n:="__iter__") (by rw[typeLookup_type];kernel_rfl) (by decide+kernel) (by decide+kernel) (by decide+kernel)
  (by first|show .inl (by decide+kernel)|show .inr (by decide+kernel)) (by rw[isSubtype_type];kernel_rfl)
def CS:entryFor table "set_iterator.__iter__"=some Builtin.«dict_keyiterator.__iter__»:=
 entryFor_alias (id':="dict_keyiterator.__iter__") (by kernel_rfl) rfl (by decide+kernel) (by kernel_rfl)
def DK(a:Value):argsOk "set_iterator.__iter__" #[[a],[]]:=by unfold argsOk;kernel_rfl
def mZ(h:Heap)(I a:Addr)(f:Value)(i n ep:Nat):Prop:=∃o,h.get? I=some o/\o.cls=.type "set_iterator"/\o.data=.fields [f,.int i 0,.ref a,.int n 0,.int ep 0].toArray
@[inline]def SetAt(h:Heap)(a:Addr)(es:Array (Int×Value))(ep:Nat)(t:SetTable):Prop:=∃o,h.get? a=some o/\o.data=.set es ep t/\t.fits es.size=true
@[inline]def TupAt(h:Heap)(p:Addr)(ys:List Nat):Prop:=∃o c,h.get? p=some o/\o.data=.seq (ys.map λi:Nat=>rawInt (i:Int)).toArray c
def mZ.typeIs{s:Shared}(x:mZ s.heap I a f i n ep):s.TypeIs `dm "set_iterator":=let⟨o,ho,hc,_⟩:=x;#[o,ho,hc]
def CN(hit:mZ s.heap I a `w i es.size ep)(hs:SetAt s.heap a es ep t)(O:TupAt s.heap p ys)(Y:ys[i]?=some j)(he:es[j]?=some e)
  (hQ:∀h',mZ h' I a `w (i+1) es.size ep->Heap.SameBut I s.heap h'->Q (some e.2) {s with heap:=h'}):wpAny `b A (pyNext `dm) Q E s:=by
 obtain⟨o,J,hc,G⟩:=id hit;let#[o',z,F,L]:=hs;let#[M,c,v,B]:=O;refine qa (wpAny_attempt (wpAny_callSpecial?_slot (name:=Str.ofString "__next__") hit.typeIs slot_next
  (zd slot_next hit.typeIs AF ?_ (AO _))))
 show wpAny _ _ (fieldsOf `dm>>=_) _ _ s;show qa (wpAny_fieldsOf J G ?_);show qa (qa (wpAny_setState_of z F L (qb ?_)));rw[q5 (by simp)];show qa (wpAny_seqItems v B ?_);dsimp only;rw[qW,List.getElem?_toArray,qF,Y];dsimp only[map_some,rawInt];show qa (qa (wpAny_setState_of z F L ?_));dsimp only;rw[q5 (by simp),qW,he];show qb (qa (wpAny_setField J G (by simp) (qb #[_,rfl,qb (hQ _ ?_ (Heap.SameBut.update ..))])));show#[_,za _ J (Obj.isFreed_of_fields (Obj.data_mapFields G _)),(Obj.cls_mapFields ..).trans hc,by rw[Obj.data_mapFields G];simp]
def DI(Y:A.handled=none)(hit:mZ s.heap I a `w i es.size ep)(hs:SetAt s.heap a es ep t)(M:TupAt s.heap p ys)(O:ys[i]?=none)
  (hQ:∀h',Heap.ExtBut I s.heap h'->Q none {s with heap:=h'}):wpAny `b A (pyNext `dm) Q E s:=by
 obtain⟨o,G,hc,B⟩:=id hit;let#[o',F,J,hf]:=hs;let#[L,c,v,z]:=M;refine qa (wpAny_attempt (wpAny_callSpecial?_slot (name:=Str.ofString "__next__") hit.typeIs slot_next
  (zd slot_next hit.typeIs AF ?_ (AO _))))
 show wpAny _ _ (fieldsOf `dm>>=_) _ _ s;show qa (wpAny_fieldsOf G B ?_);show qa (qa (wpAny_setState_of F J hf (qb ?_)));rw[q5 (by simp)];show qa (wpAny_seqItems v z ?_);dsimp only;rw[qW,List.getElem?_toArray,qF,O];show qa (wpAny_setField G B (by simp) ?_);show qa (wpAny_setField (za _ G (Obj.isFreed_of_fields (Obj.data_mapFields B _))) (Obj.data_mapFields B _) (by simp) ?_);show qa ?_;show qa (zc ?_ (by size_fits));show qa (m:=firstArgMember _ _) (zg (a:=Value.none) (by first|rfl|(simp;rfl)) ?_);show zc ?_ (by size_fits);show qa (wpAny_handled ?_);rw[show A.in1.handled=none from Y];show qa (qb (wpAny_throw ?_));show qa (wpAny_isInstance (T:="StopIteration") (b:=true) ⟨_,qd _ rfl,rfl⟩ isSubtype_stop ?_);show qb (hQ _ ((((Heap.SameBut.update ..).trans (Heap.SameBut.update ..)).extBut.push _).push _))
def Cu{slot slot':Nat}(hit:mZ s.heap I a (.int slot 0) i es.size ep)(hs:SetAt s.heap a es ep t)
  (hn:∀(A:Around)(E:zj)(R:Option (Value×Nat)->Shared->Prop),R (some (v,slot')) s->wpAny `b A `dt R E s)
  (M:∀h',mZ h' I a (.int slot' 0) (i+1) es.size ep->Heap.SameBut I s.heap h'->Q `I {s with heap:=h'}):wpAny `b A (pyNext `dm) Q E s:=by
 obtain⟨o,B,L,z⟩:=id hit;let#[o',F,G,J]:=hs;refine qa (wpAny_attempt (wpAny_callSpecial?_slot (name:=Str.ofString "__next__") hit.typeIs slot_next
  (zd slot_next hit.typeIs AF ?_ (AO _))))
 show wpAny _ _ (fieldsOf `dm>>=_) _ _ s;show qa (wpAny_fieldsOf B z ?_);dsimp only;show qa (qa (wpAny_setState_of F G J (qb ?_)));rw[q5 (by simp)];show qa (hn _ _ _ ?_);show qa (wpAny_setField B z (by simp) ?_);show qa (wpAny_setField (za _ B (Obj.isFreed_of_fields `bj)) `bj (by simp) ?_);show qb #[_,rfl,qb (M _ ?_ ((Heap.SameBut.update ..).trans (Heap.SameBut.update ..)))];show#[_,za _ (za _ B (Obj.isFreed_of_fields `bj)) (Obj.isFreed_of_fields (Obj.data_mapFields `bj _)),(Obj.cls_mapFields ..).trans ((Obj.cls_mapFields ..).trans L),by rw[Obj.data_mapFields `bj];simp[rawInt]]
def Dr{slot:Nat}(G:A.handled=none)(hit:mZ s.heap I a (.int slot 0) i es.size ep)(hs:SetAt s.heap a es ep t)
  (hn:∀(A:Around)(E:zj)(R:Option (Value×Nat)->Shared->Prop),R none s->wpAny `b A `dt R E s)
  (L:∀h',Heap.ExtBut I s.heap h'->Q none {s with heap:=h'}):wpAny `b A (pyNext `dm) Q E s:=by
 obtain⟨o,B,M,F⟩:=id hit;let#[o',v,z,J]:=hs;refine qa (wpAny_attempt (wpAny_callSpecial?_slot (name:=Str.ofString "__next__") hit.typeIs slot_next
  (zd slot_next hit.typeIs AF ?_ (AO _))))
 show wpAny _ _ (fieldsOf `dm>>=_) _ _ s;show qa (wpAny_fieldsOf B F ?_);dsimp only;show qa (qa (wpAny_setState_of v z J (qb ?_)));rw[q5 (by simp)];show qa (hn _ _ _ ?_);show qa (wpAny_setField B F (by simp) ?_);show qa ?_;show qa (zc ?_ (by size_fits));show qa (m:=firstArgMember _ _) (zg (a:=Value.none) (by first|rfl|(simp;rfl)) ?_);show zc ?_ (by size_fits);show qa (wpAny_handled ?_);rw[show A.in1.handled=none from G];show qa (qb (wpAny_throw ?_));show qa (wpAny_isInstance (T:="StopIteration") (b:=true) ⟨_,qd _ rfl,rfl⟩ isSubtype_stop ?_);show qb (L _ (((Heap.SameBut.update ..).extBut.push _).push _))
def Bs(hit:mZ s.heap I a f i n ep)(h:Q `dm s):wpAny `b A (pyIter `dm) Q E s:=by show wpAny_pyIter_slot hit.typeIs BN (zd BN hit.typeIs CS ?_ (DK _));show qb #[_,rfl,"set_iterator",_,hit.typeIs,slot_next.lookup,h]
end ST
namespace ST
open PySem PySem.SetTable
section
variable{prog:Program}{w:World}{A:Around}{E:zj}{s:Shared}{I a p:Addr}{es:Array (Int×Value)}{ep i slot:Nat}{t:SetTable}{ys:List Nat}
def AS(hs:SetAt s.heap a es ep t)(L:w.params.followText "set-order"=false)(z:¬(!t.plain&&decide (es.size>1))=true)(F:t.led=true)
  (h:R (match es[below t.place slot]?,t.place[below t.place slot]? with|some (_,x),some j=>some (x,j+1)|_,_=>none) s):wpAny `b A `dt R E s:=by
 let#[o',v,B,G]:=hs;show qa (wpAny_setState_of v B G ?_);show qa (AG ?_);rw[L,q5 ⋯];split
 .rename_i J;show absurd J z
 .show qa ?_;show wpAny _ _ (if(!t.led&& !es.isEmpty)=true then _ else _) _ _ _;rw[F];show qb ?_;show qb h
def AX(hs:SetAt s.heap a es ep t)(F:w.params.followText "set-order"=true)
  (h:R (((pickOrder `ac es)[i]?).map λe=>(e.2,slot)) s):wpAny `b A `dt R E s:=by
 let#[o',v,z,B]:=hs;show qa (wpAny_setState_of v z B ?_);show qa (AG ?_);rw[F,q4 rfl,q5 (by simp)];show qa ?_;show qa (wpAny_setState_of v z B ?_);show qa (AG ?_);rw[F];show qa (wpAny_askSetting ?_);show qb (qb h)
def CW(v:Rising xs):below xs 0=0:=by
 let#[h1,h2,B]:=AB (j:=0) v;rcases Nat.eq_zero_or_pos (below xs 0)with z|z
 .show z
 .show absurd (h2 0 ∅ z) (Nat.not_lt_zero _)
def CY(v:Rising xs)(hi:i<xs.size):below xs (xs[i]+1)=i+1:=by
 let#[h1,h2,B]:=AB (j:=xs[i]+1) v;let a:i<below xs (xs[i]+1):=Nat.lt_of_not_le λz=>absurd (B i hi z) ∅;rcases lt_or_ge (i+1) (below xs (xs[i]+1))with z|z
 .let b:=h2 (i+1) ∅ z;let c:=v i (i+1) hi ∅ ∅;lia
 .lia
end
def Dm(f:Nat->Nat):∀(n k:Nat)(left:List α)(v:Array α),left.length=n->((pickOrder.go f n k left v).toList).Perm (v.toList++left)
 |0,k,left,v,e=>by
  cases left with
  |nil=>unfold pickOrder.go;simp
  |cons _ _=>cases e
 |n+1,k,left,v,e=>by let hi:f k %left.length<left.length:=mod_lt _ ∅;unfold pickOrder.go;rw[qh hi];show(Dm f n (k+1) _ _ (by rw[List.length_eraseIdx,q4 hi,e];rfl)).trans ?_;rw[toList_push,qp];show List.Perm.append_left _ ?_;show(left[f k %left.length]::left.eraseIdx (f k %left.length)).Perm left;rw[List.eraseIdx_eq_take_drop_succ];show perm_middle.symm.trans ?_;rw[List.getElem_cons_drop,take_append_drop]
def Bd(f:Nat->Nat)(xs:Array α):((pickOrder f xs).toList).Perm xs.toList:=by let:=Dm f xs.size 0 xs.toList #[] (by simp);first|rfl|assumption|(simp_all;done)
def SetAt.same(x:SetAt h a es ep t)(hs:Heap.SameBut I h h')(v:a≠I):SetAt h' a es ep t:=let⟨o,ho,r⟩:=x;#[o,(hs.2 a v).trans ho,r]
def TupAt.same(x:TupAt h p ys)(hs:Heap.SameBut I h h')(v:p≠I):TupAt h' p ys:=let⟨o,c,ho,r⟩:=x;#[o,c,(hs.2 p v).trans ho,r]
def gW(ord:List (Int×Value))(i:Nat)(v:Value):Prop:=∃e,ord[i]?=some e/\v=e.2
def Co(hh:A.handled=none){ord:List (Int×Value)}(ho:ord.length=es.size)(hy:ys.length=es.size)(hor:∀(i j:Nat),ys[i]?=some j->es[j]?=ord[i]?/\j<es.size)(ha:a≠I)(hp:p≠I):
  Walks prog w A I [I,a,p] [I] es.size (gW ord) (λi h=>mZ h I a `w i es.size ep/\SetAt h a es ep t/\TupAt h p ys) where
 sub:=λb hb=>by rw[qv.mp hb];simp
 frame:=λi h h' st hk=>by let#[#[o,h1,h2],#[o',h3,h4],#[o'',c,h5,h6]]:=st;show#[#[o,hk I (by simp) o h1,h2],#[o',hk a (by simp) o' h3,h4],#[o'',c,hk p (by simp) o'' h5,h6]]
 item:=λi s Q E hi st hQ=>by let hj:ys[i]?=some (ys[i]'∅):=qh ∅;let#[he,hlt]:=hor i _ hj;let hoi:ord[i]?=some (ord[i]'∅):=qh ∅;show CN st.1 st.2.1 st.2.2 hj (he.trans hoi) λh' hit' hs'=>?_;show hQ _ h' s.toks #[_,hoi,rfl] #[hit',st.2.1.same hs' ha,st.2.2.same hs' hp] λb o hb e=>hs'.extBut b o (λz=>hb (by simp[z])) e
 done:=λs Q E st hQ=>DI hh st.1 st.2.1 st.2.2 (qQ ∅) λh' he'=>hQ h' s.toks λb o hb e=>he' b o (λz=>hb (by simp[z])) e
 self:=λ_ _ _ _ st hQ=>Bs st.1 hQ
def CH(hh:A.handled=none)(hb:w.params.followText "set-order"=true)(ha:a≠I):
  Walks prog w A I [I,a] [I] es.size (gW (pickOrder `ac es).toList) (λi h=>mZ h I a (.int ((0:Nat):Int) 0) i es.size ep/\SetAt h a es ep t) where
 sub:=λb hb=>by rw[qv.mp hb];simp
 frame:=λi h h' st hk=>by let#[#[o,h1,h2],#[o',h3,h4]]:=st;show#[#[o,hk I (by simp) o h1,h2],#[o',hk a (by simp) o' h3,h4]]
 item:=λi s Q E hi st hQ=>by let hl:=(Bd `ac es).length_eq;rw[qV,qV]at hl;let hoi:(pickOrder `ac es)[i]?=some ((pickOrder `ac es)[i]'∅):=getElem?_eq_getElem ∅;show Cu (slot':=0) st.1 st.2 (λA E R hR=>AX st.2 hb (by rw[hoi];show hR)) λh' hit' hs'=>?_;show hQ _ h' s.toks #[_,by rw[qZ];show hoi,rfl] #[hit',st.2.same hs' ha] λb o hb e=>hs'.extBut b o (λz=>hb (by simp[z])) e
 done:=λs Q E st hQ=>by let hl:=(Bd `ac es).length_eq;rw[qV,qV]at hl;show Dr hh st.1 st.2 (λA E R hR=>AX st.2 hb (by rw[Array.getElem?_eq_none ∅];show hR)) λh' he'=>hQ h' s.toks λb o hb e=>he' b o (λz=>hb (by simp[z])) e
 self:=λ_ _ _ _ st hQ=>Bs st.1 hQ
def Cn(hh:A.handled=none)(hb:w.params.followText "set-order"=false)(hnd:¬(!t.plain&&decide (es.size>1))=true)(hl:t.led=true)(hr:Rising t.place)(hz:t.place.size=es.size)(ha:a≠I):
  Walks prog w A I [I,a] [I] es.size (gW es.toList) (λi h=>∃slot:Nat,mZ h I a (.int slot 0) i es.size ep/\below t.place slot=i/\SetAt h a es ep t) where
 sub:=λb hb=>by rw[qv.mp hb];simp
 frame:=λi h h' st hk=>by let#[sl,#[o,h1,h2],hbl,#[o',h3,h4]]:=st;show#[sl,#[o,hk I (by simp) o h1,h2],hbl,#[o',hk a (by simp) o' h3,h4]]
 item:=λi s Q E hi st hQ=>by
  let#[sl,hit,hbl,hs]:=st;let hi':i<t.place.size:=∅
  show Cu (slot':=t.place[i]+1) (v:=es[i].2) hit hs (λA E R hR=>AS hs hb hnd hl (by rw[hbl,getElem?_eq_getElem hi,getElem?_eq_getElem hi'];show hR)) λh' hit' hs'=>?_;show hQ _ h' s.toks #[es[i],by rw[qZ];show getElem?_eq_getElem hi,rfl] #[_,hit',CY hr hi',hs.same hs' ha] λb o hb e=>hs'.extBut b o (λz=>hb (by simp[z])) e
 done:=λs Q E st hQ=>by let#[sl,hit,hbl,hs]:=st;show Dr hh hit hs (λA E R hR=>AS hs hb hnd hl (by rw[hbl,Array.getElem?_eq_none `j];show hR)) λh' he'=>hQ h' s.toks λb o hb e=>he' b o (λz=>hb (by simp[z])) e
 self:=λ_ _ _ _ st hQ=>by let#[sl,hit,_]:=st;show Bs hit hQ
def CT:entryFor table "set.__iter__"=some Builtin.«frozenset.__iter__»:=
 entryFor_alias (id':="frozenset.__iter__") (by kernel_rfl) rfl (by decide+kernel) (by kernel_rfl)
theorem lt_of_get{h:Heap}(e:h.get? b=some o):b<h.objs.size:=Nat.lt_of_not_le λz=>by
 let:h.get? b=none:=by unfold Heap.get?;rw[Array.getElem?_eq_none z]
 rw[this]at e;cases e
def jF(es:Array (Int×Value))(j:Nat):Int×Value:=(es[j]?).getD (0,.none)
def DC(es:Array (Int×Value)):(List.range es.size).map (jF es)=es.toList:=by show List.ext_getElem (by simp) λi h1 h2=>?_;simp at h1;rw[List.getElem_map,List.getElem_range];unfold jF;rw[getElem?_eq_getElem h1];rfl
def Es(hT:s.TypeIs `p "set")(hs:SetAt s.heap a es ep t)(hr:Rising t.place)(hz:t.place.size=es.size)(h3:w.params.followText "set-order"=false->t.led=true)(hn:es.size<=300)
  (hQ:∀(I:Addr)(h':Heap)(d:Drawn)(ord:List (Int×Value))(fp:List Addr)(St:Nat->Heap->Prop),ord.Perm es.toList->(∀A':Around,A'.handled=none->Walks prog w A' I fp [I] es.size (gW ord) St)->St 0 h'->I∈fp->
   (∀b∈fp,(b=a\/s.heap.objs.size<=b)/\b<h'.objs.size)->(∀b o,s.heap.get? b=some o->h'.get? b=some o)->s.heap.objs.size<=I->Q `dm {s with heap:=h',drawn:=d}):wpAny `b A (pyIter `p) Q E s:=by
 let#[o',v,B,hf]:=id hs;let G:=lt_of_get v;show wpAny_pyIter_slot hT F.slot_set_iter (zd F.slot_set_iter hT CT ?_ (F.args_set_iter_1 _));unfold Builtin.«frozenset.__iter__» Builtin.Frozenset.slot0 slotArgs;simp only[isEmpty_nil,Bool.not_true,↓reduceIte,bind_assoc,qw,bne_self_eq_false];show qa (qb ?_);show qa (qb ?_);show qa (qa (wpAny_setEntries_of v B hf (qb ?_)));show qa (qa (wpAny_setState_of v B hf ?_));show qa (AG (qb ?_));let L:∀(h:Heap)(o:Obj)(b:Addr)(o2:Obj),h.get? b=some o2->(h.push o).get? b=some o2:=λh o b o2 e=>qc _ e;show wpAny _ _ (if(!w.params.followText "set-order"&&(!t.plain&&decide (es.size>1)))=true then _ else _) _ _ _;by_cases hc:(!w.params.followText "set-order"&&(!t.plain&&decide (es.size>1)))=true
 .rw[q4 hc];show qa (CB es.size (by simp) λys d hp=>?_);let O:ys.length=es.size:=by rw[hp.length_eq];simp
  let M:∀j∈ys,j<es.size:=λj Y=>qJ.mp (hp.mem_iff.mp Y);show qa (wpAny_newTuple ?_ (by rw[qo,O];show le_trans hn ⋯));show qa (qa (wpAny_setState_of (L _ _ _ _ v) B hf (qb ?_)));show qa (zc (qb #[_,rfl,"set_iterator",_,#[_,qd _ rfl,rfl],slot_next.lookup,?_]) (by size_fits));let g1:∀j,j<es.size->es[j]?=some (jF es j):=λj Y=>by unfold jF;rw[getElem?_eq_getElem Y];rfl
  let h5:(s.heap.push {cls:=.type "tuple",data:=.seq (ys.map λi:Nat=>rawInt (i:Int)).toArray}).get? s.heap.objs.size=some {cls:=.type "tuple",data:=.seq (ys.map λi:Nat=>rawInt (i:Int)).toArray}:=qd _ rfl;show hQ _ _ d (ys.map (jF es)) [_,a,s.heap.objs.size] _ ((hp.map _).trans (by rw[DC])) (λA' hA=>Co (ep:=ep) (t:=t) (ys:=ys) hA (by rw[qo,O]) O (λi j Y=>#[?_,M j (qM Y)]) ?_ ?_) #[#[_,qd _ rfl,rfl,rfl],#[_,L _ _ _ _ (L _ _ _ _ v),B,hf],#[_,_,L _ _ _ _ h5,rfl]] (by simp) (λb J=>?_) (λb o e=>L _ _ _ _ (L _ _ _ _ e)) ?_
  .rw[qF,Y];show g1 j (M j (qM Y))
  .rw[Heap.size_push];show ne_of_lt (lt_succ_of_lt G)
  .rw[Heap.size_push];show ne_of_lt `ef
  .rw[Heap.size_push,Heap.size_push];rw[Heap.size_push]at J;rcases qB.mp J with rfl|J
   .show#[.inr `am,lt_succ_self _]
   .rcases qB.mp J with rfl|J
    .show#[.inl rfl,lt_succ_of_lt (lt_succ_of_lt G)]
    .rw[qv.mp J];show#[.inr `j,lt_succ_of_lt `ef]
  .rw[Heap.size_push];show le_succ _
 .rw[q5 hc];show qa (qb ?_);show qa (qa (wpAny_setState_of v B hf (qb ?_)));show qa (zc (qb #[_,rfl,"set_iterator",_,#[_,qd _ rfl,rfl],slot_next.lookup,?_]) (by size_fits));let h2:a≠s.heap.objs.size:=ne_of_lt G;let h4:∀(o:Obj),∀b∈[s.heap.objs.size,a],(b=a\/s.heap.objs.size<=b)/\b<(s.heap.push o).objs.size:=λo b J=>by
   rw[Heap.size_push];rcases qB.mp J with rfl|J
   .show#[.inr `j,lt_succ_self _]
   .rw[qv.mp J];show#[.inl rfl,lt_succ_of_lt G]
  by_cases J:w.params.followText "set-order"=true
  .show hQ _ _ s.drawn _ [_,a] _ (Bd `ac es) (λA' hA=>CH (ep:=ep) (t:=t) hA J h2) #[#[_,qd _ rfl,rfl,rfl],#[_,L _ _ _ _ v,B,hf]] (by simp) (h4 _) (λb o e=>L _ _ _ _ e) `j
  .let h1:w.params.followText "set-order"=false:=by simpa using J
   show hQ _ _ s.drawn _ [_,a] _ (.refl _) (λA' hA=>Cn (ep:=ep) (t:=t) hA h1 (λz=>hc (by rw[h1,z];rfl)) (h3 h1) hr hz h2) #[0,#[_,qd _ rfl,rfl,rfl],CW hr,#[_,L _ _ _ _ v,B,hf]] (by simp) (h4 _) (λb o e=>L _ _ _ _ e) `j
def DE(hn:ord.length=n)(h:ItemsOf (gW ord) v n):v.toList=ord.map (·.2):=by
 show ext_getElem? λi=>?_;rw[qZ,qF];rcases lt_or_ge i n with hi|hi
 .let h1:v[i]?=some (v[i]'(by rw[h.1];show hi)):=getElem?_eq_getElem _;let#[e,B,z]:=h.2 i _ h1;rw[h1,B,z];rfl
 .rw[Array.getElem?_eq_none (by rw[h.1];show hi),qQ (by rw[hn];show hi)];rfl
def CC(hh:A.handled=none)(hT:s.TypeIs `p "set")(hs:SetAt s.heap a es ep t)(hr:Rising t.place)(hz:t.place.size=es.size)(h5:w.params.followText "set-order"=false->t.led=true)(hn:es.size<=300)
  (hQ:∀(s':Shared)(ord:List (Int×Value)),ord.Perm es.toList->(∀b o,s.heap.get? b=some o->s'.heap.get? b=some o)->s'.gens=s.gens->s'.os=s.os->s.toks<=s'.toks->Q (ord.map (·.2)) s'):wpAny `b A (collect `p) Q E s:=by
 let#[o',h4,hi,hf]:=id hs;let L:=lt_of_get h4;show qa (wpAny_runValue (codeAny_builtin F.entry_proto_collect ?_));show qa (zc ?_);show qb #[plainId_quiet F.plain_list_iadd _,codeAny_builtin F.entry_list_iadd ?_];let h2:(s.heap.push {cls:=.type "list",data:=.seq ([]:List Value).toArray}).get? s.heap.objs.size=some {cls:=.type "list",data:=.seq ([]:List Value).toArray}:=qd _ rfl;let h1:Builtin.List.listSameRef `g `p=false:=by simp[Builtin.List.listSameRef];show(ne_of_gt L)
 let e4:SetAt (s.heap.push {cls:=.type "list",data:=.seq ([]:List Value).toArray}) a es ep t:=#[o',qc _ h4,hi,hf]
 let O:Shared.TypeIs {s with heap:=s.heap.push {cls:=.type "list",data:=.seq ([]:List Value).toArray}} `p "set":=by let#[o2,e1,e2]:=hT;show#[o2,qc _ e1,e2]
 show wpAny _ A.in1 (Builtin.List.listExtendWith `g `p `g) _ _ _;show qa (wpAny_typeOf O ?_);rw[q5 (by rw[h1];decide)];show qa (Es O e4 hr hz h5 hn λI h' d ord fp St hp W h9 hI hx v h8=>?_);let M:Shared.TypeIs {s with heap:=h',drawn:=d} `p "set":=by let#[o2,e1,e2]:=O;show#[o2,v _ _ e1,e2]
 show qa (zf ?_);show qa (wpAny_specialOf M F.slot_set_len.lookup ?_);generalize hk:("set.__len__":String)=hd
 wp_delta
 subst hk;show qa (wpAny_isInstance (b:=true) M (by rw[isSubtype_type];kernel_rfl) ?_);show qa (wpAny_typeOf M ?_);show qb ?_;let G:=v _ _ h2;let WS:=(W A.in1 hh).toS;show qa (wpAny_rule ?_);show qa ?_;show qa (wpAny_updateSeq G rfl ?_);let B:=za (Obj.mapSeq (·.push Value.none)) G rfl;show wpAny_updateSeq (hz:=by seq_fits) B rfl ?_;let Y:=za (Obj.mapSeq (·.pop)) B rfl;let h3:∀b o,b≠s.heap.objs.size->h'.get? b=some o->((h'.update s.heap.objs.size (Obj.mapSeq (·.push Value.none))).update s.heap.objs.size (Obj.mapSeq (·.pop))).get? b=some o:=
  λb o J e=>(q9 _ _ (Ne.symm J)).trans ((q9 _ _ (Ne.symm J)).trans e)
 have h7:s.heap.objs.size∉fp:=λhm=>by
  rcases(hx _ hm).1 with z|z
  .show ne_of_gt L z
  .rw[Heap.size_push]at z;show Nat.not_succ_le_self _ z
 let e3:es.size<=sizeLine:=le_trans hn ⋯;show qb #[plainId_quiet F.plain_extend_loop _,codeAny_extend_loopS WS e3 _ h7 _ es.size 0 _ _ _ rfl `cq ((W A.in1 hh).frame 0 _ _ h9 λb J o e=>h3 b o (λz=>h7 (z▸J)) e) Y (ItemsOf.nil _) λs' hl c' hm hc h6=>?_];show qa (wpAny_load hc ?_);show qb ?_;rw[DE (by rw[hp.length_eq,qV]) h6];show hQ s' ord hp (λb o e=>?_) hm.gens hm.os hm.toks;let J:=lt_of_get e;show hm.heap b o (λz=>?_) (h3 b o (ne_of_lt J) (v _ _ (qc _ e)));rcases qB.mp z with z|z
 .show ne_of_lt J z
 .rw[qv.mp z]at J;rw[Heap.size_push]at h8;show lt_irrefl _ (lt_of_lt_of_le J (le_trans `am h8))
end ST
namespace ST
open PySem PySem.SetTable PyProof.Rows
section
variable{prog:Program}{w:World}{A:Around}{E:zj}{s:Shared}{I a p:Addr}{es:Array (Int×Value)}{ep i slot:Nat}{t:SetTable}{ys:List Nat}{h h':Heap}
theorem sorted_set(hh:A.handled=none)(hT:s.TypeIs `p "set")(hs:SetAt s.heap a es ep t)(Y:Rising t.place)(hz:t.place.size=es.size)(B:w.params.followText "set-order"=false->t.led=true)(hn:es.size<=300)
  (k:∀(v:Shared)(ord:List (Int×Value)),ord.Perm es.toList->(∀b o,s.heap.get? b=some o->v.heap.get? b=some o)->v.gens=s.gens->v.os=s.os->s.toks<=v.toks->
   (v.heap.push (seqObj "list" (ord.map (·.2)).toArray 0)).get? v.heap.objs.size=some (seqObj "list" (ord.map (·.2)).toArray 0)->
   wpAny `b A.in1.in1 (Builtin.«list.sort» #[[.ref v.heap.objs.size],[]]) (λF J=>∃r,F=.done (.ret r)/\Q (.ref v.heap.objs.size) J) E {v with heap:=v.heap.push (seqObj "list" (ord.map (·.2)).toArray 0)}):
  wpAny `b A (call (.builtin "sorted") [.ref a]) Q E s:=by
 show Calls.call_function_entry kind_sorted plain_sorted entry_sorted (args_sorted1 _) (?_:wpAny _ _ _ _ _ _);show qa (m:=checkCount "sorted" 1 1 _) (qb (qa (CC hh hT hs Y hz B hn λv ord L M hg ho O=>?_)));let G:ord.length<=sizeLine:=by rw[L.length_eq];show le_trans hn ⋯
 show qa (wpAny_newList ?_ (by rw[qo];show G));let new:(v.heap.push (seqObj "list" (ord.map (·.2)).toArray 0)).get? v.heap.objs.size=some (seqObj "list" (ord.map (·.2)).toArray 0):=qd _ rfl;show qa (zf (zd slot_list_sort #[_,new,rfl] entry_list_sort (zh (k v ord L M hg ho O new) ?_ λe s' z=>z) (args_list_sort _)));rintro F J ⟨r,rfl,q⟩;show#[_,rfl,qb #[_,rfl,q]]
end
def uF:Value->Int
 |.int n _=>n
 |_=>0
theorem ints_map(h:IntsAre vs ns):ns=vs.map uF/\∀v∈vs,∃n t,v=.int n t:=by
 induction h with
 |nil=>show#[rfl,λv z=>nomatch z]
 |cons n t _ B=>show#[by rw[qz,<-B.1];rfl,λv z=>?_];grind
def Dp:∀{vs:List Value},(∀v∈vs,∃n t,v=.int n t)->IntsAre vs (vs.map uF)
 |[],_=>.nil
 |v::vs,h=>by let#[n,t,rfl]:=h v qm;show .cons n t (Dp λu z=>h u (qk _ z))
def DF(h:IntsAre vs ns)(z:B.Perm vs):∃ms,IntsAre B ms/\ms.Perm ns:=by let#[rfl,h2]:=ints_map h;show#[_,Dp λv F=>h2 v (z.mem_iff.mp F),z.map _]
theorem sortedHeap_at(z:h.get? a=some (seqObj "list" vs.toArray n))(v:Array Value):∃e,(sortedHeap h a vs v).get? a=some (seqObj "list" v e):=
 #[_,get?_update_seq (qc _ (qc _ (get?_update_seq z _))) _]
theorem sortedHeap_old(v:b≠a)(B:h.get? b=some o)(z:Array Value):(sortedHeap h a vs z).get? b=some o:=
 (q9 _ _ (Ne.symm v)).trans (qc _ (qc _ ((q9 _ _ (Ne.symm v)).trans B)))
section
variable{prog:Program}{w:World}{A:Around}{E:zj}{s:Shared}{a:Addr}{es:Array (Int×Value)}{ep:Nat}{t:SetTable}
theorem sorted_set_ints(hh:A.handled=none)(hT:s.TypeIs `p "set")(hs:SetAt s.heap a es ep t)(hr:Rising t.place)(hz:t.place.size=es.size)(F:w.params.followText "set-order"=false->t.led=true)(hn:es.size<64)
  (hI:IntsAre (es.toList.map (·.2)) ns)
  (k:∀(B:Shared)(D:Addr)(v:Array Value)(e:Nat)(z:List Int),IntsAre v.toList z->z.Perm ns->z.Pairwise (·<=·)->B.heap.get? D=some (seqObj "list" v e)->s.heap.get? D=none->(∀b o,s.heap.get? b=some o->B.heap.get? b=some o)->
   B.gens=s.gens->B.os=s.os->s.toks<=B.toks->Q `k B):wpAny `b A (call (.builtin "sorted") [.ref a]) Q E s:=by
 show sorted_set hh hT hs hr hz F ∅ λM ord O G hg ho Y new=>?_;let#[ms,hm,J]:=DF hI (O.map _);let hl:(ord.map (·.2)).length<64:=by rw[qo,O.length_eq];show hn
 show list_sort_tree new hm hl λv z a1 a2 a3=>#[_,rfl,?_]
 obtain⟨e,he⟩:=sortedHeap_at new v;let L:s.heap.get? M.heap.objs.size=none:=by
  cases q:s.heap.get? M.heap.objs.size with
  |none=>rfl
  |some o=>show absurd (lt_of_get (G _ _ q)) `cd
 show k _ _ v e z a1 (a2.trans J) a3 he L (λb o q=>sortedHeap_old (ne_of_lt (lt_of_get (G b o q))) (qc _ (G b o q)) v) hg ho Y
end
def textOf:Value->Str
 |.str x _=>x
 |_=>Str.empty
theorem strs_map(h:StrsAre vs ss):ss=vs.map textOf/\∀v∈vs,∃x t,v=.str x t:=by
 induction h with
 |nil=>show#[rfl,λv z=>nomatch z]
 |cons n t _ B=>show#[by rw[qz,<-B.1];rfl,λv z=>?_];grind
def Dg:∀{vs:List Value},(∀v∈vs,∃x t,v=.str x t)->StrsAre vs (vs.map textOf)
 |[],_=>.nil
 |v::vs,h=>by let#[n,t,rfl]:=h v qm;show .cons n t (Dg λu z=>h u (qk _ z))
def Dz(h:StrsAre vs ss)(z:B.Perm vs):∃ms,StrsAre B ms/\ms.Perm ss:=by let#[rfl,h2]:=strs_map h;show#[_,Dg λv F=>h2 v (z.mem_iff.mp F),z.map _]
section
variable{prog:Program}{w:World}{A:Around}{E:zj}{s:Shared}{a:Addr}{es:Array (Int×Value)}{ep:Nat}{t:SetTable}
theorem sorted_set_strs(hh:A.handled=none)(hT:s.TypeIs `p "set")(hs:SetAt s.heap a es ep t)(hr:Rising t.place)(hz:t.place.size=es.size)(F:w.params.followText "set-order"=false->t.led=true)(hn:es.size<64)
  (hI:StrsAre (es.toList.map (·.2)) ss)
  (k:∀(z:Shared)(D:Addr)(B:Array Value)(e:Nat)(v:List Str),StrsAre B.toList v->v.Perm ss->sortedS v=true->z.heap.get? D=some (seqObj "list" B e)->s.heap.get? D=none->(∀b o,s.heap.get? b=some o->z.heap.get? b=some o)->
   z.gens=s.gens->z.os=s.os->s.toks<=z.toks->Q `k z):wpAny `b A (call (.builtin "sorted") [.ref a]) Q E s:=by
 show sorted_set hh hT hs hr hz F ∅ λs1 ord hp J hg ho ht new=>?_;let#[ms,M,L]:=Dz hI (hp.map _);let hl:(ord.map (·.2)).length<64:=by rw[qo,hp.length_eq];show hn
 show list_sort_treeK strKind_oneLt new M.keysOf (λh1 Y rest e=>keyKind_strs (by rw[<-e];show M)) hl λG a1 a2=>#[_,rfl,?_]
 obtain⟨v,b1,b2,b3⟩:=sorted_out_str M a1 a2;let#[e,he]:=sortedHeap_at new ((arrOf G).map (·.2));let O:s.heap.get? s1.heap.objs.size=none:=by
  cases q:s.heap.get? s1.heap.objs.size with
  |none=>rfl
  |some o=>show absurd (lt_of_get (J _ _ q)) `cd
 show k _ _ _ e v b1 (b2.trans L) b3 he O (λb o q=>sortedHeap_old (ne_of_lt (lt_of_get (J b o q))) (qc _ (J b o q)) _) hg ho ht
def TSet.at{K:Type}[DecidableEq K]{knd:HeapKind prog w K}{ld:Bool}{h:Heap}{xs:List (K×Addr)}(x:TSet ld knd h a xs):∃es ep t,SetAt h a es ep t/\Rising t.place/\t.place.size=es.size/\t.led=ld/\es.toList.map (·.2)=xs.map λp=>Value.ref p.2:=by
 let#[o,es,ep,t,B,hex,L,v,T,z,J,G,F]:=x;show#[es,ep,t,#[o,B,L,T.fits (by simp)],T.ris,?_,v,?_]
 .rw[T.size];simp
 .rw[J];unfold fC;rw[qE];rfl
end
end ST
namespace ST
open PySem PySem.SetTable
def AM(n:Nat):Rising (Array.range n):=by rw[ris_list];simp[pairwise_lt_range]
def Dq(F:Rising t.place)(G:t.dummies=#[]):∀(v:Nat)(p:Probe){j:Nat}{d:Option Nat},p.dummy=none->probe.go t hashAt h v p=some (.empty j d)->d=none/\t.slot j=.empty
 |0,_,_,_,_,e=>by cases e
 |v+1,p,j,d,hp,e=>by
  rw[probe.go]at e;let B:(t.advance p).dummy=none:=by
   unfold advance;split
   .show hp
   .show hp
  rcases Ax F G p.j with⟨z,_⟩|⟨i,hi,_,z⟩
  .rw[z]at e;cases e;show#[hp,z]
  .rw[z]at e;dsimp only at e;split at e
   .cases e
   .show Dq F G v _ B e
def Er{mask finger moves:Nat}{led plain:Bool}(e:laid mask finger moves led plain hs=some (t',order)):Rising t'.place/\t'.dummies=#[]/\t'.led=led:=by
 unfold laid at e;cases q:layClean mask hs with
 |none=>rw[q]at e;cases e
 |some v=>rw[q]at e;cases e;show#[?_,rfl,rfl];rw[ris_list];rw[pairwise_map,List.pairwise_filterMap];show List.Pairwise.imp (λ{a b} z x F y B=>?_) pairwise_lt_range;let#[_,_,rfl]:=qY.mp F;let#[_,_,rfl]:=qY.mp B;show z
structure WTab(t:SetTable)(n:Nat)(ld:Bool):Prop where
 ris:Rising t.place
 dum:t.dummies=#[]
 fit:t.fits n=true
 ldd:t.led=ld
def En(T:WTab t es.size ld):WTab (layNew t es h x).2.1 (layNew t es h x).1.size ld:=by
 refine#[?_,?_,layNew_fits t es h x,?_];all_goals
  unfold layNew;split
 .rename_i slot v e;dsimp only;unfold orStandIn;split
  .unfold freeSlot at e;split at e
   .rename_i j d q;cases e;let#[rfl,z]:=Dq T.ris T.dum _ `t rfl q;rcases Ax T.ris T.dum j with⟨_,y⟩|⟨i,hi,_,y⟩
    .show BB T.ris y
    .rw[z]at y;cases y
   .cases e
  .show AM _
 .show AM _
 .dsimp only;unfold orStandIn;split
  .show(Bc T.dum).2.2.1
  .rfl
 .rfl
 .dsimp only;unfold orStandIn;split
  .show T.ldd
  .show T.ldd
 .show T.ldd
def CJ(T:WTab t m ld):WTab (relayAll t es n).2.1 (relayAll t es n).1.size ld:=by
 refine#[?_,?_,relayAll_fits t es n,?_];all_goals
  unfold relayAll;split
 all_goals first
  |(rename_i z v e;dsimp only;let#[a,b,c]:=Er e;split
    .first|show a|show b|show c.trans T.ldd
    .first|show AM _|rfl|show T.ldd)
  |show AM _
  |rfl
  |show T.ldd
def CK(T:WTab t n ld):WTab {t with plain:=p} n ld:=⟨T.ris,T.dum,by let:=T.fit;cases t;show this,T.ldd⟩
section
variable{prog:Program}{w:World}{A:Around}{E:zj}{s:Shared}{a:Addr}{K:Type}[DecidableEq K]{knd:KeyKind prog w K}{xs:List (K×Value)}
def fT(knd:KeyKind prog w K)(xs:List (K×Value)):List (Int×Value):=xs.map λp=>(knd.hash p.1,p.2)
@[inline]def VSet(ld:Bool)(knd:KeyKind prog w K)(h:Heap)(a:Addr)(xs:List (K×Value)):Prop:=∃o es ep t,h.get? a=some o/\o.ExactSet/\o.data=.set es ep t/\WTab t es.size ld/\es.toList=fT knd xs/\(∀p∈xs,knd.is p.1 p.2=true/\p.2.scannable=true)/\(xs.map (·.1)).Nodup
def BW(h:l.Perm (fT knd xs)):∃ys,ys.Perm xs/\l=fT knd ys:=by
 unfold fT at h;induction l generalizing xs with
 |nil=>
  let v:xs=[]:=↑h.length_eq.symm
  subst v;show#[[],.refl _,rfl]
 |cons e l F=>let#[x,v,rfl]:=qK.mp (h.mem_iff.mp qm);let#[B,z,rfl]:=append_of_mem v;rw[map_append]at h;let#[ys,p,rfl]:=F (xs:=B++z) (by rw[map_append];show(h.trans perm_middle).cons_inv);show#[x::ys,(List.Perm.cons x p).trans perm_middle.symm,rfl]
def Ff{es:Array (Int×Value)}(F:es.toList=fT knd xs)(B:∀p∈xs,knd.is p.1 p.2=true/\p.2.scannable=true):ElemsOf knd es.toList:=λe z=>by rw[F]at z;let#[p,v,rfl]:=qK.mp z;show#[#[p.1,(B p v).1,rfl],(B p v).2]
theorem CD{g:Bool->Sem Unit}(hg:∀(b:Bool)(s₁:Shared)(Q':Unit->Shared->Prop),Q' () s₁->wpAny `b A (g b) Q' E s₁)(ho:s.heap.get? a=some o)(hex:o.ExactSet)(hd:o.data=.set es ep t)
  (T:WTab t2 es1.size ld)(he:es1.toList=fT knd ys)(hk:∀p∈ys,knd.is p.1 p.2=true/\p.2.scannable=true)(hnd:(ys.map (·.1)).Nodup)(hz:ys.length<=1000)
  (h:∀h' zs,Heap.SameBut a s.heap h'->zs.Perm ys->VSet ld knd h' a zs->R (some true) {s with heap:=h'}):
  wpAny `b A (do
    storeSet a es1 t2
    if(!wd&&t2.tooFull)=true then do
       g (relayAll t2 es1 `eg).2.2
       storeSet a (relayAll t2 es1 `eg).1 (relayAll t2 es1 `eg).2.1
       pure (some true)
     else pure (some true)) R E s:=by
 let hz1:es1.size<=sizeLine:=by rw[<-qV,he];unfold fT;rw[qo,ze];lia
 show qa (wpAny_storeSet_of ho hd ?_ hz1);let ho1:=AL (es':=es1) (t':=t2) ho hd;let sb1:=Heap.SameBut.update s.heap a (Obj.putSet es1 t2);split
 .let hp:=relayAll_perm t2 es1 `eg;let T2:=CJ (es:=es1) (n:=grown es1.size) T;generalize relayAll t2 es1 `eg=R3 at hp T2⊢;let#[es2,t3,gave]:=R3;rw[he]at hp;let#[zs,pz,ez]:=BW hp;let hz2:es2.size<=sizeLine:=by rw[<-qV,ez];unfold fT;rw[qo,pz.length_eq,ze];lia
  show qa (hg _ _ _ (qa (wpAny_storeSet_of ho1 rfl (qb ?_) hz2)));show h _ zs (sb1.trans (Heap.SameBut.update _ a _)) pz #[_,es2,_,t3,AL ho1 rfl,hex,rfl,T2,ez,λp hp=>hk p (pz.mem_iff.mp hp),(pz.map _).nodup_iff.mpr hnd]
 .show qb (h _ ys sb1 (.refl _) #[_,es1,_,t2,ho1,hex,rfl,T,he,hk,hnd])
def Lc(J:knd.is k x=true)(M:x.scannable=true)(hS:VSet ld knd s.heap a xs)(e2:xs.length<=150)
  (h1:k∈xs.map (·.1)->Q false s)(h2:k∉xs.map (·.1)->∀h' ys,Heap.SameBut a s.heap h'->ys.Perm ((k,x)::xs)->VSet ld knd h' a ys->Q true {s with heap:=h'}):
  wpAny `b A (setAddHashed a x `P) Q E s:=by
 let#[o,es,ep,t,ho,hex,hd,T,he,hk,e3]:=hS;let h8:=Ff he hk;let e4:es.size=xs.length:=by rw[<-qV,he];simp[fT]
 let hb:es.size<scanBound:=by show es.size<4096;lia
 show zf (qa (wpAny_setState_of ho hd T.fit ?_));dsimp only;rw[byScan_of M hb h8];show qa (qa (wpAny_rule (qa (wpAny_setScan_of J ho hd T.fit h8 ?_))));let h3:∀p∈xs,knd.is k p.2=true↔p.1=k:=λp F=>#[λz=>(knd.inj p.2 k p.1 z (hk p F).1).symm,λz=>z▸(hk p F).1]
 cases hr:List.findIdx? (λe=>knd.is k e.2) es.toList with
 |some j=>let#[hj,h5,_]:=List.findIdx?_eq_some_iff_getElem.mp hr;let hm:=getElem_mem hj;generalize es.toList[j]=e at hm h5;rw[he]at hm;let#[p,F,rfl]:=qK.mp hm;show qb (qb (h1 (qK.mpr #[p,F,(h3 p F).mp h5])))
 |none=>
  let hn:k∉xs.map (·.1):=λz=>by let#[p,F,e]:=qK.mp z;let q:=findIdx?_eq_none_iff.mp hr (knd.hash p.1,p.2) (by rw[he];show qK.mpr #[p,F,rfl]);rw[(h3 p F).mpr e]at q;cases q
  have v:=layNew_perm t es `P x;let T1:=En (es:=es) (h:=knd.hash k) (x:=x) T;generalize layNew t es `P x=L at v T1⊢;let#[es1,t1,wd,h9]:=L;rw[toList_push,he]at v;let#[ys,py,ey]:=BW (knd:=knd) (xs:=(k,x)::xs) (v.trans (qN.trans (by unfold fT;show .refl _)));let h7:∀p∈ys,knd.is p.1 p.2=true/\p.2.scannable=true:=λp F=>by
   rcases qB.mp (py.mem_iff.mp F)with rfl|z
   .show#[J,M]
   .show hk p z
  let h6:(ys.map (·.1)).Nodup:=(py.map _).nodup_iff.mpr (qL.mpr #[hn,e3]);let h4:ys.length<=1000:=by rw[py.length_eq,qt];lia
  have gw:∀(b:Bool)(B:Shared)(Q':Unit->Shared->Prop),Q' () B->wpAny `b A (match b with|true=>rule "set.scan.the-table-gave-way"|false=>pure ()) Q' E B:=λb B Q' q=>by
   cases b
   .show qb q
   .show wpAny_rule q
  let e1:∀h' G,Heap.SameBut a s.heap h'->G.Perm ys->VSet ld knd h' a G->Q true {s with heap:=h'}:=λh' G O Y V=>h2 hn h' G O (Y.trans py) V;show qa (gw h9 _ _ ?_);split
  .show qa ?_;rw[hashByValue_scannable 8 M];show qb (CD gw ho hex hd (es1:=es1) (t2:=_) ?_ ey h7 h6 h4 λh' G O Y V=>qb (e1 h' G O Y V));split
   .show T1
   .show CK T1
  .show qa (qb ?_);show CD gw ho hex hd T1 ey h7 h6 h4 λh' G O Y V=>qb (e1 h' G O Y V)
theorem setAddV(v:knd.is k x=true)(B:x.scannable=true)(L:VSet ld knd s.heap a xs)(z:xs.length<=150)
  (h1:k∈xs.map (·.1)->∀r,Q r {s with toks:=s.toks+1})(h2:k∉xs.map (·.1)->∀h' ys,Heap.SameBut a s.heap h'->ys.Perm ((k,x)::xs)->VSet ld knd h' a ys->∀r,Q r {s with heap:=h',toks:=s.toks+1}):
  wpAny `b A (setAdd a x) Q E s:=by
 show zf (qa (knd.pyHash v ?_));show Lc (s:={s with toks:=s.toks+1}) v B L z (λF=>h1 F _) λF h' ys G J T=>h2 F h' ys G J T _
def VSet.at(x:VSet ld knd h a xs):∃es ep t,SetAt h a es ep t/\Rising t.place/\t.place.size=es.size/\t.led=ld/\es.toList.map (·.2)=xs.map (·.2):=by
 let#[o,es,ep,t,v,hex,B,T,z,_]:=x;show#[es,ep,t,#[o,v,B,T.fit],T.ris,?_,T.ldd,?_]
 .let:=T.fit;unfold fits at this;grind
 .rw[z];unfold fT;rw[qE];rfl
end
end ST
namespace ST
open PySem PySem.SetTable PyProof.Rows
def freshSet(ld:Bool):Obj:={cls:=.type "set",dict:=none,data:=.set #[] 0 (.fresh 0 0 ld)}
def ldOf(w:World):Bool:=!w.params.followText "set-order"
theorem newSet_ok(h:Q `g {s with heap:=s.heap.push `Q}):wpAny `b A (newSet (.type "set")) Q E s:=by show qa (qa (wpAny_askSetting (qb ?_)));show qa (wpAny_alloc (qb h))
def BM(ld:Bool):iD (.fresh 0 0 ld) []:=by
 let v:∀{i:Nat},i<(SetTable.fresh 0 0 ld).place.size->False:=λh=>by simp[SetTable.fresh]at h
 show#[λi j hi _ _=>(v hi).elim,rfl,.inl rfl,rfl,λi hi=>(v hi).elim,by simp,λi hi=>(v hi).elim]
theorem vset_new{K:Type}[DecidableEq K]{knd:KeyKind prog w K}{ld:Bool}{h:Heap}{a:Addr}(e:h.get? a=some (freshSet ld)):VSet ld knd h a []:=
 #[_,#[],0,_,e,#[rfl,rfl,rfl],rfl,#[(BM ld).ris,rfl,rfl,rfl],rfl,λ_ z=>(nomatch z),.nil]
theorem tset_new{K:Type}[DecidableEq K]{knd:HeapKind prog w K}{ld:Bool}{h:Heap}{a:Addr}(e:h.get? a=some (freshSet ld)):TSet ld knd h a []:=
 #[_,#[],0,_,e,#[rfl,rfl,rfl],rfl,rfl,BM ld,(by show 0*5<7*3;decide),rfl,λ_ z=>(nomatch z),.nil]
def DS{St:Nat->Shared->Prop}(W:WalksS prog w A.in1 I fp wr G n P St)(S:Addr)(h3:S∉fp){J:Nat->Heap->Prop}
  (stay:∀i h h',i<=n->J i h->(∀b o,b∉wr->h.get? b=some o->h'.get? b=some o)->J i h')
  (step:∀i v(s:Shared)(Q:Bool->Shared->Prop)(E:zj),i<n->P i v->J i s.heap->(∀h' tk r,s.toks<=tk->Heap.SameBut S s.heap h'->J (i+1) h'->Q r {s with heap:=h',toks:=tk})->wpAny `b A.in1 (setAdd S v) Q E s):
  ∀(k i:Nat)(s:Shared),n-i=k->i<=n->St i s->J i s.heap->(∀s',Moved (S::wr) G s s'->J n s'.heap->R (.ok (.ret .none)) s')->
   codeAny `b A (.builtin "set.update.loop" #[[.ref S,.ref I],[]]) R s:=by
 intro k;induction k with
 |zero=>
  intro i s hk hi st hJ hR;let e:i=n:=∅
  subst e;show codeAny_builtin F.entry_set_update_loop ?_;show qa (W.done s _ _ st λs' O=>?_);show qb (hR s' (O.mono λb L=>qk _ L) (stay _ _ _ `j hJ O.heap))
 |succ k ih=>
  intro i s hk hi st hJ hR;let B:i<n:=∅
  show codeAny_builtin F.entry_set_update_loop ?_;show qa (W.item i s _ _ B st λv s' hP h1 O=>?_);show qa (zf (step i v s' _ _ B hP (stay _ _ _ hi hJ O.heap) λh' tk r ht sb h4=>?_));show qb #[plainId_quiet F.plain_set_update_loop _,ih (i+1) _ ∅ B (W.frame _ s' _ _ h1 ht λb L o e=>?_) h4 λh2 M Y=>?_]
  .rw[sb.2 b (λz=>h3 (z▸L))];show e
  .show hR h2 (Moved.trans W.gtrans ((O.mono λb L=>qk _ L).then_heap ht λb o L e=>?_) M) Y;rw[sb.2 b (λz=>L (z▸qm))];show e
def DV(x:Value)(h:Q `g {s with heap:=s.heap.push `Q}):
  codeAny `b A (.call (.builtin "set.__new__") #[[.type "set",x],[]]) (wants Q E) s:=by
 show codeAny_of_tree ?_;show qa (zg (F.newCall_set_1 x) (qb #[plainId_quiet F.plain_set_new _,codeAny_builtin F.entry_set_new ?_]));unfold Builtin.«set.__new__» Builtin.Frozenset.newClass;let v:=sub_set_self
 wp_walk
 show wpAny_askSetting (qb ?_);show qa (wpAny_alloc (qb ?_));show qb h
@[inline]def WalkOk(prog:Program)(w:World)(s:Shared)(x:Value)(n:Nat)(P:Nat->Value->Prop):Prop:=∀(A:Around)(E:zj)(v:Shared)(Q:zj),(∀b o,s.heap.get? b=some o->v.heap.get? b=some o)->
 (∀(o:Obj)(fp:List Addr)(St:Nat->Heap->Prop),(∀A:Around,A.handled=none->Walks prog w A v.heap.objs.size fp [v.heap.objs.size] n P St)->St 0 (v.heap.push o)->(∀b∈fp,b=v.heap.objs.size\/b<s.heap.objs.size)->Q (.ref v.heap.objs.size) {v with heap:=v.heap.push o})->
 wpAny `b A (pyIter x) Q E v
def HU(B:s.TypeIs x T)(z:isSubtype `ap (.type "set")=pure false)(v:isSubtype `ap (.type "frozenset")=pure false)(h:Q false s):wpAny `b A (Builtin.Frozenset.isAnySet x) Q E s:=by show qa (wpAny_isInstance B z ?_);show wpAny_isInstance B v h
set_option maxHeartbeats 3200000 in
theorem call_set{J:Nat->Heap->Prop}(hh:A.handled=none)(hT:s.TypeIs x T)(e2:isSubtype `ap (.type "set")=pure false)(e1:isSubtype `ap (.type "frozenset")=pure false)(e3:(Value.type T==Value.type "dict")=false)
  (W:WalkOk prog w s x n P)(h0:∀h,h.get? s.heap.objs.size=some `Q->(∀b o,s.heap.get? b=some o->h.get? b=some o)->J 0 h)
  (stay:∀i h h',i<=n->J i h->(∀b o,b≠s.heap.objs.size+1->h.get? b=some o->h'.get? b=some o)->J i h')
  (step:∀(A:Around) i v(s':Shared)(Q:Bool->Shared->Prop)(E:zj),i<n->P i v->J i s'.heap->(∀h' tk r,s'.toks<=tk->Heap.SameBut s.heap.objs.size s'.heap h'->J (i+1) h'->Q r {s' with heap:=h',toks:=tk})->A.units<=B->wpAny `b A (setAdd s.heap.objs.size v) Q E s')
  (hB:A.units+20<=B)
  (h:∀(h':Heap)(tk:Nat),J n h'->(∀b o,s.heap.get? b=some o->h'.get? b=some o)->s.toks<=tk->Q `g {s with heap:=h',toks:=tk}):
  wpAny `b A (call (.type "set") [x]) Q E s:=by
 let#[c,tl,hl]:=F.called_set.mro;let e4:=F.called_set.made;let hs:=F.called_set.sub;show wpAny_call (codeAny_of_tree ?_);show wpAny _ _ (callAny (.type "set") _) _ _ _;show qb #[Code.quiet_builtin _ (by decide+kernel),codeAny_builtin F.entry_type_call ?_];rw[Around.under_plain (weight_type_call_type "set" [x] []) rfl];let h1:=F.called_set.notType;let h2:=F.called_set.canCreate;let hq:=F.typeCall_set_1 x
 repeat (any_goals (first|assumption|wp_step))
 show codeAny_mono (DV x (E:=E) (Q:=λh5 M=>h5=.ref s.heap.objs.size/\M={s with heap:=s.heap.push `Q}) #[rfl,rfl]) λr M hr=>?_;cases r with
 |error e=>show hr
 |ok fl=>
  cases fl with
  |ret h5=>
   let#[rfl,rfl]:=hr;let hS:(s.heap.push `Q).get? s.heap.objs.size=some `Q:=qd _ rfl;let h6:Shared.TypeIs {s with heap:=s.heap.push `Q} `g "set":=⟨_,hS,rfl⟩
   let hd:=F.called_set.init.lookup;let ha:=F.called_set.init.bind `g
   repeat (any_goals (first|assumption|wp_step))
   show codeAny_mono (codeAny_call_builtin (R:=wants (λr L=>r=.none/\∃h' tk,L={s with heap:=h',toks:=tk}/\J n h'/\(∀b o,s.heap.get? b=some o->h'.get? b=some o)/\s.toks<=tk) E) F.called_set.init.plain F.entry_set_init (check_set_init_1 h6 ?_)) λh4 L G=>?_
   .have O:Shared.TypeIs {s with heap:=s.heap.push `Q} x T:=by
     cases x with
     |ref l=>let#[o,e,q]:=hT;show#[o,qc _ e,q]
     |_=>show hT
    unfold Builtin.«set.__init__» noKeywords;generalize hp:Builtin.Frozenset.updateFrom=UF;unfold freshSet at hS h6 O⊢
    wp_walk
    subst hp;unfold Builtin.Frozenset.updateFrom;show qa (HU O e2 e1 ?_);simp only[false_eq_true,if_false];show qa (wpAny_typeOf O ?_);rw[e3];simp only[false_eq_true,if_false];show qa (W _ _ _ _ (λb o e=>qc _ e) λo fp St wk h8 hx=>?_);let hz:(s.heap.push `Q).objs.size=s.heap.objs.size+1:=Heap.size_push ..;let hc:s.heap.objs.size∉fp:=λz=>by
     rcases hx _ z with y|y
     .rw[show s.heap.objs.size=(s.heap.push `Q).objs.size from y]at hz;show absurd hz (ne_of_lt `ef)
     .show lt_irrefl _ y
    refine qa (wpAny_runValue ?_);refine DS (wk A.in1.in1.in1 hh).toS s.heap.objs.size hc (J:=J) (λi h h' hi Y hk=>stay i h h' hi Y λb o hb e=>hk b o (λz=>hb (by rw[<-hz];show qv.mp z)) e)
     (λi v s' Q E hi hP Y hk=>step _ i v s' Q E hi hP Y hk (by show A.units+1+1+1<=B;lia)) (n-0) 0 _ rfl `cq h8 (h0 _ (qc _ hS) λb o e=>qc _ (qc _ e)) λs' hm Y=>?_
    let#[h',g',d',h7,h9]:=s';let eg:g'=s.gens:=hm.gens;let ed:d'=s.drawn:=hm.drawn;let eo:h9=s.os:=hm.os;subst eg ed eo;show qb ?_;show wpAny _ _ (ret Value.none) _ _ _;show qb #[rfl,h',h7,rfl,Y,λb o e=>?_,hm.toks];let hb:=lt_of_get e;show hm.heap b o (λz=>?_) (qc _ (qc _ e));rcases qB.mp z with z|z
    .show ne_of_lt hb z
    .let:=qv.mp z;rw[this]at hb;show absurd hb (by show¬(s.heap.push `Q).objs.size<_;rw[hz];show not_lt.mpr `am)
   .cases h4 with
    |error e=>show G
    |ok h3=>
     cases h3 with
     |ret r=>
      let#[rfl,h',tk,rfl,Y,hk,ht]:=G
      repeat (any_goals (first|assumption|wp_step))
      show h _ _ Y hk ht
     |_=>show G.elim
  |_=>show hr.elim
theorem walk_list(M:s.heap.IsList l items):WalkOk prog w s (.ref l) items.size (λi v=>items[i]?=some v):=λA E J Q L h=>by
 let#[o,e,r]:=M;let F:J.heap.IsList l items:=#[o,L _ _ e,r]
 have G:=lt_of_get e;let B:=lt_of_get (L _ _ e);exact wpAny_pyIter_list F (h _ [J.heap.objs.size,l] _ (λA Y=>Walks.list Y _ l (ne_of_lt B) items) #[#[_,qd _ rfl,rfl,rfl],F.push _] λb O=>by
  rcases qB.mp O with z|z
  .show .inl z
  .show .inr (by rw[qv.mp z];show G))
theorem walk_tuple(M:s.heap.IsTuple l items):WalkOk prog w s (.ref l) items.size (λi v=>items[i]?=some v):=λA E J Q L h=>by
 let#[o,e,r]:=M;let F:J.heap.IsTuple l items:=#[o,L _ _ e,r]
 have G:=lt_of_get e;let B:=lt_of_get (L _ _ e);exact wpAny_pyIter_tuple F (h _ [J.heap.objs.size,l] _ (λA Y=>Walks.tuple Y _ l (ne_of_lt B) items) #[#[_,qd _ rfl,rfl,rfl],let#[o,e,r]:=F;#[o,qc _ e,r]] λb O=>by
  rcases qB.mp O with z|z
  .show .inl z
  .show .inr (by rw[qv.mp z];show G))
end ST
theorem m1{α:Type}{a:α}{l:List α}:a∈a::l:=.head _
def FF(i:Int)(n:Nat):max 0 (min (if i<0 then i+(n:Int)else i) (n:Int))=(((if i<0 then(i+(n:Int)).toNat else min i.toNat n):Nat):Int):=by
 by_cases h:i<0
 .rw[q4 h,q4 h,Int.min_eq_left ∅,Int.ofNat_toNat,Int.max_comm]
 .rw[q5 h,q5 h];let#[k,rfl]:=Int.eq_ofNat_of_zero_le (Int.not_lt.mp h);rw[qW];rcases Nat.le_total k n with q|q
  .rw[min_eq_left q,Int.min_eq_left (ofNat_le.mpr q),Int.max_eq_right (Int.natCast_nonneg k)]
  .rw[min_eq_right q,Int.min_eq_right (ofNat_le.mpr q),Int.max_eq_right (Int.natCast_nonneg n)]
theorem cps{A:Prop}(h:∀G:Prop,(A->G)->G):A:=h A id
namespace ST
open PySem PySem.SetTable
section
variable{prog:Program}{w:World}{A:Around}{E:zj}{s:Shared}{a b:Addr}{K:Type}[DecidableEq K]{knd:KeyKind prog w K}{ks:List K}{ld:Bool}{xs:List (List K×Addr)}
theorem setAddT(F:A.units<cLine)(v:IsTupleKey knd s.heap ks b)(Y:TSet ld (tupleKind knd) s.heap a xs)(z:xs.length<=150)
  (h1:ks∈xs.map (·.1)->∀tk r,s.toks<=tk->Q r {s with toks:=tk})
  (h2:ks∉xs.map (·.1)->∀h' ys tk r,Heap.SameBut a s.heap h'->ys.Perm ((ks,b)::xs)->TSet ld (tupleKind knd) h' a ys->s.toks<=tk->Q r {s with heap:=h',toks:=tk}):
  wpAny `b A (setAdd a `ak) Q E s:=by
 show zf (qa ((tupleKind knd).pyHash F v ?_));show Gy (s:={s with toks:=s.toks+(tupleKind knd).draws ks}) (knd:=tupleKind knd) (λv q=>Dx v q) (λv q=>DT v q) (λv M O L=>Dw v M O L) F v Y z (λB=>h1 B _ _ (Nat.le_add_right _ _)) λB h' ys G J T=>h2 B h' ys _ _ G J T (Nat.le_add_right _ _)
theorem call_add_of(B:s.TypeIs `p "set")(h:wpAny `b A.in1 (setAdd a v) (λ_ s'=>Q .none s') E s):wpAny `b A (call (.builtin "set.add") [.ref a,v]) Q E s:=by show zd F.slot_set_add B F.entry_set_add ?_ (F.args_set_add_2 _ _);unfold Builtin.«set.add» Builtin.Frozenset.oneOther;simp only[isEmpty_nil,bind_assoc];show qa (qb ?_);show qa (qb ?_);show qa (zh h (λr s' q=>qb #[_,rfl,q]) λ_ _ z=>z)
@[inline]def TRaw(ld:Bool)(knd:HeapKind prog w K)(h:Heap)(a:Addr)(xs:List (K×Addr)):Prop:=∃o es ep t,h.get? a=some o/\o.ExactSet/\o.data=.set es ep t/\t.led=ld/\iD t (es.toList.map (·.1))/\fK t es.size/\es.toList=fC knd xs/\(xs.map (·.1)).Nodup
def TRaw.full{knd:HeapKind prog w K}{xs:List (K×Addr)}(x:TRaw ld knd h a xs)(k:∀x∈xs,knd.is h x.1 x.2):TSet ld knd h a xs:=by let#[o,es,ep,t,h1,h2,J,G,F,B,z,v]:=x;show#[o,es,ep,t,h1,h2,J,G,F,B,z,k,v]
def TSet.raw{knd:HeapKind prog w K}{xs:List (K×Addr)}(x:TSet ld knd h a xs):TRaw ld knd h a xs:=by let#[o,es,ep,t,h1,h2,J,G,F,B,z,k,v]:=x;show#[o,es,ep,t,h1,h2,J,G,F,B,z,v]
def VSet.len{xs:List (K×Value)}(x:VSet ld knd s.heap a xs)(hz:xs.length<=1000)(h:Q (.int xs.length (s.toks+1)) {s with toks:=s.toks+1+1}):wpAny `b A (call (.builtin "len") [.ref a]) Q E s:=by
 let#[o,es,ep,t,z,hex,F,T,B,_]:=x;let v:es.size=xs.length:=by rw[<-qV,B];simp[fT]
 show call_len_set z hex F T.fit (by rw[v];lia) (by rw[v];show h)
def TRaw.len{knd:HeapKind prog w K}{xs:List (K×Addr)}(x:TRaw ld knd s.heap a xs)(hz:xs.length<=1000)(h:Q (.int xs.length (s.toks+1)) {s with toks:=s.toks+1+1}):wpAny `b A (call (.builtin "len") [.ref a]) Q E s:=by
 let#[o,es,ep,t,z,hex,F,_,T,_,B,_]:=x;let v:es.size=xs.length:=by rw[<-qV,B];simp[fC]
 show call_len_set z hex F (T.fits (by simp)) (by rw[v];lia) (by rw[v];show h)
end
instance okDec(m:Nat):Decidable (bY m):=by unfold bY;infer_instance
end ST
namespace L2
open PySem PySem.Spec PyProof.Rows
abbrev aO:=Sum Int Str
def gP:aO->Value->Bool
 |.inl k,v=>Value.isInt k v
 |.inr x,v=>Value.isStrOf x v
def ll(w:World):aO->Int
 |.inl k=>hashInt k
 |.inr x=>hashStr w x
def EE:∀{k:aO}{v:Value},gP k v=true->(∃i t,k=Sum.inl i/\v=Value.int i t)\/(∃x t,k=Sum.inr x/\v=Value.str x t)
 |.inl i,v,h=>by let#[t,e]:=Value.isInt_shape (k:=i) (v:=v) h;show .inl #[i,t,rfl,e]
 |.inr x,v,h=>by let#[t,e]:=Value.isStrOf_shape (x:=x) (v:=v) h;show .inr #[x,t,rfl,e]
def WN(i:Int)(t:Tok):gP (.inl i) (.int i t)=true:=by simp[gP,Value.isInt]
def VB(x:Str)(t:Tok):gP (.inr x) (.str x t)=true:=by simp[gP,Value.isStrOf]
def Rl(a b:Int):decide ((Sum.inl a:aO)=Sum.inl b)=(a==b):=by grind
def Rh(a b:Str):decide ((Sum.inr a:aO)=Sum.inr b)=decide (a=b):=by grind
def Qy(a:Int)(b:Str):decide ((Sum.inl a:aO)=Sum.inr b)=false:=qS (λq=>nomatch q)
def Qz(a:Str)(b:Int):decide ((Sum.inr a:aO)=Sum.inl b)=false:=qS (λq=>nomatch q)
def aE(prog:Program)(w:World):PySem.KeyKind prog w aO where
 is:=gP
 hash:=ll w
 inj:=λv a b ha hb=>by
  rcases EE ha with⟨i,t,rfl,rfl⟩|⟨x,t,rfl,rfl⟩
  .rcases EE hb with⟨j,u,rfl,e⟩|⟨y,u,rfl,e⟩
   .injection e with e1 _;rw[e1]
   .show nomatch e
  .rcases EE hb with⟨j,u,rfl,e⟩|⟨y,u,rfl,e⟩
   .show nomatch e
   .injection e with e1 _;rw[e1]
 byValue:=λk v h=>by rcases EE h with⟨i,t,rfl,rfl⟩|⟨x,t,rfl,rfl⟩<;>rfl
 pyHash:=λhv h=>by
  rcases EE hv with⟨i,t,rfl,rfl⟩|⟨x,t,rfl,rfl⟩
  .show wpAny_pyHash_int h
  .show wpAny_pyHash_str h
 eqBool:=λhu hv h=>by
  rcases EE hu with⟨i,t,rfl,rfl⟩|⟨x,t,rfl,rfl⟩
  .rcases EE hv with⟨j,u,rfl,rfl⟩|⟨y,u,rfl,rfl⟩
   .rw[Rl]at h;show wpAny_eqBool_int h
   .rw[Qy]at h;show SeqAt.EqAt.int_str i t y u _ _ _ _ h
  .rcases EE hv with⟨j,u,rfl,rfl⟩|⟨y,u,rfl,rfl⟩
   .rw[Qz]at h;show SeqAt.EqAt.str_int x t j u _ _ _ _ h
   .rw[Rh]at h;show wpAny_eqBool_str h
 «strs»:=λk x t v h=>by
  rcases EE h with⟨i,u,rfl,e⟩|⟨y,u,rfl,e⟩
  .show nomatch e
  .injection e with e1 _
   subst e1;cases v<;>rfl
def WO(prog:Program)(w:World)(i:Int)(t:Tok):(aE prog w).is (.inl i) (.int i t)=true:=WN i t
def WY(prog:Program)(w:World)(x:Str)(t:Tok):(aE prog w).is (.inr x) (.str x t)=true:=VB x t
inductive V where
 |non|bl(b:Bool)|int(i:Int)|str(x:Str)|byt(b:Array UInt8)|flt(b:UInt64)|ref(a:Addr)|ty(n:String)
 deriving DecidableEq
def zv:V->Value->Prop
 |.non,u=>u=Value.none
 |.bl b,u=>u=Value.bool b
 |.int i,u=>∃t,u=Value.int i t
 |.str x,u=>∃t,u=Value.str x t
 |.byt b,u=>∃t,u=Value.bytes b t
 |.flt b,u=>∃t,u=Value.float b t
 |.ref a,u=>u=Value.ref a
 |.ty n,u=>u=Value.type n
abbrev zD:List V->List Value->Prop:=Paired zv
def zD.length(r:zD xs v):xs.length=v.length:=Paired.length r
def zD.get:∀{xs:List V}{v:List Value}{i:Nat}{x:V},zD xs v->xs[i]?=some x->∃u,v[i]?=some u/\zv x u
 |_,_,_,_,.nil,e=>by simp at e
 |_,_,0,_,.cons r _,e=>by simp at e;subst e;show#[_,rfl,r]
 |_,_,i+1,x,.cons _ t,e=>by let#[u,h1,h2]:=zD.get (i:=i) (x:=x) t ↑e;show#[u,↑h1,h2]
def zD.set(r:zv x u):∀{xs:List V}{v:List Value}(i:Nat),zD xs v->zD (xs.set i x) (v.set i u)
 |_,_,_,.nil=>.nil
 |_,_,0,.cons _ t=>.cons r t
 |_,_,i+1,.cons q t=>.cons q (zD.set r i t)
def zD.append:∀{xs ys:List V}{z v:List Value},zD xs z->zD ys v->zD (xs++ys) (z++v):=by
 intro xs ys z v r s;induction r with
 |nil=>show s
 |cons r _ B=>show .cons r B
def zD.take:∀{xs:List V}{v:List Value}(n:Nat),zD xs v->zD (xs.take n) (v.take n)
 |_,_,0,_=>.nil
 |_,_,_+1,.nil=>.nil
 |_,_,n+1,.cons r t=>.cons r (zD.take n t)
def zD.drop:∀{xs:List V}{v:List Value}(n:Nat),zD xs v->zD (xs.drop n) (v.drop n)
 |_,_,0,r=>r
 |_,_,_+1,.nil=>.nil
 |_,_,n+1,.cons _ t=>zD.drop n t
def zD.none_of:∀{xs:List V}{v:List Value}{i:Nat},zD xs v->xs[i]?=none->v[i]?=none:=λ{xs v i} r e=>by let h1:=r.length;let h2:xs.length<=i:=List.getElem?_eq_none_iff.mp e;show List.getElem?_eq_none_iff.mpr ∅
def dW:Option V->Option Value->Prop
 |some v,some u=>zv v u
 |none,none=>True
 |_,_=>False
@[inline]def KV{κ:Type}:List (κ×V)->List (κ×Value)->Prop:=Paired λ(p:κ×V)(q:κ×Value)=>p.1=q.1/\zv p.2 q.2
def kV:aO->V
 |.inl i=>.int i
 |.inr x=>.str x
inductive HO where
 |lst(xs:List V)
 |tup(xs:List V)
 |dK(zH:List (aO×V))|dT(zH:List (List aO×V))
 |set(vs:List V)
 |ins(C dx:Addr)(fs:List (Str×V))
 |own(x:Addr)
 |xd(fs:List (Str×V))
 |met(f x:Addr)
 |rng(lo hi:Int)
 |frz(o:Obj)(u:HO)
 |tbl(ps:Array Value)
 |ext(φ:Heap->Prop)
abbrev Hp:=Addr->Option HO
def upd(H:Hp)(a:Addr)(o:HO):Hp:=λb=>if b=a then some o else H b
def Bh:upd H a o a=some o:=by unfold upd;rw[q4 rfl]
def Ar(h:b≠a):upd H a o b=H b:=by unfold upd;rw[q5 h]
def Ia{H:Hp}(h:H a=some o)(h':H b=some u)(d:o≠u):a≠b:=by grind
def DP{H:Hp}(h:H a=some o)(h':H b=none):a≠b:=by intro e;subst e;rw[h]at h';cases h'
section
variable(P:Program)(w:World)
def kQ(h:Heap)(a:Addr):Prop:=∀o,h.get? a=some o->o.dict=none
def kQ.new{h:Heap}{c:Value}{x:Data}{n:Addr}(e:n=h.objs.size)(v:(h.push {cls:=c,data:=x}).get? h.objs.size=some {cls:=c,data:=x}):kQ (h.push {cls:=c,data:=x}) n:=λo q=>by subst e;rw[v]at q;cases q;rfl
def zF(H:Hp)(h:Heap)(a:Addr):HO->Prop
 |.lst xs=>xs.length<=sizeLine/\∃(z:List Value)(n:Nat),zD xs z/\h.get? a=some {cls:=.type "list",data:=.seq z.toArray n}
 |.tup xs=>(xs.length<=sizeLine/\kQ h a)/\∃z:List Value,zD xs z/\IsTup h a z.toArray
 |.dK zH=>zH.length<=sizeLine/\(a==sysModules)=false/\∃vs,KV zH vs/\h.DictOf `cx a vs
 |.dT zH=>zH.length<=sizeLine/\(a==sysModules)=false/\∃xs:List (List aO×Addr×Value),
  Paired (λ(p:List aO×V)(q:List aO×Addr×Value)=>p.1=q.1/\H q.2.1=some (.tup (p.1.map kV))/\zv p.2 q.2.2) zH xs/\
  ∃o es ep,h.get? a=some o/\o.ExactDict/\o.data=.dict es ep/\es.toList=xs.map (entryOfKey (tupleKind `cx))/\(xs.map (·.1)).Nodup
 |.set vs=>vs.length<=151/\((vs=[]/\h.get? a=some (ST.freshSet (ST.ldOf w)))\/(vs≠[]/\∃xs:List (aO×Value),vs.Perm (xs.map λp=>kV p.1)/\ST.VSet (ST.ldOf w) `cx h a xs)\/vs≠[]/\∃xs:List (List aO×Addr),vs.Perm (xs.map λp=>V.ref p.2)/\(∀p∈xs,H p.2=some (.tup (p.1.map kV)))/\ST.TRaw (ST.ldOf w) (tupleKind `cx) h a xs)
 |.ins C dx fs=>H dx=some (.own a)/\fs.length<=1000/\dx≠a/\h.get? a=some (W.instObj C dx)/\
  ∃B,h.Ns1 dx B/\(∀f,dW (fs.lookup f) (B f))/\PySem.Within B (fs.map (·.1))
 |.own _=>∃o,h.get? a=some o
 |.xd fs=>∃B,h.Ns1 a B/\∀f,dW (fs.lookup f) (B f)
 |.rng lo hi=>∃t u v,h.get? a=some {cls:=.type "range",data:=.fields [.int lo t,.int hi u,.int 1 v].toArray}
 |.frz o u=>h.get? a=some o/\zF H h a u
 |.tbl ps=>h.get? a=some {cls:=.none,data:=.fields ps}
 |.met f x=>h.get? a=some (W.methodObj `cn (.ref x))
 |.ext φ=>φ h/\(∃o,h.get? a=some o)/\∀h1 h2:Heap,φ h1->(∀o,h1.get? a=some o->h2.get? a=some o)->φ h2
def eM(H:Hp)(h:Heap):Prop:=∀a o,H a=some o->zF P w H h a o
end
section
variable{P:Program}{w:World}{H H':Hp}{h h':Heap}{a:Addr}{o:HO}
def zF.lt(x:zF P w H h a o):a<h.objs.size:=by
 cases o with
 |lst xs=>let#[_,_,_,_,e]:=x;show qe e
 |tup xs=>let#[_,_,_,p]:=x;show p.lt
 |dK v=>let#[_,_,_,_,o,_,_,e,_]:=x;show qe e
 |dT v=>let#[_,_,_,_,o,_,_,e,_]:=x;show qe e
 |set z=>
  rcases x with⟨_,⟨_,e⟩|⟨_,_,_,_,_,_,_,e,_⟩|⟨_,_,_,_,_,_,_,_,e,_⟩⟩
  .show qe e
  .show qe e
  .show qe e
 |ins C dx fs=>let#[_,_,_,e,_]:=x;show qe e
 |own y=>let#[_,e]:=x;show qe e
 |xd fs=>let#[_,#[_,_,_,e,_],_]:=x;show qe e
 |rng lo hi=>let#[_,_,_,e]:=x;show qe e
 |frz B u=>let#[e,_]:=x;show qe e
 |tbl ps=>show qe (show h.get? a=some _ from x)
 |met f y=>show qe (show h.get? a=some _ from x)
 |ext φ=>let#[_,#[_,e],_]:=x;show qe e
def Paired.mapP:∀{l₁:List α}{l₂:List β},Paired F l₁ l₂->(∀a b,F a b->G a b)->Paired G l₁ l₂
 |_,_,.nil,_=>.nil
 |_,_,.cons r t,f=>.cons (f _ _ r) (Paired.mapP t f)
def zF.stay(x:zF P w H h a o)(k:∀b u,(b=a\/H b=some (.own a))->h.get? b=some u->h'.get? b=some u)
  (ho:∀b,H b=some (.own a)->H' b=some (.own a))(O:∀b xs,H b=some `ax->H' b=some `ax):zF P w H' h' a o:=by
 induction o with
 |lst xs=>let#[z,F,n,r,e]:=x;show#[z,F,n,r,k _ _ (.inl rfl) e]
 |tup xs=>let#[#[z,nd],F,r,B,e,c]:=x;show#[#[z,λo q=>by rw[k _ _ (.inl rfl) e]at q;cases q;show nd _ e],F,r,B,k _ _ (.inl rfl) e,c]
 |dK L=>let#[z,y,M,r,B,es,ep,e,c]:=x;show#[z,y,M,r,B,es,ep,k _ _ (.inl rfl) e,c]
 |dT L=>let#[z,y,xs,r,B,es,ep,e,c]:=x;show#[z,y,xs,Paired.mapP r λp q z=>#[z.1,O _ _ z.2.1,z.2.2],B,es,ep,k _ _ (.inl rfl) e,c]
 |set M=>
  rcases x with⟨z,⟨n,e⟩|⟨n,xs,p,B,es,ep,t,e,c⟩|⟨n,xs,p,hx,B,es,ep,t,e,c⟩⟩
  .show#[z,.inl #[n,k _ _ (.inl rfl) e]]
  .show#[z,.inr (.inl #[n,xs,p,B,es,ep,t,k _ _ (.inl rfl) e,c])]
  .show#[z,.inr (.inr #[n,xs,p,λq hq=>O _ _ (hx q hq),B,es,ep,t,k _ _ (.inl rfl) e,c])]
 |ins C dx fs=>let#[d,z,Y,e,J,#[G,es,ep,e2,c],r]:=x;show#[ho _ d,z,Y,k _ _ (.inl rfl) e,J,#[G,es,ep,k _ _ (.inr d) e2,c],r]
 |own y=>let#[B,e]:=x;show#[B,k _ _ (.inl rfl) e]
 |xd fs=>let#[J,#[G,es,ep,e,c],r]:=x;show#[J,#[G,es,ep,k _ _ (.inl rfl) e,c],r]
 |rng lo hi=>let#[t,u,v,e]:=x;show#[t,u,v,k _ _ (.inl rfl) e]
 |frz B u ih=>let#[e,q]:=x;show#[k _ _ (.inl rfl) e,ih q]
 |tbl ps=>have e:h.get? a=some {cls:=.none,data:=.fields ps}:=x;show h'.get? a=some {cls:=.none,data:=.fields ps};show k a _ (.inl rfl) e
 |met f y=>have e:h.get? a=some (W.methodObj `cn (.ref y)):=x;show h'.get? a=some (W.methodObj `cn (.ref y));show k a _ (.inl rfl) e
 |ext φ=>let#[p,#[o,e],st]:=x;show#[st _ _ p λo q=>k _ _ (.inl rfl) q,#[o,k _ _ (.inl rfl) e],st]
def eM.lt(x:eM P w H h)(e:H a=some o):a<h.objs.size:=(x a o e).lt
def eM.fresh(x:eM P w H h)(e:h.objs.size<=a):H a=none:=by
 cases q:H a with
 |none=>rfl
 |some u=>show absurd (lt_of_lt_of_le (x.lt q) e) `cd
def eM.kept(x:eM P w H h)(k:∀b u,h.get? b=some u->h'.get? b=some u):eM P w H h':=λa o e=>(x a o e).stay (λb u _ q=>k b u q) (λ_ q=>q) λ_ _ q=>q
def eM.laid(x:eM P w H h)(k:∀b u,h.get? b=some u->h'.get? b=some u)(F:h.objs.size<=a)(new:zF P w (upd H a o) h' a o):eM P w (upd H a o) h':=λb u e=>by
 let z:=x.fresh F;by_cases B:b=a
 .subst B;rw[Bh]at e;cases e;show new
 .rw[Ar B]at e;show(x b u e).stay (λc v _ q=>k c v q) (λc q=>by rw[Ar (DP q z)];show q) λc xs q=>by rw[Ar (DP q z)];show q
end
@[inline]def Rd(H:Hp)(a:Addr)(u:HO):Prop:=H a=some u\/∃o,H a=some (.frz o u)
def Rd.of(h:H a=some u):Rd H a u:=.inl h
def Rd.ok(r:Rd H a u)(x:eM P w H h):zF P w H h a u:=by
 rcases r with r|⟨o,r⟩
 .show x a u r
 .obtain⟨_,q⟩:=x a _ r;show q
def dm:Option HO->Prop
 |some (.lst _)=>True
 |some (.dK _)=>True
 |some (.dT _)=>True
 |some (.set _)=>True
 |some (.ins _ _ _)=>True
 |some (.ext _)=>True
 |_=>False
section
variable{P:Program}{w:World}{H:Hp}{h h':Heap}{x e:Addr}{o':HO}
def eM.write(ok:eM P w H h)(G:dm (H x))(he:e=x\/H e=some (.own x))(k:∀b u,b≠e->h.get? b=some u->h'.get? b=some u)(J:∃u,h'.get? e=some u)
  (new:zF P w (upd H x o') h' x o'):eM P w (upd H x o') h':=λb u q=>by
 let F:∀c y,H c=some (.own y)->c≠x:=λc y r z=>by subst z;rw[r]at G;show G
 let B:∀c xs,H c=some `ax->c≠x:=λc xs r z=>by subst z;rw[r]at G;show G
 by_cases O:b=x
 .subst O;rw[Bh]at q;cases q;show new
 .rw[Ar O]at q;by_cases L:b=e
  .let M:H b=some (.own x):=by grind
   rw[q]at M;cases M;let#[v,Y]:=J;show#[v,by rw[L];show Y]
  .show(ok b u q).stay (λc v hc r=>k c v ?_ r) (λc r=>by rw[Ar (F c b r)];show r) λc xs r=>by rw[Ar (B c xs r)];exact r
   grind
end
structure Un(fs ex:List Addr)(H H':Hp)(h h':Heap):Prop where
 keep:∀b o,h.get? b=some o->H b=none->b∉fs->b∉ex->h'.get? b=some o
 slot:∀b o,h.get? b=some o->H b=none->b∈fs->b∉ex->∃sl,h'.get? b=some {o with slots:=sl}
 free:∀b o,h.get? b=some o->H b=none->b∉ex->H' b=none
 there:∀b o,h.get? b=some o->b∉ex->∃o',h'.get? b=some o'
 tups:∀b xs,H b=some `ax->H' b=some `ax
 frzs:∀b o u,H b=some (.frz o u)->H' b=some (.frz o u)
 tbls:∀b ps,H b=some (.tbl ps)->∃more,H' b=some (.tbl (ps++more))
section
variable{fs fs' ex ex':List Addr}{H H1 H2:Hp}{h h1 h2 h':Heap}{a x e:Addr}{o:HO}
def Un.any(u:Un fs ex H H1 h h1)(q:h.get? b=some v)(n:H b=none)(z:b∉ex):∃F,h1.get? b=some {v with slots:=F}:=by
 by_cases B:b∈fs
 .show u.slot b v q n B z
 .show#[v.slots,u.keep b v q n B z]
def Un.kept(k:∀b u,h.get? b=some u->h'.get? b=some u):Un fs ex H H h h':=
 #[λb v q _ _ _=>k b v q,λb v q _ _ _=>#[v.slots,k b v q],λ_ _ _ n _=>n,λb v q _=>#[v,k b v q],λ_ _ q=>q,λ_ _ _ q=>q,λ_ ps q=>#[#[],by rw[q];simp]]
def Un.refl:Un fs ex H H h h:=Un.kept λ_ _ q=>q
def Un.laid(k:∀b u,h.get? b=some u->h'.get? b=some u)(hp:h.objs.size<=a)(hn:H a=none):Un fs ex H (upd H a o) h h' where
 keep:=λb u q _ _ _=>k b u q
 slot:=λb u q _ _ _=>#[u.slots,k b u q]
 free:=λb u q n _=>by rw[Ar (ne_of_lt (lt_of_lt_of_le (qe q) hp))];show n
 there:=λb u q _=>#[u,k b u q]
 tups:=λb xs q=>by rw[Ar (DP q hn)];show q
 frzs:=λb u xs q=>by rw[Ar (DP q hn)];show q
 tbls:=λb ps q=>#[#[],by rw[Ar (DP q hn),q];simp]
def Un.write(v:dm (H x))(L:e=x\/H e=some (.own x))(k:∀b u,b≠e->h.get? b=some u->h'.get? b=some u)(J:∃u,h'.get? e=some u):Un fs ex H (upd H x o) h h':=by
 let G:∀b,H b=none->b≠x:=λb n z=>by subst z;rw[n]at v;show v
 let F:∀b,H b=none->b≠e:=λb n z=>by grind
 let B:∀b u,H b=some u->¬dm (some u)->b≠x:=λb u q nm z=>by subst z;rw[q]at v;show nm v
 refine⟨λb u q n _ _=>k b u (F b n) q,λb u q n _ _=>#[u.slots,k b u (F b n) q],λb u q n _=>by rw[Ar (G b n)];exact n,λb u q _=>?_,
  λb xs q=>by rw[Ar (B b _ q λz=>z)];show q,λb u xs q=>by rw[Ar (B b _ q λz=>z)];show q,λb ps q=>#[#[],by rw[Ar (B b _ q λz=>z),q];simp]⟩
 grind
end
def ij(h:Heap)(H:Hp):List Addr:=(List.range h.objs.size).filter λa=>(H a).isSome
def iV(h:Heap)(H:Hp):Heap:=W.hideAll h (ij h H)
def Vp(h:Heap)(H:Hp):(iV h H).objs.size=h.objs.size:=W.hideAll_size _ _
def Sv(e:h.get? b=some o)(n:H b=none):(iV h H).get? b=some o:=
 W.hideAll_get _ e λv=>by let q:(H b).isSome=true:=(mem_filter.mp v).2;rw[n]at q;simp at q
def Sg(e:(iV h H).get? b=some o):h.get? b=some o/\H b=none:=by
 let v:h.get? b=some o:=W.of_hideAll (ij h H) e;show#[v,?_];cases q:H b with
 |none=>rfl
 |some x=>grind[ij,mem_filter,mem_range,Heap.lt_size,iV,W.hideAll_none]
def tO(g h:Heap)(L:Addr):List (Addr×Obj):=(List.range h.objs.size).filterMap λa=>if a=L\/(g.get? a).isSome=true then none else(h.get? a).map λo=>(a,o)
def rest(g h:Heap)(L d:Addr):List (Addr×Obj):=(tO g h L).filter λp=>decide (p.1≠d)
structure Mod(K:W.Frag)(mg:Str->Option Value)(base:Heap):Prop where
 kin:K.In base
 glob:base.Ns mainGlobals mg
 blt:∃mb,base.Ns builtinsNs mb/\∀x:Str,x≠"__name__"->mb x=bootBuiltins x
 nolimit:base.NoLimit
structure Cx where
 prog:Program
 w:World
 K:W.Frag
 mg:Str->Option Value
 base:Heap
 A:Around
 N:List Str
 s₀:Shared
 H₀:Hp
 env:Env
 outer:List Env
 stack:List Env
 ex:List Addr
 fn:Str->Bool
 calm:Bool
 pn:List (Addr×Obj)
 xe:zj
def oU(l:List Env):List Addr:=l.filterMap (·.frame)
abbrev Cx.fs(X:Cx):List Addr:=oU X.outer
def da(v:Scope)(x:Str):Prop:=v.names.lookup x=some .local\/v.names.lookup x=some .cell\/v.names.lookup x=some .free
@[inline]def Loc(v:Scope)(x:Str):Prop:=v.names.lookup x=some .local\/v.names.lookup x=some .cell
@[inline]def Look(env:Env)(h:Heap)(m:Str->Option Value)(x:Str)(u:Value):Prop:=
 (env.kindOf x=some .local/\m x=some u)\/((env.kindOf x=some .cell\/env.kindOf x=some .free)/\∃c,env.cells.lookup x=some c/\h.IsCell c (some u))
structure Cx.Ok(X:Cx):Prop where
 mod:Mod X.K X.mg X.base
 kind:X.env.scope.kind=.function
 glob:X.env.globals=mainGlobals
 blt:X.env.builtins=builtinsNs
 above:X.s₀.heap.objs.size<=X.env.locals
 inj:∀x y c,X.env.cells.lookup x=some c->X.env.cells.lookup y=some c->x=y
 has:∀x,(X.env.kindOf x=some .cell\/X.env.kindOf x=some .free)->∃c,X.env.cells.lookup x=some c
 cab:∀x c,X.fn x=true->X.env.cells.lookup x=some c->X.s₀.heap.objs.size<=c
 hd:X.calm=true->X.A.handled=none
 frames:X.A.frames=some X.stack
 stk:X.stack=X.outer\/(X.stack=X.env::X.outer/\X.env.frame=some X.env.locals)
 exf:∀b∈X.ex,b≠X.env.locals/\∀x c,X.env.cells.lookup x=some c->c≠b
 bs:∀b o,X.base.get? b=some o->X.s₀.heap.get? b=some o/\X.H₀ b=none
 bsz:X.base.objs.size<=X.s₀.heap.objs.size
 noex:∀b o,X.base.get? b=some o->b∉X.ex
 exfs:∀b∈X.ex,b∉X.fs
 funs:X.s₀.heap.FunFrames X.base X.outer
 frf:∀b∈X.fs,X.H₀ b=none
structure Inv(X:Cx)(zG:List (Addr×Obj))(Z:List (Option V))(H:Hp)(s:Shared):Prop where
 ok:X.Ok
 os:s.os=X.s₀.os
 bare:AllBare s.gens
 base:Un X.fs X.ex X.H₀ H X.s₀.heap s.heap
 loc:∃m,s.heap.Ns X.env.locals m/\∀(i:Nat)(x:Str)(v:V),X.N[i]?=some x->Z[i]?=some `I->da X.env.scope x->∃u,zv v u/\Look X.env s.heap m x u
 cell:∀x c,X.env.cells.lookup x=some c->∃v,s.heap.IsCell c v
 free:H X.env.locals=none
 freeC:∀x c,X.env.cells.lookup x=some c->H c=none
 pin:∀p∈X.pn++zG,s.heap.get? p.1=some p.2/\H p.1=none/\p.1≠X.env.locals/\p.1∉X.fs/\∀v,p.2.data≠.cell v
 hok:eM X.prog X.w H s.heap
 len:Z.length=X.N.length
section
variable{X:Cx}{zG:List (Addr×Obj)}{Z:List (Option V)}{H H':Hp}{s:Shared}{h':Heap}
def Cx.Ok.nofr(ok:X.Ok)(e:X.base.get? b=some o):b∉X.fs:=λv=>by let:=(ok.funs.mem v).1;rw[e]at this;cases this
def Inv.bs(I:Inv X zG Z H s):∀b o,X.base.get? b=some o->s.heap.get? b=some o/\H b=none:=λb o e=>#[I.base.keep b o (I.ok.bs b o e).1 (I.ok.bs b o e).2 (I.ok.nofr e) (I.ok.noex b o e),I.base.free b o (I.ok.bs b o e).1 (I.ok.bs b o e).2 (I.ok.noex b o e)]
def Inv.bk(I:Inv X zG Z H s):∀b o,X.base.get? b=some o->s.heap.get? b=some o:=λb o e=>(I.bs b o e).1
def Inv.mod(I:Inv X zG Z H s):Mod X.K X.mg X.base:=I.ok.mod
def Inv.kIn(I:Inv X zG Z H s):X.K.In s.heap:=I.ok.mod.kin.keeps I.bk
def Inv.lt(I:Inv X zG Z H s):X.env.locals<s.heap.objs.size:=let⟨_,hn,_⟩:=I.loc;hn.lt
def Inv.sz(I:Inv X zG Z H s):X.s₀.heap.objs.size<=s.heap.objs.size:=le_trans I.ok.above (le_of_lt I.lt)
def Inv.nofs(I:Inv X zG Z H s)(h:s.heap.objs.size<=a):a∉X.fs:=λz=>by let#[_,o,v,_]:=I.ok.funs.mem z;show absurd (lt_of_lt_of_le (qe v) (le_trans I.sz h)) `cd
def Inv.cne(I:Inv X zG Z H s):∀x c,X.env.cells.lookup x=some c->c≠X.env.locals:=λx c e z=>by let#[v,o,G,J]:=I.cell x c e;let#[m,#[o',es,ep,B,F,_],_]:=I.loc;rw[z,B]at G;cases G;rw[F]at J;cases J
def Inv.funs(I:Inv X zG Z H s):s.heap.FunFrames X.base X.outer:=by
 have all:∀(l:List Env),(∀b∈oU l,b∈X.fs)->X.s₀.heap.FunFrames X.base l->s.heap.FunFrames X.base l:=by
  intro l;induction l with
  |nil=>intro _ _;trivial
  |cons h1 r J=>intro G hl;let#[hk,#[L,o,v,Y,O,hd],M]:=hl;let F:L∈X.fs:=G L (by unfold oU;rw[filterMap_cons,v];show qm);let#[sl,e]:=I.base.slot L o O (I.ok.frf L F) F λz=>I.ok.exfs L z F;show#[hk,#[L,_,v,Y,e,hd],J (λb B=>G b (by unfold oU;rw[filterMap_cons,v];show qk _ B)) M]
 show all X.outer (λ_ B=>B) I.ok.funs
def Inv.stack(I:Inv X zG Z H s):s.heap.FunFrames X.base X.stack:=by
 rcases I.ok.stk with e|⟨e,z⟩
 .rw[e];show I.funs
 .rw[e];let#[m,v,_]:=I.loc;show .cons (by rw[I.ok.kind];decide) z v ?_ I.funs;show Heap.get?_none_of_le (le_trans I.ok.bsz I.ok.above)
def Inv.stkSub(I:Inv X zG Z H s):∀b∈oU X.stack,b∈X.env.locals::X.fs:=λb v=>by
 rcases I.ok.stk with e|⟨e,z⟩
 .rw[e]at v;show qk _ v
 .rw[e]at v;unfold oU at v;rw[filterMap_cons,z]at v;show v
def Inv.stkFree(I:Inv X zG Z H s):∀b∈oU X.stack,H b=none:=λb v=>by
 rcases qB.mp (I.stkSub b v)with e|v
 .rw[e];show I.free
 .obtain⟨_,o,B,_⟩:=I.ok.funs.mem v;show I.base.free b o B (I.ok.frf b v) λz=>I.ok.exfs b z v
def Inv.step{ch:List Addr}(I:Inv X zG Z H s)
  (J:∀b∈ch,(b∈X.ex\/X.s₀.heap.get? b=none)/\b≠X.env.locals/\(∀x c,X.env.cells.lookup x=some c->c≠b)/\∀p∈X.pn++zG,p.1≠b)
  (G:∀b o,b≠X.env.locals->b∉X.fs->b∉ch->s.heap.get? b=some o->H b=none->h'.get? b=some o)
  (slot:∀b o,b≠X.env.locals->b∈X.fs->b∉ch->s.heap.get? b=some o->H b=none->∃sl,h'.get? b=some {o with slots:=sl})(free:∀b o,b∉ch->s.heap.get? b=some o->H b=none->H' b=none)
  (there:∀b o,b∉ch->s.heap.get? b=some o->∃o',h'.get? b=some o')
  (h1:∀b xs,H b=some `ax->H' b=some `ax)(h4:∀b o u,H b=some (.frz o u)->H' b=some (.frz o u))(h2:∀b ps,H b=some (.tbl ps)->∃more,H' b=some (.tbl (ps++more)))
  (ns:∀m,s.heap.Ns X.env.locals m->h'.Ns X.env.locals m)(h6:eM X.prog X.w H' h')(hg:AllBare g'):
  Inv X zG Z H' {s with heap:=h',gens:=g',drawn:=d',toks:=t'}:=by
 have h3:∀b o,X.s₀.heap.get? b=some o->b≠X.env.locals:=λb o e=>ne_of_lt (lt_of_lt_of_le (qe e) I.ok.above);let M:∀b o,X.s₀.heap.get? b=some o->b∉X.ex->b∉ch:=λb o e B Y=>by
  rcases(J b Y).1 with z|z
  .show B z
  .rw[z]at e;cases e
 have L:∀x c,X.env.cells.lookup x=some c->∀v,s.heap.IsCell c v->h'.IsCell c v:=λx c e v⟨o,ho,hd⟩=>by
  let F:c∉ch:=λz=>(J c z).2.2.1 x c e rfl;by_cases hc:c∈X.fs
  .obtain⟨sl,q⟩:=slot c o (I.cne x c e) hc F ho (I.freeC x c e);show#[_,q,hd]
  .show#[o,G c o (I.cne x c e) hc F ho (I.freeC x c e),hd]
 show#[I.ok,I.os,hg,#[λb o e n Y B=>?_,λb o e n Y B=>?_,λb o e n B=>?_,λb o e B=>?_,λb xs e=>h1 b xs (I.base.tups b xs e),λb o xs e=>h4 b o xs (I.base.frzs b o xs e),λb ps e=>?_],?_,λx c e=>?_,?_,λx c e=>?_,λp hp=>?_,h6,I.len]
 .show G b o (h3 b o e) Y (M b o e B) (I.base.keep b o e n Y B) (I.base.free b o e n B)
 .obtain⟨sl,O⟩:=I.base.slot b o e n Y B;let#[h5,e2]:=slot b _ (h3 b o e) Y (M b o e B) O (I.base.free b o e n B);show#[h5,e2]
 .obtain⟨o',O⟩:=I.base.there b o e B;show free b o' (M b o e B) O (I.base.free b o e n B)
 .obtain⟨o',O⟩:=I.base.there b o e B;show there b o' (M b o e B) O
 .obtain⟨m1,O⟩:=I.base.tbls b ps e;let#[m2,e2]:=h2 b _ O;show#[m1++m2,by rw[e2,Array.append_assoc]]
 .obtain⟨m,hn,hl⟩:=I.loc;show#[m,ns m hn,λi x v O e2 e3=>?_];let#[u,r,l]:=hl i x v O e2 e3;show#[u,r,?_];rcases l with l|⟨k,c,e,z⟩
  .show .inl l
  .show .inr #[k,c,e,L x c e _ z]
 .obtain⟨v,z⟩:=I.cell x c e;show#[v,L x c e v z]
 .obtain⟨m,⟨o,_,_,ho,_⟩,_⟩:=I.loc;show free _ o (λz=>(J _ z).2.1 rfl) ho I.free
 .obtain⟨v,o,ho,hd⟩:=I.cell x c e;show free c o (λz=>(J c z).2.2.1 x c e rfl) ho (I.freeC x c e)
 .obtain⟨e,n,ne,nf,d⟩:=I.pin p hp;let F:p.1∉ch:=λz=>(J p.1 z).2.2.2 p hp rfl;show#[G p.1 p.2 ne nf F e n,free p.1 p.2 F e n,ne,nf,d]
def Inv.un(I:Inv X zG Z H s)(u:Un X.fs [] H H' s.heap h')(B:eM X.prog X.w H' h'):Inv X zG Z H' {s with heap:=h',toks:=t'}:=by let#[m,#[o,es,ep,L,r],_]:=id I.loc;let#[sl,Y]:=u.any L I.free (by simp);show I.step (g':=s.gens) (d':=s.drawn) (ch:=[]) (λ_ z=>nomatch z) (λb o _ F _ e n=>u.keep b o e n F (by simp)) (λb o _ F _ e n=>u.slot b o e n F (by simp)) (λb o _ e n=>u.free b o e n (by simp)) (λb o _ e=>u.there b o e (by simp)) u.tups u.frzs u.tbls (λm' O=>by let#[o',G,J,v,M]:=O;rw[L]at v;cases v;show#[_,G,J,Y,M]) B I.bare
def Inv.call(I:Inv X zG Z H s)(u:Un (oU X.stack) ch H H' s.heap h')(G:eM X.prog X.w H' h')(hg:AllBare g')
  (F:∀b∈ch,(b∈X.ex\/X.s₀.heap.get? b=none)/\b≠X.env.locals/\(∀x c,X.env.cells.lookup x=some c->c≠b)/\∀p∈X.pn++zG,p.1≠b):
  Inv X zG Z H' {s with heap:=h',gens:=g',drawn:=d',toks:=t'}:=by
 let#[m,#[o,es,ep,O,r],_]:=id I.loc;let#[sl,J]:=u.any O I.free λz=>(F _ z).2.1 rfl;show I.step (ch:=ch) F (λb o J hb v e n=>u.keep b o e n (λz=>(qB.mp (I.stkSub b z)).elim J hb) v) (λb o _ _ v e n=>u.any e n v) (λb o v e n=>u.free b o e n v) (λb o v e=>u.there b o e v) u.tups u.frzs u.tbls (λm' hm=>by let#[o',L,M,B,Y]:=hm;rw[O]at B;cases B;show#[_,L,M,J,Y]) G hg
def Inv.turned(I:Inv X zG Z H s)(k:∀b o,b≠it->s.heap.get? b=some o->h'.get? b=some o)(hn:H it=none)(G:it≠X.env.locals)
  (h1:it∈X.ex\/X.s₀.heap.get? it=none)(h2:∀x c,X.env.cells.lookup x=some c->c≠it)(O:∀p∈X.pn++zG,p.1≠it):Inv X zG Z H {s with heap:=h',toks:=t'}:=by
 let F:∀b u,H b=some u->b≠it:=λb u e z=>by rw[z,hn]at e;cases e
 refine I.step (g':=s.gens) (d':=s.drawn) (ch:=[it]) (λb M=>?_) (λb o _ _ B e _=>k b o (λz=>B (by simp[z])) e) (λb o _ _ B e _=>#[o.slots,k b o (λz=>B (by simp[z])) e]) (λ_ _ _ _ n=>n)
  (λb o B e=>#[o,k b o (λz=>B (by simp[z])) e]) (λ_ _ e=>e) (λ_ _ _ e=>e) (λb ps e=>#[#[],by rw[e];simp]) (λm L=>?_) (λb u e=>?_) I.bare
 .let e:b=it:=by simpa using M
  subst e;show#[h1,G,h2,O]
 .obtain⟨o,es,ep,J,r⟩:=L;show#[o,es,ep,k _ o (Ne.symm G) J,r]
 .show(I.hok b u e).stay (λc v B q=>k c v ?_ q) (λ_ q=>q) λ_ _ q=>q;rcases B with z|z
  .rw[z];show F b u e
  .show F c _ z
def Inv.tok(I:Inv X zG Z H s)(t:Nat):Inv X zG Z H {s with toks:=t}:=I.un (h':=s.heap) (t':=t) Un.refl I.hok
def Inv.kept(I:Inv X zG Z H s)(k:∀b u,s.heap.get? b=some u->h'.get? b=some u):Inv X zG Z H {s with heap:=h',toks:=t'}:=I.un (Un.kept k) (I.hok.kept k)
def Inv.laid(I:Inv X zG Z H s)(k:∀b u,s.heap.get? b=some u->h'.get? b=some u)(v:s.heap.objs.size<=a)(new:zF X.prog X.w (upd H a o) h' a o):
  Inv X zG Z (upd H a o) {s with heap:=h',toks:=t'}:=I.un (Un.laid k v (I.hok.fresh v)) (I.hok.laid k v new)
def Inv.write(I:Inv X zG Z H s)(z:dm (H x))(B:e=x\/H e=some (.own x))(k:∀b u,b≠e->s.heap.get? b=some u->h'.get? b=some u)(v:∃u,h'.get? e=some u)
  (new:zF X.prog X.w (upd H x o) h' x o):Inv X zG Z (upd H x o) {s with heap:=h',toks:=t'}:=I.un (Un.write z B k v) (I.hok.write z B k v new)
def Inv.pins_of(I:Inv X zG Z H s)(h:∀p∈pins',s.heap.get? p.1=some p.2/\H p.1=none/\p.1≠X.env.locals/\p.1∉X.fs/\∀v,p.2.data≠.cell v):Inv X pins' Z H s:=
 #[I.ok,I.os,I.bare,I.base,I.loc,I.cell,I.free,I.freeC,λp B=>(qy.mp B).elim (λz=>I.pin p (qj _ z)) (h p),I.hok,I.len]
def GP{N:List Str}(v:N.Nodup){i j:Nat}(a:N[i]?=some x)(b:N[j]?=some x):i=j:=by let#[h1,B]:=qg.mp a;let#[h2,z]:=qg.mp b;show(List.getElem_inj v).mp (B.trans z.symm)
def VA(I:Inv X zG Z H s)(hN:X.N.Nodup)(hi:X.N[i]?=some x)(L:Loc X.env.scope x)(r:zv v u)
  (h:∀s',Inv X zG (Z.set i `I) H s'->(∃a,Heap.SameBut a s.heap s'.heap/\(a=X.env.locals\/X.env.cells.lookup x=some a))->Q () s')(hf:X.fn x=true\/X.env.scope.names.lookup x=some .local:=by first|show .inl rfl|show .inr rfl|assumption):wpAny M A (storeName X.env x u) Q E s:=by
 let#[m,hn,hl]:=id I.loc;let h5:(X.env.scope.kind==.class||(X.env.scope.kind==.module&&X.env.locals !=X.env.globals))=false:=by rw[I.ok.kind];rfl
 let h1:i<Z.length:=by rw[I.len];show(qg.mp hi).1
 have cne:=I.cne;let F:∀{a:Addr}{h':Heap},(∃o,s.heap.get? a=some o/\H a=none)->Heap.SameBut a s.heap h'->eM X.prog X.w H h':=λ{a h'} ha B b ob e=>by
  let#[_,_,O]:=ha;show(I.hok b ob e).stay (λc w' J q=>(B.2 c ?_).trans q) (λ_ q=>q) λ_ _ q=>q;rintro rfl;rcases J with rfl|J
  .rw[O]at e;cases e
  .rw[O]at J;cases J
 rcases L with hk|hk
 .refine wpAny_storeName_local hk hn (λh' h9 B=>?_) h5;let#[oL,_,_,h8,_]:=id hn;refine h _ #[I.ok,I.os,I.bare,#[λb o e n hb L=>?_,λb o e n hb L=>?_,I.base.free,λb o e L=>?_,I.base.tups,I.base.frzs,I.base.tbls],#[_,h9,λj y v' G Y e3=>?_],λy c e=>?_,I.free,I.freeC,λp hp=>?_,F #[oL,h8,I.free] B,↑I.len] #[_,B,.inl rfl]
  .show(B.2 b `A).trans `ci
  .obtain⟨sl,G⟩:=I.base.slot b o e n hb L;show#[sl,(B.2 b `A).trans G]
  .obtain⟨o',G⟩:=I.base.there b o e L;show#[o',(B.2 b `A).trans G]
  .by_cases hj:j=i
   .subst hj;rw[hi]at G;cases G;rw[getElem?_set_self h1]at Y;cases Y;show#[u,r,.inl #[hk,by simp]]
   .rw[getElem?_set_ne (Ne.symm hj)]at Y;let#[u',r',q]:=hl j y v' G Y e3;show#[u',r',?_];rcases q with⟨k,e⟩|⟨k,c,e,z⟩
    .show .inl #[k,?_];let:y≠x:=λe=>hj (GP hN G (e▸hi));simp[this,e]
    .show .inr #[k,c,e,z.sameBut B (cne y c e)]
  .obtain⟨w',z⟩:=I.cell y c e;show#[w',z.sameBut B (cne y c e)]
  .obtain⟨e,n,ne,nf,d⟩:=I.pin p hp;show#[(B.2 p.1 ne).trans e,n,ne,nf,d]
 .have h2:X.fn x=true:=by
   rcases hf with z|z
   .show z
   .rw[z]at hk;cases hk
  let#[c,J]:=I.ok.has x (.inl hk);let#[w',z]:=I.cell x c J;show wpAny_storeName_cell I.ok.kind hk J z (λh' h7 B=>?_);let#[oc,h4,h3]:=id z;show h {s with heap:=h'} ⟨I.ok,I.os,I.bare,⟨λb o e n hb L=>?_,λb o e n hb L=>?_,I.base.free,λb o e L=>?_,I.base.tups,I.base.frzs,I.base.tbls⟩,⟨m,hn.sameBut B (Ne.symm (cne x c J)),λj y v' G Y e3=>?_⟩,λy c' e=>?_,I.free,I.freeC,λp hp=>?_,F ⟨oc,h4,I.freeC x c J⟩ B,↑I.len⟩ #[c,B,.inr J]
  .show(B.2 b `r).trans `ci
  .obtain⟨sl,G⟩:=I.base.slot b o e n hb L;show#[sl,(B.2 b `r).trans G]
  .obtain⟨o',G⟩:=I.base.there b o e L;show#[o',(B.2 b `r).trans G]
  .by_cases hj:j=i
   .subst hj;rw[hi]at G;cases G;rw[getElem?_set_self h1]at Y;cases Y;show#[u,r,.inr #[.inl hk,c,J,h7]]
   .rw[getElem?_set_ne (Ne.symm hj)]at Y;let#[u',r',q]:=hl j y v' G Y e3;show#[u',r',?_];rcases q with q|⟨k,c',e,z'⟩
    .show .inl q
    .show .inr #[k,c',e,z'.sameBut B ?_];rintro rfl;show hj (GP hN G (I.ok.inj _ _ _ e J▸hi))
  .by_cases h6:c'=c
   .subst h6;show#[_,h7]
   .obtain⟨w2,z2⟩:=I.cell y c' e;show#[w2,z2.sameBut B h6]
  .obtain⟨e,n,ne,nf,d⟩:=I.pin p hp;show#[(B.2 p.1 ?_).trans e,n,ne,nf,d];intro q;rw[q,h4]at e;let q':oc=p.2:=qf e;show d w' (by rw[<-q'];show h3)
def Nq(I:Inv X zG Z H s)(F:X.N.Nodup)(hi:X.N[i]?=some x)(z:Loc X.env.scope x)(r:zv v u)
  (h:∀s',Inv X zG (Z.set i `I) H s'->Q () s')(B:X.fn x=true\/X.env.scope.names.lookup x=some .local:=by first|show .inl rfl|show .inr rfl|assumption):wpAny M A (storeName X.env x u) Q E s:=
 VA I F hi z r (λs' G _=>h s' G) B
def Inv.call'(I:Inv X zG Z H s)(B:s'.os=s.os)(u:Un (oU X.stack) ch H H' s.heap s'.heap)(v:eM X.prog X.w H' s'.heap)(F:AllBare s'.gens)
  (z:∀b∈ch,(b∈X.ex\/X.s₀.heap.get? b=none)/\b≠X.env.locals/\(∀x c,X.env.cells.lookup x=some c->c≠b)/\∀p∈X.pn++zG,p.1≠b):Inv X zG Z H' s':=by
 let#[h',g',d',t',o']:=s';let e:o'=s.os:=B;subst e;show I.call (g':=g') (t':=t') (d':=d') u v F z
end
abbrev XK:=Value->Option Addr->Hp->Prop
abbrev St:=List (Option V)
abbrev VK:=V->Hp->Prop
abbrev TE:=St->Hp->VK->Prop
abbrev TT:=St->Hp->(Bool->Hp->Prop)->Prop
abbrev TA:=St->Hp->(List V->Hp->Prop)->Prop
structure Ends where
 nx:St->Hp->Prop
 rt:VK
 bk:St->Hp->Prop:=λ_ _=>False
 ct:St->Hp->Prop:=λ_ _=>False
abbrev TS:=Ends->St->Hp->Prop
inductive EP(X:Cx)(zG:List (Addr×Obj))(Z:St)(Q:VK)(u:Value)(s':Shared):Prop
 |mk (v:V) (H':Hp):Inv X zG Z H' s'->zv v u->Q v H'->EP X zG Z Q u s'
inductive TP(X:Cx)(zG:List (Addr×Obj))(Z:St)(Q:Bool->Hp->Prop)(b:Bool)(s':Shared):Prop
 |mk (H':Hp):Inv X zG Z H' s'->Q b H'->TP X zG Z Q b s'
inductive AP(X:Cx)(zG:List (Addr×Obj))(Z:St)(Q:List V->Hp->Prop)(us:List Value)(s':Shared):Prop
 |mk (vs:List V) (H':Hp):Inv X zG Z H' s'->zD vs us->Q vs H'->AP X zG Z Q us s'
@[inline]def SP(X:Cx)(zG:List (Addr×Obj))(D:Ends)(f:Flow)(s':Shared):Prop:=
 match f with
 |.next=>∃Z' H',Inv X zG Z' H' s'/\D.nx Z' H'
 |.brk=>∃Z' H',Inv X zG Z' H' s'/\D.bk Z' H'
 |.cont=>∃Z' H',Inv X zG Z' H' s'/\D.ct Z' H'
 |.ret u=>∃v Z' H',Inv X zG Z' H' s'/\zv v u/\D.rt v H'
@[inline]def PE(X:Cx)(e:Expr)(t:TE):Prop:=
 ∀(zG:List (Addr×Obj))(s:Shared)(Z:St)(H:Hp)(Q:VK),Inv X zG Z H s->t Z H Q->wpAny `a X.A (eval e X.env) `ay X.xe s
@[inline]def PT(X:Cx)(e:Expr)(t:TT):Prop:=
 ∀(zG:List (Addr×Obj))(s:Shared)(Z:St)(H:Hp)(Q:Bool->Hp->Prop),Inv X zG Z H s->t Z H Q->wpAny `a X.A (isTrue e X.env (eval e X.env)) (TP X zG Z Q) X.xe s
@[inline]def PW(X:Cx)(e:Expr)(t:TT):Prop:=
 ∀(v:Sem Value)(zG:List (Addr×Obj))(s:Shared)(Z:St)(H:Hp)(Q:Bool->Hp->Prop),Inv X zG Z H s->t Z H Q->wpAny `a X.A (isTrue e X.env v) (TP X zG Z Q) X.xe s
def PW.pt(h:PW X e t):PT X e t:=h _
@[inline]def PA(X:Cx)(es:List Expr)(t:TA):Prop:=
 ∀(pos:Pos)(zG:List (Addr×Obj))(s:Shared)(Z:St)(H:Hp)(Q:List V->Hp->Prop),Inv X zG Z H s->t Z H Q->wpAny `a X.A (spliced (backTo pos `h)) (AP X zG Z Q) X.xe s
@[inline]def PS(X:Cx)(st:Stmt)(t:TS):Prop:=
 ∀(zG:List (Addr×Obj))(s:Shared)(Z:St)(H:Hp)(D:Ends),Inv X zG Z H s->t D Z H->wpAny `a X.A (exec st X.env) (SP X zG D) X.xe s
def jS(X:Cx)(st:List Stmt)(t:TS):Prop:=
 ∀(zG:List (Addr×Obj))(s:Shared)(Z:St)(H:Hp)(D:Ends),Inv X zG Z H s->t D Z H->wpAny `a X.A (execs st X.env) (SP X zG D) X.xe s
def An(h:wpAny M A t Q E s)(v:∀a s,Q a s->Q' a s):wpAny M A t Q' E s:=zh h v λ_ _ x=>x
section
variable{X:Cx}
def ik(i:Nat):TE:=λZ H Q=>∃v,Z[i]?=some `I/\Q v H
def tC(v:V):TE:=λ_ H Q=>Q v H
def Qi(hN:X.N[i]?=some x)(M:da X.env.scope x)(G:autoParam ((x==("__debug__":Str))=false) dZ9)(J:autoParam ((x==("__classdict__":Str))=false) dZ9):PE X (.Name x pos) (ik i):=by
 intro zG s Z H Q I h;let#[v,e,h]:=h;let#[m,O,hl]:=I.loc;let#[u,r,l]:=hl i x v hN e M;let F:EP X zG Z Q u s:=#[v,H,I,r,h]
 rcases l with⟨B,Y⟩|⟨B,c,L,z⟩
 .show wpAny_Name (wpAny_loadName_local I.ok.kind B O Y F) G
 .rcases B with B|B
  .show wpAny_Name (wpAny_loadName_cell I.ok.kind B L z F) G
  .show wpAny_Name (wpAny_loadName_free I.ok.kind B L z F J) G
def PM:PE X (.Constant `O j pos) (tC `O):=λ_ _ _ H _ I h=>wpAny_Constant_int #[.int i,H,I.tok _,#[_,rfl],h]
def Pl:PE X (.Constant (.bool b) j pos) (tC (.bl b)):=λ_ _ _ H _ I h=>Constant_bool #[.bl b,H,I,rfl,h]
def Rb:PE X (.Constant (.str x) j pos) (tC (.str x)):=λ_ _ _ H _ I h=>Calls.Constant_str #[.str x,H,I.tok _,#[_,rfl],h]
@[inline]def Gl(X:Cx)(x:Str):Prop:=X.env.kindOf x=some .globalImplicit
def Sa(I:Inv X zG Z H s)(z:Gl X x)(v:X.mg x=some u)(h:Q u s)
  (B:autoParam ((x==("__debug__":Str))=false) dZ9):wpAny `a X.A (eval (.Name x pos) X.env) Q E s:=
 Calls.Name_function_global I.ok.kind z (Calls.loadGlobal_global (by rw[I.ok.glob];show I.mod.glob.keeps I.bk) v h) B
def FP(I:Inv X zG Z H s)(B:Gl X x)(z:X.mg x=none)(v:bootBuiltins x=some u)(h:Q u s)
  (hn:autoParam (x≠"__name__") dZ9)(F:autoParam ((x==("__debug__":Str))=false) dZ9):wpAny `a X.A (eval (.Name x pos) X.env) Q E s:=by
 let#[G,h1,h2]:=I.mod.blt;show Calls.Name_function_global I.ok.kind B (Calls.loadGlobal_builtin (by rw[I.ok.glob];show I.mod.glob.keeps I.bk) z (by rw[I.ok.blt];show h1.keeps I.bk) ((h2 x hn).trans v) h) F
variable{a b:Expr}{ta tb:TE}{pos:Pos}
def Ej(b:Expr)(h:v≠.In)(h2:v≠.NotIn):behindInMarks v b=false:=by
 let B:(v==CmpOp.In)=false:=by cases v<;>first|rfl|show absurd rfl h
 let z:(v==CmpOp.NotIn)=false:=by cases v<;>first|rfl|show absurd rfl h2
 cases b<;>first|rfl|(show(_&&(v==.In||v==.NotIn)&&_)=false;rw[B,z,Bool.or_false,Bool.and_false];rfl)
variable{tA tB':TT}{rest:List Expr}
def jd(t u:TT):TT:=λZ H Q=>t Z H λc H1=>if c=true then u Z H1 Q else Q false H1
def rr(t u:TT):TT:=λZ H Q=>t Z H λc H1=>if c=true then Q true H1 else u Z H1 Q
def iw(t:TT):TT:=λZ H Q=>t Z H λc H1=>Q (!c) H1
def RR(v:PT X a tA):PW X (.BoolOp .And [a] pos) tA:=by
 intro z zG s Z H Q I h;show isTrue_and (An (v zG s Z H Q I h) λc B e=>?_);cases c with
 |true=>show isTrue_and_nil e
 |false=>show e
def PH(v:PT X a tA):PW X (.BoolOp .Or [a] pos) tA:=by
 intro z zG s Z H Q I h;show isTrue_or (An (v zG s Z H Q I h) λc B e=>?_);cases c with
 |false=>show isTrue_or_nil e
 |true=>show e
def PR(L:PT X a tA)(J:PW X (.BoolOp .And (b::rest) pos) tB'):PW X (.BoolOp .And (a::b::rest) pos) (jd tA tB'):=by
 intro F zG s Z H Q I h;show isTrue_and (An (L zG s Z H _ I h) λc G B=>?_);let#[H1,z,v]:=B;cases c with
 |true=>show J F zG G Z H1 Q z v
 |false=>show#[H1,z,v]
def Po(L:PT X a tA)(J:PW X (.BoolOp .Or (b::rest) pos) tB'):PW X (.BoolOp .Or (a::b::rest) pos) (rr tA tB'):=by
 intro F zG s Z H Q I h;show isTrue_or (An (L zG s Z H _ I h) λc G B=>?_);let#[H1,z,v]:=B;cases c with
 |true=>show#[H1,z,v]
 |false=>show J F zG G Z H1 Q z v
def Qq(B:PT X a tA):PT X (.UnaryOp .Not a pos) (iw tA):=by intro zG s Z H Q I h;show isTrue_not (An (B zG s Z H (λc H1=>Q (!c) H1) I h) λc G z=>by let#[H1,F,v]:=z;show#[H1,F,v])
end
def bQ(K:W.Frag)(H:Hp)(a:Addr)(xs:List V):Prop:=
 Rd H a `N\/
  ∃(o:Obj)(v:Array Value)(n:Nat),K.lookup a=some o/\o.cls=.type "list"/\o.dict=none/\o.data=.seq v n/\v.size<=sizeLine/\zD xs v.toList
def bV(K:W.Frag)(H:Hp)(a:Addr)(xs:List V):Prop:=
 Rd H a `ax\/
  ∃(o:Obj)(v:Array Value)(n:Nat),K.lookup a=some o/\o.cls=.type "tuple"/\o.data=.seq v n/\v.size<=sizeLine/\zD xs v.toList
def mv:Value->Option V
 |.none=>some .non
 |.bool b=>some (.bl b)
 |.int i _=>some `O
 |.str x _=>some (.str x)
 |.bytes b _=>some (.byt b)
 |.float b _=>some (.flt b)
 |.ref a=>some `p
 |.type n=>some (.ty n)
 |_=>none
def zv.abs(r:zv x u):mv u=some x:=by
 cases x with
 |non=>cases r;rfl
 |bl _=>cases r;rfl
 |int _=>let#[t,rfl]:=r;rfl
 |str _=>let#[t,rfl]:=r;rfl
 |byt _=>let#[t,rfl]:=r;rfl
 |flt _=>let#[t,rfl]:=r;rfl
 |ref _=>cases r;rfl
 |ty _=>cases r;rfl
def zv.inj(r:zv x u)(q:zv y u):x=y:=qf (r.abs.symm.trans q.abs)
def zD.inj:∀{xs ys:List V}{v:List Value},zD xs v->zD ys v->xs=ys:=by
 intro xs ys v r q;induction r generalizing ys with
 |nil=>cases q;rfl
 |cons r _ F=>cases q with
  |cons B z=>rw[r.inj B,F z]
inductive dr(xs:List V)(h:Heap)(a:Addr):Prop
 |mk (zK:List Value):zD xs zK->PlainL h a zK.toArray->xs.length<=sizeLine->dr xs h a
inductive dq(xs:List V)(h:Heap)(a:Addr):Prop
 |mk (zK:List Value):zD xs zK->IsTup h a zK.toArray->xs.length<=sizeLine->dq xs h a
section
variable{X:Cx}{zG:List (Addr×Obj)}{Z:St}{H:Hp}{s:Shared}{a:Addr}{xs ys:List V}
def bQ.of{K:W.Frag}(h:H a=some `N):bQ K H a xs:=.inl (.inl h)
def bV.of{K:W.Frag}(h:H a=some `ax):bV K H a xs:=.inl (.inl h)
def Inv.list(I:Inv X zG Z H s)(h:bQ X.K H a xs):dr xs s.heap a:=by
 rcases h with h|⟨o,v,n,F,J,G,B,L,r⟩
 .obtain⟨z,v,n,r,e⟩:=h.ok I.hok;show#[v,r,#[_,n,e,rfl,rfl,rfl],z]
 .show#[v.toList,r,#[o,n,I.kIn a o F,J,G,↑B],?_];let e:=r.length;simp only[qV]at e;lia
def Inv.tuple(I:Inv X zG Z H s)(h:bV X.K H a xs):dq xs s.heap a:=by
 rcases h with h|⟨o,v,n,F,G,B,J,r⟩
 .obtain⟨z,v,r,p⟩:=h.ok I.hok;show#[v,r,p,z.1]
 .show#[v.toList,r,#[o,I.kIn a o F,G,n,↑B],?_];let e:=r.length;simp only[qV]at e;lia
def Inv.list_inj(I:Inv X zG Z H s)(h:bQ X.K H a xs)(h':bQ X.K H a ys):xs=ys:=by
 let#[z,r,#[o,n,e,_,_,d],_]:=I.list h;let#[v,G,#[o',J,B,_,_,F],_]:=I.list h';rw[e]at B;cases B;rw[d]at F;injection F with d1 _
 let:z=v:=by simpa using congrArg Array.toList d1
 subst this;show r.inj G
def Inv.tuple_inj(I:Inv X zG Z H s)(h:bV X.K H a xs)(h':bV X.K H a ys):xs=ys:=by
 let#[z,r,#[o,e,_,n,d],_]:=I.tuple h;let#[v,G,#[o',B,_,J,F],_]:=I.tuple h';rw[e]at B;cases B;rw[d]at F;injection F with d1 _
 let:z=v:=by simpa using congrArg Array.toList d1
 subst this;show r.inj G
end
section
variable{X:Cx}{st:Stmt}{rest:List Stmt}{t u:TS}{e:Expr}{te:TE}{pos:Pos}
def ab:TS:=λD Z H=>D.nx Z H
def iq(t u:TS):TS:=λD Z H=>t {D with nx:=u D} Z H
def Ro:jS X [] ab:=λ_ _ Z H _ I h=>wpAny_execs_nil #[Z,H,I,h]
def TL(h1:PS X st t)(h2:jS X rest u):jS X (st::rest) (iq t u):=by
 intro zG s Z H D I h;show wpAny_execs_cons (An (h1 zG s Z H {D with nx:=u D} I h) λf B q=>?_);cases f with
 |next=>let#[z,H',F,q]:=q;show h2 zG B z H' D F q
 |ret v=>show q
 |brk=>show q
 |cont=>show q
def Rz(h1:PS X st t):jS X [st] t:=by
 intro zG s Z H D I h;show wpAny_execs_cons (An (h1 zG s Z H D I h) λf z q=>?_);cases f with
 |next=>show wpAny_execs_nil q
 |ret v=>show q
 |brk=>show q
 |cont=>show q
def Inv.quiet(I:Inv X zG Z H s):interactive X.env=false:=by simp[interactive,I.ok.kind]
def ae(te:TE):TS:=λD Z H=>te Z H λ_ H1=>D.nx Z H1
def Rv(B:PE X e te)(hs:autoParam (swapsWith e none pos.line X.env=pure false) rZ9):PS X (.Expr e pos) (ae te):=by intro zG s Z H D I h;show wpAny_Expr_any (An (B zG s Z H _ I h) λv G⟨x,H1,F,J,z⟩=>#[Z,H1,F,z]) I.quiet hs
def ir(te:TE):TS:=λD Z H=>te Z H D.rt
def Ql(F:PE X e te):PS X (.Return (some e) pos) (ir te):=by intro zG s Z H D I h;show wpAny_Return_some (An (F zG s Z H _ I h) λv J⟨x,H1,G,z,B⟩=>#[x,Z,H1,G,z,B])
def iz(c:TT)(t u:TS):TS:=λD Z H=>c Z H λb H1=>if b=true then t D Z H1 else u D Z H1
def Ph(G:PT X c tc)(L:jS X a t)(J:jS X b u):PS X (.If c a b pos) (iz tc t u):=by
 intro zG s Z H D I h;show wpAny_If (An (G zG s Z H _ I h) λd v F=>?_);let#[H1,B,z]:=F;cases d with
 |true=>show L zG v Z H1 D B z
 |false=>show J zG v Z H1 D B z
end
abbrev TG:=V->St->Hp->(St->Hp->Prop)->Prop
abbrev df:=List V->St->Hp->(St->Hp->Prop)->Prop
@[inline]def PG(X:Cx)(z:Expr)(t:TG):Prop:=
 ∀(zG:List (Addr×Obj))(s:Shared)(Z:St)(H:Hp)(v:V)(u:Value)(Q:St->Hp->Prop),Inv X zG Z H s->zv v u->t v Z H Q->
  wpAny `a X.A (assign z X.env u) (λ_ s'=>∃Z' H',Inv X zG Z' H' s'/\Q Z' H') X.xe s
def dk(X:Cx)(z:List Expr)(t:df):Prop:=
 ∀(zG:List (Addr×Obj))(s:Shared)(Z:St)(H:Hp)(vs:List V)(v:List Value)(Q:St->Hp->Prop),Inv X zG Z H s->zD vs v->t vs Z H Q->
  wpAny `a X.A (assignInOrder ((assignEach z X.env).map (·.2)) v) (λ_ s'=>∃Z' H',Inv X zG Z' H' s'/\Q Z' H') X.xe s
abbrev TSet:=V->V->V->Hp->(Hp->Prop)->Prop
def dj(X:Cx)(t:TSet):Prop:=
 ∀(zG:List (Addr×Obj))(s:Shared)(Z:St)(H:Hp)(o i v:V)(z B u:Value)(Q:Hp->Prop),Inv X zG Z H s->zv o z->zv i B->zv v u->t o i v H Q->
  wpAny `a X.A (setItem z B u) (λ_ s'=>∃H',Inv X zG Z H' s'/\Q H') X.xe s
section
variable{X:Cx}{pos:Pos}
def ml:df:=λv Z H Q=>v=[]/\Q Z H
def cn(t:TG)(u:df):df:=λB Z H Q=>∃v r,B=v::r/\t v Z H λz H'=>u r z H' Q
def SM:dk X [] ml:=by intro zG s Z H v z Q I r h;let#[e,h]:=h;subst e;cases r;show assignInOrder_nil #[Z,H,I,h]
def SY(h1:PG X e t)(h2:dk X es u)
  (hs:autoParam ((assignEach (e::es) X.env).map (·.2)=assign e X.env::(assignEach es X.env).map (·.2)) rZ9):dk X (e::es) (cn t u):=by
 intro zG s Z H O us Q I r h;let#[v,Y,L,h]:=h;subst L;cases r with
 |cons r G=>rw[hs];show assignInOrder_cons (An (h1 zG s Z H _ _ _ I r h) λ_ F B=>?_);let#[z,H1,M,J]:=B;show h2 zG F z H1 _ _ Q M G J
def eK(K:W.Frag)(n:Nat)(t:df):TG:=λv Z H Q=>∃a xs,v=.ref a/\bV K H a xs/\xs.length=n/\t xs Z H Q
def Qx(Y:X.calm=true)(h:dk X es t)
  (hn:autoParam ((assignEach es X.env).length=n) rZ9)(B:autoParam ((assignEach es X.env).findIdx? (·.1)=none) rZ9):PG X (.Tuple es k pos) (eK X.K n t):=by
 intro zG s Z H v u Q I r z;let#[a,xs,e1,M,O,z]:=z;subst e1;cases r;let#[G,F,L,hz]:=I.tuple M;show assign_Tuple_tuple (I.ok.hd Y) L (by simp[hn,<-O,F.length]) B λh' J=>?_;let I1:Inv X zG Z H {s with heap:=h'}:=I.kept (t':=s.toks) λb o e=>J b o (ne_of_lt (qe e)) e;show h zG _ Z H xs _ Q I1 ↑F z
def mj(z B:TE)(t:TSet):TG:=λv Z H Q=>z Z H λo H1=>B Z H1 λi H2=>t o i v H2 λF=>Q Z F
def Qe(ho:PE X o to)(hi:PE X i ti)(hs:dj X t)
  (ha:∀v,assign (.Subscript o i pos) X.env v=(do
   let ov<-holding [v] `at
   let iv<-holding [v,ov] (eval i X.env)
   standAt pos
   holding [v,ov,iv] (setItem ov iv v)
   release [v,ov,iv] []):=by intro _;rfl):PG X (.Subscript o i pos) (mj to ti t):=by
 intro zG s Z H v u Q I r h;rw[ha];show qa (zf (An (ho zG s Z H _ I h) λov s1 zq=>?_));let#[x,H1,I1,r1,q1]:=zq;show qa (zf (An (hi zG s1 Z H1 _ I1 q1) λiv s2 zq=>?_));let#[y,H2,I2,r2,q2]:=zq;show qa (wpAny_standAt (qa (zf (An (hs zG s2 Z H2 x y v ov iv u _ I2 r1 r2 r q2) λ_ s3 zq=>?_))));let#[H3,I3,q3]:=zq;show wpAny_release #[Z,H3,I3,q3]
def jc(te:TE)(g:TG):TS:=λD Z H=>te Z H λx H1=>g x Z H1 D.nx
def LG(M:PE X e te)(L:PG X tg g)(hs:autoParam (swapsWithSole [tg] e pos.line X.env=pure false) rZ9)(J:autoParam (swappedStores [tg] e X.env=pure none) rZ9)
  (h1:autoParam ((assignEach [tg] X.env).map (·.2)=[assign tg X.env]) rZ9):PS X (.Assign [tg] e pos) (jc te g):=by
 intro zG s Z H D I h;show wpAny_Assign_stores (An (M zG s Z H _ I h) λv B z=>?_) hs J;let#[x,H1,O,F,G]:=z;rw[h1];show An (L zG B Z H1 x v _ O F G) λ_ Y q=>q
def iu(i j:Nat)(ta:TA):TS:=λD Z H=>ta Z H λz H1=>∃v w,z=[v,w]/\D.nx ((Z.set i `I).set j (some w)) H1
def QK(hc:X.calm=true)(hN:X.N.Nodup)(hi:X.N[i]?=some x)(hj:X.N[j]?=some y)(hij:i≠j)
  (hx:X.env.scope.names.lookup x=some .local)(hy:X.env.scope.names.lookup y=some .local)(ha:PA X [a,b] ta)
  (hw:swappedStores [.Tuple [.Name x px,.Name y py] kt pt] (.Tuple [a,b] k2 pt2) X.env=pure (some [x,y]))
  (hs:autoParam (swapsWithSole [.Tuple [.Name x px,.Name y py] kt pt] (.Tuple [a,b] k2 pt2) pos.line X.env=pure false) rZ9):
  PS X (.Assign [.Tuple [.Name x px,.Name y py] kt pt] (.Tuple [a,b] k2 pt2) pos) (iu i j ta):=by
 intro zG s Z H D I h;rw[exec_Assign_arm];show qa (wpAny_standAt ?_);rw[hs];show qa (qb ?_);rw[q5 ⋯];show qa (Tuple_ (An (ha _ zG s Z H _ I h) λus s1 zq=>?_));let#[vs,H1,I1,r1,q1]:=zq;let#[v,w,e1,q1]:=q1;subst e1;obtain⟨u1,u2,rfl,rv,rw'⟩:∃u1 u2,us=[u1,u2]/\zv v u1/\zv w u2:=by
  cases r1 with
  |cons p q=>
   cases q with
   |cons p' q'=>cases q';show#[_,_,rfl,p,p']
 show zc ?_ (by show 2<=sizeLine;decide);let I2:Inv X zG Z H1 {s1 with heap:=s1.heap.push {cls:=.type "tuple",data:=.seq [u1,u2].toArray}}:=I1.kept (t':=s1.toks) λb o e=>qc _ e;rw[hw];show qa (qb ?_);show wpAny `a X.A (do rule "assign.swapped-stores";let items<-unpackItems (.ref s1.heap.objs.size) 2 none;assignInOrder [λv=>bindName X.env y v,λv=>bindName X.env x v] items.reverse;pure Flow.next) _ _ _;show qa (wpAny_rule (qa (unpackItems_tuple (items:=[u1,u2].toArray) `ca (IsTup.new s1.heap _) λh' hx'=>?_)));let I3:=I2.kept (h':=h') (t':=s1.toks) λb o e=>hx' b o (ne_of_lt (qe e)) e;show wpAny _ _ (assignInOrder [λv=>bindName X.env y v,λv=>bindName X.env x v] [u2,u1]>>=λ_=>pure Flow.next) _ _ _;show qa (assignInOrder_cons (wpAny_bindName (Nq I3 hN hj (.inl hy) rw' (λs2 I4=>?_) (.inr hy))));show assignInOrder_cons (wpAny_bindName (Nq I4 hN hi (.inl hx) rv (λs3 I5=>assignInOrder_nil (qb ?_)) (.inr hx)));rw[set_comm _ _ (Ne.symm hij)]at I5;show#[_,H1,I5,q1]
def vK(c:TT)(tb:TS):TS:=λD Z H=>∃W:Nat->St->Hp->Prop,(∃m,W m Z H)/\∀m Z H,W m Z H->
 c Z H λb H1=>if b=true then∃N:St->Hp->Prop,(∀Z' H',N Z' H'->∃m',m'<m/\W m' Z' H')/\tb {D with nx:=N,ct:=N,bk:=D.nx} Z H1 else D.nx Z H1
def UJ(hp:PassesOwn `a X.A X.env X.xe)(hc:PT X c tc)(hb:jS X body tb):PS X (.While c body [] pos) (vK tc tb):=by
 intro zG s Z H D I h;let#[W,#[m0,w0],F]:=h;show wpAny_While (codeAny_whileLoop (λn s'=>∃Z' H',Inv X zG Z' H' s'/\W n Z' H') ?_ m0 #[Z,H,I,w0]);rintro n s1 ⟨B,H1,I1,w1⟩;show wpAny_passesOwn hp (An (hc zG s1 B H1 _ I1 (F n B H1 w1)) λb s2 zq=>?_);let#[H2,I2,L]:=zq;cases b with
 |true=>
  let#[N,hN,L]:=L;rw[q4 rfl];show wpAny_passesOwn hp (An (hb zG s2 B H2 _ I2 L) λf s3 J=>?_);cases f with
  |next=>let#[z,G,I3,O]:=J;let#[Y,hm,M]:=hN z G O;show#[Y,hm,z,G,I3,M]
  |cont=>let#[z,G,I3,O]:=J;let#[Y,hm,M]:=hN z G O;show#[Y,hm,z,G,I3,M]
  |brk=>show J
  |ret v=>show J
 |false=>rw[q5 qX];show wpAny_execs_nil #[B,H2,I2,L]
end
structure It where
 go:Nat->Hp->Prop
 yld:Nat->Hp->V->Hp->Prop
 stop:Nat->Hp->Prop
def eN(X:Cx)(zG:List (Addr×Obj))(H:Hp)(b:Addr):Prop:=
 H b=none/\b≠X.env.locals/\b∉X.fs/\(b∈X.ex\/X.s₀.heap.get? b=none)/\(∀x c,X.env.cells.lookup x=some c->c≠b)/\∀p∈X.pn++zG,p.1≠b
def Inv.fpOk(I:Inv X zG Z H s)(B:s.heap.objs.size<=b)(hn:H' b=none):eN X zG H' b:=by
 show#[hn,ne_of_gt (lt_of_lt_of_le I.lt B),I.nofs B,.inr (Heap.get?_none_of_le (le_trans I.sz B)),λx c e z=>?_,λp F z=>?_]
 .obtain⟨v,q⟩:=I.cell x c e;show absurd (lt_of_lt_of_le q.lt (by rw[z];show B)) `cd
 .show absurd (lt_of_lt_of_le (qe (I.pin p F).1) (by rw[z];show B)) `cd
structure kO(P:Program)(w:World)(K:W.Frag)(tg:Expr)(J:It)(fp:List Addr)(it:Addr)(tn:Nat->Heap->Prop):Prop where
 mem:it∈fp
 obj:∀i h,tn i h->∀b∈fp,∃o,h.get? b=some o/\∀v,o.data≠.cell v
 keep:∀i h h',tn i h->(∀b∈fp,∀o,h.get? b=some o->h'.get? b=some o)->tn i h'
 item:∀(X:Cx),X.prog=P->X.w=w->X.K=K->X.calm=true->∀(i:Nat)(zG:List (Addr×Obj))(s:Shared)(Z:St)(H:Hp)(E:zj),Inv X zG Z H s->(∀b∈fp,eN X zG H b)->tn i s.heap->J.go i H->
  wpAny `di X.A (pyNext `s) (λr s1=>∃u,r=some u/\
   wpAny `di X.A (letOwnedTupleGo tg `s u) (λ_ s2=>∃x H',Inv X zG Z H' s2/\zv x u/\J.yld i H x H'/\tn (i+1) s2.heap/\∀b∈fp,H' b=none) E s1) E s
 done:∀(X:Cx),X.prog=P->X.w=w->X.K=K->X.calm=true->∀(i:Nat)(zG:List (Addr×Obj))(s:Shared)(Z:St)(H:Hp)(E:zj),Inv X zG Z H s->(∀b∈fp,eN X zG H b)->tn i s.heap->J.stop i H->
  wpAny `di X.A (pyNext `s) (λr s1=>r=none/\Inv X zG Z H s1) E s
 self:∀(A:Around)(i:Nat)(s:Shared)(Q:zj)(E:zj),tn i s.heap->Q `s s->wpAny `di A (pyIter `s) Q E s
abbrev TI:=St->Hp->(It->Hp->Prop)->Prop
inductive gq(X:Cx)(zG:List (Addr×Obj))(Z:St)(tg:Expr)(R:It->Hp->Prop)(itv:Value)(s2:Shared):Prop
 |mk (it:Addr) (fp:List Addr) (tn:Nat->Heap->Prop) (J:It) (H':Hp):itv=.ref it->Inv X zG Z H' s2->kO X.prog X.w X.K tg J fp it tn->tn 0 s2.heap->(∀b∈fp,eN X zG H' b)->R J H'->gq X zG Z tg R itv s2
@[inline]def PI(X:Cx)(tg iter:Expr)(z:TI):Prop:=
 ∀(zG:List (Addr×Obj))(s:Shared)(Z:St)(H:Hp)(R:It->Hp->Prop),Inv X zG Z H s->z Z H R->
  wpAny `a X.A (eval iter X.env) (λv B=>wpAny `a X.A (pyIter v) (gq X zG Z tg R) X.xe B) X.xe s
def Ic(z:s.heap.get? it=some o)(F:o.cls=.type n)(B:o.data=.fields vs)
  (hn:["enumerate","zip","dict_itemiterator","dict_reverseitemiterator","odict_iterator","itertools.zip_longest","itertools.pairwise"].contains n=false)(v:Q () s):wpAny M A (letOwnedTupleGo tg `s u) Q E s:=by
 unfold letOwnedTupleGo;cases tg<;>first
  |show qb v
  |(cases u<;>first
   |show qb v
   |(show qa (wpAny_load z ?_);rw[F,B];show wpAny M A (if(["enumerate","zip","dict_itemiterator","dict_reverseitemiterator","odict_iterator","itertools.zip_longest","itertools.pairwise"].contains n&&vs[0]?==some (rawInt _))=true then _ else _) Q E s;rw[q5 (by intro h;rw[hn,Bool.false_and]at h;cases h)];show qb v))
def nh(K:W.Frag)(a:Addr):It:=
 #[λi H=>∃xs x,bQ K H a xs/\xs[i]?=some x,λi H x H'=>H'=H/\∀xs,bQ K H a xs->xs[i]?=some x,λi H=>∃xs,bQ K H a xs/\xs.length<=i]
def mz(K:W.Frag)(a:Addr):It:=
 #[λi H=>∃xs x,bV K H a xs/\xs[i]?=some x,λi H x H'=>H'=H/\∀xs,bV K H a xs->xs[i]?=some x,λi H=>∃xs,bV K H a xs/\xs.length<=i]
def dt(lo:Int)(n:Nat):It:=#[λi _=>i<n,λi H x H'=>H'=H/\x=.int (lo+i),λi _=>n<=i]
def Wp{P:Program}{w:World}{K:W.Frag}{tg:Expr}(a it:Addr):kO P w K tg (nh K a) [it] it (λi h=>h.IsListIter it a i) where
 mem:=by simp
 obj:=λi h st b hb=>by
  let e:b=it:=↑hb
  subst e;let#[o,e,c,d]:=st;show#[o,e,λv z=>by rw[d]at z;cases z]
 keep:=λi h h' st k=>st.at λo e=>k it (by simp) o e
 item:=by intro X hP hw hK hc i zG s Z H E I hf st hg;subst hP hw hK;let#[xs,x,hq,hx]:=hg;let#[zK,rv,p,hz]:=I.list hq;let#[u,hu,ru]:=rv.get hx;let#[f0,f1,f2,f3,f4,f5]:=hf it (by simp);show wpAny_pyNext_list_item st p.isList (x:=u) ↑hu λh' st' sb=>?_;let I1:Inv X zG Z H {s with heap:=h'}:=I.turned (t':=s.toks) (λb o hb e=>(sb.2 b hb).trans e) f0 f1 f3 f4 f5;let#[o,e,c,d]:=id st';show#[u,rfl,Ic (s:={s with heap:=h'}) e c d ⋯ #[x,H,I1,ru,#[rfl,λys hy=>by rw[I.list_inj hy hq];show hx],st',λb hb=>(hf b hb).1]]
 done:=by intro X hP hw hK hc i zG s Z H E I hf st hg;subst hP hw hK;let#[xs,hq,hx]:=hg;let#[zK,rv,p,hz]:=I.list hq;let#[f0,f1,f2,f3,f4,f5]:=hf it (by simp);let hl:=rv.length;show wpAny_pyNext_list_end `ca st p.isList (by simp;lia -verbose) λh' eb=>#[rfl,I.turned (t':=s.toks) (λb o hb e=>eb b o hb e) f0 f1 f3 f4 f5]
 self:=λ_ _ _ _ _ st h=>wpAny_pyIter_listiter st h
def Wb{P:Program}{w:World}{K:W.Frag}{tg:Expr}(a it:Addr):kO P w K tg (mz K a) [it] it (λi h=>h.IsTupleIter it a i) where
 mem:=by simp
 obj:=λi h st b hb=>by
  let e:b=it:=↑hb
  subst e;let#[o,e,c,d]:=st;show#[o,e,λv z=>by rw[d]at z;cases z]
 keep:=λi h h' st k=>st.at λo e=>k it (by simp) o e
 item:=by intro X hP hw hK hc i zG s Z H E I hf st hg;subst hP hw hK;let#[xs,x,hq,hx]:=hg;let#[zK,rv,p,hz]:=I.tuple hq;let#[u,hu,ru]:=rv.get hx;let#[f0,f1,f2,f3,f4,f5]:=hf it (by simp);show wpAny_pyNext_tuple_item st (show s.heap.IsTuple a zK.toArray from p) (x:=u) ↑hu λh' st' sb=>?_;let I1:Inv X zG Z H {s with heap:=h'}:=I.turned (t':=s.toks) (λb o hb e=>(sb.2 b hb).trans e) f0 f1 f3 f4 f5;let#[o,e,c,d]:=id st';show#[u,rfl,Ic (s:={s with heap:=h'}) e c d ⋯ #[x,H,I1,ru,#[rfl,λys hy=>by rw[I.tuple_inj hy hq];show hx],st',λb hb=>(hf b hb).1]]
 done:=by intro X hP hw hK hc i zG s Z H E I hf st hg;subst hP hw hK;let#[xs,hq,hx]:=hg;let#[zK,rv,p,hz]:=I.tuple hq;let#[f0,f1,f2,f3,f4,f5]:=hf it (by simp);let hl:=rv.length;show wpAny_pyNext_tuple_end `ca st (show s.heap.IsTuple a zK.toArray from p) (by simp;lia -verbose) λh' eb=>#[rfl,I.turned (t':=s.toks) (λb o hb e=>eb b o hb e) f0 f1 f3 f4 f5]
 self:=λ_ _ _ _ _ st h=>wpAny_pyIter_tupleiter st h
def VZ{P:Program}{w:World}{K:W.Frag}{tg:Expr}(it:Addr)(lo:Int)(n:Nat):kO P w K tg (dt lo n) [it] it (λi h=>IsRangeIter h it (lo+(i:Nat)*1) ((n:Int)-(i:Nat)) 1) where
 mem:=by simp
 obj:=λi h st b hb=>by
  let e:b=it:=↑hb
  subst e;show#[_,st,λv z=>by let z':Data.fields _=Data.cell v:=z;cases z']
 keep:=λi h h' st k=>k it (by simp) _ st
 item:=by intro X hP hw hK hc i zG s Z H E I hf st hg;subst hP hw hK;let#[f0,f1,f2,f3,f4,f5]:=hf it (by simp);let W:=Walks.range (prog:=X.prog) (w:=X.w) `ca it lo 1 n;show W.item i s _ _ hg st λv h' tk hv st' kk=>?_;let#[t,rfl]:=hv;let I1:Inv X zG Z H {s with heap:=h',toks:=tk}:=I.turned (λb o hb e=>kk b o ↑hb e) f0 f1 f3 f4 f5;show#[_,rfl,Ic (s:={s with heap:=h',toks:=tk}) (n:="range_iterator") st' rfl rfl ⋯ #[.int (lo+i),H,I1,#[t,?_],#[rfl,rfl],st',λb hb=>(hf b hb).1]];rw[mul_one]
 done:=by intro X hP hw hK hc i zG s Z H E I hf st hg;subst hP hw hK;let#[f0,f1,f2,f3,f4,f5]:=hf it (by simp);show wpAny_pyNext_range_end `ca st (by let:n<=i:=hg;lia) λh' eb=>#[rfl,I.turned (t':=s.toks) (λb o hb e=>eb b o hb e) f0 f1 f3 f4 f5]
 self:=λ_ _ _ _ _ st h=>wpAny_pyIter_rangeiter st h
section
variable{X:Cx}{tg:Expr}
def NS{lo hi:Int}(I:Inv X zG Z H s)(h1:-(2^62)<=lo)(h2:lo<2^62)(G:-(2^62)<=hi)(F:hi<2^62)
  (q:R (dt lo (hi-lo).toNat) H):wpAny `a X.A (pyIter `g) (gq X zG Z tg R) E {s with heap:=s.heap.push {cls:=.type "range",data:=.fields [.int lo t,.int hi u,.int 1 v].toArray},toks:=tk}:=by
 refine wpAny_pyIter_range (IsRange.new ..) (small_one h1 h2 G F) ?_;let z:Inv X zG Z H {s with heap:=s.heap.push {cls:=.type "range",data:=.fields [.int lo t,.int hi u,.int 1 v].toArray},toks:=tk}:=I.kept λb o e=>qc _ e;refine⟨(s.heap.push {cls:=.type "range",data:=.fields [.int lo t,.int hi u,.int 1 v].toArray}).objs.size,[(s.heap.push {cls:=.type "range",data:=.fields [.int lo t,.int hi u,.int 1 v].toArray}).objs.size],_,_,H,rfl,
  z.kept (t':=tk) λb o e=>qc _ e,VZ _ lo (hi-lo).toNat,?_,λb B=>?_,q⟩
 .let L:lo+((0:Nat):Int)*1=lo:=by simp
  let J:(((hi-lo).toNat:Nat):Int)-((0:Nat):Int)=Builtin.Range.rangeSize lo hi 1:=by rw[rangeSize_one];split<;>lia
  show IsRangeIter _ _ (lo+((0:Nat):Int)*1) ((((hi-lo).toNat:Nat):Int)-((0:Nat):Int)) 1;rw[L,J];show qd _ rfl
 .let e:b=(s.heap.push {cls:=.type "range",data:=.fields [.int lo t,.int hi u,.int 1 v].toArray}).objs.size:=by simpa using B
  subst e;show z.fpOk `j (z.hok.fresh `j)
def ck(ta:TA):TI:=λZ H R=>ta Z H λv H1=>∃j:Int,v=[.int j]/\-(2^62)<=j/\j<2^62/\R (dt 0 j.toNat) H1
def cj(ta:TA):TI:=λZ H R=>ta Z H λv H1=>∃i j:Int,v=[.int i,.int j]/\(-(2^62)<=i/\i<2^62/\-(2^62)<=j/\j<2^62)/\R (dt i (j-i).toNat) H1
def Vy(L:Gl X "range")(J:X.mg "range"=none)(M:PA X [a] ta)(hs:autoParam (starEach [a] X.env=[(false,eval a X.env)]) rZ9):PI X tg (.Call (.Name "range" p) [a] [] pos) (ck ta):=by
 intro zG s Z H R I h;show Call_ (FP I L J boot_range (PyProof.Rows.callWith_type1 (An (M pos zG s Z H _ I h) λus s1 z=>?_) hs rfl));let#[Y,H1,O,F,v]:=z;let#[j,e,v,G,q]:=v;subst e;cases F with
 |cons r B=>cases B;let#[t,rfl]:=r;show call_range_1 (NS O ∅ ∅ v G ↑q)
def VH(hg:Gl X "range")(Y:X.mg "range"=none)(ha:PA X [a,b] ta)(hs:autoParam (starEach [a,b] X.env=[(false,eval a X.env),(false,eval b X.env)]) rZ9)(v:autoParam (starEach [b] X.env=[(false,eval b X.env)]) rZ9):
  PI X tg (.Call (.Name "range" p) [a,b] [] pos) (cj ta):=by
 intro zG s Z H R I h;show Call_ (FP I hg Y boot_range (PyProof.Rows.callWith_type1 (An `cy λus s1 F=>?_) (by rw[hs,v]) (by rw[v];rfl)));let#[vs,H1,I1,G,B]:=F;let#[i,j,e,#[B,O,M,L],q]:=B;subst e;cases G with
 |cons r z=>
  cases z with
  |cons J z=>cases z;let#[t,rfl]:=r;let#[t',rfl]:=J;show call_range_2 (NS I1 B O M L q)
def ja(z:TI)(g:TG)(tb:TS):TS:=λD Z H=>z Z H λJ H1=>∃W:Nat->Nat->St->Hp->Prop,(∃m,W 0 m Z H1)/\∀i m Z H,W i m Z H->
 (J.stop i H/\D.nx Z H)\/(J.go i H/\∃N:St->Hp->Prop,(∀Z' H',N Z' H'->∃m',m'<m/\W (i+1) m' Z' H')/\∀x H',J.yld i H x H'->g x Z H' λv H2=>tb {D with nx:=N,ct:=N,bk:=D.nx} v H2)
def gJ(fp:List Addr)(h:Heap):List (Addr×Obj):=fp.filterMap λb=>(h.get? b).map λo=>(b,o)
def IT(v:b∈fp)(e:h.get? b=some o):(b,o)∈gJ fp h:=mem_filterMap.mpr #[b,v,by rw[e];rfl]
def UB(v:p∈gJ fp h):p.1∈fp/\h.get? p.1=some p.2:=by
 let#[b,z,e]:=mem_filterMap.mp v;cases q:h.get? b with
 |none=>rw[q]at e;cases e
 |some o=>grind
def Inv.pinned(I:Inv X zG Z H s)(L:∀b∈fp,eN X zG H b)(J:∀b∈fp,∃o,s.heap.get? b=some o/\∀v,o.data≠.cell v):Inv X (zG++gJ fp s.heap) Z H s:=
 I.pins_of λp G=>(qy.mp G).elim (λz=>I.pin p (qi _ z)) λz=>by let#[B,e]:=UB z;let#[Y,O,M,_]:=L p.1 B;let#[o,F,d]:=J p.1 B;rw[e]at F;cases F;show#[e,Y,O,M,d]
def Inv.unpinned(I:Inv X (zG++z) Z H s):Inv X zG Z H s:=I.pins_of λp v=>I.pin p (qi _ (qj _ v))
def Rg(hp:PassesOwn `a X.A X.env X.xe)(hc:X.calm=true)(hi:PI X tg iter wi)(hg:PG X tg g)(G:jS X body tb)
  (hs:∀x,foldedSetIterable iter X.env x=pure x:=by intro _;rfl):PS X (.For tg iter body [] pos) (ja wi g tb):=by
 intro zG s Z H D I h;show wpAny_For (An (hi zG s Z H _ I h) λv s1 h1=>An h1 λe3 s2 h2=>?_) hs;let#[it,fp,tn,J,H2,e,I2,T,h9,f2,W,#[m0,w0],h3]:=h2;subst e
 --what stays true of the iterator's objects through the loop
 let F:∀{H':Hp},(∀b∈fp,H' b=none)->∀b∈fp,eN X zG H' b:=λhn b G=>#[hn b G,(f2 b G).2]
 show codeAny_forLoop_any (λn s'=>∃i Z' H',Inv X zG Z' H' s'/\tn i s'.heap/\(∀b∈fp,H' b=none)/\W i n Z' H') ?_ m0 #[0,Z,H2,I2,h9,λb G=>(f2 b G).1,w0];rintro n s3 ⟨i,B,H3,I3,h6,h7,w3⟩;rcases h3 i n B H3 w3 with⟨h5,qn⟩|⟨go,N,hN,step⟩
 .show wpAny_passesOwn hp (An (T.done X rfl rfl rfl hc i zG s3 B H3 X.xe I3 (F h7) h6 h5) λr s4⟨hr,I4⟩=>?_);subst hr;show wpAny_execs_nil #[B,H3,I4,qn]
 .show wpAny_passesOwn hp (An (T.item X rfl rfl rfl hc i zG s3 B H3 X.xe I3 (F h7) h6 go) λr s4 zq=>?_);let#[u,hr,h4]:=zq;subst hr;show wpAny_passesOwn hp (An h4 λ_ s5 zq=>?_);let#[x,H5,I5,r5,y5,Y,e1]:=zq;let e2:=I5.pinned (F e1) (T.obj _ _ Y);show wpAny_passesOwn hp (An (hg _ s5 B H5 x u _ e2 r5 (step x H5 y5)) λ_ s6 zq=>?_);let#[h8,H6,I6,q6]:=zq;show wpAny_passesOwn hp (An (G _ s6 h8 H6 _ I6 q6) λf s7 O=>?_);let again:∀{z:St}{M:Hp},Inv X (zG++gJ fp s5.heap) z M s7->N z M->∃m,m<n/\∃i Z' H',Inv X zG Z' H' s7/\tn i s7.heap/\(∀b∈fp,H' b=none)/\W i m Z' H':=λ{z M} L n7=>by let#[m',hm,w7]:=hN z M n7;show#[m',hm,i+1,z,M,L.unpinned,T.keep _ _ _ Y λb G o e=>(L.pin (b,o) (qi _ (qi _ (IT G e)))).1,λb G=>?_,w7];let#[o,e,d]:=T.obj _ _ Y b G;exact(L.pin (b,o) (qi _ (qi _ (IT G e)))).2.1
  cases f with
  |next=>let#[z,M,L,n7]:=O;show again L n7
  |cont=>let#[z,M,L,n7]:=O;show again L n7
  |brk=>let#[z,M,L,O]:=O;show#[z,M,L.unpinned,O]
  |ret v=>let#[x7,z,M,L,r7,O]:=O;show#[x7,z,M,L.unpinned,r7,O]
end
abbrev R2:=V->V->Hp->VK->Prop
@[inline]def OpR(X:Cx)(f:Value->Value->Sem Value)(r:R2):Prop:=
 ∀(zG:List (Addr×Obj))(s:Shared)(Z:St)(H:Hp)(x y:V)(v u:Value)(Q:VK),Inv X zG Z H s->zv x v->zv y u->r x y H Q->
  wpAny `a X.A (f v u) `ay X.xe s
def mx(X:Cx)(f:Value->Sem Value)(r:V->Hp->VK->Prop):Prop:=
 ∀(zG:List (Addr×Obj))(s:Shared)(Z:St)(H:Hp)(x:V)(v:Value)(Q:VK),Inv X zG Z H s->zv x v->r x H Q->
  wpAny `a X.A (f v) `ay X.xe s
def aZ(X:Cx)(f:Value)(r:List V->Hp->VK->Prop):Prop:=
 ∀(zG:List (Addr×Obj))(s:Shared)(Z:St)(H:Hp)(xs:List V)(v:List Value)(Q:VK),Inv X zG Z H s->zD xs v->r xs H Q->
  wpAny `a X.A (call f v) `ay X.xe s
def my(X:Cx)(r:V->Hp->(Bool->Hp->Prop)->Prop):Prop:=
 ∀(zG:List (Addr×Obj))(s:Shared)(Z:St)(H:Hp)(x:V)(v:Value)(Q:Bool->Hp->Prop),Inv X zG Z H s->zv x v->r x H Q->
  wpAny `a X.A (truthy v) (TP X zG Z Q) X.xe s
def fo(r:R2)(ta tb:TE):TE:=λZ H Q=>ta Z H λx H1=>tb Z H1 λy H2=>r x y H2 Q
def rj(r:V->Hp->VK->Prop)(ta:TE):TE:=λZ H Q=>ta Z H λx H1=>r x H1 Q
def rI(C:Int->Int->Prop)(g:Int->Int->V):R2:=λx y H Q=>∃i j,x=.int i/\y=.int j/\C i j/\Q (g i j) H
def tX(g:Int->Int->V):R2:=λx y H Q=>∃i j,x=.int i/\y=.int j/\Q (g i j) H
def rU(g:Int->V):V->Hp->VK->Prop:=λx H Q=>∃i,x=.int i/\Q (g i) H
section
variable{X:Cx}{a b c:Expr}{ta tb tc:TE}{pos:Pos}
def Gx(ha:PE X a ta)(hb:PE X b tb){R:V->V->Hp->Prop}(I:Inv X zG Z H s)
  (h:ta Z H λx H1=>tb Z H1 λy H2=>R x y H2){f:Value->Value->Sem Value}
  (hf:∀v u F x y H2,Inv X zG Z H2 F->zv x v->zv y u->R x y H2->wpAny `a X.A (f v u) Q X.xe F):
  wpAny `a X.A (eval a X.env) (λv B=>wpAny `a X.A (eval b X.env) (λu z=>wpAny `a X.A (f v u) Q X.xe z) X.xe B) X.xe s:=by
 show An (ha zG s Z H _ I h) λv J G=>?_;let#[x,H1,I1,M,Y]:=G;show An (hb zG J Z H1 _ I1 Y) λu F G=>?_;let#[y,H2,I2,L,O]:=G;show hf v u F x y H2 I2 M L O
def Pu(J:OpR X (binaryOp G) r)(M:PE X a ta)(L:PE X b tb):PE X (.BinOp a G b pos) (fo r ta tb):=by intro zG s Z H Q I h;show wpAny_BinOp (Gx M L I h λv u z x y H2 O F B q=>J zG z Z H2 x y v u Q O F B q)
def Pq(J:mx X (unaryOp G) r)(L:PE X a ta):PE X (.UnaryOp G a pos) (rj r ta):=by intro zG s Z H Q I h;show UnaryOp_ (An (L zG s Z H _ I h) λv z⟨x,H1,M,B,F⟩=>J zG z Z H1 x v Q M B F)
def HH{g:Int->Int->Int}
  (rule:∀(i j:Int)(t u:Tok)(s:Shared)(Q:zj)(E:zj),C i j->Q (.int (g i j) s.toks) {s with toks:=s.toks+1}->wpAny `a X.A (f (.int i t) (.int j u)) Q E s):
  OpR X f (rI C λi j=>.int (g i j)):=by
 intro zG s Z H x y v u Q I F B h;let#[i,j,rfl,rfl,G,q]:=h;let#[t,rfl]:=F;let#[z,rfl]:=B;show rule i j t z s _ _ G #[.int (g i j),H,I.tok _,#[_,rfl],q]
def KJ{g:Int->Int->Int}
  (rule:∀(i j:Int)(t u:Tok)(s:Shared)(Q:zj)(E:zj),Q (.int (g i j) s.toks) {s with toks:=s.toks+1}->wpAny `a X.A (f (.int i t) (.int j u)) Q E s):
  OpR X f (tX λi j=>.int (g i j)):=by
 intro zG s Z H x y v u Q I F B h;let#[i,j,rfl,rfl,q]:=h;let#[t,rfl]:=F;let#[z,rfl]:=B;show rule i j t z s _ _ #[.int (g i j),H,I.tok _,#[_,rfl],q]
def EW{g:Int->Int->Bool}
  (rule:∀(i j:Int)(t u:Tok)(s:Shared)(Q:zj)(E:zj),Q (.bool (g i j)) s->wpAny `a X.A (f (.int i t) (.int j u)) Q E s):
  OpR X f (tX λi j=>.bl (g i j)):=by
 intro zG s Z H x y v u Q I F B h;let#[i,j,rfl,rfl,q]:=h;let#[t,rfl]:=F;let#[z,rfl]:=B;show rule i j t z s _ _ #[.bl (g i j),H,I,rfl,q]
def dz(i j:Int):Prop:=0<=j/\j<=1000000/\i.natAbs<2^64
def pG(i j:Int):Prop:=(-(2^64)<i/\i<2^64)\/(-(2^64)<j/\j<2^64)
def pG.ok(h:pG i j):IntMulOk i j:=by
 rcases h with⟨h1,h2⟩|⟨h1,h2⟩
 .show .of_left (intBits_le_64 h1 h2)
 .show .of_right (intBits_le_64 h1 h2)
def QC:OpR X `cz (tX λi j=>.int (i+j)):=KJ λ_ _ _ _ _ _ _ q=>add_int q
def Qc:OpR X (binaryOp .Mult) (rI pG λi j=>.int (i*j)):=HH λ_ _ _ _ _ _ _ v q=>mul_int q v.ok
def PL:OpR X (binaryOp .Mod) (rI (λ_ j=>0<j) λi j=>.int (i %j)):=HH λi j _ _ _ _ _ v q=>by let h1:(0:Int)<j:=v;show mod_int' ∅ (by rw[Int.fmod_eq_emod_of_nonneg i ∅];show q)
def Qs:OpR X (binaryOp .Pow) (rI dz λi j=>.int (i^j.toNat)):=HH λ_ _ _ _ _ _ _ v q=>pow_int_small v.1 v.2.1 v.2.2 q
theorem ff{g:Int->Int}
  (rule:∀(i:Int)(t:Tok)(s:Shared)(Q:zj)(E:zj),Q (.int (g i) s.toks) {s with toks:=s.toks+1}->wpAny `a X.A (f (.int i t)) Q E s):
  mx X f (rU λi=>.int (g i)):=by
 intro zG s Z H x v Q I z h;let#[i,rfl,q]:=h;let#[t,rfl]:=z;show rule i t s _ _ #[.int (g i),H,I.tok _,#[_,rfl],q]
def PV:mx X (unaryOp .USub) (rU λi=>.int (-i)):=ff λ_ _ _ _ _ q=>neg_int q
end
def ak:V->V->Bool
 |.non,.non=>true|.non,.int _=>true|.int _,.non=>true|.non,.bl _=>true|.bl _,.non=>true|.non,.str _=>true|.str _,.non=>true
 |.int _,.int _=>true|.bl _,.bl _=>true|.str _,.str _=>true|.byt _,.byt _=>true
 |.int _,.str _=>true|.str _,.int _=>true|.bl _,.str _=>true|.str _,.bl _=>true
 |_,_=>false
def sf:R2:=λx y H Q=>ak x y=true/\Q (.bl (!decide (x=y))) H
def RT:decide (V.int i=V.int j)=(i==j):=by rw[Bool.eq_iff_iff];simp
def Qm:decide (V.bl i=V.bl j)=(i==j):=by rw[Bool.eq_iff_iff];simp
def RY:decide (V.str i=V.str j)=(i==j):=by rw[Bool.eq_iff_iff];simp
def Sn:decide (V.byt i=V.byt j)=(i.toList==j.toList):=by rw[Bool.eq_iff_iff];cases i;cases j;simp
section
variable{X:Cx}{a b c:Expr}{ta tb tc:TE}{pos:Pos}
def CG(I:Inv X zG Z H s)(q:Q (.bl k) H)(e:k=v):EP X zG Z Q (.bool v) s:=by subst e;show#[.bl k,H,I,rfl,q]
def Pm:OpR X (compareOp .NotEq) sf:=by
 intro zG s Z H x y v u Q I G z h;let#[F,q]:=h;cases x with
 |non=>
  cases G;cases y with
  |non=>cases z;show PySem.EqNone.ne_none_none (CG I q (by simp))
  |bl j=>cases z;show PySem.EqNone.ne_none_bool (CG I q (by simp))
  |int j=>let#[B,rfl]:=z;show PySem.EqNone.ne_none_int (CG I q (by simp))
  |str j=>let#[B,rfl]:=z;show PySem.EqNone.ne_none_str (CG I q (by simp))
  |_=>show absurd (show false=true from F) qX
 |bl i=>
  cases G;cases y with
  |non=>cases z;show PySem.EqNone.ne_bool_none (CG I q (by simp))
  |bl j=>cases z;show ne_bool (CG I q (congrArg not Qm))
  |str j=>let#[B,rfl]:=z;show PySem.EqMixed.ne_bool_str (CG I q (by simp))
  |_=>show absurd (show false=true from F) qX
 |int i=>
  let#[t,rfl]:=G;cases y with
  |non=>cases z;show PySem.EqNone.ne_int_none (CG I q (by simp))
  |int j=>let#[B,rfl]:=z;show ne_int (CG I q (congrArg not RT))
  |str j=>let#[B,rfl]:=z;show PySem.EqMixed.ne_int_str (CG I q (by simp))
  |_=>show absurd (show false=true from F) qX
 |str i=>
  let#[t,rfl]:=G;cases y with
  |non=>cases z;show PySem.EqNone.ne_str_none (CG I q (by simp))
  |bl j=>cases z;show PySem.EqMixed.ne_str_bool (CG I q (by simp))
  |int j=>let#[B,rfl]:=z;show PySem.EqMixed.ne_str_int (CG I q (by simp))
  |str j=>let#[B,rfl]:=z;show ne_str (CG I q (congrArg not RY))
  |_=>show absurd (show false=true from F) qX
 |byt i=>
  let#[t,rfl]:=G;cases y with
  |byt j=>let#[B,rfl]:=z;show W.ne_bytes (CG I q (congrArg not Sn))
  |_=>show absurd (show false=true from F) qX
 |_=>cases y<;>show absurd (show false=true from F) qX
def Pr:OpR X (compareOp .Lt) (tX λi j=>.bl (decide (i<j))):=EW λ_ _ _ _ _ _ _ q=>lt_int q
def Py:OpR X (compareOp .LtE) (tX λi j=>.bl (decide (i<=j))):=EW λ_ _ _ _ _ _ _ q=>le_int q
def Pk:OpR X (compareOp .Gt) (tX λi j=>.bl (decide (j<i))):=EW λ_ _ _ _ _ _ _ q=>gt_int q
def Pf:OpR X (compareOp .GtE) (tX λi j=>.bl (decide (j<=i))):=EW λ_ _ _ _ _ _ _ q=>ge_int q
def Ad(b:Expr)(h:autoParam (v≠.In) dZ9)(h2:autoParam (v≠.NotIn) dZ9):behindInMarks v b=false:=Ej b h h2
def QR(J:OpR X (compareOp z) r)(O:PE X a ta)(M:PE X b tb)(L:behindInMarks z b=false):PE X (.Compare a [z] [b] pos) (fo r ta tb):=by intro zG s Z H Q I h;show wpAny_Compare1 (Gx O M I h λv u B x y H2 Y G F q=>J zG B Z H2 x y v u Q Y G F q) L
def zW(t:TE):TT:=λZ H Q=>t Z H λx H'=>∃k,x=.bl k/\Q k H'
def RH(ho:OpR X (compareOp B) r)(ha:PE X a ta)(hb:PE X b tb)(hm:behindInMarks B b=false):PT X (.Compare a [B] [b] pos) (zW (fo r ta tb)):=by
 intro zG s Z H Q I h;show wpAny_isTrue_Compare1 (An (ha zG s Z H _ I h) λv G⟨x,H1,I1,M,q1⟩=>An (hb zG G Z H1 _ I1 q1) λu F⟨y,H2,I2,L,Y⟩=>An (ho zG F Z H2 x y v u _ I2 M L Y) λc s3⟨z,H3,I3,J,k,e,O⟩=>?_) hm
 subst e;cases J;show wpAny_truthy_bool #[H3,I3,O]
def yS(K:W.Frag)(x:V)(H:Hp)(k:Bool):Prop:=
 match x with
 |.non=>k=false
 |.bl b=>k=b
 |.int i=>k=(i !=0)
 |.str y=>y.length<=sizeLine/\k=((y.length:Int) !=0)
 |.byt y=>y.size<=sizeLine/\k=((y.size:Int) !=0)
 |.ref p=>(∃xs,bQ K H p xs/\k=!xs.isEmpty)\/(∃xs,bV K H p xs/\k=!xs.isEmpty)\/∃zH,H p=some `co/\k=!zH.isEmpty
 |_=>False
def WH(r:KV zH vs):(!vs.isEmpty)=!zH.isEmpty:=by cases r<;>rfl
def OA(r:zD xs v):(!v.toArray.isEmpty)=!xs.isEmpty:=by cases r<;>simp
def AV:(sizeLine:Nat)<2^63:=by rw[ze];decide
def QB:my X (λx H Q=>∃k,yS X.K x H k/\Q k H):=by
 intro zG s Z H x v Q I F h;let#[k,e,q]:=h;let hl:=AV;let hs:sizeLine=16777216:=ze;cases x with
 |non=>cases F;let z:k=false:=e;subst z;show truthy_none #[H,I,q]
 |bl b=>cases F;let z:k=b:=e;subst z;show wpAny_truthy_bool #[H,I,q]
 |int i=>let#[t,rfl]:=F;let z:k=(i !=0):=e;subst z;show PySem.P.truthy_int #[H,I,q]
 |str y=>let#[t,rfl]:=F;obtain⟨O,z⟩:y.length<=sizeLine/\k=((y.length:Int) !=0):=e;subst z;show PySem.P.truthy_str ∅ #[H,I.tok _,q]
 |byt y=>let#[t,rfl]:=F;obtain⟨O,z⟩:y.size<=sizeLine/\k=((y.size:Int) !=0):=e;subst z;show W.truthy_bytes ∅ #[H,I.tok _,q]
 |ref p=>
  cases F;let z:(∃xs,bQ X.K H p xs/\k=!xs.isEmpty)\/(∃xs,bV X.K H p xs/\k=!xs.isEmpty)\/∃zH,H p=some `co/\k=!zH.isEmpty:=e;rcases z with⟨xs,G,z⟩|⟨xs,G,z⟩|⟨zH,G,z⟩
  .subst z;let#[L,r,J,M]:=I.list G;let B:=r.length;show wpAny_truthy_list J.isList (by simp only[qr];lia) #[H,I.tok _,by rw[OA r];show q]
  .subst z;let#[L,r,J,M]:=I.tuple G;let B:=r.length;show truthy_tuple J (by simp only[qr];lia) #[H,I.tok _,by rw[OA r];show q]
  .subst z;obtain⟨M,Y,vs,r,m⟩:zH.length<=sizeLine/\(p==sysModules)=false/\∃vs,KV zH vs/\s.heap.DictOf `bk p vs:=I.hok p _ G;let B:zH.length=vs.length:=Paired.length r;show wpAny_truthy_dict Y m ∅ #[H,I.tok _,by rw[WH r];show q]
 |_=>show(show False from e).elim
def Ut(ha:PE X a ta)(he:∀whole,isTrue a X.env whole=(do let v<-whole;standAt a.pos;holding [v] (truthy v))):
  PT X a (λZ H Q=>ta Z H λx H'=>∃k,yS X.K x H' k/\Q k H'):=by
 intro zG s Z H Q I h;show isTrue_plain (An (ha zG s Z H _ I h) λv s1⟨x,H1,I1,r1,q1⟩=>QB zG s1 Z H1 x v Q I1 r1 q1) (he _)
def Wm:OpR X `cz (λx y H Q=>∃i j,x=.str i/\y=.str j/\i.length+j.length<=sizeLine/\Q (.str (i++j)) H):=by intro zG s Z H x y v u Q I F B h;let#[i,j,rfl,rfl,G,q]:=h;let#[t,rfl]:=F;let#[z,rfl]:=B;show add_str (λz tk=>#[.str (i++j),H,I.tok _,#[_,rfl],q]) G
theorem vals1(r:zD [x] v):∃u,v=[u]/\zv x u:=by
 cases r with
 |cons B z=>cases z;show#[_,rfl,B]
def Vg:aZ X (.type "int") (λxs H Q=>(∃i,xs=[.int i]/\Q `O H)\/∃k,xs=[.bl k]/\Q (.int (if k then 1 else 0)) H):=by
 intro zG s Z H xs z Q I r h;rcases h with⟨i,rfl,q⟩|⟨k,rfl,q⟩
 .obtain⟨u,rfl,t,rfl⟩:=vals1 r;show call_int_int #[.int i,H,I,#[_,rfl],q]
 .obtain⟨u,rfl,v⟩:=vals1 r;cases v;show call_int_bool #[.int (if k then 1 else 0),H,I.tok _,#[_,rfl],q]
end
structure yV(h:Heap)(x dx C:Addr)(mA:Str->Option Value):Prop where
 obj:h.get? x=some (W.instObj C dx)
 ns:h.Ns1 dx mA
 ne:dx≠x
def VP{h:Heap}(n:h.Ns1 dx F):∃B,h.get? dx=some B/\∀name,W.lookIn name B=some (F name):=by
 let#[o,es,ep,J,O,M,_,L]:=n;show#[o,J,λname=>?_];let e:=L name;unfold nsFind findBy at e;rw[<-Array.find?_toList]at e;unfold W.lookIn;rw[O];dsimp only;split
 .rename_i y q;rw[q]at e;show congrArg some e
 .rename_i q;rw[q]at e;let a:es.toList.any (·.refKey)=false:=by rw[List.any_eq_false];intro y G;let#[z,t,v]:=M y (mem_toList_iff.mp G);simp[DictEntry.refKey,v]
  grind
def yV.look(I:yV h x dx C z):∃v,W.InstAt h x (W.instObj C dx) C `I/\∀name,W.lookIn name v=some (z name):=
 let⟨v,ho,hl⟩:=VP I.ns
 #[v,#[I.obj,rfl,rfl,ho],hl]
def dW.some_of(r:dW `I o):∃u,o=some u/\zv v u:=by
 cases o with
 |none=>show(show False from r).elim
 |some u=>show#[u,rfl,r]
def dW.none_of(r:dW none o):o=none:=by
 cases o with
 |none=>rfl
 |some u=>show(show False from r).elim
section
variable{P:Program}{w:World}{H H':Hp}{h h':Heap}{a C dx:Addr}{fs fs':List (Str×V)}
def Rx(B:eM P w H h)(e:H a=some (.ins C dx fs)):∃v,yV h a dx C v/\(∀f,dW (fs.lookup f) (v f))/\PySem.Within v (fs.map (·.1))/\fs.length<=1000/\H dx=some (.own a):=by
 let#[d,z,G,F,v,n,r,q]:=(show zF P w H h a (.ins C dx fs) from B a _ e)
 show#[v,#[F,n,G],r,q,z,d]
end
structure nj(K:W.Frag)(C:Addr):Prop where
 pg:W.plainGet K C Str.empty=true
 hd:W.hasDictIn K C=true
 po:W.plainOver K C=true
 sa:W.findIn K (.ref C) "__setattr__"=some (some (.builtin "object.__setattr__"))
def nj.get{K:W.Frag}(c:nj K C)(f:Str):W.plainGet K C f=true:=c.pg
section
variable{X:Cx}{zG:List (Addr×Obj)}{Z:St}{H:Hp}{s:Shared}{A:Around}{E:zj}{Q:zj}{c:Value}{b:Bool}
inductive fV(K:W.Frag)(H:Hp):V->Value->Prop where
 |non:fV K H .non (.type "NoneType")
 |bl (x:Bool):fV K H (.bl x) (.type "bool")
 |int (i:Int):fV K H (.int i) (.type "int")
 |str (x:Str):fV K H (.str x) (.type "str")
 |flt (x:UInt64):fV K H (.flt x) (.type "float")
 |lst {a:Addr} {xs:List V} (e:H a=some (.lst xs)):fV K H (.ref a) (.type "list")
 |frz {a:Addr} {o:Obj} {xs:List V} (e:H a=some (.frz o (.lst xs))):fV K H (.ref a) (.type "list")
 |tup {a:Addr} {xs:List V} (e:H a=some (.tup xs)):fV K H (.ref a) (.type "tuple")
 |dK {a:Addr} {zH:List (aO×V)} (e:H a=some (.dK zH)):fV K H (.ref a) (.type "dict")
 |dT {a:Addr} {zH:List (List aO×V)} (e:H a=some (.dT zH)):fV K H (.ref a) (.type "dict")
 |ins {a C dx:Addr} {fs:List (Str×V)} (e:H a=some (.ins C dx fs)) (cl:nj K C) (ha:W.findIn K (.ref C) "__class__"=some (some (.builtin "object.__class__")))
  (hn:W.specialIn K (.builtin "object.__class__") "__get__"=some (some (.builtin "getset_descriptor.__get__"))) (htk:W.takesIn K (.builtin "object.__class__")=some true)
  (hm:W.mroIn K C (.type "object")=some true):fV K H `p (.ref C)
def FZ(I:Inv X zG Z H s)(v:zv x u)(ty:fV X.K H x t)(e:W.kitOne X.K t c=some b)(h:∀tk,Q (.bool b) {s with toks:=tk}):
  wpAny `a A (call (.builtin "isinstance") [u,c]) Q E s:=by
 cases ty with
 |non=>cases(show u=Value.none from v);show W.kia_one W.kitx_none I.kIn True.intro e (λz=>nomatch z) h
 |bl y=>cases(show u=Value.bool y from v);show W.kia_one W.kitx_bool I.kIn True.intro e (λz=>nomatch z) h
 |int i=>let#[t,q]:=(show∃t,u=Value.int i t from v);cases q;show W.kia_one W.kitx_int I.kIn True.intro e (λz=>nomatch z) h
 |str y=>let#[t,q]:=(show∃t,u=Value.str y t from v);cases q;show W.kia_one W.kitx_str I.kIn True.intro e (λz=>nomatch z) h
 |flt y=>let#[t,q]:=(show∃t,u=Value.float y t from v);cases q;show W.kia_one W.kitx_float I.kIn True.intro e (λz=>nomatch z) h
 |@lst a xs B=>
  cases(show u=Value.ref a from v);let#[_,_,n,_,h1]:=(show zF X.prog X.w H s.heap a `N from I.hok a _ B)
  show W.kia_one W.kitx_list I.kIn #[_,h1,rfl] e (λz=>nomatch z) h
 |@frz a M xs B=>
  cases(show u=Value.ref a from v);let#[_,_,_,n,_,h1]:=(show zF X.prog X.w H s.heap a (.frz M `N) from I.hok a _ B)
  show W.kia_one W.kitx_list I.kIn #[_,h1,rfl] e (λz=>nomatch z) h
 |@tup a xs B=>
  cases(show u=Value.ref a from v);let#[_,_,_,p]:=(show zF X.prog X.w H s.heap a `ax from I.hok a _ B)
  let#[o,h1,h2,_]:=p;show W.kia_one W.kitx_tuple I.kIn #[o,h1,h2] e (λz=>nomatch z) h
 |@dK a F B=>
  cases(show u=Value.ref a from v);let#[_,_,vs,_,p]:=(show zF X.prog X.w H s.heap a (.dK F) from I.hok a _ B)
  let#[o,es,ep,h1,h2,_]:=p;show W.kia_one W.kitx_dict I.kIn #[o,h1,h2.1] e (λz=>nomatch z) h
 |@dT a F B=>
  cases(show u=Value.ref a from v);let#[_,_,xs,_,o,es,ep,h1,h2,_]:=(show zF X.prog X.w H s.heap a (.dT F) from I.hok a _ B)
  show W.kia_one W.kitx_dict I.kIn #[o,h1,h2.1] e (λz=>nomatch z) h
 |@ins a C dx fs B L ha Y G hm=>cases(show u=Value.ref a from v);let#[mA,O,_]:=Rx I.hok B;let#[od,J,_]:=O.look;show W.kia_one (W.kitx_own (L.get _) L.hd ha Y G hm) I.kIn J e (λz=>nomatch z) h
end
structure cB(k:Nat)(A:Around):Prop where
 hd:A.handled=none
 dp:A.depth+3*k+5<recursionLimit
 un:A.units+16*k+200<cLine
 gd:A.guards=some []
def cB.mono(r:cB k A)(h:j<=k):cB j A:=#[r.hd,by let:=r.dp;lia,by let:=r.un;lia,r.gd]
def cB.deeper(r:cB (k+1) A)(env:Env):cB k (A.deeper env):=
 #[r.hd,by let:=r.dp;show A.depth+1+3*k+5<_;lia,by let:=r.un;show A.units+3+16*k+200<_;lia,r.gd]
def cB.depth(r:cB k A):A.depth<recursionLimit:=by let:=r.dp;lia
def cB.units(r:cB k A):A.units+64<cLine:=by let:=r.un;lia
def ix:TA:=λ_ H Q=>Q [] H
def ai(ta:TE)(v:TA):TA:=λZ H Q=>ta Z H λx H1=>v Z H1 λxs H2=>Q (x::xs) H2
section
variable{X:Cx}{e:Expr}{es:List Expr}{te:TE}{t:TA}{pos:Pos}
def LJ:PA X [] ix:=λ_ _ _ _ H Q I h=>Calls.spliced_nil #[[],H,I,.nil,h]
def Mg(M:PE X e te)(L:PA X es t)(hs:autoParam (starEach (e::es) X.env=(false,eval e X.env)::starEach es X.env) rZ9):PA X (e::es) (ai te t):=by intro pos zG s Z H Q I h;rw[hs];show wpAny _ _ (spliced ((false,eval e X.env)::backTo pos `h)) _ _ s;show Calls.spliced_cons (An (M zG s Z H _ I h) λu z v=>?_);let#[x,H1,Y,F,J]:=v;show An (L pos zG z Z H1 _ Y J) λus s2⟨xs,H2,O,B,G⟩=>#[x::xs,H2,O,.cons F B,G]
def il(t:TA):TE:=λZ H Q=>t Z H λxs H1=>xs.length<=sizeLine/\∀p,H1 p=none->Q `w (upd H1 p `ax)
def iy(t:TA):TE:=λZ H Q=>t Z H λxs H1=>xs.length<=sizeLine/\∀p,H1 p=none->Q `w (upd H1 p `N)
def QL(h:PA X es t):PE X (.Tuple es L pos) (il t):=by intro zG s Z H Q I G;show wpAny_Tuple_spliced (An (h pos zG s Z H _ I G) λF v⟨xs,H1,B,r,z,q⟩=>#[by rw[<-r.length];show z,?_]);let J:H1 v.heap.objs.size=none:=B.hok.fresh `j;show#[.ref v.heap.objs.size,upd H1 v.heap.objs.size `ax,B.laid (t':=v.toks) (λb u e=>qc _ e) `j ?_,rfl,q _ J];show#[#[z,kQ.new rfl (qd _ rfl)],F,r,#[_,qd _ rfl,rfl,_,rfl]]
def Qh(h:PA X es t):PE X (.List es pos) (iy t):=by intro zG s Z H Q I G;show wpAny_List_spliced (An (h pos zG s Z H _ I G) λF v⟨xs,H1,B,r,z,q⟩=>#[by rw[<-r.length];show z,?_]);let J:H1 v.heap.objs.size=none:=B.hok.fresh `j;show#[.ref v.heap.objs.size,upd H1 v.heap.objs.size `N,B.laid (t':=v.toks) (λb u e=>qc _ e) `j ?_,rfl,q _ J];show#[z,F,0,r,qd _ rfl]
end
abbrev Sp:=List V->Hp->VK->XK->Prop
abbrev dy:=List Env->Hp->Shared->XK->Value->Shared->Prop
structure tP(P:Program)(w:World)(K:W.Frag)(mg:Str->Option Value)(base:Heap)(A:Around)(outer:List Env)(s:Shared)(H:Hp):Prop where
 frames:A.frames=some outer
 mod:Mod K mg base
 bs:∀b o,base.get? b=some o->s.heap.get? b=some o/\H b=none
 bsz:base.objs.size<=s.heap.objs.size
 funs:s.heap.FunFrames base outer
 frf:∀b∈oU outer,H b=none
 hok:eM P w H s.heap
 bare:AllBare s.gens
@[inline]def CE(z:List Env)(P:Program)(w:World)(H:Hp)(s:Shared)(Q:VK)(u:Value)(s':Shared):Prop:=
 ∃v H',s'.os=s.os/\AllBare s'.gens/\Un (oU z) [] H H' s.heap s'.heap/\eM P w H' s'.heap/\zv v u/\Q v H'
@[inline]def CR(CX:dy)(v:List Env)(P:Program)(w:World)(H:Hp)(s:Shared)(Q:VK)(E:XK)(r:Result)(s':Shared):Prop:=
 match r with
 |.ok (.ret u)=>CE v P w H s Q u s'
 |.ok _=>False
 |.error e=>CX v H s E e s'
structure fX(P:Program)(w:World)(K:W.Frag)(mg:Str->Option Value)(base:Heap)(CX:dy)(k:Nat)(f:Addr)(fd:FuncData)(ps:List Str)(sp:Sp):Prop where
 len:∀vs H Q E,sp vs H Q E->vs.length=ps.length
 run:∀(A:Around)(outer:List Env)(s:Shared)(H:Hp)(args:Args)(us:List Value)(vs:List V)(Q:VK)(E:XK),cB k A->tP P w K mg base A outer s H->BindsTo s fd args (ps.zip us)->zD vs us->sp vs H Q E->
  codeAny `di A (.call `cn args) (CR CX outer P w H s Q E) s
section
variable{X:Cx}{zG:List (Addr×Obj)}{Z:St}{H:Hp}{s s':Shared}
def Inv.env0(I:Inv X zG Z H s):tP X.prog X.w X.K X.mg X.base X.A X.stack s H:=
 #[I.ok.frames,I.ok.mod,I.bs,le_trans I.ok.bsz I.sz,I.stack,I.stkFree,I.hok,I.bare]
def Inv.after(I:Inv X zG Z H s)(h:CE X.stack X.prog X.w H s Q u s'):EP X zG Z Q u s':=by let#[v,H',os,bare,un,F,r,q]:=h;let#[G,g,d,t,B]:=s';obtain rfl:B=s.os:=os;show#[v,H',I.call (h':=G) (g':=g) (d':=d) (t':=t) (ch:=[]) un F bare (λb z=>absurd z (by simp)),r,q]
end
@[inline]def Binds(K:W.Frag)(fd:FuncData)(ps:List Str)(z:List Value):Prop:=
 ∀(s:Shared)(v:List Value),K.In s.heap->(v++z).length=ps.length->BindsTo s fd #[v,[]] (ps.zip (v++z))
def Binds.all{K:W.Frag}(h:∀v:List Value,v.length=ps.length->bindArgs fd #[v,[]]=pure (ps.zip v)):Binds K fd ps []:=λs v _ z=>by rw[qA]at z⊢;show .of_eq (h v z)
structure aF(N P:List Str)(sc:Scope):Prop where
 kind:sc.kind=.function
 co:sc.isCoroutine=false
 gen:sc.isGenerator=false
 nd:N.Nodup
 pre:N.take P.length=P
 par:∀x∈P,sc.names.lookup x=some .local\/sc.names.lookup x=some .cell
 nofree:∀y∈sc.names,y.2≠.free
def OL{kindOf:Str->Option NameKind}:∀{binds:List (Str×Value)}{m:Str->Option Value},(∀v,(x,v)∉binds)->bindL kindOf binds m x=m x
 |[],_,_=>rfl
 |(n,v)::r,m,h=>by
  unfold bindL;rw[OL λw z=>h w (qk _ z)];split
  .let:x≠n:=by rintro rfl;exact h v qm
   simp[this]
  .rfl
def ON{kindOf:Str->Option NameKind}:∀{binds:List (Str×Value)}{m:Str->Option Value},(∀v,(x,v)∉binds)->bindC kindOf binds m x=m x
 |[],_,_=>rfl
 |(n,v)::r,m,h=>by
  unfold bindC;rw[ON λw z=>h w (qk _ z)];split
  .rfl
  .let:x≠n:=by rintro rfl;exact h v qm
   simp[this]
def Oi{kindOf:Str->Option NameKind}:∀{P:List Str}{vs:List Value}{i:Nat}{m:Str->Option Value},P.Nodup->P[i]?=some x->vs[i]?=some v->kindOf x=some .local->
  bindL kindOf (P.zip vs) m x=some v
 |[],_,_,_,_,h,_,_=>by simp at h
 |_::_,[],_,_,_,_,h,_=>by simp at h
 |p::P,w::vs,0,m,nd,h1,h2,hk=>by simp at h1 h2;subst h1;subst h2;show bindL kindOf ((p,w)::P.zip vs) m p=_;unfold bindL;rw[OL λv z=>(qL.mp nd).1 (of_mem_zip z).1,q4 hk];simp
 |p::P,w::vs,i+1,m,nd,h1,h2,hk=>by show bindL kindOf ((p,w)::P.zip vs) m x=_;unfold bindL;show Oi (i:=i) (qL.mp nd).2 ↑h1 ↑h2 hk
def NV{kindOf:Str->Option NameKind}:∀{P:List Str}{vs:List Value}{i:Nat}{m:Str->Option Value},P.Nodup->P[i]?=some x->vs[i]?=some v->kindOf x≠some .local->
  bindC kindOf (P.zip vs) m x=some v
 |[],_,_,_,_,h,_,_=>by simp at h
 |_::_,[],_,_,_,_,h,_=>by simp at h
 |p::P,w::vs,0,m,nd,h1,h2,hk=>by simp at h1 h2;subst h1;subst h2;show bindC kindOf ((p,w)::P.zip vs) m p=_;unfold bindC;rw[ON λv z=>(qL.mp nd).1 (of_mem_zip z).1,q5 hk];simp
 |p::P,w::vs,i+1,m,nd,h1,h2,hk=>by show bindC kindOf ((p,w)::P.zip vs) m x=_;unfold bindC;show NV (i:=i) (qL.mp nd).2 ↑h1 ↑h2 hk
def start(N:List Str)(vs:List V):St:=vs.map some++List.replicate (N.length-vs.length) none
def fU(CX:dy)(P:Program)(w:World)(K:W.Frag)(mg:Str->Option Value)(base:Heap)(N:List Str)(qual:Str)(scope:Scope)(f:Addr)(cd:Value)(A:Around)(outer:List Env)(s:Shared)(H:Hp)(E:XK):Cx where
 prog:=P
 w:=w
 K:=K
 mg:=mg
 base:=base
 A:=A.deeper `bv
 N:=N
 s₀:=s
 H₀:=H
 env:=envOfC qual scope s.heap.objs.size f cd
 outer:=outer
 stack:=envOfC qual scope s.heap.objs.size f cd::outer
 ex:=[]
 calm:=true
 fn:=λ_=>true
 pn:=[]
 xe:=λe s'=>wpAny `di (A.deeper `bv) (leaving `bv e) (λ_ s''=>CX outer H s E e s'') (λe' s''=>CX outer H s E e' s'') s'
def NJ{v:Scope}(h:v.names.lookup x=some .cell):∃c,(cellsFrom n v.names []).lookup x=some c:=by let q:=W.cellsFrom_some v.names n [] (.inl h);show isSome_iff_exists.mp q
def UV{K:W.Frag}
  (S:aF N ps scope)(hd:A.handled=none)(B:tP P w K mg base A outer s H)(hl:vs.length=ps.length)(r:zD vs O)
  (x:InCallC s s.heap.objs.size (bindL (envOfC qual scope s.heap.objs.size f M).kindOf (ps.zip O) λ_=>none) (cellsFrom (s.heap.objs.size+1) scope.names []) (bindC (envOfC qual scope s.heap.objs.size f M).kindOf (ps.zip O) λ_=>none) s1):
  Inv (fU CX P w K mg base N qual scope f M A outer s H E) [] (start N vs) H s1:=by
 let h4:ps.length<=N.length:=by let:=congrArg List.length S.pre;rw[qH]at this;lia
 obtain⟨h1,tk,rfl,hk⟩:=x.done;let F:∀b:Addr,b∉(fU CX P w K mg base N qual scope f M A outer s H E).ex:=λb z=>absurd (show b∈([]:List Addr) from z) (by simp);refine⟨#[B.mod,S.kind,rfl,rfl,q8 _,λy z c h1 h2=>?_,λy G=>?_,λy c _ h=>?_,λ_=>hd,Around.frames_deeper B.frames,.inr #[rfl,rfl],λb z=>absurd z (F b),B.bs,B.bsz,λb _ _=>F b,λb z=>absurd z (F b),B.funs,B.frf],
  rfl,B.bare,Un.kept hk,#[_,x.toInCall.ns,λi y v h1 h2 h3=>?_],λy c h=>#[_,x.cell y c h],B.hok.fresh `j,λy c h=>?_,λp L=>absurd (show p∈([]:List (Addr×Obj)) from L) (by simp),B.hok.kept hk,?_⟩
 .show name_of_addr x.apart (PySem.mem_of_lookup h1) (PySem.mem_of_lookup h2)
 .let G:scope.names.lookup y=some .cell\/scope.names.lookup y=some .free:=G;rcases G with G|G
  .show NJ G
  .show absurd rfl (S.nofree _ (PySem.mem_of_lookup G))
 .show le_of_lt (x.above y c (PySem.mem_of_lookup h))
 .have hi:i<vs.length:=by
   unfold start at h2;by_cases hi:i<vs.length
   .show hi
   .rw[getElem?_append_right ↑hi]at h2;rw[List.getElem?_replicate]at h2;split at h2<;>cases h2
  have ha:vs[i]?=some v:=by
   unfold start at h2;rw[getElem?_append_left ↑hi,qF]at h2;cases e:vs[i]? with
   |none=>rw[e]at h2;cases h2
   |some a=>rw[e]at h2;cases h2;rfl
  let#[u,Y,rv]:=r.get ha;let L:ps[i]?=some y:=by rw[<-S.pre,List.getElem?_take_of_lt ∅];show h1
  let J:ps.Nodup:=by rw[<-S.pre];show S.nd.sublist (List.take_sublist _ _)
  show#[u,rv,?_];rcases S.par y (qM L)with k|k
  .show .inl #[k,Oi J L Y k]
  .obtain⟨c,e⟩:=NJ (n:=s.heap.objs.size+1) k;show .inr #[.inl k,c,e,?_];let q:=x.cell y c e;rw[NV J L Y (by show scope.names.lookup y≠_;rw[k];decide)]at q;show q
 .show B.hok.fresh (le_of_lt (x.above y c (PySem.mem_of_lookup h)))
 .unfold start;show _=N.length;rw[qq,qo,List.length_replicate];lia
def Pi{K:W.Frag}{dV kV h1 pm B ct oc:Value}(lk:K.lookup f=some #[oc,od,.func `ee,h4])(h3:W.codeIn K B qual=true)(S:aF N ps scope)
  (len:∀vs H Q E,sp vs H Q E->vs.length=ps.length)
  (G:∀(A:Around)(z:List Env)(s:Shared)(H:Hp)(vs:List V)(Q:VK)(E:XK),cB k (A.deeper (envOfC qual scope s.heap.objs.size f B))->sp vs H Q E->
   ∃t,jS `az body t/\t {nx:=λ_ H'=>Q .non H',rt:=Q} (start N vs) H):
  fX P w K mg base CX (k+1) f `ee ps sp:=by
 refine#[len,λA z s H args us vs Q E hr Y hb r M=>?_];let hl:=len _ _ _ _ M;let KX:K.In s.heap:=Y.mod.kin.keeps λb o e=>(Y.bs b o e).1;let h2:s.heap.NoLimit:=Y.mod.nolimit.keeps λb o e=>(Y.bs b o e).1;let F:∀y∈ps.zip us,scope.names.lookup y.1=some .local\/(scope.names.lookup y.1=some .cell/\((cellsFrom (s.heap.objs.size+1) scope.names []).lookup y.1).isSome=true):=λ⟨n,v⟩ hy=>by
  rcases S.par n (of_mem_zip hy).1 with q|q
  .show .inl q
  .show .inr #[q,W.cellsFrom_some _ _ _ (.inl q)]
 refine codeAny_call_function hr.depth (KX _ _ lk) rfl S.co S.gen rfl (W.codeRec_of KX h3) (hb _ _ _ _ ?_);show wpAny_newFunctionEnv_cells S.kind F λh5 he s1 x=>?_;subst he;show#[h2.keeps x.toInCall.keep,codeAny_func ?_];let#[t,ht,hq]:=G A z s H vs Q E (hr.deeper _) M;let I:Inv `az [] (start N vs) H s1:=UV S hr.hd Y hl r x;show zh (ht [] s1 (start N vs) H _ I hq) (λfl s' L=>?_) λe s' L=>L;let O:∀{Z':St}{H':Hp}{v:V}{u:Value},Inv `az [] Z' H' s'->zv v u->Q v H'->CE z P w H s Q u s':=
  λ{Z' H' v u} J rv q=>#[v,H',J.os,J.bare,J.base,J.hok,rv,q]
 cases fl with
 |ret u=>let#[v,Z',H',J,rv,q]:=L;show O J rv q
 |next=>let#[Z',H',J,q]:=L;show O (v:=V.non) (u:=Value.none) J rfl q
 |brk=>let#[_,_,_,q]:=L;show False.elim q
 |cont=>let#[_,_,_,q]:=L;show False.elim q
section
variable{X:Cx}{x:Str}{p pos:Pos}{e:Expr}{es:List Expr}{t:TA}{id T:String}{r:List V->Hp->VK->Prop}
def jb(r:List V->Hp->VK->Prop)(t:TA):TE:=λZ H Q=>t Z H λv H1=>r v H1 Q
def Uo(hc:aZ X `bn r)(Y:Gl X x)(O:X.mg x=none)(M:bootBuiltins x=some `bn)(ha:PA X (e::es) t)(hn:autoParam (x≠"__name__") dZ9)(z:autoParam ((x==("__debug__":Str))=false) dZ9)
  (he:autoParam (starEach (e::es) X.env=(false,eval e X.env)::starEach es X.env) rZ9)(v:autoParam ((backTo pos `h).any (·.1)=false) rZ9):PE X (.Call `dj (e::es) [] pos) (jb r t):=by
 intro zG s Z H Q I h;show wpAny_Call_Name_kw (FP I Y O M ?_ hn z);show PyProof.Rows.callWith_builtin1 (An `cy λF G⟨B,H1,I1,J,L⟩=>hc zG G Z H1 B F Q I1 J L) he v
def NW(hc:aZ X `ap r)(Y:Gl X x)(O:X.mg x=none)(M:bootBuiltins x=some `ap)(ha:PA X (e::es) t)(hn:autoParam (x≠"__name__") dZ9)(z:autoParam ((x==("__debug__":Str))=false) dZ9)
  (he:autoParam (starEach (e::es) X.env=(false,eval e X.env)::starEach es X.env) rZ9)(v:autoParam ((backTo pos `h).any (·.1)=false) rZ9):PE X (.Call `dj (e::es) [] pos) (jb r t):=by
 intro zG s Z H Q I h;show wpAny_Call_Name_kw (FP I Y O M ?_ hn z);show PyProof.Rows.callWith_type1 (An `cy λF G⟨B,H1,I1,J,L⟩=>hc zG G Z H1 B F Q I1 J L) he v
end
section
variable{κ:Type}[DecidableEq κ]
def dG(zH:List (κ×V))(k:κ):Option V:=(zH.find? λv=>decide (v.1=k)).map (·.2)
def cV(zH:List (κ×V))(k:κ)(v:V):List (κ×V):=
 if(zH.any λz=>decide (z.1=k))=true then zH.map (λz=>if z.1=k then(z.1,v)else z)else zH++[(k,v)]
def GK{p:κ×V}{r:List (κ×V)}{k:κ}(e:p.1=k):dG (p::r) k=some p.2:=by simp[dG,List.find?_cons,e]
def GN{p:κ×V}{r:List (κ×V)}{k:κ}(e:¬p.1=k):dG (p::r) k=dG r k:=by simp[dG,List.find?_cons,e]
def NO(k:κ):∀zH:List (κ×V),(zH.any λv=>decide (v.1=k))=(dG zH k).isSome
 |[]=>rfl
 |p::r=>by
  rw[any_cons];by_cases e:p.1=k
  .simp[GK e,qR e,Bool.true_or,isSome_some]
  .rw[GN e,qS e];show NO k r
def Gd(zH:List (κ×V))(k:κ)(v:V):(cV zH k v).length<=zH.length+1:=by unfold cV;grind
def dW.isSome_eq(r:dW o u):o.isSome=u.isSome:=by
 cases o with
 |none=>cases u with
  |none=>rfl
  |some _=>show(show False from r).elim
 |some _=>cases u with
  |none=>show(show False from r).elim
  |some _=>rfl
def dW.getD(r:dW o u)(v:zv d d'):zv (o.getD d) (u.getD d'):=by
 cases o with
 |none=>cases u with
  |none=>show v
  |some _=>show(show False from r).elim
 |some _=>cases u with
  |none=>show(show False from r).elim
  |some _=>show r
def KV.val{zH:List (κ×V)}{vs:List (κ×Value)}(r:KV zH vs)(k:κ):dW (dG zH k) (valueAt vs k):=by
 induction r with
 |nil=>show True.intro
 |@cons p q ps v h t F=>
  let#[h1,h2]:=h;by_cases e:p.1=k
  .let B:q.1=k:=h1.symm.trans e;let b:valueAt (q::v) k=some q.2:=by simp[valueAt,B]
   rw[GK e,b];show h2
  .let B:¬q.1=k:=λz=>e (h1.trans z);let b:valueAt (q::v) k=valueAt v k:=by simp[valueAt,B]
   rw[GN e,b];show F
def KV.any(r:KV zH vs)(k:κ):(zH.any λv=>decide (v.1=k))=vs.any λv=>decide (v.1=k):=by
 induction r with
 |nil=>rfl
 |cons h t z=>rw[any_cons,any_cons,z,h.1]
def KV.repl(r:KV zH vs)(k:κ)(B:zv y u):
  KV (zH.map λv=>if v.1=k then(v.1,y)else v) (vs.map λv=>if v.1=k then(v.1,u)else v):=by
 induction r with
 |nil=>show .nil
 |@cons p q ps F h t z=>show .cons ?_ z;grind
def KV.put(r:KV zH vs)(k:κ)(v:zv y u):KV (cV zH k y) (stored vs k u):=by
 unfold cV stored;rw[r.any k];by_cases e:(vs.any λz=>decide (z.1=k))=true
 .rw[q4 e,q4 e];show r.repl k v
 .rw[q5 e,q5 e];show Paired.snoc r #[rfl,v]
def KV.length(r:KV zH vs):zH.length=vs.length:=Paired.length r
end
def DL(r:zv (kV k) u):(aE P w).is k u=true:=by
 cases k with
 |inl i=>let#[t,e]:=(show∃t,u=Value.int i t from r);subst e;show WO P w i t
 |inr x=>let#[t,e]:=(show∃t,u=Value.str x t from r);subst e;show WY P w x t
def GV(e:kV a=kV b):a=b:=by
 cases a with
 |inl i=>cases b with
  |inl j=>have v:V.int i=V.int j:=e;injection v with v;rw[v]
  |inr y=>show nomatch (show V.int i=V.str y from e)
 |inr x=>cases b with
  |inl j=>show nomatch (show V.str x=V.int j from e)
  |inr y=>have v:V.str x=V.str y:=e;injection v with v;rw[v]
def Hk:∀{a b:List aO},a.map kV=b.map kV->a=b
 |[],[],_=>rfl
 |[],_::_,e=>by simp at e
 |_::_,[],e=>by simp at e
 |x::xs,y::ys,e=>by
  injection e with e1 e2
  rw[GV e1,Hk e2]
def Oh:∀{ks:List aO}{v:List Value},zD `cr v->ItemsAre `cx ks v
 |[],_,r=>by rw[map_nil]at r;cases r;show .nil
 |k::ks,_,r=>by
  cases r with
  |cons h t=>show .cons (DL h) (Oh t)
abbrev KT(H:Hp):List (List aO×V)->List (List aO×Addr×Value)->Prop:=Paired λp q=>p.1=q.1/\H q.2.1=some (.tup (p.1.map kV))/\zv p.2 q.2.2
def KT.val{H:Hp}{zH:List (List aO×V)}{xs:List (List aO×Addr×Value)}(r:KT H zH xs)(k:List aO):dW (dG zH k) ((atKey xs k).map (·.2)):=by
 induction r with
 |nil=>show True.intro
 |@cons p q ps v h t F=>
  let#[h1,_,h2]:=h;by_cases e:p.1=k
  .let B:q.1=k:=h1.symm.trans e;let b:atKey (q::v) k=some q.2:=by simp[atKey,B]
   rw[GK e,b];show h2
  .let B:¬q.1=k:=λz=>e (h1.trans z);let b:atKey (q::v) k=atKey v k:=by simp[atKey,B]
   rw[GN e,b];show F
def KT.repl(r:KT H zH xs)(k:List aO)(B:zv y u):
  KT H (zH.map λv=>if v.1=k then(v.1,y)else v) (xs.map (putAt k u)):=by
 induction r with
 |nil=>show .nil
 |@cons p q ps J h t F=>
  rw[qz];show .cons ?_ F;let#[h1,h2,G]:=h;unfold putAt;by_cases e:p.1=k
  .rw[q4 e,q4 (h1.symm.trans e)];show#[h1,h2,B]
  .rw[q5 e,q5 (λz=>e (h1.trans z))];show#[h1,h2,G]
def KT.put(r:KT H zH xs)(k:List aO)(B:H b=some (.tup (k.map kV)))(v:zv y u):
  KT H (cV zH k y) (storedH xs k b u):=by
 let e:(zH.any λz=>decide (z.1=k))=(atKey xs k).isSome:=by rw[NO,(r.val k).isSome_eq,isSome_map]
 unfold cV storedH;rw[e];by_cases q:(atKey xs k).isSome=true
 .rw[q4 q,q4 q];show r.repl k v
 .rw[q5 q,q5 q];show Paired.snoc r #[rfl,B,v]
def KT.keeps(r:KT H zH xs)(v:∀b ys,H b=some (.tup ys)->H' b=some (.tup ys)):KT H' zH xs:=
 Paired.mapP r λ_ _ z=>#[z.1,v _ _ z.2.1,z.2.2]
def Lg(ok:eM P w H h)(e:Rd H a u):zF P w H h a u:=e.ok ok
def Fj(ok:eM P w H h)(e:Rd H a `co):zH.length<=sizeLine/\(a==sysModules)=false/\∃vs,KV zH vs/\h.DictOf `cx a vs:=
 show zF P w H h a `co from Lg ok e
def Ib(ok:eM P w H h)(e:H a=some `co):zH.length<=sizeLine/\(a==sysModules)=false/\∃vs,KV zH vs/\h.DictOf `cx a vs:=Fj ok (.inl e)
def Dt(ok:eM P w H h)(e:H a=some (.tup `cr)):(tupleKind `cx).is h ks a:=by
 let#[_,v,r,o,h1,h2,n,z]:=(show zF P w H h a (.tup `cr) from ok a _ e)
 show#[o,v.toArray,n,h1,h2,z,Oh r]
def Fi(ok:eM P w H h)(e:Rd H a (.dT zH)):zH.length<=sizeLine/\(a==sysModules)=false/\
  ∃xs,KT H zH xs/\h.DictOfH (tupleKind `cx) a xs:=by
 let#[z,y,xs,r,o,es,ep,h1,h2,L,J,G]:=(show zF P w H h a (.dT zH) from Lg ok e)
 refine#[z,y,xs,r,o,es,ep,h1,h2,L,J,λx v=>?_,G];let all:∀{l:List (List aO×V)}{m:List (List aO×Addr×Value)},KT H l m->∀x∈m,(tupleKind `cx).is h x.1 x.2.1:=by
  intro l m q;induction q with
  |nil=>intro x v;show nomatch v
  |@cons p q ps M B t F=>
   intro x v;rcases qB.mp v with e|v
   .subst e;show Dt ok (by rw[<-B.1];show B.2.1)
   .show F x v
 show all r x v
def Jj(ok:eM P w H h)(e:H a=some (.dT zH)):zH.length<=sizeLine/\(a==sysModules)=false/\
  ∃xs,KT H zH xs/\h.DictOfH (tupleKind `cx) a xs:=Fi ok (.inl e)
def fG(H:Hp)(a:Addr)(y:V)(r:Option V):Prop:=
 (∃zH k,Rd H a `co/\y=kV k/\r=dG zH k)\/∃zH k b,Rd H a (.dT zH)/\y=.ref b/\H b=some (.tup (k.map kV))/\r=dG zH k
def mS(H:Hp)(a:Addr)(y v:V)(H':Hp):Prop:=
 (∃zH k,H a=some `co/\y=kV k/\zH.length<sizeLine/\H'=upd H a (.dK (cV zH k v)))\/
 ∃zH k b,H a=some (.dT zH)/\y=.ref b/\H b=some (.tup (k.map kV))/\zH.length<sizeLine/\H'=upd H a (.dT (cV zH k v))
def Inv.big(I:Inv X zG Z H s):sysModules<s.heap.objs.size:=by let h:mainGlobals<s.heap.objs.size:=(I.mod.glob.keeps I.bk).lt;show lt_trans ⋯ h
def Vt(hu:A.units+1<cLine)(I:Inv X zG Z H s)(g:fG H a y `I)(ry:zv y u)(h:∀G s',Inv X zG Z H s'->zv v G->Q G s'):
  wpAny `a A (getItem `p u) Q E s:=by
 rcases g with⟨J,k,e,O,l⟩|⟨J,k,b,e,O,eb,l⟩
 .subst O;let#[z,hd,vs,F,Y]:=Fj I.hok e;let#[G,L,B]:=dW.some_of (v:=v) (o:=valueAt vs k) (by rw[l];show F.val k);show wpAny_getItem_of (DL ry) Y.mapOf L (h G _ `du B)
 .subst O;cases(show u=Value.ref b from ry);let#[z,hd,xs,F,Y]:=Fi I.hok e;let#[G,L,B]:=dW.some_of (v:=v) (o:=(atKey xs k).map (·.2)) (by rw[l];show F.val k);let#[p,hp,M]:=qY.mp L;show wpAny_getItem_heap `da (Dt I.hok eb) Y hp ?_;rw[M];show h G _ `du B
def Lb(M:A.units+1<cLine)(I:Inv X zG Z H s)(g:fG H a y o)(L:zv y u)(h:∀s',Inv X zG Z H s'->Q (.bool o.isSome) s'):
  wpAny `a A (compareOp .In u `p) Q E s:=by
 rcases g with⟨B,k,e,G,l⟩|⟨B,k,b,e,G,O,l⟩
 .subst G;let#[z,F,Y,v,J]:=Fj I.hok e;show wpAny_in_of (DL L) F J.mapOf ?_;rw[<-(v.val k).isSome_eq,<-l];show h _ `du
 .subst G;cases(show u=Value.ref b from L);let#[z,F,xs,v,J]:=Fi I.hok e;show wpAny_in_heap (tupleKind_room_in1 M) (Dt I.hok O) F J ?_;let q:=(v.val k).isSome_eq;rw[isSome_map]at q;rw[<-q,<-l];show h _ `du
def RN(M:A.units+1<cLine)(I:Inv X zG Z H s)(g:fG H a y o)(L:zv y u)(h:∀s',Inv X zG Z H s'->Q (.bool (!o.isSome)) s'):
  wpAny `a A (compareOp .NotIn u `p) Q E s:=by
 rcases g with⟨B,k,e,G,l⟩|⟨B,k,b,e,G,O,l⟩
 .subst G;let#[z,F,Y,v,J]:=Fj I.hok e;show wpAny_notIn_of (DL L) F J.mapOf ?_;rw[<-(v.val k).isSome_eq,<-l];show h _ `du
 .subst G;cases(show u=Value.ref b from L);let#[z,F,xs,v,J]:=Fi I.hok e;show wpAny_notIn_heap (tupleKind_room_in1 M) (Dt I.hok O) F J ?_;let q:=(v.val k).isSome_eq;rw[isSome_map]at q;rw[<-q,<-l];show h _ `du
def EK(I:Inv X zG Z H s)(B:dm (H a))(hs:Heap.SameBut a s.heap h')(F:∃q,h'.get? a=some q)(new:zF X.prog X.w (upd H a v) h' a v):
  Inv X zG Z (upd H a v) {s with heap:=h',toks:=t'}:=
 I.write (x:=a) (e:=a) B (.inl rfl) (λb q G z=>(hs.2 b G).trans z) F new
def Ii(z:zH.length<=sizeLine)(B:(a==sysModules)=false)(v:KV zH vs)(F:h'.DictOf `cx a vs):
  zF P w H' h' a `co:=#[z,B,vs,v,F]
def UP(hu:A.units+1<cLine)(I:Inv X zG Z H s)(g:mS H a y v H')(ry:zv y u)(rv:zv v r)(h:∀s',Inv X zG Z H' s'->Q () s'):
  wpAny `a A (setItem `p u r) Q E s:=by
 rcases g with⟨F,k,e,ey,l,eH⟩|⟨F,k,b,e,ey,eb,l,eH⟩
 .subst ey eH;let#[z,Y,vs,B,dd]:=Ib I.hok e;let L:vs.length<=sizeLine:=by rw[<-B.length];exact z
  let O:(cV F k v).length<=sizeLine:=by let:=Gd F k v;lia
  show wpAny_setItem_pairs (hsz:=L) (DL ry) dd λh' G M=>h _ ?_;let he:∃q,h'.get? a=some q:=let⟨q,_,_,J,_⟩:=G;#[q,J]
  show EK I (by rw[e];show True.intro) M he (Ii O Y (B.put k rv) G)
 .subst ey eH;cases(show u=Value.ref b from ry);let#[z,Y,xs,B,dd]:=Jj I.hok e;let L:xs.length<=sizeLine:=by rw[<-Paired.length B];exact z
  let O:(cV F k v).length<=sizeLine:=by let:=Gd F k v;lia
  show wpAny_setItem_heap (hsz:=L) `da (Dt I.hok eb) dd λh' G M=>h _ ?_;let#[q,es,ep,J,h2,h3,h4,_,h5]:=G;show EK I (by rw[e];show True.intro) M ⟨q,J⟩ ⟨O,Y,_,(B.put k eb rv).keeps λc ys ec=>?_,q,es,ep,J,h2,h3,h4,h5⟩;rw[Ar (Ia ec e (λz=>nomatch z))];show ec
def Xn(I:Inv X zG Z H s)(g:fG H a y o):s.TypeIs `p "dict":=by
 rcases g with⟨v,k,e,_,_⟩|⟨v,k,b,e,_,_,_⟩
 .obtain⟨_,_,B,_,z⟩:=Fj I.hok e;show z.typeIs
 .obtain⟨_,_,xs,_,z⟩:=Fi I.hok e;show z.typeIs
def ao(F ty B:TE):TS:=λD Z H=>B Z H λv H1=>F Z H1 λx H2=>ty Z H2 λy G=>∃a z,x=.ref a/\mS G a y v z/\D.nx Z z
def Sm(hu:X.A.units+1<cLine)(ho:PE X o F)(hi:PE X i ty)(hv:PE X value B)(hs:swapsWith value (some (.Subscript o i pos')) pos.line X.env=pure false):
  PS X (.Assign [.Subscript o i pos'] value pos) (ao F ty B):=by
 intro zG s Z H D I h;show wpAny_Assign_Subscript (An (hv zG s Z H _ I h) λr J⟨v,H1,I1,O,q1⟩=>An (ho zG J Z H1 _ I1 q1) λu G⟨x,H2,I2,M,q2⟩=>An (hi zG G Z H2 _ I2 q2) λiv s3 z=>?_) hs;let#[y,H3,I3,L,a,H4,ex,g,Y]:=z;subst ex;obtain rfl:u=Value.ref a:=M;show UP hu I3 g L O λs4 I4=>#[Z,H4,I4,Y]
def Kf(h:Heap)(v:sysModules<h.objs.size):zF P w H (h.push {cls:=.type "dict",data:=.dict #[]}) h.objs.size (.dK []):=
 #[zero_le _,beq_eq_false_iff_ne.mpr (Ne.symm (ne_of_lt v)),[],.nil,Heap.DictOf.new h]
def UZ(h:Heap)(v:sysModules<h.objs.size):zF P w H (h.push {cls:=.type "dict",data:=.dict #[]}) h.objs.size (.dT []):=
 #[zero_le _,beq_eq_false_iff_ne.mpr (Ne.symm (ne_of_lt v)),[],.nil,_,#[],0,qd _ rfl,#[rfl,rfl,rfl],rfl,rfl,List.nodup_nil]
def vM:TE:=λ_ H Q=>∀p,H p=none->Q `w (upd H p (.dK []))
def Uv:PE X (.Dict [] [] pos) vM:=λzG s Z H Q I h=>wpAny_Dict_empty #[.ref s.heap.objs.size,_,I.laid (a:=s.heap.objs.size) (o:=.dK []) (t':=s.toks) (λ_ _ q=>qc _ q) `j (Kf s.heap I.big),rfl,h _ (I.hok.fresh `j)]
def kD:List (TE×TE)->St->Hp->(List (V×V)->Hp->Prop)->Prop
 |[],_,H,Q=>Q [] H
 |(tk,tv)::r,Z,H,Q=>tk Z H λx H1=>tv Z H1 λy H2=>kD r Z H2 λps v=>Q ((x,y)::ps) v
abbrev VV:List (V×V)->List (Value×Value)->Prop:=Paired λp q=>zv p.1 q.1/\zv p.2 q.2
def gp(X:Cx)(pos:Pos)(z:List (Option Expr))(v:List Expr)(B:List (TE×TE)):Prop:=
 ∀(zG:List (Addr×Obj))(s:Shared)(Z:St)(H:Hp)(Q:List (V×V)->Hp->Prop),Inv X zG Z H s->kD B Z H Q->
  wpAny `a X.A (evalPairs (pairTrees z v X.env pos)) (λF s'=>∃ps H',Inv X zG Z H' s'/\VV ps F/\Q ps H') X.xe s
def SF:gp X pos [] [] []:=λzG s Z H Q I h=>pairTrees_nil_walk #[[],H,I,.nil,h]
def SX(hk:PE X k tk)(hv:PE X v F)(hr:gp X pos ks vs z):
  gp X pos (some k::ks) (v::vs) ((tk,F)::z):=λzG s Z H Q I h=>
 pairTrees_cons_walk (An (hk zG s Z H _ I h) λu J⟨x,H1,I1,M,q1⟩=>An (hv zG J Z H1 _ I1 q1) λw2 G⟨y,H2,I2,L,Y⟩=>An (hr zG G Z H2 _ I2 Y) λws s3⟨ps,H3,I3,B,O⟩=>#[(x,y)::ps,H3,I3,.cons #[M,L] B,O])
def gM(zH more:List (aO×V)):List (aO×V):=more.foldl (λv z=>cV v z.1 z.2) zH
def KV.merge:∀{more:List (aO×V)}{rs:List (aO×Value)}{zH:List (aO×V)}{vs:List (aO×Value)},KV more rs->KV zH vs->KV (gM zH more) (merged vs rs):=by
 intro more rs zH vs r;induction r generalizing zH vs with
 |nil=>intro q;show q
 |@cons p q ps B h t z=>
  intro v;let e:KV (cV zH p.1 p.2) (stored vs q.1 q.2):=by let:=v.put p.1 h.2;rw[<-h.1];show this
  show z e
def Pa:∀(more zH:List (aO×V)),(gM zH more).length<=zH.length+more.length
 |[],zH=>by show zH.length<=zH.length+0;lia
 |p::r,zH=>by let h1:=Pa r (cV zH p.1 p.2);let h2:=Gd zH p.1 p.2;show(gM (cV zH p.1 p.2) r).length<=_;rw[qt];lia
def Oy:∀{zH:List (aO×V)}{v:List (Value×Value)},VV (zH.map λz=>(kV z.1,z.2)) v->∃rs,Carries `cx v rs/\KV zH rs
 |[],_,r=>by rw[map_nil]at r;cases r;show#[[],True.intro,.nil]
 |p::zH,_,r=>by
  cases r with
  |@cons a b G bs h t=>let#[rs,c,q]:=Oy (P:=P) (w:=w) t;let#[F,B]:=b;show#[(p.1,B)::rs,#[DL h.1,rfl,c],.cons #[rfl,h.2] q]
def ag(v:List (TE×TE)):TE:=λZ H Q=>∀p,H p=none->kD v Z (upd H p (.dK [])) λps H2=>H2 p=some (.dK [])/\∃zH:List (aO×V),ps=zH.map (λz=>(kV z.1,z.2))/\zH.length<=15/\Q `w (upd H2 p (.dK (gM [] zH)))
def RB(h:gp X pos keys values G)(B:keys.all (·.isSome)=true)(hl:keys.length=values.length)(h0:keys≠[])
  (L:keys.length<=15):PE X (.Dict keys values pos) (ag G):=by
 intro zG s Z H Q I q;let hn:=I.hok.fresh (q8 s.heap.objs.size);let I1:=I.laid (a:=s.heap.objs.size) (o:=.dK []) (h':=s.heap.push {cls:=.type "dict",data:=.dict #[]}) (t':=s.toks) (λ_ _ q=>qc _ q) `j (Kf s.heap I.big);show wpAny_Dict_walk (knd:=aE X.prog X.w) B hl h0 L (An (h zG _ Z _ _ I1 (q _ hn)) λws s2 O=>?_);let#[ps,H2,M,J,e,v,ep,lk,q2]:=O;subst ep;let#[rs,c,rk]:=Oy (P:=X.prog) (w:=X.w) J;let#[z,hd,Y,r0,dd]:=Ib M.hok e;cases r0;show#[rs,c,dd,λh' F hs=>#[.ref s.heap.objs.size,_,?_,rfl,q2]];let hz:(gM [] v).length<=sizeLine:=by let h1:=Pa v [];rw[qw]at h1;rw[ze];lia
 let he:∃q,h'.get? s.heap.objs.size=some q:=let⟨q,_,_,hq,_⟩:=F;#[q,hq]
 show EK M (by rw[e];show True.intro) hs he (Ii hz hd (rk.merge .nil) F)
structure M2(X:Cx)(o:Expr)(m:Str)(apos:Pos)(e f:Expr)(cpos:Pos):Prop where
 base:attributeBase o m X.env `at=eval o X.env
 few:((backTo cpos (starEach [e,f] X.env)).all (λx=>!x.1)&&(backToKw cpos (keywordEach [] X.env)).all (λx=>x.1.isSome)
  &&decide (([e,f]:List Expr).length+([]:List Keyword).length+(if([]:List Keyword).isEmpty then 0 else 1)<30))=true
 line:(apos.endLine==cpos.line)=true
 trees:backTo cpos (starEach [e,f] X.env)=[(false,eval e X.env),(false,eval f X.env)]
def du(H:Hp)(a:Addr):Prop:=(∃zH,Rd H a `co)\/∃zH,Rd H a (.dT zH)
def Ln(I:Inv X zG Z H s)(d:du H a):
  s.TypeIs `p "dict"/\(∀b,Value.ref a=.ref b->∃v,s.heap.get? b=some v/\v.dict=none)/\(a==sysModules)=false:=by
 rcases d with⟨B,e⟩|⟨B,e⟩
 .obtain⟨_,F,G,_,z⟩:=Fj I.hok e;show#[z.typeIs,λb q=>?_,F];cases q;let#[v,_,_,h1,h2,_]:=z;show#[v,h1,h2.2.1]
 .obtain⟨_,F,xs,_,z⟩:=Fi I.hok e;show#[z.typeIs,λb q=>?_,F];cases q;let#[v,_,_,h1,h2,_]:=z;show#[v,h1,h2.2.1]
def Qr(Y:A.units+1<cLine)(I:Inv X zG Z H s)(g:fG H a y o)(M:zv y u)(O:zv d r)(h:∀L s',Inv X zG Z H s'->zv (o.getD d) L->Q L s'):
  wpAny `a A (call (.builtin "dict.get") [.ref a,u,r]) Q E s:=by
 rcases g with⟨F,k,e,J,l⟩|⟨F,k,b,e,J,eb,l⟩
 .subst J;let#[z,G,vs,v,B]:=Fj I.hok e;show call_meetsIn PySem.F.slot_dict_get B.typeIs PySem.F.entry_dict_get (PySem.F.args_dict_get_3 _ _ _) (meets_dict_get_default `bk a (DL M) G r) #[_,B.mapOf,h _ _ `du ?_];rw[l];show(v.val k).getD O
 .subst J;cases(show u=Value.ref b from M);let#[z,G,xs,v,B]:=Fi I.hok e;show call_meetsIn PySem.F.slot_dict_get B.typeIs PySem.F.entry_dict_get (PySem.F.args_dict_get_3 _ _ _) (meetsH_dict_get_default (tupleKind `bk) a b G r) #[tupleKind_room_in1 Y,k,xs,Dt I.hok eb,B,h _ _ `du ?_];rw[l];show(v.val k).getD O
def vN(B ty tx:TE):TE:=λZ H Q=>B Z H λx H1=>∃a,x=.ref a/\du H1 a/\ty Z H1 λy H2=>tx Z H2 λz v=>∃o,fG v a y o/\Q (o.getD z) v
def Ts(hu:X.A.units+1<cLine)(ho:PE X o G)(he:PE X e ty)(hf:PE X f tx)(m:M2 X o "get" apos e f cpos):PE X (.Call (.Attribute o "get" apos) [e,f] [] cpos) (vN G ty tx):=by
 intro zG s Z H Q I h;show wpAny_Call_method m.base m.few m.line PySem.F.plainAttrs_dict PySem.F.slot_dict_get PySem.F.type_dict_get (An (ho zG s Z H _ I h) λu O F=>?_);let#[x,H1,B,rx,a,ex,d,q1]:=F;subst ex;obtain rfl:u=Value.ref a:=rx;let#[L,J,_]:=Ln B d;show#[L,J,?_];rw[m.trees];show Calls.callWith_builtin rfl (Calls.evalArgs_plain (Calls.spliced_cons (An (he zG O Z H1 _ B q1) λiv M⟨y,H2,I2,ry,q2⟩=>Calls.spliced_cons (An (hf zG M Z H2 _ I2 q2) λfv s3⟨z,H3,I3,Y,ov,g,q3⟩=>Calls.spliced_nil ?_))))
 show Qr hu I3 g ry Y λw' s4 I4 v=>#[_,H3,I4,v,q3]
end L2
namespace HT
open PySem PyProof.Rows
theorem cat_tup(ht:IsTup s.heap t vs.toArray)(hb:IsTup s.heap b v.toArray)(hv:vs≠[])
  (h1:v=[]->Q (.ref t) s)(h2:v≠[]->Q `g {s with heap:=s.heap.push {cls:=.type "tuple",data:=.seq (vs++v).toArray}})
  (hsz:vs.length+v.length<=sizeLine):wpAny `b A (binaryOp .Add (.ref t) `ak) Q E s:=by
 let#[#[cls,dd,data,O],J,hc,n,hd]:=id ht;let#[#[h3,F,data2,B],z,M,Y,L]:=id hb;subst hc hd M L;let e:vs.toArray++v.toArray=(vs++v).toArray:=by simp
 by_cases G:v=[]
 .exact concat_meets #[_,J,rfl] #[_,z,rfl] noFill_tuple_add seq_tuple_add PySem.F.slot_tuple_add PySem.F.entry_tuple_add `dv
   (tuple_addW1 t b vs.toArray v.toArray n Y dd F O B ↑hv (by simp[G])) #[J,z,h1 G]
 .refine concat_meets #[_,J,rfl] #[_,z,rfl] noFill_tuple_add seq_tuple_add PySem.F.slot_tuple_add PySem.F.entry_tuple_add `dv
   (tuple_addW2 t b vs.toArray v.toArray n Y dd F O B ↑hv ↑G (by rw[qr];show hsz)) #[J,z,?_]
  rw[e];show h2 G
def sIx(n d:Nat):Option Int->Nat
 |none=>d
 |some v=>if v<0 then(v+(n:Int)).toNat else min v.toNat n
theorem sIx_le(n d:Nat)(B:d<=n)(o:Option Int):sIx n d o<=n:=by
 cases o with
 |none=>show B
 |some v=>
  show(if v<0 then(v+(n:Int)).toNat else min v.toNat n)<=n;by_cases z:v<0
  .rw[q4 z];lia
  .rw[q5 z];show min_le_right _ _
def Mc(v:Int)(n d:Nat):(if v<0 then max (v+(n:Int)) 0 else min v (n:Int))=((sIx n d `I:Nat):Int):=by show(if v<0 then max (v+(n:Int)) 0 else min v (n:Int))=(((if v<0 then(v+(n:Int)).toNat else min v.toNat n):Nat):Int);grind
def Wt(lo hi:Option Int)(n:Nat):Builtin.Slice.sliceAdjust lo hi 1 (n:Int)=(((sIx n 0 lo:Nat):Int),((sIx n n hi:Nat):Int)):=by
 let h1:¬((1:Int)<0):=∅
 unfold Builtin.Slice.sliceAdjust;show Prod.ext ?_ ?_
 .cases lo with
  |none=>rfl
  |some v=>show Mc v n 0
 .cases hi with
  |none=>rfl
  |some v=>show Mc v n n
def VT(i j:Nat):Builtin.Slice.slicePlaces (i:Int) (j:Int) 1=j-i:=by
 unfold Builtin.Slice.slicePlaces;let h1:(1:Int)>0:=∅
 split<;>lia
def OG(p:IsPart v o)(h:Q o s):wpAny `b A (Builtin.Slice.slicePartIndex v) Q E s:=by
 cases p with
 |none=>show slicePart_none h
 |int i t=>show slicePart_int h
theorem sliceApplied_gen{lo hi:Option Int}{n:Nat}(hs:s.heap.IsSliceOf G F B .none)(L:IsPart F lo)(J:IsPart B hi)
  (h:Q (((sIx n 0 lo:Nat):Int),1,sIx n n hi-sIx n 0 lo) s):wpAny `b A (Builtin.Slice.sliceApplied (.ref G) (pure (n:Int))) Q E s:=by
 let#[os,v,M,z]:=id hs;show qa (qa (wpAny_field v z (x:=F) rfl (qa (wpAny_field v z (x:=B) rfl (qa (wpAny_field v z (x:=.none) rfl (qb ?_)))))));show qa (slicePart_none ?_);show qa (OG L (qa (OG J (qa (qb ?_)))));show wpAny _ _ (match Builtin.Slice.sliceAdjust lo hi 1 (n:Int)with|(lo,hi)=>pure (lo,(1:Int),Builtin.Slice.slicePlaces lo hi 1)) _ _ s;rw[Wt lo hi n];show wpAny _ _ (pure (((sIx n 0 lo:Nat):Int),(1:Int),Builtin.Slice.slicePlaces ((sIx n 0 lo:Nat):Int) ((sIx n n hi:Nat):Int) 1)) _ _ s;rw[VT];show qb h
def Sy(xs:Array Value)(i k:Nat):((List.range k).filterMap λ(m:Nat)=>xs[((i:Int)+(m:Int)*1).toNat]?).toArray=((xs.toList.drop i).take k).toArray:=by
 have e:(λ(m:Nat)=>xs[((i:Int)+(m:Int)*1).toNat]?)=λm=>xs[i+m]?:=by
  funext m
  let:((i:Int)+(m:Int)*1).toNat=i+m:=∅
  rw[this]
 rw[e];let:=pick_run xs i k;rw[List.filterMap_map]at this;let v:((λx=>xs[x]?)∘λx=>i+x)=λm=>xs[i+m]?:=rfl;rw[v]at this;rw[this]
theorem getItem_tuple_cut{lo hi:Option Int}(z:IsTup s.heap t items)(hs:s.heap.IsSliceOf L O M .none)(pl:IsPart O lo)(Y:IsPart M hi)
  (hw:¬(sIx items.size 0 lo=0/\sIx items.size items.size hi=items.size))
  (h:Q `g {s with heap:=s.heap.push {cls:=.type "tuple",data:=.seq ((items.toList.drop (sIx items.size 0 lo)).take (sIx items.size items.size hi-sIx items.size 0 lo)).toArray}})
  (hsz:items.size<=sizeLine):wpAny `b A (getItem (.ref t) (.ref L)) Q E s:=by
 let v:sizeOk (.seq ((items.toList.drop (sIx items.size 0 lo)).take (sIx items.size items.size hi-sIx items.size 0 lo)).toArray):=by show((items.toList.drop (sIx items.size 0 lo)).take (sIx items.size items.size hi-sIx items.size 0 lo)).toArray.size<=sizeLine;rw[qr,qH,qG];show le_trans (min_le_right ..) (le_trans (sub_le ..) hsz)
 let#[os,B,G,h1]:=id hs;let J:s.TypeIs (.ref L) "slice":=#[os,B,G]
 unfold getItem;try with_reducible show zf ?_
 first|show qa (qb ?_)|skip
 refine qa (wpAny_sequenceKey z.typeIs ⋯ ?_);refine qa (wpAny_callSpecial?_slot (name:=Str.ofString "__getitem__") z.typeIs PyProof.Rows.slot_tuple_getitem
  (zd PyProof.Rows.slot_tuple_getitem z.typeIs entry_tuple_getitem ?_ (args_tuple_getitem _ _)))
 show wpAny _ _ (Builtin.Tuple.tupleItemsOf (.ref t)>>=_) _ _ s;show qa (tupleItemsOf_ z ?_);show qa (wpAny_typeOf J ?_);show qa (sliceApplied_gen hs pl Y ?_);let F:¬((((sIx items.size 0 lo:Nat):Int)==0&&(1:Int)==1&&(sIx items.size items.size hi-sIx items.size 0 lo)==items.size)=true):=by grind
 show wpAny _ _ (if(((sIx items.size 0 lo:Nat):Int)==0&&(1:Int)==1&&(sIx items.size items.size hi-sIx items.size 0 lo)==items.size)=true then _ else _) _ _ s;rw[q5 F,Sy];first
  |show qa (m:=Builtin.Tuple.tupleExact _) (zc (qb ⟨_,rfl,qb h⟩) v)
  |show qa (m:=Builtin.Tuple.tupleExact _) (zc (qa (qb (qb ⟨_,rfl,qb h⟩))) v)
  |show qa (qa (m:=Builtin.Tuple.tupleExact _) (zc (qb (qb ⟨_,rfl,qb h⟩)) v))
  |show qa (qa (m:=Builtin.Tuple.tupleExact _) (zc (qb ⟨_,rfl,qb h⟩) v))
end HT
namespace L2
open PySem PySem.Spec PyProof.Rows
abbrev TO:=St->Hp->(Option Int->Hp->Prop)->Prop
@[inline]def PO(X:Cx)(e:Option Expr)(t:TO):Prop:=
 ∀(zG:List (Addr×Obj))(s:Shared)(Z:St)(H:Hp)(Q:Option Int->Hp->Prop),Inv X zG Z H s->t Z H Q->
  wpAny `a X.A (evalPart e X.env) (λu s'=>∃o H',Inv X zG Z H' s'/\IsPart u o/\Q o H') X.xe s
def rS:TO:=λ_ H Q=>Q none H
def aa(t:TE):TO:=λZ H Q=>t Z H λx H1=>∃i,x=.int i/\Q (some i) H1
def Hs:∀{v:List Value},zD `Y v->IntsAre v ns:=by
 induction ns with
 |nil=>intro v r;rw[map_nil]at r;cases r;show .nil
 |cons n ns F=>
  intro v r;cases r with
  |cons B z=>let#[t,e]:=B;subst e;show .cons n t (F z)
section
variable{lo hi:Option Expr}
def MZ:PO X none rS:=by intro zG s Z H Q I h;show qb #[none,H,I,.none,h]
def Im(h:PE X e te):PO X (some e) (aa te):=by intro zG s Z H Q I F;show An (h zG s Z H _ I F) λu J v=>?_;let#[x,H1,G,z,B]:=v;let#[i,rfl,q]:=B;let#[t,rfl]:=z;show#[some i,H1,G,.int i t,q]
def mR(X:Cx)(r:V->Option Int->Option Int->Hp->VK->Prop):Prop:=
 ∀(zG:List (Addr×Obj))(s:Shared)(Z:St)(H:Hp)(x:V)(v B z:Value)(lo hi:Option Int)(F:Addr)(Q:VK),Inv X zG Z H s->zv x v->s.heap.IsSliceOf F B z .none->IsPart B lo->IsPart z hi->r x lo hi H Q->
  ∃T id,typeLookup `ap "__getitem__"=pure (some `bn)/\s.TypeIs v T/\wpAny `a X.A (getItem v (.ref F)) `ay X.xe s
def mR.or(h:mR X r)(h':mR X O):mR X (λx lo hi H Q=>r x lo hi H Q\/O x lo hi H Q):=by
 intro zG s Z H x v B z lo hi F Q I G M L J q;rcases q with q|q
 .show h zG s Z H x v B z lo hi F Q I G M L J q
 .show h' zG s Z H x v B z lo hi F Q I G M L J q
def rn(r:V->Option Int->Option Int->Hp->VK->Prop)(te:TE)(v z:TO):TE:=λZ H Q=>te Z H λx H1=>v Z H1 λl H2=>z Z H2 λu B=>r x l u B Q
def Kg(hr:mR X r)(he:PE X e te)(hl:PO X lo L)(hu:PO X hi M):PE X (.Subscript e (.Slice lo hi none p2) pos) (rn r te L M):=by intro zG s Z H Q I h;show Subscript_ (An (he zG s Z H _ I h) λv Y B=>?_);let#[x,H1,I1,r1,q1]:=B;show wpAny_Slice (An (hl zG Y Z H1 _ I1 q1) λG O⟨l,H2,I2,pl,q2⟩=>An (hu zG O Z H2 _ I2 q2) λF z B=>?_);let#[u,J,I3,pu,q3]:=B;show qb ?_;let I4:Inv X zG Z J {z with heap:=z.heap.push {cls:=.type "slice",data:=.fields [G,F,.none].toArray}}:=I3.kept (t':=z.toks) λb ob q=>qc _ q;let#[T,id,hT,ht,hg]:=hr zG {z with heap:=z.heap.push {cls:=.type "slice",data:=.fields [G,F,.none].toArray}} Z J x v G F l u z.heap.objs.size Q I4 r1 (Heap.IsSliceOf.new ..) pl pu q3;show tail_any (ops:=[.ref z.heap.objs.size,v]) ht hT hg (by with_unfolding_all rfl)
def jJ(xs:List V)(lo hi:Option Int):List V:=(xs.drop (HT.sIx xs.length 0 lo)).take (HT.sIx xs.length xs.length hi-HT.sIx xs.length 0 lo)
def OX(xs:List V)(lo hi:Option Int):(jJ xs lo hi).length<=xs.length:=by unfold jJ;rw[qH,qG];show le_trans (min_le_right ..) (sub_le ..)
def au(K:W.Frag):V->Option Int->Option Int->Hp->VK->Prop:=λx lo hi H Q=>∃a xs,x=.ref a/\bV K H a xs/\
 ¬(HT.sIx xs.length 0 lo=0/\HT.sIx xs.length xs.length hi=xs.length)/\∀p,H p=none->Q `w (upd H p (.tup (jJ xs lo hi)))
def PU:mR X (au X.K):=by
 intro zG s Z H x v vl vu lo hi sl Q I J hs M L h;let#[a,xs,rfl,O,Y,q]:=h;cases J;let#[B,r,G,F]:=I.tuple O;let z:B.toArray.size=xs.length:=by rw[qr];show r.length.symm
 show#["tuple",_,PyProof.Rows.slot_tuple_getitem.lookup,G.typeIs,?_];show HT.getItem_tuple_cut G hs M L (by rw[z];show Y) ?_ (by rw[z];show F);rw[z];show#[.ref s.heap.objs.size,_,I.laid (t':=s.toks) (o:=.tup (jJ xs lo hi)) (λb ob q=>qc _ q) `j ?_,rfl,q _ (I.hok.fresh `j)];show#[#[le_trans (OX xs lo hi) F,kQ.new rfl (qd _ rfl)],_,(r.drop (HT.sIx xs.length 0 lo)).take (HT.sIx xs.length xs.length hi-HT.sIx xs.length 0 lo),IsTup.new _ _]
def bf(K:W.Frag):R2:=λx y H Q=>∃a b xs ys,x=.ref a/\y=.ref b/\bV K H a xs/\bV K H b ys/\xs≠[]/\xs.length+ys.length<=sizeLine/\
 (ys=[]->Q `p H)/\(ys≠[]->∀p,H p=none->Q `w (upd H p (.tup (xs++ys))))
def zD.nil_iff(r:zD xs v):v=[]↔xs=[]:=by
 cases r with
 |nil=>simp
 |cons _ _=>simp
def Ss:OpR X `cz (bf X.K):=by intro zG s Z H x y v u Q I M L h;let#[a,b,xs,ys,rfl,rfl,ha,hb,hx,J,Y,O]:=h;cases M;cases L;let#[h1,F,p1,_]:=I.tuple ha;let#[G,B,p2,_]:=I.tuple hb;show HT.cat_tup p1 p2 (λz=>hx (F.nil_iff.mp z)) (λz=>#[.ref a,H,I,rfl,Y (B.nil_iff.mp z)]) (λz=>?_) (by rw[<-F.length,<-B.length];show J);show#[.ref s.heap.objs.size,_,I.laid (t':=s.toks) (o:=.tup (xs++ys)) (λb ob q=>qc _ q) `j ?_,rfl,O (λw=>z (B.nil_iff.mpr w)) _ (I.hok.fresh `j)];show#[#[by rw[qq];show J,kQ.new rfl (qd _ rfl)],_,F.append B,IsTup.new _ _]
end
def ixN(n:Nat)(i:Int):Option Nat:=if 0<=i then(if i<n then some i.toNat else none)else if -(n:Int)<=i then some (i+n).toNat else none
def atI{α:Type}(xs:List α)(i:Int):Option α:=(ixN xs.length i).bind λj=>xs[j]?
def JI(h:ixN n i=some j):seqIndex? i n=some j/\j<n/\-(n:Int)<=i/\i<n:=by
 unfold ixN at h;by_cases v:0<=i
 .rw[q4 v]at h;by_cases h1:i<n
  .rw[q4 h1]at h;let e:i.toNat=j:=qf h;show#[by rw[seqIndex_of v h1,e],∅,∅,h1]
  .rw[q5 h1]at h;cases h
 .rw[q5 v]at h;by_cases h1:-(n:Int)<=i
  .rw[q4 h1]at h;let e:(i+n).toNat=j:=qf h;show#[by rw[seqIndex_neg ∅ h1,e],∅,h1,∅]
  .rw[q5 h1]at h;cases h
def JQ(h:atI xs i=some v):∃j,seqIndex? i xs.length=some j/\xs[j]?=some v/\j<xs.length/\-(xs.length:Int)<=i/\i<xs.length:=by
 unfold atI at h;cases e:ixN xs.length i with
 |none=>rw[e]at h;cases h
 |some j=>rw[e]at h;let#[h1,h2,B,z]:=JI e;show#[j,h1,h,h2,B,z]
def Nk(xs:List α)(v:α):atI (xs++[v]) (-1)=some v:=by
 let z:(xs++[v]).length=xs.length+1:=by simp
 let e:ixN (xs++[v]).length (-1)=some xs.length:=by unfold ixN;rw[z,q5 ⋯,q4 ∅];congr 1;lia
 unfold atI;rw[e];simp
def gD(b:Expr):Prop:=∀o i,subscripted b false o i=operate [o,i] (getItem o i)
def pK(X:Cx)(r:R2):Prop:=
 ∀(B z:Expr)(zG:List (Addr×Obj))(s:Shared)(Z:St)(H:Hp)(x y:V)(v u:Value)(Q:VK),Inv X zG Z H s->zv x v->zv y u->r x y H Q->
  subscripted z false v u=operate [v,u] (getItem v u)->wpAny `a X.A (subscriptTail B z v u) `ay X.xe s
def tu(X:Cx)(id:String)(r:V->List V->Hp->VK->Prop):Prop:=
 ∀(zG:List (Addr×Obj))(s:Shared)(Z:St)(H:Hp)(x:V)(xs:List V)(v:Value)(z:List Value)(Q:VK),Inv X zG Z H s->zv x v->zD xs z->r x xs H Q->
  wpAny `a X.A (call `bn (v::z)) `ay X.xe s
section
def pK.or(h:pK X r)(h':pK X L):pK X (λx y H Q=>r x y H Q\/L x y H Q):=by
 intro z B zG s Z H x y v u Q I G F q J;rcases q with q|q
 .show h z B zG s Z H x y v u Q I G F q J
 .show h' z B zG s Z H x y v u Q I G F q J
def Jh(G:pK X r)(L:PE X a ta)(J:PE X b tb)(hs:gD b):PE X (.Subscript a b pos) (fo r ta tb):=by intro zG s Z H Q I h;show Subscript_ (Gx L J I h λv u z x y H2 M F B q=>G a b zG z Z H2 x y v u Q M F B q (hs _ _))
def bb(K:W.Frag):R2:=λx y H Q=>∃p xs i v,x=.ref p/\y=.int i/\bQ K H p xs/\atI xs i=some v/\Q v H
def az(K:W.Frag):R2:=λx y H Q=>∃p xs i v,x=.ref p/\y=.int i/\bV K H p xs/\atI xs i=some v/\Q v H
def ba:R2:=λx y H Q=>∃z i c,x=.str z/\y=.int i/\z.length<=sizeLine/\atI z.cps.toList i=some c/\Q (.str #[[c].toArray]) H
theorem zlX:pK X (bb X.K):=by
 intro F G zG s Z H x y v u Q I rx ry h Y;let#[p,xs,i,z,rfl,rfl,hq,he,q]:=h;cases rx;let#[t,rfl]:=ry;let#[M,r,L,hz]:=I.list hq;let#[j,h1,h2,h3,h4,h5]:=JQ he;let#[w,ew,J]:=r.get h2;let hl:=r.length;let hn:=AV;let B:EP X zG Z Q w s:=#[z,H,I,J,q]
 by_cases h0:0<=i
 .let O:i.toNat=j:=by rw[seqIndex_of h0 h5]at h1;exact qf h1
  show item_listR L.isList h0 ∅ (by rw[O];simpa using ew) B Y
 .have O:(i+(M.toArray.size:Int)).toNat=j:=by rw[seqIndex_neg ∅ h4]at h1;rw[qr,<-hl];exact qf h1
  exact subscriptTail_builtinR (x:=w) L.isList.typeIs slot_list_getitem.lookup
   (wpAny_getItem_list_neg (Q:=λr s'=>r=w/\EP X zG Z Q r s') L.isList ∅ (by rw[qr]<;>lia) ∅ (by rw[O];simpa using ew) #[rfl,B]) Y
theorem zno:pK X (az X.K):=by
 intro B F zG s Z H x y v u Q I O M h hs;let#[p,xs,i,z,rfl,rfl,hq,he,q]:=h;cases O;let#[t,rfl]:=M;let#[Y,r,L,hz]:=I.tuple hq;let#[j,h1,h2,h3,h4,h5]:=JQ he;let#[w,ew,G]:=r.get h2;let hl:=r.length;let hn:=AV;let J:EP X zG Z Q w s:=#[z,H,I,G,q]
 exact subscriptTail_builtinR (x:=w) L.typeIs slot_tuple_getitem.lookup
  (getItem_tuple (j:=j) (Q:=λr s'=>r=w/\EP X zG Z Q r s') L ∅ ∅ (by rw[qr,<-hl];show h1) ↑ew #[rfl,J]) hs
def Qp:pK X ba:=by
 intro B F zG s Z H x y v u Q I J G h L;let#[z,i,c,rfl,rfl,hz,O,q]:=h;let#[t,rfl]:=J;let#[t',rfl]:=G;let#[j,h1,h2,h3,h4,Y]:=JQ O;let M:z.cps.toList.length=z.length:=by simp[Str.length]
 rw[M]at h1 h4 Y;let hn:=AV;show tail_any (typeIs_str s z t) slot_str_getitem.lookup (getItem_str (c:=c) (by let e1:decide (i< -(2^63:Int))=false:=qS ∅;let e2:decide (i≥2^63)=false:=qS ∅;rw[e1,e2,Bool.or_false]) (by rw[h1];simpa using h2) #[.str #[[c].toArray],H,I.tok _,#[_,rfl],q]) L
def fu(K:W.Frag):R2:=λx y H Q=>bb K x y H Q\/az K x y H Q\/ba x y H Q
def LQ:pK X (fu X.K):=zlX.or (zno.or Qp)
def Wu(v:List Value)(n j:Nat)(u:Value):Obj.mapSeq (·.setIfInBounds j u) {cls:=.type "list",data:=.seq v.toArray n}={cls:=.type "list",data:=.seq (v.set j u).toArray n}:=by simp[Obj.mapSeq]
def Inv.lst(I:Inv X zG Z H s)(h:H p=some `N):
  ∃(v:List Value)(n:Nat),zD xs v/\s.heap.get? p=some {cls:=.type "list",data:=.seq v.toArray n}/\xs.length<=sizeLine:=by
 let#[z,v,n,r,e]:=I.hok p _ h;show#[v,n,r,e,z]
def Inv.lstUpd{v its':List Value}(I:Inv X zG Z H s)(h:H p=some `N)
  (F:s.heap.get? p=some {cls:=.type "list",data:=.seq v.toArray n})(B:f {cls:=.type "list",data:=.seq v.toArray n}={cls:=.type "list",data:=.seq its'.toArray z})(r:zD ys its')(hz:ys.length<=sizeLine)(t:Nat):
  Inv X zG Z (upd H p `dw) {s with heap:=s.heap.update p f,toks:=t}:=by
 let e:(s.heap.update p f).get? p=some {cls:=.type "list",data:=.seq its'.toArray z}:=by rw[za f F (by rw[B]<;>rfl),B]
 show I.write (x:=p) (e:=p) (by rw[h];trivial) (.inl rfl) (λb u G q=>(q9 _ _ (Ne.symm G)).trans q) #[_,e] ?_;show#[hz,its',z,r,e]
def ax:V->V->V->Hp->(Hp->Prop)->Prop:=λo i v H Q=>∃p xs k j,o=.ref p/\i=.int k/\H p=some `N/\ixN xs.length k=some j/\Q (upd H p (.lst (xs.set j v)))
def UL:dj X ax:=by
 intro zG s Z H o i v ov iv u Q I ro ri rv h;let#[p,xs,k,j,rfl,rfl,J,hj,q]:=h;cases ro;let#[t,rfl]:=ri;let#[z,n,r,B,hz]:=I.lst J;let#[h1,h2,M,L]:=JI hj;let F:=r.length;let hn:=AV;let Y:Inv X zG Z (upd H p (.lst (xs.set j v))) {s with heap:=s.heap.update p (Obj.mapSeq (·.setIfInBounds j u))}:=
  I.lstUpd J B (Wu z n j u) (r.set rv j) (by rw[length_set];show hz) s.toks
 by_cases O:0<=k
 .let G:k.toNat=j:=by rw[seqIndex_of O L]at h1;exact qf h1
  show W.ki_setAt B O ∅ (by rw[qr,<-F];show L) (by rw[G];show#[_,Y,q])
 .let G:(k+(z.toArray.size:Int)).toNat=j:=by rw[seqIndex_neg ∅ M]at h1;rw[qr,<-F];exact qf h1
  show W.ki_setBack B ∅ (by rw[qr,<-F];show M) ∅ (by rw[G];show#[_,Y,q])
def Xe(lo hi:Option Int)(n:Nat):(sliceBounds lo hi none n).1=((HT.sIx n 0 lo:Nat):Int)/\(sliceBounds lo hi none n).2.1=((HT.sIx n n hi:Nat):Int)/\(sliceBounds lo hi none n).2.2=1:=by
 let v:∀(i:Int)(n d:Nat),max 0 (min (if i<0 then i+(n:Int)else i) (n:Int))=((HT.sIx n d (some i):Nat):Int):=λi n _=>FF i n;show#[?_,?_,rfl]
 .cases lo with
  |none=>rfl
  |some i=>show v i n 0
 .cases hi with
  |none=>rfl
  |some i=>show v i n n
def Xt(v:List Value)(lo hi:Option Int):slicePick v.toArray lo hi none=((v.drop (HT.sIx v.length 0 lo)).take (HT.sIx v.length v.length hi-HT.sIx v.length 0 lo)).toArray:=by let#[h1,h2,z]:=Xe lo hi v.toArray.size;unfold slicePick;rw[h1,h2,z];simp only[sliceRange_one,pick_run]<;>rfl
def aw(K:W.Frag):V->Option Int->Option Int->Hp->VK->Prop:=λx lo hi H Q=>∃a xs,x=.ref a/\bQ K H a xs/\∀p,H p=none->Q `w (upd H p (.lst (jJ xs lo hi)))
def Rp:mR X (aw X.K):=by intro zG s Z H x v vl vu lo hi sl Q I F Y J G h;let#[a,xs,rfl,O,q]:=h;cases F;let#[L,r,B,M]:=I.list O;let z:=r.length;show#["list",_,slot_list_getitem.lookup,B.isList.typeIs,?_];show wpAny_getItem_list_slice B.isList Y J G .none (by simp) ?_ (by rw[qr]<;>lia);rw[Xt,<-z];show#[.ref s.heap.objs.size,_,I.laid (t':=s.toks) (o:=.lst (jJ xs lo hi)) (λb ob q=>qc _ q) `j ?_,rfl,q _ (I.hok.fresh `j)];show#[le_trans (OX xs lo hi) M,_,0,(r.drop (HT.sIx xs.length 0 lo)).take (HT.sIx xs.length xs.length hi-HT.sIx xs.length 0 lo),qd _ rfl]
def Xc:aZ X (.builtin "len") (λxs H Q=>∃p ys,xs=[.ref p]/\(bQ X.K H p ys\/bV X.K H p ys)/\Q (.int ys.length) H):=by
 intro zG s Z H xs M Q I r h;let#[p,ys,rfl,z,q]:=h;let#[u,rfl,J]:=vals1 r;cases J;let O:=AV;rcases z with z|z
 .obtain⟨G,B,F,L⟩:=I.list z;let v:=B.length;show Calls.call_len_list F.isList (by simp<;>lia) #[.int ys.length,H,I.tok _,#[s.toks+1,by rw[qr,v]],q]
 .obtain⟨G,B,F,L⟩:=I.tuple z;let v:=B.length;show len_tuple F (by simp<;>lia) #[.int ys.length,H,I.tok _,#[s.toks+1,by rw[qr,v]],q]
def Xf:aZ X (.builtin "len") (λxs H Q=>∃z,xs=[.str z]/\z.length<=sizeLine/\Q (.int z.length) H):=by intro zG s Z H xs v Q I r h;let#[z,rfl,B,q]:=h;let#[u,rfl,t,rfl]:=vals1 r;let F:=AV;show len_str ∅ #[.int z.length,H,I.tok _,#[_,rfl],q]
def Xy:aZ X (.type "list") (λxs H Q=>∃p ys,xs=[.ref p]/\(bQ X.K H p ys\/bV X.K H p ys)/\∀l,H l=none->Q (.ref l) (upd H l `dw)):=by
 intro zG s Z H xs us Q I r h;let#[p,ys,rfl,J,q]:=h;let#[u,rfl,rx]:=vals1 r;cases rx;let M:∀(v:List Value),zD ys v->ys.length<=sizeLine->∀(h':Heap)(B:Nat),(∀b o',s.heap.get? b=some o'->h'.get? b=some o')->
   h'.get? s.heap.objs.size=some {cls:=.type "list",dict:=none,data:=.seq v.toArray B,slots:=#[]}->EP X zG Z Q `g {s with heap:=h'}:=λv z G h' B F e=>
  #[.ref s.heap.objs.size,_,I.laid (t':=s.toks) F `j (show zF X.prog X.w _ h' _ `dw from#[G,v,B,z,e]),rfl,q _ (I.hok.fresh `j)]
 rcases J with J|J
 .obtain⟨v,z,O,G⟩:=I.list J;let L:=z.length;let#[o,Y,hc,n,hd]:=O.isList;show call_list_seq p (.inl rfl) Y hc hd (λh' B F e=>M v z G h' B F e) (by simp<;>lia)
 .obtain⟨v,z,O,G⟩:=I.tuple J;let L:=z.length;let#[o,Y,hc,n,hd]:=O;show call_list_seq p (.inr rfl) Y hc hd (λh' B F e=>M v z G h' B F e) (by simp<;>lia)
def Xw:aZ X (.type "tuple") (λxs H Q=>∃p ys,xs=[.ref p]/\((bQ X.K H p ys/\∀l,H l=none->Q (.ref l) (upd H l (.tup ys)))\/(bV X.K H p ys/\Q `w H))):=by
 intro zG s Z H xs us Q I r h;let#[p,ys,rfl,h]:=h;let#[u,rfl,M]:=vals1 r;cases M;rcases h with⟨F,q⟩|⟨F,q⟩
 .obtain⟨v,z,B,G⟩:=I.list F;let J:=z.length;show call_tuple_list B.isList (λh' O=>?_) (by simp<;>lia);let L:Inv X zG Z H {s with heap:=h'}:=I.kept (t':=s.toks) O;let Y:Inv X zG Z (upd H h'.objs.size (.tup ys)) {s with heap:=h'.push {cls:=.type "tuple",data:=.seq v.toArray}}:=
   L.laid (t':=s.toks) (λb o e=>qc _ e) `j (show zF X.prog X.w _ _ _ (.tup ys) from#[#[G,kQ.new rfl (qd _ rfl)],v,z,IsTup.new _ _])
  show#[.ref h'.objs.size,_,Y,rfl,q _ (L.hok.fresh `j)]
 .obtain⟨v,z,B,G⟩:=I.tuple F;show call_tuple_same B #[.ref p,H,I,rfl,q]
def nq(K:W.Frag)(T:String)(x:V)(H:Hp):Prop:=match x with
 |.str _=>T="str"
 |.int _=>T="int"
 |.ref p=>(T="list"/\∃xs,bQ K H p xs)\/(T="tuple"/\∃o,K.lookup p=some o/\o.cls=.type "tuple"/\o.dict=none)\/
  (T="dict"/\((∃zH,H p=some `co)\/∃zH,H p=some (.dT zH)))
 |_=>False
def Ra(I:Inv X zG Z H s)(r:zv x v)(ty:nq X.K T x H):
  s.TypeIs v T/\∀a,v=.ref a->∃L,s.heap.get? a=some L/\L.dict=none:=by
 cases x with
 |str z=>let#[t,rfl]:=r;cases(show T="str" from ty);show#[typeIs_str s z t,λ_ e=>nomatch e]
 |int i=>let#[t,rfl]:=r;cases(show T="int" from ty);show#[typeIs_int s i t,λ_ e=>nomatch e]
 |ref p=>
  cases r;rcases ty with⟨rfl,xs,O⟩|⟨rfl,o,B,Y,G⟩|⟨rfl,B⟩
  .obtain⟨M,_,J,_⟩:=I.list O;show#[J.isList.typeIs,λa e=>?_];cases e;let#[o,n,e,c,G,_]:=J;show#[o,e,G]
  .show#[#[o,I.kIn p o B,Y],λa e=>?_];cases e;show#[o,I.kIn _ o B,G]
  .have z:∃o,s.heap.get? p=some o/\o.ExactDict:=by
    rcases B with⟨F,B⟩|⟨F,B⟩
    .obtain⟨_,_,_,_,o,_,_,e,ex,_⟩:=I.hok p _ B;show#[o,e,ex]
    .obtain⟨_,_,_,_,o,_,_,e,ex,_⟩:=I.hok p _ B;show#[o,e,ex]
   let#[o,e,ex]:=z;show#[#[o,e,ex.1],λa e2=>?_];cases e2;show#[o,e,ex.2.1]
 |_=>show False.elim ty
def se(K:W.Frag)(T:String)(r:V->List V->Hp->VK->Prop)(v:TE)(t:TA):TE:=λZ H Q=>v Z H λx H1=>nq K T x H1/\t Z H1 λxs H2=>r x xs H2 Q
variable{T id:String}
def FK(pa:PlainAttrs T)(slot:Slot T name id)(J:typeOf `bn=pure (.type "method_descriptor"))(hm:tu X id r)(ho:PE X o to)(ha:PA X (e::es) t)
  (F:autoParam (attributeBase o name X.env `at=eval o X.env) rZ9)
  (G:autoParam (((backTo cpos (starEach (e::es) X.env)).all (λx=>!x.1)&&(backToKw cpos (keywordEach [] X.env)).all (λx=>x.1.isSome)
   &&decide ((e::es).length+([]:List Keyword).length+(if([]:List Keyword).isEmpty then 0 else 1)<30))=true) rZ9)
  (B:autoParam ((apos.endLine==cpos.line)=true) rZ9)(hs:autoParam (starEach (e::es) X.env=(false,eval e X.env)::starEach es X.env) rZ9)(z:autoParam ((backTo cpos `h).any (·.1)=false) rZ9):
  PE X (.Call (.Attribute o name apos) (e::es) [] cpos) (se X.K T r to t):=by
 intro zG s Z H Q I h;show wpAny_Call_method_late F G B rfl (An (ho zG s Z H _ I h) λv s1 Y=>?_);let#[x,H1,O,L,ty,q1]:=Y;let#[h1,h2]:=Ra O L ty;show#[T,id,pa,slot,J,h1,h2,?_];let M:=ha cpos zG s1 Z H1 _ O q1;rw[hs]at M⊢;show Calls.callWith_builtin (by show(false||(backTo cpos (starEach es X.env)).any (·.1))=false;rw[z]<;>rfl) (Calls.evalArgs_plain ?_);show An M λus s2⟨vs,H2,I2,r2,q2⟩=>hm zG s2 Z H2 x vs v us Q I2 L r2 q2
end
def zO(X:Cx)(id:String)(r:V->List V->Hp->VK->Prop):Prop:=
 ∀(zG:List (Addr×Obj))(s:Shared)(Z:St)(H:Hp)(x:V)(xs:List V)(v:Value)(z:List Value)(Q:VK),Inv X zG Z H s->zv x v->zD xs z->r x xs H Q->
  wpAny `a X.A (call `bn (v::z)) `ay X.xe s
def zD.one:∀{x:V}{v:List Value},zD [x] v->∃u,v=[u]/\zv x u:=by
 intro x v h;cases h with
 |cons r t=>cases t;show#[_,rfl,r]
def zD.eraseIdx:∀{xs:List V}{v:List Value}(i:Nat),zD xs v->zD (xs.eraseIdx i) (v.eraseIdx i)
 |_,_,_,.nil=>.nil
 |_,_,0,.cons _ t=>t
 |_,_,i+1,.cons r t=>.cons r (zD.eraseIdx i t)
def Og{α:Type}:∀(l:List α)(i:Nat),(l.eraseIdx i).length<=l.length
 |[],_=>q8 _
 |_::_,0=>le_succ _
 |_::r,i+1=>Nat.succ_le_succ (Og r i)
def Inv.lset{v its':List Value}(I:Inv X zG Z H s)(J:H l=some `N)
  (e:s.heap.get? l=some {cls:=.type "list",data:=.seq v.toArray n})(F:f v.toArray=its'.toArray)(z:zD ys its')(hz:ys.length<=sizeLine):
  Inv X zG Z (upd H l `dw) {s with heap:=s.heap.update l (Obj.mapSeq f),toks:=t'}:=by
 let q:=PySem.IsL.update e f;rw[F]at q;show I.write (x:=l) (e:=l) (by rw[J];show trivial) (.inl rfl) (λL u G B=>(q9 s.heap (Obj.mapSeq f) (Ne.symm G)).trans B) #[_,q] ?_;show#[hz,its',_,z,q]
def Inv.lnew(I:Inv X zG Z H s)(z:zD ys v)(hz:ys.length<=sizeLine):
  Inv X zG Z (upd H s.heap.objs.size `dw) {s with heap:=s.heap.push {cls:=.type "list",data:=.seq v.toArray},toks:=t'}:=
 I.laid (λ_ _ q=>qc _ q) `j #[hz,v,0,z,qd _ rfl]
def Inv.fresh(I:Inv X zG Z H s):H s.heap.objs.size=none:=I.hok.fresh `j
def Inv.lstM(I:Inv X zG Z H s)(B:H l=some `N):xs.length<=sizeLine/\∃(v:List Value)(n:Nat),zD xs v/\xs.length=v.length/\s.heap.get? l=some {cls:=.type "list",data:=.seq v.toArray n}:=by let#[z,v,n,r,e]:=I.hok l _ B;show#[z,v,n,r,r.length,e]
def Ei(h:n<=sizeLine):Builtin.List.listTooLong n=false:=by grind[Builtin.List.listTooLong]
def rY:V->List V->Hp->VK->Prop:=λx v H Q=>∃l xs y,x=.ref l/\v=[y]/\H l=some `N/\xs.length<sizeLine/\Q .non (upd H l (.lst (xs++[y])))
def IV:zO X "list.append" rY:=by intro zG s Z H x O v Y Q I J L h;let#[l,xs,y,rfl,rfl,G,hz,q]:=h;cases J;let#[u,rfl,M]:=L.one;let#[z,B,n,r,hl,e]:=I.lstM G;show call_meets F.slot_list_append #[_,e,rfl] F.entry_list_append (F.args_list_append_2 _ _) (PySem.list_append l B.toArray n u (by rw[qr];lia)) #[e,?_];show#[.non,_,I.lset (its':=B++[u]) G e (by simp) (r.append (.cons M .nil)) ?_,rfl,q];rw[qq,qC];lia
def rX:V->List V->Hp->VK->Prop:=λx z H Q=>∃l b xs v,x=.ref l/\z=[.ref b]/\H l=some `N/\H b=some (.lst v)/\xs.length+v.length<=sizeLine/\Q .non (upd H l (.lst (xs++v)))
def Vh:zO X "list.extend" rX:=by
 intro zG s Z H x vs v us Q I M O h;let#[l,b,xs,zs,rfl,rfl,L,hB,hz,q]:=h;cases M;let#[u,rfl,Y]:=O.one;cases Y;let#[z,G,n,r,hl,e]:=I.lstM L;let#[z2,B,n2,r2,h2,e2]:=I.lstM hB;let h1:G.toArray.size+B.toArray.size<=sizeLine:=by rw[qr,qr];lia
 let J:¬(!G.toArray.isEmpty&&Builtin.List.listTooLong (G.toArray.size+B.toArray.size))=true:=by grind[Ei]
 refine call_meets F.slot_list_extend #[_,e,rfl] F.entry_list_extend (F.args_list_extend_2 _ _)
  (AutoSeq1.list_extend_list_list_0 l G.toArray n b B.toArray n2 J (by rw[qr];lia) ∅) #[e,e2,?_]
 show#[.non,_,I.lset (its':=G++B) L e (by simp) (r.append r2) ?_,rfl,q];rw[qq];lia
def wK:V->List V->Hp->VK->Prop:=λx v H Q=>∃l xs i k y,x=.ref l/\v=[.int i]/\H l=some `N/\-(2^63)<=i/\i<2^63/\seqIndex? i xs.length=some k/\xs[k]?=some y/\Q y (upd H l (.lst (xs.eraseIdx k)))
def Uw:zO X "list.pop" wK:=by
 intro zG s Z H x vs v us Q I L M h;let#[l,xs,i,k,y,rfl,rfl,J,h1,h2,hk,Y,q]:=h;cases L;let#[u,rfl,O]:=M.one;let#[t,rfl]:=O;let#[z,B,n,r,hl,e]:=I.lstM J;let#[w,hw,G]:=r.get Y;refine call_meets F.slot_list_pop #[_,e,rfl] F.entry_list_pop (F.args_list_pop_2 _ _)
  (MeetsSeq.list_pop_at l B.toArray n i t k w (fitsIndex_both h1 h2) (by rw[qr,<-hl];show hk) (by rw[<-qZ];show hw) (by rw[qr];lia)) #[e,?_]
 show#[y,_,I.lset (its':=B.eraseIdx k) J e ?_ (r.eraseIdx k) ?_,G,q]
 .show B.toArray.eraseIdxIfInBounds k=(B.eraseIdx k).toArray;rw[List.eraseIdxIfInBounds_toArray]
 .let:=Og xs k;lia
end L2
namespace Att
open PySem PySem.W PySem.Calls PyProof.Rows
def Xz:∀(ns:List Int)(vs:List Value),WellAll P h vs (ns.map WData.int)->IntsAre vs ns:=by
 intro ns;induction ns with
 |nil=>intro vs w;cases w;show .nil
 |cons n ns v=>
  intro vs w;cases w with
  |cons a b=>cases a;show .cons _ _ (v _ b)
def Uy{l:OpenLaw}(hn:l.most=some n)
  (v:l.row.toRowW.claim.pre args=true)(G:WellAll P h vals args):
  ∃a vs ns,vals=[Value.ref a]/\args=[WData.list (ns.map WData.int)]/\h.get? a=some {cls:=.type "list",data:=.seq vs.toArray}/\IntsAre vs ns/\ns.length<=n:=by
 have J:WShape.hasAll [] args [.list .int]=true:=(pre_splitW v).1;let Y:l.pre.holds [] {args:=args}=true:=(pre_splitW v).2;let#[d,r,rfl,h1,h2]:=hasAllW_cons J;obtain rfl:=hasAllW_nil h2;let#[xs,rfl,h3]:=hasW_list h1;let#[ns,rfl]:=items_int h3;let z:ns.length<=n:=by
  let F:(WTm.not (.lt (.lit (.int (n:Int))) (.len (.arg 0)))).holds [] {args:=[.list (ns.map .int)]}=true:=by let F:=(holds_andW Y).1;rw[hn]at F;show F
  let h5:=condW_of F (w_not (w_lt w_lit (w_len_list (w_arg rfl))));grind
 cases G with
 |cons M L=>
  cases L;cases M with
  |list O B=>show#[_,_,ns,rfl,rfl,O,Xz ns _ B,z]
def VF(l:OpenLaw)(args:List WData):l.row.toRowW.claim.post args `dx args=true:=
 postW_of (r:=l.row.toRowW) (X:=(true==true))
  (show WShape.has [] `dx .bool=true by first|rfl|decide|simp)
  (show(WTm.eq .res (.lit `dx)).value [] {args:=args,res:=some `dx,after:=args}=some (.bool (true==true)) from w_eq_bool (w_res rfl) w_lit) rfl
theorem attach_call{l:OpenLaw}
  (hn:l.most=some n)(h6:d.params.defaults=[])
  (call:∀(w:World)(z v:Shared)(mg mb:Str->Option Value)(O:Addr)(o:Obj)(pm cd F:Value)(a:Addr)(vs:List Value)(ns:List Int),
   Ground q loose [] XP w z mg mb v.heap->YP w v.heap->
   v.heap.get? O=some o->o.data=.func (docDef d.name d.params d.body d.scope pm cd F)->v.heap.CodeRec cd d.name->mg d.name=some (.ref O)->
   v.heap.get? a=some {cls:=.type "list",data:=.seq vs.toArray}->IntsAre vs ns->ns.length<=n->v.gens=#[]->
   codeAny (model l.prog w) callerA (.call (.ref O) #[[.ref a],[]]) (λr s'=>r=.ok (.ret `dx)/\OldK v.heap s'.heap/\s'.os=v.os/\AllBare s'.gens) v):
  WalkO q loose XP YP l.row.toRowW d [] (λf vs=>PySem.call f vs):=by
 intro w z v mg mb G Y O o pm cd F dV kV ho hd h7 hD h5 hg args h8 as J h9 e1 h1 e2;obtain rfl:dV=.none:=Dflts.none hD h6;obtain rfl:kV=.none:=Dflts.noKw hD;let#[a,vs,ns,rfl,rfl,L,B,M]:=Uy hn J h1;show enter_call (codeAny_mono (call w z v mg mb O o pm cd F a vs ns G Y ho (fd_plain hd) h7 h5 L B M hg) λr s' hq=>?_);let#[rfl,h2,h3,h4]:=hq;show#[.inl #[.bool true,.bool true,[],rfl,λ_=>rfl,.bool true,VF l _,λ_=>#[List.Pairwise.nil,λ_ hm=>(nomatch hm)]],h2,h3,h4]
end Att
namespace L2
open PySem PySem.Spec PyProof.Rows
def Gb:∀{vs:List Value}{ns:List Int},IntsAre vs ns->zD `Y vs
 |_,_,.nil=>.nil
 |_,_,.cons n t h=>.cons #[t,rfl] (Gb h)
def yU(H:Hp):Prop:=∀b,H b=none\/∃o xs,H b=some (.frz o `N)
def Tf{K:W.Frag}
  (KX:K.In B.heap)(h5:B.heap.Ns mainGlobals mg)(O:B.heap.Ns builtinsNs mb)(e3:∀x:Str,x≠"__name__"->mb x=bootBuiltins x)(h6:B.heap.NoLimit)(hg:B.gens=#[])
  (ha:B.heap.get? a=some {cls:=.type "list",data:=.seq vs.toArray})(hi:IntsAre vs ns)(hl:ns.length<=sizeLine)(hr:cB k callerA)
  (F:∀base:Heap,K.In base->base.Ns mainGlobals mg->fX P w K mg base CX k fa fd [x] sp)(M:∀(s:Shared)(u:Value),BindsTo s fd #[[u],[]] [(x,u)])
  (h9:∀H:Hp,yU H->bQ K H a `Y->sp [.ref a] H (λv _=>v=.bl true) λ_ _ _=>False)
  (e4:∀H e s',CX [] H B (λ_ _ _=>False) e s'->False):
  codeAny `di callerA (.call (.ref fa) #[[.ref a],[]]) (λr s'=>r=.ok (.ret `dx)/\OldK B.heap s'.heap/\s'.os=B.os/\AllBare s'.gens) B:=by
 let rv:=Gb hi;let Y:=hi.length
 --from an abstract heap in which nothing but the script may be tracked
 have L:∀H:Hp,yU H->bQ K H a `Y->eM P w H B.heap->(∀b,H b≠none->b=a)->(H a≠none->K.lookup a=none)->
   codeAny `di callerA (.call (.ref fa) #[[.ref a],[]]) (λr s'=>r=.ok (.ret `dx)/\OldK B.heap s'.heap/\s'.os=B.os/\AllBare s'.gens) B:=by
  intro H hO hS h4 hA hK;let G:∀{b:Addr}{o:Obj},B.heap.get? b=some o->H b=none->(iV B.heap H).get? b=some o:=λe n=>Sv e n;let h8:∀{b:Addr}{o:Obj}{es:Array DictEntry}{ep:Nat},B.heap.get? b=some o->o.data=.dict es ep->H b=none:=λ{b o es ep} e d=>by
   cases q:H b with
   |none=>rfl
   |some u=>grind
  let J:∀{b:Addr}{m:Str->Option Value},B.heap.Ns b m->(iV B.heap H).Ns b m:=λ{b m}⟨o,es,ep,e,d,r⟩=>#[o,es,ep,G e (h8 e d),d,r]
  have h7:K.In (iV B.heap H):=λb o e=>G (KX b o e) (by
   cases q:H b with
   |none=>rfl
   |some u=>have e':b=a:=hA b (by rw[q];simp);subst e';rw[hK (by rw[q];simp)]at e;cases e)
  let hM:Mod K mg (iV B.heap H):=#[h7,J h5,#[mb,J O,e3],let#[mc,h1,h2]:=h6;#[mc,J h1,h2]]
  let e0:tP P w K mg (iV B.heap H) callerA [] B H:=#[rfl,hM,λb o e=>Sg e,Nat.le_of_eq (Vp _ _),trivial,λb O=>absurd (show b∈([]:List Addr) from O) (by simp),h4,.of_eq hg]
  show codeAny_mono ((F _ h7 (J h5)).run callerA [] B H #[[.ref a],[]] [.ref a] [.ref a] _ _ hr e0 (M B `p) (.cons rfl .nil) (h9 H hO hS)) λr s' h=>?_;cases r with
  |error e=>show(e4 H e s' h).elim
  |ok fl=>
   cases fl with
   |next=>show False.elim h
   |brk=>show False.elim h
   |cont=>show False.elim h
   |ret u=>
    let#[v,H',os,bare,un,h3,r',q]:=h;let q':v=.bl true:=q;subst q';obtain rfl:u=Value.bool true:=r';show#[rfl,OldK.of_keep λb o e=>?_,os,bare];cases q:H b with
    |none=>show un.keep b o e q (by intro z;show absurd (show b∈([]:List Addr) from z) (by simp)) (by simp)
    |some u=>
     rcases hO b with z|⟨ob,xs,z⟩
     .rw[q]at z;cases z
     .let z2:=un.frzs b ob _ z;let#[e1,_]:=h4 b _ z;let#[e2,_]:=h3 b _ z2;rw[e]at e1;cases e1;show e2
 cases hk:K.lookup a with
 |some o=>
  --the script is one of the module's own objects
  let e:=KX a o hk;rw[ha]at e;cases e;show L (λ_=>none) (λ_=>.inl rfl) (.inr #[_,vs.toArray,_,hk,rfl,rfl,rfl,by rw[qr,Y];show hl,rv]) (λb u z=>by let z':(none:Option HO)=some u:=z;cases z') (λb z=>absurd rfl z) λz=>absurd rfl z
 |none=>
  show L (λb=>if b=a then some (.frz {cls:=.type "list",data:=.seq vs.toArray} (.lst `Y))else none) (λb=>?_) (.inl (.inr #[{cls:=.type "list",data:=.seq vs.toArray},q4 rfl])) (λb u z=>?_) (λb z=>?_) λ_=>hk
  .grind
  .by_cases O:b=a
   .let z':=(q4 O).symm.trans z;cases z';subst O;show#[ha,by rw[qo];show hl,vs,_,rv,ha]
   grind
  grind
theorem walk_of{l:W.OpenLaw}{K:Params->W.Frag}{CX:World->dy}{sp:World->Sp}
  (hn:l.most=some n)(h1:n<=sizeLine)(h3:d.params.defaults=[])(hr:cB k callerA)
  (hY:∀(w:World)(h:Heap),YP w h->(K w.params).In h)
  (F:∀(w:World)(mg:Str->Option Value)(M:Addr)(h:Heap),(K w.params).In h->h.Ns mainGlobals mg->mg d.name=some (.ref M)->
   ∃fd:FuncData,(∀(s:Shared)(u:Value),BindsTo s fd #[[u],[]] [(x,u)])/\
    ∀base:Heap,(K w.params).In base->base.Ns mainGlobals mg->fX l.prog w (K w.params) mg base (CX w) k M fd [x] (sp w))
  (O:∀(w:World)(H:Hp)(a:Addr)(ns:List Int),ns.length<=n->yU H->bQ (K w.params) H a `Y->sp w [.ref a] H (λv _=>v=.bl true) λ_ _ _=>False)
  (h4:∀(w:World)(H:Hp)(s:Shared)(e:Value)(s':Shared),CX w [] H s (λ_ _ _=>False) e s'->False):
  W.WalkO q loose XP YP l.row.toRowW d [] (λf vs=>PySem.call f vs):=by
 show Att.attach_call hn h3 λw h5 J mg mb M o pm cd h7 a vs ns G Y ho hd h6 h2 L B z hg=>?_;let KX:=hY w _ Y;let#[fd,hb,hF]:=F w mg M _ KX G.T.g h2;show Tf KX G.T.g G.T.b G.T.builtins G.T.nolimit hg L B (le_trans z h1) hr hF hb (λH hO hS=>O w H a ns z hO hS) λH e s'=>h4 w H J e s'
def dZ(s:Stmt):Arguments:=match s with
 |.FunctionDef _ a _ _ _ _ _ _ _ _=>a
 |_=>{posonlyargs:=[],args:=[],vararg:=none,kwonlyargs:=[],kw_defaults:=[],kwarg:=none,defaults:=[]}
def cL(s:Stmt):List Stmt:=match s with
 |.FunctionDef _ _ b _ _ _ _ _ _ _=>b
 |_=>[]
def aA(s:Stmt):Scope:=match s with
 |.FunctionDef _ _ _ _ _ _ sc _ _ _=>sc
 |_=>{kind:=.function,names:=[],isGenerator:=false,isCoroutine:=false}
structure yW(K:W.Frag)(x qual:Str)(st:Stmt)(f:Addr)(fd:FuncData):Prop where
 ex:∃(oc:Value)(od:Option Addr)(kV doc pm:Value)(an:Option Addr)(cdv ct:Value)(osl:Array (Option Value)),
  fd=W.fnOf x qual (dZ st) (cL st) `dk .none kV doc pm an cdv ct/\K.lookup f=some #[oc,od,.func fd,osl]/\W.codeIn K cdv qual=true
 kp:W.keepIn K `cn=true
section
variable{K:W.Frag}
def yW.binds{st:Stmt}(F:yW K x qual st f fd)
  (h:∀(kV v G:Value)(J:Option Addr)(z ct:Value)(B:List Value),B.length=ps.length->bindArgs (W.fnOf x qual (dZ st) (cL st) `dk .none kV v G J z ct) #[B,[]]=pure (ps.zip B)):Binds K fd ps []:=by
 let#[Y,O,kV,v,G,J,z,ct,L,rfl,lk,M]:=F.ex;show .all (h kV v G J z ct)
def PK{st:Stmt}{kV z B v ct:Value}(l:K.lookup f=some #[L,J,.func (W.fnOf x qual (dZ st) (cL st) `dk .none kV z B G v ct),F])
  (c:W.codeIn K v qual=true)(k:W.keepIn K `cn=true):yW K x qual st f (W.fnOf x qual (dZ st) (cL st) `dk .none kV z B G v ct):=#[#[L,J,kV,z,B,G,v,ct,F,rfl,l,c],k]
end
def EJ(v:cB k A):A.units+1<cLine:=lt_of_le_of_lt (Nat.add_le_add_left (by decide:1<=64) _) v.units
def zp(H H':Hp):Prop:=∀b o,H b=some o->H' b=some o
def zp.refl(H:Hp):zp H H:=λ_ _ h=>h
def zp.trans(a:zp H H1)(b:zp H1 H2):zp H H2:=λc o h=>b c o (a c o h)
def zF.there(x:zF P w H h a o):∃u,h.get? a=some u:=by
 cases o with
 |lst xs=>let#[_,_,_,_,e]:=x;show#[_,e]
 |tup xs=>let#[_,_,_,u,e,_]:=x;show#[_,e]
 |dK v=>let#[_,_,_,_,o,_,_,e,_]:=x;show#[_,e]
 |dT v=>let#[_,_,_,_,o,_,_,e,_]:=x;show#[_,e]
 |set z=>
  rcases x with⟨_,⟨_,e⟩|⟨_,_,_,_,_,_,_,e,_⟩|⟨_,_,_,_,_,_,_,_,e,_⟩⟩
  .show#[_,e]
  .show#[_,e]
  .show#[_,e]
 |ins C dx fs=>let#[_,_,_,e,_]:=x;show#[_,e]
 |own y=>show x
 |xd fs=>let#[_,#[_,_,_,e,_],_]:=x;show#[_,e]
 |rng lo hi=>let#[_,_,_,e]:=x;show#[_,e]
 |frz B u=>show#[_,x.1]
 |tbl ps=>show#[_,(show h.get? a=some _ from x)]
 |met f y=>show#[_,(show h.get? a=some _ from x)]
 |ext φ=>show x.2.1
def zS(X:Cx)(zG:List (Addr×Obj))(H:Hp)(h:Heap)(e:Addr)(cls:Value)(dx:Option Addr):Prop:=False
def eN.few(f:eN X zG H b):eN X [] H b:=#[f.1,f.2.1,f.2.2.1,f.2.2.2.1,f.2.2.2.2.1,λp v=>f.2.2.2.2.2 p (qj _ ↑v)]
def zS.few(F:zS X zG H h e cls dx):zS X [] H h e cls dx:=(show False from F).elim
def Inv.few(I:Inv X zG Z H s):Inv X [] Z H s:=I.pins_of λp v=>I.pin p (qj _ ↑v)
def jQ(P:Program)(w:World):dy:=λ_ _ _ _ _ _=>False
section
variable{K:W.Frag}
def TQ(I:Inv `dn [] Z H' s')(F:zS `dn [] H' s'.heap e cls dx)(q:E cls dx H'):
  (fU (jQ P w) P w K mg base N qual scope f v A outer s H E).xe (.ref e) s':=(show False from F).elim
end
@[inline]def XW(X:Cx)(Z:St):XK:=λcls dx H'=>∀(a:Addr)(s':Shared),Inv X [] Z H' s'->zS X [] H' s'.heap a cls dx->X.xe (.ref a) s'
def vO(X:Cx)(sp:Sp)(t:TA):TE:=λZ H Q=>t Z H λv H1=>sp v H1 Q (XW X Z)
def TY(F:fX X.prog X.w X.K X.mg X.base (jQ X.prog X.w) k f fd ps sp)(Y:cB k X.A)(hg:Gl X x)(hm:X.mg x=some `cn)(hk:W.keepIn X.K `cn=true)(hb:Binds X.K fd ps [])
  (ha:PA X (e::es) t)(J:autoParam ((x==("__debug__":Str))=false) dZ9)(he:autoParam (starEach (e::es) X.env=(false,eval e X.env)::starEach es X.env) rZ9)(G:autoParam ((backTo pos `h).any (·.1)=false) rZ9):
  PE X (.Call `dj (e::es) [] pos) (vO X sp t):=by
 intro zG s Z H Q I h;show wpAny_Call_Name_kw (Sa I hg hm ?_ J);show W.callWith_K (h₀:=X.base) I.ok.mod.kin hk (An `cy λz L M=>?_) he G;let#[O,H1,B,r,q]:=M;show#[B.kIn,?_];let hl:(z++[]).length=ps.length:=by rw[qA,<-r.length];show F.len _ _ _ _ q
 show wpAny_call (codeAny_mono (F.run X.A X.stack L H1 #[z,[]] z O Q (XW X Z) Y B.env0 (by let:=hb L z B.kIn hl;rwa[qA]at this) r q) λr s' v=>?_);cases r with
 |error e=>show(show False from v).elim
 |ok fl=>
  cases fl with
  |ret u=>show B.after v
  |next=>show False.elim v
  |brk=>show False.elim v
  |cont=>show False.elim v
section
variable{K:W.Frag}
def yW.okX{st:Stmt}(F:yW K x qual st f fd)(S:aF N ps `dk)(len:∀vs H Q E,sp vs H Q E->vs.length=ps.length)
  (B:∀(z:Value)(A:Around)(v:List Env)(s:Shared)(H:Hp)(vs:List V)(Q:VK)(E:XK),cB k (A.deeper (envOfC qual `dk s.heap.objs.size f z))->sp vs H Q E->
   ∃t,jS (fU (jQ P w) P w K mg base N qual `dk f z A v s H E) (cL st) t/\t {nx:=λ_ H'=>Q .non H',rt:=Q} (start N vs) H):fX P w K mg base (jQ P w) (k+1) f fd ps sp:=by
 let#[oc,od,kV,O,Y,an,z,ct,L,rfl,lk,J]:=F.ex;show Pi lk J S len λA v s H vs Q E M G=>B z A v s H vs Q E M G
end
end L2
namespace FL
open PySem
inductive D where
 |non
 |bl(b:Bool)
 |int(i:Int)
 |str(l:List Nat)
 |tup(l:List D)
 |lst(l:List D)
 |dct(t:Bool)(ks vs:List D)
 |set(l:List D)
 |exc(c:List Nat)(fs:List (List Nat))(vs:List D)
 deriving Inhabited
inductive S where
 |sh(d:D)
 |lst(l:List S)
 |dct(t:Bool)(ks:List D)(vs:List S)
 |set(l:List D)
 deriving Inhabited
mutual
@[inline]def S.toD:S->D
 |.sh d=>d
 |.lst l=>.lst (S.toDs l)
 |.dct t ks vs=>.dct t ks (S.toDs vs)
 |.set l=>.set l
@[inline]def S.toDs:List S->List D
 |[]=>[]
 |s::r=>S.toD s::S.toDs r
end
@[simp] theorem S.toDs_map:∀l:List S,S.toDs l=l.map S.toD
  |[]=>rfl
  |s::r=>by rw[S.toDs,S.toDs_map r,qz]
@[simp] theorem S.toD_sh(d:D):(S.sh d).toD=d:=rfl
@[simp] theorem S.toD_lst(l:List S):(S.lst l).toD=.lst (l.map S.toD):=by rw[<-S.toDs_map];rfl
@[simp] theorem S.toD_dct(t:Bool)(ks:List D)(l:List S):(S.dct t ks l).toD=.dct t ks (l.map S.toD):=by rw[<-S.toDs_map];rfl
@[simp] theorem S.toD_set(l:List D):(S.set l).toD=.set l:=rfl
@[inline]def S.isSh:S->Bool
 |.sh _=>true
 |_=>false
@[inline]def S.flat:S->Bool
 |.sh _=>true
 |.lst l=>l.all S.isSh
 |.dct _ _ vs=>vs.all S.isSh
 |.set _=>false
inductive R where
 |v(s:S)
 |loc(i:Nat)
abbrev Env:=List (Option S)
abbrev WQ:=R->Env->Prop
abbrev WX:=D->Env->Prop
@[inline]def NX:WX:=λ_ _=>False
abbrev WE:=Env->WQ->WX->Prop
abbrev WT:=Env->(Bool->Env->Prop)->WX->Prop
abbrev WA:=Env->(List R->Env->Prop)->WX->Prop
structure Ends where
 nx:Env->Prop
 rt:WQ
 bk:Env->Prop
 ct:Env->Prop
 ex:WX
abbrev WS:=Ends->Env->Prop
def slot(U:Env)(i:Nat):Option S:=match U,i with
 |[],_=>none
 |s::_,0=>s
 |_::r,i+1=>slot r i
@[simp] theorem XE(s:Option S)(r:Env):slot (s::r) 0=s:=rfl
@[simp] theorem XF(s:Option S)(r:Env)(i:Nat):slot (s::r) (i+1)=slot r i:=rfl
def view(r:R)(U:Env):Option D:=match r with
 |.v s=>some s.toD
 |.loc i=>(slot U i).map S.toD
def zC(r:R)(U:Env):Option D:=match r with
 |.v s=>some s.toD
 |.loc i=>match slot U i with
  |some s=>if s.flat then some s.toD else none
  |none=>none
def give(r:R)(U:Env):Option (S×Env):=match r with
 |.v s=>some (s,U)
 |.loc i=>match slot U i with
  |some s=>some (.sh s.toD,U.set i `F)
  |none=>none
def aM:List R->Env->Option (List S×Env)
 |[],U=>some ([],U)
 |r::rs,U=>match give r U with
  |some (s,U1)=>match aM rs U1 with
   |some (ss,U2)=>some (s::ss,U2)
   |none=>none
  |none=>none
def ixN(n:Nat)(i:Int):Option Nat:=if 0<=i then(if i<n then some i.toNat else none)else if -(n:Int)<=i then some (i+n).toNat else none
def atI{α:Type}(xs:List α)(i:Int):Option α:=(ixN xs.length i).bind λj=>xs[j]?
def sIx(n d:Nat):Option Int->Nat
 |none=>d
 |some i=>if i<0 then(i+n).toNat else min i.toNat n
def bB{α:Type}(xs:List α)(lo hi:Option Int):List α:=(xs.drop (sIx xs.length 0 lo)).take (sIx xs.length xs.length hi-sIx xs.length 0 lo)
def big:Nat:=1000000
def zo{α:Type}(o:Option α)(k:α->Prop):Prop:=match o with
 |some a=>k a
 |none=>False
@[simp] theorem IM{α:Type}(a:α)(k:α->Prop):zo (some a) k=k a:=rfl
@[simp] theorem XG{α:Type}(k:α->Prop):zo (none:Option α) k=False:=rfl
@[simp] theorem XD{α:Type}{c:Prop}[Decidable c](a:α)(k:α->Prop):zo (if c then some a else none) k=(c/\k a):=by by_cases h:c<;>simp[h]
def zk(i:Nat):WE:=λU Q _=>match slot U i with
 |some (.sh d)=>Q (.v `l) U
 |some _=>Q (.loc i) U
 |none=>False
def wC(d:D):WE:=λU Q _=>Q (.v `l) U
def zx(B:D->D->Option S)(a b:WE):WE:=λU Q E=>a U (λx z=>b z (λy v=>zo (zC x v) λp=>zo (zC y v) λq=>zo (B p q) λs=>Q `L v) E) E
def mK(z:D->Option S)(a:WE):WE:=λU Q E=>a U (λx v=>zo (zC x v) λp=>zo (z p) λs=>Q `L v) E
def aV:D->D->Option S
 |.int i,.int j=>some (.sh (.int (i+j)))
 |.str x,.str y=>if x.length+y.length<=big then some (.sh (.str (x++y)))else none
 |.lst x,.lst y=>if x.length+y.length<=big then some (.lst ((x++y).map .sh))else none
 |.tup x,.tup y=>if x.length+y.length<=big then some (.sh (.tup (x++y)))else none
 |_,_=>none
def dQ:D->D->Option S
 |.int i,.int j=>some (.sh (.int (i-j)))
 |_,_=>none
def lX(i j:Int):Bool:=(decide (-(2^64)<i)&&decide (i<2^64))||(decide (-(2^64)<j)&&decide (j<2^64))
def oC:D->D->Option S
 |.int i,.int j=>if lX i j then some (.sh (.int (i*j)))else none
 |_,_=>none
def hV:D->D->Option S
 |.int i,.int j=>if 0<j/\j<18446744073709551616 then some (.sh (.int (i/j)))else none
 |_,_=>none
def eY:D->D->Option S
 |.int i,.int j=>if 0<j then some (.sh (.int (i %j)))else none
 |_,_=>none
def oB:D->D->Option S
 |.int i,.int j=>if 0<=j/\j<=1000/\i.natAbs<2^64 then some (.sh (.int (i^j.toNat)))else none
 |_,_=>none
def eX:D->Option S
 |.int i=>some (.sh (.int (-i)))
 |_=>none
mutual
def aS:D->D->Bool
 |.tup l,.tup m=>bO l m
 |.lst l,.lst m=>bO l m
 |.int _,.int _=>false
 |.int _,.str _=>false
 |.int _,.non=>false
 |.str _,.int _=>false
 |.str _,.str _=>false
 |.str _,.non=>false
 |.str _,.bl _=>false
 |.bl _,.bl _=>false
 |.bl _,.str _=>false
 |.bl _,.non=>false
 |.non,.int _=>false
 |.non,.str _=>false
 |.non,.bl _=>false
 |.non,.non=>false
 |_,_=>true
def bO:List D->List D->Bool
 |a::l,b::m=>aS a b||bO l m
 |_,_=>false
end
mutual
def eP:D->Nat
 |.tup l=>bM l+1
 |.lst l=>bM l+1
 |_=>0
def bM:List D->Nat
 |[]=>0
 |a::l=>max (eP a) (bM l)
end
open Classical in
def eL(a b:D):Option Bool:=if aS a b||decide (30<eP a)then none else some (decide (a=b))
def eQ(a b:D):Option Bool:=(eL a b).map (!·)
def fz:D->D->Option Bool
 |.int i,.int j=>some (decide (i<j))
 |.str x,.str y=>some (decide (x<y))
 |_,_=>none
def cx(a b:D):Option Bool:=fz a b
def mY(a b:D):Option Bool:=fz b a
def gm:D->D->Option Bool
 |.int i,.int j=>some (decide (i<=j))
 |.str x,.str y=>some (!decide (y<x))
 |_,_=>none
def zN:D->D->Option Bool
 |.int i,.int j=>some (decide (j<=i))
 |.str x,.str y=>some (!decide (x<y))
 |_,_=>none
def bR:D->Bool
 |.int _=>true
 |.str _=>true
 |_=>false
def aW:Bool->D->Bool
 |true,.tup l=>l.all bR
 |false,d=>bR d
 |_,_=>false
open Classical in
def kM(a:D):D->Option Bool
 |.lst l=>if l.any (λx=>aS x a||decide (30<eP x))then none else some (decide (a∈l))
 |.tup l=>if l.any (λx=>aS x a||decide (30<eP x))then none else some (decide (a∈l))
 |.dct t ks _=>if aW t a then some (decide (a∈ks))else none
 |_=>none
def jD:D->Option Bool
 |.non=>some false
 |.bl b=>some b
 |.int i=>some (decide (i≠0))
 |.str l=>some (!l.isEmpty)
 |.tup l=>some (!l.isEmpty)
 |.lst l=>some (!l.isEmpty)
 |_=>none
def aP(B:D->D->Option Bool)(a b:WE):WT:=λU Q E=>a U (λx z=>b z (λy v=>zo (view x v) λp=>zo (view y v) λq=>zo (B p q) λc=>Q c v) E) E
def jB(a:WE):WT:=λU Q E=>a U (λx v=>zo (view x v) λp=>zo (jD p) λc=>Q c v) E
def fL(a b:WT):WT:=λU Q E=>a U (λc v=>if c then b v Q E else Q false v) E
def uL(a b:WT):WT:=λU Q E=>a U (λc v=>if c then Q true v else b v Q E) E
def kS(a:WT):WT:=λU Q E=>a U (λc v=>Q (!c) v) E
def iP(t:WT):WE:=λU Q E=>t U (λc v=>Q (.v (.sh (.bl c))) v) E
def zm:WA:=λU Q _=>Q [] U
def zl(a:WE)(b:WA):WA:=λU Q E=>a U (λr z=>b z (λB v=>Q (r::B) v) E) E
def cI(a:WA):WE:=λU Q E=>a U (λz v=>zo (if z.length<=big then aM z v else none) λp=>Q (.v (.sh (.tup (p.1.map S.toD)))) p.2) E
def cC(a:WA):WE:=λU Q E=>a U (λz v=>zo (if z.length<=big then aM z v else none) λp=>Q (.v (.lst p.1)) p.2) E
def nO(t:Bool):WE:=λU Q _=>Q (.v (.dct t [] [])) U
open Classical in
def lk{α:Type}:List D->List α->D->Option α
 |k'::ks,v::vs,k=>if k'=k then some v else lk ks vs k
 |_,_,_=>none
def kL:S->D->Option S
 |.sh (.tup l),.int i=>(atI l i).map .sh
 |.sh (.lst l),.int i=>(atI l i).map .sh
 |.sh (.str l),.int i=>(atI l i).map λc=>.sh (.str [c])
 |.lst l,.int i=>atI l i
 |_,_=>none
def cA(a b:WE):WE:=λU Q E=>a U (λx z=>b z (λy v=>zo (view y v) λq=>match x with
 |.v s=>zo (kL s q) λt=>Q (.v t) v
 |.loc i=>match slot v i with
  |some s=>match kL s q with
   |some (.sh d)=>Q (.v `l) v
   |_=>False
  |none=>False) E) E
def fM(a:Option WE):Env->(Option Int->Env->Prop)->WX->Prop:=match a with
 |none=>λU Q _=>Q none U
 |some a=>λU Q E=>a U (λx v=>match view x v with
  |some (.int i)=>Q (some i) v
  |_=>False) E
def kE(d:D)(lo hi:Option Int):Option S:=match d with
 |.str l=>some (.sh (.str (bB l lo hi)))
 |.tup l=>some (.sh (.tup (bB l lo hi)))
 |.lst l=>some (.lst ((bB l lo hi).map .sh))
 |_=>none
def gX(a:WE)(lo hi:Option WE):WE:=λU Q E=>a U (λx B=>fM lo B (λl z=>fM hi z (λh v=>zo (zC x v) λd=>zo (kE d l h) λs=>Q `L v) E) E) E
abbrev WF:=List S->(S->List S->Prop)->(D->List S->Prop)->Prop
def cP:List Bool->List R->Env->Option (List S×Env)
 |_,[],U=>some ([],U)
 |ms,.v s::rs,U=>match cP ms.tail rs U with
  |some (ss,U1)=>some (s::ss,U1)
  |none=>none
 |ms,.loc i::rs,U=>match slot U i with
  |some s=>if ms.headD false then(match cP ms.tail rs (U.set i none)with
   |some (ss,U1)=>some (s::ss,U1)
   |none=>none)
   else(match cP ms.tail rs (U.set i (some (.sh s.toD)))with
    |some (ss,U1)=>some (.sh s.toD::ss,U1)
    |none=>none)
  |none=>none
def back:List Bool->List R->List S->Env->Env
 |ms,.v _::rs,_::ss,U=>back ms.tail rs ss U
 |ms,.loc i::rs,s::ss,U=>if ms.headD false then back ms.tail rs ss (U.set i `bg)else back ms.tail rs ss U
 |_,_,_,U=>U
def zz(f:WF)(ms:List Bool)(a:WA):WE:=λU Q E=>a U (λB v=>zo (cP ms B v) λp=>f p.1 (λs z=>Q `L (back ms B z p.2)) (λx z=>E x (back ms B z p.2))) E
def wB(f:List D->Option S)(a:WA):WE:=λU Q E=>a U (λz v=>zo (z.mapM λr=>zC r v) λB=>zo (f B) λs=>Q `L v) E
def bL(j:Nat)(e:WE):WE:=λU Q E=>match slot U j with
 |some (.lst _)=>e U (λr v=>zo `ce λp=>match slot p.2 j with
  |some (.lst l)=>l.length<big/\Q `v (p.2.set j (some (.lst (l++[p.1]))))
  |_=>False) E
 |_=>False
def aU:List D->Option S
 |[.str l]=>some `aj
 |[.tup l]=>some `aj
 |[.lst l]=>some `aj
 |_=>none
def jL:List D->Option S
 |[.int i]=>some (.sh `O)
 |[.bl b]=>some (.sh (.int (if b then 1 else 0)))
 |_=>none
def cJ:List D->Option S
 |[.tup l]=>some (.sh `ba)
 |[.lst l]=>some (.sh `ba)
 |_=>none
def cy:List D->Option S
 |[.tup l]=>some `ae
 |[.lst l]=>some `ae
 |_=>none
def bC:WS:=λD U=>D.nx U
def zy(a b:WS):WS:=λD U=>a {D with nx:=b D} U
def fI(c:WT)(a b:WS):WS:=λD U=>c U (λk v=>if k then a D v else b D v) D.ex
def bT(a:WE):WS:=λD U=>a U D.rt D.ex
def wExpr(a:WE):WS:=λD U=>a U (λ_ v=>D.nx v) D.ex
abbrev WG:=S->Env->(Env->Prop)->Prop
def zn(i:Nat):WG:=λs U Q=>Q (U.set i `bg)
def eF:List WG->List D->Env->(Env->Prop)->Prop
 |[],[],U,Q=>Q U
 |g::gs,d::ds,U,Q=>g `l U λv=>eF gs ds v Q
 |_,_,_,_=>False
def eK(v:List WG):WG:=λs U Q=>match s.toD with
 |.tup ds=>ds.length=v.length/\eF v ds U Q
 |_=>False
def gE(j:Nat)(i e:WE):WS:=λD U=>e U (λr B=>zk j B (λx z=>i z (λy v=>zo (view y v) λq=>zo `ce λp=>match x,q,slot p.2 j with
 |.loc k,.int n,some (.lst l)=>k=j/\zo (ixN l.length n) λm=>D.nx (p.2.set j (some (.lst (l.set m p.1))))
 |_,_,_=>False) D.ex) D.ex) D.ex
def zA(g:WG)(a:WE):WS:=λD U=>a U (λr v=>zo `ce λp=>g p.1 p.2 D.nx) D.ex
abbrev WI:=Env->(List D->Env->Prop)->WX->Prop
def items:D->Option (List D)
 |.lst l=>some l
 |.tup l=>some l
 |.str l=>some (l.map λc=>.str [c])
 |_=>none
def bD(a:WE):WI:=λU Q E=>a U (λr v=>zo `ce λp=>zo (items p.1.toD) λl=>Q l p.2) E
def fromTo(lo:Int)(n:Nat):List D:=(List.range n).map λ(k:Nat)=>.int (lo+(k:Int))
def aR(a:WE):WI:=λU Q E=>a U (λr v=>match view r v with
 |some (.int j)=>(-big<=j/\j<=big)/\Q (fromTo 0 j.toNat) v
 |_=>False) E
def fY(a b:WE):WI:=λU Q E=>a U (λr z=>b z (λt v=>match view r v,view t v with
 |some (.int i),some (.int j)=>(-big<=i/\i<=big/\-big<=j/\j<=big)/\Q (fromTo i (j-i).toNat) v
 |_,_=>False) E) E
def cK(g:WG)(v:WS):List D->WS
 |[],D,U=>D.nx U
 |x::xs,D,U=>g (.sh x) U λz=>v {D with nx:=cK g v xs D,ct:=cK g v xs D,bk:=D.nx} z
def dF(it:WI)(g:WG)(v:WS):WS:=λD U=>it U (λl z=>cK g v l D z) D.ex
def dN(c:WT)(B:WS):WS:=λD U=>∃J:Nat->Env->Prop,(∃m,J m U)/\∀m U,J m U->c U (λk z=>if k then
 B {D with nx:=λv=>∃m',m'<m/\J m' v,ct:=λv=>∃m',m'<m/\J m' v,bk:=D.nx} z else D.nx z) D.ex
abbrev WB:=Env->(Env->Prop)->WX->Prop
def cO:WT:=λU Q _=>Q true U
def aN(g:WG)(c:WT)(b:WB):List D->WB
 |[],U,Q,_=>Q U
 |x::xs,U,Q,E=>g (.sh x) U λB=>c B (λk v=>if k then b v (λz=>aN g c b xs z Q E) E else aN g c b xs v Q E) E
def mP(it:WI)(g:WG)(c:WT)(b:WB):WB:=λU Q E=>it U (λl v=>aN g c b l v Q E) E
def bH(n:Nat)(a:WE):WB:=λU Q E=>a U (λr v=>zo `ce λp=>match slot p.2 n with
 |some (.lst l)=>l.length<big/\Q (p.2.set n (some (.lst (l++[p.1]))))
 |_=>False) E
def gF(n k:Nat)(it:WI)(g:WG)(c:WT)(b:WB):WE:=λU Q E=>it U (λl z=>aN g c b l (z++some (.lst [])::List.replicate k none) (λv=>zo (slot v n) λs=>Q `L (v.take n)) NX) E
def aC:List S->Env->Option (List S)
 |[],_=>some []
 |.sh d::ss,_::U=>(aC ss U).map (.sh d::·)
 |_::ss,some s::U=>(aC ss U).map (s::·)
 |_,_=>none
def fQ(n m:Nat)(ks:List Nat)(z:WS):WF:=λv P PX=>v.length=n/\(∀i s,v[i]?=some s->i∈ks\/s.isSh=true)/\
 z {nx:=λU=>zo (aC v U) λfs=>P (.sh .non) fs
    rt:=λr U=>match r with
     |.v s=>zo (aC v U) λfs=>P s fs
     |.loc i=>zo `cs λs=>if i<n then zo (aC v (U.set i `F)) λfs=>P (.sh s.toD) fs else zo (aC v U) λfs=>P s fs
    bk:=λ_=>False
    ct:=λ_=>False
    ex:=λx U=>zo (aC v U) λfs=>PX x fs} (v.map some++List.replicate (m-n) none)
end FL
namespace FL
open PySem L2
def aI:aO->D
 |.inl i=>.int i
 |.inr x=>.str x.cps.toList
def mq(a C:Addr)(dx:Option Addr)(h:Heap):Prop:=∃o vs,h.get? a=some o/\o.cls=.ref C/\o.dict=dx/\o.data=.fields vs
def fB:HO->Bool
 |.tup _=>false
 |_=>true
def oZ(F:Hp)(dx:Option Addr)(fs:List `bs)(vs:List D):Prop:=(dx=none/\fs=[]/\vs=[])\/∃p f i,dx=some p/\fs=[f]/\vs=[.int i]/\F p=some (.xd [((#[f.toArray]:Str),.int i)])
mutual
inductive aQ(K:W.Frag)(F:Hp):V->D->Prop
 |non:aQ K F .non .non
 |bl (b:Bool):aQ K F (.bl b) (.bl b)
 |int (i:Int):aQ K F (.int i) (.int i)
 |str {x:Str} {l:List Nat}:x.cps.toList=l->l.length<=16777216->aQ K F (.str x) (.str l)
 |tup {a:Addr} {xs:List V} {ds:List D}:F a=some (.tup xs)->zE K F xs ds->aQ K F (.ref a) (.tup ds)
 |lst {a:Addr} {xs:List V} {ds:List D}:bQ K F a xs->zE K F xs ds->aQ K F (.ref a) (.lst ds)
 |dK {a:Addr} {zH:List (aO×V)} {ks vs:List D}:Rd F a (.dK zH)->ks=zH.map (λp=>aI p.1)->zE K F (zH.map (·.2)) vs->aQ K F `p (.dct false ks vs)
 |dT {a:Addr} {zH:List (List aO×V)} {ks vs:List D}:Rd F a (.dT zH)->ks=zH.map (λp=>D.tup (p.1.map aI))->zE K F (zH.map (·.2)) vs->aQ K F `p (.dct true ks vs)
 |st {a:Addr} {xs:List V} {ds:List D}:F a=some (.set xs)->zE K F xs ds->aQ K F (.ref a) (.set ds)
 |exc {a C:Addr} {dx:Option Addr} {c:List Nat} {fs:List (List Nat)} {vs:List D}:F a=some (.ext (mq a C dx))->W.nsIn K mainGlobals (⟨c.toArray⟩:Str)=some (some (.ref C))->oZ F dx fs vs->aQ K F (.ref a) (.exc c fs vs)
inductive zE(K:W.Frag)(F:Hp):List V->List D->Prop
 |nil:zE K F [] []
 |cons {x:V} {d:D} {xs:List V} {ds:List D}:aQ K F x d->zE K F xs ds->zE K F (x::xs) (d::ds)
end
mutual
inductive aK(K:W.Frag)(F H:Hp):V->S->List Addr->Prop
 |sh {v:V} {d:D}:aQ K F v d->aK K F H v (.sh d) []
 |lst {a:Addr} {xs:List V} {l:List S} {fp:List Addr}:H a=some (.lst xs)->zu K F H xs l fp->aK K F H (.ref a) (.lst l) (a::fp)
 |dK {a:Addr} {zH:List (aO×V)} {ks:List D} {l:List S} {fp:List Addr}:H a=some (.dK zH)->ks=zH.map (λp=>aI p.1)->zu K F H (zH.map (·.2)) l fp->aK K F H `p (.dct false ks l) (a::fp)
 |dT {a:Addr} {zH:List (List aO×V)} {ks:List D} {l:List S} {fp:List Addr}:H a=some (.dT zH)->ks=zH.map (λp=>D.tup (p.1.map aI))->zu K F H (zH.map (·.2)) l fp->aK K F H `p (.dct true ks l) (a::fp)
 |st {a:Addr} {xs:List V} {ds:List D}:H a=some (.set xs)->zE K F xs ds->aK K F H (.ref a) (.set ds) [a]
inductive zu(K:W.Frag)(F H:Hp):List V->List S->List Addr->Prop
 |nil:zu K F H [] [] []
 |cons {x:V} {s:S} {xs:List V} {l:List S} {fp fq:List Addr}:aK K F H x s fp->zu K F H xs l fq->zu K F H (x::xs) (s::l) (fp++fq)
end
def Rd.mono(h:zp F F')(r:Rd F a u):Rd F' a u:=by
 rcases r with r|⟨o,r⟩
 .show .inl (h _ _ r)
 .show .inr #[o,h _ _ r]
def bQ.mono(h:zp F F')(r:bQ K F a xs):bQ K F' a xs:=r.elim (λr=>.inl (Rd.mono h r)) .inr
def bV.mono(h:zp F F')(r:bV K F a xs):bV K F' a xs:=r.elim (λr=>.inl (Rd.mono h r)) .inr
def zE.ind{P:List V->List D->Prop}(hn:P [] [])(B:∀{x:V}{d:D}{xs:List V}{v:List D},aQ K F x d->zE K F xs v->P xs v->P (x::xs) (d::v))(r:zE K F xs v):P xs v:=
 zE.rec (motive_1:=λ_ _ _=>True) (motive_2:=λxs v _=>P xs v) trivial (λ_=>trivial) (λ_=>trivial) (λ_ _=>trivial) (λ_ _ _=>trivial) (λ_ _ _=>trivial) (λ_ _ _ _=>trivial) (λ_ _ _ _=>trivial) (λ_ _ _=>trivial) (λ_ _ _=>trivial) hn (λa b _ z=>B a b z) r
def zu.ind{P:List V->List S->List Addr->Prop}(hn:P [] [] [])(z:∀{x:V}{s:S}{xs:List V}{l:List S}{fp fq:List Addr},aK K F H x s fp->zu K F H xs l fq->P xs l fq->P (x::xs) (s::l) (fp++fq))(r:zu K F H xs l fp):P xs l fp:=
 zu.rec (motive_1:=λ_ _ _ _=>True) (motive_2:=λxs l fp _=>P xs l fp) (λ_=>trivial) (λ_ _ _=>trivial) (λ_ _ _ _=>trivial) (λ_ _ _ _=>trivial) (λ_ _=>trivial) hn (λa b _ v=>z a b v) r
def oZ.mono(h:zp F F')(x:oZ F dx fs vs):oZ F' dx fs vs:=x.imp id λ⟨p,f,i,G,B,z,v⟩=>#[p,f,i,G,B,z,h _ _ v]
def aQ.mono(h:zp F F')(r:aQ K F v d):aQ K F' v d:=
 aQ.rec (motive_1:=λv d _=>aQ K F' v d) (motive_2:=λv d _=>zE K F' v d) .non .bl .int (λe z=>.str e z) (λe _ B=>.tup (h _ _ e) B) (λe _ B=>.lst (bQ.mono h e) B) (λe k _ B=>.dK (Rd.mono h e) k B) (λe k _ B=>.dT (Rd.mono h e) k B) (λe _ B=>.st (h _ _ e) B) (λe k x=>.exc (h _ _ e) k (x.mono h)) .nil (λ_ _ a b=>.cons a b) r
def zE.mono(h:zp F F')(r:zE K F v d):zE K F' v d:=zE.ind .nil (λa _ z=>.cons (aQ.mono h a) z) r
def aK.mono(h:zp F F')(r:aK K F H v s fp):(∀a∈fp,H' a=H a)->aK K F' H' v s fp:=
 aK.rec (motive_1:=λv s fp _=>(∀a∈fp,H' a=H a)->aK K F' H' v s fp) (motive_2:=λv s fp _=>(∀a∈fp,H' a=H a)->zu K F' H' v s fp)
  (λr _=>.sh (aQ.mono h r)) (λe _ z k=>.lst ((k _ qm).trans e) (z λa B=>k a (qk _ B)))
  (λe q _ z k=>.dK ((k _ qm).trans e) q (z λa B=>k a (qk _ B))) (λe q _ z k=>.dT ((k _ qm).trans e) q (z λa B=>k a (qk _ B)))
  (λe r k=>.st ((k _ qm).trans e) (zE.mono h r)) (λ_=>.nil) (λ_ _ a b k=>.cons (a λc G=>k c (qj _ G)) (b λc G=>k c (qi _ G))) r
def zu.mono(h:zp F F')(r:zu K F H v s fp):(∀a∈fp,H' a=H a)->zu K F' H' v s fp:=
 zu.ind (P:=λv s fp=>(∀a∈fp,H' a=H a)->zu K F' H' v s fp) (λ_=>.nil) (λa _ b k=>.cons (aK.mono h a λc z=>k c (qj _ z)) (b λc z=>k c (qi _ z))) r
def aK.frz(h:zp F F')(r:aK K F H v s fp):(∀a∈fp,F' a=H a)->aQ K F' v s.toD:=
 aK.rec (motive_1:=λv s fp _=>(∀a∈fp,F' a=H a)->aQ K F' v s.toD) (motive_2:=λv s fp _=>(∀a∈fp,F' a=H a)->zE K F' v (S.toDs s))
  (λr _=>aQ.mono h r) (λe _ z k=>.lst (bQ.of ((k _ qm).trans e)) (z λa B=>k a (qk _ B)))
  (λe q _ z k=>.dK (.of ((k _ qm).trans e)) q (z λa B=>k a (qk _ B))) (λe q _ z k=>.dT (.of ((k _ qm).trans e)) q (z λa B=>k a (qk _ B)))
  (λe r k=>.st ((k _ qm).trans e) (zE.mono h r)) (λ_=>.nil) (λ_ _ a b k=>.cons (a λc G=>k c (qj _ G)) (b λc G=>k c (qi _ G))) r
def zu.frz(h:zp F F')(r:zu K F H v s fp):(∀a∈fp,F' a=H a)->zE K F' v (S.toDs s):=
 zu.ind (P:=λv s fp=>(∀a∈fp,F' a=H a)->zE K F' v (S.toDs s)) (λ_=>.nil) (λa _ b k=>.cons (aK.frz h a λc z=>k c (qj _ z)) (b λc z=>k c (qi _ z))) r
def aK.view(h:zp F H)(r:aK K F H v s fp):aQ K H v s.toD:=aK.frz h r λ_ _=>rfl
def aK.in_:∀{v:V}{s:S}{fp:List Addr},aK K F H v s fp->∀a∈fp,∃o,H a=some o/\fB o=true:=by
 intro v s fp r;show aK.rec (motive_1:=λv s fp _=>∀a∈fp,∃o,H a=some o/\fB o=true) (motive_2:=λv s fp _=>∀a∈fp,∃o,H a=some o/\fB o=true) ?_ ?_ ?_ ?_ ?_ ?_ ?_ r
 .intro v d r a z;cases z
 .grind[fB]
 .grind[fB]
 .grind[fB]
 .grind[fB]
 .intro a z;cases z
 grind
inductive zt(K:W.Frag)(F H:Hp):Env->St->List Addr->Prop
 |nil:zt K F H [] [] []
 |no {U:Env} {Z:St} {o:Option V} {fp:List Addr}:zt K F H U Z fp->zt K F H (none::U) (o::Z) fp
 |so {U:Env} {Z:St} {v:V} {s:S} {fp fq:List Addr}:aK K F H v s fp->zt K F H U Z fq->zt K F H (some s::U) (some v::Z) (fp++fq)
def zt.len(r:zt K F H U Z fp):U.length=Z.length:=by
 induction r with
 |nil=>rfl
 |no _ v=>show congrArg (·+1) v
 |so _ _ v=>show congrArg (·+1) v
def zt.mono(h:zp F F')(r:zt K F H U Z fp)(k:∀a∈fp,H' a=H a):zt K F' H' U Z fp:=by
 induction r with
 |nil=>show .nil
 |no _ v=>show .no (v k)
 |so a _ v=>show .so (aK.mono h a λc z=>k c (qj _ z)) (v λc z=>k c (qi _ z))
def zt.in_(r:zt K F H U Z fp):∀a∈fp,∃o,H a=some o/\fB o=true:=by
 induction r with
 |nil=>show λa B=>nomatch B
 |no _ v=>show v
 |so q _ v=>show λa B=>(qy.mp B).elim (λz=>aK.in_ q a z) λz=>v a z
def zt.app(r:zt K F H U Z fp)(z:zt K F H U' Z' fq):zt K F H (U++U') (Z++Z') (fp++fq):=by
 induction r with
 |nil=>show z
 |no _ v=>show .no v
 |so a _ v=>rw[qp];show .so a v
inductive dw(K:W.Frag)(F H:Hp)(U:Env)(Z:St)(U':Env)(Z':St)(fp:List Addr):Prop
 |mk (f1 f2:List Addr):fp=f1++f2->zt K F H U Z f1->zt K F H U' Z' f2->dw K F H U Z U' Z' fp
def zt.cut(e:U.length=Z.length)(r:zt K F H (U++U') (Z++Z') fp):dw K F H U Z U' Z' fp:=by
 induction U generalizing Z fp with
 |nil=>cases Z with
  |nil=>show#[[],fp,rfl,.nil,r]
  |cons _ _=>show absurd e.symm (Nat.succ_ne_zero _)
 |cons x U z=>cases Z with
  |nil=>show absurd e (Nat.succ_ne_zero _)
  |cons y Z=>cases r with
   |no r=>let#[B,v,rfl,a,b]:=z (Nat.succ.inj e) r;show#[B,v,rfl,.no a,b]
   |so q r=>let#[B,v,rfl,a,b]:=z (Nat.succ.inj e) r;show#[_,v,(qp ..).symm,.so q a,b]
def rf(K:W.Frag)(F H:Hp)(U:Env)(Z:St)(i:Nat)(z v:List Addr):Prop:=∀{F' H':Hp}{o:Option S}{u:Option V}{fi':List Addr},zp F F'->(∀a∈z++v,H' a=H a)->(zt K F' H' [o] [u] fi')->zt K F' H' (U.set i o) (Z.set i u) (z++(fi'++v))
inductive rg(K:W.Frag)(F H:Hp)(U:Env)(Z:St)(fp:List Addr)(i:Nat)(s:S):Prop
 |mk (v:V) (fa fi fb:List Addr):Z[i]?=some (some v)->fp=fa++(fi++fb)->aK K F H v s fi->rf K F H U Z i fa fb->rg K F H U Z fp i s
inductive dv(K:W.Frag)(F H:Hp)(U:Env)(Z:St)(fp:List Addr)(i:Nat):Prop
 |mk (fa fi fb:List Addr):fp=fa++(fi++fb)->rf K F H U Z i fa fb->dv K F H U Z fp i
def zt.at:∀{U:Env}{Z:St}{fp:List Addr}{i:Nat}{s:S},zt K F H U Z fp->slot U i=some s->rg K F H U Z fp i s
 |_,_,_,_,_,.nil,e=>by simp[slot]at e
 |_,_,_,0,_,.no r,e=>by simp at e
 |_,_,_,0,s,.so (fp:=fp) (fq:=fq) q r,e=>by simp at e;subst e;show#[_,[],fp,fq,rfl,rfl,q,λ{F' H' o u J} h k x=>?_];let r':=zt.mono (H':=H') h r λa B=>k a B;show x.app r'
 |_,_,_,i+1,s,.no r,e=>by let#[v,O,L,M,Y,rfl,q,G]:=zt.at r e;show#[v,O,L,M,Y,rfl,q,λh k x=>.no (G h k x)]
 |_,_,_,i+1,s,.so (fp:=fp) (fq:=fq) p r,e=>by let#[v,O,L,M,Y,rfl,q,G]:=zt.at r e;show#[v,fp++O,L,M,Y,(qp ..).symm,q,λ{F' H' o u J} h k x=>?_];rw[qp];show .so (aK.mono h p λa B=>k a (qj _ (qj _ B))) (G h (λa B=>k a ((qy.mp B).elim (λz=>qj _ (qi _ z)) λz=>qi _ z)) x)
def zt.put:∀{U:Env}{Z:St}{fp:List Addr}{i:Nat},zt K F H U Z fp->i<U.length->dv K F H U Z fp i
 |_,_,_,_,.nil,e=>by simp at e
 |_,_,fp,0,.no r,e=>#[[],[],fp,rfl,λ{O H' o u B} h k x=>x.app (zt.mono (H':=H') h r λa v=>k a v)]
 |_,_,_,0,.so (fp:=fp) (fq:=fq) q r,e=>#[[],fp,fq,rfl,λ{O H' o u B} h k x=>x.app (zt.mono (H':=H') h r λa v=>k a v)]
 |_,_,_,i+1,.no r,e=>by let#[M,J,L,rfl,G]:=zt.put (i:=i) r ↑e;show#[M,J,L,rfl,λh k x=>.no (G h k x)]
 |_,_,_,i+1,.so (fp:=fp) (fq:=fq) p r,e=>by let#[M,J,L,rfl,G]:=zt.put (i:=i) r ↑e;show#[fp++M,J,L,(qp ..).symm,λ{O H' o u B} h k x=>?_];rw[qp];show .so (aK.mono h p λa v=>k a (qj _ (qj _ v))) (G h (λa v=>k a ((qy.mp v).elim (λz=>qj _ (qi _ z)) λz=>qi _ z)) x)
inductive pB(K:W.Frag)(U:Env)(Z:St)(F G H:Hp):Prop
 |mk (fp:List Addr):zt K F H U Z fp->fp.Nodup->(∀a∈fp,F a=none/\G a=none)->pB K U Z F G H
structure Rel(K:W.Frag)(U:Env)(Z:St)(F G H:Hp):Prop where
 fr:zp F H
 gr:∀a o,G a=some o->(H a=some o/\fB o=true)/\F a=none
 en:pB K U Z F G H
def Rel.len(r:Rel K U Z F G H):U.length=Z.length:=let⟨_,e,_,_⟩:=r.en;e.len
def Rel.free(r:Rel K U Z F G H)(h:H p=none):F p=none/\G p=none/\∀fp,zt K F H U Z fp->p∉fp:=by
 show#[?_,?_,λfp e v=>?_]
 .cases q:F p with
  |none=>rfl
  |some o=>rw[r.fr p o q]at h;cases h
 .cases q:G p with
  |none=>rfl
  |some o=>rw[(r.gr p o q).1.1]at h;cases h
 .obtain⟨o,q,_⟩:=e.in_ p v;rw[h]at q;cases q
def zp.upd(h:F p=none):zp F (upd F p o):=λb u e=>by rw[Ar (λz=>by rw[z,h]at e;cases e)];show e
def zp.upd2(h:zp F H):zp (L2.upd F p o) (L2.upd H p o):=λb u e=>by
 by_cases q:b=p
 .subst q;rw[Bh]at e⊢;show e
 .rw[Ar q]at e⊢;show h b u e
def zp.updR(h:zp F H)(n:F p=none):zp F (L2.upd H p o):=λb u e=>by rw[Ar (λz=>by rw[z,n]at e;cases e)];show h b u e
def Rel.newF(r:Rel K U Z F G H)(h:H p=none):Rel K U Z (upd F p o) G (upd H p o):=by
 let#[Y,O,M]:=r.free h;let#[fp,e,L,ap]:=r.en;let B:∀a∈fp,a≠p:=λa v z=>M fp e (z▸v);show#[zp.upd2 r.fr,λa u q=>?_,fp,e.mono (zp.upd Y) λa v=>Ar (B a v),L,λa v=>?_]
 .let J:a≠p:=λz=>by rw[z,O]at q;cases q
  rw[Ar J,Ar J];show r.gr a u q
 .rw[Ar (B a v)];show ap a v
def Rel.newO(r:Rel K U Z F G H)(h:H p=none)(q:aK K F (upd H p o) `w s [p]):Rel K (U++[some s]) (Z++[some `w]) F G (upd H p o):=by
 let#[O,M,J]:=r.free h;let#[fp,e,Y,ap]:=r.en;let B:∀a∈fp,a≠p:=λa v z=>J fp e (z▸v);show#[zp.updR r.fr O,λa u q=>?_,fp++([p]++[]),(e.mono `c λa v=>Ar (B a v)).app (.so q .nil),?_,λa v=>?_]
 .let L:a≠p:=λz=>by rw[z,M]at q;cases q
  rw[Ar L];show r.gr a u q
 .grind
 grind
def Rel.drop(r:Rel K (U++U') (Z++Z') F G H)(h:U.length=Z.length):Rel K U Z F G H:=by let#[L,e,v,J]:=r.en;let#[B,M,rfl,a,b]:=e.cut h;show#[r.fr,r.gr,B,a,(qx.mp v).1,λc z=>J c (qj _ z)]
def Rel.hide(r:Rel K (U++U') (Z++Z') F G H)(h:U.length=Z.length):∃O,Rel K U Z F O H/\zp G O/\
  ∀{U2:Env}{Z2:St}{L H2:Hp},zp F L->Rel K U2 Z2 L O H2->Rel K (U2++U') (Z2++Z') L G H2:=by
 classical
 let#[fp,e,nd,ap]:=r.en;let#[f1,J,rfl,a,b]:=e.cut h;let#[n1,n2,h2]:=qx.mp nd;show#[λx=>if x∈J then H x else G x,#[r.fr,λx o q=>?_,f1,a,n1,λx v=>?_],λx o q=>?_,λ{U2 Z2 L H2} Y M=>?_]
 .by_cases z:x∈J
  .let:=b.in_ x z;grind
  .simp only[z]at q;show r.gr x o q
 .grind
 .grind
 .obtain⟨B,e2,h1,h3⟩:=M.en;let hk:∀x∈J,H2 x=H x/\L x=none/\x∉B:=λx v=>by let#[o,q,_]:=b.in_ x v;let w:=M.gr x o (by simp only[v];show q);grind
  show#[M.fr,λx o q=>?_,B++J,e2.app (b.mono Y λx v=>(hk x v).1),?_,λx v=>?_]
  .let z:x∉J:=λz=>by grind
   show M.gr x o (by simp only[z];show q)
  .grind
  grind
def Rel.weakG(r:Rel K U Z F G' H)(h:zp G G'):Rel K U Z F G H:=by
 let#[J,e,B,z]:=r.en;show#[r.fr,λa o q=>r.gr a o (h a o q),J,e,B,λa v=>#[(z a v).1,?_]];cases q:G a with
 |none=>rfl
 |some o=>have:=(z a v).2;rw[h a o q]at this;cases this
def Rel.swap(h:U.length=Z.length)(h1:U1.length=Z1.length)(r:Rel K (U++(U1++U2)) (Z++(Z1++Z2)) F G H):Rel K (U++(U2++U1)) (Z++(Z2++Z1)) F G H:=by let#[fp,e,J,Y]:=r.en;let#[B,M,rfl,a,b]:=e.cut h;let#[z,v,rfl,O,c]:=b.cut h1;let p:(B++(v++z)).Perm (B++(z++v)):=List.Perm.append_left _ qN;show#[r.fr,r.gr,_,a.app (c.app O),p.nodup_iff.mpr J,λx L=>Y x (p.mem_iff.mp L)]
def Rel.push(r:Rel K U Z F G H)(h:aQ K F v d):Rel K (U++[some `l]) (Z++[some v]) F G H:=by
 let#[J,e,z,L]:=r.en;show#[r.fr,r.gr,J++([]++[]),e.app (.so (.sh h) .nil),?_,λx B=>L x ?_]
 .simpa using z
 .simpa using B
def Rel.pushN(r:Rel K U Z F G H):Rel K (U++[none]) (Z++[u]) F G H:=by
 let#[B,e,v,J]:=r.en;show#[r.fr,r.gr,B++[],e.app (.no .nil),?_,λx z=>J x ?_]
 .simpa using v
 .simpa using z
def KC(h:slot U i=some s):U[i]?=some `bg:=by
 induction U generalizing i with
 |nil=>simp[slot]at h
 |cons a r v=>cases i with
  |zero=>simp at h;simp[h]
  |succ i=>simp at h;simpa using v h
def GI(h:slot U i=some s):i<U.length:=(qg.mp (KC h)).1
def Hx(h:i<U.length):slot (U++U') i=slot U i:=by
 induction U generalizing i with
 |nil=>simp at h
 |cons a r v=>cases i with
  |zero=>rfl
  |succ i=>simpa using v ↑h
def EM:slot (U++o::U') U.length=o:=by
 induction U with
 |nil=>rfl
 |cons a r v=>simpa using v
inductive ph(K:W.Frag)(F H:Hp)(Z:St)(i:Nat)(s:S):Prop
 |mk (v:V) (fp:List Addr):Z[i]?=some (some v)->aK K F H v s fp->ph K F H Z i s
def Rel.at(r:Rel K U Z F G H)(h:slot U i=some s):ph K F H Z i s:=by let#[L,e,J,Y]:=r.en;let#[v,O,z,M,B,_,q,_]:=e.at h;show#[v,z,B,q]
def Rel.give(r:Rel K U Z F G H)(h:slot U i=some s):∃v F',Z[i]?=some `I/\zp F F'/\aQ K F' v s.toD/\Rel K (U.set i `F) Z F' G H:=by
 classical
 let#[fp,e,nd,ap]:=r.en;let#[v,fa,B,fb,e1,rfl,q,O]:=e.at h;let#[na,Y,h1]:=qx.mp nd;let J:zp F (λx=>if x∈B then H x else F x):=λx o w=>by grind
 let L:aQ K (λx=>if x∈B then H x else F x) v s.toD:=q.frz J λx M=>by simp[M,if_true]
 let e2:Z.set i `I=Z:=by apply ext_getElem?;grind
 show#[v,_,e1,J,L,λx o w=>?_,λx o w=>?_,fa++([]++fb),?_,?_,λx M=>?_]
 .by_cases z:x∈B
  .simp only[z]at w;show w
  .simp only[z]at w;show r.fr x o w
 .let w2:=r.gr x o w;grind
 .let:=O (F':=λx=>if x∈B then H x else F x) (H':=H) (o:=some (.sh s.toD)) (u:=some v) (fi':=[]) J (λ_ _=>rfl) (.so (.sh L) .nil);rw[e2]at this;show this
 .grind
 grind
def Rel.store(r:Rel K (U++[o]) (Z++[u]) F G H)(h:U.length=Z.length)(hi:i<U.length):Rel K (U.set i o) (Z.set i u) F G H:=by
 let#[fp,e,B,ap]:=r.en;let#[f1,f2,rfl,a,b]:=e.cut h;let#[Y,fi,O,rfl,v]:=a.put hi;let#[M,n2,L]:=qx.mp B;let#[na,z,J]:=qx.mp M;show#[r.fr,r.gr,Y++(f2++O),v `c (λ_ _=>rfl) b,?_,λx hx=>?_]
 .grind
 grind
end FL
namespace FL
open PySem PySem.Spec PyProof.Rows L2
abbrev St:=L2.St
abbrev wp(X:Cx)(pn:List (Addr×Obj))(xe:zj):Cx:={X with pn:=pn,xe:=xe}
def zr:R->Option S
 |.v s=>some s
 |.loc _=>none
@[inline]def RV(Z:St)(v:V):R->Prop
 |.v _=>True
 |.loc i=>Z[i]?=some `I
def pI(Z:St):List V->List R->Prop
 |[],[]=>True
 |v::vs,r::rs=>RV Z v r/\pI Z vs rs
 |_,_=>False
def cw(K:W.Frag)(F:Hp)(d:D)(C:Addr)(dx:Option Addr):Prop:=∃c fs vs,d=.exc c fs vs/\W.nsIn K mainGlobals (#[c.toArray]:Str)=some (some (.ref C))/\oZ F dx fs vs
def mw(X:Cx)(F H:Hp)(h:Heap)(u:Value)(d:D):Prop:=∃e C dx,u=.ref e/\cw X.K F d C dx/\zS X [] H h e (.ref C) dx
@[inline]def KP(ks:List Nat)(Z Z':St):Prop:=∀i∈ks,Z'[i]?=Z[i]?
@[inline]def XC(X:Cx)(T:St->Prop)(F G:Hp)(PX:WX):Prop:=∀(d:D)(U':Env)(Z':St)(F' H':Hp)(u:Value)(s':Shared),PX d U'->T Z'->zp F F'->Rel X.K U' Z' F' G H'->Inv X [] Z' H' s'->mw X F' H' s'.heap u d->X.xe u s'
def XC.mono(h:XC X T F G PX)(t:∀Z,T' Z->T Z)(f:zp F F')(g:zp G G'):XC X T' F' G' PX:=
 λd z v J H2 u s' p q B r I x=>h d z v J H2 u s' p (t _ q) (f.trans B) (r.weakG g) I x
def XC.grow(h:XC X T F G PX)(f:zp F F'):XC X T F' G PX:=h.mono (λ_ z=>z) f `an
inductive tW(X:Cx)(w:WE)(Z:St)(H:Hp)(Q:VK):Prop
 |mk (F G:Hp) (U:Env) (P:WQ) (PX:WX) (zI:Rel X.K U Z F G H) (hw:w U P PX) (hok:∀r U' v F' H',P r U'->zp F F'->Rel X.K (U'++[zr r]) (Z++[some v]) F' G H'->RV Z v r->Q v H') (hx:XC X (·=Z) F G PX):tW X w Z H Q
@[inline]def FE(X:Cx)(e:Expr)(w:WE):Prop:=∀(pn:List (Addr×Obj))(xe:zj),PassesOwn (model X.prog X.w) X.A X.env xe->PE (wp X pn xe) e (tW (wp X pn xe) w)
inductive iR(X:Cx)(w:WT)(Z:St)(H:Hp)(Q:Bool->Hp->Prop):Prop
 |mk (F G:Hp) (U:Env) (P:Bool->Env->Prop) (PX:WX) (zI:Rel X.K U Z F G H) (hw:w U P PX) (hok:∀b U' F' H',P b U'->zp F F'->Rel X.K U' Z F' G H'->Q b H') (hx:XC X (·=Z) F G PX):iR X w Z H Q
@[inline]def FT(X:Cx)(e:Expr)(w:WT):Prop:=∀(pn:List (Addr×Obj))(xe:zj),PassesOwn (model X.prog X.w) X.A X.env xe->PT (wp X pn xe) e (iR (wp X pn xe) w)
@[inline]def FW(X:Cx)(e:Expr)(w:WT):Prop:=∀(pn:List (Addr×Obj))(xe:zj),PassesOwn (model X.prog X.w) X.A X.env xe->PW (wp X pn xe) e (iR (wp X pn xe) w)
inductive vL(X:Cx)(w:WA)(Z:St)(H:Hp)(Q:List V->Hp->Prop):Prop
 |mk (F G:Hp) (U:Env) (P:List R->Env->Prop) (PX:WX) (zI:Rel X.K U Z F G H) (hw:w U P PX) (hok:∀rs U' vs F' H',P rs U'->zp F F'->Rel X.K (U'++rs.map zr) (Z++vs.map some) F' G H'->U'.length=Z.length->pI Z vs rs->Q vs H') (hx:XC X (·=Z) F G PX):vL X w Z H Q
@[inline]def FA(X:Cx)(es:List Expr)(w:WA):Prop:=∀(pn:List (Addr×Obj))(xe:zj),PassesOwn (model X.prog X.w) X.A X.env xe->PA (wp X pn xe) es (vL (wp X pn xe) w)
def PE.imp(h:PE X e t)(k:∀Z H Q,t' Z H Q->t Z H Q):PE X e t':=λzG s Z H Q I q=>h zG s Z H Q I (k Z H Q q)
def PT.imp(h:PT X e t)(k:∀Z H Q,t' Z H Q->t Z H Q):PT X e t':=λzG s Z H Q I q=>h zG s Z H Q I (k Z H Q q)
def PW.imp(h:PW X e t)(k:∀Z H Q,t' Z H Q->t Z H Q):PW X e t':=λv zG s Z H Q I q=>h v zG s Z H Q I (k Z H Q q)
def PA.imp(h:PA X e t)(k:∀Z H Q,t' Z H Q->t Z H Q):PA X e t':=λp zG s Z H Q I q=>h p zG s Z H Q I (k Z H Q q)
section
variable{K:W.Frag}
def Rel.mid(r:Rel K (U++o::U') (Z++w::Z') F G H)(h:U.length=Z.length):Rel K (U++U') (Z++Z') F G H:=by let#[fp,e,z,ap]:=r.en;let#[f1,f2,rfl,a,b]:=e.cut h;let#[f2,Y,rfl,b,c]:=zt.cut (U:=[o]) (Z:=[w]) rfl b;let#[M,L,J]:=qx.mp z;let#[n4,B,n6]:=qx.mp L;show#[r.fr,r.gr,f1++Y,a.app c,qx.mpr #[M,B,λx v y O=>J x v y (qi _ O)],λx v=>ap x ?_];grind
def Ae(r:Rel K (U++[o]) (Z++[w]) F G H):U.length=Z.length:=by let:=r.len;simpa using this
def Kl:(U++o::U').set U.length o'=U++o'::U':=by
 induction U with
 |nil=>rfl
 |cons a r v=>simpa using v
inductive Nd{α:Type}(o:Option α)(k:α->Prop):Prop
 |mk (a:α):o=some a->k a->Nd o k
def Ao(h:zo o k):Nd o k:=by
 cases o with
 |none=>show h.elim
 |some a=>show#[a,rfl,h]
def bK(K:W.Frag)(F H:Hp)(v:V)(d:D):Prop:=aQ K F v d\/
 (∃a xs z,v=.ref a/\d=.lst z/\H a=some `N/\zE K F xs z)\/
 (∃a zH ks vs,v=.ref a/\d=.dct false ks vs/\H a=some `co/\ks=zH.map (λp=>aI p.1)/\zE K F (zH.map (·.2)) vs)\/
 (∃a zH ks vs,v=.ref a/\d=.dct true ks vs/\H a=some (.dT zH)/\ks=zH.map (λp=>D.tup (p.1.map aI))/\zE K F (zH.map (·.2)) vs)
def bK.mono(h:zp F F')(r:bK K F H v d):bK K F' H v d:=by
 rcases r with r|⟨a,xs,O,J,G,B,r⟩|⟨a,z,ks,L,J,G,B,M,r⟩|⟨a,z,ks,L,J,G,B,M,r⟩
 .show .inl (r.mono h)
 .show .inr (.inl #[a,xs,O,J,G,B,r.mono h])
 .show .inr (.inr (.inl #[a,z,ks,L,J,G,B,M,r.mono h]))
 .show .inr (.inr (.inr #[a,z,ks,L,J,G,B,M,r.mono h]))
def zu.sh(r:zu K F H xs l fp):l.all S.isSh=true->zE K F xs (l.map S.toD)/\fp=[]:=
 zu.ind (P:=λxs l fp=>l.all S.isSh=true->zE K F xs (l.map S.toD)/\fp=[]) (λ_=>#[.nil,rfl]) (λa _ v h=>by
  rw[all_cons,and_eq_true]at h;let#[q,e]:=v h.2;cases a with
  |sh r=>show#[.cons r q,e]
  |_=>show absurd h.1 (by simp[S.isSh])) r
theorem look(r:Rel K (U++(zr x::U')) (Z++(some v::Z')) F G H)(h:U.length=Z.length)(O:RV Z v x)(e:view x U=some d):aQ K H v d:=by
 cases x with
 |v s=>
  let#[u,Y,z,q]:=r.at (i:=U.length) (s:=s) EM;rw[h,getElem?_append_right `j]at z;let M:v=u:=↑z
  subst M;let L:s.toD=d:=qf e;rw[<-L];show q.view r.fr
 |loc i=>
  let B:(slot U i).map S.toD=some d:=e;cases q:slot U i with
  |none=>rw[q]at B;cases B
  |some s=>
   rw[q]at B;let L:s.toD=d:=qf B;let hi:=GI q;let#[u,Y,z,w]:=r.at (i:=i) (s:=s) (by rw[Hx hi];show q);rw[getElem?_append_left (h▸hi)]at z;let J:Z[i]?=some `I:=O;rw[J]at z;let M:v=u:=↑z
   subst M;rw[<-L];show w.view r.fr
inductive pe(K:W.Frag)(U:Env)(Z:St)(F G H:Hp)(v:V)(d:D):Prop
 |mk (F':Hp):zp F F'->bK K F' H v d->Rel K U Z F' G H->pe K U Z F G H v d
def Bf(r:Rel K (U++(zr x::U')) (Z++(some v::Z')) F G H)(h:U.length=Z.length)(rv:RV Z v x)(e:zC x U=some d):
  pe K (U++U') (Z++Z') F G H v d:=by
 cases x with
 |v s=>
  let#[u,F',z,sm,rp,r']:=r.give (i:=U.length) (s:=s) EM;rw[h,getElem?_append_right `j]at z;let e2:v=u:=↑z
  subst e2;let e3:s.toD=d:=qf e;rw[show(U++zr `L::U').set U.length (some (S.sh s.toD))=U++some (S.sh s.toD)::U' from Kl]at r';show#[F',sm,.inl (e3▸rp),r'.mid h]
 |loc i=>
  let e':(match slot U i with|some s=>if s.flat then some s.toD else none|none=>none)=some d:=e;cases q:slot U i with
  |none=>rw[q]at e';cases e'
  |some s=>
   let hi:=GI q;let#[u,fp,z,w]:=r.at (i:=i) (s:=s) (by rw[Hx hi];show q);rw[getElem?_append_left (h▸hi)]at z;let O:Z[i]?=some `I:=rv;rw[O]at z;let e2:v=u:=↑z
   subst e2;show#[F,zp.refl F,?_,r.mid h];by_cases M:s.flat=true
   .let e3:s.toD=d:=by grind
    subst e3;cases w with
    |sh r=>show .inl r
    |lst L J=>let#[B,_]:=J.sh M;show .inr (.inl #[_,_,_,rfl,by simp,L,B])
    |dK L Y J=>let#[B,_]:=J.sh M;show .inr (.inr (.inl #[_,_,_,_,rfl,by simp,L,Y,B]))
    |dT L Y J=>let#[B,_]:=J.sh M;show .inr (.inr (.inr #[_,_,_,_,rfl,by simp,L,Y,B]))
    |st _ _=>show absurd M (by simp[S.flat])
   grind
inductive pj(K:W.Frag)(L:Prop)(U:Env)(Z:St)(F G H:Hp):Prop
 |mk (F':Hp):zp F F'->L->Rel K U Z F' G H->pj K L U Z F G H
def AA(r:Rel K (U++(zr x::U')) (Z++(some v::Z')) F G H)(h:U.length=Z.length)(rv:RV Z v x)(e:give x U=some (s,U1)):
  pj K (U1.length=U.length) (U1++(some s::U')) (Z++(some v::Z')) F G H:=by
 cases x with
 |v t=>have z:some (t,U)=some (s,U1):=e;cases z;show#[F,zp.refl F,rfl,r]
 |loc i=>
  let z:(match slot U i with|some s=>some (S.sh s.toD,U.set i `F)|none=>none)=some (s,U1):=e;cases q:slot U i with
  |none=>rw[q]at z;cases z
  |some t=>
   rw[q]at z;cases z;let hi:=GI q;let#[u,O,L,Y,rp,B]:=r.give (i:=i) (s:=t) (by rw[Hx hi];show q);rw[getElem?_append_left (h▸hi)]at L;let J:Z[i]?=some `I:=rv;rw[J]at L;let e2:v=u:=↑L
   subst e2;rw[List.set_append_left _ _ hi]at B;show#[O,Y,by simp,?_];let#[fp,en,nd,ap]:=B.en;let hl:(U.set i (some (S.sh t.toD))).length=Z.length:=↑h
   let#[f1,M,rfl,a,b]:=en.cut hl;let b':zt K O H (none::U') (some v::Z') M:=b;cases b' with
   |no b=>show#[B.fr,B.gr,f1++([]++M),a.app (.so (.sh rp) b),↑nd,λx hx=>ap x hx]
end
def tW.mono(h:tW X w Z H Q)(k:∀v H',Q v H'->Q' v H'):tW X w Z H Q':=by let#[F,G,U,P,PX,B,M,J,L]:=h;show#[F,G,U,P,PX,B,M,λr z v O H' a b c d=>k _ _ (J r z v O H' a b c d),L]
inductive uG(X:Cx)(Z:St)(k:R->R->Env->WQ->WX->Prop)(Q:VK)(v u:V)(H:Hp):Prop
 |mk (F G:Hp) (U:Env) (x y:R) (P:WQ) (PX:WX) (zI:Rel X.K (U++[zr x,zr y]) (Z++[some v,some u]) F G H) (hl:U.length=Z.length) (rx:RV Z v x) (ry:RV Z u y) (hk:k x y U P PX) (hok:∀r U' v F' H',P r U'->zp F F'->Rel X.K (U'++[zr r]) (Z++[some v]) F' G H'->RV Z v r->Q v H') (hx:XC X (·=Z) F G PX):uG X Z k Q v u H
def Fv(h:tW X (λU Q E=>wa U (λx U1=>wb U1 (λy U2=>k x y U2 Q E) E) E) Z H Q):
  tW X wa Z H λv H1=>tW X wb Z H1 λu H2=>uG X Z k Q v u H2:=by
 let#[F,G,U,P,PX,h3,hw,h6,hx]:=h;show#[F,G,U,_,PX,h3,hw,λx U1 v F1 H1 h5 M r1 Y=>?_,hx];let h1:=Ae r1;let#[G1,B,gg,back]:=r1.hide h1;show#[F1,G1,U1,_,PX,B,h5,λy U2 u F2 H2 h4 L r2 O=>?_,hx.mono (λ_ z=>z) M gg];let h2:=Ae r2;let r3:=back L r2;rw[qp,qp]at r3;show#[F2,G,U2,x,y,P,PX,Rel.swap (U1:=[zr y]) (Z1:=[some u]) (U2:=[zr x]) (Z2:=[some v]) h2 rfl r3,h2,Y,O,h4,λr J v F' H' a b c d=>h6 r J v F' H' a (M.trans (L.trans b)) c d,hx.grow (M.trans L)]
inductive One(X:Cx)(Z:St)(k:R->Env->WQ->WX->Prop)(Q:VK)(v:V)(H:Hp):Prop
 |mk (F G:Hp) (U:Env) (x:R) (P:WQ) (PX:WX) (zI:Rel X.K (U++[zr x]) (Z++[some v]) F G H) (hl:U.length=Z.length) (rx:RV Z v x) (hk:k x U P PX) (hok:∀r U' v F' H',P r U'->zp F F'->Rel X.K (U'++[zr r]) (Z++[some v]) F' G H'->RV Z v r->Q v H') (hx:XC X (·=Z) F G PX):One X Z k Q v H
theorem one(h:tW X (λU Q E=>wa U (λx U1=>k x U1 Q E) E) Z H Q):tW X wa Z H λv H1=>One X Z k Q v H1:=by let#[F,G,U,P,PX,J,hw,M,hx]:=h;show#[F,G,U,_,PX,J,hw,λx U1 v F1 H1 L O Y B=>#[F1,G,U1,x,P,PX,Y,Ae Y,B,L,λr z v F' H' a b c d=>M r z v F' H' a (O.trans b) c d,hx.grow O],hx]
def QO(hN:X.N[i]?=some x)(Y:da X.env.scope x)(hd:autoParam ((x==("__debug__":Str))=false) dZ9)(M:autoParam ((x==("__classdict__":Str))=false) dZ9):FE X (.Name x pos) (zk i):=by
 intro pn xe hp;show PE.imp (Qi (X:=wp X pn xe) hN Y hd M) λZ H Q h=>?_;let#[F,G,U,P,PX,z,J,B,hx]:=h;unfold zk at J;cases q:slot U i with
 |none=>rw[q]at J;show J.elim
 |some s=>
  let#[v,fp,L,O]:=z.at q;rw[q]at J;cases s with
  |sh d=>
   cases O with
   |sh r=>show#[v,L,B _ _ v F H J `c (z.push r) trivial]
  |lst l=>show#[v,L,B _ _ v F H J `c z.pushN L]
  |dct t a b=>show#[v,L,B _ _ v F H J `c z.pushN L]
  |set l=>show#[v,L,B _ _ v F H J `c z.pushN L]
def Gu(h:∀X:Cx,PE X e (tC v))(r:∀K F,aQ K F v d):FE X e (wC d):=by intro pn xe M;show PE.imp (h _) λZ H Q h=>?_;let#[F,G,U,P,PX,z,J,B,L]:=h;show B _ _ v F H J `c (z.push (r _ _)) trivial
def Ag:FE X (.Constant `O j pos) (wC `O):=Gu (λ_=>PM) λ_ _=>.int i
def FJ:FE X (.Constant (.bool b) j pos) (wC (.bl b)):=Gu (λ_=>Pl) λ_ _=>.bl b
def DM(e:x.cps.toList=l)(z:l.length<=16777216):FE X (.Constant (.str x) j pos) (wC (.str l)):=Gu (λ_=>Rb) λ_ _=>.str e z
def OpR.or(h:OpR X f r)(h':OpR X f G):OpR X f (λx y H Q=>r x y H Q\/G x y H Q):=λzG s Z H x y v u Q I F B q=>q.elim (λz=>h zG s Z H x y v u Q I F B z) λz=>h' zG s Z H x y v u Q I F B z
def jA(K:W.Frag)(r:R2)(z:D->D->Option S):Prop:=∀(Z:St)(U:Env)(F G H:Hp)(x y:V)(p q:D)(s:S)(Q:VK),Rel K U Z F G H->bK K F H x p->bK K F H y q->z p q=some s->
 (∀v F' H',zp F F'->Rel K (U++[some s]) (Z++[some v]) F' G H'->Q v H')->r x y H Q
def GB(ho:∀pn xe,OpR `q (binaryOp op) r)(hd:jA X.K r o)(ha:FE X a wa)(hb:FE X b wb):FE X (.BinOp a op b pos) (zx o wa wb):=by intro pn xe hp;show PE.imp (Pu (ho pn xe) `ar `db) λZ H Q h=>?_;show(Fv (k:=λx y B Q E=>zo (zC x B) λp=>zo (zC y B) λq=>zo (o p q) λs=>Q `L B) h).mono λv H1 h1=>h1.mono λu H2 h2=>?_;let#[F,G,U,x,y,P,PX,M,hl,rx,ry,J,h3,hx]:=h2;let#[p,ep,J]:=Ao J;let#[q,eq,J]:=Ao J;let#[t,et,J]:=Ao J;let#[F1,s1,Y,L]:=Bf M hl rx ep;let#[F2,s2,O,z]:=Bf (U':=[]) (Z':=[]) L hl ry eq;rw[qA,qA]at z;show hd Z U F2 G H2 v u p q t Q z (Y.mono s2) O et λv' F' H' sm r'=>h3 (.v t) U v' F' H' J (s1.trans (s2.trans sm)) r' trivial
def vL.mono(h:vL X w Z H Q)(k:∀v H',Q v H'->Q' v H'):vL X w Z H Q':=by let#[F,G,U,P,PX,B,M,J,L]:=h;show#[F,G,U,P,PX,B,M,λr z v O H' a b c d e=>k _ _ (J r z v O H' a b c d e),L]
inductive de(X:Cx)(Z:St)(k:R->R->Env->(Bool->Env->Prop)->WX->Prop)(Q:Bool->Hp->Prop)(v u:V)(H:Hp):Prop
 |mk (F G:Hp) (U:Env) (x y:R) (P:Bool->Env->Prop) (PX:WX) (zI:Rel X.K (U++[zr x,zr y]) (Z++[some v,some u]) F G H) (hl:U.length=Z.length) (rx:RV Z v x) (ry:RV Z u y) (hk:k x y U P PX) (hok:∀r U' F' H',P r U'->zp F F'->Rel X.K U' Z F' G H'->Q r H') (hx:XC X (·=Z) F G PX):de X Z k Q v u H
def KH(h:iR X (λU Q E=>wa U (λx U1=>wb U1 (λy U2=>k x y U2 Q E) E) E) Z H Q):
  tW X wa Z H λv H1=>tW X wb Z H1 λu H2=>de X Z k Q v u H2:=by
 let#[F,G,U,P,PX,h3,hw,h6,hx]:=h;show#[F,G,U,_,PX,h3,hw,λx U1 v F1 H1 h5 M r1 Y=>?_,hx];let h1:=Ae r1;let#[G1,B,gg,back]:=r1.hide h1;show#[F1,G1,U1,_,PX,B,h5,λy U2 u F2 H2 h4 L r2 O=>?_,hx.mono (λ_ z=>z) M gg];let h2:=Ae r2;let r3:=back L r2;rw[qp,qp]at r3;show#[F2,G,U2,x,y,P,PX,Rel.swap (U1:=[zr y]) (Z1:=[some u]) (U2:=[zr x]) (Z2:=[some v]) h2 rfl r3,h2,Y,O,h4,λr J F' H' a b c=>h6 r J F' H' a (M.trans (L.trans b)) c,hx.grow (M.trans L)]
def dY(K:W.Frag)(r:R2)(v:D->D->Option Bool):Prop:=∀(H:Hp)(x y:V)(p q:D)(k:Bool)(Q:VK),aQ K H x p->aQ K H y q->v p q=some k->Q (.bl k) H->r x y H Q
def Ek{K:W.Frag}(B:Rel K (U++[zr x,zr y]) (Z++[some v,some u]) F G H)(J:U.length=Z.length)(M:RV Z v x)(L:RV Z u y)(ep:view x U=some p)(O:view y U=some q):
  aQ K H v p/\aQ K H u q/\Rel K U Z F G H:=by
 let z:Rel K (U++[zr y]) (Z++[some u]) F G H:=B.mid J;show#[look B J M ep,look (U':=[]) (Z':=[]) z J L O,z.drop J]
def AQ(ho:∀pn xe,OpR `q (compareOp O) r)(hd:dY X.K r o)(ha:FE X a wa)(hb:FE X b wb)(hm:behindInMarks O b=false):FT X (.Compare a [O] [b] pos) (aP o wa wb):=by intro pn xe Y;show PT.imp (RH (ho pn xe) (ha pn xe Y) (hb pn xe Y) hm) λZ H Q h=>?_;show(KH (k:=λx y z Q E=>zo (view x z) λp=>zo (view y z) λq=>zo (o p q) λc=>Q c z) h).mono λv H1 h1=>h1.mono λu H2 h2=>?_;let#[F,G,U,x,y,P,PX,L,hl,rx,ry,B,M,hx]:=h2;let#[p,ep,B]:=Ao B;let#[q,eq,B]:=Ao B;let#[t,et,B]:=Ao B;let#[r1,r2,J]:=Ek L hl rx ry ep eq;show hd H2 v u p q t _ r1 r2 et #[t,rfl,M t U F H2 B `c J]
def FN(ho:∀pn xe,OpR `q (compareOp O) r)(hd:dY X.K r o)(ha:FE X a wa)(hb:FE X b wb)(hm:behindInMarks O b=false):FE X (.Compare a [O] [b] pos) (iP (aP o wa wb)):=by intro pn xe Y;show PE.imp (QR (ho pn xe) (ha pn xe Y) (hb pn xe Y) hm) λZ H Q h=>?_;show(Fv (k:=λx y z Q E=>zo (view x z) λp=>zo (view y z) λq=>zo (o p q) λc=>Q (.v (.sh (.bl c))) z) h).mono λv H1 h1=>h1.mono λu H2 h2=>?_;let#[F,G,U,x,y,P,PX,L,hl,rx,ry,B,M,hx]:=h2;let#[p,ep,B]:=Ao B;let#[q,eq,B]:=Ao B;let#[t,et,B]:=Ao B;let#[r1,r2,J]:=Ek L hl rx ry ep eq;show hd H2 v u p q t _ r1 r2 et (M _ U (.bl t) F H2 B `c (J.push (.bl t)) trivial)
def RL{K:W.Frag}(r:aQ K H v d)(e:jD d=some k):yS K v H k:=by
 cases r with
 |non=>show(qf e).symm
 |bl b=>show(qf e).symm
 |int i=>have B:=(qf e).symm;rw[B];show decide (i≠0)=(i !=0);by_cases h:i=0<;>simp[h]
 |str G z=>
  rename_i x l;let B:=(qf e).symm;let F:x.length=l.length:=by rw[<-G];rfl
  show#[by rw[F];show z,?_];rw[B,F];cases l with
  |nil=>rfl
  |cons a r=>simp;lia
 |tup h r=>show .inr (.inl #[_,bV.of h,?_]);let B:=(qf e).symm;rw[B];cases r<;>rfl
 |lst h r=>show .inl #[_,h,?_];let B:=(qf e).symm;rw[B];cases r<;>rfl
 |dK h k r=>cases e
 |dT h k r=>cases e
 |st h r=>cases e
 |exc h k=>cases e
def Jw(ha:FE X a wa)(he:∀whole,isTrue a X.env whole=(do let v<-whole;standAt a.pos;holding [v] (truthy v)):=by intro _;rfl):FT X a (jB wa):=by intro pn xe hp;show PT.imp (Ut `ar he) λZ H Q h=>?_;let#[F,G,U,P,PX,zI,hw,hok,hx]:=h;show#[F,G,U,_,PX,zI,hw,λx U1 v F1 H1 hk s1 r1 rv1=>?_,hx];let#[p,ep,hk]:=Ao hk;let#[t,et,hk]:=Ao hk;let hl:=Ae r1;show#[t,RL (look (U':=[]) (Z':=[]) r1 hl rv1 ep) et,hok t U1 F1 H1 hk s1 (r1.drop hl)]
def DU{k:Bool->Env->(Bool->Env->Prop)->WX->Prop}(h:iR X (λU Q E=>ta U (λc U1=>k c U1 Q E) E) Z H Q)
  (Y:∀(c:Bool)(F G:Hp)(U:Env)(P:Bool->Env->Prop)(PX:WX)(H1:Hp),Rel X.K U Z F G H1->k c U P PX->(∀r U' F' H',P r U'->zp F F'->Rel X.K U' Z F' G H'->Q r H')->XC X (·=Z) F G PX->Q' c H1):iR X ta Z H Q':=by
 let#[F,G,U,P,PX,v,M,z,J]:=h;show#[F,G,U,_,PX,v,M,λc U1 F1 H1 O B L=>Y c F1 G U1 P PX H1 L O (λr U' F' H' a b c=>z r U' F' H' a (B.trans b) c) (J.grow B),J]
def Gz(h:FW X a ta):FT X a ta:=λpn xe v=>(h pn xe v).pt
def Hh(h:FT X a ta):FW X (.BoolOp .And [a] pos) ta:=λpn xe v=>RR (h pn xe v)
def Qt(h:FT X a ta):FW X (.BoolOp .Or [a] pos) ta:=λpn xe v=>PH (h pn xe v)
def GW{rest:List Expr}(h:FT X a ta)(h':FW X (.BoolOp .And (b::rest) pos) tb):FW X (.BoolOp .And (a::b::rest) pos) (fL ta tb):=λpn xe J=>by
 show PW.imp (PR (h pn xe J) (h' pn xe J)) λZ H Q q=>?_;show DU (k:=λc v Q E=>if c then tb v Q E else Q false v) q λc F G U P PX H1 z L B M=>?_;cases c with
 |true=>show#[F,G,U,P,PX,z,L,B,M]
 |false=>show B false U F H1 L `c z
def Pt{rest:List Expr}(h:FT X a ta)(h':FW X (.BoolOp .Or (b::rest) pos) tb):FW X (.BoolOp .Or (a::b::rest) pos) (uL ta tb):=λpn xe J=>by
 show PW.imp (Po (h pn xe J) (h' pn xe J)) λZ H Q q=>?_;show DU (k:=λc v Q E=>if c then Q true v else tb v Q E) q λc F G U P PX H1 z L B M=>?_;cases c with
 |false=>show#[F,G,U,P,PX,z,L,B,M]
 |true=>show B true U F H1 L `c z
def LK(h:FT X a ta):FT X (.UnaryOp .Not a pos) (kS ta):=λpn xe J=>by show PT.imp (Qq (h pn xe J)) λZ H Q q=>?_;show DU (k:=λc v Q E=>Q (!c) v) q λc F G U P PX H1 z L B M=>B _ U F H1 L `c z
def Ab:FA X [] zm:=λpn xe L=>PA.imp LJ λZ H Q q=>by let#[F,G,U,P,PX,v,B,z,J]:=q;show z [] U [] F H B `c ↑v v.len trivial
def Aa(ha:FE X e wa)(hb:FA X es wb)(hs:autoParam (starEach (e::es) X.env=(false,eval e X.env)::starEach es X.env) rZ9):FA X (e::es) (zl wa wb):=λpn xe hp=>by
 show PA.imp (Mg `ar `db hs) λZ H Q q=>?_;let#[F,G,U,P,PX,Y,hw,h5,hx]:=q;show#[F,G,U,_,PX,Y,hw,λx U1 v F1 H1 h4 s1 r1 M=>?_,hx];let h1:=Ae r1;let#[G1,B,gg,back]:=r1.hide h1;show#[F1,G1,U1,_,PX,B,h4,λO U2 J F2 H2 h3 s2 r2 h2 L=>?_,hx.mono (λ_ z=>z) s1 gg];let r3:=back s2 r2;rw[qp,qp]at r3;let hl:(O.map zr).length=(J.map some).length:=by let:=r2.len;grind
 show h5 (x::O) U2 (v::J) F2 H2 h3 `as (Rel.swap (U1:=O.map zr) (Z1:=J.map some) (U2:=[zr x]) (Z2:=[some v]) h2 hl r3) h2 #[M,L]
section
variable{K:W.Frag}
def pI.len:∀{vs:List V}{rs:List R},pI Z vs rs->vs.length=rs.length
 |[],[],_=>rfl
 |[],_::_,h=>h.elim
 |_::_,[],h=>h.elim
 |_::vs,_::rs,h=>by simp[pI.len h.2]
def IS:∀{rs:List R}{vs:List V}{U U' U1:Env}{ss:List S}{F:Hp}{Z':St},Rel K (U++(rs.map zr++U')) (Z++(vs.map some++Z')) F G H->U.length=Z.length->pI Z vs rs->aM rs U=some (ss,U1)->
  ∃F',zp F F'/\U1.length=U.length/\ss.length=rs.length/\Rel K (U1++(ss.map some++U')) (Z++(vs.map some++Z')) F' G H
 |[],[],U,U',U1,ss,F,Z',r,h,_,e=>by let z:some (([]:List S),U)=some (ss,U1):=e;cases z;show#[F,zp.refl F,rfl,rfl,r]
 |[],_::_,_,_,_,_,_,_,_,_,h,_=>h.elim
 |_::_,[],_,_,_,_,_,_,_,_,h,_=>h.elim
 |x::rs,v::vs,U,U',U1,ss,F,Z',r,h,rv,e=>by
  let z:(match give x U with|some (s,U1)=>(match aM rs U1 with|some (ss,U2)=>some (s::ss,U2)|none=>none)|none=>none)=some (ss,U1):=e;cases q:give x U with
  |none=>rw[q]at z;cases z
  |some p=>
   let#[s,U2]:=p;rw[q]at z;cases B:aM rs U2 with
   |none=>simp only[B]at z;cases z
   |some p2=>
    let#[L,h1]:=p2;simp only[B]at z;cases z;let#[F1,s1,l1,Y]:=AA (U':=rs.map zr++U') (Z':=vs.map some++Z') r h rv.1 q;let h2:U2.length=Z.length:=l1.trans h;let hl:(rs.map zr++U').length=(vs.map some++Z').length:=by let:=Y.len;rw[qq,qq,qt,qt]at this;lia
    let J:U'.length=Z'.length:=by let:=rv.2.len;simp at hl;lia
    let O:=Rel.swap (U1:=[some s]) (Z1:=[some v]) (U2:=rs.map zr++U') (Z2:=vs.map some++Z') h2 rfl Y;rw[qp,qp]at O;let#[F2,s2,l2,l3,M]:=IS (rs:=rs) (vs:=vs) O h2 rv.2 B;let h3:U1.length=Z.length:=l2.trans h2;rw[<-qp (L.map some),<-qp (vs.map some)]at M;let r4:=Rel.swap (U1:=L.map some++U') (Z1:=vs.map some++Z') (U2:=[some s]) (Z2:=[some v]) h3 (by simp[l3,rv.2.len,J]) M;show#[F2,s1.trans s2,l2.trans l1,by simp[l3],r4]
def Cd:∀{vs:List V}{ss:List S}{fp:List Addr},zt K F H (ss.map some) (vs.map some) fp->zu K F H vs ss fp
 |[],[],_,.nil=>.nil
 |[],_::_,_,h=>nomatch h
 |_::_,[],_,h=>nomatch h
 |v::vs,s::ss,_,.so a b=>.cons a (Cd b)
def Rel.newL(r:Rel K (U++ss.map some) (Z++vs.map some) F G H)(h:U.length=Z.length)(B:H p=none):
  Rel K (U++[some (.lst ss)]) (Z++[some `w]) F G (upd H p (.lst vs)):=by
 let#[f0,Y,O]:=r.free B;let#[fp,e,nd,ap]:=r.en;let J:∀a∈fp,a≠p:=λa v z=>O fp e (z▸v);let#[f1,f2,rfl,M,L]:=(e.mono (H':=upd H p (.lst vs)) `c λa v=>Ar (J a v)).cut h;show#[zp.updR r.fr f0,λa u q=>?_,f1++((p::f2)++[]),M.app (.so (.lst Bh (Cd L)) .nil),?_,λa v=>?_]
 .let B:a≠p:=λz=>by rw[z,Y]at q;cases q
  rw[Ar B];show r.gr a u q
 .grind
 grind
def Rel.giveD{ss:List S}(r:Rel K (U++ss.map some) (Z++vs.map some) F G H)(h:U.length=Z.length):∃F',zp F F'/\zE K F' vs (ss.map S.toD)/\Rel K U Z F' G H:=by
 classical
 let#[fp,e,M,ap]:=r.en;let#[Y,L,rfl,a,b]:=e.cut h;let#[O,n2,n3]:=qx.mp M;let v:zp F (λx=>if x∈L then H x else F x):=λx o w=>by grind
 let B:=(Cd b).frz v λx J=>by simp[J,if_true]
 rw[S.toDs_map]at B;show#[_,v,B,λx o w=>?_,λx o w=>?_,Y,a.mono v λ_ _=>rfl,O,λx J=>?_]
 .by_cases z:x∈L
  .simp only[z]at w;show w
  .simp only[z]at w;show r.fr x o w
 .let w2:=r.gr x o w;grind
 grind
end
inductive dn(X:Cx)(Z:St)(k:List R->Env->WQ->WX->Prop)(Q:VK)(vs:List V)(H:Hp):Prop
 |mk (F G:Hp) (U:Env) (rs:List R) (P:WQ) (PX:WX) (zI:Rel X.K (U++rs.map zr) (Z++vs.map some) F G H) (hl:U.length=Z.length) (rv:pI Z vs rs) (hk:k rs U P PX) (hok:∀r U' v F' H',P r U'->zp F F'->Rel X.K (U'++[zr r]) (Z++[some v]) F' G H'->RV Z v r->Q v H') (hx:XC X (·=Z) F G PX):dn X Z k Q vs H
theorem many(h:tW X (λU Q E=>wa U (λrs U1=>k rs U1 Q E) E) Z H Q):vL X wa Z H λvs H1=>dn X Z k Q vs H1:=by let#[F,G,U,P,PX,J,hw,M,Y]:=h;show#[F,G,U,_,PX,J,hw,λrs U1 vs F1 H1 L O r1 h1 B=>#[F1,G,U1,rs,P,PX,r1,h1,B,L,λr z v F' H' a b c d=>M r z v F' H' a (O.trans b) c d,Y.grow O],Y]
def Bo(h:FA X es wa):FE X (.List es pos) (cC wa):=λpn xe L=>by
 show PE.imp (Qh (h pn xe L)) λZ H Q q=>?_;show(many (k:=λz v Q E=>zo (if z.length<=big then aM z v else none) λp=>Q (.v (.lst p.1)) p.2) q).mono λvs H1 h1=>?_;let#[F,G,U,z,P,PX,B,hl,Y,O,M,hx]:=h1;let#[#[ss,v],ep,O]:=Ao O;by_cases J:z.length<=big
 .rw[q4 J]at ep;let#[F1,s1,l1,l2,r1]:=IS (U':=[]) (Z':=[]) ↑B hl Y ep;show#[by rw[Y.len];show le_trans J ⋯,λp L=>M _ v `w F1 _ O s1 (Rel.newL ↑r1 (l1.trans hl) L) trivial]
 .rw[q5 J]at ep;cases ep
def BK(h:FA X es wa):FE X (.Tuple es k pos) (cI wa):=λpn xe B=>by
 show PE.imp (QL (h pn xe B)) λZ H Q q=>?_;show(many (k:=λz v Q E=>zo (if z.length<=big then aM z v else none) λp=>Q (.v (.sh (.tup (p.1.map S.toD)))) p.2) q).mono λvs H1 h1=>?_;let#[F,G,U,z,P,PX,J,hl,Y,O,M,hx]:=h1;let#[#[ss,v],ep,O]:=Ao O;by_cases L:z.length<=big
 .rw[q4 L]at ep;let#[F1,s1,l1,l2,r1]:=IS (U':=[]) (Z':=[]) ↑J hl Y ep;let#[F2,s2,rp,r2]:=Rel.giveD (U:=v) ↑r1 (l1.trans hl);show#[by rw[Y.len];show le_trans L ⋯,λp B=>?_];let n2:=(r2.free B).1;show M _ v `w _ _ O (s1.trans (s2.trans (zp.upd n2))) ((r2.newF B).push (.tup Bh (rp.mono (zp.upd n2)))) trivial
 .rw[q5 L]at ep;cases ep
def KP.refl:KP ks Z Z:=λ_ _=>rfl
def KP.trans(a:KP ks Z Z1)(b:KP ks Z1 Z2):KP ks Z Z2:=λi h=>(b i h).trans (a i h)
inductive fm(X:Cx)(ks:List Nat)(w:WS)(D:L2.Ends)(Z:St)(H:Hp):Prop
 |mk (F G:Hp) (U:Env) (E:Ends) (zI:Rel X.K U Z F G H) (hw:w E U) (n:∀U' Z' F' H',E.nx U'->KP ks Z Z'->zp F F'->Rel X.K U' Z' F' G H'->D.nx Z' H') (b:∀U' Z' F' H',E.bk U'->KP ks Z Z'->zp F F'->Rel X.K U' Z' F' G H'->D.bk Z' H') (c:∀U' Z' F' H',E.ct U'->KP ks Z Z'->zp F F'->Rel X.K U' Z' F' G H'->D.ct Z' H') (r:∀r U' Z' v F' H',E.rt r U'->KP ks Z Z'->zp F F'->Rel X.K (U'++[zr r]) (Z'++[some v]) F' G H'->RV Z' v r->D.rt v H') (hx:XC X (KP ks Z) F G E.ex):fm X ks w D Z H
@[inline]def FS(X:Cx)(ks:List Nat)(st:Stmt)(w:WS):Prop:=∀(pn:List (Addr×Obj))(xe:zj),PassesOwn (model X.prog X.w) X.A X.env xe->PS (wp X pn xe) st (fm (wp X pn xe) ks w)
def pM(X:Cx)(ks:List Nat)(st:List Stmt)(w:WS):Prop:=∀(pn:List (Addr×Obj))(xe:zj),PassesOwn `a X.A X.env xe->jS `q st (fm `q ks w)
def PS.imp(h:PS X e t)(k:∀D Z H,t' D Z H->t D Z H):PS X e t':=λzG s Z H D I q=>h zG s Z H D I (k D Z H q)
def jS.imp(h:jS X e t)(k:∀D Z H,t' D Z H->t D Z H):jS X e t':=λzG s Z H D I q=>h zG s Z H D I (k D Z H q)
inductive zM(X:Cx)(ks:List Nat)(g:WG)(v:V)(Z:St)(H:Hp)(Q:St->Hp->Prop):Prop
 |mk (F G:Hp) (U:Env) (s:S) (P:Env->Prop) (zI:Rel X.K (U++[some s]) (Z++[some v]) F G H) (hw:g s U P) (n:∀U' Z' F' H',P U'->KP ks Z Z'->zp F F'->Rel X.K U' Z' F' G H'->Q Z' H'):zM X ks g v Z H Q
@[inline]def FG(X:Cx)(ks:List Nat)(tg:Expr)(g:WG):Prop:=∀(pn:List (Addr×Obj))(xe:zj),PassesOwn (model X.prog X.w) X.A X.env xe->PG (wp X pn xe) tg (zM (wp X pn xe) ks g)
def PG.imp(h:PG X e t)(k:∀v Z H Q,t' v Z H Q->t v Z H Q):PG X e t':=λzG s Z H v u Q I r q=>h zG s Z H v u Q I r (k v Z H Q q)
section
variable{st:Stmt}{rest:List Stmt}
def BX:pM X ks [] bC:=λpn xe B=>jS.imp Ro λD Z H q=>by let#[F,G,U,E,v,z,n,b,c,r,x]:=q;show n U Z F H z KP.refl `c v
def Ai(h1:FS X ks st w1)(h2:pM X ks rest w2):pM X ks (st::rest) (zy w1 w2):=λpn xe O=>jS.imp (TL (h1 pn xe O) (h2 pn xe O)) λD Z H q=>by
 obtain⟨F,G,U,E,h3,hw,n,b,c,r,x⟩:=q;show#[F,G,U,{E with nx:=w2 E},h3,hw,λY h5 F1 H1 O k M r1=>?_,b,c,r,x];exact⟨F1,G,Y,E,r1,O,λB z L H' h J s r=>n B z L H' h (k.trans J) (M.trans s) r,λB z L H' h J s r=>b B z L H' h (k.trans J) (M.trans s) r,
  λB z L H' h J s r=>c B z L H' h (k.trans J) (M.trans s) r,λa B z v L H' h J s q rv=>r a B z v L H' h (k.trans J) (M.trans s) q rv,x.mono (λh4 J=>k.trans J) M `an⟩
def Ap(h1:FS X ks st v):pM X ks [st] v:=λpn xe z=>Rz (h1 pn xe z)
def Dv(h:FE X e Y)(hs:autoParam (swapsWith e none pos.line X.env=pure false) rZ9):FS X ks (.Expr e pos) (wExpr Y):=λpn xe L=>PS.imp (Rv (h pn xe L) hs) λD Z H q=>by let#[F,G,U,E,J,hw,n,b,c,r,x]:=q;show#[F,G,U,_,_,J,hw,λa B v F1 H1 L s1 M rv=>n B Z F1 H1 L KP.refl s1 (M.drop (Ae M)),x.mono (λO z=>by rw[z];show KP.refl) `c `an]
def AZ(h:FE X e O):FS X ks (.Return (some e) pos) (bT O):=λpn xe L=>PS.imp (Ql (h pn xe L)) λD Z H q=>by let#[F,G,U,E,J,hw,n,b,c,r,x]:=q;show#[F,G,U,_,_,J,hw,λa B v F1 H1 L Y r1 rv=>r a B Z v F1 H1 L KP.refl Y r1 rv,x.mono (λM z=>by rw[z];show KP.refl) `c `an]
def BJ(hc:FT X c tc)(ha:pM X ks a w1)(hb:pM X ks b w2):FS X ks (.If c a b pos) (fI tc w1 w2):=λpn xe O=>PS.imp (Ph (hc pn xe O) (ha pn xe O) (hb pn xe O)) λD Z H q=>by
 obtain⟨F,G,U,E,h1,hw,n,b,c,r,x⟩:=q;show#[F,G,U,_,_,h1,hw,λk Y F1 H1 O s1 r1=>?_,x.mono (λh2 z=>by rw[z];show KP.refl) `c `an];let go:∀w:WS,w E Y->fm `q ks w D Z H1:=λw hw=>⟨F1,G,Y,E,r1,hw,λJ B M H' h L s r=>n J B M H' h L (s1.trans s) r,λJ B M H' h L s r=>b J B M H' h L (s1.trans s) r,
  λJ B M H' h L s r=>c J B M H' h L (s1.trans s) r,λa J B v M H' h L s q rv=>r a J B v M H' h L (s1.trans s) q rv,x.grow s1⟩
 cases k with
 |true=>show go _ O
 |false=>show go _ O
def Aq(he:FE X e we)(hg:FG X ks tg g)(hs:autoParam (swapsWithSole [tg] e pos.line X.env=pure false) rZ9)(M:autoParam (swappedStores [tg] e X.env=pure none) rZ9)
  (h1:autoParam ((assignEach [tg] X.env).map (·.2)=[assign tg X.env]) rZ9):FS X ks (.Assign [tg] e pos) (zA g we):=λpn xe B=>PS.imp (LG (he pn xe B) (hg pn xe B) hs M h1) λD Z H q=>by
 let#[F,G,U,E,L,M,n,b,c,r,x]:=q;show#[F,G,U,_,_,L,M,λa h2 v F1 H1 B s1 O rv=>?_,x.mono (λY z=>by rw[z];show KP.refl) `c `an];let#[#[s,J],eg,hk]:=Ao B;let#[F2,s2,l2,r2]:=AA (U':=[]) (Z':=[]) O (Ae O) rv eg;show#[F2,G,J,s,_,r2,hk,λU' Z' F' H' h k' s r=>n U' Z' F' H' h k' (s1.trans (s2.trans s)) r]
end
def Oe(I:Inv X zG Z H s)(hN:∀j,X.N[j]?=some x->j=i)(hi:X.N[i]?=some x)(L:Loc X.env.scope x)(r:zv v u)
  (h:∀s',Inv X zG (Z.set i `I) H s'->(∃a,Heap.SameBut a s.heap s'.heap/\(a=X.env.locals\/X.env.cells.lookup x=some a))->Q () s')(hf:X.fn x=true\/X.env.scope.names.lookup x=some .local):wpAny M A (storeName X.env x u) Q E s:=by
 let#[m,hn,hl]:=id I.loc;let h5:(X.env.scope.kind==.class||(X.env.scope.kind==.module&&X.env.locals !=X.env.globals))=false:=by rw[I.ok.kind];rfl
 let h1:i<Z.length:=by rw[I.len];show(qg.mp hi).1
 have cne:=I.cne;let F:∀{a:Addr}{h':Heap},(∃o,s.heap.get? a=some o/\H a=none)->Heap.SameBut a s.heap h'->eM X.prog X.w H h':=λ{a h'} ha B b ob e=>by
  let#[_,_,O]:=ha;show(I.hok b ob e).stay (λc w' J q=>(B.2 c ?_).trans q) (λ_ q=>q) λ_ _ q=>q;rintro rfl;rcases J with rfl|J
  .rw[O]at e;cases e
  .rw[O]at J;cases J
 rcases L with hk|hk
 .refine wpAny_storeName_local hk hn (λh' h9 B=>?_) h5;let#[oL,_,_,h8,_]:=id hn;refine h _ #[I.ok,I.os,I.bare,#[λb o e n hb L=>?_,λb o e n hb L=>?_,I.base.free,λb o e L=>?_,I.base.tups,I.base.frzs,I.base.tbls],#[_,h9,λj y v' G Y e3=>?_],λy c e=>?_,I.free,I.freeC,λp hp=>?_,F #[oL,h8,I.free] B,↑I.len] #[_,B,.inl rfl]
  .show(B.2 b `A).trans `ci
  .obtain⟨sl,G⟩:=I.base.slot b o e n hb L;show#[sl,(B.2 b `A).trans G]
  .obtain⟨o',G⟩:=I.base.there b o e L;show#[o',(B.2 b `A).trans G]
  .by_cases hj:j=i
   .subst hj;rw[hi]at G;cases G;rw[getElem?_set_self h1]at Y;cases Y;show#[u,r,.inl #[hk,by simp]]
   .rw[getElem?_set_ne (Ne.symm hj)]at Y;let#[u',r',q]:=hl j y v' G Y e3;show#[u',r',?_];rcases q with⟨k,e⟩|⟨k,c,e,z⟩
    .show .inl #[k,?_];let:y≠x:=λe=>hj (hN j (e▸G));simp[this,e]
    .show .inr #[k,c,e,z.sameBut B (cne y c e)]
  .obtain⟨w',z⟩:=I.cell y c e;show#[w',z.sameBut B (cne y c e)]
  .obtain⟨e,n,ne,nf,d⟩:=I.pin p hp;show#[(B.2 p.1 ne).trans e,n,ne,nf,d]
 .have h2:X.fn x=true:=by
   rcases hf with z|z
   .show z
   .rw[z]at hk;cases hk
  let#[c,J]:=I.ok.has x (.inl hk);let#[w',z]:=I.cell x c J;show wpAny_storeName_cell I.ok.kind hk J z (λh' h7 B=>?_);let#[oc,h4,h3]:=id z;show h {s with heap:=h'} ⟨I.ok,I.os,I.bare,⟨λb o e n hb L=>?_,λb o e n hb L=>?_,I.base.free,λb o e L=>?_,I.base.tups,I.base.frzs,I.base.tbls⟩,⟨m,hn.sameBut B (Ne.symm (cne x c J)),λj y v' G Y e3=>?_⟩,λy c' e=>?_,I.free,I.freeC,λp hp=>?_,F ⟨oc,h4,I.freeC x c J⟩ B,↑I.len⟩ #[c,B,.inr J]
  .show(B.2 b `r).trans `ci
  .obtain⟨sl,G⟩:=I.base.slot b o e n hb L;show#[sl,(B.2 b `r).trans G]
  .obtain⟨o',G⟩:=I.base.there b o e L;show#[o',(B.2 b `r).trans G]
  .by_cases hj:j=i
   .subst hj;rw[hi]at G;cases G;rw[getElem?_set_self h1]at Y;cases Y;show#[u,r,.inr #[.inl hk,c,J,h7]]
   .rw[getElem?_set_ne (Ne.symm hj)]at Y;let#[u',r',q]:=hl j y v' G Y e3;show#[u',r',?_];rcases q with q|⟨k,c',e,z'⟩
    .show .inl q
    .show .inr #[k,c',e,z'.sameBut B ?_];rintro rfl;show hj (hN j (I.ok.inj _ _ _ e J▸G))
  .by_cases h6:c'=c
   .subst h6;show#[_,h7]
   .obtain⟨w2,z2⟩:=I.cell y c' e;show#[w2,z2.sameBut B h6]
  .obtain⟨e,n,ne,nf,d⟩:=I.pin p hp;show#[(B.2 p.1 ?_).trans e,n,ne,nf,d];intro q;rw[q,h4]at e;let q':oc=p.2:=qf e;show d w' (by rw[<-q'];show h3)
def KP.set(h:i∉ks):KP ks Z (Z.set i u):=λj v=>getElem?_set_ne (λ(z:i=j)=>h (z▸v))
def Mu(Y:i∉ks)(hN:∀j,X.N[j]?=some x->j=i)(hi:X.N[i]?=some x)(M:Loc X.env.scope x)(hf:X.fn x=true\/X.env.scope.names.lookup x=some .local):FG X ks (.Name x pos) (zn i):=by
 intro pn xe hp zG s Z H v u Q I L q;let#[F,G,U,t,P,z,O,n]:=q;let J:=Ae z;let B:i<U.length:=by rw[J,I.len];show(qg.mp hi).1
 show wpAny_assign_Name (Oe (X:=wp X pn xe) I hN hi M L (λs' I' _=>#[_,H,I',n _ _ F H O (KP.set Y) `c (z.store J B)]) hf)
inductive zV(X:Cx)(ks:List Nat)(gs:List WG)(vs:List V)(Z:St)(H:Hp)(Q:St->Hp->Prop):Prop
 |mk (F G:Hp) (U:Env) (ds:List D) (P:Env->Prop) (zI:Rel X.K U Z F G H) (rp:zE X.K F vs ds) (hw:eF gs ds U P) (n:∀U' Z' F' H',P U'->KP ks Z Z'->zp F F'->Rel X.K U' Z' F' G H'->Q Z' H'):zV X ks gs vs Z H Q
def gu(X:Cx)(ks:List Nat)(tg:List Expr)(g:List WG):Prop:=∀(pn:List (Addr×Obj))(xe:zj),PassesOwn `a X.A X.env xe->dk `q tg (zV `q ks g)
def Fp:gu X ks [] []:=λpn xe M zG s Z H B J Q I r q=>by
 let#[F,G,U,O,P,v,L,z,n]:=q;show SM zG s Z H B J Q I r ?_;cases L with
 |nil=>show#[rfl,n U Z F H z KP.refl `c v]
 |cons a b=>show z.elim
def BY(h1:FG X ks e g)(h2:gu X ks es gs)
  (hs:autoParam ((assignEach (e::es) X.env).map (·.2)=assign e X.env::(assignEach es X.env).map (·.2)) rZ9):gu X ks (e::es) (g::gs):=λpn xe v zG s Z H vs us Q I r q=>by
 let#[F,G,U,ds,P,L,rp,O,n]:=q;show SY (X:=wp X pn xe) (h1 pn xe v) (h2 pn xe v) hs zG s Z H vs us Q I r ?_;cases rp with
 |nil=>show O.elim
 |cons a b=>show#[_,_,rfl,F,G,U,_,_,L.push a,O,λB Y F1 H1 v k M r1=>#[F1,G,B,_,P,r1,b.mono M,v,λJ z F' H' h k' s r=>n J z F' H' h (k.trans k') (M.trans s) r]]
def zE.len{K:W.Frag}(r:zE K F xs v):xs.length=v.length:=zE.ind (P:=λxs v=>xs.length=v.length) rfl (λ_ _ z=>congrArg (·+1) z) r
def Fo(hc:X.calm=true)(h:gu X ks es J)(hn:autoParam ((assignEach es X.env).length=J.length) rZ9)(O:autoParam ((assignEach es X.env).findIdx? (·.1)=none) rZ9):FG X ks (.Tuple es k pos) (eK J):=λpn xe hp=>by
 show PG.imp (Qx (X:=wp X pn xe) hc (h pn xe hp) hn O) λv Z H Q q=>?_;let#[F,G,U,s,P,B,hw,n]:=q;let#[F1,s1,rp,Y]:=Rel.giveD (U:=U) (vs:=[v]) (ss:=[s]) B (Ae B);cases rp with
 |cons a b=>
  let z:(match s.toD with|.tup ds=>ds.length=J.length/\eF J ds U P|_=>False):=hw;generalize s.toD=d at a z;cases a with
  |tup e r=>show#[_,_,rfl,bV.of (Y.fr _ _ e),by rw[r.len];show z.1,F1,G,U,_,P,Y,r,z.2,λM L F' H' h k' s r=>n M L F' H' h k' (s1.trans s) r]
  |_=>show z.elim
def kR(K:W.Frag)(J:It)(l:List D)(v:Hp):Prop:=∀(i:Nat)(U:Env)(Z:St)(F G H:Hp),zp v F->Rel K U Z F G H->
 (∀d,l[i]?=some d->J.go i H/\∀x H',J.yld i H x H'->∃F',zp F F'/\Rel K U Z F' G H'/\aQ K F' x d)/\(l.length<=i->J.stop i H)
inductive nr(X:Cx)(wi:WI)(Z:St)(H:Hp)(R:It->Hp->Prop):Prop
 |mk (F G:Hp) (U:Env) (P:List D->Env->Prop) (PX:WX) (zI:Rel X.K U Z F G H) (hw:wi U P PX) (hok:∀l U' F' H' J,P l U'->zp F F'->Rel X.K U' Z F' G H'->kR X.K J l F'->R J H') (hx:XC X (·=Z) F G PX):nr X wi Z H R
@[inline]def FI(X:Cx)(tg iter:Expr)(v:WI):Prop:=∀(pn:List (Addr×Obj))(xe:zj),PassesOwn (model X.prog X.w) X.A X.env xe->PI (wp X pn xe) tg iter (nr (wp X pn xe) v)
def PI.imp(h:PI X tg e t)(k:∀Z H R,t' Z H R->t Z H R):PI X tg e t':=λzG s Z H R I q=>h zG s Z H R I (k Z H R q)
def zE.get{K:W.Frag}{i:Nat}(r:zE K F xs v)(h:v[i]?=some d):∃x,xs[i]?=some x/\aQ K F x d:=
 zE.ind (P:=λxs v=>∀i d,v[i]?=some d->∃x,xs[i]?=some x/\aQ K F x d) (λ_ _ e=>by cases e) (λa _ z i d e=>by
  cases i with
  |zero=>cases e;show#[_,rfl,a]
  |succ i=>show z i d e) r i d h
section
variable{K:W.Frag}
def VL(e:bQ K F0 a xs)(r:zE K F0 xs l):kR K (nh K a) l F0:=λi U Z F G H J v=>by let B:bQ K H a xs:=bQ.mono (J.trans v.fr) e;show#[λd O=>?_,λh=>#[xs,B,by rw[r.len];show h]];let#[x,L,M]:=r.get O;show#[#[xs,x,B,L],λy H' z=>?_];let#[rfl,z]:=z;let:x=y:=qf (L.symm.trans (z xs B));subst this;show#[F,zp.refl F,v,M.mono J]
def Tp(e:bV K F0 a xs)(r:zE K F0 xs l):kR K (mz K a) l F0:=λi U Z F G H J v=>by let B:bV K H a xs:=bV.mono (J.trans v.fr) e;show#[λd O=>?_,λh=>#[xs,B,by rw[r.len];show h]];let#[x,L,M]:=r.get O;show#[#[xs,x,B,L],λy H' z=>?_];let#[rfl,z]:=z;let:x=y:=qf (L.symm.trans (z xs B));subst this;show#[F,zp.refl F,v,M.mono J]
def Wz{lo:Int}(h:(fromTo lo n)[i]?=some d):i<n/\d=.int (lo+i):=by
 unfold fromTo at h;rw[qF]at h;by_cases hi:i<n
 .rw[getElem?_range hi]at h;show#[hi,(qf h).symm]
 .rw[qQ ↑hi]at h;cases h
def OB{lo:Int}:kR K (dt lo n) (fromTo lo n) F0:=λi U Z F G H J v=>by
 show#[λd B=>?_,λh=>?_]
 .obtain⟨hi,rfl⟩:=Wz B;show#[hi,λx H' z=>?_];let#[rfl,rfl]:=z;show#[F,zp.refl F,v,.int _]
 .let:n<=i:=by simpa[fromTo] using h
  show this
end
def nc(x:Str):It:=#[λi _=>i<x.cps.size,λi H v H'=>H'=H/\∃c,x.cps[i]?=some c/\v=.str #[[c].toArray],λi _=>x.cps.size<=i]
def Vc{P:Program}{w:World}{K:W.Frag}{tg:Expr}(it:Addr)(x:Str)(t:Tok)(ty:String)(hty:ty="str_ascii_iterator"\/ty="str_iterator"):kO P w K tg (nc x) [it] it (λi h=>h.IsStrIter it ty x t i) where
 mem:=m1
 obj:=λi h st b hb=>by
  let e:b=it:=↑hb
  subst e;let#[o,e,c,d]:=st;show#[o,e,λv z=>by rw[d]at z;cases z]
 keep:=λi h h' st k=>by let#[o,e,r]:=st;show#[o,k it (m1) o e,r]
 item:=by
  intro X hP hw hK hc i zG s Z H E I hf st hg;subst hP hw hK;let#[f0,f1,f2,f3,f4,f5]:=hf it (m1);let W:Walks X.prog X.w X.A it [it] [it] x.cps.size (SignAt x) (λi h=>h.IsStrIter it ty x t i):=by
   rcases hty with rfl|rfl
   .show Walks.strAscii `ca it x t
   .show Walks.strWide `ca it x t
  show W.item i s _ _ hg st λv h' tk hv st' kk=>?_;let#[c,u,e1,rfl]:=hv;let I1:Inv X zG Z H {s with heap:=h',toks:=tk}:=I.turned (λb o hb e=>kk b o ↑hb e) f0 f1 f3 f4 f5;let#[o,e,cl,d]:=id st';show#[_,rfl,Ic (s:={s with heap:=h',toks:=tk}) e cl d (by rcases hty with rfl|rfl<;>decide) ⟨.str ⟨[c].toArray⟩,H,I1,⟨u,rfl⟩,⟨rfl,c,e1,rfl⟩,st',λb hb=>(hf b hb).1⟩]
 done:=by
  intro X hP hw hK hc i zG s Z H E I hf st hg;let#[f0,f1,f2,f3,f4,f5]:=hf it (m1);let hn:x.cps[i]?=none:=by let:x.cps.size<=i:=hg;simp[this]
  rcases hty with rfl|rfl
  .show wpAny_pyNext_ascii_end `ca st hn λh' eb=>#[rfl,I.turned (t':=s.toks) (λb o hb e=>eb b o hb e) f0 f1 f3 f4 f5]
  .show wpAny_pyNext_wide_end `ca st hn λh' eb=>#[rfl,I.turned (t':=s.toks) (λb o hb e=>eb b o hb e) f0 f1 f3 f4 f5]
 self:=λA i s Q E st h=>by
  rcases hty with rfl|rfl
  .show wpAny_pyIter_striter_ascii st h
  .show wpAny_pyIter_striter_wide st h
def mf(K:W.Frag)(z:TE):TI:=λZ H R=>z Z H λv H1=>(∃a,v=.ref a/\(∃xs,bQ K H1 a xs)/\R (nh K a) H1)\/(∃a,v=.ref a/\(∃xs,bV K H1 a xs)/\R (mz K a) H1)\/∃x,v=.str x/\R (nc x) H1
def QN(hl:PE X l tl):PI X tg l (mf X.K tl):=by
 intro zG s Z H R I h;show An (hl zG s Z H _ I h) λv z zq=>?_;let#[y,H1,B,L,q1]:=zq;rcases q1 with⟨a,e,⟨xs,O⟩,q⟩|⟨a,e,⟨xs,O⟩,q⟩|⟨x,e,q⟩
 .subst e;cases L;let#[F,rv,p,hz]:=B.list O;show wpAny_pyIter_list p.isList ?_;show#[z.heap.objs.size,[z.heap.objs.size],_,_,H1,rfl,B.kept (t':=z.toks) λb o e=>qc _ e,Wp a _,#[_,qd _ rfl,rfl,rfl],λb G=>?_,q];let e:b=z.heap.objs.size:=by simpa using G
  subst e;show B.fpOk `j (B.hok.fresh `j)
 .subst e;cases L;let#[F,rv,p,hz]:=B.tuple O;show wpAny_pyIter_tuple (show z.heap.IsTuple a F.toArray from p) ?_;show#[z.heap.objs.size,[z.heap.objs.size],_,_,H1,rfl,B.kept (t':=z.toks) λb o e=>qc _ e,Wb a _,#[_,qd _ rfl,rfl,rfl],λb G=>?_,q];let e:b=z.heap.objs.size:=by simpa using G
  subst e;show B.fpOk `j (B.hok.fresh `j)
 .subst e;let#[t,rfl]:=L;let J:∀(ty:String)(o:Obj),(ty="str_ascii_iterator"\/ty="str_iterator")->o.cls=.type ty->o.data=.fields [.str x t,.int 0 0].toArray->o.isFreed=false->gq X zG Z tg R (.ref z.heap.objs.size) {z with heap:=z.heap.push o}:=λty o M hc hd hf=>by
   show#[z.heap.objs.size,[z.heap.objs.size],_,_,H1,rfl,B.kept (t':=z.toks) λb o e=>qc _ e,Vc _ x t ty M,#[_,qd _ hf,hc,hd],λb G=>?_,q];let e:b=z.heap.objs.size:=↑G
   subst e;show B.fpOk `j (B.hok.fresh `j)
  cases Y:x.cps.all (·<128)
  .show wpAny_pyIter_wide Y (J "str_iterator" _ (.inr rfl) rfl rfl rfl)
  .show wpAny_pyIter_ascii Y (J "str_ascii_iterator" _ (.inl rfl) rfl rfl rfl)
section
variable{K:W.Frag}
def Sw(e:x.cps.toList=l):kR K (nc x) (l.map λc=>.str [c]) F0:=λi U Z F G H sm z=>by
 let J:x.cps.size=l.length:=by rw[<-e];simp
 show#[λd v=>?_,λh=>by show x.cps.size<=i;rw[J];simpa using h];rw[qF]at v;cases q:l[i]? with
 |none=>rw[q]at v;cases v
 |some c=>
  rw[q]at v;let B:D.str [c]=d:=qf v;let hi:i<l.length:=(qg.mp q).1;let O:x.cps[i]?=some c:=by rw[<-qZ,e];show q
  show#[by show i<x.cps.size;rw[J];show hi,λy H' M=>?_];let#[rfl,Y,L,rfl]:=M;rw[O]at L;let:c=Y:=qf L;subst this;rw[<-B];show#[F,zp.refl F,z,.str rfl (by show 1<=_;decide)]
def Bn(h:FE X e we):FI X tg e (bD we):=λpn xe hp=>by
 show PI.imp (QN (h pn xe hp)) λZ H R q=>?_;let#[F,G,U,P,PX,h1,hw,L,hx]:=q;show#[F,G,U,_,PX,h1,hw,λr h2 v F1 H1 M s1 r1 rv=>?_,hx];let#[#[s,J],eg,M]:=Ao M;let#[l,el,M]:=Ao M;let#[F2,s2,l2,r2]:=AA (U':=[]) (Z':=[]) r1 (Ae r1) rv eg;let#[F3,s3,rp,O]:=Rel.giveD (U:=J) (vs:=[v]) (ss:=[s]) r2 (Ae r2);let Y:=s1.trans `bo;cases rp with
 |cons a b=>
  let B:items s.toD=some l:=el;generalize s.toD=d at a B;cases a with
  |lst e r=>have:l=_:=(qf B).symm;subst this;show .inl #[_,rfl,#[_,bQ.mono O.fr e],L _ J F3 H1 _ M Y O (VL e r)]
  |tup e r=>have:l=_:=(qf B).symm;subst this;show .inr (.inl #[_,rfl,#[_,bV.of (O.fr _ _ e)],L _ J F3 H1 _ M Y O (Tp (bV.of e) r)])
  |str e z=>have:l=_:=(qf B).symm;subst this;show .inr (.inr #[_,rfl,L _ J F3 H1 _ M Y O (Sw e)])
  |_=>cases B
def CZ(hg:Gl X "range")(hm:X.mg "range"=none)(ha:FE X a we)(hs:autoParam (starEach [a] X.env=[(false,eval a X.env)]) rZ9):FI X tg (.Call (.Name "range" p) [a] [] pos) (aR we):=λpn xe hp=>by
 show PI.imp (Vy (X:=wp X pn xe) hg hm (Aa ha Ab hs pn xe hp) hs) λZ H R q=>?_;let#[F,G,U,P,PX,O,hw,Y,hx]:=q;show#[F,G,U,λM B=>match M with|[r]=>(match view r B with|some (.int j)=>(-big<=j/\j<=big)/\P (fromTo 0 j.toNat) B|_=>False)|_=>False,PX,O,hw,λM B vs F1 H1 z s1 L hl J=>?_,hx];match M,vs,J,L,z with
 |[r],[v],J,L,z=>
  dsimp only at z;split at z
  .rename_i j ej;let rp:=look (U':=[]) (Z':=[]) L hl J.1 ej;cases rp;let#[#[h1,h2],z]:=z;let eb:(big:Int)=1000000:=rfl;show#[j,rfl,∅,∅,Y _ B F1 H1 _ z s1 ((show Rel X.K (B++[zr r]) (Z++[some `bp]) F1 G H1 from L).drop hl) OB]
  .show z.elim
 |[],_,_,_,z=>show z.elim
 |[_],[],J,_,_=>show J.elim
 |[_],_::_::_,J,_,_=>show J.2.elim
 |_::_::_,_,_,_,z=>show z.elim
def Ob(hg:Gl X "range")(hm:X.mg "range"=none)(ha:FE X a we)(hb:FE X b wb)(hs:autoParam (starEach [a,b] X.env=[(false,eval a X.env),(false,eval b X.env)]) rZ9)(L:autoParam (starEach [b] X.env=[(false,eval b X.env)]) rZ9):
  FI X tg (.Call (.Name "range" p) [a,b] [] pos) (fY we wb):=λpn xe hp=>by
 show PI.imp (VH (X:=wp X pn xe) hg hm (Aa ha (Aa hb Ab L) (by rw[hs,L]) pn xe hp) hs L) λZ H R q=>?_;let#[F,G,U,P,PX,O,hw,h5,hx]:=q;show#[F,G,U,λM B=>match M with|[r,t]=>(match view r B,view t B with|some (.int i),some (.int j)=>(-big<=i/\i<=big/\-big<=j/\j<=big)/\P (fromTo i (j-i).toNat) B|_,_=>False)|_=>False,PX,O,hw,λM B vs F1 H1 z s1 Y hl J=>?_,hx];match M,vs,J,Y,z with
 |[r,t],[v,u],J,Y,z=>
  dsimp only at z;split at z
  .rename_i i j ei ej;let#[rp,rq,r2]:=Ek Y hl J.1 J.2.1 ei ej;cases rp;cases rq;let#[#[h1,h2,h3,h4],z]:=z;let eb:(big:Int)=1000000:=rfl;show#[i,j,rfl,#[∅,∅,∅,∅],h5 _ B F1 H1 _ z s1 r2 OB]
  .show z.elim
 |[],_,_,_,z=>show z.elim
 |[_],_,_,_,z=>show z.elim
 |[_,_],[],J,_,_=>show J.elim
 |[_,_],[_],J,_,_=>show J.2.elim
 |[_,_],_::_::_::_,J,_,_=>show J.2.2.elim
 |_::_::_::_,_,_,_,z=>show z.elim
end
def Cg(hc:X.calm=true)(hi:FI X tg iter wi)(hg:FG X ks tg g)(hb:pM X ks body wb)(hs:∀x,foldedSetIterable iter X.env x=pure x:=by intro _;rfl):FS X ks (.For tg iter body [] pos) (dF wi g wb):=λpn xe hp=>by
 show PS.imp (Rg (X:=wp X pn xe) hp hc (hi pn xe hp) (hg pn xe hp) `db hs) λD Z H q=>?_;let#[F,G,U,E,h9,hw,n,b,c,r,x]:=q;show#[F,G,U,_,_,h9,hw,λl h7 F1 H1 J hk s1 r1 it=>?_,x.mono (λL z=>by rw[z];show KP.refl) `c `an];show#[λi m L H2=>m=l.length-i/\i<=l.length/\∃F2 U2,KP ks Z L/\zp F1 F2/\Rel X.K U2 L F2 G H2/\cK g wb (l.drop i) E U2,#[l.length,rfl,zero_le _,F1,h7,KP.refl,zp.refl F1,r1,hk],?_];rintro i m L H2 ⟨rfl,hi,F2,U2,kp,s2,r2,h1⟩;let#[e2,e1]:=it i U2 L F2 G H2 s2 r2;by_cases h2:i<l.length
 .obtain⟨go,h8⟩:=e2 l[i] (by simp);show .inr #[go,λh3 H3=>i+1<=l.length/\∃F3 h5,KP ks Z h3/\zp F1 F3/\Rel X.K h5 h3 F3 G H3/\cK g wb (l.drop (i+1)) E h5,λh3 H3 h=>#[l.length-(i+1),∅,rfl,h],λy H3 hy=>?_];let#[F3,s3,r3,rp]:=h8 y H3 hy;rw[drop_eq_getElem_cons h2]at h1;show#[F3,G,U2,_,_,r3.push rp,h1,λh6 hx F4 H4 e3 k4 s4 r4=>?_];let O:=kp.trans k4;let h4:=s1.trans (s2.trans (s3.trans s4));exact⟨F4,G,h6,_,r4,e3,λB M F' H' h Y s r=>#[h2,F',B,O.trans Y,s2.trans (s3.trans (s4.trans s)),r,h],λB M F' H' h Y s r=>n B M F' H' h (O.trans Y) (h4.trans s) r,
   λB M F' H' h Y s r=>#[h2,F',B,O.trans Y,s2.trans (s3.trans (s4.trans s)),r,h],λa B M v F' H' h Y s q rv=>r a B M v F' H' h (O.trans Y) (h4.trans s) q rv,x.mono (λe4 Y=>O.trans Y) h4 `an⟩
 .let e:i=l.length:=Nat.le_antisymm hi (not_lt.mp h2);subst e;rw[List.drop_length]at h1;show .inl #[e1 `j,n U2 L F2 H2 h1 kp `as r2]
def JS(hc:FT X c wc)(hb:pM X ks body wb):FS X ks (.While c body [] pos) (dN wc wb):=λpn xe hp=>by
 show PS.imp (UJ (X:=wp X pn xe) hp (hc pn xe hp) `db) λD Z H q=>?_;let#[F,G,U,E,h4,#[J,#[m0,j0],step],n,b,c,r,x]:=q;show#[λm O H2=>∃F2 U2,KP ks Z O/\zp F F2/\Rel X.K U2 O F2 G H2/\J m U2,#[m0,F,U,KP.refl,zp.refl F,h4,j0],?_];rintro m O H2 ⟨F2,U2,kp,s2,r2,j2⟩;show#[F2,G,U2,_,_,r2,step m U2 j2,λk h2 F3 H3 hk s3 r3=>?_,x.mono (λh3 z=>by rw[z];show kp) s2 `an];let L:=s2.trans s3;cases k with
 |true=>
  refine#[λh1 H4=>∃m',m'<m/\∃F2 U2,KP ks Z h1/\zp F F2/\Rel X.K U2 h1 F2 G H4/\J m' U2,λh1 H4 h=>h,?_];exact⟨F3,G,h2,_,r3,hk,λB M F' H'⟨m',hm,h⟩ Y s r=>#[m',hm,F',B,kp.trans Y,L.trans s,r,h],λB M F' H' h Y s r=>n B M F' H' h (kp.trans Y) (L.trans s) r,
   λB M F' H'⟨m',hm,h⟩ Y s r=>#[m',hm,F',B,kp.trans Y,L.trans s,r,h],λa B M v F' H' h Y s q rv=>r a B M v F' H' h (kp.trans Y) (L.trans s) q rv,x.mono (λh3 Y=>kp.trans Y) L `an⟩
 |false=>show n h2 O F3 H3 hk kp L r3
inductive eI(K:W.Frag)(f:WF)(n:Nat)(vs:List V)(H:Hp)(Q:VK)(Zq:XK):Prop
 |mk (F G:Hp) (ss:List S) (P:S->List S->Prop) (PX:D->List S->Prop) (hn:vs.length=n) (zI:Rel K (ss.map some) (vs.map some) F G H) (hw:f ss P PX) (hok:∀s ss' v F' H',P s ss'->zp F F'->ss'.length=ss.length->Rel K (ss'.map some++[some s]) (vs.map some++[some v]) F' G H'->Q v H') (hex:∀d ss' F' H' C dx,PX d ss'->zp F F'->ss'.length=ss.length->Rel K (ss'.map some) (vs.map some) F' G H'->cw K F' d C dx->Zq (.ref C) dx H'):eI K f n vs H Q Zq
section
variable{K:W.Frag}
def Rel.comm(h:U.length=Z.length)(r:Rel K (U++U') (Z++Z') F G H):Rel K (U'++U) (Z'++Z) F G H:=by let:=Rel.swap (U:=[]) (Z:=[]) (U1:=U) (Z1:=Z) (U2:=U') (Z2:=Z') rfl h r;simpa using this
def Rel.lend(r:Rel K (U++(none::U')) (Z++(some v::Z')) F G H)(h:U.length=Z.length)(hs:slot U i=some s)(z:Z[i]?=some `I):
  Rel K (U.set i none++(some s::U')) (Z++(some v::Z')) F G H:=by
 let#[fp,e,nd,ap]:=r.en;let#[f1,O,rfl,a,b]:=e.cut h;let#[v',M,B,L,Y,rfl,q,up]:=a.at hs;rw[z]at Y;let e2:v=v':=↑Y
 subst e2;let a2:=up (F':=F) (H':=H) (o:=none) (u:=some v) (fi':=[]) `c (λ_ _=>rfl) (.no .nil);let es:Z.set i `I=Z:=by
  apply ext_getElem?;intro j;by_cases J:i=j
  .subst J;rw[getElem?_set_self (qg.mp z).1,z]
  .rw[getElem?_set_ne J]
 rw[es]at a2;cases b with
 |no b=>
  let p:((M++([]++L))++(B++O)).Perm ((M++(B++L))++O):=by simp;show List.Perm.append_left _ ?_;rw[<-qp,<-qp B];show List.Perm.append_right _ qN
  show#[r.fr,r.gr,_,a2.app (.so q b),p.nodup_iff.mpr nd,λx hx=>ap x (p.mem_iff.mp hx)]
def Rel.back1(r:Rel K (U++(some s::U')) (Z++(some v::Z')) F G H)(h:U.length=Z.length)(B:Z[i]?=some `I):Rel K (U.set i `bg++U') (Z++Z') F G H:=by
 let hi:i<Z.length:=(qg.mp B).1;let es:Z.set i `I=Z:=by apply ext_getElem?;grind
 let J:U'.length=Z'.length:=by let:=r.len;grind
 let z:=Rel.swap (U1:=[some s]) (Z1:=[some v]) (U2:=U') (Z2:=Z') h rfl r;rw[<-qp,<-qp]at z;let L:=Rel.store (i:=i) z (by simp[h,J]) (by simp;lia -verbose);grind
theorem LW:∀{rs:List R}{vs:List V}{ms:List Bool}{U U' U1:Env}{ss:List S}{F:Hp}{Z':St},Rel K (U++(rs.map zr++U')) (Z++(vs.map some++Z')) F G H->U.length=Z.length->pI Z vs rs->cP ms rs U=some (ss,U1)->
  ∃F',zp F F'/\U1.length=U.length/\ss.length=rs.length/\Rel K (U1++(ss.map some++U')) (Z++(vs.map some++Z')) F' G H
 |[],[],ms,U,U',U1,ss,F,Z',r,h,_,e=>by
  let z:some (([]:List S),U)=some (ss,U1):=by cases ms<;>show e
  cases z;show#[F,zp.refl F,rfl,rfl,r]
 |[],_::_,_,_,_,_,_,_,_,_,_,h,_=>h.elim
 |_::_,[],_,_,_,_,_,_,_,_,_,h,_=>h.elim
 |x::rs,v::vs,ms,U,U',U1,ss,F,Z',r,h,rv,e=>by
  --the first one,as it is handed on
  have first:∃s U2 B M,cP ms.tail rs U2=some (B,U1)/\ss=s::B/\zp F M/\U2.length=U.length/\Rel K (U2++(some s::(rs.map zr++U'))) (Z++(some v::(vs.map some++Z'))) M G H:=by
   cases x with
   |v s=>
    let z:(match cP ms.tail rs U with|some (ss,U1)=>some (s::ss,U1)|none=>none)=some (ss,U1):=by cases ms<;>show e
    cases q:cP ms.tail rs U with
    |none=>rw[q]at z;cases z
    |some p=>let#[B,L]:=p;rw[q]at z;cases z;show#[s,U,B,F,q,rfl,zp.refl F,rfl,r]
   |loc i=>
    have z:(match slot U i with
     |some s=>if ms.headD false then(match cP ms.tail rs (U.set i none)with
      |some (ss,U1)=>some (s::ss,U1)
      |none=>none)
      else(match cP ms.tail rs (U.set i (some (.sh s.toD)))with
       |some (ss,U1)=>some (.sh s.toD::ss,U1)
       |none=>none)
     |none=>none)=some (ss,U1):=by cases ms<;>show e
    cases q:slot U i with
    |none=>rw[q]at z;cases z
    |some s=>
     rw[q]at z;dsimp only at z;by_cases hm:ms.headD false=true
     .rw[q4 hm]at z;cases J:cP ms.tail rs (U.set i none)with
      |none=>rw[J]at z;cases z
      |some p=>let#[B,L]:=p;rw[J]at z;cases z;show#[s,U.set i none,B,F,J,rfl,zp.refl F,by simp,Rel.lend r h q rv.1]
     .rw[q5 hm]at z;cases J:cP ms.tail rs (U.set i (some (.sh s.toD)))with
      |none=>rw[J]at z;cases z
      |some p=>let#[B,L]:=p;rw[J]at z;cases z;let#[M,Y,l1,O]:=AA (x:=.loc i) (s:=.sh s.toD) (U1:=U.set i `F) r h rv.1 (by show(match slot U i with|some s=>some (S.sh s.toD,U.set i `F)|none=>none)=_;rw[q]);show#[_,_,B,M,J,rfl,Y,by simp,O]
  let#[s,U2,B,M,J,rfl,Y,l1,O]:=first
  let h2:U2.length=Z.length:=l1.trans h;let hl:(rs.map zr++U').length=(vs.map some++Z').length:=by let:=O.len;rw[qq,qq,qt,qt]at this;lia
  let h1:U'.length=Z'.length:=by let:=rv.2.len;simp at hl;lia
  let r2:=Rel.swap (U1:=[some s]) (Z1:=[some v]) (U2:=rs.map zr++U') (Z2:=vs.map some++Z') h2 rfl O;rw[qp,qp]at r2;let#[F2,s2,l2,l3,r3]:=LW (rs:=rs) (vs:=vs) r2 h2 rv.2 J;let h3:U1.length=Z.length:=l2.trans h2;rw[<-qp (B.map some),<-qp (vs.map some)]at r3;let r4:=Rel.swap (U1:=B.map some++U') (Z1:=vs.map some++Z') (U2:=[some s]) (Z2:=[some v]) h3 (by simp[l3,rv.2.len,h1]) r3;show#[F2,Y.trans s2,l2.trans l1,by simp[l3],r4]
def Hc:∀{rs:List R}{vs:List V}{ms:List Bool}{U U':Env}{ss:List S}{Z':St},Rel K (U++(ss.map some++U')) (Z++(vs.map some++Z')) F G H->U.length=Z.length->ss.length=rs.length->pI Z vs rs->
  (back ms rs ss U).length=U.length/\Rel K (back ms rs ss U++U') (Z++Z') F G H
 |[],[],ms,U,U',[],Z',r,h,_,_=>by
  let e:back ms [] [] U=U:=by cases ms<;>rfl
  show#[rfl,r]
 |[],_,_,_,_,_::_,_,_,_,hl,_=>by simp at hl
 |_::_,_,_,_,_,[],_,_,_,hl,_=>by simp at hl
 |[],_::_,_,_,_,_,_,_,_,_,h=>h.elim
 |_::_,[],_,_,_,_,_,_,_,_,h=>h.elim
 |x::rs,v::vs,ms,U,U',s::ss,Z',r,h,hl,rv=>by
  cases x with
  |v t=>
   let e:back ms (.v t::rs) (s::ss) U=back ms.tail rs ss U:=by cases ms<;>rfl
   show Hc (rs:=rs) (vs:=vs) (r.mid h) h ↑hl rv.2
  |loc i=>
   let e:back ms (.loc i::rs) (s::ss) U=if ms.headD false then back ms.tail rs ss (U.set i `bg)else back ms.tail rs ss U:=by cases ms<;>rfl
   rw[e];by_cases z:ms.headD false=true
   .rw[q4 z];let q:=Hc (rs:=rs) (vs:=vs) (ms:=ms.tail) (U:=U.set i `bg) (Rel.back1 r h rv.1) ↑h ↑hl rv.2;show#[q.1.trans (by simp),q.2]
   .rw[q5 z];show Hc (rs:=rs) (vs:=vs) (r.mid h) h ↑hl rv.2
end
def Rq(Fk:fX X.prog X.w X.K X.mg X.base (jQ X.prog X.w) k f fd ps (eI X.K wf n))(hr:cB k X.A)(hg:Gl X x)(hm:X.mg x=some `cn)(O:W.keepIn X.K `cn=true)(hb:Binds X.K fd ps [])
  (ha:FA X (e::es) wa)(h2:∀ss P PX,wf ss P PX->ss.length=n)(h7:autoParam ((x==("__debug__":Str))=false) dZ9)(he:autoParam (starEach (e::es) X.env=(false,eval e X.env)::starEach es X.env) rZ9)(h5:autoParam ((backTo pos `h).any (·.1)=false) rZ9):
  FE X (.Call `dj (e::es) [] pos) (zz wf ms wa):=λpn xe hp=>by
 show PE.imp (TY (X:=wp X pn xe) Fk hr hg hm O hb `ar h7 he h5) λZ H Q q=>?_;show(many (k:=λrs B Q E=>zo (cP ms rs B) λp=>wf p.1 (λs ss=>Q `L (back ms rs ss p.2)) (λx ss=>E x (back ms rs ss p.2))) q).mono λvs H1 h1=>?_;let#[F,G,U,rs,P,PX,h3,hl,L,O,h6,hx]:=h1;let#[#[ss,B],ep,O]:=Ao O;let#[F1,s1,l1,M,r1]:=LW (U':=[]) (Z':=[]) ↑h3 hl L ep;let h1:B.length=Z.length:=l1.trans hl;let r2:=Rel.comm (U':=ss.map some) (Z':=vs.map some) h1 ↑r1;let h4:(ss.map some).length=(vs.map some).length:=by simp[M,L.len]
 let#[G',r3,gg,bk]:=r2.hide h4;let hn:=h2 _ _ _ O;show#[F1,G',ss,_,_,by rw[L.len,<-M];show hn,r3,O,λs J v F2 H2 hp Y l3 r4=>?_,λd J F2 H2 C dx hp Y l3 r4 cd a s' I Fl=>?_]
 .let r5:=bk Y r4;let z:(J.map some++[some s]).length=(vs.map some++[some v]).length:=by simp[l3,M,L.len]
  let r6:=Rel.comm z r5;let#[l7,r7]:=Hc (ms:=ms) (rs:=rs) (vs:=vs) (U':=[some s]) (Z':=[some v]) r6 h1 (l3.trans M) L;show h6 _ _ v F2 H2 hp (s1.trans Y) r7 trivial
 .let r5:=bk Y r4;let z:(J.map some).length=(vs.map some).length:=by simp[l3,M,L.len]
  let r6:=Rel.comm z r5;let#[l7,r7]:=Hc (ms:=ms) (rs:=rs) (vs:=vs) (U':=[]) (Z':=[]) ↑r6 h1 (l3.trans M) L;show hx d _ Z F2 H2 `p s' hp rfl (s1.trans Y) ↑r7 I #[a,C,dx,rfl,cd,Fl]
section
variable{K:W.Frag}
def Rel.pushNs(r:Rel K U Z F G H):∀m:Nat,Rel K (U++List.replicate m none) (Z++List.replicate m none) F G H
 |0=>↑r
 |m+1=>by let:=(Rel.pushNs r m).pushN (u:=none);rw[qp,qp,<-List.replicate_succ',<-List.replicate_succ']at this;show this
@[inline]def Args(K:W.Frag)(F:Hp):List S->List V->St->Prop
 |[],[],_=>True
 |s::ss,v::vs,u::Z=>((∃d,s=.sh d/\aQ K F v d)\/(s.isSh=false/\u=some v))/\Args K F ss vs Z
 |_,_,_=>False
def IR:∀{ss:List S}{vs:List V}{fs:List S}{U U' Ua:Env}{Z Z' Za:St},aC ss U=some fs->Rel K (Ua++(U++U')) (Za++(Z++Z')) F G H->Ua.length=Za.length->U.length=Z.length->Args K F ss vs Z->
  fs.length=ss.length/\vs.length=ss.length/\Rel K (Ua++(fs.map some++U')) (Za++(vs.map some++Z')) F G H
 |[],[],fs,U,U',Ua,Z,Z',Za,e,r,h,h2,_=>by
  let z:some ([]:List S)=some fs:=by cases U<;>show e
  cases z;show#[rfl,rfl,?_];let J:=Rel.swap (U1:=U) (Z1:=Z) (U2:=U') (Z2:=Z') h h2 r;rw[<-qp,<-qp]at J;let hl:(Ua++U').length=(Za++Z').length:=by let:=r.len;simp at this;simp;lia
  simpa using J.drop hl
 |[],_::_,_,_,_,_,_,_,_,_,_,_,_,h=>by cases h
 |_::_,[],_,_,_,_,_,_,_,_,_,_,_,h=>by cases h
 |_::_,_::_,_,_,_,_,[],_,_,_,_,_,_,h=>by cases h
 |_::_,_::_,_,[],_,_,_::_,_,_,_,_,_,h2,_=>by simp at h2
 |s::ss,v::vs,fs,o::U,U',Ua,u::Z,Z',Za,e,r,h,h2,ha=>by
  let M:U.length=Z.length:=↑h2
  let#[h1,L]:=ha;rcases h1 with⟨d,rfl,rp⟩|⟨hs,hu⟩
  .have z:(aC ss U).map (S.sh d::·)=some fs:=e;cases q:aC ss U with
   |none=>rw[q]at z;cases z
   |some B=>
    rw[q]at z;let h3:S.sh d::B=fs:=qf z;subst h3;let J:Rel K (Ua++(U++U')) (Za++(Z++Z')) F G H:=Rel.mid (U:=Ua) (Z:=Za) r h;let#[l1,Y,O]:=IR q J h M L;let hl:(B.map some++U').length=(vs.map some++Z').length:=by let:=O.len;simp at this;simp;lia
    let r3:=O.push rp;rw[qp Ua,qp Za]at r3;let r4:=Rel.swap (U1:=B.map some++U') (Z1:=vs.map some++Z') (U2:=[some `l]) (Z2:=[some v]) h hl r3;show#[by simp[l1],by simp[Y],r4]
  .subst hu;let z:∃t B,o=some t/\aC ss U=some B/\fs=t::B:=by
    cases s with
    |sh d=>cases hs
    |_=>
     cases o with
     |none=>cases e
     |some t=>
      let z:(aC ss U).map (t::·)=some fs:=e;cases q:aC ss U with
      |none=>rw[q]at z;cases z
      |some B=>rw[q]at z;show#[t,B,rfl,rfl,(qf z).symm]
   let#[t,B,rfl,q,rfl]:=z;let J:Rel K ((Ua++[some t])++(U++U')) ((Za++[some v])++(Z++Z')) F G H:=↑r
   let#[l1,Y,O]:=IR q J (by simp[h]) M L;show#[by simp[l1],by simp[Y],↑O]
def LU{ks:List Nat}:∀{ss:List S}{vs:List V}{Z:St}{j:Nat}{fp:List Addr},zt K F0 H (ss.map some) (vs.map some) fp->zp F0 F->(∀i s,ss[i]?=some s->(j+i)∈ks\/s.isSh=true)->
  (∀i v,vs[i]?=some v->(j+i)∈ks->Z[i]?=some `I)->vs.length<=Z.length->Args K F ss vs Z
 |[],[],_,_,_,_,_,_,_,_=>trivial
 |[],_::_,_,_,_,r,_,_,_,_=>by cases r
 |_::_,[],_,_,_,r,_,_,_,_=>by cases r
 |_::_,_::_,[],_,_,_,_,_,_,h=>by simp at h
 |s::ss,v::vs,u::Z,j,_,.so a b,sm,hk,hv,hl=>by
  show#[?_,LU (j:=j+1) b sm (λi t e=>by let:=hk (i+1) t e;rwa[show j+(i+1)=j+1+i by lia]at this) (λi t e z=>by simpa using hv (i+1) t ↑e (by rwa[show j+(i+1)=j+1+i by lia])) ↑hl];cases B:s.isSh with
  |true=>
   cases s with
   |sh d=>cases a with
    |sh r=>show .inl #[d,rfl,r.mono sm]
   |_=>cases B
  |false=>show .inr #[rfl,?_];let:=hk 0 s rfl;rw[B]at this;let z:(j+0)∈ks:=this.resolve_right (by simp);simpa using hv 0 v rfl z
theorem KZ{st:Stmt}(Fn:yW K x qual st f fd)(Sc:aF N ps `dk)(hn:ps.length=n)(hm:N.length=m)
  (hb:∀(O:Value)(A:Around)(B:List PySem.Env)(s:Shared)(H:Hp)(E:XK),cB k (A.deeper (envOfC qual `dk s.heap.objs.size f O))->pM (fU (jQ P w) P w K mg base N qual `dk f O A B s H E) ks (cL st) wb):
  fX P w K mg base (jQ P w) (k+1) f fd ps (eI K (fQ n m ks wb) n):=by
 show Fn.okX Sc (λY H Q E h=>?_) (λO A B s H Y Q E hr h=>?_)
 .obtain⟨F,G,ss,P',PX,hl,_⟩:=h;rw[hl,hn]
 .obtain⟨F,G,ss,P',PX,h6,h3,⟨e3,e2,h2⟩,h9,hex⟩:=h;show#[_,hb O A B s H E hr [] (fU (jQ P w) P w K mg base N qual `dk f O A B s H E).xe PassesOwn.leaving,?_];let e1:N.length-Y.length=m-n:=by rw[h6,hm]
  let h8:Rel K (ss.map some++List.replicate (m-n) none) (L2.start N Y) F G H:=by unfold L2.start;rw[e1];show h3.pushNs (m-n)
  let h7:∀i v,Y[i]?=some v->(L2.start N Y)[i]?=some `I:=λi v e=>by unfold L2.start;let hi:i<Y.length:=(qg.mp e).1;rw[getElem?_append_left ↑hi,qF,e];rfl
  --how the arguments are at an end
  have h4:∀{U':Env}{Z':St}{F':Hp}{fs:List S},KP ks (L2.start N Y) Z'->zp F F'->U'.length=Z'.length->aC ss U'=some fs->Args K F' ss Y Z':=by
   intro U' Z' F' fs L J M e;let#[fp,en,_]:=h3.en;let h5:Y.length<=Z'.length:=by
    --aC reads as many slots as there are arguments
    have:∀(ss:List S)(U:Env)(fs:List S),aC ss U=some fs->ss.length<=U.length:=by
     intro ss;induction ss with
     |nil=>intro U fs _;simp
     |cons s ss ih=>
      intro U fs e;cases U with
      |nil=>cases s<;>cases e
      |cons o U=>
       have:∃gs,aC ss U=some gs:=by
        cases q:aC ss U with
        |some gs=>show#[gs,rfl]
        |none=>
         cases s with
         |sh d=>have e':(aC ss U).map (S.sh d::·)=some fs:=e;rw[q]at e';cases e'
         |_=>
          cases o with
          |none=>cases e
          |some t=>have e':(aC ss U).map (t::·)=some fs:=e;rw[q]at e';cases e'
       let#[gs,q]:=this;let:=ih U gs q;simp;show this
    let:=this ss U' fs e;lia
   show LU (ks:=ks) (F:=F') (Z:=Z') (j:=0) en J (λi s e=>by simpa using e2 i s e) (λi v e z=>by rw[L i ↑z];show h7 i v e) h5
  let h1:∀{U':Env}{Z':St}{F' H':Hp}{t:S}{v:V}{fs:List S},KP ks (L2.start N Y) Z'->zp F F'->Rel K (U'++[some t]) (Z'++[some v]) F' G H'->aC ss U'=some fs->P' t fs->Q v H':=by intro U' Z' F' H' t v fs L J r e hp;let M:U'.length=Z'.length:=Ae r;let#[l1,l2,r1]:=IR (Ua:=[]) (Za:=[]) (U':=[some t]) (Z':=[some v]) e r rfl M (h4 L J M e);show h9 t fs v F' H' hp J l1 r1
  show#[F,G,_,_,h8,h2,λU' Z' F' H' h L J r=>?_,λU' Z' F' H' h=>h.elim,λU' Z' F' H' h=>h.elim,λa U' Z' v F' H' h L J r rv=>?_,λd U' Z' F' H' u s' h L J r I xr=>?_]
  .obtain⟨fs,e,h⟩:=Ao h;show h1 L J (r.push .non) e h
  .cases a with
   |v t=>let#[fs,e,h]:=Ao h;show h1 L J r e h
   |loc i=>
    let#[t,et,h]:=Ao h;let hl:=Ae r;by_cases hi:i<n
    .rw[q4 hi]at h;let#[fs,e,h]:=Ao h;let#[F2,s2,_,r2]:=AA (x:=.loc i) (s:=.sh t.toD) (U1:=U'.set i (some (.sh t.toD))) (U':=[]) (Z':=[]) r hl rv (by show(match slot U' i with|some s=>some (S.sh s.toD,U'.set i `F)|none=>none)=_;rw[et]);show h1 L (J.trans s2) r2 e h
    .rw[q5 hi]at h;let#[fs,e,h]:=Ao h;let r2:=Rel.lend (U':=[]) (Z':=[]) r hl et rv;refine h1 L J r2 ?_ h
     --the slot lies behind the parameters
     have:∀(ss:List S)(U:Env)(i:Nat),ss.length<=i->aC ss (U.set i none)=aC ss U:=by
      intro ss;induction ss with
      |nil=>intro U i _;cases U<;>cases i<;>rfl
      |cons s ss ih=>
       intro U i hi;cases U with
       |nil=>rfl
       |cons o U=>
        cases i with
        |zero=>simp at hi
        |succ i=>
         let e:=ih U i ↑hi;cases s with
         |sh d=>show(aC ss (U.set i none)).map _=(aC ss U).map _;rw[e]
         |_=>
          cases o with
          |none=>rfl
          |some t=>show(aC ss (U.set i none)).map _=(aC ss U).map _;rw[e]
     rw[this ss U' i ∅];show e
  .obtain⟨fs,e,h⟩:=Ao h;let#[a,C,dx,rfl,cd,Fl]:=xr;let#[l1,l2,r1]:=IR (K:=K) (Ua:=[]) (Za:=[]) (U':=[]) (Z':=[]) e (by simpa using(show Rel K U' Z' F' G H' from r)) rfl r.len (h4 L J r.len e);show TQ I Fl (hex d fs F' H' C dx h J l1 ↑r1 cd)
end
end FL
namespace L2
open PySem PySem.Spec PyProof.Rows
def cR(cells:List (Str×Addr)):List (Str×NameKind)->List (Str×Addr)->List (Str×Addr)
 |[],zL=>zL
 |(n,k)::r,zL=>if k==.free then(match cells.lookup n with|some c=>cR cells r ((n,c)::zL)|none=>cR cells r zL)else cR cells r zL
def Kn(f:Str×NameKind->List (Str×Addr)->Sem (ForInStep (List (Str×Addr))))
  (hf:∀n k cs,f (n,k) cs=if k==.free then(do let a<-cellOf env n;pure (.yield ((n,a)::cs)))else pure (.yield cs)):
  ∀(names:List (Str×NameKind))(zL:List (Str×Addr)),(∀x∈names,x.2=.free->∃c,env.cells.lookup x.1=some c)->(forIn names zL f:Sem _)=pure (cR env.cells names zL)
 |[],zL,_=>by rw[List.forIn_nil];rfl
 |(n,k)::r,zL,h=>by
  rw[List.forIn_cons,hf];let hr:∀x∈r,x.2=.free->∃c,env.cells.lookup x.1=some c:=λx hx=>h x (qk _ hx);by_cases hk:(k==.free)=true
  .obtain⟨c,hc⟩:=h (n,k) qm ↑hk;let hc':env.cells.lookup n=some c:=hc;let e:cellOf env n=pure c:=by unfold cellOf;rw[hc']
   rw[q4 hk,e];let ih:=Kn f hf r ((n,c)::zL) hr;unfold cR;rw[q4 hk,hc'];rw[<-ih];simp
  .rw[q5 hk];let ih:=Kn f hf r zL hr;unfold cR;rw[q5 hk,<-ih];simp
def Xv(h:∀x∈scope.names,x.2=.free->∃c,env.cells.lookup x.1=some c):closureFor scope env=pure (cR env.cells scope.names []):=by show(forIn scope.names ([]:List (Str×Addr)) _>>=λv=>pure v)=_;rw[Kn (env:=env) _ (λn k v=>rfl) scope.names [] h];rfl
def IP:∀{names:List (Str×NameKind)}{v:List (Str×Addr)},(n,c)∈cR cells names v->(n,c)∈v\/((n,NameKind.free)∈names/\cells.lookup n=some c)
 |[],_,h=>.inl h
 |(m,k)::r,v,h=>by
  unfold cR at h;by_cases F:(k==.free)=true
  .rw[q4 F]at h;let B:k=.free:=by simpa using F
   cases q:cells.lookup m with
   |none=>
    rw[q]at h;rcases IP h with z|⟨z,w⟩
    .show .inl z
    .show .inr #[qk _ z,w]
   |some d=>
    rw[q]at h;rcases IP h with z|⟨z,w⟩
    .rcases qB.mp z with e|z
     .cases e;show .inr #[by rw[<-B];show qm,q]
     .show .inl z
    .show .inr #[qk _ z,w]
  .rw[q5 F]at h;rcases IP h with z|⟨z,w⟩
   .show .inl z
   .show .inr #[qk _ z,w]
def Hm(B:cells.lookup n=some c):∀{names:List (Str×NameKind)}{v:List (Str×Addr)},((n,c)∈v\/(n,NameKind.free)∈names)->(n,c)∈cR cells names v
 |[],_,h=>h.elim id λz=>by simp at z
 |(m,k)::r,v,h=>by
  unfold cR;by_cases F:(k==.free)=true
  .rw[q4 F];cases q:cells.lookup m with
   |none=>
    show Hm B ?_;rcases h with z|z
    .show .inl z
    .rcases qB.mp z with e|z
     .cases e;rw[B]at q;cases q
     .show .inr z
   |some d=>
    show Hm B ?_;rcases h with z|z
    .show .inl (qk _ z)
    .rcases qB.mp z with e|z
     .cases e;rw[B]at q;cases q;show .inl qm
     .show .inr z
  .rw[q5 F];show Hm B ?_;rcases h with z|z
   .show .inl z
   .rcases qB.mp z with e|z
    .cases e;show(F ⋯).elim
    .show .inr z
def Pc{α:Type}:∀{l:List (Str×α)}{n:Str}{c:α},(n,c)∈l->(∀v,(n,v)∈l->v=c)->l.lookup n=some c
 |[],_,_,h,_=>by simp at h
 |(m,d)::r,n,c,h,u=>by
  rw[lookup_cons];cases z:n==m with
  |true=>
   let e:n=m:=↑z
   subst e;show congrArg some (u d qm)
  |false=>
   show Pc (l:=r) ?_ λv B=>u v (qk _ B);rcases qB.mp h with e|h
   .cases e;simp at z
   .show h
def KB:∀{names:List (Str×NameKind)}{n:Nat}{v:List (Str×Addr)}{x:Str}{c:Addr},(x,c)∈cellsFrom n names v->(x,c)∈v\/((x,NameKind.cell)∈names/\n<=c)
 |[],_,_,_,_,h=>.inl h
 |(m,k)::r,n,v,x,c,h=>by
  unfold cellsFrom at h;by_cases F:(k==.cell)=true
  .rw[q4 F]at h;let B:k=.cell:=by simpa using F
   rcases KB h with z|⟨z,w⟩
   .rcases qB.mp z with e|z
    .cases e;show .inr #[by rw[<-B];show qm,q8 _]
    .show .inl z
   .show .inr #[qk _ z,∅]
  .rw[q5 F]at h;rcases KB h with z|⟨z,w⟩
   .show .inl z
   .show .inr #[qk _ z,w]
def HA:∀{names:List (Str×NameKind)}{n:Nat}{v:List (Str×Addr)}{x:Str},((x,NameKind.cell)∈names\/∃c,(x,c)∈v)->∃c,(x,c)∈cellsFrom n names v
 |[],_,_,_,h=>h.elim (λz=>by simp at z) id
 |(m,k)::r,n,v,x,h=>by
  unfold cellsFrom;by_cases B:(k==.cell)=true
  .rw[q4 B];show HA ?_;rcases h with z|⟨c,z⟩
   .rcases qB.mp z with e|z
    .cases e;show .inr #[n,qm]
    .show .inl z
   .show .inr #[c,qk _ z]
  .rw[q5 B];show HA ?_;rcases h with z|z
   .rcases qB.mp z with e|z
    .cases e;show(B ⋯).elim
    .show .inl z
   .show .inr z
def Jd{α:Type}:∀{l:List (Str×α)}{x:Str},(∃c,(x,c)∈l)->∃c,l.lookup x=some c
 |[],_,⟨_,h⟩=>by simp at h
 |(m,d)::r,x,⟨c,h⟩=>by
  rw[lookup_cons];cases v:x==m with
  |true=>show#[d,rfl]
  |false=>
   show Jd (l:=r) #[c,?_];rcases qB.mp h with e|h
   .cases e;simp at v
   .show h
def KF:∀{names:List (Str×NameKind)}{n:Nat}{v:List (Str×Addr)},(∀p∈v,p.2<n)->(∀p∈v,∀q∈v,p.2=q.2->p.1=q.1)->
  ∀p∈cellsFrom n names v,∀q∈cellsFrom n names v,p.2=q.2->p.1=q.1
 |[],_,_,_,h=>h
 |(m,k)::r,n,v,hb,h=>by
  unfold cellsFrom;by_cases G:(k==.cell)=true
  .rw[q4 G];refine KF (λp z=>?_) λp z q B e=>?_
   .rcases qB.mp z with rfl|z
    .show lt_succ_self _
    .show lt_succ_of_lt (hb p z)
   .rcases qB.mp z with rfl|z<;>rcases qB.mp B with rfl|B
    .rfl
    .let h1:=hb q B;let F:n=q.2:=e;show absurd h1 (by rw[<-F];show lt_irrefl _)
    .let h1:=hb p z;let F:p.2=n:=e;show absurd h1 (by rw[F];show lt_irrefl _)
    .show h p z q B e
  .rw[q5 G];show KF hb h
def Xh
  (hQ:∀h':Heap,(∀b o,s.heap.get? b=some o->h'.get? b=some o)->h'.Ns s.heap.objs.size (λ_=>none)->(∀x c,(x,c)∈cellsFrom (s.heap.objs.size+1) scope.names F->(x,c)∈F\/h'.IsCell c none)->
   Q {scope:=scope,locals:=s.heap.objs.size,globals:=globals,cells:=cellsFrom (s.heap.objs.size+1) scope.names F,qual:=qual,func:=none,code:=env.code,frame:=env.frame,builtins:=env.builtins} {s with heap:=h'}):
  wpAny M A (newFunctionEnv scope globals F [] qual none .none (some env)) Q E s:=by
 simp only[newFunctionEnv,isSome_some,if_true];show qa (wpAny_alloc ?_);show qa (wpAny_layCells _ (λJ kind cells=>by cases Y:kind==NameKind.cell<;>simp) _ _ _ _ ?_);rw[show({s with heap:=s.heap.push {cls:=.type "dict",data:=.dict #[]}}:Shared).heap.objs.size=s.heap.objs.size+1 from Heap.size_push ..];show qb (hQ _ (λb o e=>pushCells_keeps _ _ b o (qc _ e)) ((Heap.Ns.new s.heap (.type "dict")).keeps (pushCells_keeps _ _)) λx c h=>?_)
 --the new cells are empty
 have all:∀(names:List (Str×NameKind))(h:Heap)(B:List (Str×Addr)),(∀p∈B,p∈F\/h.IsCell p.2 none)->∀p∈cellsFrom h.objs.size names B,p∈F\/(pushCells h names).IsCell p.2 none:=by
  intro names;induction names with
  |nil=>intro h B G p v;show G p v
  |cons q r L=>
   intro h B G p v;let#[m,k]:=q;unfold cellsFrom at v;unfold pushCells;by_cases O:(k==.cell)=true
   .rw[q4 O]at v⊢;let e:(h.push {cls:=.type "cell",data:=.cell none}).objs.size=h.objs.size+1:=Heap.size_push ..;rw[<-e]at v;show L _ _ (λp v=>?_) p v;rcases qB.mp v with rfl|v
    .show .inr #[_,qd _ rfl,rfl]
    .rcases G p v with z|z
     .show .inl z
     .show .inr (z.keeps λb o e=>qc _ e)
   .rw[q5 O]at v⊢;show L h B G p v
 let:=all scope.names (s.heap.push {cls:=.type "dict",data:=.dict #[]}) F (λp v=>.inl v) (x,c) (by rw[Heap.size_push];show h);show this
def gT(N vars:List Str):List Str:=N.map (λx=>if x∈vars then Str.empty else x)++Str.empty::vars
def aB(X:Cx)(scope:Scope)(vars:List Str)(s:Shared)(H:Hp)(ex:List Addr):Cx where
 prog:=X.prog
 w:=X.w
 K:=X.K
 mg:=X.mg
 base:=X.base
 A:=X.A
 N:=gT X.N vars
 s₀:=s
 H₀:=H
 env:=compEnvC scope (cellsFrom (s.heap.objs.size+1) scope.names (cR X.env.cells scope.names [])) s.heap.objs.size X.env
 outer:=X.stack
 stack:=X.stack
 ex:=ex
 fn:=λx=>decide ((x,NameKind.cell)∈scope.names)
 calm:=X.calm
 pn:=[]
 xe:=λ_ _=>False
structure bS(outer scope:Scope)(N vars:List Str):Prop where
 kind:scope.kind=.function
 fr:∀x∈scope.names,x.2=.free->outer.names.lookup x.1=some .cell\/outer.names.lookup x.1=some .free
 nd:(scope.names.map (·.1)).Nodup
 own:∀x∈N,x∉vars->(x,NameKind.local)∉scope.names/\(x,NameKind.cell)∉scope.names
 emp:scope.names.lookup Str.empty=none
def Jc{α:Type}{l:List (Str×α)}{c:α}(v:(l.map (·.1)).Nodup):l.lookup n=some c↔(n,c)∈l:=by
 show#[mem_of_lookup,λh=>Pc h λB h'=>?_];induction l with
 |nil=>simp at h
 |cons p r z=>grind
theorem Pb{α β:Type}(g:Str->α->β):∀(l:List (Str×α))(n:Str),(l.map λp=>(p.1,g p.1 p.2)).lookup n=(l.lookup n).map (g n)
 |[],_=>rfl
 |(m,d)::r,n=>by
  rw[qz,lookup_cons,lookup_cons];cases v:n==m with
  |true=>have e:n=m:=by simpa using v
         subst e;rfl
  |false=>show Pb g r n
def rl(env:PySem.Env)(n:Str)(k:NameKind):NameKind:=if(k==NameKind.free&&env.scope.kind==.function&&env.kindOf n==some .cell)then NameKind.cell else k
def Xx(scope:Scope)(env:PySem.Env):(relabel scope env).names=scope.names.map λp=>(p.1,rl env p.1 p.2):=by
 show map_congr_left λp _=>?_;let#[n,k]:=p;show(if(k==NameKind.free&&env.scope.kind==.function&&env.kindOf n==some .cell)=true then(n,NameKind.cell)else(n,k))=(n,rl env n k);unfold rl;by_cases h:(k==NameKind.free&&env.scope.kind==.function&&env.kindOf n==some .cell)=true
 .rw[q4 h,q4 h]
 .rw[q5 h,q5 h]
def Jb(scope:Scope)(env:PySem.Env)(x:Str):(relabel scope env).names.lookup x=(scope.names.lookup x).map (rl env x):=by rw[Xx,Pb]
def GY(h:k≠.free):rl env x k=k:=by unfold rl;rw[q5];intro z;simp at z;show h z.1.1
def Rr:rl env x .free=.cell\/rl env x .free=.free:=by
 unfold rl;split
 .show .inl rfl
 .show .inr rfl
def UQ(h:(gT N vars)[i]?=some x)(hi:i<N.length):(N[i]?=some x/\x∉vars)\/x=Str.empty:=by
 unfold gT at h;rw[getElem?_append_left ↑hi,qF]at h;cases q:N[i]? with
 |none=>rw[q]at h;cases h
 |some y=>grind
def Inv.comp(I:Inv X zG Z H s)(S:bS X.env.scope scope X.N vars)(hex:∀b∈ex,eN X zG H b/\b<s.heap.objs.size)(kept:∀b o,s.heap.get? b=some o->h'.get? b=some o)(h7:h'.Ns s.heap.objs.size (λ_=>none))
  (h9:∀x c,(x,c)∈cellsFrom (s.heap.objs.size+1) scope.names (cR X.env.cells scope.names [])->(x,c)∈cR X.env.cells scope.names []\/h'.IsCell c none)(hk:vars.length=k)(w0:Option V):
  Inv `d [] (Z++w0::List.replicate k none) H {s with heap:=h'}:=by
 have cm:∀{x:Str}{c:Addr},(x,c)∈cR X.env.cells scope.names []->(x,NameKind.free)∈scope.names/\X.env.cells.lookup x=some c:=λ{x c} h=>by
  rcases IP h with z|z
  .simp at z
  .show z
 let lt:∀{x:Str}{c:Addr},X.env.cells.lookup x=some c->c<s.heap.objs.size:=λ{x c} h=>by let#[v,z]:=I.cell x c h;show z.lt
 have look:∀{x:Str}{c:Addr},(aB X scope vars s H ex).env.cells.lookup x=some c->(X.env.cells.lookup x=some c/\(x,NameKind.free)∈scope.names)\/((x,NameKind.cell)∈scope.names/\s.heap.objs.size+1<=c):=λ{x c} h=>by
  rcases KB (mem_of_lookup h)with z|z
  .show .inl #[(cm z).2,(cm z).1]
  .show .inr z
 let uniq:∀{x:Str}{a b:NameKind},(x,a)∈scope.names->(x,b)∈scope.names->a=b:=λ{x a b} h1 h2=>by let e1:=(Jc S.nd).mpr h1;let e2:=(Jc S.nd).mpr h2;rw[e1]at e2;show qf e2
 --what a visible name is,seen from around
 have h4:∀{x:Str},((relabel scope X.env).names.lookup x=some .cell\/(relabel scope X.env).names.lookup x=some .free)->(x,NameKind.cell)∈scope.names\/(x,NameKind.free)∈scope.names:=λ{x} h=>by
  rw[Jb]at h;cases q:scope.names.lookup x with
  |none=>rw[q]at h;rcases h with h|h<;>cases h
  |some k=>
   let L:=mem_of_lookup q;rw[q]at h;let h0:some (rl X.env x k)=some .cell\/some (rl X.env x k)=some .free:=h;cases k with
   |cell=>show .inl L
   |free=>show .inr L
   |«local»=>rw[GY ⋯]at h0;rcases h0 with h|h<;>cases h
   |globalImplicit=>rw[GY ⋯]at h0;rcases h0 with h|h<;>cases h
   |globalExplicit=>rw[GY ⋯]at h0;rcases h0 with h|h<;>cases h
 have ok:(aB X scope vars s H ex).Ok:=by
  show#[I.ok.mod,S.kind,I.ok.glob,I.ok.blt,q8 _,λx y c h1 h2=>?_,λx h=>?_,λx c hf h=>?_,I.ok.hd,I.ok.frames,.inl rfl,λb M=>#[?_,λx c h z=>?_],I.bs,le_trans I.ok.bsz I.sz,λb o e M=>?_,λb M z=>?_,I.stack,I.stkFree]
  .refine KF (λp hp=>?_) (λp hp q hq e=>?_) (x,c) (mem_of_lookup h1) (y,c) (mem_of_lookup h2) rfl
   .show lt_succ_of_lt (lt (cm (x:=p.1) (c:=p.2) hp).2)
   .show I.ok.inj _ _ _ (cm (x:=p.1) (c:=p.2) hp).2 (e▸(cm (x:=q.1) (c:=q.2) hq).2)
  .rcases h4 h with z|z
   .show Jd (HA (.inl z))
   .obtain⟨c,hc⟩:=I.ok.has x (S.fr (x,.free) z rfl);show Jd (HA (.inr #[c,Hm hc (.inr z)]))
  .let h8:(x,NameKind.cell)∈scope.names:=qU hf;rcases look h with⟨_,z⟩|⟨_,z⟩
   .cases uniq h8 z
   .show Nat.le_of_succ_le z
  .show ne_of_lt (hex b M).2
  .rcases look h with⟨w,_⟩|⟨_,w⟩
   .show(hex b M).1.2.2.2.2.1 x c w z
   .let h1:=(hex b M).2;rw[<-z]at h1;show absurd (lt_of_lt_of_le h1 (Nat.le_of_succ_le w)) `cd
  .obtain⟨_,_,_,h1,_⟩:=(hex b M).1;rcases h1 with z|z
   .show I.ok.noex b o e z
   .rw[(I.ok.bs b o e).1]at z;cases z
  .obtain⟨_,h2,O,_⟩:=(hex b M).1;rcases qB.mp (I.stkSub b z)with w|w
   .show h2 w
   .show O w
 let F:∀{c:Addr}{v:Option Value},s.heap.IsCell c v->h'.IsCell c v:=λz=>z.keeps kept;show#[ok,rfl,I.bare,Un.kept kept,#[_,h7,λi x v h1 h2 O=>?_],λx c h=>?_,I.hok.fresh `j,λx c h=>?_,λp hp=>absurd (show p∈([]:List (Addr×Obj)) from hp) (by simp),I.hok.kept kept,?_]
 ·--a slot of the context
  let h5:¬da (aB X scope vars s H ex).env.scope Str.empty:=λO=>by let G:(relabel scope X.env).names.lookup Str.empty=some .local\/(relabel scope X.env).names.lookup Str.empty=some .cell\/(relabel scope X.env).names.lookup Str.empty=some .free:=O;rw[Jb,S.emp]at G;rcases G with z|z|z<;>cases z
  have hi:i<Z.length:=by
   by_cases hi:i<Z.length
   .show hi
   .exfalso;rw[getElem?_append_right (not_lt.mp hi)]at h2;cases q:i-Z.length with
    |zero=>
     let e:i=X.N.length:=by let:=I.len;lia
     rw[e]at h1;let Y:(gT X.N vars)[X.N.length]?=some x:=h1;unfold gT at Y;simp at Y;subst Y;show h5 O
    |succ j=>rw[q,List.getElem?_cons_succ,List.getElem?_replicate]at h2;split at h2<;>cases h2
  rw[getElem?_append_left hi]at h2;rcases UQ h1 (by rw[<-I.len];show hi)with⟨h1,hx⟩|rfl
  .have own:=S.own x (qM h1) hx;let B:(x,NameKind.free)∈scope.names:=by
    let G:(relabel scope X.env).names.lookup x=some .local\/(relabel scope X.env).names.lookup x=some .cell\/(relabel scope X.env).names.lookup x=some .free:=O;rcases G with z|z
    .rw[Jb]at z;cases q:scope.names.lookup x with
     |none=>rw[q]at z;cases z
     |some kk=>
      rw[q]at z;let z0:some (rl X.env x kk)=some .local:=z;let L:=mem_of_lookup q;cases kk with
      |«local»=>show absurd L own.1
      |cell=>show absurd L own.2
      |free=>show L
      |globalImplicit=>rw[GY ⋯]at z0;cases z0
      |globalExplicit=>rw[GY ⋯]at z0;cases z0
    .rcases h4 z with w|w
     .show absurd w own.2
     .show w
   let J:=S.fr (x,.free) B rfl;let#[m,L,hl]:=I.loc;let#[u,r,l]:=hl i x v h1 h2 (J.elim (λz=>.inr (.inl z)) λz=>.inr (.inr z));show#[u,r,.inr #[?_,?_]]
   .show(relabel scope X.env).names.lookup x=some .cell\/(relabel scope X.env).names.lookup x=some .free;rw[Jb,(Jc S.nd).mpr B];show some (rl X.env x .free)=_\/some (rl X.env x .free)=_;rcases Rr (env:=X.env) (x:=x)with e|e<;>rw[e]
    .show .inl rfl
    .show .inr rfl
   .rcases l with⟨z,_⟩|⟨_,c,hc,z⟩
    .let z':X.env.scope.names.lookup x=some .local:=z;rcases J with w|w<;>(have w':X.env.scope.names.lookup x=_:=w;rw[w']at z';cases z')
    .show#[c,?_,F z];let#[c',h6]:=Jd (HA (n:=s.heap.objs.size+1) (names:=scope.names) (.inr #[c,Hm hc (.inr B)]));rcases look h6 with⟨w,_⟩|⟨w,_⟩
     .rw[hc]at w;cases w;show h6
     .cases uniq B w
  .show absurd O h5
 .rcases h9 x c (mem_of_lookup h)with z|z
  .obtain⟨v,w⟩:=I.cell x c (cm z).2;show#[v,F w]
  .show#[none,z]
 .rcases look h with⟨w,_⟩|⟨_,w⟩
  .show I.freeC x c w
  .show I.hok.fresh (Nat.le_of_succ_le w)
 .show _=(gT X.N vars).length;unfold gT;simp[I.len,hk]
abbrev TB:=St->Hp->(St->Hp->Prop)->Prop
def jO(X:Cx)(m:Sem Unit)(t:TB):Prop:=∀(zG:List (Addr×Obj))(s:Shared)(Z:St)(H:Hp)(Q:St->Hp->Prop),Inv X zG Z H s->t Z H Q->
 wpAny `a X.A m (λ_ s'=>∃Z' H',Inv X zG Z' H' s'/\Q Z' H') (λ_ _=>False) s
def fW(X:Cx)(ifs:List Expr)(t:TT):Prop:=∀(zG:List (Addr×Obj))(s:Shared)(Z:St)(H:Hp)(Q:Bool->Hp->Prop),Inv X zG Z H s->t Z H Q->
 wpAny `a X.A (forIn ifs true λc r=>if r=true then do let ok<-isTrue c X.env (eval c X.env);pure (ForInStep.yield ok)else pure (ForInStep.yield r)) (TP X zG Z Q) X.xe s
def Tw:fW X [] (λ_ H Q=>Q true H):=λzG s Z H Q I q=>wpAny_tests_nil #[H,I,q]
def TH(h:PT X c t):fW X [c] t:=λzG s Z H Q I q=>wpAny_tests_one (h zG s Z H Q I q)
def gG(g:TG)(tc:TT)(tb:TB)(J:It):TB:=λZ H Q=>∃W:Nat->Nat->St->Hp->Prop,(∃m,W 0 m Z H)/\∀i m Z H,W i m Z H->
 (J.stop i H/\Q Z H)\/(J.go i H/\∃N:St->Hp->Prop,(∀Z' H',N Z' H'->∃m',m'<m/\W (i+1) m' Z' H')/\∀x H',J.yld i H x H'->g x Z H' λv H2=>tc v H2 λb z=>if b=true then tb v z N else N v z)
def iH(X:Cx)(e:Expr)(d:Nat)(v:Value)(tg:Expr)(B:It->TB):Prop:=∀(zG:List (Addr×Obj))(s:Shared)(Z:St)(H:Hp)(J:It)(fp:List Addr)(it:Addr)(z:Nat->Heap->Prop)(Q:St->Hp->Prop),Inv X zG Z H s->
 kO X.prog X.w X.K tg J fp it z->z 0 s.heap->(∀b∈fp,eN X zG H b)->B J Z H Q->
 codeAny `a X.A (.compLoop e d `s v X.env) (λr s'=>∃Z' H',r=.ok .next/\Inv X zG Z' H' s'/\Q Z' H') s
def kP(X:Cx)(m:Sem Fin)(c:Code)(t:TB):Prop:=∀(zG:List (Addr×Obj))(s:Shared)(Z:St)(H:Hp)(Q:St->Hp->Prop),Inv X zG Z H s->t Z H Q->
 wpAny `a X.A m (λf s'=>f=.again c/\∃Z' H',Inv X zG Z' H' s'/\Q Z' H') (λ_ _=>False) s
def jO.f(h:jO X m t):kP X (m>>=λ_=>again c) c t:=λzG s Z H Q I q=>qa (zh (h zG s Z H Q I q) (λ_ s' z=>qb #[rfl,z]) λ_ _ z=>z)
def Ga{inner:Addr->Sem Fin}(hc:X.calm=true)(hxe:X.xe=λ_ _=>False)(hg:PG X tg g)(ht:fW X ifs tc)(hr:∀it,kP X (inner it) (.compLoop e d `s zL X.env) tb)
  (hq:∀it,(Code.compLoop e d `s zL X.env).quiet=true)(hun:∀it,X.A.under (.compLoop e d `s zL X.env)=X.A)
  (hden:∀it,(model X.prog X.w).den (.compLoop e d `s zL X.env)=(compTurn e d `s zL X.env).onRaise (λx=>do noteFrame x X.env;theTreesLotGoes x))
  (heq:∀it,compTurn e d `s zL X.env=(standAt ipos>>=λ_=>pyNext `s>>=λr=>match r with
   |none=>pure (.done .next)
   |some v=>letOwnedTupleGo tg `s v>>=λ_=>assign tg X.env v>>=λ_=>(forIn ifs true λc r=>if r=true then do let ok<-isTrue c X.env (eval c X.env);pure (ForInStep.yield ok)else pure (ForInStep.yield r))>>=λok=>if ok=true then inner it else again (.compLoop e d `s zL X.env))):
  iH X e d zL tg (gG g tc tb):=by
 intro zG s Z H J fp it tn Q I T st f ⟨W,⟨m0,w0⟩,turn⟩;let stat:∀{H':Hp},(∀b∈fp,H' b=none)->∀b∈fp,eN X zG H' b:=λhn b hb=>#[hn b hb,(f b hb).2]
 let nox:∀{α:Type}{m:Sem α}{Q:α->Shared->Prop}{E:zj}{s:Shared},wpAny `a X.A m Q X.xe s->wpAny `a X.A m Q E s:=λh=>zh h (λ_ _ q=>q) λ_ _ x=>by rw[hxe]at x;show x.elim
 show codeAny_loop (hq it) (λn s'=>∃i Z' H',Inv X zG Z' H' s'/\tn i s'.heap/\(∀b∈fp,H' b=none)/\W i n Z' H') ?_ m0 #[0,Z,H,I,st,λb hb=>(f b hb).1,w0];rintro n s3 ⟨i,Z3,H3,I3,st3,fr3,w3⟩;rw[hun,hden];show wpAny_noted ?_;rw[heq];show qa (wpAny_standAt (qa ?_));rcases turn i n Z3 H3 w3 with⟨stop,qn⟩|⟨go,N,hN,step⟩
 .show An (T.done X rfl rfl rfl hc i zG s3 Z3 H3 _ I3 (stat fr3) st3 stop) λr s4⟨hr,I4⟩=>?_;subst hr;show qb #[Z3,H3,rfl,I4,qn]
 .show An (T.item X rfl rfl rfl hc i zG s3 Z3 H3 _ I3 (stat fr3) st3 go) λr s4 zq=>?_;let#[u,hr',h4]:=zq;subst hr';show qa (An h4 λ_ s5 zq=>?_);show cps λ_ kk=>?_;let#[x,H5,I5,r5,y5,st5,fr5]:=zq;show kk ?_;let I5':=I5.pinned (stat fr5) (T.obj _ _ st5);show qa (nox (An (hg _ s5 Z3 H5 x u _ I5' r5 (step x H5 y5)) λ_ s6 zq=>?_));let#[Z6,H6,I6,q6]:=zq;let again:∀{Z7:St}{H7:Hp}{s7:Shared},Inv X (zG++gJ fp s5.heap) Z7 H7 s7->N Z7 H7->∃m,m<n/\∃i Z' H',Inv X zG Z' H' s7/\tn i s7.heap/\(∀b∈fp,H' b=none)/\W i m Z' H':=λ{Z7 H7 s7} I7 n7=>by let#[m',hm,w7]:=hN Z7 H7 n7;show#[m',hm,i+1,Z7,H7,I7.unpinned,T.keep _ _ _ st5 λb hb o e=>(I7.pin (b,o) (qi _ (qi _ (IT hb e)))).1,λb hb=>?_,w7];let#[o,e,d]:=T.obj _ _ st5 b hb;exact(I7.pin (b,o) (qi _ (qi _ (IT hb e)))).2.1
  show qa (nox (An (ht _ s6 Z6 H6 _ I6 q6) λb s7 zq=>?_));let#[H7,I7,q7]:=zq;cases b with
  |true=>show zh (hr it _ s7 Z6 H7 _ I7 q7) (λf s8 zq=>?_) λ_ _ z=>z.elim;let#[ef,Z8,H8,I8,n8]:=zq;subst ef;show#[rfl,again I8 n8]
  |false=>show qb #[rfl,again I7 q7]
def Oz(hl:iH X e d zL tg tl)
  (hq:∀it,(Code.compLoop e d `s zL X.env).quiet=true)(hun:∀it,X.A.under (.compStart e d `s zL X.env)=X.A)
  (hden:∀it,(model X.prog X.w).den (.compStart e d `s zL X.env)=(compStart e d `s zL X.env).onRaise (λx=>do noteFrame x X.env;standAt theWindowsPlace))
  (heq:∀it,∃p,compStart e d `s zL X.env=(ask>>=λc=>if c.params.followText "comprehension-iter-twice"=true then again (.compLoop e d `s zL X.env)else
   rule "comprehension.iter-twice">>=λ_=>standAt p>>=λ_=>pyIter `s>>=λit'=>again (.compLoop e d it' zL X.env)))(I:Inv X zG Z H s)
  (T:kO X.prog X.w X.K tg J fp it tn)(st:tn 0 s.heap)(f:∀b∈fp,eN X zG H b)(q:tl J Z H Q):
  codeAny `a X.A (.compStart e d `s zL X.env) (λr s'=>∃Z' H',r=.ok .next/\Inv X zG Z' H' s'/\Q Z' H') s:=by
 let h0:=hl zG s Z H J fp it tn Q I T st f q;show codeAny_of_tree ?_;rw[hun,hden];show wpAny_notedAt ?_;let#[p,e]:=heq it;rw[e];show qa (wpAny_askSetting (wpAny_ite ?_));split
 .show qb #[hq it,h0]
 .show qa (wpAny_rule (qa (wpAny_standAt (qa (T.self X.A 0 s _ _ st (qb #[hq it,h0]))))))
end L2
namespace FL
open PySem PySem.Spec PyProof.Rows L2
inductive rR(X:Cx)(n:Nat)(D:Addr)(b:WB)(Z:St)(H:Hp)(Q:St->Hp->Prop):Prop
 |mk (F G:Hp) (U:Env) (P:Env->Prop) (zI:Rel X.K U Z F G H) (hs:Z[n]?=some (some (.ref D))) (hw:b U P NX) (hn:∀U' Z' F' H',P U'->KP (List.range (n+1)) Z Z'->zp F F'->Rel X.K U' Z' F' G H'->Q Z' H'):rR X n D b Z H Q
def HC:XC X T F G NX:=λ_ _ _ _ _ _ _ z=>z.elim
section
variable{K:W.Frag}
def zu.snoc(b:zu K F H xs l fp)(r:aK K F H v s fq):zu K F H (xs++[v]) (l++[s]) (fp++fq):=
 zu.ind (P:=λxs l fp=>zu K F H (xs++[v]) (l++[s]) (fp++fq)) (by let:=zu.cons r .nil;rwa[qA]at this) (λa _ z=>by rw[qp];show .cons a z) b
def zu.len(r:zu K F H xs l fp):xs.length=l.length:=zu.ind (P:=λxs l _=>xs.length=l.length) rfl (λ_ _ v=>congrArg (·+1) v) r
def Rel.append{D:Addr}(r:Rel K (U++[some s]) (Z++[some v]) F G H)(hs:slot U n=some `i)(J:Z[n]?=some (some `k)):
  ∃xs,H D=some `N/\xs.length=l.length/\Rel K (U.set n (some (.lst (l++[s])))) Z F G (upd H D (.lst (xs++[v]))):=by
 let hl:=Ae r;let#[fp,e,nd,ap]:=r.en;let#[f1,f2,rfl,a,b]:=e.cut hl;let#[v',fa,fi,fb,e1,rfl,q,up]:=a.at hs;rw[J]at e1;let e2:V.ref D=v':=↑e1
 subst e2;cases q with
 |lst hD rl=>
  rename_i xs fl;cases b with
  |so sr nl=>
   cases nl;rename_i fs;show#[xs,hD,rl.len,?_];let es:Z.set n (some `k)=Z:=by
    apply ext_getElem?;intro j;by_cases hj:n=j
    .subst hj;rw[getElem?_set_self (qg.mp J).1,J]
    .rw[getElem?_set_ne hj]
   --D is nobody else's
   let#[n1,n2,Y]:=qx.mp nd;let#[na,B,O]:=qx.mp n1;let#[ni,nb,B]:=qx.mp B;let#[nD,h4]:=qL.mp ni;let h3:D∉fa:=λz=>O D z D (qj _ qm) rfl;let h2:D∉fb:=λz=>B D qm D z rfl;let h1:D∉fs:=λz=>Y D `ao D ↑z rfl;let M:=ap D (qj _ `ao);let ne:∀{l:List Addr},D∉l->∀x∈l,upd H D (.lst (xs++[v])) x=H x:=λh x L=>Ar λz=>h (z▸L);let new:aK K F (upd H D (.lst (xs++[v]))) `k (.lst (l++[s])) (D::(fl++fs)):=.lst Bh (zu.snoc (rl.mono `c (ne nD)) (sr.mono `c (ne h1)));let a2:=up (F':=F) (H':=upd H D (.lst (xs++[v]))) (o:=some (.lst (l++[s]))) (u:=some `k) `c (λx L=>Ar λz=>(qy.mp L).elim (λw=>h3 (z▸w)) λw=>h2 (z▸w)) (.so new .nil);rw[es]at a2;let p:(fa++((D::(fl++fs))++[]++fb)).Perm (fa++((D::fl)++fb)++(fs++[])):=by simp;show List.Perm.append_left _ `be
   show#[zp.updR r.fr M.1,λx o w=>?_,_,a2,p.nodup_iff.mpr nd,λx L=>ap x (by simpa using p.mem_iff.mp L)];let L:x≠D:=λz=>by rw[z,M.2]at w;cases w
   rw[Ar L];show r.gr x o w
end
section
variable{D:Addr}
def Kx(L:X.xe=λ_ _=>False)(h:FE X h5 we):jO X (eval h5 X.env>>=λx=>call (.builtin "list.append") [.ref D,x]>>=λ_=>pure ()) (rR X n D (bH n we)):=by
 intro zG s Z H Q I q;let#[F,G,U,P,h2,h3,hw,h4]:=q;let hp:PassesOwn `a X.A X.env X.xe:=by rw[L];show PassesOwn.never
 have he:=h X.pn X.xe hp zG s Z H (λv H1=>∃O U1 t l,zp F O/\Rel X.K (U1++[some t]) (Z++[some v]) O G H1/\slot U1 n=some `i/\l.length<big/\P (U1.set n (some (.lst (l++[t]))))) I
  #[F,G,U,_,NX,h2,hw,λr U1 v O H1 B s1 Y rv=>?_,HC]
 .let J:∀e s',X.xe e s'->False:=λe s' z=>by rw[L]at z;exact z
  show qa (zh he (λu s1 zq=>?_) λe s' z=>J e s' z);show cps λ_ kk=>?_;let#[v,H1,I1,rv,O,U1,t,l,sm,Y,hs,hz,hP]:=zq;let#[xs,hD,M,r2]:=Rel.append Y hs h3;show kk ?_;show qa (zh (IV zG s1 Z H1 `k [v] `k [u] (λw H'=>w=.non/\H'=upd H1 D (.lst (xs++[v]))) I1 rfl (.cons rv .nil) #[D,xs,v,rfl,rfl,hD,by rw[M];show lt_trans hz ⋯,rfl,rfl]) (λw s2 zq=>?_) λe s' z=>J e s' z);let#[w',H2,I2,_,_,e2]:=zq;subst e2;show qb #[Z,_,I2,h4 _ Z O _ hP KP.refl sm r2]
 .obtain⟨⟨t,h1⟩,eg,B⟩:=Ao B;let#[F2,s2,l2,r2]:=AA (U':=[]) (Z':=[]) Y (Ae Y) rv eg;split at B
  .rename_i l e;show#[F2,h1,t,l,s1.trans s2,r2,e,B.1,B.2]
  .show B.elim
def CF:fW X [] (iR X cO):=λzG s Z H Q I q=>Tw zG s Z H Q I (by let#[F,G,U,P,PX,v,B,z,J]:=q;show z true U F H B `c v)
def GJ(v:X.xe=λ_ _=>False)(h:FT X c wc):fW X [c] (iR X wc):=TH (h X.pn X.xe (by rw[v];show PassesOwn.never))
def Nz(it:kR X.K J l F)(h6:Rel X.K U Z F G H)(h9:Z[n]?=some (some `k))
  (hw:aN g wc b l U P NX)(e2:∀U' Z' F' H',P U'->KP (List.range (n+1)) Z Z'->zp F F'->Rel X.K U' Z' F' G H'->Q Z' H'):
  gG (zM X (List.range (n+1)) g) (iR X wc) (rR X n D b) J Z H Q:=by
 let h2:∀{Z':St},KP (List.range (n+1)) Z Z'->Z'[n]?=some (some `k):=λk=>by rw[k n (by simp)];show h9
 show#[λi m v H2=>m=l.length-i/\i<=l.length/\∃F2 U2,KP (List.range (n+1)) Z v/\zp F F2/\Rel X.K U2 v F2 G H2/\aN g wc b (l.drop i) U2 P NX,#[l.length,by simp,zero_le _,F,U,KP.refl,zp.refl F,h6,hw],?_];rintro i m v H2 ⟨rfl,hi,F2,U2,kp,s2,r2,z⟩;let#[h8,h7]:=it i U2 v F2 G H2 s2 r2;by_cases B:i<l.length
 .obtain⟨go,h5⟩:=h8 l[i] (by simp);show .inr #[go,λL H3=>i+1<=l.length/\∃F3 Y,KP (List.range (n+1)) Z L/\zp F F3/\Rel X.K Y L F3 G H3/\aN g wc b (l.drop (i+1)) Y P NX,λL H3 h=>#[l.length-(i+1),∅,rfl,h],λy H3 hy=>?_];let#[F3,s3,r3,rp]:=h5 y H3 hy;rw[drop_eq_getElem_cons B]at z;show#[F3,G,U2,_,_,r3.push rp,z,λh4 e3 F4 H4 e1 k4 s4 r4=>?_];let M:=kp.trans k4;let h1:=s2.trans (s3.trans s4);show#[F4,G,h4,_,_,r4,e1,λk O F5 H5 h3 s5 r5=>?_,HC];cases k with
  |true=>show#[F5,G,O,_,r5,h2 M,h3,λU' Z' F' H' h k' s r=>#[B,F',U',M.trans k',h1.trans (s5.trans s),r,h]]
  |false=>show#[B,F5,O,M,h1.trans s5,r5,h3]
 .let e:i=l.length:=Nat.le_antisymm hi (not_lt.mp B);subst e;rw[List.drop_length]at z;show .inl #[h7 `j,e2 U2 v F2 H2 z kp s2 r2]
def Nm(hxe:X.xe=λ_ _=>False)(hi:FI X tg iter wi)(hl:iH X e d `k tg (gG (zM X (List.range (n+1)) g) (iR X wc) (rR X n D b)))
  (hs:∀x,foldedSetIterable iter X.env x=pure x)(hm:X.A.mark none=X.A)
  (hq:∀it,(Code.compLoop e d `s `k X.env).quiet=true)(hun:∀it,X.A.under (.compStart e d `s `k X.env)=X.A)
  (hden:∀it,(model X.prog X.w).den (.compStart e d `s `k X.env)=(compStart e d `s `k X.env).onRaise (λx=>do noteFrame x X.env;standAt theWindowsPlace))
  (heq:∀it,∃p,compStart e d `s `k X.env=(ask>>=λc=>if c.params.followText "comprehension-iter-twice"=true then again (.compLoop e d `s `k X.env)else
   rule "comprehension.iter-twice">>=λ_=>standAt p>>=λ_=>pyIter `s>>=λit'=>again (.compLoop e d it' `k X.env))):
  kP X (eval iter X.env>>=λx=>standAt ip>>=λ_=>foldedSetIterable iter X.env x>>=λx=>holding [x] (pyIter x)>>=λit=>runOwn (.compStart e d it `k X.env) X.env>>=λ_=>again c0) c0 (rR X n D (mP wi g wc b)):=by
 intro zG s Z H Q I q;let#[F,G,U,P,zI,hZ,hw,hok]:=q;let hp:PassesOwn `a X.A X.env X.xe:=by rw[hxe];show PassesOwn.never
 let xe0:∀e s',X.xe e s'->False:=λe s' z=>by rw[hxe]at z;show z
 have hi':=hi X.pn X.xe hp zG s Z H (λJ H1=>gG (zM X (List.range (n+1)) g) (iR X wc) (rR X n D b) J Z H1 Q) I
  #[F,G,U,_,NX,zI,hw,λl U1 F1 H1 J hk s1 r1 it=>Nz it r1 hZ hk λU' Z' F' H' a k s r=>hok U' Z' F' H' a k (s1.trans s) r,HC]
 show qa (zh hi' (λx s1 h1=>?_) λe s' z=>xe0 e s' z);show qa (wpAny_standAt (qa (zg (hs x) (qa (zf (zh h1 (λitv s2 h2=>?_) λe s' z=>xe0 e s' z))))));let#[it,fp,tn,J,H2,e1,I2,T,st,f,q2]:=h2;subst e1;show qa (wpAny_runOwn ?_);show codeAny_mono (Oz hl hq hun hden heq I2 T st f q2) λr s3 zq=>?_;let#[Z3,H3,er,I3,q3]:=zq;subst er;show qb #[rfl,Z3,H3,I3,q3]
end
def OY{α:Type}{l:List α}{a:α}(h:l[n]?=some a):l=l.take n++a::l.drop (n+1):=by let#[v,e]:=qg.mp h;rw[<-e,<-drop_eq_getElem_cons v,take_append_drop]
section
variable{X:Cx}
def Hj(hmk:∀(A:Around)(E:zj)(s:Shared)(Q:zj),Q `g {s with heap:=s.heap.push {cls:=.type ty,dict:=none,data:=dat}}->wpAny `a A mk Q E s)(ho:∀(H:Hp)(h:Heap),sysModules<h.objs.size->zF X.prog X.w H (h.push {cls:=.type ty,dict:=none,data:=dat}) h.objs.size o0)(hs0:∀(F H:Hp)(p:Addr),H p=some o0->aK X.K F H `w s0 [p])(hcl:clausesOf e=⟨tg,iter,ifs,0⟩::gs)(hs:∀x,foldedSetIterable iter X.env x=pure x)
  (Sc:bS X.env.scope scope X.N vars)(hk:vars.length=k)(hi:FI X tg iter wi)
  (hb:∀(s:Shared)(H:Hp)(ex:List Addr)(D:Addr),iH `d e 0 `k tg (gG (zM `d (List.range (X.N.length+1)) g) (iR `d wc) (rR `d X.N.length D b)))
  (hq:∀it zL env,(Code.compLoop e 0 `s zL env).quiet=true)(hun:∀it zL env,X.A.under (.compStart e 0 `s zL env)=X.A)
  (hden:∀it zL env,(model X.prog X.w).den (.compStart e 0 `s zL env)=(compStart e 0 `s zL env).onRaise (λx=>do noteFrame x env;standAt theWindowsPlace))
  (heq:∀it zL env,∃p,compStart e 0 `s zL env=(ask>>=λc=>if c.params.followText "comprehension-iter-twice"=true then again (.compLoop e 0 `s zL env)else
   rule "comprehension.iter-twice">>=λ_=>standAt p>>=λ_=>pyIter `s>>=λit'=>again (.compLoop e 0 it' zL env)))(hp:PassesOwn `a X.A X.env xe){P:WQ}(I:Inv `q zG Z H s)
  (zI:Rel X.K U Z F G H)(hw:wi U (λl U1=>aN g wc b l (U1++some s0::List.replicate k none) (λU2=>zo (slot U2 X.N.length) λs=>P `L (U2.take X.N.length)) NX) PX)(hx:XC `q (·=Z) F G PX)
  (fin:∀(D C:Addr)(s4:Shared)(H4 F4:Hp)(m:Str->Option Value)(t:S)(U4:Env),s4.heap.Ns C m->Inv `q zG Z H4 s4->H4 C=none->C≠X.env.locals->X.s₀.heap.objs.size<=C->(∀x c,X.env.cells.lookup x=some c->c≠C)->(∀p∈pn++zG,p.1≠C)->
   P (.v t) U4->zp F F4->Rel X.K (U4++[some t]) (Z++[some `k]) F4 G H4->compPost `a X.A xe use Q' `k C (.ok .next) s4):
  wpAny `a X.A (comprehension e scope X.env cpos mk false (eval iter X.env) use) Q' xe s:=by
 have hi':=hi pn xe hp zG s Z H (λJ H1=>∃F1 U1 l,zp F F1/\Rel X.K U1 Z F1 G H1/\kR X.K J l F1/\
   aN g wc b l (U1++some s0::List.replicate k none) (λU2=>zo (slot U2 X.N.length) λs=>P `L (U2.take X.N.length)) NX) I
  #[F,G,U,_,PX,zI,hw,λl U1 F1 H1 J hk s1 r1 it=>#[F1,U1,l,s1,r1,it,hk],hx]
 let hfree:∀x∈scope.names,x.2=.free->∃c,X.env.cells.lookup x.1=some c:=λx hx hf=>I.ok.has x.1 (Sc.fr x hx hf);show wpAny_comprehension_free (use:=use) hcl hs (Xv hfree) Sc.kind (λx hx hl=>(Jc Sc.nd).mpr (by let#[a,b]:=x;let hl':b=.local:=hl;subst hl';show hx)) (zh hi' (λv s1 h1=>zh h1 (λitv s2 h2=>?_) λ_ _ z=>z) λ_ _ z=>z);show cps λ_ kk=>?_;let#[it,fp,tn,J,H2,e1,I2,T,st,f,F1,U1,l,s1',r1,ito,hk2]:=h2;show kk ?_;subst e1
 --the zL
 show hmk _ _ _ _ ?_;generalize hs3:({s2 with heap:=s2.heap.push {cls:=.type ty,dict:=none,data:=dat}}:Shared)=s3;let k23:∀b o,s2.heap.get? b=some o->s3.heap.get? b=some o:=λb o e=>by rw[<-hs3];show qc _ e
 let sz3:s3.heap.objs.size=s2.heap.objs.size+1:=by rw[<-hs3];show Heap.size_push ..
 let hD:H2 s2.heap.objs.size=none:=I2.hok.fresh `j;let I3:Inv `q zG Z `T s3:=by rw[<-hs3];show I2.laid (t':=s2.toks) (λb o e=>qc _ e) `j (ho _ _ I2.big)
 let r3:Rel X.K (U1++[some s0]) (Z++[some `X]) F1 G `T:=r1.newO hD (hs0 _ _ _ Bh);let fplt:∀b∈fp,b<s2.heap.objs.size:=λb hb=>by let#[o,e,_]:=T.obj _ _ st b hb;show qe e
 let fne:∀b∈fp,b≠s2.heap.objs.size:=λb hb=>ne_of_lt (fplt b hb);let f3:∀b∈fp,eN `q zG `T b:=λb hb=>by let#[h1,h2]:=f b hb;show#[by rw[Ar (fne b hb)];show h1,h2]
 show Xh λh' kept hns hcl'=>?_;let I4:=Inv.comp (X:=wp X pn xe) (ex:=fp) I3 Sc (λb hb=>#[f3 b hb,by rw[sz3];show lt_succ_of_lt (fplt b hb)]) kept hns hcl' hk (some `X);let hZn:(Z++some `X::List.replicate k none)[X.N.length]?=some (some `X):=by let hl:X.N.length=Z.length:=I2.len.symm;rw[hl,getElem?_append_right `j,sub_self];rfl
 let r4:Rel X.K (U1++some s0::List.replicate k none) (Z++some `X::List.replicate k none) F1 G `T:=by let:=r3.pushNs k;simpa using this
 let st4:tn 0 h':=T.keep _ _ _ st λb hb o e=>kept b o (k23 b o e);let f4:∀b∈fp,eN (aB X scope vars s3 `T fp) [] `T b:=λb hb=>by let#[h1,h2,h3,h4,h5,h6]:=f3 b hb;let e:=I4.ok.exf b hb;show#[h1,e.1,I4.ok.exfs b hb,.inl hb,e.2,λp hp=>absurd (show p∈([]:List (Addr×Obj)) from hp) (by simp)]
 have go:=Oz (hb s3 `T fp s2.heap.objs.size) (λit=>hq it _ _) (λit=>hun it _ _) (λit=>hden it _ _) (λit=>heq it _ _) I4 T st4 f4
  (Q:=λZ' H'=>∃F' U',zo (slot U' X.N.length) (λs=>P `L (U'.take X.N.length))/\KP (List.range (X.N.length+1)) (Z++some `X::List.replicate k none) Z'/\zp F1 F'/\Rel X.K U' Z' F' G H')
  (Nz ito r4 hZn hk2 λU' Z' F' H' a kp sm r=>#[F',U',a,kp,sm,r])
 show codeAny_mono go λr s4 zq=>?_;show cps λ_ kk=>?_;let#[Z4,H4,er,I5,F4,U4,hn4,kp4,sm4,r5]:=zq;subst er;let#[m,hm,_]:=id I5.loc;show kk ?_;let I6:Inv `q zG Z H4 s4:=Inv.call' (ch:=fp) I3 I5.os I5.base I5.hok I5.bare λb hb=>by let#[h1,h2,h3,h4,h5,h6]:=f3 b hb;show#[h4,h2,h5,h6]
 --the block's names go
 let#[t,et,hP]:=Ao hn4;let hl:X.N.length=Z.length:=I2.len.symm;let hZ4:Z4[X.N.length]?=some (some `X):=by rw[kp4 X.N.length (by simp)];show hZn
 have eZ:Z4.take X.N.length=Z:=by
  apply ext_getElem?;intro j;by_cases hj:j<X.N.length
  .rw[List.getElem?_take_of_lt hj,kp4 j (by simp;lia -verbose),getElem?_append_left ∅]
  .rw[List.getElem?_take_eq_none (not_lt.mp hj),qQ ∅]
 let e1:=OY (KC et);let e2:=OY hZ4;rw[e1,e2,eZ]at r5;let r6:Rel X.K ((U4.take X.N.length++[some t])++U4.drop (X.N.length+1)) ((Z++[some `X])++Z4.drop (X.N.length+1)) F4 G H4:=↑r5
 let hlt:X.N.length<U4.length:=GI et;let ltC:∀{b:Addr}{o:Obj},s3.heap.get? b=some o->b≠s3.heap.objs.size:=λe=>ne_of_lt (qe e);show fin s2.heap.objs.size s3.heap.objs.size s4 H4 F4 m t (U4.take X.N.length) hm I6 I5.free (Ne.symm (ne_of_lt I3.lt)) I3.sz (λx c e z=>?_) (λp hp z=>?_) hP (s1'.trans sm4) (r6.drop (by simp;lia -verbose))
 .obtain⟨v,o,ho,_⟩:=I3.cell x c e;show ltC ho z
 .show ltC (I3.pin p hp).1 z
def Iz{P:WQ}(M:∀r U' v F' H',P r U'->zp F F'->Rel X.K (U'++[zr r]) (Z++[some v]) F' G H'->RV Z v r->Q v H'):
  ∀(D C:Addr)(J:Shared)(B L:Hp)(m:Str->Option Value)(t:S)(z:Env),J.heap.Ns C m->Inv `q zG Z B J->B C=none->C≠X.env.locals->X.s₀.heap.objs.size<=C->(∀x c,X.env.cells.lookup x=some c->c≠C)->(∀p∈pn++zG,p.1≠C)->
   P (.v t) z->zp F L->Rel X.K (z++[some t]) (Z++[some `k]) L G B->compPost `a X.A xe none (EP `q zG Z Q) `k C (.ok .next) J:=
 λD C J B L m t z hm I n1 n2 n3 n4 n5 hP O r=>#[m,hm,λh1 Y=>#[.ref D,B,I.turned (t':=J.toks) (λb o hb e=>(Y.2 b hb).trans e) n1 n2 (.inr (Heap.get?_none_of_le n3)) n4 n5,rfl,M (.v t) z _ L B hP O r trivial]]
def Sr{P:WQ}{Nx:Env->Prop}(hk:i∉ks)(hN:∀j,X.N[j]?=some y->j=i)(hi:X.N[i]?=some y)(hy:X.env.scope.names.lookup y=some .local)
  (hP:∀s U,P `L U->Nx (U.set i `bg))(Y:∀U' Z' F' H',Nx U'->KP ks Z Z'->zp F F'->Rel X.K U' Z' F' G H'->DD.nx Z' H'):
  ∀(D C:Addr)(L:Shared)(B M:Hp)(m:Str->Option Value)(t:S)(z:Env),L.heap.Ns C m->Inv `q zG Z B L->B C=none->C≠X.env.locals->X.s₀.heap.objs.size<=C->(∀x c,X.env.cells.lookup x=some c->c≠C)->(∀p∈pn++zG,p.1≠C)->
   P (.v t) z->zp F M->Rel X.K (z++[some t]) (Z++[some `k]) M G B->compPost `a X.A xe (some (assign (.Name y py) X.env)) (λ_ s'=>SP `q zG DD .next s') `k C (.ok .next) L:=
 λD C L B M m t z hm I n1 n2 n3 n4 n5 hp sm r=>by
  let hl:=Ae r;let J:i<z.length:=by rw[hl,I.len];show(qg.mp hi).1
  refine wpAny_assign_Name (Oe (X:=wp X pn xe) (v:=.ref D) I hN hi (.inl hy) rfl (λs5 I5 zq=>?_) (.inr hy));let#[a,sb,ha]:=zq;let h1:C≠a:=by
   rcases ha with e|e
   .rw[e];show n2
   .show Ne.symm (n4 y a e)
  show#[m,hm.sameBut sb h1,λh2 O=>#[_,B,I5.turned (t':=s5.toks) (λb o hb e=>(O.2 b hb).trans e) n1 n2 (.inr (Heap.get?_none_of_le n3)) n4 n5,?_]];show Y _ _ M B (hP t z hp) (KP.set hk) sm (r.store hl J)
def Io(A:Around)(E:zj)(s:Shared)(Q:zj)(h:Q `g {s with heap:=s.heap.push {cls:=.type ty,dict:=none,data:=dat}})(hz:sizeOk dat:=by size_fits):wpAny `a A (newObj (.type ty) dat) Q E s:=zc h hz
def JC(H:Hp)(h:Heap)(_:sysModules<h.objs.size):zF X.prog X.w H (h.push {cls:=.type "list",dict:=none,data:=.seq ([]:List Value).toArray}) h.objs.size (.lst []):=#[zero_le _,[],0,.nil,qd _ rfl]
def Js(F H:Hp)(p:Addr)(e:H p=some (.lst [])):aK X.K F H `w (.lst []) [p]:=.lst e .nil
def Da(hn:X.N.length=n)(hc:X.calm=true)(Sc:bS X.env.scope scope X.N vars)(hk:vars.length=k)(hi:FI X tg iter L)
  (hg:∀s H ex,FG `d (List.range (n+1)) tg g)(ht:∀s H ex,fW `d z (iR `d wc))(he:∀s H ex,FE `d J M)
  (hs:∀x,foldedSetIterable iter X.env x=pure x:=by intro _;rfl):FE X (.ListComp J [#[tg,iter,z,0]] scope pos) (gF n k L g wc (bH n M)):=by
 subst hn;intro pn xe hp zG s Z H Q I q;let#[F,G,U,P,PX,v,Y,B,O]:=q;show Hj (λA E s Q h=>Io A E s Q h) (s0:=.lst []) JC Js rfl hs Sc hk hi (λs H ex D=>?_) (λ_ _ _=>rfl) (λ_ _ _=>rfl) (λ_ _ _=>rfl) (λ_ _ _=>#[_,rfl]) hp I v Y O (Iz B);show Ga (X:=aB X scope vars s H ex) hc rfl (hg s H ex [] (λ_ _=>False) PassesOwn.never) (ht s H ex) (λ_=>(Kx (X:=aB X scope vars s H ex) rfl (he s H ex)).f) (λ_=>rfl) (λ_=>rfl) (λ_=>rfl) (λ_=>rfl)
def Ko(O:i∉ks)(hN:∀j,X.N[j]?=some y->j=i)(Y:X.N[i]?=some y)(hy:X.env.scope.names.lookup y=some .local)
  (M:swapsWith (.ListComp J [#[tg,iter,B,0]] scope pos) (some (.Name y py)) spos.line X.env=pure true)
  (hn:X.N.length=n)(hc:X.calm=true)(Sc:bS X.env.scope scope X.N vars)(hk:vars.length=k)(hi:FI X tg iter wi)
  (hg:∀s H ex,FG `d (List.range (n+1)) tg g)(ht:∀s H ex,fW `d B (iR `d wc))(he:∀s H ex,FE `d J we)
  (hs:∀x,foldedSetIterable iter X.env x=pure x:=by intro _;rfl):FS X ks (.Assign [.Name y py] (.ListComp J [#[tg,iter,B,0]] scope pos) spos) (zA (zn i) (gF n k wi g wc (bH n we))):=by
 subst hn;intro pn xe hp zG s Z H D I q;rw[exec_Assign_Name_used _ _ _ _ M];show qa (wpAny_standAt (qa ?_));let#[F,G,U,E,L,hw,n,b,c,r,x]:=q;refine qa (zh (Hj (λA E s Q h=>Io A E s Q h) (s0:=.lst []) (P:=λr v=>zo `ce λp=>zn i p.1 p.2 E.nx) (PX:=E.ex) (g:=g) (wc:=wc) (b:=bH X.N.length we) (Q':=λ_ s'=>SP `q zG D .next s') JC Js rfl hs Sc hk hi (λs H ex D=>?_) (λ_ _ _=>rfl) (λ_ _ _=>rfl) (λ_ _ _=>rfl) (λ_ _ _=>#[_,rfl]) hp I L hw (x.mono (λh1 z=>by rw[z];show KP.refl) `c `an)
  (Sr (P:=λr v=>zo `ce λp=>zn i p.1 p.2 E.nx) (Nx:=E.nx) O hN Y hy (λs U h=>h) n)) (λ_ s' hq=>qb (qb hq)) λ_ _ e=>e)
 show Ga (X:=aB X scope vars s H ex) hc rfl (hg s H ex [] (λ_ _=>False) PassesOwn.never) (ht s H ex) (λ_=>(Kx (X:=aB X scope vars s H ex) rfl (he s H ex)).f) (λ_=>rfl) (λ_=>rfl) (λ_=>rfl) (λ_=>rfl)
set_option maxHeartbeats 4000000 in
def Qj(hn:X.N.length=n)(hm:X.A.mark none=X.A)(hc:X.calm=true)(Sc:bS X.env.scope scope X.N vars)(hk:vars.length=k)(hi:FI X tg iter wi)
  (hg:∀s H ex,FG `d (List.range (n+1)) tg g)(ht:∀s H ex,fW `d B (iR `d wc))
  (yM:∀s H ex,FI `d v iter2 L)(h3:∀s H ex,FG `d (List.range (n+1)) v g2)(Y:∀s H ex,fW `d ifs2 (iR `d M))
  (he:∀s H ex,FE `d J we)
  (hs:∀x,foldedSetIterable iter X.env x=pure x:=by intro _;rfl)(h1:∀env x,foldedSetIterable iter2 env x=pure x:=by intro _ _;rfl):FE X (.ListComp J [#[tg,iter,B,0],#[v,iter2,ifs2,0]] scope pos) (gF n k wi g wc (mP L g2 M (bH n we))):=by
 subst hn;intro pn xe hp zG s Z H Q I q;let#[F,G,U,P,PX,O,hw,h2,hx]:=q;show Hj (λA E s Q h=>Io A E s Q h) (s0:=.lst []) JC Js rfl hs Sc hk hi (λs H ex D=>?_) (λ_ _ _=>rfl) (λ_ _ _=>rfl) (λ_ _ _=>rfl) (λ_ _ _=>#[_,rfl]) hp I O hw hx (Iz h2);let z:iH `d (.ListComp J [#[tg,iter,B,0],#[v,iter2,ifs2,0]] scope pos) 1 `k v _:=
  Ga (X:=aB X scope vars s H ex) hc rfl (h3 s H ex [] (λ_ _=>False) PassesOwn.never) (Y s H ex) (λ_=>(Kx (X:=aB X scope vars s H ex) (n:=X.N.length) rfl (he s H ex)).f) (λ_=>rfl) (λ_=>rfl) (λ_=>rfl) (λ_=>rfl)
 show Ga (X:=aB X scope vars s H ex) hc rfl (hg s H ex [] (λ_ _=>False) PassesOwn.never) (ht s H ex) (λ_=>Nm (X:=aB X scope vars s H ex) rfl (yM s H ex) z (h1 _) hm (λ_=>rfl) (λ_=>rfl) (λ_=>rfl) (λ_=>#[_,rfl])) (λ_=>rfl) (λ_=>rfl) (λ_=>rfl) (λ_=>rfl)
end
section
variable{K:W.Frag}
def GG{x:Str}(e:x.cps.toList=l):x.length=l.length:=by rw[<-e];rfl
def SH{x y:Str}(e:x.cps.toList=l)(v:y.cps.toList=m):(x++y).cps.toList=l++m:=by show(x.cps++y.cps).toList=_;rw[toList_append,e,v]
def bK.int(h:bK K F H v `O):v=.int i:=by
 rcases h with h|⟨_,_,_,_,h,_⟩|⟨_,_,_,_,_,h,_⟩|⟨_,_,_,_,_,h,_⟩
 .cases h;rfl
 .cases h
 .cases h
 .cases h
def bK.str(h:bK K F H v (.str l)):∃x,v=.str x/\x.cps.toList=l/\l.length<=16777216:=by
 rcases h with h|⟨_,_,_,_,h,_⟩|⟨_,_,_,_,_,h,_⟩|⟨_,_,_,_,_,h,_⟩
 .cases h with
  |str e z=>show#[_,rfl,e,z]
 .cases h
 .cases h
 .cases h
def bK.tup(h:bK K F H v `ba):∃a xs,v=.ref a/\F a=some `ax/\zE K F xs l:=by
 rcases h with h|⟨_,_,_,_,h,_⟩|⟨_,_,_,_,_,h,_⟩|⟨_,_,_,_,_,h,_⟩
 .cases h with
  |tup e r=>show#[_,_,rfl,e,r]
 .cases h
 .cases h
 .cases h
def bK.lst(z:zp F H)(h:bK K F H v `i):∃a xs,v=.ref a/\bQ K H a xs/\zE K F xs l:=by
 rcases h with h|⟨a,xs,J,G,h,B,r⟩|⟨_,_,_,_,_,h,_⟩|⟨_,_,_,_,_,h,_⟩
 .cases h with
  |lst e r=>show#[_,_,rfl,bQ.mono z e,r]
 .cases h;show#[a,xs,G,bQ.of B,r]
 .cases h
 .cases h
def zE.append(a:zE K F xs l)(r:zE K F ys m):zE K F (xs++ys) (l++m):=zE.ind (P:=λxs l=>zE K F (xs++ys) (l++m)) r (λa _ v=>.cons a v) a
def Rel.newLD(r:Rel K U Z F G H)(J:H p=none)(z:zE K F xs l):Rel K (U++[some `ae]) (Z++[some `w]) F G (upd H p `N):=by
 have v:∀{xs:List V}{l:List D},zE K F xs l->zu K F (upd H p `N) xs (l.map .sh) []:=by
  intro xs l h;generalize upd H p `N=H';induction xs generalizing l with
  |nil=>cases h;show .nil
  |cons x xs B=>cases h with
   |cons a b=>have:=zu.cons (aK.sh (H:=H') a) (B b);show this
 show r.newO J (.lst Bh ?_);let:=v z;show this
def tY(K:W.Frag):R2:=λx y H Q=>∃l b xs v,x=.ref l/\y=.ref b/\bQ K H l xs/\bQ K H b v/\xs.length+v.length<=sizeLine/\∀p,H p=none->Q `w (upd H p (.lst (xs++v)))
def RI:OpR X `cz (tY X.K):=by
 intro zG s Z H x y v u Q I rx ry h;let#[l,b,xs,zs,rfl,rfl,hl,hb,hz,q]:=h;cases rx;cases ry;let#[B,r1,#[#[cls,dd,data,sl],n,ho,hc,M,hd],_]:=I.list hl;let#[z,Y,#[#[h1,h2,data2,J],n2,F,O,G,L],_]:=I.list hb;subst hc M hd O G L;show concat_meets #[_,ho,rfl] #[_,F,rfl] noFill_list_add seq_list_add PySem.F.slot_list_add PySem.F.entry_list_add (PySem.F.args_list_add_2 _ _) (list_addW l b B.toArray z.toArray n n2 none none sl J (by rw[qr,qr,<-r1.length,<-Y.length];show hz)) #[ho,F,?_];let ea:B.toArray++z.toArray=(B++z).toArray:=by simp
 rw[ea];show#[.ref _,_,I.lnew (t':=s.toks) (r1.append Y) (by rw[qq];show hz),rfl,q _ I.fresh]
def oA(K:W.Frag):R2:=λx y H Q=>∃a b xs ys,x=.ref a/\y=.ref b/\bV K H a xs/\bV K H b ys/\xs.length+ys.length<=sizeLine/\
 (xs=[]->Q `ak H)/\(xs≠[]->ys=[]->Q `p H)/\(xs≠[]->ys≠[]->∀p,H p=none->Q `w (upd H p (.tup (xs++ys))))
def Uq:OpR X `cz (oA X.K):=by
 intro zG s Z H x y v u Q I rx Y h;let#[a,b,xs,ys,rfl,rfl,ha,hb,hz,q0,q1,q2]:=h;by_cases F:xs=[]
 .cases rx;cases Y;let#[B,r1,p1,_]:=I.tuple ha;let#[z,r2,p2,_]:=I.tuple hb;let#[#[cls,dd,data,sl],ho,hc,n,hd]:=id p1;let#[#[h1,O,data2,J],G,M,n2,L]:=id p2;subst hc hd M L;let hi:B=[]:=r1.nil_iff.mpr F;exact concat_meets #[_,ho,rfl] #[_,G,rfl] noFill_tuple_add seq_tuple_add PySem.F.slot_tuple_add PySem.F.entry_tuple_add `dv
   (tuple_addW0 a b B.toArray z.toArray n n2 dd O sl J (by simp[hi])) #[ho,G,.ref b,H,I,rfl,q0 F]
 .show Ss zG s Z H _ _ v u Q I rx Y #[a,b,xs,ys,rfl,rfl,ha,hb,F,hz,q1 F,q2 F]
def rT:R2:=λx y H Q=>∃i j,x=.str i/\y=.str j/\i.length+j.length<=sizeLine/\Q (.str (i++j)) H
def lW(K:W.Frag):R2:=λx y H Q=>tX (λi j=>.int (i+j)) x y H Q\/(rT x y H Q\/(tY K x y H Q\/oA K x y H Q))
def Vo:OpR X `cz (lW X.K):=OpR.or QC (OpR.or Wm (OpR.or RI Uq))
def IG(h:n<=big):n<=sizeLine:=by rw[ze];show le_trans h ⋯
def UX:jA K (lW K) aV:=by
 intro Z U F G H x y p q s Q v ex O e J;unfold aV at e;split at e
 .cases e;let h1:=ex.int;let h2:=O.int;subst h1 h2;show .inl #[_,_,rfl,rfl,J _ F H `c (v.push `do)]
 .rename_i a b;split at e
  .rename_i L;cases e;let#[x,rfl,e1,z1]:=ex.str;let#[y,rfl,e2,z2]:=O.str;show .inr (.inl #[_,_,rfl,rfl,by rw[GG e1,GG e2];show IG L,J _ F H `c (v.push (.str (SH e1 e2) (by rw[qq];show le_trans L ⋯)))])
  .cases e
 .rename_i a b;split at e
  .rename_i L;cases e;let#[l,xs,rfl,h1,B]:=ex.lst v.fr;let#[m,ys,rfl,h2,z]:=O.lst v.fr;show .inr (.inr (.inl #[l,m,xs,ys,rfl,rfl,h1,h2,by rw[B.len,z.len];show IG L,λp M=>?_]));show J _ F _ `c (v.newLD M (B.append z))
  .cases e
 .rename_i a b;split at e
  .rename_i L;cases e;let#[l,xs,rfl,h1,B]:=ex.tup;let#[m,ys,rfl,h2,z]:=O.tup;refine .inr (.inr (.inr #[l,m,xs,ys,rfl,rfl,bV.of (v.fr _ _ h1),bV.of (v.fr _ _ h2),by rw[B.len,z.len];show IG L,λhx=>?_,λ_ hy=>?_,λ_ _ p M=>?_]))
   .subst hx;cases B;show J _ F H `c (v.push (.tup h2 z))
   .subst hy;cases z;rw[qA]at J;show J _ F H `c (v.push (.tup h1 B))
   .let Y:=(v.free M).1;show J _ _ _ (zp.upd Y) ((v.newF M).push (.tup Bh ((B.append z).mono (zp.upd Y))))
  .cases e
 .cases e
def Hv{g:Int->Int->Int}(B:∀p q s,o p q=some s->∃i j,p=.int i/\q=.int j/\C i j/\s=.sh (.int (g i j))):jA K (rI C λi j=>.int (g i j)) o:=by intro Z U F G H x y p q s Q v ex L e z;let#[i,j,rfl,rfl,J,rfl]:=B p q s e;let h1:=ex.int;let h2:=L.int;subst h1 h2;show#[i,j,rfl,rfl,J,z _ F H `c (v.push `do)]
def Th:jA K (rI (λ_ _=>True) λi j=>.int (i-j)) dQ:=Hv λp q s e=>by
 unfold dQ at e;split at e
 .cases e;show#[_,_,rfl,rfl,trivial,rfl]
 .cases e
def QX:OpR X (binaryOp .Sub) (rI (λ_ _=>True) λi j=>.int (i-j)):=HH λ_ _ _ _ _ _ _ _ q=>sub_int q
def TZ:jA K (rI pG λi j=>.int (i*j)) oC:=Hv λp q s e=>by
 unfold oC at e;split at e
 .rename_i i j;split at e
  .rename_i h;cases e;show#[_,_,rfl,rfl,?_,rfl];simp[lX,or_eq_true,and_eq_true,qT]at h;show h
  .cases e
 .cases e
def TC:jA K (rI (λ_ j=>0<j) λi j=>.int (i %j)) eY:=Hv λp q s e=>by
 unfold eY at e;split at e
 .split at e
  .rename_i h;cases e;show#[_,_,rfl,rfl,h,rfl]
  .cases e
 .cases e
def Ug:jA K (rI dz λi j=>.int (i^j.toNat)) oB:=Hv λp q s e=>by
 unfold oB at e;split at e
 .split at e
  .rename_i h;cases e;show#[_,_,rfl,rfl,#[h.1,∅,h.2.2],rfl]
  .cases e
 .cases e
def uH(i j:Int):Prop:=0<j/\j<18446744073709551616
def Td:OpR X (binaryOp .FloorDiv) (rI uH λi j=>.int (i/j)):=HH λi j _ _ _ _ _ v q=>by
 let h1:(0:Int)<j:=v.1;let h2:j<18446744073709551616:=v.2;show floordiv_int ∅ ?_ (.inl (PyProof.noPylong_of_log2 ?_))
 .rw[Int.fdiv_eq_ediv_of_nonneg _ ∅];show q
 .let z:j.natAbs≠0:=by lia
  let:j.natAbs.log2<64:=(Nat.log2_lt z).mpr ∅;lia
def Vz:jA K (rI uH λi j=>.int (i/j)) hV:=Hv λp q s e=>by
 unfold hV at e;split at e
 .split at e
  .rename_i h;cases e;show#[_,_,rfl,rfl,h,rfl]
  .cases e
 .cases e
end
def AJ(z:FE X a wa)(v:FE X b wb):FE X (.BinOp a .Add b pos) (zx aV wa wb):=GB (λ_ _=>Vo) UX z v
def ED(z:FE X a wa)(v:FE X b wb):FE X (.BinOp a .Sub b pos) (zx dQ wa wb):=GB (λ_ _=>QX) Th z v
def Fm(z:FE X a wa)(v:FE X b wb):FE X (.BinOp a .Mod b pos) (zx eY wa wb):=GB (λ_ _=>PL) TC z v
def Mj(z:FE X a wa)(v:FE X b wb):FE X (.BinOp a .FloorDiv b pos) (zx hV wa wb):=GB (λ_ _=>Td) Vz z v
def Qu(z:FE X a wa)(v:FE X b wb):FE X (.BinOp a .Pow b pos) (zx oB wa wb):=GB (λ_ _=>Qs) Ug z v
section
open PySem.SeqAt
def Vi(h:aS `ba (.tup m)=false):bO l m=false:=h
def Ja:∀{l m:List D}{j:Nat}{a b:D},bO l m=false->l[j]?=some a->m[j]?=some b->aS a b=false
 |[],_,_,_,_,_,h,_=>by simp at h
 |_::_,[],_,_,_,_,_,h=>by simp at h
 |x::l,y::m,0,a,b,h,h1,h2=>by simp at h1 h2;subst h1 h2;let h':(aS x y||bO l m)=false:=h;rw[Bool.or_eq_false_iff]at h';show h'.1
 |x::l,y::m,j+1,a,b,h,h1,h2=>by let h':(aS x y||bO l m)=false:=h;rw[Bool.or_eq_false_iff]at h';show Ja h'.2 h1 ↑h2
def Iq:∀{l:List D}{j:Nat}{a:D},l[j]?=some a->eP a<=bM l
 |[],_,_,h=>by simp at h
 |x::l,0,a,h=>by simp at h;subst h;show eP x<=max (eP x) (bM l);lia
 |x::l,j+1,a,h=>by let:=Iq (l:=l) (j:=j) (a:=a) h;show eP a<=max (eP x) (bM l);lia
open Classical in
def Ih{l m:List D}(n:Nat)(hn:n=min l.length m.length):((List.range n).all (λj=>decide (l[j]?=m[j]?))&&(l.length==m.length))=decide (l=m):=by
 by_cases h:l=m
 .subst h;simp
 .rw[qS h];by_cases v:l.length=m.length
  .have:(List.range n).all (λj=>decide (l[j]?=m[j]?))=false:=by
    cases q:(List.range n).all (λj=>decide (l[j]?=m[j]?))with
    |false=>rfl
    |true=>
     exfalso;apply h;apply ext_getElem?;intro j;by_cases z:j<n
     .show qU (qI.mp q j ↑z)
     .rw[qQ ∅,qQ ∅]
   rw[this];rfl
  .let:(l.length==m.length)=false:=by simpa using v
   rw[this,Bool.and_false]
inductive Sc:V->D->Prop
 |non:Sc .non .non
 |bl (b:Bool):Sc (.bl b) (.bl b)
 |int (i:Int):Sc (.int i) (.int i)
 |str {x:Str} {l:List Nat}:x.cps.toList=l->Sc (.str x) (.str l)
def Le{K:W.Frag}(r:aQ K H v d)(z:aS d e=false)(h1:∀l,d≠.tup l)(h2:∀l,d≠.lst l):Sc v d:=by
 cases r with
 |tup=>show absurd rfl (h1 _)
 |lst=>show absurd rfl (h2 _)
 |dK=>cases e<;>cases z
 |dT=>cases e<;>cases z
 |st=>cases e<;>cases z
 |exc=>cases e<;>cases z
 |non=>show .non
 |bl=>show .bl _
 |int=>show .int _
 |str e _=>show .str e
def Lx{K:W.Frag}(r:aQ K H u e)(s:Sc v d)(z:aS d e=false):Sc u e:=by
 cases r with
 |non=>show .non
 |bl=>show .bl _
 |int=>show .int _
 |str e _=>show .str e
 |_=>cases s<;>cases z
open Classical in
def JF{K:W.Frag}(r1:aQ K H v d)(Y:aQ K H u e)(F:zv v L)(z:zv u M)(G:aS d e=false)(h1:∀l,d≠.tup l)(h2:∀l,d≠.lst l):
  EqAt A s L M (decide (d=e))/\RcAt A s L M (decide (d=e)):=by
 let O:=Le r1 G h1 h2;let B:=Lx Y O G
 clear r1 Y h1 h2
 cases O with
 |non=>
  cases F;cases B with
  |non=>cases z;simp;show#[EqAt.same _,RcAt.none_none]
  |bl b=>cases z;simp;show#[EqAt.none_bool _,RcAt.none_bool _]
  |int i=>let#[t,rfl]:=z;simp;show#[EqAt.none_int _ _,RcAt.none_int _ _]
  |str e=>let#[t,rfl]:=z;simp;show#[EqAt.none_str _ _,RcAt.none_str _ _]
 |bl a=>
  cases F;cases B with
  |non=>cases z;simp;show#[EqAt.bool_none _,RcAt.bool_none _]
  |bl b=>
   cases z;let e:(decide (D.bl a=D.bl b))=(a==b):=by cases a<;>cases b<;>simp
   rw[e];show#[EqAt.bool_bool _ _,RcAt.bool_bool _ _]
  |str e=>let#[t,rfl]:=z;simp;show#[EqAt.bool_str _ _ _,RcAt.bool_str _ _ _]
  |int=>cases G
 |int i=>
  let#[t,rfl]:=F;cases B with
  |non=>cases z;simp;show#[EqAt.int_none _ _,RcAt.int_none _ _]
  |int j=>
   let#[J,rfl]:=z;let e:(decide (D.int i=D.int j))=(i==j):=by by_cases h:i=j<;>simp[h]
   rw[e];show#[EqAt.int_int _ _ _ _,RcAt.int_int _ _ _ _]
  |str e=>let#[J,rfl]:=z;simp;show#[EqAt.int_str _ _ _ _,RcAt.int_str _ _ _ _]
  |bl=>cases G
 |str e1=>
  let#[t,rfl]:=F;cases B with
  |non=>cases z;simp;show#[EqAt.str_none _ _,RcAt.str_none _ _]
  |bl b=>cases z;simp;show#[EqAt.str_bool _ _ _,RcAt.str_bool _ _ _]
  |int j=>let#[J,rfl]:=z;simp;show#[EqAt.str_int _ _ _ _,RcAt.str_int _ _ _ _]
  |str e2=>
   obtain⟨J,rfl⟩:=z;rename_i x l y m;let e:(decide (D.str l=D.str m))=(x==y):=by
    by_cases h:x=y
    .subst h;rw[<-e1,<-e2];simp
    .let hb:(x==y)=false:=by simpa using h
     rw[hb];show qS λq=>h ?_;let#[#[a]]:=x;let#[#[b]]:=y;let a1:a=l:=e1;let b1:b=m:=e2;rw[a1,b1,D.str.inj q]
   rw[e];show#[EqAt.str_str _ _ _ _,RcAt.str_str _ _ _ _]
def FY(r:zD xs v)(h:j<v.toArray.size):∃x,xs[j]?=some x/\zv x v.toArray[j]:=by
 let G:=r.length;let J:j<v.length:=h;let F:j<xs.length:=∅
 let#[u,B,z]:=r.get (i:=j) (x:=xs[j]) (by simp);show#[xs[j],by simp,?_];let:v.toArray[j]=u:=by let:=qg.mp B;simpa using this.2
 rw[this];show z
mutual
theorem aQ.uniq(I:Inv X zG Z H s)(r:aQ X.K H v d)(q:aQ X.K H v e)(z:aS d e=false):d=e:=by
 cases r with
 |non=>cases q;rfl
 |bl _=>cases q;rfl
 |int _=>cases q;rfl
 |str F _=>cases q with|str B _=>rw[<-F,<-B]
 |tup F J=>cases q with
  |tup B G=>cases I.tuple_inj (bV.of F) (bV.of B);rw[zE.uniq I J G z]
  |_=>cases z
 |lst F J=>cases q with
  |lst B G=>cases I.list_inj F B;rw[zE.uniq I J G z]
  |_=>cases z
 |dK=>cases e<;>cases z
 |dT=>cases e<;>cases z
 |st=>cases e<;>cases z
 |exc=>cases e<;>cases z
theorem zE.uniq(I:Inv X zG Z H s)(r:zE X.K H v d)(q:zE X.K H v e)(z:bO d e=false):d=e:=by
 cases r with
 |nil=>cases q;rfl
 |@cons _ a _ l J F=>cases q with
  |@cons _ b _ m G B=>have h':(aS a b||bO l m)=false:=z;rw[Bool.or_eq_false_iff]at h';rw[aQ.uniq I J G h'.1,zE.uniq I F B h'.2]
end
open Classical in
def Jk:∀(n:Nat){A:Around}{v u:V}{vv uu:Value}{d e:D},eP d<=n->Inv X zG Z H s->aQ X.K H v d->aQ X.K H u e->zv v vv->zv u uu->aS d e=false->A.units+n<cLine->
  EqAt A s vv uu (decide (d=e))/\RcAt A s vv uu (decide (d=e)):=by
 intro n;induction n with
 |zero=>intro A v u vv uu d e hd I r1 r2 rv ru hc hu;show JF r1 r2 rv ru hc (λl z=>by subst z;show absurd hd (by show¬bM l+1<=0;lia)) (λl z=>by subst z;show absurd hd (by show¬bM l+1<=0;lia))
 |succ n ih=>
  intro A v u vv uu d e hd I r1 r2 rv ru hc hu;let e4:A.in1.units+n<cLine:=by show A.units+1+n<cLine;lia
  cases r1 with
  |tup e1 q1=>
   cases r2 with
   |tup e2 q2=>
    rename_i a xs l b ys m;cases rv;cases ru;let#[G,w1,p1,_]:=I.tuple (bV.of e1);let#[B,w2,p2,_]:=I.tuple (bV.of e2);let h8:bM l<=n:=by let:bM l+1<=n+1:=hd;lia
    let h4:G.toArray.size=l.length:=by rw[qr,<-w1.length,q1.len]
    let h9:B.toArray.size=m.length:=by rw[qr,<-w2.length,q2.len]
    have items:∀j(h1:j<G.toArray.size)(h2:j<B.toArray.size),EqAt A.in1 s G.toArray[j] B.toArray[j] (decide (l[j]?=m[j]?)):=λj h1 h2=>by
     let#[x,hx,rx]:=FY w1 h1;let#[y,hy,ry]:=FY w2 h2;let F:j<l.length:=∅
     let J:j<m.length:=∅
     let#[x',M,h6]:=q1.get (i:=j) (d:=l[j]) (by simp[F]);let#[y',L,h5]:=q2.get (i:=j) (d:=m[j]) (by simp[J]);rw[hx]at M;cases M;rw[hy]at L;cases L;let:=(ih (A:=A.in1) (le_trans (Iq (l:=l) (j:=j) (by simp[F])) h8) I h6 h5 rx ry (Ja (j:=j) (a:=l[j]) (b:=m[j]) (Vi hc) (by simp[F]) (by simp[J])) e4).1;let e:decide (l[j]?=m[j]?)=decide (l[j]=m[j]):=by simp[F,J]
     rw[e];show this
    have O:RcAt A s `p `ak (decide (D.tup l=D.tup m)):=by
     let:=RcAt.tuples (s:=s) (show s.heap.IsTuple a G.toArray from p1) (show s.heap.IsTuple b B.toArray from p2) ∅ items;rw[h4,h9,Ih (l:=l) (m:=m) _ rfl]at this;let e:decide (D.tup l=D.tup m)=decide (l=m):=by by_cases h:l=m<;>simp[h]
     rw[e];show this
    show#[?_,O];by_cases h3:a=b
    .subst h3;let h7:l=m:=by let z:=aQ.uniq I (.tup e1 q1) (.tup e2 q2) hc;cases z;rfl
     subst h7;simp;show EqAt.same _
    .show EqAt.of_refs h3 O
   |_=>cases hc
  |lst e1 q1=>
   cases r2 with
   |lst e2 q2=>
    rename_i a xs l b ys m;cases rv;cases ru;let#[G,w1,p1,_]:=I.list e1;let#[B,w2,p2,_]:=I.list e2;let h8:bM l<=n:=by let:bM l+1<=n+1:=hd;lia
    let h4:G.toArray.size=l.length:=by rw[qr,<-w1.length,q1.len]
    let h9:B.toArray.size=m.length:=by rw[qr,<-w2.length,q2.len]
    have items:∀j(h1:j<G.toArray.size)(h2:j<B.toArray.size),EqAt A.in1 s G.toArray[j] B.toArray[j] (decide (l[j]?=m[j]?)):=λj h1 h2=>by
     let#[x,hx,rx]:=FY w1 h1;let#[y,hy,ry]:=FY w2 h2;let F:j<l.length:=∅
     let J:j<m.length:=∅
     let#[x',M,h6]:=q1.get (i:=j) (d:=l[j]) (by simp[F]);let#[y',L,h5]:=q2.get (i:=j) (d:=m[j]) (by simp[J]);rw[hx]at M;cases M;rw[hy]at L;cases L;let hk:bO l m=false:=hc;let:=(ih (A:=A.in1) (le_trans (Iq (l:=l) (j:=j) (by simp[F])) h8) I h6 h5 rx ry (Ja (j:=j) (a:=l[j]) (b:=m[j]) hk (by simp[F]) (by simp[J])) e4).1;let e:decide (l[j]?=m[j]?)=decide (l[j]=m[j]):=by simp[F,J]
     rw[e];show this
    have O:RcAt A s `p `ak (decide (D.lst l=D.lst m)):=by
     let e:decide (D.lst l=D.lst m)=decide (l=m):=by by_cases h:l=m<;>simp[h]
     rw[e];by_cases Y:l.length=m.length
     .let:=RcAt.lists (s:=s) p1.isList p2.isList ∅ ∅ items;rw[h4]at this;let e2:=Ih (l:=l) (m:=m) l.length ∅;let e3:(l.length==m.length)=true:=by simpa using Y
      rw[e3,Bool.and_true]at e2;rw[<-e2];show this
     .let:=RcAt.lists_lengths (A:=A) (s:=s) p1.isList p2.isList (by simp only[h4,h9];simpa using Y) ∅;let e2:decide (l=m)=false:=qS λz=>Y (by rw[z]);rw[e2];show this
    show#[?_,O];by_cases h3:a=b
    .subst h3;let h7:l=m:=by let z:=aQ.uniq I (.lst e1 q1) (.lst e2 q2) hc;cases z;rfl
     subst h7;simp;show EqAt.same _
    .show EqAt.of_refs h3 O
   |_=>cases hc
  |_=>show JF (by first|show .non|show .bl _|show .int _|(rename_i e z;show .str e z)|(rename_i e k r;show .dK e k r)|(rename_i e k r;show .dT e k r)|(rename_i e r;show .st e r)|(rename_i e k z;show .exc e k z)) r2 rv ru hc (λl z=>by cases z) (λl z=>by cases z)
end
section
variable{K:W.Frag}
open PySem.SeqAt
open Classical in
def bc(K:W.Frag):R2:=λx y H Q=>∃p q,aQ K H x p/\aQ K H y q/\aS p q=false/\eP p<=30/\Q (.bl (decide (p=q))) H
def EC(O:X.A.units+31<cLine):OpR X (compareOp .Eq) (bc X.K):=by intro zG s Z H x y v u Q I B z h;let#[p,q,G,F,M,L,J]:=h;show(Jk 30 L I G F B z M ∅).2 X.prog X.w X.xe _ #[.bl _,H,I,rfl,J]
def Ls(h:eL p q=some k):aS p q=false/\eP p<=30:=by grind[eL]
open Classical in
def MT(h:eL p q=some k):k=decide (p=q):=by
 unfold eL at h;split at h
 .cases h
 .show(qf h).symm
def EB:dY K (bc K) eL:=by intro H x y p q k Q z v e B;let#[h1,h2]:=Ls e;let:=MT e;subst this;show#[p,q,z,v,h1,h2,B]
open Classical in
def ay(K:W.Frag):R2:=λx y H Q=>∃p q,aQ K H x p/\aQ K H y q/\aS p q=false/\eP p<=30/\Q (.bl (!decide (p=q))) H
def NK(I:Inv X zG Z H s)(q1:zE X.K H xs l)(q2:zE X.K H ys m)(Y:zD xs J)(O:zD ys G)(hc:bO l m=false)(hd:bM l<=30)(hu:A.units+30<cLine):
  ∀j(h1:j<J.toArray.size)(h2:j<G.toArray.size),EqAt A s J.toArray[j] G.toArray[j] (open Classical in decide (l[j]?=m[j]?)):=λj h1 h2=>by
 let#[x,hx,rx]:=FY Y h1;let#[y,hy,ry]:=FY O h2;let h4:J.toArray.size=l.length:=by rw[qr,<-Y.length,q1.len]
 let h3:G.toArray.size=m.length:=by rw[qr,<-O.length,q2.len]
 let F:j<l.length:=∅
 let B:j<m.length:=∅
 let#[x',z,M]:=q1.get (i:=j) (d:=l[j]) (by simp);let#[y',v,L]:=q2.get (i:=j) (d:=m[j]) (by simp);rw[hx]at z;cases z;rw[hy]at v;cases v;let:=(Jk 30 (A:=A) (le_trans (Iq (l:=l) (j:=j) (by simp)) hd) I M L rx ry (Ja (j:=j) (a:=l[j]) (b:=m[j]) hc (by simp[F]) (by simp[B])) hu).1;let e:(open Classical in decide (l[j]?=m[j]?))=(open Classical in decide (l[j]=m[j])):=by simp[F,B]
 rw[e];show this
def HW(p:D):(∃l,p=.tup l)\/(∃l,p=.lst l)\/((∀l,p≠.tup l)/\∀l,p≠.lst l):=by
 cases p with
 |tup l=>show .inl #[l,rfl]
 |lst l=>show .inr (.inl #[l,rfl])
 |_=>show .inr (.inr #[λl z=>D.noConfusion z,λl z=>D.noConfusion z])
def QZ(h:aS `ba q=false):∃m,q=.tup m:=by
 cases q with
 |tup m=>show#[m,rfl]
 |_=>cases h
def Rw(h:aS `i q=false):∃m,q=.lst m:=by
 cases q with
 |lst m=>show#[m,rfl]
 |_=>cases h
def QU(J:aQ K H x p)(G:aQ K H y q)(v:aS p q=false)(h1:∀l,p≠.tup l)(h2:∀l,p≠.lst l):ak x y=true/\(p=q↔x=y):=by
 let F:=Le J v h1 h2;let B:=Lx G F v;cases F with
 |str M=>
  cases B with
  |str L=>
   rename_i x l y m;show#[rfl,λz=>?_,λz=>?_]
   .obtain⟨⟨a⟩⟩:=x;let#[#[b]]:=y;grind
   .cases z;rw[<-M,<-L]
  |_=>show#[rfl,λz=>D.noConfusion z,λz=>V.noConfusion z]
 |_=>cases B<;>first|show⟨rfl,λz=>D.noConfusion z,λz=>V.noConfusion z⟩|show⟨rfl,λz=>by cases z;rfl,λz=>by cases z;rfl⟩|cases v
def DO(hu:X.A.units+32<cLine):OpR X (compareOp .NotEq) (ay X.K):=by
 classical
 intro zG s Z H x y v u Q I rx ry h;let#[p,q,r1,r2,hc,hd,hq]:=h;let B:EP X zG Z Q (.bool (!decide (p=q))) s:=#[.bl _,H,I,rfl,hq]
 let h3:X.A.in1.units+30<cLine:=by show X.A.units+1+30<cLine;lia
 rcases HW p with⟨l,rfl⟩|⟨l,rfl⟩|⟨n1,n2⟩
 .obtain⟨m,rfl⟩:=QZ hc;cases r1 with
  |tup e1 q1=>
  cases r2 with
  |tup M q2=>
   rename_i a xs b ys;cases rx;cases ry;let#[J,w1,p1,_]:=I.tuple (bV.of e1);let#[F,w2,p2,_]:=I.tuple (bV.of M);let O:bM l<=30:=by let:bM l+1<=30:=hd;lia
   let L:J.toArray.size=l.length:=by rw[qr,<-w1.length,q1.len]
   let Y:F.toArray.size=m.length:=by rw[qr,<-w2.length,q2.len]
   let:=RcNeAt.tuples (A:=X.A) (s:=s) (show s.heap.IsTuple a J.toArray from p1) (show s.heap.IsTuple b F.toArray from p2) ∅ (NK I q1 q2 w1 w2 hc O h3);rw[L,Y,Ih (l:=l) (m:=m) _ rfl]at this;let e:decide (D.tup l=D.tup m)=decide (l=m):=by by_cases h:l=m<;>simp
   rw[e]at B;show this X.prog X.w X.xe _ B
 .obtain⟨m,rfl⟩:=Rw hc;cases r1 with
  |lst e1 q1=>
  cases r2 with
  |lst M q2=>
   cases rx;cases ry;let#[J,w1,p1,_]:=I.list e1;let#[F,w2,p2,_]:=I.list M;let O:bM l<=30:=by let:bM l+1<=30:=hd;lia
   let L:J.toArray.size=l.length:=by rw[qr,<-w1.length,q1.len]
   let Y:F.toArray.size=m.length:=by rw[qr,<-w2.length,q2.len]
   let e:decide (D.lst l=D.lst m)=decide (l=m):=by by_cases h:l=m<;>simp
   rw[e]at B;by_cases G:l.length=m.length
   .let:=RcNeAt.lists (A:=X.A) (s:=s) p1.isList p2.isList ∅ ∅ (NK I q1 q2 w1 w2 hc O h3);rw[L]at this;let M:=Ih (l:=l) (m:=m) l.length ∅;let e3:(l.length==m.length)=true:=by simpa using G
    rw[e3,Bool.and_true]at M;rw[<-M]at B;show this X.prog X.w X.xe _ B
   .let:=RcNeAt.lists_lengths (A:=X.A) (s:=s) p1.isList p2.isList (by simp[L,Y];simpa using G) ∅;let M:decide (l=m)=false:=qS λz=>G (by rw[z]);rw[M]at B;show this X.prog X.w X.xe _ B
 .obtain⟨h1,h2⟩:=QU r1 r2 hc n1 n2;rw[decide_eq_decide.mpr h2]at hq;show Pm zG s Z H x y v u Q I rx ry #[h1,hq]
def DQ:dY K (ay K) eQ:=by
 intro H x y p q k Q B z e F;unfold eQ at e;cases v:eL p q with
 |none=>rw[v]at e;cases e
 |some b=>rw[v]at e;let G:(!b)=k:=qf e;let#[h1,h2]:=Ls v;let:=MT v;subst this;subst G;show#[p,q,B,z,h1,h2,F]
def iS(f:Int->Int->Bool)(g:List Nat->List Nat->Bool):R2:=λx y H Q=>(∃i j,x=.int i/\y=.int j/\Q (.bl (f i j)) H)\/∃i j,x=.str i/\y=.str j/\Q (.bl `eh) H
def Iu{g:List Nat->List Nat->Bool}(rule:∀(i j:Str)(t u:Tok)(s:Shared)(Q:zj)(E:zj),Q (.bool `eh) s->wpAny `a X.A (compareOp G (.str i t) (.str j u)) Q E s):
  OpR X (compareOp G) (λx y H Q=>∃i j,x=.str i/\y=.str j/\Q (.bl `eh) H):=by
 intro zG s Z H x y v u Q I F B h;let#[i,j,rfl,rfl,q]:=h;let#[t,rfl]:=F;let#[z,rfl]:=B;show rule i j t z s _ _ #[.bl _,H,I,rfl,q]
def Lp:OpR X (compareOp .Lt) (iS (λi j=>decide (i<j)) λl m=>decide (l<m)):=FL.OpR.or Pr (Iu (g:=λl m=>decide (l<m)) λ_ _ _ _ _ _ _ q=>PyProof.Rows.lt_str q)
def Ri:OpR X (compareOp .LtE) (iS (λi j=>decide (i<=j)) λl m=>!decide (m<l)):=FL.OpR.or Py (Iu (g:=λl m=>!decide (m<l)) λ_ _ _ _ _ _ _ q=>PySem.P.le_str q)
def GE:OpR X (compareOp .Gt) (iS (λi j=>decide (j<i)) λl m=>decide (m<l)):=FL.OpR.or Pk (Iu (g:=λl m=>decide (m<l)) λ_ _ _ _ _ _ _ q=>PySem.P.gt_str q)
def Lq:OpR X (compareOp .GtE) (iS (λi j=>decide (j<=i)) λl m=>!decide (l<m)):=FL.OpR.or Pf (Iu (g:=λl m=>!decide (l<m)) λ_ _ _ _ _ _ _ q=>PySem.P.ge_str q)
def IH(h:∀p q k,o p q=some k->(∃i j,p=.int i/\q=.int j/\k=f i j)\/∃l m,p=.str l/\q=.str m/\k=g l m):dY K (iS f g) o:=by
 intro H x y p q k Q z v e B;rcases h p q k e with⟨i,j,rfl,rfl,rfl⟩|⟨l,m,rfl,rfl,rfl⟩
 .cases z;cases v;show .inl #[i,j,rfl,rfl,B]
 .cases z with
  |str G L=>cases v with
   |str F J=>subst G F;show .inr #[_,_,rfl,rfl,B]
def Mq:dY K (iS (λi j=>decide (i<j)) λl m=>decide (l<m)) cx:=IH λp q k e=>by
 unfold cx fz at e;split at e
 .show .inl #[_,_,rfl,rfl,(qf e).symm]
 .show .inr #[_,_,rfl,rfl,(qf e).symm]
 .cases e
def GF:dY K (iS (λi j=>decide (j<i)) λl m=>decide (m<l)) mY:=IH λp q k e=>by
 unfold mY fz at e;split at e
 .show .inl #[_,_,rfl,rfl,(qf e).symm]
 .show .inr #[_,_,rfl,rfl,(qf e).symm]
 .cases e
def Sh:dY K (iS (λi j=>decide (i<=j)) λl m=>!decide (m<l)) gm:=IH λp q k e=>by
 unfold gm at e;split at e
 .show .inl #[_,_,rfl,rfl,(qf e).symm]
 .show .inr #[_,_,rfl,rfl,(qf e).symm]
 .cases e
def MC:dY K (iS (λi j=>decide (j<=i)) λl m=>!decide (l<m)) zN:=IH λp q k e=>by
 unfold zN at e;split at e
 .show .inl #[_,_,rfl,rfl,(qf e).symm]
 .show .inr #[_,_,rfl,rfl,(qf e).symm]
 .cases e
end
section
open PySem.SeqAt
open Classical in
def wO(K:W.Frag)(neg:Bool):R2:=λx y H Q=>∃p l,aQ K H x p/\(aQ K H y `i\/aQ K H y `ba)/\(∀d∈l,aS d p=false/\eP d<=30)/\Q (.bl (if neg then !decide (p∈l)else decide (p∈l))) H
def IB(I:Inv X zG Z H s)(rx:zv x v)(r1:aQ X.K H x p)(q1:zE X.K H xs l)(w1:zD xs M)(hc:∀d∈l,aS d p=false/\eP d<=30)(hu:A.units+30<cLine):
  ∃e:Value->Bool,(∀y,y∈M.toArray->EqAt A s y v (e y))/\M.toArray.any e=(open Classical in decide (p∈l)):=by
 classical
 have item:∀{y:Value},y∈M->∃z d,zv z y/\aQ X.K H z d/\d∈l:=λ{y} Y=>by
  let#[j,hj,e]:=getElem_of_mem Y;let#[z,hz,G]:=FY (j:=j) w1 hj;let hl:j<l.length:=by rw[<-q1.len,w1.length];show hj
  let#[z',O,B]:=q1.get (i:=j) (d:=l[j]) (by simp);rw[hz]at O;cases O;show#[z,l[j],?_,B,by simp];let:M.toArray[j]=y:=e;rw[<-this];show G
 show#[λy=>decide (∃z,zv z y/\aQ X.K H z p),λy Y=>?_,?_]
 .have h1:y∈M:=by simpa using Y
  obtain⟨z,d,G,B,hd⟩:=item h1;let L:=hc d hd;let:=(Jk 30 (A:=A) L.2 I B r1 G rx L.1 hu).1;let e:decide (d=p)=decide (∃z,zv z y/\aQ X.K H z p):=by
   by_cases h:d=p
   .subst h;rw[qR rfl,qR #[z,G,B]]
   .rw[qS h];show(qS ?_).symm;rintro⟨z',F,J⟩;let:z=z':=G.inj F;subst this;show h (aQ.uniq I B J L.1)
  show EqAt A s y v (decide (∃z,zv z y/\aQ X.K H z p));rw[<-e];show this
 .by_cases h:p∈l
  .rw[qR h];let#[j,hj,e]:=getElem_of_mem h;let#[z,hz,B]:=q1.get (i:=j) (d:=l[j]) (by simp);let#[u,h2,ru]:=w1.get hz;rw[Array.any_eq_true'];show#[u,by simpa using qM h2,qR #[z,ru,e▸B]]
  .rw[qS h];rw[Array.any_eq_false'];intro y Y z;let#[z',F,J]:=qU z;let#[z2,d,G,B,hd]:=item (y:=y) ↑Y;let:z2=z':=G.inj F;subst this;show h (aQ.uniq I B J (hc d hd).1▸hd)
def PN(hu:X.A.units+32<cLine):OpR X (compareOp .In) (wO X.K false):=by
 intro zG s Z H x y v u Q I Y O h;let#[p,l,r1,z,hc,hq]:=h;let F:X.A.in1.units+30<cLine:=by show X.A.units+1+30<cLine;lia
 rcases z with z|z
 .cases z with
  |lst e q=>cases O;let#[B,G,J,_]:=I.list e;let#[f,L,M]:=IB (A:=X.A.in1) I Y r1 q G hc F;show in_listAt f J.isList L #[.bl _,H,I,rfl,by rw[M];show hq]
 .cases z with
  |tup e q=>cases O;let#[B,G,J,_]:=I.tuple (bV.of e);let#[f,L,M]:=IB (A:=X.A.in1) I Y r1 q G hc F;show in_tupleAt f (show s.heap.IsTuple _ B.toArray from J) L #[.bl _,H,I,rfl,by rw[M];show hq]
def VM(hu:X.A.units+32<cLine):OpR X `dc (wO X.K true):=by
 intro zG s Z H x y v u Q I Y O h;let#[p,l,r1,z,hc,hq]:=h;let F:X.A.in1.units+30<cLine:=by show X.A.units+1+30<cLine;lia
 rcases z with z|z
 .cases z with
  |lst e q=>cases O;let#[B,G,J,_]:=I.list e;let#[f,L,M]:=IB (A:=X.A.in1) I Y r1 q G hc F;show notIn_listAt f J.isList L #[.bl _,H,I,rfl,by rw[M];show hq]
 .cases z with
  |tup e q=>cases O;let#[B,G,J,_]:=I.tuple (bV.of e);let#[f,L,M]:=IB (A:=X.A.in1) I Y r1 q G hc F;show notIn_tupleAt f (show s.heap.IsTuple _ B.toArray from J) L #[.bl _,H,I,rfl,by rw[M];show hq]
end
section
variable{K:W.Frag}
def Jm(z:xs.length=l.length)(h:atI l i=some d):∃j,ixN l.length i=some j/\l[j]?=some d/\∀x,xs[j]?=some x->L2.atI xs i=some x:=by
 unfold atI at h;cases q:ixN l.length i with
 |none=>rw[q]at h;cases h
 |some j=>
  rw[q]at h;show#[j,rfl,h,λx v=>?_];let e:L2.ixN xs.length i=some j:=by rw[z];show q
  unfold L2.atI;rw[e];show v
def zE.atI(r:zE K F xs l)(h:FL.atI l i=some d):∃x,L2.atI xs i=some x/\aQ K F x d:=by let#[j,_,h1,h2]:=Jm (xs:=xs) r.len h;let#[x,z,v]:=r.get h1;show#[x,h2 x z,v]
def zu.get{j:Nat}(r:zu K F H xs l fp)(h:l[j]?=some t):∃x B v z,xs[j]?=some x/\aK K F H x t v/\fp=B++(v++z):=
 zu.ind (P:=λxs l fp=>∀j t,l[j]?=some t->∃x B v z,xs[j]?=some x/\aK K F H x t v/\fp=B++(v++z)) (λ_ _ e=>by cases e) (λa _ G j t e=>by
  cases j with
  |zero=>cases e;show#[_,[],_,_,rfl,a,rfl]
  |succ j=>let#[x,B,v,z,h1,h2,rfl]:=G j t e;show#[x,_++B,v,z,h1,h2,(qp ..).symm]) r j t h
def Rel.item{j:Nat}(r:Rel K (U++[some `i]) (Z++[some `p]) F G H)(h:l[j]?=some t):∃xs x,H a=some `N/\xs.length=l.length/\xs[j]?=some x/\Rel K (U++[some t]) (Z++[some x]) F G H:=by
 let#[fp,e,Y,ap]:=r.en;let#[B,f2,rfl,en,b]:=e.cut (Ae r);cases b with
 |so M O=>
  cases O;cases M with
  |lst hD rl=>
   rename_i xs fl;let#[x,L,v,J,h1,h2,rfl]:=rl.get h;show#[xs,x,hD,rl.len,h1,r.fr,r.gr,B++(v++[]),en.app (.so h2 .nil),?_,λy hy=>ap y ?_]
   .let sub:List.Sublist (B++(v++[])) (B++(a::(L++(v++J))++[])):=by show List.Sublist.append (List.Sublist.refl _) ?_;simp;exact(List.Sublist.cons _ ((List.sublist_append_left v J).trans (List.sublist_append_right L _)))
    show sub.nodup Y
   .rcases qy.mp hy with z|z
    .show qj _ z
    .show qi _ ?_;simp only[qA]at z⊢;show qk _ (qi _ (qj _ z))
end
def SV{K:W.Frag}(e:bV K H c xs)(r:zE K F xs l)(h:atI l i=some d)(B:∀x,aQ K F x d->Q x H):fu K (.ref c) `O H Q:=by let#[x,z,v]:=r.atI h;show .inr (.inl #[c,xs,i,x,rfl,rfl,e,z,B x v])
def SQ{K:W.Frag}(e:bQ K H c xs)(r:zE K F xs l)(h:atI l i=some d)(B:∀x,aQ K F x d->Q x H):fu K (.ref c) `O H Q:=by let#[x,z,v]:=r.atI h;show .inl #[c,xs,i,x,rfl,rfl,e,z,B x v]
def RE(h:kL s q=some t):(∃l i d,s=.sh `ba/\q=.int i/\atI l i=some d/\t=.sh d)\/(∃l i d,s=.sh `i/\q=.int i/\atI l i=some d/\t=.sh d)\/
  (∃l i c,s=.sh (.str l)/\q=.int i/\atI l i=some c/\t=.sh (.str [c]))\/∃l i,s=.lst l/\q=.int i/\atI l i=some t:=by
 show cps λ_ kk=>?_;rcases s with d|l|_|_
 .rcases d with _|_|_|l|l|l|_|_|_;case str|tup|lst=>
   rcases q with _|_|i|_|_|_|_|_|_;case int=>let#[d,e,e']:=qY.mp h;first|show kk (.inl ⟨_,_,d,rfl,rfl,e,e'.symm⟩)|show kk (.inr (.inl ⟨_,_,d,rfl,rfl,e,e'.symm⟩))|show kk (.inr (.inr (.inl ⟨_,_,d,rfl,rfl,e,e'.symm⟩)))
   all_goals cases h
  all_goals cases h
 .rcases q with _|_|i|_|_|_|_|_|_;case int=>exact kk (.inr (.inr (.inr #[_,_,rfl,rfl,h])))
  all_goals cases h
 all_goals cases h
def JJ{K:W.Frag}(h:aK K F H v `l fp):aQ K F v d:=by cases h;assumption
def NB{K:W.Frag}(h:aK K F H v `i fp):∃a xs fq,v=.ref a/\H a=some `N/\zu K F H xs l fq:=by
 cases h with
 |lst h1 h2=>show#[_,_,_,rfl,h1,h2]
def LN{K:W.Frag}(fr:zp F H)(r:aQ K F v d)(J:aQ K F2 u q)(O:kL `l q=some t)(done:∀e x,t=.sh e->aQ K F x e->Q x H):fu K v u H Q:=by
 rcases RE O with⟨l,i,e,B,rfl,M,rfl⟩|⟨l,i,e,B,rfl,M,rfl⟩|⟨l,i,c,B,rfl,Y,rfl⟩|⟨l,i,B,_⟩
 .injection B with B
  subst B;obtain rfl:=bK.int (H:=H) (.inl J);let#[a,xs,rfl,h1,L]:=bK.tup (H:=H) (.inl r);show SV (bV.of (fr _ _ h1)) L M λx G=>done _ x rfl G
 .injection B with B
  subst B;obtain rfl:=bK.int (H:=H) (.inl J);let#[a,xs,rfl,h1,L]:=bK.lst (H:=H) fr (.inl r);show SQ h1 L M λx G=>done _ x rfl G
 .injection B with B
  subst B;obtain rfl:=bK.int (H:=H) (.inl J);let#[x,rfl,h1,z]:=bK.str (H:=H) (.inl r);show .inr (.inr #[_,i,c,rfl,rfl,by rw[GG h1];show z,by rw[h1];show Y,done _ _ rfl (.str rfl (by show 1<=_;decide))])
 .cases B
def MI(h:kL `i q=some t):∃i,q=.int i/\atI l i=some t:=by
 cases q with
 |int i=>show#[i,rfl,h]
 |_=>cases h
def AC(ha:FE X a wa)(hb:FE X b wb)(hs:gD b:=by intro _ _;rfl):FE X (.Subscript a b pos) (cA wa wb):=λpn xe hp=>by
 refine PE.imp (Jh (LQ (X:=wp X pn xe)) `ar `db hs) λZ H Q q=>?_;refine(Fv (k:=λx y U2 Q E=>zo (view y U2) λq=>match x with
  |.v s=>zo (kL s q) λt=>Q (.v t) U2
  |.loc i=>match slot U2 i with
   |some s=>match kL s q with
    |some (.sh d)=>Q (.v `l) U2
    |_=>False
   |none=>False) q).mono λv H1 h1=>h1.mono λu H2 h2=>?_
 let#[F,G,U,x,y,P,PX,h4,O,rx,ry,J,h5,hx]:=h2;let#[q,eq,J]:=Ao J;let B:Rel X.K (U++[zr x]) (Z++[some v]) F G H2:=by let:=Rel.swap (U1:=[zr x]) (Z1:=[some v]) (U2:=[zr y]) (Z2:=[some u]) O rfl h4;show Rel.mid (U:=U) (Z:=Z) this O
 let h3:Rel X.K (U++[zr y]) (Z++[some u]) F G H2:=h4.mid O;let ru:=look (U':=[]) (Z':=[]) h3 O ry eq;let done:∀{d:D}{x:V},P (.v `l) U->aQ X.K F x d->Q x H2:=λhP r=>h5 _ U _ F H2 hP `c ((B.drop O).push r) trivial;cases x with
 |v s=>
  let#[t,L,hP]:=Ao J;let#[w,fp,e1,sr]:=B.at (i:=U.length) (s:=s) EM;rw[O,getElem?_append_right `j]at e1;let e2:v=w:=↑e1
  subst e2;cases s with
  |sh d=>show LN B.fr (JJ sr) ru L λe x z rx=>done (by rw[<-z];show hP) rx
  |lst l=>let#[i,rfl,L]:=MI L;obtain rfl:=bK.int (H:=H2) (.inl ru);let#[a,ys,fq,rfl,hD,rl]:=NB sr;let#[j,_,hj,Y]:=Jm rl.len L;let#[xs,x,h6,h8,M,r2]:=Rel.item B hj;rw[hD]at h6;cases h6;show .inl #[_,_,i,x,rfl,rfl,bQ.of hD,Y x M,h5 _ U _ F H2 hP `c r2 trivial]
  |_=>cases q<;>cases L
 |loc k=>
  dsimp only at J;cases qs:slot U k with
  |none=>rw[qs]at J;show J.elim
  |some s=>
   rw[qs]at J;dsimp only at J;split at J
   .rename_i d L;let#[w,fp,e1,sr]:=(B.drop O).at qs;let h7:Z[k]?=some `I:=rx;rw[h7]at e1;let e2:v=w:=by simpa using e1
    subst e2;cases s with
    |sh d'=>show LN B.fr (JJ sr) ru L λe x z rx=>done (by injection z with z;rw[<-z];show J) rx
    |lst l=>let#[i,rfl,L]:=MI L;obtain rfl:=bK.int (H:=H2) (.inl ru);let#[a,ys,fq,rfl,hD,rl]:=NB sr;let#[j,_,hj,Y]:=Jm rl.len L;let#[x,fa,fi,fb,M,sx,_]:=rl.get hj;show .inl #[_,_,i,x,rfl,rfl,bQ.of hD,Y x M,done J (JJ sx)]
    |_=>cases q<;>cases L
   .show J.elim
section
variable{K:W.Frag}{Z:St}
def zu.set:∀{xs:List V}{l:List S}{fp:List Addr}{m:Nat},zu K F H xs l fp->m<l.length->∃J M G,fp=J++(M++G)/\
  ∀{H':Hp}{v:V}{s:S}{fq:List Addr},(∀a∈J++G,H' a=H a)->aK K F H' v s fq->zu K F H' (xs.set m v) (l.set m s) (J++(fq++G))
 |_,_,_,_,.nil,h=>by simp at h
 |_,_,_,0,.cons (fp:=fp) (fq:=fq) a b,h=>#[[],fp,fq,rfl,λL r=>by rw[nil_append];show .cons r (b.mono `c λc B=>L c B)]
 |_,_,_,m+1,.cons (fp:=fp) (fq:=fq) a b,h=>by let#[J,M,G,rfl,O]:=zu.set (m:=m) b ↑h;show#[fp++J,M,G,(qp ..).symm,λL r=>?_];rw[qp];show .cons (a.mono `c λc B=>L c (qj _ (qj _ B))) (O (λc B=>L c ((qy.mp B).elim (λz=>qj _ (qi _ z)) λz=>qi _ z)) r)
def Hu(h:Z[n]?=some `I):Z.set n `I=Z:=by
 apply ext_getElem?;intro j;by_cases z:n=j
 .subst z;rw[getElem?_set_self (qg.mp h).1,h]
 .rw[getElem?_set_ne z]
def Rel.setItem{D:Addr}(r:Rel K (U++[some s]) (Z++[some v]) F G H)(hs:slot U n=some `i)(L:Z[n]?=some (some `k))(hm:m<l.length):
  ∃xs,H D=some `N/\xs.length=l.length/\Rel K (U.set n (some (.lst (l.set m s)))) Z F G (upd H D (.lst (xs.set m v))):=by
 let hl:=Ae r;let#[fp,e,nd,ap]:=r.en;let#[f1,f2,rfl,a,b]:=e.cut hl;let#[v',fa,fi,fb,e1,rfl,q,up]:=a.at hs;rw[L]at e1;let e2:V.ref D=v':=↑e1
 subst e2;cases q with
 |lst hD rl=>
  rename_i xs fl;cases b with
  |so sr nl=>
   cases nl;rename_i fs;let#[O,gi,M,rfl,h1]:=rl.set hm;show#[xs,hD,rl.len,?_];let#[n1,n2,h3]:=qx.mp nd;let#[na,B,h2]:=qx.mp n1;let#[ni,nb,B]:=qx.mp B;let#[nD,h8]:=qL.mp ni;let h7:D∉fa:=λz=>h2 D z D (qj _ qm) rfl;let h6:D∉fb:=λz=>B D qm D z rfl;let h4:D∉fs:=λz=>h3 D `ao D ↑z rfl;let Y:=ap D (qj _ `ao);let ne:∀{l:List Addr},D∉l->∀x∈l,upd H D (.lst (xs.set m v)) x=H x:=λh x J=>Ar λz=>h (z▸J);let h5:D∉O++M:=λz=>nD ((qy.mp z).elim (λw=>qj _ w) λw=>qi _ (qi _ w));let new:aK K F (upd H D (.lst (xs.set m v))) `k (.lst (l.set m s)) (D::(O++(fs++M))):=.lst Bh (h1 (ne h5) (sr.mono `c (ne h4)));let a2:=up (F':=F) (H':=upd H D (.lst (xs.set m v))) (o:=some (.lst (l.set m s))) (u:=some `k) `c (λx J=>Ar λz=>(qy.mp J).elim (λw=>h7 (z▸w)) λw=>h6 (z▸w)) (.so new .nil);rw[Hu L]at a2;let sub:∃l2,l2.Perm (fa++((D::(O++(gi++M)))++fb)++(fs++[]))/\List.Sublist (fa++((D::(O++(fs++M)))++[]++fb)) l2:=by
    show#[fa++((D::(O++(fs++(gi++M))))++[]++fb),?_,?_]
    .simp;show List.Perm.append_left _ (List.Perm.cons _ (List.Perm.append_left _ ?_));show qN.trans (by simp)
    simp_all
   let#[l2,p,sb]:=sub;show#[zp.updR r.fr Y.1,λx o w=>?_,_,a2,sb.nodup (p.nodup_iff.mpr nd),λx J=>ap x (p.mem_iff.mp (sb.subset J))];let J:x≠D:=λz=>by rw[z,Y.2]at w;cases w
   rw[Ar J];show r.gr x o w
end
theorem Nn(ho:FE X o (zk j))(hi:FE X i wi)(he:FE X e we)(hs:autoParam (swapsWithSole [.Subscript o i tpos] e pos.line X.env=pure false) rZ9)(hw:autoParam (swappedStores [.Subscript o i tpos] e X.env=pure none) rZ9)
  (h1:autoParam ((assignEach [.Subscript o i tpos] X.env).map (·.2)=[assign (.Subscript o i tpos) X.env]) rZ9)
  (ha:∀v,assign (.Subscript o i tpos) X.env v=(do
   let ov<-holding [v] `at
   let iv<-holding [v,ov] (eval i X.env)
   standAt tpos
   holding [v,ov,iv] (setItem ov iv v)
   release [v,ov,iv] []):=by intro _;rfl):FS X ks (.Assign [.Subscript o i tpos] e pos) (gE j wi we):=λpn xe hp=>by
 show PS.imp (LG (X:=wp X pn xe) (he pn xe hp) (Qe (X:=wp X pn xe) `bb (hi pn xe hp) UL ha) hs hw h1) λD Z H q=>?_;let#[F,G,U,E,zI,hw,n,b,c,r,x]:=q;let x0:XC `q (·=Z) F G E.ex:=x.mono (λZ2 z=>by rw[z];show KP.refl) `c `an;show#[F,G,U,_,_,zI,hw,λr U1 v F1 H1 hk s1 r1 rv=>?_,x0];let l1:=Ae r1;let#[G1,rel1,gg,back]:=r1.hide l1;show#[F1,G1,U1,_,_,rel1,hk,λy U2 o' F2 H2 hk2 s2 r2 rv2=>?_,x0.mono (λ_ z=>z) s1 gg];let l2:=Ae r2;let#[G2,rel2,gg2,back2]:=r2.hide l2;show#[F2,G2,U2,_,_,rel2,hk2,λz U3 i' F3 H3 hk3 s3 r3 rv3=>?_,x0.mono (λ_ z=>z) `as (gg.trans gg2)];let l3:=Ae r3;let#[q,eq,hk3]:=Ao hk3;let#[#[t,U4],eg,hk4]:=Ao hk3
 --all three stand at the end
 let r4:=back `bo (back2 s3 r3);simp only[qp,qO,nil_append]at r4;let ri:=look (U':=[zr y,zr r]) (Z':=[some o',some v]) r4 l3 rv3 eq;let r5:Rel X.K (U3++[zr r]) (Z++[some v]) F3 G H3:=Rel.mid (U:=U3) (Z:=Z) (Rel.mid (U:=U3) (Z:=Z) r4 l3) l3;let#[F4,s4,l4,r6]:=AA (U':=[]) (Z':=[]) r5 l3 rv eg;cases y with
 |v y0=>show hk4.elim
 |loc k=>
  cases q with
  |int m=>
   cases qs:slot U4 j with
   |none=>simp only[qs]at hk4
   |some sj=>
    cases sj with
    |lst l=>
     simp only[qs]at hk4;let#[rfl,hk4]:=hk4;let#[w,ew,hnx]:=Ao hk4;let hZ:Z[k]?=some (some o'):=rv2;let#[v',fp,e1,sr]:=r6.at (i:=k) (s:=.lst l) (by rw[Hx (GI qs)];show qs);let hkl:k<Z.length:=(qg.mp hZ).1;rw[getElem?_append_left hkl,hZ]at e1;let e2:o'=v':=↑e1
     subst e2;let hw:w<l.length:=by
      unfold ixN at ew;split at ew
      .split at ew
       .let e:=qf ew;lia
       .cases ew
      .split at ew
       .let e:=qf ew;lia
       .cases ew
     cases sr with
     |lst hD rl=>rename_i a xs fl;let#[xs',hD',zJ,r7]:=Rel.setItem r6 qs hZ hw;rw[hD]at hD';cases hD';cases ri;show#[a,xs,m,w,rfl,rfl,hD,by rw[zJ];show ew,n _ Z F4 _ hnx KP.refl `ab r7]
    |_=>simp[qs]at hk4
  |_=>show hk4.elim
def Fq(ho:FE X o (zk j))(he:FE X e we)
  (Y:autoParam (attributeBase o "append" X.env `at=eval o X.env) rZ9)
  (h3:autoParam (((backTo cpos (starEach [e] X.env)).all (λx=>!x.1)&&(backToKw cpos (keywordEach [] X.env)).all (λx=>x.1.isSome)
   &&decide ([e].length+([]:List Keyword).length+(if([]:List Keyword).isEmpty then 0 else 1)<30))=true) rZ9)
  (O:autoParam ((apos.endLine==cpos.line)=true) rZ9)(hs:autoParam (starEach [e] X.env=[(false,eval e X.env)]) rZ9):FE X (.Call (.Attribute o "append" apos) [e] [] cpos) (bL j we):=λpn xe hp=>by
 refine PE.imp (FK (X:=wp X pn xe) PySem.F.plainAttrs_list PySem.F.slot_list_append PySem.F.type_list_append IV `bb `bw Y h3 O hs rfl) λZ H Q q=>?_;let#[F,G,U,P,PX,h4,hw,h5,hx]:=q;let J:(match slot U j with
  |some (.lst _)=>we U (λr L=>zo (give r L) λp=>(match slot p.2 j with
   |some (.lst l)=>l.length<big/\P `v (p.2.set j (some (.lst (l++[p.1]))))
   |_=>False)) PX
  |_=>False):=hw
 cases qs:slot U j with
 |none=>rw[qs]at J;show J.elim
 |some s0=>
  cases s0 with
  |lst l0=>
   rw[qs]at J;show#[F,G,U,λy M=>y=.loc j/\M=U,PX,h4,by unfold zk;rw[qs];show#[rfl,rfl],λy M o' F1 H1 B s1 r1 rv=>?_,hx];let#[rfl,rfl]:=B;let l1:=Ae r1;let h1:Z[j]?=some (some o'):=rv;let r2:=r1.drop l1;let#[v',fp,e1,sr]:=r2.at qs;rw[h1]at e1;let e2:o'=v':=↑e1
   subst e2;cases sr with
   |lst hD rl=>
    rename_i a xs fl;show#[.inl #[rfl,_,bQ.of hD],F1,G,M,λrs L=>match rs with|[r]=>(zo (give r L) λp=>match slot p.2 j with|some (.lst l)=>l.length<big/\P `v (p.2.set j (some (.lst (l++[p.1]))))|_=>False)|_=>False,PX,r2,J,λrs L vs F2 H2 B s2 r3 hl z=>?_,hx.grow s1];match rs,vs,z,r3,B with
    |[r],[v],z,r3,B=>
     let#[#[t,h7],eg,B]:=Ao B;let#[F3,s3,l3,r4]:=AA (U':=[]) (Z':=[]) r3 hl z.1 eg;split at B
     .rename_i l ql;let#[ys,h6,h2,r5]:=Rel.append r4 ql h1;show#[a,ys,v,rfl,rfl,h6,by rw[h2];show lt_trans B.1 ⋯,h5 _ _ .non F3 _ B.2 (s1.trans `bo) (r5.push .non) trivial]
     .show B.elim
    |[],_,_,_,B=>show B.elim
    |[_],[],z,_,_=>show z.elim
    |[_],_::_::_,z,_,_=>show z.2.elim
    |_::_::_,_,_,_,B=>show B.elim
  |_=>rw[qs]at J;show J.elim
section
variable{K:W.Frag}
def jN(K:W.Frag)(F H:Hp):List V->List D->Prop
 |[],[]=>True
 |v::vs,d::ds=>bK K F H v d/\jN K F H vs ds
 |_,_=>False
def AY{b:List D->Option S}(h2:∀x y r,b (x::y::r)=none)(G:b []=none)(B:jN K F H vs z)(e:b z=some s):∃d v,z=[d]/\vs=[v]:=by
 cases z with
 |nil=>rw[G]at e;cases e
 |cons x z=>
  cases z with
  |cons y r=>rw[h2]at e;cases e
  |nil=>
   cases vs with
   |nil=>show B.elim
   |cons v vs=>
    cases vs with
    |nil=>show#[x,v,rfl,rfl]
    |cons u vs=>show B.2.elim
def Bk:∀{rs:List R}{vs:List V}{z:List D}{U U':Env}{F:Hp}{Z':St},Rel K (U++(rs.map zr++U')) (Z++(vs.map some++Z')) F G H->U.length=Z.length->pI Z vs rs->(rs.mapM λr=>zC r U)=some z->
  ∃F',zp F F'/\jN K F' H vs z/\Rel K (U++U') (Z++Z') F' G H
 |[],[],z,U,U',F,Z',r,h,_,e=>by
  let J:z=[]:=↑e.symm
  subst J;show#[F,zp.refl F,trivial,r]
 |[],_::_,_,_,_,_,_,_,_,h,_=>h.elim
 |_::_,[],_,_,_,_,_,_,_,h,_=>h.elim
 |x::rs,v::vs,z,U,U',F,Z',r,h,rv,e=>by
  rw[List.mapM_cons]at e;cases q:zC x U with
  |none=>rw[q]at e;cases e
  |some d=>
   rw[q]at e;cases B:(rs.mapM λr=>zC r U)with
   |none=>rw[B]at e;cases e
   |some es=>rw[B]at e;let J:d::es=z:=qf e;subst J;let#[F1,M,O,r1]:=Bf (U':=rs.map zr++U') (Z':=vs.map some++Z') r h rv.1 q;let#[F2,L,res,Y]:=Bk (rs:=rs) (vs:=vs) r1 h rv.2 B;show#[F2,M.trans L,#[O.mono L,res],Y]
def cT(K:W.Frag)(r:List V->Hp->VK->Prop)(f:List D->Option S):Prop:=∀(Z:St)(U:Env)(F G H:Hp)(vs:List V)(z:List D)(s:S)(Q:VK),Rel K U Z F G H->jN K F H vs z->f z=some s->
 (∀v F' H',zp F F'->Rel K (U++[some s]) (Z++[some v]) F' G H'->Q v H')->r vs H Q
end
section
variable{id T:String}
def Np(hd:cT X.K r f)(Z:St)(H:Hp)(Q:VK)(q:tW `q (wB f wa) Z H Q):jb r (vL `q wa) Z H Q:=by show(many (k:=λO z Q E=>zo (O.mapM λr=>zC r z) λM=>zo (f M) λs=>Q `L z) q).mono λY H1 h1=>?_;let#[F,G,U,O,P,PX,J,hl,rv,B,L,hx]:=h1;let#[M,ed,B]:=Ao B;let#[s,es,B]:=Ao B;let#[F1,s1,re,r1]:=Bk (U':=[]) (Z':=[]) ↑J hl rv ed;show hd Z U F1 G H1 Y M s Q ↑r1 re es λv F' H' sm r'=>L _ U v F' H' B (s1.trans sm) r' trivial
def GO(O:∀pn xe,aZ `q `bn r)(M:cT X.K r f)(J:Gl X x)(G:X.mg x=none)(B:bootBuiltins x=some `bn)(Y:FA X (e::es) wa)(hn:autoParam (x≠"__name__") dZ9)(z:autoParam ((x==("__debug__":Str))=false) dZ9)
  (L:autoParam (starEach (e::es) X.env=(false,eval e X.env)::starEach es X.env) rZ9)(v:autoParam ((backTo pos `h).any (·.1)=false) rZ9):FE X (.Call `dj (e::es) [] pos) (wB f wa):=λpn xe F=>
 PE.imp (Uo (X:=wp X pn xe) (O pn xe) J G B (Y pn xe F) hn z L v) (Np M)
def IY(O:∀pn xe,aZ `q `ap r)(M:cT X.K r f)(J:Gl X x)(G:X.mg x=none)(B:bootBuiltins x=some `ap)(Y:FA X (e::es) wa)(hn:autoParam (x≠"__name__") dZ9)(z:autoParam ((x==("__debug__":Str))=false) dZ9)
  (L:autoParam (starEach (e::es) X.env=(false,eval e X.env)::starEach es X.env) rZ9)(v:autoParam ((backTo pos `h).any (·.1)=false) rZ9):FE X (.Call `dj (e::es) [] pos) (wB f wa):=λpn xe F=>
 PE.imp (NW (X:=wp X pn xe) (O pn xe) J G B (Y pn xe F) hn z L v) (Np M)
def wM(K:W.Frag):List V->Hp->VK->Prop:=λxs H Q=>(∃p ys,xs=[.ref p]/\(bQ K H p ys\/bV K H p ys)/\Q (.int ys.length) H)\/∃z,xs=[.str z]/\z.length<=sizeLine/\Q (.int z.length) H
def aZ.or'{f:Value}(h:aZ X f r)(h':aZ X f B):aZ X f (λx H Q=>r x H Q\/B x H Q):=λzG s Z H xs v Q I z q=>q.elim (h zG s Z H xs v Q I z) (h' zG s Z H xs v Q I z)
def NT:aZ X (.builtin "len") (wM X.K):=aZ.or' Xc Xf
def Nl{K:W.Frag}:cT K (wM K) aU:=by
 intro Z U F G H Y ds s Q B J e M;let#[d,v,rfl,rfl]:=AY (λx y r=>by cases x<;>rfl) rfl J e;cases d with
 |str l=>cases e;let#[x,rfl,O,z]:=J.1.str;show .inr #[x,rfl,by rw[GG O];show z,by rw[GG O];show M _ F H `c (B.push `do)]
 |tup l=>cases e;let#[a,xs,rfl,h1,L]:=J.1.tup;show .inl #[a,xs,rfl,.inr (bV.of (B.fr _ _ h1)),by rw[L.len];show M _ F H `c (B.push `do)]
 |lst l=>cases e;let#[a,xs,rfl,h1,L]:=J.1.lst B.fr;show .inl #[a,xs,rfl,.inl h1,by rw[L.len];show M _ F H `c (B.push `do)]
 |_=>cases e
def AR(B:Gl X "len")(z:X.mg "len"=none)(G:FA X (e::es) wa)(F:autoParam (starEach (e::es) X.env=(false,eval e X.env)::starEach es X.env) rZ9)(v:autoParam ((backTo pos `h).any (·.1)=false) rZ9):FE X (.Call (.Name "len" p) (e::es) [] pos) (wB aU wa):=
 GO (λ_ _=>NT) Nl B z PySem.boot_len G ⋯ ⋯ F v
end
section
variable{K:W.Frag}
def js:List V->Hp->VK->Prop:=λxs H Q=>(∃i,xs=[.int i]/\Q `O H)\/∃k,xs=[.bl k]/\Q (.int (if k then 1 else 0)) H
def bK.bl(h:bK K F H v (.bl b)):v=.bl b:=by
 rcases h with h|⟨_,_,_,_,h,_⟩|⟨_,_,_,_,_,h,_⟩|⟨_,_,_,_,_,h,_⟩
 .cases h;rfl
 .cases h
 .cases h
 .cases h
def WM:cT K js jL:=by
 intro Z U F G H L M s Q z B e J;let#[d,v,rfl,rfl]:=AY (λx y r=>by cases x<;>rfl) rfl B e;cases d with
 |int i=>cases e;let:=B.1.int;subst this;show .inl #[i,rfl,J _ F H `c (z.push `do)]
 |bl b=>cases e;let:=B.1.bl;subst this;show .inr #[b,rfl,J _ F H `c (z.push `do)]
 |_=>cases e
def He(F:Gl X "int")(B:X.mg "int"=none)(z:bootBuiltins "int"=some (.type "int"))(J:FA X (e::es) wa)(G:autoParam (starEach (e::es) X.env=(false,eval e X.env)::starEach es X.env) rZ9)(v:autoParam ((backTo pos `h).any (·.1)=false) rZ9):FE X (.Call (.Name "int" p) (e::es) [] pos) (wB jL wa):=
 IY (λ_ _=>Vg) WM F B z J ⋯ ⋯ G v
def wH(K:W.Frag):List V->Hp->VK->Prop:=λxs H Q=>∃p ys,xs=[.ref p]/\((bQ K H p ys/\∀l,H l=none->Q (.ref l) (upd H l (.tup ys)))\/(bV K H p ys/\Q `w H))
def Wl:cT K (wH K) cJ:=by
 intro Z U F G H Y ds s Q z B e M;let#[d,v,rfl,rfl]:=AY (λx y r=>by cases x<;>rfl) rfl B e;cases d with
 |tup l=>cases e;let#[a,xs,rfl,h1,J]:=B.1.tup;show#[a,xs,rfl,.inr #[bV.of (z.fr _ _ h1),M _ F H `c (z.push (.tup h1 J))]]
 |lst l=>cases e;let#[a,xs,rfl,h1,J]:=B.1.lst z.fr;show#[a,xs,rfl,.inl #[h1,λp O=>?_]];let L:=(z.free O).1;show M _ _ _ (zp.upd L) ((z.newF O).push (.tup Bh (J.mono (zp.upd L))))
 |_=>cases e
def EO(F:Gl X "tuple")(B:X.mg "tuple"=none)(z:bootBuiltins "tuple"=some (.type "tuple"))(J:FA X (e::es) wa)(G:autoParam (starEach (e::es) X.env=(false,eval e X.env)::starEach es X.env) rZ9)(v:autoParam ((backTo pos `h).any (·.1)=false) rZ9):FE X (.Call (.Name "tuple" p) (e::es) [] pos) (wB cJ wa):=
 IY (λ_ _=>Xw) Wl F B z J ⋯ ⋯ G v
def tU(K:W.Frag):List V->Hp->VK->Prop:=λxs H Q=>∃p ys,xs=[.ref p]/\(bQ K H p ys\/bV K H p ys)/\∀l,H l=none->Q (.ref l) (upd H l `dw)
def Oq:cT K (tU K) cy:=by
 intro Z U F G H O Y s Q z B e M;let#[d,v,rfl,rfl]:=AY (λx y r=>by cases x<;>rfl) rfl B e;cases d with
 |tup l=>cases e;let#[a,xs,rfl,h1,J]:=B.1.tup;show#[a,xs,rfl,.inr (bV.of (z.fr _ _ h1)),λp L=>M _ F _ `c (z.newLD L J)]
 |lst l=>cases e;let#[a,xs,rfl,h1,J]:=B.1.lst z.fr;show#[a,xs,rfl,.inl h1,λp L=>M _ F _ `c (z.newLD L J)]
 |_=>cases e
end
def EN(h:aI a=aI b):a=b:=by
 cases a with
 |inl i=>cases b with
  |inl j=>have h':D.int i=D.int j:=h;cases h';rfl
  |inr y=>have h':D.int i=D.str y.cps.toList:=h;cases h'
 |inr x=>cases b with
  |inl j=>have h':D.str x.cps.toList=D.int j:=h;cases h'
  |inr y=>have h':D.str x.cps.toList=D.str y.cps.toList:=h;let#[#[a]]:=x;first|rfl|assumption|(simp_all;done)
def GL:∀{a b:List aO},a.map aI=b.map aI->a=b
 |[],[],_=>rfl
 |[],_::_,h=>by simp at h
 |_::_,[],h=>by simp at h
 |x::a,y::b,h=>by
  injection h with h1 h2
  rw[EN h1,GL h2]
section
variable{K:W.Frag}
def FU(r:aQ K H x d)(h:bR d=true):∃k:aO,x=kV k/\d=aI k:=by
 cases r with
 |int i=>show#[.inl i,rfl,rfl]
 |str e z=>show#[.inr _,rfl,by rw[<-e];rfl]
 |_=>cases h
def FV(r:zE K H xs l):l.all bR=true->∃ks:List aO,xs=ks.map kV/\l=ks.map aI:=
 zE.ind (P:=λxs l=>l.all bR=true->∃ks:List aO,xs=ks.map kV/\l=ks.map aI) (λ_=>#[[],rfl,rfl]) (λa _ v h=>by rw[all_cons,and_eq_true]at h;let#[k,rfl,rfl]:=FU a h.1;let#[ks,rfl,rfl]:=v h.2;show#[k::ks,rfl,rfl]) r
open Classical in
def Ku{κ:Type}[DecidableEq κ](g:κ->D)(v:∀a b,g a=g b->a=b):∀(zH:List (κ×V))(k:κ),(dG zH k).isSome=decide (g k∈zH.map λp=>g p.1)
 |[],k=>by simp[dG]
 |p::r,k=>by
  by_cases e:p.1=k
  .rw[GK e];let:g k∈(p::r).map λp=>g p.1:=by rw[qz,e];exact qm
   show(qR this).symm
  .rw[GN e,Ku g v r k];let:(g k∈(p::r).map λp=>g p.1)↔(g k∈r.map λp=>g p.1):=by rw[qz,qB];exact#[λz=>z.elim (λw=>absurd (v _ _ w).symm e) id,.inr]
   show(decide_eq_decide.2 this).symm
open Classical in
def Hl{κ:Type}[DecidableEq κ](g:κ->D)(F:∀a b,g a=g b->a=b){α:Type}:∀(zH:List (κ×V))(vs:List α)(k:κ)(P:V->α->Prop),zH.length=vs.length->(∀(i:Nat) x y,(zH.map (·.2))[i]?=some x->vs[i]?=some y->P x y)->
  (lk (zH.map λp=>g p.1) vs (g k)=none/\dG zH k=none)\/∃x y,dG zH k=some x/\lk (zH.map λp=>g p.1) vs (g k)=some y/\P x y
 |[],[],k,P,_,_=>.inl #[rfl,rfl]
 |[],_::_,_,_,h,_=>by simp at h
 |_::_,[],_,_,h,_=>by simp at h
 |p::r,v::vs,k,P,hl,h=>by
  by_cases e:p.1=k
  .show .inr #[p.2,v,GK e,?_,h 0 p.2 v rfl rfl];show(if g p.1=g k then some v else lk (r.map λp=>g p.1) vs (g k))=some v;rw[q4 (by rw[e])]
  .let B:¬g p.1=g k:=λz=>e (F _ _ z);rw[GN e];let G:lk ((p::r).map λp=>g p.1) (v::vs) (g k)=lk (r.map λp=>g p.1) vs (g k):=by show(if g p.1=g k then some v else lk (r.map λp=>g p.1) vs (g k))=_;rw[q5 B]
   rw[G];show Hl g F r vs k P ↑hl λi x y h1 h2=>h (i+1) x y ↑h1 ↑h2
def RO(O:aQ K H x d)(r2:aQ K H `p `dp)(M:aW t d=true):∃o,fG H a x o/\o.isSome=(open Classical in decide (d∈ks))/\
  ((lk ks vs d=none/\o=none)\/∃v e,o=some v/\lk ks vs d=some e/\aQ K H v e):=by
 cases r2 with
 |dK e k r=>
  rename_i B;let#[J,rfl,rfl]:=FU O M;show#[_,.inl #[B,J,e,rfl,rfl],?_,?_]
  .rw[k];show Ku aI (λ_ _=>EN) B J
  .rw[k];rcases Hl aI (λ_ _=>EN) B vs J (λv e=>aQ K H v e) (by let:=r.len;simpa using this) (λi x y h1 h2=>by let#[Y,G,L]:=r.get h2;rw[h1]at G;cases G;show L)with⟨h1,h2⟩|⟨v,e,h1,h2,h3⟩
   .show .inl #[h1,h2]
   .show .inr #[v,e,h1,h2,h3]
 |dT e k r=>
  rename_i B;cases O with
  |tup e1 q=>
   let#[F,rfl,rfl]:=FV q M;let inj:∀a b:List aO,D.tup (a.map aI)=D.tup (b.map aI)->a=b:=λa b z=>GL (D.tup.inj z);show#[_,.inr #[B,F,_,e,rfl,e1,rfl],?_,?_]
   .rw[k];show Ku (λl=>D.tup (l.map aI)) inj B F
   .rw[k];rcases Hl (λl=>D.tup (l.map aI)) inj B vs F (λv e=>aQ K H v e) (by let:=r.len;simpa using this) (λi x y h1 h2=>by let#[Y,G,L]:=r.get h2;rw[h1]at G;cases G;show L)with⟨h1,h2⟩|⟨v,e,h1,h2,h3⟩
    .show .inl #[h1,h2]
    .show .inr #[v,e,h1,h2,h3]
  |_=>cases M
def iT(neg:Bool):R2:=λx y H Q=>∃a o,y=.ref a/\fG H a x o/\Q (.bl (if neg then !o.isSome else o.isSome)) H
def VD(F:X.A.units+1<cLine):OpR X (compareOp .In) (iT false):=by intro zG s Z H x y v u Q I B z h;let#[a,o,rfl,g,q]:=h;cases z;show Lb F I g B λs' G=>#[.bl _,H,G,rfl,q]
def Xl(F:X.A.units+1<cLine):OpR X `dc (iT true):=by intro zG s Z H x y v u Q I B z h;let#[a,o,rfl,g,q]:=h;cases z;show RN F I g B λs' G=>#[.bl _,H,G,rfl,q]
def iU(K:W.Frag)(neg:Bool):R2:=λx y H Q=>wO K neg x y H Q\/iT neg x y H Q
def Ui(v:X.A.units+32<cLine):OpR X (compareOp .In) (iU X.K false):=FL.OpR.or (PN v) (VD ∅)
def Xj(v:X.A.units+32<cLine):OpR X `dc (iU X.K true):=FL.OpR.or (VM v) (Xl ∅)
open Classical in
def RW(B:aQ K H x p)(z:aQ K H y q)(e:kM p q=some k)(F:Q (.bl (if neg then !k else k)) H):iU K neg x y H Q:=by
 unfold kM at e;split at e
 .rename_i l;split at e
  .cases e
  .rename_i h;let v:=qf e;subst v;show .inl #[p,l,B,.inl z,λd J=>?_,F];grind
 .rename_i l;split at e
  .cases e
  .rename_i h;let v:=qf e;subst v;show .inl #[p,l,B,.inr z,λd J=>?_,F];grind
 .rename_i t ks L;split at e
  .rename_i h;let v:=qf e;cases y with
   |ref a=>let#[o,g,G,_]:=RO B z h;show .inr #[a,o,rfl,g,?_];rw[G,v];show F
   |_=>cases z
  .cases e
 .cases e
end
open PySem.Builtin.Str (strSliceIndices)
def IA(n d:Nat)(o:Option Int):HT.sIx n d o=FL.sIx n d o:=by cases o<;>rfl
def MM(n d:Nat)(v:d<=n)(o:Option Int):FL.sIx n d o<=n:=by rw[<-IA];show HT.sIx_le n d v o
def yP(z:Str)(lo hi:Option Int):Str:=#[(bB z.cps.toList lo hi).toArray]
def Wy(lo hi:Option Int)(n:Nat):strSliceIndices lo hi 1 n=(List.range (FL.sIx n n hi-FL.sIx n 0 lo)).map (FL.sIx n 0 lo+·):=by rw[<-sliceRange_one];unfold strSliceIndices;cases lo<;>cases hi<;>simp only[if_true,FL.sIx,FF]<;>rfl
def VO(x:Str)(lo hi:Option Int):Txt.slice x lo hi=yP x lo hi:=by
 let v:x.length=x.cps.toList.length:=by show x.cps.size=_;rw[qV]
 unfold Txt.slice yP bB;rw[Wy,pick_run,<-v];split
 .rename_i h;simp at h;let h1:=MM x.length x.length `j hi;let h2:FL.sIx x.length 0 lo=0\/x.length=0:=by lia
  let B:FL.sIx x.length 0 lo=0:=h2.elim id λz=>by let:=MM x.length 0 `cq lo;lia
  rw[h,B,drop_zero,take_of_length_le (by rw[v];show q8 _)]
 .rfl
def av:V->Option Int->Option Int->Hp->VK->Prop:=λx lo hi H Q=>∃z,x=.str z/\z.length<=sizeLine/\Q (.str (yP z lo hi)) H
def ML(p:IsPart v o):∃l:Option (Int×Tok),v=partValue l/\o=l.map (·.1):=by
 cases p with
 |none=>show#[none,rfl,rfl]
 |int i t=>show#[some (i,t),rfl,rfl]
def Rk:mR X av:=by
 intro zG s Z H x v Y O lo hi sl Q I B M J G h;let#[z,rfl,L,q]:=h;let#[t,rfl]:=B;let#[l,rfl,rfl]:=ML J;let#[u,rfl,rfl]:=ML G;rw[<-VO]at q;exact⟨"str",_,F.slot_str_getitem.lookup,typeIs_str _ _ _,wpAny_getItem_str_slice (l:=l) (u:=u) (st:=none) M rfl
  (post_val_or_str #[le_trans (Txt.slice_le z _ _) L,λt' k=>#[.str (Txt.slice z (l.map (·.1)) (u.map (·.1))),H,I.tok _,#[_,rfl],q]])⟩
def ar(K:W.Frag):V->Option Int->Option Int->Hp->VK->Prop:=λx lo hi H Q=>∃a xs,x=.ref a/\bV K H a xs/\
 (HT.sIx xs.length 0 lo=0/\HT.sIx xs.length xs.length hi=xs.length)/\Q `p H
def XA{items:Array Value}{lo hi:Option Int}(z:IsTup s.heap t items)(hs:s.heap.IsSliceOf J O M .none)(pl:IsPart O lo)(Y:IsPart M hi)
  (L:HT.sIx items.size 0 lo=0/\HT.sIx items.size items.size hi=items.size)(h:Q (.ref t) s):wpAny `b A (getItem (.ref t) (.ref J)) Q E s:=by
 let#[os,B,F,h1]:=id hs;let G:s.TypeIs (.ref J) "slice":=#[os,B,F]
 unfold getItem;try with_reducible show zf ?_
 first|show qa (qb ?_)|skip
 refine qa (wpAny_sequenceKey z.typeIs ⋯ ?_);refine qa (wpAny_callSpecial?_slot (name:=Str.ofString "__getitem__") z.typeIs PyProof.Rows.slot_tuple_getitem
  (zd PyProof.Rows.slot_tuple_getitem z.typeIs entry_tuple_getitem ?_ (args_tuple_getitem _ _)))
 show wpAny _ _ (Builtin.Tuple.tupleItemsOf (.ref t)>>=_) _ _ s;show qa (tupleItemsOf_ z ?_);show qa (wpAny_typeOf G ?_);show qa (HT.sliceApplied_gen hs pl Y ?_);let v:(((HT.sIx items.size 0 lo:Nat):Int)==0&&(1:Int)==1&&(HT.sIx items.size items.size hi-HT.sIx items.size 0 lo)==items.size)=true:=by rw[L.1,L.2];simp
 show wpAny _ _ (if(((HT.sIx items.size 0 lo:Nat):Int)==0&&(1:Int)==1&&(HT.sIx items.size items.size hi-HT.sIx items.size 0 lo)==items.size)=true then _ else _) _ _ s;rw[q4 v];show qa (qa (wpAny_typeOf z.typeIs (qb ?_)));first
  |show qa (wpAny_rule (qb ⟨_,rfl,qb h⟩))
  |show qa (qb (qb ⟨_,rfl,qb h⟩))
  |show qb ⟨_,rfl,qb h⟩
def UN:mR X (ar X.K):=by
 intro zG s Z H x v vl vu lo hi sl Q I G Y L J h;let#[a,xs,rfl,M,O,q]:=h;cases G;let#[B,r,F,hz]:=I.tuple M;let z:B.toArray.size=xs.length:=by rw[qr];show r.length.symm
 show#["tuple",_,PyProof.Rows.slot_tuple_getitem.lookup,F.typeIs,?_];show XA F Y L J (by rw[z];show O) #[.ref a,H,I,rfl,q]
section
variable{K:W.Frag}
def zE.drop:∀{xs:List V}{l:List D}(n:Nat),zE K F xs l->zE K F (xs.drop n) (l.drop n)
 |_,_,0,r=>by rw[drop_zero];show r
 |_,_,n+1,.nil=>by rw[List.drop_nil];show .nil
 |_,_,n+1,.cons a b=>by rw[List.drop_succ_cons];show zE.drop n b
def zE.take:∀{xs:List V}{l:List D}(n:Nat),zE K F xs l->zE K F (xs.take n) (l.take n)
 |_,_,0,r=>by rw[List.take_zero];show .nil
 |_,_,n+1,.nil=>by rw[take_nil];show .nil
 |_,_,n+1,.cons a b=>by rw[List.take_succ_cons];show .cons a (zE.take n b)
def zE.cut{lo hi:Option Int}(r:zE K F xs l):zE K F (jJ xs lo hi) (bB l lo hi):=by unfold jJ bB;rw[IA,r.len];show(r.drop _).take _
def jq(K:W.Frag):V->Option Int->Option Int->Hp->VK->Prop:=λx lo hi H Q=>aw K x lo hi H Q\/au K x lo hi H Q\/ar K x lo hi H Q\/av x lo hi H Q
def Jt:mR X (jq X.K):=mR.or Rp (mR.or PU (mR.or UN Rk))
def RF{lo hi:Option Int}(z:Rel K U Z F G H)(O:bK K F H v d)(e:kE d lo hi=some s)
  (L:∀v F' H',zp F F'->Rel K (U++[some s]) (Z++[some v]) F' G H'->Q v H'):jq K v lo hi H Q:=by
 cases d with
 |str l=>
  cases e;let#[x,rfl,h1,h2]:=O.str;subst h1;show .inr (.inr (.inr #[x,rfl,?_,L _ F H `c (z.push (.str rfl ?_))]))
  .let:x.length=x.cps.toList.length:=by show x.cps.size=_;rw[qV]
   rw[this];show h2
  .show le_trans ?_ h2;unfold bB;rw[qH,qG];lia
 |tup l=>
  cases e;let#[a,xs,rfl,h1,B]:=O.tup;by_cases J:HT.sIx xs.length 0 lo=0/\HT.sIx xs.length xs.length hi=xs.length
  .show .inr (.inr (.inl #[a,xs,rfl,bV.of (z.fr _ _ h1),J,L _ F H `c (z.push ?_)]));let:bB l lo hi=l:=by unfold bB;rw[<-B.len,<-IA,<-IA,J.1,J.2,drop_zero,take_of_length_le (by rw[<-B.len];lia)]
   rw[this];show .tup h1 B
  .show .inr (.inl #[a,xs,rfl,bV.of (z.fr _ _ h1),J,λp M=>?_]);let Y:=(z.free M).1;show L _ _ _ (zp.upd Y) ((z.newF M).push (.tup Bh (B.cut.mono (zp.upd Y))))
 |lst l=>cases e;let#[a,xs,rfl,h1,B]:=O.lst z.fr;show .inl #[a,xs,rfl,h1,λp M=>L _ F _ `c (z.newLD M B.cut)]
 |_=>cases e
end
def Gk(r1:Rel X.K (U1++[zr x]) (Z++[some v]) F G H1)(M:RV Z v x)(Y:wb U1 (λy U2=>k x y U2 P PX) PX)
  (h3:∀r U' v F' H',P r U'->zp F F'->Rel X.K (U'++[zr r]) (Z++[some v]) F' G H'->RV Z v r->Q v H')(hx:XC X (·=Z) F G PX):tW X wb Z H1 λu H2=>uG X Z k Q v u H2:=by
 let h1:=Ae r1;let#[G1,B,gg,back]:=r1.hide h1;show#[F,G1,U1,_,PX,B,Y,λy U2 u F2 H2 O J r2 L=>?_,hx.mono (λ_ z=>z) `c gg];let h2:=Ae r2;let r3:=back J r2;rw[qp,qp]at r3;show#[F2,G,U2,x,y,P,PX,Rel.swap (U1:=[zr y]) (Z1:=[some u]) (U2:=[zr x]) (Z2:=[some v]) h2 rfl r3,h2,M,L,O,λr U' v F' H' a b c d=>h3 r U' v F' H' a (J.trans b) c d,hx.grow J]
def AN{U:Env}{o:Option D}{k:Int->Prop}(h:(match o with|some (.int i)=>k i|_=>False)):∃i,o=some `O/\k i:=by
 split at h
 .show#[_,rfl,h]
 .show h.elim
def Jx{K:W.Frag}{U:Env}{Z:St}{F G H:Hp}{x y:R}{v u:V}{lo hi:Option Int}{P:WQ}{Q:VK}{q:D}(J:Rel K (U++[zr x,zr y]) (Z++[some v,some u]) F G H)(M:U.length=Z.length)(rx:RV Z v x)
  (B:zo `cp λd=>zo (kE d lo hi) λs=>P `L U)
  (L:∀r U' v F' H',P r U'->zp F F'->Rel K (U'++[zr r]) (Z++[some v]) F' G H'->RV Z v r->Q v H'):jq K v lo hi H Q:=by
 let#[d,ed,B]:=Ao B;let#[s,es,B]:=Ao B;let z:Rel K (U++[zr x]) (Z++[some v]) F G H:=by let:=Rel.swap (U1:=[zr x]) (Z1:=[some v]) (U2:=[zr y]) (Z2:=[some u]) M rfl J;show Rel.mid (U:=U) (Z:=Z) this M
 let#[F1,Y,re,r1]:=Bf (U':=[]) (Z':=[]) z M rx ed;show RF (U:=U) (Z:=Z) ↑r1 re es λv F' H' O r'=>L _ U v F' H' B (Y.trans O) r' trivial
def GT(ha:FE X a wa)(hb:FE X b wb):FE X (.Subscript a (.Slice (some b) none none p2) pos) (gX wa (some wb) none):=λpn xe O=>by
 refine PE.imp (Kg (Jt (X:=wp X pn xe)) (ha pn xe O) (Im (hb pn xe O)) MZ) λZ H Q q=>?_;refine(Fv (k:=λx y z Q E=>match view y z with
  |some (.int i)=>zo (zC x z) λd=>zo (kE d (some i) none) λs=>Q `L z
  |_=>False) q).mono λv H1 h1=>h1.mono λu H2 h2=>?_
 let#[F,G,U,x,y,P,PX,B,L,rx,Y,M,J,hx]:=h2;let#[i,ei,M]:=AN (U:=U) (k:=λi=>zo `cp λd=>zo (kE d (some i) none) λs=>P `L U) M;let ru:=look (U':=[]) (Z':=[]) (B.mid L) L Y ei;cases ru;show#[i,rfl,Jx (q:=.non) B L rx M J]
def FO(ha:FE X a wa)(hb:FE X b wb):FE X (.Subscript a (.Slice none (some b) none p2) pos) (gX wa none (some wb)):=λpn xe O=>by
 refine PE.imp (Kg (Jt (X:=wp X pn xe)) (ha pn xe O) MZ (Im (hb pn xe O))) λZ H Q q=>?_;refine(Fv (k:=λx y z Q E=>match view y z with
  |some (.int i)=>zo (zC x z) λd=>zo (kE d none (some i)) λs=>Q `L z
  |_=>False) q).mono λv H1 h1=>h1.mono λu H2 h2=>?_
 let#[F,G,U,x,y,P,PX,B,L,rx,Y,M,J,hx]:=h2;let#[i,ei,M]:=AN (U:=U) (k:=λi=>zo `cp λd=>zo (kE d none (some i)) λs=>P `L U) M;let ru:=look (U':=[]) (Z':=[]) (B.mid L) L Y ei;cases ru;show#[i,rfl,Jx (q:=.non) B L rx M J]
def Ha(ha:FE X a wa)(hb:FE X b wb)(hc:FE X c wc):FE X (.Subscript a (.Slice (some b) (some c) none p2) pos) (gX wa (some wb) (some wc)):=λpn xe hp=>by
 refine PE.imp (Kg (Jt (X:=wp X pn xe)) `ar (Im `db) (Im (hc pn xe hp))) λZ H Q q=>?_;refine(Fv (k:=λx y U2 Q E=>match view y U2 with
  |some (.int i)=>wc U2 (λz B=>match view z B with
   |some (.int j)=>zo (zC x B) λd=>zo `ct λs=>Q `L B
   |_=>False) E
  |_=>False) q).mono λv H1 h1=>h1.mono λu H2 h2=>?_
 obtain⟨F,G,U,x,y,P,PX,J,L,rx,ry,O,M,hx⟩:=h2;let#[i,ei,O]:=AN (U:=U) (k:=λi=>wc U (λz B=>match view z B with
   |some (.int j)=>zo (zC x B) λd=>zo `ct λs=>P `L B
   |_=>False) PX) O
 let ru:=look (U':=[]) (Z':=[]) (J.mid L) L ry ei;cases ru;let Y:Rel X.K (U++[zr x]) (Z++[some v]) F G H2:=by let:=Rel.swap (U1:=[zr x]) (Z1:=[some v]) (U2:=[zr y]) (Z2:=[some `O]) L rfl J;show Rel.mid (U:=U) (Z:=Z) this L
 refine⟨i,rfl,(Gk (X:=wp X pn xe) (k:=λx z B P PX=>match view z B with
   |some (.int j)=>zo (zC x B) λd=>zo `ct λs=>P `L B
   |_=>False) Y rx O M hx).mono λt H3 h3=>?_⟩
 let#[F,G,U,x,y,P,PX,J,L,rx,ry,O,M,hx]:=h3;let#[j,ej,O]:=AN (U:=U) (k:=λj=>zo `cp λd=>zo `ct λs=>P `L U) O;let ru:=look (U':=[]) (Z':=[]) (J.mid L) L ry ej;cases ru;show#[j,rfl,Jx (q:=.non) J L rx O M]
end FL
namespace FL
open PySem
def uV(f:List Nat->List D->Option S)(o:WE)(a:WA):WE:=λU Q E=>o U (λx z=>match x with
 |.v (.sh (.str l))=>a z (λB v=>zo (B.mapM λr=>zC r v) λF=>zo (f l F) λs=>Q `L v) E
 |_=>False) E
def dB:List D->Option (List `bs)
 |[]=>some []
 |.str x::r=>(dB r).map (x::·)
 |_::_=>none
@[simp] theorem Vq(l:List (List Nat)):dB (l.map .str)=some l:=by
  induction l with
  |nil=>rfl
  |cons a r v=>rw[qz,dB,v];rfl
def dM(v:List Nat):List `bs->List Nat
 |[]=>[]
 |[x]=>x
 |x::r=>x++v++dM v r
def OP(v:List Nat):∀ys:List `bs,(dM v ys).length<=(ys.map List.length).sum+ys.length*v.length
 |[]=>zero_le _
 |[x]=>by simp[dM]
 |x::y::r=>by
  let:=OP v (y::r);rw[dM,qq,qq,qz,sum_cons,qt (a:=x),succ_mul]
  .lia
  .intro h;cases h
def Oa(ys:List `bs):dM [] ys=ys.flatten:=by
 induction ys with
 |nil=>rfl
 |cons x r v=>
  cases r with
  |nil=>simp[dM]
  |cons y r=>rw[dM,v];simp;intro h;cases h
def oQ(v:List Nat)(l:List D):Option S:=(dB l).bind λys=>if(ys.map List.length).sum+ys.length*v.length<=big then some (.sh (.str (dM v ys)))else none
def gO(v:List Nat):List D->Option S
 |[.lst l]=>oQ v l
 |[.tup l]=>oQ v l
 |_=>none
def fH(j:Nat)(e:WE):WE:=λU Q E=>match slot U j with
 |some (.lst _)=>e U (λr v=>match view r v,slot v j with
  |some (.int i),some (.lst l)=>zo (if l.length<=big then ixN l.length i else none) λk=>zo l[k]? λs=>Q `L (v.set j `by)
  |_,_=>False) E
 |_=>False
def iC:List D->Option (List Bool)
 |[]=>some []
 |.bl x::r=>(iC r).map (x::·)
 |_::_=>none
@[simp] theorem Vl(l:List Bool):iC (l.map .bl)=some l:=by
  induction l with
  |nil=>rfl
  |cons a r v=>rw[qz,iC,v];rfl
def oX:List D->Option S
 |[.lst l]=>(iC l).map λbs=>.sh (.bl (bs.all id))
 |_=>none
end FL
namespace FL
open PySem PySem.Spec PyProof.Rows L2
section
variable{id:String}
def pF(K:W.Frag)(r:V->List V->Hp->VK->Prop)(f:List Nat->List D->Option S):Prop:=∀(Z:St)(U:Env)(F G H:Hp)(x:Str)(vs:List V)(z:List D)(s:S)(Q:VK),Rel K U Z F G H->x.cps.toList.length<=16777216->jN K F H vs z->f x.cps.toList z=some s->
 (∀v F' H',zp F F'->Rel K (U++[some s]) (Z++[some v]) F' G H'->Q v H')->r (.str x) vs H Q
def Pj(hm:∀pn xe,zO `q id r)(hd:pF X.K r f)(slot:Slot "str" name id)(h5:typeOf `bn=pure (.type "method_descriptor"))(ho:FE X o wo)(ha:FA X (e::es) wa)
  (O:autoParam (attributeBase o name X.env `at=eval o X.env) rZ9)
  (h2:autoParam (((backTo cpos (starEach (e::es) X.env)).all (λx=>!x.1)&&(backToKw cpos (keywordEach [] X.env)).all (λx=>x.1.isSome)
   &&decide ((e::es).length+([]:List Keyword).length+(if([]:List Keyword).isEmpty then 0 else 1)<30))=true) rZ9)
  (M:autoParam ((apos.endLine==cpos.line)=true) rZ9)(hs:autoParam (starEach (e::es) X.env=(false,eval e X.env)::starEach es X.env) rZ9)(L:autoParam ((backTo cpos `h).any (·.1)=false) rZ9):
  FE X (.Call (.Attribute o name apos) (e::es) [] cpos) (uV f wo wa):=λpn xe hp=>by
 refine PE.imp (FK (X:=wp X pn xe) PySem.F.plainAttrs_str slot h5 (hm pn xe) `bb `ar O h2 M hs L) λZ H Q q=>?_;refine(one (k:=λx h3 Q E=>match x with
  |.v (.sh (.str l))=>wa h3 (λrs B=>zo (rs.mapM λr=>zC r B) λds=>zo (f l ds) λs=>Q `L B) E
  |_=>False) q).mono λv H1 h1=>?_
 let#[F,G,U,x,P,PX,Y,hl,rx,hk,h6,hx]:=h1;split at hk
 .rename_i l;let rp:=look (U':=[]) (Z':=[]) (x:=.v `dq) Y hl rx rfl;cases rp with
  |str e1 z=>rename_i y;subst e1;show#[rfl,F,G,U,_,PX,Y.drop hl,hk,λrs B vs F2 H2 J s2 r2 h7 h4=>?_,hx];let#[ds,ed,J]:=Ao J;let#[s,es,J]:=Ao J;let#[F3,s3,re,r3]:=Bk (U':=[]) (Z':=[]) ↑r2 h7 h4 ed;show hd Z B F3 G H2 y vs ds s Q ↑r3 z re es λv F' H' sm r'=>h6 _ B v F' H' J (s2.trans (s3.trans sm)) r' trivial
 .show hk.elim
end
section
variable{K:W.Frag}
def Mn(r:zE K F xs l)(h:dB l=some ys):∃v:List Str,xs=v.map V.str/\ys=v.map λz=>z.cps.toList:=
 zE.ind (P:=λxs l=>∀ys,dB l=some ys->∃v:List Str,xs=v.map V.str/\ys=v.map λz=>z.cps.toList) (λys h=>by cases h;show#[[],rfl,rfl]) (λa _ G ys h=>by
  cases a with
  |@str x _ e z=>let#[B,h1,rfl]:=qY.mp h;let#[v,rfl,rfl]:=G _ h1;show#[x::v,rfl,by rw[qz,e]]
  |_=>cases h) r ys h
def Nt(v:Str):∀B:List Str,(Str.join v B).cps.toList=dM v.cps.toList (B.map λz=>z.cps.toList)
 |[]=>rfl
 |[x]=>rfl
 |x::y::r=>by show((x++v++Str.join v (y::r):Str)).cps.toList=x.cps.toList++v.cps.toList++dM v.cps.toList ((y::r).map λz=>z.cps.toList);rw[<-Nt v (y::r)];show(x.cps++v.cps++(Str.join v (y::r)).cps).toList=_;rw[toList_append,toList_append]
def IU:∀{v:List Value},zD (ys.map V.str) v->StrsAre v ys:=by
 induction ys with
 |nil=>intro v r;rw[map_nil]at r;cases r;show .nil
 |cons n G F=>
  intro v r;cases r with
  |cons B z=>let#[t,e]:=B;subst e;show .cons n t (F z)
def nY(K:W.Frag):V->List V->Hp->VK->Prop:=λx v H Q=>∃z a ys,x=.str z/\v=[.ref a]/\(bQ K H a (ys.map V.str)\/bV K H a (ys.map V.str))/\(ys.map (·.length)).sum+ys.length*z.length<=16777216/\Q (.str (Str.join z ys)) H
def RA:zO X "str.join" (nY X.K):=by
 intro zG s Z H x vs v us Q I M O h;let#[z,a,ys,rfl,rfl,B,J,q]:=h;let#[t,rfl]:=M;cases O with
 |cons r1 Y=>
  cases Y;cases r1;let e:Txt.join z ys=Str.join z ys:=StrLaws.glued_eq_join z ys;rcases B with B|B
  .obtain⟨G,r,F,_⟩:=I.list B;show join_list F.isList (IU r) J λL k=>#[.str (Str.join z ys),H,I.tok _,#[_,by rw[e]],q]
  .obtain⟨G,r,F,_⟩:=I.tuple B;show join_tuple F (IU r) J λL k=>#[.str (Str.join z ys),H,I.tok _,#[_,by rw[e]],q]
def Ot(J:Rel K U Z F G H)(Y:bQ K H a xs\/bV K H a xs)(r:zE K F xs l)(e:oQ x.cps.toList l=some s)
  (k:∀v F' H',zp F F'->Rel K (U++[some s]) (Z++[some v]) F' G H'->Q v H'):nY K (.str x) [.ref a] H Q:=by
 let#[ys,e1,O]:=Option.bind_eq_some_iff.mp e;let#[B,rfl,rfl]:=Mn r e1;split at O
 .rename_i M;cases O;let hl:∀z:Str,z.cps.toList.length=z.length:=λz=>by rw[qV];rfl
  let e3:((B.map λz=>z.cps.toList).map List.length)=B.map (·.length):=by rw[qE];show map_congr_left λz _=>hl z
  let L:=M;rw[e3,qo]at M;show#[x,a,B,rfl,rfl,Y,le_trans M ⋯,k _ F H `c (J.push (.str (Nt x B) ?_))];show le_trans (OP _ _) (le_trans L ⋯)
 .cases O
def Vw:pF K (nY K) gO:=by
 intro Z U F G H x M Y s Q z O B e L;let#[d,v,rfl,rfl]:=AY (λx y r=>by cases x<;>rfl) rfl B e;cases d with
 |tup l=>let#[a,xs,rfl,h1,J]:=B.1.tup;show Ot z (.inr (bV.of (z.fr _ _ h1))) J e L
 |lst l=>let#[a,xs,rfl,h1,J]:=B.1.lst z.fr;show Ot z (.inl h1) J e L
 |_=>cases e
end
def JO(J:FE X o G)(L:FA X [e] wa)
  (B:autoParam (attributeBase o "join" X.env `at=eval o X.env) rZ9)
  (F:autoParam (((backTo cpos (starEach [e] X.env)).all (λx=>!x.1)&&(backToKw cpos (keywordEach [] X.env)).all (λx=>x.1.isSome)
   &&decide ([e].length+([]:List Keyword).length+(if([]:List Keyword).isEmpty then 0 else 1)<30))=true) rZ9)
  (z:autoParam ((apos.endLine==cpos.line)=true) rZ9)(hs:autoParam (starEach [e] X.env=(false,eval e X.env)::starEach [] X.env) rZ9)(v:autoParam ((backTo cpos (starEach [] X.env)).any (·.1)=false) rZ9):
  FE X (.Call (.Attribute o "join" apos) [e] [] cpos) (uV gO G wa):=Pj (λ_ _=>RA) Vw PySem.F.slot_str_join PySem.F.type_str_join J L B F z hs v
section
variable{K:W.Frag}
def zu.erase:∀{xs:List V}{l:List S}{fp:List Addr}{m:Nat}{s:S},zu K F H xs l fp->l[m]?=some s->∃y B v z,fp=B++(v++z)/\xs[m]?=some y/\aK K F H y s v/\zu K F H (xs.eraseIdx m) (l.eraseIdx m) (B++z)
 |_,_,_,_,_,.nil,h=>by simp at h
 |_,_,_,0,s,.cons (x:=x) (fp:=fp) (fq:=fq) a b,h=>by let e:=qf h;subst e;show#[x,[],fp,fq,rfl,rfl,a,b]
 |_,_,_,m+1,s,.cons (fp:=fp) (fq:=fq) a b,h=>by let#[y,B,v,z,rfl,h1,h2,G]:=zu.erase (m:=m) b h;show#[y,fp++B,v,z,(qp ..).symm,h1,h2,?_];rw[qp];show .cons a G
def Rel.popItem{D:Addr}(r:Rel K U Z F G H)(hs:slot U n=some `i)(O:Z[n]?=some (some `k))(hm:l[m]?=some s):
  ∃xs y,H D=some `N/\xs.length=l.length/\xs[m]?=some y/\Rel K (U.set n (some (.lst (l.eraseIdx m)))++[some s]) (Z++[some y]) F G (upd H D `dg):=by
 let#[fp,e,nd,ap]:=r.en;let#[v',fa,fi,M,e1,rfl,q,up]:=e.at hs;rw[O]at e1;let e2:V.ref D=v':=↑e1
 subst e2;cases q with
 |lst hD rl=>
  rename_i xs fl;let#[y,ga,L,J,rfl,hy,sr,h1]:=rl.erase hm;show#[xs,y,hD,rl.len,hy,?_];let#[na,v,h2]:=qx.mp nd;let#[ni,nb,v]:=qx.mp v;let#[nD,h7]:=qL.mp ni;let h6:D∉fa:=λz=>h2 D z D (qj _ qm) rfl;let h5:D∉M:=λz=>v D qm D z rfl;let Y:=ap D `ao;let ne:∀{l:List Addr},D∉l->∀x∈l,upd H D `dg x=H x:=λh x B=>Ar λz=>h (z▸B);let h4:D∉ga++J:=λz=>nD ((qy.mp z).elim (λw=>qj _ w) λw=>qi _ (qi _ w));let h3:D∉L:=λz=>nD (qi _ (qj _ z));let new:aK K F (upd H D `dg) `k (.lst (l.eraseIdx m)) (D::(ga++J)):=.lst Bh (h1.mono `c (ne h4));let a2:=up (F':=F) (H':=upd H D `dg) (o:=some (.lst (l.eraseIdx m))) (u:=some `k) `c (λx B=>Ar λz=>(qy.mp B).elim (λw=>h6 (z▸w)) λw=>h5 (z▸w)) (.so new .nil);rw[Hu O]at a2;let a3:=a2.app (.so (sr.mono `c (ne h3)) .nil);let pm:(fa++((D::(ga++J))++[]++M)++(L++[])).Perm (fa++((D::(ga++(L++J)))++M)):=by simp;show List.Perm.append_left _ (List.Perm.cons _ (List.Perm.append_left _ ?_));rw[<-qp L J M,<-qp J M L];show(qN (l₁:=J++M) (l₂:=L)).trans ?_;rw[qp]
  show#[zp.updR r.fr Y.1,λx o w=>?_,_,a3,pm.nodup_iff.mpr nd,λx B=>ap x (pm.mem_iff.mp B)];let B:x≠D:=λz=>by rw[z,Y.2]at w;cases w
  rw[Ar B];show r.gr x o w
end
def Ka(ho:FE X o (zk j))(he:FE X e we)
  (Y:autoParam (attributeBase o "pop" X.env `at=eval o X.env) rZ9)
  (h3:autoParam (((backTo cpos (starEach [e] X.env)).all (λx=>!x.1)&&(backToKw cpos (keywordEach [] X.env)).all (λx=>x.1.isSome)
   &&decide ([e].length+([]:List Keyword).length+(if([]:List Keyword).isEmpty then 0 else 1)<30))=true) rZ9)
  (O:autoParam ((apos.endLine==cpos.line)=true) rZ9)(hs:autoParam (starEach [e] X.env=[(false,eval e X.env)]) rZ9):FE X (.Call (.Attribute o "pop" apos) [e] [] cpos) (fH j we):=λpn xe hp=>by
 refine PE.imp (FK (X:=wp X pn xe) PySem.F.plainAttrs_list PySem.F.slot_list_pop PySem.F.type_list_pop Uw `bb `bw Y h3 O hs rfl) λZ H Q q=>?_;let#[F,G,U,P,PX,h4,hw,h5,hx]:=q;let L:(match slot U j with
  |some (.lst _)=>we U (λr z=>match view r z,slot z j with
   |some (.int i),some (.lst l)=>zo (if l.length<=big then ixN l.length i else none) λk=>zo l[k]? λs=>P `L (z.set j `by)
   |_,_=>False) PX
  |_=>False):=hw
 cases qs:slot U j with
 |none=>rw[qs]at L;show L.elim
 |some s0=>
  cases s0 with
  |lst l0=>
   rw[qs]at L;show#[F,G,U,λy M=>y=.loc j/\M=U,PX,h4,by unfold zk;rw[qs];show#[rfl,rfl],λy M o' F1 H1 B s1 r1 rv=>?_,hx];let#[rfl,rfl]:=B;let l1:=Ae r1;let h1:Z[j]?=some (some o'):=rv;let r2:=r1.drop l1;let#[v',fp,e1,sr]:=r2.at qs;rw[h1]at e1;let e2:o'=v':=↑e1
   subst e2;cases sr with
   |lst hD rl=>
    rename_i a xs fl;show#[.inl #[rfl,_,bQ.of hD],F1,G,M,λrs z=>match rs with|[r]=>(match view r z,slot z j with|some (.int i),some (.lst l)=>zo (if l.length<=big then ixN l.length i else none) λk=>zo l[k]? λs=>P `L (z.set j `by)|_,_=>False)|_=>False,PX,r2,L,λrs z vs F2 H2 B s2 r3 hl J=>?_,hx.grow s1];match rs,vs,J,r3,B with
    |[r],[v],J,r3,B=>
     dsimp only at B;split at B
     .rename_i i l ei ql;let#[m,em,B]:=Ao B;let#[s,es,B]:=Ao B;let rp:=look (U':=[]) (Z':=[]) r3 hl J.1 ei;cases rp;split at em
      .rename_i hz;let r4:=r3.drop hl;let#[ys,y,h6,h2,hy,r5]:=Rel.popItem r4 ql h1 es;rw[<-h2]at em hz;let#[b1,b2,b3,b4]:=JI em;let hb:ys.length<=1000000:=hz;show#[a,ys,i,m,y,rfl,rfl,h6,∅,∅,b1,hy,h5 _ _ y F2 _ B `as r5 trivial]
      .cases em
     .show B.elim
    |[],_,_,_,B=>show B.elim
    |[_],[],J,_,_=>show J.elim
    |[_],_::_::_,J,_,_=>show J.2.elim
    |_::_::_,_,_,_,B=>show B.elim
  |_=>rw[qs]at L;show L.elim
section
variable{K:W.Frag}
def Nr:∀{xs:List V}{l:List D}{ys:List Bool},zE K F xs l->iC l=some ys->xs=ys.map V.bl
 |_,_,ys,.nil,h=>by cases h;rfl
 |_,d::l,ys,.cons a b,h=>by
  cases a with
  |bl c=>let#[v,h1,rfl]:=qY.mp h;rw[Nr b h1];rfl
  |_=>cases h
def WU:∀{v:List Value},zD (ys.map V.bl) v->LSm.BoolsAre v ys:=by
 induction ys with
 |nil=>intro v r;rw[map_nil]at r;cases r;show .nil
 |cons n G F=>
  intro v r;cases r with
  |cons B z=>cases B;show .cons n (F z)
end
def Wo(L:A.handled=none)(B:s.heap.IsList l vs.toArray)(F:LSm.BoolsAre vs bs)(h:∀h' tk,(∀b x,s.heap.get? b=some x->h'.get? b=some x)->Q (.bool (bs.all id)) {s with heap:=h',toks:=tk}):
  wpAny `b A (call (.builtin "all") [.ref l]) Q E s:=by
 let z:l<s.heap.objs.size:=by let#[_,e,_]:=B;show qe e
 refine call_all_walk (wpAny_pyIter_list B ?_);refine⟨s.heap.objs.size,[s.heap.objs.size,l],[s.heap.objs.size],vs.toArray.size,_,_,λi=>(bs[i]?).getD true,rfl,Walks.list (A:=A.in1) L _ l (ne_of_lt z) vs.toArray,
  #[#[_,qd _ rfl,rfl,rfl],B.push _],λi v s' O Y M G=>?_,λh' tk J=>?_⟩
 .obtain⟨b,e,rfl⟩:=F.get i v ↑M;simp only[e]at G;show wpAny_truthy_bool G
 .let e:((List.range vs.toArray.size).all λi=>(bs[i]?).getD true)=bs.all id:=by rw[qr,F.length];exact LSm.range_all bs
  rw[e];show h h' tk (LSm.kept_iter J)
section
variable{K:W.Frag}
def bg(K:W.Frag):List V->Hp->VK->Prop:=λxs H Q=>∃(a:Addr)(bs:List Bool),xs=[.ref a]/\bQ K H a (bs.map V.bl)/\Q (.bl (bs.all id)) H
def Vs(J:X.calm=true):aZ X (.builtin "all") (bg X.K):=by
 intro zG s Z H xs L Q I r h;let#[a,bs,rfl,G,q]:=h;cases r with
 |cons z v=>cases v;cases z;let#[F,r,B,_]:=I.list G;show Wo (I.ok.hd J) B.isList (WU r) λh' tk k=>#[.bl _,H,I.kept k,rfl,q]
def Vf:cT K (bg K) oX:=by
 intro Z U F G H O Y s Q z B e L;let#[d,v,rfl,rfl]:=AY (λx y r=>by cases x<;>rfl) rfl B e;cases d with
 |lst l=>let#[bs,M,rfl]:=qY.mp e;let#[a,xs,rfl,h1,J]:=B.1.lst z.fr;let:=Nr J M;subst this;show#[a,bs,rfl,h1,L _ F H `c (z.push (.bl _))]
 |_=>cases e
def Qn(J:X.calm=true)(F:Gl X "all")(B:X.mg "all"=none)(z:bootBuiltins "all"=some (.builtin "all"))(L:FA X (e::es) wa)(G:autoParam (starEach (e::es) X.env=(false,eval e X.env)::starEach es X.env) rZ9)(v:autoParam ((backTo pos `h).any (·.1)=false) rZ9):FE X (.Call (.Name "all" p) (e::es) [] pos) (wB oX wa):=
 GO (λpn xe=>Vs (X:=wp X pn xe) J) Vf F B z L ⋯ ⋯ G v
end
end FL
namespace FL
open PySem
mutual
def cH:D->D->Ordering
 |.int i,.int j=>if i<j then .lt else if j<i then .gt else .eq
 |.str x,.str y=>if x<y then .lt else if y<x then .gt else .eq
 |.tup l,.tup m=>bE l m
 |_,_=>.eq
def bE:List D->List D->Ordering
 |[],[]=>.eq
 |[],_::_=>.lt
 |_::_,[]=>.gt
 |a::l,b::m=>match cH a b with
  |.eq=>bE l m
  |o=>o
end
def eC(a b:D):Bool:=match cH a b with
 |.gt=>false
 |_=>true
@[simp] theorem GZ(i j:Int):eC (.int i) (.int j)=decide (i<=j):=by
  show(match(if i<j then Ordering.lt else if j<i then .gt else .eq)with|.gt=>false|_=>true)=_;by_cases h:i<j
  .rw[q4 h,qR ∅]
  .rw[q5 h];by_cases h2:j<i
   .rw[q4 h2,qS ∅]
   .rw[q5 h2,qR ∅]
@[simp] theorem MY(x y:List Nat):eC (.str x) (.str y)=!decide (y<x):=by
  show(match(if x<y then Ordering.lt else if y<x then .gt else .eq)with|.gt=>false|_=>true)=_;by_cases h:x<y
  .rw[q4 h,qS (λh'=>lt_asymm h h')];rfl
  .rw[q5 h];by_cases h2:y<x
   .rw[q4 h2,qR h2];rfl
   .rw[q5 h2,qS h2];rfl
def mN(x:D):List D->List D
 |[]=>[x]
 |y::r=>if eC x y then x::y::r else y::mN x r
def cE:List D->List D
 |[]=>[]
 |x::r=>mN x (cE r)
def Kr(x:D):∀l:List D,(mN x l).Perm (x::l)
 |[]=>.refl _
 |y::r=>by
  unfold mN;split
  .show .refl _
  .show(List.Perm.cons y (Kr x r)).trans (.swap x y r)
def EG:∀l:List D,(cE l).Perm l
 |[]=>.refl _
 |x::r=>(Kr x _).trans (.cons x (EG r))
structure fP(P:D->Prop):Prop where
 tot:∀a b,P a->P b->eC a b=true\/eC b a=true
 tr:∀a b c,P a->P b->P c->eC a b=true->eC b c=true->eC a c=true
 anti:∀a b,P a->P b->eC a b=true->eC b a=true->a=b
def OV(o:fP P)(x:D)(z:P x):∀l:List D,(∀d∈l,P d)->l.Pairwise (eC · ·=true)->(mN x l).Pairwise (eC · ·=true)
 |[],_,_=>List.pairwise_singleton _ _
 |y::r,hp,h=>by
  let#[h1,h2]:=pairwise_cons.mp h;let B:=hp y qm;let F:∀d∈r,P d:=λd v=>hp d (qk _ v);unfold mN;split
  .rename_i c;show pairwise_cons.mpr #[λd v=>?_,h];rcases qB.mp v with rfl|v
   .show c
   .show o.tr x y d z B (F d v) c (h1 d v)
  .rename_i c;show pairwise_cons.mpr #[λd v=>?_,OV o x z r F h2];rcases qB.mp ((Kr x r).mem_iff.mp v)with rfl|v
   .show(o.tot d y z B).resolve_left c
   .show h1 d v
def Hz(o:fP P):∀l:List D,(∀d∈l,P d)->(cE l).Pairwise (eC · ·=true)
 |[],_=>.nil
 |x::r,hp=>OV o x (hp x qm) _ (λd v=>hp d (qk _ ((EG r).mem_iff.mp v))) (Hz o r λd v=>hp d (qk _ v))
def OZ(o:fP P):∀l m:List D,(∀d∈l,P d)->l.Perm m->l.Pairwise (eC · ·=true)->m.Pairwise (eC · ·=true)->l=m
 |[],m,_,p,_,_=>(List.nil_perm.mp p).symm
 |x::r,[],_,p,_,_=>absurd p.length_eq (by simp)
 |x::r,y::t,hp,p,h1,h2=>by
  obtain⟨M,L⟩:=pairwise_cons.mp h1;let#[J,G]:=pairwise_cons.mp h2;let B:=hp x qm;let z:P y:=hp y (p.mem_iff.mpr qm);let e:x=y:=by
   let m1:x∈y::t:=p.mem_iff.mp qm;let v:y∈x::r:=p.mem_iff.mpr qm;rcases qB.mp m1 with e|m1
   .show e
   .rcases qB.mp v with e|v
    .show e.symm
    .show o.anti x y B z (M y v) (J x m1)
  subst e;rw[OZ o r t (λd F=>hp d (qk _ F)) (List.Perm.cons_inv p) L G]
def FR(o:fP P)(v:∀d∈l,P d)(p:m.Perm l)(h:m.Pairwise (eC · ·=true)):cE l=m:=
 OZ o _ _ (λd z=>v d ((EG l).mem_iff.mp z)) ((EG l).trans p.symm) (Hz o l v) h
def mJ:D->Prop
 |.int _=>True
 |_=>False
def pC:D->Prop
 |.str _=>True
 |_=>False
def Hf:fP mJ where
 tot
  |.int a,.int b,_,_=>by simp;lia
 tr
  |.int a,.int b,.int c,_,_,_=>by simp;lia
 anti
  |.int a,.int b,_,_=>by simp;intro h1 h2;rw[Int.le_antisymm h1 h2]
def JB:fP pC where
 tot
  |.str a,.str b,_,_=>by
   simp;by_cases h:b<a
   .show .inr λh'=>lt_asymm h h'
   .show .inl h
 tr
  |.str a,.str b,.str c,_,_,_=>by simp;intro h1 h2;show λh=>(List.le_trans (l₁:=a) (l₂:=b) (l₃:=c) h1 h2) h
 anti
  |.str a,.str b,_,_=>by simp;intro h1 h2;let:a=b:=List.le_antisymm (as:=a) (bs:=b) h1 h2;rw[this]
def dS:List D->Option (List Int)
 |[]=>some []
 |.int x::r=>(dS r).map (x::·)
 |_::_=>none
@[simp] theorem Kq(l:List Int):dS (l.map .int)=some l:=by
  induction l with
  |nil=>rfl
  |cons a r v=>rw[qz,dS,v];rfl
end FL
namespace FL
open PySem PySem.Spec PyProof.Rows L2
section
variable{K:W.Frag}
def JM(r:zE K F xs l)(h:dS l=some ys):xs=ys.map V.int/\l=ys.map D.int:=
 zE.ind (P:=λxs l=>∀ys,dS l=some ys->xs=ys.map V.int/\l=ys.map D.int) (λys h=>by cases h;show#[rfl,rfl]) (λa _ z ys h=>by
  cases a with
  |int c=>let#[v,h1,rfl]:=qY.mp h;let#[G,B]:=z _ h1;rw[G,B];show#[rfl,rfl]
  |_=>cases h) r ys h
def Gb:∀{v:List Value}{ns:List Int},IntsAre v ns->zD `Y v
 |_,_,.nil=>.nil
 |_,_,.cons i t r=>.cons #[t,rfl] (Gb r)
def JU:∀{v:List Value}{ns:List Str},StrsAre v ns->zD (ns.map V.str) v
 |_,_,.nil=>.nil
 |_,_,.cons i t r=>.cons #[t,rfl] (JU r)
def rV(K:W.Frag):List V->Hp->VK->Prop:=λxs H Q=>∃a,xs=[.ref a]/\
 ((∃ns:List Int,ns.length<64/\bQ K H a `Y/\∀z:List Int,z.Perm ns->z.Pairwise (·<=·)->∀q,H q=none->Q (.ref q) (upd H q (.lst (z.map V.int))))\/
  (∃B:List Str,B.length<64/\bQ K H a (B.map V.str)/\∀v:List Str,v.Perm B->sortedS v=true->∀q,H q=none->Q (.ref q) (upd H q (.lst (v.map V.str)))))
def OO:aZ X (.builtin "sorted") (rV X.K):=by
 intro zG s Z H xs us Q I r h;let#[a,rfl,h]:=h;cases r with
 |cons r1 r2=>
  cases r2;cases r1;rcases h with⟨ns,G,O,q⟩|⟨zs,G,O,q⟩
  .obtain⟨B,r,L,_⟩:=I.list O;let F:B.length=ns.length:=by let:=r.length;rw[qo]at this;exact this.symm
   show sorted_ints L.isList (Hs r) (by rw[F];show G) λz v a1 J a3=>?_;let#[e,Y]:=sortedAll_at s.heap B z;let M:v.length<=sizeLine:=by rw[J.length_eq,ze];lia
   show#[.ref (s.heap.objs.size+1),_,I.laid (t':=s.toks) (o:=.lst (v.map V.int)) (λb ob w=>sortedAll_old w) `am ?_,rfl,q v J a3 _ (I.hok.fresh `am)];show#[by rw[qo];show M,z.toList,e,Gb a1,by rw[toArray_toList];show Y]
  .obtain⟨B,r,L,_⟩:=I.list O;let F:B.length=zs.length:=by let:=r.length;rw[qo]at this;exact this.symm
   show sorted_strs L.isList (IU r) (by rw[F];show G) λz v a1 J a3=>?_;let#[e,Y]:=sortedAll_at s.heap B z;let M:v.length<=sizeLine:=by rw[J.length_eq,ze];lia
   show#[.ref (s.heap.objs.size+1),_,I.laid (t':=s.toks) (o:=.lst (v.map V.str)) (λb ob w=>sortedAll_old w) `am ?_,rfl,q v J a3 _ (I.hok.fresh `am)];show#[by rw[qo];show M,z.toList,e,JU a1,by rw[toArray_toList];show Y]
def IQ:∀ns:List Int,zE K F `Y (ns.map D.int)
 |[]=>.nil
 |n::ns=>.cons (.int n) (IQ ns)
def NZ:∀v:List Str,(∀z∈v,z.cps.toList.length<=16777216)->zE K F (v.map V.str) (v.map λz=>D.str z.cps.toList)
 |[],_=>.nil
 |z::v,h=>.cons (.str rfl (h z qm)) (NZ v λy B=>h y (qk _ B))
def OC:∀{xs:List V}{l:List D}{v:List Str},zE K F xs l->xs=v.map V.str->l=(v.map λz=>D.str z.cps.toList)/\∀z∈v,z.cps.toList.length<=16777216
 |_,_,[],.nil,_=>#[rfl,λ_ h=>by cases h]
 |_,_,_::_,.nil,h=>by simp at h
 |_,_,[],.cons _ _,h=>by simp at h
 |_,_,z::v,.cons a b,h=>by
  injection h with h1 h2
  subst h1;let#[e,k]:=OC b h2;cases a with
  |str J G=>
   subst J;show#[by rw[e];rfl,λy B=>?_];rcases qB.mp B with rfl|B
   .show G
   .show k y B
def Ol:∀(r:List Str)(p:Str),risingS p r=true->((p::r).map λz=>D.str z.cps.toList).Pairwise (eC · ·=true)
 |[],p,_=>List.pairwise_singleton _ _
 |x::r,p,h=>by
  let h':(!ltCps x.cps.toList p.cps.toList&&risingS x r)=true:=h;rw[and_eq_true,ltCps_eq]at h';let F:=Ol r x h'.2;let B:eC (.str p.cps.toList) (.str x.cps.toList)=true:=by rw[MY];show h'.1
  show pairwise_cons.mpr #[λd v=>?_,F];rcases qB.mp v with rfl|v
  .show B
  .obtain⟨z,_,rfl⟩:=qK.mp v;show JB.tr _ (.str x.cps.toList) _ trivial trivial trivial B ((pairwise_cons.mp F).1 _ v)
def VQ:∀r:List Str,sortedS r=true->(r.map λz=>D.str z.cps.toList).Pairwise (eC · ·=true)
 |[],_=>.nil
 |x::r,h=>Ol r x h
end
mutual
def eT:D->PyData
 |.non=>.none
 |.bl b=>.bool b
 |.int i=>.int i
 |.str l=>.str #[l.toArray]
 |.tup l=>.tuple (dA l)
 |.lst l=>.list (dA l)
 |_=>.none
def dA:List D->List PyData
 |[]=>[]
 |d::r=>eT d::dA r
end
mutual
def nU:D->Bool
 |.non=>true
 |.bl _=>true
 |.int i=>decide (i.natAbs.log2<1920)
 |.str _=>true
 |.tup l=>eJ l
 |.lst l=>eJ l
 |_=>false
def eJ:List D->Bool
 |[]=>true
 |d::r=>nU d&&eJ r
end
mutual
theorem Xa:∀d:D,nU d=true->(eT d).showable=true
 |.non,_=>rfl
 |.bl _,_=>rfl
 |.int i,h=>h
 |.str _,_=>rfl
 |.tup l,h=>Kz l h
 |.lst l,h=>Kz l h
 |.dct _ _ _,h=>by cases h
 |.set _,h=>by cases h
 |.exc _ _ _,h=>by cases h
theorem Kz:∀l:List D,eJ l=true->PyData.showableAll (dA l)=true
 |[],_=>rfl
 |d::r,h=>by rw[eJ,and_eq_true]at h;rw[dA,PyData.showableAll,Xa d h.1,Kz r h.2];rfl
end
mutual
theorem Vv:∀d:D,(eT d).hasDict=false
 |.non=>rfl
 |.bl _=>rfl
 |.int i=>rfl
 |.str _=>rfl
 |.tup l=>Kj l
 |.lst l=>Kj l
 |.dct _ _ _=>rfl
 |.set _=>rfl
 |.exc _ _ _=>rfl
theorem Kj:∀l:List D,PyData.hasDictAll (dA l)=false
 |[]=>rfl
 |d::r=>by rw[dA,PyData.hasDictAll,Vv d,Kj r];rfl
end
mutual
theorem Ud:∀d:D,(eT d).depth<=eP d
 |.non=>q8 _
 |.bl _=>q8 _
 |.int i=>q8 _
 |.str _=>q8 _
 |.tup l=>Nat.succ_le_succ (Ks l)
 |.lst l=>Nat.succ_le_succ (Ks l)
 |.dct _ _ _=>q8 _
 |.set _=>q8 _
 |.exc _ _ _=>q8 _
theorem Ks:∀l:List D,PyData.depthAll (dA l)<=bM l
 |[]=>q8 _
 |d::r=>by let h1:=Ud d;let h2:=Ks r;simp only[dA,PyData.depthAll,bM];lia
end
end FL
namespace FL
open PySem
def cz(l m:List Nat)(i:Nat):Bool:=decide (i+m.length<=l.length)&&decide ((l.drop i).take m.length=m)
def gR(l m:List Nat):Option Nat:=(List.range (l.length+1)).find? (cz l m)
def iZ:List D->Option S
 |[.tup l]=>some `ae
 |[.lst l]=>some `ae
 |[.str l]=>if l.length<=big then some (.lst (l.map λc=>.sh (.str [c])))else none
 |_=>none
def fk:D->String
 |.non=>"NoneType"
 |.bl _=>"bool"
 |.int _=>"int"
 |.str _=>"str"
 |.tup _=>"tuple"
 |.lst _=>"list"
 |.dct _ _ _=>"dict"
 |.set _=>"set"
 |.exc _ _ _=>"?"
def mM(T:String)(d:D):Bool:=fk d==T||(fk d=="bool"&&T=="int")
def hW:D->Bool
 |.exc _ _ _=>false
 |_=>true
def uW(T:String)(a:WE):WE:=λU Q E=>a U (λx v=>zo (view x v) λd=>hW d=true/\Q (.v (.sh (.bl (mM T d)))) v) E
theorem find?_first(h:i<n)(v:p i=true)(hn:∀k,k<i->p k=false):(List.range n).find? p=some i:=by first|rfl|assumption|(simp_all;done)
theorem find?_not(hn:∀k,p k=false):(List.range n).find? p=none:=by grind
end FL
namespace FL
open PySem PySem.Spec PyProof.Rows L2
section
variable{K:W.Frag}
theorem zkE:StrLaws.At x y x.length i↔cz x.cps.toList y.cps.toList i=true:=by
 let h1:x.length=x.cps.toList.length:=by show x.cps.size=_;rw[qV]
 let h2:y.length=y.cps.toList.length:=by show y.cps.size=_;rw[qV]
 unfold StrLaws.At cz Builtin.Str.subAt;rw[and_eq_true,qT,qT,h2,beq_iff_eq];show and_congr_right λ_=>?_;rw[<-Array.toList_inj,toList_extract,extract_eq_take_drop];let:i+y.cps.toList.length-i=y.cps.toList.length:=∅
 rw[this]
def Ry(x y:Str):Txt.find x y=(match gR x.cps.toList y.cps.toList with|some i=>(i:Int)|none=>-1):=by
 have v:∀{i},¬StrLaws.At x y x.length i->cz x.cps.toList y.cps.toList i=false:=λ{i} h=>by
  cases q:cz x.cps.toList y.cps.toList i with
  |false=>rfl
  |true=>show absurd (zkE.mpr q) h
 rcases find_whole x y with⟨e,h⟩|⟨i,e,hi,h⟩
 .rw[e];unfold gR;rw[find?_not λk=>v (h k)]
 .rw[e];unfold gR;let B:=hi.1;let h1:x.length=x.cps.toList.length:=by show x.cps.size=_;rw[qV]
  rw[find?_first (i:=i) (by rw[<-h1];lia) (zkE.mp hi) λk z=>v (h k z)]
def nX:List V->Hp->VK->Prop:=λxs H Q=>∃x:Str,xs=[.str x]/\x.length<=sizeLine/\∀l,H l=none->Q (.ref l) (upd H l (.lst (x.cps.toList.map λc=>.str #[[c].toArray])))
def KD:∀{xs:List V}{v:List Value},xs.length=v.length->(∀(j:Nat) x u,xs[j]?=some x->v[j]?=some u->zv x u)->zD xs v
 |[],[],_,_=>.nil
 |[],_::_,h,_=>by simp at h
 |_::_,[],h,_=>by simp at h
 |x::xs,u::v,h,k=>.cons (k 0 x u rfl rfl) (KD ↑h λj z B h1 h2=>k (j+1) z B h1 ↑h2)
def Xr(F:X.calm=true):aZ X (.type "list") nX:=by
 intro zG s Z H xs us Q I r h;let#[x,rfl,J,q]:=h;let#[u,rfl,L]:=vals1 r;let#[t,rfl]:=L;show call_list_str (I.ok.hd F) x t (hn:=J) λh' tk B Y O G z=>?_;let M:zD (x.cps.toList.map λc=>V.str #[[c].toArray]) B.toList:=KD (by rw[qo,qV,qV,z.1]) λj y v h1 h2=>by let#[c,u,F,rfl]:=z.2 j v (by rw[<-qZ];show h2);rw[qF,qZ,F]at h1;cases h1;show#[u,rfl]
 show#[.ref s.heap.objs.size,_,I.laid (t':=tk) O `j (show zF X.prog X.w _ h' _ (.lst (x.cps.toList.map λc=>V.str #[[c].toArray])) from#[?_,B.toList,Y,M,G]),rfl,q _ (I.hok.fresh `j)];rw[qo];show J
def wL(K:W.Frag):List V->Hp->VK->Prop:=λxs H Q=>tU K xs H Q\/nX xs H Q
def OH:∀l:List Nat,zE K F (l.map λc=>V.str #[[c].toArray]) (l.map λc=>D.str [c])
 |[]=>.nil
 |c::l=>.cons (.str rfl (by show 1<=16777216;decide)) (OH l)
def VX:cT K (wL K) iZ:=by
 intro Z U F G H vs ds s Q B J e L;let#[d,v,rfl,rfl]:=AY (λx y r=>by cases x<;>rfl) rfl J e;cases d with
 |tup l=>show .inl (Oq Z U F G H [v] [.tup l] s Q B J e L)
 |lst l=>show .inl (Oq Z U F G H [v] [.lst l] s Q B J e L)
 |str l=>
  let#[x,rfl,M,z]:=J.1.str;let e:(if l.length<=big then some (S.lst (l.map λc=>S.sh (.str [c])))else none)=some s:=e;split at e
  .rename_i Y;cases e;show .inr #[x,rfl,by rw[GG M];show IG Y,λp O=>?_];rw[M];let h:=B.newLD O (OH l);rw[qE]at h;show L `w F (upd H p (.lst (l.map λc=>V.str #[[c].toArray]))) `c h
  .cases e
 |_=>cases e
def Tv(J:X.calm=true)(F:Gl X "list")(B:X.mg "list"=none)(z:bootBuiltins "list"=some (.type "list"))(L:FA X (e::es) wa)(G:autoParam (starEach (e::es) X.env=(false,eval e X.env)::starEach es X.env) rZ9)(v:autoParam ((backTo pos `h).any (·.1)=false) rZ9):FE X (.Call (.Name "list" p) (e::es) [] pos) (wB iZ wa):=
 IY (λpn xe=>aZ.or' Xy (Xr (X:=wp X pn xe) J)) VX F B z L ⋯ ⋯ G v
end
def vJ(T:String):Bool:=T=="bool"||T=="int"||T=="str"||T=="tuple"||T=="list"
def Pw(K:W.Frag):∀(T:String),vJ T=true->∀d:D,hW d=true->W.kitOne K (.type (fk d)) `ap=some (mM T d):=by intro T v d h2;simp[vJ,or_eq_true,beq_iff_eq]at v;rcases v with(((rfl|rfl)|rfl)|rfl)|rfl<;>cases d<;>first|show absurd h2 qX|kernel_rfl
def UY(I:Inv X zG Z H s)(B:zv x u)(L:aQ X.K H x d)(hd:hW d=true)(e:W.kitOne X.K (.type (fk d)) c=some b)(h:∀tk,Q (.bool b) {s with toks:=tk}):
  wpAny `a A (call (.builtin "isinstance") [u,c]) Q E s:=by
 cases L with
 |non=>show FZ I B .non e h
 |bl y=>show FZ I B (.bl y) e h
 |int i=>show FZ I B `O e h
 |str e1 z=>show FZ I B (.str _) e h
 |tup v r=>show FZ I B (.tup v) e h
 |lst v r=>cases B;let#[O,r,M,_]:=I.list v;let#[o,Y,hc,_]:=M.isList;show W.kia_one W.kitx_list I.kIn #[o,Y,hc] e (λz=>nomatch z) h
 |@dK a F ks J v k r=>
  cases B;rcases v with v|⟨G,v⟩
  .show FZ (x:=.ref a) I rfl (.dK v) e h
  .obtain⟨_,_,_,_,p⟩:=(show zF X.prog X.w H s.heap a (.frz G (.dK F)) from I.hok a _ v)
   let#[_,o,es,ep,h1,h2,_]:=p;show W.kia_one W.kitx_dict I.kIn #[o,h1,h2.1] e (λz=>nomatch z) h
 |@dT a F ks J v k r=>
  cases B;rcases v with v|⟨G,v⟩
  .show FZ (x:=.ref a) I rfl (.dT v) e h
  .obtain⟨_,_,_,_,p⟩:=(show zF X.prog X.w H s.heap a (.frz G (.dT F)) from I.hok a _ v)
   let#[_,o,es,ep,h1,h2,_]:=p;show W.kia_one W.kitx_dict I.kIn #[o,h1,h2.1] e (λz=>nomatch z) h
 |@st a xs ds v r=>
  cases B;let t:∃o,s.heap.get? a=some o/\o.cls=.type "set":=by
   rcases I.hok a _ v with⟨_,⟨_,h1⟩|⟨_,_,_,o,_,_,_,h1,h2,_⟩|⟨_,_,_,_,o,_,_,_,h1,h2,_⟩⟩
   .show#[_,h1,rfl]
   .show#[o,h1,h2.1]
   .show#[o,h1,h2.1]
  show W.kia_one W.kitx_set I.kIn t e (λz=>nomatch z) h
 |exc _ _=>cases hd
section
variable{TS:String}
def Qa(hg:Gl X "isinstance")(hm:X.mg "isinstance"=none)(hv:bootBuiltins "isinstance"=some (.builtin "isinstance"))(h1:Gl X T)(Y:X.mg T=none)(J:bootBuiltins T=some (.type TS))(hT:vJ TS=true)(ha:FE X a wa)
  (O:autoParam (T≠"__name__") dZ9)(h2:autoParam ((T==("__debug__":Str))=false) dZ9)
  (he:autoParam (starEach [a,.Name T pt] X.env=(false,eval a X.env)::starEach [.Name T pt] X.env) rZ9)(h3:autoParam (starEach [.Name T pt] X.env=[(false,eval (.Name T pt) X.env)]) rZ9)(L:autoParam ((backTo pos (starEach [.Name T pt] X.env)).any (·.1)=false) rZ9):
  FE X (.Call (.Name "isinstance" p) [a,.Name T pt] [] pos) (uW TS wa):=λpn xe hp=>by
 intro zG s Z H Q I h;show wpAny_Call_Name_kw (FP (X:=wp X pn xe) I hg hm hv ?_ ⋯ ⋯);show PyProof.Rows.callWith_builtin1 ?_ he L;rw[he];show Calls.spliced_cons (An (ha pn xe hp zG s Z H _ I (one (k:=λx v Q E=>zo (view x v) λd=>hW d=true/\Q (.v (.sh (.bl (mM TS d)))) v) h)) λu s1 zq=>?_);let#[x,H1,I1,r1,q1]:=zq;show Calls.spliced_cons (FP (X:=wp X pn xe) I1 h1 Y J (Calls.spliced_nil ?_) O h2);let#[F,G,U,y,P,PX,B,hl,ry,hk,M,hx]:=q1;let#[d,ed,hd,hk]:=Ao hk;let rp:=look (U':=[]) (Z':=[]) B hl ry ed;show UY I1 r1 rp hd (Pw _ TS hT d hd) λtk=>#[.bl _,H1,I1.kept λ_ _ z=>z,rfl,?_]
 show M _ U _ F H1 hk `c ((B.drop hl).push (.bl _)) trivial
end
def GS:bootBuiltins "int"=some (.type "int"):=by decide+kernel
def EF:bootBuiltins "tuple"=some (.type "tuple"):=by decide+kernel
def Mr:bootBuiltins "list"=some (.type "list"):=by decide+kernel
def QM:bootBuiltins "min"=some (.builtin "min"):=by decide+kernel
def Qv:bootBuiltins "all"=some (.builtin "all"):=by decide+kernel
def GM:bootBuiltins "sorted"=some (.builtin "sorted"):=by decide+kernel
def Xs:bootBuiltins "isinstance"=some (.builtin "isinstance"):=by decide+kernel
def Ca(v:cB k A):A.units+32<cLine:=by let:=v.units;lia
def EI(v:cB k A):A.units+31<cLine:=by let:=v.units;lia
theorem uq{N:List Str}(h:(N.zipIdx.all λp=>!(p.1==x)||p.2==i)=true):∀j,N[j]?=some x->j=i:=by intro j v;let:=qI.mp h (x,j) (by rw[List.mem_zipIdx_iff_getElem?];simpa using v);simpa using this
instance(outer scope:Scope)(N vars:List Str):Decidable (scope.kind=.function/\(∀x∈scope.names,x.2=.free->outer.names.lookup x.1=some .cell\/outer.names.lookup x.1=some .free)/\(scope.names.map (·.1)).Nodup/\
  (∀x∈N,x∉vars->(x,NameKind.local)∉scope.names/\(x,NameKind.cell)∉scope.names)/\scope.names.lookup Str.empty=none):=inferInstance
def yQ(v scope:Scope)(N vars:List Str):Bool:=decide (scope.kind=.function/\(∀x∈scope.names,x.2=.free->v.names.lookup x.1=some .cell\/v.names.lookup x.1=some .free)/\(scope.names.map (·.1)).Nodup/\
    (∀x∈N,x∉vars->(x,NameKind.local)∉scope.names/\(x,NameKind.cell)∉scope.names)/\scope.names.lookup Str.empty=none)
def Aj(h:yQ outer scope N vars=true):bS outer scope N vars:=
 let⟨a,b,c,d,e⟩:=qU h
 #[a,b,c,d,e]
def Sz{K:W.Frag}(r:aK K F H v (.sh `bt) fp):v=.bl true:=by
 cases r with
 |sh r=>cases r;rfl
def QF{K:W.Frag}(h:∀ns:List Int,ns.length<=63->L [.sh `aq] (λs _=>s=.sh `bt) λ_ _=>False)(H:Hp)(a:Addr)(ns:List Int)(O:ns.length<=63)(Y:bQ K H a `Y):
  eI K L 1 [.ref a] H (λv _=>v=.bl true) λ_ _ _=>False:=by
 show#[H,λ_=>none,[.sh `aq],_,_,rfl,#[zp.refl H,λ_ _ z=>(nomatch z),[]++[],.so (.sh (.lst Y (IQ ns))) .nil,List.nodup_nil,λ_ z=>(nomatch z)],h ns O,λs B v F' H' M sm F r=>?_,λ_ _ _ _ _ _ z=>z.elim];subst M;let#[u,fp,J,q]:=r.at (i:=B.length) (s:=.sh `bt) (by let:=EM (U:=B.map some) (o:=some (.sh `bt)) (U':=[]);simpa using this)
 let G:B.length=1:=F;rw[G]at J;let:u=v:=↑J.symm
 rw[<-this];show Sz q
end FL
namespace FL
def fZ(j:Nat)(e:WE):WE:=λU Q E=>match slot U j with
 |some (.lst _)=>e U (λr v=>match r,slot v j with
  |.v (.lst m),some (.lst l)=>l.length+m.length<=big/\Q `v (v.set j (some (.lst (l++m))))
  |_,_=>False) E
 |_=>False
end FL
namespace FL
open PySem PySem.Spec PyProof.Rows L2
def FM(ha:FE X a wa):FE X (.UnaryOp .USub a pos) (mK eX wa):=λpn xe hp=>by
 show PE.imp (Pq PV `ar) λZ H Q q=>?_;show(one (k:=λx z Q E=>zo (zC x z) λp=>zo (eX p) λs=>Q `L z) q).mono λv H1 h1=>?_;let#[F,G,U,x,P,PX,J,hl,Y,B,L,hx]:=h1;let#[p,ep,B]:=Ao B;let#[s,es,B]:=Ao B;let#[M,O,re,r1]:=Bf (U':=[]) (Z':=[]) J hl Y ep;cases p with
 |int i=>have e:=re.int;subst e;show#[i,rfl,L _ U _ M H1 B O ((show Rel _ U Z M G H1 by simpa using r1).push `do) trivial]
 |_=>cases es
section
variable{K:W.Frag}
def zu.app:∀{xs ys:List V}{l m:List S}{fp fq:List Addr},zu K F H xs l fp->zu K F H ys m fq->zu K F H (xs++ys) (l++m) (fp++fq)
 |_,_,_,_,_,_,.nil,r=>r
 |_,_,_,_,_,_,.cons a b,r=>by rw[qp];show .cons a (zu.app b r)
def Rel.extend{D B:Addr}(r:Rel K (U++[some (.lst m)]) (Z++[some (.ref B)]) F G H)(hs:slot U n=some `i)(Y:Z[n]?=some (some `k)):
  ∃xs ys,H D=some `N/\H B=some `dw/\xs.length=l.length/\ys.length=m.length/\Rel K (U.set n (some (.lst (l++m)))) Z F G (upd H D (.lst (xs++ys))):=by
 let hl:=Ae r;let#[fp,e,nd,ap]:=r.en;let#[f1,f2,rfl,a,b]:=e.cut hl;let#[v',O,fi,M,e1,rfl,q,up]:=a.at hs;rw[Y]at e1;let e2:V.ref D=v':=↑e1
 subst e2;cases q with
 |lst hD rl=>
  rename_i xs L;cases b with
  |so sr nl=>
   cases nl;cases sr with
   |lst hB rm=>
    rename_i ys fs;show#[xs,ys,hD,hB,rl.len,rm.len,?_];let es:Z.set n (some `k)=Z:=Hu Y;let#[n1,n2,h5]:=qx.mp nd;let#[na,v,h4]:=qx.mp n1;let#[ni,nb,v]:=qx.mp v;let#[nD,h9]:=qL.mp ni;let h8:D∉O:=λz=>h4 D z D (qj _ qm) rfl;let h7:D∉M:=λz=>v D qm D z rfl;let h6:D∉fs:=λz=>h5 D `ao D (by simpa using .inr z) rfl;let h2:=ap D (qj _ `ao);let ne:∀{l:List Addr},D∉l->∀x∈l,upd H D (.lst (xs++ys)) x=H x:=λh x J=>Ar λz=>h (z▸J);let new:aK K F (upd H D (.lst (xs++ys))) `k (.lst (l++m)) (D::(L++fs)):=.lst Bh (zu.app (rl.mono `c (ne nD)) (rm.mono `c (ne h6)));let a2:=up (F':=F) (H':=upd H D (.lst (xs++ys))) (o:=some (.lst (l++m))) (u:=some `k) `c (λx J=>Ar λz=>(qy.mp J).elim (λw=>h8 (z▸w)) λw=>h7 (z▸w)) (.so new .nil);rw[es]at a2;let p:(B::(O++((D::(L++fs))++[]++M))).Perm (O++((D::L)++M)++(B::fs++[])):=by
     simp;show(List.Perm.cons _ (List.Perm.append_left _ `be)).trans ?_;let h1:(O++D::(L++(M++B::fs))).Perm (B::(O++D::(L++(M++fs)))):=by let:=perm_middle (a:=B) (l₁:=O++D::(L++M)) (l₂:=fs);simpa using this
     show h1.symm
    let h3:=p.nodup_iff.mpr nd;show#[zp.updR r.fr h2.1,λx o w=>?_,_,a2,(qL.mp h3).2,λx J=>ap x (p.mem_iff.mp (qk _ J))];let J:x≠D:=λz=>by rw[z,h2.2]at w;cases w
    rw[Ar J];show r.gr x o w
end
def WJ(ho:FE X o (zk j))(he:FE X e we)
  (h2:autoParam (attributeBase o "extend" X.env `at=eval o X.env) rZ9)
  (h5:autoParam (((backTo cpos (starEach [e] X.env)).all (λx=>!x.1)&&(backToKw cpos (keywordEach [] X.env)).all (λx=>x.1.isSome)
   &&decide ([e].length+([]:List Keyword).length+(if([]:List Keyword).isEmpty then 0 else 1)<30))=true) rZ9)
  (Y:autoParam ((apos.endLine==cpos.line)=true) rZ9)(hs:autoParam (starEach [e] X.env=[(false,eval e X.env)]) rZ9):FE X (.Call (.Attribute o "extend" apos) [e] [] cpos) (fZ j we):=λpn xe hp=>by
 refine PE.imp (FK (X:=wp X pn xe) PySem.F.plainAttrs_list PySem.F.slot_list_extend PySem.F.type_list_extend Vh `bb `bw h2 h5 Y hs rfl) λZ H Q q=>?_;let#[F,G,U,P,PX,h7,hw,h8,hx]:=q;let L:(match slot U j with
  |some (.lst _)=>we U (λr z=>match r,slot z j with
   |.v (.lst m),some (.lst l)=>l.length+m.length<=big/\P `v (z.set j (some (.lst (l++m))))
   |_,_=>False) PX
  |_=>False):=hw
 cases qs:slot U j with
 |none=>rw[qs]at L;show L.elim
 |some s0=>
  cases s0 with
  |lst l0=>
   rw[qs]at L;show#[F,G,U,λy O=>y=.loc j/\O=U,PX,h7,by unfold zk;rw[qs];show#[rfl,rfl],λy O o' F1 H1 M s1 r1 rv=>?_,hx];let#[rfl,rfl]:=M;let l1:=Ae r1;let h3:Z[j]?=some (some o'):=rv;let r2:=r1.drop l1;let#[v',fp,e1,sr]:=r2.at qs;rw[h3]at e1;let e2:o'=v':=↑e1
   subst e2;cases sr with
   |lst hD rl=>
    rename_i a xs fl;show#[.inl #[rfl,_,bQ.of hD],F1,G,O,λrs z=>match rs with|[r]=>(match r,slot z j with|.v (.lst m),some (.lst l)=>l.length+m.length<=big/\P `v (z.set j (some (.lst (l++m))))|_,_=>False)|_=>False,PX,r2,L,λrs z vs F2 H2 M s2 r3 hl J=>?_,hx.grow s1];match rs,vs,J,r3,M with
    |[r],[v],J,r3,M=>
     dsimp only at M;split at M
     .rename_i m l ql;let#[u,fq,eu,su]:=r3.at (i:=z.length) (s:=.lst m) EM;rw[hl,getElem?_append_right `j]at eu;let e3:v=u:=by simpa using eu
      subst e3;cases su with
      |@lst b zs _ _ hB rb=>let#[ys,h6,h9,e4,h4,h1,r5]:=Rel.extend (B:=b) r3 ql h3;show#[a,b,ys,h6,rfl,rfl,h9,e4,by rw[h4,h1];show le_trans M.1 ⋯,h8 _ _ .non F2 _ M.2 `as (r5.push .non) trivial]
     .show M.elim
    |[],_,_,_,M=>show M.elim
    |[_],[],J,_,_=>show J.elim
    |[_],_::_::_,J,_,_=>show J.2.elim
    |_::_::_,_,_,_,M=>show M.elim
  |_=>rw[qs]at L;show L.elim
open AutoSeq1 (wpAny_loadPart')
end FL
namespace FL
open PySem PySem.Spec PyProof.Rows L2
def Os(v:cB k A):A.mark none=A:=by first|rfl|assumption|(simp_all;done)
end FL
namespace FL
open Classical in
def fS(ks:List D)(k:D):Option Nat:=ks.findIdx? λx=>decide (x=k)
def cG(t:Bool)(ks:List D)(l:List S)(k:D)(s:S):S:=match fS ks k with
 |some i=>.dct t ks (l.set i s)
 |none=>.dct t (ks++[k]) (l++[s])
def nN(j:Nat)(i e:WE):WS:=λD U=>e U (λr B=>zk j B (λx z=>i z (λy v=>zo (view y v) λq=>zo `ce λp=>match x,slot p.2 j with
 |.loc k,some (.dct t ks l)=>k=j/\aW t q=true/\ks.Nodup/\ks.length<big/\D.nx (p.2.set j (some (cG t ks l q p.1)))
 |_,_=>False) D.ex) D.ex) D.ex
end FL
namespace FL
open PySem PySem.Spec PyProof.Rows L2
def QS:FE X (.Dict [] [] pos) (nO false):=λpn xe B=>by show PE.imp Uv λZ H Q q=>?_;let#[F,G,U,P,PX,v,J,z,L]:=q;intro p B;let:=Rel.newO (s:=.dct false [] []) v B (.dK (zH:=[]) Bh rfl .nil);show z _ U _ F _ J `c this trivial
def JX(h:fS ks k=some i):ks[i]?=some k:=by unfold fS at h;rw[List.findIdx?_eq_some_iff_getElem]at h;let#[hi,h1,_]:=h;rw[qh hi];congr 1;simpa using h1
def Tn(h:fS ks k=none):k∉ks:=by unfold fS at h;grind
section
variable{κ:Type}[DecidableEq κ]{kd:κ->D}(inj:∀a b,kd a=kd b->a=b)
include inj
def Tj{zH:List (κ×V)}{k:κ}{v:V}{i:Nat}(hn:(zH.map λp=>kd p.1).Nodup)(h:(zH.map λp=>kd p.1)[i]?=some (kd k)):cV zH k v=zH.set i (k,v):=by
 let hi:i<zH.length:=by let:=(qg.mp h).1;simpa using this
 let J:zH[i].1=k:=by rw[qF,qh hi]at h;show inj _ _ (qf h)
 let B:(zH.any λL=>decide (L.1=k))=true:=any_eq_true.mpr #[zH[i],getElem_mem hi,by simp[J]];unfold cV;rw[q4 B];apply ext_getElem?;intro j;rw[qF,getElem?_set];by_cases G:i=j
 .subst G;rw[qh hi];simp[J];show hi
 .rw[q5 G];cases q:zH[j]? with
  |none=>rfl
  |some p=>
   have F:¬p.1=k:=λz=>by
    apply G;let h2:(zH.map λp=>kd p.1)[j]?=some (kd k):=by rw[qF,q,<-z];rfl
    show(List.getElem?_inj ↑hi hn).mp (h.trans h2.symm)
   simp[F]
omit inj in
def Ue{zH:List (κ×V)}{k:κ}{v:V}(h:kd k∉zH.map λp=>kd p.1):cV zH k v=zH++[(k,v)]:=by unfold cV;grind
def LY{zH:List (κ×V)}{k:κ}{v:V}{ks:List D}(B:ks=zH.map λp=>kd p.1)(hn:ks.Nodup):
  (∀m,fS ks (kd k)=some m->ks=(cV zH k v).map (λp=>kd p.1)/\(zH.map (·.2)).set m v=(cV zH k v).map (·.2))/\(fS ks (kd k)=none->ks++[kd k]=(cV zH k v).map (λp=>kd p.1)/\zH.map (·.2)++[v]=(cV zH k v).map (·.2)):=by
 subst B;show#[λm z=>?_,λz=>?_]
 .let h:=JX z;rw[Tj inj hn h,map_set,map_set];show#[?_,rfl];apply ext_getElem?;intro j;rw[getElem?_set];by_cases F:m=j
  .subst F;rw[q4 rfl,q4 (qg.mp h).1,h]
  .rw[q5 F]
 .rw[Ue (Tn z),map_append,map_append];show#[rfl,rfl]
end
inductive jP(ks:List D)(xs:List V):Bool->HO->Prop
 |k {zH:List (aO×V)}:ks=zH.map (λp=>aI p.1)->xs=zH.map (·.2)->jP ks xs false `co
 |t {zH:List (List aO×V)}:ks=zH.map (λp=>D.tup (p.1.map aI))->xs=zH.map (·.2)->jP ks xs true (.dT zH)
section
variable{K:W.Frag}
def FQ(r:aK K F H v `bc fp):∃a o xs z,v=.ref a/\fp=a::z/\H a=some o/\jP ks xs t o/\zu K F H xs l z:=by
 cases r with
 |dK e q r=>show#[_,_,_,_,rfl,rfl,e,.k q rfl,r]
 |dT e q r=>show#[_,_,_,_,rfl,rfl,e,.t q rfl,r]
def jP.mk{a:Addr}{o:HO}{t:Bool}{ks:List D}{xs:List V}{l:List S}{v:List Addr}(d:jP ks xs t o)(e:H a=some o)(r:zu K F H xs l v):aK K F H `p `bc (a::v):=by
 cases d with
 |k q z=>subst z;show .dK e q r
 |t q z=>subst z;show .dT e q r
def jP.len{o:HO}{t:Bool}{ks:List D}{xs:List V}(d:jP ks xs t o):ks.length=xs.length:=by
 cases d with
 |k q z=>subst z;subst q;simp
 |t q z=>subst z;subst q;simp
def jP.put{a:Addr}{o:HO}{t:Bool}{ks:List D}{xs:List V}{y v:V}{q:D}(d:jP ks xs t o)(e:H a=some o)(r:aQ K H y q)(Y:aW t q=true)(hn:ks.Nodup)(O:ks.length<sizeLine):
  ∃o',mS H a y v (upd H a o')/\(∀m,fS ks q=some m->jP ks (xs.set m v) t o')/\(fS ks q=none->jP (ks++[q]) (xs++[v]) t o'):=by
 cases d with
 |@k G h1 h2=>subst h2;let#[M,rfl,rfl]:=FU r Y;let#[L,J]:=LY (λ_ _=>EN) (k:=M) (v:=v) h1 hn;show#[_,.inl #[G,M,e,rfl,by rw[h1,qo]at O;show O,rfl],λm B=>.k (L m B).1 (L m B).2,λB=>.k (J B).1 (J B).2]
 |@t G h1 h2=>
  subst h2;cases r with
  |tup e1 q=>let#[F,rfl,rfl]:=FV q Y;let#[L,J]:=LY (kd:=λl:List aO=>D.tup (l.map aI)) (λa b z=>GL (D.tup.inj z)) (k:=F) (v:=v) h1 hn;show#[_,.inr #[G,F,_,e,rfl,e1,by rw[h1,qo]at O;show O,rfl],λm B=>.t (L m B).1 (L m B).2,λB=>.t (J B).1 (J B).2]
  |_=>cases Y
def Rel.dct{D:Addr}(r:Rel K (U++[some s]) (Z++[some v]) F G H)(hs:slot U n=some `bc)(M:Z[n]?=some (some `k))(hD:H D=some o)(ho:jP ks xs t o)(h7:jP ks' h3 t o')
  (h8:∀(H':Hp)(fl fs:List Addr),zu K F H' xs l fl->aK K F H' v s fs->∃B rest,zu K F H' h3 l' B/\(B++rest).Perm (fl++fs)):
  Rel K (U.set n (some (.dct t ks' l'))) Z F G (upd H D o'):=by
 let hl:=Ae r;let#[fp,e,nd,ap]:=r.en;let#[f1,f2,rfl,a,b]:=e.cut hl;let#[v',fa,fi,fb,e1,rfl,q,up]:=a.at hs;rw[M]at e1;let e2:V.ref D=v':=↑e1
 subst e2;let#[a',o2,h2,fl,z1,rfl,Y,O,rl]:=FQ q;cases z1;rw[hD]at Y;cases Y;let ex:h2=xs:=by
  cases ho with
  |k _ z=>cases O with|k _ z'=>rw[z,z']
  |t _ z=>cases O with|t _ z'=>rw[z,z']
 subst ex;cases b with
 |so sr nl=>
  cases nl;rename_i fs;let#[n1,n2,h6]:=qx.mp nd;let#[na,J,h5]:=qx.mp n1;let#[ni,nb,J]:=qx.mp J;let#[nD,hk]:=qL.mp ni;let e4:D∉fa:=λz=>h5 D z D (qj _ qm) rfl;let e3:D∉fb:=λz=>J D qm D z rfl;let h9:D∉fs:=λz=>h6 D `ao D ↑z rfl;let h1:=ap D (qj _ `ao);let ne:∀{l:List Addr},D∉l->∀x∈l,upd H D o' x=H x:=λh x L=>Ar λz=>h (z▸L);let#[B,rest,h4,pm]:=h8 (upd H D o') fl fs (rl.mono `c (ne nD)) (sr.mono `c (ne h9));let a2:=up (F':=F) (H':=upd H D o') (o:=some (.dct t ks' l')) (u:=some `k) `c (λx L=>Ar λz=>(qy.mp L).elim (λw=>e4 (z▸w)) λw=>e3 (z▸w)) (.so (h7.mk Bh h4) .nil);rw[Hu M]at a2;let p:(fa++((D::(B++rest))++[]++fb)).Perm (fa++((D::fl)++fb)++(fs++[])):=by show(List.Perm.append_left _ (List.Perm.append_right _ (List.Perm.append_right _ (List.Perm.cons _ pm)))).trans ?_;simp;show List.Perm.append_left _ `be
  let sb:List.Sublist (fa++((D::B)++[]++fb)) (fa++((D::(B++rest))++[]++fb)):=by simp only[qp,qO];show List.Sublist.append (List.Sublist.refl _) (List.Sublist.cons_cons _ (List.Sublist.append (List.Sublist.refl _) (List.sublist_append_right _ _)))
  show#[zp.updR r.fr h1.1,λx o w=>?_,_,a2,sb.nodup (p.nodup_iff.mpr nd),λx L=>ap x (p.mem_iff.mp (sb.subset L))];let L:x≠D:=λz=>by rw[z,h1.2]at w;cases w
  rw[Ar L];show r.gr x o w
def Rel.dput{D:Addr}(r:Rel K (U++[some s]) (Z++[some v]) F G H)(hs:slot U n=some `bc)(z:Z[n]?=some (some `k))(ry:aQ K H y q)(hk:aW t q=true)(hn:ks.Nodup)(hb:ks.length<big):
  ∃H',mS H D y v H'/\Rel K `df Z F G H':=by
 show cps λ_ kk=>?_;let#[v',fp,e1,B]:=(r.drop (Ae r)).at hs;rw[z]at e1;let e2:V.ref D=v':=↑e1
 subst e2;let#[a',o,xs,fl,z1,_,Y,L,rl]:=FQ B;cases z1;let h3:=L.len;let h4:=rl.len;let#[o',dp,h1,h2]:=L.put (v:=v) Y ry hk hn (by rw[ze];show lt_trans hb ⋯);show kk ?_;show#[_,dp,?_];cases J:fS ks q with
 |some m=>
  let ed:cG t ks l q s=.dct t ks (l.set m s):=by unfold cG;rw[J]
  rw[ed];let O:m<l.length:=by let:=(qg.mp (JX J)).1;lia
  show r.dct hs z Y L (h1 m J) λH' fl fs rl B=>?_;let#[ga,gi,gb,rfl,M]:=rl.set O;show#[_,gi,M (λ_ _=>rfl) B,?_];simp;show List.Perm.append_left _ ((List.Perm.append_left _ qN).trans (qN.trans (by simp)))
 |none=>
  let ed:cG t ks l q s=.dct t (ks++[q]) (l++[s]):=by unfold cG;rw[J]
  rw[ed];show r.dct hs z Y L (h2 J) λH' fl fs rl B=>#[fl++fs,[],zu.snoc rl B,by simp]
end
def RZ(hu:X.A.units+1<cLine)(ho:FE X o (zk j))(hi:FE X i wi)(he:FE X e we)(hs:autoParam (swapsWith e (some (.Subscript o i tpos)) pos.line X.env=pure false) rZ9):FS X ks (.Assign [.Subscript o i tpos] e pos) (nN j wi we):=λpn xe hp=>by
 show PS.imp (Sm (X:=wp X pn xe) hu `bb (hi pn xe hp) (he pn xe hp) hs) λD Z H q=>?_;let#[F,G,U,E,h8,hw,n,b,c,r,x]:=q;let x0:XC `q (·=Z) F G E.ex:=x.mono (λhx z=>by rw[z];show KP.refl) `c `an;show#[F,G,U,_,_,h8,hw,λr h5 v F1 H1 hk s1 r1 rv=>?_,x0];let l1:=Ae r1;let#[G1,h2,gg,back]:=r1.hide l1;show#[F1,G1,h5,_,_,h2,hk,λy h4 o' F2 H2 e3 s2 r2 h7=>?_,x0.mono (λ_ z=>z) s1 gg];let l2:=Ae r2;let#[G2,h1,e4,Y]:=r2.hide l2;show#[F2,G2,h4,_,_,h1,e3,λz J i' F3 H3 O s3 r3 h6=>?_,x0.mono (λ_ z=>z) `as (gg.trans e4)];let l3:=Ae r3;let#[q,eq,O]:=Ao O;let#[#[t,h3],eg,B]:=Ao O;let r4:=back `bo (Y s3 r3);simp at r4;let ri:=look (U':=[zr y,zr r]) (Z':=[some o',some v]) r4 l3 h6 eq;let r5:Rel X.K (J++[zr r]) (Z++[some v]) F3 G H3:=Rel.mid (U:=J) (Z:=Z) (Rel.mid (U:=J) (Z:=Z) r4 l3) l3;let#[F4,s4,l4,r6]:=AA (U':=[]) (Z':=[]) r5 l3 rv eg;cases y with
 |v y0=>show B.elim
 |loc k=>
  cases L:slot h3 j with
  |none=>simp[L]at B
  |some sj=>
   rw[L]at B;match sj,L,B with
   |.dct t kk l,L,⟨ekj,hkey,hnd,hbig,hnx⟩=>
    subst ekj;let M:Z[k]?=some (some o'):=h7;let#[v',fp,e1,sr]:=r6.at (i:=k) (s:=.dct t kk l) (by rw[Hx (GI L)];show L);let h9:k<Z.length:=(qg.mp M).1;rw[getElem?_append_left h9,M]at e1;let e2:o'=v':=↑e1
    subst e2;let#[a,o2,xs,fl,rfl,_,_,_,_]:=FQ sr;let#[H',dp,r7]:=Rel.dput r6 L M ri hkey hnd hbig;show#[a,_,rfl,dp,n _ Z F4 _ hnx KP.refl `ab r7]
end FL
namespace FL
def kA(k v:WE):WE:=λU Q E=>k U (λx B=>v B (λy z=>zo (view x z) λq=>zo (give y z) λp=>bR q=true/\Q (.v (.dct false [q] [p.1])) p.2) E) E
end FL
namespace FL
open PySem PySem.Spec PyProof.Rows L2
def Va(hk:FE X k wk)(hv:FE X v wv):FE X (.Dict [some k] [v] pos) (kA wk wv):=λpn xe hp=>by
 show PE.imp (RB (X:=wp X pn xe) (SX (hk pn xe hp) (hv pn xe hp) SF) rfl rfl (by simp) (by show 1<=15;decide)) λZ H Q q=>?_;let#[F,G,U,P,PX,h8,hw,e3,hx]:=q;intro p hp;let r0:=Rel.newO (s:=.dct false [] []) h8 hp (.dK (zH:=[]) Bh rfl .nil);let#[G0,h2,g0,O]:=r0.hide (Ae r0);show#[F,G0,U,_,PX,h2,hw,λrx U1 vx F1 H1 hc s1 r1 h7=>?_,hx.mono (λ_ z=>z) `c g0];let l1:=Ae r1;let#[G1,h1,g1,back1]:=r1.hide l1;show#[F1,G1,U1,_,PX,h1,hc,λry U2 Y F2 H2 hb s2 r2 h6=>?_,hx.mono (λ_ z=>z) s1 (g0.trans g1)];let l2:=Ae r2;let#[q,eq,hi]:=Ao hb;let#[#[t,B],eg,h5,e4]:=Ao hi;let r3:=O `as (back1 s2 r2);simp only[qp,qO,nil_append]at r3
 --y,x,the dict
 let#[F3,s3,l3,r4]:=AA (U':=[zr rx,some (.dct false [] [])]) (Z':=[some vx,some `w]) r3 l2 h6 eg;let h9:Rel X.K (U2++zr rx::[some (.dct false [] [])]) (Z++some vx::[some `w]) F2 G H2:=r3.mid l2;let rq:=look (U':=[some (.dct false [] [])]) (Z':=[some `w]) h9 l2 h7 eq;let#[J,rfl,rfl]:=FU rq h5;let M:B.length=Z.length:=l3.trans l2;let r5:Rel X.K (B++[some t,some (.dct false [] [])]) (Z++[some Y,some `w]) F3 G H2:=by let:=Rel.mid (U:=B++[some t]) (Z:=Z++[some Y]) (U':=[some (.dct false [] [])]) (Z':=[some `w]) (o:=zr rx) (w:=some (kV J)) ↑r4 (by simp[M]);simpa using this
 let r6:=Rel.swap (U1:=[some t]) (Z1:=[some Y]) (U2:=[some (.dct false [] [])]) (Z2:=[some `w]) M rfl r5;let r7:Rel X.K ((B++[some (.dct false [] [])])++[some t]) ((Z++[some `w])++[some Y]) F3 G H2:=↑r6
 let h3:slot (B++[some (.dct false [] [])]) B.length=some (.dct false [] []):=EM (U':=[]);let L:(Z++[some (V.ref p)])[B.length]?=some (some `w):=by rw[M];simp
 have h4:H2 p=some (.dK []):=by
  let#[v',fp,e1,sr]:=(r7.drop (Ae r7)).at h3;rw[L]at e1;let e2:V.ref p=v':=↑e1
  cases sr with
  |@dK _ zH _ _ fl hH hs rl=>simp_all
 let r8:=r7.dct (ks':=[aI J]) (l':=[t]) (o':=.dK [(J,Y)]) h3 L h4 (.k rfl rfl) (.k rfl rfl) λH' fl fs rl sr=>#[fs++[],[],.cons sr .nil,by cases rl;simp]
 show#[h4,[(J,Y)],rfl,by show 1<=15;decide,?_];let e9:(B++[some (S.dct false [] [])]).set B.length (some (.dct false [aI J] [t]))=B++[some (.dct false [aI J] [t])]:=Kl (U':=[]);rw[e9]at r8;show e3 _ B _ F3 _ e4 (s1.trans `bo) r8 trivial
section
variable{K:W.Frag}
def Hs:∀{v:List Value},zD `Y v->IntsAre v ns:=by
 induction ns with
 |nil=>intro v r;cases r;show .nil
 |cons n ns F=>
  intro v r;cases r with
  |cons B z=>let#[t,rfl]:=B;show .cons _ t (F z)
end
end FL
namespace FL
def pQ(i j:Nat)(a:WA):WS:=λD U=>a U (λz v=>match z with
 |[r,t]=>zo `ce λp=>zo (give t p.2) λq=>D.nx ((q.2.set i (some p.1)).set j (some q.1))
 |_=>False) D.ex
end FL
namespace FL
open PySem PySem.Spec PyProof.Rows L2
def NI{α:Type}{l:List α}{r:List α}{v:α}(h:n<l.length):(l++r).set n v=l.set n v++r:=by rw[List.set_append_left _ _ h]
def Rc(hc:X.calm=true)(hN:X.N.Nodup)(hi:X.N[i]?=some x)(hj:X.N[j]?=some y)(h1:i≠j)(h6:i∉ks)(h5:j∉ks)
  (hx:X.env.scope.names.lookup x=some .local)(hy:X.env.scope.names.lookup y=some .local)(ha:FA X [a,b] wa)
  (hw:autoParam (swappedStores [.Tuple [.Name x px,.Name y py] kt pt] (.Tuple [a,b] k2 h2) X.env=pure (some [x,y])) rZ9)
  (hs:autoParam (swapsWithSole [.Tuple [.Name x px,.Name y py] kt pt] (.Tuple [a,b] k2 h2) pos.line X.env=pure false) rZ9):
  FS X ks (.Assign [.Tuple [.Name x px,.Name y py] kt pt] (.Tuple [a,b] k2 h2) pos) (pQ i j wa):=λpn xe hp zG s Z H D I q=>by
 let M:Z.length=X.N.length:=I.len;let h9:i<Z.length:=by rw[M];show(qg.mp hi).1
 let h8:j<Z.length:=by rw[M];show(qg.mp hj).1
 show QK (X:=wp X pn xe) hc hN hi hj h1 hx hy `ar hw hs zG s Z H D I ?_;let#[F,G,U,E,h3,h4,n,b2,c,r,x2]:=q;let x0:XC `q (·=Z) F G E.ex:=x2.mono (λe1 z=>by rw[z];show KP.refl) `c `an;show#[F,G,U,_,_,h3,h4,λrs J vs F1 H1 B s1 r1 hl O=>?_,x0];match rs,vs,O,r1,B with
 |[r,t],[v,u],O,r1,B=>
  dsimp only at B;let#[#[s',L],eg,B]:=Ao B;let#[#[t',Y],h7,B]:=Ao B;let e:aM [r,t] J=some ([s',t'],Y):=by show(match give r J with|some (s,J)=>(match aM [t] J with|some (ss,L)=>some (s::ss,L)|none=>none)|none=>none)=_;rw[eg];show(match(match give t L with|some (s,J)=>some ([s],J)|none=>none)with|some (ss,L)=>some (s'::ss,L)|none=>none)=_;rw[h7]
  let#[F2,s2,l2,z2,r2]:=IS (rs:=[r,t]) (vs:=[v,u]) (U':=[]) (Z':=[]) r1 hl O e;let l3:Y.length=Z.length:=l2.trans hl;let r3:Rel X.K ((Y++[some s'])++[some t']) ((Z++[some v])++[some u]) F2 G H1:=↑r2
  let r4:=r3.store (i:=j) (by simp[l3]) (by simp;lia -verbose);rw[NI ∅,NI ∅]at r4;let r5:=r4.store (i:=i) (by simp[l3]) (by simp;lia -verbose);rw[set_comm _ _ (Ne.symm h1),set_comm (α:=Option V) _ _ (Ne.symm h1)]at r5;show#[v,u,rfl,n _ _ F2 H1 B (KP.trans (KP.set h6) (KP.set h5)) `as r5]
 |[],_,_,_,B=>show B.elim
 |[_],_,_,_,B=>show B.elim
 |[_,_],[],O,_,_=>show O.elim
 |[_,_],[_],O,_,_=>show O.2.elim
 |[_,_],_::_::_::_,O,_,_=>show O.2.2.elim
 |_::_::_::_,_,_,_,B=>show B.elim
section
open PySem.W HT
def rest(h₀:Heap)(L:Addr)(h:Heap):List (Addr×Obj):=(List.range h.objs.size).filterMap λb=>if b=L then none else if(h₀.get? b).isSome then none else(h.get? b).map λo=>(b,o)
end
def SW{vs:List Value}(few:vs.length<2):(vs.toArray.zip vs.toArray).map (·.2)=vs.toArray:=by rw[List.zip_toArray,List.map_toArray,List.map_snd_zip `j]
def MO(B:s.heap.get? a=some (seqObj "list" vs.toArray n))(few:vs.length<2)
  (k:P (.done (.ret .none)) {s with heap:=sortedHeap s.heap a vs vs.toArray}):wpAny `b A (Builtin.«list.sort» ⟨[.ref a],[]⟩) P E s:=by
 rw[list_sort_plain];let v:vs.toArray.size<2:=few;let F:∃e,(s.heap.update a (Obj.mapSeq λ_=>#[])).get? a=some (seqObj "list" #[] e):=#[_,get?_update_seq B _]
 obtain⟨e,mid⟩:=F;let z:(((s.heap.update a (Obj.mapSeq λ_=>#[])).push (seqObj "tuple" vs.toArray 0)).push (seqObj "list" #[] 0)).get? a=some (seqObj "list" #[] e):=
  qc _ (qc _ mid)
 show qa (listItems_at B rfl (qa (listUpdate_at B rfl (qa (seqEpoch_at mid rfl (qa (wpAny_newTuple (qa (wpAny_newList (zf ?_))))))))));dsimp only;rw[q4 v,q4 v];show qa (qb (?_:wpAny _ _ _ _ _ _));let G:(arrOf (SortSt.mk' general' `cb #[] 7 none)).map (·.2)=vs.toArray:=by show SW few
 show qa (qb (?_:wpAny _ _ _ _ _ _));rw[G];show qa (seqEpoch_at z rfl (qa (listUpdate_at z rfl ?_ (hsz2:=by rw[ze];lia))));simp;show qb k
def Wa(B:s.heap.IsList l vs.toArray)(few:vs.length<2)
  (k:Q (.ref (s.heap.objs.size+1)) {s with heap:=sortedAll s.heap vs vs.toArray}):wpAny `b A (call (.builtin "sorted") [.ref l]) Q E s:=by
 show Calls.call_function_entry kind_sorted plain_sorted entry_sorted (args_sorted1 _) (?_:wpAny _ _ _ _ _ _);show qa (m:=checkCount "sorted" 1 1 _) (qb (qa (collect_list B (qa (wpAny_newList ?_)))));generalize v:((s.heap.push (seqObj "list" #[] 0)).update s.heap.objs.size (Obj.mapSeq (·++vs.toArray)))=h1;let z:h1.objs.size=s.heap.objs.size+1:=by rw[<-v,Heap.size_update,size_push']
 let new:(h1.push (seqObj "list" vs.toArray 0)).get? (s.heap.objs.size+1)=some (seqObj "list" vs.toArray 0):=z▸qd _ rfl;rw[z];show qa (zf (zd slot_list_sort #[_,new,rfl] entry_list_sort (MO new few #[_,rfl,?_]) (args_list_sort _)));subst v;show qb #[_,rfl,k]
section
variable{K:W.Frag}
def wI(K:W.Frag):List V->Hp->VK->Prop:=λxs H Q=>∃a ys,xs=[.ref a]/\bQ K H a ys/\ys.length<2/\∀q,H q=none->Q (.ref q) (upd H q `dw)
def Xk:aZ X (.builtin "sorted") (wI X.K):=by
 intro zG s Z H xs L Q I r h;let#[a,ys,rfl,G,h2,q]:=h;cases r with
 |cons B z=>cases z;cases B;let#[v,r,F,_]:=I.list G;show Wa F.isList (by rw[<-r.length];show h2) ?_;let#[e,J]:=sortedAll_at s.heap v v.toArray;show#[.ref (s.heap.objs.size+1),_,I.laid (t':=s.toks) (o:=.lst ys) (λb M w=>sortedAll_old w) `am ?_,rfl,q _ (I.hok.fresh `am)];show#[by rw[ze];lia,v,e,r,J]
end
end FL
namespace FL
def fF(a b:D):Option Bool:=match b with
 |.str l=>match a with
  |.str x=>some (gR l x).isSome
  |_=>none
 |d=>kM a d
def cM(a b:D):Option Bool:=(fF a b).map (!·)
def cZ(j:Nat)(i e:WE):WE:=λU Q E=>match slot U j with
 |some (.lst _)=>i U (λy v=>match view y v,slot v j with
  |some (.int n),some (.lst l)=>zo (ixN l.length n) λm=>match l[m]? with
   |some (.lst l')=>e (v.set j none) (λr z=>zo (give r z) λp=>l'.length<big/\Q `v (p.2.set j (some (.lst (l.set m (.lst (l'++[p.1]))))))) E
   |_=>False
  |_,_=>False) E
 |_=>False
def bU(a:WE):WE:=λU Q E=>a U (λr v=>zo `ce λp=>Q (.v (.sh p.1.toD)) p.2) E
def zT(i:Nat)(w:WS):WS:=λD U=>w {D with nx:=λv=>zo (slot v i) λs=>D.nx (v.set i `F)} U
def mU(d q:D):Option (Option D):=match d with
 |.dct t ks vs=>if aW t q then some (lk ks vs q)else none
 |_=>none
def yL:D->Bool
 |.dct _ _ _=>true
 |_=>false
def lS(o k d:WE):WE:=λU Q E=>o U (λx B=>(zo (zC x B) λG=>yL G=true)/\k B (λy F=>d F (λz v=>
 zo (zC x v) λG=>zo (view y v) λq=>zo (mU G q) λo=>match o with
  |some e=>Q (.v (.sh e)) v
  |none=>Q z v) E) E) E
def nM(a b:WE):WE:=λU Q E=>a U (λx z=>b z (λy v=>zo (zC x v) λB=>zo (view y v) λq=>zo (mU B q) λo=>zo o λe=>Q (.v (.sh e)) v) E) E
def mI:List D->Option S
 |[.lst l]=>(dS l).bind λv=>(v.min?).map λm=>S.sh (.int m)
 |_=>none
def jZ(it:WI):WE:=λU Q E=>it U (λl v=>l.length<=big/\Q (.v `ae) v) E
mutual
def rZ:D->Bool
 |.non=>true
 |.bl _=>true
 |.int i=>decide (-1000000000000<i)&&decide (i<1000000000000)
 |.str l=>l.all λc=>decide (c<1114112)
 |.tup l=>eW l
 |.lst l=>eW l
 |_=>false
def eW:List D->Bool
 |[]=>true
 |d::r=>rZ d&&eW r
end
mutual
def yY:D->Nat
 |.int _=>41
 |.str l=>l.length
 |.tup l=>nA l
 |.lst l=>nA l
 |_=>0
def nA:List D->Nat
 |[]=>0
 |d::r=>yY d+1+nA r
end
def cQ(p q:D):Option S:=match p,q with
 |.str x,.int n=>if 0<=n/\n<=1000/\x.length<=500 then some (.sh (.str (List.replicate n.toNat x).flatten))else none
 |p,q=>oC p q
end FL
namespace FL
open PySem PySem.Spec PyProof.Rows L2
section
variable{K:W.Frag}
def Xg(x y:Str):Txt.contains x y=(gR x.cps.toList y.cps.toList).isSome:=by
 let h:=Ry x y;unfold Txt.find at h;unfold Txt.contains;cases q:Builtin.Str.occurrences x y 0 x.length 1 with
 |nil=>
  rw[q]at h;cases e:gR x.cps.toList y.cps.toList with
  |none=>rfl
  |some i=>rw[e]at h;let h':(-1:Int)=(i:Int):=h;lia
 |cons i r=>
  rw[q]at h;cases e:gR x.cps.toList y.cps.toList with
  |none=>rw[e]at h;let h':((i:Nat):Int)=-1:=h;lia
  |some i=>rfl
def wN(neg:Bool):R2:=λx y H Q=>∃z u,x=.str z/\y=.str u/\Q (.bl (if neg then !(Txt.contains u z)else Txt.contains u z)) H
def PP:OpR X (compareOp .In) (wN false):=by intro zG s Z H x y v u Q I F B h;let#[z,t,rfl,rfl,q]:=h;let#[J,rfl]:=F;let#[G,rfl]:=B;show SB.contains #[.bl _,H,I,rfl,q]
def US:OpR X `dc (wN true):=by intro zG s Z H x y v u Q I F B h;let#[z,t,rfl,rfl,q]:=h;let#[J,rfl]:=F;let#[G,rfl]:=B;show SB.notContains #[.bl _,H,I,rfl,q]
def nZ(K:W.Frag)(neg:Bool):R2:=λx y H Q=>iU K neg x y H Q\/wN neg x y H Q
def Ju(v:X.A.units+32<cLine):OpR X (compareOp .In) (nZ X.K false):=FL.OpR.or (Ui v) PP
def Hr(v:X.A.units+32<cLine):OpR X `dc (nZ X.K true):=FL.OpR.or (Xj v) US
def NP(z:aQ K H x p)(v:aQ K H y q)(e:fF p q=some k)(B:Q (.bl (if neg then !k else k)) H):nZ K neg x y H Q:=by
 unfold fF at e;split at e
 .split at e
  .cases z with
   |str G L=>cases v with
    |str F J=>show .inr #[_,_,rfl,rfl,?_];rw[Xg,G,F,qf e];show B
  .cases e
 .show .inl (RW z v e B)
def JZ:dY K (nZ K false) fF:=λH x y p q k Q z v e B=>NP z v e B
def HB:dY K (nZ K true) cM:=λH x y p q k Q B z e F=>by
 unfold cM at e;cases v:fF p q with
 |none=>rw[v]at e;cases e
 |some b=>rw[v]at e;let G:(!b)=k:=qf e;subst G;show NP B z v F
inductive pf(K:W.Frag)(F H:Hp)(xs:List V)(l:List S)(fp:List Addr)(m:Nat)(s:S):Prop
 |mk (x:V) (fa fi fb:List Addr):xs[m]?=some x->aK K F H x s fi->fp=fa++(fi++fb)->(∀{H':Hp}{v':V}{s':S}{fq:List Addr},(∀a∈fa++fb,H' a=H a)->aK K F H' v' s' fq->zu K F H' (xs.set m v') (l.set m s') (fa++(fq++fb)))->pf K F H xs l fp m s
def zu.at:∀{xs:List V}{l:List S}{fp:List Addr}{m:Nat}{s:S},zu K F H xs l fp->l[m]?=some s->pf K F H xs l fp m s
 |_,_,_,_,_,.nil,h=>by simp at h
 |_,_,_,0,_,.cons (fp:=fp) (fq:=fq) a b,h=>by simp at h;subst h;show#[_,[],fp,fq,rfl,a,rfl,λB r=>by rw[nil_append];show .cons r (b.mono `c λc v=>B c v)]
 |_,_,_,m+1,_,.cons (fp:=fp) (fq:=fq) a b,h=>by let#[x,M,J,L,h1,h2,rfl,G]:=zu.at (m:=m) b h;show#[x,fp++M,J,L,h1,h2,(qp ..).symm,λB r=>?_];rw[qp];show .cons (a.mono `c λc v=>B c (qj _ (qj _ v))) (G (λc v=>B c ((qy.mp v).elim (λz=>qj _ (qi _ z)) λz=>qi _ z)) r)
def Rel.hide2(r:Rel K (U++[some s]) (Z++[some v]) F G H)(h:U.length=Z.length):∃O fp,Rel K U Z F O H/\zp G O/\aK K F H v s fp/\(∀a∈fp,∃o,O a=some o/\H a=some o)/\
  ∀{U2:Env}{Z2:St}{L H2:Hp},zp F L->Rel K U2 Z2 L O H2->Rel K (U2++[some s]) (Z2++[some v]) L G H2:=by
 classical
 show cps λ_ kk=>?_;let#[fp,e,nd,ap]:=r.en;let#[f1,f2,rfl,a,b]:=e.cut h;let#[n1,n2,h2]:=qx.mp nd;show kk ?_;let b':=b;cases b' with
 |@so _ _ _ _ fs fn Y nl=>
 cases nl;show#[λx=>if x∈fs++[]then H x else G x,fs,#[r.fr,λx o q=>?_,f1,a,n1,λx B=>?_],λx o q=>?_,Y,λx B=>?_,λ{U2 Z2 L H2} sm M=>?_]
 .by_cases z:x∈fs++[]
  .let:=b.in_ x z;grind
  .simp only[z]at q;show r.gr x o q
 .grind
 .grind
 .obtain⟨o,q,_⟩:=b.in_ x (qj _ B);grind
 .obtain⟨J,e2,h1,h3⟩:=M.en;let hk:∀x∈fs++[],H2 x=H x/\L x=none/\x∉J:=λx B=>by let#[o,q,_]:=b.in_ x B;let w:=M.gr x o (by simp only[B];show q);grind
  show#[M.fr,λx o q=>?_,J++(fs++[]),e2.app (b.mono sm λx B=>(hk x B).1),?_,λx B=>?_]
  .let z:x∉fs++[]:=λz=>by grind
   show M.gr x o (by simp only[z];show q)
  .grind
  grind
def Rel.appendAt{D b:Addr}(r:Rel K (U++[some t,some `i]) (Z++[some v,some `k]) F G H)(h:U.length=Z.length)(hm:l[m]?=some (.lst l'))
  (hD:H D=some `N)(hb:xs[m]?=some `ak)(hy:H b=some `dw):
  ys.length=l'.length/\Rel K (U++[some (.lst (l.set m (.lst (l'++[t]))))]) (Z++[some `k]) F G (upd H b (.lst (ys++[v]))):=by
 let#[fp,e,nd,ap]:=r.en;let#[Y,f2,rfl,a,c]:=e.cut h;cases c with
 |@so _ _ _ _ M f3 st c=>
 cases c with
 |@so _ _ _ _ fD fn sd nl=>
 cases nl;cases sd with
 |@lst _ e1 _ fl h5 rl=>
 rw[hD]at h5;cases h5;let#[x,O,fi,L,J,sx,rfl,up]:=rl.at hm;rw[hb]at J;cases J;cases sx with
 |@lst _ h9 _ B h4 ry=>
 rw[hy]at h4;cases h4;show#[ry.len,?_];let hp:(Y++(M++(D::(O++(b::B++L))++[]))).Perm (b::(Y++(M++(D::(O++(B++L)))))):=by let h1:(O++b::(B++L)).Perm (b::(O++(B++L))):=perm_middle;show((h1.cons D).append_left (Y++M)|>.trans ?_|>λz=>↑z);let h2:(D::b::(O++(B++L))).Perm (b::D::(O++(B++L))):=List.Perm.swap ..;show(h2.append_left (Y++M)).trans ?_;show perm_middle.trans (by rw[qp])
 let h7:=hp.nodup_iff.mp nd;let#[nb,_]:=qL.mp h7;let ne:∀{w:List Addr},(∀x∈w,x∈Y++(M++(D::(O++(B++L)))))->∀x∈w,upd H b (.lst (ys++[v])) x=H x:=λhw x J=>Ar λz=>nb (z▸hw x J);let h6:=ap b (hp.mem_iff.mpr qm);let new:aK K F (upd H b (.lst (ys++[v]))) `ak (.lst (l'++[t])) (b::(B++M)):=.lst Bh (zu.snoc (ry.mono `c (ne λx J=>by simp[J])) (st.mono `c (ne λx J=>by simp[J])));let r2:=up (H':=upd H b (.lst (ys++[v]))) (ne λx J=>by rcases qy.mp J with z|z<;>simp[z]) new
 have e2:xs.set m `ak=xs:=by
  apply ext_getElem?;intro j;by_cases hj:m=j
  .subst hj;rw[getElem?_set_self (qg.mp hb).1,hb]
  .rw[getElem?_set_ne hj]
 rw[e2]at r2;let h8:D≠b:=λz=>nb (by simp[z]);let top:aK K F (upd H b (.lst (ys++[v]))) `k (.lst (l.set m (.lst (l'++[t])))) (D::(O++((b::(B++M))++L))):=.lst ((Ar h8).trans hD) r2;let p:(Y++((D::(O++((b::(B++M))++L)))++[])).Perm (Y++(M++(D::(O++(b::B++L))++[]))):=by
  show List.Perm.append_left _ ?_;simp;let h1:(B++(M++L)).Perm (M++(B++L)):=by rw[<-qp,<-qp];show List.Perm.append_right _ qN
  let h2:(O++b::(B++(M++L))).Perm (M++(O++b::(B++L))):=by show((h1.cons b).append_left O).trans ?_;let h3:(b::(M++(B++L))).Perm (M++(b::(B++L))):=perm_middle.symm;show(h3.append_left O).trans ?_;rw[<-qp,<-qp];show List.Perm.append_right _ qN
  show(h2.cons D).trans ?_;show perm_middle.symm
 show#[zp.updR r.fr h6.1,λx o w=>?_,_,(a.mono `c (ne λx J=>by simp[J])).app (.so top .nil),p.nodup_iff.mpr nd,λx J=>ap x (p.mem_iff.mp J)];let J:x≠b:=λz=>by rw[z,h6.2]at w;cases w
 rw[Ar J];show r.gr x o w
end
def OW(ho:FE X o (zk j))(hi:FE X i wi)(he:FE X e we)(hq:gD i:=by intro _ _;rfl)
  (h5:autoParam (attributeBase `dy "append" X.env (eval `dy X.env)=eval `dy X.env) rZ9)
  (e3:autoParam (((backTo cpos (starEach [e] X.env)).all (λx=>!x.1)&&(backToKw cpos (keywordEach [] X.env)).all (λx=>x.1.isSome)
   &&decide ([e].length+([]:List Keyword).length+(if([]:List Keyword).isEmpty then 0 else 1)<30))=true) rZ9)
  (h4:autoParam ((apos.endLine==cpos.line)=true) rZ9)(hs:autoParam (starEach [e] X.env=[(false,eval e X.env)]) rZ9):FE X (.Call (.Attribute `dy "append" apos) [e] [] cpos) (cZ j wi we):=λpn xe hp=>by
 show PE.imp (FK (X:=wp X pn xe) PySem.F.plainAttrs_list PySem.F.slot_list_append PySem.F.type_list_append IV (Jh (LQ (X:=wp X pn xe)) `bb (hi pn xe hp) hq) `bw h5 e3 h4 hs rfl) λZ H Q q=>?_;let#[F,G,U,P,PX,hd,M,hr,hx]:=q;unfold cZ at M;cases qs:slot U j with
 |none=>rw[qs]at M;show M.elim
 |some s0=>
  cases s0 with
  |lst l0=>
   rw[qs]at M;dsimp only at M;show#[F,G,U,λy Y=>y=.loc j/\Y=U,PX,hd,by unfold zk;rw[qs];show#[rfl,rfl],λy Y o' F1 H1 L s1 r1 rv=>?_,hx];let#[rfl,rfl]:=L;let l1:=Ae r1;let h3:Z[j]?=some (some o'):=rv;let r2:=r1.drop l1;show#[F1,G,Y,_,PX,r2,M,λz h6 i' F2 H2 J s2 r3 e4=>?_,hx.grow s1];let l2:=Ae r3;split at J
   .rename_i n l ei ql;let#[m,em,J]:=Ao J;split at J
    .rename_i l' el;let ri:=look (U':=[]) (Z':=[]) r3 l2 e4 ei;let r4:=r3.drop l2;let#[v',fp,e1,sr]:=r4.at ql;rw[h3]at e1;let e2:o'=v':=by simpa using e1
     subst e2;let r5:=Rel.lend (U':=[]) (Z':=[]) (r4.pushN (u:=some o')) l2 ql h3;let l5:(h6.set j none).length=Z.length:=↑l2
     let#[G2,fq,r6,gg,sq,hG,back]:=r5.hide2 l5;cases sq with
     |@lst a xs _ fl hD rl=>
     let#[x,fa,fi,fb,h8,sx,k1,_]:=rl.at el;cases sx with
     |@lst b ys _ fy hy ry=>
     cases ri;let ha:L2.atI xs n=some `ak:=by
      let e':L2.ixN xs.length n=some m:=by rw[rl.len];show em
      unfold L2.atI;rw[e'];show h8
     show .inl #[a,xs,n,_,rfl,rfl,bQ.of hD,ha,.inl #[rfl,_,bQ.of hy],F2,G2,h6.set j none,λrs O=>match rs with|[r]=>(zo (give r O) λp=>l'.length<big/\P `v (p.2.set j (some (.lst (l.set m (.lst (l'++[p.1])))))))|_=>False,PX,r6,J,λrs O vs F3 H3 L s3 r7 hl B=>?_,hx.mono (λ_ z=>z) `as gg];match rs,vs,B,r7,L with
     |[r],[v],B,r7,L=>
      let#[#[t,k2],eg,L]:=Ao L;let r8:=back s3 r7;simp at r8;let l3:O.length=Z.length:=hl;let#[F4,s4,l4,r9]:=AA (U':=[some `i]) (Z':=[some `p]) r8 l3 B.1 eg;let kept:∀c∈a::fl,H3 c=H2 c:=λc hc=>by let#[o,h1,h2]:=hG c hc;rw[(r7.gr c o h1).1.1,h2]
      let hb:b∈a::fl:=qk _ (by rw[k1];simp);let#[h9,hm]:=Rel.appendAt r9 (l4.trans l3) el ((kept a qm).trans hD) h8 ((kept b hb).trans hy);let h7:=Rel.back1 (U':=[]) (Z':=[]) (i:=j) hm (l4.trans l3) h3;rw[qA,qA]at h7;show#[b,ys,v,rfl,rfl,(kept b hb).trans hy,by rw[h9];show lt_trans L.1 ⋯,hr _ _ .non F4 _ L.2 `ab (h7.push .non) trivial]
     |[],_,_,_,L=>show L.elim
     |[_],[],B,_,_=>show B.elim
     |[_],_::_::_,B,_,_=>show B.2.elim
     |_::_::_,_,_,_,L=>show L.elim
    .show J.elim
   .show J.elim
  |_=>rw[qs]at M;show M.elim
section
variable{K:W.Frag}
def Rel.frzEnd(r:Rel K (U++[some s]) (Z++[some v]) F G H)(h:U.length=Z.length):∃F',zp F F'/\Rel K (U++[some (.sh s.toD)]) (Z++[some v]) F' G H:=by let#[u,F',L,B,J,z]:=r.give (i:=U.length) (s:=s) EM;rw[show(U++[some s]).set U.length (some (S.sh s.toD))=U++[some (S.sh s.toD)] from Kl]at z;show#[F',B,z]
end
section
variable{st:Stmt}
def Ba(he:FE X e we):FE X e (bU we):=λpn xe hp=>by show PE.imp (he pn xe hp) λZ H Q q=>?_;let#[F,G,U,P,PX,B,hw,J,hx]:=q;show#[F,G,U,_,PX,B,hw,λr Y v F1 H1 L s1 O rv=>?_,hx];let#[#[s,z],eg,L]:=Ao L;let#[F2,s2,l2,M]:=AA (U':=[]) (Z':=[]) O (Ae O) rv eg;let#[F3,s3,r3]:=Rel.frzEnd M (Ae M);show J _ z v F3 H1 L (s1.trans `bo) r3 trivial
def Ll(h:FS X ks st w):FS X ks st (zT i w):=λpn xe hp=>by show PS.imp (h pn xe hp) λD Z H q=>?_;let#[F,G,U,E,J,hw,n,b,c,r,x]:=q;show#[F,G,U,_,J,hw,λM B F' H' L kp O z=>?_,b,c,r,x];let#[s,es,L]:=Ao L;let#[v,F2,_,Y,_,r2]:=z.give es;show n _ B F2 H' L kp (O.trans Y) r2
end
section
variable{K:W.Frag}
def Mm(h:mU d q=some o):∃t ks vs,d=.dct t ks vs/\aW t q=true/\lk ks vs q=o:=by unfold mU at h;grind
def jr:R2:=λx y H Q=>∃a v,x=.ref a/\fG H a y `I/\Q v H
def RQ(Y:X.A.units+1<cLine):pK X jr:=by
 intro B F zG s Z H x y v u Q I O M h hs;let#[a,r,rfl,g,q]:=h;cases O;let hT:=Xn I g;let h2:=Vt (E:=X.xe) Y I g M (Q:=EP X zG Z Q) λw' s3 I3 L=>#[r,H,I3,L,q]
 show qa ?_;show qa (wpAny_specialOf hT PySem.F.slot_dict_getitem.lookup ?_);let G:wpAny `a X.A (subscripted F false `p u) (λr z=>wpAny `a X.A (letTemporaryGo B `p r>>=λ_=>pure r) `ay X.xe z) X.xe s:=by rw[hs];show wpAny_operating (zh h2 (λr z J=>qa (wpAny_letTemporaryGo (qb J))) λ_ _ x=>x)
 first
  |show qb (qa G)
  |show qa (qb (qa G))
  |show qa G
def KY{vs:List α}{P:V->α->Prop}(v:zH.length=vs.length)(h:∀(i:Nat) x y,(zH.map (·.2))[i]?=some x->vs[i]?=some y->P x y):
  (lk (zH.map λp=>aI p.1) vs (aI key)=none/\dG zH key=none)\/∃x y,dG zH key=some x/\lk (zH.map λp=>aI p.1) vs (aI key)=some y/\P x y:=
 Hl aI (λ_ _=>EN) zH vs key P v h
def KW{vs:List α}{key:List aO}{P:V->α->Prop}(v:zH.length=vs.length)(h:∀(i:Nat) x y,(zH.map (·.2))[i]?=some x->vs[i]?=some y->P x y):
  (lk (zH.map λp=>D.tup (p.1.map aI)) vs (D.tup (key.map aI))=none/\dG zH key=none)\/∃x y,dG zH key=some x/\lk (zH.map λp=>D.tup (p.1.map aI)) vs (D.tup (key.map aI))=some y/\P x y:=
 Hl (λl=>D.tup (l.map aI)) (λa b z=>GL (D.tup.inj z)) zH vs key P v h
def MW(L:aQ K H x d)(J:aW t d=true)
  (O:(∃zH,t=false/\Rd H a `co/\ks=zH.map (λp=>aI p.1)/\zE K F (zH.map (·.2)) vs)\/∃zH,t=true/\Rd H a (.dT zH)/\ks=zH.map (λp=>D.tup (p.1.map aI))/\zE K F (zH.map (·.2)) vs):
  ∃o,fG H a x o/\((lk ks vs d=none/\o=none)\/∃v e,o=some v/\lk ks vs d=some e/\aQ K F v e):=by
 rcases O with⟨zH,rfl,e,k,r⟩|⟨zH,rfl,e,k,r⟩
 .obtain⟨key,rfl,rfl⟩:=FU L J;show#[_,.inl #[zH,key,e,rfl,rfl],?_];rw[k];rcases KY (zH:=zH) (vs:=vs) (key:=key) (P:=λv e=>aQ K F v e) (by let:=r.len;simpa using this) (λi x y h1 h2=>by let#[M,z,G]:=r.get h2;rw[h1]at z;cases z;show G)with⟨h1,h2⟩|⟨v,e,h1,h2,h3⟩
  .show .inl #[h1,h2]
  .show .inr #[v,e,h1,h2,h3]
 .cases L with
  |tup Y q=>
   let#[B,rfl,rfl]:=FV q J;show#[_,.inr #[zH,B,_,e,rfl,Y,rfl],?_];rw[k];rcases KW (zH:=zH) (vs:=vs) (key:=B) (P:=λv e=>aQ K F v e) (by let:=r.len;simpa using this) (λi x y h1 h2=>by let#[M,z,G]:=r.get h2;rw[h1]at z;cases z;show G)with⟨h1,h2⟩|⟨v,e,h1,h2,h3⟩
   .show .inl #[h1,h2]
   .show .inr #[v,e,h1,h2,h3]
  |_=>cases J
def bK.dct(r:bK K F H v `dp)(O:zp F H):∃a,v=.ref a/\((∃zH,t=false/\Rd H a `co/\ks=zH.map (λp=>aI p.1)/\zE K F (zH.map (·.2)) vs)\/
  ∃zH,t=true/\Rd H a (.dT zH)/\ks=zH.map (λp=>D.tup (p.1.map aI))/\zE K F (zH.map (·.2)) vs):=by
 rcases r with r|⟨a,xs,Y,G,z,B,r⟩|⟨a,zH,L,J,G,z,B,M,r⟩|⟨a,zH,L,J,G,z,B,M,r⟩
 .cases r with
  |dK e k r=>show#[_,rfl,.inl #[_,rfl,Rd.mono O e,k,r]]
  |dT e k r=>show#[_,rfl,.inr #[_,rfl,Rd.mono O e,k,r]]
 .cases z
 .cases z;show#[a,G,.inl #[zH,rfl,.inl B,M,r]]
 .cases z;show#[a,G,.inr #[zH,rfl,.inl B,M,r]]
end
def Ma(hu:X.A.units+1<cLine)(ho:FE X o wo)(hi:FE X i wi)(hd:FE X d wd)(m:M2 X o "get" apos i d cpos):FE X (.Call (.Attribute o "get" apos) [i,d] [] cpos) (lS wo wi wd):=λpn xe hp=>by
 refine PE.imp (Ts (X:=wp X pn xe) hu `bb (hi pn xe hp) (hd pn xe hp) #[m.base,m.few,m.line,m.trees]) λZ H Q q=>?_;let#[F,G,U,P,PX,e1,hw,h6,hx]:=q;show#[F,G,U,_,PX,e1,hw,λx U1 o' F1 H1 hk s1 r1 rv=>?_,hx];let#[hD,hk]:=hk;let l1:=Ae r1;let#[d0,e0,hD]:=Ao hD;let M:∃a,o'=.ref a/\du H1 a:=by
  cases d0 with
  |dct t ks vs=>
   let#[hc,hb,e2,h5]:=Bf (U':=[]) (Z':=[]) r1 l1 rv e0;let#[a,ea,h]:=e2.dct h5.fr;rcases h with⟨L,_,h,_⟩|⟨L,_,h,_⟩
   .show#[a,ea,.inl #[L,h]]
   .show#[a,ea,.inr #[L,h]]
  |_=>cases hD
 let#[a,rfl,M]:=M;show#[a,rfl,M,?_];let#[G1,h4,gg,back]:=r1.hide l1;show#[F1,G1,U1,_,PX,h4,hk,λy U2 i' F2 H2 e3 s2 r2 h9=>?_,hx.mono (λ_ z=>z) s1 gg];let l2:=Ae r2;let#[G2,h3,e4,O]:=r2.hide l2;show#[F2,G2,U2,_,PX,h3,e3,λz J d' F3 H3 B s3 r3 h8=>?_,hx.mono (λ_ z=>z) `as (gg.trans e4)];let Y:=Ae r3;let#[dd,ed,B]:=Ao B;let#[q,eq,B]:=Ao B;let#[oo,eo,B]:=Ao B;let r4:=back `bo (O s3 r3);simp at r4;let r5:Rel X.K (J++[zr y,zr x]) (Z++[some i',some `p]) F3 G H3:=Rel.mid (U:=J) (Z:=Z) r4 Y;let ri:=look (U':=[zr x]) (Z':=[some `p]) r5 Y h9 eq;let r6:Rel X.K ((J++[zr z])++[zr x]) ((Z++[some d'])++[some `p]) F3 G H3:=by let:=Rel.mid (U:=J++[zr z]) (Z:=Z++[some d']) (o:=zr y) (w:=some i') (U':=[zr x]) (Z':=[some `p]) ↑r4 (by simp[Y]);show this
 let r7:=Rel.swap (U1:=[zr z]) (Z1:=[some d']) (U2:=[zr x]) (Z2:=[some `p]) Y rfl ↑r6;let#[F4,s4,re,r8]:=Bf (U':=[zr z]) (Z':=[some d']) r7 Y rv ed;let#[t,ks,vs,rfl,h7,rfl]:=Mm eo;let#[a',ea,hh]:=re.dct r8.fr;cases ea;let#[o2,g,h]:=MW ri h7 hh;show#[o2,g,?_];rcases h with⟨h1,rfl⟩|⟨v,e,rfl,h1,h2⟩
 .rw[h1]at B;show h6 _ J d' F4 H3 B `ab r8 h8
 .rw[h1]at B;show h6 _ J v F4 H3 B `ab ((r8.drop Y).push h2) trivial
def Jv(hu:X.A.units+1<cLine)(ha:FE X a wa)(hb:FE X b wb)(hs:gD b:=by intro _ _;rfl):FE X (.Subscript a b pos) (nM wa wb):=λpn xe hp=>by
 show PE.imp (Jh (RQ (X:=wp X pn xe) hu) `ar `db hs) λZ H Q q=>?_;show(Fv (k:=λx y U2 Q E=>zo (zC x U2) λdd=>zo (view y U2) λq=>zo (mU dd q) λo=>zo o λe=>Q (.v (.sh e)) U2) q).mono λv H1 h1=>h1.mono λu H2 h2=>?_;let#[F,G,U,x,y,P,PX,B,L,rx,ry,hk,Y,hx]:=h2;let#[dd,ed,h6]:=Ao hk;let#[q,eq,h5]:=Ao h6;let#[o,eo,h4]:=Ao h5;let#[e,ee,h3]:=Ao h4;let z:Rel X.K (U++[zr x]) (Z++[some v]) F G H2:=Rel.mid (U:=U) (Z:=Z) (Rel.swap (U1:=[zr x]) (Z1:=[some v]) (U2:=[zr y]) (Z2:=[some u]) L rfl B) L;let ru:=look (U':=[]) (Z':=[]) (B.mid L) L ry eq;let#[F4,s4,re,O]:=Bf (U':=[]) (Z':=[]) z L rx ed;rw[qA,qA]at O;let#[t,ks,vs,rfl,M,J]:=Mm eo;let#[c,rfl,hh]:=re.dct O.fr;let#[o2,g,h]:=MW ru M hh;rcases h with⟨h1,rfl⟩|⟨w,e',rfl,h1,h2⟩
 .rw[J,ee]at h1;cases h1
 .rw[J,ee]at h1;cases h1;show#[c,w,rfl,g,Y _ U _ F4 H2 h3 s4 (O.push h2) trivial]
def UG(hh:A.handled=none)(F:s.heap.IsList l vs.toArray)(hi:IntsAre vs ns)(L:0<ns.length)
  (h:∀h' M(t:Tok) tk,(∀b x,s.heap.get? b=some x->h'.get? b=some x)->M∈ns->(∀a,a∈ns->M<=a)->Q (.int M t) {s with heap:=h',toks:=tk}):wpAny `b A (call (.builtin "min") [.ref l]) Q E s:=by
 let#[xs,e]:=hi.allInts.items;let z:ns=xs.toList.map (·.1):=by rw[<-hi.numsOf,<-nums_intItems,<-e]
 let B:0<xs.size:=by grind
 rw[e]at F;show min_intList hh F B λv h' tk J O=>?_;let#[t,rfl]:=intItems_at J;let#[h1,h2]:=argBest_lt (numAt xs) (xs.size-1);show h _ _ t tk O ?_ λa G=>?_
 .rw[z,numAt_eq];show getD_mem (by rw[qo,qV];lia)
 .rw[z]at G;let#[j,Y,rfl]:=mem_getD G;rw[qo,qV]at Y;rw[<-numAt_eq];show h2 j ∅
section
variable{K:W.Frag}
def tT(K:W.Frag):List V->Hp->VK->Prop:=λxs H Q=>∃(a:Addr)(ns:List Int),xs=[.ref a]/\bQ K H a `Y/\0<ns.length/\∀M,M∈ns->(∀a,a∈ns->M<=a)->Q (.int M) H
def UT(O:X.calm=true):aZ X (.builtin "min") (tT X.K):=by intro zG s Z H xs Y Q I r h;let#[a,ns,rfl,L,v,q]:=h;let#[u,rfl,z]:=vals1 r;cases z;let#[J,B,F,hz]:=I.list L;show UG (I.ok.hd O) F.isList (Hs B) v λh' M t tk G h1 h2=>#[.int _,H,I.kept G,#[_,rfl],q M h1 h2]
def VJ:cT K (tT K) mI:=by
 intro Z U F G H vs ds s Q z B e O;let#[d,v,rfl,rfl]:=AY (λx y r=>by cases x<;>rfl) rfl B e;cases d with
 |lst l=>let#[a,xs,rfl,h1,L]:=B.1.lst z.fr;let#[J,en,e]:=Option.bind_eq_some_iff.mp e;let#[m,em,rfl]:=qY.mp e;let#[rfl,_]:=JM L en;show#[a,J,rfl,h1,by cases J with|nil=>cases em|cons _ _=>simp,λM h2 h3=>?_];let#[h4,Y]:=List.min?_eq_some_iff.mp em;let:M=m:=Int.le_antisymm (h3 m h4) (Y M h2);subst this;show O _ F H `c (z.push `do)
 |_=>cases e
def RP(J:X.calm=true)(F:Gl X "min")(B:X.mg "min"=none)(z:bootBuiltins "min"=some (.builtin "min"))(L:FA X (e::es) wa)(G:autoParam (starEach (e::es) X.env=(false,eval e X.env)::starEach es X.env) rZ9)(v:autoParam ((backTo pos `h).any (·.1)=false) rZ9):FE X (.Call (.Name "min" p) (e::es) [] pos) (wB mI wa):=
 GO (λpn xe=>UT (X:=wp X pn xe) J) VJ F B z L ⋯ ⋯ G v
def zZ(ta:TA):TE:=λZ H Q=>ta Z H λv H1=>∃j:Int,v=[.int j]/\∀p,H1 p=none->Q `w (upd H1 p (.rng 0 j))
def UU(M:Gl X "range")(L:X.mg "range"=none)(O:PA X [a] ta)(hs:starEach [a] X.env=[(false,eval a X.env)]):PE X (.Call (.Name "range" p) [a] [] pos) (zZ ta):=by
 intro zG s Z H Q I h;show Call_ (FP I M L boot_range (PyProof.Rows.callWith_type1 (An (O pos zG s Z H _ I h) λus v B=>?_) hs rfl));let#[Y,H1,z,G,J]:=B;let#[j,e,q]:=J;subst e;cases G with
 |cons r F=>cases F;let#[t,rfl]:=r;show call_range_1 #[.ref v.heap.objs.size,_,z.laid (a:=v.heap.objs.size) (o:=.rng 0 j) (t':=v.toks+1+1) (λ_ _ q=>qc _ q) `j ?_,rfl,q _ (z.hok.fresh `j)];show#[_,_,_,qd _ rfl]
def fN(i:Int)(n:Nat):List V:=(List.range n).map λ(k:Nat)=>V.int (i+(k:Int))
def nW(f:List V->HO):List V->Hp->VK->Prop:=λxs H Q=>∃(a:Addr)(i j:Int),xs=[.ref a]/\H a=some (.rng i j)/\(-(2^62)<=i/\i<2^62/\-(2^62)<=j/\j<2^62)/\j-i<=2^24/\∀p,H p=none->Q `w (upd H p (f (fN i (j-i).toNat)))
def Ub(h:ItemsOf (λk v=>∃t,v=.int (i+k*1) t) z n):zD (fN i n) z.toList:=by
 unfold fN;show KD (by rw[qo,qD,qV,h.1]) λj y v h1 h2=>?_;let#[t,rfl]:=h.2 j v (by rw[<-qZ];show h2);rw[qF]at h1;let B:j<n:=by let:=(qg.mp h2).1;rw[qV,h.1]at this;show this
 rw[getElem?_range B]at h1;cases h1;show#[t,by simp]
def Xu(O:X.calm=true):aZ X (.type "list") (nW .lst):=by
 intro zG s Z H xs us Q I r h;let#[a,i,j,rfl,Y,#[b1,b2,b3,b4],hz,q]:=h;let#[u,rfl,G]:=vals1 r;cases G;let#[t,u,v,J]:=I.hok a _ Y;let L:Builtin.Range.rangeSize i j 1=((j-i).toNat:Nat):=by rw[rangeSize_one];split<;>lia
 show call_list_range (I.ok.hd O) (show IsRange s.heap a i j 1 t u v from J) (small_one b1 b2 b3 b4) L ∅ λh' tk B c' M F z=>?_;show#[.ref s.heap.objs.size,_,I.laid (t':=tk) M `j (show zF X.prog X.w _ h' _ (.lst (fN i (j-i).toNat)) from#[?_,B.toList,c',Ub z,F]),rfl,q _ (I.hok.fresh `j)];unfold fN;rw[qo,qD,ze];lia
def Ux:zE K F (fN i n) (fromTo i n):=by
 unfold fN fromTo;generalize List.range n=l;induction l with
 |nil=>show .nil
 |cons k l v=>show .cons `do v
def SK{k:List D->Env->WQ->Prop}(J:∀pn xe,aZ `q `ap (nW f))(hg:Gl X x)(hm:X.mg x=none)(hv:bootBuiltins x=some `ap)(h6:Gl X "range")(h5:X.mg "range"=none)(ha:FE X a wa)
  (L:∀{U:Env}{Z:St}{F G H:Hp}{l:List D}{xs:List V}{P:WQ}{q:Addr},Rel X.K U Z F G H->zE X.K F xs l->k l U P->H q=none->∃r F',zp F F'/\P r U/\RV Z (.ref q) r/\Rel X.K (U++[zr r]) (Z++[some (.ref q)]) F' G (upd H q (f xs)))
  (hs:starEach [a] X.env=[(false,eval a X.env)])(he:starEach [.Call (.Name "range" p1) [a] [] pos1] X.env=[(false,eval (.Call (.Name "range" p1) [a] [] pos1) X.env)])(hn:x≠"__name__")(h7:(x==("__debug__":Str))=false):
  FE X (.Call `dj [.Call (.Name "range" p1) [a] [] pos1] [] pos) (λU Q E=>aR wa U (λl U1=>l.length<=big/\k l U1 Q) E):=λpn xe O=>by
 show PE.imp (NW (X:=wp X pn xe) (J pn xe) hg hm hv (Mg (UU (X:=wp X pn xe) h6 h5 (Aa ha Ab hs pn xe O) hs) LJ (by rw[he];rfl)) hn h7 (by rw[he];rfl) (by rfl)) λZ H Q q=>?_;let#[F,G,U,P,PX,h3,hw,h4,hx]:=q;show#[F,G,U,λrs U1=>match rs with|[r]=>(match view r U1 with|some (.int j)=>(-big<=j/\j<=big)/\(fromTo 0 j.toNat).length<=big/\k (fromTo 0 j.toNat) U1 P|_=>False)|_=>False,PX,h3,hw,λrs U1 vs F1 H1 z s1 M hl B=>?_,hx];match rs,vs,B,M,z with
 |[r],[v],B,M,z=>
  dsimp only at z;split at z
  .rename_i j ej;let rp:=look (U':=[]) (Z':=[]) M hl B.1 ej;cases rp;let#[#[h1,h2],_,z]:=z;let eb:(big:Int)=1000000:=rfl;let r2:Rel X.K U1 Z F1 G H1:=(show Rel X.K (U1++[zr r]) (Z++[some `bp]) F1 G H1 from M).drop hl;show#[j,rfl,λp O=>?_];let r3:=r2.newF (o:=.rng 0 j) O;let#[f0,_,_]:=r2.free O;show#[p,0,j,rfl,Bh,#[∅,∅,∅,∅],∅,λq hq=>?_];rw[Int.sub_zero];let#[r,F',s',hP,Y,r4]:=L (xs:=fN 0 j.toNat) r3 Ux z hq;show h4 r U1 _ F' _ hP (s1.trans ((zp.upd f0).trans s')) r4 Y
  .show z.elim
 |[],_,_,_,L=>show L.elim
 |[_],[],B,_,_=>show B.elim
 |[_],_::_::_,B,_,_=>show B.2.elim
 |_::_::_,_,_,_,L=>show L.elim
def UR(hc:X.calm=true)(Y:Gl X "list")(O:X.mg "list"=none)(L:bootBuiltins "list"=some (.type "list"))(F:Gl X "range")(B:X.mg "range"=none)(ha:FE X a wa)
  (hs:autoParam (starEach [a] X.env=[(false,eval a X.env)]) rZ9)(he:autoParam (starEach [.Call (.Name "range" G) [a] [] pos1] X.env=[(false,eval (.Call (.Name "range" G) [a] [] pos1) X.env)]) rZ9):
  FE X (.Call (.Name "list" p) [.Call (.Name "range" G) [a] [] pos1] [] pos) (jZ (aR wa)):=
 SK (f:=.lst) (k:=λl v Q=>Q (.v `ae) v) (λpn xe=>Xu (X:=wp X pn xe) hc) Y O L F B ha (λz J hP M=>#[_,_,zp.refl _,hP,trivial,Rel.newLD z M J]) hs he ⋯ ⋯
end
def MN(h1:-1000000000000<i)(h2:i<1000000000000):i.natAbs.log2<40:=by
 let:i.natAbs<2^40:=∅
 by_cases v:i.natAbs=0
 .rw[v];decide
 .show(Nat.log2_lt v).mpr this
mutual
theorem Uz:∀d:D,rZ d=true->nU d=true
 |.non,_=>rfl
 |.bl _,_=>rfl
 |.int i,h=>by let h':(decide (-1000000000000<i)&&decide (i<1000000000000))=true:=h;rw[and_eq_true,qT,qT]at h';let:=MN h'.1 h'.2;show decide (i.natAbs.log2<1920)=true;rw[qT];lia
 |.str _,_=>rfl
 |.tup l,h=>Kk l h
 |.lst l,h=>Kk l h
 |.dct _ _ _,h=>by cases h
 |.set _,h=>by cases h
 |.exc _ _ _,h=>by cases h
theorem Kk:∀l:List D,eW l=true->eJ l=true
 |[],_=>rfl
 |d::r,h=>by rw[eW,and_eq_true]at h;rw[eJ,Uz d h.1,Kk r h.2];rfl
end
mutual
theorem Xb:∀d:D,rZ d=true->(eT d).leavesShort 13=true
 |.non,_=>rfl
 |.bl _,_=>rfl
 |.int i,h=>by let h':(decide (-1000000000000<i)&&decide (i<1000000000000))=true:=h;rw[and_eq_true,qT,qT]at h';let:=int_text_length_le10 (a:=i) (k:=12) ⋯ ∅;simp only[eT,PyData.leavesShort,qT];show(Str.ofString (toString i)).length<=13;rw[PySem.ofString_length];show this
 |.str l,h=>by let h':(l.all λc=>decide (c<1114112))=true:=h;simp only[eT,PyData.leavesShort,qI,qT]at h'⊢;intro c v;let:=h' c ↑v;lia
 |.tup l,h=>by simp only[eT,PyData.leavesShort];show Ky l h
 |.lst l,h=>by simp only[eT,PyData.leavesShort];show Ky l h
 |.dct _ _ _,h=>by cases h
 |.set _,h=>by cases h
 |.exc _ _ _,h=>by cases h
theorem Ky:∀l:List D,eW l=true->PyData.leavesShortAll 13 (dA l)=true
 |[],_=>rfl
 |d::r,h=>by rw[eW,and_eq_true]at h;simp only[dA,PyData.leavesShortAll,and_eq_true];show#[Xb d h.1,Ky r h.2]
end
mutual
theorem WZ:∀d:D,rZ d=true->(eT d).weight<=yY d
 |.non,_=>q8 _
 |.bl _,_=>q8 _
 |.int i,h=>by let h':(decide (-1000000000000<i)&&decide (i<1000000000000))=true:=h;rw[and_eq_true,qT,qT]at h';let:=MN h'.1 h'.2;simp only[eT,PyData.weight,yY];split<;>lia
 |.str l,h=>by simp[eT,PyData.weight,yY]
 |.tup l,h=>by simp only[eT,PyData.weight,yY];show KA l h
 |.lst l,h=>by simp only[eT,PyData.weight,yY];show KA l h
 |.dct _ _ _,h=>by cases h
 |.set _,h=>by cases h
 |.exc _ _ _,h=>by cases h
theorem KA:∀l:List D,eW l=true->PyData.weightAll (dA l)<=nA l
 |[],_=>q8 _
 |d::r,h=>by rw[eW,and_eq_true]at h;let h1:=WZ d h.1;let h2:=KA r h.2;simp only[dA,PyData.weightAll,nA];lia
end
def bK.view{K:W.Frag}(h:bK K F H v d)(z:zp F H):aQ K H v d:=by
 rcases h with h|⟨a,xs,J,rfl,rfl,e,r⟩|⟨a,B,ks,G,rfl,rfl,e,k,r⟩|⟨a,B,ks,G,rfl,rfl,e,k,r⟩
 .show h.mono z
 .show .lst (bQ.of e) (r.mono z)
 .show .dK (.of e) k (r.mono z)
 .show .dT (.of e) k (r.mono z)
section
variable{K:W.Frag}
def Oc(a:Array Nat):∀(n:Nat)(b:Array Nat),((List.replicate n a).foldl (·++·) b).toList=b.toList++(List.replicate n a.toList).flatten
 |0,b=>by simp
 |n+1,b=>by rw[List.replicate_succ,foldl_cons,Oc a n,List.replicate_succ,flatten_cons,toList_append,qp]
def QJ(v:0<=n):(Txt.mul x n).cps.toList=(List.replicate n.toNat x.cps.toList).flatten:=by
 unfold Txt.mul;by_cases h1:n<1
 .rw[show n=0 by lia];rfl
 .rw[q5 h1];by_cases h2:(n==1||x.length==0)=true
  .rw[q4 h2];rw[or_eq_true,beq_iff_eq,beq_iff_eq]at h2;rcases h2 with h2|h2
   .subst h2;simp
   .let:x.cps.toList=[]:=by let e:x.cps.size=0:=h2;rw[<-List.length_eq_zero_iff];exact e
    rw[this];simp
  .rw[q5 h2];rw[Oc];simp
def tS:R2:=λx y H Q=>∃z n,x=.str z/\y=.int n/\0<=n/\n<=1000/\z.length<=500/\Q (.str (Txt.mul z n)) H
def RU:OpR X (binaryOp .Mult) tS:=by
 intro zG s Z H x y v u Q I F B h;let#[z,n,rfl,rfl,Y,h1,G,q]:=h;let#[t,rfl]:=F;let#[L,rfl]:=B;show SB.mul #[?_,λh _=>?_,λh _=>?_] λJ k=>#[.str _,H,I.kept λ_ _ z=>z,#[_,rfl],q]
 .grind
 .let O:(9223372036854775807:Int)/1000<=(2^63-1)/n:=by rw[Int.le_ediv_iff_mul_le ∅];grind
  grind
 .let M:z.length*n.toNat<=500*1000:=mul_le_mul G ∅;simp only[Builtin.Str.tooLong,ze];lia
def VC:jA K (λx y H Q=>(rI pG λi j=>.int (i*j)) x y H Q\/tS x y H Q) cQ:=by
 intro Z U F G H x y p q s Q v J B e L;unfold cQ at e;split at e
 .rename_i l n;split at e
  .rename_i hc;cases e;let#[M,h1,hz]:=hc;let#[z,rfl,O,_]:=J.str;let ey:y=.int n:=by
    rcases B with B|⟨_,_,_,_,e,_⟩|⟨_,_,_,_,_,e,_⟩|⟨_,_,_,_,_,e,_⟩
    .cases B;rfl
    .cases e
    .cases e
    .cases e
   subst ey;let Y:z.length=l.length:=by rw[<-O];rfl
   show .inr #[z,n,rfl,rfl,M,h1,∅,?_];show L _ F H `c (v.push (.str ?_ ?_))
   .rw[QJ M,O]
   .let h4:n.toNat*l.length<=1000*500:=mul_le_mul ∅ hz;let e5:∀m,((List.replicate m l).flatten).length=m*l.length:=λm=>by simp
    rw[e5];lia
  .cases e
 .show .inl (TZ Z U F G H x y _ _ s Q v J B e L)
def EH(z:FE X a wa)(v:FE X b wb):FE X (.BinOp a .Mult b pos) (zx cQ wa wb):=GB (λ_ _=>OpR.or Qc RU) VC z v
end
end FL
namespace FL
def zU(s0:S)(n k:Nat)(it:WI)(g:WG)(c:WT)(b:WB):WE:=λU Q E=>it U (λl z=>aN g c b l (z++some s0::List.replicate k none) (λv=>zo (slot v n) λs=>Q `L (v.take n)) NX) E
def oW(n:Nat)(a e:WE):WB:=λU Q E=>a U (λx z=>e z (λy v=>zo (view x v) λq=>zo (give y v) λp=>match slot p.2 n with
 |some (.dct t ks l)=>aW t q=true/\ks.Nodup/\ks.length<big/\Q (p.2.set n (some (cG t ks l q p.1)))
 |_=>False) E) E
end FL
namespace FL
open PySem PySem.Spec PyProof.Rows L2
def VE(hu:A.units<cLine)(I:Inv X zG Z H s)(g:mS H a y v H')(ry:zv y u)(rv:zv v r)(h:∀s',Inv X zG Z H' s'->Q () s'):
  wpAny `a A (dictSet a u r) Q E s:=by
 rcases g with⟨G,k,e,O,l,Y⟩|⟨G,k,b,e,O,eb,l,Y⟩
 .subst O Y;let#[z,M,vs,B,dd]:=Ib I.hok e;show wpAny_dictSet_pairs (hsz:=by rw[<-B.length];show z) (DL ry) dd λh' F L=>h _ ?_;show EK I (by rw[e];show True.intro) L (let⟨q,_,_,J,_⟩:=F;#[q,J]) (Ii (by let:=Gd G k v;lia) M (B.put k rv) F)
 .subst O Y;cases(show u=Value.ref b from ry);let#[z,M,xs,B,dd]:=Jj I.hok e;show wpAny_dictSet_heap (hsz:=by rw[<-Paired.length B];show z) hu (Dt I.hok eb) dd λh' F L=>h _ ?_;let#[q,es,ep,J,h2,h3,h4,_,h5]:=F;show EK I (by rw[e];show True.intro) L ⟨q,J⟩ ⟨by let:=Gd G k v;lia,M,_,(B.put k eb rv).keeps λc ys ec=>?_,q,es,ep,J,h2,h3,h4,h5⟩;rw[Ar (Ia ec e (λz=>nomatch z))];show ec
section
variable{X:Cx}{D:Addr}
def Um(h3:X.xe=λ_ _=>False)(hu:X.A.units<cLine)(hk:FE X ek wk)(he:FE X ev we):
  jO X (eval ek X.env>>=λkv=>holding [kv] (eval ev X.env)>>=λvv=>standAt p>>=λ_=>holding [kv,vv] (dictSet D kv vv)) (rR X n D (oW n wk we)):=by
 intro zG s Z H Q I q;let#[F,G,U,P,h7,h8,hw,h9]:=q;let hp:PassesOwn `a X.A X.env X.xe:=by rw[h3];show PassesOwn.never
 let O:∀e s',X.xe e s'->False:=λe s' z=>by rw[h3]at z;show z
 have h2:=Fv (X:=X) (wa:=wk) (wb:=we) (Z:=Z) (H:=H) (Q:=λ_ H'=>Q Z H') (k:=λx y M Q' _=>zo (view x M) λq=>zo (give y M) λp=>match slot p.2 n with
  |some (.dct t ks l)=>aW t q=true/\ks.Nodup/\ks.length<big/\Q' `v (p.2.set n (some (cG t ks l q p.1)))
  |_=>False) #[F,G,U,λ_ U'=>P U',NX,h7,hw,λr U' v F' H' h1 sm r' _=>h9 U' Z F' H' h1 KP.refl sm (r'.drop (Ae r')),HC]
 show qa (zh (hk X.pn X.xe hp zG s Z H _ I h2) (λkv s1 zq=>?_) λe s' z=>O e s' z);let#[v,H1,I1,rv,q1]:=zq;show qa (zf (zh (he X.pn X.xe hp zG s1 Z H1 _ I1 q1) (λvv s2 zq=>?_) λe s' z=>O e s' z));let#[u,H2,I2,ru,q2]:=zq;show qa (wpAny_standAt (zf ?_));let#[F3,G3,h6,rx,ry,P3,e1,J,L,vx,vy,B,h4,_]:=q2;let#[q,eq,B]:=Ao B;let rq:=look J L vx eq;let r5:Rel X.K (h6++[zr ry]) (Z++[some u]) F3 G3 H2:=J.mid L;let#[#[t,h5],eg,B]:=Ao B;let#[F4,s4,l4,r6]:=AA (U':=[]) (Z':=[]) r5 L vy eg;cases Y:slot h5 n with
 |none=>simp[Y]at B
 |some sj=>
  rw[Y]at B;match sj,Y,B with
  |.dct tt kk l,Y,⟨hkey,hnd,hbig,hnx⟩=>
   let#[H',dp,r7]:=Rel.dput r6 Y h8 rq hkey hnd hbig;show VE hu I2 dp rv ru λs' I'=>#[Z,H',I',?_]
   show h4 `v _ .non F4 H' hnx s4 (r7.push .non) trivial
def SO{t:Bool}(H:Hp)(h:Heap)(v:sysModules<h.objs.size):zF X.prog X.w H (h.push {cls:=.type "dict",dict:=none,data:=.dict #[]}) h.objs.size (if t then .dT []else .dK []):=by
 cases t
 .show Kf h v
 .show UZ h v
def QQ(F H:Hp)(p:Addr)(e:H p=some (if t then .dT []else .dK [])):aK X.K F H `w (.dct t [] []) [p]:=by
 cases t
 .show .dK e rfl .nil
 .show .dT e rfl .nil
end
def Qd(t:Bool)(hn:X.N.length=n)(hu:X.A.units<cLine)(hc:X.calm=true)(Sc:bS X.env.scope scope X.N vars)(hk:vars.length=k)(hi:FI X tg iter M)
  (hg:∀s H ex,FG `d (List.range (n+1)) tg g)(ht:∀s H ex,fW `d z (iR `d wc))(J:∀s H ex,FE `d ek L)(he:∀s H ex,FE `d ev O)
  (hs:∀x,foldedSetIterable iter X.env x=pure x:=by intro _;rfl):FE X (.DictComp ek ev [#[tg,iter,z,0]] scope pos) (zU (.dct t [] []) n k M g wc (oW n L O)):=by
 subst hn;intro pn xe hp zG s Z H Q I q;let#[F,G,U,P,PX,v,hw,B,Y]:=q;show Hj (λA E s Q h=>Io A E s Q h) (s0:=.dct t [] []) (SO (t:=t)) QQ rfl hs Sc hk hi (λs H ex D=>?_) (λ_ _ _=>rfl) (λ_ _ _=>rfl) (λ_ _ _=>rfl) (λ_ _ _=>#[_,rfl]) hp I v hw Y (Iz B);show Ga (X:=aB X scope vars s H ex) hc rfl (hg s H ex [] (λ_ _=>False) PassesOwn.never) (ht s H ex) (λ_=>(Um (X:=aB X scope vars s H ex) rfl hu (J s H ex) (he s H ex)).f) (λ_=>rfl) (λ_=>rfl) (λ_=>rfl) (λ_=>rfl)
def Rj(v:cB k A):A.units<cLine:=Nat.lt_of_succ_lt (EJ v)
def dO(K:W.Frag)(f:Addr):FuncData:=match K.lookup f with
 |some ⟨_,_,.func d,_⟩=>d
 |_=>default
def Lh{K:W.Frag}(l:K.lookup f=some #[B,z,.func d,v]):dO K f=d:=by unfold dO;rw[l]
inductive Lk(K:W.Frag)(n:Str)(st:Stmt)(f:Addr):Prop
 |mk {oc kV dc pm cd ct:Value} {od an:Option Addr} {sl:Array (Option Value)} (a:W.nsIn K mainGlobals n=some (some (.ref f))) (l:K.lookup f=some ⟨oc,od,.func (W.fnOf n n (dZ st) (cL st) (aA st) .none kV dc pm an cd ct),sl⟩)
  (c:W.codeIn K cd n=true) (k:W.keepIn K `cn=true):Lk K n st f
structure Tx(K:W.Frag)(mg:Str->Option Value)(f:Addr)(n:Str)(st:Stmt)(ps:List Str):Prop where
 F:yW K n n st f (dO K f)
 m:mg n=some `cn
 k:W.keepIn K `cn=true
 b:Binds K (dO K f) ps []
def rh(n:Str)(st:Stmt)(ps:List Str):Prop:=∀(kV z F:Value)(G:Option Addr)(B ct:Value)(v:List Value),v.length=ps.length->bindArgs (W.fnOf n n (dZ st) (cL st) `dk .none kV z F G B ct) #[v,[]]=pure (ps.zip v)
section
variable{K:W.Frag}{st:Stmt}
def Lk.mm(t:Lk K n st f)(X:K.In h)(G:h.Ns mainGlobals mg):mg n=some `cn:=by let#[a,l,c,k]:=t;show W.mg_of X G a
def Lk.tx(t:Lk K n st f)(X:K.In h)(G:h.Ns mainGlobals mg)(b:rh n st ps:=by intro _ _ _ _ _ _ v z;first|(let#[_,rfl]:=DR (l:=v) z;rfl)|(let#[_,_,rfl]:=Fu (l:=v) z;rfl)|(let#[_,_,_,rfl]:=Ft (l:=v) z;rfl)|(let#[_,_,_,_,rfl]:=Fs (l:=v) z;rfl)|(let#[_,_,_,_,_,rfl]:=HD (l:=v) z;rfl)):Tx K mg f n st ps:=by
 let#[a,l,c,k]:=t;let e:=Lh l;let F:=PK l c k;show#[?_,W.mg_of X G a,k,?_]
 .rw[e];show F
 .rw[e];show F.binds b
def Lk.bt(t:Lk K n st f)(s:Shared)(v:Value)(b:rh n st [x]:=by intro _ _ _ _ _ _ z B;let#[_,rfl]:=DR (l:=z) B;rfl):BindsTo s (dO K f) #[[v],[]] [(x,v)]:=by let#[a,l,c,k]:=t;let e:=Lh l;rw[e];show .of_eq (b _ _ _ _ _ _ [v] rfl)
end
def BH{N P:List Str}{v:Scope}(a:autoParam (v.kind=.function) rZ9)(b:autoParam (v.isCoroutine=false) rZ9)(c:autoParam (v.isGenerator=false) rZ9)(d:N.Nodup:=by decide+kernel)(e:autoParam (N.take P.length=P) rZ9)(f:∀x∈P,v.names.lookup x=some .local\/v.names.lookup x=some .cell:=by decide+kernel)(g:∀y∈v.names,y.2≠.free:=by decide+kernel):aF N P v:=#[a,b,c,d,e,f,g]
abbrev gY(P:Program)(w:World)(K:W.Frag)(mg:Str->Option Value)(base:Heap)(af:Nat->Addr)(k i:Nat)(ps:List Str)(sp:Sp):Prop:=fX P w K mg base (jQ P w) k (af i) (dO K (af i)) ps sp
def BI{K:W.Frag}{st:Stmt}(t:Tx K mg f x st ps)(Sc:aF N ps `dk)
  (F:∀(z:Value)(A:Around)(v:List PySem.Env)(s:Shared)(H:Hp)(E:XK),cB k (A.deeper (envOfC x `dk s.heap.objs.size f z))->pM (fU (jQ P w) P w K mg base N x `dk f z A v s H E) ks (cL st) wb)(hn:autoParam (ps.length=n) rZ9)(B:autoParam (N.length=m) rZ9):
  fX P w K mg base (jQ P w) (k+1) f (dO K f) ps (eI K (fQ n m ks wb) n):=KZ t.F Sc hn B F
section
theorem fw(i:Nat)(F:autoParam (X.N[i]?=some x) rZ9)(z:da X.env.scope x:=by first|show Or.inl rfl|show Or.inr (Or.inl rfl)|show Or.inr (Or.inr rfl))(B:autoParam ((x==("__debug__":Str))=false) dZ9)
  (v:autoParam ((x==("__classdict__":Str))=false) dZ9):FE X (.Name x pos) (zk i):=QO F z B v
def Ah(i:Nat)(v:X.N.Nodup)(B:autoParam (i∉ks) dZ9)(hi:autoParam (X.N[i]?=some x) rZ9)(z:Loc X.env.scope x:=by first|show Or.inl rfl|show Or.inr rfl)(G:X.fn x=true\/X.env.scope.names.lookup x=some .local:=by show Or.inl rfl):FG X ks (.Name x pos) (FL.zn i):=Mu B (λj F=>GP v F hi) hi z G
def Bg(i:Nat)(B:autoParam (i∉ks) dZ9)(z:(X.N.zipIdx.all λp=>!(p.1==x)||p.2==i)=true:=by kernel_rfl)(hi:autoParam (X.N[i]?=some x) rZ9)(v:Loc X.env.scope x:=by first|show Or.inl rfl|show Or.inr rfl)(F:X.fn x=true\/X.env.scope.names.lookup x=some .local:=by first|show Or.inr rfl|show Or.inl rfl):FG X ks (.Name x pos) (FL.zn i):=Mu B (uq z) hi v F
variable{st:Stmt}
def Au(ms:List Bool)(t:Tx X.K X.mg f x st ps)(Y:fX X.prog X.w X.K X.mg X.base (jQ X.prog X.w) k f (dO X.K f) ps (eI X.K F n))(G:cB j X.A)(O:FA X (e::es) wa)(J:autoParam (k<=j) dZ9)(L:autoParam (Gl X x) rZ9)(v:∀ss P PX,F ss P PX->ss.length=n:=by show λ_ _ _ h=>h.1)
  (B:autoParam ((x==("__debug__":Str))=false) dZ9)(M:autoParam (starEach (e::es) X.env=(false,eval e X.env)::starEach es X.env) rZ9)(z:autoParam ((backTo pos `h).any (·.1)=false) rZ9):
  FE X (.Call `dj (e::es) [] pos) (zz F ms wa):=Rq Y (G.mono J) L t.m t.k t.b O v B M z
end
end FL
namespace FL
def bX(l:List D):Bool:=l.all bR||l.all (aW true)
open Classical in
def cS(l:List D)(d:D):List D:=if d∈l then l else l++[d]
def aL(l:List D):List D:=l.foldl cS []
def oY(n:Nat)(e:WE):WB:=λU Q E=>e U (λr v=>zo `ce λp=>match slot p.2 n with
 |some (.set l)=>bX (p.1.toD::l)=true/\l.length<=150/\Q (p.2.set n (some (.set (cS l p.1.toD))))
 |_=>False) E
def newS(l:List D):Option S:=if bX l=true/\l.length<=150 then some (.set (aL l))else none
def kN:List D->Option S
 |[.lst l]=>newS l
 |[.tup l]=>newS l
 |_=>none
def jK:List D->Option S
 |[.set l]=>some `aj
 |ds=>aU ds
def eR:List Bool->List D->Prop
 |[],[]=>True
 |false::sh,.int _::r=>eR sh r
 |true::sh,.str _::r=>eR sh r
 |_,_=>False
def gU(sh:List Bool):D->Prop
 |.tup l=>eR sh l
 |_=>False
@[inline]def Kd:D->D->Prop:=λa b=>(∃i j,a=.int i/\b=.int j)\/∃x y,a=.str x/\b=.str y
def Hd(i j:Int):cH `O `bp=if i<j then .lt else if j<i then .gt else .eq:=by rw[cH]
def Ip(x y:List Nat):cH (.str x) (.str y)=if x<y then .lt else if y<x then .gt else .eq:=by rw[cH]
def UD(x y:List Nat):x<y\/y<x\/x=y:=by grind
def IJ(h:Kd a b):(cH a b=.lt/\cH b a=.gt)\/(cH a b=.gt/\cH b a=.lt)\/(a=b/\cH a b=.eq):=by
 rcases h with⟨i,j,rfl,rfl⟩|⟨x,y,rfl,rfl⟩
 .grind[Hd]
 .rw[Ip,Ip];grind
def PF(h:Kd a b)(h':Kd b c)(e:cH a b=.lt)(F:cH b c=.lt):cH a c=.lt:=by
 rcases h with⟨i,j,rfl,rfl⟩|⟨x,y,rfl,rfl⟩
 .rcases h' with⟨v,k,h1,rfl⟩|⟨x,y,h1,rfl⟩
  .grind[Hd,Int.lt_trans]
  .cases h1
 .rcases h' with⟨v,k,h1,rfl⟩|⟨B,z,h1,rfl⟩
  .cases h1
  grind[Ip,List.lt_trans]
def II(h:eR sh (a::l))(h':eR sh (b::m)):Kd a b/\∃v,eR v l/\eR v m:=by
 cases sh with
 |nil=>show h.elim
 |cons t sh=>
  cases t
  .cases a<;>first|exact h.elim|skip
   cases b<;>first|show h'.elim|skip
   show#[.inl #[_,_,rfl,rfl],sh,h,h']
  .cases a<;>first|exact h.elim|skip
   cases b<;>first|show h'.elim|skip
   show#[.inr #[_,_,rfl,rfl],sh,h,h']
def FX(h:eR sh [])(h':eR sh m):m=[]:=by
 cases sh with
 |nil=>cases m with
  |nil=>rfl
  |cons _ _=>show h'.elim
 |cons t _=>cases t<;>show h.elim
def Ul{sh v:List Bool}{l m:List D}(h:eR sh l)(h':eR v l):sh=v:=by
 induction l generalizing sh v with
 |nil=>
  cases sh with
  |nil=>cases v with
   |nil=>rfl
   |cons t _=>cases t<;>show h'.elim
  |cons t _=>cases t<;>show h.elim
 |cons a l B=>
  cases sh with
  |nil=>show h.elim
  |cons t sh=>cases v with
   |nil=>show h'.elim
   |cons z v=>cases t<;>cases z<;>cases a<;>first|show h.elim|show h'.elim|rw[B h h']
def Kw(a b:D)(l m:List D):bE (a::l) (b::m)=match cH a b with|.eq=>bE l m|o=>o:=by rw[bE];first|done|(cases cH a b<;>rfl)
def Gc:∀{sh:List Bool}{l m:List D},eR sh l->eR sh m->(bE l m=.lt/\bE m l=.gt)\/(bE l m=.gt/\bE m l=.lt)\/(l=m/\bE l m=.eq)
 |sh,[],m,h,h'=>by rw[FX h h'];show .inr (.inr #[rfl,by rw[bE]])
 |sh,a::l,[],h,h'=>by cases FX h' h
 |sh,a::l,b::m,h,h'=>by
  let#[k,G,L,J]:=II h h';rw[Kw,Kw];rcases IJ k with⟨z,F⟩|⟨z,F⟩|⟨rfl,z⟩
  .rw[z,F];show .inl #[rfl,rfl]
  .rw[z,F];show .inr (.inl #[rfl,rfl])
  .rw[z];rcases Gc L J with⟨v,B⟩|⟨v,B⟩|⟨rfl,v⟩
   .show .inl #[v,B]
   .show .inr (.inl #[v,B])
   .show .inr (.inr #[rfl,v])
def Mb:∀{sh:List Bool}{l m n:List D},eR sh l->eR sh m->eR sh n->bE l m=.lt->bE m n=.lt->bE l n=.lt
 |sh,[],m,n,h,h',h'',e,_=>by rw[FX h h']at e;cases e
 |sh,a::l,[],n,h,h',h'',e,_=>by cases FX h' h
 |sh,a::l,b::m,[],h,h',h'',e,_=>by cases FX h'' h
 |sh,a::l,b::m,c::n,h,h',h'',e,e'=>by
  let#[k,F,O,M]:=II h h';let#[G,B,J,L]:=II h' h'';let es:F=B:=Ul (m:=[]) M J;subst es;rw[Kw]at e e'⊢;rcases IJ k with⟨z,_⟩|⟨z,_⟩|⟨rfl,z⟩
  .rw[z]at e;rcases IJ G with⟨v,_⟩|⟨v,_⟩|⟨rfl,v⟩
   .rw[PF k G z v]
   .rw[v]at e';cases e'
   .rw[z]
  .rw[z]at e;cases e
  .rw[z]at e;rcases IJ G with⟨v,_⟩|⟨v,_⟩|⟨rfl,v⟩
   .rw[v]
   .rw[v]at e';cases e'
   .rw[z]at e';rw[z];show Mb O J L e e'
def EL(h:eR sh l)(h':eR sh m):eC `ba (.tup m)=!(bE m l==.lt):=by
 unfold eC;rw[show cH `ba (.tup m)=bE l m by rw[cH]];rcases Gc h h' with⟨v,z⟩|⟨v,z⟩|⟨rfl,v⟩
 .rw[v,z];rfl
 .rw[v,z];rfl
 .rw[v];rfl
def Ij(sh:List Bool):fP (gU sh) where
 tot a b ha hb:=by
  cases a<;>first|show ha.elim|skip
  cases b<;>first|show hb.elim|skip
  rw[EL ha hb,EL hb ha];rcases Gc ha hb with⟨f1,f2⟩|⟨f1,f2⟩|⟨_,f1⟩
  .show .inl (by rw[f2];rfl)
  .show .inr (by rw[f1];rfl)
  .show .inr (by rw[f1];rfl)
 tr a b c ha hb hc:=by
  cases a<;>first|show ha.elim|skip
  cases b<;>first|show hb.elim|skip
  cases c<;>first|show hc.elim|skip
  rw[EL ha hb,EL hb hc,EL ha hc];intro h1 h2;rcases Gc ha hb with⟨f1,f2⟩|⟨f1,f2⟩|⟨rfl,f1⟩
  .rcases Gc hb hc with⟨g1,g2⟩|⟨g1,g2⟩|⟨rfl,g1⟩
   .rcases Gc ha hc with⟨k1,k2⟩|⟨k1,k2⟩|⟨rfl,k1⟩
    .rw[k2];rfl
    .rw[Mb ha hb hc f1 g1]at k1;cases k1
    .rw[k1];rfl
   .rw[g2]at h2;cases h2
   .show h1
  .rw[f2]at h1;cases h1
  .show h2
 anti a b ha hb:=by
  cases a<;>first|show ha.elim|skip
  cases b<;>first|show hb.elim|skip
  rw[EL ha hb,EL hb ha];intro h1 h2;rcases Gc ha hb with⟨f1,f2⟩|⟨f1,f2⟩|⟨rfl,f1⟩
  .rw[f1]at h2;cases h2
  .rw[f2]at h1;cases h1
  .rfl
section
variable{ι κ:Type}[DecidableEq κ](g:ι->κ)
def cD(l:List ι)(i:ι):List ι:=if g i∈l.map g then l else l++[i]
def jH(l:List ι):List ι:=l.foldl (cD g) []
def To{f:ι->D}(h:∀i j,f i=f j↔g i=g j)(l:List ι)(i:ι):cS (l.map f) (f i)=(cD g l i).map f:=by unfold cS cD;grind
def LZ{f:ι->D}(h:∀i j,f i=f j↔g i=g j)(l:List ι):aL (l.map f)=(jH g l).map f:=by
 suffices ∀v:List ι,(l.map f).foldl cS (v.map f)=(l.foldl (cD g) v).map f from this []
 induction l with
 |nil=>show λ_=>rfl
 |cons i l z=>intro v;rw[qz,foldl_cons,To g h];show z _
def Ni{l:List ι}{k:Nat}(h:k<l.length):jH g (l.take (k+1))=cD g (jH g (l.take k)) l[k]:=by unfold jH;rw[List.take_add_one,qh h,foldl_append];rfl
def Hg:∀{l v:List ι}{i:ι},i∈l.foldl (cD g) v->i∈v\/i∈l
 |[],_,_,h=>.inl h
 |j::l,v,i,h=>by
  rw[foldl_cons]at h;rcases Hg h with z|z
  .unfold cD at z;split at z
   .show .inl z
   .rcases qy.mp z with z|z
    .show .inl z
    .show .inr (qB.mpr (.inl (qv.mp z)))
  .show .inr (qk _ z)
def Hi:∀(l v:List ι),(l.foldl (cD g) v).length<=v.length+l.length
 |[],_=>q8 _
 |j::l,v=>by
  rw[foldl_cons];let h1:=Hi l (cD g v j);let h2:(cD g v j).length<=v.length+1:=by
   unfold cD;split
   .lia
   .rw[qq];show q8 _
  rw[qt];lia
end
def Uj:x∈cS l d↔x∈l\/x=d:=by
 unfold cS;split
 .rename_i h;show#[.inl,λz=>z.elim id λe=>e▸h]
 .rw[qy,qv]
theorem zaR:x∈aL l↔x∈l:=by
 suffices ∀v:List D,x∈l.foldl cS v↔x∈v\/x∈l from(this []).trans (by simp)
 induction l with
 |nil=>show λ_=>by simp
 |cons i l z=>intro v;rw[foldl_cons,z,Uj,qB,or_assoc]
def Wf(h:l.Nodup):(cS l d).Nodup:=by
 unfold cS;split
 .show h
 .rename_i z;show qx.mpr #[h,by simp,λa B b v=>by rw[qv.mp v];show λe=>z (e▸B)]
def IK(l:List D):(aL l).Nodup:=by
 suffices ∀v:List D,v.Nodup->(l.foldl cS v).Nodup from this [] .nil
 induction l with
 |nil=>show λ_ h=>h
 |cons i l z=>show λv h=>z _ (Wf h)
def SC(l:List D)(d:D):(cS l d).length<=l.length+1:=by
 unfold cS;split
 .lia
 .rw[qq];show q8 _
def Kv(l:List D):(aL l).length<=l.length:=by
 unfold aL
 suffices ∀v:List D,(l.foldl cS v).length<=v.length+l.length by simpa using this []
 induction l with
 |nil=>show λ_=>q8 _
 |cons i l z=>grind[foldl_cons,length_cons,cS,SC]
def bI(ks:List D)(l:List S)(q:D):List D×List S×Nat:=match fS ks q with
 |some m=>(ks,l,m)
 |none=>(ks++[q],l++[.lst []],ks.length)
def eS(j:Nat)(k e:WE):WE:=λU Q E=>match slot U j with
 |some (.dct _ _ _)=>k U (λy v=>match view y v,slot v j with
  |some q,some (.dct t ks l)=>aW t q=true/\ks.Nodup/\ks.length<big/\(match(bI ks l q).2.1[(bI ks l q).2.2]? with
   |some (.lst l')=>e (v.set j none) (λr z=>zo (give r z) λp=>l'.length<big/\Q `v (p.2.set j (some (.dct t (bI ks l q).1 ((bI ks l q).2.1.set (bI ks l q).2.2 (.lst (l'++[p.1]))))))) E
   |_=>False)
  |_,_=>False) E
 |_=>False
end FL
namespace FL
open PySem PySem.Spec PyProof.Rows L2
def GV(h:kV a=kV b):a=b:=by cases a<;>cases b<;>cases h<;>rfl
def Hk:∀{a b:List aO},a.map kV=b.map kV->a=b
 |[],[],_=>rfl
 |[],_::_,h=>by cases h
 |_::_,[],h=>by cases h
 |x::a,y::b,h=>by
  injection h with h1 h2
  rw[GV h1,Hk h2]
def MV(h:zv (kV k) u):u.scannable=true:=by
 cases k with
 |inl i=>let#[t,rfl]:=h;rfl
 |inr x=>let#[t,rfl]:=h;rfl
def OQ{α β:Type}{f:α->β}(z:∀a b,f a=f b->a=b){l m:List α}(h:(l.map f).Perm (m.map f)):l.Perm m:=by
 induction l generalizing m with
 |nil=>simp_all
 |cons a l v=>let#[b,B,e]:=qK.mp (h.mem_iff.mp (by simp:f a∈(a::l).map f));let:=z _ _ e;subst this;let#[m1,F,rfl]:=append_of_mem B;show(List.Perm.cons b (v ?_)).trans perm_middle.symm;rw[map_append];rw[map_append,qz]at h;show(h.trans perm_middle).cons_inv
def yT(H:Hp)(vs:List V)(y:V)(b:Bool):Prop:=
 (∃(ks:List aO)(k:aO),vs=ks.map kV/\y=kV k/\(b=true↔k∈ks))\/
 ∃(ps:List (List aO×Addr))(k:List aO)(c:Addr),vs=ps.map (λp=>V.ref p.2)/\(∀p∈ps,H p.2=some (.tup (p.1.map kV)))/\y=.ref c/\H c=some (.tup (k.map kV))/\(b=true↔k∈ps.map (·.1))
def Ho(I:Inv X zG Z H s)(e:H a=some `dz):s.TypeIs `p "set":=by
 rcases I.hok a _ e with⟨_,⟨_,h1⟩|⟨_,_,_,o,_,_,_,h1,h2,_⟩|⟨_,_,_,_,o,_,_,_,h1,h2,_⟩⟩
 .show#[_,h1,rfl]
 .show#[o,h1,h2.1]
 .show#[o,h1,h2.1]
def RS(I:Inv X zG Z H s){ks:List aO}(e:H a=some `dz)(B:vs=ks.map kV):∃xs:List (aO×Value),ks.Perm (xs.map (·.1))/\ST.VSet (ST.ldOf X.w) `bk s.heap a xs:=by
 rcases I.hok a _ e with⟨_,⟨F,h1⟩|⟨_,xs,p,V⟩|⟨z,xs,p,_,_⟩⟩
 .let:ks=[]:=by rw[F]at B;simpa using B.symm
  subst this;show#[[],.refl _,ST.vset_new h1]
 .show#[xs,OQ (λ_ _=>GV) ?_,V];rw[B]at p;rw[qE];show p
 .exfalso;cases vs with
  |nil=>show z rfl
  |cons v vs=>grind[mem_map,mem_cons_self,kV]
def RD(I:Inv X zG Z H s){ps:List (List aO×Addr)}(e:H a=some `dz)(B:vs=ps.map (λp=>V.ref p.2))(G:∀p∈ps,H p.2=some (.tup (p.1.map kV))):∃xs,ps.Perm xs/\ST.TSet (ST.ldOf X.w) (tupleKind `bk) s.heap a xs:=by
 rcases I.hok a _ e with⟨_,⟨h0,h1⟩|⟨J,xs,p,_⟩|⟨_,xs,p,L,T⟩⟩
 .let:ps=[]:=by rw[h0]at B;simpa using B.symm
  subst this;show#[[],.refl _,ST.tset_new h1]
 .exfalso;cases vs with
  |nil=>show J rfl
  |cons v vs=>
   let#[q,_,O]:=qK.mp (p.mem_iff.mp qm);let h1:v∈ps.map (λp=>V.ref p.2):=by rw[<-B];show qm
   let#[k,_,M]:=qK.mp h1;rw[<-O]at M;cases q with
   |mk q _=>cases q<;>cases M
 .show#[xs,?_,T.full λx F=>Dt I.hok (L x F)];rw[B]at p
  --an address tells zK tuple
  let q:(ps.map (·.2)).Perm (xs.map (·.2)):=OQ (f:=V.ref) (λ_ _ h=>by cases h;rfl) (by rw[qE,qE];show p)
  letI f:Addr->List aO×Addr:=λb=>(Classical.epsilon λks:List aO=>H b=some (HO.tup `cr),b)
  let Y:∀p:List aO×Addr,H p.2=some (.tup (p.1.map kV))->f p.2=p:=λp h=>by let e:H p.2=some (.tup ((Classical.epsilon λks:List aO=>H p.2=some (HO.tup `cr)).map kV)):=Classical.epsilon_spec (p:=λks:List aO=>H p.2=some (HO.tup `cr)) #[p.1,h];grind[Prod.ext,Hk]
  let z:∀l:List (List aO×Addr),(∀p∈l,H p.2=some (.tup (p.1.map kV)))->(l.map (·.2)).map f=l:=λl h=>by rw[qE];show(map_congr_left λp G=>Y p (h p G)).trans (map_id _)
  let:=q.map f;rwa[z ps G,z xs L]at this
def Pp(hu:A.units<cLine)(I:Inv X zG Z H s)(e:H a=some `dz)(hz:vs.length<=150)(g:yT H vs y b)(Y:zv y u)
  (h:∀s' r,Inv X zG Z (if b then H else upd H a (.set (vs++[y]))) s'->Q r s'):wpAny `a A (setAdd a u) Q E s:=by
 rcases g with⟨ks,k,F,rfl,J⟩|⟨ps,k,c,F,hp,rfl,hc,J⟩
 .obtain⟨xs,v,S⟩:=RS I e F;let hl:xs.length<=150:=by let:=v.length_eq;rw[qo]at this;rw[F,qo]at hz;lia
  show ST.setAddV (DL Y) (MV Y) S hl (λB r=>h _ r ?_) λB h' ys O M L r=>h _ r ?_
  .rw[q4 (J.mpr (v.mem_iff.mpr B))];show I.kept λ_ _ z=>z
  .rw[q5 λz=>B (v.mem_iff.mp (J.mp z))];show EK I (by rw[e];show True.intro) O (let⟨o,_,_,_,ho,_⟩:=L;#[o,ho]) #[by rw[qq];show Nat.add_le_add_right hz 1,.inr (.inl #[by simp,ys,?_,L])];rw[F];let p1:=M.map (λp:aO×Value=>kV p.1);show(qN.trans ?_).trans p1.symm;show List.Perm.cons _ ?_;let:=v.map kV;rw[qE]at this;show this
 .cases(show u=Value.ref c from Y);let#[xs,v,S]:=RD I e F hp;let hl:xs.length<=150:=by let:=v.length_eq;rw[F,qo]at hz;lia
  show ST.setAddT hu (Dt I.hok hc) S hl (λB tk r _=>h _ r ?_) λB h' ys tk r O M L _=>h _ r ?_
  .rw[q4 (J.mpr ((v.map _).mem_iff.mpr B))];show I.kept λ_ _ z=>z
  .rw[q5 λz=>B ((v.map _).mem_iff.mp (J.mp z))];let G:∀d xs,H d=some `ax->upd H a (.set (vs++[V.ref c])) d=some `ax:=λd xs z=>by rw[Ar (Ia z e (λw=>nomatch w))];exact z
   show EK I (by rw[e];show True.intro) O (let⟨o,_,_,_,ho,_⟩:=L;#[o,ho]) #[by rw[qq];show Nat.add_le_add_right hz 1,.inr (.inr #[by simp,ys,?_,λp h1=>?_,L.raw])]
   .rw[F];let p1:=M.map (λp:List aO×Addr=>V.ref p.2);show(qN.trans ?_).trans p1.symm;show List.Perm.cons _ (v.map _)
   .rcases qB.mp (M.mem_iff.mp h1)with rfl|z
    .show G _ _ hc
    .show G _ _ (hp p (v.mem_iff.mpr z))
section
variable{K:W.Frag}
def tK(p:List aO×Addr):D:=.tup (p.1.map aI)
theorem zcF{a b:List aO}:D.tup (a.map aI)=D.tup (b.map aI)↔a=b:=#[λh=>by injection h with h;show GL h,λh=>by rw[h]]
def My(r:aQ K F x d)(h:aW true d=true):∃p:List aO×Addr,x=.ref p.2/\d=tK p/\F p.2=some (.tup (p.1.map kV)):=by
 cases r with
 |tup e r=>let#[ks,rfl,rfl]:=FV r h;show#[(ks,_),rfl,rfl,e]
 |_=>cases h
def JY(r:zE K F xs l):l.all (aW true)=true->∃ps:List (List aO×Addr),xs=ps.map (λp=>V.ref p.2)/\l=ps.map tK/\∀p∈ps,F p.2=some (.tup (p.1.map kV)):=
 zE.ind (P:=λxs l=>l.all (aW true)=true->∃ps:List (List aO×Addr),xs=ps.map (λp=>V.ref p.2)/\l=ps.map tK/\∀p∈ps,F p.2=some (.tup (p.1.map kV))) (λ_=>#[[],rfl,rfl,λ_ z=>nomatch z]) (λa _ v h=>by
  rw[all_cons,and_eq_true]at h;let#[p,rfl,rfl,e]:=My a h.1;let#[ps,rfl,rfl,es]:=v h.2;show#[p::ps,rfl,rfl,λq B=>?_];rcases qB.mp B with rfl|z
  .show e
  .show es q z) r
def NL(h:slot U n=some s):U.set n `bg=U:=by
 let h':=KC h;apply ext_getElem?;intro j;by_cases v:n=j
 .subst v;rw[getElem?_set_self (qg.mp h').1,h']
 .rw[getElem?_set_ne v]
def So(O:zp F H)(r:zE K F vs l)(Y:aQ K F v d)(J:bX (d::l)=true):∃b,yT H vs v b/\cS l d=if b then l else l++[d]:=by
 unfold bX at J;rw[or_eq_true,all_cons,all_cons,and_eq_true,and_eq_true]at J;let B:∀p:Prop,(d∈l↔p)->∃b,(b=true↔p)/\cS l d=if b then l else l++[d]:=λp h=>by
  unfold cS;by_cases q:p
  .simp_all
  simp_all
 rcases J with⟨h1,h2⟩|⟨h1,h2⟩
 .obtain⟨k,rfl,rfl⟩:=FU Y h1;let#[ks,rfl,rfl]:=FV r h2;let#[b,L,e]:=B (k∈ks) (by rw[qK];show#[λ⟨j,G,z⟩=>EN z▸G,λz=>#[k,z,rfl]])
  show#[b,.inl #[ks,k,rfl,rfl,L],e]
 .obtain⟨p,rfl,rfl,ep⟩:=My Y h1;let#[ps,rfl,rfl,M]:=JY r h2;let#[b,L,e]:=B (p.1∈ps.map (·.1)) (by rw[qK,qK];show#[λ⟨j,G,z⟩=>#[j,G,zcF.mp z],λ⟨j,G,z⟩=>#[j,G,zcF.mpr z]])
  show#[b,.inr #[ps,p.1,p.2,rfl,λq hq=>O _ _ (M q hq),rfl,O _ _ ep,L],e]
def Rel.sadd{D:Addr}(r:Rel K (U++[some s]) (Z++[some v]) F G H)(hs:slot U n=some (.set l))(J:Z[n]?=some (some `k))(M:bX (s.toD::l)=true):
  ∃vs b,H D=some `dz/\vs.length=l.length/\yT H vs v b/\Rel K `ck Z F G (if b then H else upd H D (.set (vs++[v]))):=by
 let hl:=Ae r;let rd:=r.drop hl;let#[fp,e,nd,ap]:=r.en;let#[f1,f2,rfl,a,b]:=e.cut hl;let#[v',fa,fi,fb,e1,rfl,q,up]:=a.at hs;rw[J]at e1;let e2:V.ref D=v':=↑e1
 subst e2;let sh:∃d,s=.sh d:=by
  cases s with
  |sh d=>show#[d,rfl]
  |lst l=>simp[bX,bR,aW]at M
  |dct t ks vs=>simp[bX,bR,aW]at M
  |set l=>simp[bX,bR,aW]at M
 let#[d,rfl]:=sh;rw[S.toD_sh]at M⊢;cases q with
 |st hD rl=>
  rename_i xs;cases b with
  |so sr nl=>
   cases nl;cases sr with
   |sh rv=>
    let#[b,sa,ea]:=So r.fr rl rv M;show#[xs,b,hD,rl.len,sa,?_];rw[ea];cases b with
    |true=>simp;rw[NL hs];show rd
    |false=>
     simp;let B:(fa++([D]++fb)).Nodup:=↑nd
     let#[na,Y,h1]:=qx.mp B;let#[nD,nb]:=qL.mp Y;let h2:D∉fa:=λz=>h1 D z D qm rfl;let O:=ap D (by simp);let new:aK K F (upd H D (.set (xs++[v]))) `k (.set (l++[d])) [D]:=.st Bh (rl.append (.cons rv .nil));let a2:=up (F':=F) (H':=upd H D (.set (xs++[v]))) (o:=some (.set (l++[d]))) (u:=some `k) `c (λx L=>Ar λz=>(qy.mp L).elim (λw=>h2 (z▸w)) λw=>nD (z▸w)) (.so new .nil);rw[Hu J]at a2;show#[zp.updR r.fr O.1,λx o w=>?_,_,a2,B,λx L=>ap x ↑L];let L:x≠D:=λz=>by rw[z,O.2]at w;cases w
     rw[Ar L];show r.gr x o w
end
section
variable{D:Addr}
def UK(J:X.xe=λ_ _=>False)(hu:X.A.units+1<cLine)(h:FE X h4 we):jO X (eval h4 X.env>>=λv=>standAt p>>=λ_=>call (.builtin "set.add") [.ref D,v]>>=λ_=>pure ()) (rR X n D (oY n we)):=by
 intro zG s Z H Q I q;let#[F,G,U,P,h1,h2,hw,h3]:=q;let hp:PassesOwn `a X.A X.env X.xe:=by rw[J];show PassesOwn.never
 let Y:∀e s',X.xe e s'->False:=λe s' z=>by rw[J]at z;show z
 have he:=h X.pn X.xe hp zG s Z H (λv H1=>∃L U1 t l,zp F L/\Rel X.K (U1++[some t]) (Z++[some v]) L G H1/\slot U1 n=some (.set l)/\bX (t.toD::l)=true/\l.length<=150/\P (U1.set n (some (.set (cS l t.toD))))) I
  #[F,G,U,_,NX,h1,hw,λr U1 v L H1 B s1 M rv=>?_,HC]
 .show qa (zh he (λu s1 zq=>?_) λe s' z=>Y e s' z);let#[v,H1,I1,rv,L,U1,t,l,sm,M,hs,B,hz,hP]:=zq;let#[vs,b,hD,h5,sa,r2]:=Rel.sadd M hs h2 B;show qa (wpAny_standAt (qa (ST.call_add_of (Ho I1 hD) (Pp hu I1 hD ∅ sa rv λs' _ I'=>?_))));show qb #[Z,_,I',h3 _ Z L _ hP KP.refl sm r2]
 .obtain⟨⟨t,O⟩,eg,B⟩:=Ao B;let#[F2,s2,l2,r2]:=AA (U':=[]) (Z':=[]) M (Ae M) rv eg;split at B
  .rename_i l e;show#[F2,O,t,l,s1.trans s2,r2,e,B.1,B.2.1,B.2.2]
  .show B.elim
end
section
variable{X:Cx}
def SN(H:Hp)(h:Heap)(_:sysModules<h.objs.size):zF X.prog X.w H (h.push (ST.freshSet (ST.ldOf X.w))) h.objs.size (.set []):=#[zero_le _,.inl #[rfl,qd _ rfl]]
def PY(F H:Hp)(p:Addr)(e:H p=some (.set [])):aK X.K F H `w (.set []) [p]:=.st e .nil
set_option maxHeartbeats 4000000 in
def Qw(hn:X.N.length=n)(hu:X.A.units+1<cLine)(hm:X.A.mark none=X.A)(hc:X.calm=true)(Sc:bS X.env.scope scope X.N vars)(hk:vars.length=k)(hi:FI X tg iter wi)
  (hg:∀s H ex,FG `d (List.range (n+1)) tg g)(ht:∀s H ex,fW `d B (iR `d wc))
  (yM:∀s H ex,FI `d v iter2 L)(h3:∀s H ex,FG `d (List.range (n+1)) v g2)(Y:∀s H ex,fW `d ifs2 (iR `d M))
  (he:∀s H ex,FE `d J we)
  (hs:∀x,foldedSetIterable iter X.env x=pure x:=by intro _;rfl)(h1:∀env x,foldedSetIterable iter2 env x=pure x:=by intro _ _;rfl):FE X (.SetComp J [#[tg,iter,B,0],#[v,iter2,ifs2,0]] scope pos) (zU (.set []) n k wi g wc (mP L g2 M (oY n we))):=by
 subst hn;intro pn xe hp zG s Z H Q I q;let#[F,G,U,P,PX,O,hw,h2,hx]:=q;show Hj (ty:="set") (dat:=.set #[] 0 (.fresh 0 0 (ST.ldOf X.w))) (λA E s Q h=>ST.newSet_ok h) (s0:=.set []) (o0:=.set []) SN PY rfl hs Sc hk hi (λs H ex D=>?_) (λ_ _ _=>rfl) (λ_ _ _=>rfl) (λ_ _ _=>rfl) (λ_ _ _=>#[_,rfl]) hp I O hw hx (Iz h2);let z:iH `d (.SetComp J [#[tg,iter,B,0],#[v,iter2,ifs2,0]] scope pos) 1 `k v _:=
  Ga (X:=aB X scope vars s H ex) hc rfl (h3 s H ex [] (λ_ _=>False) PassesOwn.never) (Y s H ex) (λ_=>(UK (X:=aB X scope vars s H ex) (n:=X.N.length) rfl hu (he s H ex)).f) (λ_=>rfl) (λ_=>rfl) (λ_=>rfl) (λ_=>rfl)
 show Ga (X:=aB X scope vars s H ex) hc rfl (hg s H ex [] (λ_ _=>False) PassesOwn.never) (ht s H ex) (λ_=>Nm (X:=aB X scope vars s H ex) rfl (yM s H ex) z (h1 _) hm (λ_=>rfl) (λ_=>rfl) (λ_=>rfl) (λ_=>#[_,rfl])) (λ_=>rfl) (λ_=>rfl) (λ_=>rfl) (λ_=>rfl)
end
def kf(p:List aO×Addr):List aO:=p.1
section
variable(X:Cx)(s:Shared)
@[inline]def JK(ks:List aO)(i:Nat)(h:Heap):Prop:=(∀b o,s.heap.get? b=some o->h.get? b=some o)/\∃xs:List (aO×Value),(jH id (ks.take i)).Perm (xs.map (·.1))/\ST.VSet (ST.ldOf X.w) (aE X.prog X.w) h s.heap.objs.size xs/\(i=0->h.get? s.heap.objs.size=some (ST.freshSet (ST.ldOf X.w)))
@[inline]def JT(ps:List (List aO×Addr))(i:Nat)(h:Heap):Prop:=(∀b o,s.heap.get? b=some o->h.get? b=some o)/\∃xs:List (List aO×Addr),(jH kf (ps.take i)).Perm xs/\ST.TRaw (ST.ldOf X.w) (tupleKind (aE X.prog X.w)) h s.heap.objs.size xs/\(i=0->h.get? s.heap.objs.size=some (ST.freshSet (ST.ldOf X.w)))
def JK.stay{ks:List aO}{i:Nat}{h h':Heap}(x:JK X s ks i h)(v:∀b o,b≠s.heap.objs.size+1->h.get? b=some o->h'.get? b=some o):JK X s ks i h':=by let#[k,xs,p,#[o,es,ep,t,G,r],z]:=x;let B:s.heap.objs.size≠s.heap.objs.size+1:=ne_of_lt `ef;show#[λb o e=>v b o (ne_of_lt (lt_succ_of_lt (ST.lt_of_get e))) (k b o e),xs,p,#[o,es,ep,t,v _ _ B G,r],λF=>v _ _ B (z F)]
def JT.stay{ps:List (List aO×Addr)}{i:Nat}{h h':Heap}(x:JT X s ps i h)(v:∀b o,b≠s.heap.objs.size+1->h.get? b=some o->h'.get? b=some o):JT X s ps i h':=by let#[k,xs,p,#[o,es,ep,t,G,r],z]:=x;let B:s.heap.objs.size≠s.heap.objs.size+1:=ne_of_lt `ef;show#[λb o e=>v b o (ne_of_lt (lt_succ_of_lt (ST.lt_of_get e))) (k b o e),xs,p,#[o,es,ep,t,v _ _ B G,r],λF=>v _ _ B (z F)]
end
def Jq:bootBuiltins "set"=some (.type "set"):=by decide+kernel
def WV:isSubtype (.type "tuple") (.type "set")=pure false:=by rw[isSubtype_type];kernel_rfl
def Xi:isSubtype (.type "tuple") (.type "frozenset")=pure false:=by rw[isSubtype_type];kernel_rfl
theorem Vu(hh:A.handled=none)(hu:A.units+20<cLine)(I:Inv X zG Z H s)(hT:s.TypeIs x T)(h3:isSubtype `ap (.type "set")=pure false)(h2:isSubtype `ap (.type "frozenset")=pure false)(h4:(Value.type T==Value.type "dict")=false)
  (W:ST.WalkOk X.prog X.w s x F.toArray.size (λi v=>F.toArray[i]?=some v))(rv:zD `cr F)(hz:ks.length<=150)
  (h:∀s',Inv X zG Z (upd H s.heap.objs.size (.set ((jH id ks).map kV))) s'->Q `g s'):wpAny `a A (call (.type "set") [x]) Q E s:=by
 let hl:F.toArray.size=ks.length:=by rw[qr,<-rv.length,qo]
 refine ST.call_set (B:=A.units+20) (J:=JK X s ks) hh hT h3 h2 h4 W (λh e k=>#[k,[],.refl _,ST.vset_new e,λ_=>e]) (λi h h' hi x hk=>JK.stay X s x hk)
  (λA i v s' Q E hi hP⟨O,xs,p,S,z⟩ hQ hA=>?_) `j λh' tk⟨O,xs,p,S,z⟩ _ ht=>h _ ?_
 .rw[hl]at hi;let#[u,h6,ru]:=rv.get (i:=i) (x:=kV ks[i]) (by rw[qF,qh hi];rfl);let hv:v=u:=by grind
  subst hv;let h5:xs.length<=150:=by let h1:=p.length_eq;grind[Hi,length_map,jH,cD,length_take,length_nil]
  let Y:∀{h':Heap},Heap.SameBut s.heap.objs.size s'.heap h'->∀b o,s.heap.get? b=some o->h'.get? b=some o:=λM b o e=>(M.2 b (ne_of_lt (ST.lt_of_get e))).trans (O b o e);let L:=Ni (id:aO->aO) hi;show ST.setAddV (DL ru) (MV ru) S h5 (λhm r=>hQ s'.heap _ r `am (Heap.SameBut.refl _ _) #[O,xs,?_,S,λz=>nomatch z]) λhm h' ys M pm S' r=>hQ h' _ r `am M #[Y M,ys,?_,S',λz=>nomatch z]
  .rw[L];unfold cD;grind
  .rw[L];unfold cD;rw[map_id,q5 (show¬id ks[i]∈jH id (ks.take i) from λz=>hm (p.mem_iff.mp z))];show(qN.trans (List.Perm.cons _ p)).trans (pm.map (·.1)).symm
 .rw[hl,List.take_length]at p;refine I.laid (t':=tk) O `j #[?_,?_]
  .grind[length_map,Hi,jH,cD,length_nil]
  .cases ks with
   |nil=>show .inl #[rfl,z hl]
   |cons y ks=>
    show .inr (.inl #[λe=>?_,xs,?_,S])
    .have h1:∀(l G:List aO),G≠[]->l.foldl (cD id) G≠[]:=λl=>by
      induction l with
      |nil=>show λ_ h=>h
      |cons i l ih=>
       show λG h=>ih _ ?_;unfold cD;split
       .show h
       .simp
     show h1 ks (cD id [] y) (by unfold cD;simp) (map_eq_nil_iff.mp e)
    .let:=p.map kV;rw[qE]at this;show this
theorem UH(hh:A.handled=none)(hu:A.units+20<cLine)(I:Inv X zG Z H s)(hT:s.TypeIs x T)(h9:isSubtype `ap (.type "set")=pure false)(h8:isSubtype `ap (.type "frozenset")=pure false)(e1:(Value.type T==Value.type "dict")=false)
  (W:ST.WalkOk X.prog X.w s x F.toArray.size (λi v=>F.toArray[i]?=some v))(rv:zD (ps.map λp=>V.ref p.2) F)(hp:∀p∈ps,H p.2=some (.tup (p.1.map kV)))(hz:ps.length<=150)
  (h:∀s',Inv X zG Z (upd H s.heap.objs.size (.set ((jH kf ps).map λp=>V.ref p.2))) s'->Q `g s'):wpAny `a A (call (.type "set") [x]) Q E s:=by
 let hl:F.toArray.size=ps.length:=by rw[qr,<-rv.length,qo]
 let M:∀{h:Heap},(∀b o,s.heap.get? b=some o->h.get? b=some o)->∀p∈ps,IsTupleKey `bk h p.1 p.2:=λk p O=>by let#[o,F,n,h1,r]:=Dt I.hok (hp p O);show#[o,F,n,k _ _ h1,r]
 have h6:∀{h:Heap}{i:Nat}{xs:List (List aO×Addr)},(∀b o,s.heap.get? b=some o->h.get? b=some o)->(jH kf (ps.take i)).Perm xs->∀p∈xs,IsTupleKey `bk h p.1 p.2:=λk pm p O=>by
  rcases Hg kf (pm.mem_iff.mpr O)with z|z
  .cases z
  .show M k p (mem_of_mem_take z)
 refine ST.call_set (B:=A.units+20) (J:=JT X s ps) hh hT h9 h8 e1 W (λh e k=>#[k,[],.refl _,(ST.tset_new e).raw,λ_=>e]) (λi h h' hi x hk=>JT.stay X s x hk)
  (λA i v s' Q E hi hP⟨L,xs,p,S,z⟩ hQ hA=>?_) `j λh' tk⟨L,xs,p,S,z⟩ _ ht=>h _ ?_
 .rw[hl]at hi;let#[u,h7,ru]:=rv.get (i:=i) (x:=V.ref ps[i].2) (by rw[qF,qh hi];rfl);let hv:v=u:=by rw[List.getElem?_toArray,h7]at hP;exact(qf hP).symm
  subst hv;cases(show v=Value.ref ps[i].2 from ru);let e2:xs.length<=150:=by let h1:=p.length_eq;let h2:=Hi kf (ps.take i) [];let h3:(jH kf (ps.take i)).length=((ps.take i).foldl (cD kf) []).length:=rfl;rw[qH,qw]at h2;lia
  let h5:∀{h':Heap},Heap.SameBut s.heap.objs.size s'.heap h'->∀b o,s.heap.get? b=some o->h'.get? b=some o:=λsb b o e=>(sb.2 b (ne_of_lt (ST.lt_of_get e))).trans (L b o e);let h4:=Ni kf hi;show ST.setAddT ∅ (M L ps[i] (getElem_mem hi)) (S.full (h6 L p)) e2 (λhm tk r ht=>hQ s'.heap _ r ht (Heap.SameBut.refl _ _) #[L,xs,?_,S,λz=>nomatch z]) λhm h' ys tk r sb pm S' ht=>hQ h' _ r ht sb #[h5 sb,ys,?_,S'.raw,λz=>nomatch z]
  .rw[h4];unfold cD;rw[q4 (show kf ps[i]∈_ from(p.map kf).mem_iff.mpr hm)];show p
  .rw[h4];unfold cD;rw[q5 (show¬kf ps[i]∈_ from λz=>hm ((p.map kf).mem_iff.mp z))];show(qN.trans (List.Perm.cons _ p)).trans pm.symm
 .rw[hl,List.take_length]at p;let Y:∀d xs,H d=some (HO.tup xs)->upd H s.heap.objs.size (.set ((jH kf ps).map λp=>V.ref p.2)) d=some `ax:=λd xs z=>by rw[Ar (DP z I.fresh)];exact z
  show I.laid (t':=tk) L `j #[?_,?_]
  .rw[qo];let:=Hi kf ps [];let h3:(jH kf ps).length=(ps.foldl (cD kf) []).length:=rfl;rw[qw]at this;lia
  .cases ps with
   |nil=>show .inl #[rfl,z hl]
   |cons y ps=>
    show .inr (.inr #[λe=>?_,xs,p.map _,λq O=>?_,S])
    .have h1:∀(l G:List (List aO×Addr)),G≠[]->l.foldl (cD kf) G≠[]:=λl=>by
      induction l with
      |nil=>show λ_ h=>h
      |cons i l ih=>
       show λG h=>ih _ ?_;unfold cD;split
       .show h
       .simp
     show h1 ps (cD kf [] y) (by unfold cD;simp) (map_eq_nil_iff.mp e)
    .rcases Hg kf (p.mem_iff.mpr O)with z|z
     .cases z
     .show Y _ _ (hp q z)
def wJ(K:W.Frag):List V->Hp->VK->Prop:=λxs H Q=>∃a vs,xs=[.ref a]/\(bQ K H a vs\/bV K H a vs)/\vs.length<=150/\
 ((∃ks:List aO,vs=ks.map kV/\∀p,H p=none->Q `w (upd H p (.set ((jH id ks).map kV))))\/
  ∃ps:List (List aO×Addr),vs=ps.map (λp=>V.ref p.2)/\(∀p∈ps,H p.2=some (.tup (p.1.map kV)))/\∀p,H p=none->Q `w (upd H p (.set ((jH kf ps).map λp=>V.ref p.2))))
def Vr(J:cB k X.A):aZ X (.type "set") (wJ X.K):=by
 intro zG s Z H xs us Q I r h;let#[a,vs,rfl,G,O,h]:=h;let Y:X.A.units+20<cLine:=by let:=J.units;lia
 cases r with
 |cons r1 r2=>
  cases r2;cases r1;let go:∀{T:String}{z:List Value},s.TypeIs `p T->isSubtype `ap (.type "set")=pure false->isSubtype `ap (.type "frozenset")=pure false->(Value.type T==Value.type "dict")=false->ST.WalkOk X.prog X.w s `p z.toArray.size (λi v=>z.toArray[i]?=some v)->zD vs z->
    wpAny `a X.A (call (.type "set") [.ref a]) `ay X.xe s:=λ{T z} hT h1 h2 h3 W B=>by
   rcases h with⟨ks,rfl,q⟩|⟨ps,rfl,hp,q⟩
   .show Vu J.hd Y I hT h1 h2 h3 W B ↑O λs' L=>#[.ref _,_,L,rfl,q _ I.fresh]
   .show UH J.hd Y I hT h1 h2 h3 W B hp ↑O λs' L=>#[.ref _,_,L,rfl,q _ I.fresh]
  rcases G with G|G
  .obtain⟨z,B,M,_⟩:=I.list G;show go M.isList.typeIs F.sub_list_set F.sub_list_frozenset ⋯ (ST.walk_list M.isList) B
  .obtain⟨z,B,⟨o,e,c,n,d⟩,_⟩:=I.tuple G;let ht:s.heap.IsTuple a z.toArray:=#[o,e,c,n,d]
   show go #[o,e,c] WV Xi ⋯ (ST.walk_tuple ht) B
section
variable{K:W.Frag}
def zE.of_all{ι:Type}{v:ι->V}{z:ι->D}:∀{l:List ι},(∀i∈l,aQ K F (v i) (z i))->zE K F (l.map v) (l.map z)
 |[],_=>.nil
 |i::l,h=>.cons (h i qm) (zE.of_all λj B=>h j (qk _ B))
def zE.to_all{ι:Type}{v:ι->V}{B:ι->D}:∀{l:List ι},zE K F (l.map v) (l.map B)->∀i∈l,aQ K F (v i) (B i)
 |[],_,_,h=>nomatch h
 |j::l,.cons a b,i,h=>by
  rcases qB.mp h with rfl|z
  .show a
  .show zE.to_all b i z
def Rel.newS{p:Addr}(v:Rel K U Z F G H)(z:H p=none)(r:zE K F vs l):Rel K (U++[some (.set l)]) (Z++[some `w]) F G (upd H p `dz):=v.newO z (.st Bh r)
def SD:cT K (wJ K) kN:=by
 intro Z U F G H vs ds s Q B Y e O;let#[d,v,rfl,rfl]:=AY (λx y r=>by cases x<;>rfl) rfl Y e;let J:∀{a:Addr}{xs:List V}{l:List D},(bQ K H a xs\/bV K H a xs)->zE K F xs l->newS l=some s->wJ K [.ref a] H Q:=λ{a xs l} h2 r e=>by
  unfold newS at e;split at e
  .rename_i hc;cases e;show#[a,xs,rfl,h2,by rw[r.len];show hc.2,?_];let L:=hc.1;unfold bX at L;rw[or_eq_true]at L;rcases L with L|L
   .obtain⟨ks,rfl,rfl⟩:=FV r L;show .inl #[ks,rfl,λp M=>?_];rw[LZ id (f:=aI) λi j=>#[EN,λz=>by rw[show i=j from z]]]at O;show O _ F _ `c (B.newS M (zE.of_all λi hi=>zE.to_all r i ?_));rcases Hg id hi with z|z
    .cases z
    .show z
   .obtain⟨ps,rfl,rfl,hf⟩:=JY r L;show .inr #[ps,rfl,λp M=>B.fr _ _ (hf p M),λp M=>?_];rw[LZ kf (f:=tK) λi j=>zcF]at O;show O _ F _ `c (B.newS M (zE.of_all λi hi=>zE.to_all r i ?_));rcases Hg kf hi with z|z
    .cases z
    .show z
  .cases e
 cases d with
 |lst l=>let#[a,xs,rfl,h1,r1]:=Y.1.lst B.fr;show J (.inl h1) r1 e
 |tup l=>let#[a,xs,rfl,h1,r1]:=Y.1.tup;show J (.inr (bV.of (B.fr _ _ h1))) r1 e
 |_=>cases e
def JP(B:cB k X.A)(G:Gl X "set")(F:X.mg "set"=none)(z:bootBuiltins "set"=some (.type "set"))(L:FA X (e::es) wa)(J:autoParam (starEach (e::es) X.env=(false,eval e X.env)::starEach es X.env) rZ9)(v:autoParam ((backTo pos `h).any (·.1)=false) rZ9):FE X (.Call (.Name "set" p) (e::es) [] pos) (wB kN wa):=
 IY (λpn xe=>Vr (X:=wp X pn xe) B) SD G F z L ⋯ ⋯ J v
def tV(K:W.Frag):List V->Hp->VK->Prop:=λxs H Q=>(∃a vs,xs=[.ref a]/\H a=some `dz/\Q (.int vs.length) H)\/wM K xs H Q
def Vk:aZ X (.builtin "len") (tV X.K):=λzG s Z H xs G Q I r h=>by
 rcases h with⟨a,F,rfl,e,q⟩|h
 .cases r with
  |cons L J=>
   cases J;cases L;let v:∀n:Nat,n=F.length->∀t,EP X zG Z Q (.int n t) {s with toks:=s.toks+1+1}:=λn M t=>#[.int n,H,I.kept λ_ _ z=>z,#[t,rfl],by rw[M];show q]
   rcases I.hok a _ e with⟨Y,⟨O,h1⟩|⟨_,xs,p,S⟩|⟨_,xs,p,_,S⟩⟩
   .show ST.VSet.len (K:=aO) (knd:=aE X.prog X.w) (ST.vset_new h1) `cq (v 0 (by rw[O];rfl) _)
   .let B:=p.length_eq;rw[qo]at B;show ST.VSet.len S ∅ (v _ B.symm _)
   .let B:=p.length_eq;rw[qo]at B;show ST.TRaw.len S ∅ (v _ B.symm _)
 .show NT zG s Z H xs G Q I r h
def bK.set(r:bK K F H v (.set l)):∃a xs,v=.ref a/\F a=some (.set xs)/\zE K F xs l:=by
 rcases r with r|⟨_,_,_,_,e,_⟩|⟨_,_,_,_,_,e,_⟩|⟨_,_,_,_,_,e,_⟩
 .cases r with
  |st e r=>show#[_,_,rfl,e,r]
 .cases e
 .cases e
 .cases e
def Wr:cT K (tV K) jK:=by
 intro Z U F G H M O s Q z B e J;let#[d,v,rfl,rfl]:=AY (λx y r=>by cases x<;>rfl) rfl B e;cases d with
 |set l=>cases e;let#[a,xs,rfl,h1,L]:=bK.set B.1;show .inl #[a,xs,rfl,z.fr _ _ h1,by rw[L.len];show J _ F H `c (z.push `do)]
 |_=>show .inr (Nl Z U F G H [v] _ s Q z B e J)
def SR(B:Gl X "len")(z:X.mg "len"=none)(G:FA X (e::es) wa)(F:autoParam (starEach (e::es) X.env=(false,eval e X.env)::starEach es X.env) rZ9)(v:autoParam ((backTo pos `h).any (·.1)=false) rZ9):FE X (.Call (.Name "len" p) (e::es) [] pos) (wB jK wa):=
 GO (λ_ _=>Vk) Wr B z PySem.boot_len G ⋯ ⋯ F v
end
def JD:∀l:List Nat,(∀x∈l,p x=true->q x=true)->l.countP p<=l.countP q
 |[],_=>q8 _
 |a::l,h=>by
  rw[countP_cons,countP_cons];let:=JD l λx v=>h x (qk _ v);cases e:p a with
  |true=>rw[h a qm e];lia
  |false=>simp;lia
def MB:∀l:List Nat,(∀x∈l,p x=true->q x=true)->(∃x,x∈l/\q x=true/\p x=false)->l.countP p<l.countP q
 |[],_,z=>by let#[_,z,_]:=z;cases z
 |a::l,h,z=>by
  rw[countP_cons,countP_cons];let#[x,v,B,F]:=z;by_cases e:x=a
  .subst e;let:=JD l λx v=>h x (qk _ v);rw[B];lia
  .let:=MB l (λx v=>h x (qk _ v)) #[x,(qB.mp v).resolve_left e,B,F];cases e:p a with
   |true=>rw[h a qm e];lia
   |false=>simp;lia
def aq(l:List D)(i:Nat):Int:=((List.range l.length).countP λj=>!eC (l.getD i .non) (l.getD j .non):Nat)
def Qo(o:fP P)(O:∀d∈l,P d)(hi:i<l.length)(M:j<l.length):decide (aq l i<aq l j)=!eC (l.getD j .non) (l.getD i .non):=by
 let v:∀k,k<l.length->P (l.getD k .non):=λk G=>by grind
 let B:=v i hi;let L:=v j M;unfold aq;cases e:eC (l.getD j .non) (l.getD i .non)with
 |false=>
  show qR (Int.ofNat_lt.mpr (MB _ (λk G h=>?_) #[i,qJ.mpr hi,by rw[e];rfl,?_]))
  .have J:=v k (qJ.mp G);cases q:eC (l.getD j .non) (l.getD k .non)with
   |false=>rfl
   |true=>
    let F:eC (l.getD i .non) (l.getD k .non)=false:=↑h
    rcases o.tot _ _ B L with z|z
    .rw[o.tr _ _ _ B L J z q]at F;cases F
    .rw[z]at e;cases e
  .rcases o.tot _ _ B B with z|z<;>rw[z]<;>rfl
 |true=>
  refine qS λh=>?_;let:=JD (p:=λk=>!eC (l.getD j .non) (l.getD k .non)) (q:=λk=>!eC (l.getD i .non) (l.getD k .non)) (List.range l.length) λk G h=>by
   let J:=v k (qJ.mp G);cases q:eC (l.getD i .non) (l.getD k .non)with
   |false=>rfl
   |true=>rw[o.tr _ _ _ L B J e q]at h;cases h
  lia
section
open PySem.W HT
theorem Xp{ks F:List aO}(i:Nat)(r:zD `cr M)(L:zD (F.map kV) vs)(h:eR sh (ks.map aI))(h':eR sh (F.map aI))(B:Q (bE (ks.map aI) (F.map aI)==.lt) s):KatLex prog w A b (decide (ks.length<F.length)) Q (M.zip vs) i s:=by
 induction ks generalizing M vs F i sh with
 |nil=>
  let e:F=[]:=by simpa using FX h h'
  subst e;cases r;show kat_nil B
 |cons k ks Y=>cases F with
  |nil=>have e:=FX (m:=(k::ks).map aI) h' h;cases e
  |cons j F=>
   rw[qz,qz]at B;let#[kd,h3,h1,h2]:=II h h';let e:decide ((k::ks).length<(j::F).length)=decide (ks.length<F.length):=decide_eq_decide.2 Nat.succ_lt_succ_iff;rw[e];cases r with
   |@cons _ u _ M O r=>
    cases L with
    |@cons _ v _ vs J L=>
     cases k with
     |inl n=>
      let#[t,rfl]:=O;cases j with
      |inr y=>rcases kd with⟨_,_,_,z⟩|⟨_,_,z,_⟩<;>cases z
      |inl m=>
       let#[t',rfl]:=J;show kat_cons (wpAny_eqBool_int ?_);let B:Q ((match cH (D.int n) (D.int m)with|.eq=>bE (ks.map aI) (F.map aI)|o=>o)==.lt) s:=B;rw[Hd]at B;by_cases nm:n=m
       .subst nm;rw[q5 (Int.lt_irrefl n),q5 (Int.lt_irrefl n)]at B;rw[show(n==n)=true by simp];show kat_yes (Y (i+1) r L h1 h2 B)
       .rw[show(n==m)=false by simp[nm]];let G:Q (decide (n<m)) s:=by
         by_cases z:n<m
         .rw[q4 z]at B;rw[qR z];show B
         .rw[q5 z,q4 ∅]at B;rw[qS z];show B
        show kat_no ?_;cases(b&&i==0)with
        |true=>show oneLt_int G
        |false=>show kat_one _ _ (PyProof.Rows.lt_int G)
     |inr x=>
      let#[t,rfl]:=O;cases j with
      |inl y=>rcases kd with⟨_,_,z,_⟩|⟨_,_,_,z⟩<;>cases z
      |inr y=>
       let#[t',rfl]:=J;show kat_cons (wpAny_eqBool_str ?_);let B:Q ((match cH (D.str x.cps.toList) (D.str y.cps.toList)with|.eq=>bE (ks.map aI) (F.map aI)|o=>o)==.lt) s:=B;rw[Ip]at B;by_cases nm:x=y
       .subst nm;rw[q5 (List.lt_irrefl _),q5 (List.lt_irrefl _)]at B;rw[qR rfl];show kat_yes (Y (i+1) r L h1 h2 B)
       .rw[qS nm];let G:Q (decide (x.cps.toList<y.cps.toList)) s:=by
         rcases UD x.cps.toList y.cps.toList with z|z|z
         .rw[q4 z]at B;rw[qR z];show B
         .rw[q5 (lt_asymm z),q4 z]at B;rw[qS (lt_asymm z)];show B
         .show absurd (EN (a:=.inr x) (b:=.inr y) (by show D.str _=D.str _;rw[z])) (λe=>nm (by cases e;rfl))
        show kat_no ?_;cases(b&&i==0)with
        |true=>show oneLt_str G
        |false=>show kat_one _ _ (PyProof.Rows.lt_str G)
def mQ(h:Heap)(b:Addr)(ks:List aO):Prop:=∃v,zD `cr v/\IsTup h b v.toArray
def CA:∀{ps:List (List aO×Addr)},(∀p∈ps,mQ h p.2 p.1/\eR (t::sh) (p.1.map aI))->∃fs:List Value,KatTups h (ps.map λp=>Value.ref p.2) fs/\fs.length=ps.length/\∀v∈fs,if t then∃z u,v=Value.str z u else∃z u,v=Value.int z u
 |[],_=>#[[],.nil,rfl,λ_ z=>nomatch z]
 |(ks,b)::ps,hp=>by
  let#[fs,M,L,J]:=CA (ps:=ps) λp Y=>hp p (qk _ Y);let#[#[G,r,o,e,c,n,d],B]:=hp (ks,b) qm;cases ks with
  |nil=>cases t<;>show B.elim
  |cons k ks=>
   cases r with
   |@cons _ u _ G F r=>
    show#[u::fs,.cons e c d rfl M,by simp[L],λv O=>?_];rcases qB.mp O with z|z
    .subst z;cases t
     .cases k with
      |inl i=>let#[tk,rfl]:=F;show#[_,_,rfl]
      |inr x=>show B.elim
     .cases k with
      |inl i=>show B.elim
      |inr x=>let#[tk,rfl]:=F;show#[_,_,rfl]
    .show J v z
end
def Inv.laidD(I:Inv X zG Z H s)(hn:∀m,s.heap.Ns X.env.locals m->h'.Ns X.env.locals m)(k:∀b u,b≠X.env.locals->s.heap.get? b=some u->h'.get? b=some u)
  (L:s.heap.get? a=none)(new:zF X.prog X.w (upd H a o) h' a o):Inv X zG Z (upd H a o) {s with heap:=h',toks:=t',drawn:=d'}:=by
 have F:H a=none:=by
  cases e:H a with
  |none=>rfl
  |some u=>let#[v,z]:=zF.there (I.hok a u e);rw[L]at z;cases z
 refine I.step (g':=s.gens) (d':=d') (ch:=[]) (λ_ z=>nomatch z) (λb B J _ _ e _=>k b B J e) (λb B J _ _ e _=>#[B.slots,k b B J e]) (λb B _ e n=>by rw[Ar (λz=>by rw[z,L]at e;cases e)];show n)
  (λb B _ e=>?_) (λb xs q=>by rw[Ar (DP q F)];show q) (λb u xs q=>by rw[Ar (DP q F)];show q) (λb ps q=>#[#[],by rw[Ar (DP q F),q];simp]) hn (λb B e=>?_) I.bare
 .by_cases G:b=X.env.locals
  .obtain⟨m,x,_⟩:=I.loc;let#[o',_,_,O,_]:=hn m x;show#[o',by rw[G];show O]
  .show#[B,k b B G e]
 .by_cases G:b=a
  .grind[Bh]
  .rw[Ar G]at e;show(I.hok b B e).stay (λc v M q=>k c v (λz=>?_) q) (λc q=>by rw[Ar (DP q F)];show q) λc xs q=>by rw[Ar (DP q F)];exact q
   rw[z]at M;rcases M with r|r
   .rw[<-r,I.free]at e;cases e
   .rw[I.free]at r;cases r
def RC(h:gP k v=true):zv (kV k) v:=by
 rcases EE h with⟨i,t,rfl,rfl⟩|⟨x,t,rfl,rfl⟩
 .show#[t,rfl]
 .show#[t,rfl]
def OM(r:zD xs ys)(p:B.Perm ys):∃v,v.Perm xs/\zD v B:=by
 induction p generalizing xs with
 |nil=>cases r;show#[[],.refl _,.nil]
 |cons x _ L=>
  cases r with
  |cons z r=>let#[v,p,q]:=L r;show#[_::v,.cons _ p,.cons z q]
 |swap x y l=>
  cases r with
  |cons z r=>
   cases r with
   |cons F r=>show#[_,.swap _ _ _,.cons F (.cons z r)]
 |trans _ _ J G=>grind
def di(X:Cx)(s:Shared)(a:Addr)(vs:List V):Prop:=∃es ep t v,ST.SetAt s.heap a es ep t/\ST.Rising t.place/\t.place.size=es.size/\(X.w.params.followText "set-order"=false->t.led=true)/\v.Perm vs/\zD v (es.toList.map (·.2))/\es.size=vs.length
def LI(I:Inv X zG Z H s)(e:H a=some `dz):di X s a vs:=by
 let led:∀{t:SetTable},t.led=ST.ldOf X.w->X.w.params.followText "set-order"=false->t.led=true:=λe h=>by rw[e];unfold ST.ldOf;rw[h];rfl
 have L:∀{xs:List (aO×Value)},ST.VSet (ST.ldOf X.w) `bk s.heap a xs->vs.Perm (xs.map λp=>kV p.1)->di X s a vs:=λ{xs} S p=>by
  let#[es,ep,t,h1,h2,J,G,v]:=S.at;let z:∀p∈xs,(aE X.prog X.w).is p.1 p.2=true/\p.2.scannable=true:=let⟨_,_,_,_,_,_,_,_,_,z,_⟩:=S;z
  have O:zD (xs.map λp=>kV p.1) (es.toList.map (·.2)):=by
   rw[v]
   clear v p S
   induction xs with
   |nil=>show .nil
   |cons x xs B=>show .cons (RC (z x qm).1) (B λq Y=>z q (qk _ Y))
  let hl:es.size=vs.length:=by let:=congrArg List.length v;rw[qo,qo,qV]at this;rw[p.length_eq,qo,this]
  show#[es,ep,t,_,h1,h2,J,led G,p.symm,O,hl]
 rcases I.hok a _ e with⟨hz,⟨h0,h1⟩|⟨_,xs,p,S⟩|⟨_,xs,p,M,S⟩⟩
 .show L (xs:=[]) (ST.vset_new h1) (by rw[h0];show .refl _)
 .show L S p
 .obtain⟨es,ep,t,h1,h2,J,G,v⟩:=(S.full λx F=>Dt I.hok (M x F)).at;refine#[es,ep,t,xs.map λp=>V.ref p.2,h1,h2,J,led G,p.symm,?_,?_]
  .rw[v]
   clear v p S M
   induction xs with
   |nil=>show .nil
   |cons x xs B=>show .cons rfl B
  .let:=congrArg List.length v;rw[qo,qo,qV]at this;rw[p.length_eq,qo,this]
def TK{α:Type}{l m:List α}(p:l.Perm m)(h:m.length<2):l=m:=by
 match m,h with
 |[],_=>show p.eq_nil
 |[a],_=>show p.eq_singleton
def IF{ι β:Type}{f:ι->β}{v:List β}{ns:List ι}(p:v.Perm (ns.map f)):∃ms:List ι,v=ms.map f/\ms.Perm ns:=by
 induction v generalizing ns with
 |nil=>simp_all
 |cons u v F=>let#[n,G,rfl]:=qK.mp (p.mem_iff.mp qm);let#[B,z,rfl]:=append_of_mem G;rw[map_append]at p;let#[ms,rfl,q]:=F (ns:=B++z) (by rw[map_append];show(p.trans perm_middle).cons_inv);show#[n::ms,rfl,(List.Perm.cons n q).trans perm_middle.symm]
def JL:∀{ps:List (List aO×Addr)}{v:List Value},zD (ps.map λp=>V.ref p.2) v->v=ps.map λp=>Value.ref p.2
 |[],_,.nil=>rfl
 |p::ps,_,.cons r t=>by let e:_=Value.ref p.2:=r;rw[e,JL t];rfl
def JN:∀ps:List (List aO×Addr),zD (ps.map λp=>V.ref p.2) (ps.map λp=>Value.ref p.2)
 |[]=>.nil
 |_::ps=>.cons rfl (JN ps)
section
variable{K:W.Frag}
def MU(I:Inv X zG Z H s)(k:∀b u,b≠X.env.locals->s.heap.get? b=some u->h'.get? b=some u){p:List aO×Addr}(e:H p.2=some (.tup (p.1.map kV))):mQ h' p.2 p.1:=by let#[v,r,#[o,e,c,n,d],_]:=I.tuple (bV.of e);show#[v,r,o,k p.2 o (λz=>?_) e,c,n,d];let#[m,#[o',es,ep,B,F,_],_]:=I.loc;grind
def WL(h:l.length<2):cE l=l:=by
 match l,h with
 |[],_=>rfl
 |[_],_=>rfl
def Mx:∀{sh:List Bool}{l:List D},eR sh l->l.all bR=true
 |[],[],_=>rfl
 |[],_::_,h=>h.elim
 |t::_,[],h=>by cases t<;>show h.elim
 |t::sh,a::l,h=>by cases t<;>cases a<;>first|show h.elim|show Mx (sh:=sh) (l:=l) h
end
def TU{K:Type}[DecidableEq K]{knd:KeyKind prog w K}{d:Addr}{zH:List (K×Value)}{k:K}{key v:Value}{Q:zj}(B:knd.is k key=true)(hm:s.heap.DictOf knd d zH)(L:valueAt zH k=none)(hsz:zH.length<=sizeLine)
  (hQ:∀h',h'.DictOf knd d (stored zH k v)->Heap.SameBut d s.heap h'->Q v {s with heap:=h',toks:=s.toks+1}):wpAny `b A (dictSetDefault d key v) Q E s:=by
 let#[o,es,ep,ho,hc,O,hk,Y,hn]:=hm;let h5:es.size<=sizeLine:=by let e1:=Y.length;rw[qV]at e1;lia
 let G:∀F∈zH,¬F.1=k:=λF h4 e=>by unfold valueAt at L;rw[Option.map_eq_none_iff,List.find?_eq_none]at L;show L F h4 (qR e)
 let J:¬(zH.any λF=>decide (F.1=k))=true:=λz=>by let#[F,h1,h2]:=any_eq_true.mp z;show G F h1 (qU h2)
 have M:(es.findIdx? λe=>knd.is k e.key)=none:=by
  let h1:(es.findIdx? λe=>knd.is k e.key)=zH.findIdx? λF=>decide (F.1=k):=by rw[<-Y.findIdx k];let#[l]:=es;simp
  rw[h1,findIdx?_eq_none_iff];show λF h=>qS (G F h)
 refine zf (qa (knd.pyHash B (qa (wpAny_dictFind_of (s:={s with toks:=s.toks+1}) B ho O hk ?_))));rw[M];refine qa (wpAny_rule (qa (wpAny_updateDictKeys (hz:=h5) (s:={s with toks:=s.toks+1}) ho O (qb (hQ _ ⟨_,_,ep+1,za _ ho (Obj.isFreed_of_dict (Obj.data_mapDictKeys O _)),
  hc.mapDictKeys _,Obj.data_mapDictKeys O _,hk.push B _,?_,?_⟩ (Heap.SameBut.update ..))))))
 .rw[stored,q5 J];let:=Y.append B `P v;simpa using this
 .rw[stored,q5 J,map_append];exact qx.mpr ⟨hn,by simp,λa ha b hb e=>by
   let#[F,h1,h2]:=qK.mp ha;let h3:b=k:=↑hb
   show G F h1 (h2.trans (e.trans h3))⟩
def Md{K:Type}[DecidableEq K]{knd:HeapKind prog w K}{d a:Addr}{xs:List (K×Addr×Value)}{k:K}{v:Value}{Q:zj}(hu:knd.room A)(F:knd.is s.heap k a)(hm:s.heap.DictOfH knd d xs)(hsz:xs.length<=sizeLine)
  (h1:∀p,atKey xs k=some p->Q p.2 {s with toks:=s.toks+knd.draws k})
  (h2:atKey xs k=none->∀h',h'.DictOfH knd d (storedH xs k a v)->Heap.SameBut d s.heap h'->Q v {s with heap:=h',toks:=s.toks+knd.draws k}):wpAny `b A (dictSetDefault d `p v) Q E s:=by
 let#[o,es,ep,J,hc,G,O,M,hn]:=hm;show zf (qa (knd.pyHash hu F (qa (wpAny_dictFind_heap (s:={s with toks:=s.toks+knd.draws k}) hu F J G O M hn (λB=>?_) λj p hj=>?_))))
 .have L:k∉xs.map (·.1):=not_mem_keys_of_get B;refine qa (wpAny_rule (qa (wpAny_updateDictKeys (hz:=by let e:=size_of_entries O;lia) (s:={s with toks:=s.toks+knd.draws k}) J G (qb (h2 `ea _ ⟨_,_,ep+1,za _ J (Obj.isFreed_of_dict (Obj.data_mapDictKeys G _)),
   hc.mapDictKeys _,Obj.data_mapDictKeys G _,?_,?_,?_⟩ (Heap.SameBut.update ..))))))
  .rw[storedH_new `ea];simp[O,entryOfKey]
  .rw[storedH_new `ea];intro x Y;rcases qy.mp Y with z|z
   .show knd.keeps (M x z) J G (Heap.SameBut.update ..)
   .rw[qv.mp z];show knd.keeps F J G (Heap.SameBut.update ..)
  .rw[storedH_new `ea,map_append];exact qx.mpr ⟨hn,by simp,λx Y y hy e=>by
    let h3:y=k:=↑hy
    show L (h3▸e▸Y)⟩
 .show qa (wpAny_dictEntries (s:={s with toks:=s.toks+knd.draws k}) J G ?_);rw[entry_at O j,hj];show qa (wpAny_rule (qb (h1 p (atKey_of_get hn hj))))
def Ir(B:s.TypeIs (.ref d) "dict")(F:(d==sysModules)=false)(h:wpAny `b A.in1 (dictSetDefault d u r) Q E s):wpAny `b A (call (.builtin "dict.setdefault") [.ref d,u,r]) Q E s:=by show zd PySem.F.slot_dict_setdefault B PySem.F.entry_dict_setdefault ?_ (PySem.F.args_dict_setdefault_3 _ _ _);show qa (qa (wpAny_notOrdered_dict B ?_));show qb ?_;show wpAny _ _ (if(d==sysModules)=true then _ else(dictSetDefault d u r>>=_)) _ _ s;rw[q5 (by rw[F];show qX)];show qa (zh h (λv s' q=>qb #[v,rfl,q]) λ_ _ z=>z)
def yX(H:Hp)(a:Addr)(y d:V)(v:V)(H':Hp):Prop:=(fG H a y `I/\H'=H)\/(fG H a y none/\v=d/\mS H a y d H')
def La(hu:A.units+1<cLine)(I:Inv X zG Z H s)(g:yX H a y d v H')(ry:zv y u)(rd:zv d r)(h:∀w' s',Inv X zG Z H' s'->zv v w'->Q w' s'):
  wpAny `a A (call (.builtin "dict.setdefault") [.ref a,u,r]) Q E s:=by
 rcases g with⟨⟨L,k,e,ey,l⟩|⟨L,k,b,e,ey,eb,l⟩,rfl⟩|⟨g,rfl,⟨L,k,e,ey,hl,eH⟩|⟨L,k,b,e,ey,eb,hl,eH⟩⟩
 .subst ey;let#[z,M,vs,B,J]:=Fj I.hok e;let#[w',hw,h6]:=dW.some_of (v:=v) (o:=valueAt vs k) (by rw[l];show B.val k);refine Ir J.typeIs M (wpAny_dictSetDefault_of (DL ry) J.mapOf (λv' hv=>?_) (λhn=>absurd (hn.symm.trans hw) (λz=>nomatch z)) (λo es ep h1 h2=>?_))
  .rw[hw]at hv;cases hv;show h _ _ `du h6
  .obtain⟨o',h9,e3,g1,_,g2,_,g3,_⟩:=J;rw[g1]at h1;cases h1;rw[g2]at h2;let e1:=g3.length;let e2:=B.length;rw[qV]at e1;lia
 .subst ey;cases(show u=Value.ref b from ry);let#[z,M,xs,B,J]:=Fi I.hok e;let#[w',hw,h6]:=dW.some_of (v:=v) (o:=(atKey xs k).map (·.2)) (by rw[l];show B.val k);refine Ir J.typeIs M (Md `da (Dt I.hok eb) J (by rw[<-Paired.length B];show z) (λp hp=>?_) λhn=>?_)
  .rw[hp]at hw;cases hw;show h _ _ `du h6
  .rw[hn]at hw;cases hw
 .subst ey eH;let#[z,M,vs,B,J]:=Ib I.hok e;let h7:valueAt vs k=none:=by
   rcases g with⟨h8,k',G,F,l'⟩|⟨_,_,_,_,F,_⟩
   .have ek:=GV F;subst ek;rcases G with G|⟨o',G⟩
    .rw[e]at G;cases G;let:=B.val k;rw[<-l']at this;cases q:valueAt vs k with
     |none=>rfl
     |some x=>rw[q]at this;show this.elim
    .rw[e]at G;cases G
   .cases k<;>cases F
  show Ir J.typeIs M (TU (DL ry) J h7 (by rw[<-B.length];show z) λh' Y hs=>h _ _ ?_ rd);show EK I (by rw[e];show True.intro) hs (let⟨q,_,_,hq,_⟩:=Y;#[q,hq]) (Ii (by let:=Gd L k v;lia) M (B.put k rd) Y)
 .subst ey eH;cases(show u=Value.ref b from ry);let#[z,M,xs,B,J]:=Jj I.hok e;let h7:∀p,atKey xs k=some p->False:=λp hp=>by
   rcases g with⟨_,k',_,F,_⟩|⟨h8,k',b',G,F,O,l'⟩
   .cases k'<;>cases F
   .cases F;rw[eb]at O;let ek:k=k':=Hk (by injection O with O;injection O);subst ek;rcases G with G|⟨o',G⟩
    .rw[e]at G;cases G;let:=B.val k;rw[<-l',hp]at this;show this
    .rw[e]at G;cases G
  show Ir J.typeIs M (Md `da (Dt I.hok eb) J (by rw[<-Paired.length B];show z) (λp hp=>(h7 p hp).elim) λ_ h' Y hs=>h _ _ ?_ rd);let#[q,es,ep,hq,h2,h3,h4,_,h5]:=Y;show EK I (by rw[e];show True.intro) hs ⟨q,hq⟩ ⟨by let:=Gd L k v;lia,M,_,(B.put k eb rd).keeps λc ys ec=>?_,q,es,ep,hq,h2,h3,h4,h5⟩;rw[Ar (Ia ec e (λz=>nomatch z))];show ec
def ah(F ty tx:TE):TE:=λZ H Q=>F Z H λx H1=>∃a,x=.ref a/\du H1 a/\ty Z H1 λy H2=>tx Z H2 λz G=>∃v B,yX G a y z v B/\Q v B
def SS(hu:X.A.units+1<cLine)(ho:PE X o J)(he:PE X e ty)(hf:PE X f tx)(m:M2 X o "setdefault" apos e f cpos):PE X (.Call (.Attribute o "setdefault" apos) [e,f] [] cpos) (ah J ty tx):=by
 intro zG s Z H Q I h;show wpAny_Call_method m.base m.few m.line PySem.F.plainAttrs_dict PySem.F.slot_dict_setdefault PySem.F.type_dict_setdefault (An (ho zG s Z H _ I h) λu Y G=>?_);let#[x,H1,F,rx,a,ex,d,q1]:=G;subst ex;obtain rfl:u=Value.ref a:=rx;let#[M,L,_]:=Ln F d;show#[M,L,?_];rw[m.trees];show Calls.callWith_builtin rfl (Calls.evalArgs_plain (Calls.spliced_cons (An (he zG Y Z H1 _ F q1) λiv O⟨y,H2,I2,ry,q2⟩=>Calls.spliced_cons (An (hf zG O Z H2 _ I2 q2) λfv s3⟨z,H3,I3,rz,v,H4,g,q3⟩=>Calls.spliced_nil ?_))))
 show La hu I3 g ry rz λw' s4 I4 B=>#[_,H4,I4,B,q3]
section
variable{K:W.Frag}
def Tc:fS (x::l) k=(open Classical in if x=k then some 0 else(fS l k).map (·+1)):=by grind[fS,List.findIdx]
def JE{κ:Type}[DecidableEq κ]{g:κ->D}(v:∀a b,g a=g b->a=b):∀(zH:List (κ×V))(k:κ),dG zH k=(fS (zH.map λp=>g p.1) (g k)).bind λm=>(zH.map (·.2))[m]?
 |[],k=>rfl
 |p::r,k=>by
  rw[qz,Tc];by_cases e:p.1=k
  .rw[GK e,q4 (by rw[e])];rfl
  .rw[GN e,q5 λz=>e (v _ _ z),JE v r k];cases fS (r.map λp=>g p.1) (g k)with
   |none=>rfl
   |some m=>rfl
def jP.get{a:Addr}{o:HO}{t:Bool}{ks:List D}{xs:List V}{y:V}{q:D}(d:jP ks xs t o)(e:H a=some o)(r:aQ K H y q)(G:aW t q=true):fG H a y ((fS ks q).bind λm=>xs[m]?):=by
 cases d with
 |@k v h1 h2=>subst h1 h2;let#[F,rfl,rfl]:=FU r G;show .inl #[v,F,.inl e,rfl,(JE (λ_ _=>EN) v F).symm]
 |@t v h1 h2=>
  subst h1 h2;cases r with
  |tup J q=>let#[B,rfl,rfl]:=FV q G;show .inr #[v,B,_,.inl e,rfl,J,(JE (g:=λl:List aO=>D.tup (l.map aI)) (λa b z=>GL (D.tup.inj z)) v B).symm]
  |_=>cases G
def Rel.sdefR{p D:Addr}(r:Rel K (U++[some (.lst [])]) (Z++[some `w]) F G H)(hs:slot U n=some `bc)(J:Z[n]?=some (some `k))(ry:aQ K H y q)(hk:aW t q=true)(hn:ks.Nodup)(hb:ks.length<big):
  ∃v H',yX H D y `w v H'/\Rel K (U.set n (some (.dct t (bI ks l q).1 (bI ks l q).2.1))) Z F G H'/\∃o xs,H' D=some o/\jP (bI ks l q).1 xs t o/\xs[(bI ks l q).2.2]?=some v:=by
 let rd:=r.drop (Ae r);let#[v',fp,e1,sr]:=rd.at hs;rw[J]at e1;let e2:V.ref D=v':=↑e1
 subst e2;let#[a',o,xs,fl,z1,_,Y,L,rl]:=FQ sr;cases z1;let O:=L.len;let z:=L.get Y ry hk;cases B:fS ks q with
 |some m=>
  let es:bI ks l q=(ks,l,m):=by unfold bI;rw[B]
  let M:m<xs.length:=by let:=(qg.mp (JX B)).1;lia
  rw[B]at z;let z:fG H D y xs[m]?:=z;rw[qh M]at z;rw[es];show#[xs[m],H,.inl #[z,rfl],by rw[NL hs];show rd,o,xs,Y,L,qh M]
 |none=>
  let es:bI ks l q=(ks++[q],l++[.lst []],ks.length):=by unfold bI;rw[B]
  rw[B]at z;let#[o',dp,h1,h2]:=L.put (v:=.ref p) Y ry hk hn (by rw[ze];show lt_trans hb ⋯);rw[es];show#[.ref p,_,.inr #[z,rfl,dp],r.dct hs J Y L (h2 B) λH' fl fs rl sr=>#[fl++fs,[],zu.snoc rl sr,by simp],o',_,Bh,h2 B,?_];rw[O,getElem?_append_right `j,sub_self];rfl
def Rel.appendAtD{D b:Addr}(r:Rel K (U++[some t,some (.dct tb ks l)]) (Z++[some v,some `k]) F G H)(h:U.length=Z.length)(hm:l[m]?=some (.lst l'))
  (hD:H D=some o)(ho:jP ks xs tb o)(hb:xs[m]?=some `ak)(hy:H b=some `dw):
  ys.length=l'.length/\Rel K (U++[some (.dct tb ks (l.set m (.lst (l'++[t]))))]) (Z++[some `k]) F G (upd H b (.lst (ys++[v]))):=by
 let#[fp,e,nd,ap]:=r.en;let#[f1,f2,rfl,a,c]:=e.cut h;cases c with
 |@so _ _ _ _ M f3 st c=>
 cases c with
 |@so _ _ _ _ fD fn sd nl=>
 cases nl;let#[a',o2,Y,fl,z1,rfl,h6,h4,rl]:=FQ sd;cases z1;rw[hD]at h6;cases h6;let ex:Y=xs:=by
  cases ho with
  |k _ z=>cases h4 with|k _ z'=>rw[z,z']
  |t _ z=>cases h4 with|t _ z'=>rw[z,z']
 subst ex;let#[x,O,fi,L,J,sx,rfl,up]:=rl.at hm;rw[hb]at J;cases J;cases sx with
 |@lst _ e1 _ B h5 ry=>
 rw[hy]at h5;cases h5;show#[ry.len,?_];let hp:(f1++(M++(D::(O++(b::B++L))++[]))).Perm (b::(f1++(M++(D::(O++(B++L)))))):=by let h1:(O++b::(B++L)).Perm (b::(O++(B++L))):=perm_middle;show((h1.cons D).append_left (f1++M)|>.trans ?_|>λz=>↑z);let h2:(D::b::(O++(B++L))).Perm (b::D::(O++(B++L))):=List.Perm.swap ..;show(h2.append_left (f1++M)).trans ?_;show perm_middle.trans (by rw[qp])
 let h8:=hp.nodup_iff.mp nd;let#[nb,_]:=qL.mp h8;let ne:∀{w:List Addr},(∀x∈w,x∈f1++(M++(D::(O++(B++L)))))->∀x∈w,upd H b (.lst (ys++[v])) x=H x:=λhw x J=>Ar λz=>nb (z▸hw x J);let h7:=ap b (hp.mem_iff.mpr qm);let new:aK K F (upd H b (.lst (ys++[v]))) `ak (.lst (l'++[t])) (b::(B++M)):=.lst Bh (zu.snoc (ry.mono `c (ne λx J=>by simp[J])) (st.mono `c (ne λx J=>by simp[J])));let r2:=up (H':=upd H b (.lst (ys++[v]))) (ne λx J=>by rcases qy.mp J with z|z<;>simp[z]) new
 have e2:Y.set m `ak=Y:=by
  apply ext_getElem?;intro j;by_cases hj:m=j
  .subst hj;rw[getElem?_set_self (qg.mp hb).1,hb]
  .rw[getElem?_set_ne hj]
 rw[e2]at r2;let h9:D≠b:=λz=>nb (by simp[z]);let top:aK K F (upd H b (.lst (ys++[v]))) `k (.dct tb ks (l.set m (.lst (l'++[t])))) (D::(O++((b::(B++M))++L))):=h4.mk ((Ar h9).trans hD) r2;let p:(f1++((D::(O++((b::(B++M))++L)))++[])).Perm (f1++(M++(D::(O++(b::B++L))++[]))):=by
  show List.Perm.append_left _ ?_;simp;let h1:(B++(M++L)).Perm (M++(B++L)):=by rw[<-qp,<-qp];show List.Perm.append_right _ qN
  let h2:(O++b::(B++(M++L))).Perm (M++(O++b::(B++L))):=by show((h1.cons b).append_left O).trans ?_;let h3:(b::(M++(B++L))).Perm (M++(b::(B++L))):=perm_middle.symm;show(h3.append_left O).trans ?_;rw[<-qp,<-qp];show List.Perm.append_right _ qN
  show(h2.cons D).trans ?_;show perm_middle.symm
 show#[zp.updR r.fr h7.1,λx o w=>?_,_,(a.mono `c (ne λx J=>by simp[J])).app (.so top .nil),p.nodup_iff.mpr nd,λx J=>ap x (p.mem_iff.mp J)];let J:x≠b:=λz=>by rw[z,h7.2]at w;cases w
 rw[Ar J];show r.gr x o w
end
theorem set_set{U:Env}:(U.set n a).set n b=U.set n b:=List.set_set ..
def TF(h:slot U n=some s):slot (U.set n (some s')) n=some s':=by
 induction U generalizing n with
 |nil=>cases h
 |cons a U v=>cases n with
  |zero=>rfl
  |succ n=>show v h
def Wq(hu:X.A.units+1<cLine)(ho:FE X o (zk j))(hi:FE X i wi)(he:FE X e we)(m2:M2 X o "setdefault" h5 i (.List [] lp) h4)
  (e3:autoParam (attributeBase (.Call (.Attribute o "setdefault" h5) [i,.List [] lp] [] h4) "append" X.env (eval (.Call (.Attribute o "setdefault" h5) [i,.List [] lp] [] h4) X.env)=eval (.Call (.Attribute o "setdefault" h5) [i,.List [] lp] [] h4) X.env) rZ9)
  (k2:autoParam (((backTo cpos (starEach [e] X.env)).all (λx=>!x.1)&&(backToKw cpos (keywordEach [] X.env)).all (λx=>x.1.isSome)
   &&decide ([e].length+([]:List Keyword).length+(if([]:List Keyword).isEmpty then 0 else 1)<30))=true) rZ9)
  (h9:autoParam ((apos.endLine==cpos.line)=true) rZ9)(hs:autoParam (starEach [e] X.env=[(false,eval e X.env)]) rZ9):FE X (.Call (.Attribute (.Call (.Attribute o "setdefault" h5) [i,.List [] lp] [] h4) "append" apos) [e] [] cpos) (eS j wi we):=λpn xe hp=>by
 show PE.imp (FK (X:=wp X pn xe) PySem.F.plainAttrs_list PySem.F.slot_list_append PySem.F.type_list_append IV (SS (X:=wp X pn xe) hu `bb (hi pn xe hp) (Bo Ab pn xe hp) #[m2.base,m2.few,m2.line,m2.trees]) `bw e3 k2 h9 hs rfl) λZ H Q q=>?_;let#[F,G,U,P,PX,zI,hw,hok,hx]:=q;unfold eS at hw;cases qs:slot U j with
 |none=>rw[qs]at hw;show hw.elim
 |some s0=>
  cases s0 with
  |dct t0 ks0 l0=>
   rw[qs]at hw;dsimp only at hw;show#[F,G,U,λy U1=>y=.loc j/\U1=U,PX,zI,by unfold zk;rw[qs];show#[rfl,rfl],λy U1 o' F1 H1 M s1 r1 rv=>?_,hx];let#[rfl,rfl]:=M;let l1:=Ae r1;let Y:Z[j]?=some (some o'):=rv;let r2:=r1.drop l1;let h8:∃D,o'=.ref D/\du H1 D:=by
    let#[v',fp,e1,sr]:=r2.at qs;rw[Y]at e1;let e2:o'=v':=↑e1
    subst e2;let#[a',o,xs,fl,z1,_,hD,h3,rl]:=FQ sr;subst z1;cases h3 with
    |k _ _=>show#[a',rfl,.inl #[_,.inl hD]]
    |t _ _=>show#[a',rfl,.inr #[_,.inl hD]]
   let#[D,rfl,h8]:=h8;show#[D,rfl,h8,?_];show#[F1,G,U1,_,PX,r2,hw,λz U2 i' F2 H2 L s2 r3 rv2=>?_,hx.grow s1];let l2:=Ae r3;split at L
   .rename_i q t ks l eq ql;let#[k1,hnd,k3,L]:=L;split at L
    .rename_i l' el;let#[G3,hd,gg,e4]:=r3.hide l2;show#[F2,G3,U2,λw B=>w=.v (.lst [])/\B=U2,PX,hd,#[rfl,rfl],λw B d' F3 H3 hk3 s3 r4 rv4=>?_,hx.mono (λ_ z=>z) `as gg];let#[rfl,rfl]:=hk3;let r5:=e4 s3 r4;rw[qp,qp]at r5;let r6:Rel X.K (B++[zr z,some (.lst [])]) (Z++[some i',some d']) F3 G H3:=Rel.swap (U1:=[some (.lst [])]) (Z1:=[some d']) (U2:=[zr z]) (Z2:=[some i']) l2 rfl r5;let ri:=look (U':=[some (.lst [])]) (Z':=[some d']) r6 l2 rv2 eq;let r7:Rel X.K (B++[some (.lst [])]) (Z++[some d']) F3 G H3:=Rel.mid r6 l2;let hd':∃p,d'=.ref p:=by
      let#[u,fp,e1,sr]:=r7.at (i:=B.length) (s:=.lst []) EM;rw[l2,getElem?_append_right `j,sub_self]at e1;let e2:d'=u:=↑e1
      subst e2;cases sr with
      |lst _ _=>show#[_,rfl]
     let#[p,rfl]:=hd';let#[v,H4,ds,r8,ob,xs,hD,h3,hv]:=Rel.sdefR r7 ql Y ri k1 hnd k3;let hql:=TF (s':=.dct t (bI ks l q).1 (bI ks l q).2.1) ql;let l8:(B.set j (some (.dct t (bI ks l q).1 (bI ks l q).2.1))).length=Z.length:=↑l2
     let r9:=Rel.lend (U':=[]) (Z':=[]) (r8.pushN (u:=some `k)) l8 hql Y;rw[set_set]at r9;let l5:(B.set j none).length=Z.length:=↑l2
     obtain⟨G2,fq,r10,gg2,sq,hG,back⟩:=r9.hide2 l5;let#[a',o2,xs',fl,z1,efq,hD',h6,rl]:=FQ sq;cases z1;rw[hD]at hD';cases hD';let ex:xs'=xs:=by
      cases h3 with
      |k _ z=>cases h6 with|k _ z'=>rw[z,z']
      |t _ z=>cases h6 with|t _ z'=>rw[z,z']
     subst ex;let#[x,fa,fi,fb,hq,sx,efl,_]:=rl.at el;rw[hv]at hq;cases hq;cases sx with
     |@lst b ys _ fy hy ry=>
     show#[_,H4,ds,.inl #[rfl,_,bQ.of hy],F3,G2,B.set j none,λrs h7=>match rs with|[r]=>(zo (give r h7) λp=>l'.length<big/\P `v (p.2.set j (some (.dct t (bI ks l q).1 ((bI ks l q).2.1.set (bI ks l q).2.2 (.lst (l'++[p.1])))))))|_=>False,PX,r10,L,λrs h7 vs F4 H5 M s4 O hl J=>?_,hx.mono (λ_ z=>z) (s1.trans `bo) gg2];match rs,vs,J,O,M with
     |[r],[v],J,O,M=>
      dsimp only at M;let#[#[t',U5],eg,M]:=Ao M;let hr:=back s4 O;simp only[qz,map_nil,qp,qO,nil_append]at hr;let l3:h7.length=Z.length:=hl;let#[F5,s5,l4,r13]:=AA (U':=[some (.dct t (bI ks l q).1 (bI ks l q).2.1)]) (Z':=[some `k]) hr l3 J.1 eg;let kept:∀c∈D::fl,H5 c=H4 c:=λc hc=>by let#[o,h1,h2]:=hG c (efq▸hc);rw[(O.gr c o h1).1.1,h2]
      let hb:b∈D::fl:=qk _ (by rw[efl];simp);let#[ha,r14]:=Rel.appendAtD r13 (l4.trans l3) el ((kept D qm).trans hD) h3 hv ((kept b hb).trans hy);let hm:=Rel.back1 (U':=[]) (Z':=[]) (i:=j) r14 (l4.trans l3) Y;rw[qA,qA]at hm;show#[b,ys,v,rfl,rfl,(kept b hb).trans hy,by rw[ha,ze];show lt_trans M.1 ⋯,hok _ _ .non F5 _ M.2 (s1.trans (s2.trans (s3.trans (s4.trans s5)))) (hm.push .non) trivial]
     |[],_,_,_,M=>show M.elim
     |[_],[],J,_,_=>show J.elim
     |[_],_::_::_,J,_,_=>show J.2.elim
     |_::_::_,_,_,_,M=>show M.elim
    .show L.elim
   .show L.elim
  |_=>rw[qs]at hw;show hw.elim
end FL
namespace FL
def fe(f:List D->List D->Option S)(o:WE)(a:WA):WE:=λU Q E=>o U (λx z=>match x with
 |.v (.sh (.lst l))=>a z (λB v=>zo (B.mapM λr=>zC r v) λF=>zo (f l F) λs=>Q `L v) E
 |_=>False) E
def oS:D->Bool
 |.non=>true
 |.bl _=>true
 |.int _=>true
 |.str _=>true
 |_=>false
open Classical in
def yK(l:List D)(x:D):Option Nat:=if l.all (λd=>oS d&& !aS d x)then l.findIdx? (λd=>decide (d=x))else none
def gC(l:List D):List D->Option S
 |[x]=>(yK l x).map λ(i:Nat)=>.sh (.int (i:Int))
 |_=>none
def iY:List D->Option S
 |[.tup l]=>if l.length<64/\(dS l).isSome then some (.lst ((cE l).map .sh))else none
 |_=>none
open Classical in
def hU(l:List D):Option S:=if l.length<128/\(l.length<2\/∃sh,sh≠[]/\∀d∈l,gU sh d)then some (.lst ((cE l).map .sh))else none
def yR:List D->Option S
 |[.lst l]=>hU l
 |[.set l]=>hU l
 |_=>none
open Classical in
def cF(l:List D):Option S:=if(l.length<64/\((dS l).isSome=true\/(dB l).isSome=true))\/l.length<128/\(l.length<2\/∃sh,sh≠[]/\∀d∈l,gU sh d)then some (.lst ((cE l).map .sh))else none
def cY:List D->Option S
 |[.lst l]=>cF l
 |[.set l]=>cF l
 |_=>none
end FL
namespace FL
open PySem PySem.Spec PyProof.Rows L2
def Xq(F:s.heap.IsTuple l vs.toArray)
  (h:Q vs {s with heap:=(s.heap.push (seqObj "list" #[] 0)).update s.heap.objs.size (Obj.mapSeq (·++vs.toArray))})(hsz:vs.length<=sizeLine):
  wpAny `b A (collect (.ref l)) Q E s:=by
 let#[o,B,J,n,G]:=id F;show qa (wpAny_runValue (codeAny_builtin entry_proto_collect' ?_));show qa (wpAny_newList (qb #[Code.quiet_builtin _ (by decide+kernel),codeAny_builtin entry_list_iadd' ?_]));show wpAny _ _ (Builtin.List.listExtendWith `g (.ref l) `g) _ _ {s with heap:=s.heap.push (seqObj "list" #[] 0)};let v:(s.heap.push (seqObj "list" #[] 0)).get? l=some o:=qc _ B;show qa (wpAny_typeOf (T:="tuple") #[o,v,J] ?_);let z:(Value.type "tuple"==Value.type "tuple")=true:=by rfl
 rw[q4 (by rw[z];simp)];show qa (listItems_at v G ?_);show qa (listItems_at (xs:=#[]) (n:=0) (qd _ rfl) rfl ?_);show qa (listUpdate_at (xs:=#[]) (n:=0) (qd _ rfl) rfl ?_ `cq (by show(#[]++vs.toArray).size<=sizeLine+1;simp;lia));show qb ?_;show qa (wpAny_load (get?_update_seq (qd _ rfl) _) ?_);show wpAny _ _ (pure ((#[]:Array Value)++vs.toArray).toList) Q E _;rw[show((#[]:Array Value)++vs.toArray).toList=vs by simp];show qb h
def Wx(L:s.heap.IsTuple l vs.toArray)(M:IntsAre vs ns)(J:vs.length<64)
  (h:∀(z:Array Value)(v:List Int),IntsAre z.toList v->v.Perm ns->v.Pairwise (·<=·)->Q (.ref (s.heap.objs.size+1)) {s with heap:=sortedAll s.heap vs z}):
  wpAny `b A (call (.builtin "sorted") [.ref l]) Q E s:=by
 let G:vs.length<=sizeLine:=by rw[ze];lia
 show Calls.call_function_entry kind_sorted plain_sorted entry_sorted (args_sorted1 _) (?_:wpAny _ _ _ _ _ _);show qa (m:=checkCount "sorted" 1 1 _) (qb (qa (Xq L ?_ G)));show qa (wpAny_newList ?_);let B:((s.heap.push (seqObj "list" #[] 0)).update s.heap.objs.size (Obj.mapSeq (·++vs.toArray))).objs.size=s.heap.objs.size+1:=by rw[Heap.size_update,size_push']
 let F:(((s.heap.push (seqObj "list" #[] 0)).update s.heap.objs.size (Obj.mapSeq (·++vs.toArray))).push (seqObj "list" vs.toArray 0)).get? (s.heap.objs.size+1)=some (seqObj "list" vs.toArray 0):=by rw[<-B];show qd _ rfl
 rw[B];show qa (zf (zd slot_list_sort #[_,F,rfl] entry_list_sort (list_sort_tree F M J λz v a1 Y O=>#[_,rfl,?_]) (args_list_sort _)));show qb #[_,rfl,h z v a1 Y O]
section
variable{K:W.Frag}
def nV(K:W.Frag):List V->Hp->VK->Prop:=λxs H Q=>∃a,∃ns:List Int,xs=[.ref a]/\ns.length<64/\bV K H a `Y/\∀v:List Int,v.Perm ns->v.Pairwise (·<=·)->∀q,H q=none->Q (.ref q) (upd H q (.lst (v.map V.int)))
def We:aZ X (.builtin "sorted") (nV X.K):=by
 intro zG s Z H xs us Q I r h;let#[a,Y,rfl,G,hq,q]:=h;cases r with
 |cons M L=>
  cases L;cases M;let#[z,r,O,_]:=I.tuple hq;let F:z.length=Y.length:=by let:=r.length;rw[qo]at this;show this.symm
  show Wx (show s.heap.IsTuple a z.toArray from O) (Hs r) (by rw[F];show G) λB v a1 J a3=>?_;let#[e,he]:=sortedAll_at s.heap z B;let hz:v.length<=sizeLine:=by rw[J.length_eq,ze];lia
  show#[.ref (s.heap.objs.size+1),_,I.laid (t':=s.toks) (o:=.lst (v.map V.int)) (λb ob w=>sortedAll_old w) `am ?_,rfl,q v J a3 _ (I.hok.fresh `am)];show#[by rw[qo];show hz,B.toList,e,Gb a1,by rw[toArray_toList];show he]
def Wj:cT K (nV K) iY:=by
 intro Z U F G H vs ds s Q B M e O;let#[d,v,rfl,rfl]:=AY (λx y r=>by cases x<;>rfl) rfl M e;cases d with
 |tup l=>
  let e:(if l.length<64/\(dS l).isSome then some (S.lst ((cE l).map .sh))else none)=some s:=e;split at e
  .rename_i hc;cases e;let#[a,xs,rfl,h1,Y]:=M.1.tup;let#[L,hi]:=hc;let#[ns,q1]:=isSome_iff_exists.mp hi;let#[e1,e2]:=JM Y q1;subst e1 e2;show#[a,ns,rfl,by rwa[qo]at L,.of (B.fr _ _ h1),λJ p pw q hn=>?_];rw[FR Hf (m:=J.map D.int) (λd hd=>by let#[z,_,rfl]:=qK.mp hd;trivial) (p.map _) (pairwise_map.mpr (pw.imp λ{a b} h=>by rw[GZ];show qR h))]at O;show O _ F _ `c (B.newLD hn (IQ J))
  .cases e
 |_=>cases e
def TX(F:Gl X "sorted")(B:X.mg "sorted"=none)(z:bootBuiltins "sorted"=some (.builtin "sorted"))(J:FA X (e::es) wa)(G:autoParam (starEach (e::es) X.env=(false,eval e X.env)::starEach es X.env) rZ9)(v:autoParam ((backTo pos `h).any (·.1)=false) rZ9):FE X (.Call (.Name "sorted" p) (e::es) [] pos) (wB iY wa):=
 GO (λpn xe=>We (X:=wp X pn xe)) Wj F B z J ⋯ ⋯ G v
def rW(K:W.Frag):V->List V->Hp->VK->Prop:=λx z H Q=>∃a xs v y d j,x=.ref a/\z=[y]/\bQ K H a xs/\zE K H xs v/\aQ K H y d/\yK v d=some j/\Q `bp H
def MD:∀{xs:List V}{l:List D},zE K F xs l->∀{j:Nat}{v:V},xs[j]?=some v->∃d,l[j]?=some d/\aQ K F v d
 |_,_,.nil,j,v,h=>by simp at h
 |_,_,.cons a b,0,v,h=>by cases h;show#[_,rfl,a]
 |_,_,.cons a b,j+1,v,h=>MD b (j:=j) h
def MS:∀{xs:List V}{z:List Value},zD xs z->∀{j:Nat}{u:Value},z[j]?=some u->∃v,xs[j]?=some v/\zv v u
 |_,_,.nil,j,u,h=>by simp at h
 |_,_,.cons a b,0,u,h=>by cases h;show#[_,rfl,a]
 |_,_,.cons a b,j+1,u,h=>MS b (j:=j) h
def gk:Value->Option D
 |.none=>some .non
 |.bool b=>some (.bl b)
 |.int i _=>some `O
 |.str x _=>some (.str x.cps.toList)
 |_=>none
def RJ(r:aQ K H v d)(z:zv v u)(h:oS d=true):gk u=some d:=by
 cases r with
 |non=>cases z;rfl
 |bl b=>cases z;rfl
 |int i=>let#[t,rfl]:=z;rfl
 |str e _=>let#[t,rfl]:=z;rw[<-e];rfl
 |_=>cases h
open Classical in
def UI:zO X "list.index" (rW X.K):=by
 intro zG s Z H x vs v us Q I rx rv h;let#[a,xs,ds,y,d,j,rfl,rfl,hq,rd,ry,hj,q]:=h;cases rx;let#[u,rfl,ru]:=rv.one;let#[B,r,pl,hz]:=I.list hq;unfold yK at hj;split at hj
 .rename_i J;rw[qI]at J;let#[#[cls,dd,data,sl],ho,hc,n,hd]:=id pl.isList;simp only at hc hd;subst hc hd;let e1:=r.length;let h9:=rd.len
  --each thing of the list against u
  let O:∀(k:Nat)(G:Value),B[k]?=some G->∃F,ds[k]?=some F/\gk G=some F/\∀{A:Around},PySem.SeqAt.EqAt A s G u (decide (F=d)):=λk G hk=>by let#[vk,h1,h2]:=MS r hk;let#[F,h3,h4]:=MD rd h1;let:=J F (qM h3);rw[and_eq_true,Bool.not_eq_true']at this;show#[F,h3,RJ h4 h2 this.1,(JF h4 ry h2 ru this.2 (λl e=>by rw[e]at this;cases this.1) (λl e=>by rw[e]at this;cases this.1)).1]
  let#[h8,h7,h6]:=List.findIdx?_eq_some_iff_getElem.mp hj;let Y:∀m(hm:m<B.toArray.size)(L:m<ds.length),decide (gk B.toArray[m]=some d)=decide (ds[m]=d):=λm hm L=>by let#[F,h1,h2,_]:=O m B.toArray[m] (by rw[qh ↑hm];simp);rw[qh L]at h1;rw[h2,<-qf h1];simp
  let M:j<B.toArray.size:=by rw[qr];lia
  rw[ze]at hz;refine call_meets PySem.F.slot_list_index #[_,ho,rfl] PySem.F.entry_list_index (PySem.F.args_list_index_2 _ _)
   (PySem.SeqAt.list_indexAt a B.toArray n dd sl u (λG=>decide (gk G=some d)) j M ∅ ?_ ?_) #[ho,λG hw=>?_,?_]
  .show(Y j M h8).trans h7
  .intro m hm h5;show(Y m hm ∅).trans ?_;let:=h6 m h5;simpa using this
  .obtain⟨k,hk,e⟩:=Array.mem_iff_getElem.mp hw;let#[F,h1,h2,h3]:=O k G (by rw[qh ↑hk,<-e];simp);rw[h2];let:decide (some F=some d)=decide (F=d):=by simp
   rw[this];show h3
  .show#[.int _,H,I.kept λ_ _ z=>z,#[_,rfl],q]
 .cases hj
end
def VN(ho:FE X o wo)(ha:FA X [e] wa)
  (O:autoParam (attributeBase o "index" X.env `at=eval o X.env) rZ9)
  (h2:autoParam (((backTo cpos (starEach [e] X.env)).all (λx=>!x.1)&&(backToKw cpos (keywordEach [] X.env)).all (λx=>x.1.isSome)
   &&decide ([e].length+([]:List Keyword).length+(if([]:List Keyword).isEmpty then 0 else 1)<30))=true) rZ9)
  (M:autoParam ((apos.endLine==cpos.line)=true) rZ9)(hs:autoParam (starEach [e] X.env=(false,eval e X.env)::starEach [] X.env) rZ9)(J:autoParam ((backTo cpos (starEach [] X.env)).any (·.1)=false) rZ9):
  FE X (.Call (.Attribute o "index" apos) [e] [] cpos) (fe gC wo wa):=λpn xe hp=>by
 refine PE.imp (FK (X:=wp X pn xe) PySem.F.plainAttrs_list PySem.F.slot_list_index PySem.F.type_list_index UI `bb `ar O h2 M hs J) λZ H Q q=>?_;refine(one (k:=λx h3 Q E=>match x with
  |.v (.sh (.lst l))=>wa h3 (λrs z=>zo (rs.mapM λr=>zC r z) λds=>zo (gC l ds) λs=>Q `L z) E
  |_=>False) q).mono λv H1 h1=>?_
 let#[F,G,U,x,P,PX,L,hl,rx,hk,h5,hx]:=h1;split at hk
 .rename_i l;let rp:aQ X.K F v `i:=by
   let#[u,fp,e1,q]:=L.at (i:=U.length) (s:=.sh `i) EM;rw[hl,getElem?_append_right `j]at e1;let e2:v=u:=↑e1
   subst e2;cases q with
   |sh r=>show r
  cases rp with
  |lst hq rd=>
   rename_i a xs;show#[.inl #[rfl,xs,bQ.mono L.fr hq],F,G,U,_,PX,L.drop hl,hk,λrs z vs F2 H2 B s2 r2 h6 h4=>?_,hx];let#[ds,ed,B]:=Ao B;let#[s,es,B]:=Ao B;let#[F3,s3,re,Y]:=Bk (U':=[]) (Z':=[]) ↑r2 h6 h4 ed;let#[d,v,rfl,rfl]:=AY (λx y r=>by cases x<;>rfl) rfl re es;let#[i,ei,rfl]:=qY.mp es;let Y:Rel X.K z Z F3 G H2:=↑Y
   let sm:zp F H2:=(s2.trans s3).trans Y.fr;show#[a,xs,l,v,d,i,rfl,rfl,bQ.mono sm hq,rd.mono sm,re.1.view Y.fr,ei,h5 _ z _ F3 H2 B `bo (Y.push `do) trivial]
 .show hk.elim
end FL
namespace TS
open PySem PyProof.Rows
def dI:Bool->Keyed->Array Keyed->Nat->Nat->Nat->StateT SortSt Sem `bm:=sortPriv%PySem.Builtin.gallop
def ask(left:Bool)(key:Keyed)(arr:Array Keyed)(i:Nat):StateT SortSt Sem (Option Bool):=do
 let x<-elem' arr i
 if left then lt' x key else return(<-lt' key x).map (!·)
def yN(left:Bool)(key:Keyed)(arr:Array Keyed)(base n u0 v0:Nat):StateT SortSt Sem `bm:=do
 let mut u:=u0
 let mut v:=v0
 for _ in[0:n] do
  if u≥v then break
  let m:=u+(v-u)/2
  let some y<-ask left key arr (base+m)|return none
  if y then u:=m+1 else v:=m
 return some v
structure Cmp(M:Model)(A:Around)(E:zj)(s:Shared)(κ:SortKind)(ok:Keyed->Prop)(rk:Keyed->Int):Prop where
 lt:∀(x y:Keyed)(Q:Option Bool->SortSt->Prop)(st:SortSt),kindOf st=κ->ok x->ok y->Q (some (decide (rk x<rk y))) st->wpS M A E s (lt' x y) Q st
def Ac{v:Array Keyed}{i:Nat}{Q:Keyed->SortSt->Prop}{st:SortSt}(h:i<v.size)(z:Q v[i] st):wpS M A E s (elem' v i) Q st:=by rw[elem'_eq,getElem?_eq_getElem h];show wpS_pure z
def bA(rk:Keyed->Int)(xs:Array Keyed)(i:Nat):Int:=(xs[i]?).elim 0 rk
def eD(rk:Keyed->Int)(left:Bool)(key:Keyed)(v:Array Keyed)(i:Nat):Bool:=if left then decide (bA rk v i<rk key)else decide (bA rk v i<=rk key)
def Af{v:Array Keyed}{i:Nat}(h:i<v.size):bA rk v i=rk v[i]:=by unfold bA;rw[getElem?_eq_getElem h];rfl
def Bj(C:Cmp M A E s κ ok rk){left:Bool}{key:Keyed}{v:Array Keyed}(F:ok key)(G:∀i(h:i<v.size),ok v[i]){i:Nat}(hi:i<v.size){Q:Option Bool->SortSt->Prop}{st:SortSt}(z:kindOf st=κ)
  (B:Q (some (eD rk left key v i)) st):wpS M A E s (ask left key v i) Q st:=by
 show wpS_bind (Ac hi ?_);unfold eD at B;rw[Af hi]at B;cases left
 .show wpS_bind (C.lt _ _ _ _ z F (G _ hi) (wpS_pure ?_));rw[show decide (rk v[i]<=rk key)=!decide (rk key<rk v[i]) by simp[<-Int.not_lt]]at B;show B
 .show C.lt _ _ _ _ z (G _ hi) F B
@[inline]def Up(rk:Keyed->Int)(xs:Array Keyed)(lo hi:Nat):Prop:=∀i j,lo<=i->i<=j->j<hi->bA rk xs i<=bA rk xs j
def AK{left:Bool}{key:Keyed}{v:Array Keyed}{base n:Nat}(z:Up rk v base (base+n)){i j:Nat}(B:i<=j)(F:j<n)(h:eD rk left key v (base+j)=true):eD rk left key v (base+i)=true:=by let:=z (base+i) (base+j) ∅ ∅ ∅;unfold eD at h⊢;cases left<;>simp_all<;>lia
def mT(rk:Keyed->Int)(left:Bool)(key:Keyed)(z:Array Keyed)(base n u v:Nat):Prop:=u<=v/\v<=n/\(∀i,i<u->eD rk left key z (base+i)=true)/\∀i,v<=i->i<n->eD rk left key z (base+i)=false
def Bp(C:Cmp M A E s κ ok rk){left:Bool}{key:Keyed}{arr:Array Keyed}{base n u v:Nat}{Q:Option Nat->SortSt->Prop}{st:SortSt}(hk:ok key)(ha:∀i(h:i<arr.size),ok arr[i])(hn:base+n<=arr.size)(hu:Up rk arr base (base+n))(hst:kindOf st=κ)(hc:mT rk left key arr base n u v)
  (h:∀k,mT rk left key arr base n k k->Q (some k) st):wpS M A E s (yN left key arr base n u v) Q st:=by
 have no_up:∀{i j:Nat},i<=j->j<n->eD rk left key arr (base+i)=false->eD rk left key arr (base+j)=false:=λ{i j} hij hj hb=>by
  cases q:eD rk left key arr (base+j)with
  |false=>rfl
  |true=>rw[AK hu hij hj q]at hb;cases hb
 refine wpS_bind (wpS_mono (wpS_forRange (I:=λx c st'=>st'=st/\c.1=none/\mT rk left key arr base n c.2.1 c.2.2/\c.2.2-c.2.1<=n-x)
  (Q:=λc st'=>st'=st/\c.1=none/\mT rk left key arr base n c.2.2 c.2.2) ?step ?fin #[rfl,rfl,hc,by let:=hc.2.1;simp only;lia]) ?post)
 case fin=>
  rintro⟨r,l,u⟩ st' ⟨rfl,hr,⟨g1,g2,g3,g4⟩,g5⟩;obtain rfl:l=u:=∅
  show#[rfl,hr,g1,g2,g3,g4]
 case step=>
  rintro x ⟨r,l,u⟩ st' _ hx ⟨rfl,hr,⟨g1,g2,g3,g4⟩,g5⟩;by_cases hlu:l≥u
  .rw[q4 hlu];obtain rfl:l=u:=by lia
   show wpS_pure #[rfl,rfl,g1,g2,g3,g4]
  .rw[q5 hlu];show wpS_bind (Bj C hk ha ∅ hst ?_);cases q:eD rk left key arr (base+(l+(u-l)/2))with
   |true=>show wpS_pure #[rfl,rfl,#[by simp only;lia,g2,λi hi=>AK hu (show i<=l+(u-l)/2 by simp only at hi;lia) ∅ q,g4],by simp only;lia]
   |false=>show wpS_pure #[rfl,rfl,#[by simp only;lia,by simp only;lia,g3,λi hi hin=>no_up (show l+(u-l)/2<=i from hi) hin q],by simp only;lia]
 case post=>rintro⟨r,l,u⟩ st' ⟨rfl,hr,g⟩;subst hr;show wpS_pure (h u g)
def Av(C:Cmp M A E s κ ok rk){left:Bool}{key:Keyed}{arr:Array Keyed}{base n hint:Nat}{Q:Option Nat->SortSt->Prop}{st:SortSt}(hk:ok key)(ha:∀i(h:i<arr.size),ok arr[i])(hn:base+n<=arr.size)(hh:hint<n)(hu:Up rk arr base (base+n))(hst:kindOf st=κ)
  (h:∀k,mT rk left key arr base n k k->Q (some k) st):wpS M A E s (dI left key arr base n hint) Q st:=by
 have no_up:∀{i j:Nat},i<=j->j<n->eD rk left key arr (base+i)=false->eD rk left key arr (base+j)=false:=λ{i j} hij hj hb=>by
  cases q:eD rk left key arr (base+j)with
  |false=>rfl
  |true=>rw[AK hu hij hj q]at hb;cases hb
 show wpS_bind (Bj C hk ha ∅ hst ?_);cases q:eD rk left key arr (base+hint)with
 |true=>
  refine wpS_bind (wpS_mono (wpS_forRange (I:=λx c st'=>st'=st/\c.1=none/\c.2.1<c.2.2/\x<c.2.2/\hint+c.2.1<n/\eD rk left key arr (base+(hint+c.2.1))=true)
   (Q:=λc st'=>st'=st/\c.1=none/\c.2.1<c.2.2/\hint+c.2.1<n/\eD rk left key arr (base+(hint+c.2.1))=true/\(n<=hint+c.2.2\/eD rk left key arr (base+(hint+c.2.2))=false)) ?step ?fin #[rfl,rfl,⋯,⋯,hh,↑q]) ?post)
  case fin=>rintro⟨r,l,u⟩ st' ⟨rfl,hr,g1,g2,g3,g4⟩;show#[rfl,hr,g1,g3,g4,.inl (by simp only at g2⊢;lia)]
  case step=>
   rintro x ⟨r,l,u⟩ st' _ hx ⟨rfl,hr,g1,g2,g3,g4⟩;by_cases hlu:u≥n-hint
   .rw[q4 hlu];show wpS_pure #[rfl,rfl,g1,g3,g4,.inl (by simp only;lia)]
   .rw[q5 hlu];show wpS_bind (Bj C hk ha ∅ hst ?_);cases q2:eD rk left key arr (base+(hint+u))with
    |true=>show wpS_pure #[rfl,rfl,by simp only;lia,by simp only;lia,by simp only;lia,q2]
    |false=>show wpS_pure #[rfl,rfl,g1,g3,g4,.inr q2]
  case post=>
   rintro⟨r,l,u⟩ st1 ⟨rfl,hr,g1,g3,g4,g5⟩;subst hr;show Bp C hk ha hn hu hst #[∅,∅,λi hi=>AK hu (show i<=hint+l by lia) g3 g4,λi hi hin=>?_] h;rcases g5 with g5|g5
   .lia
   .show no_up (show hint+u<=i by lia) hin g5
 |false=>
  refine wpS_bind (wpS_mono (wpS_forRange (I:=λx c st'=>st'=st/\c.1=none/\c.2.1<c.2.2/\x<c.2.2/\c.2.1<=hint/\eD rk left key arr (base+(hint-c.2.1))=false)
   (Q:=λc st'=>st'=st/\c.1=none/\c.2.1<c.2.2/\c.2.1<=hint/\eD rk left key arr (base+(hint-c.2.1))=false/\(hint<c.2.2\/eD rk left key arr (base+(hint-c.2.2))=true)) ?step ?fin #[rfl,rfl,⋯,⋯,by simp,by show q]) ?post)
  case fin=>rintro⟨r,l,u⟩ st' ⟨rfl,hr,g1,g2,g3,g4⟩;show#[rfl,hr,g1,g3,g4,.inl (by simp only at g2⊢;lia)]
  case step=>
   rintro x ⟨r,l,u⟩ st' _ hx ⟨rfl,hr,g1,g2,g3,g4⟩;by_cases hlu:u≥hint+1
   .rw[q4 hlu];show wpS_pure #[rfl,rfl,g1,g3,g4,.inl (by simp only;lia)]
   .rw[q5 hlu];show wpS_bind (Bj C hk ha ∅ hst ?_);cases q2:eD rk left key arr (base+(hint-u))with
    |true=>show wpS_pure #[rfl,rfl,g1,g3,g4,.inr q2]
    |false=>show wpS_pure #[rfl,rfl,by simp only;lia,by simp only;lia,by simp only;lia,q2]
  case post=>
   rintro⟨r,l,u⟩ st1 ⟨rfl,hr,g1,g3,g4,g5⟩;subst hr;show Bp C hk ha hn hu hst #[∅,∅,λi hi=>?_,λi hi hin=>no_up (show hint-l<=i by lia) hin g4] h;rcases g5 with g5|g5
   .lia
   .show AK hu (show i<=hint-u by lia) ∅ g5
def gH(g:Nat):StateT SortSt Sem Unit:=modify λs=>SortSt.mk' (kindOf s) (arrOf s) (pendingOf s) g (failedOf s)
def gL:Array Keyed->Array Keyed->StateT SortSt Sem `C:=sortPriv%PySem.Builtin.mergeLo
def gZ(a b o:Array Keyed)(i j:Nat):Array Keyed:=o++a.extract i a.size++b.extract j b.size
def fin2(a b o:Array Keyed)(i j:Nat):Array Keyed:=o++b.extract j b.size++a.extract i a.size
abbrev Mo:=Array Keyed×Nat×Nat×Nat×Nat×Nat
abbrev LS(α:Type):=ForInStep (Option `C×α)
def lh(a b:Array Keyed)(g c d i:Nat)(o:Array Keyed)(j:Nat):StateT SortSt Sem (LS Mo):=do
 let x<-elem' a i
 if i+1+1==a.size then return .done (some (fin2 a b (o.push x) (i+1) j),o.push x,i+1,j,g,c,d)
 if c<7&&d<7 then return .done (none,o.push x,i+1,j,g,c,d)
 return .yield (none,o.push x,i+1,j,g,c,d)
def lj(a b:Array Keyed)(g c d j:Nat)(o:Array Keyed)(i:Nat):StateT SortSt Sem (LS Mo):=do
 let x<-elem' b j
 if j+1==b.size then return .done (some (gZ a b (o.push x) i (j+1)),o.push x,i,j+1,g,c,d)
 match<-dI true (<-elem' a i) b (j+1) (b.size-(j+1)) 0 with
 |some k=>
  if k>0 then
   if j+1+k==b.size then return .done (some (gZ a b (o.push x++b.extract (j+1) (j+1+k)) i (j+1+k)),o.push x++b.extract (j+1) (j+1+k),i,j+1+k,g,c,k)
   lh a b g c k i (o.push x++b.extract (j+1) (j+1+k)) (j+1+k)
  else lh a b g c k i (o.push x) (j+1)
 |_=>return .done (some (gZ a b (o.push x) i (j+1)),o.push x,i,j+1,g,c,d)
def lo1(a b o:Array Keyed)(i j c d g:Nat):StateT SortSt Sem (LS Mo):=do
 gH g
 match<-dI false (<-elem' b j) a i (a.size-i) 0 with
 |some k=>
  if k>0 then
   if i+k+1==a.size then return .done (some (fin2 a b (o++a.extract i (i+k)) (i+k) j),o++a.extract i (i+k),i+k,j,g,k,d)
   if i+k==a.size then return .done (some (gZ a b (o++a.extract i (i+k)) (i+k) j),o++a.extract i (i+k),i+k,j,g,k,d)
   lj a b g k d j (o++a.extract i (i+k)) (i+k)
  else lj a b g k d j o i
 |_=>return .done (some (gZ a b o i j),o,i,j,g,c,d)
def nt(a b:Array Keyed)(g:Nat)(s:Option `C×Array Keyed×Nat×Nat×Nat×Nat):StateT SortSt Sem (LS (Array Keyed×Nat×Nat×Nat×Nat)):=do
 match<-lt' (<-elem' b s.2.2.2.1) (<-elem' a s.2.2.1)with
 |some y=>
  if y then
   let x<-elem' b s.2.2.2.1
   if s.2.2.2.1+1==b.size then return .done (some (gZ a b (s.2.1.push x) s.2.2.1 (s.2.2.2.1+1)),s.2.1.push x,s.2.2.1,s.2.2.2.1+1,0,s.2.2.2.2.2+1)
   if s.2.2.2.2.2+1≥g then return .done (none,s.2.1.push x,s.2.2.1,s.2.2.2.1+1,0,s.2.2.2.2.2+1)
   return .yield (none,s.2.1.push x,s.2.2.1,s.2.2.2.1+1,0,s.2.2.2.2.2+1)
  else
   let x<-elem' a s.2.2.1
   if s.2.2.1+1+1==a.size then return .done (some (fin2 a b (s.2.1.push x) (s.2.2.1+1) s.2.2.2.1),s.2.1.push x,s.2.2.1+1,s.2.2.2.1,s.2.2.2.2.1+1,0)
   if s.2.2.2.2.1+1≥g then return .done (none,s.2.1.push x,s.2.2.1+1,s.2.2.2.1,s.2.2.2.2.1+1,0)
   return .yield (none,s.2.1.push x,s.2.2.1+1,s.2.2.2.1,s.2.2.2.2.1+1,0)
 |_=>return .done (some (gZ a b s.2.1 s.2.2.1 s.2.2.2.1),s.2.1,s.2.2.1,s.2.2.2.1,s.2.2.2.2.1,s.2.2.2.2.2)
def gc(a b:Array Keyed)(s:Option `C×Mo):StateT SortSt Sem (LS Mo):=lo1 a b s.2.1 s.2.2.1 s.2.2.2.1 s.2.2.2.2.2.1 s.2.2.2.2.2.2 (if s.2.2.2.2.1>1 then s.2.2.2.2.1-1 else s.2.2.2.2.1)
def lg(a b:Array Keyed)(t:Nat)(s:Option `C×Array Keyed×Nat×Nat×Nat):StateT SortSt Sem (LS (Array Keyed×Nat×Nat×Nat)):=
 (forIn [:t] (none,s.2.1,s.2.2.1,s.2.2.2.1,0,0) λ_=>nt a b s.2.2.2.2)>>=λr=>Break.runK.match_1 (λ_=>StateT SortSt Sem (LS (Array Keyed×Nat×Nat×Nat))) r.1 (λx=>pure (.done (some x,r.2.1,r.2.2.1,r.2.2.2.1,s.2.2.2.2))) λ_=>do
  rule "list.sort.gallop"
  (forIn [:t] (none,r.2.1,r.2.2.1,r.2.2.2.1,s.2.2.2.2+1,r.2.2.2.2) λ_=>gc a b)>>=λq=>Break.runK.match_1 (λ_=>StateT SortSt Sem (LS (Array Keyed×Nat×Nat×Nat))) q.1 (λx=>pure (.done (some x,q.2.1,q.2.2.1,q.2.2.2.1,q.2.2.2.2.1))) λ_=>do
   gH (q.2.2.2.2.1+1)
   return .yield (none,q.2.1,q.2.2.1,q.2.2.2.1,q.2.2.2.2.1+1)
def Cv(a b:Array Keyed):gL a b=(do
 rule "list.sort.merge-lo"
 let x<-elem' b 0
 if 1==b.size then return gZ a b [x].toArray 0 1
 if 0+1==a.size then return fin2 a b [x].toArray 0 1
 let s<-get
 (forIn [:a.size+b.size] (none,[x].toArray,0,1,gallopOf s) λ_=>lg a b (a.size+b.size))>>=λr=>Break.runK.match_1 (λ_=>StateT SortSt Sem `C) r.1 (λr=>pure r) λ_=>unsupported "internal:list.sort.merge-bound"):=by
 let e:∀(s:Option (Array Keyed)×Mo),gc a b s=(if s.2.2.2.2.1>1 then lo1 a b s.2.1 s.2.2.1 s.2.2.2.1 s.2.2.2.2.2.1 s.2.2.2.2.2.2 (s.2.2.2.2.1-1)else lo1 a b s.2.1 s.2.2.1 s.2.2.2.1 s.2.2.2.2.2.1 s.2.2.2.2.2.2 s.2.2.2.2.1):=λs=>by unfold gc;by_cases hg:s.2.2.2.2.1>1<;>simp[hg,if_true,if_false]
 unfold lg;rw[show gc a b=_ from funext e];rfl
def gV(rk:Keyed->Int)(l:List Keyed):Prop:=l.Pairwise λx y=>rk x<=rk y
@[inline]def Below(rk:Keyed->Int)(l m:List Keyed):Prop:=∀x∈l,∀y∈m,rk x<=rk y
structure MG(rk:Keyed->Int)(all l ra rb:List Keyed):Prop where
 perm:(l++(ra++rb)).Perm all
 sl:gV rk l
 sa:gV rk ra
 sb:gV rk rb
 la:Below rk l ra
 lb:Below rk l rb
def MG.swap(m:MG rk all l z v):MG rk all l v z:=#[((qN (l₁:=v)).append_left l).trans m.perm,m.sl,m.sb,m.sa,m.lb,m.la]
def MG.takeA(m:MG rk all l (p++G) F)(h:Below rk p F):MG rk all (l++p) G F:=by
 let#[h1,h2,J]:=pairwise_append.mp m.sa;show#[↑m.perm,pairwise_append.mpr #[m.sl,h1,λx B y v=>m.la x B y (qj _ v)],h2,m.sb,λx B y v=>?_,λx B y v=>?_]
 .show(qy.mp B).elim (λz=>m.la x z y (qi _ v)) λz=>J x z y v
 .show(qy.mp B).elim (λz=>m.lb x z y v) λz=>h x z y v
def MG.takeB(m:MG rk all l v (p++z))(h:Below rk p v):MG rk all (l++p) v z:=(m.swap.takeA h).swap
def MG.end(m:MG rk all l z v)(h:Below rk v z):(l++v++z).Perm all/\gV rk (l++v++z):=by rw[qp];show#[((qN (l₁:=v)).append_left l).trans m.perm,pairwise_append.mpr #[m.sl,pairwise_append.mpr #[m.sb,m.sa,h],λx B y F=>(qy.mp F).elim (m.lb x B y) (m.la x B y)]]
def AD{x y:Keyed}(h:rk x<=rk y)(hs:gV rk (y::l)):∀z∈y::l,rk x<=rk z:=λz v=>by
 rcases qB.mp v with rfl|v
 .show h
 .show Int.le_trans h ((pairwise_cons.mp hs).1 z v)
def Am{α:Type}{a:Array α}{i:Nat}(h:i<a.size):a.toList.drop i=a[i]::a.toList.drop (i+1):=by rw[drop_eq_getElem_cons h];simp
def CI{a:Array Keyed}{i n:Nat}(h:gV rk `J)(hn:i+n<=a.size):Up rk a i (i+n):=λj k h1 h2 v=>by
 rw[Af (show j<a.size by lia),Af (show k<a.size by lia)];by_cases e:j=k
 .subst e;show Int.le_refl _
 .let:=pairwise_iff_getElem.mp h (j-i) (k-i) (by simp;lia -verbose) (by simp;lia -verbose) ∅;simpa[show i+(j-i)=j by lia,show i+(k-i)=k by lia] using this
def BC{left:Bool}{a:Array Keyed}{i n k:Nat}{key:Keyed}(v:mT rk left key a i n k k)(hn:i+n<=a.size)(hs:gV rk (key::l)):Below rk ((a.toList.drop i).take k) (key::l):=λx z=>by let#[j,B,rfl]:=List.mem_iff_getElem.mp z;let F:=v.2.1;rw[qH,qG,qV]at B;let h1:=v.2.2.1 j ∅;unfold eD at h1;rw[Af (show i+j<a.size by lia)]at h1;show AD ?_ hs;simp;cases left<;>simp at h1<;>lia
def Az{Z:Type}{name:String}{Q:PUnit->Z->Prop}{st:Z}(h:Q ⟨⟩ st):wpS M A E s (liftM (rule name):StateT Z Sem PUnit) Q st:=wpS_lift (wpAny_rule #[rfl,h])
def bN(st v:SortSt):Prop:=kindOf v=kindOf st/\arrOf v=arrOf st/\pendingOf v=pendingOf st/\failedOf v=failedOf st
def bN.trans{st z v:SortSt}(h:bN st z)(k:bN z v):bN st v:=#[k.1.trans h.1,k.2.1.trans h.2.1,k.2.2.1.trans h.2.2.1,k.2.2.2.trans h.2.2.2]
def AE{g:Nat}{Q:PUnit->SortSt->Prop}{st:SortSt}(h:∀v,bN st v->Q ⟨⟩ v):wpS M A E s (gH g) Q st:=wpS_modify (h _ #[rfl,rfl,rfl,rfl])
def hE(rk:Keyed->Int)(a b r:Array Keyed):Prop:=r.toList.Perm (a.toList++b.toList)/\gV rk r.toList
structure Go(rk:Keyed->Int)(a b o:Array Keyed)(i j:Nat):Prop where
 m:MG rk (a.toList++b.toList) o.toList `J `R
 i:i+1<a.size
 j:j<b.size
section
variable{a b o:Array Keyed}
def EV(m:MG rk (a.toList++b.toList) o.toList `J `R)(h:j=b.size):hE rk a b (gZ a b o i j):=by
 let v:b.toList.drop j=[]:=by simp[h]
 rw[v]at m;let:=m.end λx z=>nomatch z
 unfold hE gZ;simpa[v,take_of_length_le,h] using this
def EU(m:MG rk (a.toList++b.toList) o.toList `J `R)(h:i+1=a.size)(B:∀y∈b.toList,rk y<bA rk a (a.size-1)):hE rk a b (fin2 a b o i j):=by
 let:=m.end λx z y v=>by rw[Am (show i<a.size by lia),drop_of_length_le (by simp;lia -verbose),qv]at v;let h1:=B x (List.mem_of_mem_drop z);rw[show a.size-1=i by lia,Af (show i<a.size by lia),<-v]at h1;show Int.le_of_lt h1
 unfold hE fin2;simpa[take_of_length_le] using this
def Ed(m:MG rk (a.toList++b.toList) o.toList `J `R)(hi:i<a.size)(B:j<b.size)(h:rk b[j]<=rk a[i]):MG rk (a.toList++b.toList) (o.push b[j]).toList `J (b.toList.drop (j+1)):=by rw[Am B]at m;rw[toList_push];let v:=m.sa;rw[Am hi]at v;show MG.takeB (p:=[b[j]]) m λx z=>?_;rw[qv.mp z,Am hi];show AD h v
def Fw(m:MG rk (a.toList++b.toList) o.toList `J `R)(hi:i<a.size)(z:j<b.size)(h:rk a[i]<=rk b[j]):MG rk (a.toList++b.toList) (o.push a[i]).toList (a.toList.drop (i+1)) `R:=by rw[Am hi]at m;rw[toList_push];let v:=m.sb;rw[Am z]at v;show MG.takeA (p:=[a[i]]) m λx B=>?_;rw[qv.mp B,Am z];show AD h v
def Gw(m:MG rk (a.toList++b.toList) o.toList `J `R)(hi:i<=a.size)(z:j<b.size)(B:mT rk false b[j] a i (a.size-i) k k):MG rk (a.toList++b.toList) (o++a.extract i (i+k)).toList (a.toList.drop (i+k)) `R:=by let v:=m.sb;rw[Am z]at v;rw[<-take_append_drop k `J,drop_drop]at m;rw[toList_append,toList_extract,extract_eq_take_drop,show i+k-i=k by lia];show MG.takeA m ?_;rw[Am z];show BC B ∅ v
def Gv(m:MG rk (a.toList++b.toList) o.toList `J `R)(hi:i<a.size)(B:j<=b.size)(z:mT rk true a[i] b j (b.size-j) k k):MG rk (a.toList++b.toList) (o++b.extract j (j+k)).toList `J (b.toList.drop (j+k)):=by let v:=m.sa;rw[Am hi]at v;rw[<-take_append_drop k `R,drop_drop]at m;rw[toList_append,toList_extract,extract_eq_take_drop,show j+k-j=k by lia];show MG.takeB m ?_;rw[Am hi];show BC z ∅ v
def iG{α:Type}(rk:Keyed->Int)(a b:Array Keyed)(n:Nat)(r:ForInStep (Option `C×Array Keyed×Nat×Nat×α)):Prop:=match r with
 |.done (some r,_)=>hE rk a b r
 |.done (none,o,i,j,_)=>Go rk a b o i j/\n<o.size
 |.yield (q,o,i,j,_)=>q=none/\Go rk a b o i j/\n<o.size
structure zP(C:Cmp M A E s κ ok rk)(a b:Array Keyed):Prop where
 oa:∀i(h:i<a.size),ok a[i]
 ob:∀i(h:i<b.size),ok b[i]
 hl:∀y∈b.toList,rk y<bA rk a (a.size-1)
def Gp{C:Cmp M A E s κ ok rk}(H:zP C a b){st:SortSt}(F:kindOf st=κ)(G:Go rk a b o i j)(r:Option `C):wpS M A E s (nt a b g (r,o,i,j,c,d)) (λr B=>B=st/\iG rk a b o.size r) st:=by
 let hi:i<a.size:=by let:=G.i;lia
 let J:=G.j;show wpS_bind (Ac G.j ?_);show wpS_bind (Ac hi ?_);show wpS_bind (C.lt _ _ _ _ F (H.ob _ G.j) (H.oa _ hi) ?_);by_cases v:rk b[j]<rk a[i]
 .rw[qR v];show wpS_bind (Ac G.j ?_);let m:=Ed G.m hi G.j (Int.le_of_lt v);let sz:o.size<(o.push b[j]).size:=by simp
  by_cases h1:j+1=b.size
  .simp only[h1,beq_self_eq_true];show wpS_pure #[rfl,h1▸EV m h1]
  .simp[beq_eq_false_iff_ne.mpr h1,false_eq_true,if_false];let z:Go rk a b (o.push b[j]) i (j+1):=#[m,G.i,by let:=G.j;lia]
   split
   .show wpS_pure #[rfl,z,sz]
   .show wpS_pure #[rfl,rfl,z,sz]
 .rw[qS v];show wpS_bind (Ac hi ?_);let m:=Fw G.m hi G.j ∅;let sz:o.size<(o.push a[i]).size:=by simp
  by_cases h1:i+1+1=a.size
  .simp only[h1,beq_self_eq_true];show wpS_pure #[rfl,EU m h1 H.hl]
  .simp[beq_eq_false_iff_ne.mpr h1,false_eq_true,if_false];let z:Go rk a b (o.push a[i]) (i+1) j:=#[m,by let:=G.i;lia,G.j]
   split
   .show wpS_pure #[rfl,z,sz]
   .show wpS_pure #[rfl,rfl,z,sz]
def CU{left:Bool}{key:Keyed}{v:Array Keyed}{base:Nat}(B:mT rk left key v base n k k)(z:k<n)(hn:base+n<=v.size):rk key<=rk (v[base+k]'∅):=by let:=B.2.2.2 k `j z;unfold eD at this;rw[Af (show base+k<v.size by lia)]at this;cases left<;>simp at this<;>lia
def El{C:Cmp M A E s κ ok rk}(H:zP C a b){st:SortSt}(m:MG rk (a.toList++b.toList) o.toList `J `R)(hi:i+1<a.size)(z:j<b.size)(h:rk a[i]<=rk b[j])(hn:n<=o.size):wpS M A E s (lh a b g c d i o j) (λr v=>v=st/\iG rk a b n r) st:=by
 show wpS_bind (Ac (show i<a.size by lia) ?_);let m:=Fw m (show i<a.size by lia) z h;let sz:n<(o.push a[i]).size:=by simp;lia
 by_cases h1:i+1+1=a.size
 .simp only[h1,beq_self_eq_true];show wpS_pure #[rfl,EU m h1 H.hl]
 .simp[beq_eq_false_iff_ne.mpr h1,false_eq_true,if_false];let B:Go rk a b (o.push a[i]) (i+1) j:=#[m,∅,z]
  split
  .show wpS_pure #[rfl,B,sz]
  .show wpS_pure #[rfl,rfl,B,sz]
def Em{C:Cmp M A E s κ ok rk}(H:zP C a b){st:SortSt}(B:kindOf st=κ)(m:MG rk (a.toList++b.toList) o.toList `J `R)(hi:i+1<a.size)(G:j<b.size)(h:rk b[j]<=rk a[i])(hn:n<=o.size):wpS M A E s (lj a b g c d j o i) (λr z=>z=st/\iG rk a b n r) st:=by
 show wpS_bind (Ac G ?_);let m:=Ed m (show i<a.size by lia) G h;let sz:n<=(o.push b[j]).size:=by simp;lia
 by_cases h1:j+1=b.size
 .simp only[h1,beq_self_eq_true];show wpS_pure #[rfl,h1▸EV m h1]
 .simp only[beq_eq_false_iff_ne.mpr h1,if_false];show wpS_bind (Ac (show i<a.size by lia) ?_);show wpS_bind (Av C (H.oa _ _) H.ob ∅ ∅ (CI m.sb ∅) B λk v=>?_);let L:=v.2.1;by_cases J:k>0
  .simp only[J];let F:=Gv m (show i<a.size by lia) ∅ v;by_cases h2:j+1+k=b.size
   .simp only[h2,beq_self_eq_true];show wpS_pure #[rfl,h2▸EV F h2]
   .simp only[beq_eq_false_iff_ne.mpr h2,if_false];show El H F hi ∅ (CU v ∅ ∅) (by simp;lia -verbose)
  .simp;obtain rfl:k=0:=by lia
   show El H m hi ∅ (CU v ∅ ∅) sz
def Gn{C:Cmp M A E s κ ok rk}(H:zP C a b){st:SortSt}(B:kindOf st=κ)(G:Go rk a b o i j):wpS M A E s (lo1 a b o i j c d g) (λr v=>bN st v/\iG rk a b o.size r) st:=by
 have hi:=G.i;let J:=G.j;show wpS_bind (AE λh3 ks=>?_);show wpS_bind (Ac J ?_);show wpS_bind (Av C (H.ob _ _) H.oa ∅ ∅ (CI G.m.sa ∅) (ks.1.trans B) λk O=>?_);let L:i+k<a.size:=by
  rcases lt_or_ge (i+k) a.size with h|h
  .show h
  .let h1:=O.2.2.1 (a.size-1-i) ∅;let h2:=H.hl b[j] (by simp);unfold eD at h1;rw[show i+(a.size-1-i)=a.size-1 by lia]at h1;lia
 let F:=CU O ∅ ∅;by_cases k0:k>0
 .simp only[k0];let Y:=Gw G.m ∅ J O;by_cases h1:i+k+1=a.size
  .simp only[h1,beq_self_eq_true];show wpS_pure #[ks,EU Y h1 H.hl]
  .simp only[beq_eq_false_iff_ne.mpr h1,beq_eq_false_iff_ne.mpr (show i+k≠a.size by lia),if_false];show wpS_mono (Em (n:=o.size) H (ks.1.trans B) Y ∅ J F (by simp)) λr v z=>#[z.1▸ks,z.2]
 .simp;obtain rfl:k=0:=by lia
  show wpS_mono (Em (n:=o.size) H (ks.1.trans B) G.m ∅ J F `j) λr v z=>#[z.1▸ks,z.2]
def dh{α:Type}(rk:Keyed->Int)(a b:Array Keyed)(n:Nat)(r:ForInStep (Option `C×Array Keyed×Nat×Nat×α)):Prop:=match r with
 |.done c=>∃r,c.1=some r/\hE rk a b r
 |.yield c=>c.1=none/\Go rk a b c.2.1 c.2.2.1 c.2.2.2.1/\n<c.2.1.size
def Gm{C:Cmp M A E s κ ok rk}(H:zP C a b){st st':SortSt}(hst:kindOf st=κ)(ks:bN st st')(G:Go rk a b o i j)(ht:0<t)(q:Option `C):wpS M A E s (lg a b t (q,o,i,j,g)) (λr st'=>bN st st'/\dh rk a b o.size r) st':=by
 refine wpS_bind (wpS_mono (wpS_forRange (I:=λ_ c st1=>c.1=none/\st1=st'/\Go rk a b c.2.1 c.2.2.1 c.2.2.2.1/\o.size<=c.2.1.size)
  (Q:=λc st1=>st1=st'/\((∃r,c.1=some r/\hE rk a b r)\/c.1=none/\Go rk a b c.2.1 c.2.2.1 c.2.2.2.1/\o.size<=c.2.1.size)) ?step1 (λc st1⟨h1,h2,h3,h4⟩=>#[h2,.inr #[h1,h3,h4]]) #[rfl,rfl,G,q8 _]) ?post1)
 case step1=>
  rintro y ⟨q,o1,i1,j1,c1,d1⟩ st1 _ _ ⟨_,rfl,G1,ho1⟩;show wpS_mono (Gp (g:=g) (c:=c1) (d:=d1) H (ks.1.trans hst) G1 q) λr st2⟨e,z⟩=>?_;subst e;unfold iG at z;split at z
  .show#[rfl,.inl #[_,rfl,z]]
  .show#[rfl,.inr #[rfl,z.1,le_of_lt (lt_of_le_of_lt ho1 z.2)]]
  .show#[z.1,rfl,z.2.1,le_of_lt (lt_of_le_of_lt ho1 z.2.2)]
 rintro⟨q,o1,i1,j1,c1,d1⟩ st1 ⟨rfl,⟨r,hq,hr⟩|⟨hq,G1,ho1⟩⟩
 .cases hq;show wpS_pure #[ks,r,rfl,hr]
 cases hq;show wpS_bind (Az ?_);refine wpS_bind (wpS_mono (wpS_forRange (I:=λy c st2=>c.1=none/\bN st st2/\Go rk a b c.2.1 c.2.2.1 c.2.2.2.1/\o.size<=c.2.1.size/\(0<y->o.size<c.2.1.size))
  (Q:=λc st2=>bN st st2/\((∃r,c.1=some r/\hE rk a b r)\/c.1=none/\Go rk a b c.2.1 c.2.2.1 c.2.2.2.1/\o.size<c.2.1.size)) ?step2 (λc st2⟨h1,h2,h3,_,h5⟩=>#[h2,.inr #[h1,h3,h5 ∅]]) #[rfl,ks,G1,ho1,λz=>absurd z (lt_irrefl 0)]) ?post2)
 case step2=>
  rintro y ⟨q,o2,i2,j2,g2,c2,d2⟩ st2 _ _ ⟨_,k2,G2,ho2,_⟩;show wpS_mono (Gn (c:=c2) (d:=d2) H (k2.1.trans hst) G2) λr st3⟨k3,z⟩=>?_;let k3:=k2.trans k3;unfold iG at z;split at z
  .show#[k3,.inl #[_,rfl,z]]
  .show#[k3,.inr #[rfl,z.1,lt_of_le_of_lt ho2 z.2]]
  .show#[z.1,k3,z.2.1,le_of_lt (lt_of_le_of_lt ho2 z.2.2),λ_=>lt_of_le_of_lt ho2 z.2.2]
 rintro⟨q,o2,i2,j2,g2,c2,d2⟩ st2 ⟨k2,⟨r,hq,hr⟩|⟨hq,G2,ho2⟩⟩
 .cases hq;show wpS_pure #[k2,r,rfl,hr]
 cases hq;show wpS_bind (AE λst3 k3=>wpS_pure #[k2.trans k3,rfl,G2,ho2])
def Ci{C:Cmp M A E s κ ok rk}(H:zP C a b)(sa:gV rk a.toList)(sb:gV rk b.toList)(ha:0<a.size)(hb:0<b.size)(h0:rk b[0]<=rk a[0])
  {Q:Array Keyed->SortSt->Prop}{st:SortSt}(hst:kindOf st=κ)(h:∀r st',hE rk a b r->bN st st'->Q r st'):wpS M A E s (gL a b) Q st:=by
 have m0:MG rk (a.toList++b.toList) [b[0]].toArray.toList (a.toList.drop 0) (b.toList.drop 1):=by
  let m:MG rk (a.toList++b.toList) (#[]:Array Keyed).toList (a.toList.drop 0) (b.toList.drop 0):=#[by simp,List.Pairwise.nil,sa,sb,(λ_ z=>nomatch z),λ_ z=>nomatch z]
  show Ed m ha hb h0
 rw[Cv];show wpS_bind (Az ?_);show wpS_bind (Ac hb ?_);by_cases h1:1=b.size
 .rw[q4 (by rw[h1];show beq_self_eq_true _)];show wpS_pure (h _ _ (EV m0 h1) #[rfl,rfl,rfl,rfl])
 rw[q5 ↑h1];by_cases h2:0+1=a.size
 .rw[q4 (by rw[h2];show beq_self_eq_true _)];show wpS_pure (h _ _ (EU m0 h2 H.hl) #[rfl,rfl,rfl,rfl])
 rw[q5 ↑h2];show wpS_bind (wpS_get ?_);refine wpS_bind (wpS_mono (wpS_forRange (I:=λx c st'=>c.1=none/\bN st st'/\Go rk a b c.2.1 c.2.2.1 c.2.2.2.1/\x<c.2.1.size)
  (Q:=λc st'=>bN st st'/\∃r,c.1=some r/\hE rk a b r) ?step ?fin #[rfl,#[rfl,rfl,rfl,rfl],#[m0,∅,∅],by simp]) ?post)
 case fin=>rintro⟨r,o,i,j,g⟩ st' ⟨_,_,G,hx⟩;let h1:=G.m.perm.length_eq;simp at h1 hx h2;lia
 case post=>rintro⟨q,o,i,j,g⟩ st' ⟨ks,r,e,hr⟩;cases e;show wpS_pure (h r st' hr ks)
 case step=>
  rintro x ⟨q,o,i,j,g⟩ st' _ hx ⟨_,ks,G,ho⟩;show wpS_mono (Gm H hst ks G ∅ q) λr st2⟨k,z⟩=>?_;cases r with
  |done c=>show#[k,z]
  |yield c=>show#[z.1,k,z.2.1,lt_of_le_of_lt ho z.2.2]
end
def gN:Array Keyed->Array Keyed->StateT SortSt Sem `C:=sortPriv%PySem.Builtin.mergeHi
def oV(a b o:Array Keyed)(i j:Nat):Array Keyed:=a.extract 0 i++b.extract 0 j++o.reverse
def yO(a b o:Array Keyed)(i j:Nat):Array Keyed:=b.extract 0 j++a.extract 0 i++o.reverse
abbrev Mh:=Nat×Nat×Array Keyed×Nat×Nat×Nat
def mi(a b:Array Keyed)(g c d i j:Nat)(o:Array Keyed):StateT SortSt Sem (LS Mh):=do
 let x<-elem' a (i-1)
 if i-1==0 then return .done (some (oV a b (o.push x) (i-1) j),i-1,j,o.push x,g,c,d)
 if c<7&&d<7 then return .done (none,i-1,j,o.push x,g,c,d)
 return .yield (none,i-1,j,o.push x,g,c,d)
def yM(a b:Array Keyed)(g c d j i:Nat)(o:Array Keyed):StateT SortSt Sem (LS Mh):=do
 let x<-elem' b (j-1)
 if j-1==1 then return .done (some (yO a b (o.push x) i (j-1)),i,j-1,o.push x,g,c,d)
 match<-dI true (<-elem' a (i-1)) b 0 (j-1) (j-1-1)with
 |some p=>
  if j-1-p>0 then
   if p==1 then return .done (some (yO a b (o.push x++(b.extract p (j-1)).reverse) i p),i,p,o.push x++(b.extract p (j-1)).reverse,g,c,j-1-p)
   if p==0 then return .done (some (oV a b (o.push x++(b.extract p (j-1)).reverse) i p),i,p,o.push x++(b.extract p (j-1)).reverse,g,c,j-1-p)
   mi a b g c (j-1-p) i p (o.push x++(b.extract p (j-1)).reverse)
  else mi a b g c (j-1-p) i (j-1) (o.push x)
 |_=>return .done (some (oV a b (o.push x) i (j-1)),i,j-1,o.push x,g,c,d)
def gj(a b:Array Keyed)(i j:Nat)(o:Array Keyed)(c d g:Nat):StateT SortSt Sem (LS Mh):=do
 gH g
 match<-dI false (<-elem' b (j-1)) a 0 i (i-1)with
 |some p=>
  if i-p>0 then
   if p==0 then return .done (some (oV a b (o++(a.extract p i).reverse) p j),p,j,o++(a.extract p i).reverse,g,i-p,d)
   yM a b g (i-p) d j p (o++(a.extract p i).reverse)
  else yM a b g (i-p) d j i o
 |_=>return .done (some (oV a b o i j),i,j,o,g,c,d)
def pb(a b:Array Keyed)(g:Nat)(s:Option `C×Nat×Nat×Array Keyed×Nat×Nat):StateT SortSt Sem (LS (Nat×Nat×Array Keyed×Nat×Nat)):=do
 match<-lt' (<-elem' b (s.2.2.1-1)) (<-elem' a (s.2.1-1))with
 |some y=>
  if y then
   let x<-elem' a (s.2.1-1)
   if s.2.1-1==0 then return .done (some (oV a b (s.2.2.2.1.push x) (s.2.1-1) s.2.2.1),s.2.1-1,s.2.2.1,s.2.2.2.1.push x,s.2.2.2.2.1+1,0)
   if s.2.2.2.2.1+1≥g then return .done (none,s.2.1-1,s.2.2.1,s.2.2.2.1.push x,s.2.2.2.2.1+1,0)
   return .yield (none,s.2.1-1,s.2.2.1,s.2.2.2.1.push x,s.2.2.2.2.1+1,0)
  else
   let x<-elem' b (s.2.2.1-1)
   if s.2.2.1-1==1 then return .done (some (yO a b (s.2.2.2.1.push x) s.2.1 (s.2.2.1-1)),s.2.1,s.2.2.1-1,s.2.2.2.1.push x,0,s.2.2.2.2.2+1)
   if s.2.2.2.2.2+1≥g then return .done (none,s.2.1,s.2.2.1-1,s.2.2.2.1.push x,0,s.2.2.2.2.2+1)
   return .yield (none,s.2.1,s.2.2.1-1,s.2.2.2.1.push x,0,s.2.2.2.2.2+1)
 |_=>return .done (some (oV a b s.2.2.2.1 s.2.1 s.2.2.1),s.2.1,s.2.2.1,s.2.2.2.1,s.2.2.2.2.1,s.2.2.2.2.2)
def gh(a b:Array Keyed)(s:Option `C×Mh):StateT SortSt Sem (LS Mh):=gj a b s.2.1 s.2.2.1 s.2.2.2.1 s.2.2.2.2.2.1 s.2.2.2.2.2.2 (if s.2.2.2.2.1>1 then s.2.2.2.2.1-1 else s.2.2.2.2.1)
def mh(a b:Array Keyed)(t:Nat)(s:Option `C×Nat×Nat×Array Keyed×Nat):StateT SortSt Sem (LS (Nat×Nat×Array Keyed×Nat)):=
 (forIn [:t] (none,s.2.1,s.2.2.1,s.2.2.2.1,0,0) λ_=>pb a b s.2.2.2.2)>>=λr=>Break.runK.match_1 (λ_=>StateT SortSt Sem (LS (Nat×Nat×Array Keyed×Nat))) r.1 (λx=>pure (.done (some x,r.2.1,r.2.2.1,r.2.2.2.1,s.2.2.2.2))) λ_=>do
  rule "list.sort.gallop"
  (forIn [:t] (none,r.2.1,r.2.2.1,r.2.2.2.1,s.2.2.2.2+1,r.2.2.2.2) λ_=>gh a b)>>=λq=>Break.runK.match_1 (λ_=>StateT SortSt Sem (LS (Nat×Nat×Array Keyed×Nat))) q.1 (λx=>pure (.done (some x,q.2.1,q.2.2.1,q.2.2.2.1,q.2.2.2.2.1))) λ_=>do
   gH (q.2.2.2.2.1+1)
   return .yield (none,q.2.1,q.2.2.1,q.2.2.2.1,q.2.2.2.2.1+1)
def Cw(a b:Array Keyed):gN a b=(do
 rule "list.sort.merge-hi"
 let x<-elem' a (a.size-1)
 if a.size-1==0 then return oV a b [x].toArray (a.size-1) b.size
 if b.size==1 then return yO a b [x].toArray (a.size-1) b.size
 let s<-get
 (forIn [:a.size+b.size] (none,a.size-1,b.size,[x].toArray,gallopOf s) λ_=>mh a b (a.size+b.size))>>=λr=>Break.runK.match_1 (λ_=>StateT SortSt Sem `C) r.1 (λr=>pure r) λ_=>unsupported "internal:list.sort.merge-bound"):=by
 let e:∀(s:Option (Array Keyed)×Mh),gh a b s=(if s.2.2.2.2.1>1 then gj a b s.2.1 s.2.2.1 s.2.2.2.1 s.2.2.2.2.2.1 s.2.2.2.2.2.2 (s.2.2.2.2.1-1)else gj a b s.2.1 s.2.2.1 s.2.2.2.1 s.2.2.2.2.2.1 s.2.2.2.2.2.2 s.2.2.2.2.1):=λs=>by unfold gh;by_cases hg:s.2.2.2.2.1>1<;>simp[hg,if_true,if_false]
 unfold mh;rw[show gh a b=_ from funext e];rfl
def ng(rk:Keyed->Int)(x:Keyed):Int:=-rk x
@[inline]def MH(rk:Keyed->Int)(a b o:Array Keyed)(i j:Nat):Prop:=MG (ng rk) (a.toList++b.toList) o.toList (a.toList.take i).reverse (b.toList.take j).reverse
def Al{α:Type}{a:Array α}{i:Nat}(v:0<i)(h:i<=a.size):(a.toList.take i).reverse=a[i-1]::(a.toList.take (i-1)).reverse:=by
 obtain⟨m,rfl⟩:∃m,i=m+1:=#[i-1,∅]
 rw[List.take_succ_eq_append_getElem (by simp;lia -verbose)];simp
def Cb{l:List Keyed}(h:gV (ng rk) l):gV rk l.reverse:=by unfold gV at*;rw[List.pairwise_reverse];show h.imp λ{x y} z=>by unfold ng at z;lia
def Dl(m:MH rk a b o i j)(h:i=0):hE rk a b (oV a b o i j):=by
 let#[p,q]:=MG.end m λx z y v=>by subst h;simp at v
 let e:(oV a b o i j).toList=(o.toList++(b.toList.take j).reverse++(a.toList.take i).reverse).reverse:=by unfold oV;simp
 unfold hE;rw[e];show#[(reverse_perm _).trans p,Cb q]
def Dk(m:MH rk a b o i j)(B:0<b.size)(h:j=1)(F:∀x∈a.toList,rk b[0]<rk x):hE rk a b (yO a b o i j):=by
 obtain⟨p,q⟩:=MG.end (MG.swap m) λx z y v=>by
  subst h;rw[Al ⋯ B]at v;obtain rfl:y=b[0]:=↑v
  let:=F x (mem_of_mem_take (List.mem_reverse.mp z));unfold ng;lia
 let e:(yO a b o i j).toList=(o.toList++(a.toList.take i).reverse++(b.toList.take j).reverse).reverse:=by unfold yO;simp
 unfold hE;rw[e];show#[(reverse_perm _).trans p,Cb q]
def CP(m:MH rk a b o i j)(F:0<i)(hi:i<=a.size)(z:0<j)(B:j<=b.size)(h:rk b[j-1]<=rk a[i-1]):MH rk a b (o.push a[i-1]) (i-1) j:=by unfold MH at*;let v:=m.sb;rw[Al z B]at v;rw[Al F hi]at m;rw[toList_push];show MG.takeA (p:=[a[i-1]]) m λx G=>?_;rw[qv.mp G,Al z B];show AD (by unfold ng;lia) v
def Et(m:MH rk a b o i j)(z:0<i)(hi:i<=a.size)(B:0<j)(G:j<=b.size)(h:rk a[i-1]<=rk b[j-1]):MH rk a b (o.push b[j-1]) i (j-1):=by unfold MH at*;let v:=m.sa;rw[Al z hi]at v;rw[Al B G]at m;rw[toList_push];show MG.takeB (p:=[b[j-1]]) m λx F=>?_;rw[qv.mp F,Al z hi];show AD (by unfold ng;lia) v
def BS{α:Type}{a:Array α}{p i:Nat}(v:p<=i):(a.toList.take i).reverse=(a.extract p i).reverse.toList++(a.toList.take p).reverse:=by
 let:a.toList.take i=a.toList.take p++(a.toList.drop p).take (i-p):=by rw[<-take_add,show p+(i-p)=i by lia]
 simp_all
def Dd{a:Array Keyed}{i:Nat}(h:gV (ng rk) (a.toList.take i).reverse)(hi:i<=a.size):Up rk a 0 (0+i):=λx y h1 h2 v=>by
 rw[Af (show x<a.size by lia),Af (show y<a.size by lia)];by_cases e:x=y
 .subst e;show Int.le_refl _
 .let:=pairwise_iff_getElem.mp (Cb h) x y (by simp;lia -verbose) (by simp;lia -verbose) ∅;simpa using this
def Br{left:Bool}{a:Array Keyed}{p i:Nat}{key:Keyed}{l:List Keyed}(F:mT rk left key a 0 i p p)(hi:i<=a.size)(hs:gV (ng rk) (key::l)):Below (ng rk) (a.extract p i).reverse.toList (key::l):=λx B=>by
 let v:x∈(a.toList.drop p).take (i-p):=by simpa[extract_eq_take_drop] using B
 let#[y,z,rfl]:=List.mem_iff_getElem.mp v;rw[qH,qG]at z;let h1:=F.2.2.2 (p+y) ∅ ∅;unfold eD at h1;rw[zero_add,Af (show p+y<a.size by lia)]at h1;show AD ?_ hs;simp;unfold ng;cases left<;>simp at h1<;>lia
def Ce{left:Bool}{key:Keyed}{v:Array Keyed}{p n:Nat}(z:mT rk left key v 0 n p p)(B:0<p)(hn:n<=v.size):rk (v[p-1]'(by let:=z.2.1;lia))<=rk key:=by let F:=z.2.1;let:=z.2.2.1 (p-1) ∅;unfold eD at this;rw[zero_add,Af (show p-1<v.size by lia)]at this;cases left<;>simp at this<;>lia
def Fc(m:MH rk a b o i j)(hi:i<=a.size)(z:0<j)(B:j<=b.size){p:Nat}(F:mT rk false b[j-1] a 0 i p p):MH rk a b (o++(a.extract p i).reverse) p j:=by unfold MH at*;let v:=m.sb;rw[Al z B]at v;rw[BS F.2.1]at m;rw[toList_append];show MG.takeA m ?_;rw[Al z B];show Br F hi v
def Fb(m:MH rk a b o i j)(z:0<i)(hi:i<=a.size)(F:j<=b.size){p:Nat}(B:mT rk true a[i-1] b 0 j p p):MH rk a b (o++(b.extract p j).reverse) i p:=by unfold MH at*;let v:=m.sa;rw[Al z hi]at v;rw[BS B.2.1]at m;rw[toList_append];show MG.takeB m ?_;rw[Al z hi];show Br B F v
structure Gh(rk:Keyed->Int)(a b o:Array Keyed)(i j:Nat):Prop where
 m:MH rk a b o i j
 i0:0<i
 i:i<=a.size
 j0:1<j
 j:j<=b.size
def iF{α:Type}(rk:Keyed->Int)(a b:Array Keyed)(n:Nat)(r:ForInStep (Option `C×Nat×Nat×Array Keyed×α)):Prop:=match r with
 |.done (some r,_)=>hE rk a b r
 |.done (none,i,j,o,_)=>Gh rk a b o i j/\n<o.size
 |.yield (q,i,j,o,_)=>q=none/\Gh rk a b o i j/\n<o.size
structure zQ(C:Cmp M A E s κ ok rk)(a b:Array Keyed):Prop where
 oa:∀i(h:i<a.size),ok a[i]
 ob:∀i(h:i<b.size),ok b[i]
 b0:0<b.size
 h0:∀x∈a.toList,rk b[0]<rk x
def Gs{C:Cmp M A E s κ ok rk}(H:zQ C a b){st:SortSt}(J:kindOf st=κ)(G:Gh rk a b o i j)(r:Option `C):wpS M A E s (pb a b g (r,i,j,o,c,d)) (λr B=>B=st/\iF rk a b o.size r) st:=by
 let#[m,F,hi,O,L]:=G;show wpS_bind (Ac (show j-1<b.size by lia) ?_);show wpS_bind (Ac (show i-1<a.size by lia) ?_);show wpS_bind (C.lt _ _ _ _ J (H.ob _ _) (H.oa _ _) ?_);by_cases v:rk b[j-1]<rk a[i-1]
 .rw[qR v];show wpS_bind (Ac (show i-1<a.size by lia) ?_);let m:=CP m F hi ∅ L (Int.le_of_lt v);let sz:o.size<(o.push a[i-1]).size:=by simp
  by_cases h1:i-1=0
  .rw[q4 (by simp[h1])];show wpS_pure #[rfl,Dl m h1]
  .rw[q5 ↑h1];let z:Gh rk a b (o.push a[i-1]) (i-1) j:=#[m,∅,∅,O,L]
   split
   .show wpS_pure #[rfl,z,sz]
   .show wpS_pure #[rfl,rfl,z,sz]
 .rw[qS v];show wpS_bind (Ac (show j-1<b.size by lia) ?_);let m:=Et m F hi ∅ L ∅;let sz:o.size<(o.push b[j-1]).size:=by simp
  by_cases h1:j-1=1
  .rw[q4 (by simp[h1])];show wpS_pure #[rfl,Dk m H.b0 h1 H.h0]
  .rw[q5 ↑h1];let z:Gh rk a b (o.push b[j-1]) i (j-1):=#[m,F,hi,∅,∅]
   split
   .show wpS_pure #[rfl,z,sz]
   .show wpS_pure #[rfl,rfl,z,sz]
def Eu{C:Cmp M A E s κ ok rk}(H:zQ C a b){st:SortSt}(m:MH rk a b o i j)(G:0<i)(hi:i<=a.size)(F:1<j)(z:j<=b.size)(h:rk b[j-1]<=rk a[i-1])(hn:n<=o.size):wpS M A E s (mi a b g c d i j o) (λr v=>v=st/\iF rk a b n r) st:=by
 show wpS_bind (Ac (show i-1<a.size by lia) ?_);let m:=CP m G hi ∅ z h;let sz:n<(o.push a[i-1]).size:=by simp;lia
 by_cases h1:i-1=0
 .rw[q4 (by simp[h1])];show wpS_pure #[rfl,Dl m h1]
 .rw[q5 ↑h1];let B:Gh rk a b (o.push a[i-1]) (i-1) j:=#[m,∅,∅,F,z]
  split
  .show wpS_pure #[rfl,B,sz]
  .show wpS_pure #[rfl,rfl,B,sz]
def Ew{C:Cmp M A E s κ ok rk}(H:zQ C a b){st:SortSt}(G:kindOf st=κ)(m:MH rk a b o i j)(v:0<i)(hi:i<=a.size)(j0:1<j)(hj:j<=b.size)(h:rk a[i-1]<=rk b[j-1])(hn:n<=o.size):wpS M A E s (yM a b g c d j i o) (λr F=>F=st/\iF rk a b n r) st:=by
 show wpS_bind (Ac (show j-1<b.size by lia) ?_);let m:=Et m v hi ∅ hj h;let sz:n<=(o.push b[j-1]).size:=by simp;lia
 by_cases h1:j-1=1
 .rw[q4 (by simp[h1])];show wpS_pure #[rfl,Dk m H.b0 h1 H.h0]
 .rw[q5 ↑h1];show wpS_bind (Ac (show i-1<a.size by lia) ?_);show wpS_bind (Av C (H.oa _ _) H.ob ∅ ∅ (Dd m.sb ∅) G λp B=>?_);let hp:=B.2.1;let Y:0<p:=by
   rcases Nat.eq_zero_or_pos p with z|z
   .let h2:=B.2.2.2 0 ∅ ∅;let h3:=H.h0 a[i-1] (by simp);unfold eD at h2;rw[Af (show 0+0<b.size by lia)]at h2;lia
   .show z
  let O:=Ce B Y ∅;by_cases L:j-1-p>0
  .simp only[L,if_true];let J:=Fb m v hi ∅ B;by_cases h2:p=1
   .rw[q4 (by simp[h2])];show wpS_pure #[rfl,Dk J H.b0 h2 H.h0]
   .rw[q5 ↑h2,q5 (by simp;lia -verbose)];show Eu H J v hi ∅ ∅ O (by simp;lia -verbose)
  .simp only[L];obtain rfl:p=j-1:=by lia
   show Eu H m v hi ∅ ∅ O sz
def Gr{C:Cmp M A E s κ ok rk}(H:zQ C a b){st:SortSt}(B:kindOf st=κ)(G:Gh rk a b o i j):wpS M A E s (gj a b i j o c d g) (λr v=>bN st v/\iF rk a b o.size r) st:=by
 let#[m,i0,hi,Y,J]:=G;show wpS_bind (AE λh2 ks=>?_);show wpS_bind (Ac (show j-1<b.size by lia) ?_);show wpS_bind (Av C (H.ob _ _) H.oa ∅ ∅ (Dd m.sa hi) (ks.1.trans B) λp F=>?_);let hp:=F.2.1;by_cases O:i-p>0
 .simp[O,if_true];let L:=Fc m hi ∅ J F;by_cases h1:p=0
  .rw[q4 (by simp[h1])];show wpS_pure #[ks,Dl L h1]
  .rw[q5 ↑h1];show wpS_mono (Ew (n:=o.size) H (ks.1.trans B) L ∅ ∅ Y J (Ce F ∅ hi) (by simp)) λr v z=>#[z.1▸ks,z.2]
 .simp only[O];obtain rfl:p=i:=by lia
  show wpS_mono (Ew (n:=o.size) H (ks.1.trans B) m i0 hi Y J (Ce F i0 hi) `j) λr v z=>#[z.1▸ks,z.2]
def dg{α:Type}(rk:Keyed->Int)(a b:Array Keyed)(n:Nat)(r:ForInStep (Option `C×Nat×Nat×Array Keyed×α)):Prop:=match r with
 |.done c=>∃r,c.1=some r/\hE rk a b r
 |.yield c=>c.1=none/\Gh rk a b c.2.2.2.1 c.2.1 c.2.2.1/\n<c.2.2.2.1.size
def Gq{C:Cmp M A E s κ ok rk}(H:zQ C a b){st st':SortSt}(hst:kindOf st=κ)(ks:bN st st')(G:Gh rk a b o i j)(ht:0<t)(q:Option `C):wpS M A E s (mh a b t (q,i,j,o,g)) (λr st'=>bN st st'/\dg rk a b o.size r) st':=by
 refine wpS_bind (wpS_mono (wpS_forRange (I:=λ_ c st1=>c.1=none/\st1=st'/\Gh rk a b c.2.2.2.1 c.2.1 c.2.2.1/\o.size<=c.2.2.2.1.size)
  (Q:=λc st1=>st1=st'/\((∃r,c.1=some r/\hE rk a b r)\/c.1=none/\Gh rk a b c.2.2.2.1 c.2.1 c.2.2.1/\o.size<=c.2.2.2.1.size)) ?step1 (λc st1⟨h1,h2,h3,h4⟩=>#[h2,.inr #[h1,h3,h4]]) #[rfl,rfl,G,q8 _]) ?post1)
 case step1=>
  rintro y ⟨q,i1,j1,o1,c1,d1⟩ st1 _ _ ⟨_,rfl,G1,ho1⟩;show wpS_mono (Gs (g:=g) (c:=c1) (d:=d1) H (ks.1.trans hst) G1 q) λr st2⟨e,z⟩=>?_;subst e;unfold iF at z;split at z
  .show#[rfl,.inl #[_,rfl,z]]
  .show#[rfl,.inr #[rfl,z.1,le_of_lt (lt_of_le_of_lt ho1 z.2)]]
  .show#[z.1,rfl,z.2.1,le_of_lt (lt_of_le_of_lt ho1 z.2.2)]
 rintro⟨q,i1,j1,o1,c1,d1⟩ st1 ⟨rfl,⟨r,hq,hr⟩|⟨hq,G1,ho1⟩⟩
 .cases hq;show wpS_pure #[ks,r,rfl,hr]
 cases hq;show wpS_bind (Az ?_);refine wpS_bind (wpS_mono (wpS_forRange (I:=λy c st2=>c.1=none/\bN st st2/\Gh rk a b c.2.2.2.1 c.2.1 c.2.2.1/\o.size<=c.2.2.2.1.size/\(0<y->o.size<c.2.2.2.1.size))
  (Q:=λc st2=>bN st st2/\((∃r,c.1=some r/\hE rk a b r)\/c.1=none/\Gh rk a b c.2.2.2.1 c.2.1 c.2.2.1/\o.size<c.2.2.2.1.size)) ?step2 (λc st2⟨h1,h2,h3,_,h5⟩=>#[h2,.inr #[h1,h3,h5 ∅]]) #[rfl,ks,G1,ho1,λz=>absurd z (lt_irrefl 0)]) ?post2)
 case step2=>
  rintro y ⟨q,i2,j2,o2,g2,c2,d2⟩ st2 _ _ ⟨_,k2,G2,ho2,_⟩;show wpS_mono (Gr (c:=c2) (d:=d2) H (k2.1.trans hst) G2) λr st3⟨k3,z⟩=>?_;let k3:=k2.trans k3;unfold iF at z;split at z
  .show#[k3,.inl #[_,rfl,z]]
  .show#[k3,.inr #[rfl,z.1,lt_of_le_of_lt ho2 z.2]]
  .show#[z.1,k3,z.2.1,le_of_lt (lt_of_le_of_lt ho2 z.2.2),λ_=>lt_of_le_of_lt ho2 z.2.2]
 rintro⟨q,i2,j2,o2,g2,c2,d2⟩ st2 ⟨k2,⟨r,hq,hr⟩|⟨hq,G2,ho2⟩⟩
 .cases hq;show wpS_pure #[k2,r,rfl,hr]
 cases hq;show wpS_bind (AE λst3 k3=>wpS_pure #[k2.trans k3,rfl,G2,ho2])
def Cj{C:Cmp M A E s κ ok rk}(H:zQ C a b)(sa:gV rk a.toList)(sb:gV rk b.toList)(ha:0<a.size)(hl:∀y∈b.toList,rk y<=rk (a[a.size-1]))
  {Q:Array Keyed->SortSt->Prop}{st:SortSt}(hst:kindOf st=κ)(h:∀r st',hE rk a b r->bN st st'->Q r st'):wpS M A E s (gN a b) Q st:=by
 let b0:=H.b0;let dual:∀{l:List Keyed},gV rk l->gV (ng rk) l.reverse:=λ{l} z=>by unfold gV at*;rw[List.pairwise_reverse];show z.imp λ{x y} z=>by unfold ng;lia
 have m0:MH rk a b [a[a.size-1]].toArray (a.size-1) b.size:=by
  let ta:∀a:Array Keyed,a.toList.take a.size=a.toList:=λa=>take_of_length_le (by simp);let m:MH rk a b #[] a.size b.size:=by unfold MH;rw[ta,ta];show#[by rw[nil_append];show List.Perm.append (reverse_perm _) (reverse_perm _),List.Pairwise.nil,dual sa,dual sb,(λ_ z=>nomatch z),λ_ z=>nomatch z]
  show CP m ha `j b0 `j (hl _ (by simp))
 rw[Cw];show wpS_bind (Az ?_);show wpS_bind (Ac (show a.size-1<a.size by lia) ?_);by_cases h1:a.size-1=0
 .rw[q4 (by simp[h1])];show wpS_pure (h _ _ (Dl m0 h1) #[rfl,rfl,rfl,rfl])
 rw[q5 ↑h1];by_cases h2:b.size=1
 .rw[q4 (by simp[h2])];show wpS_pure (h _ _ (Dk m0 b0 h2 H.h0) #[rfl,rfl,rfl,rfl])
 rw[q5 ↑h2];show wpS_bind (wpS_get ?_);refine wpS_bind (wpS_mono (wpS_forRange (I:=λx c st'=>c.1=none/\bN st st'/\Gh rk a b c.2.2.2.1 c.2.1 c.2.2.1/\x<c.2.2.2.1.size)
  (Q:=λc st'=>bN st st'/\∃r,c.1=some r/\hE rk a b r) ?step ?fin #[rfl,#[rfl,rfl,rfl,rfl],#[m0,∅,∅,∅,q8 _],by simp]) ?post)
 case fin=>rintro⟨r,i,j,o,g⟩ st' ⟨_,_,G,hx⟩;let h1:=G.m.perm.length_eq;let h3:=G.i;simp at h1 h2 h3 hx;lia
 case post=>rintro⟨q,i,j,o,g⟩ st' ⟨ks,r,e,hr⟩;cases e;show wpS_pure (h r st' hr ks)
 case step=>
  rintro x ⟨q,i,j,o,g⟩ st' _ hx ⟨_,ks,G,ho⟩;show wpS_mono (Gq H hst ks G ∅ q) λr st2⟨k,z⟩=>?_;cases r with
  |done c=>show#[k,z]
  |yield c=>show#[z.1,k,z.2.1,lt_of_le_of_lt ho z.2.2]
def nR(lo n m:Nat):StateT SortSt Sem `bm:=do
 reverseSlice' lo (lo+n)
 let u<-forIn [n:m] ((none,n):Option `bm×Nat) λ_ v=>do
  match<-ltAt' (lo+v.2) (lo+v.2-1)with
  |some y=>if y=true then pure (ForInStep.done (none,v.2))else pure (ForInStep.yield (none,v.2+1))
  |_=>pure (ForInStep.done (some none,v.2))
 Break.runK.match_1 (λ_=>StateT SortSt Sem `bm) u.1 (λr=>pure r) λ_=>pure (some u.2)
def cu(lo n m:Nat):StateT SortSt Sem `bm:=do
 rule "list.sort.descending-run"
 let u<-forIn [n+1:m] ((none,n+1,0):Option `bm×Nat×Nat) λ_ v=>do
  match<-ltAt' (lo+v.2.1) (lo+v.2.1-1)with
  |some y=>
   if y=true then
    if v.2.2>0 then do
     reverseSlice' (lo+v.2.1-(v.2.2+1)) (lo+v.2.1)
     pure (ForInStep.yield (none,v.2.1+1,0))
    else pure (ForInStep.yield (none,v.2.1+1,0))
   else
    match<-ltAt' (lo+v.2.1-1) (lo+v.2.1)with
    |some z=>if z=true then pure (ForInStep.done (none,v.2.1,v.2.2))else pure (ForInStep.yield (none,v.2.1+1,v.2.2+1))
    |_=>pure (ForInStep.done (some none,v.2.1,v.2.2))
  |_=>pure (ForInStep.done (some none,v.2.1,v.2.2))
 Break.runK.match_1 (λ_=>StateT SortSt Sem `bm) u.1 (λr=>pure r) λ_=>if u.2.2>0 then reverseSlice' (lo+u.2.1-(u.2.2+1)) (lo+u.2.1)>>=λ_=>nR lo u.2.1 m else nR lo u.2.1 m
structure Sb(ok:Keyed->Prop)(lo:Nat)(st st':SortSt):Prop where
 perm:(arrOf st').Perm `n
 pre:∀k,k<lo->(arrOf st')[k]?=(arrOf st)[k]?
 rest:kindOf st'=kindOf st/\pendingOf st'=pendingOf st/\failedOf st'=failedOf st
def Sb.refl{lo:Nat}{st:SortSt}:Sb ok lo st st:=#[.refl _,λ_ _=>rfl,rfl,rfl,rfl]
def Sb.size{lo:Nat}{st v:SortSt}(h:Sb ok lo st v):(arrOf v).size=(arrOf st).size:=h.perm.size_eq
def Sb.oks{lo:Nat}{st v:SortSt}(h:Sb ok lo st v)(o:∀x∈(arrOf st).toList,ok x):∀i(hi:i<(arrOf v).size),ok (arrOf v)[i]:=λi hi=>o _ ((perm_iff_toList_perm.mp h.perm).mem_iff.mp (by simp))
def Bb(C:Cmp M A E s κ ok rk){st:SortSt}(v:kindOf st=κ)(o:∀i(h:i<(arrOf st).size),ok (arrOf st)[i]){i j:Nat}(hi:i<(arrOf st).size)(z:j<(arrOf st).size){Q:Option Bool->SortSt->Prop}
  (h:Q (some (decide (bA rk `n i<bA rk `n j))) st):wpS M A E s (ltAt' i j) Q st:=by
 show wpS_bind (wpS_get ?_);show wpS_bind (Ac hi ?_);show wpS_bind (Ac z ?_);rw[Af hi,Af z]at h;show C.lt _ _ _ _ v (o _ _) (o _ _) h
def DB{xs:Array Keyed}{i j:Nat}(v:j<=xs.size)(k:Nat):bA rk (mirror xs i j ((j-i)/2)) k=if i<=k/\k<j then bA rk xs (i+j-1-k)else bA rk xs k:=by unfold bA;rw[getElem?_mirror_all v];split<;>rfl
def Bi{lo i j:Nat}{st v:SortSt}(h:Sb ok lo st v)(hi:lo<=i)(B:j<=(arrOf st).size){Q:Unit->SortSt->Prop}
  (G:∀z,Sb ok lo st z->(∀k,bA rk (arrOf z) k=if i<=k/\k<j then bA rk (arrOf v) (i+j-1-k)else bA rk (arrOf v) k)->Q () z):wpS M A E s (reverseSlice' i j) Q v:=by
 rw[reverseSlice'_eq];show wpS_modify (G _ #[(mirror_perm _ _ _ _).trans h.perm,λk F=>?_,h.rest] λk=>DB (by rw[h.size];show B) k);rw[getElem?_mirror_all (by rw[h.size];show B),q5 ∅];show h.pre k F
@[inline]def Dn(rk:Keyed->Int)(xs:Array Keyed)(lo hi:Nat):Prop:=∀i j,lo<=i->i<=j->j<hi->bA rk xs j<=bA rk xs i
def De{xs:Array Keyed}{lo x:Nat}(G:1<=x)(v:Up rk xs lo (lo+x))(J:¬bA rk xs (lo+x)<bA rk xs (lo+x-1)):Up rk xs lo (lo+(x+1)):=λy z h1 h2 L=>by
 by_cases B:z<lo+x
 .show v y z h1 h2 B
 .obtain rfl:z=lo+x:=by lia
  by_cases F:y=lo+x
  .rw[F];show Int.le_refl _
  .let:=v y (lo+x-1) h1 ∅ ∅;lia
def Bm{xs:Array Keyed}{lo x:Nat}(G:1<=x)(v:Dn rk xs lo (lo+x))(J:bA rk xs (lo+x)<=bA rk xs (lo+x-1)):Dn rk xs lo (lo+(x+1)):=λy z h1 h2 L=>by
 by_cases B:z<lo+x
 .show v y z h1 h2 B
 .obtain rfl:z=lo+x:=by lia
  by_cases F:y=lo+x
  .rw[F];show Int.le_refl _
  .let:=v y (lo+x-1) h1 ∅ ∅;lia
def Df(C:Cmp M A E s κ ok rk){lo n m:Nat}{st st':SortSt}(hst:kindOf st=κ)(o:∀x∈(arrOf st).toList,ok x)(n1:1<=n)(nm:n<=m)(hs:lo+m=(arrOf st).size)(hb:Sb ok lo st st')(hd:Dn rk `af lo (lo+n)){Q:Option Nat->SortSt->Prop}
  (h:∀n st',1<=n->n<=m->Sb ok lo st st'->Up rk `af lo (lo+n)->Q (some n) st'):wpS M A E s (nR lo n m) Q st':=by
 show wpS_bind (Bi (rk:=rk) hb `j ∅ λst2 hb2 hr=>?_);let hu:Up rk `D lo (lo+n):=λx y h1 h2 h3=>by rw[hr,hr,q4 #[h1,∅],q4 #[∅,h3]];show hd _ _ ∅ ∅ ∅
 refine wpS_bind (wpS_mono (wpS_forRange (I:=λx c st'=>st'=st2/\c=(none,x)/\Up rk `D lo (lo+x))
  (Q:=λc st'=>st'=st2/\∃k,c=(none,k)/\1<=k/\k<=m/\Up rk `D lo (lo+k)) ?step ?fin #[rfl,rfl,hu]) ?post)
 case fin=>rintro c st' ⟨rfl,rfl,hu⟩;rw[show max n m=m by lia]at hu⊢;show#[rfl,m,rfl,∅,q8 _,hu]
 case step=>
  rintro x c st' hx1 hx ⟨rfl,rfl,hu⟩;let sz:=hb2.size;show wpS_bind (Bb C (hb2.rest.1.trans hst) (hb2.oks o) (by simp only;lia) (by simp only;lia) ?_);by_cases hl:bA rk `af (lo+x)<bA rk `af (lo+x-1)
  .rw[qR hl];show wpS_pure #[rfl,x,rfl,∅,∅,hu]
  .rw[qS hl];show wpS_pure #[rfl,rfl,De ∅ hu hl]
 case post=>rintro c st' ⟨rfl,k,rfl,k1,km,hu⟩;show wpS_pure (h k st' k1 km hb2 hu)
def Bu{xs ys:Array Keyed}{i j:Nat}(v:∀k,i<=k->k<j->bA rk xs k=bA rk xs (j-1))(z:∀k,bA rk ys k=if i<=k/\k<j then bA rk xs (i+j-1-k)else bA rk xs k)(k:Nat):bA rk ys k=bA rk xs k:=by
 rw[z];split
 .rw[v _ ∅ ∅,v k ∅ ∅]
 .rfl
def Ds(C:Cmp M A E s κ ok rk){lo n m:Nat}{st st':SortSt}(hst:kindOf st=κ)(o:∀x∈(arrOf st).toList,ok x)(n1:1<=n)(nm:n<m)(hs:lo+m=(arrOf st).size)(hb:Sb ok lo st st')(hd:Dn rk `af lo (lo+(n+1))){Q:Option Nat->SortSt->Prop}
  (h:∀n st',1<=n->n<=m->Sb ok lo st st'->Up rk `af lo (lo+n)->Q (some n) st'):wpS M A E s (cu lo n m) Q st':=by
 refine wpS_bind (Az ?_);refine wpS_bind (wpS_mono (wpS_forRange (I:=λx c st2=>∃q,c=(none,x,q)/\Sb ok lo st st2/\Dn rk `D lo (lo+x)/\q+1<=x/\∀k,lo+x-(q+1)<=k->k<lo+x->bA rk `D k=bA rk `D (lo+x-1))
  (Q:=λc st2=>∃x q,c=(none,x,q)/\n+1<=x/\x<=m/\Sb ok lo st st2/\Dn rk `D lo (lo+x)/\q+1<=x/\∀k,lo+x-(q+1)<=k->k<lo+x->bA rk `D k=bA rk `D (lo+x-1)) ?step ?fin #[0,rfl,hb,hd,∅,λk h1 h2=>by rw[show k=lo+(n+1)-1 by lia]]) ?post)
 case fin=>rintro c st2 ⟨q,rfl,hb,hd,hq,he⟩;rw[show max (n+1) m=m by lia]at hd hq he⊢;show#[m,q,rfl,nm,q8 _,hb,hd,hq,he]
 case step=>
  rintro x c st2 hx1 hx ⟨q,rfl,hb,hd,hq,he⟩;let sz:=hb.size;let hst2:=hb.rest.1.trans hst;show wpS_bind (Bb C hst2 (hb.oks o) (by simp only;lia) (by simp only;lia) ?_);by_cases hl:bA rk `D (lo+x)<bA rk `D (lo+x-1)
  .rw[qR hl];let hd2:=Bm ∅ hd (Int.le_of_lt hl);by_cases q0:q>0
   .rw[q4 q0];show wpS_bind (Bi (rk:=rk) hb ∅ ∅ λst3 hb3 hr=>?_);let er:=Bu he hr;show wpS_pure #[0,rfl,hb3,λy z h1 h2 h3=>by rw[er,er];show hd2 y z h1 h2 h3,∅,λk h1 h2=>by rw[show k=lo+(x+1)-1 by lia]]
   .rw[q5 q0];show wpS_pure #[0,rfl,hb,hd2,∅,λk h1 h2=>by rw[show k=lo+(x+1)-1 by lia]]
  .rw[qS hl];show wpS_bind (Bb C hst2 (hb.oks o) ∅ ∅ ?_);by_cases hg:bA rk `D (lo+x-1)<bA rk `D (lo+x)
   .rw[qR hg];show wpS_pure #[x,q,rfl,hx1,∅,hb,hd,hq,he]
   .rw[qS hg];show wpS_pure #[q+1,rfl,hb,Bm ∅ hd ∅,∅,λk h1 h2=>?_];rw[show lo+(x+1)-1=lo+x by lia];by_cases hk:k=lo+x
    .rw[hk]
    .rw[he k ∅ ∅];lia
 case post=>
  rintro c st2 ⟨x,q,rfl,hx1,hx,hb,hd,hq,he⟩;by_cases q0:q>0
  .rw[q4 q0];show wpS_bind (Bi (rk:=rk) hb ∅ ∅ λst3 hb3 hr=>?_);let er:=Bu he hr;show Df C hst o ∅ hx hs hb3 (λy z h1 h2 h3=>by rw[er,er];show hd y z h1 h2 h3) h
  .rw[q5 q0];show Df C hst o ∅ hx hs hb hd h
def BL(C:Cmp M A E s κ ok rk){lo m:Nat}{st:SortSt}(hst:kindOf st=κ)(o:∀x∈(arrOf st).toList,ok x)(hm:0<m)(hs:lo+m=(arrOf st).size){Q:Option Nat->SortSt->Prop}
  (h:∀n st',1<=n->n<=m->Sb ok lo st st'->Up rk `af lo (lo+n)->Q (some n) st'):wpS M A E s (countRun' lo m) Q st:=by
 have up1:∀xs:Array Keyed,Up rk xs lo (lo+1):=λxs x y h1 h2 h3=>by
  obtain rfl:x=y:=∅
  show Int.le_refl _
 refine wpS_bind (wpS_mono (wpS_forRange (I:=λx c st'=>st'=st/\c=(none,x)/\Up rk `n lo (lo+x))
  (Q:=λc st'=>st'=st/\∃n,c=(none,n)/\1<=n/\n<=m/\Up rk `n lo (lo+n)/\(n=m\/bA rk `n (lo+n)<bA rk `n (lo+n-1))) ?step ?fin #[rfl,rfl,up1 _]) ?post)
 case fin=>rintro c st' ⟨rfl,rfl,hu⟩;rw[show max 1 m=m by lia]at hu⊢;show#[rfl,m,rfl,hm,q8 _,hu,.inl rfl]
 case step=>
  rintro x c st' hx1 hx ⟨rfl,rfl,hu⟩;show wpS_bind (Bb C hst (Sb.refl.oks (lo:=lo) o) (by simp only;lia) (by simp only;lia) ?_);by_cases hl:bA rk `af (lo+x)<bA rk `af (lo+x-1)
  .rw[qR hl];show wpS_pure #[rfl,x,rfl,hx1,∅,hu,.inr hl]
  .rw[qS hl];show wpS_pure #[rfl,rfl,De hx1 hu hl]
 case post=>
  rintro c st' ⟨rfl,n,rfl,n1,nm,hu,he⟩;simp only;by_cases e:n=m
  .rw[q4 (by simp[e])];show wpS_pure (h n st' n1 nm Sb.refl hu)
  .rw[q5 ↑e];let he:=he.resolve_left e;by_cases n2:n>1
   .rw[q4 n2];show wpS_bind (Bb C hst (Sb.refl.oks (lo:=lo) o) ∅ ∅ ?_);by_cases hl:bA rk `af lo<bA rk `af (lo+n-1)
    .rw[qR hl];show wpS_pure (h n st' n1 nm Sb.refl hu)
    .rw[qS hl];let he2:∀k,lo<=k->k<lo+n->bA rk `af k=bA rk `af (lo+n-1):=λk h1 h2=>by let:=hu lo k `j h1 h2;let:=hu k (lo+n-1) h1 ∅ ∅;lia
     show wpS_bind (Bi (rk:=rk) (Sb.refl (ok:=ok)) `j ∅ λst3 hb3 hr=>?_);let er:=Bu he2 hr;show Ds C hst o n1 ∅ hs hb3 (Bm n1 (λy z h1 h2 h3=>?_) (by rw[er,er];show Int.le_of_lt he)) h;rw[er,er,he2 y h1 ∅,he2 z ∅ h3];show Int.le_refl _
   .rw[q5 n2];obtain rfl:n=1:=by lia
    show Ds C hst o n1 ∅ hs Sb.refl (Bm n1 (λy z h1 h2 h3=>?_) (Int.le_of_lt he)) h;obtain rfl:y=z:=∅
    show Int.le_refl _
def BR{xs:Array Keyed}{v d:Nat}(hs:v<xs.size)(z:d<=v)(k:Nat):bA rk (bubble xs v d) k=if k=v-d then bA rk xs v else if v-d<k/\k<=v then bA rk xs (k-1)else bA rk xs k:=by
 unfold bA;rw[getElem?_bubble hs d z k];split
 .rfl
 .split<;>rfl
theorem Cm(C:Cmp M A E s κ ok rk){lo n m:Nat}{st st':SortSt}(hst:kindOf st=κ)(o:∀x∈(arrOf st).toList,ok x)(hm:m<=n)(hs:lo+n<=(arrOf st).size)(hb:Sb ok lo st st')(hu:Up rk `af lo (lo+m)){Q:Bool->SortSt->Prop}
  (h:∀st',Sb ok lo st st'->Up rk `af lo (lo+n)->Q true st'):wpS M A E s (binarySort' lo n m) Q st':=by
 rw[binarySort'_eq];show wpS_bind (wpS_mono (wpS_forRange (I:=λk c st2=>c=(none,())/\Sb ok lo st st2/\Up rk `D lo (lo+min k n)) (Q:=λc st2=>c=(none,())/\Sb ok lo st st2/\Up rk `D lo (lo+n)) ?step ?fin ?init) ?post);case post=>rintro c st2 ⟨rfl,hb2,hu2⟩;show wpS_pure (h st2 hb2 hu2)
 case init=>
  show#[rfl,hb,λx y h1 h2 h3=>?_];by_cases e:m=0
  .obtain rfl:x=y:=by omega
   show Int.le_refl _
  .show hu x y h1 h2 (by omega)
 case fin=>rintro c st2 ⟨hc,hb2,hu2⟩;rw[show min (max (max m 1) n) n=n by omega]at hu2;show#[hc,hb2,hu2]
 case step=>
  rintro k c st2 hk1 hk ⟨rfl,hb2,hu2⟩;let sz:=hb2.size;refine wpS_bind (wpS_mono (wpS_forRange (I:=λx c st3=>st3=st2/\∃l r,c=(none,l,r)/\l<=r/\r<=k/\r-l<=k-x/\(∀i,i<l->bA rk `D (lo+i)<=bA rk `D (lo+k))/\∀i,r<=i->i<k->bA rk `D (lo+k)<bA rk `D (lo+i))
   (Q:=λc st3=>st3=st2/\∃l r,c=(none,l,r)/\l<=k/\(∀i,i<l->bA rk `D (lo+i)<=bA rk `D (lo+k))/\∀i,l<=i->i<k->bA rk `D (lo+k)<bA rk `D (lo+i)) ?istep ?ifin ?iinit) ?ipost)
  case iinit=>show#[rfl,0,k,rfl,by omega,by omega,by omega,λi hi=>by omega,λi h1 h2=>by omega]
  case ifin=>
   rintro c st3 ⟨rfl,l,r,rfl,h1,h2,h3,h4,h5⟩;obtain rfl:l=r:=by omega
   show#[rfl,l,l,rfl,h2,h4,h5]
  case istep=>
   rintro x c st3 _ hx ⟨rfl,l,r,rfl,h1,h2,h3,h4,h5⟩;simp only;by_cases e:l≥r
   .rw[q4 e];obtain rfl:l=r:=by omega
    show wpS_pure #[rfl,l,l,rfl,h2,h4,h5]
   .rw[q5 e];show wpS_bind (Bb C (hb2.rest.1.trans hst) (hb2.oks o) (by omega) (by omega) ?_);by_cases hl:bA rk (arrOf st3) (lo+k)<bA rk (arrOf st3) (lo+(l+r)/2)
    .rw[qR hl];show wpS_pure #[rfl,l,(l+r)/2,rfl,by omega,by omega,by omega,h4,λi a1 a2=>?_];let:=hu2 (lo+(l+r)/2) (lo+i) (by omega) (by omega) (by omega);omega
    .rw[qS hl];show wpS_pure #[rfl,(l+r)/2+1,r,rfl,by omega,h2,by omega,λi a1=>?_,h5];let:=hu2 (lo+i) (lo+(l+r)/2) (by omega) (by omega) (by omega);omega
  case ipost=>
   rintro c st3 ⟨rfl,l,r,rfl,h2,h4,h5⟩;simp only;show wpS_bind (wpS_modify (wpS_pure #[rfl,#[(bubble_perm _ _ _).trans hb2.perm,λi hi=>?_,hb2.rest],λx y a1 a2 a3=>?_]))
   .show(bubble (arrOf st3) (lo+k) (lo+k-(lo+l)))[i]?=_;rw[getElem?_bubble (by omega) _ (by omega),q5 (by omega),q5 (by omega)];show hb2.pre i hi
   .show bA rk (bubble (arrOf st3) (lo+k) (lo+k-(lo+l))) x<=bA rk (bubble (arrOf st3) (lo+k) (lo+k-(lo+l))) y;rw[show min (k+1) n=k+1 by omega]at a3;rw[BR (by omega) (by omega),BR (by omega) (by omega)];let g4:=h4 (x-lo);let g5:=h5 (y-1-lo);rw[show lo+(x-lo)=x by omega]at g4;let u1:=hu2 x y;let u2:=hu2 x (y-1);let u3:=hu2 (x-1) (y-1);by_cases e1:x=lo+k-(lo+k-(lo+l))
    .rw[q4 e1];split
     .show Int.le_refl _
     .split
      .rw[show lo+(y-1-lo)=y-1 by omega]at g5;show Int.le_of_lt (g5 (by omega) (by omega))
      .omega
    .rw[q5 e1];split
     .split
      .omega
      .split
       .show u3 (by omega) (by omega) (by omega)
       .omega
     .split
      .show g4 (by omega)
      .split
       .show u2 (by omega) (by omega) (by omega)
       .show u1 (by omega) (by omega) (by omega)
def putAt(a:Array Keyed)(i:Nat)(l:List Keyed):Array Keyed:=l.zipIdx.foldl (λa(p,j)=>a.setIfInBounds (i+j) p) a
def Cy(i:Nat):mergeAt' i=(do
 let u<-get
 let(some (p,n,q),some (r,m,_)):=((pendingOf u)[i]?,(pendingOf u)[i+1]?)|unsupported "internal:list.sort.pending"
 set (setPending u (((pendingOf u).setIfInBounds i (p,n+m,q)).eraseIdxIfInBounds (i+1)))
 let some k<-dI false (<-elem' (arrOf u) r) (arrOf u) p n 0|return false
 let(p,n):=(p+k,n-k)
 if n==0 then return true
 let some m<-dI true (<-elem' (arrOf u) (p+n-1)) (arrOf u) r m (m-1)|return false
 if m==0 then return true
 let x:=(arrOf u).extract p r
 let y:=(arrOf u).extract r (r+m)
 let z<-if n<=m then gL x y else gN x y
 modify λs=>setArr s (putAt (arrOf s) p z.toList)
 return(failedOf (<-get)).isNone):=rfl
def Ec(l:List Keyed):∀(a:Array Keyed)(i c:Nat),i+c+l.length<=a.size->((l.zipIdx c).foldl (λa(p,j)=>a.setIfInBounds (i+j) p) a).toList=a.toList.take (i+c)++l++a.toList.drop (i+c+l.length):=by
 induction l with
 |nil=>intro a i c h;simp
 |cons x l z=>
  intro a i c h;rw[qt]at h;let e:(a.setIfInBounds (i+c) x).toList=(a.toList.take (i+c)++[x])++a.toList.drop (i+c+1):=by rw[Array.toList_setIfInBounds,List.set_eq_take_append_cons_drop,q4 (by simp;lia -verbose)];simp
  let v:(a.toList.take (i+c)++[x]).length=i+(c+1):=by simp;lia
  rw[List.zipIdx_cons,foldl_cons,z _ _ _ (by simp;lia -verbose)];rw[e,List.take_left' v,<-drop_drop,List.drop_left' v];simp[add_comm,Nat.add_left_comm]
def Bq{xs:Array Keyed}{lo hi:Nat}(F:Up rk xs lo hi)(G:hi<=xs.size):gV rk (xs.extract lo hi).toList:=by unfold gV;rw[pairwise_iff_getElem];intro x y B v z;simp at B v;let:=F (lo+x) (lo+y) ∅ ∅ ∅;rw[Af (show lo+x<xs.size by lia),Af (show lo+y<xs.size by lia)]at this;simpa[extract_eq_take_drop] using this
def Bl{xs:Array Keyed}{lo hi:Nat}{x:Keyed}(z:hi<=xs.size)(h:x∈(xs.extract lo hi).toList):∃k,lo<=k/\k<hi/\rk x=bA rk xs k:=by let#[y,v,rfl]:=List.mem_iff_getElem.mp h;simp at v;show#[lo+y,∅,∅,by rw[Af (show lo+y<xs.size by lia)];simp]
def BF{a:Array Keyed}{i j l:Nat}(h1:i<=j)(h2:j<=l):(a.extract i j).toList++(a.extract j l).toList=(a.extract i l).toList:=by rw[toList_extract,toList_extract,toList_extract,extract_eq_take_drop,extract_eq_take_drop,extract_eq_take_drop,show l-i=(j-i)+(l-j) by lia,take_add,drop_drop,show i+(j-i)=j by lia]
def ER{x:SortSt}{Q:PUnit->SortSt->Prop}{st:SortSt}(h:Q ⟨⟩ x):wpS M A E s (set x:StateT SortSt Sem PUnit) Q st:=wpS_modify (f:=λ_=>x) h
def Ck(C:Cmp M A E s κ ok rk){n m q q':Nat}{st:SortSt}(Y:kindOf st=κ)(o:∀x∈(arrOf st).toList,ok x)(hp:pendingOf st=[(0,n,q),(n,m,q')].toArray)(n0:0<n)(m0:0<m)(hs:n+m=(arrOf st).size)(hf:failedOf st=none)(u1:Up rk `n 0 (0+n))(u2:Up rk `n n (n+m)){Q:Bool->SortSt->Prop}
  (h:∀G,(arrOf G).Perm `n->pendingOf G=[(0,n+m,q)].toArray->failedOf G=none->Up rk (arrOf G) 0 (arrOf st).size->Q true G):wpS M A E s (mergeAt' 0) Q st:=by
 let oks:∀i(hi:i<(arrOf st).size),ok (arrOf st)[i]:=λi hi=>o _ (by simp);rw[Cy];show wpS_bind (wpS_get ?_);rw[hp];let ep:(([(0,n,q),(n,m,q')].toArray:Array (Nat×Nat×Nat)).setIfInBounds 0 (0,n+m,q)).eraseIdxIfInBounds (0+1)=[(0,n+m,q)].toArray:=by simp[Array.setIfInBounds,Array.eraseIdxIfInBounds,Array.eraseIdx]
 show wpS_bind (ER ?_);rw[ep];let nS:n<(arrOf st).size:=∅
 show wpS_bind (Ac nS ?_);show wpS_bind (Av (st:=setPending st [(0,n+m,q)].toArray) C (oks _ nS) oks ∅ n0 u1 Y λk hc=>?_);let kn:=hc.2.1;let e1:∀x,x<k->bA rk `n x<=bA rk `n n:=λx B=>by let:=hc.2.2.1 x B;unfold eD at this;rw[Af nS];simpa using this
 let hm:∀x,k<=x->x<n->bA rk `n n<bA rk `n x:=λx h1 h2=>by let:=hc.2.2.2 x h1 h2;unfold eD at this;rw[Af nS];simpa using this
 simp only;by_cases e:n-k=0
 .rw[q4 (by simp[e])];show wpS_pure (h _ (.refl _) rfl hf λx y h1 h2 h3=>?_);let a1:=u1 x y h1 h2;let a2:=u2 x y;let a3:=u2 n y `j;let a4:=e1 x;by_cases O:y<n
  .show a1 ∅
  .by_cases B:x<n
   .show Int.le_trans (a4 ∅) (a3 ∅ ∅)
   .show a2 ∅ h2 ∅
 rw[q5 ↑e];let L:0+k+(n-k)-1<(arrOf st).size:=∅
 show wpS_bind (Ac L ?_);show wpS_bind (Av (st:=setPending st [(0,n+m,q)].toArray) C (oks _ L) oks ∅ ∅ u2 Y λv hd=>?_);let r1:=hd.2.1;let en:0+k+(n-k)-1=n-1:=∅
 let h9:∀x,n<=x->x<n+v->bA rk `n x<bA rk `n (n-1):=λx h1 h2=>by let:=hd.2.2.1 (x-n) ∅;unfold eD at this;rw[show n+(x-n)=x by lia,<-Af (rk:=rk) L,en]at this;simpa using this
 let hl:∀x,n+v<=x->x<n+m->bA rk `n (n-1)<=bA rk `n x:=λx h1 h2=>by let:=hd.2.2.2 (x-n) ∅ ∅;unfold eD at this;rw[show n+(x-n)=x by lia,<-Af (rk:=rk) L,en]at this;simpa using this
 simp only;by_cases e2:v=0
 .rw[q4 (by simp[e2])];show wpS_pure (h _ (.refl _) rfl hf λx y h1 h2 h3=>?_);by_cases O:y<n
  .show u1 x y h1 h2 ∅
  .by_cases B:x<n
   .show Int.le_trans (u1 x (n-1) h1 ∅ ∅) (hl y ∅ ∅)
   .show u2 x y ∅ h2 ∅
 rw[q5 ↑e2,zero_add];let sz:=hs;let h7:∀x∈((arrOf st).extract k n).toList,∃c,k<=c/\c<n/\rk x=bA rk `n c:=λx B=>Bl ∅ B;let h6:∀x∈((arrOf st).extract n (n+v)).toList,∃c,n<=c/\c<n+v/\rk x=bA rk `n c:=λx B=>Bl ∅ B;let J:∀(c d i:Nat)(hi:i<((arrOf st).extract c d).size),ok ((arrOf st).extract c d)[i]:=λc d i hi=>o _ (by rw[getElem_extract];simp);let hq:∀(z:Array Keyed)(F:SortSt),hE rk ((arrOf st).extract k n) ((arrOf st).extract n (n+v)) z->bN (setPending st [(0,n+m,q)].toArray) F->wpS M A E s (modify (λs=>setArr s (putAt (arrOf s) k z.toList))>>=λ_=>get>>=λu=>pure (failedOf u).isNone) Q F:=λz F hr ks=>by
  let ea:arrOf F=arrOf st:=ks.2.1;let hz:z.toList.length=n-k+v:=by rw[hr.1.length_eq,qq,qV,qV,size_extract,size_extract];lia
  let el:(putAt (arrOf F) k z.toList).toList=((arrOf st).extract 0 k).toList++z.toList++((arrOf st).extract (n+v) (n+m)).toList:=by let:=Ec z.toList `n k 0 ∅;rw[ea];rw[Nat.add_zero,hz,show k+(n-k+v)=n+v by lia]at this;rw[show(putAt `n k z.toList).toList=_ from this,toList_extract,toList_extract,extract_eq_take_drop,extract_eq_take_drop,drop_zero,sub_zero];congr 1;rw[take_of_length_le (by simp;lia -verbose)]
  show wpS_bind (wpS_modify (wpS_bind (wpS_get ?_)));let ef:(failedOf (setArr F (putAt (arrOf F) k z.toList))).isNone=true:=by show(failedOf F).isNone=true;rw[ks.2.2.2];show(failedOf st).isNone=true;rw[hf];rfl
  rw[ef];let h5:∀x∈z.toList,(∃c,k<=c/\c<n/\rk x=bA rk `n c)\/∃c,n<=c/\c<n+v/\rk x=bA rk `n c:=λx B=>(qy.mp (hr.1.mem_iff.mp B)).imp (h7 x) (h6 x);let h8:∀x∈((arrOf st).extract 0 k).toList,∃c,0<=c/\c<k/\rk x=bA rk `n c:=λx B=>Bl ∅ B;let e4:∀x∈((arrOf st).extract (n+v) (n+m)).toList,∃c,n+v<=c/\c<n+m/\rk x=bA rk `n c:=λx B=>Bl ∅ B;let ha:gV rk (putAt (arrOf F) k z.toList).toList:=by
   rw[el];let s1:=Bq (rk:=rk) (xs:=arrOf st) (lo:=0) (hi:=k) (λx y h1 h2 h3=>u1 x y h1 h2 ∅) ∅;let s2:=Bq (rk:=rk) (xs:=arrOf st) (lo:=n+v) (hi:=n+m) (λx y h1 h2 h3=>u2 x y ∅ h2 h3) ∅;show pairwise_append.mpr #[pairwise_append.mpr #[s1,hr.2,λx B y O=>?_],s2,λx B y O=>?_]
   .obtain⟨c,_,hc,ex⟩:=h8 x B;let a1:=e1 c hc;rcases h5 y O with⟨d,h1,h2,ey⟩|⟨d,h1,h2,ey⟩
    .let a2:=hm d h1 h2;lia
    .let a2:=u2 n d `j h1 ∅;lia
   .obtain⟨d,h1,h2,ey⟩:=e4 y O;let a2:=hl d h1 h2;rcases qy.mp B with B|B
    .obtain⟨c,_,hc,ex⟩:=h8 x B;let a1:=u1 c (n-1) ∅ ∅ ∅;lia
    .rcases h5 x B with⟨c,h3,h4,ex⟩|⟨c,h3,h4,ex⟩
     .let a1:=u1 c (n-1) ∅ ∅ ∅;lia
     .let a1:=h9 c h3 h4;lia
  have pm:(putAt (arrOf F) k z.toList).Perm `n:=by
   rw[perm_iff_toList_perm,el];show((hr.1.append_left _).append_right _).trans ?_;let:(arrOf st).toList=((arrOf st).extract 0 k).toList++(((arrOf st).extract k n).toList++((arrOf st).extract n (n+v)).toList)++((arrOf st).extract (n+v) (n+m)).toList:=by rw[BF ∅ ∅,BF ∅ ∅,BF ∅ ∅,toList_extract,extract_eq_take_drop,drop_zero,take_of_length_le (by simp;lia -verbose)]
   rw[<-this]
  show wpS_pure (h _ pm ks.2.2.1 (ks.2.2.2.trans hf) ?_);let:=CI (i:=0) (n:=(arrOf st).size) ha (by rw[zero_add,<-pm.size_eq];show q8 _);rwa[zero_add]at this
 let sx:=Bq (rk:=rk) (xs:=arrOf st) (lo:=k) (hi:=n) (λx y h1 h2 h3=>u1 x y ∅ h2 ∅) ∅;let sy:=Bq (rk:=rk) (xs:=arrOf st) (lo:=n) (hi:=n+v) (λx y h1 h2 h3=>u2 x y h1 h2 ∅) ∅;let zX:((arrOf st).extract k n).size=n-k:=by rw[size_extract];lia
 let zY:((arrOf st).extract n (n+v)).size=v:=by rw[size_extract];lia
 let e3:bA rk ((arrOf st).extract k n) (((arrOf st).extract k n).size-1)=bA rk `n (n-1):=by rw[Af ∅,Af (show n-1<(arrOf st).size by lia),getElem_extract];congr 2;lia
 let y0:rk (((arrOf st).extract n (n+v))[0]'∅)=bA rk `n n:=by rw[Af nS,getElem_extract];rfl
 let hb:∀y∈((arrOf st).extract n (n+v)).toList,rk y<bA rk ((arrOf st).extract k n) (((arrOf st).extract k n).size-1):=λy O=>by let#[c,h1,h2,e]:=h6 y O;rw[e3,e];show h9 c h1 h2
 let h0:∀x∈((arrOf st).extract k n).toList,rk (((arrOf st).extract n (n+v))[0]'∅)<rk x:=λx B=>by let#[c,h1,h2,e]:=h7 x B;rw[y0,e];show hm c h1 h2
 by_cases hk:n-k<=v
 .rw[q4 hk];show wpS_bind (Ci (C:=C) #[J _ _,J _ _,hb] sx sy ∅ ∅ (Int.le_of_lt (h0 _ (by rw[mem_toList_iff];show Array.getElem_mem _))) Y hq)
 .rw[q5 hk];show wpS_bind (Cj (C:=C) #[J _ _,J _ _,∅,h0] sx sy ∅ (λy O=>by rw[<-Af (rk:=rk)];show Int.le_of_lt (hb y O)) Y hq)
def EY{n:Nat}(h2:2<=n)(h:n<128):minRun' n n 0<=n/\n<=2*minRun' n n 0:=by
 obtain⟨f,rfl⟩:∃f,n=f+1+1:=#[n-2,∅]
 rw[minRun'_succ];split
 .lia
 .rw[minRun'_succ];lia
structure Rn(st st':SortSt):Prop where
 perm:(arrOf st').Perm `n
 kind:kindOf st'=kindOf st
 failed:failedOf st'=none
@[inline]def One(rk:Keyed->Int)(n:Nat)(st:SortSt):Prop:=pendingOf st=[(0,n,0)].toArray/\Up rk (arrOf st) 0 (0+n)
def uG(rk:Keyed->Int)(n:Nat)(st:SortSt):Prop:=∃k q,0<k/\k<n/\pendingOf st=[(0,k,q),(k,n-k,0)].toArray/\Up rk `n 0 (0+k)/\Up rk `n k (k+(n-k))
def BZ(C:Cmp M A E s κ ok rk){n:Nat}{st:SortSt}(hst:kindOf st=κ)(o:∀x∈(arrOf st).toList,ok x)(hp:pendingOf st=#[])(hf:failedOf st=none)(hn:(arrOf st).size=n)(h2:2<=n)(h128:n<128){Q:Unit->SortSt->Prop}
  (h:∀st',(arrOf st').Perm `n->failedOf st'=none->Up rk `af 0 n->Q () st'):wpS M A E s sortRuns' Q st:=by
 obtain⟨r1,r2⟩:=EY h2 h128;let oR:∀st',Rn st st'->∀x∈(arrOf st').toList,ok x:=λst' R x hx=>o x ((perm_iff_toList_perm.mp R.perm).mem_iff.mp hx);let zR:∀st',Rn st st'->(arrOf st').size=n:=λst' R=>R.perm.size_eq.trans hn;rw[sortRuns'_eq];show wpS_bind (wpS_get ?_);rw[hn];generalize hmr:minRun' n n 0=mr at r1 r2;refine wpS_bind (wpS_mono (wpS_forRange
  (I:=λx c st'=>(x=0/\c=(none,0)/\st'=st)\/(x=1/\∃k,c=(none,k)/\mr<=k/\k<n/\Rn st st'/\One rk k st')\/(1<=x/\c=(none,n)/\Rn st st'/\(One rk n st'\/uG rk n st')))
  (Q:=λc st'=>c=(none,n)/\Rn st st'/\(One rk n st'\/uG rk n st')) ?step ?fin (.inl #[rfl,rfl,rfl])) ?post)
 case fin=>
  rintro c st' (⟨hx,_⟩|⟨hx,_⟩|⟨_,z⟩)
  .lia
  .lia
  .show z
 case step=>
  rintro x c st' _ hx (⟨rfl,rfl,rfl⟩|⟨rfl,k,rfl,hk,kn,R,hpd,hu⟩|⟨hx1,rfl,z⟩)
  .simp only[hmr];rw[q5 ∅];let go:∀k st3,mr<=k->k<=n->Sb ok 0 st' st3->Up rk (arrOf st3) 0 (0+k)->(True/\∃k',((none,0+k):Option Unit×Nat)=(none,k')/\mr<=k'/\k'<n/\Rn st' (setPending st3 (#[].push (0,k,0)))/\One rk k' (setPending st3 (#[].push (0,k,0))))\/1<=0+1/\((none,0+k):Option Unit×Nat)=(none,n)/\Rn st' (setPending st3 (#[].push (0,k,0)))/\(One rk n (setPending st3 (#[].push (0,k,0)))\/uG rk n (setPending st3 (#[].push (0,k,0)))):=λk st3 h1 h3 hb hu=>by
    let R:Rn st' (setPending st3 (#[].push (0,k,0))):=#[hb.perm,hb.rest.1,hb.rest.2.2.trans hf]
    rw[zero_add k];by_cases e:k=n
    .subst e;show .inr #[∅,rfl,R,.inl #[rfl,hu]]
    .show .inl #[trivial,k,rfl,h1,∅,R,rfl,hu]
   show wpS_bind (BL C hst o ∅ ∅ λk st2 k1 km hb hu=>?_);simp only;by_cases hlt:k<mr
   .rw[q4 hlt];show wpS_bind (Az ?_);show wpS_bind (Cm C hst o ∅ ∅ hb hu λst3 hb3 hu3=>?_);show wpS_bind (wpS_get ?_);rw[show pendingOf st3=#[] from hb3.rest.2.1.trans hp];show wpS_bind (wpS_modify (wpS_pure (.inr ?_)));rw[show pendingOf st3=#[] from hb3.rest.2.1.trans hp];show go _ st3 ∅ ∅ hb3 hu3
   .rw[q5 hlt];show wpS_bind (wpS_get ?_);rw[show pendingOf st2=#[] from hb.rest.2.1.trans hp];show wpS_bind (wpS_modify (wpS_pure (.inr ?_)));rw[show pendingOf st2=#[] from hb.rest.2.1.trans hp];show go _ st2 ∅ ∅ hb hu
  .simp only[hmr];rw[q5 ∅];let zs:=zR _ R;show wpS_bind (BL C (R.kind.trans hst) (oR _ R) ∅ ∅ λk2 st2 k1 km hb hu2=>?_);simp only;let go:∀q st3 st4,arrOf st4=arrOf st3->kindOf st4=kindOf st3->failedOf st4=failedOf st3->pendingOf st4=[(0,k,q),(k,n-k,0)].toArray->Sb ok k st' st3->Up rk (arrOf st3) k (k+(n-k))->Rn st st4/\(One rk n st4\/uG rk n st4):=λq st3 st4 e1 e2 e3 e hb hu3=>by show#[#[by rw[e1];show hb.perm.trans R.perm,e2.trans (hb.rest.1.trans R.kind),e3.trans (hb.rest.2.2.trans R.failed)],.inr #[k,q,∅,kn,e,λi j h1 h2 h3=>?_,by rw[e1];show hu3]];rw[e1];let:=hu i j h1 h2 h3;show((arrOf st3)[i]?).elim 0 rk<=((arrOf st3)[j]?).elim 0 rk;rw[hb.pre i ∅,hb.pre j ∅];exact this
   by_cases hlt:k2<mr
   .rw[q4 hlt];show wpS_bind (Az ?_);show wpS_bind (Cm C (R.kind.trans hst) (oR _ R) ∅ ∅ hb hu2 λst3 hb3 hu3=>?_);rw[show min (n-k) mr=n-k by lia]at hu3⊢;show wpS_bind (wpS_get ?_);rw[show pendingOf st3=[(0,k,0)].toArray from hb3.rest.2.1.trans hpd];show wpS_bind (wpS_mono (wpS_forRange (I:=λx c st4=>x=0/\c=(none,())/\st4=st3) (Q:=λc st4=>c=(none,())/\st4=st3) ?s2 ?f2 #[rfl,rfl,rfl]) ?p2);case f2=>rintro c st4 ⟨e,_⟩;lia
    case s2=>rintro x c st4 _ _ ⟨rfl,rfl,e⟩;show wpS_bind (wpS_get ?_);rw[e,show pendingOf st3=[(0,k,0)].toArray from hb3.rest.2.1.trans hpd];show wpS_pure #[rfl,rfl]
    case p2=>rintro c st4 ⟨rfl,e⟩;rw[e];show wpS_bind (wpS_modify (wpS_bind (wpS_modify (wpS_pure (.inr (.inr #[∅,by rw[show k+(n-k)=n by lia],go (power' n (2*0+k) (2*0+k+k+(n-k)) n) st3 _ rfl rfl rfl ?_ hb3 hu3]))))));rw[show pendingOf st3=[(0,k,0)].toArray from hb3.rest.2.1.trans hpd];rfl
   .rw[q5 hlt];obtain rfl:k2=n-k:=by lia
    show wpS_bind (wpS_get ?_);rw[show pendingOf st2=[(0,k,0)].toArray from hb.rest.2.1.trans hpd];show wpS_bind (wpS_mono (wpS_forRange (I:=λx c st4=>x=0/\c=(none,())/\st4=st2) (Q:=λc st4=>c=(none,())/\st4=st2) ?s2 ?f2 #[rfl,rfl,rfl]) ?p2);case f2=>rintro c st4 ⟨e,_⟩;lia
    case s2=>rintro x c st4 _ _ ⟨rfl,rfl,e⟩;show wpS_bind (wpS_get ?_);rw[e,show pendingOf st2=[(0,k,0)].toArray from hb.rest.2.1.trans hpd];show wpS_pure #[rfl,rfl]
    case p2=>rintro c st4 ⟨rfl,e⟩;rw[e];show wpS_bind (wpS_modify (wpS_bind (wpS_modify (wpS_pure (.inr (.inr #[∅,by rw[show k+(n-k)=n by lia],go (power' n (2*0+k) (2*0+k+k+(n-k)) n) st2 _ rfl rfl rfl ?_ hb hu2]))))));rw[show pendingOf st2=[(0,k,0)].toArray from hb.rest.2.1.trans hpd];rfl
  .simp only;rw[q4 `j];show wpS_pure #[rfl,z]
 case post=>
  rintro c st' ⟨rfl,R,z⟩;show wpS_bind (wpS_mono (wpS_forRange (I:=λx c st4=>c=(none,())/\((x=0/\st4=st')\/(1<=x/\(arrOf st4).Perm `n/\failedOf st4=none/\Up rk (arrOf st4) 0 n/\(pendingOf st4).size=1))) (Q:=λc st4=>c=(none,())/\(arrOf st4).Perm `n/\failedOf st4=none/\Up rk (arrOf st4) 0 n) ?step2 ?fin2 #[rfl,.inl #[rfl,rfl]]) ?post2);case post2=>rintro _ st4 ⟨rfl,h3,h4,h5⟩;show wpS_pure (h st4 h3 h4 h5)
  case fin2=>
   rintro c st4 ⟨e,⟨hx,_⟩|⟨_,h3,h4,h5,_⟩⟩
   .lia
   .show#[e,h3,h4,h5]
  case step2=>
   rintro x _ st4 _ _ ⟨rfl,⟨rfl,rfl⟩|⟨_,h3,h4,h5,h6⟩⟩
   .show wpS_bind (wpS_get ?_);rcases z with⟨hp1,hu⟩|⟨k,q,k0,kn,hp2,u1,u2⟩
    .rw[hp1];show wpS_pure #[rfl,R.perm,R.failed,by rwa[zero_add]at hu]
    .rw[hp2];show wpS_bind (Ck C (R.kind.trans hst) (oR _ R) hp2 k0 ∅ (by rw[zR _ R];lia) R.failed u1 u2 λst5 p5 d5 f5 u5=>?_);rw[zR _ R]at u5;show wpS_pure #[rfl,.inr #[∅,p5.trans R.perm,f5,u5,by rw[d5];rfl]]
   .show wpS_bind (wpS_get ?_);rw[q4 ∅];show wpS_pure #[rfl,h3,h4,h5]
def Cf:∀vs:List Value,vs.zip vs=vs.map λv=>(v,v)
 |[]=>rfl
 |v::r=>by show(v,v)::r.zip r=_;rw[Cf r];rfl
theorem list_sort128{a:Addr}{vs:List Value}{n:Nat}{P:Fin->Shared->Prop}(ho:s.heap.get? a=some (seqObj "list" vs.toArray n))(h2:2<=vs.length)(Y:vs.length<128)
  (hk:∀h':Heap,(∀b o,b≠a->s.heap.get? b=some o->h'.get? b=some o)->(∀Q:SortKind->Shared->Prop,Q κ {s with heap:=h'}->wpAny `b A (keyKind' vs.toArray) Q E {s with heap:=h'})/\Cmp `b A E {s with heap:=h'} κ ok rk)
  (h1:∀v∈vs,ok (v,v))
  (h:∀F:List Value,F.Perm vs->F.Pairwise (λu v=>rk (u,u)<=rk (v,v))->P (.done (.ret .none)) {s with heap:=sortedHeap s.heap a vs F.toArray}):
  wpAny `b A (Builtin.«list.sort» #[[.ref a],[]]) P E s:=by
 let ha:a<s.heap.objs.size:=qe ho;rw[list_sort_plain];show qa (listItems_at ho rfl ?_);show qa (listUpdate_at ho rfl ?_ (by rw[qr,ze];lia) `cq);obtain⟨e1,M⟩:∃e1,(s.heap.update a (Obj.mapSeq λ_=>#[])).get? a=some (seqObj "list" #[] e1):=#[_,get?_update_seq ho (λ_=>#[])]
 show qa (seqEpoch_at M rfl ?_);show qa (wpAny_newTuple ?_ (by show vs.length<=_;rw[ze];lia));show qa (wpAny_newList ?_ `cq);show zf ?_;let L:(((s.heap.update a (Obj.mapSeq λ_=>#[])).push (seqObj "tuple" vs.toArray 0)).push (seqObj "list" #[] 0)).get? a=some (seqObj "list" #[] e1):=by rw[Heap.get?_push_ne _ _ _ (by rw[size_push',Heap.size_update];show ne_of_lt (lt_succ_of_lt ha)),Heap.get?_push_ne _ _ _ (by rw[Heap.size_update];show ne_of_lt ha)];show M
 let#[k1,C]:=hk (((s.heap.update a (Obj.mapSeq λ_=>#[])).push (seqObj "tuple" vs.toArray 0)).push (seqObj "list" #[] 0)) λb o hb e=>qc _ (qc _ (by rw[Heap.get?_update_ne _ _ _ _ hb];show e));let O:¬vs.toArray.size<2:=by rw[qr];lia
 rw[q5 O,q5 O];show qa (k1 _ ?_);let J:(vs.toArray.zip vs.toArray).size=vs.length:=by rw[Array.size_zip];show Nat.min_self _
 let hz:(vs.toArray.zip vs.toArray).toList=vs.map λv=>(v,v):=by rw[Array.toList_zip];show Cf vs
 refine qa (zh (BZ C (st:=SortSt.mk' κ `cb #[] 7 none) (n:=vs.length)
   (Q:=λ_ z=>(arrOf z).Perm `cb/\failedOf z=none/\Up rk (arrOf z) 0 vs.length) rfl
   (λx hx=>?_) rfl rfl J h2 Y λz a1 a2 a3=>#[a1,a2,a3]) ?_ λ_ _ e=>e)
 .rw[show(arrOf (SortSt.mk' κ `cb #[] 7 none)).toList=vs.map λv=>(v,v) from hz]at hx;let#[v,hv,rfl]:=qK.mp hx;show h1 v hv
 .rintro⟨⟨⟩,z⟩ s' ⟨rfl,hp,hf,hs⟩;let G:(arrOf z).toList.Perm (vs.map λv=>(v,v)):=by rw[<-hz];exact perm_iff_toList_perm.mp hp
  let B:(arrOf z).size=vs.length:=hp.size_eq.trans J;let h3:(arrOf z).map (·.2)=((arrOf z).toList.map (·.2)).toArray:=Array.toList_inj.mp Array.toList_map;show qa (seqEpoch_at L rfl ?_);show qa (listUpdate_at L rfl ?_ (hsz2:=by rw[Array.size_map,ze];lia));rw[hf];simp;rw[h3];let pv:((arrOf z).toList.map (·.2)).Perm vs:=by let:=G.map (λx:Keyed=>x.2);rwa[qE,show((λx:Keyed=>x.2)∘λv=>(v,v))=id from rfl,map_id]at this
  show qb (h _ pv ?_);let sq:=Bq hs (by rw[B];show q8 _);rw[show(arrOf z).extract 0 vs.length=arrOf z by rw[<-B];show Array.extract_size ..]at sq;rw[pairwise_map];show List.Pairwise.imp_of_mem (λ{x y} hx hy r=>?_) sq;let#[v,_,rfl]:=qK.mp (G.mem_iff.mp hx);let#[u,_,rfl]:=qK.mp (G.mem_iff.mp hy);show r
theorem sorted128{l:Addr}{vs:List Value}{Q:zj}(O:s.heap.IsList l vs.toArray)(h2:2<=vs.length)(J:vs.length<128)
  (Y:∀h':Heap,(∀b o,s.heap.get? b=some o->h'.get? b=some o)->(∀Q:SortKind->Shared->Prop,Q κ {s with heap:=h'}->wpAny `b A.in1.in1 (keyKind' vs.toArray) Q E {s with heap:=h'})/\Cmp `b A.in1.in1 E {s with heap:=h'} κ ok rk)
  (L:∀v∈vs,ok (v,v))
  (h:∀z:List Value,z.Perm vs->z.Pairwise (λu v=>rk (u,u)<=rk (v,v))->Q (.ref (s.heap.objs.size+1)) {s with heap:=sortedAll s.heap vs z.toArray}):
  wpAny `b A (call (.builtin "sorted") [.ref l]) Q E s:=by
 show Calls.call_function_entry kind_sorted plain_sorted entry_sorted (args_sorted1 _) ?_;show qa (m:=checkCount "sorted" 1 1 _) (qb ?_);show qa (collect_list O ?_ (by rw[ze];lia));show qa (wpAny_newList ?_ (by rw[ze];lia));let B:((s.heap.push (seqObj "list" #[] 0)).update s.heap.objs.size (Obj.mapSeq (·++vs.toArray))).objs.size=s.heap.objs.size+1:=by rw[Heap.size_update,size_push']
 let G:(((s.heap.push (seqObj "list" #[] 0)).update s.heap.objs.size (Obj.mapSeq (·++vs.toArray))).push (seqObj "list" vs.toArray 0)).get? (s.heap.objs.size+1)=some (seqObj "list" vs.toArray 0):=by rw[<-B];show qd _ rfl
 rw[B];show qa (zf (zd slot_list_sort #[_,G,rfl] entry_list_sort (list_sort128 G h2 J (λh' M=>Y h' λb o e=>M b o ?_ ?_) L λz a1 a2=>#[_,rfl,?_]) (args_list_sort _)))
 .show ne_of_lt (lt_succ_of_lt (qe e))
 .let F:b<s.heap.objs.size:=qe e;rw[Heap.get?_push_ne _ _ _ (by rw[B];show ne_of_lt (lt_succ_of_lt F)),Heap.get?_update_ne _ _ _ _ (ne_of_lt F),Heap.get?_push_ne _ _ _ (ne_of_lt F)];show e
 .show qb #[_,rfl,h z a1 a2]
end TS
namespace FL
open PySem PySem.Spec PyProof.Rows L2 PySem.W
section
variable{ps:List (List aO×Addr)}
def tR(ps:List (List aO×Addr))(x:Keyed):Int:=match x.1 with
 |.ref b=>aq (ps.map tK) (ps.findIdx λp=>p.2==b)
 |_=>0
def LO(G:∀p∈ps,∀q∈ps,p.2=q.2->p.1=q.1){p:List aO×Addr}(B:p∈ps):∃i,∃h:i<ps.length,ps[i]=p/\∀v,tR ps (.ref p.2,v)=aq (ps.map tK) i:=by
 let z:ps.findIdx (λq=>q.2==p.2)<ps.length:=List.findIdx_lt_length_of_exists #[p,B,by simp];let e:=List.findIdx_getElem (p:=λq:List aO×Addr=>q.2==p.2) (w:=z);let F:ps[ps.findIdx (λq=>q.2==p.2)].2=p.2:=↑e
 show#[_,z,Prod.ext (G _ (getElem_mem z) _ B F) F,λ_=>rfl]
def LF(B:∀p∈ps,∀q∈ps,p.2=q.2->p.1=q.1)(hs:∀p∈ps,eR sh (p.1.map aI)){p q:List aO×Addr}(z:p∈ps)(L:q∈ps){u v:Value}:decide (tR ps (.ref p.2,u)<tR ps (.ref q.2,v))=!eC (tK q) (tK p):=by
 let#[i,hi,ei,J]:=LO B z;let#[j,F,Y,G]:=LO B L;let M:∀d∈ps.map tK,gU sh d:=λd O=>by let#[p,z,rfl]:=qK.mp O;show hs p z
 let:=Qo (Ij sh) M (i:=i) (j:=j) (by rw[qo];show hi) (by rw[qo];show F);rw[J,G,this];simp[hi,F,ei,Y]
def Of{b:Bool}(B:∀p∈ps,mQ s.heap p.2 p.1/\eR sh (p.1.map aI))(hu:∀p∈ps,∀q∈ps,p.2=q.2->p.1=q.1):TS.Cmp `b A E s (tuples' b) (λx=>∃p∈ps,x=(.ref p.2,.ref p.2)) (tR ps):=by
 show#[λx y Q st F⟨p,v,ex⟩⟨q,M,ey⟩ h=>?_];subst ex ey;rw[LF hu (λp v=>(B p v).2) v M]at h;rw[lt'_eq];show wpS_bind (wpS_get ?_);rw[F];let#[#[O,r,o,e,c,n,d],L]:=B _ v;let#[#[z,G,o',e',c',n',d'],J]:=B _ M;rw[show eC (tK q) (tK p)=_ from EL J L,Bool.not_not]at h;show wpS_bind (wpS_lift (wpAny_attempt (kat_lt e d e' d' ?_)));let l1:O.toArray.size=p.1.length:=by rw[qr,<-r.length,qo]
 let Y:z.toArray.size=q.1.length:=by rw[qr,<-G.length,qo]
 rw[l1,Y];show Xp 0 r G L J #[rfl,wpS_pure h]
def Ow{t:Bool}(J:∀p∈ps,mQ s.heap p.2 p.1/\eR (t::sh) (p.1.map aI))(h2:2<=ps.length){Q:SortKind->Shared->Prop}(h:Q (tuples' true) s):wpAny `b A (keyKind' (ps.map λp=>Value.ref p.2).toArray) Q E s:=by
 let#[fs,G,L,F]:=CA J;cases t
 .show kat_kind (T:=.type "int") G ∅ (λv B=>?_) (by rfl) h;let#[z,u,rfl]:=F v B;show Looks.of_pure rfl
 .show kat_kind (T:=.type "str") G ∅ (λv B=>?_) (by rfl) h;let#[z,u,rfl]:=F v B;show Looks.of_pure rfl
def OK(L:∀p∈ps,eR sh (p.1.map aI))(J:∀p∈ps,∀q∈ps,p.2=q.2->p.1=q.1){z:List Value}(M:z.Perm (ps.map λp=>Value.ref p.2))(G:z.Pairwise λu v=>tR ps (u,u)<=tR ps (v,v)):
  ∃B:List (List aO×Addr),z=(B.map λp=>Value.ref p.2)/\B.Perm ps/\(B.map tK).Pairwise (eC · ·=true):=by
 let#[B,rfl,F]:=IF M;show#[B,rfl,F,?_];rw[pairwise_map]at G⊢;show G.imp_of_mem λ{p q} h1 h2 r=>?_;let:=LF J L (F.mem_iff.mp h2) (F.mem_iff.mp h1) (u:=.ref q.2) (v:=.ref p.2);rw[qS ∅]at this;simpa using this.symm
def Nb:∀v∈ps.map (λp=>Value.ref p.2),∃p∈ps,(v,v)=(Value.ref p.2,Value.ref p.2):=λv z=>by let#[p,B,rfl]:=qK.mp z;show#[p,B,rfl]
end
section
variable{K:W.Frag}
def gI(K:W.Frag):List V->Hp->VK->Prop:=λxs H Q=>∃a vs,xs=[.ref a]/\(bQ K H a vs\/H a=some `dz)/\
 ((vs.length<2/\∀q,H q=none->Q (.ref q) (upd H q (.lst vs)))\/
 ∃(ps:List (List aO×Addr))(sh:List Bool),vs=ps.map (λp=>V.ref p.2)/\2<=ps.length/\ps.length<128/\(∀p∈ps,H p.2=some (.tup (p.1.map kV))/\eR sh (p.1.map aI))/\sh≠[]/\∀v:List (List aO×Addr),v.Perm ps->(v.map tK).Pairwise (eC · ·=true)->∀q,H q=none->Q (.ref q) (upd H q (.lst (v.map λp=>V.ref p.2))))
def OD:∀{l m:List aO},l.map kV=m.map kV->l=m
 |[],[],_=>rfl
 |[],_::_,h=>nomatch h
 |_::_,[],h=>nomatch h
 |a::l,b::m,h=>by let#[h1,h2]:=List.cons.inj h;rw[OD h2];cases a<;>cases b<;>first|cases h1;rfl|nomatch h1
def MJ{H:Hp}{ps:List (List aO×Addr)}(F:∀p∈ps,H p.2=some (.tup (p.1.map kV))):∀p∈ps,∀q∈ps,p.2=q.2->p.1=q.1:=λp B q v e=>by let z:=F p B;rw[e,F q v]at z;show(OD (HO.tup.inj (qf z))).symm
def Ke(I:Inv X zG Z H s){F:Shared}{D:Addr}{B:Array Value}{e:Nat}{J:List V}(O:zD J B.toList)(hw:J.length<=1000)(hD:F.heap.get? D=some (seqObj "list" B e))(G:s.heap.get? D=none)(L:∀b o,s.heap.get? b=some o->F.heap.get? b=some o)(hg:F.gens=s.gens)(Y:F.os=s.os)(q:∀q,H q=none->Q (.ref q) (upd H q (.lst J))):EP X zG Z Q `k F:=by
 let#[h2,g2,d2,M,o2]:=F;subst hg Y;show#[.ref D,_,Inv.laidD (s:=s) (t':=M) (d':=d2) (o:=.lst J) I (λm x=>x.at' λo e=>L _ o e) (λb u _ e=>L b u e) G ?_,rfl,q D ?_]
 .show#[by rw[ze];lia,B.toList,e,O,by rw[toArray_toList];show hD]
 .cases e:H D with
  |none=>rfl
  |some u=>let#[v,z]:=zF.there (I.hok D u e);rw[G]at z;cases z
def Wi(hh:X.A.handled=none):aZ X (.builtin "sorted") (gI X.K):=by
 intro zG s Z H xs us Q I r h;let#[a,vs,rfl,z,h]:=h;cases r with
 |cons r1 r2=>
  cases r2;cases r1;let h8:=λ{s2 D h5 e ws}=>@Ke X zG Z H s Q I s2 D h5 e ws;let h9:∀{h':Heap},(∀b o,s.heap.get? b=some o->h'.get? b=some o)->∀b u,b≠X.env.locals->s.heap.get? b=some u->h'.get? b=some u:=λk b u _ e=>k b u e;rcases z with z|z
  .rcases h with⟨h2,q⟩|⟨ps,sh,rfl,h2,J,hp,h7,q⟩
   .show Xk zG s Z H [.ref a] [.ref a] Q I (.cons rfl .nil) #[a,vs,rfl,z,h2,q]
   .obtain⟨e3,rv,pl,_⟩:=I.list z;let hv:=JL rv;subst hv;let hu:=MJ λp h=>(hp p h).1;let#[t,O,rfl]:=List.exists_cons_of_ne_nil h7;refine TS.sorted128 (ok:=λx=>∃p∈ps,x=(.ref p.2,.ref p.2)) (rk:=tR ps) (κ:=tuples' true) pl.isList (by rw[qo];show h2) (by rw[qo];show J) (λh' k=>?_) Nb λh5 a1 a2=>?_
    .let ht:∀p∈ps,mQ h' p.2 p.1/\eR (t::O) (p.1.map aI):=λp v=>#[MU I (h9 k) (hp p v).1,(hp p v).2]
     show#[λQ hQ=>Ow (s:={s with heap:=h'}) ht h2 hQ,Of (s:={s with heap:=h'}) ht hu]
    .obtain⟨Y,rfl,pq,pw⟩:=OK (λp v=>(hp p v).2) hu a1 a2;let#[e,he]:=sortedAll_at s.heap (ps.map λp=>Value.ref p.2) (Y.map λp=>Value.ref p.2).toArray;show h8 (JN Y) (by rw[qo,pq.length_eq];lia) he (Heap.get?_none_of_le `am) (λb o w=>sortedAll_old w) rfl rfl (q Y pq pw)
  .obtain⟨es,ep,t,us,h1,h2,h3,h4,pu,hv,hl⟩:=LI I z;let none_of:∀{L:Shared},(∀b o,s.heap.get? b=some o->L.heap.get? b=some o)->s.heap.get? L.heap.objs.size=none:=λ{L} F=>by
    cases q:s.heap.get? L.heap.objs.size with
    |none=>rfl
    |some o=>show absurd (ST.lt_of_get (F _ _ q)) `cd
   rcases h with⟨G,q⟩|⟨ps,sh,rfl,G,J,hp,h7,q⟩
   .show ST.sorted_set hh (Ho I z) h1 h2 h3 h4 ∅ λL ord h6 F hg ho ht new=>?_;let#[ws,pw,M]:=OM hv (h6.map (·.2));let ew:ws=vs:=TK (pw.trans pu) G;subst ew;let e2:(ord.map (·.2)).length<2:=by rw[<-M.length];exact G
    show MO new e2 #[_,rfl,?_];let#[e,he]:=ST.sortedHeap_at new (ord.map (·.2)).toArray;show h8 M ∅ he (none_of F) (λb o e=>ST.sortedHeap_old (ne_of_lt (ST.lt_of_get (F b o e))) (qc _ (F b o e)) _) hg ho q
   .rw[qo]at hl;show ST.sorted_set hh (Ho I z) h1 h2 h3 h4 ∅ λL ord h6 F hg ho ht new=>?_;let#[ws,pw,M]:=OM hv (h6.map (·.2));let#[B,rfl,pp]:=IF (pw.trans pu);let e1:=JL M;rw[e1]at new⊢;let v:∀p∈B,H p.2=some (.tup (p.1.map kV))/\eR sh (p.1.map aI):=λp h=>hp p (pp.mem_iff.mp h);let hu:=MJ λp h=>(v p h).1;let#[t,O,rfl]:=List.exists_cons_of_ne_nil h7;refine TS.list_sort128 (s:={L with heap:=L.heap.push (seqObj "list" (B.map λp=>Value.ref p.2).toArray 0)}) (ok:=λx=>∃p∈B,x=(.ref p.2,.ref p.2)) (rk:=tR B) (κ:=tuples' true) new (by rw[qo,pp.length_eq];show G) (by rw[qo,pp.length_eq];show J) (λh' k=>?_) Nb λh5 a1 a2=>#[_,rfl,?_]
    .let ht:∀p∈B,mQ h' p.2 p.1/\eR (t::O) (p.1.map aI):=λp z=>#[MU I (λb u _ e=>k b u (ne_of_lt (ST.lt_of_get (F b u e))) (qc _ (F b u e))) (v p z).1,(v p z).2]
     show#[λQ hQ=>Ow (s:={L with heap:=h'}) ht (by rw[pp.length_eq];show G) hQ,Of (s:={L with heap:=h'}) ht hu]
    .obtain⟨Y,rfl,pq,pw⟩:=OK (λp z=>(v p z).2) hu a1 a2;let#[e,he]:=ST.sortedHeap_at new (Y.map λp=>Value.ref p.2).toArray;show h8 (JN Y) (by rw[qo,pq.length_eq,pp.length_eq];lia) he (none_of F) (λb o e=>ST.sortedHeap_old (ne_of_lt (ST.lt_of_get (F b o e))) (qc _ (F b o e)) _) hg ho (q Y (pq.trans pp) pw)
def Ov:cT K (gI K) yR:=by
 intro Z U F G H vs ds s Q z Y e O;let#[d,v,rfl,rfl]:=AY (λx y r=>by cases x<;>rfl) rfl Y e;let B:∀{a:Addr}{xs:List V}{l:List D},(bQ K H a xs\/H a=some (.set xs))->zE K F xs l->hU l=some s->gI K [.ref a] H Q:=λ{a xs l} h3 r e=>by
  unfold hU at e;split at e
  .rename_i hc;cases e;show#[a,xs,rfl,h3,?_];let#[J,hc]:=hc;let h5:=r.len;by_cases h2:l.length<2
   .show .inl #[∅,λq hn=>?_];rw[WL h2]at O;show O _ F _ `c (z.newLD hn r)
   .obtain⟨sh,h4,L⟩:=hc.resolve_left h2;let M:l.all (aW true)=true:=qI.mpr λd hd=>by let:=L d hd;cases d<;>first|exact this.elim|exact Mx this
    let#[ps,rfl,rfl,hf]:=JY r M;rw[qo]at J h2;show .inr #[ps,sh,rfl,∅,J,λp hp=>#[z.fr _ _ (hf p hp),L (tK p) (qK.mpr #[p,hp,rfl])],h4,λqs pq pw q hn=>?_];rw[FR (Ij sh) L (pq.map tK) pw]at O;show O _ F _ `c (z.newLD hn (zE.of_all λi hi=>zE.to_all r i (pq.mem_iff.mp hi)))
  .cases e
 cases d with
 |lst l=>let#[a,xs,rfl,h1,r1]:=Y.1.lst z.fr;show B (.inl h1) r1 e
 |set l=>let#[a,xs,rfl,h1,r1]:=bK.set Y.1;show B (.inr (z.fr _ _ h1)) r1 e
 |_=>cases e
def kG(K:W.Frag):List V->Hp->VK->Prop:=λxs H Q=>gI K xs H Q\/∃a vs,xs=[.ref a]/\(bQ K H a vs\/H a=some `dz)/\((∃ns:List Int,vs=ns.map V.int/\ns.length<64/\∀z:List Int,z.Perm ns->z.Pairwise (·<=·)->∀q,H q=none->Q (.ref q) (upd H q (.lst (z.map V.int))))\/
 ∃B:List Str,vs=B.map V.str/\B.length<64/\∀v:List Str,v.Perm B->sortedS v=true->∀q,H q=none->Q (.ref q) (upd H q (.lst (v.map V.str))))
def VS(Y:X.A.handled=none):aZ X (.builtin "sorted") (kG X.K):=by
 intro zG s Z H xs us Q I r h;rcases h with h|⟨a,vs,rfl,z,h⟩
 .show Wi Y zG s Z H xs us Q I r h
 .cases r with
  |cons r1 r2=>
   cases r2;cases r1;rcases z with z|z
   .rcases h with⟨ns,rfl,v,q⟩|⟨zs,rfl,v,q⟩
    .show OO zG s Z H [.ref a] [.ref a] Q I (.cons rfl .nil) #[a,rfl,.inl #[ns,v,z,q]]
    .show OO zG s Z H [.ref a] [.ref a] Q I (.cons rfl .nil) #[a,rfl,.inr #[zs,v,z,q]]
   .obtain⟨es,ep,t,us,h1,h2,h3,h4,pu,hv,hl⟩:=LI I z;rcases h with⟨ns,rfl,v,q⟩|⟨zs,rfl,v,q⟩
    .obtain⟨ms,rfl,G⟩:=IF pu;rw[qo]at hl;show ST.sorted_set_ints Y (Ho I z) h1 h2 h3 h4 ∅ (Hs hv) λs2 D L e B a1 J a3 hD F O hg M ht=>Ke I (Gb a1) (by rw[qo,J.length_eq,G.length_eq];lia) hD F O hg M (q B (J.trans G) a3)
    .obtain⟨ms,rfl,G⟩:=IF pu;rw[qo]at hl;show ST.sorted_set_strs Y (Ho I z) h1 h2 h3 h4 ∅ (IU hv) λs2 D L e B a1 J a3 hD F O hg M ht=>Ke I (JU a1) (by rw[qo,J.length_eq,G.length_eq];lia) hD F O hg M (q B (J.trans G) a3)
def Wg:cT K (kG K) cY:=by
 intro Z U F G H vs ds s Q B O e M;let#[d,v,rfl,rfl]:=AY (λx y r=>by cases x<;>rfl) rfl O e;let J:∀{a:Addr}{xs:List V}{l:List D},(bQ K H a xs\/H a=some (.set xs))->zE K F xs l->cF l=some s->(hU l=some s->gI K [.ref a] H Q)->kG K [.ref a] H Q:=λ{a xs l} h2 r e h8=>by
  unfold cF at e;split at e
  .rename_i hc;rcases hc with⟨h3,hi|hs⟩|h
   .cases e;let#[ns,q1]:=isSome_iff_exists.mp hi;let#[e1,e2]:=JM r q1;subst e1 e2;show .inr #[a,_,rfl,h2,.inl #[ns,rfl,by rwa[qo]at h3,λY p pw q hn=>?_]];rw[FR Hf (m:=Y.map D.int) (λd hd=>by let#[z,_,rfl]:=qK.mp hd;trivial) (p.map _) (pairwise_map.mpr (pw.imp λ{a b} h=>by rw[GZ];show qR h))]at M;show M _ F _ `c (B.newLD hn (IQ Y))
   .cases e;let#[ys,q2]:=isSome_iff_exists.mp hs;let#[zs,e1,e2]:=Mn r q2;subst e1;let#[e3,sm]:=OC r rfl;subst e3;show .inr #[a,_,rfl,h2,.inr #[zs,rfl,by rwa[qo]at h3,λL p pw q hn=>?_]];rw[FR JB (m:=L.map λz=>D.str z.cps.toList) (λd hd=>by let#[z,_,rfl]:=qK.mp hd;trivial) (p.map _) (VQ L pw)]at M;show M _ F _ `c (B.newLD hn (NZ L λz hz=>sm z (p.mem_iff.mp hz)))
   .show .inl (h8 (by unfold hU;rw[q4 h];show e))
  .cases e
 cases d with
 |lst l=>let#[a,xs,rfl,h1,r1]:=O.1.lst B.fr;show J (.inl h1) r1 e λe8=>Ov Z U F G H _ [.lst l] s Q B O e8 M
 |set l=>let#[a,xs,rfl,h1,r1]:=bK.set O.1;show J (.inr (B.fr _ _ h1)) r1 e λe8=>Ov Z U F G H _ [.set l] s Q B O e8 M
 |_=>cases e
def Hw{k:Nat}(B:cB k X.A)(G:Gl X "sorted")(F:X.mg "sorted"=none)(z:bootBuiltins "sorted"=some (.builtin "sorted"))(L:FA X (e::es) wa)(J:autoParam (starEach (e::es) X.env=(false,eval e X.env)::starEach es X.env) rZ9)(v:autoParam ((backTo pos `h).any (·.1)=false) rZ9):FE X (.Call (.Name "sorted" p) (e::es) [] pos) (wB cY wa):=
 GO (λpn xe=>VS (X:=wp X pn xe) B.hd) Wg G F z L ⋯ ⋯ J v
end
end FL
namespace FL
mutual
def sA:D->D->Bool
 |.int _,.int _=>true
 |.tup l,.tup m=>fO l m
 |_,_=>false
def fO:List D->List D->Bool
 |a::l,b::m=>sA a b&&fO l m
 |_,_=>true
end
end FL
namespace FL
open PySem PySem.Spec PyProof.Rows L2
open PySem.SeqAt AutoSeq1
def cv:cH `O `bp=if i<j then .lt else if j<i then .gt else .eq:=rfl
mutual
theorem Vb:∀(d:D),sA d d=true->cH d d=.eq
 |.int i,_=>by rw[cv,q5 (Int.lt_irrefl i),q5 (Int.lt_irrefl i)]
 |.tup l,h=>Om l h
 |.non,h|.bl _,h|.str _,h|.lst _,h|.dct ..,h|.set _,h|.exc ..,h=>by cases h
theorem Om:∀(l:List D),fO l l=true->bE l l=.eq
 |[],_=>by rw[bE]
 |d::l,h=>by rw[fO,and_eq_true]at h;rw[bE,Vb d h.1];show Om l h.2
end
mutual
theorem PQ:∀(d e:D),sA d e=true->cH d e=.eq->d=e
 |.int i,e,h,c=>by
  cases e with
  |int j=>
   rw[cv]at c;split at c
   .cases c
   .split at c
    .cases c
    .rw[show i=j by lia]
  |_=>cases h
 |.tup l,e,h,c=>by
  cases e with
  |tup m=>rw[LX l m h c]
  |_=>cases h
 |.non,_,h,_|.bl _,_,h,_|.str _,_,h,_|.lst _,_,h,_|.dct ..,_,h,_|.set _,_,h,_|.exc ..,_,h,_=>by cases h
theorem LX:∀(l m:List D),fO l m=true->bE l m=.eq->l=m
 |[],[],_,_=>rfl
 |[],_::_,_,c=>by rw[bE]at c;cases c
 |_::_,[],_,c=>by rw[bE]at c;cases c
 |d::l,e::m,h,c=>by
  rw[fO,and_eq_true]at h;rw[bE]at c;cases q:cH d e with
  |eq=>rw[q]at c;rw[PQ d e h.1 q,LX l m h.2 c]
  |lt=>rw[q]at c;cases c
  |gt=>rw[q]at c;cases c
end
mutual
theorem Wv:∀(d e:D),sA d e=true->aS d e=false
 |.int i,e,h=>by cases e<;>first|rfl|cases h
 |.tup l,e,h=>by
  cases e with
  |tup m=>show OT l m h
  |_=>cases h
 |.non,_,h|.bl _,_,h|.str _,_,h|.lst _,_,h|.dct ..,_,h|.set _,_,h|.exc ..,_,h=>by cases h
theorem OT:∀(l m:List D),fO l m=true->bO l m=false
 |[],[],_=>rfl
 |[],_::_,_=>rfl
 |_::_,[],_=>rfl
 |d::l,e::m,h=>by rw[fO,and_eq_true]at h;show(aS d e||bO l m)=false;rw[Wv d e h.1,OT l m h.2];rfl
end
end FL
namespace FL
def e_C:wC d U Q E=Q (.v `l) U:=rfl
def kV(o:Option S)(Q:WQ)(U:Env):Prop:=zo o λs=>Q `L U
def e_V:kV `bg Q U=Q `L U:=rfl
def oO(o:D->D->Option S)(x y:Option D)(Q:WQ)(U:Env):Prop:=zo x λp=>zo y λq=>kV (o p q) Q U
def mG(o:D->D->Option S)(x:R)(Q:WQ):WQ:=λy v=>oO o (zC x v) (zC y v) Q v
def uE(o:D->D->Option S)(b:WE)(Q:WQ)(E:WX):WQ:=λx v=>b v (mG o x Q) E
def zrj:zx o a b U Q E=a U (uE o b Q E) E:=rfl
def zmX:uE o b Q E x U=b U (mG o x Q) E:=rfl
def zm5:oO o (some p) (some q) Q U=kV (o p q) Q U:=rfl
def xI(o:D->Option S)(x:Option D)(Q:WQ)(U:Env):Prop:=zo x λp=>kV (o p) Q U
def ny(o:D->Option S)(Q:WQ):WQ:=λx U=>xI o `cp Q U
def e_Un{o:D->Option S}:mK o a U Q E=a U (ny o Q) E:=rfl
def zpV{o:D->Option S}:ny o Q x U=xI o `cp Q U:=rfl
def zqg{o:D->Option S}:xI o (some p) Q U=kV (o p) Q U:=rfl
def kC(o:Option Bool)(Q:Bool->Env->Prop)(U:Env):Prop:=zo o λc=>Q c U
def e_Ck{c:Bool}:kC (some c) QT U=QT c U:=rfl
def iA(o:D->D->Option Bool)(x y:Option D)(Q:Bool->Env->Prop)(U:Env):Prop:=zo x λp=>zo y λq=>kC (o p q) Q U
def gQ(o:D->D->Option Bool)(x:R)(Q:Bool->Env->Prop):WQ:=λy v=>iA o (view x v) (view y v) Q v
def uC(o:D->D->Option Bool)(b:WE)(Q:Bool->Env->Prop)(E:WX):WQ:=λx v=>b v (gQ o x Q) E
def zq4:aP v a b U QT E=a U (uC v b QT E) E:=rfl
def zoG:uC v b QT E x U=b U (gQ v x QT) E:=rfl
def zmE:iA v (some p) (some q) QT U=kC (v p q) QT U:=rfl
def kI(x:Option D)(Q:Bool->Env->Prop)(U:Env):Prop:=zo x λp=>kC (jD p) Q U
def uA(Q:Bool->Env->Prop):WQ:=λx U=>kI `cf Q U
def znm:jB a U QT E=a U (uA QT) E:=rfl
def zk7:uA QT x U=kI `cf QT U:=rfl
def zkY:kI (some p) QT U=kC (jD p) QT U:=rfl
def yF(b:WT)(Q:Bool->Env->Prop)(E:WX):Bool->Env->Prop:=λc v=>if c then b v Q E else Q false v
def zrP:fL t u U QT E=t U (yF u QT E) E:=rfl
def znt:yF u QT E true U=u U QT E:=rfl
def znh:yF u QT E false U=QT false U:=rfl
def oi(b:WT)(Q:Bool->Env->Prop)(E:WX):Bool->Env->Prop:=λc v=>if c then Q true v else b v Q E
def e_Or:uL t u U QT E=t U (oi u QT E) E:=rfl
def zqF:oi u QT E false U=u U QT E:=rfl
def bq(Q:Bool->Env->Prop):Bool->Env->Prop:=λc v=>Q (!c) v
def zpM:kS t U QT E=t U (bq QT) E:=rfl
def zoc{c:Bool}:bq QT c U=QT (!c) U:=rfl
def bp(Q:WQ):Bool->Env->Prop:=λc v=>Q (.v (.sh (.bl c))) v
def zqK:iP t U Q E=t U (bp Q) E:=rfl
def znJ{c:Bool}:bp Q c U=Q (.v (.sh (.bl c))) U:=rfl
def zpR:zm U QA E=QA [] U:=rfl
def kJ(r:R)(Q:List R->Env->Prop):List R->Env->Prop:=λv U=>Q (r::v) U
def oN(b:WA)(Q:List R->Env->Prop)(E:WX):WQ:=λr v=>b v (kJ r Q) E
def zom:zl a wa U QA E=a U (oN wa QA E) E:=rfl
def zlB:oN wa QA E r U=wa U (kJ r QA) E:=rfl
def zlG:kJ r QA rs U=QA (r::rs) U:=rfl
def cp(s:S):Option (List S×Env)->Option (List S×Env)
 |some (ss,U)=>some (s::ss,U)
 |none=>none
def mn(rs:List R):Option (S×Env)->Option (List S×Env)
 |some (s,U)=>cp s (aM rs U)
 |none=>none
def zrF:aM [] U=some ([],U):=rfl
theorem e_gA:aM (r::rs) U=mn rs `M:=by
 rw[aM];unfold mn;cases give r U with
 |none=>rfl
 |some z=>let#[s,v]:=z;show(match aM rs v with|some (ss,U2)=>some (s::ss,U2)|none=>none)=cp s (aM rs v);unfold cp;rfl
def zr8:mn rs (some (s,U))=cp s (aM rs U):=rfl
def zpI:cp s (some (ss,U))=some (s::ss,U):=rfl
def gv(i:Nat)(U:Env):Option S->Option (S×Env)
 |some s=>some (.sh s.toD,U.set i `F)
 |none=>none
def e_gv:give `L U=some (s,U):=rfl
theorem e_gl:give (.loc i) U=gv i U `cs:=by unfold give gv;rfl
def zsa:gv i U `bg=some (.sh s.toD,U.set i `F):=rfl
def lY(l:Bool)(x:Option (List S×Env))(Q:WQ):Prop:=zo (if l then x else none) λp=>Q (.v (.sh (.tup (p.1.map S.toD)))) p.2
def mF(l:Bool)(x:Option (List S×Env))(Q:WQ):Prop:=zo (if l then x else none) λp=>Q (.v (.lst p.1)) p.2
def dJ(rs:List R):Bool:=decide (rs.length<=big)
def xJ(Q:WQ):List R->Env->Prop:=λv U=>lY (dJ v) (aM v U) Q
def xU(Q:WQ):List R->Env->Prop:=λv U=>mF (dJ v) (aM v U) Q
theorem zrm:cI wa U Q E=wa U (xJ Q) E:=by unfold cI xJ lY dJ;simp
def zm0:xJ Q rs U=lY (dJ rs) (aM rs U) Q:=rfl
def znv:lY true (some (ss,U)) Q=Q (.v (.sh (.tup (ss.map S.toD)))) U:=rfl
theorem zpB:cC wa U Q E=wa U (xU Q) E:=by unfold cC xU mF dJ;simp
def znW:xU Q rs U=mF (dJ rs) (aM rs U) Q:=rfl
def zon:mF true (some (ss,U)) Q=Q (.v (.lst ss)) U:=rfl
def e_l0:dJ []=true:=rfl
def e_l1:dJ [v]=true:=rfl
def e_l2:dJ [z,v]=true:=rfl
def e_l3:dJ [B,z,v]=true:=rfl
def e_l4:dJ [F,B,z,v]=true:=rfl
def e_l5:dJ [G,F,B,z,v]=true:=rfl
def e_vv:view `L U=some s.toD:=rfl
def e_vl:view (.loc i) U=(slot U i).map S.toD:=rfl
def e_cv:zC `L U=some s.toD:=rfl
def vC:Option S->Option D
 |some s=>if s.flat then some s.toD else none
 |none=>none
theorem e_cl:zC (.loc i) U=vC `cs:=by unfold zC vC;rfl
theorem zoe(h:l.all S.isSh=true):vC (some `i)=some (.lst (l.map S.toD)):=by show(if l.all S.isSh=true then some (S.toD `i)else none)=_;rw[q4 h,S.toD_lst]
theorem e_sh{l:List D}:(l.map S.sh).all S.isSh=true:=by simp[S.isSh]
theorem zav{l:List D}:(l.map S.sh).map S.toD=l:=by rw[qE];show map_id l
theorem zrl:vC (some (.lst (l.map S.sh)))=some `i:=by rw[zoe e_sh,zav]
def sS(o:Option S)(Q:WQ)(U:Env):Prop:=match o with|some (.sh d)=>Q (.v `l) U|_=>False
def sT(o:Option S)(q:D)(Q:WQ)(U:Env):Prop:=match o with|some s=>sS (kL s q) Q U|none=>False
def oI(x:R)(o:Option D)(Q:WQ)(U:Env):Prop:=zo o λq=>match x with|.v s=>kV (kL s q) Q U|.loc i=>sT `cs q Q U
def sU(x:R)(Q:WQ):WQ:=λy v=>oI x (view y v) Q v
def xV(b:WE)(Q:WQ)(E:WX):WQ:=λx v=>b v (sU x Q) E
theorem e_Ix:cA a b U Q E=a U (xV b Q E) E:=by unfold cA xV sU oI sT sS kV;rfl
def zrt:xV b Q E x U=b U (sU x Q) E:=rfl
def zqV:sU x Q y U=oI x `bl Q U:=rfl
def zoJ:oI `L (some q) Q U=kV (kL s q) Q U:=rfl
def zmm:oI (.loc i) (some q) Q U=sT `cs q Q U:=rfl
def zpF:sT `bg q Q U=sS (kL s q) Q U:=rfl
def zpT:sS (some `l) Q U=Q (.v `l) U:=rfl
def zpN:kL (.sh `ba) `bh=(atI l z).map S.sh:=rfl
def zpj:kL (.sh `i) `bh=(atI l z).map S.sh:=rfl
def zrI:kL `dq `bh=(atI l z).map λc=>S.sh (.str [c]):=rfl
def zrW:kL `i `bh=atI l z:=rfl
def Du(B:0<=z)(h:l[z.toNat]?=some v):atI l z=some v:=by let:z.toNat<l.length:=(qg.mp h).1;unfold atI ixN;rw[q4 B,q4 ∅];show h
theorem zrC:atI (v::l) 0=some v:=Du ⋯ rfl
theorem zqh:atI (z::v::l) 1=some v:=Du ⋯ rfl
theorem zp5:atI (B::z::v::l) 2=some v:=Du ⋯ rfl
theorem zr4:atI (F::B::z::v::l) 3=some v:=Du ⋯ rfl
theorem zpZ:atI (G::F::B::z::v::l) 4=some v:=Du ⋯ rfl
def pA(s:S):Option (List S×Env)->Option (List S×Env)
 |some (ss,U)=>some (s::ss,U)
 |none=>none
theorem e_p0:cP ms [] U=some ([],U):=by cases ms<;>rfl
theorem e_pv:cP (h::ms) (.v s::rs) U=pA s (cP ms rs U):=by rw[cP];unfold pA;rfl
def pL(i:Nat)(o:Option S)(ms:List Bool)(rs:List R)(U:Env):Option (List S×Env):=match o with
 |some s=>pA s (cP ms rs (U.set i none))
 |none=>none
theorem e_pl:cP (true::ms) (.loc i::rs) U=pL i `cs ms rs U:=by rw[cP];unfold pL pA;cases slot U i<;>rfl
def zrS:pL i `bg ms rs U=pA s (cP ms rs (U.set i none)):=rfl
def e_pA:pA s (some (ss,U))=some (s::ss,U):=rfl
def e_b0:back ms [] ss U=U:=rfl
def e_bv{s t:S}:back (h::ms) (.v s::rs) (t::ss) U=back ms rs ss U:=rfl
def e_bl{t:S}:back (true::ms) (.loc i::rs) (t::ss) U=back ms rs ss (U.set i (some t)):=rfl
def oM(ms:List Bool)(rs:List R)(U:Env)(Q:WQ):S->List S->Prop:=λs v=>Q `L (back ms rs v U)
def cc(ms:List Bool)(rs:List R)(U:Env)(E:WX):D->List S->Prop:=λx v=>E x (back ms rs v U)
def kK(f:WF)(ms:List Bool)(rs:List R)(o:Option (List S×Env))(Q:WQ)(E:WX):Prop:=zo o λp=>f p.1 (oM ms rs p.2 Q) (cc ms rs p.2 E)
def uD(f:WF)(ms:List Bool)(Q:WQ)(E:WX):List R->Env->Prop:=λv U=>kK f ms v (cP ms v U) Q E
def zoH:zz f ms wa U Q E=wa U (uD f ms Q E) E:=rfl
def zlZ:uD f ms Q E rs U=kK f ms rs (cP ms rs U) Q E:=rfl
def zla:kK f ms rs (some (ss,U)) Q E=f ss (oM ms rs U Q) (cc ms rs U E):=rfl
def zm4:oM ms rs U Q s ss=Q `L (back ms rs ss U):=rfl
def vA:Option D->Option (List D)->Option (List D)
 |some d,some ds=>some (d::ds)
 |_,_=>none
def fJ(rs:List R)(U:Env):Option (List D):=match rs with
 |[]=>some []
 |r::rs=>vA (zC r U) (fJ rs U)
def Il:∀rs:List R,(rs.mapM λr=>zC r U)=fJ rs U
 |[]=>rfl
 |r::rs=>by
  rw[List.mapM_cons,Il rs,fJ];cases zC r U with
  |none=>rfl
  |some d=>cases fJ rs U<;>rfl
def zo4:fJ [] U=some []:=rfl
def e_vA:fJ (r::rs) U=vA (zC r U) (fJ rs U):=rfl
def zqM:vA (some d) `I=some (d::v):=rfl
def pH(f:List D->Option S)(o:Option (List D))(Q:WQ)(U:Env):Prop:=zo o λv=>kV (f v) Q U
def kB(f:List D->Option S)(Q:WQ):List R->Env->Prop:=λv U=>pH f (fJ v U) Q U
theorem e_B:wB f wa U Q E=wa U (kB f Q) E:=by unfold wB kB pH kV;simp only[Il]
def e_B1:kB f Q rs U=pH f (fJ rs U) Q U:=rfl
def e_B2:pH f `I Q U=kV (f v) Q U:=rfl
def sP(f:List Nat->List D->Option S)(l:List Nat)(Q:WQ):List R->Env->Prop:=λv U=>pH (f l) (fJ v U) Q U
def ly(f:List Nat->List D->Option S)(wa:WA)(Q:WQ)(E:WX):WQ:=λx U=>match x with
 |.v (.sh (.str l))=>wa U (sP f l Q) E
 |_=>False
theorem e_MS:uV f a wa U Q E=a U (ly f wa Q E) E:=by unfold uV ly sP pH kV;simp only[Il];all_goals rfl
def zqQ:ly f wa Q E (.v `dq) U=wa U (sP f l Q) E:=rfl
def zrK:sP f l Q rs U=pH (f l) (fJ rs U) Q U:=rfl
def tG(j:Nat)(s:S)(o:Option S)(U:Env)(Q:WQ):Prop:=match o with
 |some (.lst l)=>l.length<big/\Q `v (U.set j (some (.lst (l++[s]))))
 |_=>False
def tH(j:Nat)(o:Option (S×Env))(Q:WQ):Prop:=zo o λp=>tG j p.1 (slot p.2 j) p.2 Q
def tI(j:Nat)(Q:WQ):WQ:=λr U=>tH j `M Q
def md(j:Nat)(o:Option S)(a:WE)(U:Env)(Q:WQ)(E:WX):Prop:=match o with
 |some (.lst _)=>a U (tI j Q) E
 |_=>False
theorem e_Ap:bL j a U Q E=md j `al a U Q E:=by unfold bL md tI tH tG;rfl
def zqc:md j (some `i) a U Q E=a U (tI j Q) E:=rfl
def zqX:tI j Q r U=tH j `M Q:=rfl
def zq0:tH j (some (s,U)) Q=tG j s `al U Q:=rfl
def zrN:tG j s (some `i) U Q=(l.length<big/\Q `v (U.set j (some (.lst (l++[s]))))):=rfl
def mD(j:Nat)(o:Option D)(p:Option S)(U:Env)(Q:WQ):Prop:=match o,p with
 |some (.int i),some (.lst l)=>zo (if l.length<=big then ixN l.length i else none) λk=>zo l[k]? λs=>Q `L (U.set j `by)
 |_,_=>False
def mE(j:Nat)(Q:WQ):WQ:=λr U=>mD j (view r U) `al U Q
def xT(j:Nat)(o:Option S)(a:WE)(U:Env)(Q:WQ)(E:WX):Prop:=match o with
 |some (.lst _)=>a U (mE j Q) E
 |_=>False
theorem zpQ:fH j a U Q E=xT j `al a U Q E:=by unfold fH xT mE mD;rfl
def zoj:xT j (some `i) a U Q E=a U (mE j Q) E:=rfl
def zny:mE j Q r U=mD j (view r U) `al U Q:=rfl
def Jy(F:0<=z)(B:l.length<=big)(h:l[z.toNat]?=some s)(v:Q `L (U.set j (some (.lst (l.eraseIdx z.toNat))))):mD j (some `bh) (some `i) U Q:=by
 let:z.toNat<l.length:=(qg.mp h).1;let e:(if l.length<=big then ixN l.length z else none)=some z.toNat:=by unfold ixN;rw[q4 B,q4 F,q4 ∅]
 show zo (if l.length<=big then ixN l.length z else none) _;rw[e,IM,h];show v
def oJ(T:String)(o:Option D)(Q:WQ)(U:Env):Prop:=zo o λd=>hW d=true/\Q (.v (.sh (.bl (mM T d)))) U
def br(T:String)(Q:WQ):WQ:=λx U=>oJ T `cf Q U
def zr7:uW T a U Q E=a U (br T Q) E:=rfl
def zmn:br T Q x U=oJ T `cf Q U:=rfl
theorem zlH{l:List D}:oJ T (some `ba) Q U=Q (.v (.sh (.bl (mM T `ba)))) U:=by show(_/\_)=_;simp[hW]
def sE(j:Nat)(r:R)(o:Option S)(U:Env)(Q:WQ):Prop:=match r,o with
 |.v (.lst m),some (.lst l)=>l.length+m.length<=big/\Q `v (U.set j (some (.lst (l++m))))
 |_,_=>False
def sF(j:Nat)(Q:WQ):WQ:=λr U=>sE j r `al U Q
def lq(j:Nat)(o:Option S)(a:WE)(U:Env)(Q:WQ)(E:WX):Prop:=match o with
 |some (.lst _)=>a U (sF j Q) E
 |_=>False
theorem e_Xt:fZ j a U Q E=lq j `al a U Q E:=by unfold fZ lq sF sE;rfl
def zqo:lq j (some `i) a U Q E=a U (sF j Q) E:=rfl
def zql:sF j Q r U=sE j r `al U Q:=rfl
def zoY{l m:List S}:sE j (.v (.lst m)) (some `i) U Q=(l.length+m.length<=big/\Q `v (U.set j (some (.lst (l++m))))):=rfl
def zmr{t:Bool}:nO t U Q E=Q (.v (.dct t [] [])) U:=rfl
def yD(o:Option D)(p:Option (S×Env))(Q:WQ):Prop:=zo o λq=>zo p λp=>bR q=true/\Q (.v (.dct false [q] [p.1])) p.2
def yE(x:R)(Q:WQ):WQ:=λy U=>yD `cf (give y U) Q
def cb(v:WE)(Q:WQ)(E:WX):WQ:=λx U=>v U (yE x Q) E
def e_Di:kA a b U Q E=a U (cb b Q E) E:=rfl
def zo8:cb b Q E x U=b U (yE x Q) E:=rfl
def zpa:yE x Q y U=yD `cf (give y U) Q:=rfl
def zpw:yD (some q) (some (s,U)) Q=(bR q=true/\Q (.v (.dct false [q] [s])) U):=rfl
def znO:bR `bh=true:=rfl
def xS(o:Option D)(Q:Option Int->Env->Prop)(U:Env):Prop:=match o with|some (.int i)=>Q (some i) U|_=>False
def oh(Q:Option Int->Env->Prop):WQ:=λx U=>xS `cf Q U
def zpt{Q:Option Int->Env->Prop}:fM none U Q E=Q none U:=rfl
def e_Pt{Q:Option Int->Env->Prop}:fM (some a) U Q E=a U (oh Q) E:=rfl
def zr9{Q:Option Int->Env->Prop}:oh Q x U=xS `cf Q U:=rfl
def zqW{Q:Option Int->Env->Prop}:xS (some `bh) Q U=Q (some z) U:=rfl
def xK(o:Option D)(l h:Option Int)(Q:WQ)(U:Env):Prop:=zo o λd=>kV (kE d l h) Q U
def xM(x:R)(l:Option Int)(Q:WQ):Option Int->Env->Prop:=λh U=>xK `cp l h Q U
def xN(x:R)(hi:Option WE)(Q:WQ)(E:WX):Option Int->Env->Prop:=λl U=>fM hi U (xM x l Q) E
def nz(lo hi:Option WE)(Q:WQ)(E:WX):WQ:=λx U=>fM lo U (xN x hi Q E) E
def e_Sl:gX a lo hi U Q E=a U (nz lo hi Q E) E:=rfl
def zr1:nz lo hi Q E x U=fM lo U (xN x hi Q E) E:=rfl
def zrH:xN x hi Q E l U=fM hi U (xM x l Q) E:=rfl
def zp1:xM x l Q h U=xK `cp l h Q U:=rfl
def zrL:xK (some d) l h Q U=kV (kE d l h) Q U:=rfl
def uU(D:Ends)(k:Env->Prop):Ends:={D with nx:=k}
def e_nx:(uU D' K).nx=K:=rfl
def e_rt:(uU D' K).rt=D'.rt:=rfl
def e_ex:(uU D' K).ex=D'.ex:=rfl
def znS:bC D' U=D'.nx U:=rfl
def zpz:zy v w D' U=v (uU D' (w D')) U:=rfl
def bu(a b:WS)(D:Ends):Bool->Env->Prop:=λk U=>if k then a D U else b D U
def e_If:fI t v w D' U=t U (bu v w D') D'.ex:=rfl
def zqY:bu v w D' true U=v D' U:=rfl
def zrp:bu v w D' false U=w D' U:=rfl
def zpm:bT a D' U=a U D'.rt D'.ex:=rfl
def ox(D:Ends):WQ:=λ_ U=>D.nx U
def znr:wExpr a D' U=a U (ox D') D'.ex:=rfl
def zlr:ox D' r U=D'.nx U:=rfl
def oP(g:WG)(D:Ends)(o:Option (S×Env)):Prop:=zo o λp=>g p.1 p.2 D.nx
def cf(g:WG)(D:Ends):WQ:=λr U=>oP g D `M
def zqH:zA g a D' U=a U (cf g D') D'.ex:=rfl
def zm6:cf g D' r U=oP g D' `M:=rfl
def znx:oP g D' (some (s,U))=g s U D'.nx:=rfl
def oE(i j:Nat)(D:Ends)(s:S)(o:Option (S×Env)):Prop:=zo o λq=>D.nx ((q.2.set i `bg).set j (some q.1))
def oF(i j:Nat)(D:Ends)(t:R)(o:Option (S×Env)):Prop:=zo o λp=>oE i j D p.1 (give t p.2)
def bo(i j:Nat)(D:Ends):List R->Env->Prop:=λv U=>match v with
 |[r,t]=>oF i j D t `M
 |_=>False
theorem zqE:pQ i j wa D' U=wa U (bo i j D') D'.ex:=by unfold pQ;congr 1
def znR:bo i j D' [r,x] U=oF i j D' x `M:=rfl
def znF:oF i j D' x (some (s,U))=oE i j D' s (give x U):=rfl
def zmQ:oE i j D' s (some (s',U))=D'.nx ((U.set i `bg).set j (some s')):=rfl
def e_gN:zn i s U K=K (U.set i `bg):=rfl
def ou(v:List WG)(d:D)(U:Env)(Q:Env->Prop):Prop:=match d with|.tup ds=>ds.length=v.length/\eF v ds U Q|_=>False
def e_gT:eK v s U K=ou v s.toD U K:=rfl
def zpe:ou v (.tup z) U K=(z.length=v.length/\eF v z U K):=rfl
def bx(v:List WG)(z:List D)(Q:Env->Prop):Env->Prop:=λU=>eF v z U Q
def zqB:eF [] [] U K=K U:=rfl
def zpU:eF (g::v) (d::z) U K=g `l U (bx v z K):=rfl
def zpC:bx v z K U=eF v z U K:=rfl
def hX(j:Nat)(D:Ends)(x:R)(q:FL.D)(s:S)(o:Option S)(U:Env):Prop:=match x,q,o with
 |.loc k,.int n,some (.lst l)=>k=j/\zo (ixN l.length n) λm=>D.nx (U.set j (some (.lst (l.set m s))))
 |_,_,_=>False
def lZ(j:Nat)(D:Ends)(x:R)(o:Option FL.D)(p:Option (S×Env)):Prop:=zo o λq=>zo p λp=>hX j D x q p.1 (slot p.2 j) p.2
def mB(j:Nat)(D:Ends)(r x:R):WQ:=λy U=>lZ j D x `bl `M
def mC(j:Nat)(i:WE)(D:Ends)(r:R):WQ:=λx U=>i U (mB j D r x) D.ex
def oD(j:Nat)(i:WE)(D:Ends):WQ:=λr U=>zk j U (mC j i D r) D.ex
theorem zrT:gE j a b D' U=b U (oD j a D') D'.ex:=by unfold gE oD mC mB lZ hX;rfl
def zoq:oD j a D' r U=zk j U (mC j a D' r) D'.ex:=rfl
def zmt:mC j a D' r x U=a U (mB j D' r x) D'.ex:=rfl
def znQ:mB j D' r x y U=lZ j D' x `bl `M:=rfl
def znj:lZ j D' x (some q) (some (s,U))=hX j D' x q s `al U:=rfl
def LC(v:0<=z)(h1:z<l.length):hX j D' (.loc j) `bh s (some `i) U=D'.nx (U.set j (some (.lst (l.set z.toNat s)))):=by show(j=j/\zo (ixN l.length z) _)=_;unfold ixN;rw[q4 v,q4 h1,IM];simp
theorem zmi:hX j D' (.loc j) (.int 0) s (some (.lst [s0,v])) U=D'.nx (U.set j (some (.lst [s,v]))):=LC ⋯ (by show(0:Int)<2;decide)
theorem zl3:hX j D' (.loc j) (.int 1) s (some (.lst [s0,v])) U=D'.nx (U.set j (some (.lst [s0,s]))):=LC ⋯ (by show(1:Int)<2;decide)
def sY(j:Nat)(D:Ends)(q:FL.D)(s:S)(o:Option S)(U:Env):Prop:=match o with
 |some (.dct t ks l)=>aW t q=true/\ks.Nodup/\ks.length<big/\D.nx (U.set j (some (cG t ks l q s)))
 |_=>False
def sZ(j:Nat)(D:Ends)(x:R)(o:Option FL.D)(p:Option (S×Env)):Prop:=zo o λq=>zo p λp=>match x with
 |.loc k=>k=j/\sY j D q p.1 (slot p.2 j) p.2
 |_=>False
def tB(j:Nat)(D:Ends)(r x:R):WQ:=λy U=>sZ j D x `bl `M
def tE(j:Nat)(i:WE)(D:Ends)(r:R):WQ:=λx U=>i U (tB j D r x) D.ex
def tF(j:Nat)(i:WE)(D:Ends):WQ:=λr U=>zk j U (tE j i D r) D.ex
theorem e_Dp:nN j a b D' U=b U (tF j a D') D'.ex:=by
 have e:(λ(r:R)(G:Env)=>zk j G (λx F=>a F (λy B=>zo (view y B) λq=>zo (give r B) λp=>match x,slot p.2 j with
  |.loc k,some (.dct t ks l)=>k=j/\aW t q=true/\ks.Nodup/\ks.length<big/\D'.nx (p.2.set j (some (cG t ks l q p.1)))
  |_,_=>False) D'.ex) D'.ex)=tF j a D':=by
  funext r G
  unfold tF tE tB sZ sY;congr 1
  funext x F
  congr 1
  funext y B
  cases view y B with
  |none=>rfl
  |some q=>
   cases give r B with
   |none=>rfl
   |some p=>
    simp only[IM];cases x with
    |v s=>cases slot p.2 j<;>rfl
    |loc k=>
     cases slot p.2 j with
     |none=>simp
     |some s=>
      cases s with
      |dct t ks l=>simp
      |_=>simp
 show congrArg (λz=>b U z D'.ex) e
def zqC:tF j a D' r U=zk j U (tE j a D' r) D'.ex:=rfl
def zoV:tE j a D' r x U=a U (tB j D' r x) D'.ex:=rfl
def zq5:tB j D' r x y U=sZ j D' x `bl `M:=rfl
theorem zrD:sZ j D' (.loc j) (some q) (some (s,U))=sY j D' q s `al U:=by show(j=j/\_)=_;simp
def zra:sY j D' q s (some (.dct false ks l)) U=(bR q=true/\ks.Nodup/\ks.length<big/\D'.nx (U.set j (some (cG false ks l q s)))):=rfl
def xW(o:Option (List D))(U:Env)(Q:List D->Env->Prop):Prop:=zo o λl=>Q l U
def xX(o:Option (S×Env))(Q:List D->Env->Prop):Prop:=zo o λp=>xW (items p.1.toD) p.2 Q
def ot(Q:List D->Env->Prop):WQ:=λr U=>xX `M Q
def e_It:bD a U QI E=a U (ot QI) E:=rfl
def zr5:ot QI r U=xX `M QI:=rfl
def zqs:xX (some (s,U)) QI=xW (items s.toD) U QI:=rfl
def zpf:xW (some l) U QI=QI l U:=rfl
def zo3:items `i=some l:=rfl
def zrb:items `ba=some l:=rfl
def zqI:items (.str l)=some (l.map λc=>.str [c]):=rfl
def xR(o:Option D)(Q:List D->Env->Prop)(U:Env):Prop:=match o with|some (.int j)=>(-big<=j/\j<=big)/\Q (fromTo 0 j.toNat) U|_=>False
def og(Q:List D->Env->Prop):WQ:=λr U=>xR (view r U) Q U
def e_R1:aR a U QI E=a U (og QI) E:=rfl
def zri:og QI r U=xR (view r U) QI U:=rfl
def zqL:xR (some `bh) QI U=((-big<=z/\z<=big)/\QI (fromTo 0 z.toNat) U):=rfl
def xP(o p:Option D)(Q:List D->Env->Prop)(U:Env):Prop:=match o,p with|some (.int i),some (.int j)=>(-big<=i/\i<=big/\-big<=j/\j<=big)/\Q (fromTo i (j-i).toNat) U|_,_=>False
def xQ(r:R)(Q:List D->Env->Prop):WQ:=λt U=>xP (view r U) (view t U) Q U
def oe(b:WE)(Q:List D->Env->Prop)(E:WX):WQ:=λr U=>b U (xQ r Q) E
def e_R2:fY a b U QI E=a U (oe b QI E) E:=rfl
def zqZ:oe b QI E r U=b U (xQ r QI) E:=rfl
def zqu:xQ r QI x U=xP (view r U) `cf QI U:=rfl
def zq7:xP (some `bh) (some `cg) QI U=((-big<=z/\z<=big/\-big<=v/\v<=big)/\QI (fromTo z (v-z).toNat) U):=rfl
def kFor(g:WG)(b:WS)(D:Ends):List FL.D->Env->Prop:=λl U=>cK g b l D U
def zrJ:dF it g v D' U=it U (kFor g v D') D'.ex:=rfl
def zmz:kFor g v D' l U=cK g v l D' U:=rfl
def bh(g:WG)(b:WS)(xs:List FL.D)(D:Ends):Ends:={D with nx:=cK g b xs D,ct:=cK g b xs D,bk:=D.nx}
def oj(g:WG)(b:WS)(xs:List FL.D)(D:Ends):Env->Prop:=λU=>b (bh g b xs D) U
def mu:cK g v (d::xs) D' U=g `l U (oj g v xs D'):=rfl
def zq8:oj g v xs D' U=v (bh g v xs D') U:=rfl
def zrr:(bh g v xs D').nx=cK g v xs D':=rfl
def zpn:(bh g v xs D').ex=D'.ex:=rfl
def oG(n:Nat)(o:Option S)(U:Env)(Q:WQ):Prop:=zo o λs=>Q `L (U.take n)
def oH(n:Nat)(Q:WQ):Env->Prop:=λU=>oG n (slot U n) U Q
def sR(n:Nat)(E:WX):WX:=NX
def oq(n k:Nat)(g:WG)(c:WT)(b:WB)(Q:WQ)(E:WX):List D->Env->Prop:=λl U=>aN g c b l (U++some (.lst [])::List.replicate k none) (oH n Q) (sR n E)
def e_LC:gF n m it g c v U Q E=it U (oq n m g c v Q E) E:=rfl
def zq2:oq n m g c v Q E l U=aN g c v l (U++some (.lst [])::List.replicate m none) (oH n Q) (sR n E):=rfl
def zqr:oH n Q U=oG n (slot U n) U Q:=rfl
def zmP:oG n `bg U Q=Q `L (U.take n):=rfl
def sD(g:WG)(c:WT)(b:WB)(xs:List D)(Q:Env->Prop)(E:WX):Env->Prop:=λU=>aN g c b xs U Q E
def xE(g:WG)(c:WT)(b:WB)(xs:List D)(Q:Env->Prop)(E:WX):Bool->Env->Prop:=λk U=>if k then b U (sD g c b xs Q E) E else aN g c b xs U Q E
def nu(g:WG)(c:WT)(b:WB)(xs:List D)(Q:Env->Prop)(E:WX):Env->Prop:=λU=>c U (xE g c b xs Q E) E
def zq9:aN g c v [] U QE E=QE U:=rfl
def cq:aN g c v (d::xs) U QE E=g `l U (nu g c v xs QE E):=rfl
def zpS:nu g c v xs QE E U=c U (xE g c v xs QE E) E:=rfl
def zms:xE g c v xs QE E true U=v U (sD g c v xs QE E) E:=rfl
def zqy:sD g c v xs QE E U=aN g c v xs U QE E:=rfl
def sW(n:Nat)(s:S)(o:Option S)(U:Env)(Q:Env->Prop):Prop:=match o with
 |some (.lst l)=>l.length<big/\Q (U.set n (some (.lst (l++[s]))))
 |_=>False
def sX(n:Nat)(o:Option (S×Env))(Q:Env->Prop):Prop:=zo o λp=>sW n p.1 (slot p.2 n) p.2 Q
def ma(n:Nat)(Q:Env->Prop):WQ:=λr U=>sX n `M Q
theorem e_Em:bH n a U QE E=a U (ma n QE) E:=by unfold bH ma sX sW;rfl
def zps:ma n QE r U=sX n `M QE:=rfl
def zqD:sX n (some (s,U)) QE=sW n s (slot U n) U QE:=rfl
def zrg:sW n s (some `i) U QE=(l.length<big/\QE (U.set n (some (.lst (l++[s]))))):=rfl
def nv(g:WG)(c:WT)(b:WB)(Q:Env->Prop)(E:WX):List D->Env->Prop:=λl U=>aN g c b l U Q E
def e_bF:mP it g c v U QE E=it U (nv g c v QE E) E:=rfl
def zr3:nv g c v QE E l U=aN g c v l U QE E:=rfl
def zo0:cO U QT E=QT true U:=rfl
def yC(o:Option (List S))(P:S->List S->Prop)(s:S):Prop:=zo o λfs=>P s fs
def xO(n:Nat)(ss:List S)(P:S->List S->Prop)(i:Nat)(o:Option S)(U:Env):Prop:=zo o λs=>if i<n then yC (aC ss (U.set i `F)) P (.sh s.toD)else yC (aC ss U) P s
def gf(n:Nat)(ss:List S)(P:S->List S->Prop):WQ:=λr U=>match r with
 |.v s=>yC (aC ss U) P s
 |.loc i=>xO n ss P i `cs U
def pd(n:Nat)(ss:List S)(P:S->List S->Prop)(PX:D->List S->Prop):Ends where
 nx:=λU=>yC (aC ss U) P (.sh .non)
 rt:=gf n ss P
 bk:=λ_=>False
 ct:=λ_=>False
 ex:=λx U=>zo (aC ss U) λfs=>PX x fs
def BG(z:ss.length=n)(B:((List.range ss.length).all λi=>decide (i∈ks))=true)(h:v (pd n ss P PX) (ss.map some++List.replicate (m-n) none)):fQ n m ks v ss P PX:=by show#[z,λi s hi=>?_,h];let:=(qg.mp hi).1;show .inl (by simpa using qI.mp B i ↑this)
def zqS:(pd n ss P PX).rt=gf n ss P:=rfl
def e_Rt:gf n ss P `L U=yC (aC ss U) P s:=rfl
def zpr:gf n ss P (.loc i) U=xO n ss P i `cs U:=rfl
theorem zp3(h:¬i<n):xO n ss P i `bg U=yC (aC ss U) P s:=by show(if i<n then _ else _)=_;rw[q5 h]
def e_Fn:yC (some fs) P s=P s fs:=rfl
def fA(s:S):Option (List S)->Option (List S)
 |some fs=>some (s::fs)
 |none=>none
theorem e_f0:aC [] U=some []:=by cases U<;>rfl
theorem e_fs:aC (.sh d::ss) (o::U)=fA `l (aC ss U):=by show(aC ss U).map _=_;cases aC ss U<;>rfl
theorem e_fl:aC (.lst l::ss) (some s::U)=fA s (aC ss U):=by show(aC ss U).map _=_;cases aC ss U<;>rfl
def e_fA:fA s (some fs)=some (s::fs):=rfl
def zqd:aV `O `bp=some (.sh (.int (i+j))):=rfl
theorem znK(h:x.length+y.length<=big):aV (.str x) (.str y)=some (.sh (.str (x++y))):=q4 h
theorem zod(h:l.length+m.length<=big):aV `i (.lst m)=some (.lst ((l++m).map .sh)):=q4 h
theorem znZ(h:l.length+m.length<=big):aV `ba (.tup m)=some (.sh (.tup (l++m))):=q4 h
def zqq:dQ `O `bp=some (.sh (.int (i-j))):=rfl
theorem zmS(h:-(2^64)<i/\i<2^64):oC `O `bp=some (.sh (.int (i*j))):=by show(if lX i j=true then _ else none)=_;rw[q4 (by simp only[lX,h.1,h.2,decide_true,Bool.and_self,Bool.true_or])]
theorem zph(h:0<j):eY `O `bp=some (.sh (.int (i %j))):=q4 h
theorem zm2(h:0<j)(h2:j<18446744073709551616):hV `O `bp=some (.sh (.int (i/j))):=q4 #[h,h2]
theorem zp8(h:0<=j/\j<=1000/\i.natAbs<2^64):oB `O `bp=some (.sh (.int (i^j.toNat))):=q4 h
def zoZ:eX `O=some (.sh (.int (-i))):=rfl
def e_lt:cx `O `bp=some (decide (i<j)):=rfl
def e_gt:mY `O `bp=some (decide (j<i)):=rfl
def e_le:gm `O `bp=some (decide (i<=j)):=rfl
def e_ge:zN `O `bp=some (decide (j<=i)):=rfl
theorem zoE:eL `O `bp=some (decide (i=j)):=by unfold eL;rw[q5 (by show λz=>Bool.noConfusion (show false=true from z))];simp
theorem zoX:eQ `O `bp=some (!decide (i=j)):=by unfold eQ;rw[zoE];rfl
theorem znT:eL (.str x) (.str y)=some (decide (x=y)):=by unfold eL;rw[q5 (by show λz=>Bool.noConfusion (show false=true from z))];simp
theorem zr2:eQ (.str x) (.str y)=some (!decide (x=y)):=by unfold eQ;rw[znT];rfl
def zr6:jD (.bl b)=some b:=rfl
def zmq:aU [.str x]=some (.sh (.int x.length)):=rfl
def zn1:aU [.tup l]=some `aj:=rfl
def zmG:aU [.lst l]=some `aj:=rfl
def zmk:jL [.bl b]=some (.sh (.int (if b then 1 else 0))):=rfl
def zmL:cJ [.lst l]=some (.sh `ba):=rfl
theorem zoD(h:x.length<=big):iZ [.str x]=some (.lst (x.map λc=>.sh (.str [c]))):=q4 h
def zqN:kE (.str x) a b=some (.sh (.str (bB x a b))):=rfl
def zp6:kE `ba a b=some (.sh (.tup (bB l a b))):=rfl
def zqf:zk 0 (some `l::U) Q E=Q (.v `l) (some `l::U):=rfl
def zqU:zk 0 (some `i::U) Q E=Q (.loc 0) (some `i::U):=rfl
def zqG:slot (v::U) 0=v:=rfl
def zpv:List.set (u::U) 0 v=v::U:=rfl
def zrv:zk 1 (s0::some `l::U) Q E=Q (.v `l) (s0::some `l::U):=rfl
def zrn:slot (s0::v::U) 1=v:=rfl
def zp9:List.set (s0::u::U) 1 v=s0::v::U:=rfl
def zrd:zk 2 (s0::v::some `l::U) Q E=Q (.v `l) (s0::v::some `l::U):=rfl
def zpO:zk 2 (s0::v::some `i::U) Q E=Q (.loc 2) (s0::v::some `i::U):=rfl
def zre:zk 2 (s0::v::some `bc::U) Q E=Q (.loc 2) (s0::v::some `bc::U):=rfl
def zqk:slot (s0::z::v::U) 2=v:=rfl
def zrx:List.set (s0::z::u::U) 2 v=s0::z::v::U:=rfl
def zpE:zk 3 (s0::z::v::some `l::U) Q E=Q (.v `l) (s0::z::v::some `l::U):=rfl
def zrR:zk 3 (s0::z::v::some `i::U) Q E=Q (.loc 3) (s0::z::v::some `i::U):=rfl
def zr0:slot (s0::B::z::v::U) 3=v:=rfl
def zrw:List.set (s0::B::z::u::U) 3 v=s0::B::z::v::U:=rfl
def zpG:zk 4 (s0::B::z::v::some `l::U) Q E=Q (.v `l) (s0::B::z::v::some `l::U):=rfl
def zpu:zk 4 (s0::B::z::v::some `i::U) Q E=Q (.loc 4) (s0::B::z::v::some `i::U):=rfl
def zrz:slot (s0::F::B::z::v::U) 4=v:=rfl
def zqv:List.set (s0::F::B::z::u::U) 4 v=s0::F::B::z::v::U:=rfl
def zqb:zk 5 (s0::F::B::z::v::some `l::U) Q E=Q (.v `l) (s0::F::B::z::v::some `l::U):=rfl
def zqO:slot (s0::G::F::B::z::v::U) 5=v:=rfl
def zrV:List.set (s0::G::F::B::z::u::U) 5 v=s0::G::F::B::z::v::U:=rfl
def zrs:zk 6 (s0::G::F::B::z::v::some `l::U) Q E=Q (.v `l) (s0::G::F::B::z::v::some `l::U):=rfl
def zrU:zk 6 (s0::G::F::B::z::v::some `i::U) Q E=Q (.loc 6) (s0::G::F::B::z::v::some `i::U):=rfl
def zo2:slot (s0::J::G::F::B::z::v::U) 6=v:=rfl
def zqT:List.set (s0::J::G::F::B::z::u::U) 6 v=s0::J::G::F::B::z::v::U:=rfl
def zoW:zk 7 (s0::J::G::F::B::z::v::some `l::U) Q E=Q (.v `l) (s0::J::G::F::B::z::v::some `l::U):=rfl
def zo1:slot (s0::L::J::G::F::B::z::v::U) 7=v:=rfl
def zrQ:List.set (s0::L::J::G::F::B::z::u::U) 7 v=s0::L::J::G::F::B::z::v::U:=rfl
def zrM:zk 8 (s0::L::J::G::F::B::z::v::some `l::U) Q E=Q (.v `l) (s0::L::J::G::F::B::z::v::some `l::U):=rfl
def zpx:slot (s0::M::L::J::G::F::B::z::v::U) 8=v:=rfl
def zqR:List.set (s0::M::L::J::G::F::B::z::u::U) 8 v=s0::M::L::J::G::F::B::z::v::U:=rfl
def zrY:zk 9 (s0::M::L::J::G::F::B::z::v::some `l::U) Q E=Q (.v `l) (s0::M::L::J::G::F::B::z::v::some `l::U):=rfl
def zp2:slot (s0::O::M::L::J::G::F::B::z::v::U) 9=v:=rfl
def zpK:List.set (s0::O::M::L::J::G::F::B::z::u::U) 9 v=s0::O::M::L::J::G::F::B::z::v::U:=rfl
def zmB:zk 10 (s0::O::M::L::J::G::F::B::z::v::some `l::U) Q E=Q (.v `l) (s0::O::M::L::J::G::F::B::z::v::some `l::U):=rfl
def zmV:List.set (s0::Y::O::M::L::J::G::F::B::z::u::U) 10 v=s0::Y::O::M::L::J::G::F::B::z::v::U:=rfl
def znL:zk 11 (s0::Y::O::M::L::J::G::F::B::z::v::some `l::U) Q E=Q (.v `l) (s0::Y::O::M::L::J::G::F::B::z::v::some `l::U):=rfl
def zmA:slot (s0::s1::Y::O::M::L::J::G::F::B::z::v::U) 11=v:=rfl
def zox:List.set (s0::s1::Y::O::M::L::J::G::F::B::z::u::U) 11 v=s0::s1::Y::O::M::L::J::G::F::B::z::v::U:=rfl
def znb:zk 12 (s0::s1::Y::O::M::L::J::G::F::B::z::v::some `l::U) Q E=Q (.v `l) (s0::s1::Y::O::M::L::J::G::F::B::z::v::some `l::U):=rfl
def zmM:slot (s0::s1::s2::Y::O::M::L::J::G::F::B::z::v::U) 12=v:=rfl
def znd:List.set (s0::s1::s2::Y::O::M::L::J::G::F::B::z::u::U) 12 v=s0::s1::s2::Y::O::M::L::J::G::F::B::z::v::U:=rfl
def zoI:zk 13 (s0::s1::s2::Y::O::M::L::J::G::F::B::z::v::some `l::U) Q E=Q (.v `l) (s0::s1::s2::Y::O::M::L::J::G::F::B::z::v::some `l::U):=rfl
def zng:List.set (s0::s1::s2::s3::Y::O::M::L::J::G::F::B::z::u::U) 13 v=s0::s1::s2::s3::Y::O::M::L::J::G::F::B::z::v::U:=rfl
def zm3:mG o (.v (.sh p)) Q (.v (.sh q)) U=kV (o p q) Q U:=rfl
def zoC:gQ v (.v (.sh p)) QT (.v (.sh q)) U=kC (v p q) QT U:=rfl
def zmD:gQ v (.v (.sh p)) QT (.v (.lst m)) U=iA v (some p) (some (S.lst m).toD) QT U:=rfl
def znX:gQ v (.v (.sh p)) QT (.loc k) U=iA v (some p) (view (.loc k) U) QT U:=rfl
def zns:mG o (.v `i) Q (.v (.lst m)) U=oO o (some (S.lst l).toD) (some (S.lst m).toD) Q U:=rfl
def zmR:gQ v (.v `i) QT (.v (.lst m)) U=iA v (some (S.lst l).toD) (some (S.lst m).toD) QT U:=rfl
def zol:gQ v (.loc j) QT (.v (.lst m)) U=iA v (view (.loc j) U) (some (S.lst m).toD) QT U:=rfl
def zqJ:fF d `i=kM d `i:=rfl
def zrc:fF d `ba=kM d `ba:=rfl
def zo9:fF d `dp=kM d `dp:=rfl
def zog:cM p q=(fF p q).map (!·):=rfl
def yG(j m:Nat)(l l':List S)(Q:WQ)(o:Option (S×Env)):Prop:=zo o λp=>l'.length<big/\Q `v (p.2.set j (some (.lst (l.set m (.lst (l'++[p.1]))))))
def yH(j m:Nat)(l l':List S)(Q:WQ):WQ:=λr U=>yG j m l l' Q `M
def cg(j m:Nat)(l:List S)(e:WE)(o:Option S)(U:Env)(Q:WQ)(E:WX):Prop:=match o with
 |some (.lst l')=>e (U.set j none) (yH j m l l' Q) E
 |_=>False
def tM(j:Nat)(e:WE)(n:Int)(l:List S)(U:Env)(Q:WQ)(E:WX):Prop:=zo (ixN l.length n) λm=>cg j m l e l[m]? U Q E
def yI(j:Nat)(e:WE)(o:Option D)(p:Option S)(U:Env)(Q:WQ)(E:WX):Prop:=match o,p with
 |some (.int n),some (.lst l)=>tM j e n l U Q E
 |_,_=>False
def yJ(j:Nat)(e:WE)(Q:WQ)(E:WX):WQ:=λy U=>yI j e `bl `al U Q E
def oz(j:Nat)(o:Option S)(i e:WE)(U:Env)(Q:WQ)(E:WX):Prop:=match o with
 |some (.lst _)=>i U (yJ j e Q E) E
 |_=>False
theorem e_AA:cZ j a b U Q E=oz j `al a b U Q E:=by first|rfl|assumption|(simp_all;done)
def zqp{l:List S}:oz j (some `i) a b U Q E=a U (yJ j b Q E) E:=rfl
def zqw:yJ j b Q E y U=yI j b `bl `al U Q E:=rfl
def zpp{n:Int}{l:List S}:yI j b (some (.int n)) (some `i) U Q E=tM j b n l U Q E:=rfl
def zrA{l l':List S}:yH j m l l' Q r U=yG j m l l' Q `M:=rfl
def zqx{l l':List S}:yG j m l l' Q (some (s,U))=(l'.length<big/\Q `v (U.set j (some (.lst (l.set m (.lst (l'++[s]))))))):=rfl
def MR{z:Int}{l l':List S}(v:0<=z)(h1:l[z.toNat]?=some (.lst l')):tM j b z l U Q E=b (U.set j none) (yH j z.toNat l l' Q) E:=by let:z.toNat<l.length:=(qg.mp h1).1;unfold tM ixN;rw[q4 v,q4 ∅,IM,h1];rfl
def yB(Q:WQ)(o:Option (S×Env)):Prop:=zo o λp=>Q (.v (.sh p.1.toD)) p.2
def ow(Q:WQ):WQ:=λr U=>yB Q `M
def zqz:bU a U Q E=a U (ow Q) E:=rfl
def zou:ow Q r U=yB Q `M:=rfl
def zm9:yB Q (some (s,U))=Q (.v (.sh s.toD)) U:=rfl
def oK(i:Nat)(D:Ends)(o:Option S)(U:Env):Prop:=zo o λs=>D.nx (U.set i `F)
def bz(i:Nat)(D:Ends):Env->Prop:=λU=>oK i D `cs U
def zrZ:zT i v D' U=v (uU D' (bz i D')) U:=rfl
def znU:bz i D' U=oK i D' `cs U:=rfl
def znN:oK i D' `bg U=D'.nx (U.set i `F):=rfl
def sV(o:Option (Option D))(z:R)(U:Env)(Q:WQ):Prop:=zo o λo=>match o with
 |some e=>Q (.v (.sh e)) U
 |none=>Q z U
def xY(o p:Option D)(z:R)(U:Env)(Q:WQ):Prop:=zo o λv=>zo p λq=>sV (mU v q) z U Q
def xZ(x y:R)(Q:WQ):WQ:=λz U=>xY `cp `bl z U Q
def yA(x:R)(d:WE)(Q:WQ)(E:WX):WQ:=λy U=>d U (xZ x y Q) E
def tN(o:Option D):Prop:=zo o λv=>yL v=true
def bw(k d:WE)(Q:WQ)(E:WX):WQ:=λx U=>tN `cp/\k U (yA x d Q E) E
def e_Ge:lS a b c U Q E=a U (bw b c Q E) E:=rfl
def zpd:bw b c Q E x U=(tN `cp/\b U (yA x c Q E) E):=rfl
theorem zrq:tN (some `dp)=True:=by simp[tN,yL]
def zqA:yA x c Q E y U=c U (xZ x y Q) E:=rfl
def zqi:xZ x y Q z U=xY `cp `bl z U Q:=rfl
def zpD:xY (some p) (some q) z U Q=sV (mU p q) z U Q:=rfl
def zmZ:sV (some (some d)) z U Q=Q (.v `l) U:=rfl
def znk:sV (some none) z U Q=Q z U:=rfl
def zo5{z:Int}:mU (.dct false ks vs) `bh=some (lk ks vs `bh):=rfl
def xF(o:Option (Option D))(Q:WQ)(U:Env):Prop:=zo o λo=>zo o λe=>Q (.v (.sh e)) U
def xG(o p:Option D)(Q:WQ)(U:Env):Prop:=zo o λd=>zo p λq=>xF (mU d q) Q U
def xH(x:R)(Q:WQ):WQ:=λy U=>xG `cp `bl Q U
def bj(b:WE)(Q:WQ)(E:WX):WQ:=λx U=>b U (xH x Q) E
def e_XA:nM a b U Q E=a U (bj b Q E) E:=rfl
def zry:bj b Q E x U=b U (xH x Q) E:=rfl
def zqa:xH x Q y U=xG `cp `bl Q U:=rfl
def zpb:xG (some d) (some q) Q U=xF (mU d q) Q U:=rfl
def zqn:xF (some (some d)) Q U=Q (.v `l) U:=rfl
theorem zgG:vC (some (.dct t ks (vs.map S.sh)))=some `dp:=by show(if(vs.map S.sh).all S.isSh=true then some (S.toD (.dct t ks (vs.map S.sh)))else none)=_;rw[q4 e_sh,S.toD_dct,zav]
def om(Q:WQ):List D->Env->Prop:=λl U=>l.length<=big/\Q (.v `ae) U
def e_LI:jZ it U Q E=it U (om Q) E:=rfl
def zq6:om Q l U=(l.length<=big/\Q (.v `ae) U):=rfl
def zoF{z v:Int}:cQ `bh `cg=oC `bh `cg:=rfl
theorem uB{w v:WB}(h:w=v)(U:Env)(Q:Env->Prop)(E:WX):w U Q E=v U Q E:=by rw[h]
theorem uS{w v:WS}(h:w=v)(D':Ends)(U:Env):w D' U=v D' U:=by rw[h]
def oy(s0:S)(n k:Nat)(g:WG)(c:WT)(b:WB)(Q:WQ)(E:WX):List D->Env->Prop:=λl U=>aN g c b l (U++some s0::List.replicate k none) (oH n Q) (sR n E)
def e_CM:zU s0 n m it g c v U Q E=it U (oy s0 n m g c v Q E) E:=rfl
def zpP:oy s0 n m g c v Q E l U=aN g c v l (U++some s0::List.replicate m none) (oH n Q) (sR n E):=rfl
def sM(n:Nat)(q:D)(s:S)(o:Option S)(U:Env)(Q:Env->Prop):Prop:=match o with
 |some (.dct t ks l)=>aW t q=true/\ks.Nodup/\ks.length<big/\Q `df
 |_=>False
def sN(n:Nat)(o:Option D)(p:Option (S×Env))(Q:Env->Prop):Prop:=zo o λq=>zo p λp=>sM n q p.1 (slot p.2 n) p.2 Q
def sO(n:Nat)(x:R)(Q:Env->Prop):WQ:=λy U=>sN n `cf (give y U) Q
def lx(n:Nat)(e:WE)(Q:Env->Prop)(E:WX):WQ:=λx U=>e U (sO n x Q) E
theorem e_Pu:oW n a b U QE E=a U (lx n b QE E) E:=by unfold oW lx sO sN sM;rfl
def zp7:lx n b QE E x U=b U (sO n x QE) E:=rfl
def zo6:sO n x QE y U=sN n `cf (give y U) QE:=rfl
def zpl:sN n (some q) (some (s,U)) QE=sM n q s (slot U n) U QE:=rfl
def zqm:sM n q s (some `bc) U QE=(aW t q=true/\ks.Nodup/\ks.length<big/\QE `df):=rfl
section
variable{U:Env}{Q:WQ}{QE:Env->Prop}{E:WX}{a b:WE}{x y r:R}{s:S}{q d:D}{n m j:Nat}{l:List D}
def tJ(n:Nat)(s:S)(o:Option S)(U:Env)(Q:Env->Prop):Prop:=match o with
 |some (.set l)=>bX (s.toD::l)=true/\l.length<=150/\Q `ck
 |_=>False
def tL(n:Nat)(p:Option (S×Env))(Q:Env->Prop):Prop:=zo p λp=>tJ n p.1 (slot p.2 n) p.2 Q
def me(n:Nat)(Q:Env->Prop):WQ:=λr U=>tL n `M Q
theorem e_Ad:oY n a U QE E=a U (me n QE) E:=by unfold oY me tL tJ;rfl
def zpW:me n QE r U=tL n `M QE:=rfl
def zqt:tL n (some (s,U)) QE=tJ n s (slot U n) U QE:=rfl
def zpL:tJ n s (some (.set l)) U QE=(bX (s.toD::l)=true/\l.length<=150/\QE `ck):=rfl
def zoO:(S.set l).toD=.set l:=rfl
def znD:jK [.set l]=some `aj:=rfl
def zmu:cY [.lst l]=cF l:=rfl
def zmp:cY [.set l]=cF l:=rfl
def zrB:kN [.lst l]=newS l:=rfl
def JH(h:bX l=true/\l.length<=150):newS l=some (.set (aL l)):=q4 h
def sG(j:Nat)(t:Bool)(z:List D×List S×Nat)(l':List S)(Q:WQ)(o:Option (S×Env)):Prop:=zo o λp=>l'.length<big/\Q `v (p.2.set j (some (.dct t z.1 (z.2.1.set z.2.2 (.lst (l'++[p.1]))))))
def sH(j:Nat)(t:Bool)(z:List D×List S×Nat)(l':List S)(Q:WQ):WQ:=λr U=>sG j t z l' Q `M
def sI(j:Nat)(t:Bool)(z:List D×List S×Nat)(e:WE)(o:Option S)(U:Env)(Q:WQ)(E:WX):Prop:=match o with
 |some (.lst l')=>e (U.set j none) (sH j t z l' Q) E
 |_=>False
def sJ(j:Nat)(e:WE)(o:Option D)(p:Option S)(U:Env)(Q:WQ)(E:WX):Prop:=match o,p with
 |some q,some (.dct t ks l)=>aW t q=true/\ks.Nodup/\ks.length<big/\sI j t (bI ks l q) e (bI ks l q).2.1[(bI ks l q).2.2]? U Q E
 |_,_=>False
def sL(j:Nat)(e:WE)(Q:WQ)(E:WX):WQ:=λy U=>sJ j e `bl `al U Q E
def lu(j:Nat)(o:Option S)(k e:WE)(U:Env)(Q:WQ)(E:WX):Prop:=match o with
 |some (.dct _ _ _)=>k U (sL j e Q E) E
 |_=>False
theorem e_SA:eS j a b U Q E=lu j `al a b U Q E:=by unfold eS lu sL sJ sI sH sG;rfl
def zpA{t:Bool}{ks:List D}{l:List S}:lu j (some `bc) a b U Q E=a U (sL j b Q E) E:=rfl
def zpH:sL j b Q E y U=sJ j b `bl `al U Q E:=rfl
def zpq{t:Bool}{ks:List D}{l:List S}:sJ j b (some q) (some `bc) U Q E=(aW t q=true/\ks.Nodup/\ks.length<big/\sI j t (bI ks l q) b (bI ks l q).2.1[(bI ks l q).2.2]? U Q E):=rfl
def SL{t:Bool}{z:List D×List S×Nat}{l':List S}(h:z.2.1[z.2.2]?=some (.lst l')):sI j t z b z.2.1[z.2.2]? U Q E=b (U.set j none) (sH j t z l' Q) E:=by rw[h];rfl
def zpY{t:Bool}{z:List D×List S×Nat}{l':List S}:sH j t z l' Q r U=sG j t z l' Q `M:=rfl
def zrG{t:Bool}{z:List D×List S×Nat}{l':List S}:sG j t z l' Q (some (s,U))=(l'.length<big/\Q `v (U.set j (some (.dct t z.1 (z.2.1.set z.2.2 (.lst (l'++[s]))))))):=rfl
def sQ(f:List D->List D->Option S)(l:List D)(Q:WQ):List R->Env->Prop:=λv U=>pH (f l) (fJ v U) Q U
def lz(f:List D->List D->Option S)(wa:WA)(Q:WQ)(E:WX):WQ:=λx U=>match x with
 |.v (.sh (.lst l))=>wa U (sQ f l Q) E
 |_=>False
theorem e_ML{f:List D->List D->Option S}{wa:WA}:fe f a wa U Q E=a U (lz f wa Q E) E:=by unfold fe lz sQ pH kV;simp only[Il];all_goals rfl
def zpk{f:List D->List D->Option S}{wa:WA}:lz f wa Q E (.v (.sh `i)) U=wa U (sQ f l Q) E:=rfl
def zrh{f:List D->List D->Option S}{rs:List R}:sQ f l Q rs U=pH (f l) (fJ rs U) Q U:=rfl
theorem zfB{k:Nat}(h:yK l q=some k):gC l [q]=some (.sh (.int k)):=by show(yK l q).map _=_;rw[h];rfl
variable{fr:D->Option S}
variable{c:WE}{QI:List D->Env->Prop}
end
def sg(c:Nat):D:=.str [c]
def nk:items (.str l)=some (l.map sg):=rfl
def Mf(l:List Nat):dB (l.map sg)=some (l.map λc=>[c]):=by let:=Vq (l.map λc=>[c]);rw[qE]at this;show this
def NM:∀l:List Nat,((l.map λc=>[c]).map List.length).sum=l.length
 |[]=>rfl
 |c::l=>by let:=NM l;simp at this⊢;lia
def NU:∀l:List Nat,(l.map λc=>[c]).flatten=l
 |[]=>rfl
 |c::l=>by let:=NU l;simp;rw[this]
def Ml(h:l.length<=big):gO [] [.lst (l.map sg)]=some `dq:=by show(dB (l.map sg)).bind _=_;grind[Mf,List.length,big,dM,NM,Oa,NU]
def pR:D->Nat
 |.str [c]=>c
 |_=>0
def RM(h:l.Perm (A.map sg)):∃v:List Nat,v.Perm A/\l=v.map sg:=by
 show#[l.map pR,?_,?_]
 .let:=h.map pR;rw[qE]at this;let e:(pR∘sg)=id:=funext λc=>rfl;rw[e,map_id]at this;show this
 .rw[qE];let:∀d∈l,(sg∘pR) d=id d:=λd z=>by let#[c,_,rfl]:=qK.mp (h.mem_iff.mp z);rfl
  rw[map_congr_left this,map_id]
def bW:big=1000000:=rfl
def DN:(fromTo lo n).length=n:=by simp[fromTo]
def OE{l:List D}{k:Nat}(h:l[k]?=some d):(l.map S.sh)[k]?=some `l:=by rw[qF,h];rfl
def GH{α β:Type}{f:α->β}{l:List α}{z:Int}(F:0<=z)(h1:z<l.length):∃v,v∈l/\l[z.toNat]?=some v/\atI (l.map f) z=some (f v):=by
 let B:z.toNat<l.length:=∅
 show#[l[z.toNat],getElem_mem B,qh B,Du F (by rw[qF,qh B];rfl)]
def GC(F:0<=z)(h1:z<l.length):∃v,v∈l/\l[z.toNat]?=some v/\atI l z=some v:=by
 let B:z.toNat<l.length:=∅
 show#[l[z.toNat],getElem_mem B,qh B,Du F (qh B)]
def Hq{α β:Type}{f:α->β}:∀(l:List α)(k:Nat),(l.map f).eraseIdx k=(l.eraseIdx k).map f
 |[],_=>rfl
 |_::_,0=>rfl
 |x::l,k+1=>by show f x::(l.map f).eraseIdx k=f x::(l.eraseIdx k).map f;rw[Hq l k]
def IC(l:List α)(a b:Option Int):(bB l a b).length<=l.length:=by unfold bB;rw[qH,qG];show le_trans (min_le_right ..) (sub_le ..)
def Hy(h:x∈bB l a b):x∈l:=by show List.mem_of_mem_drop (mem_of_mem_take h)
def Iv(l:List α){k:Int}(v:0<=k)(h1:k<=l.length):bB l none (some k)=l.take k.toNat:=by unfold bB sIx;grind
def IX(l:List α)(v:0<=k):bB l (some k) none=l.drop k.toNat:=by
 unfold bB sIx;let:¬k<0:=∅
 simp[q5 this];by_cases h:k.toNat<=l.length
 .rw[min_eq_left h,take_of_length_le];rw[qG];lia
 .let h2:l.length<=k.toNat:=by lia
  rw[min_eq_right h2,drop_of_length_le `j,drop_of_length_le h2,take_nil]
def Ki:∀l:List Int,bM `ai=0
 |[]=>rfl
 |z::l=>by show max (eP `bh) (bM `ai)=0;rw[Ki l];rfl
def Jl(l:List Bool):oX [.lst (l.map D.bl)]=some (.sh (.bl (l.all id))):=by show(iC (l.map D.bl)).map _=_;rw[Vl];rfl
def OI{α:Type}:∀(l:List α)(i:Nat)(h:i<l.length),(l[i]::l.eraseIdx i).Perm l
 |x::l,0,_=>List.Perm.refl _
 |x::l,i+1,h=>by
  let hi:i<l.length:=↑h
  show(List.Perm.swap x l[i] _).trans (List.Perm.cons x (OI l i hi))
def sC(b:WB)(K:Env->Prop)(E:WX):Bool->Env->Prop:=λk U=>if k then b U K E else K U
def tZ(c:WT)(b:WB)(K:Env->Prop)(E:WX):Env->Prop:=λU=>c U (sC b K E) E
def cN:tZ c b K E U=c U (sC b K E) E:=rfl
def iI:sC b K E true U=b U K E:=rfl
def uI:sC b K E false U=K U:=rfl
def GA{α:Type}{toD:α->D}(I:List α->Env->Prop)(xs:List α)
  (step:∀(z:List α)(x:α)(v:List α)(K:Env->Prop)(U:Env),z++x::v=xs->I z U->(∀U',I (z++[x]) U'->K U')->g `dd U `eb)
  (F:∀U,I xs U->Q U)(J:I [] U):aN g c b `ec U Q E:=by
 have B:∀(v z:List α)(U:Env),z++v=xs->I z U->aN g c b (v.map toD) U Q E:=by
  intro v;induction v with
  |nil=>intro z U e h;rw[qA]at e;subst e;show F U h
  |cons x v G=>intro z U e h;show step z x v (sD g c b (v.map toD) Q E) U e h λU' h'=>G (z++[x]) U' (by rw[<-e];simp) h'
 show B xs [] U rfl J
def Dc{α:Type}{toD:α->D}(I:List α->Env->Prop)(xs:List α)
  (step:∀(z:List α)(x:α)(v:List α)(B:Ends)(U:Env),z++x::v=xs->I z U->(∀U',I (z++[x]) U'->B.nx U')->(∀U',I (z++[x]) U'->B.ct U')->B.rt=D'.rt->B.bk=D'.nx->g `dd U (λU=>b B U))
  (G:∀U,I xs U->D'.nx U)(L:I [] U):cK g b `ec D' U:=by
 have F:∀(v z:List α)(U:Env),z++v=xs->I z U->cK g b (v.map toD) D' U:=by
  intro v;induction v with
  |nil=>intro z U e h;rw[qA]at e;subst e;show G U h
  |cons x v J=>intro z U e h;let k:=λU' h'=>J (z++[x]) U' (by rw[<-e];simp) h';show step z x v (bh g b (v.map toD) D') U e h k k rfl rfl
 show F xs [] U rfl L
def Ly{α:Type}{toD:α->D}(I:List α->List S->Env->Prop)(xs:List α)
  (step:∀(z:List α)(x:α)(B:List α)(l:List S)(U:Env)(vs:List (Option S))(K:Env->Prop),z++x::B=xs->vs.length=k->I z l U->(∀l' U1 v,v.length=k->I (z++[x]) l' U1->K (U1++some (.lst l')::v))->g `dd (U++some `i::vs) `eb)
  (M:∀l U vs,vs.length=k->I xs l U->Q (U++some `i::vs))(O:vs.length=k)(h0:I [] [] U):aN g c b `ec (U++some (.lst [])::vs) Q E:=by
 show GA (λz F=>∃l U1 v,v.length=k/\I z l U1/\F=U1++some `i::v) xs (λz x B K F e L Y=>?_) (λF L=>?_) #[[],U,vs,O,h0,rfl]
 .obtain⟨l,U1,v,h1,h2,rfl⟩:=L;show step z x B l U1 v K e h1 h2 λl' G J h3 h4=>Y _ #[l',G,J,h3,h4,rfl]
 .obtain⟨l,U1,v,h1,h2,rfl⟩:=L;show M l U1 v h1 h2
def LD{α:Type}{toD:α->D}(xs:List α)(h:α->Option S)
  (step:∀x∈xs,∀(l:List S)(vs:List (Option S))(K:Env->Prop),vs.length=k->l.length<xs.length->(∀v,v.length=k->K (U++some (.lst (l++(h x).toList))::v))->g `dd (U++some `i::vs) `eb)
  (F:∀vs,vs.length=k->Q (U++some (.lst (xs.filterMap h))::vs))(J:vs.length=k):aN g c b `ec (U++some (.lst [])::vs) Q E:=by
 show Ly (λz l B=>B=U/\l=z.filterMap h) xs (λz x G l B vs K e h1 h2 M=>?_) (λl B vs h1 h2=>?_) J #[rfl,rfl]
 .obtain⟨rfl,rfl⟩:=h2;let L:(z.filterMap h).length<xs.length:=by let:=List.length_filterMap_le h z;rw[<-e];simp;lia
  show step x (by rw[<-e];simp) _ vs K h1 L λv O=>M _ _ v O #[rfl,?_];cases q:h x<;>simp[q]
 .obtain⟨rfl,rfl⟩:=h2;show F vs h1
def Do{vs:List (Option S)}(h:vs.length=1):∃a,vs=[a]:=by
 match vs,h with
 |[a],_=>show#[a,rfl]
def FC{vs:List (Option S)}(h:vs.length=3):∃a b c,vs=[a,b,c]:=by
 match vs,h with
 |[a,b,c],_=>show#[a,b,c,rfl]
section
variable{α:Type}
def HZ(xs:List α)(h:α->Option S)
  (step:∀x∈xs,∀(l:List S)(o:Option S)(K:Env->Prop),l.length<xs.length->(∀o,K (U.take n++[some (.lst (l++(h x).toList)),o]))->zn (n+1) `dd (U.take n++[some `i,o]) `eb)
  (z:∀o,Q (U.take n++[some (.lst (xs.filterMap h)),o]))(e:autoParam (U=U.take n++[some (.lst []),o0]) rZ9):aN (zn (n+1)) c b `ec U Q E:=by
 rw[e];show LD (k:=1) xs h (λx F l B K v G J=>?_) (λB v=>?_) rfl
 .obtain⟨a,rfl⟩:=Do v;show step x F l a K G λo=>J [o] rfl
 .obtain⟨a,rfl⟩:=Do v;show z a
def XB(xs:List α)(h:α->Option S)
  (step:∀x∈xs,∀(l:List S)(o o' v:Option S)(K:Env->Prop),l.length<xs.length->(∀o o' v,K (U.take n++[some (.lst (l++(h x).toList)),o,o',v]))->eK [zn (n+1),zn (n+2),zn (n+3)] `dd (U.take n++[some `i,o,o',v]) `eb)
  (F:∀o o' v,Q (U.take n++[some (.lst (xs.filterMap h)),o,o',v]))(e:autoParam (U=U.take n++[some (.lst []),o0,o1,Y]) rZ9):aN (eK [zn (n+1),zn (n+2),zn (n+3)]) c b `ec U Q E:=by
 rw[e];show LD (k:=3) xs h (λx L l J K B M O=>?_) (λJ B=>?_) rfl
 .obtain⟨a,G,z,rfl⟩:=FC B;show step x L l a G z K M λo o' v=>O [o,o',v] rfl
 .obtain⟨a,G,z,rfl⟩:=FC B;show F a G z
def FH(xs:List α)(h:α->S)
  (step:∀x∈xs,∀(l:List S)(o:Option S)(K:Env->Prop),l.length<xs.length->(∀o,K (U.take n++[some (.lst (l++[h x])),o]))->zn (n+1) `dd (U.take n++[some `i,o]) `eb)
  (v:∀o,Q (U.take n++[some (.lst (xs.map h)),o]))(e:autoParam (U=U.take n++[some (.lst []),o0]) rZ9):aN (zn (n+1)) c b `ec U Q E:=
 HZ xs (λx=>some (h x)) step (λo=>by rw[show(xs.filterMap λx=>some (h x))=xs.map h from List.filterMap_eq_map▸rfl];show v o) e
end
def Pd{β:Type}(v:β->S)(xs:List D)(I:Env->Prop)(P:β->Prop)
  (step:∀x∈xs,∀(U:Env)(A:List β)(o:Option S)(K:Env->Prop),I U->A.length<xs.length->(∀U1 y G,I U1->P y->K (U1++[some (.lst (A.map v++[v y])),G]))->zn (n+1) (.sh x) (U++[some (.lst (A.map v)),o]) `eb)
  (h5:∀U(A:List β) o,I U->A.length=xs.length->(∀y∈A,P y)->Q (U++[some (.lst (A.map v)),o]))(h0:I (U.take n))(e:autoParam (U=U.take n++[some (.lst []),o0]) rZ9):aN (zn (n+1)) c b xs U Q E:=by
 rw[e];let:=Ly (toD:=λx:D=>x) (k:=1) (g:=zn (n+1)) (c:=c) (b:=b) (E:=E) (Q:=Q) (λF l B=>I B/\∃A:List β,l=A.map v/\A.length=F.length/\∀y∈A,P y) xs (λF x J l B vs K e h1 h2 O=>?_) (λl B vs h1 h2=>?_) (U:=U.take n) (vs:=[o0]) rfl #[h0,[],rfl,rfl,λy M=>nomatch M]
 .rwa[List.map_id']at this
 .obtain⟨Y,A,rfl,L,hP⟩:=h2;let#[a,rfl]:=Do h1;show step x (by rw[<-e];simp) B A a K Y (by rw[L,<-e];simp only[qq,qt];lia) λU1 y G h3 h4=>O _ U1 [G] rfl #[h3,A++[y],by simp,by simp[L],λz hz=>?_];grind
 grind[Do]
def KU(I:Nat->Env->Prop)(xs:List D)
  (step:∀(k:Nat)(x:D),xs[k]?=some x->∀(z:Ends)(U:Env),I k U->(∀U',I (k+1) U'->z.nx U')->(∀U',I (k+1) U'->z.ct U')->z.rt=D'.rt->z.bk=D'.nx->g (.sh x) U (λU=>b z U))
  (L:∀U,I xs.length U->D'.nx U)(Y:I 0 U):cK g b xs D' U:=by
 let:=Dc (toD:=λx:D=>x) (g:=g) (b:=b) (D':=D') (λv U=>I v.length U) xs (λv x M z U e O F G B J=>step v.length x (by rw[<-e];simp) z U O (λU' h=>F U' ↑h) (λU' h=>G U' ↑h) B J) L Y;rwa[List.map_id']at this
def NR:∀l:List Int,∀d∈l.map D.int,mJ d:=λl d v=>by let#[x,_,rfl]:=qK.mp v;trivial
def Ny:∀l:List `bs,∀d∈l.map D.str,pC d:=λl d v=>by let#[x,_,rfl]:=qK.mp v;trivial
def PJ:([a]:List Nat)<[b]↔a<b:=by simp[List.cons_lt_cons_iff]
def WK{l:List Nat}(h:l.Pairwise (·<=·))(hn:l.Nodup):l.Pairwise (·<·):=by let:=h.and hn;show this.imp λ⟨h1,h2⟩=>∅
def Qb(h:mJ x):(aS x `bh||decide (30<eP x))=false:=by
 cases x with
 |int i=>rfl
 |_=>show h.elim
def PC(h:pC x):(aS x (.str z)||decide (30<eP x))=false:=by
 cases x with
 |str i=>rfl
 |_=>show h.elim
def WW{ns:List Int}:(if(ns.map D.int).any (λx=>aS x `bh||decide (30<eP x))then none else some (open Classical in decide (D.int z∈ns.map D.int)))=some (decide (z∈ns)):=by grind[mem_map,any_eq_true.mp,Qb,NR]
def OS{ns:List `bs}:(if(ns.map D.str).any (λx=>aS x (.str z)||decide (30<eP x))then none else some (open Classical in decide (D.str z∈ns.map D.str)))=some (decide (z∈ns)):=by grind[mem_map,any_eq_true.mp,PC,Ny]
def NA{ns:List Int}:kM `bh (.lst (ns.map D.int))=some (decide (z∈ns)):=WW
def TR{ns:List `bs}:kM (.str z) (.tup (ns.map D.str))=some (decide (z∈ns)):=OS
def Su{ns:List `bs}:kM (.str z) (.lst (ns.map D.str))=some (decide (z∈ns)):=OS
def Jg{α β:Type}(p:α->Bool)(f:α->β):∀l:List α,(l.filterMap λx=>if p x=true then some (f x)else none)=(l.filter p).map f
 |[]=>rfl
 |x::l=>by let v:=Jg p f l;cases q:p x<;>simp[q,v]
def Ht{α:Type}[DecidableEq α]:∀(l m:List α),l.Nodup->(∀x∈l,x∈m)->l.length<=m.length
 |[],m,_,_=>by simp
 |x::l,m,hn,hs=>by
  let#[h1,h2]:=qL.mp hn;let B:x∈m:=hs x (by simp);let:=Ht l (m.erase x) h2 λy v=>by show(List.mem_erase_of_ne ?_).mpr (hs y (by simp[v]));intro z;subst z;show h1 v
  rw[List.length_erase_of_mem B]at this;let F:=List.length_pos_of_mem B;rw[qt];lia
def Od:∀l:List `bs,bM `bq=0
 |[]=>rfl
 |z::l=>by show max (eP (.str z)) (bM `bq)=0;rw[Od l];rfl
def Tq:eQ (.lst `bq) (.lst [])=some (!decide (l=[])):=by
 unfold eQ eL;rw[q5 (by
  let:eP (.lst `bq)=1:=by show bM `bq+1=1;rw[Od]
  rw[this];cases l<;>show λz=>Bool.noConfusion (show false=true from z))]
 simp
def JR:∀l:List D,(∀d∈l,eP d<=n)->bM l<=n
 |[],_=>zero_le _
 |d::l,h=>by show max (eP d) (bM l)<=n;let h1:=h d (by simp);let h2:=JR l λx v=>h x (by simp[v]);lia
def JA(h:bM l<=29):eQ `i (.lst [])=some (!l.isEmpty):=by
 unfold eQ eL;rw[q5 (by
  let:eP `i=bM l+1:=rfl;cases l with
  |nil=>show λz=>Bool.noConfusion (show false=true from z)
  |cons x l=>show λz=>absurd (qU (show decide (30<bM (x::l)+1)=true from z)) ∅)]
 cases l<;>simp
def Cp{α:Type}{l:List α}(h:l.length=n+1):∃a r,l=a::r/\r.length=n:=by
 cases l with
 |nil=>cases h
 |cons a r=>show#[a,r,rfl,Nat.succ.inj h]
def KG{α:Type}{l:List α}(h:l.length=0):l=[]:=List.length_eq_zero_iff.mp h
def DR{α:Type}{l:List α}(h:l.length=1):∃a,l=[a]:=by let#[a,r,rfl,k]:=Cp h;obtain rfl:=KG k;show#[a,rfl]
def Fu{α:Type}{l:List α}(h:l.length=2):∃z v,l=[z,v]:=by let#[z,r,rfl,k]:=Cp h;let#[v,rfl]:=DR k;show#[z,v,rfl]
def Ft{α:Type}{l:List α}(h:l.length=3):∃B z v,l=[B,z,v]:=by let#[B,r,rfl,k]:=Cp h;let#[z,v,rfl]:=Fu k;show#[B,z,v,rfl]
def Fs{α:Type}{l:List α}(h:l.length=4):∃F B z v,l=[F,B,z,v]:=by let#[F,r,rfl,k]:=Cp h;let#[B,z,v,rfl]:=Ft k;show#[F,B,z,v,rfl]
def HD{α:Type}{l:List α}(h:l.length=5):∃G F B z v,l=[G,F,B,z,v]:=by let#[G,r,rfl,k]:=Cp h;let#[F,B,z,v,rfl]:=Fs k;show#[G,F,B,z,v,rfl]
abbrev Wd:=List Nat
def eB(w:Wd)(i j:Nat):Wd:=(w.drop i).take (j-i)
def MP(l:List α)(i j:Nat):bB l (some (i:Int)) (some (j:Int))=(l.drop i).take (j-i):=by
 unfold bB sIx;let h1:¬(i:Int)<0:=∅
 let h2:¬(j:Int)<0:=∅
 simp[q5 h1,q5 h2,qW];by_cases hi:i<=l.length
 .rw[min_eq_left hi];by_cases v:j<=l.length
  .rw[min_eq_left v]
  .rw[take_of_length_le (by rw[qG];lia),take_of_length_le (by rw[qG];lia)]
 .rw[min_eq_right (a:=i) ∅,drop_of_length_le (i:=l.length) `j,drop_of_length_le (i:=i) ∅,take_nil,take_nil]
def Nc(w:Wd)(i j:Nat):bB w (some (i:Int)) (some (j:Int))=eB w i j:=MP w i j
def dP(B:List Wd)(w:Wd)(i j:Nat):Bool:=decide (i<j)&&(decide (j<=w.length)&&decide (eB w i j∈B))
theorem zaw:dP B w i j=true↔i<j/\j<=w.length/\eB w i j∈B:=by unfold dP;simp
def iQ(B:List Wd)(w:Wd)(p q:Nat):Bool:=dP B w p q||dP B w q p
def JV:iQ B w p q=iQ B w q p:=by unfold iQ;rw[Bool.or_comm]
def nb(B:List Wd)(w:Wd)(p:Nat):List Nat:=(List.range (w.length+1)).filter λq=>iQ B w p q
theorem za0:q∈nb B w p↔iQ B w p q=true:=by grind[nb,mem_filter,mem_range,iQ,zaw]
theorem zc2:(nb B w p).Pairwise (·<·):=List.Pairwise.filter _ pairwise_lt_range
def GR(h:q∈nb B w p):q<=w.length/\p<=w.length/\p≠q:=by grind[za0,iQ,zaw]
abbrev Tr:=Nat×Nat×Nat
def vQ(B:List Wd)(w:Wd)(i:Nat):List Tr:=(List.range (w.length+1)).filterMap λj=>if dP B w i j=true then some (i,j,B.idxOf (eB w i j))else none
def vP(B:List Wd)(w:Wd):List Tr:=(List.range w.length).flatMap (vQ B w)
theorem zfL:t∈vQ B w i↔t.1=i/\dP B w i t.2.1=true/\t.2.2=B.idxOf (eB w i t.2.1):=by
 unfold vQ;rw[mem_filterMap];constructor
 .rintro⟨j,_,h⟩;split at h
  .rename_i v;cases h;show#[rfl,v,rfl]
  .cases h
 .rintro⟨h1,h2,z⟩;refine#[t.2.1,?_,?_]
  .rw[qJ];let:=zaw.mp h2;lia
  .subst h1;rw[q4 h2,<-z]
theorem zfU:t∈vP B w↔dP B w t.1 t.2.1=true/\t.2.2=B.idxOf (eB w t.1 t.2.1):=by
 unfold vP;rw[mem_flatMap];constructor
 .grind[zfL]
 .rintro⟨h1,h2⟩;show#[t.1,?_,zfL.mpr #[rfl,h1,h2]];rw[qJ];let:=zaw.mp h1;lia
def BD{z:Int}{n:Nat}(h:z=n):fromTo 0 z.toNat=(List.range n).map λ(k:Nat)=>D.int (k:Int):=by subst h;show map_congr_left λk _=>?_;rw[Int.zero_add]
def FD{i z:Int}{a n:Nat}(hi:i=a)(h:z=n):fromTo i (z-i).toNat=(List.range' a (n-a)).map λ(k:Nat)=>D.int (k:Int):=by subst hi;subst h;unfold fromTo;rw[List.range'_eq_map_range,qE];first|rfl|assumption|(simp_all;done)
def zB(q:Nat):D:=.int (q:Int)
def mV(n:Nat)(f:Nat->List Nat):List S:=(List.range (n+1)).map λp=>S.lst ((f p).map λq=>S.sh (zB q))
def MF(h:i<=n):(mV n f)[i]?=some (.lst ((f i).map λq=>S.sh (zB q))):=by unfold mV;rw[qF,getElem?_range ∅];rfl
def dU(f:Nat->List Nat)(i j:Nat):Nat->List Nat:=λp=>if p=i then f p++[j]else f p
def LR(h:i<=n):(mV n f).set i (.lst (((f i).map λq=>S.sh (zB q))++[.sh (zB j)]))=mV n (dU f i j):=by
 apply ext_getElem?;intro k;rw[getElem?_set];unfold mV;by_cases v:i=k
 .subst v;rw[q4 rfl,q4 (by simp;lia -verbose),qF,getElem?_range ∅];simp[dU]
 .rw[q5 v,qF,qF];by_cases h2:k<n+1
  .rw[getElem?_range h2];simp[map_some,dU,q5 (Ne.symm v)]
  .rw[qQ (by simp;lia -verbose)];rfl
@[inline]def Dn(i j p q:Nat):Prop:=p<i\/q<i\/p=i/\q<j\/q=i/\p<j
def dX(B:List Wd)(w:Wd)(i j:Nat)(f:Nat->List Nat):Prop:=∀p,(f p).Nodup/\∀q,q∈f p↔(iQ B w p q=true/\Dn i j p q)
def Je:Dn i (j+1) p q↔Dn i j p q\/p=i/\q=j\/q=i/\p=j:=by
 unfold Dn;rw[Nat.lt_succ_iff_lt_or_eq,Nat.lt_succ_iff_lt_or_eq];constructor
 .rintro(h|h|⟨h,k|k⟩|⟨h,k|k⟩)
  .show .inl (.inl h)
  .show .inl (.inr (.inl h))
  .show .inl (.inr (.inr (.inl #[h,k])))
  .show .inr (.inl #[h,k])
  .show .inl (.inr (.inr (.inr #[h,k])))
  .show .inr (.inr #[h,k])
 .rintro((h|h|h|h)|h|h)
  .show .inl h
  .show .inr (.inl h)
  .show .inr (.inr (.inl #[h.1,.inl h.2]))
  .show .inr (.inr (.inr #[h.1,.inl h.2]))
  .show .inr (.inr (.inl #[h.1,.inr h.2]))
  .show .inr (.inr (.inr #[h.1,.inr h.2]))
def Ld(v:i<j):¬Dn i j i j/\¬Dn i j j i:=by unfold Dn;lia
def Jr(v:i<j):iQ B w i j=dP B w i j:=by
 cases e:dP B w j i with
 |false=>unfold iQ;rw[e,Bool.or_false]
 |true=>show absurd (zaw.mp e).1 (Nat.lt_asymm v)
def Sq(v:i<j)(h:dX B w i j f)(F:dP B w i j=false):dX B w i (j+1) f:=λp=>⟨(h p).1,λq=>by
 rw[(h p).2 q,Je];show and_congr_right λz=>#[.inl,λk=>k.elim id λk=>?_]
 rcases k with⟨rfl,rfl⟩|⟨rfl,rfl⟩
 .rw[Jr v,F]at z;cases z
 .rw[JV,Jr v,F]at z;cases z⟩
def EA{P Q:Nat->Prop}(h1:l.Nodup)(h2:∀q,q∈l↔P q)(hn:¬P a)(h:∀q,P q\/q=a↔Q q):(l++[a]).Nodup/\∀q,q∈l++[a]↔Q q:=
 #[qx.mpr #[h1,by simp,λx z b v e=>hn ((h2 a).mp (by rw[qv.mp v]at e;rwa[<-e]))],λq=>by rw[qy,qv,h2 q,h q]]
def Ur(v:i<j)(h:dX B w i j f)(z:dP B w i j=true):dX B w i (j+1) (dU (dU f i j) j i):=λp=>by
 let#[h1,h2]:=h p;rw[<-Jr v]at z;unfold dU;by_cases F:p=j
 .subst F;rw[q4 rfl,q5 (ne_of_gt v)];rw[JV]at z;show EA h1 h2 (λk=>(Ld v).2 k.2) λq=>?_;rw[Je];constructor
  .rintro(⟨a,b⟩|rfl)
   .show#[a,.inl b]
   .show#[z,.inr (.inr #[rfl,rfl])]
  .rintro⟨a,b|⟨b,_⟩|⟨b,_⟩⟩
   .show .inl #[a,b]
   .show absurd b (ne_of_gt v)
   .show .inr b
 .rw[q5 F];by_cases hi:p=i
  .subst hi;rw[q4 rfl];show EA h1 h2 (λk=>(Ld v).1 k.2) λq=>?_;rw[Je];constructor
   .rintro(⟨a,b⟩|rfl)
    .show#[a,.inl b]
    .show#[z,.inr (.inl #[rfl,rfl])]
   .rintro⟨a,b|⟨_,b⟩|⟨_,b⟩⟩
    .show .inl #[a,b]
    .show .inr b
    .show absurd b F
  .rw[q5 hi];show#[h1,λq=>?_];rw[h2 q,Je];refine and_congr_right λ_=>#[.inl,λk=>k.elim id λk=>?_]
   rcases k with⟨k,_⟩|⟨_,k⟩
   .show absurd k hi
   .show absurd k F
def Tu(F:w.length<=n)(h:dX B w i (n+1) f):dX B w (i+1) (i+2) f:=λp=>by
 let#[h1,h2]:=h p;show#[h1,λq=>?_];rw[h2 q];show and_congr_right λv=>?_;let#[M,L,G]:=GR (za0.mpr v);let Y:p<n+1:=Nat.lt_succ_of_le (le_trans L F);let O:q<n+1:=Nat.lt_succ_of_le (le_trans M F);show#[λh=>?_,λh=>?_]
 .rcases h with h|h|⟨h,_⟩|⟨h,_⟩
  .show .inl (lt_succ_of_lt h)
  .show .inr (.inl (lt_succ_of_lt h))
  .show .inl (h▸lt_succ_self _)
  .show .inr (.inl (h▸lt_succ_self _))
 .have J:p<i+1\/q<i+1:=by
   rcases h with h|h|⟨h,h'⟩|⟨h,h'⟩
   .show .inl h
   .show .inr h
   .show .inr (Nat.lt_of_le_of_ne (le_of_lt_succ h') λz=>G (h.trans z.symm))
   .show .inl (Nat.lt_of_le_of_ne (le_of_lt_succ h') λz=>G (z.trans h.symm))
  rcases J with h|h
  .show(Nat.lt_or_eq_of_le (le_of_lt_succ h)).elim .inl λz=>.inr (.inr (.inl #[z,O]))
  .show(Nat.lt_or_eq_of_le (le_of_lt_succ h)).elim (λz=>.inr (.inl z)) λz=>.inr (.inr (.inr #[z,Y]))
def WD:dX B w 0 1 λ_=>[]:=λp=>#[by simp,λq=>by simp only[List.not_mem_nil,false_iff];rintro⟨h,h2⟩;let:=GR (za0.mpr h);unfold Dn at h2;lia]
def UC(hi:w.length<=i)(h:dX B w i j f):(nb B w p).Perm (f p):=by let#[h1,h2]:=h p;show(List.perm_ext_iff_of_nodup (zc2.imp λh=>by lia) h1).mpr λq=>?_;rw[za0,h2 q];show#[λv=>#[v,?_],λv=>v.1];let:=GR (za0.mpr v);unfold Dn;lia
def GU:(nb B w p).length<=w.length+1:=by show le_trans (length_filter_le _ _) (by simp)
def bG(B:List Wd)(w:Wd):List D:=(List.range (w.length+1)).map λp=>D.lst ((nb B w p).map zB)
def Hn(h:v++i::post=List.range n):v.length=i/\i<n:=by
 let h1:(List.range n)[v.length]?=some i:=by rw[<-h];simp
 let#[h2,z]:=qg.mp h1;rw[List.getElem_range]at z;rw[qD]at h2;lia
def Ou(h:v++i::post=List.range' a n):i=a+v.length/\v.length<n:=by
 let h1:(List.range' a n)[v.length]?=some i:=by rw[<-h];simp
 let#[h2,z]:=qg.mp h1;rw[List.getElem_range']at z;rw[List.length_range']at h2;lia
def Nh(h:dX B w i j f)(p:Nat):(f p).length<=w.length+1:=by let#[h1,h2]:=h p;let:=Ht (f p) (nb B w p) h1 λq v=>za0.mpr ((h2 q).mp v).1;let:=GU (B:=B) (w:=w) (p:=p);lia
inductive cX(R:Nat->Nat->Prop):Nat->Nat->Prop
 |refl (p:Nat):cX R p p
 |step {p q r:Nat}:cX R p q->R q r->cX R p r
def cX.trans{R:Nat->Nat->Prop}(h1:cX R p q)(h2:cX R q r):cX R p r:=by
 induction h2 with
 |refl=>show h1
 |step _ e v=>show .step v e
def aG(B:List Wd)(w:Wd)(p q:Nat):Prop:=iQ B w p q=true
def VG(p q:Nat)(h:aG B w p q):aG B w q p:=by unfold aG at*;rw[JV];show h
def OU:∀l m:List Int,bO `ai (m.map D.int)=false
 |[],_=>by cases‹List Int›<;>rfl
 |_::_,[]=>rfl
 |a::l,b::m=>by show(aS (.int a) (.int b)||bO (l.map D.int) (m.map D.int))=false;rw[OU l m];rfl
def MX:∀{l m:List Int},l.map D.int=m.map D.int->l=m
 |[],[],_=>rfl
 |[],_::_,h=>nomatch h
 |_::_,[],h=>nomatch h
 |a::l,b::m,h=>by
  simp only[qz,List.cons.injEq]at h;rw[MX h.2];injection h.1 with e
  rw[e]
def Tg{l m:List Int}:eL (.lst `ai) (.lst (m.map D.int))=some (decide (l=m)):=by
 unfold eL;rw[q5 (by
  let:eP (.lst `ai)=1:=by show bM `ai+1=1;rw[Ki]
  rw[this,show aS (.lst `ai) (.lst (m.map D.int))=bO `ai (m.map D.int) from rfl,OU];decide)]
 by_cases h:l=m
 .subst h;simp
 .let v:¬(D.lst `ai=D.lst (m.map D.int)):=λz=>h (MX (by injection z));simp[h,v]
def Vd{l m:List Int}:eQ (.lst `ai) (.lst (m.map D.int))=some (!decide (l=m)):=by unfold eQ;rw[Tg];rfl
def PZ{x:Int}{l:List Int}:∃m,(x::l).min?=some m/\m∈x::l/\∀y∈x::l,m<=y:=by
 cases e:(x::l).min? with
 |none=>cases List.min?_eq_none_iff.mp e
 |some m=>show#[m,rfl,List.min?_mem e,λy v=>(List.le_min?_iff e).mp (Int.le_refl m) y v]
def RK(p q:Nat)(h:aG B w p q):p<=w.length/\q<=w.length:=by let:=GR (za0.mpr h);show#[this.2.1,this.1]
def PB(l:List `bs):dB `bq=some l:=by
 induction l with
 |nil=>rfl
 |cons a l v=>show(dB `bq).map (a::·)=_;rw[v];rfl
def Vn{l:List `bs}(h:(l.map List.length).sum<=big):gO [] [.lst `bq]=some (.sh (.str l.flatten)):=by show(dB `bq).bind _=_;rw[PB];show(if(l.map List.length).sum+l.length*[].length<=big then some (S.sh (.str (dM [] l)))else none)=_;rw[q4 (by show h),Oa]
def gx(D':Ends)(m:Nat)(J:Nat->Env->Prop):Ends:={D' with nx:=λv=>∃m',m'<m/\J m' v,ct:=λv=>∃m',m'<m/\J m' v,bk:=D'.nx}
def lr(b:WS)(D':Ends)(m:Nat)(J:Nat->Env->Prop)(k:Bool)(U:Env):Prop:=if k then b (gx D' m J) U else D'.nx U
def uJ:lr b D' m J true U=b (gx D' m J) U:=rfl
def uK:lr b D' m J false U=D'.nx U:=rfl
def Lm(v:m'<m)(h:J m' U):(gx D' m J).nx U:=#[m',v,h]
def Jf(J:Nat->Env->Prop)(m:Nat)(z:J m U)(h:∀m U,J m U->c U (lr b D' m J) D'.ex):dN c b D' U:=#[J,#[m,z],λm U v=>h m U v]
def Nk{l:List α}(h:0<l.length):∃v,v∈l/\l.getLast?=some v/\atI l (-1)=some v:=by show#[l.getLast (qP.mp h),List.getLast_mem _,List.getLast?_eq_some_getLast (qP.mp h),?_];unfold atI ixN;rw[q5 ⋯,q4 ∅];show l[((-1:Int)+(l.length:Int)).toNat]?=_;rw[show((-1:Int)+(l.length:Int)).toNat=l.length-1 by lia,qh ∅,List.getLast_eq_getElem]
inductive Walk(R:Nat->Nat->Prop)(g:Nat):Nat->Nat->Prop
 |zero:Walk R g 0 g
 |step {d p q:Nat}:Walk R g d p->R p q->Walk R g (d+1) q
def aH(R:Nat->Nat->Prop)(g q d:Nat):Prop:=Walk R g d q/\∀d',d'<d->¬Walk R g d' q
section
variable{R:Nat->Nat->Prop}
def Walk.inv(h:Walk R g d q):(d=0/\q=g)\/∃e p,d=e+1/\Walk R g e p/\R p q:=by
 cases h with
 |zero=>show .inl #[rfl,rfl]
 |step h e=>show .inr #[_,_,rfl,h,e]
def ID(h:aH R g q d)(k:aH R g q e):d=e:=by
 rcases lt_trichotomy d e with z|z|z
 .show(k.2 d z h.1).elim
 .show z
 .show(h.2 e z k.1).elim
def Mz:∀{d:Nat},Walk R g d q->∃e,e<=d/\aH R g q e:=by
 intro d;induction d using Nat.strongRecOn with
 |_ d F=>
  intro h;by_cases z:∃d',d'<d/\Walk R g d' q
  .obtain⟨d',B,v⟩:=z;let#[e,G,hi]:=F d' B v;show#[e,∅,hi]
  .show#[d,q8 _,h,λd' B v=>z #[d',B,v]]
def Oo:aH R g g 0:=#[.zero,λv h=>∅]
def Ik(h:aH R g q 0):q=g:=by
 rcases h.1.inv with⟨_,e⟩|⟨_,_,e,_⟩
 .show e
 .lia
def QH(h:aH R g g d):d=0:=ID h Oo
def IZ(h:aH R g q (d+1)):∃p,aH R g p d/\R p q:=by
 rcases h.1.inv with⟨e,_⟩|⟨e,p,z,F,B⟩
 .lia
 .obtain rfl:d=e:=by lia
  show#[p,#[F,λG J v=>h.2 (G+1) ∅ (.step v B)],B]
def Ge(h:Walk R g d q):cX R g q:=by
 induction h with
 |zero=>show .refl _
 |step _ e v=>show .step v e
def UE(h:cX R g q):∃d,Walk R g d q:=by
 induction h with
 |refl=>show#[0,.zero]
 |step _ e v=>let#[d,h]:=v;show#[d+1,.step h e]
theorem zbQ:cX R g q↔∃d,aH R g q d:=by
 constructor
 .grind[UE,Mz]
 .rintro⟨d,h⟩;show Ge h.1
open Classical in
def iB(R:Nat->Nat->Prop)(g q:Nat):Nat:=if h:∃d,aH R g q d then Classical.choose h else 0
def GD(h:aH R g q d):iB R g q=d:=by unfold iB;rw[dif_pos #[d,h]];show ID (Classical.choose_spec (#[d,h]:∃d,aH R g q d)) h
structure jM(R:Nat->Nat->Prop)(g:Nat)(L:List (Nat×Nat)):Prop where
 ok:∀t∈L,aH R g t.1 t.2
 nd:(L.map (·.1)).Nodup
def jM.at(h:jM R g L)(h1:(q,d)∈L)(h2:aH R g q e):d=e:=ID (h.ok _ h1) h2
structure dE(R:Nat->Nat->Prop)(g:Nat)(L:List (Nat×Nat))(qu:List (Nat×Nat)):Prop where
 right:jM R g L
 sub:∀t∈qu,t∈L
 out:∀t∈L,t∉qu->∀q,R t.1 q->∃e,(q,e)∈L
 up:qu.Pairwise λt u=>t.2<=u.2
 near:∀t r,qu=t::r->∀u∈r,u.2<=t.2+1
 all:∀t r,qu=t::r->∀q e,aH R g q e->e<=t.2->(q,e)∈L
 gin:(g,0)∈L
def dE.done(h:dE R g L [])(k:aH R g q d):(q,d)∈L:=by
 induction d generalizing q with
 |zero=>rw[Ik k];show h.gin
 |succ d z=>let#[p,F,B]:=IZ k;let#[e,v]:=h.out _ (z F) (by simp) q B;let:=h.right.at v k;rw[<-this];show v
structure pJ(R:Nat->Nat->Prop)(g:Nat)(L qu:List (Nat×Nat))(t:Nat×Nat)(pre:List Nat):Prop where
 right:jM R g L
 tin:t∈L
 sub:∀u∈qu,u∈L
 out:∀u∈L,u∉qu->u≠t->∀q,R u.1 q->∃e,(q,e)∈L
 gone:∀q∈pre,∃e,(q,e)∈L
 up:qu.Pairwise λt u=>t.2<=u.2
 lo:∀u∈qu,t.2<=u.2/\u.2<=t.2+1
 all:∀q e,aH R g q e->e<=t.2->(q,e)∈L
 gin:(g,0)∈L
def dE.take{L qu:List (Nat×Nat)}{t:Nat×Nat}(h:dE R g L (t::qu)):pJ R g L qu t [] where
 right:=h.right
 tin:=h.sub t (by simp)
 sub u hu:=h.sub u (by simp[hu])
 out u hu hn ht:=h.out u hu (by simp[hn,ht])
 gone:=by simp
 up:=(pairwise_cons.mp h.up).2
 lo u hu:=#[(pairwise_cons.mp h.up).1 u hu,h.near t qu rfl u hu]
 all q e hq he:=h.all t qu rfl q e hq he
 gin:=h.gin
def pJ.skip(h:pJ R g L B t v)(G:(q,e)∈L):pJ R g L B t (v++[q]):=
 #[h.right,h.tin,h.sub,h.out,λx F=>(qy.mp F).elim (h.gone x) λz=>#[e,by rw[qv.mp z];show G],h.up,h.lo,h.all,h.gin]
def pJ.put(h:pJ R g L Y t J)(hr:R t.1 q)(hn:∀e,(q,e)∉L):pJ R g (L++[(q,t.2+1)]) (Y++[(q,t.2+1)]) t (J++[q]):=by
 let hd:aH R g q (t.2+1):=by show#[.step (h.right.ok t h.tin).1 hr,λd' h1 hw=>?_];let#[e,F,hi]:=Mz hw;show hn e (h.all q e hi ∅)
 show#[#[λu B=>?_,?_],qj _ h.tin,λu B=>?_,λu B G M=>?_,λx v=>?_,?_,λu B=>?_,λx e v F=>qj _ (h.all x e v F),qj _ h.gin]
 .rcases qy.mp B with z|z
  .show h.right.ok u z
  .rw[qv.mp z];show hd
 .rw[map_append];show qx.mpr #[h.right.nd,by simp,λx v y O e=>?_];grind
 .rcases qy.mp B with z|z
  .show qj _ (h.sub u z)
  .show qi _ z
 .rcases qy.mp B with z|z
  .intro x v;let#[e,F]:=h.out u z (λk=>G (qj _ k)) M x v;show#[e,qj _ F]
  .show(G (qi _ z)).elim
 .rcases qy.mp v with z|z
  .obtain⟨e,F⟩:=h.gone x z;show#[e,qj _ F]
  grind
 .show pairwise_append.mpr #[h.up,by simp,λx v y O=>?_];rw[qv.mp O];show(h.lo x v).2
 .rcases qy.mp B with z|z
  .show h.lo u z
  grind
def pJ.queue(h:pJ R g L Y t l)(hl:∀q,R t.1 q->q∈l):dE R g L Y:=by
 have v:∀u∈L,u∉Y->∀q,R u.1 q->∃e,(q,e)∈L:=λu J hn q B=>by
  by_cases e:u=t
  .subst e;show h.gone q (hl q B)
  .show h.out u J hn e q B
 show#[h.right,h.sub,v,h.up,λF r e u J=>?_,λF r e q d B hd=>?_,h.gin]
 .subst e;let h1:=h.lo u (by simp[J]);let h2:=h.lo F (by simp);lia
 .subst e;let h2:=h.lo F (by simp);rcases lt_or_ge t.2 d with z|z
  .obtain⟨k,rfl⟩:∃k,d=k+1:=#[d-1,∅]
   let#[p,hp,hr]:=IZ B;let M:=h.all p k hp ∅
   --p was taken out,or it is in the queue with less than the first has
   by_cases O:(p,k)∈F::r
   .have h3:=h.lo _ O;let h4:F.2<=k:=by
     rcases qB.mp O with G|G
     .rw[<-G];show q8 _
     .show(pairwise_cons.mp h.up).1 _ G
    lia
   .obtain⟨e,he⟩:=v _ M O q hr;let:=h.right.at he B;rw[<-this];show he
  .show h.all q d B z
def dE.start:dE R g [(g,0)] [(g,0)] where
 right:=#[λt ht=>by rw[qv.mp ht];show Oo,by simp]
 sub t ht:=ht
 out t ht hn:=(hn ht).elim
 up:=by simp
 near t r e u hu:=by
  injection e with _ e
  rw[<-e]at hu;cases hu
 all t r e q d hq hd:=by grind[Ik]
 gin:=by simp
end
def bP(L:List (Nat×Nat)):List D:=L.map λt=>zB t.1
def jC(L:List (Nat×Nat)):List D:=L.map λt=>zB t.2
def Kh(h:zB a=zB b):a=b:=by
 injection h with h
 lia
theorem zf7{q:Nat}:D.int (q:Int)∈bP L↔∃d,(q,d)∈L:=by
 unfold bP;rw[qK];constructor
 .rintro⟨t,v,e⟩;show#[t.2,by rw[<-Kh (a:=t.1) (b:=q) e];show v]
 .rintro⟨d,z⟩;show#[(q,d),z,rfl]
def Sf(h:(L.map (·.1)).Nodup):(bP L).Nodup:=by
 unfold bP;let:(L.map λt=>zB t.1)=(L.map (·.1)).map zB:=by rw[qE];rfl
 rw[this,List.Nodup,pairwise_map];show h.imp λv e=>v (Kh e)
open Classical in
def Mw{q:Nat}:fF (.int (q:Int)) `dh=some (decide (∃d,(q,d)∈L)):=by show kM (.int (q:Int)) `dh=_;show(if aW false (.int (q:Int))then some (decide (D.int (q:Int)∈bP L))else none)=_;rw[q4 (show aW false (.int (q:Int))=true from rfl)];congr 1;show decide_eq_decide.mpr zf7
open Classical in
def Mp{L:List (Nat×Nat)}{vs:List D}{q:Nat}(h:∃d,(q,d)∈L):kM (.int (q:Int)) `dh=some true:=by let:=Mw (L:=L) (vs:=vs) (q:=q);rw[qR h]at this;show this
open Classical in
def Lu{L:List (Nat×Nat)}{vs:List D}{q:Nat}(h:¬∃d,(q,d)∈L):kM (.int (q:Int)) `dh=some false:=by let:=Mw (L:=L) (vs:=vs) (q:=q);rw[qS h]at this;show this
open Classical in
def JG{f:Nat->α}:∀{L:List (Nat×Nat)}{q d:Nat},(L.map (·.1)).Nodup->(q,d)∈L->lk (bP L) (L.map λt=>f t.2) (.int (q:Int))=some (f d)
 |[],_,_,_,h=>nomatch h
 |t::L,q,d,hn,h=>by
  show(if zB t.1=.int (q:Int)then some (f t.2)else lk (bP L) (L.map λt=>f t.2) (.int (q:Int)))=_;rw[qz,qL]at hn;rcases qB.mp h with e|h
  .rw[<-e,q4 (show zB (q,d).1=.int (q:Int) from rfl)]
  .let v:¬zB t.1=.int (q:Int):=λe=>hn.1 (by rw[Kh (a:=t.1) (b:=q) e];show qK.mpr #[_,h,rfl]);rw[q5 v];show JG hn.2 h
def Tb{L:List (Nat×Nat)}{l:List S}{q:Nat}{s:S}(h:∀d,(q,d)∉L):cG false (bP L) l (.int (q:Int)) s=.dct false (bP L++[.int (q:Int)]) (l++[s]):=by
 unfold cG;let:fS (bP L) (.int (q:Int))=none:=by unfold fS;rw[findIdx?_eq_none_iff];intro x v;rw[decide_eq_false_iff_not];intro e;subst e;let#[d,z]:=zf7.mp v;show h d z
 rw[this]
def aT(B:List Wd)(w:Wd)(p:Nat):Nat:=(((nb B w p).filter λq=>decide (iB `x w.length q+1=iB `x w.length p)).head?).getD p
def cU(B:List Wd)(w:Wd):Nat->Nat->List Nat
 |0,p=>[p]
 |d+1,p=>p::cU B w d (aT B w p)
def Iw:atI (l++[x]) (-1)=some x:=by let#[v,_,h1,h2]:=Nk (l:=l++[x]) (by simp);grind
def UW(h:(x::l).Pairwise (·<·)):((x::l).map λq=>((q:Nat):Int)).min?=some ((x:Nat):Int):=by let#[m,em,z,v]:=PZ (x:=((x:Nat):Int)) (l:=l.map λq=>((q:Nat):Int));grind[mem_cons_self,mem_cons,mem_map,pairwise_cons.mp]
def Kp(h:aH `x w.length p (d+1)):∃r,((nb B w p).filter λq=>decide (iB `x w.length q+1=iB `x w.length p))=aT B w p::r/\aH `x w.length (aT B w p) d:=by
 let#[q,L,J]:=IZ h;let z:q∈(nb B w p).filter λq=>decide (iB `x w.length q+1=iB `x w.length p):=by rw[mem_filter];show#[za0.mpr (VG _ _ J),qR (by rw[GD L,GD h])]
 cases e:(nb B w p).filter λq=>decide (iB `x w.length q+1=iB `x w.length p)with
 |nil=>rw[e]at z;cases z
 |cons x r=>
  let G:aT B w p=x:=by unfold aT;rw[e];rfl
  rw[G];show#[r,rfl,?_];let v:x∈(nb B w p).filter λq=>decide (iB `x w.length q+1=iB `x w.length p):=by rw[e];simp
  let#[h1,h2]:=mem_filter.mp v;let#[k,F]:=zbQ.mp ((Ge h.1).step (za0.mp h1));rw[GD F,GD h]at h2;obtain rfl:k=d:=∅
  show F
def Kc{R:Nat->Nat->Prop}:∀{d p:Nat},aH R g p d->∀k,k<=d->∃q,aH R g q k
 |0,p,h,k,hk=>by
  obtain rfl:k=0:=∅
  show#[p,h]
 |d+1,p,h,k,hk=>by
  rcases lt_or_ge d k with z|z
  .obtain rfl:k=d+1:=by lia
   show#[p,h]
  .obtain⟨q,v,_⟩:=IZ h;show Kc v k z
def TV{R:Nat->Nat->Prop}(v:dE R g L [])(B:aH R g p d):d+1<=L.length:=by
 let:=Ht (List.range (d+1)) (L.map (·.2)) nodup_range λk z=>by let#[q,h]:=Kc B k (by let:=qJ.mp z;lia);show qK.mpr #[(q,k),v.done h,rfl]
 rw[qD,qo]at this;show this
end FL
noncomputable section
namespace Law
open FL
def nL:WS:=wExpr (eS 1 `u `V)
def vI:=uS nL.eq_1
def fc:WF:=fQ 1 4 [0]
 (zy (zA (zn 1) (nO false))
  (zy (dF (bD `m) (eK [zn 2,zn 3]) nL)
  (bT `z)))
def eh:WF:=fQ 2 4 [0,1]
 (zy (zA (zn 2) (zx aV (zx cQ (wC (.int 7919)) `z) (wC (.int 11))))
  (zy (fI (aP cx `z (wB aU (zl `m zm))) (zA (zn 2) (cA `m `z)) (fI (aP mY (wB aU (zl `m zm)) `E) (zA (zn 2) (zx aV `u (zx cQ (zx eY (cA `m (zx eY `z (wB aU (zl `m zm)))) `bx) (wC (.int 69623))))) bC))
  (zy (zA `ei (zx aV (zx eY (zx aV (zx cQ (zx eY `u `bx) (wC (.int 48271))) (zx cQ (wC (.int 40692)) `z)) `bx) `e))
  (bT (cC (zl (cA (cC (zl `E (zl `u zm))) (wB jL (zl (iP (aP zN `u (zx oB (wC (.int 10)) (wC (.int 18))))) zm))) (zl `V zm)))))))
def eA:WF:=fQ 2 4 [0,1]
 (zy (fI (aP mY (cA `m `E) `E) (zy (zA (zn 2) (zx eY (cA `m `E) `z))
  (zy (gE 0 `E (zx hV (cA `m `E) `z))
  (bT `u))) bC)
  (zy (zA `ei (zx eY (zx cQ (cA `m `e) (wC (.int 69623))) (wC (.int 2147483647))))
  (zy (gE 0 `e (zx aV (zx eY (zx aV (zx cQ `V (wC (.int 48271))) (wC (.int 30103))) `bx) `e))
  (bT (zx eY (zx hV (zx aV (zx cQ `V (wC (.int 2147483647))) (cA `m `e)) (wC (.int 8191))) `z)))))
def lR:WS:=zy (fI (fL (aP eL (gX `z (some `u) (some (zx aV `u `K))) (gX `bd none (some (zx dQ (wB aU (zl `z zm)) `u)))) (aP gm (zx aV `u `K) `V)) (wExpr (bL 4 (cI (zl `bd (zl (zx aV `u `K) zm))))) bC)
  (fI (fL (aP zN `u `K) (aP eL (gX `z (some (zx dQ `u `K)) (some `u)) `bd)) (wExpr (bL 4 (cI (zl `bd (zl (zx dQ `u `K) zm))))) bC)
def rQ:=uS lR.eq_1
def uT:WF:=fQ 4 6 [0,1,2,3]
 (zy (zA (zn 4) `de)
  (zy (dF (bD `m) (zn 5) lR)
  (bT `W)))
def lN:WB:=bH 5 `de
def rM:=uB lN.eq_1
def lP:WS:=fI (aP fF (gX `z (some `V) (some `W)) `m) (zy (wExpr (cZ 2 `V `W))
  (wExpr (cZ 2 `W `V))) bC
def rO:=uS lP.eq_1
def lO:WS:=dF (fY (zx aV `V `e) (zx aV (wB aU (zl `z zm)) `e)) (zn 4) lP
def rN:=uS lO.eq_1
def lM:WB:=bH 5 (bU (wB cY `bu))
def rL:=uB lM.eq_1
def nK:WF:=fQ 2 5 [0,1]
 (zy (zA (zn 2) (gF 5 1 (aR (zx aV (wB aU (zl `z zm)) `e)) (zn 6) cO lN))
  (zy (dF (aR (wB aU (zl `z zm))) `ei lO)
  (bT (gF 5 1 (bD `u) (zn 6) cO lM))))
def lL:WS:=fI (aP cM `bd `u) (zy (nN 2 `bd (zx aV (nM `u `W) `e))
  (wExpr (bL 3 `bd))) bC
def lU:=uS lL.eq_1
def iN:WS:=zy (zA (zn 4) (bU (fH 3 `E)))
  (dF (bD (cA `m `W)) (zn 5) lL)
def rK:=uS iN.eq_1
def lK:WB:=bH 7 (zk 8)
def lT:=uB lK.eq_1
def iM:WS:=wExpr (bL 6 (bU (wB mI (zl (gF 7 1 (bD (cA `m (cA (zk 6) (mK eX `e)))) (zn 8) (aP eL (nM `u (zk 8)) (zx dQ (nM `u (cA (zk 6) (mK eX `e))) `e)) lK) zm))))
def rJ:=uS iM.eq_1
def uQ:WF:=fQ 2 7 [0,1]
 (zy (zA (zn 2) (kA (zx dQ (wB aU (zl `m zm)) `e) `E))
  (zy (zA `ei (cC (zl (zx dQ (wB aU (zl `m zm)) `e) zm)))
  (zy (dN (aP eQ `V `de) iN)
  (zy (fI (aP cM `z `u) (bT (cI zm)) bC)
  (zy (zA (zn 6) (cC (zl `z zm)))
  (zy (dN (aP eQ (cA (zk 6) (mK eX `e)) (zx dQ (wB aU (zl `m zm)) `e)) iM)
  (bT (wB cJ `bu))))))))
def lH:WB:=bH 7 (iP (aP eL (zk 8) (gX `z (some (cA `bd `E)) (some (cA `bd `e)))))
def rF:=uB lH.eq_1
def lI:WS:=zy (zA (zn 5) (bU (wB iY (zl (gX `u (some (zx dQ `W `e)) (some (zx aV `W `e))) zm))))
  (zy (zA (zn 6) (fe gC (bU (gF 7 1 (bD `m) (zn 8) cO lH)) (zl (wC `bt) zm)))
  (wExpr (bL 3 (cI (zl (cA (cC (zl (wC (.str [98,97,99,107])) (zl (wC (.str [111,110])) zm))) (wB jL (zl (iP (aP cx (cA `u (zx dQ `W `e)) (cA `u `W))) zm))) `bu)))))
def rG:=uS lI.eq_1
def uO:WF:=fQ 3 7 [0,1,2]
 (zy (zA `ei `de)
  (zy (dF (fY `e (wB aU (zl `u zm))) (zn 4) lI)
  (bT (wB cJ (zl `V zm)))))
def lD:WB:=bH 5 (zk 8)
def pZ:=uB lD.eq_1
def lE:WS:=zA `ei (bU (wB cY (zl (wB kN (zl (gF 5 3 (bD (cA `m `e)) (eK [zn 6,zn 7,zn 8]) (fL (aP eL (zk 7) `W) (aP fF (zk 6) `V)) lD) zm)) zm)))
def rA:=uS lE.eq_1
def pO:WF:=fQ 3 5 [0,1,2]
 (zy (zA `ei (bU (cC (zl `u zm))))
  (zy (dF (bD `z) (zn 4) lE)
  (bT `V)))
def jY:WB:=oY 3 (cI (zl `W `bu))
def vH:=uB jY.eq_1
def jX:WB:=mP (bD (lS `u `bd `de)) (zn 6) cO jY
def vG:=uB jX.eq_1
def ig:WF:=fQ 2 3 [0,1]
 (zy (zA (zn 2) (bU (zz fc [true] (zl `z zm))))
  (bT (wB cJ (zl (wB cY (zl (zU (.set []) 3 3 (bD `m) (eK [zn 4,zn 5]) cO jX) zm)) zm))))
def nH:WB:=oW 6 (zk 7) (wC `bt)
def vF:=uB nH.eq_1
def jW:WB:=bH 9 (iP (aP fF (cI (zl (zk 7) (zl (zk 10) zm))) `V))
def vE:=uB jW.eq_1
def nG:WB:=bH 6 (cI (zl (zk 7) (zl (zk 8) zm)))
def nQ:=uB nG.eq_1
def nF:WB:=mP (bD `bd) (zn 8) (jB (wB oX (zl (gF 9 1 (bD (lS `W (zk 8) `de)) (zn 10) cO jW) zm))) nG
def vD:=uB nF.eq_1
def ie:WF:=fQ 3 6 [0,1,2]
 (zy (zA `ei (bU (zU (.dct true [] []) 6 1 (bD `z) (zn 7) cO nH)))
  (zy (zA (zn 4) (bU (zz fc [true] (zl `u zm))))
  (zy (zA (zn 5) (bU (jZ (aR `m))))
  (bT (wB cJ (zl (gF 6 2 (bD `bd) (zn 7) cO nF) zm))))))
def jV:WB:=bH 3 (bU (fH 2 (zz eA [true,true] (zl `m (zl (wB aU (zl `u zm)) zm)))))
def uZ:=uB jV.eq_1
def ib:WF:=fQ 2 3 [0,1]
 (zy (zA (zn 2) (wB iZ (zl (wC (.str [97,98,99,100,101,102,103,104,105,106,107,108,109,110,111,112,113,114,115,116,117,118,119,120,121,122])) zm)))
  (bT (uV gO (wC (.str [])) (zl (wB cY (zl (gF 3 1 (aR `z) (zn 4) cO jV) zm)) zm))))
def jU:WB:=bH 4 (cA `z (zz eA [true,true] (zl `m (zl (wB aU (zl `z zm)) zm))))
def uY:=uB jU.eq_1
def ia:WF:=fQ 3 4 [0,1,2]
 (zy (zA `ei (zx cQ (zz eA [true,true] (zl `m (zl (zx aV `u `e) zm))) (wB jL (zl (iP (aP eQ `z (wC (.str [])))) zm))))
  (bT (uV gO (wC (.str [])) (zl (gF 4 1 (aR `V) (zn 5) cO jU) zm))))
def gz:WF:=fQ 3 7 [0,1,2]
 (zy (zA `ei (cA `u (zz eA [true,true] (zl `m (zl (wB aU (zl `u zm)) zm)))))
  (zy (zA (zn 4) (zz eA [true,true] (zl `m (zl (wC (.int 5)) zm))))
  (zy (zA (zn 5) (cA `z (zz eA [true,true] (zl `m (zl (wB aU (zl `z zm)) zm)))))
  (zy (zA (zn 6) (zz eA [true,true] (zl `m (zl (wB aU (zl `V zm)) zm))))
  (bT (cA (cC (zl (gX `V none (some (zx aV (zk 6) `e))) (zl (gX `V (some (zk 6)) none) (zl (zx aV `bd `V) (zl (zx aV `V `bd) (zl (zx aV `V `V) zm)))))) `W))))))
def iO:WB:=bH 11 (zk 12)
def lV:=uB iO.eq_1
def lQ:WS:=zy (zA (zn 7) (bU (zz uT [true,true,true,true] (zl `z (zl `W (zl `bd (zl `V zm)))))))
  (zy (fI (aP mY (zk 6) (wC (.int 4))) (zT 7 (zA (zn 7) (gF 11 1 (bD (zk 7)) (zn 12) (aP mY (cA (zk 12) `e) `bd) iO))) bC)
  (fI (aP eQ (zk 7) `de) (zy (zA (eK [zn 8,zn 9]) (cA (zk 7) (zz eA [true,true] (zl `m (zl (wB aU (zl (zk 7) zm)) zm)))))
  (zy (fI (aP mY (zk 9) `bd) (zA (zn 4) (zx aV (zx aV (gX `W none (some `bd)) (zk 8)) (gX `W (some (zk 9)) none))) bC)
  (zA (zn 5) (zk 9)))) bC))
def rP:=uS lQ.eq_1
def uR:WF:=fQ 4 11 [0,1,2,3]
 (zy (zA (eK [zn 4,zn 5]) (cI (zl (wC (.str [])) (zl `E zm))))
  (zy (dF (aR (zx aV `e (zz eA [true,true] (zl `m (zl (wC (.int 9)) zm))))) (zn 6) lQ)
  (zy (fI (fL (aP eQ `W (wC (.str []))) (aP eL (zz eA [true,true] (zl `m (zl (wC (.int 5)) zm))) `E)) (zy (zA (zn 10) (zz eA [true,true] (zl `m (zl (wB aU (zl `W zm)) zm))))
  (zA (zn 4) (zx aV (zx aV (gX `W none (some (zk 10))) (cA `u (zz eA [true,true] (zl `m (zl (wB aU (zl `u zm)) zm))))) (gX `W (some (zx aV (zk 10) `e)) none)))) bC)
  (bT `W))))
def iL:WS:=fI (aP eQ (cA `z (cA `u (mK eX `e))) `de) (zA (zn 2) (zx aV `u (cI (zl (cA (cA `z (cA `u (mK eX `e))) (zz eA [true,true] (zl `m (zl (wB aU (zl (cA `z (cA `u (mK eX `e))) zm)) zm)))) zm)))) bC
def fj:=uS iL.eq_1
def pP:WF:=fQ 2 5 [0,1]
 (zy (zA (zn 2) (cI (zl `E zm)))
  (zy (dF (aR (zz eA [true,true] (zl `m (zl (wC (.int 9)) zm)))) `ei iL)
  (zy (zA (zn 4) (bU (zz uQ [true,true] (zl `z (zl (cA `u (mK eX `e)) zm)))))
  (zy (fI (aP eL `W (cI zm)) (bT (cI zm)) bC)
  (bT (zx aV `u (gX `W (some `e) none)))))))
def iK:WS:=zy (zA (zn 10) (zz eA [true,true] (zl `m (zl `bd zm))))
  (zy (wExpr (bL 6 (cI (zl (zk 8) (zl (zk 9) (zl (zk 10) zm))))))
  (zA (zn 8) (zk 10)))
def rE:=uS iK.eq_1
def lG:WS:=zy (zA (zn 8) (zz eA [true,true] (zl `m (zl `bd zm))))
  (dF (bD `u) (zn 9) iK)
def rD:=uS lG.eq_1
def lF:WS:=zy (pQ 8 10 (zl (zz eA [true,true] (zl `m (zl `bd zm))) (zl (zz eA [true,true] (zl `m (zl `bd zm))) zm)))
  (wExpr (bL 6 (cI (zl (zk 8) (zl (cA `z (zz eA [true,true] (zl `m (zl (wB aU (zl `z zm)) zm)))) (zl (zk 10) zm))))))
def rC:=uS lF.eq_1
def iJ:WS:=wExpr (fH 6 (zz eA [true,true] (zl `m (zl (wB aU `bu) zm))))
def rB:=uS iJ.eq_1
def uN:WF:=fQ 5 12 [0,1,2,3,4]
 (zy (zA (zn 5) (zx aV `e (zz eA [true,true] (zl `m (zl `V zm)))))
  (zy (zA (zn 6) `de)
  (zy (dF (aR (zz eA [true,true] (zl `m (zl (wC (.int 4)) zm)))) (zn 7) lG)
  (zy (dF (aR (zx cQ (zz eA [true,true] (zl `m (zl (zx aV `W `e) zm))) (wB jL (zl (iP (aP eQ `z (wC (.str [])))) zm)))) (zn 11) lF)
  (zy (dN (aP mY (wB jK (zl (wB kN `bu) zm)) `W) iJ)
  (bT (cI (zl `bd (zl (wB cJ (zl (wB cY (zl (wB kN `bu) zm)) zm)) zm)))))))))
def lB:WB:=bH 4 (cI (zl `V (zl `bd zm)))
def pX:=uB lB.eq_1
def lC:WS:=wExpr (fZ 2 (gF 4 1 (bD (zz pO [true,true,true] (zl `m (zl `z (zl `V zm))))) (zn 5) cO lB))
def pY:=uS lC.eq_1
def nJ:WF:=fQ 2 4 [0,1]
 (zy (zA (zn 2) `de)
  (zy (dF (aR (cA `m `E)) `ei lC)
  (bT (wB cJ (zl `u zm)))))
def nC:WB:=bH 6 (cI (zl (zk 7) (zl (zk 7) zm)))
def vB:=uB nC.eq_1
def nE:WS:=fI (aP eL `W (wC (.str [111,110]))) (zA `ei (bU (zz ig [true,true] (zl `V (zl (cA `z `bd) zm))))) (zA `ei (bU (zz ie [true,true,true] (zl `m (zl `V (zl (cA `z `bd) zm))))))
def nP:=uS nE.eq_1
def ic:WF:=fQ 3 6 [0,1,2]
 (zy (zA `ei (wB cJ (zl (gF 6 1 (aR `m) (zn 7) cO nC) zm)))
  (zy (dF (bD `u) (eK [zn 4,zn 5]) nE)
  (bT `V)))
def nB:WS:=zy (zA (zn 6) (zx aV (cA `z (zz eA [true,true] (zl `m (zl (wB aU (zl `z zm)) zm)))) (zz ia [true,true,true] (zl `m (zl `z (zl (zx dQ `V `e) zm))))))
  (zy (fI (fL (aP eQ `W `de) (aP eL (zz eA [true,true] (zl `m (zl (wC (.int 2)) zm))) `E)) (zA (zn 6) (gX (zz gz [true,true,true] (zl `m (zl `z (zl `W zm)))) none (some `V))) bC)
  (fI (aP cM (zk 6) `W) (wExpr (bL 4 (zk 6))) bC))
def uX:=uS nB.eq_1
def gy:WF:=fQ 4 7 [0,1,2,3]
 (zy (zA (zn 4) `de)
  (zy (dF (aR (zx cQ (zz eA [true,true] (zl `m (zl (zx aV `u `e) zm))) (wB jL (zl (iP (aP eQ `z (wC (.str [])))) zm)))) (zn 5) nB)
  (bT (wB cJ (zl `W zm)))))
def kZ:WB:=bH 8 (zk 9)
def fh:=uB kZ.eq_1
def kY:WB:=bH 8 (bU (zz pO [true,true,true] (zl `m (zl (gX `z (some `u) none) (zl (zk 9) zm)))))
def pV:=uB kY.eq_1
def kX:WB:=bH 8 (zk 9)
def fg:=uB kX.eq_1
def lA:WS:=fI (aP eQ (gF 8 1 (bD (cA `bd (zk 7))) (zn 9) (aP cM (cI (zl (zk 6) (zl (zk 9) zm))) `V) kX) `de) (bT (wC (.bl false))) bC
def pW:=uS lA.eq_1
def uM:WF:=fQ 5 8 [0,1,2,3,4]
 (zy (fI (aP eQ (gF 8 1 (bD (zz nJ [true,true] (zl `m (zl (gX `z none (some `u)) zm)))) (zn 9) (aP cM (zk 9) `W) kZ) `de) (bT (wC (.bl false))) bC)
  (zy (zT 5 (zA (zn 5) (gF 8 1 (aR (cA `m `E)) (zn 9) cO kY)))
  (zy (dF (bD `W) (eK [zn 6,zn 7]) lA)
  (bT (wC `bt)))))
def lJ:WB:=bH 5 (cA `u (zz eA [true,true] (zl `m (zl (wB aU (zl `u zm)) zm))))
def rH:=uB lJ.eq_1
def uP:WF:=fQ 1 5 [0]
 (zy (zA (zn 1) (zz ib [true,true] (zl `m (zl (zx aV `e (zz eA [true,true] (zl `m (zl (wC (.int 3)) zm)))) zm))))
  (zy (zA (zn 2) (bU (zz gy [true,true,true,true] (zl `m (zl `z (zl (wC (.int 6)) (zl (wC (.int 6)) zm)))))))
  (zy (zA `ei (bU (zz uR [true,true,true,true] (zl `m (zl `u (zl `z (zl (wC (.int 12)) zm)))))))
  (zy (zA (zn 4) (bU (zz pP [true,true] (zl `m (zl (bU (zz nK [true,true] (zl `u (zl `V zm)))) zm)))))
  (zy (fI (aP eL `W (cI zm)) (zy (zA `ei (uV gO (wC (.str [])) (zl (gF 5 1 (aR (zx aV `e (zz eA [true,true] (zl `m (zl (wC (.int 2)) zm))))) (zn 6) cO lJ) zm)))
  (zA (zn 4) (bU (zz pP [true,true] (zl `m (zl (bU (zz nK [true,true] (zl `u (zl `V zm)))) zm)))))) bC)
  (bT (cI (zl `z (zl `u (zl `V (zl `W zm)))))))))))
def kU:WB:=bH 12 (bU (zz nJ [true,true] (zl (zk 7) (zl (zk 13) zm))))
def pT:=uB kU.eq_1
def kT:WB:=bH 12 (zz eA [true,true] (zl (zk 6) (zl (wB aU (zl `W zm)) zm)))
def pS:=uB kT.eq_1
def kW:WS:=zy (zA (zn 11) (bU (zz ic [true,true,true] (zl (cA (zk 7) `E) (zl (zk 9) (zl (gX `bd none (some (zk 10))) zm))))))
  (fI (uL (kS (jB (uW "tuple" (zk 11)))) (kS (jB (zz uM [true,true,true,true,true] (zl (zk 7) (zl `V (zl (cA `W (zk 10)) (zl (zk 8) (zl (zk 11) zm))))))))) (bT (wC (.bl false))) bC)
def pU:=uS kW.eq_1
def nI:WF:=fQ 1 12 [0]
 (zy (zA (eK [zn 1,zn 2,zn 3,zn 4]) (zz uP [true] (zl (zz eh [true,true] (zl `m (zl `E zm))) zm)))
  (zy (zA (zn 5) (bU (zz uO [true,true,true] (zl `u (zl `V (zl `W zm))))))
  (zy (zA (zn 6) (zz eh [true,true] (zl `m (zl `e zm))))
  (zy (zA (zn 7) (bU (zz uN [true,true,true,true,true] (zl (zk 6) (zl `z (zl `V (zl (wC (.int 8)) (zl (wC (.int 24)) zm))))))))
  (zy (zA (zn 8) (bU (zz nJ [true,true] (zl (zk 7) (zl `V zm)))))
  (zy (zA (zn 9) (wB cJ (zl (gF 12 1 (bD `u) (zn 13) cO kU) zm)))
  (zy (dF (bD (zx aV (gF 12 1 (aR (wC (.int 4))) (zn 13) cO kT) (cC (zl `K zm)))) (zn 10) kW)
  (bT (wC `bt)))))))))
end Law
end
end
namespace Law
open FL
variable{P:S->List S->Prop}{PX:D->List S->Prop}
set_option hygiene false in
local macro_rules
 |`(tactic|simp! [$xs,*] $[$l:location]?)=>do
  let ls<-("e_C e_V zrj zmX zm5 e_Un zpV zqg e_Ck zq4 zoG zmE znm zk7 zkY zrP znt znh e_Or zqF zpM zoc zqK znJ zpR zom zlB zlG zrF e_gA zr8 zpI e_gv e_gl zsa zrm zm0 znv zpB znW zon e_l0 e_l1 e_l2 e_l3 e_l4 e_l5 e_vv e_vl e_cv e_cl zoe e_sh zav zrl e_Ix zrt zqV zoJ zmm zpF zpT zpN zpj zrI zrW zrC zqh zp5 zr4 zpZ e_p0 e_pv e_pl zrS e_pA e_b0 e_bv e_bl zoH zlZ zla zm4 zo4 e_vA zqM e_B e_B1 e_B2 e_MS zqQ zrK e_Ap zqc zqX zq0 zrN zpQ zoj zny zr7 zmn zlH e_Xt zqo zql zoY zmr e_Di zo8 zpa zpw znO zpt e_Pt zr9 zqW e_Sl zr1 zrH zp1 zrL e_nx e_rt e_ex znS zpz e_If zqY zrp zpm znr zlr zqH zm6 znx zqE znR znF zmQ e_gN e_gT zpe zqB zpU zpC zrT zoq zmt znQ znj zmi zl3 e_Dp zqC zoV zq5 zrD zra e_It zr5 zqs zpf zo3 zrb zqI e_R1 zri zqL e_R2 zqZ zqu zq7 zrJ zmz zq8 zrr zpn e_LC zq2 zqr zmP zq9 zpS zms zqy e_Em zps zqD zrg e_bF zr3 zo0 zqS e_Rt zpr zp3 e_Fn e_f0 e_fs e_fl e_fA zqd znK zod znZ zqq zmS zph zm2 zp8 zoZ e_lt e_gt e_le e_ge zoE zoX znT zr2 zr6 zmq zn1 zmG zmk zmL zoD zqN zp6 zqf zqU zqG zpv zrv zrn zp9 zrd zpO zre zqk zrx zpE zrR zr0 zrw zpG zpu zrz zqv zqb zqO zrV zrs zrU zo2 zqT zoW zo1 zrQ zrM zpx zqR zrY zp2 zpK zmB zmV znL zmA zox znb zmM znd zoI zng zm3 zoC zmD znX zns zmR zol zqJ zrc zo9 zog e_AA zqp zqw zpp zrA zqx zqz zou zm9 zrZ znU znN e_Ge zpd zrq zqA zqi zpD zmZ znk zo5 e_XA zry zqa zpb zqn zgG e_LI zq6 zoF e_CM zpP e_Pu zp7 zo6 zpl zqm e_Ad zpW zqt zpL zoO znD zmu zmp zrB e_SA zpA zpH zpq zpY zrG e_ML zpk zrh zfB map_some S.toD_sh S.toD_lst qz map_nil qO nil_append List.replicate_succ List.replicate_zero Nat.reduceSub Nat.reduceAdd qA List.take_succ_cons List.take_zero true_and S.toDs_map S.toD_dct Int.reduceEq Int.reduceLT Int.reduceLE decide_true decide_false Bool.not_true Bool.not_false".splitOn " ").toArray.mapM λn=>`(Lean.Parser.Tactic.simpLemma|$(Lean.mkIdent n.toName):ident)
  let ls:=ls++xs.getElems
  `(tactic|simp -implicitDefEqProofs (disch:=first|omega|decide|rfl|(simp only[qo,qq,qt,qw,qD,bW];omega)|(simp only[qo,qq,qt,qw,qD,bW];done)) only[$ls,*] $[$l:location]?)
local macro_rules|`(tactic|lia)=>`(tactic|lia -verbose)
noncomputable section pu
def aJ(a s:Int):S:=.lst [.sh (.int a),.sh (.int s)]
def AW{a s m:Int}(B:0<=a)(hs:1<=s)(v:s<=2147483629)(z:0<m)(G:m<18446744073709551616)
  (h:∀r F s',0<=r->r<m->0<=F->1<=s'->s'<=2147483629->P (.sh (.int r)) [aJ F s',.sh (.int m)]):eA [aJ a s,.sh (.int m)] P PX:=by
 show BG rfl rfl ?_;simp! [aJ];cases J:decide (0<a)
 .simp! [e_C];show h _ _ _ (Int.emod_nonneg _ ∅) (Int.emod_lt_of_pos _ z) B ∅ ∅
 .simp! [e_C];show h _ _ _ (Int.emod_nonneg _ ∅) (Int.emod_lt_of_pos _ z) (Int.ediv_nonneg B ∅) hs v
def TJ{T:Env->Prop}{E:Ends}{ns:List Int}{k:Int}(F:0<=k)(h:∀c,T [some (.sh `aq),some (.sh (.int k)),some (.sh (.int c)),none]):bu (zA (zn 2) (cA `m `z)) (fI (aP mY (wB aU (zl `m zm)) `E) (zA (zn 2) (zx aV `u (zx cQ (zx eY (cA `m (zx eY `z (wB aU (zl `m zm)))) `bx) (wC (.int 69623))))) bC) (uU E T) (decide (k<ns.length)) [some (.sh `aq),some (.sh (.int k)),some (.sh (.int (7919*k+11))),none]:=by
 by_cases h1:k<ns.length
 .obtain⟨v,_,_,e⟩:=GH (f:=D.int) F h1;simp! [h1,decide_true,e];show h _
 .by_cases h2:0<ns.length
  .let B:(0:Int)<ns.length:=by lia
   let#[v,_,_,e]:=GH (f:=D.int) (l:=ns) (z:=k %ns.length) (Int.emod_nonneg _ ∅) (Int.emod_lt_of_pos _ B);simp! [length_map,h1,B,decide_true,decide_false,e];show h _
  .let B:¬(0:Int)<ns.length:=by lia
   simp! [length_map,h1,B,decide_false];show h _
def NG{ns:List Int}{k:Int}(z:0<=k)
  (h:∀a s,0<=a->1<=s->s<=2147483629->P `br [.sh `aq,.sh (.int k)]):eh [.sh `aq,.sh (.int k)] P PX:=by
 show BG rfl rfl ?_;simp! [length_map];show TJ z λv=>?_;simp! [e_C];cases B:decide ((10:Int)^(18:Int).toNat<=v)
 .simp! [if_true,false_eq_true,if_false];show h _ _ ⋯ ∅ ∅
 .simp! [if_true];let:(0:Int)<=v:=by
   let:=qU B;let e:(10:Int)^(18:Int).toNat=1000000000000000000:=⋯
   lia
  show h _ _ this ∅ ∅
def Uc{l:List D}(h:(dB l).isSome=true)(v:l.length<64):cF l=some (.lst ((cE l).map .sh)):=by unfold cF;rw[q4 (.inl #[v,.inr h])]
def Tz{A:List Nat}(h:A.length<64):∃v:List Nat,v.Perm A/\v.Pairwise (·<=·)/\cF (A.map sg)=some (.lst ((v.map sg).map .sh)):=by
 let e:A.map sg=(A.map λc=>[c]).map D.str:=by rw[qE];rfl
 let#[v,F,B]:=RM (EG (A.map sg));show#[v,F,?_,?_]
 .let z:=Hz JB (A.map sg) (by rw[e];show Ny _);rw[B,pairwise_map]at z;show z.imp λ{a b} h=>?_;let h':(!decide (([b]:List Nat)<[a]))=true:=by rw[<-MY];exact h
  let h2:¬([b]:List Nat)<[a]:=↑h'
  rw[PJ]at h2;lia
 .rw[Uc (by rw[Mf];rfl) ↑h,B]
def letters:List Nat:=[97,98,99,100,101,102,103,104,105,106,107,108,109,110,111,112,113,114,115,116,117,118,119,120,121,122]
def Uk{Q:Env->Prop}{E:WX}{m:Int}:∀(xs:List D)(a s:Int)(L A:List Nat)(o:Option S),xs.length<=L.length->0<=a->1<=s->s<=2147483629->(A++L).Perm letters->
  (∀O s'(Y M:List Nat) o',0<=O->1<=s'->s'<=2147483629->M.length=A.length+xs.length->(M++Y).Perm letters->Q [some (aJ O s'),some (.sh (.int m)),some (.lst ((Y.map sg).map .sh)),some (.lst ((M.map sg).map .sh)),o'])->
  aN (zn 4) cO jV xs [some `br,some (.sh (.int m)),some (.lst ((L.map sg).map .sh)),some (.lst ((A.map sg).map .sh)),o] Q E:=by
 intro xs;induction xs with
 |nil=>intro a s L A o h1 ha hs z v h;show h a s L A o ha hs z (by simp) v
 |cons x xs ih=>
  intro a s L A o h1 ha hs z v h;let J:=v.length_eq;let h6:letters.length=26:=rfl;simp only[qt,qq]at h1 h J;rw[cq];simp! [uZ,e_sh,zav,aJ,length_map];show AW ha hs z ?_ ?_ λr O s' hr h3 h5 h2 G=>?_
  .lia
  .lia
  simp! [e_sh,zav,aJ,length_map];let#[c,hc,hg,_]:=GC (l:=L) hr h3;show Jy hr (by simp only[qo,bW];lia) (OE (d:=sg c) (by rw[qF,hg];rfl)) ?_;simp! [e_sh,zav,aJ,length_map];show#[by simp only[bW];lia,?_];let e1:((L.map sg).map S.sh).eraseIdx r.toNat=((L.eraseIdx r.toNat).map sg).map S.sh:=by rw[Hq,Hq]
  let e2:((A.map sg).map S.sh)++[S.sh (sg c)]=(((A++[c]).map sg).map S.sh):=by simp
  rw[e1,e2];let F:r.toNat<L.length:=∅
  let hl:(L.eraseIdx r.toNat).length=L.length-1:=List.length_eraseIdx_of_lt F;let h4:L[r.toNat]=c:=by rw[qh F]at hg;show qf hg
  let B:(A++[c]++L.eraseIdx r.toNat).Perm (A++L):=by rw[qp];show List.Perm.append_left A ?_;let:=OI L r.toNat F;rw[h4]at this;show this
  show ih O s' _ _ _ ∅ h5 h2 G (B.trans v) λa2 s2 Y M o' x1 x2 x3 x4 x5=>h a2 s2 Y M o' x1 x2 x3 (by rw[x4];simp only[qq,qC];lia) x5
def Xd{a s m:Int}(ha:0<=a)(hs:1<=s)(J:s<=2147483629)(hm:0<=m)(h3:m<=26)
  (h:∀(l:List Nat) F s',l.length=m.toNat->l.Pairwise (·<·)->(∀c∈l,97<=c/\c<=122)->0<=F->1<=s'->s'<=2147483629->P `dq [aJ F s',.sh (.int m)]):ib [aJ a s,.sh (.int m)] P PX:=by
 refine BG rfl rfl ?_;simp! [aJ,e_sh,zav];show#[by simp only[bW];lia,?_];let hf:(fromTo 0 m.toNat).length=m.toNat:=DN;let h2:letters.length=26:=rfl;refine Uk (fromTo 0 m.toNat) a s letters [] none (by rw[hf,h2];lia) ha hs J (List.Perm.refl _)
  λF s' L' A' o' h1 L v hA z=>?_
 rw[hf,qw,zero_add]at hA;let O:A'.Nodup:=(qx.mp (z.nodup_iff.mpr ⋯)).1;let Y:∀c∈A',97<=c/\c<=122:=λc hc=>by
  let:c∈letters:=z.mem_iff.mp (qj _ hc);let B:∀c∈letters,97<=c/\c<=122:=⋯
  show B c this
 let#[A2,M,G,e]:=Tz (A:=A') ∅;let hl:A2.length=m.toNat:=M.length_eq.trans hA;simp! [aJ,e_sh,zav,e,Ml (show A2.length<=big by simp only[bW];lia)];show h A2 F s' hl (WK G (M.nodup_iff.mpr O)) (λc hc=>Y c (M.mem_iff.mp hc)) h1 L v
def VI{Q:Env->Prop}{E:WX}{m many:Int}{v:List Nat}(hc:0<v.length)(h4:v.length<=26):∀(xs:List D)(a s:Int)(A:List Nat)(o:Option S),0<=a->1<=s->s<=2147483629->A.length+xs.length<=1000->
  (∀J s'(G:List Nat) o',0<=J->1<=s'->s'<=2147483629->G.length=A.length+xs.length->(∀z∈G,z∈A\/z∈v)->Q [some (aJ J s'),some (.sh (.str v)),some (.sh (.int m)),some `ah,some (.lst ((G.map sg).map .sh)),o'])->
  aN (zn 5) cO jU xs [some `br,some (.sh (.str v)),some (.sh (.int m)),some `ah,some (.lst ((A.map sg).map .sh)),o] Q E:=by
 intro xs;induction xs with
 |nil=>intro a s A o ha O B h3 h;show h a s A o ha O B (by simp) λz L=>.inl L
 |cons x xs ih=>
  intro a s A o ha O B h3 h;simp only[qt]at h3 h;rw[cq];simp! [uY,e_sh,zav,aJ,length_map];show AW ha O B ∅ ∅ λr J s' hr Y h2 M F=>?_;let#[c,h1,_,e]:=GC (l:=v) hr Y;simp! [e,e_sh,zav,aJ,length_map];show#[by simp only[bW];lia,?_];let e2:((A.map sg).map S.sh)++[S.sh (.str [c])]=(((A++[c]).map sg).map S.sh):=by simp[sg]
  rw[e2];show ih J s' _ _ h2 M F (by simp only[qq,qC];lia) λa2 s2 G o' x1 x2 x3 x4 x5=>h a2 s2 G o' x1 x2 x3 (by rw[x4];simp only[qq,qC];lia) λz L=>?_;rcases x5 z L with q|q
  .rcases qy.mp q with q|q
   .show .inl q
   .rw[qv.mp q];show .inr h1
  .show .inr q
def Vj{a s m:Int}{v:List Nat}(ha:0<=a)(hs:1<=s)(J:s<=2147483629)(hm:0<=m)(h4:m<=900)(hc:0<v.length)(Y:v.length<=26)
  (h:∀(l:List Nat) G s',l.length<=m.toNat->(∀z∈l,z∈v)->0<=G->1<=s'->s'<=2147483629->P `dq [aJ G s',.sh (.str v),.sh (.int m)]):ia [aJ a s,.sh (.str v),.sh (.int m)] P PX:=by
 show BG rfl rfl ?_;simp! [aJ,e_sh,zav];show AW ha hs J ∅ ∅ λr a1 s1 hr h3 h1 L B=>?_;let O:(decide (v=[]))=false:=by simp;intro z;rw[z]at hc;simp at hc
 simp! [aJ,e_sh,zav,O,Bool.not_false,if_true,mul_one];show#[by simp only[bW];lia,?_];let hf:(fromTo 0 r.toNat).length=r.toNat:=DN;show VI (A:=[]) hc Y _ a1 s1 none h1 L B (by rw[hf];simp only[qw];lia) λG s' A' o' h2 M F hA hg=>?_;rw[hf,qw,zero_add]at hA;simp! [aJ,e_sh,zav];rw[Ml (by simp only[bW];lia)];simp! [aJ,e_sh,zav];show h A' G s' ∅ (λz hz=>(hg z hz).resolve_left (by simp)) h2 M F
def UO{a s:Int}{F:List Nat}{B:List Wd}(ha:0<=a)(hs:1<=s)(O:s<=2147483629)(hc:0<F.length)(hq:F.length<=26)(hB:0<B.length)(r1:B.length<=1000)(hw:∀w∈B,w≠[]/\w.length<=1000/\∀c∈w,c∈F)
  (h:∀(w:Wd) a' s',w≠[]->w.length<=2000->(∀c∈w,c∈F)->0<=a'->1<=s'->s'<=2147483629->P (.sh `Z) [aJ a' s',.sh (.str F),.lst ((B.map D.str).map .sh)]):gz [aJ a s,.sh (.str F),.lst ((B.map D.str).map .sh)] P PX:=by
 show BG rfl rfl ?_;simp! [aJ,e_sh,zav,length_map];show AW ha hs O ∅ ∅ λr a1 s1 hr e1 hp h8 h3=>?_;let#[w,h6,_,e]:=GH (f:=λz=>S.sh (D.str z)) (l:=B) hr e1;let e':atI ((B.map D.str).map S.sh) r=some (S.sh `Z):=by rw[qE];show e
 let#[Y,hb,J]:=hw w h6;let hi:0<w.length:=qP.mpr Y;simp! [aJ,e'];show AW hp h8 h3 ⋯ ⋯ λkd a2 s2 hm hd hk O h2=>?_;simp! [aJ];show AW hk O h2 ∅ ∅ λr3 a3 s3 h9 h4 e4 h7 h1=>?_;let#[c,h5,_,ec]:=GC (l:=F) h9 h4;simp! [aJ,ec];show AW e4 h7 h1 ∅ ∅ λp a4 s4 e2 hl M L v=>?_;simp! [aJ];rw[Iv w ∅ ∅,IX w e2];let e3:kd=0\/kd=1\/kd=2\/kd=3\/kd=4:=∅
 rcases e3 with rfl|rfl|rfl|rfl|rfl
 .simp! [aJ];refine h _ _ _ ?_ ?_ (λc hc=>J c (mem_of_mem_take hc)) M L v
  .intro z;let:=congrArg List.length z;rw[qH,qw]at this;lia
  .rw[qH];lia
 .simp! [aJ];refine h _ _ _ ?_ ?_ (λc hc=>J c (List.mem_of_mem_drop hc)) M L v
  .intro z;let:=congrArg List.length z;rw[qG,qw]at this;lia
  .rw[qG];lia
 .simp! [aJ];show h _ _ _ (by simp) (by simp;lia -verbose) (λx G=>?_) M L v;rcases qB.mp G with rfl|G
  .show h5
  .show J x G
 .simp! [aJ];show h _ _ _ (by simp) (by simp;lia -verbose) (λx G=>?_) M L v;rcases qy.mp G with G|G
  .show J x G
  .rw[qv.mp G];show h5
 .simp! [aJ];show h _ _ _ (by simp[Y]) (by simp;lia -verbose) (λx G=>?_) M L v;rcases qy.mp G with G|G<;>show J x G
def oT(z:List Nat)(many v:Nat)(B:List Wd):Prop:=B.length<=many/\B.Nodup/\∀w∈B,w≠[]/\w.length<=v/\∀c∈w,c∈z
def zw(B:List Wd):D:=.tup (B.map D.str)
def Wc{a s many v:Int}{G:List Nat}(Y:0<=a)(hs:1<=s)(J:s<=2147483629)(hc:0<G.length)(e2:G.length<=26)(hm:0<=many)(hm2:many<=500)(ho:1<=v)(ho2:v<=500)
  (h:∀(B:List Wd) a' s',oT G many.toNat v.toNat B->0<=a'->1<=s'->s'<=2147483629->P `cu [aJ a' s',.sh (.str G),.sh (.int many),.sh `cg]):gy [aJ a s,.sh (.str G),.sh (.int many),.sh `cg] P PX:=by
 show BG rfl rfl ?_;simp! [aJ];show AW Y hs J ∅ ∅ λr a1 s1 hr hr2 ha1 hd h8=>?_;let r1:(decide (G=[]))=false:=by simp;intro z;rw[z]at hc;simp at hc
 simp! [aJ,r1,if_true,mul_one];show#[by simp only[bW];lia,?_];show KU (λk U=>∃(a s:Int)(B:List Wd)(o5 o6:Option S),0<=a/\1<=s/\s<=2147483629/\oT G k v.toNat B/\U=[some `br,some (.sh (.str G)),some `ah,some (.sh `cg),some (.lst ((B.map D.str).map .sh)),o5,o6]) _ (λk x hk D2 U hI e1 hct hrt hbk=>?_) (λU hI=>?_) #[a1,s1,[],none,none,ha1,hd,h8,#[by simp,by simp,by simp],rfl]
 .obtain⟨a,s,B,o5,o6,Y,hs,J,hB,rfl⟩:=hI;let k1:=(qg.mp hk).1;rw[DN]at k1;let#[hB1,hp,L]:=hB;simp! [aJ,uX];show AW Y hs J ∅ ∅ λr3 a2 s2 hq h9 ha2 J h7=>?_;let#[c,k2,_,ec]:=GC (l:=G) hq h9;simp! [aJ,ec];refine Vj ha2 J h7 ∅ ∅ hc e2 λw a3 s3 hw1 hi e4 h5 O=>?_
  --what is done with a word
  have put:∀(w:Wd)(a s:Int),0<=a->1<=s->s<=2147483629->w≠[]->w.length<=v.toNat->(∀c∈w,c∈G)->
    (fI (aP cM (zk 6) `W) (wExpr (bL 4 (zk 6))) bC) D2 [some `br,some (.sh (.str G)),some `ah,some (.sh `cg),some (.lst ((B.map D.str).map .sh)),some (.sh x),some (.sh `Z)]:=λw a s Y hs J h1 h2 h3=>by
   simp! [aJ,zav,Su];cases q:decide (w∈B)
   .simp! [length_map];rw[show((B.map D.str).map S.sh)++[S.sh `Z]=((B++[w]).map D.str).map S.sh by simp];refine#[by simp only[bW];lia,e1 _ #[a,s,_,_,_,Y,hs,J,#[by simp only[qq,qC];lia,?_,λx hx=>?_],rfl]]
    .show qx.mpr #[hp,by simp,λx hx y hy e=>?_];rw[qv.mp hy]at e;subst e;let:=of_decide_eq_false q;show this hx
    .rcases qy.mp hx with z|z
     .show L x z
     .rw[qv.mp z];show#[h1,h2,h3]
   .simp! [e_C];show e1 _ #[a,s,B,_,_,Y,hs,J,#[∅,hp,L],rfl]
  have F:([c]++w)≠[]/\([c]++w).length<=v.toNat/\∀x∈[c]++w,x∈G:=by
   show#[by simp,by simp;lia,λx hx=>?_];rcases qy.mp hx with z|z
   .rw[qv.mp z];show k2
   .show hi x z
  simp! [aJ,zav,Tq,length_cons,length_nil];cases q:decide (B=[])
  .simp! [aJ];show AW e4 h5 O ⋯ ⋯ λr4 a4 s4 hr4 hr42 e3 h4 M=>?_;simp! [aJ];cases q2:decide (r4=0)
   .simp! [e_C];let:=put _ a4 s4 e3 h4 M F.1 F.2.1 F.2.2;simp! [aJ]at this;show this
   .simp! [aJ];show UO e3 h4 M hc e2 (qP.mpr (of_decide_eq_false q)) ∅ (λw hw=>#[(L w hw).1,by let:=(L w hw).2.1;lia,(L w hw).2.2]) λw2 a5 s5 hn hl r2 k3 hb h6=>?_;simp! [aJ];let hw2l:0<w2.length:=qP.mpr hn;let:=put (bB w2 none `I) a5 s5 k3 hb h6 (λz=>?_) ?_ λc hc=>r2 c (Hy hc)
    .simp! [aJ]at this;show this
    .let z2:=congrArg List.length z;unfold bB sIx at z2;let:¬v<0:=by lia
     simp only[q5 this,drop_zero,sub_zero,qH,qw]at z2;lia
    .unfold bB sIx;let:¬v<0:=by lia
     simp only[q5 this,drop_zero,sub_zero,qH];lia
  .simp! [e_C];let:=put _ a3 s3 e4 h5 O F.1 F.2.1 F.2.2;simp! [aJ]at this;show this
 .obtain⟨a,s,B,o5,o6,Y,hs,J,hB,rfl⟩:=hI;rw[DN]at hB;simp! [aJ,zav];show h B a s #[by let:=hB.1;lia,hB.2] Y hs J
abbrev Mv:=Wd×Int
def gB(m:Mv):D:=.tup [.str m.1,.int m.2]
def Sd(l:List Mv):bM (l.map gB)<=29:=JR _ λd v=>by let#[m,_,rfl]:=qK.mp v;show 1<=29;decide
def Pv{l:List Mv}:eQ (.lst (l.map gB)) (.lst [])=some (!l.isEmpty):=by rw[JA (Sd l),List.isEmpty_map]
def VR{B:List Wd}{t:Wd}{p v:Int}(hB:B.length<=1000)(ht:t.length<=1000)(hp:0<=p)(h7:p<=v)
  (h:∀ms:List Mv,ms.length<=2000->(∀m∈ms,m.1∈B/\0<=m.2/\m.2<=v/\(m.2=p+m.1.length\/m.2<=p))->P (.lst ((ms.map gB).map .sh)) [.sh (zw B),.sh (.str t),.sh (.int p),.sh `cg]):uT [.sh (zw B),.sh (.str t),.sh (.int p),.sh `cg] P PX:=by
 show BG rfl rfl ?_;simp! [zw];show Dc (λG U=>∃(ms:List Mv)(o:Option S),ms.length<=2*G.length/\(∀m∈ms,m.1∈B/\0<=m.2/\m.2<=v/\(m.2=p+m.1.length\/m.2<=p))/\U=[some `cu,some `dr,some `ds,some (.sh `cg),some (.lst ((ms.map gB).map .sh)),o]) B (λG w h3 D2 U e hI h1 h8 h6 h9=>?_) (λU hI=>?_) #[[],none,by simp,by simp,rfl]
 .obtain⟨ms,o,hl,O,rfl⟩:=hI;let h4:G.length+1<=B.length:=by rw[<-e];simp only[qq,qt];lia
  let Y:w∈B:=by rw[<-e];simp
  have snd:∀ms:List Mv,ms.length<=2*G.length+1->(∀m∈ms,m.1∈B/\0<=m.2/\m.2<=v/\(m.2=p+m.1.length\/m.2<=p))->
    (fI (fL (aP zN `u `K) (aP eL (gX `z (some (zx dQ `u `K)) (some `u)) `bd)) (wExpr (bL 4 (cI (zl `bd (zl (zx dQ `u `K) zm))))) bC) D2 [some `cu,some `dr,some `ds,some (.sh `cg),some (.lst ((ms.map gB).map .sh)),some (.sh `Z)]:=λms hl O=>by
   let J:D2.nx [some `cu,some `dr,some `ds,some (.sh `cg),some (.lst ((ms.map gB).map .sh)),some (.sh `Z)]:=h1 _ #[ms,_,by simp only[qq,qC];lia,O,rfl];simp! [zw];cases q1:decide ((w.length:Int)<=p)
   .simp! [e_C];show J
   let h5:=qU q1;simp! [zw];cases q2:decide (bB t (some (p-(w.length:Int))) (some p)=w)
   .simp! [e_C];show J
   simp! [length_map];rw[show((ms.map gB).map S.sh)++[S.sh (.tup [.str w,.int (p-w.length)])]=((ms++[(w,p-w.length)]).map gB).map S.sh by simp[gB]];show#[by simp only[bW];lia,h1 _ #[_,_,by simp only[qq,qC];lia,λm M=>?_,rfl]];rcases qy.mp M with z|z
   .show O m z
   .rw[qv.mp z];show#[Y,by show 0<=p-w.length;lia,by show p-(w.length:Int)<=v;lia,.inr (by show p-(w.length:Int)<=p;lia)]
  simp! [rQ,zw];let F:=snd ms ∅ O;simp! [zw]at F;cases q1:decide (bB t (some p) (some (p+(w.length:Int)))=bB w none (some ((t.length:Int)-p)))
  .simp! [e_C];show F
  simp! [e_C];cases q2:decide (p+(w.length:Int)<=v)
  .simp! [e_C];show F
  have h2:=qU q2;simp! [length_map];rw[show((ms.map gB).map S.sh)++[S.sh (.tup [.str w,.int (p+w.length)])]=((ms++[(w,p+w.length)]).map gB).map S.sh by simp[gB]];show#[by simp only[bW];lia,?_];let L:=snd (ms++[(w,p+w.length)]) (by simp only[qq,qC];lia) λm M=>by
   rcases qy.mp M with z|z
   .show O m z
   .rw[qv.mp z];show#[Y,by show 0<=p+(w.length:Int);lia,h2,.inl rfl]
  simp! [zw]at L;show L
 .obtain⟨ms,o,hl,O,rfl⟩:=hI;simp! [zw];show h ms ∅ O
def HX{t w:Wd}{p g:Int}(z:0<=p)(v:p<=t.length)(B:g=p+w.length):((bB t none (some p)++w)++bB t (some g) none).length=max g.toNat t.length:=by let#[k,rfl]:=Int.eq_ofNat_of_zero_le z;let F:k<=t.length:=ofNat_le.mp v;rw[<-Int.natCast_add]at B;subst B;rw[Iv t z v,IX t (Int.natCast_nonneg _)];simp only[qq,qH,qG,qW];rw[min_eq_left F,add_comm,Nat.sub_add_eq_max,Nat.max_comm]
def Tt{T:Env->Prop}{E:Ends}{ms:List Mv}{p:Int}{b:Bool}{s0 s1 Y O M L o8 o9 z:Option S}(F:ms.length<=2000)(hT:∀v:List Mv,v.length<=2000->(∀m∈v,m∈ms)->T [s0,s1,Y,O,M,some `ds,L,some (.sh (.lst (v.map gB))),o8,o9,z]):bu (zT 7 (zA (zn 7) (gF 11 1 (bD (zk 7)) (zn 12) (aP mY (cA (zk 12) `e) `bd) iO))) bC (uU E T) b [s0,s1,Y,O,M,some `ds,L,some (.sh (.lst (ms.map gB))),o8,o9,z]:=by
 cases b
 .simp! [e_C];show hT ms F λ_ h=>h
 .simp! [e_C];refine HZ (n:=11) (toD:=gB) ms (λm=>if decide (p<m.2)=true then some (.sh (gB m))else none) (λm B l o K hl J=>?_) λo=>?_
  .cases G:decide (p<m.2)
   .simp! [cN,uI,lV,gB,G];rw[G]at J;let:=J (some (.sh (gB m)));rw[q5 ⋯,toList_none,qA]at this;show this
   .simp! [cN,iI,lV,gB,G];rw[G]at J;show#[by simp only[bW];lia,J _]
  .rw[Jg (λm:Mv=>decide (p<m.2)) (λm=>S.sh (gB m)),show((ms.filter λm:Mv=>decide (p<m.2)).map λm=>S.sh (gB m))=((ms.filter λm:Mv=>decide (p<m.2)).map gB).map S.sh by rw[qE];rfl];simp! [zav];show hT _ (le_trans (length_filter_le _ _) F) λm B=>(mem_filter.mp B).1
def Ve{a s v:Int}{L:List Nat}{B:List Wd}(ha:0<=a)(hs:1<=s)(J:s<=2147483629)(hc:0<L.length)(hc2:L.length<=26)(hm:0<=v)(hm2:v<=500)(hB:B.length<=1000)(hw:∀w∈B,w.length<=1000/\∀c∈w,c∈L)
  (h:∀(t:Wd) a' s',t.length<=v.toNat->(∀c∈t,c∈L)->(B=[]->t=[])->0<=a'->1<=s'->s'<=2147483629->P `dr [aJ a' s',.sh (zw B),.sh (.str L),.sh `cg]):uR [aJ a s,.sh (zw B),.sh (.str L),.sh `cg] P PX:=by
 show BG rfl rfl ?_;simp! [aJ,length_cons,length_nil];show AW ha hs J ⋯ ⋯ λr a1 s1 hr h3 O M F=>?_;simp! [aJ];show#[by simp only[bW];lia,?_];show Dc (toD:=λk:Nat=>D.int (0+(k:Int))) (λhi U=>∃(a s:Int)(t:Wd)(p:Int)(o6 o7 o8 o9 h2:Option S),0<=a/\1<=s/\s<=2147483629/\t.length<=v.toNat/\(∀c∈t,c∈L)/\(B=[]->t=[])/\0<=p/\p<=t.length/\U=[some `br,some `cu,some (.sh (.str L)),some (.sh `cg),some `dr,some `ds,o6,o7,o8,o9,h2]) (List.range _) (λhi k k3 D2 U e hI h5 hct hrt hbk=>?_) (λU hI=>?_) #[a1,s1,[],0,none,none,none,none,none,O,M,F,by simp,by simp,λ_=>rfl,⋯,by simp,rfl]
 .obtain⟨a,s,t,p,o6,o7,o8,o9,h2,ha,hs,J,ht,G,Y,hp,h4,rfl⟩:=hI;simp! [aJ,rP];show VR hB ∅ hp ∅ λms e4 hm=>?_;simp! [aJ,zav];show Tt e4 λms e3 h8=>?_;let hm:=λm h6=>hm m (h8 m h6);let e4:=e3;simp! [aJ,Pv];cases q:ms.isEmpty
  .simp! [aJ,length_map];let h1:0<ms.length:=by
    cases ms with
    |nil=>cases q
    |cons _ _=>simp
   show AW ha hs J ∅ ∅ λr a1 s1 hr h3 O M F=>?_;let#[m,h6,_,em]:=GH (f:=gB) hr h3;let#[h7,hx,hg1,hg2]:=hm m h6;let#[hw1,hl]:=hw m.1 h7;simp! [aJ,em,gB,length_cons,length_nil];cases q2:decide (p<m.2)
   .simp! [e_C];let:=of_decide_eq_false q2;show h5 _ #[a1,s1,t,m.2,_,_,_,_,_,O,M,F,ht,G,Y,hx,∅,rfl]
   .have q2':=qU q2;let r1:m.2=p+m.1.length:=by lia
    let hk:=HX hp h4 r1;let l1:(bB t none (some p)).length<=1000:=le_trans (IC _ _ _) ∅;let l2:(bB t (some m.2) none).length<=1000:=le_trans (IC _ _ _) ∅;simp! [length_append];show h5 _ #[a1,s1,(bB t none (some p)++m.1)++bB t (some m.2) none,m.2,_,_,_,_,_,O,M,F,by rw[hk];lia,λc hc=>?_,(λz=>by rw[z]at h7;cases h7),hx,by rw[hk];lia,rfl];rcases qy.mp hc with z|z
    .rcases qy.mp z with z|z
     .show G c (Hy z)
     .show hl c z
    .show G c (Hy z)
  .simp! [e_C];show h5 _ #[a,s,t,p,_,_,_,_,_,ha,hs,J,ht,G,Y,hp,h4,rfl]
 .obtain⟨a,s,t,p,o6,o7,o8,o9,h2,ha,hs,J,ht,G,Y,hp,h4,rfl⟩:=hI;simp! [aJ];cases q:decide (t=[])
  .have h1:0<t.length:=qP.mpr (of_decide_eq_false q);simp! [aJ];show AW ha hs J ⋯ ⋯ λr a1 s1 hr h3 O M F=>?_;simp! [aJ];cases q2:decide (r=0)
   .simp! [e_C];show h t a1 s1 ht G Y O M F
   .simp! [aJ];show AW O M F ∅ ∅ λx a2 s2 hb hx1 k2 J e1=>?_;simp! [aJ];show AW k2 J e1 ∅ ∅ λr3 a3 s3 hq e2 k1 hd h9=>?_;let#[c,r2,_,ec]:=GC (l:=L) hq e2;let l1:(bB t none (some x)).length<=1000:=le_trans (IC _ _ _) ∅;let l2:(bB t (some (x+1)) none).length<=1000:=le_trans (IC _ _ _) ∅;let l3:=HX (t:=t) (w:=[c]) (p:=x) (g:=x+1) hb ∅ (by simp);simp! [aJ,ec,length_append,length_cons,length_nil];show h _ a3 s3 (by rw[l3];lia) (λy hy=>?_) (λz=>by rw[Y z]at h1;cases h1) k1 hd h9;rcases qy.mp hy with z|z
    .rcases qy.mp z with z|z
     .show G y (Hy z)
     .rw[qv.mp z];show r2
    .show G y (Hy z)
  .simp! [e_C];show h t a s ht G Y ha hs J
structure pk(B:List Wd)(w:Wd):Prop where
 nd:B.Nodup
 ne:∀x∈B,x≠[]
 le:∀x∈B,x.length<=1000
 six:B.length<=6
 tw:w.length<=12
def Sx{B:List Wd}{w:Wd}{p:Nat}{l:List Nat}(z:(nb B w p).Perm l)(F:w.length<=60):cF `cv=some (.lst (((nb B w p).map zB).map .sh)):=by
 let G:=GU (B:=B) (w:=w) (p:=p);let v:(l.map zB).length<64:=by rw[qo,<-z.length_eq];lia
 let e:∀l:List Nat,l.map zB=(l.map λ(q:Nat)=>(q:Int)).map D.int:=λl=>by rw[qE];rfl
 unfold cF;rw[q4 (.inl #[v,.inl (by rw[e,Kq];rfl)]),FR Hf (m:=(nb B w p).map zB) (by rw[e];show NR _) (z.map _)];show pairwise_map.mpr (zc2.imp λ{a b} h=>?_);show eC (.int a) (.int b)=true;rw[GZ];show qR ∅
def VW{B:List Wd}{b:D}{w:Wd}(hb:∀z,fF (.str z) b=some (decide (z∈B)))(h6:w.length<=60)
  (h:P (.lst ((bG B w).map .sh)) [.sh b,.sh `Z]):nK [.sh b,.sh `Z] P PX:=by
 show BG rfl rfl ?_;simp! [e_C];show#[by simp only[bW];lia,?_];rw[BD (n:=w.length+1) ∅];show FH (n:=5) (List.range (w.length+1)) (λ_=>S.lst []) (λp hp l o K hl hK=>?_) λo=>?_
 .rw[qD]at hl;simp! [cN,iI,rM];show#[by simp only[bW];lia,hK _]
 rw[show((List.range (w.length+1)).map λ_=>S.lst [])=mV w.length λ_=>[] from rfl];simp! [e_C];show#[by simp only[bW];lia,?_];rw[BD (n:=w.length) rfl];show Dc (λv U=>∃(f:Nat->List Nat)(Y J:Option S),dX B w v.length (v.length+1) f/\U=[some (.sh b),some (.sh `Z),some (.lst (mV w.length f)),Y,J]) (List.range w.length) (λv i h7 D2 U e M h1 hk e4 hx=>?_) (λU M=>?_) #[λ_=>[],none,none,WD,rfl]
 .obtain⟨f,Y,J,G,rfl⟩:=M;let hi:v.length=i/\i<w.length:=Hn e;let#[rfl,hi]:=hi;simp! [rN];show#[by simp only[bW];lia,?_];rw[FD (a:=v.length+1) (n:=w.length+1) ∅ ∅];refine Dc (λF U=>∃(f:Nat->List Nat)(J:Option S),dX B w v.length (v.length+1+F.length) f/\U=[some (.sh b),some (.sh `Z),some (.lst (mV w.length f)),some (.sh (zB v.length)),J]) (List.range' (v.length+1) (w.length+1-(v.length+1))) (λF j O D3 U e2 M L h9 h8 e1=>?_) (λU M=>?_) #[f,J,↑G,rfl]
  .obtain⟨f,J,G,rfl⟩:=M;let hj:j=v.length+1+F.length/\j<=w.length:=by let:=Ou e2;lia
   let#[h5,h4]:=hj;rw[<-h5]at G;let ht:decide (eB w v.length j∈B)=dP B w v.length j:=by unfold dP;rw[qR (show v.length<j by lia),qR h4];rfl
   simp! [rO,zB,Nc,hb];rw[ht];cases q:dP B w v.length j
   .simp! [e_C];show L _ #[f,_,?_,rfl];rw[qq,qC,show v.length+1+(F.length+1)=j+1 by lia];show Sq ∅ G q
   .simp! [e_C];rw[MR ∅ (show(mV w.length f)[((v.length:Nat):Int).toNat]?=_ by rw[qW];show MF ∅)];simp! [length_map];let h3:=Nh G v.length;show#[by simp only[bW];lia,?_];rw[qW,show(((f v.length).map λq=>S.sh (zB q))++[S.sh (D.int (j:Int))])=(((f v.length).map λq=>S.sh (zB q))++[S.sh (zB j)]) from rfl,LR ∅];rw[MR ∅ (show(mV w.length (dU f v.length j))[((j:Nat):Int).toNat]?=_ by rw[qW];show MF ∅)];simp! [length_map];let h2:=Nh G j;let e3:dU f v.length j j=f j:=by unfold dU;rw[q5 ∅]
    show#[by rw[e3];simp only[bW];lia,?_];rw[qW,show(((dU f v.length j j).map λq=>S.sh (zB q))++[S.sh (D.int (v.length:Int))])=(((dU f v.length j j).map λq=>S.sh (zB q))++[S.sh (zB v.length)]) from rfl,LR ∅];show L _ #[_,_,?_,rfl];rw[qq,qC,show v.length+1+(F.length+1)=j+1 by lia];show Ur ∅ G q
  .obtain⟨f,J,G,rfl⟩:=M;rw[List.length_range',show v.length+1+(w.length+1-(v.length+1))=w.length+1 by lia]at G;show h1 _ #[f,_,_,?_,rfl];rw[qq,qC];show Tu `j G
 .obtain⟨f,Y,J,G,rfl⟩:=M;rw[qD]at G;simp! [e_C];rw[show(mV w.length f).map S.toD=(List.range (w.length+1)).map λp=>D.lst ((f p).map zB) by unfold mV;rw[qE];show map_congr_left λp _=>?_;simp[Function.comp_def]]
  show FH (n:=5) (List.range (w.length+1)) (λp=>.sh (.lst ((nb B w p).map zB))) (λp hp l o K hl hK=>?_) λo=>?_
  .rw[qD]at hl;simp! [cN,iI,rL,Sx (UC (le_refl _) G) h6,zav];show#[by simp only[bW];lia,hK _]
  .rw[show((List.range (w.length+1)).map λp=>S.sh (.lst ((nb B w p).map zB)))=(bG B w).map S.sh by unfold bG;rw[qE];rfl];simp! [e_C];show h
def Oj{B:List Wd}{w:Wd}(v:w.length<=60)
  (h:P (.lst ((bG B w).map .sh)) [.sh (zw B),.sh `Z]):nK [.sh (zw B),.sh `Z] P PX:=VW (λ_=>TR) v h
def GQ{B:List Wd}{w:Wd}{p:Nat}(v:p<=w.length):atI (bG B w) (p:Int)=some (.lst ((nb B w p).map zB)):=by show Du ∅ ?_;rw[qW];unfold bG;rw[qF,getElem?_range ∅];rfl
abbrev TS:=List (Nat×Nat)
def fE(L:TS):S:=.dct false (bP L) ((jC L).map .sh)
def Iy{B:List Wd}{w:Wd}{q:Nat}(h:cX `x w.length q):q<=w.length:=by
 cases h with
 |refl=>show q8 _
 |step _ e=>show(RK _ _ e).2
def IW{B:List Wd}{w:Wd}{L:TS}(h:jM `x w.length L):L.length<=w.length+1:=by
 let:=Ht (L.map (·.1)) (List.range (w.length+1)) h.nd λx v=>by let#[t,z,rfl]:=qK.mp v;let:=Iy (Ge (h.ok t z).1);show qJ.mpr ∅
 rw[qo,qD]at this;show this
def Xm{B:List Wd}{w:Wd}{D':Ends}{s1 o6:Option S}(hc:w.length<=60)
  (e2:∀(L:TS)(o4 M:Option S),dE `x w.length L []->D'.nx [some (.sh `H),s1,some (fE L),some (.lst []),o4,M,o6]):
  dN (aP eQ `V `de) iN D' [some (.sh `H),s1,some (fE [(w.length,0)]),some (.lst [.sh (zB w.length)]),none,none,o6]:=by
 show Jf (λm U=>∃(L G:TS)(o4 M:Option S),dE `x w.length L G/\m+2*L.length=2*(w.length+1)+G.length/\m<=2*(w.length+1)/\U=[some (.sh `H),s1,some (fE L),some (.lst ((bP G).map .sh)),o4,M,o6]) (2*(w.length+1)-1) #[[(w.length,0)],[(w.length,0)],none,none,dE.start,by simp;lia,∅,rfl] λm U hJ=>?_;let#[L,G,o4,M,Y,hm,hx,rfl]:=hJ;let hb:=IW Y.right;cases G with
 |nil=>simp! [uK,bP,map_nil,JA (show bM []<=29 by decide),isEmpty_nil];show e2 L o4 M Y
 |cons t G=>
  let O:=Y.take;let h3:t.1<=w.length:=Iy (Ge (Y.right.ok t O.tin).1);let h9:bM (bP (t::G))<=29:=JR _ λd hd=>by unfold bP at hd;let#[u,_,rfl]:=qK.mp hd;show 0<=29;decide
  rw[qt]at hm;let hk:G.length<=2*(w.length+1):=∅
  let h6:(bP (t::G)).length=G.length+1:=by simp[bP]
  simp! [uJ,zav,JA h9,show(bP (t::G)).isEmpty=false from rfl,rK,length_map,h6,GQ h3];show Jy (s:=.sh (zB t.1)) ⋯ (by rw[qo,h6];simp only[bW];lia) rfl ?_;rw[show(List.map S.sh (bP (t::G))).eraseIdx (Int.toNat 0)=(bP G).map S.sh from rfl];simp! [zB,GQ h3];show Dc (toD:=zB) (λh1 U=>∃(F v:TS)(M:Option S),pJ `x w.length F v t h1/\F.length+G.length=L.length+v.length/\L.length<=F.length/\U=[some (.sh `H),s1,some (fE F),some (.lst ((bP v).map .sh)),some (.sh (.int (t.1:Int))),M,o6]) (nb B w t.1) (λh1 q e3 D2 U e hI h2 hp e4 hi=>?_) (λU hI=>?_) #[L,G,M,O,rfl,q8 _,rfl]
  .obtain⟨F,v,M,z,h5,h4,rfl⟩:=hI;let h7:q∈nb B w t.1:=by rw[<-e];simp
   let hr:aG B w t.1 q:=za0.mp h7;let e1:=IW z.right;by_cases J:∃d,(q,d)∈F
   .let hn:=Mp (vs:=jC F) J;simp! [lU,zB,fE,zgG,hn];let#[d,hd]:=J;show h2 _ #[F,v,_,z.skip hd,h5,h4,rfl]
   .let hn:=Lu (vs:=jC F) J;let h8:lk (bP F) (jC F) (.int (t.1:Int))=some (.int (t.2:Int)):=JG (f:=zB) z.right.nd (show(t.1,t.2)∈F from z.tin);simp! [lU,zB,fE,zgG,hn,h8];let k1:(bP F).length=F.length:=by simp[bP]
    let k2:((bP v).map S.sh).length=v.length:=by simp[bP]
    show#[Sf z.right.nd,by rw[k1];simp only[bW];lia,by rw[k2];simp only[bW];lia,?_];rw[Tb λd hd=>J #[d,hd]];show h2 _ #[F++[(q,t.2+1)],v++[(q,t.2+1)],some (.sh (.int (q:Int))),z.put hr (λe he=>J #[e,he]),by simp only[qq,qC];lia,by simp only[qq,qC];lia,?_];simp[fE,bP,jC,zB]
  .obtain⟨F,v,M,z,h5,h4,rfl⟩:=hI;let e1:=IW z.right;show Lm (m':=2*(w.length+1)+v.length-2*F.length) ∅ #[F,v,_,_,z.queue λq Y=>za0.mpr Y,∅,∅,rfl]
def Lw{B:List Wd}{w:Wd}{L:TS}(v:dE `x w.length L []){q d:Nat}(h:aH `x w.length q d):lk (bP L) (jC L) (.int (q:Int))=some (.int (d:Int)):=JG (f:=zB) v.right.nd (v.done h)
def Ws{B:List Wd}{w:Wd}{D':Ends}{O o3 o4 Y:Option S}{L:TS}{p:Nat}(e3:w.length<=60)(M:dE `x w.length L []){d:Nat}(hd:aH `x w.length p d)
  (h7:D'.nx [some (.sh `H),O,some (fE L),o3,o4,Y,some (.lst (((cU B w d p).map zB).map .sh))]):
  dN (aP eQ (cA (zk 6) (mK eX `e)) (zx dQ (wB aU (zl `m zm)) `e)) iM D' [some (.sh `H),O,some (fE L),o3,o4,Y,some (.lst [.sh (zB p)])]:=by
 let h1:(bG B w).length=w.length+1:=by simp[bG]
 show Jf (λm U=>∃(F:List Nat)(v:Nat),aH `x w.length v m/\F++cU B w m v=cU B w d p/\F.length+m<=d/\U=[some (.sh `H),O,some (fE L),o3,o4,Y,some (.lst (((F.map zB).map .sh)++[.sh (.int (v:Int))]))]) d #[[],p,hd,rfl,by simp,rfl] λm U hJ=>?_;let#[F,v,G,hw,h8,rfl]:=hJ;let h6:v<=w.length:=Iy (Ge G.1);let e1:(((w.length+1:Nat):Int)-1)=(w.length:Int):=∅
 simp! [Iw,h1,e1];cases m with
 |zero=>
  let:=Ik G;subst this;simp! [uK,decide_true,Bool.not_true];let e2:((F.map zB).map S.sh)++[S.sh (.int (w.length:Int))]=((cU B w d p).map zB).map S.sh:=by rw[<-hw];simp[cU,zB]
  rw[e2];show h7
 |succ m=>
  have h4:¬(v:Int)=(w.length:Int):=λz=>by
   let:v=w.length:=∅
   subst this;let:=QH G;lia
  let h9:d<=w.length+1:=by let:=TV M hd;let:=IW M.right;lia
  rw[qS h4];simp! [uJ,rJ,Iw,GQ h6];let#[r,hr,hn]:=Kp G;show HZ (n:=7) (toD:=zB) (nb B w v) (λq=>if decide (iB `x w.length q+1=iB `x w.length v)=true then some (.sh (zB q))else none) (λq h3 l o K hl J=>?_) λo=>?_
  .obtain⟨k,hk⟩:=zbQ.mp ((Ge G.1).step (za0.mp h3));simp! [cN,zB,fE,zgG,Lw M hk,Lw M G,Iw,lT];let h5:=GU (B:=B) (w:=w) (p:=v);let eq:decide (iB `x w.length q+1=iB `x w.length v)=decide ((k:Int)=((m+1:Nat):Int)-1):=by rw[GD hk,GD G];exact decide_eq_decide.mpr ∅
   rw[eq]at J;cases q2:decide ((k:Int)=((m+1:Nat):Int)-1)
   .rw[q2]at J;simp! [uI];let:=J (some (.sh (.int (q:Int))));rw[q5 ⋯,toList_none,qA]at this;show this
   .rw[q2]at J;simp! [iI,lT];show#[by simp only[bW];lia,J _]
  .let h5:=GU (B:=B) (w:=w) (p:=v);rw[Jg (λq=>decide (iB `x w.length q+1=iB `x w.length v)) (λq=>S.sh (zB q)),hr];let h2:(aT B w v::r).Pairwise (·<·):=by rw[<-hr];exact zc2.filter _
   let eb:mI [.lst (zB (aT B w v)::r.map zB)]=some (.sh (.int ((aT B w v:Nat):Int))):=by show(dS _).bind _=_;rw[show(zB (aT B w v)::r.map zB)=((aT B w v::r).map λq=>((q:Nat):Int)).map D.int by rw[qE];rfl,Kq,Option.bind_some,UW h2];rfl
   rw[show((aT B w v::r).map λq=>S.sh (zB q))=((aT B w v::r).map zB).map S.sh by rw[qE];rfl];simp! [zav,eb,length_append,length_map,length_singleton,length_cons,length_nil];show#[by simp only[bW];lia,Lm (m':=m) ∅ #[F++[v],aT B w v,hn,?_,by rw[qq,qC];lia,?_]]
   .rw[<-hw];show F++[v]++cU B w m (aT B w v)=F++(v::cU B w m (aT B w v));simp
   .simp[zB,fE]
def SA{B:List Wd}{w:Wd}{p:Nat}(z:w.length<=60)(hp:p<=w.length)
  (h1:∀d,aH `x w.length p d->P (.sh (.tup ((cU B w d p).map zB))) [.sh `H,.sh (.int (p:Int))])
  (h2:¬cX `x w.length p->P (.sh (.tup [])) [.sh `H,.sh (.int (p:Int))]):uQ [.sh `H,.sh (.int (p:Int))] P PX:=by
 let F:(bG B w).length=w.length+1:=by simp[bG]
 let O:(((w.length+1:Nat):Int)-1)=(w.length:Int):=∅
 show BG rfl rfl ?_;simp! [F,O];show Xm z λL o4 Y G=>?_;by_cases M:cX `x w.length p
 .obtain⟨d,v⟩:=zbQ.mp M;let J:=Mp (vs:=jC L) #[d,G.done v];simp! [fE,zgG,J];show Ws z G v ?_;simp! [zav];show h1 d v
 .let J:=Lu (vs:=jC L) (L:=L) (q:=p) λ⟨d,v⟩=>M (zbQ.mpr #[d,G.right.ok _ v]);simp! [fE,zgG,J];show h2 M
def IE(B:List Wd)(w:Wd):∀d p,(cU B w d p).length=d+1
 |0,_=>rfl
 |d+1,p=>by rw[show cU B w (d+1) p=p::cU B w d (aT B w p) from rfl,qt,IE B w d]
def SE{B:List Wd}{w:Wd}{p d:Nat}(Y:aH `x w.length p d):d<=w.length:=by
 have F:∀k,k<=d->∃q,aH `x w.length q k:=λk M=>Kc Y k M;let J:∀m,m<=d+1->∃l:List Nat,l.length=m/\l.Nodup/\∀q∈l,q<=w.length/\∃k,k<m/\aH `x w.length q k:=by
  intro m;induction m with
  |zero=>show λ_=>#[[],rfl,by simp,by simp]
  |succ m O=>
   intro hm;let#[l,h1,h2,G]:=O ∅;let#[q,L]:=F m ∅;show#[q::l,by simp[h1],qL.mpr #[λhc=>?_,h2],λx z=>?_]
   .obtain⟨_,k,M,v⟩:=G q hc;let:=ID L v;lia
   .rcases qB.mp z with rfl|z
    .show#[Iy (Ge L.1),m,∅,L]
    .obtain⟨h4,k,M,v⟩:=G x z;show#[h4,k,∅,v]
 let#[l,h1,h2,G]:=J (d+1) ∅;let:=Ht l (List.range (w.length+1)) h2 λx z=>qJ.mpr (by let:=(G x z).1;lia);rw[h1,qD]at this;lia
def MK{l:List Nat}(h:0<l.length):eL (.tup `cv) (.tup [])=some false:=by
 unfold eL;rw[q5 (by
  let:eP (.tup `cv)=1:=by show bM `cv+1=1;rw[show l.map zB=(l.map λq=>((q:Nat):Int)).map D.int by rw[qE];rfl,Ki]
  rw[this];show λz=>by cases l<;>show Bool.noConfusion (show false=true from z))]
 cases l with
 |nil=>cases h
 |cons a l=>show congrArg some ?_;rw[decide_eq_false_iff_not];show λz=>by cases z
def Nj:eL (.tup []) (.tup [])=some true:=by unfold eL;rw[q5 ⋯];simp
def dD(B:List Wd)(w:Wd)(p q:Int):Bool:=(vP B w).any λt=>decide ((t.1:Int)=min p q)&&decide ((t.2.1:Int)=max p q)
def pairsOf(ns:List Int):List (Int×Int):=ns.zip (ns.drop 1)
def tQ(B:List Wd)(w:Wd)(ns:List Int):Bool:=decide (ns.head?=some 0)&&(decide (ns.getLast?=some (w.length:Int))&&(pairsOf ns).all λp=>dD B w p.1 p.2)
def NF{B:List Wd}{w:Wd}{p q:Nat}(h:aG B w p q):dD B w (p:Int) (q:Int)=true:=by
 let v:∀i j,dP B w i j=true->((i:Int)=min (p:Int) q/\(j:Int)=max (p:Int) q)->dD B w (p:Int) (q:Int)=true:=λi j z e=>by unfold dD;rw[any_eq_true];show#[(i,j,B.idxOf (eB w i j)),zfU.mpr #[z,rfl],by rw[qR e.1,qR e.2];rfl]
 unfold aG iQ at h;rw[or_eq_true]at h;rcases h with h|h
 .let:=(zaw.mp h).1;show v p q h ∅
 .let:=(zaw.mp h).1;show v q p h ∅
def Ti{B:List Wd}{w:Wd}{p q:Int}(h:dD B w p q=true):∃a b:Nat,p=a/\q=b/\aG B w a b:=by
 unfold dD at h;let#[t,z,e]:=any_eq_true.mp h;rw[and_eq_true,decide_eq_true_iff,decide_eq_true_iff]at e;let v:=(zfU.mp z).1;let G:=(zaw.mp v).1;by_cases F:p<=q
 .show#[t.1,t.2.1,∅,∅,?_];unfold aG iQ;rw[v];rfl
 .show#[t.2.1,t.1,∅,∅,?_];unfold aG iQ;rw[v,Bool.or_true]
def bZ(R:Int->Int->Bool):List Int->Bool
 |a::b::r=>R a b&&bZ R (b::r)
 |_=>true
def Ox(R:Int->Int->Bool):∀ns:List Int,((pairsOf ns).all λp=>R p.1 p.2)=bZ R ns
 |[]=>rfl
 |[_]=>rfl
 |a::b::r=>by let:=Ox R (b::r);show(R a b&&((b::r).zip r).all λp=>R p.1 p.2)=(R a b&&bZ R (b::r));rw[<-this];rfl
def Km{R:Int->Int->Bool}{x:Int}{r:List Int}(h2:bZ R (x::r)=true):∀l:List Int,bZ R (l++[x])=true->bZ R (l++x::r)=true
 |[],_=>h2
 |[a],h1=>by let v:(R a x&&true)=true:=h1;show(R a x&&bZ R (x::r))=true;rw[h2];show v
 |a::b::l,h1=>by let v:(R a b&&bZ R ((b::l)++[x]))=true:=h1;rw[and_eq_true]at v;show(R a b&&bZ R ((b::l)++x::r))=true;rw[v.1,Km h2 (b::l) v.2];rfl
def jT(B:List Wd)(w:Wd)(d p:Nat):List Int:=(cU B w d p).map λ(q:Nat)=>(q:Int)
def Qk(B:List Wd)(w:Wd)(d p:Nat):(cU B w d p).map zB=(jT B w d p).map D.int:=by unfold jT;rw[qE];rfl
def NC(B:List Wd)(w:Wd)(d p:Nat):∃r,jT B w d p=(p:Int)::r/\r.length=d:=by
 cases d with
 |zero=>show#[[],rfl,rfl]
 |succ d=>show#[(cU B w d (aT B w p)).map λ(q:Nat)=>(q:Int),rfl,by rw[qo,IE]]
def TN{B:List Wd}{w:Wd}{p d:Nat}(h:aH `x w.length p (d+1)):aG B w p (aT B w p):=by
 let#[r,v,_]:=Kp h;let:aT B w p∈(nb B w p).filter λq=>decide (iB `x w.length q+1=iB `x w.length p):=by rw[v];simp
 show za0.mp (mem_filter.mp this).1
def NQ{B:List Wd}{w:Wd}:∀{d p:Nat},aH `x w.length p d->bZ (dD B w) (jT B w d p)=true/\∃l,jT B w d p=l++[(w.length:Int)]
 |0,p,h=>by let:=Ik h;subst this;show#[rfl,[],rfl]
 |d+1,p,h=>by let#[_,_,z]:=Kp h;let#[h1,l,h2]:=NQ z;let#[r,v,_]:=NC B w d (aT B w p);let e:jT B w (d+1) p=(p:Int)::jT B w d (aT B w p):=rfl;show#[?_,(p:Int)::l,by rw[e,h2];rfl];rw[e,v];rw[v]at h1;show(dD B w p (aT B w p)&&bZ (dD B w) ((aT B w p:Int)::r))=true;rw[h1,NF (TN h)];rfl
def Pz{B:List Wd}{w:Wd}{r l ns:List Int}(h1:ns=0::r)(h2:ns=l++[(w.length:Int)])(v:bZ (dD B w) ns=true):tQ B w ns=true:=by unfold tQ;rw[Ox,v,show ns.getLast?=some (w.length:Int) by rw[h2];simp,show ns.head?=some 0 by rw[h1];rfl];simp
def NY{B:List Wd}{u v:Wd}{i j:Nat}(h:dP B v i j=true):dP B (u++v) (u.length+i) (u.length+j)=true:=by
 rw[zaw]at h⊢;show#[∅,by rw[qq];lia,?_];let:eB (u++v) (u.length+i) (u.length+j)=eB v i j:=by unfold eB;rw[List.drop_append,show u.length+j-(u.length+i)=j-i by lia,drop_of_length_le (Nat.le_add_right _ _)];simp
 rw[this];show h.2.2
def UM{B:List Wd}{u v:Wd}{i j:Nat}(h:aG B v i j):aG B (u++v) (u.length+i) (u.length+j):=by unfold aG iQ at*;rw[or_eq_true]at*;show h.imp NY NY
def PD{l:List Nat}:eQ (.lst `cv) (.lst [])=some (!decide (l=[])):=by rw[show l.map zB=(l.map λ(q:Nat)=>(q:Int)).map D.int by rw[qE];rfl,show(D.lst [])=.lst (([]:List Int).map D.int) from rfl,Vd];congr 2;show decide_eq_decide.mpr (by simp)
def iE(B:List Wd)(w:Wd)(l:List Nat):Prop:=bZ (dD B w) (l.map λ(q:Nat)=>(q:Int))=true/\∀p∈l,p<=w.length
def dH(l:List Nat):D:=.tup `cv
def JW{l:List Nat}{p:Nat}:atI ((l++[p]).map zB) (-1)=some (.int (p:Int)):=by rw[map_append];show Iw
def QG{B:List Wd}{w:Wd}{p:Nat}{r:Int}(F:0<=r)(h1:r<(nb B w p).length):∃q,q∈nb B w p/\atI ((nb B w p).map zB) r=some (.int (q:Int)):=by let#[v,z,_,e]:=GH (f:=zB) F h1;show#[v,z,e]
def iE.snoc{B:List Wd}{w:Wd}{l:List Nat}{p q:Nat}(h:iE B w (l++[p]))(z:q∈nb B w p):iE B w (l++[p]++[q]):=by
 show#[?_,λx v=>?_]
 .let:=h.1;rw[map_append]at this⊢;rw[map_append,qp];show Km (x:=(p:Int)) (r:=[(q:Int)]) (by show(dD B w p q&&true)=true;rw[NF (za0.mp z)];rfl) _ this
 .rcases qy.mp v with v|v
  .show h.2 x v
  .rw[qv.mp v];show(GR z).1
def QV{B:List Wd}{w:Wd}{D':Ends}{b:WS}{n:Nat}{s4:List (Option S)}{a s:Int}{l:List Nat}{p:Nat}{F:Option S}(e4:w.length<=60)(hn:n<=10)(h2:l.length<=1)(J:0<=a)(hs:1<=s)(z:s<=2147483629)(G:iE B w (l++[p]))(hb:b=fI (aP eQ (cA `z (cA `u (mK eX `e))) `de) (zA (zn 2) (zx aV `u (cI (zl (cA (cA `z (cA `u (mK eX `e))) (zz eA [true,true] (zl `m (zl (wB aU (zl (cA `z (cA `u (mK eX `e))) zm)) zm)))) zm)))) bC)
  (h4:∀(a s:Int)(m:List Nat)(q:Nat) F,0<=a->1<=s->s<=2147483629->iE B w (m++[q])->m.length<=l.length+n->(∃t,m++[q]=l++[p]++t)->cX `x p q->D'.nx (some `br::some (.sh `H)::some (.sh (dH (m++[q])))::F::s4)):
  cK `ei b ((List.range n).map λ(k:Nat)=>D.int (k:Int)) D' (some `br::some (.sh `H)::some (.sh (dH (l++[p])))::F::s4):=by
 subst hb;show Dc (λL U=>∃(a s:Int)(m:List Nat)(q:Nat)(F:Option S),0<=a/\1<=s/\s<=2147483629/\iE B w (m++[q])/\m.length<=l.length+L.length/\(∃t,m++[q]=l++[p]++t)/\cX `x p q/\U=some `br::some (.sh `H)::some (.sh (dH (m++[q])))::F::s4) (List.range n) (λL k h5 D2 U e hI O e2 h7 e3=>?_) (λU hI=>?_) #[a,s,l,p,F,J,hs,z,G,by simp,#[[],by simp],.refl _,rfl]
 .obtain⟨a,s,m,q,F,J,hs,z,G,hm,⟨t,Y⟩,hC,rfl⟩:=hI;let hk:=Hn e;let hq:q<=w.length:=G.2 q (by simp);let h8:=GU (B:=B) (w:=w) (p:=q);simp! [dH,aJ,JW,GQ hq,PD];cases qn:decide (nb B w q=[])
  .let h6:0<(nb B w q).length:=qP.mpr (of_decide_eq_false qn);simp! [JW,GQ hq,length_map];show AW J hs z ∅ ∅ λr a2 s2 hr h1 h3 z M=>?_;let#[v,hv,ev]:=QG hr h1;let h9:(m++[q]).length<=l.length+11:=by rw[qq,qC];lia
   let e1:l.length<=1:=h2;simp! [aJ,ev,length_map,length_cons,length_nil];rw[show(m++[q]).map zB++[D.int (v:Int)]=(m++[q]++[v]).map zB by rw[map_append (l₁:=m++[q])];rfl];show O _ #[a2,s2,m++[q],v,_,h3,z,M,G.snoc hv,by rw[qq,qq,qC,qC];lia,#[t++[v],by rw[Y];simp],hC.step (za0.mp hv),rfl]
  .simp! [e_C];show O _ #[a,s,m,q,_,J,hs,z,G,by rw[qq];lia,#[t,Y],hC,rfl]
 .obtain⟨a,s,m,q,F,J,hs,z,G,hm,Y,hC,rfl⟩:=hI;rw[qD]at hm;show h4 a s m q F J hs z G hm Y hC
def cW(l:List Nat):List Int:=l.map λ(q:Nat)=>(q:Int)
def OJ{a s:Int}{B:List Wd}{w:Wd}(ha:0<=a)(hs:1<=s)(z:s<=2147483629)(h3:w.length<=60)
  (h:∀(l:List Nat) a' s',l.length<=w.length+12->((l=[]/\¬cX `x w.length 0)\/tQ B w (cW l)=true)->0<=a'->1<=s'->s'<=2147483629->P (.sh (dH l)) [aJ a' s',.sh `H]):pP [aJ a s,.sh `H] P PX:=by
 show BG rfl rfl ?_;simp! [aJ,length_cons,length_nil];show AW ha hs z ⋯ ⋯ λr a1 s1 hr h5 h2 Y J=>?_;simp! [aJ];show#[by simp only[bW];lia,?_];rw[BD (n:=r.toNat) ∅];show QV (l:=[]) (p:=0) h3 ∅ (by simp) h2 Y J #[rfl,by simp] iL.eq_1 λa2 s2 m q o3 L z F hS hm O hC=>?_;let hq:q<=w.length:=hS.2 q (by simp);let#[t,O]:=O;rw[qw,zero_add]at hm;simp! [dH,JW];show SA ∅ hq (λd hd=>?_) λhn=>?_
 .have h7:d<=w.length:=SE hd;let#[v,G,h4]:=NC B w d q;let hw:(cU B w d q).map zB=zB q::v.map D.int:=by rw[Qk,G];rfl
  let M:bB ((cU B w d q).map zB) (some 1) none=v.map D.int:=by rw[IX _ ⋯,hw];rfl
  let h6:(m++[q]).length<=10:=by rw[qq,qC];lia
  simp! [aJ,MK (show 0<(cU B w d q).length by rw[IE];lia),M,qo];let#[k1,l',k2]:=NQ hd;let e1:cW (m++cU B w d q)=cW m++(q:Int)::v:=by unfold cW;rw[map_append];congr 1
  have hz:tQ B w (cW (m++cU B w d q))=true:=by
   let h1:bZ (dD B w) (cW m++(q:Int)::v)=true:=Km (by rw[<-G];show k1) _ (by let:=hS.1;rw[map_append]at this;show this)
   let e2:cW m++(q:Int)::v=(cW m++l')++[(w.length:Int)]:=by rw[<-G,k2,qp]
   have e3:∃r,cW m++(q:Int)::v=0::r:=by
    let:cW (m++[q])=0::cW t:=by rw[O];rfl
    unfold cW at this;rw[map_append]at this;cases m with
    |nil=>simp only[map_nil,nil_append,qz,List.cons.injEq]at this;show#[v,by unfold cW;rw[map_nil,nil_append,this.1]]
    |cons x m=>simp only[qz,qO,List.cons.injEq]at this;show#[cW m++(q:Int)::v,by unfold cW;rw[qz,qO,this.1]]
   let#[r3,e3]:=e3;rw[e1];show Pz e3 e2 h1
  let:=h (m++cU B w d q) a2 s2 (by rw[qq,IE];lia) (.inr hz) L z F;rw[show(m++[q]).map zB++v.map D.int=(m++cU B w d q).map zB by rw[map_append,map_append,qp,hw];rfl]
  show this
 .simp! [aJ,Nj];show h [] a2 s2 (by simp) (.inl #[rfl,λc=>hn (c.trans hC)]) L z F
def fx(p q:Nat):Wd:=if p<q then[111,110]else[98,97,99,107]
def gK(B:List Wd)(w:Wd)(p q:Nat):Nat:=B.idxOf `ag
def eE(B:List Wd)(w:Wd)(t:Nat×Nat):D:=.tup [.str (fx t.1 t.2),.int (gK B w t.1 t.2:Int)]
def kH(l:List Nat):List (Nat×Nat):=l.zip (l.drop 1)
def MA(l:List Nat):(kH l).length=l.length-1:=by unfold kH;rw[List.length_zip,qG];lia
def Jo{l:List Nat}{k:Nat}(h:k+1<l.length):∃p q,l[k]?=some p/\l[k+1]?=some q/\(kH l)[k]?=some (p,q):=by show#[l[k],l[k+1],qh ∅,qh h,?_];unfold kH;rw[List.getElem?_zip_eq_some];show#[qh ∅,by rw[List.getElem?_drop,add_comm 1 k];show qh h]
def Gg{p q:Nat}:iY [.tup [.int (p:Int),.int (q:Int)]]=some (.lst [.sh (.int (min p q:Nat)),.sh (.int (max p q:Nat))]):=by
 show(if[D.int (p:Int),D.int (q:Int)].length<64/\(dS [D.int (p:Int),D.int (q:Int)]).isSome then some (S.lst ((cE [D.int (p:Int),D.int (q:Int)]).map .sh))else none)=_;rw[q4 #[by simp,rfl],FR Hf (m:=[D.int (min p q:Nat),D.int (max p q:Nat)])]
 .rfl
 .intro d v;simp only[qB,List.not_mem_nil,or_false]at v;rcases v with rfl|rfl<;>trivial
 .by_cases h:p<=q
  .rw[min_eq_left h,Nat.max_eq_right h]
  .rw[min_eq_right ∅,Nat.max_eq_left ∅];show .swap _ _ _
 .show List.pairwise_pair.mpr ?_;rw[GZ];show qR ∅
def Rm{B:List Wd}{z:Wd}(h:z∈B):yK ((B.map λb=>decide (b=z)).map D.bl) `bt=some (B.idxOf z):=by
 unfold yK;rw[q4 (by rw[qI];intro d F;let#[b,_,rfl]:=qK.mp F;rfl)]
 rw[List.findIdx?_eq_some_iff_getElem];let hi:B.idxOf z<B.length:=List.idxOf_lt_length_iff.mpr h;show#[↑hi,?_,λj v=>?_]
 .simp[List.getElem_idxOf hi]
 .let:¬B[j]'∅=z:=by let:=List.not_of_lt_findIdx v;simpa using this
  simp[this]
def Sk{l:List Nat}{k p q:Nat}(h1:l[k]?=some p)(h2:l[k+1]?=some q):bB `cv (some (k:Int)) (some ((k+2:Nat):Int))=[zB p,zB q]:=by rw[MP];let#[F,B]:=qg.mp h1;let#[z,v]:=qg.mp h2;rw[<-List.map_drop,<-List.map_take,show k+2-k=2 by lia,drop_eq_getElem_cons F,drop_eq_getElem_cons z,B,v];rfl
def Xo{B:List Wd}{w:Wd}{l:List Nat}(hB:B.length<=1000)(hl:l.length<=100)(ht:∀t∈kH l,aG B w t.1 t.2)
  (h:P (.sh (.tup ((kH l).map (eE B w)))) [.sh (zw B),.sh `Z,.sh (dH l)]):uO [.sh (zw B),.sh `Z,.sh (dH l)] P PX:=by
 show BG rfl rfl ?_;simp! [dH,length_map];show#[by simp only[bW];lia,?_];rw[show fromTo 1 ((l.length:Int)-1).toNat=(List.range' 1 (l.length-1)).map λ(k:Nat)=>D.int (k:Int) from FD (a:=1) (n:=l.length) rfl rfl];show Dc (λz U=>∃O M L:Option S,U=[some `cu,some (.sh `Z),some (.sh (dH l)),some (.lst ((((kH l).take z.length).map (eE B w)).map .sh)),O,M,L]) (List.range' 1 (l.length-1)) (λz i h2 D2 U e hI h1 h4 h3 h5=>?_) (λU hI=>?_) #[none,none,none,rfl]
 .obtain⟨O,M,L,rfl⟩:=hI;let hi:=Ou e;obtain⟨k,rfl⟩:∃k,i=k+1:=#[i-1,∅]
  let hk:z.length=k:=∅
  obtain⟨p,q,e1,e2,e3⟩:=Jo (l:=l) (k:=k) ∅;let F:=ht (p,q) (qM e3);let J:eB w (min p q) (max p q)∈B:=by
   unfold aG iQ at F;rw[or_eq_true]at F;rcases F with hh|hh
   .obtain⟨a,_,b⟩:=zaw.mp hh;rw[show min p q=p by lia,show max p q=q by lia];show b
   .obtain⟨a,_,b⟩:=zaw.mp hh;rw[show min p q=q by lia,show max p q=p by lia];show b
  let c1:bB `cv (some ((((k+1:Nat):Int))-1)) (some ((((k+1:Nat):Int))+1))=[.int (p:Int),.int (q:Int)]:=by rw[show((k+1:Nat):Int)-1=(k:Int) by lia,show((k+1:Nat):Int)+1=((k+2:Nat):Int) by lia];show Sk e1 e2
  let a1:atI `cv (((k+1:Nat):Int)-1)=some (.int (p:Int)):=Du ∅ (by rw[show(((k+1:Nat):Int)-1).toNat=k by lia,qF,e1];rfl);let a2:atI `cv ((k+1:Nat):Int)=some (.int (q:Int)):=Du ∅ (by rw[qW,qF,e2];rfl);simp! [rG,dH,c1,Gg];simp! [zav,zw];show FH (n:=7) B (λb=>.sh (.bl (decide (b=eB w (min p q) (max p q))))) (λb hb m o K hm hK=>?_) λo=>?_
  .simp! [cN,iI,rF,show∀x y:D,atI [x,y] 0=some x from λ_ _=>rfl,show∀x y:D,atI [x,y] 1=some y from λ_ _=>rfl,Nc];show#[by simp only[bW];lia,hK _]
  .rw[show(B.map λb=>S.sh (.bl (decide (b=eB w (min p q) (max p q)))))=((B.map λb=>decide (b=eB w (min p q) (max p q))).map D.bl).map S.sh by simp[Function.comp_def]];simp! [zav,zfB (Rm J),a1,a2,length_map,length_take];let Y:(kH l).take (k+1)=(kH l).take k++[(p,q)]:=by let#[b1,b2]:=qg.mp e3;rw[List.take_succ_eq_append_getElem b1,b2]
   let v:=h1 [some `cu,some (.sh `Z),some (.sh (dH l)),some (.lst ((((kH l).take (z++[k+1]).length).map (eE B w)).map .sh)),some (.sh (.int ((k+1:Nat):Int))),some (.sh (.lst [.int (min p q:Nat),.int (max p q:Nat)])),some (.sh (.int (B.idxOf `ag:Nat)))] #[_,_,_,rfl];rw[qq,qC,hk,Y,map_append,map_append]at v;by_cases G:p<q
   .simp! [decide_eq_true (show(p:Int)<(q:Int) by lia),if_true,show∀x y:S,atI [x,y] 1=some y from λ_ _=>rfl,qo,qH,hk];show#[by simp only[bW];lia,?_];let e5:eE B w (p,q)=.tup [.str [111,110],.int (B.idxOf `ag:Nat)]:=by unfold eE fx gK;rw[q4 G]
    simp only[qz,map_nil,e5]at v;show v
   .simp! [decide_eq_false (show¬(p:Int)<(q:Int) by lia),false_eq_true,if_false,show∀x y:S,atI [x,y] 0=some x from λ_ _=>rfl,qo,qH,hk];show#[by simp only[bW];lia,?_];let e5:eE B w (p,q)=.tup [.str [98,97,99,107],.int (B.idxOf `ag:Nat)]:=by unfold eE fx gK;rw[q5 G]
    simp only[qz,map_nil,e5]at v;show v
 .obtain⟨O,M,L,rfl⟩:=hI;rw[List.length_range',take_of_length_le (by rw[MA];lia)];simp! [zav];show h
def Ng{n:Nat}:∀l:List Wd,(∀x∈l,x.length<=n)->(l.map List.length).sum<=l.length*n
 |[],_=>by simp
 |a::l,h=>by let h1:=h a (by simp);let h2:=Ng l λx v=>h x (by simp[v]);simp only[qz,sum_cons,qt,Nat.add_mul];lia
structure gn where
 col:List Nat
 B:List Wd
 w:Wd
 l:List Nat
structure gn.ok(c:gn):Prop where
 f:pk c.B c.w
 n:c.l.length<=24
 z:tQ c.B c.w (cW c.l)=true
 c2:c.col.length<=26
 c:0<c.col.length
def aj(c:gn):D:=.tup [.str c.col,zw c.B,.str c.w,dH c.l]
def On{B:List Wd}:∀A:List Wd,(∀x∈A,x∈B/\x≠[])->cX (aG B A.flatten) A.flatten.length 0
 |[],_=>cX.refl _
 |x::A,h=>by
  have v:=On A λy F=>h y (qk _ F);let G:cX (aG B (x++A.flatten)) (x.length+A.flatten.length) (x.length+0):=by
   generalize A.flatten.length=p at v;generalize (0:Nat)=q at v;induction v with
   |refl=>show cX.refl _
   |step _ e z=>show z.step (UM e)
  rw[flatten_cons,qq];show G.step ?_;unfold aG iQ;rw[or_eq_true];show .inr (zaw.mpr #[?_,by rw[qq];lia,?_])
  .let:=qP.mpr (h x qm).2;lia
  .let:eB (x++A.flatten) 0 (x.length+0)=x:=by unfold eB;simp
   rw[this];show(h x qm).1
def Ww{a s:Int}(ha:0<=a)(hs:1<=s)(G:s<=2147483629)
  (h:∀(c:gn) a' s',c.ok->0<=a'->1<=s'->s'<=2147483629->P (.sh (aj c)) [aJ a' s']):uP [aJ a s] P PX:=by
 show BG rfl rfl ?_;simp! [aJ];show AW ha hs G ⋯ ⋯ λr a1 s1 hr hr2 r2 hp h8=>?_;simp! [aJ];show Xd r2 hp h8 ∅ ∅ λF a2 s2 k1 hso hle r1 G h7=>?_;simp! [aJ];show Wc r1 G h7 ∅ ∅ ⋯ ⋯ ⋯ ⋯ λB a3 s3 hB hq hk h6=>?_;let v:oT F 6 6 B:=hB;let hf:∀w:Wd,w.length<=12->pk B w:=λw hw=>#[v.2.1,λx L=>(v.2.2 x L).1,λx L=>by let:=(v.2.2 x L).2.1;lia,v.1,hw]
 simp! [aJ];show Ve hq hk h6 ∅ ∅ ⋯ ⋯ (by let:=v.1;lia) (λw hw=>#[by let:=(v.2.2 w hw).2.1;lia,(v.2.2 w hw).2.2]) λt a4 s4 ht k3 hb hm e4 h5=>?_;let e2:t.length<=12:=ht;simp! [aJ,zav];show Oj ∅ ?_;simp! [zav];show OJ hm e4 h5 ∅ λl a5 s5 hl hz e1 h3 M=>?_;by_cases Y:l=[]
 .subst Y;let hc:¬cX (aG B t) t.length 0:=by
   rcases hz with⟨_,z⟩|z
   .show z
   .cases z
  have k2:0<B.length:=by
   cases B with
   |cons _ _=>simp
   |nil=>show absurd (by rw[hb rfl];show cX.refl _) hc
  simp! [dH,map_nil,Nj,aJ];show AW e1 h3 M ⋯ ⋯ λr6 a6 s6 hr6 r3 hd e3 h4=>?_;simp! [aJ];show#[by simp only[bW];lia,?_];show Pd (n:=5) (λz:Wd=>S.sh (.str z)) _ (λU=>∃a s,0<=a/\1<=s/\s<=2147483629/\U=[some `br,some (.sh (.str F)),some `cu,some `dr,some (.sh (.tup []))]) (λz=>z∈B) (λx L U A o K hI hA hK=>?_) (λU A o hI hA hP=>?_) #[a6,s6,hd,e3,h4,rfl]
  .obtain⟨a,s,ha,hs,G,rfl⟩:=hI;let:=v.1;rw[DN]at hA;simp! [cN,iI,rH,aJ,zw,length_map];show AW ha hs G ∅ ∅ λr7 a7 s7 hi h9 h1 O J=>?_;let#[z,hz,_,ez]:=GH (f:=D.str) (l:=B) hi h9;simp! [ez,length_map];show#[by simp only[bW];lia,hK _ _ _ #[a7,s7,h1,O,J,rfl] hz]
  .obtain⟨a,s,ha,hs,G,rfl⟩:=hI;rw[DN]at hA;let hfl:=Ng (n:=6) A λx L=>(v.2.2 x (hP x L)).2.1;let hA2:A.length<=2:=by lia
   let h2:A.flatten.length<=12:=by rw[List.length_flatten];lia
   rw[show(A.map λz:Wd=>S.sh (.str z))=(A.map D.str).map S.sh by rw[qE];rfl];simp! [aJ,zav,Vn (show(A.map List.length).sum<=big by simp only[bW];lia)];show Oj ∅ ?_;simp! [zav];show OJ ha hs G ∅ λl a7 s7 hl hz h1 O J=>?_;simp! [aJ];show h #[F,B,A.flatten,l] a7 s7 #[hf _ h2,by show l.length<=24;lia,hz.elim (λz=>absurd (On A λx L=>#[hP x L,(v.2.2 x (hP x L)).1]) z.2) id,by show F.length<=26;lia,by show 0<F.length;lia] h1 O J
 .simp! [dH,aJ,MK (length_pos_iff.mpr Y)];show h #[F,B,t,l] a5 s5 #[hf _ e2,by show l.length<=24;lia,hz.elim (λz=>absurd z.1 Y) id,by show F.length<=26;lia,by show 0<F.length;lia] e1 h3 M
abbrev St:=Int×Nat×Int
def eG(t:St):D:=.tup [.int t.1,.str [t.2.1],.int t.2.2]
def je:List Bool:=[false,true,false]
def LA(L:List St):bX `dl=true:=by unfold bX;rw[or_eq_true];show .inr (qI.mpr λd v=>?_);let#[t,_,rfl]:=qK.mp v;rfl
def LL{P:St->Prop}:∀{l:List D},(∀d∈l,∃t,d=eG t/\P t)->∃sts:List St,l=sts.map eG/\∀t∈sts,P t
 |[],_=>#[[],rfl,λ_ z=>nomatch z]
 |d::l,h=>by
  let#[t,rfl,B]:=h d qm;let#[sts,rfl,F]:=LL (l:=l) λe G=>h e (qk _ G);show#[t::sts,rfl,λu v=>?_];rcases qB.mp v with rfl|z
  .show B
  .show F u z
def SZ{P:St->Prop}{L:List St}(O:∀t∈L,P t)(Y:(aL `dl).length<64):∃sts:List St,cF (aL `dl)=some (.lst ((sts.map eG).map .sh))/\sts.length=(aL `dl).length/\(∀t∈sts,P t)/\(sts.map eG).Pairwise (eC · ·=true)/\(sts.map eG).Nodup:=by
 let G:∀d∈aL `dl,∃t,d=eG t/\P t:=λd B=>by let#[t,J,rfl]:=qK.mp (zaR.mp B);show#[t,rfl,O t J]
 let F:=EG (aL `dl);let#[sts,e,M]:=LL (P:=P) (l:=cE (aL `dl)) λd B=>G d (F.mem_iff.mp B);let v:∀d∈aL `dl,gU je d:=λd B=>by let#[t,rfl,_]:=G d B;trivial
 show#[sts,?_,?_,M,?_,?_]
 .unfold cF;rw[q4 (.inr #[∅,.inr #[je,λz=>(nomatch z),v]]),e]
 .let:=F.length_eq;rw[e,qo]at this;show this
 .rw[<-e];show Hz (Ij je) _ v
 .rw[<-e];show F.nodup_iff.mpr (IK _)
def jR(many:Int)(sts:List St):D:=.tup [.int many,.tup (sts.map eG)]
def jG(many:Int)(v z:List Nat)(t:St):Prop:=(0<=t.1/\t.1<many)/\(0<=t.2.2/\t.2.2<many)/\(t.2.1∈v\/t.2.1∈z)
def mW(L:List St):S:=.lst ((L.map eG).map .sh)
def Lz(L:List St)(t:St):(L.map eG).map S.sh++[S.sh (.tup [.int t.1,.str [t.2.1],.int t.2.2])]=((L++[t]).map eG).map S.sh:=by simp[eG]
def Uh{D':Ends}{many:Int}{B J:List Nat}{s3 s4 s7 M:Option S}(hm:1<=many)(h9:many<=1000):∀(xs:List Nat)(a s x:Int)(L:List St)(F v:Option S),0<=a->1<=s->s<=2147483629->0<=x->x<many->(∀c∈xs,c∈J)->L.length+xs.length<=1000->(∀t∈L,jG many B J t)->
  (∀a' s' x'(L':List St) F v,0<=a'->1<=s'->s'<=2147483629->L'.length=L.length+xs.length->(∀t∈L',jG many B J t)->D'.nx [some (aJ a' s'),some (.sh (.str B)),some (.sh (.str J)),s3,s4,some `ah,some (mW L'),s7,some (.sh (.int x')),F,v,M])->
  cK (zn 9) iK (xs.map sg) D' [some `br,some (.sh (.str B)),some (.sh (.str J)),s3,s4,some `ah,some (mW L),s7,some (.sh (.int x)),F,v,M]:=by
 intro xs;induction xs with
 |nil=>intro a s x L F v ha hs G hx O hc hl hL h;show h a s x L F v ha hs G (by simp) hL
 |cons c xs ih=>
  intro a s x L F v ha hs G hx O hc hl hL h;rw[qz,mu];simp only[qt]at hl h;simp! [rE,aJ,mW,sg];show AW ha hs G ∅ ∅ λr a' s' hr h6 h8 h7 Y=>?_;simp! [aJ,mW,length_map];show#[by simp only[bW];lia,?_];rw[Lz L (x,c,r)];show ih a' s' r (L++[(x,c,r)]) _ _ h8 h7 Y hr h6 (λd hd=>hc d (qk _ hd)) (by rw[qq,qC];lia) (λt ht=>?_) λa2 s2 x2 L' F v h1 h2 h3 h4 h5=>h a2 s2 x2 L' F v h1 h2 h3 (by rw[h4,qq,qC];lia) h5;rcases qy.mp ht with z|z
  .show hL t z
  .rw[qv.mp z];show#[#[hx,O],#[hr,h6],.inr (hc c qm)]
def TM{D':Ends}{many M:Int}{v G:List Nat}{s3 s7 s8 s9 F B:Option S}(hM:0<=M)(h6:M<=60){a s:Int}{L:List St}(ha:0<=a)(hs:1<=s)(z:s<=2147483629)(Y:L.length<=150)(hL:∀t∈L,jG many v G t)
  (h:∀a' s'(L':List St),0<=a'->1<=s'->s'<=2147483629->L'.length<=150->((aL (L'.map eG)).length:Int)<=M->(∀t∈L',jG many v G t)->D'.nx [some (aJ a' s'),some (.sh (.str v)),some (.sh (.str G)),s3,some (.sh (.int M)),some `ah,some (mW L'),s7,s8,s9,F,B]):
  dN (aP mY (wB jK (zl (wB kN `bu) zm)) `W) iJ D' [some `br,some (.sh (.str v)),some (.sh (.str G)),s3,some (.sh (.int M)),some `ah,some (mW L),s7,s8,s9,F,B]:=by
 show Jf (λm U=>∃(a s:Int)(L:List St),0<=a/\1<=s/\s<=2147483629/\L.length<=150/\m=L.length/\(∀t∈L,jG many v G t)/\U=[some `br,some (.sh (.str v)),some (.sh (.str G)),s3,some (.sh (.int M)),some `ah,some (mW L),s7,s8,s9,F,B]) _ #[a,s,L,ha,hs,z,Y,rfl,hL,rfl] λm U hJ=>?_;let#[a,s,L,ha,hs,z,Y,rfl,hL,rfl]:=hJ;simp! [mW,zav,length_map,JH (l:=L.map eG) #[LA L,by rw[length_map];show Y]];let h2:=Kv `dl;rw[qo]at h2;cases q:decide (M<((aL (L.map eG)).length:Int))
 .simp! [uK];show h a s L ha hs z Y (by let:=of_decide_eq_false q;lia) hL
 .let q':=qU q;simp! [uJ,rB,aJ,length_map];show AW ha hs z ∅ ∅ λr a' s' hr h5 h3 h1 J=>?_;simp! [aJ,length_map];let O:r.toNat<L.length:=by lia
  show Jy hr (by simp only[qo,bW];lia) (OE (d:=eG L[r.toNat]) (by rw[qF,qh O];rfl)) ?_;simp! [aJ];let h4:(L.eraseIdx r.toNat).length=L.length-1:=List.length_eraseIdx_of_lt O;show#[L.length-1,∅,a',s',L.eraseIdx r.toNat,h3,h1,J,∅,∅,λt ht=>hL t (List.mem_of_mem_eraseIdx ht),?_];rw[Hq,Hq]
def VU{a s R M:Int}{B J:List Nat}(ha:0<=a)(hs:1<=s)(v:s<=2147483629)(hR:0<R)(hR2:R<=900)(hM:0<=M)(hM2:M<=60)(hc:0<B.length)(hc2:B.length<=26)(hw:J.length<=25)
  (h:∀(many:Int)(sts:List St) a' s',1<=many->many<=R->(sts.length:Int)<=M->(∀t∈sts,jG many B J t)->(sts.map eG).Pairwise (eC · ·=true)->(sts.map eG).Nodup->0<=a'->1<=s'->s'<=2147483629->P (.sh (jR many sts)) [aJ a' s',.sh (.str B),.sh (.str J),.sh (.int R),.sh (.int M)]):
  uN [aJ a s,.sh (.str B),.sh (.str J),.sh (.int R),.sh (.int M)] P PX:=by
 show BG rfl rfl ?_;simp! [aJ];show AW ha hs v hR ∅ λr a1 s1 hr hr2 r1 hi h7=>?_;simp! [aJ];show AW r1 hi h7 ⋯ ⋯ λr2 a2 s2 hr20 hr22 hq hs2' Y=>?_;simp! [aJ];show#[by simp only[bW];lia,?_];let hne:(decide (B=[]))=false:=by simp;intro z;rw[z]at hc;simp at hc
 show KU (λk U=>∃(a s:Int)(L:List St)(o7 o8 o9 F:Option S),0<=a/\1<=s/\s<=2147483629/\L.length=k*J.length/\(∀t∈L,jG (1+r) B J t)/\U=[some `br,some (.sh (.str B)),some (.sh (.str J)),some (.sh (.int R)),some (.sh (.int M)),some (.sh (.int (1+r))),some (mW L),o7,o8,o9,F,none]) _ (λk x hx D2 U hI hd hct hrt hbk=>?_) (λU hI=>?_) #[a2,s2,[],none,none,none,none,hq,hs2',Y,by simp,λ_ z=>(nomatch z),rfl]
 .obtain⟨a,s,L,o7,o8,o9,F,ha,hs,v,hL,G,rfl⟩:=hI;let hk:k<4:=by let:=(qg.mp hx).1;rw[DN]at this;lia
  let hb:k*J.length<=3*25:=mul_le_mul ∅ hw;simp! [rD,aJ];show AW ha hs v ∅ ∅ λr3 a3 s3 hl h8 hm hp O=>?_;simp! [aJ,nk];show Uh ∅ ∅ J a3 s3 r3 L _ _ hm hp O hl h8 (λc hc=>hc) ∅ G λa' s' x' L' o9 F h1 h2 h3 h4 h5=>hd _ #[a',s',L',_,_,o9,F,h1,h2,h3,?_,h5,rfl];rw[h4,hL,succ_mul]
 .obtain⟨a,s,L,o7,o8,o9,F,ha,hs,v,hL,G,rfl⟩:=hI;rw[DN]at hL;let hb:r2.toNat*J.length<=3*25:=mul_le_mul ∅ hw;simp! [aJ];show AW ha hs v ∅ ∅ λr4 a4 s4 hr4 hr42 ha4 hs4 k3=>?_;simp! [aJ,hne,Bool.not_false,if_true,mul_one];show#[by simp only[bW];lia,?_];refine KU (λk U=>∃(a s:Int)(L:List St)(o7 o8 o9 F h9:Option S),0<=a/\1<=s/\s<=2147483629/\L.length<=75+k/\(∀t∈L,jG (1+r) B J t)/\U=[some `br,some (.sh (.str B)),some (.sh (.str J)),some (.sh (.int R)),some (.sh (.int M)),some (.sh (.int (1+r))),some (mW L),o7,o8,o9,F,h9]) _ (λk x hx D2 U hI hd hct hrt hbk=>?_) (λU hI=>?_) #[a4,s4,L,o7,o8,o9,F,none,ha4,hs4,k3,∅,G,rfl]
  .obtain⟨a,s,L,o7,o8,o9,F,h9,ha,hs,v,hL,G,rfl⟩:=hI;let hk:k<61:=by let:=(qg.mp hx).1;rw[DN]at this;lia
   simp! [rC,aJ];show AW ha hs v ∅ ∅ λx1 a1 s1 hx1 k2 r1 hi h7=>?_;simp! [aJ];show AW r1 hi h7 ∅ ∅ λy1 a2 s2 hy1 k1 hq v Y=>?_;simp! [aJ,mW];show AW hq v Y ∅ ∅ λr3 a3 s3 hl h8 hm hp O=>?_;let#[c,hcm,_,e]:=GC (l:=B) hl h8;simp! [aJ,e,length_map];show#[by simp only[bW];lia,?_];rw[Lz L (x1,c,y1)];show hd _ #[a3,s3,L++[(x1,c,y1)],_,_,_,_,_,hm,hp,O,by rw[qq,qC];lia,λt ht=>?_,rfl];rcases qy.mp ht with z|z
   .show G t z
   .rw[qv.mp z];show#[#[hx1,k2],#[hy1,k1],.inl hcm]
  .obtain⟨a,s,L,o7,o8,o9,F,h9,ha,hs,v,hL,G,rfl⟩:=hI;rw[DN]at hL;simp! [e_C];show TM (L:=L) hM hM2 ha hs v ∅ G λa' s' L' h1 h2 h3 h4 h5 h6=>?_;let#[sts,e1,e2,e3,e4,e5]:=SZ h6 ∅;simp! [mW,zav,length_map,JH (l:=L'.map eG) #[LA L',by rw[length_map];show h4],e1];show h (1+r) sts a' s' ∅ ∅ ∅ e3 e4 e5 h1 h2 h3
def ff:D->Int
 |.int i=>i
 |_=>0
def Jz:∀{l:List D},(∀d∈l,∃i,d=D.int i)->(l.map ff).map D.int=l
 |[],_=>rfl
 |d::l,h=>by let#[i,rfl]:=h d qm;rw[qz,qz,Jz λe v=>h e (qk _ v)];rfl
def kF(sts:List St)(c:Nat)(ns:List Int):List Int:=(sts.filter λt=>decide (t.2.1=c)&&decide (t.1∈ns)).map (·.2.2)
def nx(sts:List St)(c:Nat)(ns:List Int):List Int:=(cE (aL ((kF sts c ns).map D.int))).map ff
def Mi(sts:List St)(c:Nat)(ns:List Int):(kF sts c ns).length<=sts.length:=by unfold kF;rw[qo];show length_filter_le ..
def Kb{l:List Int}{d:D}(h:d∈aL `ai):∃i,d=D.int i:=by let#[i,_,rfl]:=qK.mp (zaR.mp h);show#[i,rfl]
def Gj(sts:List St)(c:Nat)(ns:List Int):(nx sts c ns).map D.int=cE (aL ((kF sts c ns).map D.int)):=Jz λd v=>Kb ((EG _).mem_iff.mp v)
def Rf(sts:List St)(c:Nat)(ns:List Int):(nx sts c ns).length<=sts.length:=by
 let h1:(nx sts c ns).length=(aL ((kF sts c ns).map D.int)).length:=by unfold nx;rw[qo];show(EG _).length_eq
 let h2:=Kv ((kF sts c ns).map D.int);let v:=Mi sts c ns;rw[qo]at h2;lia
def SU(l:List Int):bX `ai=true:=by unfold bX;rw[or_eq_true];show .inl (qI.mpr λd v=>?_);let#[t,_,rfl]:=qK.mp v;rfl
def Us{l:List D}(h:∀d∈l,∃i,d=D.int i)(v:l.length<64):cF l=some (.lst ((cE l).map .sh)):=by unfold cF;rw[q4 (.inl #[v,.inl (by rw[<-Jz h,Kq];rfl)])]
def aY(sts:List St)(w:List Nat)(x:Int):List Int:=w.foldl (λv c=>nx sts c v) [x]
def Kt(sts:List St)(w:List Nat)(c:Nat)(x:Int):aY sts (w++[c]) x=nx sts c (aY sts w x):=by unfold aY;rw[foldl_append];rfl
def Nu(sts:List St)(w:List Nat)(x:Int):(aY sts w x).length<=sts.length+1:=by
 rcases List.eq_nil_or_concat w with rfl|⟨v,c,rfl⟩
 .simp[aY]
 .rw[List.concat_eq_append,Kt];let:=Rf sts c (aY sts v x);lia
def QP(sts:List St)(c:Nat)(ns:List Int):(sts.filterMap λt=>if(decide ([t.2.1]=[c])&&decide (t.1∈ns))=true then some (S.sh (.int t.2.2))else none)=((kF sts c ns).map D.int).map S.sh:=by
 unfold kF;induction sts with
 |nil=>rfl
 |cons t sts v=>
  let e:(decide ([t.2.1]=[c])&&decide (t.1∈ns))=(decide (t.2.1=c)&&decide (t.1∈ns)):=by simp
  cases q:(decide (t.2.1=c)&&decide (t.1∈ns))
  .rw[List.filterMap_cons_none (by rw[e,q];rfl),v,List.filter_cons_of_neg (a:=t) (by rw[q];show qX)]
  .rw[List.filterMap_cons_some (b:=S.sh (.int t.2.2)) (by rw[e,q];rfl),v,filter_cons_of_pos (a:=t) (by show q)];rfl
def OF{many x:Int}{sts:List St}{w:List Nat}(hl:sts.length<=60)
  (h:P (.sh (.lst ((aY sts w x).map D.int))) [.sh (jR many sts),.sh `Z,.sh (.int x)]):pO [.sh (jR many sts),.sh `Z,.sh (.int x)] P PX:=by
 show BG rfl rfl ?_;simp! [zav,nk];show Dc (λv U=>∃F,U=[some (.sh (jR many sts)),some (.sh `Z),some (.sh (.int x)),some (.sh (.lst ((aY sts v x).map D.int))),F]) w (λv c O D2 U e M J h4 Y h5=>?_) (λU M=>?_) #[none,rfl]
 .obtain⟨F,rfl⟩:=M;simp! [rA,jR,sg];refine XB (n:=5) (toD:=eG) sts (λt=>if(decide ([t.2.1]=[c])&&decide (t.1∈aY sts v x))=true then some (S.sh (.int t.2.2))else none) (λt ht l o o' G K h3 L=>?_) λo o' G=>?_
  .cases z:decide ([t.2.1]=[c])
   .simp! [eG,cN,uI,length_cons,length_nil,z,Bool.false_and,false_eq_true,if_false];let:=L (some (.sh (.int t.1))) (some (.sh (.str [t.2.1]))) (some (.sh (.int t.2.2)));simp only[z,Bool.false_and,false_eq_true,if_false,Option.toList,qA]at this;show this
   .cases B:decide (t.1∈aY sts v x)
    .simp! [eG,cN,uI,length_cons,length_nil,z,B,NA,if_true,Bool.and_false,false_eq_true,if_false];let:=L (some (.sh (.int t.1))) (some (.sh (.str [t.2.1]))) (some (.sh (.int t.2.2)));simp only[z,B,Bool.and_false,false_eq_true,if_false,Option.toList,qA]at this;show this
    .simp! [eG,cN,iI,length_cons,length_nil,z,B,NA,if_true,pZ];show#[by simp only[bW];lia,?_];let:=L (some (.sh (.int t.1))) (some (.sh (.str [t.2.1]))) (some (.sh (.int t.2.2)));simp only[z,B,Bool.and_true,if_true,Option.toList]at this;show this
  .rw[QP];let h1:=Mi sts c (aY sts v x);let h2:=Kv ((kF sts c (aY sts v x)).map D.int);rw[qo]at h2;simp! [zav,JH #[SU (kF sts c (aY sts v x)),by rw[length_map];lia],Us (λd hd=>Kb hd) (show(aL ((kF sts c (aY sts v x)).map D.int)).length<64 by lia)];rw[<-Gj,<-Kt];show J _ #[_,rfl]
 .obtain⟨F,rfl⟩:=M;simp! [e_C];show h
def pD(p:Int×Int):D:=.tup [.int p.1,.int p.2]
def nT(m:Nat)(sts:List St)(w:List Nat):List (Int×Int):=(List.range m).flatMap λ(x:Nat)=>(aY sts w (x:Int)).map λy=>((x:Int),y)
def fR(m:Nat)(sts:List St)(w:List Nat):List D:=(nT m sts w).map pD
def ME(sts:List St)(w:List Nat):∀m,(fR m sts w).length<=m*(sts.length+1)
 |0=>by simp[fR,nT]
 |m+1=>by let h1:=ME sts w m;let h2:=Nu sts w m;unfold fR nT at h1⊢;rw[qo]at h1⊢;rw[range_succ,flatMap_append,qq,succ_mul];simp only[List.flatMap_cons,List.flatMap_nil,qA,qo];lia
def Te(m:Nat)(sts:List St)(w:List Nat):fR (m+1) sts w=fR m sts w++(aY sts w m).map λy=>D.tup [.int m,.int y]:=by unfold fR nT;rw[range_succ,flatMap_append];simp[pD]
def KE{m:Nat}{sts:List St}{w:List Nat}(M:sts.length<=60)(hm:m<=900)
  (h:P (.sh (.tup (fR m sts w))) [.sh (jR m sts),.sh `Z]):nJ [.sh (jR m sts),.sh `Z] P PX:=by
 show BG rfl rfl ?_;simp! [jR];show#[by simp only[bW];lia,?_];rw[BD (n:=m) rfl];show Dc (λv U=>∃z,U=[some (.sh (jR m sts)),some (.sh `Z),some (.lst ((fR v.length sts w).map .sh)),z]) `cj (λv k G D2 U e F B h1 J h2=>?_) (λU F=>?_) #[none,rfl]
 .obtain⟨z,rfl⟩:=F;let#[Y,O]:=Hn e;simp! [pY];show OF M ?_;simp! [e_C];let he:=Nu sts w (k:Int);let ht:=ME sts w v.length;let hb:v.length*(sts.length+1)<=900*61:=mul_le_mul ∅ ∅;refine FH (n:=4) (toD:=D.int) (aY sts w k) (λy=>S.sh (.tup [.int k,.int y])) (λy hy l o K L hK=>?_) λo=>?_
  .simp! [cN,iI,pX,length_cons,length_nil];show#[by simp only[bW];lia,hK _]
  .simp! [length_map];show#[by simp only[bW];lia,B _ #[some (.sh (.int k)),?_]];rw[qq,qC,Te,map_append,Y,qE];rfl
 .obtain⟨z,rfl⟩:=F;rw[qD];simp! [zav];show h
def nD(n:Nat):D:=.int (n:Int)
def Hb{a b:Nat}(h:nD a=nD b):a=b:=by
 unfold nD at h;injection h with h
 lia
def aX(v:List (Nat×Nat))(k:Nat):List Nat:=(v.filter λt=>decide (t.1=k)).map (·.2)
def IL(v:List (Nat×Nat))(t:Nat×Nat)(k:Nat):aX (v++[t]) k=aX v k++(if t.1=k then[t.2]else[]):=by
 unfold aX;rw[filter_append,map_append];congr 1;by_cases h:t.1=k
 .rw[q4 h,filter_cons_of_pos (by show qR h)];rfl
 .rw[q5 h,List.filter_cons_of_neg (by rw[qT];show h)];rfl
structure pE(G:List (Nat×List Nat))(pre:List (Nat×Nat)):Prop where
 nd:(G.map (·.1)).Nodup
 val:∀p∈G,p.2=aX pre p.1
 all:∀t∈pre,t.1∈G.map (·.1)
 len:G.length<=pre.length
def dC(G:List (Nat×List Nat)):List D:=G.map λp=>nD p.1
def iW(G:List (Nat×List Nat)):List S:=G.map λp=>S.lst ((p.2.map nD).map S.sh)
def jI(G:List (Nat×List Nat)):List D:=G.map λp=>D.lst (p.2.map nD)
def gS(G:List (Nat×List Nat)):S:=.dct false (dC G) (iW G)
def LB(G:List (Nat×List Nat)):(gS G).toD=.dct false (dC G) (jI G):=by unfold gS iW jI;rw[S.toD_dct,qE];congr 1;show map_congr_left λp _=>?_;simp[Function.comp_def]
def Re{G:List (Nat×List Nat)}{k:Nat}:(∃m p,fS (dC G) (nD k)=some m/\G[m]?=some p/\p.1=k)\/(fS (dC G) (nD k)=none/\k∉G.map (·.1)):=by
 unfold fS dC;cases q:(G.map λp=>nD p.1).findIdx? (λx=>open Classical in decide (x=nD k))with
 |some m=>let#[h1,h2,_]:=List.findIdx?_eq_some_iff_getElem.mp q;rw[qo]at h1;show .inl #[m,G[m],rfl,qh h1,?_];rw[List.getElem_map]at h2;show Hb ↑h2
 |none=>show .inr #[rfl,λz=>?_];let#[p,v,rfl]:=qK.mp z;let:=findIdx?_eq_none_iff.mp q (nD p.1) (qK.mpr #[p,v,rfl]);simp at this
def QW{G:List (Nat×List Nat)}{B:List (Nat×Nat)}(h:pE G B)(t:Nat×Nat):∃(G':List (Nat×List Nat))(l':List Nat),pE G' (B++[t])/\l'.length<=B.length/\
  (bI (dC G) (iW G) (nD t.1)).2.1[(bI (dC G) (iW G) (nD t.1)).2.2]?=some (.lst ((l'.map nD).map .sh))/\
  S.dct false (bI (dC G) (iW G) (nD t.1)).1 ((bI (dC G) (iW G) (nD t.1)).2.1.set (bI (dC G) (iW G) (nD t.1)).2.2 (.lst ((l'.map nD).map .sh++[.sh (nD t.2)])))=gS G':=by
 let Y:∀k,(aX B k).length<=B.length:=λk=>by unfold aX;rw[qo];show length_filter_le ..
 rcases Re (G:=G) (k:=t.1)with⟨m,p,e1,J,e3⟩|⟨e1,J⟩
 .have hm:=(qg.mp J).1;let hp:p∈G:=qM J;let es:bI (dC G) (iW G) (nD t.1)=(dC G,iW G,m):=by unfold bI;rw[e1]
  let L:∀j,j<G.length->(G[j]?.map (·.1))=some t.1->j=m:=λj v z=>by show(List.getElem?_inj (l:=G.map (·.1)) (by rw[qo];show v) h.nd).mp ?_;rw[qF,qF,z,J];show _=some p.1;rw[e3]
  show#[G.set m (p.1,p.2++[t.2]),p.2,#[?_,λq M=>?_,λu h1=>?_,by rw[length_set,qq];let:=h.len;lia],by rw[h.val p hp];show Y _,?_,?_]
  .have:(G.set m (p.1,p.2++[t.2])).map (·.1)=G.map (·.1):=by
    rw[map_set];apply ext_getElem?;intro j;rw[getElem?_set];by_cases v:m=j
    .subst v;rw[q4 rfl,q4 (by rw[qo];show hm),qF,J];rfl
    .rw[q5 v]
   rw[this];show h.nd
  .obtain⟨j,v,rfl⟩:=getElem_of_mem M;rw[length_set]at v;rw[List.getElem_set];by_cases F:m=j
   .rw[q4 F];show p.2++[t.2]=aX (B++[t]) p.1;rw[IL,e3,q4 rfl,h.val p hp,e3]
   .rw[q5 F,IL,q5 λz=>F (L j v (by rw[qh v,z];rfl)).symm,qA];show h.val _ (getElem_mem v)
  .have hk:∀k∈G.map (·.1),k∈(G.set m (p.1,p.2++[t.2])).map (·.1):=λk hk=>by
    let#[q,M,rfl]:=qK.mp hk;let#[j,v,rfl]:=getElem_of_mem M;by_cases F:m=j
    .subst F;show qK.mpr #[(p.1,p.2++[t.2]),List.mem_set v _,?_];rw[qh v]at J;cases J;rfl
    .show qK.mpr #[G[j],?_,rfl];let:(G.set m (p.1,p.2++[t.2]))[j]?=some G[j]:=by rw[getElem?_set_ne F,qh v]
     show qM this
   rcases qy.mp h1 with z|z
   .show hk _ (h.all u z)
   .rw[qv.mp z];show hk _ (qK.mpr #[p,hp,e3])
  .rw[es];show(iW G)[m]?=_;unfold iW;rw[qF,J];rfl
  .rw[es];unfold gS dC iW;show S.dct false (G.map λp=>nD p.1) ((G.map λp=>S.lst ((p.2.map nD).map S.sh)).set m _)=_;congr 1
   .rw[map_set];apply ext_getElem?;intro j;rw[getElem?_set];by_cases v:m=j
    .subst v;rw[q4 rfl,q4 (by rw[qo];show hm),qF,J];rfl
    .rw[q5 v]
   .rw[map_set];congr 2;simp
 .have es:bI (dC G) (iW G) (nD t.1)=(dC G++[nD t.1],iW G++[.lst []],(dC G).length):=by unfold bI;rw[e1]
  let hl:(dC G).length=(iW G).length:=by unfold dC iW;simp
  let O:aX B t.1=[]:=by unfold aX;rw[map_eq_nil_iff,List.filter_eq_nil_iff];intro u L z;rw[qT]at z;show J (z▸h.all u L)
  show#[G++[(t.1,[t.2])],[],#[?_,λq M=>?_,λu L=>?_,by rw[qq,qq];let:=h.len;simp only[qC];lia],zero_le _,?_,?_]
  .rw[map_append];show qx.mpr #[h.nd,by simp,λa ha b hb e=>by rw[qz,map_nil,qv]at hb;let h3:b=t.1:=hb;rw[e,h3]at ha;show J ha]
  .rcases qy.mp M with z|z
   .rw[IL,q5 λy=>J (qK.mpr #[q,z,y.symm]),qA];show h.val q z
   .rw[qv.mp z,IL,q4 rfl,O];rfl
  .rw[map_append];rcases qy.mp L with z|z
   .show qj _ (h.all u z)
   .rw[qv.mp z];show qi _ (by simp)
  .rw[es];show(iW G++[S.lst []])[(dC G).length]?=_;rw[hl,getElem?_append_right `j,sub_self];rfl
  .rw[es];show S.dct false (dC G++[nD t.1]) ((iW G++[S.lst []]).set (dC G).length _)=_;rw[hl,List.set_append_right _ _ `j,sub_self];unfold gS dC iW;rw[map_append,map_append];rfl
def Ji{f:Nat->List Nat}{k:Nat}:∀{G:List (Nat×List Nat)},(∀p∈G,p.2=f p.1)->lk (dC G) (jI G) (nD k)=some (.lst ((f k).map nD))\/(lk (dC G) (jI G) (nD k)=none/\k∉G.map (·.1))
 |[],_=>.inr #[rfl,λz=>nomatch z]
 |p::G,h=>by
  let e:lk (dC (p::G)) (jI (p::G)) (nD k)=(open Classical in if nD p.1=nD k then some (D.lst (p.2.map nD))else lk (dC G) (jI G) (nD k)):=rfl;by_cases v:p.1=k
  .left
   rw[e,q4 (by rw[v]),h p qm,v]
  .rw[e,q5 λz=>v (Hb z)];rcases Ji (G:=G) (f:=f) (k:=k) λq B=>h q (qk _ B)with z|⟨z,y⟩
   .show .inl z
   .show .inr #[z,λw=>?_];rw[qz,qB]at w;rcases w with w|w
    .show v w.symm
    .show y w
def LH:∀{l m:List D},l.Nodup->(∀d∈l,d∈m)->l.length<=m.length
 |[],_,_,_=>zero_le _
 |d::l,m,h,hs=>by
  obtain⟨m1,B,rfl⟩:=append_of_mem (hs d qm);let#[h1,h2]:=qL.mp h;let:=LH (l:=l) (m:=m1++B) h2 λe v=>by
   rcases qy.mp (hs e (qk _ v))with z|z
   .show qj _ z
   .rcases qB.mp z with rfl|z
    .show absurd v h1
    .show qi _ z
  simp only[qq,qt]at this⊢;lia
def VY(l:List D)(d:D):aL (l++[d])=cS (aL l) d:=by unfold aL;rw[foldl_append];rfl
def eO(m:Nat)(f:Nat->Nat->Bool):List (Nat×Nat):=(List.range m).flatMap λx=>((List.range m).filter (f x)).map λy=>(x,y)
def pN(p:Nat×Nat):D:=.tup [nD p.1,nD p.2]
def tD(m:Nat)(f:Nat->Nat->Bool):List D:=(eO m f).map pN
def Lr{a b:Nat×Nat}(h:pN a=pN b):a=b:=by
 unfold pN at h;injection h with h
 injection h with h1 h2
 injection h2 with h2 _
 show Prod.ext (Hb h1) (Hb h2)
theorem zaV{m:Nat}{f:Nat->Nat->Bool}{p:Nat×Nat}:p∈eO m f↔p.1<m/\p.2<m/\f p.1 p.2=true:=by
 unfold eO;simp only[mem_flatMap,qK,mem_filter,qJ];constructor
 .rintro⟨x,z,y,⟨v,B⟩,rfl⟩;show#[z,v,B]
 .rintro⟨h1,h2,F⟩;show#[p.1,h1,p.2,#[h2,F],rfl]
def LM(m:Nat)(f:Nat->Nat->Bool):(eO m f).Pairwise λp q=>p.1<q.1\/p.1=q.1/\p.2<q.2:=by
 unfold eO;rw[List.pairwise_flatMap];show#[λx _=>?_,pairwise_lt_range.imp λ{a b} h x z y v=>?_]
 .rw[pairwise_map];show(pairwise_lt_range.sublist List.filter_sublist).imp λ{a b} h=>.inr #[rfl,h]
 .obtain⟨_,_,rfl⟩:=qK.mp z;let#[_,_,rfl]:=qK.mp v;show .inl h
def Nf(m:Nat)(f:Nat->Nat->Bool):(tD m f).Nodup:=by unfold tD;show pairwise_map.mpr ((LM m f).imp λ{a b} h z=>?_);obtain rfl:=Lr z;lia
def GX(m:Nat)(f:Nat->Nat->Bool):(tD m f).length<=m*m:=by
 unfold tD eO;rw[qo,List.length_flatMap];let:∀l:List Nat,(l.map λx=>(((List.range m).filter (f x)).map λy=>(x,y)).length).sum<=l.length*m:=λl=>by
  induction l with
  |nil=>simp
  |cons x l v=>have h1:=length_filter_le (f x) `cj;rw[qD]at h1;rw[qz,sum_cons,qt,succ_mul,qo];lia
 let h:=this `cj;rwa[qD]at h
def Ie(p:Nat×Nat):gU [false,false] (pN p):=by show True;trivial
def Qg{p q:Nat×Nat}(h:p.1<q.1\/p.1=q.1/\p.2<q.2):eC (pN p) (pN q)=true:=by
 rw[show eC (pN p) (pN q)=_ from EL (Ie p) (Ie q)];show(!((match cH (.int q.1) (.int p.1)with|.eq=>(match cH (.int q.2) (.int p.2)with|.eq=>Ordering.eq|o=>o)|o=>o)==.lt))=true;rw[Hd,Hd];by_cases e:(q.1:Int)=p.1
 .rw[q5 ∅,q5 ∅,q5 ∅,q4 ∅];rfl
 .rw[q5 ∅,q4 ∅];rfl
def SI{m:Nat}{f:Nat->Nat->Bool}{l:List (Nat×Nat)}(h:∀p,p∈l↔p∈eO m f):cE (aL (l.map pN))=tD m f:=by
 show FR (Ij [false,false]) (λd z=>?_) ?_ ?_
 .obtain⟨p,_,rfl⟩:=qK.mp (zaR.mp z);show Ie p
 .show(List.perm_ext_iff_of_nodup (Nf m f) (IK _)).mpr λd=>?_;rw[zaR];unfold tD;simp only[qK];show#[λ⟨p,v,e⟩=>#[p,(h p).mpr v,e],λ⟨p,v,e⟩=>#[p,(h p).mp v,e]]
 .unfold tD;show pairwise_map.mpr ((LM m f).imp Qg)
def LV{m:Nat}{l:List (Nat×Nat)}(h:∀p∈l,p.1<m/\p.2<m):(aL (l.map pN)).length<=m*m:=by
 let h1:=LH (l:=aL (l.map pN)) (m:=tD m λ_ _=>true) (IK _) λd z=>by let#[p,v,rfl]:=qK.mp (zaR.mp z);show qK.mpr #[p,zaV.mpr #[(h p v).1,(h p v).2,rfl],rfl]
 show le_trans h1 (GX m _)
def SJ{m:Nat}{f:Nat->Nat->Bool}{l:List (Nat×Nat)}(v:m<=8)(h:∀p,p∈l↔p∈eO m f):cY [.set (aL (l.map pN))]=some (.lst ((tD m f).map .sh)):=by
 show cF _=_;let h1:=LV (m:=m) (l:=l) λp F=>by let:=zaV.mp ((h p).mp F);show#[this.1,this.2.1]
 let h2:m*m<=8*8:=mul_le_mul v v;unfold cF;let B:∀d∈aL (l.map pN),gU [false,false] d:=λd G=>by let#[p,_,rfl]:=qK.mp (zaR.mp G);show Ie p
 rw[q4 (.inr #[∅,.inr #[[false,false],λz=>(nomatch z),B]]),SI h]
def Ru{p:Nat×Nat}{l:List (Nat×Nat)}:bX (pN p::aL (l.map pN))=true:=by
 unfold bX;rw[or_eq_true];show .inr (qI.mpr λd v=>?_);rcases qB.mp v with rfl|z
 .rfl
 .obtain⟨j,_,rfl⟩:=qK.mp (zaR.mp z);rfl
def OR{ps:List (Nat×Nat)}(hl:ps.length<=64)(h:∀G,pE G ps->P (gS G) [.sh (.tup (ps.map pN))]):fc [.sh (.tup (ps.map pN))] P PX:=by
 show BG rfl rfl ?_;simp! [e_C];show Dc (toD:=pN) (λv U=>∃(G:List (Nat×List Nat))(J F:Option S),pE G v/\U=[some (.sh (.tup (ps.map pN))),some (gS G),J,F]) ps (λv t h2 D2 U e Y L h7 h3 h8=>?_) (λU Y=>?_) #[[],none,none,#[.nil,λ_ z=>(nomatch z),λ_ z=>(nomatch z),q8 _],rfl]
 .obtain⟨G,J,F,B,rfl⟩:=Y;let h4:v.length<=ps.length:=by rw[<-e];simp
  let#[G',l',h1,h5,e1,e2]:=QW B t;let M:(dC G).Nodup:=by unfold dC;let:=B.nd;rw[show(G.map λp=>nD p.1)=(G.map (·.1)).map nD by rw[qE];rfl];show List.Pairwise.map _ (λa b O z=>O (Hb z)) this
  let h6:(dC G).length<=64:=by let:=B.len;unfold dC;rw[qo];lia
  simp! [vI,pN,length_cons,length_nil,gS];show#[rfl,M,by simp only[bW];lia,?_];rw[SL e1];simp! [length_map];show#[by simp only[bW];lia,?_];rw[e2];show L _ #[G',_,_,h1,rfl]
 .obtain⟨G,J,F,B,rfl⟩:=Y;simp! [e_C];show h G B
def cps(v one:List (Nat×Nat)):List (Nat×Nat):=one.flatMap λp=>(aX v p.2).map λz=>(p.1,z)
theorem ziM{v one:List (Nat×Nat)}{p:Nat×Nat}:p∈cps v one↔∃y,(p.1,y)∈one/\(y,p.2)∈v:=by
 unfold cps aX;simp only[mem_flatMap,qK,mem_filter,qT];constructor
 .rintro⟨q,F,z,⟨r,⟨B,e⟩,rfl⟩,rfl⟩;show#[q.2,F,by rw[<-e];show B]
 .rintro⟨y,h1,h2⟩;show#[(p.1,y),h1,p.2,#[(y,p.2),#[h2,rfl],rfl],rfl]
def Vm{Q:Env->Prop}{E:WX}{G:List (Nat×List Nat)}{m:Nat}{one v:List (Nat×Nat)}{s0 s1 O M B:Option S}(hm:m<=8)(hG:pE G v)(h1:∀p∈one,p.1<m)(h2:∀p∈v,p.2<m)
  (h6:∀O M B,Q [s0,s1,some (.sh `G),some (.set (aL ((cps v one).map pN))),O,M,B]):
  aN (eK [zn 4,zn 5]) cO jX (one.map pN) [s0,s1,some (.sh `G),some (.set []),O,M,B] Q E:=by
 show GA (λF U=>∃O M B,U=[s0,s1,some (.sh `G),some (.set (aL ((cps v F).map pN))),O,M,B]) one (λF r h7 K U e hI hK=>?_) (λU hI=>?_) #[O,M,B,rfl]
 .obtain⟨O,M,B,rfl⟩:=hI;let hr:r∈one:=by rw[<-e];simp
  let eb:cps v (F++[r])=cps v F++(aX v r.2).map λz=>(r.1,z):=by unfold cps;rw[flatMap_append];simp
  let h4:∀q∈cps v one,q.1<m/\q.2<m:=λq hq=>by let#[y,z1,z2]:=ziM.mp hq;show#[h1 (q.1,y) z1,h2 (y,q.2) z2]
  have L:∀(xs:List Nat)(B:Option S),xs=aX v r.2->aN (zn 6) cO jY (xs.map nD) [s0,s1,some (.sh `G),some (.set (aL ((cps v F).map pN))),some (.sh (nD r.1)),some (.sh (nD r.2)),B] K E:=λxs B ex=>by
   show GA (λJ U=>∃B,U=[s0,s1,some (.sh `G),some (.set (aL ((cps v F++J.map λz=>(r.1,z)).map pN))),some (.sh (nD r.1)),some (.sh (nD r.2)),B]) xs (λJ z h3 K2 U e2 Y h5=>?_) (λU Y=>?_) #[B,by simp]
   .obtain⟨B,rfl⟩:=Y;let hb:=LV (m:=m) (l:=cps v F++J.map λz=>(r.1,z)) λq hq=>h4 q (by
     rw[<-e];unfold cps;rw[flatMap_append,qy];rcases qy.mp hq with y|y
     .show .inl y
     .show .inr (mem_flatMap.mpr #[r,qm,?_]);rw[<-ex,<-e2,map_append];show qj _ y)
    let h8:m*m<=8*8:=mul_le_mul hm hm;simp! [cN,iI,vH];show#[Ru (p:=(r.1,z)),∅,?_];rw[show D.tup [nD r.1,nD z]=pN (r.1,z) from rfl,<-VY];show h5 _ #[some (.sh (nD z)),by simp]
   .obtain⟨B,rfl⟩:=Y;rw[ex,<-eb];show hK _ #[_,_,_,rfl]
  simp! [cN,iI,vG,pN,length_cons,length_nil];let el:mU `G (nD r.2)=some (lk (dC G) (jI G) (nD r.2)):=rfl;rcases Ji (k:=r.2) hG.val with z|⟨z,y⟩
  .simp! [el,z];show L _ _ rfl
  .have hn:[]=aX v r.2:=by
    unfold aX
    symm
    rw[map_eq_nil_iff,List.filter_eq_nil_iff];intro u hu w;rw[qT]at w;show y (w▸hG.all u hu)
   simp! [el,z];show L [] _ hn
 .obtain⟨O,M,B,rfl⟩:=hI;show h6 O M B
def mO(m:Nat)(f g:Nat->Nat->Bool)(x z:Nat):Bool:=(List.range m).any λy=>f x y&&g y z
def QY{m:Nat}{f g:Nat->Nat->Bool}(p:Nat×Nat):p∈cps (eO m g) (eO m f)↔p∈eO m (mO m f g):=by
 rw[ziM,zaV];unfold mO;simp only[zaV,any_eq_true,qJ,and_eq_true];constructor
 .rintro⟨y,⟨h1,h2,B⟩,F,z,v⟩;show#[h1,z,y,h2,B,v]
 .rintro⟨h1,z,y,h2,B,v⟩;show#[y,#[h1,h2,B],h2,z,v]
def Vx{m:Nat}{f g:Nat->Nat->Bool}(v:m<=8)(h:P (.sh (.tup (tD m (mO m f g)))) [.sh `aa,.sh `cc]):ig [.sh `aa,.sh `cc] P PX:=by
 let J:m*m<=8*8:=mul_le_mul v v;let B:∀f,(eO m f).length<=m*m:=λf=>by let:=GX m f;unfold tD at this;rwa[qo]at this
 let Y:=B g;let hc:=GX m (mO m f g);show BG rfl rfl ?_;simp! [e_C];unfold tD at h⊢;show OR (ps:=eO m g) ∅ λG F=>?_;simp! [LB];show Vm v F (λp z=>(zaV.mp z).1) (λp z=>(zaV.mp z).2.1) λO M L=>?_;simp! [SJ v QY,zav];show h
def jE(m:Nat)(f:Nat->Nat->Bool)(v:List Nat):List (Nat×Nat):=v.flatMap λx=>((List.range m).filter (f x)).map λy=>(x,y)
def UA{m:Nat}{f:Nat->Nat->Bool}{v:List Nat}{x:Nat}:jE m f (v++[x])=jE m f v++((List.range m).filter (f x)).map λy=>(x,y):=by unfold jE;rw[flatMap_append];simp
def NH{m:Nat}{f:Nat->Nat->Bool}:∀v:List Nat,(jE m f v).length<=v.length*m
 |[]=>by simp[jE]
 |x::l=>by let h1:=length_filter_le (f x) `cj;let z:=NH (m:=m) (f:=f) l;rw[qD]at h1;unfold jE at z⊢;rw[List.flatMap_cons,qq,qt,succ_mul,qo];lia
def iX(m:Nat)(f:Nat->Nat->Bool)(x y:Nat):Bool:=decide (x<m)&&(decide (y<m)&&f x y)
theorem zfH{m x y:Nat}{f:Nat->Nat->Bool}:pN (x,y)∈tD m f↔iX m f x y=true:=by unfold tD iX;rw[and_eq_true,and_eq_true,qT,qT];show#[λh=>?_,λh=>qK.mpr #[(x,y),zaV.mpr h,rfl]];let#[p,v,e]:=qK.mp h;obtain rfl:=Lr e;show zaV.mp v
open Classical in
def SG{m x y:Nat}{f:Nat->Nat->Bool}{vs:List D}:kM (.tup [.int (x:Int),.int (y:Int)]) (.dct true (tD m f) vs)=some (iX m f x y):=by
 show some (decide (pN (x,y)∈tD m f))=_;congr 1;cases q:iX m f x y
 .show qS λh=>by rw[zfH.mp h]at q;cases q
 .show qR (zfH.mpr q)
open Classical in
def QD{m x y:Nat}{f:Nat->Nat->Bool}:kM (.tup [.int (x:Int),.int (y:Int)]) `aa=some (iX m f x y):=by
 show(if(tD m f).any (λd=>aS d (.tup [.int (x:Int),.int (y:Int)])||decide (30<eP d))then none else some (decide (pN (x,y)∈tD m f)))=_;rw[q5]
 .congr 1;cases q:iX m f x y
  .show qS λh=>by rw[zfH.mp h]at q;cases q
  .show qR (zfH.mpr q)
 .intro h;let#[d,v,e]:=any_eq_true.mp h;let#[p,_,rfl]:=qK.mp v;cases e
def mX(M m:Nat)(f g:Nat->Nat->Bool)(x y:Nat):Bool:=(List.range M).all λz=>!iX m g y z||iX m f x z
def Sj{M m x y:Nat}{f g:Nat->Nat->Bool}(G:m<=M):((aX (eO m g) y).map λz=>iX m f x z).all id=mX M m f g x y:=by
 unfold mX aX;rw[Bool.eq_iff_iff];simp only[qI,qK,mem_filter,zaV,qJ,or_eq_true,Bool.not_eq_true',qT,id];constructor
 .intro h z F;cases q:iX m g y z
  .show .inl rfl
  .show .inr (h _ #[z,#[(y,z),#[?_,rfl],rfl],rfl]);unfold iX at q;simpa using q
 .rintro h b ⟨z,⟨p,⟨⟨h1,h2,B⟩,v⟩,rfl⟩,rfl⟩;subst v;rcases h p.2 ∅with e|e
  .let:iX m g p.1 p.2=true:=by unfold iX;simp[h1,h2,B]
   rw[this]at e;cases e
  .show e
def Se{t:Bool}{ks:List D}{l:List S}{k:D}{s:S}(h:k∉ks):cG t ks l k s=.dct t (ks++[k]) (l++[s]):=by
 unfold cG;let:fS ks k=none:=by unfold fS;rw[findIdx?_eq_none_iff];intro x v;simp only[decide_eq_false_iff_not];show λz=>h (z▸v)
 rw[this]
def mH(l:List (Nat×Nat)):S:=.dct true (l.map pN) ((l.map λ_=>D.bl true).map .sh)
def Uu{Q:Env->Prop}{E:WX}{m x:Nat}{f:Nat->Nat->Bool}{vs:List D}{v:List Nat}{s0 O M L J G F o:Option S}(hl:v.length<=64)
  (B:∀o,Q [s0,O,M,some (.sh (.dct true (tD m f) vs)),L,J,G,some (.sh (.int (x:Int))),F,some (.lst (((v.map λz=>iX m f x z).map D.bl).map .sh)),o]):
  aN (zn 10) cO jW (v.map nD) [s0,O,M,some (.sh (.dct true (tD m f) vs)),L,J,G,some (.sh (.int (x:Int))),F,some (.lst []),o] Q E:=by
 show FH (n:=9) (toD:=nD) v (λz=>S.sh (.bl (iX m f x z))) (λz hz l o K Y hK=>?_) λo=>?_
 .simp! [cN,iI,vE,length_cons,length_nil,nD,SG];show#[by simp only[bW];lia,hK _]
 .rw[show(v.map λz=>S.sh (.bl (iX m f x z)))=((v.map λz=>iX m f x z).map D.bl).map S.sh by simp[Function.comp_def]];show B o
def WC{M m:Nat}{f g:Nat->Nat->Bool}(hm:m<=M)(hM:M<=8)(h:P (.sh (.tup (tD M (mX M m f g)))) [.sh (.int (M:Int)),.sh `aa,.sh `cc]):ie [.sh (.int (M:Int)),.sh `aa,.sh `cc] P PX:=by
 let e1:m*m<=8*8:=mul_le_mul ∅ ∅;let hl:∀f,(eO m f).length<=m*m:=λf=>by let:=GX m f;unfold tD at this;rwa[qo]at this
 let h7:=hl f;let h6:=hl g;show BG rfl rfl ?_;simp! [e_C];show aN _ _ _ ((eO m f).map pN) _ _ _;show GA (λB U=>∃L:Option S,U=[some (.sh (.int (M:Int))),some (.sh `aa),some (.sh `cc),none,none,none,some (mH B),L]) (eO m f) (λB t h1 K U e hI hK=>?_) (λU hI=>?_) #[none,rfl]
 .obtain⟨L,rfl⟩:=hI;let h2:((eO m f).map pN).Nodup:=Nf m f;rw[<-e,map_append,qz]at h2;let#[n1,n2,n3]:=qx.mp h2;let h5:B.length<65:=by let:=congrArg List.length e;rw[qq]at this;lia
  simp! [cN,iI,vF,mH,length_cons,length_nil,length_map];show#[rfl,n1,by simp only[bW];lia,?_];rw[Se λz=>n3 _ z (pN t) (qm ..) rfl];let:=hK _ #[some (.sh (pN t)),rfl];unfold mH at this;simp only[map_append,qz,map_nil]at this⊢;show this
 .obtain⟨L,rfl⟩:=hI;simp! [mH];show OR (ps:=eO m g) ∅ λG hG=>?_;simp! [LB];show#[by simp only[bW];lia,?_];rw[BD (n:=M) rfl];show#[by rw[qo,qD];simp only[bW];lia,?_];refine GA (toD:=nD) (λB U=>∃L J:Option S,U=[some (.sh (.int (M:Int))),some (.sh `aa),some (.sh `cc),some (.sh (.dct true (tD m f) ((eO m f).map λ_=>D.bl true))),some (.sh `G),some (.sh (.lst ((List.range M).map nD))),some (.lst (((jE M (mX M m f g) B).map pN).map .sh)),L,J]) (List.range M) (λB x h1 K U e hI hK=>?_) (λU hI=>?_) #[none,none,rfl]
  .obtain⟨L,J,rfl⟩:=hI;let#[hk,hx]:=Hn e;let hr:=NH (m:=M) (f:=mX M m f g) B;let h9:B.length*M<=8*8:=mul_le_mul ∅ hM;simp! [cN,iI,vD,nD];refine GA (toD:=nD) (λF U=>∃J:Option S,U=[some (.sh (.int (M:Int))),some (.sh `aa),some (.sh `cc),some (.sh (.dct true (tD m f) ((eO m f).map λ_=>D.bl true))),some (.sh `G),some (.sh (.lst ((List.range M).map nD))),some (.lst (((jE M (mX M m f g) B++(F.filter (mX M m f g x)).map λy=>(x,y)).map pN).map .sh)),some (.sh (.int (x:Int))),J]) (List.range M) (λF y h3 K2 U e2 Y O=>?_) (λU Y=>?_) #[J,by simp]
   .obtain⟨J,rfl⟩:=Y;let#[h8,hy]:=Hn e2;let hf:=length_filter_le (mX M m f g x) F;let el:mU `G (nD y)=some (lk (dC G) (jI G) (nD y)):=rfl;simp! [cN,el];let ea:=Sj (x:=x) (y:=y) (f:=f) (g:=g) hm;let h4:(aX (eO m g) y).length<=64:=by let:=length_filter_le (λt:Nat×Nat=>decide (t.1=y)) (eO m g);unfold aX;rw[qo];lia
    rcases Ji (k:=y) hG.val with z|⟨z,w⟩
    .rw[z];simp! [e_C];show Uu h4 λo=>?_;cases q:mX M m f g x y
     .simp! [Jl,ea,q,uI];show O _ #[some (.sh (nD y)),?_];rw[filter_append,List.filter_cons_of_neg (by rw[q];show qX),List.filter_nil,qA]
     .simp! [Jl,ea,q,iI,nQ,length_map,length_append,length_cons,length_nil];show#[by simp only[bW];lia,O _ #[some (.sh (nD y)),?_]];rw[filter_append,filter_cons_of_pos (by show q)];simp[pN,nD]
    .let hn:aX (eO m g) y=[]:=by unfold aX;rw[map_eq_nil_iff,List.filter_eq_nil_iff];intro u hu v;rw[qT]at v;exact w (v▸hG.all u hu)
     rw[z];simp! [e_C];rw[hn]at ea;let q:mX M m f g x y=true:=ea.symm;simp! [show oX [D.lst []]=some (.sh `bt) from Jl [],iI,nQ,qo,qq,qt,qw];show#[by simp only[bW];lia,O _ #[some (.sh (nD y)),?_]];rw[filter_append,filter_cons_of_pos (by show q)];simp[pN,nD]
   .obtain⟨J,rfl⟩:=Y;rw[<-UA];show hK _ #[_,_,rfl]
  .obtain⟨L,J,rfl⟩:=hI;simp! [zav];show h
def eqT(x y:Nat):Bool:=decide (x=y)
def ft(m:Nat)(fs:List (Nat->Nat->Bool))(f:Nat->Nat->Bool)(t:Bool×Nat):Nat->Nat->Bool:=
 if t.1 then mO m f (fs.getD t.2 eqT)else mX m m f (fs.getD t.2 eqT)
def yZ(m:Nat)(fs:List (Nat->Nat->Bool))(ss:List (Bool×Nat)):Nat->Nat->Bool:=ss.foldl (ft m fs) eqT
def eU(m:Nat)(fs:List (Nat->Nat->Bool)):List D:=fs.map λf=>.tup (tD m f)
def mL(t:Bool×Nat):D:=.tup [.str (if t.1 then[111,110]else[98,97,99,107]),nD t.2]
def MQ{m:Nat}{fs:List (Nat->Nat->Bool)}{ss:List (Bool×Nat)}{t:Bool×Nat}:yZ m fs (ss++[t])=ft m fs (yZ m fs ss) t:=by unfold yZ;rw[foldl_append];rfl
def Me{m k:Nat}{fs:List (Nat->Nat->Bool)}(h:k<fs.length):atI (eU m fs) (k:Int)=some (.tup (tD m (fs.getD k eqT))):=by show Du ∅ ?_;unfold eU;rw[qF,show(k:Int).toNat=k by lia,List.getD_eq_getElem?_getD,qh h];rfl
def Mt{x:Nat}:∀m,(List.range m).filter (eqT x)=if x<m then[x]else[]
 |0=>rfl
 |m+1=>by
  rw[range_succ,filter_append,Mt m];by_cases h:x=m
  .subst h;rw[q5 ∅,q4 ∅,filter_cons_of_pos (by simp[eqT])];rfl
  .rw[List.filter_cons_of_neg (by simpa[eqT] using h)];by_cases h2:x<m
   .rw[q4 h2,q4 ∅];rfl
   .rw[q5 h2,q5 ∅];rfl
def RX{m:Nat}:((List.range m).map λx=>(x,x))=eO m eqT:=by
 unfold eO;rw[flatMap_def,map_congr_left (g:=λx=>[(x,x)]) λx z=>by rw[Mt,q4 (qJ.mp z)];rfl];induction List.range m with
 |nil=>rfl
 |cons a l v=>rw[qz,qz,flatten_cons,<-v];rfl
def Px{m:Nat}:((List.range m).map λx=>pN (x,x))=tD m eqT:=by unfold tD;rw[<-RX,qE];rfl
def WR{m:Nat}{fs:List (Nat->Nat->Bool)}{ss:List (Bool×Nat)}(G:m<=8)(hs:∀t∈ss,t.2<fs.length)
  (h:P (.sh (.tup (tD m (yZ m fs ss)))) [.sh (.int (m:Int)),.sh (.tup (eU m fs)),.sh (.tup (ss.map mL))]):ic [.sh (.int (m:Int)),.sh (.tup (eU m fs)),.sh (.tup (ss.map mL))] P PX:=by
 show BG rfl rfl ?_;simp! [e_C];show#[by simp only[bW];lia,?_];rw[BD (n:=m) rfl];show FH (n:=6) (toD:=nD) `cj (λx=>S.sh (pN (x,x))) (λx hx l o K Y hK=>?_) λo=>?_
 .rw[qD]at Y;simp! [cN,iI,vB,length_cons,length_nil];show#[by simp only[bW];lia,hK _]
 .rw[show((List.range m).map λx=>S.sh (pN (x,x)))=(tD m eqT).map S.sh by rw[<-Px,qE];rfl];let h4:m*m<=8*8:=mul_le_mul G G;let Y:=GX m eqT;simp! [zav];refine Dc (toD:=mL) (λz U=>∃F B:Option S,U=[some (.sh (.int (m:Int))),some (.sh (.tup (eU m fs))),some (.sh (.tup (ss.map mL))),some (.sh (.tup (tD m (yZ m fs z)))),F,B]) ss (λz t M D2 U e L J h2 h1 h3=>?_) (λU L=>?_) #[none,none,rfl]
  .obtain⟨F,B,rfl⟩:=L;let O:=hs t (by rw[<-e];simp);let v:=λF B=>J _ #[F,B,rfl];rw[MQ]at v;let#[b,k]:=t;unfold ft at v;cases b
   .simp! [nP,mL,nD,length_cons,length_nil,show decide (([98,97,99,107]:List Nat)=[111,110])=false by decide,Me O,false_eq_true,if_false];show WC `j G ?_;simp! [e_C];show v _ _
   .simp! [nP,mL,nD,length_cons,length_nil,show decide (([111,110]:List Nat)=[111,110])=true by decide,Me O,if_true];show Vx G ?_;simp! [e_C];show v _ _
  .obtain⟨F,B,rfl⟩:=L;simp! [e_C];show h
@[inline]def Wk(R:Int->Nat->Int->Prop):List Nat->Int->Int->Prop
 |[],x,y=>x=y
 |c::w,x,y=>∃z,R x c z/\Wk R w z y
theorem zeR{R:Int->Nat->Int->Prop}{c:Nat}:∀{w:List Nat}{x y:Int},Wk R (w++[c]) x y↔∃z,Wk R w x z/\R z c y
 |[],x,y=>by show(∃z,R x c z/\z=y)↔∃z,x=z/\R z c y;show#[λ⟨z,h,e⟩=>#[x,rfl,e▸h],λ⟨z,e,h⟩=>#[y,e▸h,rfl]]
 |d::w,x,y=>by
  show(∃z,R x d z/\Wk R (w++[c]) z y)↔∃z,(∃v,R x d v/\Wk R w v z)/\R z c y;constructor
  .rintro⟨z,h,k⟩;let#[v,F,B]:=zeR.mp k;show#[v,#[z,h,F],B]
  .rintro⟨z,⟨v,h,k⟩,B⟩;show#[v,h,zeR.mpr #[z,k,B]]
def vR(sts:List St)(a:Int)(c:Nat)(b:Int):Prop:=(a,c,b)∈sts
def RG{sts:List St}{c:Nat}{ns:List Int}{i:Int}:i∈kF sts c ns↔∃z∈ns,vR sts z c i:=by
 unfold kF vR;simp only[qK,mem_filter,and_eq_true,qT];constructor
 .rintro⟨⟨a,d,b⟩,⟨h1,h2,B⟩,v⟩;cases h2;cases v;show#[a,B,h1]
 .rintro⟨z,h1,h2⟩;show#[(z,c,i),#[h2,rfl,h1],rfl]
def Nw{l:List Int}{i:Int}:D.int i∈l.map D.int↔i∈l:=#[λh=>by let#[j,v,e]:=qK.mp h;cases e;show v,λh=>qK.mpr #[i,h,rfl]]
def Qf{sts:List St}{c:Nat}{ns:List Int}{i:Int}:i∈nx sts c ns↔∃z∈ns,vR sts z c i:=by rw[<-Nw,Gj,(EG _).mem_iff,zaR,Nw,RG]
def ND{sts:List St}{y:Int}:∀{w:List Nat}{ns:List Int},y∈w.foldl (λns c=>nx sts c ns) ns↔∃x∈ns,Wk (vR sts) w x y
 |[],ns=>#[λh=>#[y,h,rfl],λ⟨x,h,e⟩=>e▸h]
 |c::w,ns=>by rw[foldl_cons,ND];simp only[Qf];show#[λ⟨x,⟨z,h1,h2⟩,v⟩=>#[z,h1,x,h2,v],λ⟨z,h1,x,h2,v⟩=>#[x,#[z,h1,h2],v]]
theorem zfP{sts:List St}{w:List Nat}{x y:Int}:y∈aY sts w x↔Wk (vR sts) w x y:=by unfold aY;rw[ND];show#[λ⟨z,h,k⟩=>by rw[qv.mp h]at k;show k,λh=>#[x,qv.mpr rfl,h]]
def Pe{sts:List St}{c:Nat}{ns:List Int}:(nx sts c ns).Pairwise (·<·):=by
 let hi:∀d∈aL ((kF sts c ns).map D.int),mJ d:=λd v=>by let#[i,rfl]:=Kb v;trivial
 let h1:=Hz Hf _ hi;let h2:(cE (aL ((kF sts c ns).map D.int))).Nodup:=(EG _).nodup_iff.mpr (IK _);rw[<-Gj]at h1 h2;rw[pairwise_map]at h1;show(h1.and (pairwise_map.mp h2)).imp λ{a b} h=>?_;let e:=h.1;rw[GZ,qT]at e;let:a≠b:=λz=>h.2 (by rw[z]);lia
def Si{sts:List St}{w:List Nat}{x:Int}:(aY sts w x).Pairwise (·<·):=by
 rcases List.eq_nil_or_concat w with rfl|⟨v,c,rfl⟩
 .show List.pairwise_singleton ..
 .rw[List.concat_eq_append,Kt];show Pe
def Li{m:Int}{sts:List St}(hs:∀t∈sts,0<=t.2.2/\t.2.2<m){w:List Nat}{x y:Int}(h:Wk (vR sts) w x y)(B:0<=x/\x<m):0<=y/\y<m:=by
 rcases List.eq_nil_or_concat w with rfl|⟨v,c,rfl⟩
 .let:x=y:=h;lia
 .rw[List.concat_eq_append,zeR]at h;let#[z,_,h]:=h;show hs _ h
def Lo{R:Int->Nat->Int->Prop}{v:List Nat}:∀{u:List Nat}{x z:Int},Wk R (u++v) x z↔∃y,Wk R u x y/\Wk R v y z
 |[],x,z=>#[λh=>#[x,rfl,h],λ⟨y,e,h⟩=>by cases e;show h]
 |c::u,x,z=>by show(∃a,R x c a/\Wk R (u++v) a z)↔∃y,(∃a,R x c a/\Wk R u a y)/\Wk R v y z;simp only[Lo (u:=u)];show#[λ⟨a,h,y,h1,h2⟩=>#[y,#[a,h,h1],h2],λ⟨y,⟨a,h,h1⟩,h2⟩=>#[a,h,y,h1,h2]]
@[inline]def Wn(sts:List St)(w:List Nat)(x y:Nat):Prop:=Wk (vR sts) w (x:Int) (y:Int)
def inR(m:Nat)(sts:List St):Prop:=∀t∈sts,0<=t.2.2/\t.2.2<(m:Int)
def Ig{m:Nat}{sts:List St}(hs:inR m sts){u v:List Nat}{x z:Nat}(B:x<m):Wn sts (u++v) x z↔∃y,y<m/\Wn sts u x y/\Wn sts v y z:=by
 unfold Wn;rw[Lo];constructor
 .rintro⟨y,h1,h2⟩;let:=Li hs h1 #[∅,∅];let e:((y.toNat:Nat):Int)=y:=by lia
  show#[y.toNat,∅,by rwa[e],by rwa[e]]
 .rintro⟨y,_,h1,h2⟩;show#[y,h1,h2]
def gA(sts:List St)(w:List Nat)(x y:Nat):Bool:=decide ((y:Int)∈aY sts w (x:Int))
theorem zbM{sts:List St}{w:List Nat}{x y:Nat}:gA sts w x y=true↔Wn sts w x y:=by unfold gA Wn;rw[qT,zfP]
def Mk{m:Nat}{sts:List St}(hs:inR m sts){w:List Nat}{x:Nat}(v:x<m):aY sts w (x:Int)=((List.range m).filter (gA sts w x)).map λ(y:Nat)=>(y:Int):=by
 let h1:=Si (sts:=sts) (w:=w) (x:=(x:Int));let h2:(((List.range m).filter (gA sts w x)).map λ(y:Nat)=>(y:Int)).Pairwise (·<·):=pairwise_map.mpr ((pairwise_lt_range.sublist List.filter_sublist).imp λ{a b} h=>by lia);show List.Perm.eq_of_pairwise (le:=(·<·)) (λa b _ _ _ _=>by lia) h1 h2 ((List.perm_ext_iff_of_nodup (h1.imp λ{a b} h=>by lia) (h2.imp λ{a b} h=>by lia)).mpr λi=>?_);simp only[qK,mem_filter,qJ];constructor
 .intro h;let:=Li hs (zfP.mp h) #[∅,∅];let e:((i.toNat:Nat):Int)=i:=by lia
  show#[i.toNat,#[∅,by unfold gA;rw[e];show qR h],e]
 .rintro⟨y,⟨_,h⟩,rfl⟩;show qU h
def Jp{m:Nat}{sts:List St}(hs:inR m sts){w:List Nat}:fR m sts w=tD m (gA sts w):=by unfold fR nT tD eO;rw[List.map_flatMap,List.map_flatMap,flatMap_def,flatMap_def];show congrArg List.flatten (map_congr_left λx v=>?_);rw[Mk hs (qJ.mp v),qE,qE,qE];rfl
def NN{w:Wd}{p q:Nat}(h:p<=q):w.take q=w.take p++eB w p q:=by unfold eB;rw[<-take_add,show p+(q-p)=q by lia]
def Nv{w:Wd}{p q:Nat}(h:p<=q):w.drop p=eB w p q++w.drop q:=by unfold eB;let:=take_append_drop (q-p) `ch;rw[drop_drop,show p+(q-p)=q by lia]at this;show this.symm
structure Zi(m:Nat)(sts:List St)(w:Wd)(f:Nat->Nat->Bool)(p:Nat):Prop where
 a:∀x y,x<m->y<m->Wn sts (w.take p) x y->f x y=true
 b:∀x y z,x<m->y<m->f x y=true->Wn sts `ch y z->Wn sts w x z
def Ta{m:Nat}{sts:List St}{w:Wd}:Zi m sts w eqT 0:=by
 show#[λx y _ _ h=>qR ?_,λx y z _ _ h k=>?_]
 .let e:(x:Int)=y:=h;lia
 .cases qU h;show k
def Pn{m:Nat}{sts:List St}{w:Wd}{f:Nat->Nat->Bool}{p q:Nat}(hs:inR m sts)(h:p<=q)(z:Zi m sts w f p):Zi m sts w (mO m f (gA sts (eB w p q))) q:=by
 show#[λx y F J k=>?_,λx y u F J k G=>?_]
 .rw[NN h,Ig hs F]at k;let#[v,B,L,G]:=k;show any_eq_true.mpr #[v,qJ.mpr B,by rw[z.a x v F B L,zbM.mpr G];rfl]
 .obtain⟨v,B,e⟩:=any_eq_true.mp k;rw[and_eq_true]at e;let B:=qJ.mp B;show z.b x v u F B e.1 (by rw[Nv h,Ig hs B];show#[y,J,zbM.mp e.2,G])
def Rt{m:Nat}{sts:List St}{w:Wd}{f:Nat->Nat->Bool}{p q:Nat}(hs:inR m sts)(h:q<=p)(z:Zi m sts w f p):Zi m sts w (mX m m f (gA sts (eB w q p))) q:=by
 show#[λx y F G k=>qI.mpr λv B=>?_,λx y u F G k J=>?_]
 .let B:=qJ.mp B;unfold iX;rw[qR F,qR G,qR B];cases e:gA sts (eB w q p) y v
  .rfl
  .rw[z.a x v F B (by rw[NN h,Ig hs F];show#[y,G,k,zbM.mp e])];rfl
 .rw[Nv h,Ig hs G]at J;let#[v,B,L,J]:=J;let e:=qI.mp k v (qJ.mpr B);unfold iX at e;rw[qR F,qR G,qR B,zbM.mpr L]at e;show z.b x v u F B e J
def eV(B:List Wd)(w:Wd)(l:List Nat):List (Bool×Nat):=(kH l).map λt=>(decide (t.1<t.2),gK B w t.1 t.2)
def KI(B:List Wd)(w:Wd)(l:List Nat):(kH l).map (eE B w)=(eV B w l).map mL:=by
 unfold eV;rw[qE];show map_congr_left λt _=>?_;show eE B w t=mL (decide (t.1<t.2),gK B w t.1 t.2);unfold eE mL fx;by_cases h:t.1<t.2
 .rw[q4 h,qR h];rfl
 .rw[q5 h,qS h];rfl
def Ms{B:List Wd}{w:Wd}{p q:Nat}(h:aG B w p q):eB w (min p q) (max p q)∈B/\p≠q:=by
 unfold aG iQ at h;rw[or_eq_true]at h;rcases h with v|v
 .obtain⟨a,_,b⟩:=zaw.mp v;rw[show min p q=p by lia,show max p q=q by lia];show#[b,∅]
 .obtain⟨a,_,b⟩:=zaw.mp v;rw[show min p q=q by lia,show max p q=p by lia];show#[b,∅]
def Lv{B:List Wd}{w:Wd}{p q:Nat}(h:aG B w p q):gK B w p q<B.length:=List.idxOf_lt_length_iff.mpr (Ms h).1
def Sl{B:List Wd}{w:Wd}{p q:Nat}{g:Wd->Nat->Nat->Bool}(h:aG B w p q):(B.map g).getD (gK B w p q) eqT=g `ag:=by let hi:=Lv h;rw[List.getD_eq_getElem?_getD,qF,qh hi];show g _=_;rw[show B[gK B w p q]=eB w (min p q) (max p q) from List.getElem_idxOf hi]
def LP{m:Nat}{sts:List St}{B:List Wd}{w:Wd}{l:List Nat}{fs:List (Nat->Nat->Bool)}(hs:inR m sts)(G:∀t∈kH l,aG B w t.1 t.2)(M:l[0]?=some 0)
  (L:∀t∈kH l,fs.getD (gK B w t.1 t.2) eqT=gA sts (eB w (min t.1 t.2) (max t.1 t.2))):
  ∀k p,l[k]?=some p->Zi m sts w (yZ m fs ((eV B w l).take k)) p
 |0,p,h=>by rw[M]at h;cases h;show Ta
 |k+1,q,h=>by
  let hk:=(qg.mp h).1;let#[p,q',e1,Y,O]:=Jo hk;rw[h]at Y;cases Y;let F:=LP hs G M L k p e1;let J:=qM O;let e4:(eV B w l)[k]?=some (decide (p<q),gK B w p q):=by unfold eV;rw[qF,O];rfl
  let#[b1,b2]:=qg.mp e4;rw[List.take_succ_eq_append_getElem b1,b2,MQ];unfold ft;let e5:fs.getD (gK B w p q) eqT=gA sts `ag:=L _ J;rw[e5];let z:=(Ms (G _ J)).2;by_cases v:p<q
  .rw[show min p q=p by lia,show max p q=q by lia,q4 (by show qR v)];show Pn hs ∅ F
  .rw[show min p q=q by lia,show max p q=p by lia,q5 (by rw[qT];show v)];show Rt hs (by let:p≠q:=z;lia) F
def Na{B:List Wd}{w:Wd}{l:List Nat}(h:tQ B w (cW l)=true):(∀t∈kH l,aG B w t.1 t.2)/\l[0]?=some 0/\l.getLast?=some w.length:=by
 unfold tQ at h;rw[and_eq_true,and_eq_true,qI,qT,qT]at h;show#[λt v=>?_,?_,?_]
 .let z:((t.1:Int),(t.2:Int))∈pairsOf (cW l):=by unfold pairsOf cW;rw[<-List.map_drop,List.zip_map];exact qK.mpr #[t,v,rfl]
  let#[a,b,M,J,F]:=Ti (h.2.2 _ z);let L:(t.1:Int)=a:=M;let G:(t.2:Int)=b:=J;rw[show t.1=a by lia,show t.2=b by lia];show F
 .have:=h.1;unfold cW at this;cases l with
  |nil=>cases this
  |cons a l=>
   let e:some (a:Int)=some 0:=this;injection e with e
   show some a=some 0;rw[show a=0 by lia]
 .let:=h.2.1;unfold cW at this;rw[List.getLast?_map]at this;let#[a,h1,h2]:=qY.mp this;rw[h1,show a=w.length by lia]
def Lf:eQ (.lst []) (.lst [])=some false:=by unfold eQ eL;rw[q5 (by rw[show aS (.lst []) (.lst [])=false from rfl,show eP (.lst [])=1 from rfl];simp)];simp
def Jn{α β:Type}{h:α->Option β}:∀{l:List α},(∀x∈l,h x=none)->l.filterMap h=[]
 |[],_=>rfl
 |x::l,e=>by rw[List.filterMap_cons_none (e x qm),Jn λy v=>e y (qk _ v)]
def Lj{m x y:Nat}{f:Nat->Nat->Bool}(z:x<m)(v:y<m)(h:f x y=true):kM (.tup [.int (x:Int),.int (y:Int)]) `aa=some true:=by rw[QD];unfold iX;rw[qR z,qR v,h];rfl
def Wh{m p:Nat}{sts:List St}{w:Wd}{f:Nat->Nat->Bool}(hl:sts.length<=24)(hm:m<=8)(hs:inR m sts)(hw:w.length<=12)(hp:p<=w.length)(hz:Zi m sts w f p)
  (h:P (.sh `bt) [.sh (jR m sts),.sh `Z,.sh (.int (p:Int)),.sh (.tup (tD m (gA sts w))),.sh `aa]):uM [.sh (jR m sts),.sh `Z,.sh (.int (p:Int)),.sh (.tup (tD m (gA sts w))),.sh `aa] P PX:=by
 let h9:m*m<=8*8:=mul_le_mul hm hm;show BG rfl rfl ?_;simp! [Iv w (show(0:Int)<=p by lia) (show(p:Int)<=w.length by lia),toNat_natCast];show KE ∅ ∅ ?_;rw[Jp hs];simp! [e_C];show HZ (n:=8) (toD:=pN) (eO m (gA sts (w.take p))) (λ_=>none) (λt ht l o K v B=>?_) λo=>?_
 .obtain⟨h1,h2,Y⟩:=zaV.mp ht;simp! [cN,uI,pN,nD,Lj h1 h2 (hz.a _ _ h1 h2 (zbM.mp Y))];let:=B (some (.sh (pN t)));simp only[Option.toList,qA]at this;show this
 .rw[Jn λ_ _=>rfl];simp! [Lf,jR];show#[by simp only[bW];lia,?_];rw[BD (n:=m) rfl];refine FH (n:=8) `cj (λy=>S.sh (.lst ((aY sts `ch (y:Int)).map D.int))) (λy hy l o K v B=>?_) λo=>?_
  .rw[qD]at v;simp! [cN,iI,pV,IX w (show(0:Int)<=p by lia),toNat_natCast];show OF (many:=(m:Int)) ∅ ?_;simp! [e_C];show#[by simp only[bW];lia,B _]
  .rw[show((List.range m).map λ(y:Nat)=>S.sh (.lst ((aY sts `ch (y:Int)).map D.int)))=((List.range m).map λ(y:Nat)=>D.lst ((aY sts `ch (y:Int)).map D.int)).map S.sh by rw[qE];rfl];simp! [zav];refine Dc (toD:=pN) (λ_ U=>∃G F:Option S,U=[some (.sh (jR m sts)),some (.sh `Z),some (.sh (.int (p:Int))),some (.sh (.tup (tD m (gA sts w)))),some (.sh `aa),some (.sh (.lst ((List.range m).map λ(y:Nat)=>D.lst ((aY sts `ch (y:Int)).map D.int)))),G,F]) (eO m f) (λh5 t h4 D2 U e O M h7 h6 h8=>?_) (λU O=>?_) #[_,_,rfl]
   .obtain⟨G,F,rfl⟩:=O;let#[h1,h2,Y]:=zaV.mp (show t∈eO m f by rw[<-e];simp);let ea:atI ((List.range m).map λ(y:Nat)=>D.lst ((aY sts `ch (y:Int)).map D.int)) (t.2:Int)=some (.lst ((aY sts `ch (t.2:Int)).map D.int)):=Du ∅ (by rw[qW,qF,getElem?_range h2];rfl);simp! [pW,pN,nD,length_cons,length_nil,ea];rw[Mk hs h2,show((((List.range m).filter (gA sts `ch t.2)).map λ(y:Nat)=>(y:Int)).map D.int)=((List.range m).filter (gA sts `ch t.2)).map nD by rw[qE];rfl];refine HZ (n:=8) (toD:=nD) ((List.range m).filter (gA sts `ch t.2)) (λ_=>none) (λz L l o K v B=>?_) λo=>?_
    .obtain⟨J,k2⟩:=mem_filter.mp L;let J:=qJ.mp J;simp! [cN,uI,nD,length_cons,length_nil,Lj h1 J (zbM.mpr (hz.b _ _ _ h1 h2 Y (zbM.mp k2)))];let:=B (some (.sh (nD z)));simp only[Option.toList,qA]at this;show this
    .rw[Jn λ_ _=>rfl];simp! [Lf];show M _ #[_,_,rfl]
   .obtain⟨G,F,rfl⟩:=O;simp! [e_C];show h
def Pg{B:List Wd}{w:Wd}{l:List Nat}(h:tQ B w (cW l)=true):∀p∈l,p<=w.length:=by
 let#[h1,h2,L]:=Na h;intro p G;let#[k,F,rfl]:=getElem_of_mem G;cases k with
 |zero=>rw[qh F]at h2;injection h2 with h2;lia
 |succ k=>
  let#[a,b,M,v,J]:=Jo F;rw[qh F]at v;injection v with v
  let:=h1 _ (qM J);rw[v];unfold aG iQ at this;rw[or_eq_true]at this;rcases this with z|z
  .show(zaw.mp z).2.1
  .let:=zaw.mp z;let:b<a/\a<=w.length:=#[this.1,this.2.1];lia
def Ee:∀ns:List Int,ns.length<=63->nI [.sh `aq] (λs _=>s=.sh `bt) λ_ _=>False:=by
 intro ns hl;show BG rfl rfl ?_;simp! [length_map];show NG (k:=0) ∅ λa s ha hs F=>?_;simp! [aJ];show Ww ha hs F λc a2 s2 M ha2 F hq=>?_;let h6:=M.f.six;let hd:=M.f.tw;let hn:=M.n;let#[B,Y,r3]:=Na M.z;simp! [aj,length_cons,length_nil];show Xo ∅ ∅ B ?_;rw[KI];simp! [e_C];show NG (k:=1) ∅ λa3 s3 hi h8 h3=>?_;simp! [aJ];show VU hi h8 h3 ⋯ ⋯ ⋯ ⋯ M.c M.c2 ∅ λmany v a4 s4 hm1 k3 k1 e1 _ _ e4 h7 h2=>?_;obtain⟨m,rfl⟩:∃m:Nat,many=(m:Int):=#[many.toNat,∅]
 let G:inR m v:=λt ht=>(e1 t ht).2.1;simp! [e_C];show KE ∅ ∅ ?_;rw[Jp G];simp! [zw];show FH (n:=12) c.B (λb=>S.sh (.tup (fR m v b))) (λb hb l o K hl2 hK=>?_) λo=>?_
 .simp! [cN,iI,pT];show KE ∅ ∅ ?_;simp! [e_C];show#[by simp only[bW];lia,hK _]
 .rw[show(c.B.map λb=>S.sh (.tup (fR m v b)))=(eU m (c.B.map (gA v))).map S.sh by unfold eU;rw[qE,qE];show map_congr_left λb _=>by rw[Jp G];rfl]
  simp! [zav];show#[by simp only[bW];lia,?_];let r1:0<c.l.length:=(qg.mp Y).1;let s1:(eV c.B c.w c.l).length=c.l.length-1:=by unfold eV;rw[qo,MA]
  show Pd (n:=12) (λr:Int=>S.sh (.int r)) _ (λU=>∃a s,0<=a/\1<=s/\s<=2147483629/\U=[some (S.sh (D.lst (List.map D.int ns))),some (S.sh (D.str c.col)),some (S.sh (zw c.B)),some (S.sh (D.str c.w)),some (S.sh (dH c.l)),some (S.sh (D.tup (List.map mL (eV c.B c.w c.l)))),some `br,some (S.sh (jR (m:Int) v)),some (S.sh (D.tup (tD m (gA v c.w)))),some (S.sh (D.tup (eU m (List.map (gA v) c.B)))),none,none]) (λr=>0<=r/\r<c.l.length) (λx hx U A o K O hA hK=>?_) (λU A o O hA hP=>?_) #[a4,s4,e4,h7,h2,rfl]
  .obtain⟨a,s,ha,hs,F,rfl⟩:=O;rw[DN]at hA;simp! [cN,iI,pS,aJ,dH,length_map];show AW ha hs F ∅ ∅ λr a5 s5 hr h9 e3 h5 h1=>?_;simp! [length_map];show#[by simp only[bW];lia,hK _ _ _ #[a5,s5,e3,h5,h1,rfl] #[hr,h9]]
  .obtain⟨a,s,ha,hs,F,rfl⟩:=O;rw[DN]at hA;rw[show(A.map λr:Int=>S.sh (.int r))=(A.map D.int).map S.sh by rw[qE];rfl];simp! [zav,length_map,length_cons,length_nil];rw[show A.map D.int++[D.int ((eV c.B c.w c.l).length:Int)]=(A++[((eV c.B c.w c.l).length:Int)]).map D.int by rw[map_append];rfl];refine Dc (λ_ U=>∃L J:Option S,U=[some (S.sh (D.lst (List.map D.int ns))),some (S.sh (D.str c.col)),some (S.sh (zw c.B)),some (S.sh (D.str c.w)),some (S.sh (dH c.l)),some (S.sh (D.tup (List.map mL (eV c.B c.w c.l)))),some `br,some (S.sh (jR (m:Int) v)),some (S.sh (D.tup (tD m (gA v c.w)))),some (S.sh (D.tup (eU m (List.map (gA v) c.B)))),L,J]) _ (λr2 r hm D2 U e O e2 hct k2 hbk=>?_) (λU O=>?_) #[_,_,rfl]
   .obtain⟨L,J,rfl⟩:=O;let hr:0<=r/\r<c.l.length:=by
     let:r∈A++[((eV c.B c.w c.l).length:Int)]:=by rw[<-e];simp
     rcases qy.mp this with z|z
     .show hP r z
     .rw[qv.mp z];lia
    obtain⟨k,rfl⟩:∃k:Nat,r=(k:Int):=#[r.toNat,∅]
    let hk:k<c.l.length:=∅
    let hp:=qh hk;let zi:=LP G B Y (λt ht=>Sl (g:=gA v) (B t ht)) k _ hp;let h4:c.l[k]<=c.w.length:=Pg M.z _ (getElem_mem hk);generalize c.l[k]=p at hp zi h4;let ea:atI (c.l.map zB) (k:Int)=some (.int (p:Int)):=Du ∅ (by rw[qW,qF,hp];rfl);let ec:bB ((eV c.B c.w c.l).map mL) none (some (k:Int))=((eV c.B c.w c.l).take k).map mL:=by rw[Iv _ ∅ (by rw[qo];lia),qW,List.map_take]
    simp! [pU,jR,ec];show WR ∅ (λt ht=>?_) ?_
    .obtain⟨u,hu,rfl⟩:=qK.mp (mem_of_mem_take ht);rw[qo];show Lv (B u hu)
    .simp! [dH,ea,show∀l,mM "tuple" `ba=true from λ_=>rfl];show Wh ∅ ∅ G hd h4 zi ?_;simp! [e_C];show e2 _ #[_,_,rfl]
   .obtain⟨L,J,rfl⟩:=O;simp! [e_C]
end pu
end Law
section
set_option maxHeartbeats 4000000
namespace Law
open PySem PySem.Spec PyProof.Rows L2 FL
local macro_rules
 |`(tactic|trivial)=>`(tactic|first|exact Or.inl rfl|exact Or.inr rfl)
@[inline]def top(i:Nat):Stmt:=PySem.Challenge.pw_walktold_k35_whole_behind_each_step.main.body.getD i (.Pass #[0,0,0,0])
@[reducible]def jo:Stmt:=top 1
def ts:List Str:=["pairs","ends","begin","end"]
abbrev kc:List Str:=["pairs"]
def ET:aF ts kc (aA jo):=BH
@[reducible]def jn:Stmt:=top 2
def tq:List Str:=["one","other","ends"]
abbrev kb:List Str:=["one","other"]
def HG:aF tq kb (aA jn):=BH
@[reducible]def jm:Stmt:=top 3
def tm:List Str:=["many","one","other","held","ends","rooms"]
abbrev ka:List Str:=["many","one","other"]
def ES:aF tm ka (aA jm):=BH
@[reducible]def jl:Stmt:=top 5
def tj:List Str:=["many","tables","steps","told","way","number"]
abbrev jz:List Str:=["many","tables","steps"]
def DA:aF tj jz (aA jl):=BH
@[reducible]def jk:Stmt:=top 7
def th:List Str:=["_law_script","_law_k","_law_cell","_law_seed"]
abbrev jy:List Str:=["_law_script","_law_k"]
def DY:aF th jy (aA jk):=BH
@[reducible]def jj:Stmt:=top 8
def tf:List Str:=["_law_box_here","_law_many","_law_digit","_law_one"]
abbrev jx:List Str:=["_law_box_here","_law_many"]
def Gi:aF tf jx (aA jj):=BH
@[reducible]def ji:Stmt:=top 9
def td:List Str:=["_law_box_here","_law_many","_law_left"]
abbrev jw:List Str:=["_law_box_here","_law_many"]
def HF:aF td jw (aA ji):=BH
@[reducible]def jh:Stmt:=top 10
def sv:List Str:=["_law_box_here","_law_colours_here","_law_most","_law_many"]
abbrev jv:List Str:=["_law_box_here","_law_colours_here","_law_most"]
def HE:aF sv jv (aA jh):=BH
@[reducible]def jg:Stmt:=top 11
def sk:List Str:=["_law_box_here","_law_colours_here","_law_board_here","_law_one","_law_kind","_law_colour","_law_at"]
abbrev ju:List Str:=["_law_box_here","_law_colours_here","_law_board_here"]
def DX:aF sk ju (aA jg):=BH
@[reducible]def jf:Stmt:=top 12
def si:List Str:=["_law_box_here","_law_colours_here","_law_many","_law_most","_law_found","_law_k","_law_word_here"]
abbrev jt:List Str:=["_law_box_here","_law_colours_here","_law_many","_law_most"]
def DW:aF si jt (aA jf):=BH
@[reducible]def wG:Stmt:=top 13
def kz:List Str:=["_law_board_here","_law_text","_law_p","_law_most","_law_found","_law_one"]
abbrev xD:List Str:=["_law_board_here","_law_text","_law_p","_law_most"]
def Ea:aF kz xD (aA wG):=BH
@[reducible]def wF:Stmt:=top 14
def ky:List Str:=["_law_box_here","_law_board_here","_law_colours_here","_law_most","_law_text","_law_p","_law_turn","_law_some","_law_one","_law_goal","_law_at"]
abbrev xC:List Str:=["_law_box_here","_law_board_here","_law_colours_here","_law_most"]
def AI:aF ky xC (aA wF):=BH
@[reducible]def wD:Stmt:=top 15
def kx:List Str:=["_law_board_here","_law_word_here","_law_found","_law_i","_law_j"]
abbrev xB:List Str:=["_law_board_here","_law_word_here"]
def Dj:aF kx xB (aA wD):=BH
@[reducible]def wA:Stmt:=top 16
def ku:List Str:=["_law_ties_here","_law_p","_law_steps_here","_law_here","_law_one","_law_q","_law_found"]
abbrev xA:List Str:=["_law_ties_here","_law_p"]
def BQ:aF ku xA (aA wA):=BH
@[reducible]def vZ:Stmt:=top 17
def kr:List Str:=["_law_box_here","_law_ties_here","_law_found","_law_turn","_law_more"]
abbrev wZ:List Str:=["_law_box_here","_law_ties_here"]
def Ct:aF kr wZ (aA vZ):=BH
@[reducible]def vY:Stmt:=top 18
def kq:List Str:=["_law_box_here","_law_colours_here","_law_board_here","_law_word_here","_law_places"]
abbrev wY:List Str:=["_law_box_here"]
def Bt:aF kq wY (aA vY):=BH
@[reducible]def vX:Stmt:=top 19
def ko:List Str:=["_law_board_here","_law_word_here","_law_places","_law_found","_law_k","_law_ends_here","_law_number"]
abbrev wX:List Str:=["_law_board_here","_law_word_here","_law_places"]
def Cs:aF ko wX (aA vX):=BH
@[reducible]def vW:Stmt:=top 20
def kl:List Str:=["_law_box_here","_law_colours_here","_law_word_here","_law_rooms","_law_streets","_law_many","_law_found","_law_turn","_law_x","_law_colour","_law_y","_law_k"]
abbrev wW:List Str:=["_law_box_here","_law_colours_here","_law_word_here","_law_rooms","_law_streets"]
def AU:aF kl wW (aA vW):=BH
@[reducible]def vV:Stmt:=top 21
def kj:List Str:=["_law_chart_here","_law_word_here","_law_x","_law_here","_law_colour"]
abbrev wV:List Str:=["_law_chart_here","_law_word_here","_law_x"]
def Di:aF kj wV (aA vV):=BH
@[reducible]def vU:Stmt:=top 22
def ki:List Str:=["_law_chart_here","_law_word_here","_law_found","_law_x"]
abbrev wU:List Str:=["_law_chart_here","_law_word_here"]
def DZ:aF ki wU (aA vU):=BH
@[reducible]def vT:Stmt:=top 23
def kh:List Str:=["_law_chart_here","_law_word_here","_law_p","_law_whole","_law_found","_law_ends_here","_law_x","_law_y"]
abbrev wR:List Str:=["_law_chart_here","_law_word_here","_law_p","_law_whole","_law_found"]
def Dh:aF kh wR (aA vT):=BH
@[reducible]def vS:Stmt:=top 24
def kg:List Str:=["_law_script","_law_colours_here","_law_board_here","_law_word_here","_law_places","_law_steps_here","_law_box_here","_law_chart_here","_law_whole","_law_tables","_law_many","_law_found"]
abbrev wQ:List Str:=["_law_script"]
def AH:aF kg wQ (aA vS):=BH
structure Txt(K:W.Frag)(mg:Str->Option Value)(af:Nat->Addr):Prop where
 t_0:Tx K mg (af 0) "ends_by_begin" jo kc
 t_1:Tx K mg (af 1) "over" jn kb
 t_2:Tx K mg (af 2) "every" jm ka
 t_3:Tx K mg (af 3) "worked_out" jl jz
 t_4:Tx K mg (af 4) "_law_box" jk jy
 t_5:Tx K mg (af 5) "_law_take" jj jx
 t_6:Tx K mg (af 6) "_law_colours" ji jw
 t_7:Tx K mg (af 7) "_law_word" jh jv
 t_8:Tx K mg (af 8) "_law_near" jg ju
 t_9:Tx K mg (af 9) "_law_board" jf jt
 t_10:Tx K mg (af 10) "_law_moves" wG xD
 t_11:Tx K mg (af 11) "_law_led" wF xC
 t_12:Tx K mg (af 12) "_law_ties" wD xB
 t_13:Tx K mg (af 13) "_law_way" wA xA
 t_14:Tx K mg (af 14) "_law_zigzag" vZ wZ
 t_15:Tx K mg (af 15) "_law_scene" vY wY
 t_16:Tx K mg (af 16) "_law_steps" vX wX
 t_17:Tx K mg (af 17) "_law_chart" vW wW
 t_18:Tx K mg (af 18) "_law_ends" vV wV
 t_19:Tx K mg (af 19) "_law_table" vU wU
 t_20:Tx K mg (af 20) "_law_stays" vT wR
 t_21:Tx K mg (af 21) "law" vS wQ
 n_all:mg "all"=none
 n_int:mg "int"=none
 n_isinstance:mg "isinstance"=none
 n_len:mg "len"=none
 n_list:mg "list"=none
 n_min:mg "min"=none
 n_range:mg "range"=none
 n_set:mg "set"=none
 n_sorted:mg "sorted"=none
 n_tuple:mg "tuple"=none
section
variable{P:Program}{w:World}{K:W.Frag}{mg:Str->Option Value}{base:Heap}{af:Nat->Addr}
def HS(T:Txt K mg af):gY P w K mg base af 1 0 kc (eI K fc 1):=BI T.t_0 ET λ_ _ _ _ _ _ v=>Ai (Aq QS (Ah 1 ET.nd))
  (Ai (Cg (by rfl) (Bn `o) (Fo (by rfl) (BY (Ah 2 ET.nd) (BY (Ah 3 ET.nd) Fp))) (Ap (Dv (Wq (j:=1) (EJ v) `B `y `S #[rfl,rfl,rfl,rfl]))))
  (Ap (AZ `B)))
def HI(T:Txt K mg af):gY P w K mg base af 1 4 jy (eI K eh 2):=BI T.t_4 DY λ_ _ _ _ _ _ v=>Ai (Aq (AJ (EH Ag `B) Ag) (Ah 2 DY.nd))
  (Ai (BJ (AQ (λ_ _=>Lp) Mq `B (AR (by rfl) T.n_len (Aa `o Ab)) `aw) (Ap (Aq (AC `o `B) (Ah 2 DY.nd))) (Ap (BJ (AQ (λ_ _=>GE) GF (AR (by rfl) T.n_len (Aa `o Ab)) Ag `aw) (Ap (Aq (AJ `y (EH (Fm (AC `o (Fm `B (AR (by rfl) T.n_len (Aa `o Ab)))) Ag) Ag)) (Ah 2 DY.nd))) BX)))
  (Ai (Aq (AJ (Fm (AJ (EH (Fm `y Ag) Ag) (EH Ag `B)) Ag) Ag) (Ah 3 DY.nd))
  (Ap (AZ (Bo (Aa (AC (Bo (Aa Ag (Aa `y Ab))) (He (by rfl) T.n_int GS (Aa (FN (λ_ _=>Lq) MC `y (Qu Ag Ag) `aw) Ab))) (Aa `S Ab)))))))
def As(T:Txt K mg af):gY P w K mg base af 1 5 jx (eI K eA 2):=BI T.t_5 Gi λ_ _ _ _ _ _ v=>Ai (BJ (AQ (λ_ _=>GE) GF (AC `o Ag) Ag `aw) (Ai (Aq (Fm (AC `o Ag) `B) (Ah 2 Gi.nd))
  (Ai (Nn (j:=0) `o Ag (Mj (AC `o Ag) `B))
  (Ap (AZ `y)))) BX)
  (Ai (Aq (Fm (EH (AC `o Ag) Ag) Ag) (Ah 3 Gi.nd))
  (Ai (Nn (j:=0) `o Ag (AJ (Fm (AJ (EH `S Ag) Ag) Ag) Ag))
  (Ap (AZ (Fm (Mj (AJ (EH `S Ag) (AC `o Ag)) Ag) `B)))))
def HR(T:Txt K mg af):gY P w K mg base af 1 10 xD (eI K uT 4):=BI T.t_10 Ea λ_ _ _ _ _ _ v=>Ai (Aq (Bo Ab) (Ah 4 Ea.nd))
  (Ai (Cg (by rfl) (Bn `o) (Ah 5 Ea.nd) (Ai (BJ (Gz (GW (AQ (λ_ _=>EC (EI v)) EB (Ha `B `y (AJ `y (AR (by rfl) T.n_len `ad))) (FO `cl (ED (AR (by rfl) T.n_len (Aa `B Ab)) `y)) `aw) (Hh (AQ (λ_ _=>Ri) Sh (AJ `y (AR (by rfl) T.n_len `ad)) `S `aw)))) (Ap (Dv (Fq (j:=4) `U (BK (Aa `cl (Aa (AJ `y (AR (by rfl) T.n_len `ad)) Ab)))))) BX)
  (Ap (BJ (Gz (GW (AQ (λ_ _=>Lq) MC `y (AR (by rfl) T.n_len `ad) `aw) (Hh (AQ (λ_ _=>EC (EI v)) EB (Ha `B (ED `y (AR (by rfl) T.n_len `ad)) `y) `cl `aw)))) (Ap (Dv (Fq (j:=4) `U (BK (Aa `cl (Aa (ED `y (AR (by rfl) T.n_len `ad)) Ab)))))) BX))))
  (Ap (AZ `U)))
def Fz(T:Txt K mg af):gY P w K mg base af 1 12 xB (eI K nK 2):=BI T.t_12 Dj λ_ _ _ _ _ _ v=>Ai (Ko (i:=2) ⋯ (λj z=>GP Dj.nd z rfl) rfl (by rfl) (by rfl) (vars:=["_law_p"]) rfl (by rfl) (Aj (by kernel_rfl)) rfl (CZ (by rfl) T.n_range (AJ (AR (by rfl) T.n_len (Aa `B Ab)) Ag)) (λ_ _ _=>Bg 6) (λ_ _ _=>CF) (λ_ _ _=>Bo Ab))
  (Ai (Cg (by rfl) (CZ (by rfl) T.n_range (AR (by rfl) T.n_len (Aa `B Ab))) (Ah 3 Dj.nd) (Ap (Cg (by rfl) (Ob (by rfl) T.n_range (AJ `S Ag) (AJ (AR (by rfl) T.n_len (Aa `B Ab)) Ag)) (Ah 4 Dj.nd) (Ap (BJ (AQ (λ_ _=>Ju `ed) JZ (Ha `B `S `U) `o (by with_unfolding_all rfl)) (Ai (Dv (OW (j:=2) `y `S `U))
  (Ap (Dv (OW (j:=2) `y `U `S)))) BX)))))
  (Ap (AZ (Da (vars:=["_law_some"]) rfl (by rfl) (Aj (by kernel_rfl)) rfl (Bn `y) (λ_ _ _=>Bg 6) (λ_ _ _=>CF) (λ_ _ _=>Ba (Hw v (by rfl) T.n_sorted GM (Aa `cm Ab)))))))
def HP(T:Txt K mg af):gY P w K mg base af 1 13 xA (eI K uQ 2):=BI T.t_13 BQ λ_ _ _ _ _ _ v=>Ai (Aq (Va (ED (AR (by rfl) T.n_len (Aa `o Ab)) Ag) Ag) (Ah 2 BQ.nd))
  (Ai (Aq (Bo (Aa (ED (AR (by rfl) T.n_len (Aa `o Ab)) Ag) Ab)) (Ah 3 BQ.nd))
  (Ai (JS (AQ (λ_ _=>DO `ed) DQ `S (Bo Ab) `aw) (Ai (Aq (Ba (Ka (j:=3) `S Ag)) (Ah 4 BQ.nd))
  (Ap (Cg (by rfl) (Bn (AC `o `U)) (Ah 5 BQ.nd) (Ap (BJ (AQ (λ_ _=>Hr `ed) HB `cl `y (by with_unfolding_all rfl)) (Ai (RZ (j:=2) (EJ v) `y `cl (AJ (Jv (EJ v) `y `U) Ag))
  (Ap (Dv (Fq (j:=3) `S `cl)))) BX))))))
  (Ai (BJ (AQ (λ_ _=>Hr `ed) HB `B `y (by with_unfolding_all rfl)) (Ap (AZ (BK Ab))) BX)
  (Ai (Aq (Bo (Aa `B Ab)) (Ah 6 BQ.nd))
  (Ai (JS (AQ (λ_ _=>DO `ed) DQ (AC `cm (FM Ag)) (ED (AR (by rfl) T.n_len (Aa `o Ab)) Ag) `aw) (Ap (Dv (Fq (j:=6) `cm (Ba (RP (by rfl) (by rfl) T.n_min QM (Aa (Da (vars:=["_law_q"]) rfl (by rfl) (Aj (by kernel_rfl)) rfl (Bn (AC `o (AC `cm (FM Ag)))) (λ_ _ _=>Bg 8) (λ_ _ _=>GJ rfl (AQ (λ_ _=>EC (EI v)) EB (Jv (EJ v) `y (fw 8)) (ED (Jv (EJ v) `y (AC `cm (FM Ag))) Ag) `aw)) (λ_ _ _=>fw 8)) Ab)))))))
  (Ap (AZ (EO (by rfl) T.n_tuple EF (Aa `cm Ab)))))))))
def HM(T:Txt K mg af):gY P w K mg base af 1 16 wX (eI K uO 3):=BI T.t_16 Cs λ_ _ _ _ _ _ v=>Ai (Aq (Bo Ab) (Ah 3 Cs.nd))
  (Ai (Cg (by rfl) (Ob (by rfl) T.n_range Ag (AR (by rfl) T.n_len (Aa `y Ab))) (Ah 4 Cs.nd) (Ai (Aq (Ba (TX (by rfl) T.n_sorted GM (Aa (Ha `y (ED `U Ag) (AJ `U Ag)) Ab))) (Ah 5 Cs.nd))
  (Ai (Aq (VN (Ba (Da (vars:=["_law_one"]) rfl (by rfl) (Aj (by kernel_rfl)) rfl (Bn `o) (λ_ _ _=>Bg 8) (λ_ _ _=>CF) (λ_ _ _=>FN (λ_ _=>EC (EI v)) EB (fw 8) (Ha `B (AC `cl Ag) (AC `cl Ag)) `aw))) (Aa FJ Ab)) (Ah 6 Cs.nd))
  (Ap (Dv (Fq (j:=3) `S (BK (Aa (AC (Bo (Aa (DM (by rfl) ⋯) (Aa (DM (by rfl) ⋯) Ab))) (He (by rfl) T.n_int GS (Aa (FN (λ_ _=>Lp) Mq (AC `y (ED `U Ag)) (AC `y `U) `aw) Ab))) (Aa `cm Ab)))))))))
  (Ap (AZ (EO (by rfl) T.n_tuple EF (Aa `S Ab)))))
def Fx(T:Txt K mg af):gY P w K mg base af 1 18 wV (eI K pO 3):=BI T.t_18 Di λ_ _ _ _ _ _ v=>Ai (Aq (Ba (Bo (Aa `y Ab))) (Ah 3 Di.nd))
  (Ai (Cg (by rfl) (Bn `B) (Ah 4 Di.nd) (Ap (Aq (Ba (Hw v (by rfl) T.n_sorted GM (Aa (JP v (by rfl) T.n_set Jq (Aa (Da (vars:=["_law_y","_law_own","_law_z"]) rfl (by rfl) (Aj (by kernel_rfl)) rfl (Bn (AC `o Ag)) (λ_ _ _=>Fo (by rfl) (BY (Bg 6) (BY (Bg 7) (BY (Bg 8) Fp)))) (λ_ _ _=>GJ rfl (Gz (GW (AQ (λ_ _=>EC (EI v)) EB (fw 7) `U `aw) (Hh (AQ (λ_ _=>Ju `ed) JZ `cm `S (by with_unfolding_all rfl)))))) (λ_ _ _=>fw 8)) Ab)) Ab))) (Ah 3 Di.nd))))
  (Ap (AZ `S)))
def KS(T:Txt K mg af):gY P w K mg base af 2 1 kb (eI K ig 2):=BI T.t_1 HG λ_ _ _ _ _ _ v=>Ai (Aq (Ba (Au [true] T.t_0 (HS T) v (Aa `B Ab))) (Ah 2 HG.nd))
  (Ap (AZ (EO (by rfl) T.n_tuple EF (Aa (Hw v (by rfl) T.n_sorted GM (Aa (Qw (vars:=["x","y","z"]) rfl (EJ v) (Os v) (by rfl) (Aj (by kernel_rfl)) rfl (Bn `o) (λ_ _ _=>Fo (by rfl) (BY (Bg 4) (BY (Bg 5) Fp))) (λ_ _ _=>CF) (λ_ _ _=>Bn (Ma (EJ v) `y `cl (Bo Ab) #[rfl,rfl,rfl,rfl])) (λ_ _ _=>Bg 6) (λ_ _ _=>CF) (λ_ _ _=>BK (Aa `U (Aa `cm Ab)))) Ab)) Ab))))
def KR(T:Txt K mg af):gY P w K mg base af 2 2 ka (eI K ie 3):=BI T.t_2 ES λ_ _ _ _ _ _ v=>Ai (Aq (Ba (Qd true (vars:=["pair"]) rfl (Rj v) (by rfl) (Aj (by kernel_rfl)) rfl (Bn `B) (λ_ _ _=>Bg 7) (λ_ _ _=>CF) (λ_ _ _=>fw 7) (λ_ _ _=>FJ))) (Ah 3 ES.nd))
  (Ai (Aq (Ba (Au [true] T.t_0 (HS T) v (Aa `y Ab))) (Ah 4 ES.nd))
  (Ai (Aq (Ba (UR (by rfl) (by rfl) T.n_list Mr (by rfl) T.n_range `o)) (Ah 5 ES.nd))
  (Ap (AZ (EO (by rfl) T.n_tuple EF (Aa (Qj (vars:=["x","y"]) rfl (Os v) (by rfl) (Aj (by kernel_rfl)) rfl (Bn `cl) (λ_ _ _=>Bg 7) (λ_ _ _=>CF) (λ_ _ _=>Bn `cl) (λ_ _ _=>Bg 8) (λ_ _ _=>GJ rfl (Jw (Qn (by rfl) (by rfl) T.n_all Qv (Aa (Da (vars:=["z"]) rfl (by rfl) (Aj (by kernel_rfl)) rfl (Bn (Ma (EJ v) `U (fw 8) (Bo Ab) #[rfl,rfl,rfl,rfl])) (λ_ _ _=>Bg 10) (λ_ _ _=>CF) (λ_ _ _=>FN (λ_ _=>Ju `ed) JZ (BK (Aa (fw 7) (Aa (fw 10) Ab))) `S (by with_unfolding_all rfl))) Ab)))) (λ_ _ _=>BK (Aa (fw 7) (Aa (fw 8) Ab)))) Ab))))))
def KO(T:Txt K mg af):gY P w K mg base af 2 6 jw (eI K ib 2):=BI T.t_6 HF λ_ _ _ _ _ _ v=>Ai (Aq (Tv (by rfl) (by rfl) T.n_list Mr (Aa (DM (by rfl) ⋯) Ab)) (Ah 2 HF.nd))
  (Ap (AZ (JO (DM (by rfl) ⋯) (Aa (Hw v (by rfl) T.n_sorted GM (Aa (Da (vars:=["_law_k"]) rfl (by rfl) (Aj (by kernel_rfl)) rfl (CZ (by rfl) T.n_range `B) (λ_ _ _=>Bg 4) (λ_ _ _=>CF) (λ_ _ _=>Ba (Ka (j:=2) `y (Au [true,true] T.t_5 `bf v (Aa `o (Aa (AR (by rfl) T.n_len (Aa `y Ab)) Ab)))))) Ab)) Ab))))
def KN(T:Txt K mg af):gY P w K mg base af 2 7 jv (eI K ia 3):=BI T.t_7 HE λ_ _ _ _ _ _ v=>Ai (Aq (EH (Au [true,true] T.t_5 `bf v (Aa `o (Aa (AJ `y Ag) Ab))) (He (by rfl) T.n_int GS (Aa (FN (λ_ _=>DO `ed) DQ `B (DM (by rfl) ⋯) `aw) Ab))) (Ah 3 HE.nd))
  (Ap (AZ (JO (DM (by rfl) ⋯) (Aa (Da (vars:=["_law_k"]) rfl (by rfl) (Aj (by kernel_rfl)) rfl (CZ (by rfl) T.n_range `S) (λ_ _ _=>Bg 5) (λ_ _ _=>CF) (λ_ _ _=>AC `B (Au [true,true] T.t_5 `bf v (Aa `o (Aa (AR (by rfl) T.n_len (Aa `B Ab)) Ab))))) Ab))))
def KM(T:Txt K mg af):gY P w K mg base af 2 8 ju (eI K gz 3):=BI T.t_8 DX λ_ _ _ _ _ _ v=>Ai (Aq (AC `y (Au [true,true] T.t_5 `bf v (Aa `o (Aa (AR (by rfl) T.n_len (Aa `y Ab)) Ab)))) (Ah 3 DX.nd))
  (Ai (Aq (Au [true,true] T.t_5 `bf v (Aa `o `au)) (Ah 4 DX.nd))
  (Ai (Aq (AC `B (Au [true,true] T.t_5 `bf v (Aa `o (Aa (AR (by rfl) T.n_len (Aa `B Ab)) Ab)))) (Ah 5 DX.nd))
  (Ai (Aq (Au [true,true] T.t_5 `bf v (Aa `o (Aa (AR (by rfl) T.n_len (Aa `S Ab)) Ab))) (Ah 6 DX.nd))
  (Ap (AZ (AC (Bo (Aa (FO `S (AJ `cm Ag)) (Aa (GT `S `cm) (Aa (AJ `cl `S) (Aa (AJ `S `cl) (Aa (AJ `S `S) Ab)))))) `U))))))
def HQ(T:Txt K mg af):gY P w K mg base af 2 11 xC (eI K uR 4):=BI T.t_11 AI λ_ _ _ _ _ _ v=>Ai (Aq (BK (Aa (DM (by rfl) ⋯) `au)) (Fo (by rfl) (BY (Ah 4 AI.nd) (BY (Ah 5 AI.nd) Fp))))
  (Ai (Cg (by rfl) (CZ (by rfl) T.n_range (AJ Ag (Au [true,true] T.t_5 `bf v (Aa `o `au)))) (Ah 6 AI.nd) (Ai (Aq (Ba (Au [true,true,true,true] T.t_10 (HR T) v (Aa `B (Aa `U (Aa `cl (Aa `S Ab)))))) (Ah 7 AI.nd))
  (Ai (BJ (AQ (λ_ _=>GE) GF `cm Ag `aw) (Ap (Ll (Ko (i:=7) ⋯ (λj z=>GP AI.nd z rfl) rfl (by rfl) (by rfl) (vars:=["_law_move"]) rfl (by rfl) (Aj (by kernel_rfl)) rfl (Bn (fw 7)) (λ_ _ _=>Bg 12) (λ_ _ _=>GJ rfl (AQ (λ_ _=>GE) GF (AC (fw 12) Ag) `cl `aw)) (λ_ _ _=>fw 12)))) BX)
  (Ap (BJ (AQ (λ_ _=>DO `ed) DQ (fw 7) (Bo Ab) `aw) (Ai (Aq (AC (fw 7) (Au [true,true] T.t_5 `bf v (Aa `o (Aa (AR (by rfl) T.n_len (Aa (fw 7) Ab)) Ab)))) (Fo (by rfl) (BY (Ah 8 AI.nd) (BY (Ah 9 AI.nd) Fp))))
  (Ai (BJ (AQ (λ_ _=>GE) GF (fw 9) `cl `aw) (Ap (Aq (AJ (AJ (FO `U `cl) (fw 8)) (GT `U (fw 9))) (Ah 4 AI.nd))) BX)
  (Ap (Aq (fw 9) (Ah 5 AI.nd))))) BX)))))
  (Ai (BJ (Gz (GW (AQ (λ_ _=>DO `ed) DQ `U (DM (by rfl) ⋯) `aw) (Hh (AQ (λ_ _=>EC (EI v)) EB (Au [true,true] T.t_5 `bf v (Aa `o `au)) Ag `aw)))) (Ai (Aq (Au [true,true] T.t_5 `bf v (Aa `o (Aa (AR (by rfl) T.n_len (Aa `U Ab)) Ab))) (Ah 10 AI.nd))
  (Ap (Aq (AJ (AJ (FO `U (fw 10)) (AC `y (Au [true,true] T.t_5 `bf v (Aa `o (Aa (AR (by rfl) T.n_len (Aa `y Ab)) Ab))))) (GT `U (AJ (fw 10) Ag))) (Ah 4 AI.nd)))) BX)
  (Ap (AZ `U))))
def Fy(T:Txt K mg af):gY P w K mg base af 2 14 wZ (eI K pP 2):=BI T.t_14 Ct λ_ _ _ _ _ _ v=>Ai (Aq (BK `au) (Ah 2 Ct.nd))
  (Ai (Cg (by rfl) (CZ (by rfl) T.n_range (Au [true,true] T.t_5 `bf v (Aa `o `au))) (Ah 3 Ct.nd) (Ap (BJ (AQ (λ_ _=>DO `ed) DQ (AC `B (AC `y (FM Ag))) (Bo Ab) `aw) (Ap (Aq (AJ `y (BK (Aa (AC (AC `B (AC `y (FM Ag))) (Au [true,true] T.t_5 `bf v (Aa `o (Aa (AR (by rfl) T.n_len (Aa (AC `B (AC `y (FM Ag))) Ab)) Ab)))) Ab))) (Ah 2 Ct.nd))) BX)))
  (Ai (Aq (Ba (Au [true,true] T.t_13 (HP T) v (Aa `B (Aa (AC `y (FM Ag)) Ab)))) (Ah 4 Ct.nd))
  (Ai (BJ (AQ (λ_ _=>EC (EI v)) EB `U (BK Ab) `aw) (Ap (AZ (BK Ab))) BX)
  (Ap (AZ (AJ `y (GT `U Ag)))))))
def HL(T:Txt K mg af):gY P w K mg base af 2 17 wW (eI K uN 5):=BI T.t_17 AU λ_ _ _ _ _ _ v=>Ai (Aq (AJ Ag (Au [true,true] T.t_5 `bf v (Aa `o (Aa `S Ab)))) (Ah 5 AU.nd))
  (Ai (Aq (Bo Ab) (Ah 6 AU.nd))
  (Ai (Cg (by rfl) (CZ (by rfl) T.n_range (Au [true,true] T.t_5 `bf v (Aa `o `au))) (Ah 7 AU.nd) (Ai (Aq (Au [true,true] T.t_5 `bf v (Aa `o `ad)) (Ah 8 AU.nd))
  (Ap (Cg (by rfl) (Bn `y) (Ah 9 AU.nd) (Ai (Aq (Au [true,true] T.t_5 `bf v (Aa `o `ad)) (Ah 10 AU.nd))
  (Ai (Dv (Fq (j:=6) `cm (BK (Aa (fw 8) (Aa (fw 9) (Aa (fw 10) Ab))))))
  (Ap (Aq (fw 10) (Ah 8 AU.nd)))))))))
  (Ai (Cg (by rfl) (CZ (by rfl) T.n_range (EH (Au [true,true] T.t_5 `bf v (Aa `o (Aa (AJ `U Ag) Ab))) (He (by rfl) T.n_int GS (Aa (FN (λ_ _=>DO `ed) DQ `B (DM (by rfl) ⋯) `aw) Ab)))) (Ah 11 AU.nd) (Ai (Rc (i:=8) (j:=10) (by rfl) AU.nd (by rfl) (by rfl) ⋯ ⋯ ⋯ (by rfl) (by rfl) (Aa (Au [true,true] T.t_5 `bf v (Aa `o `ad)) (Aa (Au [true,true] T.t_5 `bf v (Aa `o `ad)) Ab)))
  (Ap (Dv (Fq (j:=6) `cm (BK (Aa (fw 8) (Aa (AC `B (Au [true,true] T.t_5 `bf v (Aa `o (Aa (AR (by rfl) T.n_len (Aa `B Ab)) Ab)))) (Aa (fw 10) Ab)))))))))
  (Ai (JS (AQ (λ_ _=>GE) GF (SR (by rfl) T.n_len (Aa (JP v (by rfl) T.n_set Jq (Aa `cm Ab)) Ab)) `U `aw) (Ap (Dv (Ka (j:=6) `cm (Au [true,true] T.t_5 `bf v (Aa `o (Aa (AR (by rfl) T.n_len (Aa `cm Ab)) Ab)))))))
  (Ap (AZ (BK (Aa `cl (Aa (EO (by rfl) T.n_tuple EF (Aa (Hw v (by rfl) T.n_sorted GM (Aa (JP v (by rfl) T.n_set Jq (Aa `cm Ab)) Ab)) Ab)) Ab)))))))))
def Eh(T:Txt K mg af):gY P w K mg base af 2 19 wU (eI K nJ 2):=BI T.t_19 DZ λ_ _ _ _ _ _ v=>Ai (Aq (Bo Ab) (Ah 2 DZ.nd))
  (Ai (Cg (by rfl) (CZ (by rfl) T.n_range (AC `o Ag)) (Ah 3 DZ.nd) (Ap (Dv (WJ (j:=2) `y (Da (vars:=["_law_y"]) rfl (by rfl) (Aj (by kernel_rfl)) rfl (Bn (Au [true,true,true] T.t_18 (Fx T) v (Aa `o (Aa `B (Aa `S Ab))))) (λ_ _ _=>Bg 5) (λ_ _ _=>CF) (λ_ _ _=>BK (Aa `S `ad)))))))
  (Ap (AZ (EO (by rfl) T.n_tuple EF (Aa `y Ab)))))
def KQ(T:Txt K mg af):gY P w K mg base af 3 3 jz (eI K ic 3):=BI T.t_3 DA λ_ _ _ _ _ _ v=>Ai (Aq (EO (by rfl) T.n_tuple EF (Aa (Da (vars:=["room"]) rfl (by rfl) (Aj (by kernel_rfl)) rfl (CZ (by rfl) T.n_range `o) (λ_ _ _=>Bg 7) (λ_ _ _=>CF) (λ_ _ _=>BK (Aa (fw 7) (Aa (fw 7) Ab)))) Ab)) (Ah 3 DA.nd))
  (Ai (Cg (by rfl) (Bn `y) (Fo (by rfl) (BY (Ah 4 DA.nd) (BY (Ah 5 DA.nd) Fp))) (Ap (BJ (AQ (λ_ _=>EC (EI v)) EB `U (DM (by rfl) ⋯) `aw) (Ap (Aq (Ba (Au [true,true] T.t_1 (KS T) v (Aa `S (Aa (AC `B `cl) Ab)))) (Ah 3 DA.nd))) (Ap (Aq (Ba (Au [true,true,true] T.t_2 (KR T) v (Aa `o (Aa `S (Aa (AC `B `cl) Ab))))) (Ah 3 DA.nd))))))
  (Ap (AZ `S)))
def KL(T:Txt K mg af):gY P w K mg base af 3 9 jt (eI K gy 4):=BI T.t_9 DW λ_ _ _ _ _ _ v=>Ai (Aq (Bo Ab) (Ah 4 DW.nd))
  (Ai (Cg (by rfl) (CZ (by rfl) T.n_range (EH (Au [true,true] T.t_5 `bf v (Aa `o (Aa (AJ `y Ag) Ab))) (He (by rfl) T.n_int GS (Aa (FN (λ_ _=>DO `ed) DQ `B (DM (by rfl) ⋯) `aw) Ab)))) (Ah 5 DW.nd) (Ai (Aq (AJ (AC `B (Au [true,true] T.t_5 `bf v (Aa `o (Aa (AR (by rfl) T.n_len (Aa `B Ab)) Ab)))) (Au [true,true,true] T.t_7 (KN T) v (Aa `o (Aa `B (Aa (ED `S Ag) Ab))))) (Ah 6 DW.nd))
  (Ai (BJ (Gz (GW (AQ (λ_ _=>DO `ed) DQ `U (Bo Ab) `aw) (Hh (AQ (λ_ _=>EC (EI v)) EB (Au [true,true] T.t_5 `bf v (Aa `o `au)) Ag `aw)))) (Ap (Aq (FO (Au [true,true,true] T.t_8 (KM T) v (Aa `o (Aa `B (Aa `U Ab)))) `S) (Ah 6 DW.nd))) BX)
  (Ap (BJ (AQ (λ_ _=>Hr `ed) HB `cm `U (by with_unfolding_all rfl)) (Ap (Dv (Fq (j:=4) `U `cm))) BX)))))
  (Ap (AZ (EO (by rfl) T.n_tuple EF (Aa `U Ab)))))
def HK(T:Txt K mg af):gY P w K mg base af 3 20 wR (eI K uM 5):=BI T.t_20 Dh λ_ _ _ _ _ _ v=>Ai (BJ (AQ (λ_ _=>DO `ed) DQ (Da (vars:=["_law_pair"]) rfl (by rfl) (Aj (by kernel_rfl)) rfl (Bn (Au [true,true] T.t_19 (Eh T) v (Aa `o (Aa (FO `B `y) Ab)))) (λ_ _ _=>Bg 9) (λ_ _ _=>GJ rfl (AQ (λ_ _=>Hr `ed) HB (fw 9) `U (by with_unfolding_all rfl))) (λ_ _ _=>fw 9)) (Bo Ab) `aw) (Ap (AZ FJ)) BX)
  (Ai (Ll (Ko (i:=5) ⋯ (λj z=>GP Dh.nd z rfl) rfl (by rfl) (by rfl) (vars:=["_law_y"]) rfl (by rfl) (Aj (by kernel_rfl)) rfl (CZ (by rfl) T.n_range (AC `o Ag)) (λ_ _ _=>Bg 9) (λ_ _ _=>CF) (λ_ _ _=>Ba (Au [true,true,true] T.t_18 (Fx T) v (Aa `o (Aa (GT `B `y) (Aa (fw 9) Ab)))))))
  (Ai (Cg (by rfl) (Bn `U) (Fo (by rfl) (BY (Ah 6 Dh.nd) (BY (Ah 7 Dh.nd) Fp))) (Ap (BJ (AQ (λ_ _=>DO `ed) DQ (Da (vars:=["_law_z"]) rfl (by rfl) (Aj (by kernel_rfl)) rfl (Bn (AC `cl (fw 7))) (λ_ _ _=>Bg 9) (λ_ _ _=>GJ rfl (AQ (λ_ _=>Hr `ed) HB (BK (Aa `cm (Aa (fw 9) Ab))) `S (by with_unfolding_all rfl))) (λ_ _ _=>fw 9)) (Bo Ab) `aw) (Ap (AZ FJ)) BX)))
  (Ap (AZ FJ))))
def HN(T:Txt K mg af):gY P w K mg base af 4 15 wY (eI K uP 1):=BI T.t_15 Bt λ_ _ _ _ _ _ v=>Ai (Aq (Au [true,true] T.t_6 (KO T) v (Aa `o (Aa (AJ Ag (Au [true,true] T.t_5 `bf v (Aa `o `au))) Ab))) (Ah 1 Bt.nd))
  (Ai (Aq (Ba (Au [true,true,true,true] T.t_9 (KL T) v (Aa `o (Aa `B (Aa Ag `au))))) (Ah 2 Bt.nd))
  (Ai (Aq (Ba (Au [true,true,true,true] T.t_11 (HQ T) v (Aa `o (Aa `y (Aa `B `au))))) (Ah 3 Bt.nd))
  (Ai (Aq (Ba (Au [true,true] T.t_14 (Fy T) v (Aa `o (Aa (Ba (Au [true,true] T.t_12 (Fz T) v (Aa `y (Aa `S Ab)))) Ab)))) (Ah 4 Bt.nd))
  (Ai (BJ (AQ (λ_ _=>EC (EI v)) EB `U (BK Ab) `aw) (Ai (Aq (JO (DM (by rfl) ⋯) (Aa (Da (vars:=["_law_k"]) rfl (by rfl) (Aj (by kernel_rfl)) rfl (CZ (by rfl) T.n_range (AJ Ag (Au [true,true] T.t_5 `bf v (Aa `o `au)))) (λ_ _ _=>Bg 6) (λ_ _ _=>CF) (λ_ _ _=>AC `y (Au [true,true] T.t_5 `bf v (Aa `o (Aa (AR (by rfl) T.n_len (Aa `y Ab)) Ab))))) Ab)) (Ah 3 Bt.nd))
  (Ap (Aq (Ba (Au [true,true] T.t_14 (Fy T) v (Aa `o (Aa (Ba (Au [true,true] T.t_12 (Fz T) v (Aa `y (Aa `S Ab)))) Ab)))) (Ah 4 Bt.nd)))) BX)
  (Ap (AZ (BK (Aa `B (Aa `y (Aa `S (Aa `U Ab)))))))))))
def HJ(T:Txt K mg af):gY P w K mg base af 5 21 wQ (eI K nI 1):=BI T.t_21 AH λ_ _ _ _ _ _ v=>Ai (Aq (Au [true] T.t_15 (HN T) v (Aa (Au [true,true] T.t_4 (HI T) v (Aa `o `au)) Ab)) (Fo (by rfl) (BY (Ah 1 AH.nd) (BY (Ah 2 AH.nd) (BY (Ah 3 AH.nd) (BY (Ah 4 AH.nd) Fp))))))
  (Ai (Aq (Ba (Au [true,true,true] T.t_16 (HM T) v (Aa `y (Aa `S (Aa `U Ab))))) (Ah 5 AH.nd))
  (Ai (Aq (Au [true,true] T.t_4 (HI T) v (Aa `o `au)) (Ah 6 AH.nd))
  (Ai (Aq (Ba (Au [true,true,true,true,true] T.t_17 (HL T) v (Aa `cm (Aa `B (Aa `S (Aa Ag `au)))))) (Ah 7 AH.nd))
  (Ai (Aq (Ba (Au [true,true] T.t_19 (Eh T) v (Aa (fw 7) (Aa `S Ab)))) (Ah 8 AH.nd))
  (Ai (Aq (EO (by rfl) T.n_tuple EF (Aa (Da (vars:=["_law_one"]) rfl (by rfl) (Aj (by kernel_rfl)) rfl (Bn `y) (λ_ _ _=>Bg 13) (λ_ _ _=>CF) (λ_ _ _=>Ba (Au [true,true] T.t_19 (Eh T) v (Aa (fw 7) (Aa (fw 13) Ab))))) Ab)) (Ah 9 AH.nd))
  (Ai (Cg (by rfl) (Bn (AJ (Da (vars:=["_law_k"]) rfl (by rfl) (Aj (by kernel_rfl)) rfl (CZ (by rfl) T.n_range Ag) (λ_ _ _=>Bg 13) (λ_ _ _=>CF) (λ_ _ _=>Au [true,true] T.t_5 `bf v (Aa `cm (Aa (AR (by rfl) T.n_len (Aa `U Ab)) Ab)))) (Bo (Aa (AR (by rfl) T.n_len `ad) Ab)))) (Ah 10 AH.nd) (Ai (Aq (Ba (Au [true,true,true] T.t_3 (KQ T) v (Aa (AC (fw 7) Ag) (Aa (fw 9) (Aa (FO `cl (fw 10)) Ab))))) (Ah 11 AH.nd))
  (Ap (BJ (Gz (Pt (LK (Jw (Qa (by rfl) T.n_isinstance Xs (by rfl) T.n_tuple EF ⋯ (fw 11)))) (Qt (LK (Jw (Au [true,true,true,true,true] T.t_20 (HK T) v (Aa (fw 7) (Aa `S (Aa (AC `U (fw 10)) (Aa (fw 8) (Aa (fw 11) Ab))))))))))) (Ap (AZ FJ)) BX))))
  (Ap (AZ FJ))))))))
end
theorem all_mk{l:W.OpenLaw}{w:World}{K:W.Frag}{h:Heap}{mg:Str->Option Value}{fa:Addr}(X:K.In h)(G:h.Ns mainGlobals mg)(hfa:mg "law"=some (.ref fa))
  {f_0 f_1 f_2 f_3 f_4 f_5 f_6 f_7 f_8 f_9 f_10 f_11 f_12 f_13 f_14 f_15 f_16 f_17 f_18 f_19 f_20 f_21:Addr}
  (h_0:Lk K "ends_by_begin" jo f_0)
  (h_1:Lk K "over" jn f_1)
  (h_2:Lk K "every" jm f_2)
  (h_3:Lk K "worked_out" jl f_3)
  (h_4:Lk K "_law_box" jk f_4)
  (h_5:Lk K "_law_take" jj f_5)
  (h_6:Lk K "_law_colours" ji f_6)
  (h_7:Lk K "_law_word" jh f_7)
  (h_8:Lk K "_law_near" jg f_8)
  (h_9:Lk K "_law_board" jf f_9)
  (h_10:Lk K "_law_moves" wG f_10)
  (h_11:Lk K "_law_led" wF f_11)
  (h_12:Lk K "_law_ties" wD f_12)
  (h_13:Lk K "_law_way" wA f_13)
  (h_14:Lk K "_law_zigzag" vZ f_14)
  (h_15:Lk K "_law_scene" vY f_15)
  (h_16:Lk K "_law_steps" vX f_16)
  (h_17:Lk K "_law_chart" vW f_17)
  (h_18:Lk K "_law_ends" vV f_18)
  (h_19:Lk K "_law_table" vU f_19)
  (h_20:Lk K "_law_stays" vT f_20)
  (h_21:Lk K "law" vS f_21)
  (z_all:W.nsIn K mainGlobals "all"=some none)
  (z_int:W.nsIn K mainGlobals "int"=some none)
  (z_isinstance:W.nsIn K mainGlobals "isinstance"=some none)
  (z_len:W.nsIn K mainGlobals "len"=some none)
  (z_list:W.nsIn K mainGlobals "list"=some none)
  (z_min:W.nsIn K mainGlobals "min"=some none)
  (z_range:W.nsIn K mainGlobals "range"=some none)
  (z_set:W.nsIn K mainGlobals "set"=some none)
  (z_sorted:W.nsIn K mainGlobals "sorted"=some none)
  (z_tuple:W.nsIn K mainGlobals "tuple"=some none):
  ∃fd:FuncData,(∀(s:Shared)(v:Value),BindsTo s fd #[[v],[]] [("_law_script",v)])/\∀base:Heap,K.In base->base.Ns mainGlobals mg->fX l.prog w K mg base (jQ l.prog w) 5 fa fd ["_law_script"] (eI K nI 1):=by
 let e:=hfa.symm.trans (h_21.mm X G);cases e;let T:Txt K mg (λn=>[f_0,f_1,f_2,f_3,f_4,f_5,f_6,f_7,f_8,f_9,f_10,f_11,f_12,f_13,f_14,f_15,f_16,f_17,f_18,f_19,f_20,fa].getD n 0):=#[h_0.tx X G,h_1.tx X G,h_2.tx X G,h_3.tx X G,h_4.tx X G,h_5.tx X G,h_6.tx X G,h_7.tx X G,h_8.tx X G,h_9.tx X G,h_10.tx X G,h_11.tx X G,h_12.tx X G,h_13.tx X G,h_14.tx X G,h_15.tx X G,h_16.tx X G,h_17.tx X G,h_18.tx X G,h_19.tx X G,h_20.tx X G,h_21.tx X G,W.mg_none_of X G z_all,W.mg_none_of X G z_int,W.mg_none_of X G z_isinstance,W.mg_none_of X G z_len,W.mg_none_of X G z_list,W.mg_none_of X G z_min,W.mg_none_of X G z_range,W.mg_none_of X G z_set,W.mg_none_of X G z_sorted,W.mg_none_of X G z_tuple]
 show#[_,λs v=>h_21.bt s v,λbase _ _=>HJ T]
theorem walk{l:W.OpenLaw}{q:Program}{v:List Str}{Y:(Str->Option Value)->Heap->Prop}{G:World->Heap->Prop}{d:DefRec}{K:Params->W.Frag}(hn:l.most=some 63)(z:d.params.defaults=[])
  (M:∀(w:World)(h:Heap),G w h->(K w.params).In h)
  (F:∀(w:World)(mg:Str->Option Value)(B:Addr)(h:Heap),(K w.params).In h->h.Ns mainGlobals mg->mg d.name=some (.ref B)->
   ∃fd:FuncData,(∀(s:Shared)(u:Value),BindsTo s fd #[[u],[]] [("_law_script",u)])/\∀base:Heap,(K w.params).In base->base.Ns mainGlobals mg->fX l.prog w (K w.params) mg base (jQ l.prog w) 5 B fd ["_law_script"] (eI (K w.params) nI 1)):
  W.WalkO q v Y G l.row.toRowW d [] (λf vs=>PySem.call f vs):=
 L2.walk_of (n:=63) (k:=5) (x:="_law_script") (CX:=λw=>jQ l.prog w) (sp:=λw=>eI (K w.params) nI 1) hn ⋯ z #[rfl,⋯,⋯,rfl] M F (λ_ H a J L _ O=>QF Ee H a J L O) λ_ _ _ _ _ h=>(show False from h).elim
end Law
end
end
open PySem PySem.W PyProof.Rows
namespace PySem.W.Fast
theorem tw9577491247831084746:True:=⟨⟩
theorem tw2062656071512825871:True:=⟨⟩
theorem tw18193769262467154837:True:=⟨⟩
theorem tw10479121153021496760:True:=⟨⟩
theorem tw16324567416222499269:True:=⟨⟩
theorem tw9768423215465758131:True:=⟨⟩
theorem tw14504319434526333401:True:=⟨⟩
theorem tw13120592322172952359:True:=⟨⟩
theorem tw6048414892375639905:True:=⟨⟩
theorem tw2324868994173659767:True:=⟨⟩
theorem tw14136762111866083907:True:=⟨⟩
theorem tw9342453583942969991:True:=⟨⟩
theorem tw14097688536581700292:True:=⟨⟩
theorem tw7331765053291271095:True:=⟨⟩
theorem tw14257066611520608041:True:=⟨⟩
theorem tw9933836260197621126:True:=⟨⟩
theorem tw12928056324502376790:True:=⟨⟩
theorem tw7250381853897358546:True:=⟨⟩
theorem tw6582092943491515407:True:=⟨⟩
theorem tw9927237268093644094:True:=⟨⟩
theorem tw3389901003120064839:True:=⟨⟩
theorem tw10736837380234788813:True:=⟨⟩
theorem tw3611395403336384386:True:=⟨⟩
theorem tw14511303751556806763:True:=⟨⟩
theorem tw11235031027393979777:True:=⟨⟩
theorem tw12021363652980088814:True:=⟨⟩
theorem tw4884413579468070588:True:=⟨⟩
theorem tw12739076017654106633:True:=⟨⟩
theorem tw13872132427968444991:True:=⟨⟩
theorem tw3019658978091373850:True:=⟨⟩
theorem tw12610719055328618932:True:=⟨⟩
theorem tw11655610570566931709:True:=⟨⟩
theorem tw314604084694934406:True:=⟨⟩
theorem tw10178657743924300633:True:=⟨⟩
theorem tw2421729479259328662:True:=⟨⟩
theorem tw4366549221708843012:True:=⟨⟩
theorem tw10579009551765490139:True:=⟨⟩
theorem tw2434052682326289884:True:=⟨⟩
theorem tw15668592507521052806:True:=⟨⟩
theorem tw4903080588578040826:True:=⟨⟩
theorem tw3757502949382762119:True:=⟨⟩
theorem tw17225505537276893928:True:=⟨⟩
theorem tw4954877390080332388:True:=⟨⟩
theorem tw12477131197967126985:True:=⟨⟩
theorem tw3880789971127625899:True:=⟨⟩
theorem tw2697658454813363073:True:=⟨⟩
theorem tw13849965331205812101:True:=⟨⟩
theorem tw821830976823199439:True:=⟨⟩
theorem tw11438205910652623592:True:=⟨⟩
theorem tw4219929536613990024:True:=⟨⟩
theorem tw13964312967710686233:True:=⟨⟩
theorem tw3722894612197942807:True:=⟨⟩
theorem tw221629202829923250:True:=⟨⟩
theorem tw17475570461924754142:True:=⟨⟩
theorem tw14564547828458282546:True:=⟨⟩
theorem tw11522670929520522279:True:=⟨⟩
theorem tw8416623201391127994:True:=⟨⟩
theorem tw10463491716708764058:True:=⟨⟩
theorem tw4704216422852104990:True:=⟨⟩
theorem tw14709669151684340532:True:=⟨⟩
theorem tw15170125127104237849:True:=⟨⟩
theorem tw15448165314267084958:True:=⟨⟩
theorem tw3431252656065771522:True:=⟨⟩
theorem tw17307939284200219113:True:=⟨⟩
theorem tw17772802240319734541:True:=⟨⟩
theorem tw17492200909501839782:True:=⟨⟩
theorem tw7483524570517870349:True:=⟨⟩
theorem tw9408256223730516399:True:=⟨⟩
theorem tw11402136881449780618:True:=⟨⟩
theorem tw7525278935079511529:True:=⟨⟩
theorem tw3243044086380523853:True:=⟨⟩
theorem tw4027986191694239235:True:=⟨⟩
theorem tw11345473306180824476:True:=⟨⟩
theorem tw5618235283667643995:True:=⟨⟩
theorem tw17532694146290266954:True:=⟨⟩
theorem tw8728934710097162865:True:=⟨⟩
theorem tw11825781532096399260:True:=⟨⟩
theorem tw6778058788181576749:True:=⟨⟩
theorem tw6306397080992526175:True:=⟨⟩
theorem tw5404789574241194472:True:=⟨⟩
theorem tw4178715712877097466:True:=⟨⟩
theorem tw3800421088216682431:True:=⟨⟩
theorem tw2850090329760691392:True:=⟨⟩
theorem tw9923136783258422474:True:=⟨⟩
theorem tw12288805250717252602:True:=⟨⟩
theorem tw18082023832954491135:True:=⟨⟩
theorem tw8416220538290479686:True:=⟨⟩
theorem tw8944519642302338265:True:=⟨⟩
theorem tw10096443754229649660:True:=⟨⟩
theorem tw475863831784838736:True:=⟨⟩
end PySem.W.Fast
set_option maxRecDepth 100000 in
set_option maxHeartbeats 0 in
theorem PySem.Challenge.cw_walktold_k35_whole_behind_each_step_holds : PySem.Challenge.rw_walktold_k35_whole_behind_each_step.Holds := by
 w_on; o_law; k_head; (case hw=>w_witness2)
 k_fill
 refine Law.walk (l:=PySem.Challenge.rw_walktold_k35_whole_behind_each_step) rfl rfl (fun w h Y=>PySem.W.kIn_of Y) ?F
 case F=>
  intro w mg fa h KX G hmg
  refine' Law.all_mk KX G hmg ..
  all_goals try first | k_is | (refine' ⟨?_,?_,?_,?_⟩ <;> try k_is)
